import PyProof.Rows.All
import Wide.All
import OpenK.AllK
import Wide.FinOn
import Lean
import PyProof.EqAt
import PyProof.EqKinds
import PyProof.TupleCall
import PyProof.Rows.SortPure
import PyProof.Rows.SortWalk
import PyProof.AttrMissHeap
import KE.KDictOf
import KE.KIntText
import PyProof.StrBlockH
import PyProof.CallStr
import PyProof.StrLawsIn
import PyProof.StrLawsOcc
import PyProof.StationsW
import PyProof.ExcClass2
import PyProof.ExcBaseAll.ValueError
import PyProof.RulesTry
import PyProof.Rows.CatchBare
import PyProof.Rows.CatchOwn
import OpenK.KOwn
import PyProof.NsDelKeeps
import PyProof.Rows.RuleDivmod
import PyProof.Rows.SumAny
import PySem.Challenge.RW_carpetkin_k31_folds_written
set_option Elab.async false
set_option linter.all false
set_option maxRecDepth 100000
noncomputable section
open PySem renaming Value -> AA
open PySem renaming Addr -> AB
open PySem renaming Shared -> AC
open PySem.W renaming Frag -> AD
open PySem renaming Expr -> AE
open Option renaming bind_some -> AF
open PySem renaming World -> AG
open PySem renaming Around -> AH
open PySem renaming Program -> AI
open PySem renaming sizeLine -> AJ
open PySem renaming wpAny -> AK
open PySem renaming starEach -> AL
open List renaming map_cons -> AM
open List renaming replicate -> AN
open PySem renaming wpAny_bind -> AO
open PySem.Str renaming ofString -> AQ
open Nat renaming le_refl -> AR
open List renaming length_cons -> AS
open List renaming nil_append -> AT
open List renaming length_append -> AU
open List renaming replicate_zero -> AV
open PySem renaming wpAny_pure -> AW
open List renaming map_nil -> AX
open List renaming replicate_succ -> AY
open PySem.Heap renaming lt_size -> AZ
open List renaming cons_append -> Aa
open List renaming set_cons_zero -> Ab
open List renaming set_cons_succ -> Ac
open List renaming range -> Ad
open List renaming size_toArray -> Ae
open List renaming length_nil -> Af
open List renaming append_nil -> Ag
open List renaming mem_cons_of_mem -> Ah
open List renaming length_map -> Ai
open List renaming mem_cons_self -> Aj
open PySem.Heap renaming get?_push_of_some -> Ak
open Nat renaming lt_of_lt_of_le -> Al
open Nat renaming ne_of_lt -> Am
open Nat renaming reduceLeDiff -> An
open List renaming getElem?_eq_some_iff -> Ao
open Option renaming map_some -> Ap
open List renaming mem_cons -> Aq
open Bool renaming false_ne_true -> Ar
open List renaming mem_append_right -> As
open List renaming map_map -> At
open PySem.Heap renaming get?_push_size -> Au
open List renaming getElem?_map -> Av
open List renaming getElem?_append_left -> Aw
open List renaming length_range -> Ax
open Nat renaming le_of_lt -> Ay
open List renaming map_append -> Az
open List renaming mem_of_getElem? -> BA
open List renaming mem_append_left -> BB
open List renaming mem_append -> BC
open List renaming getElem?_set_self -> BD
open List renaming getElem?_eq_getElem -> BE
namespace L2
open PySem PySem.Spec PyProof.Rows
abbrev k6:=Sum Int Str
def a7T:k6->AA->Bool
 | .inl k,v=>Value.isInt k v
 | .inr x,v=>Value.isStrOf x v
def b1D(w:AG):k6->Int
 | .inl k=>hashInt k
 | .inr x=>hashStr w x
theorem n6:∀{k:k6} {v:AA},a7T k v=true->(∃i t,k=Sum.inl i/\v=Value.int i t)\/(∃x t,k=Sum.inr x/\v=Value.str x t)
 | .inl i,v,h=>by
   obtain⟨t,e⟩:=Value.isInt_shape (k:=i) (v:=v) h
   exact .inl ⟨i,t,rfl,e⟩
 | .inr x,v,h=>by
   obtain⟨t,e⟩:=Value.isStrOf_shape (x:=x) (v:=v) h
   exact .inr ⟨x,t,rfl,e⟩
theorem b0e(a b:Int):decide ((Sum.inl a:k6)=Sum.inl b)=(a==b):=by
 by_cases e:a=b
 ·subst e;simp
 ·have h:¬(Sum.inl a:k6)=Sum.inl b:=fun q=>e (Sum.inl.inj q)
  rw [decide_eq_false h]
  exact(beq_eq_false_iff_ne.mpr e).symm
theorem b0h(a b:Str):decide ((Sum.inr a:k6)=Sum.inr b)=decide (a=b):=by
 by_cases e:a=b
 ·subst e;simp
 ·have h:¬(Sum.inr a:k6)=Sum.inr b:=fun q=>e (Sum.inr.inj q)
  rw [decide_eq_false h,decide_eq_false e]
theorem b0f(a:Int)(b:Str):decide ((Sum.inl a:k6)=Sum.inr b)=false:=decide_eq_false (fun q=>nomatch q)
theorem b0g(a:Str)(b:Int):decide ((Sum.inr a:k6)=Sum.inl b)=false:=decide_eq_false (fun q=>nomatch q)
def a2i(prog:AI)(w:AG):PySem.KeyKind prog w k6 where
 is:=a7T
 hash:=b1D w
 inj:=fun v a b ha hb=>by
  rcases n6 ha with⟨i,t,rfl,rfl⟩|⟨x,t,rfl,rfl⟩
  ·rcases n6 hb with⟨j,u,rfl,e⟩|⟨y,u,rfl,e⟩
   ·injection e with e1 _;rw [e1]
   ·exact nomatch e
  ·rcases n6 hb with⟨j,u,rfl,e⟩|⟨y,u,rfl,e⟩
   ·exact nomatch e
   ·injection e with e1 _;rw [e1]
 byValue:=fun k v h=>by
   rcases n6 h with⟨i,t,rfl,rfl⟩|⟨x,t,rfl,rfl⟩<;>rfl
 pyHash:=fun hv h=>by
  rcases n6 hv with⟨i,t,rfl,rfl⟩|⟨x,t,rfl,rfl⟩
  ·exact wpAny_pyHash_int h
  ·exact wpAny_pyHash_str h
 eqBool:=fun hu hv h=>by
  rcases n6 hu with⟨i,t,rfl,rfl⟩|⟨x,t,rfl,rfl⟩
  ·rcases n6 hv with⟨j,u,rfl,rfl⟩|⟨y,u,rfl,rfl⟩
   ·rw [b0e] at h;exact wpAny_eqBool_int h
   ·rw [b0f] at h;exact SeqAt.EqAt.int_str i t y u _ _ _ _ h
  ·rcases n6 hv with⟨j,u,rfl,rfl⟩|⟨y,u,rfl,rfl⟩
   ·rw [b0g] at h;exact SeqAt.EqAt.str_int x t j u _ _ _ _ h
   ·rw [b0h] at h;exact wpAny_eqBool_str h
 «strs»:=fun k x t v h=>by
  rcases n6 h with⟨i,u,rfl,e⟩|⟨y,u,rfl,e⟩
  ·exact nomatch e
  ·injection e with e1 _
   subst e1
   cases v<;>rfl
inductive V where
 |non|bl (b:Bool)|int (i:Int)|str (x:Str)|byt (b:Array UInt8)|flt (b:UInt64)|ref (a:AB)|ty (n:String)
 deriving DecidableEq
def l5:V->AA->Prop
 | .non,u=>u=Value.none
 | .bl b,u=>u=Value.bool b
 | .int i,u=>∃t,u=Value.int i t
 | .str x,u=>∃t,u=Value.str x t
 | .byt b,u=>∃t,u=Value.bytes b t
 | .flt b,u=>∃t,u=Value.float b t
 | .ref a,u=>u=Value.ref a
 | .ty n,u=>u=Value.type n
abbrev g7:List V->List AA->Prop:=Paired l5
theorem g7.length{xs:List V}{us:List AA}(r:g7 xs us):xs.length=us.length:=Paired.length r
theorem g7.get:∀{xs:List V} {us:List AA} {i:Nat} {x:V},g7 xs us->xs[i]?=some x->∃u,us[i]?=some u/\l5 x u
 |_,_,_,_,.nil,e=>by simp at e
 |_,_,0,_,.cons r _,e=>by simp at e;subst e;exact⟨_,rfl,r⟩
 |_,_,i+1,x,.cons _ t,e=>by
  obtain⟨u,h1,h2⟩:=g7.get (i:=i) (x:=x) t (by simpa using e)
  exact⟨u,by simpa using h1,h2⟩
theorem g7.set{x:V}{u:AA}(r:l5 x u):∀{xs:List V} {us:List AA} (i:Nat),g7 xs us->g7 (xs.set i x) (us.set i u)
 |_,_,_,.nil=> .nil
 |_,_,0,.cons _ t=> .cons r t
 |_,_,i+1,.cons q t=> .cons q (g7.set r i t)
theorem g7.append:∀{xs ys:List V} {us ws:List AA},g7 xs us->g7 ys ws->g7 (xs++ys) (us++ws)
 |_,_,_,_,.nil,s=>s
 |_,_,_,_,.cons r t,s=> .cons r (g7.append t s)
theorem g7.take:∀{xs:List V} {us:List AA} (n:Nat),g7 xs us->g7 (xs.take n) (us.take n)
 |_,_,0,_=> .nil
 |_,_,_+1,.nil=> .nil
 |_,_,n+1,.cons r t=> .cons r (g7.take n t)
theorem g7.drop:∀{xs:List V} {us:List AA} (n:Nat),g7 xs us->g7 (xs.drop n) (us.drop n)
 |_,_,0,r=>r
 |_,_,_+1,.nil=> .nil
 |_,_,n+1,.cons _ t=>g7.drop n t
theorem g7.none_of:∀{xs:List V} {us:List AA} {i:Nat},g7 xs us->xs[i]?=none->us[i]?=none:=fun {xs us i} r e=>by
 have h1:=r.length
 have h2:xs.length<=i:=List.getElem?_eq_none_iff.mp e
 exact List.getElem?_eq_none_iff.mpr (by lia)
def a3c:Option V->Option AA->Prop
 |some v,some u=>l5 v u
 |none,none=>True
 |_,_=>False
def KV{κ:Type}:List (κ×V)->List (κ×AA)->Prop:=Paired fun(p:κ×V) (q:κ×AA)=>p.1=q.1/\l5 p.2 q.2
def kV:k6->V
 | .inl i=> .int i
 | .inr x=> .str x
inductive HO where
 |lst (xs:List V)
 |tup (xs:List V)
 |dK (kvs:List (k6×V))|dT (kvs:List (List k6×V))
 |set (S:Int->Bool) (n:Nat)
 |ins (C dx:AB) (fs:List (Str×V))
 |own (x:AB)
 |xd (fs:List (Str×V))
 |met (f x:AB)
 |rng (lo hi:Int)
 |frz (o:Obj) (u:HO)
 |tbl (ps:Array AA)
 |ext (φ:Heap->Prop)
abbrev Hp:=AB->Option HO
def upd(H:Hp)(a:AB)(o:HO):Hp:=fun b=>if b=a then some o else H b
theorem m7{H:Hp}{a:AB}{o:HO}:upd H a o a=some o:=by unfold upd;rw [if_pos rfl]
theorem f8{H:Hp}{a b:AB}{o:HO}(h:b≠a):upd H a o b=H b:=by unfold upd;rw [if_neg h]
theorem a42{H:Hp}{a b:AB}{o u:HO}(h:H a=some o)(h':H b=some u)(d:o≠u):a≠b:=by
 intro e;subst e;rw [h] at h';exact d (Option.some.inj h')
theorem j4{H:Hp}{a b:AB}{o:HO}(h:H a=some o)(h':H b=none):a≠b:=by
 intro e;subst e;rw [h] at h';cases h'
section
variable (P:AI)(w:AG)
def P9(H:Hp)(h:Heap)(a:AB):HO->Prop
 | .lst xs=>xs.length<=AJ/\∃(its:List AA) (n:Nat),g7 xs its/\h.get? a=some {cls:= .type "list",data:= .seq its.toArray n}
 | .tup xs=>xs.length<=AJ/\∃its:List AA,g7 xs its/\IsTup h a its.toArray
 | .dK kvs=>kvs.length<=AJ/\(a==sysModules)=false/\∃vs,KV kvs vs/\h.DictOf (a2i P w) a vs
 | .dT kvs=>kvs.length<=AJ/\(a==sysModules)=false/\∃xs:List (List k6×AB×AA),
  Paired (fun(p:List k6×V) (q:List k6×AB×AA)=>p.1=q.1/\H q.2.1=some (.tup (p.1.map kV))/\l5 p.2 q.2.2) kvs xs/\
  ∃o es ep,h.get? a=some o/\o.ExactDict/\o.data= .dict es ep/\es.toList=xs.map (entryOfKey (tupleKind (a2i P w)))/\(xs.map (·.1)).Nodup
 | .set S n=>h.SetOf (intKind P w) a S n
 | .ins C dx fs=>H dx=some (.own a)/\fs.length<=1000/\dx≠a/\h.get? a=some (PySem.W.instObj C dx)/\
  ∃mA,h.Ns1 dx mA/\(∀f,a3c (fs.lookup f) (mA f))/\PySem.Within mA (fs.map (·.1))
 | .own _=>∃o,h.get? a=some o
 | .xd fs=>∃mA,h.Ns1 a mA/\∀f,a3c (fs.lookup f) (mA f)
 | .rng lo hi=>∃t u v,h.get? a=some {cls:= .type "range",data:= .fields #[.int lo t,.int hi u,.int 1 v]}
 | .frz o u=>h.get? a=some o/\P9 H h a u
 | .tbl ps=>h.get? a=some {cls:= .none,data:= .fields ps}
 | .met f x=>h.get? a=some (PySem.W.methodObj (.ref f) (.ref x))
 | .ext φ=>φ h/\(∃o,h.get? a=some o)/\∀h1 h2:Heap,φ h1->(∀o,h1.get? a=some o->h2.get? a=some o)->φ h2
def HOk(H:Hp)(h:Heap):Prop:=∀a o,H a=some o->P9 P w H h a o
end
section
variable {P:AI}{w:AG}{H H':Hp}{h h':Heap}{a:AB}{o:HO}
theorem P9.lt(x:P9 P w H h a o):a<h.objs.size:=by
 cases o with
 |lst xs=>obtain⟨_,_,_,_,e⟩:=x;exact AZ e
 |tup xs=>obtain⟨_,_,_,p⟩:=x;exact p.lt
 |dK kvs=>obtain⟨_,_,_,_,o,_,_,e,_⟩:=x;exact AZ e
 |dT kvs=>obtain⟨_,_,_,_,o,_,_,e,_⟩:=x;exact AZ e
 |set S n=>obtain⟨o,_,_,_,e,_⟩:=x;exact AZ e
 |ins C dx fs=>obtain⟨_,_,_,e,_⟩:=x;exact AZ e
 |own y=>obtain⟨_,e⟩:=x;exact AZ e
 |xd fs=>obtain⟨_,⟨_,_,_,e,_⟩,_⟩:=x;exact AZ e
 |rng lo hi=>obtain⟨_,_,_,e⟩:=x;exact AZ e
 |frz ob u=>obtain⟨e,_⟩:=x;exact AZ e
 |tbl ps=>exact AZ (show h.get? a=some _ from x)
 |met f y=>exact AZ (show h.get? a=some _ from x)
 |ext φ=>obtain⟨_,⟨_,e⟩,_⟩:=x;exact AZ e
theorem Paired.mapP{α β:Type}{F G:α->β->Prop}:∀{l₁:List α} {l₂:List β},Paired F l₁ l₂->(∀a b,F a b->G a b)->Paired G l₁ l₂
 |_,_,.nil,_=> .nil
 |_,_,.cons r t,f=> .cons (f _ _ r) (Paired.mapP t f)
theorem P9.stay(x:P9 P w H h a o)(k:∀b u,(b=a\/H b=some (.own a))->h.get? b=some u->h'.get? b=some u)
 (ho:∀b,H b=some (.own a)->H' b=some (.own a)) (ht:∀b xs,H b=some (.tup xs)->H' b=some (.tup xs)):P9 P w H' h' a o:=by
 induction o with
 |lst xs=>obtain⟨z,its,n,r,e⟩:=x;exact⟨z,its,n,r,k _ _ (.inl rfl) e⟩
 |tup xs=>obtain⟨z,its,r,ob,e,c⟩:=x;exact⟨z,its,r,ob,k _ _ (.inl rfl) e,c⟩
 |dK kvs=>obtain⟨z,y,vs,r,ob,es,ep,e,c⟩:=x;exact⟨z,y,vs,r,ob,es,ep,k _ _ (.inl rfl) e,c⟩
 |dT kvs=>
  obtain⟨z,y,xs,r,ob,es,ep,e,c⟩:=x
  exact⟨z,y,xs,Paired.mapP r fun p q z=>⟨z.1,ht _ _ z.2.1,z.2.2⟩,ob,es,ep,k _ _ (.inl rfl) e,c⟩
 |set S n=>obtain⟨ob,es,ep,t,e,c⟩:=x;exact⟨ob,es,ep,t,k _ _ (.inl rfl) e,c⟩
 |ins C dx fs=>
  obtain⟨d,z,ne,e,mA,⟨od,es,ep,e2,c⟩,r⟩:=x
  exact⟨ho _ d,z,ne,k _ _ (.inl rfl) e,mA,⟨od,es,ep,k _ _ (.inr d) e2,c⟩,r⟩
 |own y=>obtain⟨ob,e⟩:=x;exact⟨ob,k _ _ (.inl rfl) e⟩
 |xd fs=>obtain⟨mA,⟨od,es,ep,e,c⟩,r⟩:=x;exact⟨mA,⟨od,es,ep,k _ _ (.inl rfl) e,c⟩,r⟩
 |rng lo hi=>obtain⟨t,u,v,e⟩:=x;exact⟨t,u,v,k _ _ (.inl rfl) e⟩
 |frz ob u ih=>obtain⟨e,q⟩:=x;exact⟨k _ _ (.inl rfl) e,ih q⟩
 |tbl ps=>
  have e:h.get? a=some {cls:= .none,data:= .fields ps}:=x
  show h'.get? a=some {cls:= .none,data:= .fields ps}
  exact k a _ (.inl rfl) e
 |met f y=>
  have e:h.get? a=some (PySem.W.methodObj (.ref f) (.ref y)):=x
  show h'.get? a=some (PySem.W.methodObj (.ref f) (.ref y))
  exact k a _ (.inl rfl) e
 |ext φ=>obtain⟨p,⟨o,e⟩,st⟩:=x;exact⟨st _ _ p fun o q=>k _ _ (.inl rfl) q,⟨o,k _ _ (.inl rfl) e⟩,st⟩
theorem HOk.lt(x:HOk P w H h)(e:H a=some o):a<h.objs.size:=(x a o e).lt
theorem HOk.fresh(x:HOk P w H h)(e:h.objs.size<=a):H a=none:=by
 cases q:H a with
 |none=>rfl
 |some u=>exact absurd (Al (x.lt q) e) (Nat.lt_irrefl _)
theorem HOk.kept(x:HOk P w H h)(k:∀b u,h.get? b=some u->h'.get? b=some u):HOk P w H h':=fun a o e=>
 (x a o e).stay (fun b u _ q=>k b u q) (fun _ q=>q) fun _ _ q=>q
theorem HOk.laid(x:HOk P w H h)(k:∀b u,h.get? b=some u->h'.get? b=some u)(hp:h.objs.size<=a)(new:P9 P w (upd H a o) h' a o):HOk P w (upd H a o) h':=fun b u e=>by
 have hn:=x.fresh hp
 by_cases hb:b=a
 ·subst hb;rw [m7] at e;cases e;exact new
 ·rw [f8 hb] at e
  exact(x b u e).stay (fun c v _ q=>k c v q) (fun c q=>by rw [f8 (j4 q hn)];exact q) fun c xs q=>by rw [f8 (j4 q hn)];exact q
end
def Rd(H:Hp)(a:AB)(u:HO):Prop:=H a=some u\/∃o,H a=some (.frz o u)
theorem Rd.of{H:Hp}{a:AB}{u:HO}(h:H a=some u):Rd H a u:= .inl h
theorem Rd.ok{P:AI}{w:AG}{H:Hp}{h:Heap}{a:AB}{u:HO}(r:Rd H a u)(x:HOk P w H h):P9 P w H h a u:=by
 rcases r with r|⟨o,r⟩
 ·exact x a u r
 ·obtain⟨_,q⟩:=x a _ r
  exact q
def Mut:Option HO->Prop
 |some (.lst _)=>True
 |some (.dK _)=>True
 |some (.dT _)=>True
 |some (.set _ _)=>True
 |some (.ins _ _ _)=>True
 |some (.ext _)=>True
 |_=>False
section
variable {P:AI}{w:AG}{H:Hp}{h h':Heap}{x e:AB}{o':HO}
theorem HOk.write(ok:HOk P w H h)(mu:Mut (H x))(he:e=x\/H e=some (.own x))(k:∀b u,b≠e->h.get? b=some u->h'.get? b=some u)(heo:∃u,h'.get? e=some u)
 (new:P9 P w (upd H x o') h' x o'):HOk P w (upd H x o') h':=fun b u q=>by
 have nown:∀c y,H c=some (.own y)->c≠x:=fun c y r z=>by subst z;rw [r] at mu;exact mu
 have ntup:∀c xs,H c=some (.tup xs)->c≠x:=fun c xs r z=>by subst z;rw [r] at mu;exact mu
 by_cases hb:b=x
 ·subst hb;rw [m7] at q;cases q;exact new
 ·rw [f8 hb] at q
  by_cases hbe:b=e
  ·have q':H b=some (.own x):=by
    rcases he with z|z
    ·exact absurd (hbe.trans z) hb
    ·rw [hbe];exact z
   rw [q] at q';cases q'
   obtain⟨v,hv⟩:=heo
   exact⟨v,by rw [hbe];exact hv⟩
  ·refine(ok b u q).stay (fun c v hc r=>k c v ?_ r) (fun c r=>by rw [f8 (nown c b r)];exact r) fun c xs r=>by rw [f8 (ntup c xs r)];exact r
   rcases hc with rfl|hc
   ·exact hbe
   ·rintro rfl
    rcases he with z|z
    ·exact nown c b hc z
    ·rw [hc] at z;cases z;exact hb rfl
end
structure Un(fs ex:List AB)(H H':Hp)(h h':Heap):Prop where
 keep:∀b o,h.get? b=some o->H b=none->b∉fs->b∉ex->h'.get? b=some o
 slot:∀b o,h.get? b=some o->H b=none->b∈fs->b∉ex->∃sl,h'.get? b=some {o with slots:=sl}
 free:∀b o,h.get? b=some o->H b=none->b∉ex->H' b=none
 there:∀b o,h.get? b=some o->b∉ex->∃o',h'.get? b=some o'
 tups:∀b xs,H b=some (.tup xs)->H' b=some (.tup xs)
 frzs:∀b o u,H b=some (.frz o u)->H' b=some (.frz o u)
 tbls:∀b ps,H b=some (.tbl ps)->∃more,H' b=some (.tbl (ps++more))
section
variable {fs fs' ex ex':List AB}{H H1 H2:Hp}{h h1 h2 h':Heap}{a x e:AB}{o:HO}
theorem Un.any(u:Un fs ex H H1 h h1){b:AB}{ob:Obj}(q:h.get? b=some ob)(n:H b=none)(hx:b∉ex):∃sl,h1.get? b=some {ob with slots:=sl}:=by
 by_cases hb:b∈fs
 ·exact u.slot b ob q n hb hx
 ·exact⟨ob.slots,u.keep b ob q n hb hx⟩
theorem Un.trans(a:Un fs ex H H1 h h1)(b:Un fs ex H1 H2 h1 h2):Un fs ex H H2 h h2 where
 keep:=fun c ob q n hc hx=>b.keep c ob (a.keep c ob q n hc hx) (a.free c ob q n hx) hc hx
 slot:=fun c ob q n hc hx=>by
  obtain⟨sl,e1⟩:=a.slot c ob q n hc hx
  obtain⟨sl',e2⟩:=b.slot c _ e1 (a.free c ob q n hx) hc hx
  exact⟨sl',e2⟩
 free:=fun c ob q n hx=>by
  obtain⟨o',e1⟩:=a.there c ob q hx
  exact b.free c o' e1 (a.free c ob q n hx) hx
 there:=fun c ob q hx=>by
  obtain⟨o',e1⟩:=a.there c ob q hx
  exact b.there c o' e1 hx
 tups:=fun c xs q=>b.tups c xs (a.tups c xs q)
 frzs:=fun c ob xs q=>b.frzs c ob xs (a.frzs c ob xs q)
 tbls:=fun c ps q=>by
  obtain⟨m1,e1⟩:=a.tbls c ps q
  obtain⟨m2,e2⟩:=b.tbls c _ e1
  exact⟨m1++m2,by rw [e2,Array.append_assoc]⟩
theorem Un.kept(k:∀b u,h.get? b=some u->h'.get? b=some u):Un fs ex H H h h':=
 ⟨fun b ob q _ _ _=>k b ob q,fun b ob q _ _ _=>⟨ob.slots,k b ob q⟩,fun _ _ _ n _=>n,fun b ob q _=>⟨ob,k b ob q⟩,fun _ _ q=>q,fun _ _ _ q=>q,fun _ ps q=>⟨#[],by rw [q];simp⟩⟩
theorem Un.refl:Un fs ex H H h h:=Un.kept fun _ _ q=>q
theorem Un.laid(k:∀b u,h.get? b=some u->h'.get? b=some u)(hp:h.objs.size<=a)(hn:H a=none):Un fs ex H (upd H a o) h h' where
 keep:=fun b u q _ _ _=>k b u q
 slot:=fun b u q _ _ _=>⟨u.slots,k b u q⟩
 free:=fun b u q n _=>by rw [f8 (Am (Al (AZ q) hp))];exact n
 there:=fun b u q _=>⟨u,k b u q⟩
 tups:=fun b xs q=>by rw [f8 (j4 q hn)];exact q
 frzs:=fun b u xs q=>by rw [f8 (j4 q hn)];exact q
 tbls:=fun b ps q=>⟨#[],by rw [f8 (j4 q hn),q];simp⟩
theorem Un.write(mu:Mut (H x))(he:e=x\/H e=some (.own x))(k:∀b u,b≠e->h.get? b=some u->h'.get? b=some u)(heo:∃u,h'.get? e=some u):Un fs ex H (upd H x o) h h':=by
 have hx:∀b,H b=none->b≠x:=fun b n z=>by subst z;rw [n] at mu;exact mu
 have hb:∀b,H b=none->b≠e:=fun b n z=>by
  subst z
  rcases he with r|r
  ·exact hx b n r
  ·rw [n] at r;cases r
 have hm:∀b u,H b=some u->¬Mut (some u)->b≠x:=fun b u q nm z=>by subst z;rw [q] at mu;exact nm mu
 refine⟨fun b u q n _ _=>k b u (hb b n) q,fun b u q n _ _=>⟨u.slots,k b u (hb b n) q⟩,fun b u q n _=>by rw [f8 (hx b n)];exact n,fun b u q _=> ?_,
  fun b xs q=>by rw [f8 (hm b _ q fun z=>z)];exact q,fun b u xs q=>by rw [f8 (hm b _ q fun z=>z)];exact q,fun b ps q=>⟨#[],by rw [f8 (hm b _ q fun z=>z),q];simp⟩⟩
 by_cases hbe:b=e
 ·subst hbe;exact heo
 ·exact⟨u,k b u hbe q⟩
theorem Un.mono(u:Un fs ex H H1 h h1)(hs:∀b∈fs,b∈fs')(hx:∀b∈ex,b∈ex'):Un fs' ex' H H1 h h1:=
 ⟨fun b ob q n hb he=>u.keep b ob q n (fun z=>hb (hs b z)) fun z=>he (hx b z),fun _ _ q n _ he=>u.any q n fun z=>he (hx _ z),fun b ob q n he=>u.free b ob q n fun z=>he (hx b z),fun b ob q he=>u.there b ob q fun z=>he (hx b z),u.tups,u.frzs,u.tbls⟩
end
def trk(h:Heap)(H:Hp):List AB:=(Ad h.objs.size).filter fun a=>(H a).isSome
def a3Y(h:Heap)(H:Hp):Heap:=PySem.W.hideAll h (trk h H)
theorem a6U(h:Heap)(H:Hp):(a3Y h H).objs.size=h.objs.size:=PySem.W.hideAll_size _ _
theorem a7M{h:Heap}{H:Hp}{b:AB}{o:Obj}(e:h.get? b=some o)(n:H b=none):(a3Y h H).get? b=some o:=
 PySem.W.hideAll_get _ e fun hm=>by
  have q:(H b).isSome=true:=(List.mem_filter.mp hm).2
  rw [n] at q;simp at q
theorem a82{h:Heap}{H:Hp}{b:AB}{o:Obj}(e:(a3Y h H).get? b=some o):h.get? b=some o/\H b=none:=by
 have e':h.get? b=some o:=PySem.W.of_hideAll (trk h H) e
 refine⟨e', ?_⟩
 cases q:H b with
 |none=>rfl
 |some x=>
  have hm:b∈trk h H:=List.mem_filter.mpr ⟨List.mem_range.mpr (AZ e'),by simp [q]⟩
  have z:(a3Y h H).get? b=none:=PySem.W.hideAll_none (trk h H) hm
  rw [z] at e;cases e
def a8F(g h:Heap)(L:AB):List (AB×Obj):=(Ad h.objs.size).filterMap fun a=>if a=L\/(g.get? a).isSome=true then none else(h.get? a).map fun o=>(a,o)
def A2(g h:Heap)(L d:AB):List (AB×Obj):=(a8F g h L).filter fun p=>decide (p.1≠d)
structure Mod(K:AD)(mg:Str->Option AA)(base:Heap):Prop where
 kin:K.In base
 glob:base.Ns mainGlobals mg
 blt:∃mb,base.Ns builtinsNs mb/\∀x:Str,x≠"__name__"->mb x=bootBuiltins x
 nolimit:base.NoLimit
structure Cx where
 prog:AI
 w:AG
 K:AD
 mg:Str->Option AA
 base:Heap
 A:AH
 N:List Str
 s₀:AC
 H₀:Hp
 env:Env
 outer:List Env
 stack:List Env
 ex:List AB
 fn:Str->Bool
 calm:Bool
 pn:List (AB×Obj)
 xe:AA->AC->Prop
def frs(l:List Env):List AB:=l.filterMap (·.frame)
abbrev Cx.fs(X:Cx):List AB:=frs X.outer
def Vis(sc:Scope)(x:Str):Prop:=sc.names.lookup x=some .local\/sc.names.lookup x=some .cell\/sc.names.lookup x=some .free
def Loc(sc:Scope)(x:Str):Prop:=sc.names.lookup x=some .local\/sc.names.lookup x=some .cell
def b1y(env:Env)(h:Heap)(m:Str->Option AA)(x:Str)(u:AA):Prop:=
 (env.kindOf x=some .local/\m x=some u)\/((env.kindOf x=some .cell\/env.kindOf x=some .free)/\∃c,env.cells.lookup x=some c/\h.IsCell c (some u))
structure Cx.Ok(X:Cx):Prop where
 mod:Mod X.K X.mg X.base
 kind:X.env.scope.kind= .function
 glob:X.env.globals=mainGlobals
 blt:X.env.builtins=builtinsNs
 above:X.s₀.heap.objs.size<=X.env.locals
 inj:∀x y c,X.env.cells.lookup x=some c->X.env.cells.lookup y=some c->x=y
 has:∀x,(X.env.kindOf x=some .cell\/X.env.kindOf x=some .free)->∃c,X.env.cells.lookup x=some c
 cab:∀x c,X.fn x=true->X.env.cells.lookup x=some c->X.s₀.heap.objs.size<=c
 hd:X.calm=true->X.A.handled=none
 frames:X.A.frames=some X.stack
 stk:X.stack=X.outer\/(X.stack=X.env::X.outer/\X.env.frame=some X.env.locals)
 exf:∀b∈X.ex,b≠X.env.locals/\∀x c,X.env.cells.lookup x=some c->c≠b
 bs:∀b o,X.base.get? b=some o->X.s₀.heap.get? b=some o/\X.H₀ b=none
 bsz:X.base.objs.size<=X.s₀.heap.objs.size
 noex:∀b o,X.base.get? b=some o->b∉X.ex
 exfs:∀b∈X.ex,b∉X.fs
 funs:X.s₀.heap.FunFrames X.base X.outer
 frf:∀b∈X.fs,X.H₀ b=none
structure e7(X:Cx)(pins:List (AB×Obj))(σ:List (Option V))(H:Hp)(s:AC):Prop where
 ok:X.Ok
 os:s.os=X.s₀.os
 bare:AllBare s.gens
 base:Un X.fs X.ex X.H₀ H X.s₀.heap s.heap
 loc:∃m,s.heap.Ns X.env.locals m/\∀(i:Nat) (x:Str) (v:V),X.N[i]?=some x->σ[i]?=some (some v)->Vis X.env.scope x->∃u,l5 v u/\b1y X.env s.heap m x u
 cell:∀x c,X.env.cells.lookup x=some c->∃v,s.heap.IsCell c v
 free:H X.env.locals=none
 freeC:∀x c,X.env.cells.lookup x=some c->H c=none
 pin:∀p∈X.pn++pins,s.heap.get? p.1=some p.2/\H p.1=none/\p.1≠X.env.locals/\p.1∉X.fs/\∀v,p.2.data≠.cell v
 hok:HOk X.prog X.w H s.heap
 len:σ.length=X.N.length
section
variable {X:Cx}{pins:List (AB×Obj)}{σ:List (Option V)}{H H':Hp}{s:AC}{h':Heap}
theorem Cx.Ok.nofr(ok:X.Ok){b:AB}{o:Obj}(e:X.base.get? b=some o):b∉X.fs:=fun hb=>by
 have:=(ok.funs.mem hb).1
 rw [e] at this;cases this
theorem e7.bs(I:e7 X pins σ H s):∀b o,X.base.get? b=some o->s.heap.get? b=some o/\H b=none:=fun b o e=>
 ⟨I.base.keep b o (I.ok.bs b o e).1 (I.ok.bs b o e).2 (I.ok.nofr e) (I.ok.noex b o e),I.base.free b o (I.ok.bs b o e).1 (I.ok.bs b o e).2 (I.ok.noex b o e)⟩
theorem e7.bk(I:e7 X pins σ H s):∀b o,X.base.get? b=some o->s.heap.get? b=some o:=fun b o e=>(I.bs b o e).1
theorem e7.mod(I:e7 X pins σ H s):Mod X.K X.mg X.base:=I.ok.mod
theorem e7.kIn(I:e7 X pins σ H s):X.K.In s.heap:=I.ok.mod.kin.keeps I.bk
theorem e7.nolimit(I:e7 X pins σ H s):s.heap.NoLimit:=I.ok.mod.nolimit.keeps I.bk
theorem e7.fr(I:e7 X pins σ H s):∃m,Fr X.base X.env.locals s.heap m:=
 let ⟨m,hn,_⟩:=I.loc
 ⟨m,hn,I.bk,Nat.le_trans I.ok.bsz I.ok.above⟩
theorem e7.lt(I:e7 X pins σ H s):X.env.locals<s.heap.objs.size:=let ⟨_,hn,_⟩:=I.loc;hn.lt
theorem e7.sz(I:e7 X pins σ H s):X.s₀.heap.objs.size<=s.heap.objs.size:=Nat.le_trans I.ok.above (Ay I.lt)
theorem e7.nofs(I:e7 X pins σ H s){a:AB}(h:s.heap.objs.size<=a):a∉X.fs:=fun hb=>by
 obtain⟨_,o,ho,_⟩:=I.ok.funs.mem hb
 exact absurd (Al (AZ ho) (Nat.le_trans I.sz h)) (Nat.lt_irrefl _)
theorem e7.cne(I:e7 X pins σ H s):∀x c,X.env.cells.lookup x=some c->c≠X.env.locals:=fun x c e z=>by
 obtain⟨v,o,ho,hd⟩:=I.cell x c e
 obtain⟨m,⟨o',es,ep,ho',hd',_⟩,_⟩:=I.loc
 rw [z,ho'] at ho;cases ho;rw [hd'] at hd;cases hd
theorem e7.funs(I:e7 X pins σ H s):s.heap.FunFrames X.base X.outer:=by
 have all:∀(l:List Env),(∀b∈frs l,b∈X.fs)->X.s₀.heap.FunFrames X.base l->s.heap.FunFrames X.base l:=by
  intro l
  induction l with
  |nil=>intro _ _;trivial
  |cons env r ih=>
   intro hs hl
   obtain⟨hk,⟨L,o,hf,hn,ho,hd⟩,hr⟩:=hl
   have hL:L∈X.fs:=hs L (by unfold frs;rw [List.filterMap_cons,hf];exact Aj)
   obtain⟨sl,e⟩:=I.base.slot L o ho (I.ok.frf L hL) hL fun z=>I.ok.exfs L z hL
   exact⟨hk,⟨L,_,hf,hn,e,hd⟩,ih (fun b hb=>hs b (by unfold frs;rw [List.filterMap_cons,hf];exact Ah _ hb)) hr⟩
 exact all X.outer (fun _ hb=>hb) I.ok.funs
theorem e7.stack(I:e7 X pins σ H s):s.heap.FunFrames X.base X.stack:=by
 rcases I.ok.stk with e|⟨e,hf⟩
 ·rw [e];exact I.funs
 ·rw [e]
  obtain⟨m,hn,_⟩:=I.loc
  refine .cons (by rw [I.ok.kind];decide) hf hn ?_ I.funs
  exact Heap.get?_none_of_le (Nat.le_trans I.ok.bsz I.ok.above)
theorem e7.stkSub(I:e7 X pins σ H s):∀b∈frs X.stack,b∈X.env.locals::X.fs:=fun b hb=>by
 rcases I.ok.stk with e|⟨e,hf⟩
 ·rw [e] at hb;exact Ah _ hb
 ·rw [e] at hb
  unfold frs at hb
  rw [List.filterMap_cons,hf] at hb
  exact hb
theorem e7.stkFree(I:e7 X pins σ H s):∀b∈frs X.stack,H b=none:=fun b hb=>by
 rcases Aq.mp (I.stkSub b hb) with e|hb
 ·rw [e];exact I.free
 ·obtain⟨_,o,ho,_⟩:=I.ok.funs.mem hb
  exact I.base.free b o ho (I.ok.frf b hb) fun z=>I.ok.exfs b z hb
theorem e7.step{g':Array GenState}{t':Nat}{d':Drawn}{ch:List AB}(I:e7 X pins σ H s)
 (hch:∀b∈ch,(b∈X.ex\/X.s₀.heap.objs.size<=b)/\b≠X.env.locals/\(∀x c,X.env.cells.lookup x=some c->c≠b)/\∀p∈X.pn++pins,p.1≠b)
 (keep:∀b o,b≠X.env.locals->b∉X.fs->b∉ch->s.heap.get? b=some o->H b=none->h'.get? b=some o)
 (slot:∀b o,b≠X.env.locals->b∈X.fs->b∉ch->s.heap.get? b=some o->H b=none->∃sl,h'.get? b=some {o with slots:=sl}) (free:∀b o,b∉ch->s.heap.get? b=some o->H b=none->H' b=none)
 (there:∀b o,b∉ch->s.heap.get? b=some o->∃o',h'.get? b=some o')
 (tups:∀b xs,H b=some (.tup xs)->H' b=some (.tup xs)) (frzs:∀b o u,H b=some (.frz o u)->H' b=some (.frz o u)) (tbls:∀b ps,H b=some (.tbl ps)->∃more,H' b=some (.tbl (ps++more)))
 (ns:∀m,s.heap.Ns X.env.locals m->h'.Ns X.env.locals m) (hok:HOk X.prog X.w H' h') (hg:AllBare g'):
 e7 X pins σ H' {s with heap:=h',gens:=g',drawn:=d',toks:=t'}:=by
 have neL:∀b o,X.s₀.heap.get? b=some o->b≠X.env.locals:=fun b o e=>Am (Al (AZ e) I.ok.above)
 have neC:∀b o,X.s₀.heap.get? b=some o->b∉X.ex->b∉ch:=fun b o e hx hb=>by
  rcases(hch b hb).1 with z|z
  ·exact hx z
  ·exact absurd (Al (AZ e) z) (Nat.lt_irrefl _)
 have cellK:∀x c,X.env.cells.lookup x=some c->∀v,s.heap.IsCell c v->h'.IsCell c v:=fun x c e v ⟨o,ho,hd⟩=>by
  have nch:c∉ch:=fun z=>(hch c z).2.2.1 x c e rfl
  by_cases hc:c∈X.fs
  ·obtain⟨sl,q⟩:=slot c o (I.cne x c e) hc nch ho (I.freeC x c e)
   exact⟨_,q,hd⟩
  ·exact⟨o,keep c o (I.cne x c e) hc nch ho (I.freeC x c e),hd⟩
 refine⟨I.ok,I.os,hg,⟨fun b o e n hb hx=> ?_,fun b o e n hb hx=> ?_,fun b o e n hx=> ?_,fun b o e hx=> ?_,fun b xs e=>tups b xs (I.base.tups b xs e),fun b o xs e=>frzs b o xs (I.base.frzs b o xs e),fun b ps e=> ?_⟩, ?_,fun x c e=> ?_, ?_,fun x c e=> ?_,fun p hp=> ?_,hok,I.len⟩
 ·exact keep b o (neL b o e) hb (neC b o e hx) (I.base.keep b o e n hb hx) (I.base.free b o e n hx)
 ·obtain⟨sl,e1⟩:=I.base.slot b o e n hb hx
  obtain⟨sl',e2⟩:=slot b _ (neL b o e) hb (neC b o e hx) e1 (I.base.free b o e n hx)
  exact⟨sl',e2⟩
 ·obtain⟨o',e1⟩:=I.base.there b o e hx
  exact free b o' (neC b o e hx) e1 (I.base.free b o e n hx)
 ·obtain⟨o',e1⟩:=I.base.there b o e hx
  exact there b o' (neC b o e hx) e1
 ·obtain⟨m1,e1⟩:=I.base.tbls b ps e
  obtain⟨m2,e2⟩:=tbls b _ e1
  exact⟨m1++m2,by rw [e2,Array.append_assoc]⟩
 ·obtain⟨m,hn,hl⟩:=I.loc
  refine⟨m,ns m hn,fun i x v e1 e2 e3=> ?_⟩
  obtain⟨u,r,l⟩:=hl i x v e1 e2 e3
  refine⟨u,r, ?_⟩
  rcases l with l|⟨k,c,e,z⟩
  ·exact .inl l
  ·exact .inr ⟨k,c,e,cellK x c e _ z⟩
 ·obtain⟨v,z⟩:=I.cell x c e
  exact⟨v,cellK x c e v z⟩
 ·obtain⟨m,⟨o,_,_,ho,_⟩,_⟩:=I.loc
  exact free _ o (fun z=>(hch _ z).2.1 rfl) ho I.free
 ·obtain⟨v,o,ho,hd⟩:=I.cell x c e
  exact free c o (fun z=>(hch c z).2.2.1 x c e rfl) ho (I.freeC x c e)
 ·obtain⟨e,n,ne,nf,d⟩:=I.pin p hp
  have nch:p.1∉ch:=fun z=>(hch p.1 z).2.2.2 p hp rfl
  exact⟨keep p.1 p.2 ne nf nch e n,free p.1 p.2 nch e n,ne,nf,d⟩
theorem e7.un{t':Nat}(I:e7 X pins σ H s)(u:Un X.fs [] H H' s.heap h')(hok:HOk X.prog X.w H' h'):e7 X pins σ H' {s with heap:=h',toks:=t'}:=by
 obtain⟨m,⟨o,es,ep,ho,r⟩,_⟩:=id I.loc
 obtain⟨sl,hL⟩:=u.any ho I.free (by simp)
 exact I.step (g':=s.gens) (d':=s.drawn) (ch:=[]) (fun _ z=>nomatch z) (fun b o _ hb _ e n=>u.keep b o e n hb (by simp)) (fun b o _ hb _ e n=>u.slot b o e n hb (by simp)) (fun b o _ e n=>u.free b o e n (by simp)) (fun b o _ e=>u.there b o e (by simp)) u.tups u.frzs u.tbls (fun m' hm=>by
  obtain⟨o',es',ep',ho',r'⟩:=hm
  rw [ho] at ho';cases ho'
  exact⟨_,es',ep',hL,r'⟩) hok I.bare
theorem e7.call{g':Array GenState}{t':Nat}{d':Drawn}{ch:List AB}(I:e7 X pins σ H s)(u:Un (frs X.stack) ch H H' s.heap h')(hok:HOk X.prog X.w H' h')(hg:AllBare g')
 (hch:∀b∈ch,(b∈X.ex\/X.s₀.heap.objs.size<=b)/\b≠X.env.locals/\(∀x c,X.env.cells.lookup x=some c->c≠b)/\∀p∈X.pn++pins,p.1≠b):
 e7 X pins σ H' {s with heap:=h',gens:=g',drawn:=d',toks:=t'}:=by
 obtain⟨m,⟨o,es,ep,ho,r⟩,_⟩:=id I.loc
 obtain⟨sl,hL⟩:=u.any ho I.free fun z=>(hch _ z).2.1 rfl
 exact I.step (ch:=ch) hch (fun b o hL hb hc e n=>u.keep b o e n (fun z=>(Aq.mp (I.stkSub b z)).elim hL hb) hc) (fun b o _ _ hc e n=>u.any e n hc) (fun b o hc e n=>u.free b o e n hc) (fun b o hc e=>u.there b o e hc) u.tups u.frzs u.tbls (fun m' hm=>by
  obtain⟨o',es',ep',ho',r'⟩:=hm
  rw [ho] at ho';cases ho'
  exact⟨_,es',ep',hL,r'⟩) hok hg
theorem e7.turned{t':Nat}{it:AB}(I:e7 X pins σ H s)(k:∀b o,b≠it->s.heap.get? b=some o->h'.get? b=some o)(hn:H it=none)(hL:it≠X.env.locals)
 (h1:it∈X.ex\/X.s₀.heap.objs.size<=it) (h2:∀x c,X.env.cells.lookup x=some c->c≠it) (h3:∀p∈X.pn++pins,p.1≠it):e7 X pins σ H {s with heap:=h',toks:=t'}:=by
 have nit:∀b u,H b=some u->b≠it:=fun b u e z=>by rw [z,hn] at e;cases e
 refine I.step (g':=s.gens) (d':=s.drawn) (ch:=[it]) (fun b hb=> ?_) (fun b o _ _ hc e _=>k b o (fun z=>hc (by simp [z])) e) (fun b o _ _ hc e _=>⟨o.slots,k b o (fun z=>hc (by simp [z])) e⟩) (fun _ _ _ _ n=>n)
  (fun b o hc e=>⟨o,k b o (fun z=>hc (by simp [z])) e⟩) (fun _ _ e=>e) (fun _ _ _ e=>e) (fun b ps e=>⟨#[],by rw [e];simp⟩) (fun m hm=> ?_) (fun b u e=> ?_) I.bare
 ·have e:b=it:=by simpa using hb
  subst e
  exact⟨h1,hL,h2,h3⟩
 ·obtain⟨o,es,ep,ho,r⟩:=hm
  exact⟨o,es,ep,k _ o (Ne.symm hL) ho,r⟩
 ·refine(I.hok b u e).stay (fun c v hc q=>k c v ?_ q) (fun _ q=>q) fun _ _ q=>q
  rcases hc with z|z
  ·rw [z];exact nit b u e
  ·exact nit c _ z
theorem e7.tok(I:e7 X pins σ H s)(t:Nat):e7 X pins σ H {s with toks:=t}:=I.un (h':=s.heap) (t':=t) Un.refl I.hok
theorem e7.kept{t':Nat}(I:e7 X pins σ H s)(k:∀b u,s.heap.get? b=some u->h'.get? b=some u):e7 X pins σ H {s with heap:=h',toks:=t'}:=I.un (Un.kept k) (I.hok.kept k)
theorem e7.laid{a:AB}{o:HO}{t':Nat}(I:e7 X pins σ H s)(k:∀b u,s.heap.get? b=some u->h'.get? b=some u)(hp:s.heap.objs.size<=a)(new:P9 X.prog X.w (upd H a o) h' a o):
 e7 X pins σ (upd H a o) {s with heap:=h',toks:=t'}:=I.un (Un.laid k hp (I.hok.fresh hp)) (I.hok.laid k hp new)
theorem e7.write{x e:AB}{o:HO}{t':Nat}(I:e7 X pins σ H s)(mu:Mut (H x))(he:e=x\/H e=some (.own x))(k:∀b u,b≠e->s.heap.get? b=some u->h'.get? b=some u)(heo:∃u,h'.get? e=some u)
 (new:P9 X.prog X.w (upd H x o) h' x o):e7 X pins σ (upd H x o) {s with heap:=h',toks:=t'}:=I.un (Un.write mu he k heo) (I.hok.write mu he k heo new)
theorem e7.weak{σ':List (Option V)}(I:e7 X pins σ H s)(hl:σ'.length=σ.length)(w:∀(i:Nat) v,σ'[i]?=some (some v)->σ[i]?=some (some v)):e7 X pins σ' H s:=
 ⟨I.ok,I.os,I.bare,I.base,let ⟨m,hn,hl'⟩:=I.loc;⟨m,hn,fun i x v e1 e2 e3=>hl' i x v e1 (w i v e2) e3⟩,I.cell,I.free,I.freeC,I.pin,I.hok,hl.trans I.len⟩
theorem e7.pins_of{pins':List (AB×Obj)}(I:e7 X pins σ H s)(h:∀p∈pins',s.heap.get? p.1=some p.2/\H p.1=none/\p.1≠X.env.locals/\p.1∉X.fs/\∀v,p.2.data≠.cell v):e7 X pins' σ H s:=
 ⟨I.ok,I.os,I.bare,I.base,I.loc,I.cell,I.free,I.freeC,fun p hp=>(BC.mp hp).elim (fun z=>I.pin p (BB _ z)) (h p),I.hok,I.len⟩
theorem a43{N:List Str}(hN:N.Nodup){i j:Nat}{x:Str}(a:N[i]?=some x)(b:N[j]?=some x):i=j:=by
 obtain⟨h1,e1⟩:=Ao.mp a
 obtain⟨h2,e2⟩:=Ao.mp b
 exact(List.getElem_inj hN).mp (e1.trans e2.symm)
theorem a7b{M:Model}{A:AH}{E:AA->AC->Prop}{i:Nat}{x:Str}{v:V}{u:AA}{Q:Unit->AC->Prop}(I:e7 X pins σ H s)(hN:X.N.Nodup)(hi:X.N[i]?=some x)(hx:Loc X.env.scope x)(r:l5 v u)
 (h:∀s',e7 X pins (σ.set i (some v)) H s'->(∃a,Heap.SameBut a s.heap s'.heap/\(a=X.env.locals\/X.env.cells.lookup x=some a))->Q () s') (hf:X.fn x=true\/X.env.scope.names.lookup x=some .local:=by first|exact .inl rfl|exact .inr rfl|assumption):AK M A (storeName X.env x u) Q E s:=by
 obtain⟨m,hn,hl⟩:=id I.loc
 have hcls:(X.env.scope.kind== .class||(X.env.scope.kind== .module && X.env.locals !=X.env.globals))=false:=by rw [I.ok.kind];rfl
 have hiσ:i<σ.length:=by rw [I.len];exact(Ao.mp hi).1
 have cne:=I.cne
 have tracked:∀{a:AB} {h':Heap},(∃o,s.heap.get? a=some o/\H a=none)->Heap.SameBut a s.heap h'->HOk X.prog X.w H h':=fun {a h'} ha hs b ob e=>by
  obtain⟨_,_,hfree⟩:=ha
  refine(I.hok b ob e).stay (fun c w' hc q=>(hs.2 c ?_).trans q) (fun _ q=>q) fun _ _ q=>q
  rintro rfl
  rcases hc with rfl|hc
  ·rw [hfree] at e;cases e
  ·rw [hfree] at hc;cases hc
 rcases hx with hk|hk
 ·refine wpAny_storeName_local hk hn (fun h' hn' hs=> ?_) hcls
  obtain⟨oL,_,_,hoL,_⟩:=id hn
  refine h _ ⟨I.ok,I.os,I.bare,⟨fun b o e n hb hx=> ?_,fun b o e n hb hx=> ?_,I.base.free,fun b o e hx=> ?_,I.base.tups,I.base.frzs,I.base.tbls⟩,⟨_,hn',fun j y v' e1 e2 e3=> ?_⟩,fun y c e=> ?_,I.free,I.freeC,fun p hp=> ?_,tracked ⟨oL,hoL,I.free⟩ hs,by simpa using I.len⟩ ⟨_,hs,.inl rfl⟩
  ·exact(hs.2 b (Am (Al (AZ e) I.ok.above))).trans (I.base.keep b o e n hb hx)
  ·obtain⟨sl,e1⟩:=I.base.slot b o e n hb hx
   exact⟨sl,(hs.2 b (Am (Al (AZ e) I.ok.above))).trans e1⟩
  ·obtain⟨o',e1⟩:=I.base.there b o e hx
   exact⟨o',(hs.2 b (Am (Al (AZ e) I.ok.above))).trans e1⟩
  ·by_cases hj:j=i
   ·subst hj
    rw [hi] at e1;cases e1
    rw [BD hiσ] at e2
    cases e2
    exact⟨u,r,.inl ⟨hk,by simp⟩⟩
   ·rw [List.getElem?_set_ne (Ne.symm hj)] at e2
    obtain⟨u',r',q⟩:=hl j y v' e1 e2 e3
    refine⟨u',r', ?_⟩
    rcases q with⟨k,e⟩|⟨k,c,e,z⟩
    ·refine .inl ⟨k, ?_⟩
     have:y≠x:=fun e=>hj (a43 hN e1 (e▸hi))
     simp [this,e]
    ·exact .inr ⟨k,c,e,z.sameBut hs (cne y c e)⟩
  ·obtain⟨w',z⟩:=I.cell y c e
   exact⟨w',z.sameBut hs (cne y c e)⟩
  ·obtain⟨e,n,ne,nf,d⟩:=I.pin p hp
   exact⟨(hs.2 p.1 ne).trans e,n,ne,nf,d⟩
 ·have hfn:X.fn x=true:=by
   rcases hf with z|z
   ·exact z
   ·rw [z] at hk;cases hk
  obtain⟨c,hc⟩:=I.ok.has x (.inl hk)
  obtain⟨w',z⟩:=I.cell x c hc
  refine wpAny_storeName_cell I.ok.kind hk hc z (fun h' hc' hs=> ?_)
  obtain⟨oc,hoc,hocd⟩:=id z
  refine h {s with heap:=h'} ⟨I.ok,I.os,I.bare,⟨fun b o e n hb hx=> ?_,fun b o e n hb hx=> ?_,I.base.free,fun b o e hx=> ?_,I.base.tups,I.base.frzs,I.base.tbls⟩,⟨m,hn.sameBut hs (Ne.symm (cne x c hc)),fun j y v' e1 e2 e3=> ?_⟩,fun y c' e=> ?_,I.free,I.freeC,fun p hp=> ?_,tracked ⟨oc,hoc,I.freeC x c hc⟩ hs,by simpa using I.len⟩ ⟨c,hs,.inr hc⟩
  ·exact(hs.2 b (Am (Al (AZ e) (I.ok.cab x c hfn hc)))).trans (I.base.keep b o e n hb hx)
  ·obtain⟨sl,e1⟩:=I.base.slot b o e n hb hx
   exact⟨sl,(hs.2 b (Am (Al (AZ e) (I.ok.cab x c hfn hc)))).trans e1⟩
  ·obtain⟨o',e1⟩:=I.base.there b o e hx
   exact⟨o',(hs.2 b (Am (Al (AZ e) (I.ok.cab x c hfn hc)))).trans e1⟩
  ·by_cases hj:j=i
   ·subst hj
    rw [hi] at e1;cases e1
    rw [BD hiσ] at e2
    cases e2
    exact⟨u,r,.inr ⟨.inl hk,c,hc,hc'⟩⟩
   ·rw [List.getElem?_set_ne (Ne.symm hj)] at e2
    obtain⟨u',r',q⟩:=hl j y v' e1 e2 e3
    refine⟨u',r', ?_⟩
    rcases q with q|⟨k,c',e,z'⟩
    ·exact .inl q
    ·refine .inr ⟨k,c',e,z'.sameBut hs ?_⟩
     rintro rfl
     exact hj (a43 hN e1 (I.ok.inj _ _ _ e hc▸hi))
  ·by_cases hcc:c'=c
   ·subst hcc;exact⟨_,hc'⟩
   ·obtain⟨w2,z2⟩:=I.cell y c' e
    exact⟨w2,z2.sameBut hs hcc⟩
  ·obtain⟨e,n,ne,nf,d⟩:=I.pin p hp
   refine⟨(hs.2 p.1 ?_).trans e,n,ne,nf,d⟩
   intro q
   rw [q,hoc] at e
   have q':oc=p.2:=Option.some.inj e
   exact d w' (by rw [<-q'];exact hocd)
theorem a27{M:Model}{A:AH}{E:AA->AC->Prop}{i:Nat}{x:Str}{v:V}{u:AA}{Q:Unit->AC->Prop}(I:e7 X pins σ H s)(hN:X.N.Nodup)(hi:X.N[i]?=some x)(hx:Loc X.env.scope x)(r:l5 v u)
 (h:∀s',e7 X pins (σ.set i (some v)) H s'->Q () s') (hf:X.fn x=true\/X.env.scope.names.lookup x=some .local:=by first|exact .inl rfl|exact .inr rfl|assumption):AK M A (storeName X.env x u) Q E s:=
 a7b I hN hi hx r (fun s' I' _=>h s' I') hf
theorem e7.call'{s':AC}{ch:List AB}(I:e7 X pins σ H s)(ho:s'.os=s.os)(u:Un (frs X.stack) ch H H' s.heap s'.heap)(hok:HOk X.prog X.w H' s'.heap)(hg:AllBare s'.gens)
 (hch:∀b∈ch,(b∈X.ex\/X.s₀.heap.objs.size<=b)/\b≠X.env.locals/\(∀x c,X.env.cells.lookup x=some c->c≠b)/\∀p∈X.pn++pins,p.1≠b):e7 X pins σ H' s':=by
 obtain⟨h',g',d',t',o'⟩:=s'
 have e:o'=s.os:=ho
 subst e
 exact I.call (g':=g') (t':=t') (d':=d') u hok hg hch
end
abbrev XK:=AA->Option AB->Hp->Prop
abbrev St:=List (Option V)
abbrev VK:=V->Hp->Prop
abbrev TE:=St->Hp->VK->Prop
abbrev TT:=St->Hp->(Bool->Hp->Prop)->Prop
abbrev TA:=St->Hp->(List V->Hp->Prop)->Prop
structure O0 where
 nx:St->Hp->Prop
 rt:VK
 bk:St->Hp->Prop:=fun _ _=>False
 ct:St->Hp->Prop:=fun _ _=>False
abbrev TS:=O0->St->Hp->Prop
def EP(X:Cx)(pins:List (AB×Obj))(σ:St)(Q:VK)(u:AA)(s':AC):Prop:=∃v H',e7 X pins σ H' s'/\l5 v u/\Q v H'
def TP(X:Cx)(pins:List (AB×Obj))(σ:St)(Q:Bool->Hp->Prop)(b:Bool)(s':AC):Prop:=∃H',e7 X pins σ H' s'/\Q b H'
def AP(X:Cx)(pins:List (AB×Obj))(σ:St)(Q:List V->Hp->Prop)(us:List AA)(s':AC):Prop:=∃vs H',e7 X pins σ H' s'/\g7 vs us/\Q vs H'
def SP(X:Cx)(pins:List (AB×Obj))(D:O0)(f:Flow)(s':AC):Prop:=
 match f with
 | .next=>∃σ' H',e7 X pins σ' H' s'/\D.nx σ' H'
 | .brk=>∃σ' H',e7 X pins σ' H' s'/\D.bk σ' H'
 | .cont=>∃σ' H',e7 X pins σ' H' s'/\D.ct σ' H'
 | .ret u=>∃v σ' H',e7 X pins σ' H' s'/\l5 v u/\D.rt v H'
def PE(X:Cx)(e:AE)(t:TE):Prop:=
 ∀(pins:List (AB×Obj)) (s:AC) (σ:St) (H:Hp) (Q:VK),e7 X pins σ H s->t σ H Q->AK (model X.prog X.w) X.A (eval e X.env) (EP X pins σ Q) X.xe s
def PT(X:Cx)(e:AE)(t:TT):Prop:=
 ∀(pins:List (AB×Obj)) (s:AC) (σ:St) (H:Hp) (Q:Bool->Hp->Prop),e7 X pins σ H s->t σ H Q->AK (model X.prog X.w) X.A (isTrue e X.env (eval e X.env)) (TP X pins σ Q) X.xe s
def PW(X:Cx)(e:AE)(t:TT):Prop:=
 ∀(whole:Sem AA) (pins:List (AB×Obj)) (s:AC) (σ:St) (H:Hp) (Q:Bool->Hp->Prop),e7 X pins σ H s->t σ H Q->AK (model X.prog X.w) X.A (isTrue e X.env whole) (TP X pins σ Q) X.xe s
theorem PW.pt{X:Cx}{e:AE}{t:TT}(h:PW X e t):PT X e t:=h _
def PA(X:Cx)(es:List AE)(t:TA):Prop:=
 ∀(pos:Pos) (pins:List (AB×Obj)) (s:AC) (σ:St) (H:Hp) (Q:List V->Hp->Prop),e7 X pins σ H s->t σ H Q->AK (model X.prog X.w) X.A (spliced (backTo pos (AL es X.env))) (AP X pins σ Q) X.xe s
def PS(X:Cx)(st:Stmt)(t:TS):Prop:=
 ∀(pins:List (AB×Obj)) (s:AC) (σ:St) (H:Hp) (D:O0),e7 X pins σ H s->t D σ H->AK (model X.prog X.w) X.A (exec st X.env) (SP X pins D) X.xe s
def PSs(X:Cx)(st:List Stmt)(t:TS):Prop:=
 ∀(pins:List (AB×Obj)) (s:AC) (σ:St) (H:Hp) (D:O0),e7 X pins σ H s->t D σ H->AK (model X.prog X.w) X.A (execs st X.env) (SP X pins D) X.xe s
theorem G0{α:Type}{t:Sem α}{Q Q':α->AC->Prop}{M:Model}{A:AH}{E:AA->AC->Prop}{s:AC}(h:AK M A t Q E s)(hQ:∀a s,Q a s->Q' a s):AK M A t Q' E s:=wpAny_mono h hQ fun _ _ x=>x
section
variable {X:Cx}
def a51(i:Nat):TE:=fun σ H Q=>∃v,σ[i]?=some (some v)/\Q v H
def tC(v:V):TE:=fun _ H Q=>Q v H
theorem b0B{i:Nat}{x:Str}{pos:Pos}(hN:X.N[i]?=some x)(hv:Vis X.env.scope x)(hd:(x==("__debug__":Str))=false:=by decide)(hcd:(x==("__classdict__":Str))=false:=by decide):PE X (.Name x pos) (a51 i):=by
 intro pins s σ H Q I h
 obtain⟨v,e,h⟩:=h
 obtain⟨m,hn,hl⟩:=I.loc
 obtain⟨u,r,l⟩:=hl i x v hN e hv
 have fin:EP X pins σ Q u s:=⟨v,H,I,r,h⟩
 rcases l with⟨hk,hm⟩|⟨hk,c,hc,hcell⟩
 ·exact wpAny_Name (wpAny_loadName_local I.ok.kind hk hn hm fin) hd
 ·rcases hk with hk|hk
  ·exact wpAny_Name (wpAny_loadName_cell I.ok.kind hk hc hcell fin) hd
  ·exact wpAny_Name (wpAny_loadName_free I.ok.kind hk hc hcell fin hcd) hd
theorem b0w{i j pos}:PE X (.Constant (.int i) j pos) (tC (.int i)):=fun _ _ _ H _ I h=>wpAny_Constant_int ⟨.int i,H,I.tok _,⟨_,rfl⟩,h⟩
theorem b1g{b j pos}:PE X (.Constant (.bool b) j pos) (tC (.bl b)):=fun _ _ _ H _ I h=>Constant_bool ⟨.bl b,H,I,rfl,h⟩
theorem b0y{j pos}:PE X (.Constant .none j pos) (tC .non):=fun _ _ _ H _ I h=>Constant_none ⟨.non,H,I,rfl,h⟩
theorem b0z{x j pos}:PE X (.Constant (.str x) j pos) (tC (.str x)):=fun _ _ _ H _ I h=>Calls.Constant_str ⟨.str x,H,I.tok _,⟨_,rfl⟩,h⟩
def Gl(X:Cx)(x:Str):Prop:=X.env.kindOf x=some .globalImplicit
theorem a6q{E:AA->AC->Prop}{pins:List (AB×Obj)}{s:AC}{σ:St}{H:Hp}{x:Str}{u:AA}{pos:Pos}{Q:AA->AC->Prop}(I:e7 X pins σ H s)(hg:Gl X x)(hm:X.mg x=some u)(h:Q u s)
 (hd:(x==("__debug__":Str))=false:=by decide):AK (model X.prog X.w) X.A (eval (.Name x pos) X.env) Q E s:=
 Calls.Name_function_global I.ok.kind hg (Calls.loadGlobal_global (by rw [I.ok.glob];exact I.mod.glob.keeps I.bk) hm h) hd
theorem a31{E:AA->AC->Prop}{pins:List (AB×Obj)}{s:AC}{σ:St}{H:Hp}{x:Str}{u:AA}{pos:Pos}{Q:AA->AC->Prop}(I:e7 X pins σ H s)(hg:Gl X x)(hm:X.mg x=none)(hv:bootBuiltins x=some u)(h:Q u s)
 (hn:x≠"__name__":=by decide) (hd:(x==("__debug__":Str))=false:=by decide):AK (model X.prog X.w) X.A (eval (.Name x pos) X.env) Q E s:=by
 obtain⟨mb,h1,h2⟩:=I.mod.blt
 exact Calls.Name_function_global I.ok.kind hg (Calls.loadGlobal_builtin (by rw [I.ok.glob];exact I.mod.glob.keeps I.bk) hm (by rw [I.ok.blt];exact h1.keeps I.bk) ((h2 x hn).trans hv) h) hd
theorem a6u{x:Str}{v:V}{u:AA}{pos:Pos}(hg:Gl X x)(hm:X.mg x=some u)(r:l5 v u)(hd:(x==("__debug__":Str))=false:=by decide):PE X (.Name x pos) (tC v):=
 fun _ _ _ H _ I h=>a6q I hg hm ⟨v,H,I,r,h⟩ hd
theorem a0d{x:Str}{v:V}{u:AA}{pos:Pos}(hg:Gl X x)(hm:X.mg x=none)(hv:bootBuiltins x=some u)(r:l5 v u)(hn:x≠"__name__":=by decide)(hd:(x==("__debug__":Str))=false:=by decide):PE X (.Name x pos) (tC v):=
 fun _ _ _ H _ I h=>a31 I hg hm hv ⟨v,H,I,r,h⟩ hn hd
variable {a b:AE}{ta tb:TE}{pos:Pos}
variable {tA tB':TT}{A2:List AE}
def b1K(t u:TT):TT:=fun σ H Q=>t σ H fun c H1=>if c=true then u σ H1 Q else Q false H1
def tOr(t u:TT):TT:=fun σ H Q=>t σ H fun c H1=>if c=true then Q true H1 else u σ H1 Q
def b1P(t:TT):TT:=fun σ H Q=>t σ H fun c H1=>Q (!c) H1
theorem a9i(ha:PT X a tA):PW X (.BoolOp .And [a] pos) tA:=by
 intro wh pins s σ H Q I h
 refine isTrue_and (G0 (ha pins s σ H Q I h) fun c s1 e=> ?_)
 cases c with
 |true=>exact isTrue_and_nil e
 |false=>exact e
theorem b0H(ha:PT X a tA):PW X (.BoolOp .Or [a] pos) tA:=by
 intro wh pins s σ H Q I h
 refine isTrue_or (G0 (ha pins s σ H Q I h) fun c s1 e=> ?_)
 cases c with
 |false=>exact isTrue_or_nil e
 |true=>exact e
theorem b0G(ha:PT X a tA)(hb:PW X (.BoolOp .And (b::A2) pos) tB'):PW X (.BoolOp .And (a::b::A2) pos) (b1K tA tB'):=by
 intro wh pins s σ H Q I h
 refine isTrue_and (G0 (ha pins s σ H _ I h) fun c s1 ⟨H1,I1,q1⟩=> ?_)
 cases c with
 |true=>exact hb wh pins s1 σ H1 Q I1 q1
 |false=>exact⟨H1,I1,q1⟩
theorem b1k(ha:PT X a tA)(hb:PW X (.BoolOp .Or (b::A2) pos) tB'):PW X (.BoolOp .Or (a::b::A2) pos) (tOr tA tB'):=by
 intro wh pins s σ H Q I h
 refine isTrue_or (G0 (ha pins s σ H _ I h) fun c s1 ⟨H1,I1,q1⟩=> ?_)
 cases c with
 |true=>exact⟨H1,I1,q1⟩
 |false=>exact hb wh pins s1 σ H1 Q I1 q1
theorem b0F(ha:PT X a tA):PT X (.UnaryOp .Not a pos) (b1P tA):=by
 intro pins s σ H Q I h
 exact isTrue_not (ha pins s σ H (fun c H1=>Q (!c) H1) I h)
end
def R6(K:AD)(H:Hp)(a:AB)(xs:List V):Prop:=
 Rd H a (.lst xs)\/
  ∃(o:Obj) (its:Array AA) (n:Nat),K.lookup a=some o/\o.cls= .type "list"/\o.dict=none/\o.data= .seq its n/\its.size<=AJ/\g7 xs its.toList
def W0(K:AD)(H:Hp)(a:AB)(xs:List V):Prop:=
 Rd H a (.tup xs)\/
  ∃(o:Obj) (its:Array AA) (n:Nat),K.lookup a=some o/\o.cls= .type "tuple"/\o.data= .seq its n/\its.size<=AJ/\g7 xs its.toList
def b1A:AA->Option V
 | .none=>some .non
 | .bool b=>some (.bl b)
 | .int i _=>some (.int i)
 | .str x _=>some (.str x)
 | .bytes b _=>some (.byt b)
 | .float b _=>some (.flt b)
 | .ref a=>some (.ref a)
 | .type n=>some (.ty n)
 |_=>none
theorem l5.abs{x:V}{u:AA}(r:l5 x u):b1A u=some x:=by
 cases x with
 |non=>cases r;rfl
 |bl _=>cases r;rfl
 |int _=>obtain⟨t,rfl⟩:=r;rfl
 |str _=>obtain⟨t,rfl⟩:=r;rfl
 |byt _=>obtain⟨t,rfl⟩:=r;rfl
 |flt _=>obtain⟨t,rfl⟩:=r;rfl
 |ref _=>cases r;rfl
 |ty _=>cases r;rfl
theorem l5.inj{x y:V}{u:AA}(r:l5 x u)(q:l5 y u):x=y:=Option.some.inj (r.abs.symm.trans q.abs)
theorem g7.inj:∀{xs ys:List V} {us:List AA},g7 xs us->g7 ys us->xs=ys
 |_,_,_,.nil,.nil=>rfl
 |_,_,_,.cons r t,.cons r' t'=>by rw [r.inj r',g7.inj t t']
section
variable {X:Cx}{pins:List (AB×Obj)}{σ:St}{H:Hp}{s:AC}{a:AB}{xs ys:List V}
theorem R6.of{K:AD}(h:H a=some (.lst xs)):R6 K H a xs:= .inl (.inl h)
theorem W0.of{K:AD}(h:H a=some (.tup xs)):W0 K H a xs:= .inl (.inl h)
theorem e7.list(I:e7 X pins σ H s)(h:R6 X.K H a xs):∃its:List AA,g7 xs its/\PlainL s.heap a its.toArray/\xs.length<=AJ:=by
 rcases h with h|⟨o,its,n,hk,hc,hd,hs,hz,r⟩
 ·obtain⟨z,its,n,r,e⟩:=h.ok I.hok
  exact⟨its,r,⟨_,n,e,rfl,rfl,rfl⟩,z⟩
 ·refine⟨its.toList,r,⟨o,n,I.kIn a o hk,hc,hd,by simpa using hs⟩, ?_⟩
  have e:=r.length
  simp only [Array.length_toList] at e
  lia
theorem e7.tuple(I:e7 X pins σ H s)(h:W0 X.K H a xs):∃its:List AA,g7 xs its/\IsTup s.heap a its.toArray/\xs.length<=AJ:=by
 rcases h with h|⟨o,its,n,hk,hc,hs,hz,r⟩
 ·obtain⟨z,its,r,p⟩:=h.ok I.hok
  exact⟨its,r,p,z⟩
 ·refine⟨its.toList,r,⟨o,I.kIn a o hk,hc,n,by simpa using hs⟩, ?_⟩
  have e:=r.length
  simp only [Array.length_toList] at e
  lia
theorem e7.list_inj(I:e7 X pins σ H s)(h:R6 X.K H a xs)(h':R6 X.K H a ys):xs=ys:=by
 obtain⟨its,r,⟨o,n,e,_,_,d⟩,_⟩:=I.list h
 obtain⟨its',r',⟨o',n',e',_,_,d'⟩,_⟩:=I.list h'
 rw [e] at e';cases e'
 rw [d] at d'
 injection d' with d1 _
 have:its=its':=by simpa using congrArg Array.toList d1
 subst this
 exact r.inj r'
theorem e7.tuple_inj(I:e7 X pins σ H s)(h:W0 X.K H a xs)(h':W0 X.K H a ys):xs=ys:=by
 obtain⟨its,r,⟨o,e,_,n,d⟩,_⟩:=I.tuple h
 obtain⟨its',r',⟨o',e',_,n',d'⟩,_⟩:=I.tuple h'
 rw [e] at e';cases e'
 rw [d] at d'
 injection d' with d1 _
 have:its=its':=by simpa using congrArg Array.toList d1
 subst this
 exact r.inj r'
end
abbrev Cx.wish(X:Cx)(E:AA->AC->Prop):Cx:={X with xe:=E}
abbrev Cx.nox(X:Cx):Cx:=X.wish fun _ _=>False
theorem Cx.Ok.wish{X:Cx}(ok:X.Ok)(E:AA->AC->Prop):(X.wish E).Ok:=
 ⟨ok.mod,ok.kind,ok.glob,ok.blt,ok.above,ok.inj,ok.has,ok.cab,ok.hd,ok.frames,ok.stk,ok.exf,ok.bs,ok.bsz,ok.noex,ok.exfs,ok.funs,ok.frf⟩
theorem Cx.Ok.unwish{X:Cx}{E:AA->AC->Prop}(ok:(X.wish E).Ok):X.Ok:=
 ⟨ok.mod,ok.kind,ok.glob,ok.blt,ok.above,ok.inj,ok.has,ok.cab,ok.hd,ok.frames,ok.stk,ok.exf,ok.bs,ok.bsz,ok.noex,ok.exfs,ok.funs,ok.frf⟩
section
variable {X:Cx}{pins:List (AB×Obj)}{σ:St}{H:Hp}{s:AC}{E:AA->AC->Prop}
theorem e7.wish(I:e7 X pins σ H s)(E:AA->AC->Prop):e7 (X.wish E) pins σ H s:=⟨I.ok.wish E,I.os,I.bare,I.base,I.loc,I.cell,I.free,I.freeC,I.pin,I.hok,I.len⟩
theorem e7.unwish(I:e7 (X.wish E) pins σ H s):e7 X pins σ H s:=⟨I.ok.unwish,I.os,I.bare,I.base,I.loc,I.cell,I.free,I.freeC,I.pin,I.hok,I.len⟩
theorem SP.unwish{D:O0}{f:Flow}{s':AC}(h:SP (X.wish E) pins D f s'):SP X pins D f s':=by
 cases f with
 |next=>obtain⟨σ',H',I,q⟩:=h;exact⟨σ',H',I.unwish,q⟩
 |brk=>obtain⟨σ',H',I,q⟩:=h;exact⟨σ',H',I.unwish,q⟩
 |cont=>obtain⟨σ',H',I,q⟩:=h;exact⟨σ',H',I.unwish,q⟩
 |ret u=>obtain⟨v,σ',H',I,r,q⟩:=h;exact⟨v,σ',H',I.unwish,r,q⟩
theorem PE.nox{e:AE}{t:TE}(h:PE X.nox e t):PE X e t:=fun pins s σ H Q I hw=>
 wpAny_mono (h pins s σ H Q (I.wish _) hw) (fun _ _ ⟨v,H',I',r,q⟩=>⟨v,H',I'.unwish,r,q⟩) fun _ _ z=>False.elim z
theorem PT.nox{e:AE}{t:TT}(h:PT X.nox e t):PT X e t:=fun pins s σ H Q I hw=>
 wpAny_mono (h pins s σ H Q (I.wish _) hw) (fun _ _ ⟨H',I',q⟩=>⟨H',I'.unwish,q⟩) fun _ _ z=>False.elim z
theorem PSs.nox{st:List Stmt}{t:TS}(h:PSs X.nox st t):PSs X st t:=fun pins s σ H D I hw=>
 wpAny_mono (h pins s σ H D (I.wish _) hw) (fun _ _ q=>q.unwish) fun _ _ z=>False.elim z
end
section
variable {X:Cx}{st:Stmt}{A2:List Stmt}{t u:TS}{e:AE}{te:TE}{pos:Pos}
def b1s:TS:=fun D σ H=>D.nx σ H
def b1R(t u:TS):TS:=fun D σ H=>t {D with nx:=u D} σ H
theorem a6w:PSs X [] b1s:=fun _ _ σ H _ I h=>wpAny_execs_nil ⟨σ,H,I,h⟩
theorem a02(h1:PS X st t)(h2:PSs X A2 u):PSs X (st::A2) (b1R t u):=by
 intro pins s σ H D I h
 refine wpAny_execs_cons (G0 (h1 pins s σ H {D with nx:=u D} I h) fun f s1 q=> ?_)
 cases f with
 |next=>
  obtain⟨σ',H',I',q⟩:=q
  exact h2 pins s1 σ' H' D I' q
 |ret v=>exact q
 |brk=>exact q
 |cont=>exact q
theorem a9g(h1:PS X st t):PSs X [st] t:=by
 intro pins s σ H D I h
 refine wpAny_execs_cons (G0 (h1 pins s σ H D I h) fun f s1 q=> ?_)
 cases f with
 |next=>exact wpAny_execs_nil q
 |ret v=>exact q
 |brk=>exact q
 |cont=>exact q
theorem e7.quiet{pins:List (AB×Obj)}{σ:St}{H:Hp}{s:AC}(I:e7 X pins σ H s):interactive X.env=false:=by simp [interactive,I.ok.kind]
def b1r(te:TE):TS:=fun D σ H=>te σ H fun _ H1=>D.nx σ H1
theorem a6v(he:PE X e te)(hs:swapsWith e none pos.line X.env=pure false:=by rfl):PS X (.Expr e pos) (b1r te):=by
 intro pins s σ H D I h
 exact wpAny_Expr_any (G0 (he pins s σ H _ I h) fun v s1 ⟨x,H1,I1,r1,q1⟩=>⟨σ,H1,I1,q1⟩) I.quiet hs
def b1Q(te:TE):TS:=fun D σ H=>te σ H D.rt
theorem a8d(he:PE X e te):PS X (.Return (some e) pos) (b1Q te):=by
 intro pins s σ H D I h
 exact wpAny_Return_some (G0 (he pins s σ H _ I h) fun v s1 ⟨x,H1,I1,r1,q1⟩=>⟨x,σ,H1,I1,r1,q1⟩)
def b1N(c:TT)(t u:TS):TS:=fun D σ H=>c σ H fun b H1=>if b=true then t D σ H1 else u D σ H1
theorem a9M{c:AE}{a b:List Stmt}{tc:TT}(hc:PT X c tc)(ha:PSs X a t)(hb:PSs X b u):PS X (.If c a b pos) (b1N tc t u):=by
 intro pins s σ H D I h
 refine wpAny_If (G0 (hc pins s σ H _ I h) fun d s1 ⟨H1,I1,q1⟩=> ?_)
 cases d with
 |true=>exact ha pins s1 σ H1 D I1 q1
 |false=>exact hb pins s1 σ H1 D I1 q1
def b0M:TS:=fun _ _ _=>False
theorem a8c:PS X st b0M:=fun _ _ _ _ _ _ h=>h.elim
end
abbrev TG:=V->St->Hp->(St->Hp->Prop)->Prop
abbrev TGs:=List V->St->Hp->(St->Hp->Prop)->Prop
def PG(X:Cx)(target:AE)(t:TG):Prop:=
 ∀(pins:List (AB×Obj)) (s:AC) (σ:St) (H:Hp) (v:V) (u:AA) (Q:St->Hp->Prop),e7 X pins σ H s->l5 v u->t v σ H Q->
  AK (model X.prog X.w) X.A (assign target X.env u) (fun _ s'=>∃σ' H',e7 X pins σ' H' s'/\Q σ' H') X.xe s
def PGs(X:Cx)(ts:List AE)(t:TGs):Prop:=
 ∀(pins:List (AB×Obj)) (s:AC) (σ:St) (H:Hp) (vs:List V) (us:List AA) (Q:St->Hp->Prop),e7 X pins σ H s->g7 vs us->t vs σ H Q->
  AK (model X.prog X.w) X.A (assignInOrder ((assignEach ts X.env).map (·.2)) us) (fun _ s'=>∃σ' H',e7 X pins σ' H' s'/\Q σ' H') X.xe s
abbrev TIp:=V->V->Hp->VK->Prop
def PIp(X:Cx)(op:Operator)(t:TIp):Prop:=
 ∀(pins:List (AB×Obj)) (s:AC) (σ:St) (H:Hp) (x y:V) (v u:AA) (Q:VK),e7 X pins σ H s->l5 x v->l5 y u->t x y H Q->
  AK (model X.prog X.w) X.A (inplaceOp op v u) (EP X pins σ Q) X.xe s
section
variable {X:Cx}{pos:Pos}
def a4S(i:Nat):TG:=fun v σ H Q=>Q (σ.set i (some v)) H
theorem v8{i:Nat}{x:Str}(hN:X.N.Nodup)(hi:X.N[i]?=some x)(hx:Loc X.env.scope x)(hf:X.fn x=true\/X.env.scope.names.lookup x=some .local:=by first|exact .inl rfl|exact .inr rfl|assumption):PG X (.Name x pos) (a4S i):=by
 intro pins s σ H v u Q I r h
 exact wpAny_assign_Name (a27 I hN hi hx r (fun s' I'=>⟨_,H,I',h⟩) hf)
def b07:TGs:=fun vs σ H Q=>vs=[]/\Q σ H
def a9I(t:TG)(u:TGs):TGs:=fun vs σ H Q=>∃v r,vs=v::r/\t v σ H fun σ' H'=>u r σ' H' Q
theorem a9c:PGs X [] b07:=by
 intro pins s σ H vs us Q I r h
 obtain⟨e,h⟩:=h
 subst e
 cases r
 exact assignInOrder_nil ⟨σ,H,I,h⟩
theorem a5e{e:AE}{es:List AE}{t:TG}{u:TGs}(h1:PG X e t)(h2:PGs X es u)
 (hs:(assignEach (e::es) X.env).map (·.2)=assign e X.env::(assignEach es X.env).map (·.2):=by rfl):PGs X (e::es) (a9I t u):=by
 intro pins s σ H vs us Q I r h
 obtain⟨v,vr,e1,h⟩:=h
 subst e1
 cases r with
 |cons r rr=>
  rw [hs]
  refine assignInOrder_cons (G0 (h1 pins s σ H _ _ _ I r h) fun _ s1 ⟨σ1,H1,I1,q1⟩=> ?_)
  exact h2 pins s1 σ1 H1 _ _ Q I1 rr q1
def b1B(K:AD)(n:Nat)(t:TGs):TG:=fun v σ H Q=>∃a xs,v= .ref a/\W0 K H a xs/\xs.length=n/\t xs σ H Q
theorem b0C{es:List AE}{k:Nat}{t:TGs}{n:Nat}(hc:X.calm=true)(h:PGs X es t)
 (hn:(assignEach es X.env).length=n:=by rfl) (hst:(assignEach es X.env).findIdx? (·.1)=none:=by rfl):PG X (.Tuple es k pos) (b1B X.K n t):=by
 intro pins s σ H v u Q I r hw
 obtain⟨a,xs,e1,hq,hl,hw⟩:=hw
 subst e1
 cases r
 obtain⟨its,rv,ht,hz⟩:=I.tuple hq
 refine assign_Tuple_tuple (I.ok.hd hc) ht (by simp [hn,<-hl,rv.length]) hst fun h' hx=> ?_
 have I1:e7 X pins σ H {s with heap:=h'}:=I.kept (t':=s.toks) fun b o e=>hx b o (Am (AZ e)) e
 exact h pins _ σ H xs _ Q I1 (by simpa using rv) hw
def b1p(te:TE)(g:TG):TS:=fun D σ H=>te σ H fun x H1=>g x σ H1 D.nx
theorem b0D{tg e:AE}{te:TE}{g:TG}(he:PE X e te)(hg:PG X tg g)(hs:swapsWithSole [tg] e pos.line X.env=pure false:=by rfl)(hw:swappedStores [tg] e X.env=pure none:=by rfl)
 (h1:(assignEach [tg] X.env).map (·.2)=[assign tg X.env]:=by rfl):PS X (.Assign [tg] e pos) (b1p te g):=by
 intro pins s σ H D I h
 refine wpAny_Assign_stores (G0 (he pins s σ H _ I h) fun v s1 ⟨x,H1,I1,r1,q1⟩=> ?_) hs hw
 rw [h1]
 exact G0 (hg pins s1 σ H1 x v _ I1 r1 q1) fun _ s2 q=>q
theorem a8e{i:Nat}{x:Str}{e:AE}{te:TE}{pos':Pos}(hN:X.N.Nodup)(hi:X.N[i]?=some x)(hx:Loc X.env.scope x)(he:PE X e te)(hs:swapsWith e (some (.Name x pos')) pos.line X.env=pure false:=by rfl)(hf:X.fn x=true\/X.env.scope.names.lookup x=some .local:=by first|exact .inl rfl|exact .inr rfl|assumption):
 PS X (.Assign [.Name x pos'] e pos) (b1p te (a4S i)):=by
 intro pins s σ H D I h
 refine wpAny_Assign_Name (G0 (he pins s σ H _ I h) fun v s1 ⟨y,H1,I1,r1,q1⟩=> ?_) hs
 exact a27 I1 hN hi hx r1 (fun s2 I2=>⟨_,H1,I2,q1⟩) hf
def b1L(i:Nat)(te:TE)(ti:TIp):TS:=fun D σ H=>∃x,σ[i]?=some (some x)/\te σ H fun y H1=>ti x y H1 fun z H2=>D.nx (σ.set i (some z)) H2
theorem b0E{i:Nat}{x:Str}{e:AE}{te:TE}{op:Operator}{ti:TIp}{pos':Pos}(hN:X.N.Nodup)(hi:X.N[i]?=some x)(hx:Loc X.env.scope x)(he:PE X e te)(ho:PIp X op ti)(hf:X.fn x=true\/X.env.scope.names.lookup x=some .local:=by first|exact .inl rfl|exact .inr rfl|assumption):
 PS X (.AugAssign (.Name x pos') op e pos) (b1L i te ti):=by
 intro pins s σ H D I h
 obtain⟨v,e1,h⟩:=h
 obtain⟨m,hn,hl⟩:=I.loc
 have vis:Vis X.env.scope x:=by rcases hx with k|k;exact .inl k;exact .inr (.inl k)
 obtain⟨u,r,l⟩:=hl i x v hi e1 vis
 refine wpAny_AugAssign_Name ?_
 have go:AK (model X.prog X.w) X.A (eval e X.env) (fun w s₂=>AK (model X.prog X.w) X.A (inplaceOp op u w) (fun r s₃=>AK (model X.prog X.w) X.A (storeName X.env x r) (fun _=>SP X pins D .next) X.xe s₃) X.xe s₂) X.xe s:=by
  refine G0 (he pins s σ H _ I h) fun w s1 ⟨y,H1,I1,r1,q1⟩=> ?_
  refine G0 (ho pins s1 σ H1 v y u w _ I1 r r1 q1) fun z s2 ⟨zv,H2,I2,r2,q2⟩=> ?_
  exact a27 I2 hN hi hx r2 (fun s3 I3=>⟨_,H2,I3,q2⟩) hf
 rcases l with⟨hk,hm⟩|⟨hk,c,hc,hcell⟩
 ·exact wpAny_loadName_local I.ok.kind hk hn hm go
 ·rcases hk with hk|hk
  ·exact wpAny_loadName_cell I.ok.kind hk hc hcell go
  ·rcases hx with k|k
   ·have:X.env.scope.names.lookup x=some .free:=hk
    rw [k] at this;cases this
   ·have:X.env.scope.names.lookup x=some .free:=hk
    rw [k] at this;cases this
end
section
variable {X:Cx}{pos:Pos}
def b0P(c:TT)(tb:TS):TS:=fun D σ H=>∃W:Nat->St->Hp->Prop,(∃m,W m σ H)/\∀m σ H,W m σ H->
 c σ H fun b H1=>if b=true then ∃N:St->Hp->Prop,(∀σ' H',N σ' H'->∃m',m'<m/\W m' σ' H')/\tb {D with nx:=N,ct:=N,bk:=D.nx} σ H1 else D.nx σ H1
theorem a8f{c:AE}{body:List Stmt}{tc:TT}{tb:TS}(hp:PassesOwn (model X.prog X.w) X.A X.env X.xe)(hc:PT X c tc)(hb:PSs X body tb):PS X (.While c body [] pos) (b0P tc tb):=by
 intro pins s σ H D I h
 obtain⟨W,⟨m0,w0⟩,turn⟩:=h
 refine wpAny_While (codeAny_whileLoop (fun n s'=>∃σ' H',e7 X pins σ' H' s'/\W n σ' H') ?_ m0 ⟨σ,H,I,w0⟩)
 rintro n s1 ⟨σ1,H1,I1,w1⟩
 refine wpAny_passesOwn hp (G0 (hc pins s1 σ1 H1 _ I1 (turn n σ1 H1 w1)) fun b s2 ⟨H2,I2,q2⟩=> ?_)
 cases b with
 |true=>
  obtain⟨N,hN,q2⟩:=q2
  rw [if_pos rfl]
  refine wpAny_passesOwn hp (G0 (hb pins s2 σ1 H2 _ I2 q2) fun f s3 q3=> ?_)
  cases f with
  |next=>
   obtain⟨σ3,H3,I3,n3⟩:=q3
   obtain⟨m',hm,w3⟩:=hN σ3 H3 n3
   exact⟨m',hm,σ3,H3,I3,w3⟩
  |cont=>
   obtain⟨σ3,H3,I3,n3⟩:=q3
   obtain⟨m',hm,w3⟩:=hN σ3 H3 n3
   exact⟨m',hm,σ3,H3,I3,w3⟩
  |brk=>exact q3
  |ret v=>exact q3
 |false=>
  rw [if_neg Ar]
  exact wpAny_execs_nil ⟨σ1,H2,I2,q2⟩
end
structure It where
 go:Nat->Hp->Prop
 yld:Nat->Hp->V->Hp->Prop
 stop:Nat->Hp->Prop
def a3L(X:Cx)(pins:List (AB×Obj))(H:Hp)(b:AB):Prop:=
 H b=none/\b≠X.env.locals/\b∉X.fs/\(b∈X.ex\/X.s₀.heap.objs.size<=b)/\(∀x c,X.env.cells.lookup x=some c->c≠b)/\∀p∈X.pn++pins,p.1≠b
theorem e7.fpOk{X:Cx}{pins:List (AB×Obj)}{σ:St}{H H':Hp}{s:AC}{b:AB}(I:e7 X pins σ H s)(hb:s.heap.objs.size<=b)(hn:H' b=none):a3L X pins H' b:=by
 refine⟨hn,Nat.ne_of_gt (Al I.lt hb),I.nofs hb,.inr (Nat.le_trans I.sz hb),fun x c e z=> ?_,fun p hp z=> ?_⟩
 ·obtain⟨v,q⟩:=I.cell x c e
  exact absurd (Al q.lt (by rw [z];exact hb)) (Nat.lt_irrefl _)
 ·exact absurd (Al (AZ (I.pin p hp).1) (by rw [z];exact hb)) (Nat.lt_irrefl _)
structure a7k(P:AI)(w:AG)(K:AD)(tg:AE)(J:It)(fp:List AB)(it:AB)(tn:Nat->Heap->Prop):Prop where
 mem:it∈fp
 obj:∀i h,tn i h->∀b∈fp,∃o,h.get? b=some o/\∀v,o.data≠.cell v
 keep:∀i h h',tn i h->(∀b∈fp,∀o,h.get? b=some o->h'.get? b=some o)->tn i h'
 item:∀(X:Cx),X.prog=P->X.w=w->X.K=K->X.calm=true->∀(i:Nat) (pins:List (AB×Obj)) (s:AC) (σ:St) (H:Hp) (E:AA->AC->Prop),e7 X pins σ H s->(∀b∈fp,a3L X pins H b)->tn i s.heap->J.go i H->
  AK (model P w) X.A (pyNext (.ref it)) (fun r s1=>∃u,r=some u/\
   AK (model P w) X.A (letOwnedTupleGo tg (.ref it) u) (fun _ s2=>∃x H',e7 X pins σ H' s2/\l5 x u/\J.yld i H x H'/\tn (i+1) s2.heap/\∀b∈fp,H' b=none) E s1) E s
 done:∀(X:Cx),X.prog=P->X.w=w->X.K=K->X.calm=true->∀(i:Nat) (pins:List (AB×Obj)) (s:AC) (σ:St) (H:Hp) (E:AA->AC->Prop),e7 X pins σ H s->(∀b∈fp,a3L X pins H b)->tn i s.heap->J.stop i H->
   AK (model P w) X.A (pyNext (.ref it)) (fun r s1=>r=none/\e7 X pins σ H s1) E s
 self:∀(A:AH) (i:Nat) (s:AC) (Q:AA->AC->Prop) (E:AA->AC->Prop),tn i s.heap->Q (.ref it) s->AK (model P w) A (pyIter (.ref it)) Q E s
abbrev TI:=St->Hp->(It->Hp->Prop)->Prop
def PIE(X:Cx)(pins:List (AB×Obj))(σ:St)(tg:AE)(R:It->Hp->Prop)(itv:AA)(s2:AC):Prop:=
 ∃(it:AB) (fp:List AB) (tn:Nat->Heap->Prop) (J:It) (H':Hp),itv= .ref it/\e7 X pins σ H' s2/\a7k X.prog X.w X.K tg J fp it tn/\tn 0 s2.heap/\(∀b∈fp,a3L X pins H' b)/\R J H'
def PI(X:Cx)(tg iter:AE)(wi:TI):Prop:=
 ∀(pins:List (AB×Obj)) (s:AC) (σ:St) (H:Hp) (R:It->Hp->Prop),e7 X pins σ H s->wi σ H R->
  AK (model X.prog X.w) X.A (eval iter X.env) (fun v s1=>AK (model X.prog X.w) X.A (pyIter v) (PIE X pins σ tg R) X.xe s1) X.xe s
theorem a7L{M:Model}{A:AH}{E:AA->AC->Prop}{s:AC}{tg:AE}{it:AB}{u:AA}{o:Obj}{n:String}{vs:Array AA}{Q:Unit->AC->Prop}(ho:s.heap.get? it=some o)(hc:o.cls= .type n)(hd:o.data= .fields vs)
 (hn:["enumerate","zip","dict_itemiterator","dict_reverseitemiterator","odict_iterator","itertools.zip_longest","itertools.pairwise"].contains n=false) (hQ:Q () s):AK M A (letOwnedTupleGo tg (.ref it) u) Q E s:=by
 unfold letOwnedTupleGo
 cases tg<;>first
  |exact AW hQ
  |(cases u<;>first
   |exact AW hQ
   |(refine AO (wpAny_load ho ?_)
     rw [hc,hd]
     show AK M A (if(["enumerate","zip","dict_itemiterator","dict_reverseitemiterator","odict_iterator","itertools.zip_longest","itertools.pairwise"].contains n && vs[0]?==some (rawInt _))=true then _ else _) Q E s
     rw [if_neg (by intro h;rw [hn,Bool.false_and] at h;cases h)]
     exact AW hQ))
def Itl(K:AD)(a:AB):It:=
 ⟨fun i H=>∃xs x,R6 K H a xs/\xs[i]?=some x,fun i H x H'=>H'=H/\∀xs,R6 K H a xs->xs[i]?=some x,fun i H=>∃xs,R6 K H a xs/\xs.length<=i⟩
def Itt(K:AD)(a:AB):It:=
 ⟨fun i H=>∃xs x,W0 K H a xs/\xs[i]?=some x,fun i H x H'=>H'=H/\∀xs,W0 K H a xs->xs[i]?=some x,fun i H=>∃xs,W0 K H a xs/\xs.length<=i⟩
def Itr(lo:Int)(n:Nat):It:=⟨fun i _=>i<n,fun i H x H'=>H'=H/\x= .int (lo+i),fun i _=>n<=i⟩
theorem a7d{P:AI}{w:AG}{K:AD}{tg:AE}(a it:AB):a7k P w K tg (Itl K a) [it] it (fun i h=>h.IsListIter it a i) where
 mem:=by simp
 obj:=fun i h st b hb=>by
  have e:b=it:=by simpa using hb
  subst e
  obtain⟨o,e,c,d⟩:=st
  exact⟨o,e,fun v z=>by rw [d] at z;cases z⟩
 keep:=fun i h h' st k=>st.at fun o e=>k it (by simp) o e
 item:=by
  intro X hP hw hK hc i pins s σ H E I hf st hg
  subst hP hw hK
  obtain⟨xs,x,hq,hx⟩:=hg
  obtain⟨its,rv,p,hz⟩:=I.list hq
  obtain⟨u,hu,ru⟩:=rv.get hx
  obtain⟨f0,f1,f2,f3,f4,f5⟩:=hf it (by simp)
  refine wpAny_pyNext_list_item st p.isList (x:=u) (by simpa using hu) fun h' st' sb=> ?_
  have I1:e7 X pins σ H {s with heap:=h'}:=I.turned (t':=s.toks) (fun b o hb e=>(sb.2 b hb).trans e) f0 f1 f3 f4 f5
  obtain⟨o,e,c,d⟩:=id st'
  exact⟨u,rfl,a7L (s:={s with heap:=h'}) e c d (by decide) ⟨x,H,I1,ru,⟨rfl,fun ys hy=>by rw [I.list_inj hy hq];exact hx⟩,st',fun b hb=>(hf b hb).1⟩⟩
 done:=by
   intro X hP hw hK hc i pins s σ H E I hf st hg
   subst hP hw hK
   obtain⟨xs,hq,hx⟩:=hg
   obtain⟨its,rv,p,hz⟩:=I.list hq
   obtain⟨f0,f1,f2,f3,f4,f5⟩:=hf it (by simp)
   have hl:=rv.length
   exact wpAny_pyNext_list_end (I.ok.hd hc) st p.isList (by simp;lia) fun h' eb=>⟨rfl,I.turned (t':=s.toks) (fun b o hb e=>eb b o hb e) f0 f1 f3 f4 f5⟩
 self:=fun _ _ _ _ _ st h=>wpAny_pyIter_listiter st h
theorem a54{P:AI}{w:AG}{K:AD}{tg:AE}(a it:AB):a7k P w K tg (Itt K a) [it] it (fun i h=>h.IsTupleIter it a i) where
 mem:=by simp
 obj:=fun i h st b hb=>by
  have e:b=it:=by simpa using hb
  subst e
  obtain⟨o,e,c,d⟩:=st
  exact⟨o,e,fun v z=>by rw [d] at z;cases z⟩
 keep:=fun i h h' st k=>st.at fun o e=>k it (by simp) o e
 item:=by
  intro X hP hw hK hc i pins s σ H E I hf st hg
  subst hP hw hK
  obtain⟨xs,x,hq,hx⟩:=hg
  obtain⟨its,rv,p,hz⟩:=I.tuple hq
  obtain⟨u,hu,ru⟩:=rv.get hx
  obtain⟨f0,f1,f2,f3,f4,f5⟩:=hf it (by simp)
  refine wpAny_pyNext_tuple_item st (show s.heap.IsTuple a its.toArray from p) (x:=u) (by simpa using hu) fun h' st' sb=> ?_
  have I1:e7 X pins σ H {s with heap:=h'}:=I.turned (t':=s.toks) (fun b o hb e=>(sb.2 b hb).trans e) f0 f1 f3 f4 f5
  obtain⟨o,e,c,d⟩:=id st'
  exact⟨u,rfl,a7L (s:={s with heap:=h'}) e c d (by decide) ⟨x,H,I1,ru,⟨rfl,fun ys hy=>by rw [I.tuple_inj hy hq];exact hx⟩,st',fun b hb=>(hf b hb).1⟩⟩
 done:=by
   intro X hP hw hK hc i pins s σ H E I hf st hg
   subst hP hw hK
   obtain⟨xs,hq,hx⟩:=hg
   obtain⟨its,rv,p,hz⟩:=I.tuple hq
   obtain⟨f0,f1,f2,f3,f4,f5⟩:=hf it (by simp)
   have hl:=rv.length
   exact wpAny_pyNext_tuple_end (I.ok.hd hc) st (show s.heap.IsTuple a its.toArray from p) (by simp;lia) fun h' eb=>⟨rfl,I.turned (t':=s.toks) (fun b o hb e=>eb b o hb e) f0 f1 f3 f4 f5⟩
 self:=fun _ _ _ _ _ st h=>wpAny_pyIter_tupleiter st h
theorem a53{P:AI}{w:AG}{K:AD}{tg:AE}(it:AB)(lo:Int)(n:Nat):a7k P w K tg (Itr lo n) [it] it (fun i h=>IsRangeIter h it (lo+(i:Nat)*1) ((n:Int) - (i:Nat)) 1) where
 mem:=by simp
 obj:=fun i h st b hb=>by
  have e:b=it:=by simpa using hb
  subst e
  exact⟨_,st,fun v z=>by
   have z':Data.fields _=Data.cell v:=z
   cases z'⟩
 keep:=fun i h h' st k=>k it (by simp) _ st
 item:=by
  intro X hP hw hK hc i pins s σ H E I hf st hg
  subst hP hw hK
  obtain⟨f0,f1,f2,f3,f4,f5⟩:=hf it (by simp)
  have W:=Walks.range (prog:=X.prog) (w:=X.w) (I.ok.hd hc) it lo 1 n
  refine W.item i s _ _ hg st fun v h' tk hv st' kk=> ?_
  obtain⟨t,rfl⟩:=hv
  have I1:e7 X pins σ H {s with heap:=h',toks:=tk}:=I.turned (fun b o hb e=>kk b o (by simpa using hb) e) f0 f1 f3 f4 f5
  refine⟨_,rfl,a7L (s:={s with heap:=h',toks:=tk}) (n:="range_iterator") st' rfl rfl (by decide) ⟨.int (lo+i),H,I1,⟨t, ?_⟩,⟨rfl,rfl⟩,st',fun b hb=>(hf b hb).1⟩⟩
  rw [Int.mul_one]
 done:=by
   intro X hP hw hK hc i pins s σ H E I hf st hg
   subst hP hw hK
   obtain⟨f0,f1,f2,f3,f4,f5⟩:=hf it (by simp)
   exact wpAny_pyNext_range_end (I.ok.hd hc) st (by have:n<=i:=hg;lia) fun h' eb=>⟨rfl,I.turned (t':=s.toks) (fun b o hb e=>eb b o hb e) f0 f1 f3 f4 f5⟩
 self:=fun _ _ _ _ _ st h=>wpAny_pyIter_rangeiter st h
section
variable {X:Cx}{tg:AE}
theorem a8k{pins:List (AB×Obj)}{σ:St}{H:Hp}{s:AC}{R:It->Hp->Prop}{E:AA->AC->Prop}{lo hi:Int}{t u v:Tok}{tk:Nat}(I:e7 X pins σ H s)(h1: -(2 ^ 62)<=lo)(h2:lo<2 ^ 62)(h3: -(2 ^ 62)<=hi)(h4:hi<2 ^ 62)
 (q:R (Itr lo (hi - lo).toNat) H):AK (model X.prog X.w) X.A (pyIter (.ref s.heap.objs.size)) (PIE X pins σ tg R) E {s with heap:=s.heap.push {cls:= .type "range",data:= .fields #[.int lo t,.int hi u,.int 1 v]},toks:=tk}:=by
 refine wpAny_pyIter_range (IsRange.new ..) (small_one h1 h2 h3 h4) ?_
 have I1:e7 X pins σ H {s with heap:=s.heap.push {cls:= .type "range",data:= .fields #[.int lo t,.int hi u,.int 1 v]},toks:=tk}:=I.kept fun b o e=>Ak _ e
 refine⟨(s.heap.push {cls:= .type "range",data:= .fields #[.int lo t,.int hi u,.int 1 v]}).objs.size,[(s.heap.push {cls:= .type "range",data:= .fields #[.int lo t,.int hi u,.int 1 v]}).objs.size],_,_,H,rfl,
  I1.kept (t':=tk) fun b o e=>Ak _ e,a53 _ lo (hi - lo).toNat, ?_,fun b hb=> ?_,q⟩
 ·have e1:lo+((0:Nat):Int)*1=lo:=by simp
  have e2:(((hi - lo).toNat:Nat):Int) - ((0:Nat):Int)=Builtin.Range.rangeSize lo hi 1:=by rw [rangeSize_one];split<;>lia
  show IsRangeIter _ _ (lo+((0:Nat):Int)*1) ((((hi - lo).toNat:Nat):Int) - ((0:Nat):Int)) 1
  rw [e1,e2]
  exact Au _ rfl
 ·have e:b=(s.heap.push {cls:= .type "range",data:= .fields #[.int lo t,.int hi u,.int 1 v]}).objs.size:=by simpa using hb
  subst e
  exact I1.fpOk (AR _) (I1.hok.fresh (AR _))
def b09(ta:TA):TI:=fun σ H R=>ta σ H fun vs H1=>∃j:Int,vs=[.int j]/\ -(2 ^ 62)<=j/\j<2 ^ 62/\R (Itr 0 j.toNat) H1
theorem a3E{a:AE}{ta:TA}{p pos:Pos}(hg:Gl X "range")(hm:X.mg "range"=none)(ha:PA X [a] ta)(hs:AL [a] X.env=[(false,eval a X.env)]:=by rfl):PI X tg (.Call (.Name "range" p) [a] [] pos) (b09 ta):=by
 intro pins s σ H R I h
 refine Call_ (a31 I hg hm boot_range (PyProof.Rows.callWith_type1 (G0 (ha pos pins s σ H _ I h) fun us s1 ⟨vs,H1,I1,r1,q1⟩=> ?_) hs rfl))
 obtain⟨j,e,q1,q2,q⟩:=q1
 subst e
 cases r1 with
 |cons r rr=>
  cases rr
  obtain⟨t,rfl⟩:=r
  exact call_range_1 (a8k I1 (by lia) (by lia) q1 q2 (by simpa using q))
def b1M(wi:TI)(g:TG)(tb:TS):TS:=fun D σ H=>wi σ H fun J H1=>∃W:Nat->Nat->St->Hp->Prop,(∃m,W 0 m σ H1)/\∀i m σ H,W i m σ H->
 (J.stop i H/\D.nx σ H)\/(J.go i H/\∃N:St->Hp->Prop,(∀σ' H',N σ' H'->∃m',m'<m/\W (i+1) m' σ' H')/\∀x H',J.yld i H x H'->g x σ H' fun σ2 H2=>tb {D with nx:=N,ct:=N,bk:=D.nx} σ2 H2)
def a2X(fp:List AB)(h:Heap):List (AB×Obj):=fp.filterMap fun b=>(h.get? b).map fun o=>(b,o)
theorem T9{fp:List AB}{h:Heap}{b:AB}{o:Obj}(hb:b∈fp)(e:h.get? b=some o):(b,o)∈a2X fp h:=List.mem_filterMap.mpr ⟨b,hb,by rw [e];rfl⟩
theorem a64{fp:List AB}{h:Heap}{p:AB×Obj}(hp:p∈a2X fp h):p.1∈fp/\h.get? p.1=some p.2:=by
 obtain⟨b,hb,e⟩:=List.mem_filterMap.mp hp
 cases q:h.get? b with
 |none=>rw [q] at e;cases e
 |some o=>
  rw [q] at e
  have e':(b,o)=p:=Option.some.inj e
  subst e'
  exact⟨hb,q⟩
theorem e7.pinned{pins:List (AB×Obj)}{σ:St}{H:Hp}{s:AC}{fp:List AB}(I:e7 X pins σ H s)(hf:∀b∈fp,a3L X pins H b)(ho:∀b∈fp,∃o,s.heap.get? b=some o/\∀v,o.data≠.cell v):e7 X (pins++a2X fp s.heap) σ H s:=
 I.pins_of fun p hp=>(BC.mp hp).elim (fun z=>I.pin p (As _ z)) fun z=>by
  obtain⟨hb,e⟩:=a64 z
  obtain⟨f0,f1,f2,_⟩:=hf p.1 hb
  obtain⟨o,e',d⟩:=ho p.1 hb
  rw [e] at e';cases e'
  exact⟨e,f0,f1,f2,d⟩
theorem e7.unpinned{pins pl:List (AB×Obj)}{σ:St}{H:Hp}{s:AC}(I:e7 X (pins++pl) σ H s):e7 X pins σ H s:=I.pins_of fun p hp=>I.pin p (As _ (BB _ hp))
theorem a8b{iter:AE}{body:List Stmt}{wi:TI}{g:TG}{tb:TS}{pos:Pos}(hp:PassesOwn (model X.prog X.w) X.A X.env X.xe)(hc:X.calm=true)(hi:PI X tg iter wi)(hg:PG X tg g)(hb:PSs X body tb)
 (hs:∀x,foldedSetIterable iter X.env x=pure x:=by intro _;rfl):PS X (.For tg iter body [] pos) (b1M wi g tb):=by
 intro pins s σ H D I h
 refine wpAny_For (G0 (hi pins s σ H _ I h) fun v s1 h1=>G0 h1 fun itv s2 h2=> ?_) hs
 obtain⟨it,fp,tn,J,H2,e,I2,T,st2,f2,W,⟨m0,w0⟩,turn⟩:=h2
 subst e
 have stat:∀{H':Hp},(∀b∈fp,H' b=none)->∀b∈fp,a3L X pins H' b:=fun hn b hb=>⟨hn b hb,(f2 b hb).2⟩
 refine codeAny_forLoop_any (fun n s'=>∃i σ' H',e7 X pins σ' H' s'/\tn i s'.heap/\(∀b∈fp,H' b=none)/\W i n σ' H') ?_ m0 ⟨0,σ,H2,I2,st2,fun b hb=>(f2 b hb).1,w0⟩
 rintro n s3 ⟨i,σ3,H3,I3,st3,fr3,w3⟩
 rcases turn i n σ3 H3 w3 with⟨stop,qn⟩|⟨go,N,hN,step⟩
 ·refine wpAny_passesOwn hp (G0 (T.done X rfl rfl rfl hc i pins s3 σ3 H3 X.xe I3 (stat fr3) st3 stop) fun r s4 ⟨hr,I4⟩=> ?_)
  subst hr
  exact wpAny_execs_nil ⟨σ3,H3,I4,qn⟩
 ·refine wpAny_passesOwn hp (G0 (T.item X rfl rfl rfl hc i pins s3 σ3 H3 X.xe I3 (stat fr3) st3 go) fun r s4 ⟨u,hr,h4⟩=> ?_)
  subst hr
  refine wpAny_passesOwn hp (G0 h4 fun _ s5 ⟨x,H5,I5,r5,y5,st5,fr5⟩=> ?_)
  have I5':=I5.pinned (stat fr5) (T.obj _ _ st5)
  refine wpAny_passesOwn hp (G0 (hg _ s5 σ3 H5 x u _ I5' r5 (step x H5 y5)) fun _ s6 ⟨σ6,H6,I6,q6⟩=> ?_)
  refine wpAny_passesOwn hp (G0 (hb _ s6 σ6 H6 _ I6 q6) fun f s7 q7=> ?_)
  have again:∀{σ7:St} {H7:Hp},e7 X (pins++a2X fp s5.heap) σ7 H7 s7->N σ7 H7->∃m,m<n/\∃i σ' H',e7 X pins σ' H' s7/\tn i s7.heap/\(∀b∈fp,H' b=none)/\W i m σ' H':=fun {σ7 H7} I7 n7=>by
   obtain⟨m',hm,w7⟩:=hN σ7 H7 n7
   refine⟨m',hm,i+1,σ7,H7,I7.unpinned,T.keep _ _ _ st5 fun b hb o e=>(I7.pin (b,o) (As _ (As _ (T9 hb e)))).1,fun b hb=> ?_,w7⟩
   obtain⟨o,e,d⟩:=T.obj _ _ st5 b hb
   exact(I7.pin (b,o) (As _ (As _ (T9 hb e)))).2.1
  cases f with
  |next=>obtain⟨σ7,H7,I7,n7⟩:=q7;exact again I7 n7
  |cont=>obtain⟨σ7,H7,I7,n7⟩:=q7;exact again I7 n7
  |brk=>obtain⟨σ7,H7,I7,q7⟩:=q7;exact⟨σ7,H7,I7.unpinned,q7⟩
  |ret v=>obtain⟨x7,σ7,H7,I7,r7,q7⟩:=q7;exact⟨x7,σ7,H7,I7.unpinned,r7,q7⟩
end
theorem a7C{K:AD}{a:AB}{xs:List V}{g:TG}{tb:TS}{D:O0}{σ:St}{H:Hp}(Pv:Nat->St->Hp->Prop)(h0:Pv 0 σ H)(hl:∀i σ H,i<=xs.length->Pv i σ H->R6 K H a xs)
 (hs:∀i x σ H,xs[i]?=some x->Pv i σ H->g x σ H fun σ2 H2=>tb {D with nx:=Pv (i+1),ct:=Pv (i+1),bk:=D.nx} σ2 H2) (hd:∀σ H,Pv xs.length σ H->D.nx σ H):
 ∃W:Nat->Nat->St->Hp->Prop,(∃m,W 0 m σ H)/\∀i m σ H,W i m σ H->
  ((Itl K a).stop i H/\D.nx σ H)\/((Itl K a).go i H/\∃N:St->Hp->Prop,(∀σ' H',N σ' H'->∃m',m'<m/\W (i+1) m' σ' H')/\∀x H',(Itl K a).yld i H x H'->g x σ H' fun σ2 H2=>tb {D with nx:=N,ct:=N,bk:=D.nx} σ2 H2):=by
 refine⟨fun i m σ H=>m=xs.length - i/\i<=xs.length/\Pv i σ H,⟨xs.length,by simp,Nat.zero_le _,h0⟩, ?_⟩
 rintro i m σ H ⟨rfl,hi,p⟩
 have q:=hl i σ H hi p
 by_cases hlt:i<xs.length
 ·refine .inr ⟨⟨xs,xs[i],q,by simp [hlt]⟩,Pv (i+1),fun σ' H' p'=>⟨xs.length - (i+1),by lia,rfl,hlt,p'⟩,fun x H' y=> ?_⟩
  obtain⟨e,y⟩:=y
  subst e
  exact hs i x σ _ (y xs q) p
 ·have e:i=xs.length:=by lia
  subst e
  exact .inl ⟨⟨xs,q,AR _⟩,hd σ H p⟩
theorem a8P{K:AD}{a:AB}{xs:List V}{g:TG}{tb:TS}{D:O0}{σ:St}{H:Hp}(Pv:Nat->St->Hp->Prop)(h0:Pv 0 σ H)(hl:∀i σ H,i<=xs.length->Pv i σ H->W0 K H a xs)
 (hs:∀i x σ H,xs[i]?=some x->Pv i σ H->g x σ H fun σ2 H2=>tb {D with nx:=Pv (i+1),ct:=Pv (i+1),bk:=D.nx} σ2 H2) (hd:∀σ H,Pv xs.length σ H->D.nx σ H):
 ∃W:Nat->Nat->St->Hp->Prop,(∃m,W 0 m σ H)/\∀i m σ H,W i m σ H->
  ((Itt K a).stop i H/\D.nx σ H)\/((Itt K a).go i H/\∃N:St->Hp->Prop,(∀σ' H',N σ' H'->∃m',m'<m/\W (i+1) m' σ' H')/\∀x H',(Itt K a).yld i H x H'->g x σ H' fun σ2 H2=>tb {D with nx:=N,ct:=N,bk:=D.nx} σ2 H2):=by
 refine⟨fun i m σ H=>m=xs.length - i/\i<=xs.length/\Pv i σ H,⟨xs.length,by simp,Nat.zero_le _,h0⟩, ?_⟩
 rintro i m σ H ⟨rfl,hi,p⟩
 have q:=hl i σ H hi p
 by_cases hlt:i<xs.length
 ·refine .inr ⟨⟨xs,xs[i],q,by simp [hlt]⟩,Pv (i+1),fun σ' H' p'=>⟨xs.length - (i+1),by lia,rfl,hlt,p'⟩,fun x H' y=> ?_⟩
  obtain⟨e,y⟩:=y
  subst e
  exact hs i x σ _ (y xs q) p
 ·have e:i=xs.length:=by lia
  subst e
  exact .inl ⟨⟨xs,q,AR _⟩,hd σ H p⟩
theorem a6R{lo:Int}{n:Nat}{g:TG}{tb:TS}{D:O0}{σ:St}{H:Hp}(Pv:Nat->St->Hp->Prop)(h0:Pv 0 σ H)
 (hs:∀i σ H,i<n->Pv i σ H->g (.int (lo+i)) σ H fun σ2 H2=>tb {D with nx:=Pv (i+1),ct:=Pv (i+1),bk:=D.nx} σ2 H2) (hd:∀σ H,Pv n σ H->D.nx σ H):
 ∃W:Nat->Nat->St->Hp->Prop,(∃m,W 0 m σ H)/\∀i m σ H,W i m σ H->
  ((Itr lo n).stop i H/\D.nx σ H)\/((Itr lo n).go i H/\∃N:St->Hp->Prop,(∀σ' H',N σ' H'->∃m',m'<m/\W (i+1) m' σ' H')/\∀x H',(Itr lo n).yld i H x H'->g x σ H' fun σ2 H2=>tb {D with nx:=N,ct:=N,bk:=D.nx} σ2 H2):=by
 refine⟨fun i m σ H=>m=n - i/\i<=n/\Pv i σ H,⟨n,by simp,Nat.zero_le _,h0⟩, ?_⟩
 rintro i m σ H ⟨rfl,hi,p⟩
 by_cases hlt:i<n
 ·refine .inr ⟨hlt,Pv (i+1),fun σ' H' p'=>⟨n - (i+1),by lia,rfl,hlt,p'⟩,fun x H' y=> ?_⟩
  obtain⟨e,y⟩:=y
  subst e y
  exact hs i σ _ hlt p
 ·have e:i=n:=by lia
  subst e
  exact .inl ⟨AR _,hd σ H p⟩
abbrev R2:=V->V->Hp->VK->Prop
def OpR(X:Cx)(f:AA->AA->Sem AA)(r:R2):Prop:=
 ∀(pins:List (AB×Obj)) (s:AC) (σ:St) (H:Hp) (x y:V) (v u:AA) (Q:VK),e7 X pins σ H s->l5 x v->l5 y u->r x y H Q->
  AK (model X.prog X.w) X.A (f v u) (EP X pins σ Q) X.xe s
def G2(X:Cx)(f:AA)(r:List V->Hp->VK->Prop):Prop:=
 ∀(pins:List (AB×Obj)) (s:AC) (σ:St) (H:Hp) (xs:List V) (us:List AA) (Q:VK),e7 X pins σ H s->g7 xs us->r xs H Q->
  AK (model X.prog X.w) X.A (call f us) (EP X pins σ Q) X.xe s
def b1z(X:Cx)(r:V->Hp->(Bool->Hp->Prop)->Prop):Prop:=
 ∀(pins:List (AB×Obj)) (s:AC) (σ:St) (H:Hp) (x:V) (v:AA) (Q:Bool->Hp->Prop),e7 X pins σ H s->l5 x v->r x H Q->
  AK (model X.prog X.w) X.A (truthy v) (TP X pins σ Q) X.xe s
def tOp(r:R2)(ta tb:TE):TE:=fun σ H Q=>ta σ H fun x H1=>tb σ H1 fun y H2=>r x y H2 Q
def rI(C:Int->Int->Prop)(g:Int->Int->V):R2:=fun x y H Q=>∃i j,x= .int i/\y= .int j/\C i j/\Q (g i j) H
def rI0(g:Int->Int->V):R2:=fun x y H Q=>∃i j,x= .int i/\y= .int j/\Q (g i j) H
section
variable {X:Cx}{a b c:AE}{ta tb tc:TE}{pos:Pos}
theorem b0Z(ha:PE X a ta)(hb:PE X b tb){pins:List (AB×Obj)}{s:AC}{σ:St}{H:Hp}{R:V->V->Hp->Prop}(I:e7 X pins σ H s)
 (h:ta σ H fun x H1=>tb σ H1 fun y H2=>R x y H2) {Q:AA->AC->Prop} {f:AA->AA->Sem AA}
 (hf:∀v u s2 x y H2,e7 X pins σ H2 s2->l5 x v->l5 y u->R x y H2->AK (model X.prog X.w) X.A (f v u) Q X.xe s2):
 AK (model X.prog X.w) X.A (eval a X.env) (fun v s₁=>AK (model X.prog X.w) X.A (eval b X.env) (fun u s₂=>AK (model X.prog X.w) X.A (f v u) Q X.xe s₂) X.xe s₁) X.xe s:=by
 refine G0 (ha pins s σ H _ I h) fun v s1 ⟨x,H1,I1,r1,q1⟩=> ?_
 refine G0 (hb pins s1 σ H1 _ I1 q1) fun u s2 ⟨y,H2,I2,r2,q2⟩=> ?_
 exact hf v u s2 x y H2 I2 r1 r2 q2
theorem b1i{op:Operator}{r:R2}(ho:OpR X (binaryOp op) r)(ha:PE X a ta)(hb:PE X b tb):PE X (.BinOp a op b pos) (tOp r ta tb):=by
 intro pins s σ H Q I h
 exact wpAny_BinOp (b0Z ha hb I h fun v u s2 x y H2 I2 rx ry q=>ho pins s2 σ H2 x y v u Q I2 rx ry q)
theorem opI{f:AA->AA->Sem AA}{C:Int->Int->Prop}{g:Int->Int->Int}
 (rule:∀(i j:Int) (t u:Tok) (s:AC) (Q:AA->AC->Prop) (E:AA->AC->Prop),C i j->Q (.int (g i j) s.toks) {s with toks:=s.toks+1}->AK (model X.prog X.w) X.A (f (.int i t) (.int j u)) Q E s):
 OpR X f (rI C fun i j=> .int (g i j)):=by
 intro pins s σ H x y v u Q I rx ry h
 obtain⟨i,j,rfl,rfl,hc,q⟩:=h
 obtain⟨t,rfl⟩:=rx
 obtain⟨t',rfl⟩:=ry
 exact rule i j t t' s _ _ hc ⟨.int (g i j),H,I.tok _,⟨_,rfl⟩,q⟩
theorem b0n{f:AA->AA->Sem AA}{g:Int->Int->Int}
 (rule:∀(i j:Int) (t u:Tok) (s:AC) (Q:AA->AC->Prop) (E:AA->AC->Prop),Q (.int (g i j) s.toks) {s with toks:=s.toks+1}->AK (model X.prog X.w) X.A (f (.int i t) (.int j u)) Q E s):
 OpR X f (rI0 fun i j=> .int (g i j)):=by
 intro pins s σ H x y v u Q I rx ry h
 obtain⟨i,j,rfl,rfl,q⟩:=h
 obtain⟨t,rfl⟩:=rx
 obtain⟨t',rfl⟩:=ry
 exact rule i j t t' s _ _ ⟨.int (g i j),H,I.tok _,⟨_,rfl⟩,q⟩
theorem b0m{f:AA->AA->Sem AA}{g:Int->Int->Bool}
 (rule:∀(i j:Int) (t u:Tok) (s:AC) (Q:AA->AC->Prop) (E:AA->AC->Prop),Q (.bool (g i j)) s->AK (model X.prog X.w) X.A (f (.int i t) (.int j u)) Q E s):
 OpR X f (rI0 fun i j=> .bl (g i j)):=by
 intro pins s σ H x y v u Q I rx ry h
 obtain⟨i,j,rfl,rfl,q⟩:=h
 obtain⟨t,rfl⟩:=rx
 obtain⟨t',rfl⟩:=ry
 exact rule i j t t' s _ _ ⟨.bl (g i j),H,I,rfl,q⟩
def a0N(i j:Int):Prop:=0<j/\j<1073741824
def b0T(i j:Int):Prop:=0<=j/\j<=1000000/\i.natAbs<2 ^ 64
def a3J(i j:Int):Prop:=(-(2 ^ 64)<i/\i<2 ^ 64)\/(-(2 ^ 64)<j/\j<2 ^ 64)
theorem a3J.ok{i j:Int}(h:a3J i j):IntMulOk i j:=by
 rcases h with⟨h1,h2⟩|⟨h1,h2⟩
 ·exact .of_left (intBits_le_64 h1 h2)
 ·exact .of_right (intBits_le_64 h1 h2)
theorem b0o:OpR X (binaryOp .Add) (rI0 fun i j=> .int (i+j)):=b0n fun _ _ _ _ _ _ _ q=>add_int q
theorem b0u:OpR X (binaryOp .Sub) (rI0 fun i j=> .int (i - j)):=b0n fun _ _ _ _ _ _ _ q=>sub_int q
theorem b0s:OpR X (binaryOp .Mult) (rI a3J fun i j=> .int (i*j)):=opI fun _ _ _ _ _ _ _ hc q=>mul_int q hc.ok
theorem a85:OpR X (binaryOp .FloorDiv) (rI a0N fun i j=> .int (i / j)):=opI fun i j _ _ _ _ _ hc q=>by
 have h1:(0:Int)<j:=hc.1
 have h2:j<1073741824:=hc.2
 exact floordiv_int (by lia) (by rw [Int.fdiv_eq_ediv_of_nonneg i (by lia)];exact q) (.inl (PyProof.noPylong_small (by lia)))
theorem b0r:OpR X (binaryOp .Mod) (rI (fun _ j=>0<j) fun i j=> .int (i % j)):=opI fun i j _ _ _ _ _ hc q=>by
 have h1:(0:Int)<j:=hc
 exact mod_int' (by lia) (by rw [Int.fmod_eq_emod_of_nonneg i (by lia)];exact q)
theorem a8T:OpR X (inplaceOp .Add) (rI0 fun i j=> .int (i+j)):=b0n fun _ _ _ _ _ _ _ q=>iadd_int q
end
section
variable {X:Cx}{a b c:AE}{ta tb tc:TE}{pos:Pos}
theorem a7A{pins:List (AB×Obj)}{σ:St}{H:Hp}{s:AC}{Q:VK}{k k':Bool}(I:e7 X pins σ H s)(q:Q (.bl k) H)(e:k=k'):EP X pins σ Q (.bool k') s:=by
 subst e
 exact⟨.bl k,H,I,rfl,q⟩
theorem b1f:OpR X (compareOp .Lt) (rI0 fun i j=> .bl (decide (i<j))):=b0m fun _ _ _ _ _ _ _ q=>lt_int q
theorem b1e:OpR X (compareOp .LtE) (rI0 fun i j=> .bl (decide (i<=j))):=b0m fun _ _ _ _ _ _ _ q=>le_int q
theorem b1d:OpR X (compareOp .Gt) (rI0 fun i j=> .bl (decide (j<i))):=b0m fun _ _ _ _ _ _ _ q=>gt_int q
theorem a66:OpR X (compareOp .Lt) (fun x y H Q=>∃i j,x= .str i/\y= .str j/\Q (.bl (decide (i.cps.toList<j.cps.toList))) H):=by
 intro pins s σ H x y v u Q I rx ry h
 obtain⟨i,j,rfl,rfl,q⟩:=h
 obtain⟨t,rfl⟩:=rx
 obtain⟨t',rfl⟩:=ry
 exact lt_str (a7A I q rfl)
theorem b0q:OpR X (compareOp .Is) (fun x y H Q=>y= .non/\Q (.bl (decide (x= .non))) H):=by
 intro pins s σ H x y v u Q I rx ry h
 obtain⟨rfl,q⟩:=h
 cases ry
 refine is_none_gen (a7A I q ?_)
 cases x<;>first
  |(cases rx;rfl)
  |(obtain⟨t,rfl⟩:=rx;rfl)
theorem OpR.or{f:AA->AA->Sem AA}{r r':R2}(h:OpR X f r)(h':OpR X f r'):OpR X f (fun x y H Q=>r x y H Q\/r' x y H Q):=by
 intro pins s σ H x y v u Q I rx ry q
 rcases q with q|q
 ·exact h pins s σ H x y v u Q I rx ry q
 ·exact h' pins s σ H x y v u Q I rx ry q
theorem i6(b:AE){op:CmpOp}(h:op≠.In:=by decide)(h2:op≠.NotIn:=by decide):behindInMarks op b=false:=by
 have e1:(op==CmpOp.In)=false:=by cases op<;>first|rfl|exact absurd rfl h
 have e2:(op==CmpOp.NotIn)=false:=by cases op<;>first|rfl|exact absurd rfl h2
 cases b<;>simp [behindInMarks,e1,e2]
def a9O(t:TE):TT:=fun σ H Q=>t σ H fun x H'=>∃k,x= .bl k/\Q k H'
theorem a9h{op:CmpOp}{r:R2}(ho:OpR X (compareOp op) r)(ha:PE X a ta)(hb:PE X b tb)(hm:behindInMarks op b=false):PT X (.Compare a [op] [b] pos) (a9O (tOp r ta tb)):=by
 intro pins s σ H Q I h
 refine wpAny_isTrue_Compare1 (G0 (ha pins s σ H _ I h) fun v s1 ⟨x,H1,I1,r1,q1⟩=>G0 (hb pins s1 σ H1 _ I1 q1) fun u s2 ⟨y,H2,I2,r2,q2⟩=>
  G0 (ho pins s2 σ H2 x y v u _ I2 r1 r2 q2) fun c s3 ⟨z,H3,I3,r3,k,e,q3⟩=> ?_) hm
 subst e
 cases r3
 exact wpAny_truthy_bool ⟨H3,I3,q3⟩
def a8t(r r':R2)(ta tb tc:TE):TE:=fun σ H Q=>ta σ H fun x H1=>tb σ H1 fun y H2=>r x y H2 fun z H3=>∃k,z= .bl k/\
 (if k=true then tc σ H3 fun w' H4=>r' y w' H4 Q else Q (.bl false) H3)
theorem a8g{op op':CmpOp}{r r':R2}(ho:OpR X (compareOp op) r)(ho':OpR X (compareOp op') r')(ha:PE X a ta)(hb:PE X b tb)(hc:PE X c tc)
 (hm:lastMarks [op,op'] [b,c]=false:=by with_unfolding_all rfl):PT X (.Compare a [op,op'] [b,c] pos) (a9O (a8t r r' ta tb tc)):=by
 intro pins s σ H Q I h
 refine isTrue_chain (G0 (ha pins s σ H _ I h) fun v s1 ⟨x,H1,I1,r1,q1⟩=>test_link (G0 (hb pins s1 σ H1 _ I1 q1) fun u s2 ⟨y,H2,I2,r2,q2⟩=>
  G0 (ho pins s2 σ H2 x y v u _ I2 r1 r2 q2) fun d s3 ⟨z,H3,I3,r3,k,e,q3⟩=> ?_)) hm
 subst e
 cases r3
 refine wpAny_truthy_bool ?_
 cases k with
 |false=>
  obtain⟨k',e',q'⟩:=q3
  cases e'
  exact ite_ff ⟨H3,I3,q'⟩
 |true=>
  refine ite_tt (test_last (G0 (hc pins s3 σ H3 _ I3 q3) fun w' s4 ⟨z',H4,I4,r4,q4⟩=>G0 (ho' pins s4 σ H4 y z' u w' _ I4 r2 r4 q4) fun d' s5 ⟨z2,H5,I5,r5,k2,e2,q5⟩=> ?_))
  subst e2
  cases r5
  exact wpAny_truthy_bool ⟨H5,I5,q5⟩
def a9U(K:AD)(x:V)(H:Hp)(k:Bool):Prop:=
 match x with
 | .non=>k=false
 | .bl b=>k=b
 | .int i=>k=(i !=0)
 | .str y=>y.length<=AJ/\k=((y.length:Int) !=0)
 | .byt y=>y.size<=AJ/\k=((y.size:Int) !=0)
 | .ref p=>(∃xs,R6 K H p xs/\k= !xs.isEmpty)\/(∃xs,W0 K H p xs/\k= !xs.isEmpty)\/∃kvs,H p=some (.dK kvs)/\k= !kvs.isEmpty
 |_=>False
theorem a5K{κ:Type}{kvs:List (κ×V)}{vs:List (κ×AA)}(r:KV kvs vs):(!vs.isEmpty)= !kvs.isEmpty:=by
 cases r<;>rfl
theorem a2D{xs:List V}{its:List AA}(r:g7 xs its):(!its.toArray.isEmpty)= !xs.isEmpty:=by
 cases r<;>simp
theorem a1p:(AJ:Nat)<2 ^ 63:=by rw [sizeLine_eq];decide
theorem b0Q:b1z X (fun x H Q=>∃k,a9U X.K x H k/\Q k H):=by
 intro pins s σ H x v Q I rx h
 obtain⟨k,e,q⟩:=h
 have hl:=a1p
 have hs:AJ=16777216:=sizeLine_eq
 cases x with
 |non=>
  cases rx
  have e':k=false:=e
  subst e'
  exact truthy_none ⟨H,I,q⟩
 |bl b=>
  cases rx
  have e':k=b:=e
  subst e'
  exact wpAny_truthy_bool ⟨H,I,q⟩
 |int i=>
  obtain⟨t,rfl⟩:=rx
  have e':k=(i !=0):=e
  subst e'
  exact PySem.P.truthy_int ⟨H,I,q⟩
 |str y=>
  obtain⟨t,rfl⟩:=rx
  obtain⟨hy,e'⟩:y.length<=AJ/\k=((y.length:Int) !=0):=e
  subst e'
  exact PySem.P.truthy_str (by lia) ⟨H,I.tok _,q⟩
 |byt y=>
  obtain⟨t,rfl⟩:=rx
  obtain⟨hy,e'⟩:y.size<=AJ/\k=((y.size:Int) !=0):=e
  subst e'
  exact PySem.W.truthy_bytes (by lia) ⟨H,I.tok _,q⟩
 |ref p=>
  cases rx
  have e':(∃xs,R6 X.K H p xs/\k= !xs.isEmpty)\/(∃xs,W0 X.K H p xs/\k= !xs.isEmpty)\/∃kvs,H p=some (.dK kvs)/\k= !kvs.isEmpty:=e
  rcases e' with⟨xs,hx,e'⟩|⟨xs,hx,e'⟩|⟨kvs,hx,e'⟩
  ·subst e'
   obtain⟨its,r,pl,hz⟩:=I.list hx
   have hlen:=r.length
   exact wpAny_truthy_list pl.isList (by simp only [Ae];lia) ⟨H,I.tok _,by rw [a2D r];exact q⟩
  ·subst e'
   obtain⟨its,r,pl,hz⟩:=I.tuple hx
   have hlen:=r.length
   exact truthy_tuple pl (by simp only [Ae];lia) ⟨H,I.tok _,by rw [a2D r];exact q⟩
  ·subst e'
   obtain⟨hz,hS,vs,r,m⟩:kvs.length<=AJ/\(p==sysModules)=false/\∃vs,KV kvs vs/\s.heap.DictOf (a2i X.prog X.w) p vs:=I.hok p _ hx
   have hlen:kvs.length=vs.length:=Paired.length r
   exact wpAny_truthy_dict hS m (by lia) ⟨H,I.tok _,by rw [a5K r];exact q⟩
 |_=>exact(show False from e).elim
theorem a8h(ha:PE X a ta)(he:∀whole,isTrue a X.env whole=(do let v<-whole;standAt a.pos;holding [v] (truthy v))):
 PT X a (fun σ H Q=>ta σ H fun x H'=>∃k,a9U X.K x H' k/\Q k H'):=by
 intro pins s σ H Q I h
 exact isTrue_plain (G0 (ha pins s σ H _ I h) fun v s1 ⟨x,H1,I1,r1,q1⟩=>b0Q pins s1 σ H1 x v Q I1 r1 q1) (he _)
theorem a5V:OpR X (binaryOp .Add) (fun x y H Q=>∃i j,x= .str i/\y= .str j/\i.length+j.length<=AJ/\Q (.str (i++j)) H):=by
 intro pins s σ H x y v u Q I rx ry h
 obtain⟨i,j,rfl,rfl,hz,q⟩:=h
 obtain⟨t,rfl⟩:=rx
 obtain⟨t',rfl⟩:=ry
 exact add_str (fun t' tk=>⟨.str (i++j),H,I.tok _,⟨_,rfl⟩,q⟩) hz
theorem a5m{x:V}{us:List AA}(r:g7 [x] us):∃u,us=[u]/\l5 x u:=by
 cases r with
 |cons r1 r2=>cases r2;exact⟨_,rfl,r1⟩
theorem b1w{x y:V}{us:List AA}(r:g7 [x,y] us):∃u w',us=[u,w']/\l5 x u/\l5 y w':=by
 cases r with
 |cons r1 r2=>
  cases r2 with
  |cons r3 r4=>cases r4;exact⟨_,_,rfl,r1,r3⟩
theorem a6H(hc:X.calm=true):G2 X (.builtin "min") (fun xs H Q=>∃i j,xs=[.int i,.int j]/\Q (.int (if j<i then j else i)) H):=by
 intro pins s σ H xs us Q I r h
 obtain⟨i,j,rfl,q⟩:=h
 obtain⟨u,w',rfl,⟨t,rfl⟩,⟨t',rfl⟩⟩:=b1w r
 refine min_two_ints (I.ok.hd hc) fun h' tk k=>⟨_,H,I.kept k, ?_,q⟩
 by_cases hj:j<i
 ·rw [if_pos hj,if_pos hj];exact⟨_,rfl⟩
 ·rw [if_neg hj,if_neg hj];exact⟨_,rfl⟩
end
structure b0U(h:Heap)(x dx C:AB)(mA:Str->Option AA):Prop where
 obj:h.get? x=some (PySem.W.instObj C dx)
 ns:h.Ns1 dx mA
 ne:dx≠x
theorem a6Z{h:Heap}{dx:AB}{mA:Str->Option AA}(n:h.Ns1 dx mA):∃od,h.get? dx=some od/\∀name,PySem.W.lookIn name od=some (mA name):=by
 obtain⟨o,es,ep,ho,hd,hk,_,hm⟩:=n
 refine⟨o,ho,fun name=> ?_⟩
 have e:=hm name
 unfold nsFind findBy at e
 rw [<-Array.find?_toList] at e
 unfold PySem.W.lookIn
 rw [hd]
 dsimp only
 split
 ·rename_i y q
  rw [q] at e
  exact congrArg some e
 ·rename_i q
  rw [q] at e
  have a:es.toList.any (·.refKey)=false:=by
   rw [List.any_eq_false]
   intro y hy
   obtain⟨z,t,hkey⟩:=hk y (Array.mem_toList_iff.mp hy)
   simp [DictEntry.refKey,hkey]
  have a':¬es.toList.any (·.refKey)=true:=by rw [a];exact Ar
  rw [if_neg a']
  exact congrArg some e
theorem b0U.look{h:Heap}{x dx C:AB}{mA:Str->Option AA}(I:b0U h x dx C mA):∃od,PySem.W.InstAt h x (PySem.W.instObj C dx) C (some od)/\∀name,PySem.W.lookIn name od=some (mA name):=
 let ⟨od,ho,hl⟩:=a6Z I.ns
 ⟨od,⟨I.obj,rfl,rfl,ho⟩,hl⟩
section
variable {prog:AI}{w:AG}{A:AH}{E:AA->AC->Prop}{s:AC}{K:AD}{x dx C f:AB}{mA:Str->Option AA}{name:Str}{v:AA}
end
theorem a3c.none_of{o:Option AA}(r:a3c none o):o=none:=by
 cases o with
 |none=>rfl
 |some u=>exact(show False from r).elim
section
variable {P:AI}{w:AG}{H H':Hp}{h h':Heap}{a C dx:AB}{fs fs':List (Str×V)}
end
structure Cls(K:AD)(C:AB):Prop where
 pg:PySem.W.plainGet K C Str.empty=true
 hd:PySem.W.hasDictIn K C=true
 po:PySem.W.plainOver K C=true
 sa:PySem.W.findIn K (.ref C) "__setattr__"=some (some (.builtin "object.__setattr__"))
theorem Cls.get{K:AD}{C:AB}(c:Cls K C)(f:Str):PySem.W.plainGet K C f=true:=c.pg
section
variable {X:Cx}{pins:List (AB×Obj)}{σ:St}{H:Hp}{s:AC}{a C dx:AB}{fs:List (Str×V)}{f:Str}{v:V}{A:AH}{E:AA->AC->Prop}
end
section
variable {X:Cx}{o e value:AE}{f:Str}{pos pos' tpos:Pos}{ta tv:TE}
end
section
variable {X:Cx}{pins:List (AB×Obj)}{σ:St}{H:Hp}{s:AC}{A:AH}{E:AA->AC->Prop}{Q:AA->AC->Prop}{c:AA}{b:Bool}
inductive a2o (K:AD) (H:Hp):V->AA->Prop where
 |non:a2o K H .non (.type "NoneType")
 |bl (x:Bool):a2o K H (.bl x) (.type "bool")
 |int (i:Int):a2o K H (.int i) (.type "int")
 |str (x:Str):a2o K H (.str x) (.type "str")
 |flt (x:UInt64):a2o K H (.flt x) (.type "float")
 |lst {a:AB} {xs:List V} (e:H a=some (.lst xs)):a2o K H (.ref a) (.type "list")
 |frz {a:AB} {o:Obj} {xs:List V} (e:H a=some (.frz o (.lst xs))):a2o K H (.ref a) (.type "list")
 |tup {a:AB} {xs:List V} (e:H a=some (.tup xs)):a2o K H (.ref a) (.type "tuple")
 |dK {a:AB} {kvs:List (k6×V)} (e:H a=some (.dK kvs)):a2o K H (.ref a) (.type "dict")
 |dT {a:AB} {kvs:List (List k6×V)} (e:H a=some (.dT kvs)):a2o K H (.ref a) (.type "dict")
 |ins {a C dx:AB} {fs:List (Str×V)} (e:H a=some (.ins C dx fs)) (cl:Cls K C) (ha:PySem.W.findIn K (.ref C) "__class__"=some (some (.builtin "object.__class__")))
  (hn:PySem.W.specialIn K (.builtin "object.__class__") "__get__"=some (some (.builtin "getset_descriptor.__get__"))) (htk:PySem.W.takesIn K (.builtin "object.__class__")=some true)
  (hm:PySem.W.mroIn K C (.type "object")=some true):a2o K H (.ref a) (.ref C)
end
structure J5(k:Nat)(A:AH):Prop where
 hd:A.handled=none
 dp:A.depth+3*k+5<recursionLimit
 un:A.units+16*k+200<cLine
theorem J5.mono{j k:Nat}{A:AH}(r:J5 k A)(h:j<=k):J5 j A:=⟨r.hd,by have:=r.dp;lia,by have:=r.un;lia⟩
theorem J5.deeper{k:Nat}{A:AH}(r:J5 (k+1) A)(env:Env):J5 k (A.deeper env):=
 ⟨r.hd,by have:=r.dp;show A.depth+1+3*k+5<_;lia,by have:=r.un;show A.units+3+16*k+200<_;lia⟩
theorem J5.in1{k:Nat}{A:AH}(r:J5 (k+1) A):J5 k A.in1:=
 ⟨r.hd,by have:=r.dp;show A.depth+3*k+5<_;lia,by have:=r.un;show A.units+1+16*k+200<_;lia⟩
theorem J5.depth{k:Nat}{A:AH}(r:J5 k A):A.depth<recursionLimit:=by have:=r.dp;lia
theorem J5.units{k:Nat}{A:AH}(r:J5 k A):A.units+64<cLine:=by have:=r.un;lia
def b0N:TA:=fun _ H Q=>Q [] H
def a6B(ta:TE)(tr:TA):TA:=fun σ H Q=>ta σ H fun x H1=>tr σ H1 fun xs H2=>Q (x::xs) H2
section
variable {X:Cx}{e:AE}{es:List AE}{te:TE}{t:TA}{pos:Pos}
theorem U1:PA X [] b0N:=fun _ _ _ _ H Q I h=>Calls.spliced_nil ⟨[],H,I,.nil,h⟩
theorem B2(ha:PE X e te)(hr:PA X es t)(hs:AL (e::es) X.env=(false,eval e X.env)::AL es X.env:=by rfl):PA X (e::es) (a6B te t):=by
 intro pos pins s σ H Q I h
 rw [hs]
 show AK _ _ (spliced ((false,eval e X.env)::backTo pos (AL es X.env))) _ _ s
 refine Calls.spliced_cons (G0 (ha pins s σ H _ I h) fun u s1 ⟨x,H1,I1,r1,q1⟩=> ?_)
 exact G0 (hr pos pins s1 σ H1 _ I1 q1) fun us s2 ⟨xs,H2,I2,r2,q2⟩=>⟨x::xs,H2,I2,.cons r1 r2,q2⟩
def b1S(t:TA):TE:=fun σ H Q=>t σ H fun xs H1=>xs.length<=AJ/\∀p,H1 p=none->Q (.ref p) (upd H1 p (.tup xs))
def b1O(t:TA):TE:=fun σ H Q=>t σ H fun xs H1=>xs.length<=AJ/\∀p,H1 p=none->Q (.ref p) (upd H1 p (.lst xs))
theorem b0A{x1}(h:PA X es t):PE X (.Tuple es x1 pos) (b1S t):=by
 intro pins s σ H Q I hq
 refine wpAny_Tuple_spliced (G0 (h pos pins s σ H _ I hq) fun us s1 ⟨xs,H1,I1,r,z,q⟩=>⟨by rw [<-r.length];exact z, ?_⟩)
 have hf:H1 s1.heap.objs.size=none:=I1.hok.fresh (AR _)
 refine⟨.ref s1.heap.objs.size,upd H1 s1.heap.objs.size (.tup xs),I1.laid (t':=s1.toks) (fun b u e=>Ak _ e) (AR _) ?_,rfl,q _ hf⟩
 exact⟨z,us,r,⟨_,Au _ rfl,rfl,_,rfl⟩⟩
theorem b0x(h:PA X es t):PE X (.List es pos) (b1O t):=by
 intro pins s σ H Q I hq
 refine wpAny_List_spliced (G0 (h pos pins s σ H _ I hq) fun us s1 ⟨xs,H1,I1,r,z,q⟩=>⟨by rw [<-r.length];exact z, ?_⟩)
 have hf:H1 s1.heap.objs.size=none:=I1.hok.fresh (AR _)
 refine⟨.ref s1.heap.objs.size,upd H1 s1.heap.objs.size (.lst xs),I1.laid (t':=s1.toks) (fun b u e=>Ak _ e) (AR _) ?_,rfl,q _ hf⟩
 exact⟨z,us,0,r,Au _ rfl⟩
end
abbrev Sp:=List V->Hp->VK->XK->Prop
abbrev CXT:=List Env->Hp->AC->XK->AA->AC->Prop
structure a5o(P:AI)(w:AG)(K:AD)(mg:Str->Option AA)(base:Heap)(A:AH)(outer:List Env)(s:AC)(H:Hp):Prop where
 frames:A.frames=some outer
 mod:Mod K mg base
 bs:∀b o,base.get? b=some o->s.heap.get? b=some o/\H b=none
 bsz:base.objs.size<=s.heap.objs.size
 funs:s.heap.FunFrames base outer
 frf:∀b∈frs outer,H b=none
 hok:HOk P w H s.heap
 bare:AllBare s.gens
def CE(outer:List Env)(P:AI)(w:AG)(H:Hp)(s:AC)(Q:VK)(u:AA)(s':AC):Prop:=
 ∃v H',s'.os=s.os/\AllBare s'.gens/\Un (frs outer) [] H H' s.heap s'.heap/\HOk P w H' s'.heap/\l5 v u/\Q v H'
def CR(CX:CXT)(outer:List Env)(P:AI)(w:AG)(H:Hp)(s:AC)(Q:VK)(E:XK)(r:Result)(s':AC):Prop:=
 match r with
 | .ok (.ret u)=>CE outer P w H s Q u s'
 | .ok _=>False
 | .error e=>CX outer H s E e s'
structure O1(P:AI)(w:AG)(K:AD)(mg:Str->Option AA)(base:Heap)(CX:CXT)(k:Nat)(f:AB)(fd:FuncData)(ps:List Str)(sp:Sp):Prop where
 len:∀vs H Q E,sp vs H Q E->vs.length=ps.length
 run:∀(A:AH) (outer:List Env) (s:AC) (H:Hp) (args:Args) (us:List AA) (vs:List V) (Q:VK) (E:XK),J5 k A->a5o P w K mg base A outer s H->BindsTo s fd args (ps.zip us)->g7 vs us->sp vs H Q E->
  codeAny (model P w) A (.call (.ref f) args) (CR CX outer P w H s Q E) s
theorem O1.mono{P:AI}{w:AG}{K:AD}{mg:Str->Option AA}{base:Heap}{CX:CXT}{j k:Nat}{f:AB}{fd:FuncData}{ps:List Str}{sp:Sp}(F:O1 P w K mg base CX j f fd ps sp)(h:j<=k):
 O1 P w K mg base CX k f fd ps sp:=⟨F.len,fun A outer s H args us vs Q E hr=>F.run A outer s H args us vs Q E (hr.mono h)⟩
theorem O1.imp{P:AI}{w:AG}{K:AD}{mg:Str->Option AA}{base:Heap}{CX:CXT}{k:Nat}{f:AB}{fd:FuncData}{ps:List Str}{sp sp':Sp}(F:O1 P w K mg base CX k f fd ps sp)
 (h:∀vs H Q E,sp' vs H Q E->sp vs H Q E):O1 P w K mg base CX k f fd ps sp':=
 ⟨fun vs H Q E q=>F.len vs H Q E (h _ _ _ _ q),fun A outer s H args us vs Q E hr he hb hv hs=>F.run A outer s H args us vs Q E hr he hb hv (h _ _ _ _ hs)⟩
theorem a5o.in1{P:AI}{w:AG}{K:AD}{mg:Str->Option AA}{base:Heap}{A:AH}{outer:List Env}{s:AC}{H:Hp}(e:a5o P w K mg base A outer s H):
 a5o P w K mg base A.in1 outer s H:=⟨e.frames,e.mod,e.bs,e.bsz,e.funs,e.frf,e.hok,e.bare⟩
section
variable {X:Cx}{pins:List (AB×Obj)}{σ:St}{H:Hp}{s s':AC}
theorem e7.env0(I:e7 X pins σ H s):a5o X.prog X.w X.K X.mg X.base X.A X.stack s H:=
 ⟨I.ok.frames,I.ok.mod,I.bs,Nat.le_trans I.ok.bsz I.sz,I.stack,I.stkFree,I.hok,I.bare⟩
theorem e7.after{Q:VK}{u:AA}(I:e7 X pins σ H s)(h:CE X.stack X.prog X.w H s Q u s'):EP X pins σ Q u s':=by
 obtain⟨v,H',os,bare,un,hok,r,q⟩:=h
 obtain⟨hh,g,d,t,os'⟩:=s'
 obtain rfl:os'=s.os:=os
 exact⟨v,H',I.call (h':=hh) (g':=g) (d':=d) (t':=t) (ch:=[]) un hok bare (fun b z=>absurd z (by simp)),r,q⟩
end
def b1q(sp:Sp)(dvs:List V)(E:XK)(t:TA):TE:=fun σ H Q=>t σ H fun vs H1=>sp (vs++dvs) H1 Q E
def a1D(K:AD)(fd:FuncData)(ps:List Str)(ds:List AA):Prop:=
 ∀(s:AC) (us:List AA),K.In s.heap->(us++ds).length=ps.length->BindsTo s fd ⟨us,[]⟩ (ps.zip (us++ds))
theorem a1D.all{K:AD}{fd:FuncData}{ps:List Str}(h:∀us:List AA,us.length=ps.length->bindArgs fd ⟨us,[]⟩=pure (ps.zip us)):a1D K fd ps []:=fun s us _ hl=>by
 rw [Ag] at hl ⊢
 exact .of_eq (h us hl)
def a5q(CX:CXT)(X:Cx)(E:XK):Prop:=∀(pins:List (AB×Obj)) (σ:St) (H:Hp) (s:AC) (e:AA) (s':AC),e7 X pins σ H s->CX X.stack H s E e s'->X.xe e s'
section
variable {X:Cx}{CX:CXT}{k:Nat}{f C:AB}{fd:FuncData}{ps:List Str}{sp:Sp}{dvs:List V}{ds:List AA}{E:XK}{x m:Str}{p pos apos:Pos}{e o:AE}{es:List AE}{ta:TE}{t:TA}
theorem a8l{pins:List (AB×Obj)}{σ:St}{H:Hp}{s:AC}{Q:VK}{us:List AA}{vs:List V}(F:O1 X.prog X.w X.K X.mg X.base CX k f fd ps sp)(hr:J5 k X.A)(hb:a1D X.K fd ps ds)(hd:g7 dvs ds)(hx:a5q CX X E)
 (I:e7 X pins σ H s) (r:g7 vs us) (h:sp (vs++dvs) H Q E):AK (model X.prog X.w) X.A (call (.ref f) us) (EP X pins σ Q) X.xe s:=by
 have r2:g7 (vs++dvs) (us++ds):=r.append hd
 have hl:(us++ds).length=ps.length:=by rw [<-r2.length];exact F.len _ _ _ _ h
 refine wpAny_call (codeAny_mono (F.run X.A X.stack s H ⟨us,[]⟩ (us++ds) (vs++dvs) Q E hr I.env0 (hb s us I.kIn hl) r2 h) fun r s' hq=> ?_)
 cases r with
 |error e=>exact hx pins σ H s e s' I hq
 |ok fl=>
  cases fl with
  |ret u=>exact I.after hq
  |next=>exact False.elim hq
  |brk=>exact False.elim hq
  |cont=>exact False.elim hq
theorem a9a(F:O1 X.prog X.w X.K X.mg X.base CX k f fd ps sp)(hr:J5 k X.A)(hg:Gl X x)(hm:X.mg x=some (.ref f))(hk:PySem.W.keepIn X.K (.ref f)=true)(hb:a1D X.K fd ps ds)(hd:g7 dvs ds)(hx:a5q CX X E)
 (ha:PA X (e::es) t) (hdb:(x==("__debug__":Str))=false:=by decide) (he:AL (e::es) X.env=(false,eval e X.env)::AL es X.env:=by rfl) (hpl:(backTo pos (AL es X.env)).any (·.1)=false:=by rfl):
 PE X (.Call (.Name x p) (e::es) [] pos) (b1q sp dvs E t):=by
 intro pins s σ H Q I h
 refine wpAny_Call_Name_kw (a6q I hg hm ?_ hdb)
 refine PySem.W.callWith_K (h₀:=X.base) I.ok.mod.kin hk (G0 (ha pos pins s σ H _ I h) fun us s1 ⟨vs,H1,I1,r,q⟩=>⟨I1.kIn, ?_⟩) he hpl
 exact a8l F hr hb hd hx I1 r q
end
section
variable {X:Cx}{CX:CXT}{k:Nat}{f C:AB}{fd:FuncData}{ps ks:List Str}{sp:Sp}{E:XK}{x m:Str}{p pos apos kpos:Pos}{e o:AE}{es:List AE}{kws:List Keyword}{te ta:TE}{t tk:TA}{nm:Option Str}
variable {g:List AA->List AA->List AA}{gV:List V->List V->List V}
end
structure g8(N P:List Str)(sc:Scope):Prop where
 kind:sc.kind= .function
 co:sc.isCoroutine=false
 gen:sc.isGenerator=false
 nd:N.Nodup
 pre:N.take P.length=P
 par:∀x∈P,sc.names.lookup x=some .local\/sc.names.lookup x=some .cell
 nofree:∀y∈sc.names,y.2≠.free
theorem a3u{kindOf:Str->Option NameKind}{x:Str}:∀{binds:List (Str×AA)} {m:Str->Option AA},(∀v,(x,v)∉binds)->bindL kindOf binds m x=m x
 |[],_,_=>rfl
 |(n,v)::r,m,h=>by
  unfold bindL
  rw [a3u fun w hw=>h w (Ah _ hw)]
  split
  ·have:x≠n:=by rintro rfl;exact h v Aj
   simp [this]
  ·rfl
theorem a3s{kindOf:Str->Option NameKind}{x:Str}:∀{binds:List (Str×AA)} {m:Str->Option AA},(∀v,(x,v)∉binds)->bindC kindOf binds m x=m x
 |[],_,_=>rfl
 |(n,v)::r,m,h=>by
  unfold bindC
  rw [a3s fun w hw=>h w (Ah _ hw)]
  split
  ·rfl
  ·have:x≠n:=by rintro rfl;exact h v Aj
   simp [this]
theorem a3t{kindOf:Str->Option NameKind}{x:Str}{v:AA}:∀{P:List Str} {vs:List AA} {i:Nat} {m:Str->Option AA},P.Nodup->P[i]?=some x->vs[i]?=some v->kindOf x=some .local->
 bindL kindOf (P.zip vs) m x=some v
 |[],_,_,_,_,h,_,_=>by simp at h
 |_::_,[],_,_,_,_,h,_=>by simp at h
 |p::P,w::vs,0,m,nd,h1,h2,hk=>by
  simp at h1 h2;subst h1;subst h2
  show bindL kindOf ((p,w)::P.zip vs) m p=_
  unfold bindL
  rw [a3u fun v hv=>(List.nodup_cons.mp nd).1 (List.of_mem_zip hv).1,if_pos hk]
  simp
 |p::P,w::vs,i+1,m,nd,h1,h2,hk=>by
  show bindL kindOf ((p,w)::P.zip vs) m x=_
  unfold bindL
  exact a3t (i:=i) (List.nodup_cons.mp nd).2 (by simpa using h1) (by simpa using h2) hk
theorem a3r{kindOf:Str->Option NameKind}{x:Str}{v:AA}:∀{P:List Str} {vs:List AA} {i:Nat} {m:Str->Option AA},P.Nodup->P[i]?=some x->vs[i]?=some v->kindOf x≠some .local->
 bindC kindOf (P.zip vs) m x=some v
 |[],_,_,_,_,h,_,_=>by simp at h
 |_::_,[],_,_,_,_,h,_=>by simp at h
 |p::P,w::vs,0,m,nd,h1,h2,hk=>by
  simp at h1 h2;subst h1;subst h2
  show bindC kindOf ((p,w)::P.zip vs) m p=_
  unfold bindC
  rw [a3s fun v hv=>(List.nodup_cons.mp nd).1 (List.of_mem_zip hv).1,if_neg hk]
  simp
 |p::P,w::vs,i+1,m,nd,h1,h2,hk=>by
  show bindC kindOf ((p,w)::P.zip vs) m x=_
  unfold bindC
  exact a3r (i:=i) (List.nodup_cons.mp nd).2 (by simpa using h1) (by simpa using h2) hk
def a08(N:List Str)(vs:List V):St:=vs.map some++AN (N.length - vs.length) none
def a4D(CX:CXT)(P:AI)(w:AG)(K:AD)(mg:Str->Option AA)(base:Heap)(N:List Str)(qual:Str)(scope:Scope)(f:AB)(cd:AA)(A:AH)(outer:List Env)(s:AC)(H:Hp)(E:XK):Cx where
 prog:=P
 w:=w
 K:=K
 mg:=mg
 base:=base
 A:=A.deeper (envOfC qual scope s.heap.objs.size f cd)
 N:=N
 s₀:=s
 H₀:=H
 env:=envOfC qual scope s.heap.objs.size f cd
 outer:=outer
 stack:=envOfC qual scope s.heap.objs.size f cd::outer
 ex:=[]
 calm:=true
 fn:=fun _=>true
 pn:=[]
 xe:=fun e s'=>AK (model P w) (A.deeper (envOfC qual scope s.heap.objs.size f cd)) (leaving (envOfC qual scope s.heap.objs.size f cd) e) (fun _ s''=>CX outer H s E e s'') (fun e' s''=>CX outer H s E e' s'') s'
theorem a4A{sc:Scope}{n:Nat}{x:Str}(h:sc.names.lookup x=some .cell):∃c,(cellsFrom n sc.names []).lookup x=some c:=by
 have q:=PySem.W.cellsFrom_some sc.names n [] (.inl h)
 exact Option.isSome_iff_exists.mp q
theorem a6W{CX:CXT}{P:AI}{w:AG}{K:AD}{mg:Str->Option AA}{base:Heap}{N ps:List Str}{qual:Str}{scope:Scope}{f:AB}{cd:AA}{A:AH}{outer:List Env}{s s1:AC}{H:Hp}{E:XK}{us:List AA}{vs:List V}
 (S:g8 N ps scope) (hd:A.handled=none) (e0:a5o P w K mg base A outer s H) (hl:vs.length=ps.length) (r:g7 vs us)
 (x:InCallC s s.heap.objs.size (bindL (envOfC qual scope s.heap.objs.size f cd).kindOf (ps.zip us) fun _=>none) (cellsFrom (s.heap.objs.size+1) scope.names []) (bindC (envOfC qual scope s.heap.objs.size f cd).kindOf (ps.zip us) fun _=>none) s1):
 e7 (a4D CX P w K mg base N qual scope f cd A outer s H E) [] (a08 N vs) H s1:=by
 have hpl:ps.length<=N.length:=by have:=congrArg List.length S.pre;rw [List.length_take] at this;lia
 obtain⟨h1,tk,rfl,hk⟩:=x.done
 have noA:∀b:AB,b∉(a4D CX P w K mg base N qual scope f cd A outer s H E).ex:=fun b z=>absurd (show b∈([]:List AB) from z) (by simp)
 refine⟨⟨e0.mod,S.kind,rfl,rfl,AR _,fun y z c h1 h2=> ?_,fun y hy=> ?_,fun y c _ h=> ?_,fun _=>hd,Around.frames_deeper e0.frames,.inr ⟨rfl,rfl⟩,fun b z=>absurd z (noA b),e0.bs,e0.bsz,fun b _ _=>noA b,fun b z=>absurd z (noA b),e0.funs,e0.frf⟩,
  rfl,e0.bare,Un.kept hk,⟨_,x.toInCall.ns,fun i y v h1 h2 h3=> ?_⟩,fun y c h=>⟨_,x.cell y c h⟩,e0.hok.fresh (AR _),fun y c h=> ?_,fun p hp=>absurd (show p∈([]:List (AB×Obj)) from hp) (by simp),e0.hok.kept hk, ?_⟩
 ·exact name_of_addr x.apart (PySem.mem_of_lookup h1) (PySem.mem_of_lookup h2)
 ·have hy:scope.names.lookup y=some .cell\/scope.names.lookup y=some .free:=hy
  rcases hy with hy|hy
  ·exact a4A hy
  ·exact absurd rfl (S.nofree _ (PySem.mem_of_lookup hy))
 ·exact Ay (x.above y c (PySem.mem_of_lookup h))
 ·have hi:i<vs.length:=by
   unfold a08 at h2
   by_cases hi:i<vs.length
   ·exact hi
   ·rw [List.getElem?_append_right (by simpa using hi)] at h2
    rw [List.getElem?_replicate] at h2
    split at h2<;>cases h2
  have ha:vs[i]?=some v:=by
   unfold a08 at h2
   rw [Aw (by simpa using hi),Av] at h2
   cases e:vs[i]? with
   |none=>rw [e] at h2;cases h2
   |some a=>rw [e] at h2;cases h2;rfl
  obtain⟨u,hu,rv⟩:=r.get ha
  have hp:ps[i]?=some y:=by
   rw [<-S.pre,List.getElem?_take_of_lt (by lia)];exact h1
  have ndP:ps.Nodup:=by rw [<-S.pre];exact S.nd.sublist (List.take_sublist _ _)
  refine⟨u,rv, ?_⟩
  rcases S.par y (BA hp) with k|k
  ·exact .inl ⟨k,a3t ndP hp hu k⟩
  ·obtain⟨c,e⟩:=a4A (n:=s.heap.objs.size+1) k
   refine .inr ⟨.inl k,c,e, ?_⟩
   have q:=x.cell y c e
   rw [a3r ndP hp hu (by show scope.names.lookup y≠_;rw [k];decide)] at q
   exact q
 ·exact e0.hok.fresh (Ay (x.above y c (PySem.mem_of_lookup h)))
 ·unfold a08
  show _=N.length
  rw [AU,Ai,List.length_replicate]
  lia
theorem b05{CX:CXT}{P:AI}{w:AG}{K:AD}{mg:Str->Option AA}{base:Heap}{k:Nat}{f:AB}{name qual:Str}{params:Arguments}{body:List Stmt}{scope:Scope}{dV kV doc pm cdv ct oc:AA}{an od:Option AB}
 {osl:Array (Option AA)} {N ps:List Str} {sp:Sp} (lk:K.lookup f=some ⟨oc,od,.func (PySem.W.fnOf name qual params body scope dV kV doc pm an cdv ct),osl⟩) (hcd:PySem.W.codeIn K cdv qual=true) (S:g8 N ps scope)
 (len:∀vs H Q E,sp vs H Q E->vs.length=ps.length)
 (hbody:∀(A:AH) (outer:List Env) (s:AC) (H:Hp) (vs:List V) (Q:VK) (E:XK),J5 k (A.deeper (envOfC qual scope s.heap.objs.size f cdv))->sp vs H Q E->
  ∃t,PSs (a4D CX P w K mg base N qual scope f cdv A outer s H E) body t/\t {nx:=fun _ H'=>Q .non H',rt:=Q} (a08 N vs) H):
 O1 P w K mg base CX (k+1) f (PySem.W.fnOf name qual params body scope dV kV doc pm an cdv ct) ps sp:=by
 refine⟨len,fun A outer s H args us vs Q E hr e0 hb r hsp=> ?_⟩
 have hl:=len _ _ _ _ hsp
 have KX:K.In s.heap:=e0.mod.kin.keeps fun b o e=>(e0.bs b o e).1
 have lim:s.heap.NoLimit:=e0.mod.nolimit.keeps fun b o e=>(e0.bs b o e).1
 have hkind:∀y∈ps.zip us,scope.names.lookup y.1=some .local\/(scope.names.lookup y.1=some .cell/\((cellsFrom (s.heap.objs.size+1) scope.names []).lookup y.1).isSome=true):=fun⟨n,v⟩ hy=>by
  rcases S.par n (List.of_mem_zip hy).1 with q|q
  ·exact .inl q
  ·exact .inr ⟨q,PySem.W.cellsFrom_some _ _ _ (.inl q)⟩
 refine codeAny_call_function hr.depth (KX _ _ lk) rfl S.co S.gen rfl (PySem.W.codeRec_of KX hcd) (hb _ _ _ _ ?_)
 refine wpAny_newFunctionEnv_cells S.kind hkind fun env he s1 x=> ?_
 subst he
 refine⟨lim.keeps x.toInCall.keep,codeAny_func ?_⟩
 obtain⟨t,ht,hq⟩:=hbody A outer s H vs Q E (hr.deeper _) hsp
 have I:e7 (a4D CX P w K mg base N qual scope f cdv A outer s H E) [] (a08 N vs) H s1:=a6W S hr.hd e0 hl r x
 refine wpAny_mono (ht [] s1 (a08 N vs) H _ I hq) (fun fl s' hs=> ?_) fun e s' hs=>hs
 have fin:∀{σ':St} {H':Hp} {v:V} {u:AA},e7 (a4D CX P w K mg base N qual scope f cdv A outer s H E) [] σ' H' s'->l5 v u->Q v H'->CE outer P w H s Q u s':=
  fun {σ' H' v u} J rv q=>⟨v,H',J.os,J.bare,J.base,J.hok,rv,q⟩
 cases fl with
 |ret u=>
  obtain⟨v,σ',H',J,rv,q⟩:=hs
  exact fin J rv q
 |next=>
  obtain⟨σ',H',J,q⟩:=hs
  exact fin (v:=V.non) (u:=Value.none) J rfl q
 |brk=>
  obtain⟨_,_,_,q⟩:=hs
  exact False.elim q
 |cont=>
  obtain⟨_,_,_,q⟩:=hs
  exact False.elim q
section
variable {X:Cx}{x:Str}{p pos:Pos}{e:AE}{es:List AE}{t:TA}{id T:String}{r:List V->Hp->VK->Prop}
def tCB(r:List V->Hp->VK->Prop)(t:TA):TE:=fun σ H Q=>t σ H fun vs H1=>r vs H1 Q
theorem a2W(hc:G2 X (.builtin id) r)(hg:Gl X x)(hm:X.mg x=none)(hv:bootBuiltins x=some (.builtin id))(ha:PA X (e::es) t)(hn:x≠"__name__":=by decide)(hdb:(x==("__debug__":Str))=false:=by decide)
 (he:AL (e::es) X.env=(false,eval e X.env)::AL es X.env:=by rfl) (hpl:(backTo pos (AL es X.env)).any (·.1)=false:=by rfl):PE X (.Call (.Name x p) (e::es) [] pos) (tCB r t):=by
 intro pins s σ H Q I h
 refine wpAny_Call_Name_kw (a31 I hg hm hv ?_ hn hdb)
 exact PyProof.Rows.callWith_builtin1 (G0 (ha pos pins s σ H _ I h) fun us s1 ⟨vs,H1,I1,r1,q1⟩=>hc pins s1 σ H1 vs us Q I1 r1 q1) he hpl
theorem a67(hc:G2 X (.type T) r)(hg:Gl X x)(hm:X.mg x=none)(hv:bootBuiltins x=some (.type T))(ha:PA X (e::es) t)(hn:x≠"__name__":=by decide)(hdb:(x==("__debug__":Str))=false:=by decide)
 (he:AL (e::es) X.env=(false,eval e X.env)::AL es X.env:=by rfl) (hpl:(backTo pos (AL es X.env)).any (·.1)=false:=by rfl):PE X (.Call (.Name x p) (e::es) [] pos) (tCB r t):=by
 intro pins s σ H Q I h
 refine wpAny_Call_Name_kw (a31 I hg hm hv ?_ hn hdb)
 exact PyProof.Rows.callWith_type1 (G0 (ha pos pins s σ H _ I h) fun us s1 ⟨vs,H1,I1,r1,q1⟩=>hc pins s1 σ H1 vs us Q I1 r1 q1) he hpl
end
end L2
namespace HT
open PySem PyProof.Rows
section
open PySem.SeqAt
open PySem.AutoSeq1 (wpAny_loadPart')
open PySem.MeetsSeq PySem.MeetsSeq2 PySem.MeetsSeq3
end
section
variable {prog:AI}{w:AG}{A:AH}{E:AA->AC->Prop}{s:AC}
theorem cat_tup{t b:AB}{vs ws:List AA}{Q:AA->AC->Prop}(ht:IsTup s.heap t vs.toArray)(hb:IsTup s.heap b ws.toArray)(hv:vs≠[])
 (h1:ws=[]->Q (.ref t) s) (h2:ws≠[]->Q (.ref s.heap.objs.size) {s with heap:=s.heap.push {cls:= .type "tuple",data:= .seq (vs++ws).toArray}})
 (hsz:vs.length+ws.length<=AJ):AK (model prog w) A (binaryOp .Add (.ref t) (.ref b)) Q E s:=by
 obtain⟨⟨cls,dd,data,sl⟩,ho,hc,n,hd⟩:=id ht
 obtain⟨⟨cls2,dd2,data2,sl2⟩,ho2,hc2,n2,hd2⟩:=id hb
 simp only at hc hd hc2 hd2
 subst hc hd hc2 hd2
 have e:vs.toArray++ws.toArray=(vs++ws).toArray:=by simp
 by_cases hw:ws=[]
 ·exact concat_meets ⟨_,ho,rfl⟩ ⟨_,ho2,rfl⟩ noFill_tuple_add seq_tuple_add PySem.F.slot_tuple_add PySem.F.entry_tuple_add (PySem.F.args_tuple_add_2 _ _)
   (tuple_addW1 t b vs.toArray ws.toArray n n2 dd dd2 sl sl2 (by simpa using hv) (by simp [hw])) ⟨ho,ho2,h1 hw⟩
 ·refine concat_meets ⟨_,ho,rfl⟩ ⟨_,ho2,rfl⟩ noFill_tuple_add seq_tuple_add PySem.F.slot_tuple_add PySem.F.entry_tuple_add (PySem.F.args_tuple_add_2 _ _)
   (tuple_addW2 t b vs.toArray ws.toArray n n2 dd dd2 sl sl2 (by simpa using hv) (by simpa using hw) (by rw [Ae,Ae];exact hsz)) ⟨ho,ho2, ?_⟩
  rw [e]
  exact h2 hw
def sIx(n d:Nat):Option Int->Nat
 |none=>d
 |some v=>if v<0 then(v+(n:Int)).toNat else min v.toNat n
theorem sIx_nat(n d k:Nat):sIx n d (some (k:Int))=min k n:=by
 show(if(k:Int)<0 then((k:Int)+(n:Int)).toNat else min (k:Int).toNat n)=min k n
 rw [if_neg (by lia),Int.toNat_natCast]
theorem sIx_le(n d:Nat)(hd:d<=n)(o:Option Int):sIx n d o<=n:=by
 cases o with
 |none=>exact hd
 |some v=>
  show(if v<0 then(v+(n:Int)).toNat else min v.toNat n)<=n
  by_cases hv:v<0
  ·rw [if_pos hv];lia
  ·rw [if_neg hv];exact Nat.min_le_right _ _
theorem a59(v:Int)(n d:Nat):(if v<0 then max (v+(n:Int)) 0 else min v (n:Int))=((sIx n d (some v):Nat):Int):=by
 show(if v<0 then max (v+(n:Int)) 0 else min v (n:Int))=(((if v<0 then(v+(n:Int)).toNat else min v.toNat n):Nat):Int)
 by_cases hv:v<0
 ·simp only [if_pos hv];lia
 ·simp only [if_neg hv];lia
theorem a5x(lo hi:Option Int)(n:Nat):Builtin.Slice.sliceAdjust lo hi 1 (n:Int)=(((sIx n 0 lo:Nat):Int),((sIx n n hi:Nat):Int)):=by
 have h1:¬((1:Int)<0):=by lia
 unfold Builtin.Slice.sliceAdjust
 simp only [h1,if_false]
 refine Prod.ext ?_ ?_
 ·cases lo with
  |none=>rfl
  |some v=>exact a59 v n 0
 ·cases hi with
  |none=>rfl
  |some v=>exact a59 v n n
theorem a5X(i j:Nat):Builtin.Slice.slicePlaces (i:Int) (j:Int) 1=j - i:=by
 unfold Builtin.Slice.slicePlaces
 have h1:(1:Int)>0:=by lia
 simp only [h1,if_true,Int.ediv_one]
 split<;>lia
theorem a25{v:AA}{o:Option Int}{Q:Option Int->AC->Prop}(p:IsPart v o)(h:Q o s):AK (model prog w) A (Builtin.Slice.slicePartIndex v) Q E s:=by
 cases p with
 |none=>exact slicePart_none h
 |int i t=>exact slicePart_int h
theorem sliceApplied_gen{sl:AB}{vl vu:AA}{lo hi:Option Int}{n:Nat}{Q:Int×Int×Nat->AC->Prop}(hs:s.heap.IsSliceOf sl vl vu .none)(pl:IsPart vl lo)(pu:IsPart vu hi)
 (h:Q (((sIx n 0 lo:Nat):Int),1,sIx n n hi - sIx n 0 lo) s):AK (model prog w) A (Builtin.Slice.sliceApplied (.ref sl) (pure (n:Int))) Q E s:=by
 obtain⟨os,hos,hcs,hds⟩:=id hs
 unfold Builtin.Slice.sliceApplied Builtin.Slice.sliceFields
 refine AO (AO (wpAny_field hos hds (x:=vl) rfl (AO (wpAny_field hos hds (x:=vu) rfl (AO (wpAny_field hos hds (x:= .none) rfl (AW ?_)))))))
 refine AO (slicePart_none ?_)
 show AK _ _ (if((1:Int)==0)=true then _ else _) _ _ s
 rw [if_neg (by decide)]
 refine AO (a25 pl (AO (a25 pu (AO (AW ?_)))))
 show AK _ _ (match Builtin.Slice.sliceAdjust lo hi 1 (n:Int) with|(lo,hi)=>pure (lo,(1:Int),Builtin.Slice.slicePlaces lo hi 1)) _ _ s
 rw [a5x lo hi n]
 show AK _ _ (pure (((sIx n 0 lo:Nat):Int),(1:Int),Builtin.Slice.slicePlaces ((sIx n 0 lo:Nat):Int) ((sIx n n hi:Nat):Int) 1)) _ _ s
 rw [a5X]
 exact AW h
theorem a8a(xs:Array AA)(i k:Nat):((Ad k).filterMap fun(m:Nat)=>xs[((i:Int)+(m:Int)*1).toNat]?).toArray=((xs.toList.drop i).take k).toArray:=by
 have e:(fun(m:Nat)=>xs[((i:Int)+(m:Int)*1).toNat]?)=fun m=>xs[i+m]?:=by
  funext m
  have:((i:Int)+(m:Int)*1).toNat=i+m:=by lia
  rw [this]
 rw [e]
 have:=pick_run xs i k
 rw [List.filterMap_map] at this
 have e2:((fun x=>xs[x]?)∘fun x=>i+x)=fun m=>xs[i+m]?:=rfl
 rw [e2] at this
 rw [this]
theorem getItem_tuple_cut{t sl:AB}{items:Array AA}{vl vu:AA}{lo hi:Option Int}{Q:AA->AC->Prop}(ht:IsTup s.heap t items)(hs:s.heap.IsSliceOf sl vl vu .none)(pl:IsPart vl lo)(pu:IsPart vu hi)
 (hw:¬(sIx items.size 0 lo=0/\sIx items.size items.size hi=items.size))
 (h:Q (.ref s.heap.objs.size) {s with heap:=s.heap.push {cls:= .type "tuple",data:= .seq ((items.toList.drop (sIx items.size 0 lo)).take (sIx items.size items.size hi - sIx items.size 0 lo)).toArray}})
 (hsz:items.size<=AJ):AK (model prog w) A (getItem (.ref t) (.ref sl)) Q E s:=by
 have htake:sizeOk (.seq ((items.toList.drop (sIx items.size 0 lo)).take (sIx items.size items.size hi - sIx items.size 0 lo)).toArray):=by
  show((items.toList.drop (sIx items.size 0 lo)).take (sIx items.size items.size hi - sIx items.size 0 lo)).toArray.size<=AJ
  rw [Ae,List.length_take,List.length_drop,Array.length_toList]
  lia
 have hj:sIx items.size items.size hi<=items.size:=sIx_le _ _ (AR _) hi
 obtain⟨os,hos,hcs,hds⟩:=id hs
 have hTs:s.TypeIs (.ref sl) "slice":=⟨os,hos,hcs⟩
 unfold getItem
 try with_reducible refine wpAny_holding ?_
 first|refine AO (AW ?_)|skip
 refine AO (wpAny_sequenceKey ht.typeIs (by decide) ?_)
 refine AO (wpAny_callSpecial?_slot (name:=AQ "__getitem__") ht.typeIs PyProof.Rows.slot_tuple_getitem
  (wpAny_call_entry PyProof.Rows.slot_tuple_getitem ht.typeIs entry_tuple_getitem ?_ (args_tuple_getitem _ _)))
 show AK _ _ (Builtin.Tuple.tupleItemsOf (.ref t)>>=_) _ _ s
 refine AO (tupleItemsOf_ ht ?_)
 refine AO (wpAny_typeOf hTs ?_)
 rw [if_pos (by decide)]
 refine AO (sliceApplied_gen hs pl pu ?_)
 have hno:¬((((sIx items.size 0 lo:Nat):Int)==0 &&(1:Int)==1 &&(sIx items.size items.size hi - sIx items.size 0 lo)==items.size)=true):=by
  intro q
  rw [Bool.and_eq_true,Bool.and_eq_true] at q
  have q1:((sIx items.size 0 lo:Nat):Int)=0:=eq_of_beq q.1.1
  have q2:sIx items.size items.size hi - sIx items.size 0 lo=items.size:=eq_of_beq q.2
  exact hw ⟨by lia,by lia⟩
 show AK _ _ (if(((sIx items.size 0 lo:Nat):Int)==0 &&(1:Int)==1 &&(sIx items.size items.size hi - sIx items.size 0 lo)==items.size)=true then _ else _) _ _ s
 rw [if_neg hno,a8a]
 first
  |exact AO (m:=Builtin.Tuple.tupleExact _) (wpAny_newObj_type (AW ⟨_,rfl,AW h⟩) htake)
  |exact AO (m:=Builtin.Tuple.tupleExact _) (wpAny_newObj_type (AO (AW (AW ⟨_,rfl,AW h⟩))) htake)
  |exact AO (AO (m:=Builtin.Tuple.tupleExact _) (wpAny_newObj_type (AW (AW ⟨_,rfl,AW h⟩)) htake))
  |exact AO (AO (m:=Builtin.Tuple.tupleExact _) (wpAny_newObj_type (AW ⟨_,rfl,AW h⟩) htake))
end
end HT
namespace L2
open PySem PySem.Spec PyProof.Rows
abbrev TO:=St->Hp->(Option Int->Hp->Prop)->Prop
def PO(X:Cx)(e:Option AE)(t:TO):Prop:=
 ∀(pins:List (AB×Obj)) (s:AC) (σ:St) (H:Hp) (Q:Option Int->Hp->Prop),e7 X pins σ H s->t σ H Q->
  AK (model X.prog X.w) X.A (evalPart e X.env) (fun u s'=>∃o H',e7 X pins σ H' s'/\IsPart u o/\Q o H') X.xe s
def a9w:TO:=fun _ H Q=>Q none H
def b1t(t:TE):TO:=fun σ H Q=>t σ H fun x H1=>∃i,x= .int i/\Q (some i) H1
section
variable {X:Cx}{e:AE}{te:TE}{lo hi:Option AE}{tl th:TO}{pos p2:Pos}
theorem a9e:PO X none a9w:=by
 intro pins s σ H Q I h
 rw [evalPart_none]
 exact AW ⟨none,H,I,.none,h⟩
theorem a9f(h:PE X e te):PO X (some e) (b1t te):=by
 intro pins s σ H Q I hw
 rw [evalPart_some]
 refine G0 (h pins s σ H _ I hw) fun u s1 ⟨x,H1,I1,r1,q1⟩=> ?_
 obtain⟨i,rfl,q⟩:=q1
 obtain⟨t,rfl⟩:=r1
 exact⟨some i,H1,I1,.int i t,q⟩
def SlR(X:Cx)(r:V->Option Int->Option Int->Hp->VK->Prop):Prop:=
 ∀(pins:List (AB×Obj)) (s:AC) (σ:St) (H:Hp) (x:V) (v vl vu:AA) (lo hi:Option Int) (sl:AB) (Q:VK),e7 X pins σ H s->l5 x v->s.heap.IsSliceOf sl vl vu .none->IsPart vl lo->IsPart vu hi->r x lo hi H Q->
  ∃T id,typeLookup (.type T) "__getitem__"=pure (some (.builtin id))/\s.TypeIs v T/\AK (model X.prog X.w) X.A (getItem v (.ref sl)) (EP X pins σ Q) X.xe s
theorem SlR.or{r r':V->Option Int->Option Int->Hp->VK->Prop}(h:SlR X r)(h':SlR X r'):SlR X (fun x lo hi H Q=>r x lo hi H Q\/r' x lo hi H Q):=by
 intro pins s σ H x v vl vu lo hi sl Q I rx hs pl pu q
 rcases q with q|q
 ·exact h pins s σ H x v vl vu lo hi sl Q I rx hs pl pu q
 ·exact h' pins s σ H x v vl vu lo hi sl Q I rx hs pl pu q
def tSl(r:V->Option Int->Option Int->Hp->VK->Prop)(te:TE)(tl th:TO):TE:=fun σ H Q=>te σ H fun x H1=>tl σ H1 fun l H2=>th σ H2 fun u H3=>r x l u H3 Q
theorem a78{r:V->Option Int->Option Int->Hp->VK->Prop}(hr:SlR X r)(he:PE X e te)(hl:PO X lo tl)(hu:PO X hi th):PE X (.Subscript e (.Slice lo hi none p2) pos) (tSl r te tl th):=by
 intro pins s σ H Q I h
 refine Subscript_ (G0 (he pins s σ H _ I h) fun v s1 ⟨x,H1,I1,r1,q1⟩=> ?_)
 refine wpAny_Slice (G0 (hl pins s1 σ H1 _ I1 q1) fun vl s2 ⟨l,H2,I2,pl,q2⟩=>G0 (hu pins s2 σ H2 _ I2 q2) fun vu s3 ⟨u,H3,I3,pu,q3⟩=> ?_)
 rw [evalPart_none]
 refine AW ?_
 have I4:e7 X pins σ H3 {s3 with heap:=s3.heap.push {cls:= .type "slice",data:= .fields #[vl,vu,.none]}}:=I3.kept (t':=s3.toks) fun b ob q=>Ak _ q
 obtain⟨T,id,hT,ht,hg⟩:=hr pins {s3 with heap:=s3.heap.push {cls:= .type "slice",data:= .fields #[vl,vu,.none]}} σ H3 x v vl vu l u s3.heap.objs.size Q I4 r1 (Heap.IsSliceOf.new ..) pl pu q3
 show AK (model X.prog X.w) X.A (subscriptTail e (.Slice lo hi none p2) v (.ref s3.heap.objs.size)) (EP X pins σ Q) X.xe {s3 with heap:=s3.heap.push {cls:= .type "slice",data:= .fields #[vl,vu,.none]}}
 exact tail_any (ops:=[.ref s3.heap.objs.size,v]) ht hT hg (by with_unfolding_all rfl)
def a8H(xs:List V)(lo hi:Option Int):List V:=(xs.drop (HT.sIx xs.length 0 lo)).take (HT.sIx xs.length xs.length hi - HT.sIx xs.length 0 lo)
theorem a4C(xs:List V)(lo hi:Option Int):(a8H xs lo hi).length<=xs.length:=by
 unfold a8H
 rw [List.length_take,List.length_drop]
 lia
def b1J(K:AD):V->Option Int->Option Int->Hp->VK->Prop:=fun x lo hi H Q=>∃a xs,x= .ref a/\W0 K H a xs/\
 ¬(HT.sIx xs.length 0 lo=0/\HT.sIx xs.length xs.length hi=xs.length)/\∀p,H p=none->Q (.ref p) (upd H p (.tup (a8H xs lo hi)))
theorem b0L:SlR X (b1J X.K):=by
 intro pins s σ H x v vl vu lo hi sl Q I rx hs pl pu h
 obtain⟨a,xs,rfl,hx,hw,q⟩:=h
 cases rx
 obtain⟨its,r,ht,hz⟩:=I.tuple hx
 have hlen:its.toArray.size=xs.length:=by rw [Ae];exact r.length.symm
 refine⟨"tuple",_,PyProof.Rows.slot_tuple_getitem.lookup,ht.typeIs, ?_⟩
 refine HT.getItem_tuple_cut ht hs pl pu (by rw [hlen];exact hw) ?_ (by rw [hlen];exact hz)
 rw [hlen]
 refine⟨.ref s.heap.objs.size,_,I.laid (t':=s.toks) (o:= .tup (a8H xs lo hi)) (fun b ob q=>Ak _ q) (AR _) ?_,rfl,q _ (I.hok.fresh (AR _))⟩
 exact⟨Nat.le_trans (a4C xs lo hi) hz,_,(r.drop (HT.sIx xs.length 0 lo)).take (HT.sIx xs.length xs.length hi - HT.sIx xs.length 0 lo),IsTup.new _ _⟩
def b1l(K:AD):R2:=fun x y H Q=>∃a b xs ys,x= .ref a/\y= .ref b/\W0 K H a xs/\W0 K H b ys/\xs≠[]/\xs.length+ys.length<=AJ/\
 (ys=[]->Q (.ref a) H)/\(ys≠[]->∀p,H p=none->Q (.ref p) (upd H p (.tup (xs++ys))))
theorem g7.nil_iff{xs:List V}{us:List AA}(r:g7 xs us):us=[]↔xs=[]:=by
 cases r with
 |nil=>simp
 |cons _ _=>simp
theorem a84:OpR X (binaryOp .Add) (b1l X.K):=by
 intro pins s σ H x y v u Q I rx ry h
 obtain⟨a,b,xs,ys,rfl,rfl,ha,hb,hx,hz,q1,q2⟩:=h
 cases rx
 cases ry
 obtain⟨its,r1,p1,_⟩:=I.tuple ha
 obtain⟨its2,r2,p2,_⟩:=I.tuple hb
 refine HT.cat_tup p1 p2 (fun z=>hx (r1.nil_iff.mp z)) (fun z=>⟨.ref a,H,I,rfl,q1 (r2.nil_iff.mp z)⟩) (fun z=> ?_) (by rw [<-r1.length,<-r2.length];exact hz)
 refine⟨.ref s.heap.objs.size,_,I.laid (t':=s.toks) (o:= .tup (xs++ys)) (fun b ob q=>Ak _ q) (AR _) ?_,rfl,q2 (fun w=>z (r2.nil_iff.mpr w)) _ (I.hok.fresh (AR _))⟩
 exact⟨by rw [AU];exact hz,_,r1.append r2,IsTup.new _ _⟩
end
def ixN(n:Nat)(i:Int):Option Nat:=if 0<=i then(if i<n then some i.toNat else none) else if -(n:Int)<=i then some (i+n).toNat else none
def atI{α:Type}(xs:List α)(i:Int):Option α:=(ixN xs.length i).bind fun j=>xs[j]?
theorem a8U{n:Nat}{i:Int}{j:Nat}(h:ixN n i=some j):seqIndex? i n=some j/\j<n/\ -(n:Int)<=i/\i<n:=by
 unfold ixN at h
 by_cases h0:0<=i
 ·rw [if_pos h0] at h
  by_cases h1:i<n
  ·rw [if_pos h1] at h
   have e:i.toNat=j:=Option.some.inj h
   exact⟨by rw [seqIndex_of h0 h1,e],by lia,by lia,h1⟩
  ·rw [if_neg h1] at h;cases h
 ·rw [if_neg h0] at h
  by_cases h1: -(n:Int)<=i
  ·rw [if_pos h1] at h
   have e:(i+n).toNat=j:=Option.some.inj h
   exact⟨by rw [seqIndex_neg (by lia) h1,e],by lia,h1,by lia⟩
  ·rw [if_neg h1] at h;cases h
theorem a3O{α:Type}{xs:List α}{i:Int}{v:α}(h:atI xs i=some v):∃j,seqIndex? i xs.length=some j/\xs[j]?=some v/\j<xs.length/\ -(xs.length:Int)<=i/\i<xs.length:=by
 unfold atI at h
 cases e:ixN xs.length i with
 |none=>rw [e] at h;cases h
 |some j=>
  rw [e] at h
  obtain⟨h1,h2,h3,h4⟩:=a8U e
  exact⟨j,h1,h,h2,h3,h4⟩
def a57(b:AE):Prop:=∀o i,subscripted b false o i=operate [o,i] (getItem o i)
def IxR(X:Cx)(r:R2):Prop:=
 ∀(value slice:AE) (pins:List (AB×Obj)) (s:AC) (σ:St) (H:Hp) (x y:V) (v u:AA) (Q:VK),e7 X pins σ H s->l5 x v->l5 y u->r x y H Q->
  subscripted slice false v u=operate [v,u] (getItem v u)->AK (model X.prog X.w) X.A (subscriptTail value slice v u) (EP X pins σ Q) X.xe s
def MtR(X:Cx)(id:String)(r:V->List V->Hp->VK->Prop):Prop:=
 ∀(pins:List (AB×Obj)) (s:AC) (σ:St) (H:Hp) (x:V) (xs:List V) (v:AA) (us:List AA) (Q:VK),e7 X pins σ H s->l5 x v->g7 xs us->r x xs H Q->
  AK (model X.prog X.w) X.A (call (.builtin id) (v::us)) (EP X pins σ Q) X.xe s
section
variable {X:Cx}{a b:AE}{ta tb:TE}{pos:Pos}
theorem IxR.or{r r':R2}(h:IxR X r)(h':IxR X r'):IxR X (fun x y H Q=>r x y H Q\/r' x y H Q):=by
 intro value slice pins s σ H x y v u Q I rx ry q hs
 rcases q with q|q
 ·exact h value slice pins s σ H x y v u Q I rx ry q hs
 ·exact h' value slice pins s σ H x y v u Q I rx ry q hs
theorem MtR.or{id:String}{r r':V->List V->Hp->VK->Prop}(h:MtR X id r)(h':MtR X id r'):MtR X id (fun x xs H Q=>r x xs H Q\/r' x xs H Q):=by
 intro pins s σ H x xs v us Q I rx rs q
 rcases q with q|q
 ·exact h pins s σ H x xs v us Q I rx rs q
 ·exact h' pins s σ H x xs v us Q I rx rs q
theorem b1h{r:R2}(hr:IxR X r)(ha:PE X a ta)(hb:PE X b tb)(hs:a57 b):PE X (.Subscript a b pos) (tOp r ta tb):=by
 intro pins s σ H Q I h
 exact Subscript_ (b0Z ha hb I h fun v u s2 x y H2 I2 rx ry q=>hr a b pins s2 σ H2 x y v u Q I2 rx ry q (hs _ _))
def b1F(K:AD):R2:=fun x y H Q=>∃p xs i v,x= .ref p/\y= .int i/\R6 K H p xs/\atI xs i=some v/\Q v H
def b1H(K:AD):R2:=fun x y H Q=>∃p xs i v,x= .ref p/\y= .int i/\W0 K H p xs/\atI xs i=some v/\Q v H
def b1G:R2:=fun x y H Q=>∃z i c,x= .str z/\y= .int i/\z.length<=AJ/\atI z.cps.toList i=some c/\Q (.str ⟨#[c]⟩) H
theorem a8V:IxR X (b1F X.K):=by
 intro value slice pins s σ H x y v u Q I rx ry h hs
 obtain⟨p,xs,i,z,rfl,rfl,hq,he,q⟩:=h
 cases rx
 obtain⟨t,rfl⟩:=ry
 obtain⟨its,r,pl,hz⟩:=I.list hq
 obtain⟨j,h1,h2,h3,h4,h5⟩:=a3O he
 obtain⟨w,ew,rw'⟩:=r.get h2
 have hl:=r.length
 have hn:=a1p
 have fin:EP X pins σ Q w s:=⟨z,H,I,rw',q⟩
 by_cases h0:0<=i
 ·have hj:i.toNat=j:=by
   rw [seqIndex_of h0 h5] at h1
   exact Option.some.inj h1
  exact item_listR pl.isList h0 (by lia) (by rw [hj];simpa using ew) fin hs
 ·have hj:(i+(its.toArray.size:Int)).toNat=j:=by
   rw [seqIndex_neg (by lia) h4] at h1
   rw [Ae,<-hl]
   exact Option.some.inj h1
  exact subscriptTail_builtinR (x:=w) pl.isList.typeIs slot_list_getitem.lookup
   (wpAny_getItem_list_neg (Q:=fun r s'=>r=w/\EP X pins σ Q r s') pl.isList (by lia) (by rw [Ae]<;>lia) (by lia) (by rw [hj];simpa using ew) ⟨rfl,fin⟩) hs
theorem b0c:IxR X (b1H X.K):=by
 intro value slice pins s σ H x y v u Q I rx ry h hs
 obtain⟨p,xs,i,z,rfl,rfl,hq,he,q⟩:=h
 cases rx
 obtain⟨t,rfl⟩:=ry
 obtain⟨its,r,pl,hz⟩:=I.tuple hq
 obtain⟨j,h1,h2,h3,h4,h5⟩:=a3O he
 obtain⟨w,ew,rw'⟩:=r.get h2
 have hl:=r.length
 have hn:=a1p
 have fin:EP X pins σ Q w s:=⟨z,H,I,rw',q⟩
 exact subscriptTail_builtinR (x:=w) pl.typeIs slot_tuple_getitem.lookup
  (getItem_tuple (j:=j) (Q:=fun r s'=>r=w/\EP X pins σ Q r s') pl (by lia) (by lia) (by rw [Ae,<-hl];exact h1) (by simpa using ew) ⟨rfl,fin⟩) hs
theorem b0b:IxR X b1G:=by
 intro value slice pins s σ H x y v u Q I rx ry h hs
 obtain⟨z,i,c,rfl,rfl,hz,he,q⟩:=h
 obtain⟨t,rfl⟩:=rx
 obtain⟨t',rfl⟩:=ry
 obtain⟨j,h1,h2,h3,h4,h5⟩:=a3O he
 have hl:z.cps.toList.length=z.length:=by simp [Str.length]
 rw [hl] at h1 h4 h5
 have hn:=a1p
 exact tail_any (typeIs_str s z t) slot_str_getitem.lookup (getItem_str (c:=c) (by
  have e1:decide (i< -(2 ^ 63:Int))=false:=decide_eq_false (by lia)
  have e2:decide (i>=2 ^ 63)=false:=decide_eq_false (by lia)
  rw [e1,e2,Bool.or_false]) (by rw [h1];simpa using h2) ⟨.str ⟨#[c]⟩,H,I.tok _,⟨_,rfl⟩,q⟩) hs
theorem e7.lst{pins:List (AB×Obj)}{σ:St}{H:Hp}{s:AC}{p:AB}{xs:List V}(I:e7 X pins σ H s)(h:H p=some (.lst xs)):
 ∃(its:List AA) (n:Nat),g7 xs its/\s.heap.get? p=some {cls:= .type "list",data:= .seq its.toArray n}/\xs.length<=AJ:=by
 obtain⟨z,its,n,r,e⟩:=I.hok p _ h
 exact⟨its,n,r,e,z⟩
def b1m:V->V->V->Hp->(Hp->Prop)->Prop:=fun o i v H Q=>∃p xs k j,o= .ref p/\i= .int k/\H p=some (.lst xs)/\ixN xs.length k=some j/\Q (upd H p (.lst (xs.set j v)))
theorem a4n(lo hi:Option Int)(n:Nat):(sliceBounds lo hi none n).1=((HT.sIx n 0 lo:Nat):Int)/\(sliceBounds lo hi none n).2.1=((HT.sIx n n hi:Nat):Int)/\(sliceBounds lo hi none n).2.2=1:=by
 refine⟨?_, ?_,rfl⟩
 ·cases lo with
  |none=>simp [sliceBounds,HT.sIx]
  |some i=>
   simp only [sliceBounds,HT.sIx,Option.getD_none,show(1:Int)>0 by decide,if_true]
   by_cases h:i<0
   ·simp only [h,if_true]<;>lia
   ·simp only [h,if_false]<;>lia
 ·cases hi with
  |none=>simp [sliceBounds,HT.sIx]
  |some i=>
   simp only [sliceBounds,HT.sIx,Option.getD_none,show(1:Int)>0 by decide,if_true]
   by_cases h:i<0
   ·simp only [h,if_true]<;>lia
   ·simp only [h,if_false]<;>lia
theorem a0t(its:List AA)(lo hi:Option Int):slicePick its.toArray lo hi none=((its.drop (HT.sIx its.length 0 lo)).take (HT.sIx its.length its.length hi - HT.sIx its.length 0 lo)).toArray:=by
 obtain⟨h1,h2,h3⟩:=a4n lo hi its.toArray.size
 unfold slicePick
 rw [h1,h2,h3]
 simp only [sliceRange_one,pick_run,Ae]<;>rfl
theorem a3Q:G2 X (.builtin "len") (fun xs H Q=>∃p ys,xs=[.ref p]/\(R6 X.K H p ys\/W0 X.K H p ys)/\Q (.int ys.length) H):=by
 intro pins s σ H xs us Q I r h
 obtain⟨p,ys,rfl,hq,q⟩:=h
 obtain⟨u,rfl,rx⟩:=a5m r
 cases rx
 have hn:=a1p
 rcases hq with hq|hq
 ·obtain⟨its,r',pl,hz⟩:=I.list hq
  have hlen:=r'.length
  exact Calls.call_len_list pl.isList (by simp only [Ae]<;>lia) ⟨.int ys.length,H,I.tok _,⟨s.toks+1,by rw [Ae,hlen]⟩,q⟩
 ·obtain⟨its,r',pl,hz⟩:=I.tuple hq
  have hlen:=r'.length
  exact len_tuple pl (by simp only [Ae]<;>lia) ⟨.int ys.length,H,I.tok _,⟨s.toks+1,by rw [Ae,hlen]⟩,q⟩
theorem a3R:G2 X (.builtin "len") (fun xs H Q=>∃z,xs=[.str z]/\z.length<=AJ/\Q (.int z.length) H):=by
 intro pins s σ H xs us Q I r h
 obtain⟨z,rfl,hz,q⟩:=h
 obtain⟨u,rfl,t,rfl⟩:=a5m r
 have hn:=a1p
 exact len_str (by lia) ⟨.int z.length,H,I.tok _,⟨_,rfl⟩,q⟩
theorem G2.or{f:AA}{r r':List V->Hp->VK->Prop}(h:G2 X f r)(h':G2 X f r'):G2 X f (fun xs H Q=>r xs H Q\/r' xs H Q):=by
 intro pins s σ H xs us Q I rs q
 rcases q with q|q
 ·exact h pins s σ H xs us Q I rs q
 ·exact h' pins s σ H xs us Q I rs q
def tyV(K:AD)(T:String)(x:V)(H:Hp):Prop:=match x with
 | .str _=>T="str"
 | .int _=>T="int"
 | .ref p=>(T="list"/\∃xs,R6 K H p xs)\/(T="tuple"/\∃o,K.lookup p=some o/\o.cls= .type "tuple"/\o.dict=none)\/
  (T="dict"/\((∃kvs,H p=some (.dK kvs))\/∃kvs,H p=some (.dT kvs)))\/(T="set"/\∃S n,H p=some (.set S n))
 |_=>False
theorem b0R{pins:List (AB×Obj)}{σ:St}{H:Hp}{s:AC}{T:String}{x:V}{v:AA}(I:e7 X pins σ H s)(r:l5 x v)(ty:tyV X.K T x H):
 s.TypeIs v T/\∀a,v= .ref a->∃ob,s.heap.get? a=some ob/\ob.dict=none:=by
 cases x with
 |str z=>
  obtain⟨t,rfl⟩:=r
  cases(show T="str" from ty)
  exact⟨typeIs_str s z t,fun _ e=>nomatch e⟩
 |int i=>
  obtain⟨t,rfl⟩:=r
  cases(show T="int" from ty)
  exact⟨typeIs_int s i t,fun _ e=>nomatch e⟩
 |ref p=>
  cases r
  rcases ty with⟨rfl,xs,hq⟩|⟨rfl,o,hk,hc,hd⟩|⟨rfl,hk⟩|⟨rfl,S,n,hk⟩
  ·obtain⟨its,_,pl,_⟩:=I.list hq
   refine⟨pl.isList.typeIs,fun a e=> ?_⟩
   cases e
   obtain⟨o,n,e,c,hd,_⟩:=pl
   exact⟨o,e,hd⟩
  ·refine⟨⟨o,I.kIn p o hk,hc⟩,fun a e=> ?_⟩
   cases e
   exact⟨o,I.kIn _ o hk,hd⟩
  ·have z:∃o,s.heap.get? p=some o/\o.ExactDict:=by
    rcases hk with⟨kvs,hk⟩|⟨kvs,hk⟩
    ·obtain⟨_,_,_,_,o,_,_,e,ex,_⟩:=I.hok p _ hk
     exact⟨o,e,ex⟩
    ·obtain⟨_,_,_,_,o,_,_,e,ex,_⟩:=I.hok p _ hk
     exact⟨o,e,ex⟩
   obtain⟨o,e,ex⟩:=z
   refine⟨⟨o,e,ex.1⟩,fun a e2=> ?_⟩
   cases e2
   exact⟨o,e,ex.2.1⟩
  ·obtain⟨o,_,_,_,e,ex,_⟩:=I.hok p _ hk
   refine⟨⟨o,e,ex.1⟩,fun a e2=> ?_⟩
   cases e2
   exact⟨o,e,ex.2.1⟩
 |_=>exact False.elim ty
def tBM(K:AD)(T:String)(r:V->List V->Hp->VK->Prop)(to:TE)(t:TA):TE:=fun σ H Q=>to σ H fun x H1=>tyV K T x H1/\t σ H1 fun xs H2=>r x xs H2 Q
variable {o e:AE}{es:List AE}{to:TE}{t:TA}{name:Str}{apos cpos:Pos}{T id:String}{r:V->List V->Hp->VK->Prop}
theorem a6t(pa:PlainAttrs T)(slot:Slot T name id)(hty:typeOf (.builtin id)=pure (.type "method_descriptor"))(hm:MtR X id r)(ho:PE X o to)(ha:PA X (e::es) t)
 (hbase:attributeBase o name X.env (eval o X.env)=eval o X.env:=by rfl)
 (hfew:((backTo cpos (AL (e::es) X.env)).all (fun x=> !x.1)&&(backToKw cpos (keywordEach [] X.env)).all (fun x=>x.1.isSome)
  && decide ((e::es).length+([]:List Keyword).length+(if([]:List Keyword).isEmpty then 0 else 1)<30))=true:=by rfl)
 (hline:(apos.endLine==cpos.line)=true:=by rfl) (hs:AL (e::es) X.env=(false,eval e X.env)::AL es X.env:=by rfl) (hplain:(backTo cpos (AL es X.env)).any (·.1)=false:=by rfl):
 PE X (.Call (.Attribute o name apos) (e::es) [] cpos) (tBM X.K T r to t):=by
 intro pins s σ H Q I h
 refine wpAny_Call_method_late hbase hfew hline rfl (G0 (ho pins s σ H _ I h) fun v s1 ⟨x,H1,I1,r1,ty,q1⟩=> ?_)
 obtain⟨h1,h2⟩:=b0R I1 r1 ty
 refine⟨T,id,pa,slot,hty,h1,h2, ?_⟩
 have hA:=ha cpos pins s1 σ H1 _ I1 q1
 rw [hs] at hA ⊢
 refine Calls.callWith_builtin (by show(false||(backTo cpos (AL es X.env)).any (·.1))=false;rw [hplain]<;>rfl) (Calls.evalArgs_plain ?_)
 exact G0 hA fun us s2 ⟨vs,H2,I2,r2,q2⟩=>hm pins s2 σ H2 x vs v us Q I2 r1 r2 q2
end
def MtM(X:Cx)(id:String)(r:V->List V->Hp->VK->Prop):Prop:=
 ∀(pins:List (AB×Obj)) (s:AC) (σ:St) (H:Hp) (x:V) (xs:List V) (v:AA) (us:List AA) (Q:VK),e7 X pins σ H s->l5 x v->g7 xs us->r x xs H Q->
  AK (model X.prog X.w) X.A (call (.builtin id) (v::us)) (EP X pins σ Q) X.xe s
theorem g7.one:∀{x:V} {us:List AA},g7 [x] us->∃u,us=[u]/\l5 x u
 |_,_,.cons r .nil=>⟨_,rfl,r⟩
theorem g7.zero:∀{us:List AA},g7 [] us->us=[]
 |_,.nil=>rfl
theorem g7.dropLast{xs:List V}{us:List AA}(h:g7 xs us):g7 xs.dropLast us.dropLast:=by
 induction h with
 |nil=>exact .nil
 |cons r t ih=>
  cases t with
  |nil=>exact .nil
  |cons q t'=>exact .cons r ih
theorem g7.reverse{xs:List V}{us:List AA}(h:g7 xs us):g7 xs.reverse us.reverse:=by
 induction h with
 |nil=>exact .nil
 |cons r t ih=>rw [List.reverse_cons,List.reverse_cons];exact g7.append ih (.cons r .nil)
theorem g7.rep{xs:List V}{us:List AA}(h:g7 xs us):∀k:Nat,g7 (AN k xs).flatten (AN k us).flatten
 |0=> .nil
 |k+1=>by
  rw [AY,AY,List.flatten_cons,List.flatten_cons]
  exact g7.append h (g7.rep h k)
theorem a1l(its:List AA):∀(k:Nat) (acc:List AA),
 List.foldl (fun x1 x2=>x1++x2) acc.toArray (AN k its.toArray)=(acc++(AN k its).flatten).toArray
 |0,acc=>by simp
 |k+1,acc=>by
  have e:acc.toArray++its.toArray=(acc++its).toArray:=by simp
  have e2:(acc++its)++(AN k its).flatten=acc++(AN (k+1) its).flatten:=by
   rw [AY,List.flatten_cons,List.append_assoc]
  rw [<-e2,<-a1l its k (acc++its),<-e,AY,List.foldl_cons]
section
variable {X:Cx}{pins:List (AB×Obj)}{σ:St}{H:Hp}{s:AC}{l b:AB}{xs ys zs:List V}
theorem e7.lset{its its':List AA}{n:Nat}{f:Array AA->Array AA}{t':Nat}(I:e7 X pins σ H s)(hH:H l=some (.lst xs))
 (e:s.heap.get? l=some {cls:= .type "list",data:= .seq its.toArray n}) (hf:f its.toArray=its'.toArray) (hv:g7 ys its') (hz:ys.length<=AJ):
 e7 X pins σ (upd H l (.lst ys)) {s with heap:=s.heap.update l (Obj.mapSeq f),toks:=t'}:=by
 have q:=PySem.IsL.update e f
 rw [hf] at q
 refine I.write (x:=l) (e:=l) (by rw [hH];exact trivial) (.inl rfl) (fun b' u hb hu=>(Heap.get?_update_other s.heap (Obj.mapSeq f) (Ne.symm hb)).trans hu) ⟨_,q⟩ ?_
 exact⟨hz,its',_,hv,q⟩
theorem e7.lnew{its:List AA}{t':Nat}(I:e7 X pins σ H s)(hv:g7 ys its)(hz:ys.length<=AJ):
 e7 X pins σ (upd H s.heap.objs.size (.lst ys)) {s with heap:=s.heap.push {cls:= .type "list",data:= .seq its.toArray},toks:=t'}:=
 I.laid (fun _ _ q=>Ak _ q) (AR _) ⟨hz,its,0,hv,Au _ rfl⟩
theorem e7.fresh(I:e7 X pins σ H s):H s.heap.objs.size=none:=I.hok.fresh (AR _)
theorem e7.lstM(I:e7 X pins σ H s)(hH:H l=some (.lst xs)):xs.length<=AJ/\∃(its:List AA) (n:Nat),g7 xs its/\xs.length=its.length/\s.heap.get? l=some {cls:= .type "list",data:= .seq its.toArray n}:=by
 obtain⟨z,its,n,r,e⟩:=I.hok l _ hH
 exact⟨z,its,n,r,r.length,e⟩
theorem a7Z{n:Nat}(h:n<=AJ):Builtin.List.listTooLong n=false:=by
 unfold Builtin.List.listTooLong
 exact decide_eq_false (by lia)
end
section
variable {X:Cx}
def a9j:V->List V->Hp->VK->Prop:=fun x vs H Q=>∃l xs y,x= .ref l/\vs=[y]/\H l=some (.lst xs)/\xs.length<AJ/\Q .non (upd H l (.lst (xs++[y])))
theorem a1v:MtM X "list.append" a9j:=by
 intro pins s σ H x vs v us Q I rx rv h
 obtain⟨l,xs,y,rfl,rfl,hH,hz,q⟩:=h
 cases rx
 obtain⟨u,rfl,ru⟩:=rv.one
 obtain⟨z,its,n,r,hl,e⟩:=I.lstM hH
 refine call_meets F.slot_list_append ⟨_,e,rfl⟩ F.entry_list_append (F.args_list_append_2 _ _) (PySem.list_append l its.toArray n u (by rw [Ae];lia)) ⟨e, ?_⟩
 refine⟨.non,_,I.lset (its':=its++[u]) hH e (by simp) (r.append (.cons ru .nil)) ?_,rfl,q⟩
 rw [AU,List.length_singleton]
 lia
def b1E:R2:=fun x y H Q=>∃l b xs zs,x= .ref l/\y= .ref b/\H l=some (.lst xs)/\H b=some (.lst zs)/\xs.length+zs.length<=AJ/\∀p,H p=none->Q (.ref p) (upd H p (.lst (xs++zs)))
theorem b0p:OpR X (binaryOp .Add) b1E:=by
 intro pins s σ H x y v u Q I rx ry h
 obtain⟨l,b,xs,zs,rfl,rfl,hH,hB,hz,q⟩:=h
 cases rx
 cases ry
 obtain⟨z,its,n,r,hl,e⟩:=I.lstM hH
 obtain⟨z2,its2,n2,r2,hl2,e2⟩:=I.lstM hB
 refine PySem.P.add_list e e2 ?_ (by rw [Ae,Ae];lia)
 have ea:its.toArray++its2.toArray=(its++its2).toArray:=by simp
 rw [ea]
 exact⟨.ref _,_,I.lnew (t':=s.toks) (r.append r2) (by rw [AU];lia),rfl,q _ I.fresh⟩
def b1I:R2:=fun x y H Q=>∃l k xs,x= .ref l/\y= .int k/\H l=some (.lst xs)/\ -(2 ^ 63)<=k/\k<2 ^ 63/\xs.length*k.toNat<=AJ/\
 ∀p,H p=none->Q (.ref p) (upd H p (.lst (AN k.toNat xs).flatten))
theorem a32{α:Type}(xs:List α)(k:Nat):(AN k xs).flatten.length=k*xs.length:=by
 induction k with
 |zero=>simp
 |succ k ih=>rw [AY,List.flatten_cons,AU,ih,Nat.succ_mul,Nat.add_comm]
theorem b0t:OpR X (binaryOp .Mult) b1I:=by
 intro pins s σ H x y v u Q I rx ry h
 obtain⟨l,k,xs,rfl,rfl,hH,h1,h2,hz,q⟩:=h
 cases rx
 obtain⟨t,rfl⟩:=ry
 obtain⟨z,its,n,r,hl,e⟩:=I.lstM hH
 have hlen:its.toArray.size*k.toNat<=AJ:=by rw [Ae,<-hl];exact hz
 have hcap:¬its.toArray.size*k.toNat>(2 ^ 63 - 1)/ 8:=by
  have:(AJ:Nat)<=(2 ^ 63 - 1)/ 8:=by decide
  lia
 have hfit:¬(!Builtin.List.listFitsIndex k)=true:=by
  rw [fitsIndex_both h1 h2]
  exact Ar
 have hlong:¬Builtin.List.listTooLong (its.toArray.size*k.toNat)=true:=by
  rw [a7Z hlen]
  exact Ar
 have hnew:List.foldl (fun x1 x2=>x1++x2) #[] (AN (if its.toArray.isEmpty=true then 0 else k.toNat) its.toArray)=(AN k.toNat its).flatten.toArray:=by
  have f0:∀m:Nat,List.foldl (fun x1 x2=>x1++x2) #[] (AN m its.toArray)=(AN m its).flatten.toArray:=fun m=>by
   have:=a1l its m []
   rw [AT] at this
   exact this
  rw [f0]
  cases its with
  |nil=>simp
  |cons a r'=>rw [if_neg (by simp)]
 refine wpAny_binaryOp_repeat_ref (T:="list") (U:="int") (by decide) ⟨_,e,rfl⟩ (fun s'=>typeIs_int s' k t) noFill_list_mul F.fills_int_mul F.slot_int_rmul repeat_list F.slot_int_index.lookup
  (call_meets F.slot_int_rmul (typeIs_int s k t) F.entry_int_rmul (F.args_int_rmul_2 _ _) (int___rmul___int_list k t l its.toArray n)
   ⟨e,rfl,⟨_,e,rfl⟩,call_meets F.slot_list_mul ⟨_,e,rfl⟩ F.entry_list_mul (F.args_list_mul_2 _ _) (AutoListH.list___mul___list_int_3 l its.toArray n k t hfit hcap hlong) ⟨e, ?_⟩⟩)
 rw [hnew]
 exact⟨.ref _,_,I.lnew (t':=s.toks) (r.rep k.toNat) (by rw [a32,Nat.mul_comm];exact hz),rfl,q _ I.fresh⟩
end
section
variable {prog:AI}{w:AG}{A:AH}{E:AA->AC->Prop}{s:AC}
end
section
variable {X:Cx}
end
end L2
namespace Att
open PySem PySem.W PySem.Calls PyProof.Rows
theorem a15{P:Params}{h:Heap}:∀(ns:List Int) (vs:List AA),WellAll P h vs (ns.map WData.int)->IntsAre vs ns:=by
 intro ns
 induction ns with
 |nil=>
  intro vs w
  rw [AX] at w
  cases w
  exact .nil
 |cons n ns ih=>
  intro vs w
  rw [AM] at w
  cases w with
  |cons a b=>
   cases a
   exact .cons _ _ (ih _ b)
theorem a69{l:OpenLaw}{n:Nat}(hn:l.most=some n){P:Params}{h:Heap}{args:List WData}{vals:List AA}
 (hpre:l.row.toRowW.claim.pre args=true) (hwl:WellAll P h vals args):
 ∃a vs ns,vals=[Value.ref a]/\args=[WData.list (ns.map WData.int)]/\h.get? a=some {cls:= .type "list",data:= .seq vs.toArray}/\IntsAre vs ns/\ns.length<=n:=by
 have hsh:WShape.hasAll [] args [.list .int]=true:=(pre_splitW hpre).1
 have hc:l.pre.holds [] {args:=args}=true:=(pre_splitW hpre).2
 obtain⟨d,r,rfl,h1,h2⟩:=hasAllW_cons hsh
 obtain rfl:=hasAllW_nil h2
 obtain⟨xs,rfl,h3⟩:=hasW_list h1
 obtain⟨ns,rfl⟩:=items_int h3
 have hlen:ns.length<=n:=by
  unfold OpenLaw.pre at hc
  have h4:(WTm.not (.lt (.lit (.int (n:Int))) (.len (.arg 0)))).holds [] {args:=[.list (ns.map .int)]}=true:=by
   have h4:=(holds_andW hc).1
   rw [hn] at h4
   exact h4
  have h5:=condW_of h4 (w_not (w_lt w_lit (w_len_list (w_arg rfl))))
  rw [Ai] at h5
  refine Nat.le_of_not_lt fun q=> ?_
  have q':(n:Int)<((ns.length:Nat):Int):=by lia
  first
   |(rw [decide_eq_true q'] at h5;exact absurd h5 (by decide))
   |(simp at h5;lia)
 cases hwl with
 |cons w1 w2=>
  cases w2
  cases w1 with
  |list ho hall=>exact⟨_,_,ns,rfl,rfl,ho,a15 ns _ hall,hlen⟩
theorem a68(l:OpenLaw)(args:List WData):l.row.toRowW.claim.post args (.bool true) args=true:=
 postW_of (r:=l.row.toRowW) (X:=(true==true))
  (show WShape.has [] (.bool true) .bool=true by first|rfl|decide|simp [WShape.has,WShape.arms,WShape.armsAll])
  (show(WTm.eq .res (.lit (.bool true))).value [] {args:=args,res:=some (.bool true),after:=args}=some (.bool (true==true)) from w_eq_bool (w_res rfl) w_lit) rfl
theorem attach_call{l:OpenLaw}{n:Nat}{q:AI}{loose:List Str}{XP:(Str->Option AA)->Heap->Prop}{YP:AG->Heap->Prop}{d:DefRec}
 (hn:l.most=some n) (hdf:d.params.defaults=[])
 (call:∀(w:AG) (s₀ s₁:AC) (mg mb:Str->Option AA) (fa:AB) (o:Obj) (pm cd doc:AA) (a:AB) (vs:List AA) (ns:List Int),
  Ground q loose [] XP w s₀ mg mb s₁.heap->YP w s₁.heap->
  s₁.heap.get? fa=some o->o.data= .func (docDef d.name d.params d.body d.scope pm cd doc)->s₁.heap.CodeRec cd d.name->mg d.name=some (.ref fa)->
  s₁.heap.get? a=some {cls:= .type "list",data:= .seq vs.toArray}->IntsAre vs ns->ns.length<=n->s₁.gens= #[]->
  codeAny (model l.prog w) callerA (.call (.ref fa) ⟨[.ref a],[]⟩) (fun r s'=>r= .ok (.ret (.bool true))/\OldK s₁.heap s'.heap/\s'.os=s₁.os/\AllBare s'.gens) s₁):
 WalkO q loose XP YP l.row.toRowW d [] (fun f vs=>PySem.call f vs):=by
 intro w s₀ s₁ mg mb G Y fa o pm cd doc dV kV ho hd hcd hD hmg hg args vals as hpre hlay hrd hwl hlo
 obtain rfl:dV= .none:=Dflts.none hD hdf
 obtain rfl:kV= .none:=Dflts.noKw hD
 obtain⟨a,vs,ns,rfl,rfl,hobj,hints,hlen⟩:=a69 hn hpre hwl
 refine enter_call (codeAny_mono (call w s₀ s₁ mg mb fa o pm cd doc a vs ns G Y ho (fd_plain hd) hcd hmg hobj hints hlen hg) fun r s' hq=> ?_)
 obtain⟨rfl,h2,h3,h4⟩:=hq
 exact⟨.inl ⟨.bool true,.bool true,[],rfl,fun _=>rfl,.bool true,a68 l _,fun _=>⟨List.Pairwise.nil,fun _ hm=>(nomatch hm)⟩⟩,h2,h3,h4⟩
section
variable {prog:AI}{w:AG}{A:AH}{E:AA->AC->Prop}{s:AC}{K:Frag}
end
end Att
namespace L2
open PySem PySem.Spec PyProof.Rows
theorem a3I:∀{vs:List AA} {ns:List Int},IntsAre vs ns->g7 (ns.map V.int) vs
 |_,_,.nil=> .nil
 |_,_,.cons n t h=> .cons ⟨t,rfl⟩ (a3I h)
def a9R(H:Hp):Prop:=∀b,H b=none\/∃o xs,H b=some (.frz o (.lst xs))
theorem a7U{P:AI}{w:AG}{K:AD}{mg mb:Str->Option AA}{CX:CXT}{k:Nat}{fa a:AB}{fd:FuncData}{x:Str}{sp:Sp}{s₁:AC}{vs:List AA}{ns:List Int}
 (KX:K.In s₁.heap) (hns:s₁.heap.Ns mainGlobals mg) (hb:s₁.heap.Ns builtinsNs mb) (hbb:∀x:Str,x≠"__name__"->mb x=bootBuiltins x) (hlim:s₁.heap.NoLimit) (hg:s₁.gens= #[])
 (ha:s₁.heap.get? a=some {cls:= .type "list",data:= .seq vs.toArray}) (hi:IntsAre vs ns) (hl:ns.length<=AJ) (hr:J5 k callerA)
 (F:∀base:Heap,K.In base->base.Ns mainGlobals mg->O1 P w K mg base CX k fa fd [x] sp) (hbind:∀(s:AC) (u:AA),BindsTo s fd ⟨[u],[]⟩ [(x,u)])
 (hsp:∀H:Hp,a9R H->R6 K H a (ns.map V.int)->sp [.ref a] H (fun v _=>v= .bl true) fun _ _ _=>False)
 (hCX:∀H e s',CX [] H s₁ (fun _ _ _=>False) e s'->False):
 codeAny (model P w) callerA (.call (.ref fa) ⟨[.ref a],[]⟩) (fun r s'=>r= .ok (.ret (.bool true))/\OldK s₁.heap s'.heap/\s'.os=s₁.os/\AllBare s'.gens) s₁:=by
 have rv:=a3I hi
 have lenV:=hi.length
 have core:∀H:Hp,a9R H->R6 K H a (ns.map V.int)->HOk P w H s₁.heap->(∀b,H b≠none->b=a)->(H a≠none->K.lookup a=none)->
  codeAny (model P w) callerA (.call (.ref fa) ⟨[.ref a],[]⟩) (fun r s'=>r= .ok (.ret (.bool true))/\OldK s₁.heap s'.heap/\s'.os=s₁.os/\AllBare s'.gens) s₁:=by
  intro H hO hS hok hA hK
  have base_of:∀{b:AB} {o:Obj},s₁.heap.get? b=some o->H b=none->(a3Y s₁.heap H).get? b=some o:=fun e n=>a7M e n
  have noA:∀{b:AB} {o:Obj} {es:Array DictEntry} {ep:Nat},s₁.heap.get? b=some o->o.data= .dict es ep->H b=none:=fun {b o es ep} e d=>by
   cases q:H b with
   |none=>rfl
   |some u=>
    have e':b=a:=hA b (by rw [q];simp)
    subst e'
    rw [ha] at e;cases e
    have d':Data.seq vs.toArray _=Data.dict es ep:=d
    cases d'
  have nsK:∀{b:AB} {m:Str->Option AA},s₁.heap.Ns b m->(a3Y s₁.heap H).Ns b m:=fun {b m} ⟨o,es,ep,e,d,r⟩=>⟨o,es,ep,base_of e (noA e d),d,r⟩
  have hKb:K.In (a3Y s₁.heap H):=fun b o e=>base_of (KX b o e) (by
   cases q:H b with
   |none=>rfl
   |some u=>
    have e':b=a:=hA b (by rw [q];simp)
    subst e'
    rw [hK (by rw [q];simp)] at e;cases e)
  have hM:Mod K mg (a3Y s₁.heap H):=⟨hKb,nsK hns,⟨mb,nsK hb,hbb⟩,let ⟨mc,h1,h2⟩:=hlim;⟨mc,nsK h1,h2⟩⟩
  have e0:a5o P w K mg (a3Y s₁.heap H) callerA [] s₁ H:=⟨rfl,hM,fun b o e=>a82 e,Nat.le_of_eq (a6U _ _),trivial,fun b hb=>absurd (show b∈([]:List AB) from hb) (by simp),hok,.of_eq hg⟩
  refine codeAny_mono ((F _ hKb (nsK hns)).run callerA [] s₁ H ⟨[.ref a],[]⟩ [.ref a] [.ref a] _ _ hr e0 (hbind s₁ (.ref a)) (.cons rfl .nil) (hsp H hO hS)) fun r s' h=> ?_
  cases r with
  |error e=>exact(hCX H e s' h).elim
  |ok fl=>
   cases fl with
   |next=>exact False.elim h
   |brk=>exact False.elim h
   |cont=>exact False.elim h
   |ret u=>
    obtain⟨v,H',os,bare,un,hok',r',q⟩:=h
    have q':v= .bl true:=q
    subst q'
    obtain rfl:u=Value.bool true:=r'
    refine⟨rfl,OldK.of_keep fun b o e=> ?_,os,bare⟩
    cases q:H b with
    |none=>exact un.keep b o e q (by intro z;exact absurd (show b∈([]:List AB) from z) (by simp)) (by simp)
    |some u=>
     rcases hO b with z|⟨ob,xs,z⟩
     ·rw [q] at z;cases z
     ·have z2:=un.frzs b ob _ z
      obtain⟨e1,_⟩:=hok b _ z
      obtain⟨e2,_⟩:=hok' b _ z2
      rw [e] at e1;cases e1
      exact e2
 cases hk:K.lookup a with
 |some o=>
  have e:=KX a o hk
  rw [ha] at e
  cases e
  refine core (fun _=>none) (fun _=> .inl rfl) (.inr ⟨_,vs.toArray,_,hk,rfl,rfl,rfl,by rw [Ae,lenV];exact hl,by simpa using rv⟩) (fun b u z=>by have z':(none:Option HO)=some u:=z;cases z') (fun b z=>absurd rfl z) fun z=>absurd rfl z
 |none=>
  refine core (fun b=>if b=a then some (.frz {cls:= .type "list",data:= .seq vs.toArray} (.lst (ns.map V.int))) else none) (fun b=> ?_) (.inl (.inr ⟨{cls:= .type "list",data:= .seq vs.toArray},if_pos rfl⟩)) (fun b u z=> ?_) (fun b z=> ?_) fun _=>hk
  ·by_cases hb:b=a
   ·exact .inr ⟨_,_,if_pos hb⟩
   ·exact .inl (if_neg hb)
  ·by_cases hb:b=a
   ·have z':=(if_pos hb).symm.trans z
    cases z'
    subst hb
    exact⟨ha,by rw [Ai];exact hl,vs,_,rv,ha⟩
   ·have z':=(if_neg hb).symm.trans z
    cases z'
  ·by_cases hb:b=a
   ·exact hb
   ·exact absurd (if_neg hb) z
theorem a9A{l:PySem.W.OpenLaw}{n k:Nat}{q:AI}{loose:List Str}{XP:(Str->Option AA)->Heap->Prop}{YP:AG->Heap->Prop}{d:DefRec}{K:Params->AD}{CX:AG->CXT}{sp:AG->Sp}{x:Str}
 (hn:l.most=some n) (hn2:n<=AJ) (hdf:d.params.defaults=[]) (hr:J5 k callerA)
 (hY:∀(w:AG) (h:Heap),YP w h->(K w.params).In h)
 (F:∀(w:AG) (mg:Str->Option AA) (fa:AB) (h:Heap),(K w.params).In h->h.Ns mainGlobals mg->mg d.name=some (.ref fa)->
  ∃fd:FuncData,(∀(s:AC) (u:AA),BindsTo s fd ⟨[u],[]⟩ [(x,u)])/\
   ∀base:Heap,(K w.params).In base->base.Ns mainGlobals mg->O1 l.prog w (K w.params) mg base (CX w) k fa fd [x] (sp w))
 (hsp:∀(w:AG) (H:Hp) (a:AB) (ns:List Int),ns.length<=n->a9R H->R6 (K w.params) H a (ns.map V.int)->sp w [.ref a] H (fun v _=>v= .bl true) fun _ _ _=>False)
 (hCX:∀(w:AG) (H:Hp) (s:AC) (e:AA) (s':AC),CX w [] H s (fun _ _ _=>False) e s'->False):
 PySem.W.WalkO q loose XP YP l.row.toRowW d [] (fun f vs=>PySem.call f vs):=by
 refine Att.attach_call hn hdf fun w s₀ s₁ mg mb fa o pm cd doc a vs ns G Y ho hd hcd hmg hobj hints hlen hg=> ?_
 have KX:=hY w _ Y
 obtain⟨fd,hb,hF⟩:=F w mg fa _ KX G.T.g hmg
 exact a7U KX G.T.g G.T.b G.T.builtins G.T.nolimit hg hobj hints (Nat.le_trans hlen hn2) hr hF hb (fun H hO hS=>hsp w H a ns hlen hO hS) fun H e s'=>hCX w H s₁ e s'
def N1(s:Stmt):Arguments:=match s with
 | .FunctionDef _ a _ _ _ _ _ _ _ _=>a
 |_=>{posonlyargs:=[],args:=[],vararg:=none,kwonlyargs:=[],kw_defaults:=[],kwarg:=none,defaults:=[]}
def C7(s:Stmt):List Stmt:=match s with
 | .FunctionDef _ _ b _ _ _ _ _ _ _=>b
 |_=>[]
def c5(s:Stmt):Scope:=match s with
 | .FunctionDef _ _ _ _ _ _ sc _ _ _=>sc
 |_=>{kind:= .function,names:=[],isGenerator:=false,isCoroutine:=false}
abbrev CX0:CXT:=fun _ _ _ _ _ _=>False
abbrev E0:XK:=fun _ _ _=>False
theorem a9L{X:Cx}:a5q CX0 X E0:=fun _ _ _ _ _ _ _ h=>h.elim
structure Fun(K:AD)(x qual:Str)(st:Stmt)(f:AB)(fd:FuncData):Prop where
 ex:∃(oc:AA) (od:Option AB) (kV doc pm:AA) (an:Option AB) (cdv ct:AA) (osl:Array (Option AA)),
  fd=PySem.W.fnOf x qual (N1 st) (C7 st) (c5 st) .none kV doc pm an cdv ct/\K.lookup f=some ⟨oc,od,.func fd,osl⟩/\PySem.W.codeIn K cdv qual=true
 kp:PySem.W.keepIn K (.ref f)=true
section
variable {P:AI}{w:AG}{K:AD}{mg:Str->Option AA}{base:Heap}
theorem Fun.ok{x qual:Str}{st:Stmt}{f:AB}{fd:FuncData}{N ps:List Str}{k:Nat}{sp:Sp}(F:Fun K x qual st f fd)(S:g8 N ps (c5 st))(len:∀vs H Q E,sp vs H Q E->vs.length=ps.length)
 (hbody:∀(cdv:AA) (A:AH) (outer:List Env) (s:AC) (H:Hp) (vs:List V) (Q:VK) (E:XK),J5 k (A.deeper (envOfC qual (c5 st) s.heap.objs.size f cdv))->sp vs H Q E->
  ∃t,PSs (a4D CX0 P w K mg base N qual (c5 st) f cdv A outer s H E).nox (C7 st) t/\t {nx:=fun _ H'=>Q .non H',rt:=Q} (a08 N vs) H):O1 P w K mg base CX0 (k+1) f fd ps sp:=by
 obtain⟨oc,od,kV,doc,pm,an,cdv,ct,osl,rfl,lk,hcd⟩:=F.ex
 refine b05 lk hcd S len fun A outer s H vs Q E hr hsp=> ?_
 obtain⟨t,h,q⟩:=hbody cdv A outer s H vs Q E hr hsp
 exact⟨t,h.nox,q⟩
theorem Fun.binds{x qual:Str}{st:Stmt}{f:AB}{fd:FuncData}{ps:List Str}(F:Fun K x qual st f fd)
 (h:∀(kV doc pm:AA) (an:Option AB) (cdv ct:AA) (us:List AA),us.length=ps.length->bindArgs (PySem.W.fnOf x qual (N1 st) (C7 st) (c5 st) .none kV doc pm an cdv ct) ⟨us,[]⟩=pure (ps.zip us)):a1D K fd ps []:=by
 obtain⟨oc,od,kV,doc,pm,an,cdv,ct,osl,rfl,lk,hcd⟩:=F.ex
 exact .all (h kV doc pm an cdv ct)
theorem a94{x qual:Str}{st:Stmt}{f:AB}{oc:AA}{od an:Option AB}{osl:Array (Option AA)}{kV doc pm cdv ct:AA}(l:K.lookup f=some ⟨oc,od,.func (PySem.W.fnOf x qual (N1 st) (C7 st) (c5 st) .none kV doc pm an cdv ct),osl⟩)
 (c:PySem.W.codeIn K cdv qual=true) (k:PySem.W.keepIn K (.ref f)=true):Fun K x qual st f (PySem.W.fnOf x qual (N1 st) (C7 st) (c5 st) .none kV doc pm an cdv ct):=⟨⟨oc,od,kV,doc,pm,an,cdv,ct,osl,rfl,l,c⟩,k⟩
end
theorem a7a{n:Nat}(h:n<=1000):n<AJ:=Nat.lt_of_le_of_lt h (by decide)
section
variable {X:Cx}
theorem pv(i:Nat){x:Str}{pos:Pos}(hN:X.N[i]?=some x:=by rfl)(hv:Vis X.env.scope x:=by first|exact Or.inl rfl|exact Or.inr (Or.inl rfl)|exact Or.inr (Or.inr rfl))(hd:(x==("__debug__":Str))=false:=by decide)
 (hcd:(x==("__classdict__":Str))=false:=by decide):PE X (.Name x pos) (a51 i):=b0B hN hv hd hcd
end
theorem a5N{A B:Prop}(h:B):if false=true then A else B:=by
 rw [if_neg Ar]
 exact h
theorem a6X{A B:Prop}(h:A):if true=true then A else B:=by
 rw [if_pos rfl]
 exact h
def e9(H H':Hp):Prop:=∀b o,H b=some o->H' b=some o
theorem e9.refl(H:Hp):e9 H H:=fun _ _ h=>h
theorem e9.trans{H H1 H2:Hp}(a:e9 H H1)(b:e9 H1 H2):e9 H H2:=fun c o h=>b c o (a c o h)
theorem e9.free{H H':Hp}(e:e9 H H'){l:AB}(h:H' l=Option.none):H l=Option.none:=by
 cases q:H l with
 |none=>rfl
 |some o=>
  rw [e l o q] at h
  cases h
theorem e9.seq{K:AD}{H H':Hp}{a:AB}{xs:List V}(e:e9 H H')(h:R6 K H a xs):R6 K H' a xs:=by
 rcases h with(h|⟨o,h⟩)|h
 ·exact .inl (.inl (e _ _ h))
 ·exact .inl (.inr ⟨o,e _ _ h⟩)
 ·exact .inr h
section
variable (P:AI)(w:AG)
end
section
variable {P:AI}{w:AG}{H H':Hp}{h h':Heap}{a:AB}{o:HO}
end
section
variable {P:AI}{w:AG}{H:Hp}{h h':Heap}{x e:AB}{o':HO}
end
section
variable {fs fs' ex ex':List AB}{H H1 H2:Hp}{h h1 h2 h':Heap}{a x e:AB}{o:HO}
end
section
variable {X:Cx}{pins:List (AB×Obj)}{σ:List (Option V)}{H H':Hp}{s:AC}{h':Heap}
end
section
variable {X:Cx}
variable {a b:AE}{ta tb:TE}{pos:Pos}
variable {tA tB':TT}{A2:List AE}
end
section
variable {X:Cx}{pins:List (AB×Obj)}{σ:St}{H:Hp}{s:AC}{a:AB}{xs ys:List V}
end
section
variable {X:Cx}{pins:List (AB×Obj)}{σ:St}{H:Hp}{s:AC}{E:AA->AC->Prop}
end
section
variable {X:Cx}{st:Stmt}{A2:List Stmt}{t u:TS}{e:AE}{te:TE}{pos:Pos}
end
section
variable {X:Cx}{pos:Pos}
end
section
variable {X:Cx}{pos:Pos}
end
section
variable {X:Cx}{tg:AE}
end
section
variable {X:Cx}{a b c:AE}{ta tb tc:TE}{pos:Pos}
end
section
variable {X:Cx}{a b c:AE}{ta tb tc:TE}{pos:Pos}
end
section
variable {prog:AI}{w:AG}{A:AH}{E:AA->AC->Prop}{s:AC}{K:AD}{x dx C f:AB}{mA:Str->Option AA}{name:Str}{v:AA}
end
section
variable {P:AI}{w:AG}{H H':Hp}{h h':Heap}{a C dx:AB}{fs fs':List (Str×V)}
end
section
variable {X:Cx}{pins:List (AB×Obj)}{σ:St}{H:Hp}{s:AC}{a C dx:AB}{fs:List (Str×V)}{f:Str}{v:V}{A:AH}{E:AA->AC->Prop}
end
section
variable {X:Cx}{o e value:AE}{f:Str}{pos pos' tpos:Pos}{ta tv:TE}
end
section
variable {X:Cx}{pins:List (AB×Obj)}{σ:St}{H:Hp}{s:AC}{A:AH}{E:AA->AC->Prop}{Q:AA->AC->Prop}{c:AA}{b:Bool}
end
section
variable {X:Cx}{e:AE}{es:List AE}{te:TE}{t:TA}{pos:Pos}
end
section
variable {X:Cx}{pins:List (AB×Obj)}{σ:St}{H:Hp}{s s':AC}
end
section
variable {X:Cx}{CX:CXT}{k:Nat}{f C:AB}{fd:FuncData}{ps:List Str}{sp:Sp}{dvs:List V}{ds:List AA}{E:XK}{x m:Str}{p pos apos:Pos}{e o:AE}{es:List AE}{ta:TE}{t:TA}
end
section
variable {X:Cx}{CX:CXT}{k:Nat}{f C:AB}{fd:FuncData}{ps ks:List Str}{sp:Sp}{E:XK}{x m:Str}{p pos apos kpos:Pos}{e o:AE}{es:List AE}{kws:List Keyword}{te ta:TE}{t tk:TA}{nm:Option Str}
variable {g:List AA->List AA->List AA}{gV:List V->List V->List V}
end
section
variable {X:Cx}{x:Str}{p pos:Pos}{e:AE}{es:List AE}{t:TA}{id T:String}{r:List V->Hp->VK->Prop}
end
section
variable {κ:Type}[DecidableEq κ]
def W2(kvs:List (κ×V))(k:κ):Option V:=(kvs.find? fun kv=>decide (kv.1=k)).map (·.2)
def a3l(kvs:List (κ×V))(k:κ)(v:V):List (κ×V):=
 if(kvs.any fun kv=>decide (kv.1=k))=true then kvs.map (fun kv=>if kv.1=k then(kv.1,v) else kv) else kvs++[(k,v)]
def a9D(kvs:List (κ×V))(k:κ):List (κ×V):=kvs.filter fun kv=>decide (kv.1≠k)
theorem a1a{p:κ×V}{r:List (κ×V)}{k:κ}(e:p.1=k):W2 (p::r) k=some p.2:=by simp [W2,List.find?_cons,e]
theorem a09{p:κ×V}{r:List (κ×V)}{k:κ}(e:¬p.1=k):W2 (p::r) k=W2 r k:=by simp [W2,List.find?_cons,e]
theorem a5l(k:κ):∀kvs:List (κ×V),(kvs.any fun kv=>decide (kv.1=k))=(W2 kvs k).isSome
 |[]=>rfl
 |p::r=>by
  rw [List.any_cons]
  by_cases e:p.1=k
  ·simp only [a1a e,decide_eq_true e,Bool.true_or,Option.isSome_some]
  ·rw [a09 e,decide_eq_false e,Bool.false_or];exact a5l k r
theorem a3c.isSome_eq{o:Option V}{u:Option AA}(r:a3c o u):o.isSome=u.isSome:=by
 cases o with
 |none=>cases u with
  |none=>rfl
  |some _=>exact(show False from r).elim
 |some _=>cases u with
  |none=>exact(show False from r).elim
  |some _=>rfl
theorem a3c.getD{o:Option V}{u:Option AA}{d:V}{d':AA}(r:a3c o u)(rd:l5 d d'):l5 (o.getD d) (u.getD d'):=by
 cases o with
 |none=>cases u with
  |none=>exact rd
  |some _=>exact(show False from r).elim
 |some _=>cases u with
  |none=>exact(show False from r).elim
  |some _=>exact r
theorem KV.val{kvs:List (κ×V)}{vs:List (κ×AA)}(r:KV kvs vs)(k:κ):a3c (W2 kvs k) (valueAt vs k):=by
 unfold KV at r
 induction r with
 |nil=>exact True.intro
 | @cons p q ps qs h t ih=>
   obtain⟨h1,h2⟩:=h
   by_cases e:p.1=k
   ·have e':q.1=k:=h1.symm.trans e
    have b:valueAt (q::qs) k=some q.2:=by simp [valueAt,List.find?_cons,e']
    rw [a1a e,b];exact h2
   ·have e':¬q.1=k:=fun z=>e (h1.trans z)
    have b:valueAt (q::qs) k=valueAt qs k:=by simp [valueAt,List.find?_cons,e']
    rw [a09 e,b];exact ih
theorem KV.any{kvs:List (κ×V)}{vs:List (κ×AA)}(r:KV kvs vs)(k:κ):(kvs.any fun kv=>decide (kv.1=k))=vs.any fun kv=>decide (kv.1=k):=by
 unfold KV at r
 induction r with
 |nil=>rfl
 |cons h t ih=>rw [List.any_cons,List.any_cons,ih,h.1]
theorem KV.repl{kvs:List (κ×V)}{vs:List (κ×AA)}(r:KV kvs vs)(k:κ){y:V}{u:AA}(ry:l5 y u):
 KV (kvs.map fun kv=>if kv.1=k then(kv.1,y) else kv) (vs.map fun kv=>if kv.1=k then(kv.1,u) else kv):=by
 unfold KV at r ⊢
 induction r with
 |nil=>exact .nil
 | @cons p q ps qs h t ih=>
   rw [AM,AM]
   refine .cons ?_ ih
   obtain⟨h1,h2⟩:=h
   by_cases e:p.1=k
   ·rw [if_pos e,if_pos (h1.symm.trans e)];exact⟨h1,ry⟩
   ·rw [if_neg e,if_neg (fun z=>e (h1.trans z))];exact⟨h1,h2⟩
theorem KV.put{kvs:List (κ×V)}{vs:List (κ×AA)}(r:KV kvs vs)(k:κ){y:V}{u:AA}(ry:l5 y u):KV (a3l kvs k y) (stored vs k u):=by
 unfold a3l stored
 rw [r.any k]
 by_cases e:(vs.any fun kv=>decide (kv.1=k))=true
 ·rw [if_pos e,if_pos e];exact r.repl k ry
 ·rw [if_neg e,if_neg e];exact Paired.snoc r ⟨rfl,ry⟩
theorem KV.drop{kvs:List (κ×V)}{vs:List (κ×AA)}(r:KV kvs vs)(k:κ):KV (a9D kvs k) (without vs k):=by
 unfold KV at r ⊢
 unfold a9D without
 induction r with
 |nil=>exact .nil
 | @cons p q ps qs h t ih=>
   obtain⟨h1,h2⟩:=h
   rw [List.filter_cons,List.filter_cons]
   by_cases e:p.1=k
   ·have a:¬decide (p.1≠k)=true:=by simp [e]
    have b:¬decide (q.1≠k)=true:=by simp [h1.symm.trans e]
    rw [if_neg a,if_neg b];exact ih
   ·have e':¬q.1=k:=fun z=>e (h1.trans z)
    have a:decide (p.1≠k)=true:=by simp [e]
    have b:decide (q.1≠k)=true:=by simp [e']
    rw [if_pos a,if_pos b];exact .cons ⟨h1,h2⟩ ih
theorem KV.length{kvs:List (κ×V)}{vs:List (κ×AA)}(r:KV kvs vs):kvs.length=vs.length:=Paired.length r
end
theorem a5O{a b:k6}(e:kV a=kV b):a=b:=by
 cases a with
 |inl i=>cases b with
  |inl j=>have e':V.int i=V.int j:=e;injection e' with e';rw [e']
  |inr y=>exact nomatch (show V.int i=V.str y from e)
 |inr x=>cases b with
  |inl j=>exact nomatch (show V.str x=V.int j from e)
  |inr y=>have e':V.str x=V.str y:=e;injection e' with e';rw [e']
theorem a2h:∀{a b:List k6},a.map kV=b.map kV->a=b
 |[],[],_=>rfl
 |[],_::_,e=>by simp at e
 |_::_,[],e=>by simp at e
 |x::xs,y::ys,e=>by
  rw [AM,AM] at e
  injection e with e1 e2
  rw [a5O e1,a2h e2]
abbrev KT(H:Hp):List (List k6×V)->List (List k6×AB×AA)->Prop:=Paired fun p q=>p.1=q.1/\H q.2.1=some (.tup (p.1.map kV))/\l5 p.2 q.2.2
theorem KT.val{H:Hp}{kvs:List (List k6×V)}{xs:List (List k6×AB×AA)}(r:KT H kvs xs)(k:List k6):a3c (W2 kvs k) ((atKey xs k).map (·.2)):=by
 induction r with
 |nil=>exact True.intro
 | @cons p q ps qs h t ih=>
   obtain⟨h1,_,h2⟩:=h
   by_cases e:p.1=k
   ·have e':q.1=k:=h1.symm.trans e
    have b:atKey (q::qs) k=some q.2:=by simp [atKey,List.find?_cons,e']
    rw [a1a e,b];exact h2
   ·have e':¬q.1=k:=fun z=>e (h1.trans z)
    have b:atKey (q::qs) k=atKey qs k:=by simp [atKey,List.find?_cons,e']
    rw [a09 e,b];exact ih
theorem KT.repl{H:Hp}{kvs:List (List k6×V)}{xs:List (List k6×AB×AA)}(r:KT H kvs xs)(k:List k6){y:V}{u:AA}(ry:l5 y u):
 KT H (kvs.map fun kv=>if kv.1=k then(kv.1,y) else kv) (xs.map (putAt k u)):=by
 induction r with
 |nil=>exact .nil
 | @cons p q ps qs h t ih=>
   rw [AM,AM]
   refine .cons ?_ ih
   obtain⟨h1,h2,h3⟩:=h
   unfold putAt
   by_cases e:p.1=k
   ·rw [if_pos e,if_pos (h1.symm.trans e)];exact⟨h1,h2,ry⟩
   ·rw [if_neg e,if_neg (fun z=>e (h1.trans z))];exact⟨h1,h2,h3⟩
theorem KT.put{H:Hp}{kvs:List (List k6×V)}{xs:List (List k6×AB×AA)}(r:KT H kvs xs)(k:List k6){b:AB}{y:V}{u:AA}(hb:H b=some (.tup (k.map kV)))(ry:l5 y u):
 KT H (a3l kvs k y) (storedH xs k b u):=by
 have e:(kvs.any fun kv=>decide (kv.1=k))=(atKey xs k).isSome:=by
  rw [a5l,(r.val k).isSome_eq,Option.isSome_map]
 unfold a3l storedH
 rw [e]
 by_cases q:(atKey xs k).isSome=true
 ·rw [if_pos q,if_pos q];exact r.repl k ry
 ·rw [if_neg q,if_neg q];exact Paired.snoc r ⟨rfl,hb,ry⟩
theorem KT.keeps{H H':Hp}{kvs:List (List k6×V)}{xs:List (List k6×AB×AA)}(r:KT H kvs xs)(ht:∀b ys,H b=some (.tup ys)->H' b=some (.tup ys)):KT H' kvs xs:=
 Paired.mapP r fun _ _ z=>⟨z.1,ht _ _ z.2.1,z.2.2⟩
section
variable {P:AI}{w:AG}{H:Hp}{h:Heap}{a:AB}
end
def a8B(H:Hp)(a:AB)(y:V)(r:Option V):Prop:=
 (∃kvs k,Rd H a (.dK kvs)/\y=kV k/\r=W2 kvs k)\/∃kvs k b,Rd H a (.dT kvs)/\y= .ref b/\H b=some (.tup (k.map kV))/\r=W2 kvs k
def a8C(H:Hp)(a:AB)(y v:V)(H':Hp):Prop:=
 (∃kvs k,H a=some (.dK kvs)/\y=kV k/\kvs.length<AJ/\H'=upd H a (.dK (a3l kvs k v)))\/
 ∃kvs k b,H a=some (.dT kvs)/\y= .ref b/\H b=some (.tup (k.map kV))/\kvs.length<AJ/\H'=upd H a (.dT (a3l kvs k v))
theorem a8B.k{H:Hp}{a:AB}{kvs:List (k6×V)}{k:k6}(e:H a=some (.dK kvs)):a8B H a (kV k) (W2 kvs k):= .inl ⟨kvs,k,.inl e,rfl,rfl⟩
theorem a8B.t{H:Hp}{a b:AB}{kvs:List (List k6×V)}{k:List k6}(e:H a=some (.dT kvs))(eb:H b=some (.tup (k.map kV))):a8B H a (.ref b) (W2 kvs k):= .inr ⟨kvs,k,b,.inl e,rfl,eb,rfl⟩
theorem a8C.k{H:Hp}{a:AB}{kvs:List (k6×V)}{k:k6}{v:V}(e:H a=some (.dK kvs))(hl:kvs.length<AJ):a8C H a (kV k) v (upd H a (.dK (a3l kvs k v))):= .inl ⟨kvs,k,e,rfl,hl,rfl⟩
theorem a8C.t{H:Hp}{a b:AB}{kvs:List (List k6×V)}{k:List k6}{v:V}(e:H a=some (.dT kvs))(eb:H b=some (.tup (k.map kV)))(hl:kvs.length<AJ):
 a8C H a (.ref b) v (upd H a (.dT (a3l kvs k v))):= .inr ⟨kvs,k,b,e,rfl,eb,hl,rfl⟩
section
variable {X:Cx}{pins:List (AB×Obj)}{σ:St}{H:Hp}{s:AC}{a:AB}{y v:V}{u r:AA}{o:Option V}{A:AH}{E:AA->AC->Prop}
end
section
variable {X:Cx}{pins:List (AB×Obj)}{σ:St}{H:Hp}{s:AC}{a:AB}{kvs:List (k6×V)}{k:k6}{u:AA}{A:AH}{E:AA->AC->Prop}
end
section
variable {X:Cx}{o i e value:AE}{pos pos' tpos:Pos}{td ty tv:TE}
end
section
variable {X:Cx}{pos:Pos}
end
def b0O:List (TE×TE)->St->Hp->(List (V×V)->Hp->Prop)->Prop
 |[],_,H,Q=>Q [] H
 |(tk,tv)::r,σ,H,Q=>tk σ H fun x H1=>tv σ H1 fun y H2=>b0O r σ H2 fun ps H3=>Q ((x,y)::ps) H3
section
variable {X:Cx}{pins:List (AB×Obj)}{σ:St}{H:Hp}{s:AC}{a:AB}{y d:V}{u r:AA}{o:Option V}{A:AH}{E:AA->AC->Prop}
end
section
variable {X:Cx}{o e f:AE}{apos cpos:Pos}{td ty tx:TE}
end
section
variable {X:Cx}{pins:List (AB×Obj)}{σ:St}{H:Hp}{s:AC}{a:AB}{kvs:List (k6×V)}{A:AH}{E:AA->AC->Prop}
end
section
variable {X:Cx}{pins:List (AB×Obj)}{σ:St}{H:Hp}{s:AC}{a:AB}{y:V}{u:AA}{A:AH}{E:AA->AC->Prop}
end
end L2
namespace Att
open PySem PySem.W PySem.Calls PyProof.Rows
section
variable {prog:AI}{w:AG}{A:AH}{E:AA->AC->Prop}{s:AC}{K:Frag}
end
end Att
namespace L2
open PySem PySem.Spec PyProof.Rows
section
variable {P:AI}{w:AG}{K:AD}{mg:Str->Option AA}{base:Heap}
end
section
variable {X:Cx}
end
section
variable {κ:Type}[DecidableEq κ]
end
end L2
set_option maxHeartbeats 4000000
namespace PU
open PySem PySem.Spec PyProof.Rows L2
abbrev PV:=PyData
def TqT(K:AD)(H:Hp)(a:AB)(xs:List V):Prop:=
 H a=some (.tup xs)\/∃(o:Obj) (its:Array AA) (n:Nat),K.lookup a=some o/\o.cls= .type "tuple"/\o.data= .seq its n/\its.size<=AJ/\g7 xs its.toList
theorem TqT.of{K:AD}{H:Hp}{a:AB}{xs:List V}(h:H a=some (.tup xs)):TqT K H a xs:= .inl h
theorem TqT.sq{K:AD}{H:Hp}{a:AB}{xs:List V}(h:TqT K H a xs):W0 K H a xs:=h.elim (fun h=> .inl (.inl h)) .inr
instance {K:AD} {H:Hp} {a:AB} {xs:List V}:Coe (TqT K H a xs) (W0 K H a xs):=⟨TqT.sq⟩
theorem a9o{K:AD}{H H':Hp}{a:AB}{xs:List V}(s:e9 H H')(h:TqT K H a xs):TqT K H' a xs:=h.elim (fun h=> .inl (s _ _ h)) .inr
def a3m(K:AD)(x:Str)(v:V):Prop:=∃(a:AB) (oc:AA) (od:Option AB) (fd:FuncData) (osl:Array (Option AA)),v= .ref a/\K.lookup a=some ⟨oc,od,.func fd,osl⟩/\fd.name=x
def a1E(K:AD)(x:Str)(C:AB):Prop:=PySem.W.nsIn K mainGlobals x=some (some (.ref C))/\∃(oc:AA) (od:Option AB) (cd:ClassData) (osl:Array (Option AA)),K.lookup C=some ⟨oc,od,.cls cd,osl⟩/\cd.name=x
theorem a1E.inj{K:AD}{x y:Str}{C:AB}(h:a1E K x C)(h':a1E K y C):x=y:=by
 obtain⟨_,_,_,_,_,k,n⟩:=h
 obtain⟨_,_,_,_,_,k',n'⟩:=h'
 rw [k] at k';cases k'
 rw [<-n,n']
theorem a1E.uniq{K:AD}{x:Str}{C D:AB}(h:a1E K x C)(h':a1E K x D):C=D:=by
 have:=h.1.symm.trans h'.1
 cases this;rfl
def a9V(K:AD)(H:Hp)(x:Str)(v:V):Prop:=∃(a C:AB) (φ:Heap->Prop),v= .ref a/\H a=some (.ext φ)/\
 (∀h:Heap,φ h->∃oe vs,h.get? a=some oe/\oe.cls= .ref C/\oe.data= .fields vs/\oe.dict=none)/\a1E K x C
def a10(K:AD)(H:Hp)(x:Str)(t:PV)(v:V):Prop:=(t= .none/\a3m K x v)\/(t= .bool true/\a9V K H x v)
theorem a10.ref{K:AD}{H:Hp}{x:Str}{t:PV}{v:V}(h:a10 K H x t v):∃a,v= .ref a:=by
 rcases h with⟨_,a,_,_,_,_,e,_⟩|⟨_,a,_,_,e,_⟩<;>exact⟨a,e⟩
theorem a10.mono{K:AD}{H H':Hp}{x:Str}{t:PV}{v:V}(s:e9 H H')(h:a10 K H x t v):a10 K H' x t v:=by
 rcases h with h|⟨z,a,C,φ,e,q,r⟩
 ·exact .inl h
 ·exact .inr ⟨z,a,C,φ,e,s _ _ q,r⟩
def kP:k6->PV
 | .inl i=> .int i
 | .inr x=> .str x
def s1{α:Type}(kv:k6×α):List k6×α:=([kv.1],kv.2)
mutual
def C3(K:AD)(H:Hp):PV->V->Prop
 | .none,v=>v= .non
 | .bool b,v=>v= .bl b
 | .int i,v=>v= .int i
 | .str x,v=>v= .str x
 | .tuple ps,v=>∃a xs,v= .ref a/\TqT K H a xs/\e8 K H ps xs
 | .list ps,v=>∃a xs,v= .ref a/\R6 K H a xs/\e8 K H ps xs
 | .dict kvs,v=>(∃a ys,v= .ref a/\H a=some (.dK ys)/\Q0 K H kvs (ys.map s1))\/(∃a xs,v= .ref a/\H a=some (.dT xs)/\Q0 K H kvs (([],.non)::xs))\/(∃x t,kvs=[(.str x,t)]/\a10 K H x t v)
def e8(K:AD)(H:Hp):List PV->List V->Prop
 |[],vs=>vs=[]
 |p::ps,vs=>∃v r,vs=v::r/\C3 K H p v/\e8 K H ps r
def Q0(K:AD)(H:Hp):List (PV×PV)->List (List k6×V)->Prop
 |[],ys=>ys=[]
 |(k,p)::r,ys=>∃kk v t,ys=(kk,v)::t/\k= .tuple (kk.map kP)/\C3 K H p v/\Q0 K H r t
end
theorem o8{K:AD}{H H':Hp}{a:AB}{xs:List V}(s:e9 H H')(h:W0 K H a xs):W0 K H' a xs:=by
 rcases h with(h|⟨o,h⟩)|h
 ·exact .inl (.inl (s _ _ h))
 ·exact .inl (.inr ⟨o,s _ _ h⟩)
 ·exact .inr h
theorem J2{K:AD}{H H':Hp}{a:AB}{xs:List V}(s:e9 H H')(h:R6 K H a xs):R6 K H' a xs:=by
 rcases h with(h|⟨o,h⟩)|h
 ·exact .inl (.inl (s _ _ h))
 ·exact .inl (.inr ⟨o,s _ _ h⟩)
 ·exact .inr h
mutual
theorem C3.mono{K:AD}{H H':Hp}(s:e9 H H'):∀(p:PV) {v:V},C3 K H p v->C3 K H' p v
 | .none,_,h=>h
 | .bool _,_,h=>h
 | .int _,_,h=>h
 | .str _,_,h=>h
 | .dict kvs,_,.inl ⟨a,ys,q,h,r⟩=> .inl ⟨a,ys,q,s _ _ h,Q0.mono s kvs r⟩
 | .dict kvs,_,.inr (.inl ⟨a,xs,q,h,r⟩)=> .inr (.inl ⟨a,xs,q,s _ _ h,Q0.mono s kvs r⟩)
 | .dict _,_,.inr (.inr ⟨x,t,e,h⟩)=> .inr (.inr ⟨x,t,e,h.mono s⟩)
 | .tuple ps,_,⟨a,xs,e,q,r⟩=>⟨a,xs,e,a9o s q,e8.mono s ps r⟩
 | .list ps,_,⟨a,xs,e,q,r⟩=>⟨a,xs,e,J2 s q,e8.mono s ps r⟩
theorem e8.mono{K:AD}{H H':Hp}(s:e9 H H'):∀(ps:List PV) {vs:List V},e8 K H ps vs->e8 K H' ps vs
 |[],_,h=>h
 |p::ps,_,⟨v,r,e,q,t⟩=>⟨v,r,e,C3.mono s p q,e8.mono s ps t⟩
theorem Q0.mono{K:AD}{H H':Hp}(s:e9 H H'):∀(es:List (PV×PV)) {ys:List (List k6×V)},Q0 K H es ys->Q0 K H' es ys
 |[],_,h=>h
 |(k,p)::es,_,⟨kk,v,r,e,z,q,t⟩=>⟨kk,v,r,e,z,C3.mono s p q,Q0.mono s es t⟩
end
theorem e8.length{K:AD}{H:Hp}:∀{ps:List PV} {vs:List V},e8 K H ps vs->vs.length=ps.length
 |[],_,h=>by cases h;rfl
 |_::ps,_,⟨v,r,e,_,t⟩=>by subst e;rw [AS,AS,e8.length t]
theorem e8.get{K:AD}{H:Hp}:∀{ps:List PV} {vs:List V} {i:Nat} {p:PV},e8 K H ps vs->ps[i]?=some p->∃v,vs[i]?=some v/\C3 K H p v
 |[],_,_,_,_,h=>by simp at h
 |q::ps,_,0,p,⟨v,r,e,a,t⟩,h=>by subst e;simp at h;subst h;exact⟨v,rfl,a⟩
 |q::ps,_,i+1,p,⟨v,r,e,a,t⟩,h=>by subst e;exact e8.get (i:=i) t (by simpa using h)
theorem e8.getV{K:AD}{H:Hp}:∀{ps:List PV} {vs:List V} {i:Nat} {v:V},e8 K H ps vs->vs[i]?=some v->∃p,ps[i]?=some p/\C3 K H p v
 |[],_,_,_,h,e=>by cases h;simp at e
 |q::ps,_,0,v,⟨w,r,e,a,t⟩,h=>by subst e;simp at h;subst h;exact⟨q,rfl,a⟩
 |q::ps,_,i+1,v,⟨w,r,e,a,t⟩,h=>by subst e;exact e8.getV (i:=i) t (by simpa using h)
theorem e8.append{K:AD}{H:Hp}:∀{ps qs:List PV} {vs ws:List V},e8 K H ps vs->e8 K H qs ws->e8 K H (ps++qs) (vs++ws)
 |[],_,_,_,h,t=>by cases h;exact t
 |_::ps,_,_,_,⟨v,r,e,a,t⟩,s=>by subst e;exact⟨v,_,rfl,a,e8.append t s⟩
theorem e8.drop{K:AD}{H:Hp}:∀{ps:List PV} {vs:List V} (n:Nat),e8 K H ps vs->e8 K H (ps.drop n) (vs.drop n)
 |_,_,0,h=>h
 |[],_,n+1,h=>by cases h;rfl
 |_::ps,_,n+1,⟨v,r,e,a,t⟩=>by subst e;exact e8.drop n t
theorem e8.take{K:AD}{H:Hp}:∀{ps:List PV} {vs:List V} (n:Nat),e8 K H ps vs->e8 K H (ps.take n) (vs.take n)
 |_,_,0,h=>rfl
 |[],_,n+1,h=>by cases h;rfl
 |_::ps,_,n+1,⟨v,r,e,a,t⟩=>by subst e;exact⟨v,_,rfl,a,e8.take n t⟩
def v7(K:AD)(H:Hp):List (List k6×PV)->List (List k6×V)->Prop
 |[],ys=>ys=[]
 |(k,p)::r,ys=>∃v t,ys=(k,v)::t/\C3 K H p v/\v7 K H r t
theorem v7.mono{K:AD}{H H':Hp}(s:e9 H H'):∀(kvs:List (List k6×PV)) {ys:List (List k6×V)},v7 K H kvs ys->v7 K H' kvs ys
 |[],_,h=>h
 |(k,p)::r,_,⟨v,t,e,q,h⟩=>⟨v,t,e,C3.mono s p q,v7.mono s r h⟩
inductive P8 where
 |lst (ps:List PV)|dct (kvs:List (List k6×PV))|txt (kvs:List (List k6×PV))
inductive b4 where
 |val (p:PV)|ow (c:P8)|bo (c:P8)
abbrev b4.own(ps:List PV):b4:= .ow (.lst ps)
abbrev b4.bor(ps:List PV):b4:= .bo (.lst ps)
abbrev b4.dct(kvs:List (List k6×PV)):b4:= .ow (.dct kvs)
def M5(K:AD)(F H:Hp)(v:V):P8->Prop
 | .lst ps=>∃a xs,v= .ref a/\F a=none/\H a=some (.lst xs)/\e8 K F ps xs
 | .dct kvs=>∃a xs,v= .ref a/\F a=none/\H a=some (.dT xs)/\v7 K F kvs xs
 | .txt kvs=>∃a xs,v= .ref a/\F a=none/\H a=some (.dK xs)/\v7 K F kvs (xs.map s1)
def J4(K:AD)(F H:Hp)(v:V):b4->Prop
 | .val p=>C3 K F p v
 | .ow c=>M5 K F H v c
 | .bo c=>M5 K F H v c
theorem M5.at_{K:AD}{F H:Hp}{v:V}:∀{c:P8},M5 K F H v c->∃a o,v= .ref a/\F a=none/\H a=some o
 | .lst _,⟨a,_,e,n,q,_⟩=>⟨a,_,e,n,q⟩
 | .dct _,⟨a,_,e,n,q,_⟩=>⟨a,_,e,n,q⟩
 | .txt _,⟨a,_,e,n,q,_⟩=>⟨a,_,e,n,q⟩
def NT(o:HO):Prop:=∀xs,o≠.tup xs
structure W3(F H F' H':Hp):Prop where
 f:e9 F F'
 h:e9 H H'
 fh:e9 F' H'
 nw:∀b o,F b=none->H b=some o->NT o->F' b=none
 nf:∀b o u,F' b=some (.frz o u)->F b=some (.frz o u)
theorem e9.refl(H:Hp):e9 H H:=fun _ _ e=>e
theorem W3.refl{F H:Hp}(s:e9 F H):W3 F H F H:=⟨e9.refl F,e9.refl H,s,fun _ _ e _ _=>e,fun _ _ _ e=>e⟩
theorem W3.trans{F H F1 H1 F2 H2:Hp}(a:W3 F H F1 H1)(b:W3 F1 H1 F2 H2):W3 F H F2 H2:=
 ⟨a.f.trans b.f,a.h.trans b.h,b.fh,fun c o e q t=>b.nw c o (a.nw c o e q t) (a.h c o q) t,fun c o u e=>a.nf c o u (b.nf c o u e)⟩
theorem a7X{F0 F:Hp}{a:AB}{xs:List V}(h:∀b o u,F b=some (.frz o u)->F0 b=some (.frz o u)):∀b o u,upd F a (.lst xs) b=some (.frz o u)->F0 b=some (.frz o u):=fun b o u z=>by
 by_cases hb:b=a
 ·subst hb;rw [m7] at z;cases z
 ·rw [f8 hb] at z;exact h _ _ _ z
theorem M5.ext{K:AD}{F H F' H':Hp}{v:V}(x:W3 F H F' H'):∀{c:P8},M5 K F H v c->M5 K F' H' v c
 | .lst _,⟨a,xs,e,n,q,r⟩=>⟨a,xs,e,x.nw _ _ n q (fun _ h=>nomatch h),x.h _ _ q,e8.mono x.f _ r⟩
 | .dct _,⟨a,xs,e,n,q,r⟩=>⟨a,xs,e,x.nw _ _ n q (fun _ h=>nomatch h),x.h _ _ q,v7.mono x.f _ r⟩
 | .txt _,⟨a,xs,e,n,q,r⟩=>⟨a,xs,e,x.nw _ _ n q (fun _ h=>nomatch h),x.h _ _ q,v7.mono x.f _ r⟩
theorem J4.ext{K:AD}{F H F' H':Hp}{v:V}(x:W3 F H F' H'):∀{r:b4},J4 K F H v r->J4 K F' H' v r
 | .val p,h=>C3.mono x.f p h
 | .ow _,h=>M5.ext x h
 | .bo _,h=>M5.ext x h
def P8.rd:P8->PV
 | .lst ps=> .list ps
 | .dct kvs=> .dict ((.tuple [],.none)::kvs.map fun kv=>(.tuple (kv.1.map kP),kv.2))
 | .txt kvs=> .dict (kvs.map fun kv=>(.tuple (kv.1.map kP),kv.2))
def b4.rd:b4->PV
 | .val p=>p
 | .ow c=>c.rd
 | .bo c=>c.rd
def b4.toVal:b4->Option PV
 | .val p=>some p
 | .ow (.lst ps)=>some (.list ps)
 | .ow (.dct _)=>none
 | .ow (.txt _)=>none
 | .bo _=>none
theorem Q0.of{K:AD}{F H:Hp}(s:e9 F H):∀{kvs:List (List k6×PV)} {xs:List (List k6×V)},v7 K F kvs xs->Q0 K H (kvs.map fun kv=>(PyData.tuple (kv.1.map kP),kv.2)) xs
 |[],_,h=>h
 |(k,p)::r,_,⟨v,t,e,q,h⟩=>⟨k,v,t,e,rfl,C3.mono s p q,Q0.of s h⟩
theorem M5.rd{K:AD}{F H:Hp}{v:V}(s:e9 F H):∀{c:P8},M5 K F H v c->C3 K H c.rd v
 | .lst ps,⟨a,xs,e,n,q,r⟩=>⟨a,xs,e,R6.of q,e8.mono s _ r⟩
 | .dct kvs,⟨a,xs,e,n,q,r⟩=> .inr (.inl ⟨a,xs,e,q,[],.non,xs,rfl,rfl,rfl,Q0.of s r⟩)
 | .txt kvs,⟨a,xs,e,n,q,r⟩=> .inl ⟨a,xs,e,q,Q0.of s r⟩
theorem J4.rd{K:AD}{F H:Hp}{v:V}(s:e9 F H):∀{r:b4},J4 K F H v r->C3 K H r.rd v
 | .val p,h=>C3.mono s p h
 | .ow _,h=>M5.rd s h
 | .bo _,h=>M5.rd s h
structure p4(K:AD)(F H F' H':Hp)(v:V)(r:b4):Prop where
 x:W3 F H F' H'
 rep:J4 K F' H' v r
 fr:∀c a,r= .ow c->v= .ref a->H a=none
theorem p4.val{K:AD}{F H F' H':Hp}{v:V}{p:PV}(x:W3 F H F' H')(r:C3 K F' p v):p4 K F H F' H' v (.val p):=⟨x,r,fun _ _ e=>nomatch e⟩
theorem p4.here{K:AD}{F H:Hp}{v:V}{p:PV}(s:e9 F H)(r:C3 K F p v):p4 K F H F H v (.val p):=p4.val (W3.refl s) r
theorem p4.trans{K:AD}{F H F1 H1 F2 H2:Hp}{v:V}{r:b4}(a:W3 F H F1 H1)(b:p4 K F1 H1 F2 H2 v r):p4 K F H F2 H2 v r:=
 ⟨a.trans b.x,b.rep,fun ps c e q=>a.h.free (b.fr ps c e q)⟩
theorem p4.toVal{K:AD}{F H F' H':Hp}{v:V}{p:PV}:∀{r:b4},p4 K F H F' H' v r->r.toVal=some p->∃F2,p4 K F H F2 H' v (.val p)
 | .val q,o,e=>by cases e;exact⟨F',o⟩
 | .bo _,_,e=>nomatch e
 | .ow (.dct _),_,e=>nomatch e
 | .ow (.txt _),_,e=>nomatch e
 | .ow (.lst ps),o,e=>by
   cases e
   obtain⟨a,xs,rfl,n,q,r⟩:=o.rep
   have fr:=o.fr _ a rfl rfl
   have up:e9 F' (upd F' a (.lst xs)):=fun b u z=>by rw [f8 (j4 z n)];exact z
   refine⟨upd F' a (.lst xs),p4.val ⟨o.x.f.trans up,o.x.h,fun b u z=> ?_,fun b u z y t=> ?_,a7X o.x.nf⟩ ⟨a,xs,rfl,R6.of m7,e8.mono up _ r⟩⟩
   ·by_cases hb:b=a
    ·subst hb;rw [m7] at z;cases z;exact q
    ·rw [f8 hb] at z;exact o.x.fh _ _ z
   ·rw [f8 (j4 y fr)];exact o.x.nw b u z y t
theorem Y5{H:Hp}{a:AB}{o:HO}(n:H a=none):e9 H (upd H a o):=fun b u z=>by rw [f8 (j4 z n)];exact z
theorem W3.lay{F H:Hp}{a:AB}{o:HO}(s:e9 F H)(n:H a=none)(hf:∀x u,o≠.frz x u:=by intro _ _ h;cases h):W3 F H (upd F a o) (upd H a o):=
 ⟨Y5 (s.free n),Y5 n,fun b u z=>by
  by_cases hb:b=a
  ·subst hb;rw [m7] at z ⊢;exact z
  ·rw [f8 hb] at z ⊢;exact s _ _ z,fun b u z y _=>by rw [f8 (j4 y n)];exact z,fun b w u z=>by
  by_cases hb:b=a
  ·subst hb;rw [m7] at z;exact absurd (Option.some.inj z) (hf w u)
  ·rw [f8 hb] at z;exact z⟩
theorem W3.layH{F H:Hp}{a:AB}{o:HO}(s:e9 F H)(n:H a=none):W3 F H F (upd H a o):=
 ⟨e9.refl F,Y5 n,fun b u z=>by rw [f8 (j4 (s _ _ z) n)];exact s _ _ z,fun b u z y _=>z,fun _ _ _ z=>z⟩
theorem p4.tup{K:AD}{F H:Hp}{a:AB}{xs:List V}{ps:List PV}(s:e9 F H)(n:H a=none)(r:e8 K F ps xs):p4 K F H (upd F a (.tup xs)) (upd H a (.tup xs)) (.ref a) (.val (.tuple ps)):=
 p4.val (W3.lay s n) ⟨a,xs,rfl,TqT.of m7,e8.mono (Y5 (s.free n)) _ r⟩
theorem p4.lst{K:AD}{F H:Hp}{a:AB}{xs:List V}{ps:List PV}(s:e9 F H)(n:H a=none)(r:e8 K F ps xs):p4 K F H F (upd H a (.lst xs)) (.ref a) (.own ps):=
 ⟨W3.layH s n,⟨a,xs,rfl,s.free n,m7,r⟩,fun _ _ _ e=>by cases e;exact n⟩
abbrev a8:=List (Option b4)
structure t7(K:AD)(F H:Hp)(σ:L2.St)(ρ:a8):Prop where
 fh:e9 F H
 len:σ.length=ρ.length
 at_:∀(i:Nat) (r:b4),ρ[i]?=some (some r)->∃v,σ[i]?=some (some v)/\J4 K F H v r
 nb:∀(i:Nat) (c:P8),ρ[i]?≠some (some (.bo c))
 ap:∀(i j:Nat) (c d:P8) (a:AB),i≠j->ρ[i]?=some (some (.ow c))->ρ[j]?=some (some (.ow d))->σ[i]?=some (some (.ref a))->σ[j]?≠some (some (.ref a))
theorem t7.ext{K:AD}{F H F' H':Hp}{σ:L2.St}{ρ:a8}(e:t7 K F H σ ρ)(x:W3 F H F' H'):t7 K F' H' σ ρ:=
 ⟨x.fh,e.len,fun i r q=>let ⟨v,a,b⟩:=e.at_ i r q;⟨v,a,b.ext x⟩,e.nb,e.ap⟩
abbrev M:=a8->Option b4
def tM(K:AD)(m:M):TE:=fun σ H Q=>∃F ρ r,t7 K F H σ ρ/\m ρ=some r/\∀v F' H',p4 K F H F' H' v r->Q v H'
abbrev EE(X:Cx)(e:AE)(m:M):Prop:=PE X e (tM X.K m)
theorem D3{X:Cx}{e:AE}{t t':TE}(h:PE X e t)(i:∀σ H Q,t' σ H Q->t σ H Q):PE X e t':=fun pins s σ H Q I q=>h pins s σ H Q I (i σ H Q q)
theorem a4g{X:Cx}{e:AE}{t t':TT}(h:PT X e t)(i:∀σ H Q,t' σ H Q->t σ H Q):PT X e t':=fun pins s σ H Q I q=>h pins s σ H Q I (i σ H Q q)
theorem a8j{X:Cx}{e:AE}{t t':TT}(h:PW X e t)(i:∀σ H Q,t' σ H Q->t σ H Q):PW X e t':=fun wh pins s σ H Q I q=>h wh pins s σ H Q I (i σ H Q q)
theorem a77{X:Cx}{e:List AE}{t t':TA}(h:PA X e t)(i:∀σ H Q,t' σ H Q->t σ H Q):PA X e t':=fun pos pins s σ H Q I q=>h pos pins s σ H Q I (i σ H Q q)
theorem K0{X:Cx}{e:Stmt}{t t':TS}(h:PS X e t)(i:∀D σ H,t' D σ H->t D σ H):PS X e t':=fun pins s σ H D I q=>h pins s σ H D I (i D σ H q)
theorem a4f{X:Cx}{e:List Stmt}{t t':TS}(h:PSs X e t)(i:∀D σ H,t' D σ H->t D σ H):PSs X e t':=fun pins s σ H D I q=>h pins s σ H D I (i D σ H q)
def mC(p:PV):M:=fun _=>some (.val p)
def a7(i:Nat):M:=fun ρ=>match ρ[i]? with
 |some (some (.ow c))=>some (.bo c)
 |some (some r)=>some r
 |_=>none
section
variable {X:Cx}{a b c:AE}{ma mb mc:M}{pos:Pos}
theorem Q4{e:AE}{v:V}{p:PV}(h:PE X e (tC v))(r:∀H,C3 X.K H p v):EE X e (mC p):=
 D3 h fun σ H Q ⟨F,ρ,q,he,hm,k⟩=>by
  cases hm
  exact k v F H (p4.here he.fh (r F))
theorem a9{i j pos}:EE X (.Constant (.int i) j pos) (mC (.int i)):=Q4 b0w fun _=>rfl
theorem a2s{b j pos}:EE X (.Constant (.bool b) j pos) (mC (.bool b)):=Q4 b1g fun _=>rfl
theorem x8{j pos}:EE X (.Constant .none j pos) (mC .none):=Q4 b0y fun _=>rfl
theorem j0{x j pos}:EE X (.Constant (.str x) j pos) (mC (.str x)):=Q4 b0z fun _=>rfl
theorem a4(i:Nat){x:Str}{pos:Pos}(h:PE X (.Name x pos) (a51 i)):EE X (.Name x pos) (a7 i):=
 D3 h fun σ H Q ⟨F,ρ,r,he,hm,k⟩=>by
  unfold a7 at hm
  split at hm
  ·rename_i ps e
   cases hm
   obtain⟨v,e1,rr⟩:=he.at_ i _ e
   exact⟨v,e1,k v F H ⟨W3.refl he.fh,rr,fun _ _ z=>nomatch z⟩⟩
  ·rename_i r' nn e
   cases hm
   obtain⟨v,e1,rr⟩:=he.at_ i _ e
   exact⟨v,e1,k v F H ⟨W3.refl he.fh,rr,fun ps _ z=>absurd z (nn ps)⟩⟩
  ·cases hm
def rM2(K:AD)(g:b4->b4->Option b4):R2:=fun x y H Q=>∃F rx ry rz,e9 F H/\J4 K F H x rx/\J4 K F H y ry/\g rx ry=some rz/\∀v F' H',p4 K F H F' H' v rz->Q v H'
abbrev OpM(X:Cx)(f:AA->AA->Sem AA)(g:b4->b4->Option b4):Prop:=OpR X f (rM2 X.K g)
def m2(g:b4->b4->Option b4)(ma mb:M):M:=fun ρ=>(ma ρ).bind fun x=>(mb ρ).bind fun y=>g x y
theorem bind_some{α β:Type}{o:Option α}{f:α->Option β}{b:β}(h:o.bind f=some b):∃a,o=some a/\f a=some b:=by
 cases o with
 |none=>cases h
 |some a=>exact⟨a,rfl,h⟩
theorem a55{K:AD}{g:b4->b4->Option b4}{σ:L2.St}{H:Hp}{Q:VK}(h:tM K (m2 g ma mb) σ H Q):tOp (rM2 K g) (tM K ma) (tM K mb) σ H Q:=by
 obtain⟨F,ρ,r,he,hm,k⟩:=h
 obtain⟨rx,e1,hm⟩:=bind_some hm
 obtain⟨ry,e2,hm⟩:=bind_some hm
 exact⟨F,ρ,rx,he,e1,fun v F1 H1 o1=>⟨F1,ρ,ry,he.ext o1.x,e2,fun u F2 H2 o2=>⟨F2,rx,ry,r,o2.x.fh,o1.rep.ext o2.x,o2.rep,hm,fun z F3 H3 o3=>k z F3 H3 (p4.trans (o1.x.trans o2.x) o3)⟩⟩⟩
theorem d4{op:Operator}{g:b4->b4->Option b4}(ho:OpM X (binaryOp op) g)(ha:EE X a ma)(hb:EE X b mb):EE X (.BinOp a op b pos) (m2 g ma mb):=
 D3 (b1i ho ha hb) fun _ _ _ h=>a55 h
theorem a1B{f:AA->AA->Sem AA}{r:R2}{g:b4->b4->Option b4}(h:OpR X f r)
 (i:∀F H x y rx ry rz,e9 F H->J4 X.K F H x rx->J4 X.K F H y ry->g rx ry=some rz->∀Q:VK,(∀v F' H',p4 X.K F H F' H' v rz->Q v H')->r x y H Q):OpM X f g:=
 fun pins s σ H x y v u Q I rx ry ⟨F,ra,rb,rz,s0,h1,h2,h3,k⟩=>h pins s σ H x y v u Q I rx ry (i F H x y ra rb rz s0 h1 h2 h3 Q k)
end
def gI(f:Int->Int->PV):b4->b4->Option b4
 | .val (.int i),.val (.int j)=>some (.val (f i j))
 |_,_=>none
theorem a70:∃f:(Int->Int->Prop)->Int->Int->Bool,∀C i j,f C i j=true↔C i j:=⟨fun C i j=> @decide (C i j) (Classical.propDecidable _),fun C i j=> @decide_eq_true_iff (C i j) (Classical.propDecidable _)⟩
def okC:(Int->Int->Prop)->Int->Int->Bool:=a70.choose
theorem a0c{C:Int->Int->Prop}{i j:Int}:okC C i j=true↔C i j:=a70.choose_spec C i j
def gIc(C:Int->Int->Prop)[∀i j,Decidable (C i j)](f:Int->Int->PV):b4->b4->Option b4
 | .val (.int i),.val (.int j)=>if okC C i j=true then some (.val (f i j)) else none
 |_,_=>none
theorem a6k{f:Int->Int->PV}{rx ry rz:b4}(h:gI f rx ry=some rz):∃i j,rx= .val (.int i)/\ry= .val (.int j)/\rz= .val (f i j):=by
 unfold gI at h
 split at h
 ·cases h;exact⟨_,_,rfl,rfl,rfl⟩
 ·cases h
theorem a7G{C:Int->Int->Prop}[∀i j,Decidable (C i j)]{f:Int->Int->PV}{rx ry rz:b4}(h:gIc C f rx ry=some rz):∃i j,rx= .val (.int i)/\ry= .val (.int j)/\C i j/\rz= .val (f i j):=by
 unfold gIc at h
 split at h
 ·split at h
  ·rename_i c;cases h;exact⟨_,_,rfl,rfl,a0c.mp c,rfl⟩
  ·cases h
 ·cases h
section
variable {X:Cx}
theorem a74{f:AA->AA->Sem AA}{g:Int->Int->V}{g':Int->Int->PV}(h:OpR X f (rI0 g))(e:∀i j H,C3 X.K H (g' i j) (g i j)):OpM X f (gI g'):=
 a1B h fun F H x y rx ry rz s h1 h2 h3 Q k=>by
  obtain⟨i,j,rfl,rfl,rfl⟩:=a6k h3
  exact⟨i,j,h1,h2,k _ F H (p4.here s (e i j F))⟩
theorem a5W{f:AA->AA->Sem AA}{C:Int->Int->Prop}[∀i j,Decidable (C i j)]{g:Int->Int->V}{g':Int->Int->PV}(h:OpR X f (rI C g))(e:∀i j H,C3 X.K H (g' i j) (g i j)):OpM X f (gIc C g'):=
 a1B h fun F H x y rx ry rz s h1 h2 h3 Q k=>by
  obtain⟨i,j,rfl,rfl,c,rfl⟩:=a7G h3
  exact⟨i,j,h1,h2,c,k _ F H (p4.here s (e i j F))⟩
end
section
variable {X:Cx}{pins:List (AB×Obj)}{σ:L2.St}{H:Hp}{s:AC}
theorem a1S(I:e7 X pins σ H s){a:AB}{xs ys:List V}(h:R6 X.K H a xs)(h':W0 X.K H a ys):False:=by
 obtain⟨its,r,p,_⟩:=I.list h
 obtain⟨its',r',p',_⟩:=I.tuple h'
 exact SeqAt.ne_of_list_tuple p.isList (show s.heap.IsTuple a its'.toArray from p') rfl
theorem a1Q(I:e7 X pins σ H s){a:AB}{xs:List V}{ys:List (k6×V)}(h:H a=some (.dK ys))(h':R6 X.K H a xs):False:=by
 obtain⟨its,r,⟨o,n,e,c,_⟩,_⟩:=I.list h'
 obtain⟨_,_,_,_,o',_,_,e',ex,_⟩:=I.hok a _ h
 rw [e] at e';cases e'
 have:=ex.1
 rw [c] at this;exact absurd this (by simp)
theorem a1R(I:e7 X pins σ H s){a:AB}{xs:List V}{ys:List (k6×V)}(h:H a=some (.dK ys))(h':W0 X.K H a xs):False:=by
 obtain⟨its,r,⟨o,e,c,_⟩,_⟩:=I.tuple h'
 obtain⟨_,_,_,_,o',_,_,e',ex,_⟩:=I.hok a _ h
 rw [e] at e';cases e'
 have:=ex.1
 rw [c] at this;exact absurd this (by simp)
theorem a2M(I:e7 X pins σ H s){a:AB}{ys:List (List k6×V)}{xs:List V}(h:H a=some (.dT ys))(h':R6 X.K H a xs):False:=by
 obtain⟨its,r,⟨o,n,e,c,_⟩,_⟩:=I.list h'
 obtain⟨_,_,_,_,o',_,_,e',ex,_⟩:=I.hok a _ h
 rw [e] at e';cases e'
 have:=ex.1
 rw [c] at this;exact absurd this (by simp)
theorem a2N(I:e7 X pins σ H s){a:AB}{ys:List (List k6×V)}{xs:List V}(h:H a=some (.dT ys))(h':W0 X.K H a xs):False:=by
 obtain⟨its,r,⟨o,e,c,_⟩,_⟩:=I.tuple h'
 obtain⟨_,_,_,_,o',_,_,e',ex,_⟩:=I.hok a _ h
 rw [e] at e';cases e'
 have:=ex.1
 rw [c] at this;exact absurd this (by simp)
theorem a6g(I:e7 X pins σ H s){x:Str}{v:V}(h:a3m X.K x v):∃(a:AB) (o:Obj) (fd:FuncData),v= .ref a/\s.heap.get? a=some o/\o.data= .func fd/\fd.name=x:=by
 obtain⟨a,oc,od,fd,osl,e,k,n⟩:=h
 exact⟨a,_,fd,e,I.kIn a _ k,rfl,n⟩
theorem a2k(I:e7 X pins σ H s){x:Str}{v:V}(h:a9V X.K H x v):∃(a C:AB) (o:Obj) (vs:Array AA),v= .ref a/\s.heap.get? a=some o/\o.cls= .ref C/\o.data= .fields vs/\a1E X.K x C/\o.dict=none:=by
 obtain⟨a,C,φ,e,q,k,n⟩:=h
 obtain⟨oe,vs,h1,h2,h3,h4⟩:=k _ (I.hok a _ q).1
 exact⟨a,C,oe,vs,e,h1,h2,h3,n,h4⟩
theorem a2Q(I:e7 X pins σ H s){x:Str}{a:AB}{xs:List V}{t:PV}(h:a10 X.K H x t (.ref a))(h':W0 X.K H a xs):False:=by
 obtain⟨its,r,⟨o',e',c',n',d'⟩,_⟩:=I.tuple h'
 rcases h with⟨_,h⟩|⟨_,h⟩
 ·obtain⟨b,o,fd,e,g,d,_⟩:=a6g I h
  cases e
  rw [g] at e';cases e'
  rw [d] at d';cases d'
 ·obtain⟨b,C,o,vs,e,g,c,d,_⟩:=a2k I h
  cases e
  rw [g] at e';cases e'
  rw [d] at d';cases d'
theorem a2P(I:e7 X pins σ H s){x:Str}{a:AB}{xs:List V}{t:PV}(h:a10 X.K H x t (.ref a))(h':R6 X.K H a xs):False:=by
 obtain⟨its,r,pl,_⟩:=I.list h'
 obtain⟨o',e',c',n',d'⟩:=pl.isList
 rcases h with⟨_,h⟩|⟨_,h⟩
 ·obtain⟨b,o,fd,e,g,d,_⟩:=a6g I h
  cases e
  rw [g] at e';cases e'
  rw [d] at d';cases d'
 ·obtain⟨b,C,o,vs,e,g,c,d,_⟩:=a2k I h
  cases e
  rw [g] at e';cases e'
  rw [d] at d';cases d'
theorem a2O(I:e7 X pins σ H s){x:Str}{a:AB}{ys:List (k6×V)}{t:PV}(h:a10 X.K H x t (.ref a))(h':H a=some (.dK ys)):False:=by
 rcases h with⟨_,b,oc,od,fd,osl,e,k,_⟩|⟨_,b,C,φ,e,q,_⟩
 ·cases e
  have:=(I.bs a _ (I.ok.mod.kin a _ k)).2
  rw [this] at h';cases h'
 ·cases e
  rw [q] at h';cases h'
theorem a3B(I:e7 X pins σ H s){x:Str}{a:AB}{ys:List (List k6×V)}{t:PV}(h:a10 X.K H x t (.ref a))(h':H a=some (.dT ys)):False:=by
 rcases h with⟨_,b,oc,od,fd,osl,e,k,_⟩|⟨_,b,C,φ,e,q,_⟩
 ·cases e
  have:=(I.bs a _ (I.ok.mod.kin a _ k)).2
  rw [this] at h';cases h'
 ·cases e
  rw [q] at h';cases h'
theorem a3C(I:e7 X pins σ H s){x y:Str}{v:V}(h:a3m X.K x v)(h':a9V X.K H y v):False:=by
 obtain⟨b,oc,od,fd,osl,e,k,_⟩:=h
 obtain⟨b',C,φ,e',q,_⟩:=h'
 rw [e] at e';cases e'
 have:=(I.bs b _ (I.ok.mod.kin b _ k)).2
 rw [this] at q;cases q
theorem b04(I:e7 X pins σ H s){x y:Str}{t u:PV}{v:V}(h:a10 X.K H x t v)(h':a10 X.K H y u v):x=y/\t=u:=by
 rcases h with⟨rfl,h⟩|⟨rfl,h⟩<;>rcases h' with⟨rfl,h'⟩|⟨rfl,h'⟩
 all_goals first|refine⟨?_,rfl⟩|skip
 ·obtain⟨b,oc,od,fd,osl,e,k,n⟩:=h
  obtain⟨b',oc',od',fd',osl',e',k',n'⟩:=h'
  rw [e] at e';cases e'
  rw [k] at k';cases k'
  rw [<-n,n']
 ·exact(a3C I h h').elim
 ·exact(a3C I h' h).elim
 ·obtain⟨b,C,o,vs,e,g,c,d,n,_⟩:=a2k I h
  obtain⟨b',C',o',vs',e',g',c',d',n',_⟩:=a2k I h'
  rw [e] at e';cases e'
  rw [g] at g';cases g'
  rw [c] at c';cases c'
  exact n.inj n'
mutual
theorem C3.inj(I:e7 X pins σ H s):∀(p q:PV) {v:V},C3 X.K H p v->C3 X.K H q v->p=q
 | .tuple ps,q,v,⟨a,xs,e,h,r⟩,h'=>by
   subst e
   cases q with
   |tuple qs=>
    obtain⟨a',xs',e',h',r'⟩:=h'
    cases e'
    cases I.tuple_inj h.sq h'.sq
    rw [e8.inj I ps qs r r']
   |list qs=>obtain⟨a',xs',e',h',r'⟩:=h';cases e';exact(a1S I h' h.sq).elim
   |dict qs=>
    rcases h' with⟨a',_,e',h',_⟩|⟨a',_,e',h',_⟩|⟨x,t,_,h'⟩
    ·cases e';exact(a1R I h' h.sq).elim
    ·cases e';exact(a2N I h' h.sq).elim
    ·exact(a2Q I h' h.sq).elim
   |_=>cases h'
 | .list ps,q,v,⟨a,xs,e,h,r⟩,h'=>by
   subst e
   cases q with
   |list qs=>
    obtain⟨a',xs',e',h',r'⟩:=h'
    cases e'
    cases I.list_inj h h'
    rw [e8.inj I ps qs r r']
   |tuple qs=>obtain⟨a',xs',e',h',r'⟩:=h';cases e';exact(a1S I h h'.sq).elim
   |dict qs=>
    rcases h' with⟨a',_,e',h',_⟩|⟨a',_,e',h',_⟩|⟨x,t,_,h'⟩
    ·cases e';exact(a1Q I h' h).elim
    ·cases e';exact(a2M I h' h).elim
    ·exact(a2P I h' h).elim
   |_=>cases h'
 | .dict ps,q,v,.inl ⟨a,ys,e,h,hr⟩,h'=>by
   subst e
   cases q with
   |tuple qs=>obtain⟨a',xs',e',h',r'⟩:=h';cases e';exact(a1R I h h'.sq).elim
   |list qs=>obtain⟨a',xs',e',h',r'⟩:=h';cases e';exact(a1Q I h h').elim
   |dict qs=>
    rcases h' with⟨a',_,e',h',r'⟩|⟨a',_,e',h',_⟩|⟨x,t,_,h'⟩
    ·cases e';rw [h] at h';cases h';rw [Q0.inj I ps qs hr r']
    ·cases e';rw [h] at h';cases h'
    ·exact(a2O I h' h).elim
   |_=>cases h'
 | .dict ps,q,v,.inr (.inl ⟨a,ys,e,h,hr⟩),h'=>by
   subst e
   cases q with
   |tuple qs=>obtain⟨a',xs',e',h',r'⟩:=h';cases e';exact(a2N I h h'.sq).elim
   |list qs=>obtain⟨a',xs',e',h',r'⟩:=h';cases e';exact(a2M I h h').elim
   |dict qs=>
    rcases h' with⟨a',_,e',h',_⟩|⟨a',_,e',h',r'⟩|⟨x,t,_,h'⟩
    ·cases e';rw [h] at h';cases h'
    ·cases e';rw [h] at h';cases h';rw [Q0.inj I ps qs hr r']
    ·exact(a3B I h' h).elim
   |_=>cases h'
 | .dict ps,q,v,.inr (.inr ⟨x,t,e0,h⟩),h'=>by
   subst e0
   cases q with
   |tuple qs=>obtain⟨a',xs',e',h',r'⟩:=h';subst e';exact(a2Q I h h'.sq).elim
   |list qs=>obtain⟨a',xs',e',h',r'⟩:=h';subst e';exact(a2P I h h').elim
   |dict qs=>
    rcases h' with⟨a',_,e',h',_⟩|⟨a',_,e',h',_⟩|⟨y,u,e1,h'⟩
    ·subst e';exact(a2O I h h').elim
    ·subst e';exact(a3B I h h').elim
    ·obtain⟨z1,z2⟩:=b04 I h h';rw [e1,z1,z2]
   |none=>obtain⟨_,e⟩:=h.ref;rw [e] at h';cases h'
   |bool _=>obtain⟨_,e⟩:=h.ref;rw [e] at h';cases h'
   |int _=>obtain⟨_,e⟩:=h.ref;rw [e] at h';cases h'
   |str _=>obtain⟨_,e⟩:=h.ref;rw [e] at h';cases h'
 | .none,q,v,h,h'=>by
   cases h
   cases q with
   |none=>rfl
   |tuple _=>obtain⟨_,_,e,_⟩:=h';cases e
   |list _=>obtain⟨_,_,e,_⟩:=h';cases e
   |dict _=>
    rcases h' with⟨_,_,e,_,_⟩|⟨_,_,e,_⟩|⟨_,_,_,h'⟩
    ·cases e
    ·cases e
    ·obtain⟨_,e⟩:=h'.ref;cases e
   |_=>cases h'
 | .bool _,q,v,h,h'=>by
   cases h
   cases q with
   |bool _=>cases h';rfl
   |tuple _=>obtain⟨_,_,e,_⟩:=h';cases e
   |list _=>obtain⟨_,_,e,_⟩:=h';cases e
   |dict _=>
    rcases h' with⟨_,_,e,_,_⟩|⟨_,_,e,_⟩|⟨_,_,_,h'⟩
    ·cases e
    ·cases e
    ·obtain⟨_,e⟩:=h'.ref;cases e
   |_=>cases h'
 | .int _,q,v,h,h'=>by
   cases h
   cases q with
   |int _=>cases h';rfl
   |tuple _=>obtain⟨_,_,e,_⟩:=h';cases e
   |list _=>obtain⟨_,_,e,_⟩:=h';cases e
   |dict _=>
    rcases h' with⟨_,_,e,_,_⟩|⟨_,_,e,_⟩|⟨_,_,_,h'⟩
    ·cases e
    ·cases e
    ·obtain⟨_,e⟩:=h'.ref;cases e
   |_=>cases h'
 | .str _,q,v,h,h'=>by
   cases h
   cases q with
   |str _=>cases h';rfl
   |tuple _=>obtain⟨_,_,e,_⟩:=h';cases e
   |list _=>obtain⟨_,_,e,_⟩:=h';cases e
   |dict _=>
    rcases h' with⟨_,_,e,_,_⟩|⟨_,_,e,_⟩|⟨_,_,_,h'⟩
    ·cases e
    ·cases e
    ·obtain⟨_,e⟩:=h'.ref;cases e
   |_=>cases h'
theorem e8.inj(I:e7 X pins σ H s):∀(ps qs:List PV) {vs:List V},e8 X.K H ps vs->e8 X.K H qs vs->ps=qs
 |[],qs,vs,h,h'=>by
  cases h
  cases qs with
  |nil=>rfl
  |cons q qs=>obtain⟨_,_,e,_⟩:=h';cases e
 |p::ps,qs,vs,⟨v,r,e,h,t⟩,h'=>by
  subst e
  cases qs with
  |nil=>cases h'
  |cons q qs=>
   obtain⟨v',r',e',h',t'⟩:=h'
   cases e'
   rw [C3.inj I p q h h',e8.inj I ps qs t t']
theorem Q0.inj(I:e7 X pins σ H s):∀(es fs:List (PV×PV)) {ys:List (List k6×V)},Q0 X.K H es ys->Q0 X.K H fs ys->es=fs
 |[],fs,ys,h,h'=>by
  cases h
  cases fs with
  |nil=>rfl
  |cons f fs=>obtain⟨k,p⟩:=f;obtain⟨_,_,_,e,_⟩:=h';cases e
 |(k,p)::es,fs,ys,⟨kk,v,r,e,z,q,t⟩,h'=>by
  subst e
  cases fs with
  |nil=>cases h'
  |cons f fs=>
   obtain⟨k',p'⟩:=f
   obtain⟨kk',v',r',e',z',q',t'⟩:=h'
   cases e'
   rw [z,z',C3.inj I p p' q q',Q0.inj I es fs t t']
end
end
mutual
def l4:PV->Nat->Bool
 | .list xs,n+1=>D8 xs n
 | .tuple xs,n+1=>D8 xs n
 | .list _,0=>false
 | .tuple _,0=>false
 | .dict _,_=>false
 | .none,_=>true
 | .bool _,_=>true
 | .int _,_=>true
 | .str _,_=>true
def D8:List PV->Nat->Bool
 |[],_=>true
 |x::xs,n=>l4 x n && D8 xs n
end
mutual
theorem a4I:∀(p:PV) (n:Nat),l4 p n=true->PyData.eqv p p=true
 | .none,_,_=>by simp [PyData.eqv]
 | .bool _,_,_=>by simp [PyData.eqv]
 | .int _,_,_=>by simp [PyData.eqv]
 | .str _,_,_=>by simp [PyData.eqv]
 | .list xs,n+1,h=>by simp only [PyData.eqv];exact Q6 xs n (by simpa [l4] using h)
 | .tuple xs,n+1,h=>by simp only [PyData.eqv];exact Q6 xs n (by simpa [l4] using h)
 | .list xs,0,h=>by simp [l4] at h
 | .tuple xs,0,h=>by simp [l4] at h
 | .dict _,_,h=>by simp [l4] at h
theorem Q6:∀(ps:List PV) (n:Nat),D8 ps n=true->PyData.eqvAll ps ps=true
 |[],_,_=>by simp [PyData.eqvAll]
 |x::xs,n,h=>by
  have h':l4 x n=true/\D8 xs n=true:=by simpa [D8] using h
  simp only [PyData.eqvAll,a4I x n h'.1,Q6 xs n h'.2,Bool.and_self]
end
def eAt(ps qs:List PV)(j:Nat):Bool:=match ps[j]?,qs[j]? with
 |some p,some q=>PyData.eqv p q
 |_,_=>false
theorem K9:∀(ps qs:List PV),PyData.eqvAll ps qs=((Ad (min ps.length qs.length)).all (eAt ps qs)&& ps.length==qs.length)
 |[],[]=>by simp [PyData.eqvAll]
 |[],_::_=>by simp [PyData.eqvAll]
 |_::_,[]=>by simp [PyData.eqvAll]
 |p::ps,q::qs=>by
  have e:min (p::ps).length (q::qs).length=min ps.length qs.length+1:=by simp only [AS];lia
  rw [e,List.range_succ_eq_map,List.all_cons,List.all_map]
  have h0:eAt (p::ps) (q::qs) 0=PyData.eqv p q:=rfl
  have h1:(eAt (p::ps) (q::qs)∘Nat.succ)=eAt ps qs:=by funext j;simp [eAt,Function.comp]
  rw [h0,h1]
  simp only [PyData.eqvAll,K9 ps qs,AS,Bool.and_assoc]
  have e2:(ps.length+1==qs.length+1)=(ps.length==qs.length):=by
   rw [Bool.eq_iff_iff];simp
  rw [e2]
section
variable {X:Cx}{pins:List (AB×Obj)}{σ:L2.St}{H:Hp}{s:AC}
structure a7f(A:AH)(s:AC)(u w:AA)(b:Bool):Prop where
 rc:SeqAt.RcAt A s u w b
 ne:SeqAt.RcNeAt A s u w (!b)
 eq:SeqAt.EqAt A s u w b
theorem a6V(A:AH):A.in1.units=A.units+1:=rfl
theorem a6D{xs:List V}{its:List AA}{j:Nat}(r:g7 xs its)(h:j<its.length):∃x,xs[j]?=some x/\l5 x its[j]:=by
 have hx:j<xs.length:=by rw [r.length];exact h
 obtain⟨u,h1,h2⟩:=r.get (i:=j) (x:=xs[j]) (by simp [hx])
 rw [BE h] at h1
 cases h1
 exact⟨xs[j],by simp [hx],h2⟩
theorem a5k{A:AH}{ps qs:List PV}{xs ys:List V}{its its2:List AA}(r:e8 X.K H ps xs)(r':e8 X.K H qs ys)(rv:g7 xs its)(rv':g7 ys its2)
 (ih:∀p q x y u w,p∈ps->q∈qs->C3 X.K H p x->C3 X.K H q y->l5 x u->l5 y w->a7f A s u w (PyData.eqv p q)):
 ∀j (h1:j<its.toArray.size) (h2:j<its2.toArray.size),SeqAt.EqAt A s its.toArray[j] its2.toArray[j] (eAt ps qs j):=by
 intro j h1 h2
 have h1':j<its.length:=by simpa using h1
 have h2':j<its2.length:=by simpa using h2
 obtain⟨x,ex,rx⟩:=a6D rv h1'
 obtain⟨y,ey,ry⟩:=a6D rv' h2'
 obtain⟨p,ep,hp⟩:=r.getV ex
 obtain⟨q,eq,hq⟩:=r'.getV ey
 have:eAt ps qs j=PyData.eqv p q:=by simp [eAt,ep,eq]
 rw [this]
 have z:=(ih p q x y _ _ (BA ep) (BA eq) hp hq rx ry).eq
 simpa using z
theorem Q5:∀{ps:List PV} {n:Nat} {p:PV},D8 ps n=true->p∈ps->l4 p n=true
 |[],_,_,_,h=>by cases h
 |x::xs,n,p,h,hp=>by
  have h':l4 x n=true/\D8 xs n=true:=by simpa [D8] using h
  rcases Aq.mp hp with rfl|hp
  ·exact h'.1
  ·exact Q5 h'.2 hp
theorem a7x(I:e7 X pins σ H s):∀(n:Nat) (A:AH) (p q:PV) (x y:V) (u w:AA),A.units+n<cLine->l4 p n=true->l4 q n=true->C3 X.K H p x->C3 X.K H q y->l5 x u->l5 y w->a7f A s u w (PyData.eqv p q):=by
 intro n
 induction n with
 |zero=>
  intro A p q x y u w hu hp hq rp rq rx ry
  cases p with
  |none=>
   cases rp;cases rx
   cases q with
   |none=>cases rq;cases ry;simp only [PyData.eqv];exact⟨.none_none,.none_none,.same _⟩
   |bool j=>cases rq;cases ry;simp only [PyData.eqv];exact⟨.none_bool _,.none_bool _,.none_bool _⟩
   |int j=>cases rq;obtain⟨ty,rfl⟩:=ry;simp only [PyData.eqv];exact⟨.none_int _ _,.none_int _ _,.none_int _ _⟩
   |str j=>cases rq;obtain⟨ty,rfl⟩:=ry;simp only [PyData.eqv];exact⟨.none_str _ _,.none_str _ _,.none_str _ _⟩
   |dict _=>simp [l4] at hq
   |list _=>simp [l4] at hq
   |tuple _=>simp [l4] at hq
  |bool i=>
   cases rp;cases rx
   cases q with
   |none=>cases rq;cases ry;simp only [PyData.eqv];exact⟨.bool_none _,.bool_none _,.bool_none _⟩
   |bool j=>cases rq;cases ry;simp only [PyData.eqv];exact⟨.bool_bool _ _,.bool_bool _ _,.bool_bool _ _⟩
   |int j=>cases rq;obtain⟨ty,rfl⟩:=ry;simp only [PyData.eqv];exact⟨.bool_int _ _ _,.bool_int _ _ _,.bool_int _ _ _⟩
   |str j=>cases rq;obtain⟨ty,rfl⟩:=ry;simp only [PyData.eqv];exact⟨.bool_str _ _ _,.bool_str _ _ _,.bool_str _ _ _⟩
   |dict _=>simp [l4] at hq
   |list _=>simp [l4] at hq
   |tuple _=>simp [l4] at hq
  |int i=>
   cases rp;obtain⟨tx,rfl⟩:=rx
   cases q with
   |none=>cases rq;cases ry;simp only [PyData.eqv];exact⟨.int_none _ _,.int_none _ _,.int_none _ _⟩
   |bool j=>cases rq;cases ry;simp only [PyData.eqv];exact⟨.int_bool _ _ _,.int_bool _ _ _,.int_bool _ _ _⟩
   |int j=>cases rq;obtain⟨ty,rfl⟩:=ry;simp only [PyData.eqv];exact⟨.int_int _ _ _ _,.int_int _ _ _ _,.int_int _ _ _ _⟩
   |str j=>cases rq;obtain⟨ty,rfl⟩:=ry;simp only [PyData.eqv];exact⟨.int_str _ _ _ _,.int_str _ _ _ _,.int_str _ _ _ _⟩
   |dict _=>simp [l4] at hq
   |list _=>simp [l4] at hq
   |tuple _=>simp [l4] at hq
  |str i=>
   cases rp;obtain⟨tx,rfl⟩:=rx
   cases q with
   |none=>cases rq;cases ry;simp only [PyData.eqv];exact⟨.str_none _ _,.str_none _ _,.str_none _ _⟩
   |bool j=>cases rq;cases ry;simp only [PyData.eqv];exact⟨.str_bool _ _ _,.str_bool _ _ _,.str_bool _ _ _⟩
   |int j=>cases rq;obtain⟨ty,rfl⟩:=ry;simp only [PyData.eqv];exact⟨.str_int _ _ _ _,.str_int _ _ _ _,.str_int _ _ _ _⟩
   |str j=>cases rq;obtain⟨ty,rfl⟩:=ry;simp only [PyData.eqv];exact⟨.str_str _ _ _ _,.str_str _ _ _ _,.str_str _ _ _ _⟩
   |dict _=>simp [l4] at hq
   |list _=>simp [l4] at hq
   |tuple _=>simp [l4] at hq
  |dict _=>simp [l4] at hp
  |list _=>simp [l4] at hp
  |tuple _=>simp [l4] at hp
 |succ n ih=>
  intro A p q x y u w hu hp hq rp rq rx ry
  have hu0:A.units<cLine:=by lia
  have hu1:A.in1.units+n<cLine:=by rw [a6V];lia
  cases p with
  |dict _=>simp [l4] at hp
  |list ps=>
   obtain⟨a,xs,rfl,hs,r⟩:=rp
   cases rx
   obtain⟨its,rv,pl,hz⟩:=I.list hs
   have okp:D8 ps n=true:=by simpa [l4] using hp
   cases q with
   |dict _=>simp [l4] at hq
   |list qs=>
    obtain⟨b,ys,rfl,hs',r'⟩:=rq
    cases ry
    obtain⟨its2,rv',pl',hz'⟩:=I.list hs'
    have okq:D8 qs n=true:=by simpa [l4] using hq
    have hle:its.toArray.size=ps.length:=by rw [<-r.length,rv.length];simp
    have hle':its2.toArray.size=qs.length:=by rw [<-r'.length,rv'.length];simp
    have he:=a5k (A:=A.in1) (s:=s) r r' rv rv' fun p q x y u w hp' hq' rp' rq' rx' ry'=>ih A.in1 p q x y u w hu1 (Q5 okp hp') (Q5 okq hq') rp' rq' rx' ry'
    simp only [PyData.eqv]
    have main:SeqAt.RcAt A s (.ref a) (.ref b) (PyData.eqvAll ps qs)/\SeqAt.RcNeAt A s (.ref a) (.ref b) (!PyData.eqvAll ps qs):=by
     by_cases e:its.toArray.size=its2.toArray.size
     ·have el:ps.length=qs.length:=by rw [<-hle,<-hle',e]
      have e3:PyData.eqvAll ps qs=(Ad its.toArray.size).all (eAt ps qs):=by
       rw [K9,el,Nat.min_self,hle,el];simp
      rw [e3]
      exact⟨.lists pl.isList pl'.isList e hu0 he,.lists pl.isList pl'.isList e hu0 he⟩
     ·have e3:PyData.eqvAll ps qs=false:=by
       rw [K9]
       have:(ps.length==qs.length)=false:=by
        rw [beq_eq_false_iff_ne];intro z;exact e (by rw [hle,hle',z])
       rw [this,Bool.and_false]
      have e4:(its.toArray.size !=its2.toArray.size)=true:=by simpa using e
      rw [e3]
      exact⟨.lists_lengths pl.isList pl'.isList e4 hu0,.lists_lengths pl.isList pl'.isList e4 hu0⟩
    refine⟨main.1,main.2, ?_⟩
    by_cases hab:a=b
    ·subst hab
     cases I.list_inj hs hs'
     cases e8.inj I ps qs r r'
     rw [Q6 ps n okp]
     exact .same _
    ·exact .of_refs hab main.1
   |tuple qs=>
    obtain⟨b,ys,rfl,hs',r'⟩:=rq
    cases ry
    obtain⟨its2,rv',pl',hz'⟩:=I.tuple hs'.sq
    simp only [PyData.eqv]
    exact⟨.list_tuple pl.isList pl' hu0,.list_tuple pl.isList pl' hu0,.list_tuple pl.isList pl' hu0⟩
   |none=>cases rq;cases ry;simp only [PyData.eqv];exact⟨.list_none pl.isList hu0,.list_none pl.isList hu0,.list_none pl.isList hu0⟩
   |bool k=>cases rq;cases ry;simp only [PyData.eqv];exact⟨.list_bool _ pl.isList hu0,.list_bool _ pl.isList hu0,.list_bool _ pl.isList hu0⟩
   |int k=>cases rq;obtain⟨t,rfl⟩:=ry;simp only [PyData.eqv];exact⟨.list_int _ _ pl.isList hu0,.list_int _ _ pl.isList hu0,.list_int _ _ pl.isList hu0⟩
   |str k=>cases rq;obtain⟨t,rfl⟩:=ry;simp only [PyData.eqv];exact⟨.list_str _ _ pl.isList hu0,.list_str _ _ pl.isList hu0,.list_str _ _ pl.isList hu0⟩
  |tuple ps=>
   obtain⟨a,xs,rfl,hs,r⟩:=rp
   cases rx
   obtain⟨its,rv,pl,hz⟩:=I.tuple hs.sq
   have okp:D8 ps n=true:=by simpa [l4] using hp
   cases q with
   |dict _=>simp [l4] at hq
   |tuple qs=>
    obtain⟨b,ys,rfl,hs',r'⟩:=rq
    cases ry
    obtain⟨its2,rv',pl',hz'⟩:=I.tuple hs'.sq
    have okq:D8 qs n=true:=by simpa [l4] using hq
    have hle:its.toArray.size=ps.length:=by rw [<-r.length,rv.length];simp
    have hle':its2.toArray.size=qs.length:=by rw [<-r'.length,rv'.length];simp
    have he:=a5k (A:=A.in1) (s:=s) r r' rv rv' fun p q x y u w hp' hq' rp' rq' rx' ry'=>ih A.in1 p q x y u w hu1 (Q5 okp hp') (Q5 okq hq') rp' rq' rx' ry'
    simp only [PyData.eqv]
    have e3:PyData.eqvAll ps qs=((Ad (min its.toArray.size its2.toArray.size)).all (eAt ps qs)&& its.toArray.size==its2.toArray.size):=by
     rw [K9,hle,hle']
    have main:SeqAt.RcAt A s (.ref a) (.ref b) (PyData.eqvAll ps qs)/\SeqAt.RcNeAt A s (.ref a) (.ref b) (!PyData.eqvAll ps qs):=by
     rw [e3]
     exact⟨.tuples pl pl' hu0 he,.tuples pl pl' hu0 he⟩
    refine⟨main.1,main.2, ?_⟩
    by_cases hab:a=b
    ·subst hab
     cases I.tuple_inj hs.sq hs'.sq
     cases e8.inj I ps qs r r'
     rw [Q6 ps n okp]
     exact .same _
    ·exact .of_refs hab main.1
   |list qs=>
    obtain⟨b,ys,rfl,hs',r'⟩:=rq
    cases ry
    obtain⟨its2,rv',pl',hz'⟩:=I.list hs'
    simp only [PyData.eqv]
    exact⟨.tuple_list pl pl'.isList hu0,.tuple_list pl pl'.isList hu0,.tuple_list pl pl'.isList hu0⟩
   |none=>cases rq;cases ry;simp only [PyData.eqv];exact⟨.tuple_none pl hu0,.tuple_none pl hu0,.tuple_none pl hu0⟩
   |bool k=>cases rq;cases ry;simp only [PyData.eqv];exact⟨.tuple_bool _ pl hu0,.tuple_bool _ pl hu0,.tuple_bool _ pl hu0⟩
   |int k=>cases rq;obtain⟨t,rfl⟩:=ry;simp only [PyData.eqv];exact⟨.tuple_int _ _ pl hu0,.tuple_int _ _ pl hu0,.tuple_int _ _ pl hu0⟩
   |str k=>cases rq;obtain⟨t,rfl⟩:=ry;simp only [PyData.eqv];exact⟨.tuple_str _ _ pl hu0,.tuple_str _ _ pl hu0,.tuple_str _ _ pl hu0⟩
  |none=>
   cases q with
   |list qs=>
    obtain⟨b,ys,rfl,hs',r'⟩:=rq;cases ry;obtain⟨its2,rv',pl',hz'⟩:=I.list hs';cases rp;cases rx;simp only [PyData.eqv]
    exact⟨.none_list pl'.isList hu0,.none_list pl'.isList hu0,.none_list pl'.isList hu0⟩
   |tuple qs=>
    obtain⟨b,ys,rfl,hs',r'⟩:=rq;cases ry;obtain⟨its2,rv',pl',hz'⟩:=I.tuple hs'.sq;cases rp;cases rx;simp only [PyData.eqv]
    exact⟨.none_tuple pl' hu0,.none_tuple pl' hu0,.none_tuple pl' hu0⟩
   |dict _=>simp [l4] at hq
   |_=>exact ih A _ _ x y u w (by lia) (by simp [l4]) (by simp [l4]) rp rq rx ry
  |bool k=>
   cases q with
   |list qs=>
    obtain⟨b,ys,rfl,hs',r'⟩:=rq;cases ry;obtain⟨its2,rv',pl',hz'⟩:=I.list hs';cases rp;cases rx;simp only [PyData.eqv]
    exact⟨.bool_list _ pl'.isList hu0,.bool_list _ pl'.isList hu0,.bool_list _ pl'.isList hu0⟩
   |tuple qs=>
    obtain⟨b,ys,rfl,hs',r'⟩:=rq;cases ry;obtain⟨its2,rv',pl',hz'⟩:=I.tuple hs'.sq;cases rp;cases rx;simp only [PyData.eqv]
    exact⟨.bool_tuple _ pl' hu0,.bool_tuple _ pl' hu0,.bool_tuple _ pl' hu0⟩
   |dict _=>simp [l4] at hq
   |_=>exact ih A _ _ x y u w (by lia) (by simp [l4]) (by simp [l4]) rp rq rx ry
  |int k=>
   cases q with
   |list qs=>
    obtain⟨b,ys,rfl,hs',r'⟩:=rq;cases ry;obtain⟨its2,rv',pl',hz'⟩:=I.list hs';cases rp;obtain⟨t,rfl⟩:=rx;simp only [PyData.eqv]
    exact⟨.int_list _ _ pl'.isList hu0,.int_list _ _ pl'.isList hu0,.int_list _ _ pl'.isList hu0⟩
   |tuple qs=>
    obtain⟨b,ys,rfl,hs',r'⟩:=rq;cases ry;obtain⟨its2,rv',pl',hz'⟩:=I.tuple hs'.sq;cases rp;obtain⟨t,rfl⟩:=rx;simp only [PyData.eqv]
    exact⟨.int_tuple _ _ pl' hu0,.int_tuple _ _ pl' hu0,.int_tuple _ _ pl' hu0⟩
   |dict _=>simp [l4] at hq
   |_=>exact ih A _ _ x y u w (by lia) (by simp [l4]) (by simp [l4]) rp rq rx ry
  |str k=>
   cases q with
   |list qs=>
    obtain⟨b,ys,rfl,hs',r'⟩:=rq;cases ry;obtain⟨its2,rv',pl',hz'⟩:=I.list hs';cases rp;obtain⟨t,rfl⟩:=rx;simp only [PyData.eqv]
    exact⟨.str_list _ _ pl'.isList hu0,.str_list _ _ pl'.isList hu0,.str_list _ _ pl'.isList hu0⟩
   |tuple qs=>
    obtain⟨b,ys,rfl,hs',r'⟩:=rq;cases ry;obtain⟨its2,rv',pl',hz'⟩:=I.tuple hs'.sq;cases rp;obtain⟨t,rfl⟩:=rx;simp only [PyData.eqv]
    exact⟨.str_tuple _ _ pl' hu0,.str_tuple _ _ pl' hu0,.str_tuple _ _ pl' hu0⟩
   |dict _=>simp [l4] at hq
   |_=>exact ih A _ _ x y u w (by lia) (by simp [l4]) (by simp [l4]) rp rq rx ry
end
end PU
set_option maxHeartbeats 1000000
namespace PU
open PySem PySem.Spec PyProof.Rows L2
instance:DecidableRel (fun(i j:Int)=>a3J i j):=fun i j=>by unfold a3J;infer_instance
instance (i j:Int):Decidable (a3J i j):=by unfold a3J;infer_instance
instance (i j:Int):Decidable (a0N i j):=by unfold a0N;infer_instance
instance (i j:Int):Decidable (b0T i j):=by unfold b0T;infer_instance
def b4.mine:b4->Option (List PV)
 | .ow (.lst ps)=>some ps
 | .bo (.lst ps)=>some ps
 |_=>none
theorem a41{K:AD}{F H:Hp}{v:V}{r:b4}{ps:List PV}(h:J4 K F H v r)(e:r.mine=some ps):∃a xs,v= .ref a/\F a=none/\H a=some (.lst xs)/\e8 K F ps xs:=by
 cases r with
 |val _=>cases e
 |ow c=>cases c<;>cases e;exact h
 |bo c=>cases c<;>cases e;exact h
def A1(x y:b4):Option b4:=match x,y with
 | .val (.int i),.val (.int j)=>some (.val (.int (i+j)))
 | .val (.str i),.val (.str j)=>if i.length+j.length<=AJ then some (.val (.str (i++j))) else none
 | .val (.tuple ps),.val (.tuple qs)=>if(ps.length≠0/\qs.length≠0)/\ps.length+qs.length<=AJ then some (.val (.tuple (ps++qs))) else none
 |x,y=>match x.mine,y.mine with
  |some ps,some qs=>if ps.length+qs.length<=AJ then some (.own (ps++qs)) else none
  |_,_=>none
section
variable {X:Cx}
theorem j8:OpM X (binaryOp .Add) A1:=by
 intro pins s σ H x y v u Q I rx ry h
 obtain⟨F,ra,rb,rz,s0,h1,h2,h3,k⟩:=h
 unfold A1 at h3
 split at h3
 ·cases h3
  cases h1;cases h2
  exact b0o pins s σ H _ _ v u Q I rx ry ⟨_,_,rfl,rfl,k _ F H (p4.here s0 rfl)⟩
 ·rename_i i j
  split at h3
  ·rename_i c
   cases h3
   cases h1;cases h2
   exact a5V pins s σ H _ _ v u Q I rx ry ⟨i,j,rfl,rfl,c,k _ F H (p4.here s0 rfl)⟩
  ·cases h3
 ·rename_i ps qs
  split at h3
  ·rename_i c
   cases h3
   obtain⟨a,xs,rfl,hq,r⟩:=h1
   obtain⟨b,ys,rfl,hq',r'⟩:=h2
   refine a84 pins s σ H _ _ v u Q I rx ry ⟨a,b,xs,ys,rfl,rfl,o8 s0 hq.sq,o8 s0 hq'.sq, ?_,by rw [r.length,r'.length];exact c.2, ?_⟩
   ·intro z
    subst z
    exact c.1.1 r.length.symm
   ·refine⟨fun z=> ?_,fun _ p hp=>k _ _ _ (p4.tup s0 hp (r.append r'))⟩
    subst z
    exact absurd r'.length.symm c.1.2
  ·cases h3
 ·split at h3
  ·rename_i ps qs e1 e2
   split at h3
   ·rename_i c
    cases h3
    obtain⟨a,xs,rfl,_,hq,r⟩:=a41 h1 e1
    obtain⟨b,ys,rfl,_,hq',r'⟩:=a41 h2 e2
    refine b0p pins s σ H _ _ v u Q I rx ry ⟨a,b,xs,ys,rfl,rfl,hq,hq',by rw [r.length,r'.length];exact c,fun p hp=> ?_⟩
    exact k _ _ _ (p4.lst s0 hp (r.append r'))
   ·cases h3
  ·cases h3
theorem a01:OpM X (binaryOp .Sub) (gI fun i j=> .int (i - j)):=a74 b0u fun _ _ _=>rfl
theorem a88:OpM X (binaryOp .Mult) (gIc a3J fun i j=> .int (i*j)):=a5W b0s fun _ _ _=>rfl
theorem D2:OpM X (binaryOp .Mod) (gIc (fun _ j=>0<j) fun i j=> .int (i % j)):=a5W b0r fun _ _ _=>rfl
theorem J0:OpM X (binaryOp .FloorDiv) (gIc a0N fun i j=> .int (i / j)):=a5W a85 fun _ _ _=>rfl
theorem a2U:OpM X (compareOp .Gt) (gI fun i j=> .bool (decide (j<i))):=a74 b1d fun _ _ _=>rfl
def gEq(x y:b4):Option b4:=if l4 x.rd 50=true/\l4 y.rd 50=true then some (.val (.bool (PyData.eqv x.rd y.rd))) else none
def gNe(x y:b4):Option b4:=if l4 x.rd 50=true/\l4 y.rd 50=true then some (.val (.bool (!PyData.eqv x.rd y.rd))) else none
theorem B5(hu:X.A.units+64<cLine):OpM X (compareOp .Eq) gEq:=by
 intro pins s σ H x y v u Q I rx ry h
 obtain⟨F,ra,rb,rz,s0,h1,h2,h3,k⟩:=h
 unfold gEq at h3
 split at h3
 ·rename_i c
  cases h3
  have z:=a7x I 50 X.A _ _ x y v u (by lia) c.1 c.2 (h1.rd s0) (h2.rd s0) rx ry
  exact z.rc _ _ _ _ ⟨.bl _,H,I,rfl,k _ F H (p4.here s0 rfl)⟩
 ·cases h3
theorem X9(hu:X.A.units+64<cLine):OpM X (compareOp .NotEq) gNe:=by
 intro pins s σ H x y v u Q I rx ry h
 obtain⟨F,ra,rb,rz,s0,h1,h2,h3,k⟩:=h
 unfold gNe at h3
 split at h3
 ·rename_i c
  cases h3
  have z:=a7x I 50 X.A _ _ x y v u (by lia) c.1 c.2 (h1.rd s0) (h2.rd s0) rx ry
  exact z.ne _ _ _ _ ⟨.bl _,H,I,rfl,k _ F H (p4.here s0 rfl)⟩
 ·cases h3
def PyData.items?:PV->Option (List PV)
 | .list ps=>some ps
 | .tuple ps=>some ps
 |_=>none
theorem Q9{F H:Hp}{v:V}{r:b4}{ps:List PV}(s0:e9 F H)(h:J4 X.K F H v r)(e:PyData.items? r.rd=some ps):∃a xs,v= .ref a/\(R6 X.K H a xs\/W0 X.K H a xs)/\e8 X.K F ps xs:=by
 cases r with
 |val p=>
  cases p with
  |list qs=>cases e;obtain⟨a,xs,rfl,hq,r⟩:=h;exact⟨a,xs,rfl,.inl (J2 s0 hq),r⟩
  |tuple qs=>cases e;obtain⟨a,xs,rfl,hq,r⟩:=h;exact⟨a,xs,rfl,.inr (o8 s0 hq.sq),r⟩
  |_=>cases e
 |ow c=>cases c<;>cases e;obtain⟨a,xs,rfl,_,hq,r⟩:=h;exact⟨a,xs,rfl,.inl (R6.of hq),r⟩
 |bo c=>cases c<;>cases e;obtain⟨a,xs,rfl,_,hq,r⟩:=h;exact⟨a,xs,rfl,.inl (R6.of hq),r⟩
def a96(neg:Bool)(x y:b4):Option b4:=match y with
 | .val .none=>(match x.rd with
   | .none=>some (.val (.bool (!neg)))
   |_=>some (.val (.bool neg)))
 |_=>none
def PyData.isNone:PV->Bool
 | .none=>true
 |_=>false
theorem a9m{K:AD}{H:Hp}{p:PV}{v:V}(h:C3 K H p v):decide (v=V.non)=PyData.isNone p:=by
 cases p with
 |none=>cases h;rfl
 |bool _=>cases h;rfl
 |int _=>cases h;rfl
 |str _=>cases h;rfl
 |list _=>obtain⟨_,_,rfl,_⟩:=h;rfl
 |tuple _=>obtain⟨_,_,rfl,_⟩:=h;rfl
 |dict _=>
  rcases h with⟨_,_,rfl,_⟩|⟨_,_,rfl,_⟩|⟨_,_,_,h⟩
  ·rfl
  ·rfl
  ·obtain⟨_,rfl⟩:=h.ref;rfl
theorem a87:OpM X (compareOp .Is) (a96 false):=
 a1B b0q fun F H x y rx ry rz s0 h1 h2 h3 Q k=>by
  unfold a96 at h3
  split at h3
  ·cases h2
   have e:=a9m (h1.rd s0)
   refine⟨rfl, ?_⟩
   rw [e]
   cases hp:rx.rd<;>rw [hp] at h3<;>cases h3<;>exact k _ F H (p4.here s0 rfl)
  ·cases h3
def k0(x y:b4):Option b4:=match y with
 | .val (.int i)=>(match x.rd with
   | .str z=>if z.length<=AJ then(atI z.cps.toList i).map fun c=> .val (.str ⟨#[c]⟩) else none
   |p=>match PyData.items? p with
    |some ps=>(atI ps i).map .val
    |none=>none)
 |_=>none
theorem e8.atI{K:AD}{H:Hp}{ps:List PV}{xs:List V}{i:Int}{p:PV}(r:e8 K H ps xs)(e:L2.atI ps i=some p):∃v,L2.atI xs i=some v/\C3 K H p v:=by
 unfold L2.atI at e ⊢
 rw [r.length]
 obtain⟨j,e1,e2⟩:=bind_some e
 rw [e1]
 exact r.get e2
theorem ixm:IxR X (rM2 X.K k0):=by
 intro value slice pins s σ H x y v u Q I rx ry h hs
 obtain⟨F,ra,rb,rz,s0,h1,h2,h3,k⟩:=h
 unfold k0 at h3
 split at h3
 ·rename_i i
  cases h2
  split at h3
  ·rename_i z ez
   split at h3
   ·rename_i c
    have rr:=h1.rd s0
    rw [ez] at rr
    cases rr
    cases ea:L2.atI z.cps.toList i with
    |none=>rw [ea] at h3;cases h3
    |some ch=>
     rw [ea] at h3;cases h3
     exact b0b value slice pins s σ H _ _ v u Q I rx ry ⟨z,i,ch,rfl,rfl,c,ea,k _ F H (p4.here s0 rfl)⟩ hs
   ·cases h3
  ·split at h3
   ·rename_i ps e
    cases ea:L2.atI ps i with
    |none=>rw [ea] at h3;cases h3
    |some p=>
     rw [ea] at h3;cases h3
     obtain⟨a,xs,rfl,hq,r⟩:=Q9 s0 h1 e
     obtain⟨z,ez,rp⟩:=r.atI ea
     rcases hq with hq|hq
     ·exact a8V value slice pins s σ H _ _ v u Q I rx ry ⟨a,xs,i,z,rfl,rfl,hq,ez,k _ F H (p4.here s0 rp)⟩ hs
     ·exact b0c value slice pins s σ H _ _ v u Q I rx ry ⟨a,xs,i,z,rfl,rfl,hq,ez,k _ F H (p4.here s0 rp)⟩ hs
   ·cases h3
 ·cases h3
theorem f9{a b:AE}{ma mb:M}{pos:Pos}(ha:EE X a ma)(hb:EE X b mb)(hs:a57 b:=by intro _ _;rfl):EE X (.Subscript a b pos) (m2 k0 ma mb):=
 D3 (b1h ixm ha hb hs) fun _ _ _ h=>a55 h
abbrev MA:=a8->Option (List PV)
def tMA(K:AD)(m:MA):TA:=fun σ H Q=>∃F ρ ps,t7 K F H σ ρ/\m ρ=some ps/\∀vs F' H',W3 F H F' H'->e8 K F' ps vs->Q vs H'
abbrev EA(X:Cx)(es:List AE)(m:MA):Prop:=PA X es (tMA X.K m)
def d3:MA:=fun _=>some []
def a6(m:M)(r:MA):MA:=fun ρ=>((m ρ).bind b4.toVal).bind fun p=>(r ρ).bind fun ps=>some (p::ps)
theorem c7:EA X [] d3:=a77 U1 fun σ H Q ⟨F,ρ,ps,he,hm,k⟩=>by
 cases hm
 exact k [] F H (W3.refl he.fh) rfl
theorem a5{e:AE}{es:List AE}{m:M}{r:MA}(ha:EE X e m)(hr:EA X es r)(hs:AL (e::es) X.env=(false,eval e X.env)::AL es X.env:=by rfl):EA X (e::es) (a6 m r):=
 a77 (B2 ha hr hs) fun σ H Q ⟨F,ρ,ps,he,hm,k⟩=>by
  obtain⟨p,e1,hm⟩:=bind_some hm
  obtain⟨r1,e1,e2⟩:=bind_some e1
  obtain⟨qs,e3,hm⟩:=bind_some hm
  cases hm
  refine⟨F,ρ,r1,he,e1,fun v F1 H1 o1=> ?_⟩
  obtain⟨F2,o2⟩:=o1.toVal e2
  exact⟨F2,ρ,qs,he.ext o2.x,e3,fun vs F3 H3 x3 rl=>k _ F3 H3 (o2.x.trans x3) ⟨v,vs,rfl,C3.mono x3.f _ o2.rep,rl⟩⟩
def X7(m:MA):M:=fun ρ=>(m ρ).bind fun ps=>if ps.length<=AJ then some (.val (.tuple ps)) else none
def a34(m:MA):M:=fun ρ=>(m ρ).bind fun ps=>if ps.length<=AJ then some (.own ps) else none
theorem J7{es:List AE}{m:MA}{x1:Nat}{pos:Pos}(h:EA X es m):EE X (.Tuple es x1 pos) (X7 m):=
 D3 (b0A h) fun σ H Q ⟨F,ρ,r,he,hm,k⟩=>by
  obtain⟨ps,e1,hm⟩:=bind_some hm
  split at hm
  ·rename_i c
   cases hm
   exact⟨F,ρ,ps,he,e1,fun vs F1 H1 x rl=>⟨by rw [rl.length];exact c,fun p hp=>k _ _ _ (p4.trans x (p4.tup x.fh hp rl))⟩⟩
  ·cases hm
theorem a0w{es:List AE}{m:MA}{pos:Pos}(h:EA X es m):EE X (.List es pos) (a34 m):=
 D3 (b0x h) fun σ H Q ⟨F,ρ,r,he,hm,k⟩=>by
  obtain⟨ps,e1,hm⟩:=bind_some hm
  split at hm
  ·rename_i c
   cases hm
   exact⟨F,ρ,ps,he,e1,fun vs F1 H1 x rl=>⟨by rw [rl.length];exact c,fun p hp=>k _ _ _ (p4.trans x (p4.lst x.fh hp rl))⟩⟩
  ·cases hm
def spP(K:AD)(n:Nat)(g:List PV->Option b4):Sp:=fun vs H Q _=>∃F ps r,e9 F H/\e8 K F ps vs/\ps.length=n/\g ps=some r/\∀v F' H',p4 K F H F' H' v r->Q v H'
def j1(g:List PV->Option b4)(m:MA):M:=fun ρ=>(m ρ).bind g
theorem a8K{k n:Nat}{f:AB}{fd:FuncData}{ps:List Str}{g:List PV->Option b4}{x:Str}{p pos:Pos}{e:AE}{es:List AE}{m:MA}
 (G:O1 X.prog X.w X.K X.mg X.base CX0 k f fd ps (spP X.K n g)) (hr:J5 k X.A) (hg:Gl X x) (hm:X.mg x=some (.ref f)) (hk:PySem.W.keepIn X.K (.ref f)=true) (hb:a1D X.K fd ps []) (hn:∀ρ ps,m ρ=some ps->ps.length=n) (ha:EA X (e::es) m)
 (hdb:(x==("__debug__":Str))=false:=by decide) (he:AL (e::es) X.env=(false,eval e X.env)::AL es X.env:=by rfl) (hpl:(backTo pos (AL es X.env)).any (·.1)=false:=by rfl):
 EE X (.Call (.Name x p) (e::es) [] pos) (j1 g m):=
 D3 (a9a G hr hg hm hk hb .nil a9L ha hdb he hpl) fun σ H Q ⟨F,ρ,r,he,hm,k⟩=>by
  obtain⟨qs,e1,hm⟩:=bind_some hm
  refine⟨F,ρ,qs,he,e1,fun vs F1 H1 x rl=> ?_⟩
  show spP X.K n g (vs++[]) H1 Q E0
  rw [Ag]
  exact⟨F1,qs,r,x.fh,rl,hn _ _ e1,hm,fun v F2 H2 o=>k v F2 H2 (p4.trans x o)⟩
theorem d7:∀ρ ps,d3 ρ=some ps->ps.length=0:=fun _ _ h=>by cases h;rfl
theorem b0{m:M}{r:MA}{n:Nat}(h:∀ρ ps,r ρ=some ps->ps.length=n):∀ρ ps,a6 m r ρ=some ps->ps.length=n+1:=fun ρ ps e=>by
 obtain⟨p,e1,e⟩:=bind_some e
 obtain⟨qs,e3,e⟩:=bind_some e
 cases e
 rw [AS,h ρ qs e3]
end
mutual
def S5(K:AD):Nat->AA->Option PV
 |0,_=>none
 |_+1,.none=>some .none
 |_+1,.bool b=>some (.bool b)
 |_+1,.int i _=>some (.int i)
 |_+1,.str x _=>some (.str x)
 |n+1,.ref a=>match K.lookup a with
  |some ⟨.type "tuple",_,.seq its _,_⟩=>if its.size<=1000 then(a0P K n its.toList).map .tuple else none
  |some ⟨.type "list",none,.seq its _,_⟩=>if its.size<=1000 then(a0P K n its.toList).map .list else none
  |_=>none
 |_+1,_=>none
def a0P(K:AD):Nat->List AA->Option (List PV)
 |0,_=>none
 |_+1,[]=>some []
 |n+1,u::us=>(S5 K n u).bind fun p=>(a0P K n us).bind fun ps=>some (p::ps)
end
theorem a26{n:Nat}(h:n<=1000):n<=AJ:=Ay (a7a h)
theorem a7l(K:AD):∀(n:Nat),(∀(u:AA) (p:PV),S5 K n u=some p->∃v,l5 v u/\∀H,C3 K H p v)/\(∀(us:List AA) (ps:List PV),a0P K n us=some ps->∃vs,g7 vs us/\∀H,e8 K H ps vs):=by
 intro n
 induction n with
 |zero=>exact⟨fun u p h=>by simp [S5] at h,fun u p h=>by simp [a0P] at h⟩
 |succ n ih=>
  constructor
  ·intro u p h
   cases u with
   |none=>simp only [S5] at h;cases h;exact⟨.non,rfl,fun _=>rfl⟩
   |bool b=>simp only [S5] at h;cases h;exact⟨.bl b,rfl,fun _=>rfl⟩
   |int i t=>simp only [S5] at h;cases h;exact⟨.int i,⟨t,rfl⟩,fun _=>rfl⟩
   |str x t=>simp only [S5] at h;cases h;exact⟨.str x,⟨t,rfl⟩,fun _=>rfl⟩
   |ref a=>
    simp only [S5] at h
    split at h
    ·rename_i d its m sl e
     split at h
     ·rename_i c
      cases q:a0P K n its.toList with
      |none=>rw [q] at h;cases h
      |some ps=>
       rw [q] at h;cases h
       obtain⟨vs,h1,h2⟩:=ih.2 _ _ q
       exact⟨.ref a,rfl,fun H=>⟨a,vs,rfl,.inr ⟨_,its,m,e,rfl,rfl,a26 c,h1⟩,h2 H⟩⟩
     ·cases h
    ·rename_i its m sl e
     split at h
     ·rename_i c
      cases q:a0P K n its.toList with
      |none=>rw [q] at h;cases h
      |some ps=>
       rw [q] at h;cases h
       obtain⟨vs,h1,h2⟩:=ih.2 _ _ q
       exact⟨.ref a,rfl,fun H=>⟨a,vs,rfl,.inr ⟨_,its,m,e,rfl,rfl,rfl,a26 c,h1⟩,h2 H⟩⟩
     ·cases h
    ·cases h
   |_=>simp [S5] at h
  ·intro us ps h
   cases us with
   |nil=>simp only [a0P] at h;cases h;exact⟨[],.nil,fun _=>rfl⟩
   |cons u us=>
    simp only [a0P] at h
    obtain⟨p,e1,h⟩:=bind_some h
    obtain⟨qs,e2,h⟩:=bind_some h
    cases h
    obtain⟨v,r1,r2⟩:=ih.1 _ _ e1
    obtain⟨vs,r3,r4⟩:=ih.2 _ _ e2
    exact⟨v::vs,.cons r1 r3,fun H=>⟨v,vs,rfl,r2 H,r4 H⟩⟩
section
variable {X:Cx}
theorem a2g{x:Str}{u:AA}{p:PV}{pos:Pos}{n:Nat}(hg:Gl X x)(hm:X.mg x=some u)(ha:S5 X.K n u=some p)(hd:(x==("__debug__":Str))=false:=by decide):EE X (.Name x pos) (mC p):=by
 obtain⟨v,r,h⟩:=(a7l X.K n).1 u p ha
 exact Q4 (a6u hg hm r hd) h
def b1a:PV->Option k6
 | .int i=>some (.inl i)
 | .str x=>some (.inr x)
 |_=>none
def a9G:List DictEntry->Option (List (k6×AA))
 |[]=>some []
 |e::es=>match e.key with
  | .int i _=>(a9G es).map fun r=>(.inl i,e.val)::r
  | .str x _=>(a9G es).map fun r=>(.inr x,e.val)::r
  |_=>none
def a8E{κ:Type}(K:AD)(n:Nat):List (κ×AA)->Option (List (κ×PV))
 |[]=>some []
 |(k,u)::r=>(S5 K n u).bind fun p=>(a8E K n r).bind fun t=>some ((k,p)::t)
def b1b{κ:Type}[DecidableEq κ](tbl:List (κ×PV))(k:κ):Option PV:=match tbl with
 |[]=>none
 |(k',p)::r=>if k'=k then some p else b1b r k
def b0i:List PV->Option (List k6)
 |[]=>some []
 |p::ps=>(b1a p).bind fun k=>(b0i ps).bind fun ks=>some (k::ks)
def a1o:List AA->Option (List k6)
 |[]=>some []
 | .int i _::r=>(a1o r).map fun t=> .inl i::t
 | .str x _::r=>(a1o r).map fun t=> .inr x::t
 |_::_=>none
end
def b03(K:AD):List DictEntry->Option (List (List k6×AB×AA))
 |[]=>some []
 |e::es=>match e.key with
  | .ref b=>(match K.lookup b with
    |some ⟨.type "tuple",_,.seq its _,_⟩=>(a1o its.toList).bind fun ks=>(b03 K es).bind fun r=>some ((ks,b,e.val)::r)
    |_=>none)
  |_=>none
def a7m(K:AD)(n:Nat):List (List k6×AB×AA)->Option (List (List k6×PV))
 |[]=>some []
 |(k,_,u)::r=>(S5 K n u).bind fun p=>(a7m K n r).bind fun t=>some ((k,p)::t)
section
variable {X:Cx}
abbrev MT:=a8->Option Bool
def tMT(K:AD)(c:MT):TT:=fun σ H Q=>∃F ρ b,t7 K F H σ ρ/\c ρ=some b/\∀F' H',W3 F H F' H'->Q b H'
abbrev ET(X:Cx)(e:AE)(c:MT):Prop:=PT X e (tMT X.K c)
abbrev EW(X:Cx)(e:AE)(c:MT):Prop:=PW X e (tMT X.K c)
def a5Z:b4->Option Bool
 | .val (.bool b)=>some b
 |_=>none
def tru(r:b4):Option Bool:=match r.rd with
 | .none=>some false
 | .bool b=>some b
 | .int i=>some (i !=0)
 | .str z=>if z.length<=AJ then some ((z.length:Int) !=0) else none
 | .list ps=>some (!ps.isEmpty)
 | .tuple ps=>some (!ps.isEmpty)
 | .dict _=>none
def mtV(m:M):MT:=fun ρ=>(m ρ).bind tru
def J3(m:M):MT:=fun ρ=>(m ρ).bind a5Z
theorem e8.empty{K:AD}{H:Hp}{ps:List PV}{vs:List V}(r:e8 K H ps vs):vs.isEmpty=ps.isEmpty:=by
 cases ps with
 |nil=>cases r;rfl
 |cons p ps=>obtain⟨_,_,e,_⟩:=r;subst e;rfl
theorem a9x{H:Hp}{r:b4}{v:V}{b:Bool}(h:C3 X.K H r.rd v)(e:tru r=some b):a9U X.K v H b:=by
 unfold tru at e
 cases hp:r.rd with
 |none=>rw [hp] at h e;cases h;cases e;exact rfl
 |bool k=>rw [hp] at h e;cases h;cases e;exact rfl
 |int i=>rw [hp] at h e;cases h;cases e;exact rfl
 |str z=>
  rw [hp] at h e;cases h
  dsimp only at e
  split at e
  ·rename_i c;cases e;exact⟨c,rfl⟩
  ·cases e
 |list ps=>rw [hp] at h e;obtain⟨a,xs,rfl,hq,rl⟩:=h;cases e;exact .inl ⟨xs,hq,by rw [rl.empty]⟩
 |tuple ps=>rw [hp] at h e;obtain⟨a,xs,rfl,hq,rl⟩:=h;cases e;exact .inr (.inl ⟨xs,hq.sq,by rw [rl.empty]⟩)
 |dict _=>rw [hp] at e;cases e
theorem O7{e:AE}{m:M}(h:EE X e m)(he:∀whole,isTrue e X.env whole=(do let v<-whole;standAt e.pos;holding [v] (truthy v)):=by intro _;rfl):ET X e (mtV m):=
 a4g (a8h h he) fun σ H Q ⟨F,ρ,b,h1,h2,k⟩=>by
  obtain⟨r,e1,e2⟩:=bind_some h2
  exact⟨F,ρ,r,h1,e1,fun v F1 H1 o=>⟨b,a9x (o.rep.rd o.x.fh) e2,k F1 H1 o.x⟩⟩
theorem a2Z{K:AD}{F H:Hp}{r:b4}{v:V}{b:Bool}(h:J4 K F H v r)(e:a5Z r=some b):v= .bl b:=by
 unfold a5Z at e
 split at e
 ·cases e;exact h
 ·cases e
theorem i5{a b:AE}{ma mb:M}{pos:Pos}{op:CmpOp}{g:b4->b4->Option b4}(ho:OpM X (compareOp op) g)(ha:EE X a ma)(hb:EE X b mb)(hm:behindInMarks op b=false):ET X (.Compare a [op] [b] pos) (J3 (m2 g ma mb)):=
 a4g (a9h ho ha hb hm) fun σ H Q ⟨F,ρ,k,h1,h2,q⟩=>by
  obtain⟨r,e1,e2⟩:=bind_some h2
  exact a55 ⟨F,ρ,r,h1,e1,fun v F1 H1 o=>⟨k,a2Z o.rep e2,q F1 H1 o.x⟩⟩
def N4(c:MT):MT:=fun ρ=>(c ρ).map not
theorem O6{a:AE}{c:MT}{pos:Pos}(ha:ET X a c):ET X (.UnaryOp .Not a pos) (N4 c):=
 a4g (b0F ha) fun σ H Q ⟨F,ρ,k,h1,h2,q⟩=>by
  unfold N4 at h2
  cases e:c ρ with
  |none=>rw [e] at h2;cases h2
  |some b=>rw [e] at h2;cases h2;exact⟨F,ρ,b,h1,e,q⟩
def a0W(c d:MT):MT:=fun ρ=>(c ρ).bind fun b=>if b=true then d ρ else some false
def a0i(c d:MT):MT:=fun ρ=>(c ρ).bind fun b=>if b=true then some true else d ρ
theorem a3V{a:AE}{c:MT}{pos:Pos}(ha:ET X a c):EW X (.BoolOp .And [a] pos) c:=a9i ha
theorem T4{a:AE}{c:MT}{pos:Pos}(ha:ET X a c):EW X (.BoolOp .Or [a] pos) c:=b0H ha
theorem a3U{a b:AE}{A2:List AE}{c d:MT}{pos:Pos}(ha:ET X a c)(hb:EW X (.BoolOp .And (b::A2) pos) d):EW X (.BoolOp .And (a::b::A2) pos) (a0W c d):=
 a8j (b0G ha hb) fun σ H Q ⟨F,ρ,k,h1,h2,q⟩=>by
  obtain⟨b,e1,e2⟩:=bind_some h2
  refine⟨F,ρ,b,h1,e1,fun F1 H1 x=> ?_⟩
  cases b with
  |true=>exact a6X ⟨F1,ρ,k,h1.ext x,e2,fun F2 H2 y=>q F2 H2 (x.trans y)⟩
  |false=>cases e2;exact a5N (q F1 H1 x)
theorem V7{a b:AE}{A2:List AE}{c d:MT}{pos:Pos}(ha:ET X a c)(hb:EW X (.BoolOp .Or (b::A2) pos) d):EW X (.BoolOp .Or (a::b::A2) pos) (a0i c d):=
 a8j (b1k ha hb) fun σ H Q ⟨F,ρ,k,h1,h2,q⟩=>by
  obtain⟨b,e1,e2⟩:=bind_some h2
  refine⟨F,ρ,b,h1,e1,fun F1 H1 x=> ?_⟩
  cases b with
  |false=>exact a5N ⟨F1,ρ,k,h1.ext x,e2,fun F2 H2 y=>q F2 H2 (x.trans y)⟩
  |true=>cases e2;exact a6X (q F1 H1 x)
def P0(g g':b4->b4->Option b4)(ma mb mc:M):M:=fun ρ=>(ma ρ).bind fun x=>(mb ρ).bind fun y=>(g x y).bind fun z=>(a5Z z).bind fun b=>if b=true then(mc ρ).bind fun w=>g' y w else some (.val (.bool false))
theorem a7q{ma mb mc:M}{g g':b4->b4->Option b4}{σ:L2.St}{H:Hp}{Q:VK}(h:tM X.K (P0 g g' ma mb mc) σ H Q):a8t (rM2 X.K g) (rM2 X.K g') (tM X.K ma) (tM X.K mb) (tM X.K mc) σ H Q:=by
 obtain⟨F,ρ,r,he,hm,k⟩:=h
 obtain⟨rx,e1,hm⟩:=bind_some hm
 obtain⟨ry,e2,hm⟩:=bind_some hm
 obtain⟨rz,e3,hm⟩:=bind_some hm
 obtain⟨b,e4,hm⟩:=bind_some hm
 refine⟨F,ρ,rx,he,e1,fun v F1 H1 o1=>⟨F1,ρ,ry,he.ext o1.x,e2,fun u F2 H2 o2=>⟨F2,rx,ry,rz,o2.x.fh,o1.rep.ext o2.x,o2.rep,e3,fun z F3 H3 o3=>⟨b,a2Z o3.rep e4, ?_⟩⟩⟩⟩
 have x3:=(o1.x.trans o2.x).trans o3.x
 cases b with
 |true=>
  rw [if_pos rfl] at hm
  obtain⟨rw',e5,hm⟩:=bind_some hm
  exact a6X ⟨F3,ρ,rw',he.ext x3,e5,fun w F4 H4 o4=>⟨F4,ry,rw',r,o4.x.fh,(o2.rep.ext o3.x).ext o4.x,o4.rep,hm,fun z F5 H5 o5=>k z F5 H5 (p4.trans (x3.trans o4.x) o5)⟩⟩
 |false=>
  rw [if_neg Ar] at hm
  cases hm
  exact a5N (k _ F3 H3 (p4.val x3 rfl))
theorem a0T{a b c:AE}{ma mb mc:M}{pos:Pos}{op op':CmpOp}{g g':b4->b4->Option b4}(ho:OpM X (compareOp op) g)(ho':OpM X (compareOp op') g')(ha:EE X a ma)(hb:EE X b mb)(hc:EE X c mc)
 (hm:lastMarks [op,op'] [b,c]=false:=by with_unfolding_all rfl):ET X (.Compare a [op,op'] [b,c] pos) (J3 (P0 g g' ma mb mc)):=
 a4g (a8g ho ho' ha hb hc hm) fun σ H Q ⟨F,ρ,k,h1,h2,q⟩=>by
  obtain⟨r,e1,e2⟩:=bind_some h2
  exact a7q ⟨F,ρ,r,h1,e1,fun v F1 H1 o=>⟨k,a2Z o.rep e2,q F1 H1 o.x⟩⟩
end
inductive Fl where
 |nx (ρ:a8)|rt (r:b4)|bk (ρ:a8)|ct (ρ:a8)
abbrev MS:=a8->Option Fl
structure S3(K:AD)(F0 H0 F H:Hp)(σ:L2.St)(ρ:a8):Prop where
 x:W3 F0 H0 F H
 e:t7 K F H σ ρ
 nw:∀(i:Nat) (c:P8) (a:AB),ρ[i]?=some (some (.ow c))->σ[i]?=some (some (.ref a))->H0 a=none
def Fin(K:AD)(F0 H0 F:Hp)(D:O0):Fl->Prop
 | .nx ρ=>∀σ' F' H',e9 F F'->S3 K F0 H0 F' H' σ' ρ->D.nx σ' H'
 | .rt r=>∀v F' H',p4 K F0 H0 F' H' v r->D.rt v H'
 | .bk ρ=>∀σ' F' H',e9 F F'->S3 K F0 H0 F' H' σ' ρ->D.bk σ' H'
 | .ct ρ=>∀σ' F' H',e9 F F'->S3 K F0 H0 F' H' σ' ρ->D.ct σ' H'
theorem Fin.later{K:AD}{F0 H0 F F1:Hp}{D:O0}(s:e9 F F1):∀{fl:Fl},Fin K F0 H0 F D fl->Fin K F0 H0 F1 D fl
 | .nx _,h=>fun σ' F' H' s' so=>h σ' F' H' (s.trans s') so
 | .rt _,h=>h
 | .bk _,h=>fun σ' F' H' s' so=>h σ' F' H' (s.trans s') so
 | .ct _,h=>fun σ' F' H' s' so=>h σ' F' H' (s.trans s') so
def tMS(K:AD)(m:MS):TS:=fun D σ H=>∃F0 H0 F ρ fl,S3 K F0 H0 F H σ ρ/\m ρ=some fl/\Fin K F0 H0 F D fl
abbrev ES(X:Cx)(st:Stmt)(m:MS):Prop:=PS X st (tMS X.K m)
abbrev ESs(X:Cx)(st:List Stmt)(m:MS):Prop:=PSs X st (tMS X.K m)
theorem S3.ext{K:AD}{F0 H0 F H F' H':Hp}{σ:L2.St}{ρ:a8}(s:S3 K F0 H0 F H σ ρ)(x:W3 F H F' H'):S3 K F0 H0 F' H' σ ρ:=⟨s.x.trans x,s.e.ext x,s.nw⟩
def b4.nb:b4->Bool
 | .bo _=>false
 |_=>true
theorem S3.set{K:AD}{F0 H0 F H F' H':Hp}{σ:L2.St}{ρ:a8}{v:V}{r:b4}(s:S3 K F0 H0 F H σ ρ)(o:p4 K F H F' H' v r)(hb:r.nb=true)(i:Nat):S3 K F0 H0 F' H' (σ.set i (some v)) (ρ.set i (some r)):=by
 have s1:=s.ext o.x
 have le:=s.e.len
 refine⟨s1.x,⟨s1.e.fh,by simp [le],fun j q e=> ?_,fun j ps e=> ?_,fun j k ps qs a hjk e1 e2 e3 e4=> ?_⟩,fun j ps a e1 e2=> ?_⟩
 ·rw [List.getElem?_set] at e ⊢
  by_cases hij:i=j
  ·subst hij
   rw [if_pos rfl] at e ⊢
   rw [le]
   split at e
   ·rename_i c;cases e;rw [if_pos c];exact⟨v,rfl,o.rep⟩
   ·cases e
  ·rw [if_neg hij] at e ⊢
   exact s1.e.at_ j q e
 ·rw [List.getElem?_set] at e
  by_cases hij:i=j
  ·subst hij
   rw [if_pos rfl] at e
   split at e
   ·cases e;cases hb
   ·cases e
  ·rw [if_neg hij] at e
   exact s1.e.nb j ps e
 ·rw [List.getElem?_set] at e1 e2 e3 e4
  by_cases hij:i=j
  ·subst hij
   rw [if_pos rfl] at e1 e3
   rw [if_neg hjk] at e2 e4
   split at e1
   ·cases e1
    split at e3
    ·cases e3
     have fr:=o.fr ps a rfl rfl
     obtain⟨w,h1,rr⟩:=s.e.at_ k _ e2
     obtain⟨a',xs,h2,_,h3⟩:=M5.at_ rr
     rw [e4] at h1;cases h1
     cases h2
     rw [fr] at h3;cases h3
    ·cases e3
   ·cases e1
  ·rw [if_neg hij] at e1 e3
   by_cases hik:i=k
   ·subst hik
    rw [if_pos rfl] at e2 e4
    split at e2
    ·cases e2
     split at e4
     ·cases e4
      have fr:=o.fr qs a rfl rfl
      obtain⟨w,h1,rr⟩:=s.e.at_ j _ e1
      obtain⟨a',xs,h2,_,h3⟩:=M5.at_ rr
      rw [e3] at h1;cases h1
      cases h2
      rw [fr] at h3;cases h3
     ·cases e4
    ·cases e2
   ·rw [if_neg hik] at e2 e4
    exact s1.e.ap j k ps qs a hjk e1 e2 e3 e4
 ·rw [List.getElem?_set] at e1 e2
  by_cases hij:i=j
  ·subst hij
   rw [if_pos rfl] at e1 e2
   split at e1
   ·cases e1
    split at e2
    ·cases e2;exact s.x.h.free (o.fr ps a rfl rfl)
    ·cases e2
   ·cases e1
  ·rw [if_neg hij] at e1 e2
   exact s.nw j ps a e1 e2
section
variable {X:Cx}
def n8:MS:=fun ρ=>some (.nx ρ)
def j3(m n:MS):MS:=fun ρ=>(m ρ).bind fun fl=>match fl with
 | .nx ρ'=>n ρ'
 |f=>some f
theorem l9:ESs X [] n8:=a4f a6w fun D σ H ⟨F0,H0,F,ρ,fl,so,e,fin⟩=>by
 cases e
 exact fin σ F H (PU.e9.refl F) so
theorem b6{st:Stmt}{A2:List Stmt}{m n:MS}(h1:ES X st m)(h2:ESs X A2 n):ESs X (st::A2) (j3 m n):=
 a4f (a02 h1 h2) fun D σ H ⟨F0,H0,F,ρ,fl,so,e,fin⟩=>by
  obtain⟨f1,e1,e⟩:=bind_some e
  cases f1 with
  |nx ρ'=>exact⟨F0,H0,F,ρ,.nx ρ',so,e1,fun σ' F' H' s so'=>⟨F0,H0,F',ρ',fl,so',e,fin.later s⟩⟩
  |rt r=>cases e;exact⟨F0,H0,F,ρ,_,so,e1,fin⟩
  |bk r=>cases e;exact⟨F0,H0,F,ρ,_,so,e1,fin⟩
  |ct r=>cases e;exact⟨F0,H0,F,ρ,_,so,e1,fin⟩
theorem b7{st:Stmt}{m:MS}(h1:ES X st m):ESs X [st] m:=a9g h1
def v9(i:Nat)(m:M):MS:=fun ρ=>(m ρ).bind fun r=>if r.nb=true then some (.nx (ρ.set i (some r))) else none
theorem j2{i:Nat}{x:Str}{e:AE}{m:M}{pos pos':Pos}(hN:X.N.Nodup)(he:EE X e m)(hi:X.N[i]?=some x:=by rfl)(hx:Loc X.env.scope x:=by exact Or.inl rfl)(hs:swapsWith e (some (.Name x pos')) pos.line X.env=pure false:=by rfl)(hf:X.fn x=true\/X.env.scope.names.lookup x=some .local:=by first|exact .inl rfl|exact .inr rfl|assumption):
 ES X (.Assign [.Name x pos'] e pos) (v9 i m):=
 K0 (a8e hN hi hx he hs hf) fun D σ H ⟨F0,H0,F,ρ,fl,so,e,fin⟩=>by
  obtain⟨r,e1,e⟩:=bind_some e
  split at e
  ·rename_i c
   cases e
   exact⟨F,ρ,r,so.e,e1,fun v F' H' o=>fin _ F' H' o.x.f (so.set o c i)⟩
  ·cases e
def o0(m:M):MS:=fun ρ=>(m ρ).bind fun r=>if r.nb=true then some (.rt r) else none
theorem g5{e:AE}{m:M}{pos:Pos}(he:EE X e m):ES X (.Return (some e) pos) (o0 m):=
 K0 (a8d he) fun D σ H ⟨F0,H0,F,ρ,fl,so,e,fin⟩=>by
  obtain⟨r,e1,e⟩:=bind_some e
  split at e
  ·rename_i c
   cases e
   exact⟨F,ρ,r,so.e,e1,fun v F' H' o=>fin v F' H' (p4.trans so.x o)⟩
  ·cases e
def X6(i:Nat):MS:=fun ρ=>match ρ[i]? with
 |some (some r)=>some (.rt r)
 |_=>none
theorem Z8(i:Nat){x:Str}{p pos:Pos}(h:PE X (.Name x p) (a51 i)):ES X (.Return (some (.Name x p)) pos) (X6 i):=
 K0 (a8d h) fun D σ H ⟨F0,H0,F,ρ,fl,so,e,fin⟩=>by
  unfold X6 at e
  split at e
  ·rename_i r er
   cases e
   obtain⟨v,e1,rr⟩:=so.e.at_ i _ er
   exact⟨v,e1,fin v F H ⟨so.x,rr,fun ps a z1 z2=>by subst z1;subst z2;exact so.nw i ps a er e1⟩⟩
  ·cases e
def w4(c:MT)(m n:MS):MS:=fun ρ=>(c ρ).bind fun b=>if b=true then m ρ else n ρ
theorem m9{c:AE}{a b:List Stmt}{mc:MT}{m n:MS}{pos:Pos}(hc:ET X c mc)(ha:ESs X a m)(hb:ESs X b n):ES X (.If c a b pos) (w4 mc m n):=
 K0 (a9M hc ha hb) fun D σ H ⟨F0,H0,F,ρ,fl,so,e,fin⟩=>by
  obtain⟨b,e1,e⟩:=bind_some e
  refine⟨F,ρ,b,so.e,e1,fun F1 H1 x=> ?_⟩
  cases b with
  |true=>exact a6X ⟨F0,H0,F1,ρ,fl,so.ext x,e,fin.later x.f⟩
  |false=>exact a5N ⟨F0,H0,F1,ρ,fl,so.ext x,e,fin.later x.f⟩
def setAll{α:Type}:List (Option α)->List Nat->List α->List (Option α)
 |σ,i::is,x::xs=>setAll (σ.set i (some x)) is xs
 |σ,_,_=>σ
def a5H:List Nat->TGs
 |[]=>b07
 |i::is=>a9I (a4S i) (a5H is)
theorem a3x:∀{is:List Nat} {xs:List V} {σ:L2.St} {H:Hp} {Q:L2.St->Hp->Prop},xs.length=is.length->Q (setAll σ is xs) H->a5H is xs σ H Q
 |[],[],_,_,_,_,q=>⟨rfl,q⟩
 |[],_::_,_,_,_,h,_=>by cases h
 |_::_,[],_,_,_,h,_=>by cases h
 |i::is,x::xs,σ,H,Q,h,q=>⟨x,xs,rfl,a3x (is:=is) (xs:=xs) (by simpa using h) q⟩
theorem S3.setAll{K:AD}{F0 H0 F H:Hp}:∀{is:List Nat} {xs:List V} {ps:List PV} {σ:L2.St} {ρ:a8},S3 K F0 H0 F H σ ρ->e8 K F ps xs->S3 K F0 H0 F H (PU.setAll σ is xs) (PU.setAll ρ is (ps.map .val))
 |[],xs,ps,σ,ρ,s,r=>by
  have e1:PU.setAll σ [] xs=σ:=by cases xs<;>rfl
  have e2:PU.setAll ρ [] (ps.map b4.val)=ρ:=by cases ps<;>rfl
  rw [e1,e2];exact s
 |i::is,xs,[],σ,ρ,s,r=>by cases r;exact s
 |i::is,xs,p::ps,σ,ρ,s,⟨v,t,e,rp,rl⟩=>by
  subst e
  exact S3.setAll (is:=is) (s.set (p4.here s.e.fh rp) rfl i) rl
def b0j(is:List Nat)(m:M):MS:=fun ρ=>(m ρ).bind fun r=>match r with
 | .val (.tuple ps)=>if ps.length=is.length then some (.nx (setAll ρ is (ps.map .val))) else none
 |_=>none
theorem a91{is:List Nat}{es:List AE}{k:Nat}{e:AE}{m:M}{pos tpos:Pos}(hc:X.calm=true)(he:EE X e m)(hg:PGs X es (a5H is))
 (hn:(assignEach es X.env).length=is.length:=by rfl) (hst:(assignEach es X.env).findIdx? (·.1)=none:=by rfl)
 (hs:swapsWithSole [.Tuple es k tpos] e pos.line X.env=pure false:=by rfl) (hw:swappedStores [.Tuple es k tpos] e X.env=pure none:=by rfl)
 (h1:(assignEach [.Tuple es k tpos] X.env).map (·.2)=[assign (.Tuple es k tpos) X.env]:=by rfl):ES X (.Assign [.Tuple es k tpos] e pos) (b0j is m):=
 K0 (b0D he (b0C hc hg hn hst) hs hw h1) fun D σ H ⟨F0,H0,F,ρ,fl,so,e,fin⟩=>by
  obtain⟨r,e1,e⟩:=bind_some e
  split at e
  ·rename_i ps
   split at e
   ·rename_i c
    cases e
    refine⟨F,ρ,_,so.e,e1,fun v F' H' o=> ?_⟩
    obtain⟨a,xs,rfl,hq,rl⟩:=o.rep
    have hl:xs.length=is.length:=by rw [rl.length];exact c
    exact⟨a,xs,rfl,o8 o.x.fh hq.sq,hl,a3x hl (fin _ F' H' o.x.f ((so.ext o.x).setAll rl))⟩
   ·cases e
  ·cases e
def J8(body:MS)(tg:PV->a8->Option a8):List PV->a8->Option Fl
 |[],ρ=>some (.nx ρ)
 |p::ps,ρ=>(tg p ρ).bind fun ρ1=>(body ρ1).bind fun fl=>match fl with
  | .nx ρ'=>J8 body tg ps ρ'
  | .ct ρ'=>J8 body tg ps ρ'
  | .bk ρ'=>some (.nx ρ')
  | .rt r=>some (.rt r)
def l6(i:Nat):PV->a8->Option a8:=fun p ρ=>some (ρ.set i (some (.val p)))
def a8D(K:AD)(g:TG)(tg:PV->a8->Option a8):Prop:=
 ∀F0 H0 F H σ ρ ρ1 p x (Q:L2.St->Hp->Prop),S3 K F0 H0 F H σ ρ->C3 K F p x->tg p ρ=some ρ1->(∀σ',S3 K F0 H0 F H σ' ρ1->Q σ' H)->g x σ H Q
theorem C2{K:AD}(i:Nat):a8D K (a4S i) (l6 i):=fun F0 H0 F H σ ρ ρ1 p x Q so r e k=>by
 cases e
 exact k _ (so.set (p4.here so.e.fh r) rfl i)
theorem a6Q{body:MS}{tg:PV->a8->Option a8}{ps:List PV}{p:PV}{ρ:a8}{fl:Fl}(h:J8 body tg (p::ps) ρ=some fl):∃ρ1 f1,tg p ρ=some ρ1/\body ρ1=some f1/\(match f1 with
 | .nx ρ'=>J8 body tg ps ρ'
 | .ct ρ'=>J8 body tg ps ρ'
 | .bk ρ'=>some (.nx ρ')
 | .rt r=>some (.rt r))=some fl:=by
 unfold J8 at h
 obtain⟨ρ1,e1,h⟩:=bind_some h
 obtain⟨f1,e2,h⟩:=bind_some h
 exact⟨ρ1,f1,e1,e2,h⟩
def PvL(K:AD)(F0 H0 F1:Hp)(body:MS)(tg:PV->a8->Option a8)(ps:List PV)(fl:Fl)(k:Nat)(σ:L2.St)(H:Hp):Prop:=
 ∃F ρ,e9 F1 F/\S3 K F0 H0 F H σ ρ/\J8 body tg (ps.drop k) ρ=some fl
theorem a1q{K:AD}{F0 H0 F1:Hp}{body:MS}{tg:PV->a8->Option a8}{g:TG}{ps:List PV}{fl:Fl}{D:O0}{k:Nat}{p:PV}{x:V}{σ:L2.St}{H:Hp}(T:a8D K g tg)(fin:Fin K F0 H0 F1 D fl)(ep:ps[k]?=some p)
 (hp:PvL K F0 H0 F1 body tg ps fl k σ H) (rx:∀F,e9 F1 F->C3 K F p x):
 g x σ H fun σ2 H2=>tMS K body {D with nx:=PvL K F0 H0 F1 body tg ps fl (k+1),ct:=PvL K F0 H0 F1 body tg ps fl (k+1),bk:=D.nx} σ2 H2:=by
 obtain⟨F,ρ,s,so,e⟩:=hp
 have hk:k<ps.length:=(Ao.mp ep).1
 have hd:ps.drop k=p::ps.drop (k+1):=by
  rw [List.drop_eq_getElem_cons hk]
  congr 1
  exact(Ao.mp ep).2
 rw [hd] at e
 obtain⟨ρ1,f1,e1,e2,e3⟩:=a6Q e
 refine T F0 H0 F H σ ρ ρ1 p x _ so (rx F s) e1 fun σ' so'=>⟨F0,H0,F,ρ1,f1,so',e2, ?_⟩
 cases f1 with
 |nx ρ'=>exact fun σ2 F2 H2 s2 so2=>⟨F2,ρ',s.trans s2,so2,e3⟩
 |ct ρ'=>exact fun σ2 F2 H2 s2 so2=>⟨F2,ρ',s.trans s2,so2,e3⟩
 |bk ρ'=>cases e3;exact fun σ2 F2 H2 s2 so2=>fin σ2 F2 H2 (s.trans s2) so2
 |rt r=>cases e3;exact fin
theorem a2H{K:AD}{F0 H0 F1:Hp}{body:MS}{tg:PV->a8->Option a8}{ps:List PV}{fl:Fl}{D:O0}{σ:L2.St}{H:Hp}(fin:Fin K F0 H0 F1 D fl)
 (hp:PvL K F0 H0 F1 body tg ps fl ps.length σ H):D.nx σ H:=by
 obtain⟨F,ρ,s,so,e⟩:=hp
 rw [List.drop_length] at e
 cases e
 exact fin σ F H s so
abbrev MI:=a8->Option (List PV)
def X5(m:M):MI:=fun ρ=>((m ρ).bind b4.toVal).bind PyData.items?
def b1C(K:AD)(tl:TE):TI:=fun σ H R=>tl σ H fun x H1=>∃a,x= .ref a/\(((∃xs,R6 K H1 a xs)/\R (Itl K a) H1)\/((∃xs,W0 K H1 a xs)/\R (Itt K a) H1))
theorem a79{tg l:AE}{tl:TE}(hl:PE X l tl):PI X tg l (b1C X.K tl):=by
 intro pins s σ H R I h
 refine G0 (hl pins s σ H _ I h) fun v s1 ⟨x,H1,I1,r1,q1⟩=> ?_
 obtain⟨a,e,q⟩:=q1
 subst e
 cases r1
 rcases q with⟨⟨xs,hq⟩,q⟩|⟨⟨xs,hq⟩,q⟩
 ·obtain⟨its,rv,p,hz⟩:=I1.list hq
  refine wpAny_pyIter_list p.isList ?_
  refine⟨s1.heap.objs.size,[s1.heap.objs.size],_,_,H1,rfl,I1.kept (t':=s1.toks) fun b o e=>Ak _ e,a7d a _,⟨_,Au _ rfl,rfl,rfl⟩,fun b hb=> ?_,q⟩
  have e:b=s1.heap.objs.size:=by simpa using hb
  subst e
  exact I1.fpOk (AR _) (I1.hok.fresh (AR _))
 ·obtain⟨its,rv,p,hz⟩:=I1.tuple hq
  refine wpAny_pyIter_tuple (show s1.heap.IsTuple a its.toArray from p) ?_
  refine⟨s1.heap.objs.size,[s1.heap.objs.size],_,_,H1,rfl,I1.kept (t':=s1.toks) fun b o e=>Ak _ e,a54 a _,⟨_,Au _ rfl,rfl,rfl⟩,fun b hb=> ?_,q⟩
  have e:b=s1.heap.objs.size:=by simpa using hb
  subst e
  exact I1.fpOk (AR _) (I1.hok.fresh (AR _))
def a2J(it:MI)(tg:PV->a8->Option a8)(body:MS):MS:=fun ρ=>(it ρ).bind fun ps=>J8 body tg ps ρ
theorem a1j{tg iter:AE}{body:List Stmt}{m:M}{g:TG}{t:PV->a8->Option a8}{b:MS}{pos:Pos}(hp:PassesOwn (model X.prog X.w) X.A X.env X.xe)(hc:X.calm=true)(hi:EE X iter m)(hg:PG X tg g)(T:a8D X.K g t)(hb:ESs X body b)
 (hs:∀x,foldedSetIterable iter X.env x=pure x:=by intro _;rfl):ES X (.For tg iter body [] pos) (a2J (X5 m) t b):=
 K0 (a8b hp hc (a79 hi) hg hb hs) fun D σ H ⟨F0,H0,F,ρ,fl,so,e,fin⟩=>by
  obtain⟨ps,e1,e⟩:=bind_some e
  obtain⟨q,e1,e2⟩:=bind_some e1
  obtain⟨r,e1,e3⟩:=bind_some e1
  refine⟨F,ρ,r,so.e,e1,fun v F' H' o=> ?_⟩
  obtain⟨F1,o1⟩:=o.toVal e3
  have fin1:=fin.later o1.x.f
  have so1:=so.ext o1.x
  obtain⟨a,xs,rfl,hq,rl⟩:=Q9 (F:=F1) (H:=F1) (PU.e9.refl F1) (show J4 X.K F1 F1 v (.val q) from o1.rep) e2
  have hlen:=rl.length
  have get:∀k x,xs[k]?=some x->∃p,ps[k]?=some p/\∀F,e9 F1 F->C3 X.K F p x:=fun k x ex=>by
   obtain⟨p,ep,rp⟩:=rl.getV ex
   exact⟨p,ep,fun F s=>C3.mono s _ rp⟩
  rcases hq with hq|hq
  ·refine⟨a,rfl,.inl ⟨⟨xs,J2 o1.x.fh hq⟩,a7C (K:=X.K) (a:=a) (xs:=xs) (PvL X.K F0 H0 F1 b t ps fl) ⟨F1,ρ,PU.e9.refl F1,so1,e⟩ (fun k σ H _ ⟨F,_,s,so2,_⟩=>J2 (s.trans so2.e.fh) hq) (fun k x σ H ex hp=> ?_) (fun σ H hp=> ?_)⟩⟩
   ·obtain⟨p,ep,rp⟩:=get k x ex
    exact a1q T fin1 ep hp rp
   ·rw [hlen] at hp
    exact a2H fin1 hp
  ·refine⟨a,rfl,.inr ⟨⟨xs,o8 o1.x.fh hq⟩,a8P (K:=X.K) (a:=a) (xs:=xs) (PvL X.K F0 H0 F1 b t ps fl) ⟨F1,ρ,PU.e9.refl F1,so1,e⟩ (fun k σ H _ ⟨F,_,s,so2,_⟩=>o8 (s.trans so2.e.fh) hq) (fun k x σ H ex hp=> ?_) (fun σ H hp=> ?_)⟩⟩
   ·obtain⟨p,ep,rp⟩:=get k x ex
    exact a1q T fin1 ep hp rp
   ·rw [hlen] at hp
    exact a2H fin1 hp
def Y1(lo hi:Int):List PV:=(Ad (hi - lo).toNat).map fun k=> .int (lo+(k:Nat))
theorem a7N:∃f:Int->Bool,∀j,f j=decide (-(2 ^ 62)<=j/\j<2 ^ 62):=⟨_,fun _=>rfl⟩
def inR:Int->Bool:=a7N.choose
theorem b0a(j:Int):inR j=decide (-(2 ^ 62)<=j/\j<2 ^ 62):=a7N.choose_spec j
theorem a3Z{j:Int}:inR j=true↔(-(2 ^ 62)<=j/\j<2 ^ 62):=by rw [b0a,decide_eq_true_iff]
def a0q(m:MA):MI:=fun ρ=>(m ρ).bind fun ps=>match ps with
 |[.int j]=>if inR j=true then some (Y1 0 j) else none
 |_=>none
theorem a20{lo hi:Int}{k:Nat}(h:k<(hi - lo).toNat):(Y1 lo hi)[k]?=some (.int (lo+k)):=by
 simp [Y1,h]
theorem a21(lo hi:Int):(Y1 lo hi).length=(hi - lo).toNat:=by simp [Y1]
theorem a4J{tg a:AE}{body:List Stmt}{m:MA}{g:TG}{t:PV->a8->Option a8}{b:MS}{p rp pos:Pos}(hp:PassesOwn (model X.prog X.w) X.A X.env X.xe)(hc:X.calm=true)(hgl:Gl X "range")(hm:X.mg "range"=none)(ha:EA X [a] m)(hg:PG X tg g)(T:a8D X.K g t)(hb:ESs X body b)
 (hst:AL [a] X.env=[(false,eval a X.env)]:=by rfl) (hs:∀x,foldedSetIterable (.Call (.Name "range" p) [a] [] rp) X.env x=pure x:=by intro _;rfl):ES X (.For tg (.Call (.Name "range" p) [a] [] rp) body [] pos) (a2J (a0q m) t b):=
 K0 (a8b hp hc (a3E hgl hm ha hst) hg hb hs) fun D σ H ⟨F0,H0,F,ρ,fl,so,e,fin⟩=>by
  obtain⟨ps,e1,e⟩:=bind_some e
  obtain⟨qs,e1,e2⟩:=bind_some e1
  refine⟨F,ρ,qs,so.e,e1,fun vs F1 H1 x rl=> ?_⟩
  split at e2
  ·rename_i j
   split at e2
   ·rename_i c
    have c:=a3Z.mp c
    cases e2
    obtain⟨v,r,rfl,rv,rr⟩:=rl
    cases rv
    cases rr
    have fin1:=fin.later x.f
    have hz:(j - 0).toNat=j.toNat:=by lia
    refine⟨j,rfl,c.1,c.2,a6R (lo:=0) (n:=j.toNat) (PvL X.K F0 H0 F1 b t (Y1 0 j) fl) ⟨F1,ρ,PU.e9.refl F1,so.ext x,e⟩ (fun k σ H hk hp=> ?_) (fun σ H hp=> ?_)⟩
    ·exact a1q T fin1 (a20 (by lia)) hp fun _ _=>rfl
    ·have:j.toNat=(Y1 0 j).length:=by rw [a21,hz]
     rw [this] at hp
     exact a2H fin1 hp
   ·cases e2
  ·cases e2
def A3(c:MT)(body:MS):Nat->a8->Option Fl
 |0,_=>none
 |n+1,ρ=>(c ρ).bind fun b=>if b=true then(body ρ).bind fun fl=>match fl with
  | .nx ρ'=>A3 c body n ρ'
  | .ct ρ'=>A3 c body n ρ'
  | .bk ρ'=>some (.nx ρ')
  | .rt r=>some (.rt r) else some (.nx ρ)
theorem a4L(n:Nat){c:AE}{body:List Stmt}{mc:MT}{b:MS}{pos:Pos}(hp:PassesOwn (model X.prog X.w) X.A X.env X.xe)(hc:ET X c mc)(hb:ESs X body b):ES X (.While c body [] pos) (A3 mc b n):=
 K0 (a8f hp hc hb) fun D σ H ⟨F0,H0,F,ρ,fl,so,e,fin⟩=>by
  refine⟨fun k σ H=>∃F1 ρ,e9 F F1/\S3 X.K F0 H0 F1 H σ ρ/\A3 mc b k ρ=some fl,⟨n,F,ρ,PU.e9.refl F,so,e⟩, ?_⟩
  rintro k σ H ⟨F1,ρ,s,so,e⟩
  cases k with
  |zero=>cases e
  |succ k=>
   unfold A3 at e
   obtain⟨d,e1,e⟩:=bind_some e
   refine⟨F1,ρ,d,so.e,e1,fun F2 H2 x=> ?_⟩
   have s2:=s.trans x.f
   cases d with
   |true=>
    rw [if_pos rfl] at e
    obtain⟨f1,e2,e⟩:=bind_some e
    refine a6X ⟨fun σ' H'=>∃F1 ρ,e9 F F1/\S3 X.K F0 H0 F1 H' σ' ρ/\A3 mc b k ρ=some fl,fun σ' H' h=>⟨k,Nat.lt_succ_self k,h⟩,⟨F0,H0,F2,ρ,f1,so.ext x,e2, ?_⟩⟩
    cases f1 with
    |nx ρ'=>exact fun σ3 F3 H3 s3 so3=>⟨F3,ρ',s2.trans s3,so3,e⟩
    |ct ρ'=>exact fun σ3 F3 H3 s3 so3=>⟨F3,ρ',s2.trans s3,so3,e⟩
    |bk ρ'=>cases e;exact fun σ3 F3 H3 s3 so3=>fin σ3 F3 H3 (s2.trans s3) so3
    |rt r=>cases e;exact fin
   |false=>
    rw [if_neg Ar] at e
    cases e
    exact a5N (fin σ F2 H2 s2 (so.ext x))
def i4(n:Nat)(body:MS)(ps:List PV):Option b4:=(body (ps.map (fun p=>some (b4.val p))++AN n none)).bind fun fl=>match fl with
 | .rt r=>some r
 | .nx _=>some (.val .none)
 |_=>none
end
theorem a8s{K:AD}{F H:Hp}{ps:List PV}{vs:List V}(n:Nat)(s:e9 F H)(r:e8 K F ps vs):S3 K F H F H (vs.map some++AN n none) (ps.map (fun p=>some (b4.val p))++AN n none):=by
 have hl:=r.length
 have key:∀(i:Nat) (q:b4),(ps.map (fun p=>some (b4.val p))++AN n none)[i]?=some (some q)->∃p v,q= .val p/\(vs.map some++AN n none)[i]?=some (some v)/\C3 K F p v:=by
  intro i q e
  by_cases h:i<ps.length
  ·rw [Aw (by simpa using h),Av] at e
   rw [Aw (by rw [Ai,hl];exact h),Av]
   cases q':ps[i]? with
   |none=>rw [q'] at e;cases e
   |some p=>
    rw [q'] at e
    cases e
    obtain⟨v,h1,h2⟩:=r.get q'
    exact⟨p,v,rfl,by rw [h1];rfl,h2⟩
  ·rw [List.getElem?_append_right (by simpa using h),List.getElem?_replicate] at e
   split at e<;>cases e
 refine⟨W3.refl s,⟨s,by simp [hl],fun i q e=> ?_,fun i qs e=> ?_,fun i j qs _ a _ e=> ?_⟩,fun i qs a e=> ?_⟩
 ·obtain⟨p,v,rfl,h1,h2⟩:=key i q e;exact⟨v,h1,h2⟩
 ·obtain⟨p,v,z,_⟩:=key i _ e;cases z
 ·obtain⟨p,v,z,_⟩:=key i _ e;cases z
 ·obtain⟨p,v,z,_⟩:=key i _ e;cases z
theorem a9H{P:AI}{w:AG}{K:AD}{mg:Str->Option AA}{base:Heap}{x qual:Str}{st:Stmt}{f:AB}{fd:FuncData}{N ps:List Str}{k:Nat}{m:MS}(F:Fun K x qual st f fd)(S:g8 N ps (c5 st))
 (hb:∀(cdv:AA) (A:AH) (outer:List Env) (s:AC) (H:Hp) (E:XK),J5 k (A.deeper (envOfC qual (c5 st) s.heap.objs.size f cdv))->ESs (a4D CX0 P w K mg base N qual (c5 st) f cdv A outer s H E).nox (C7 st) m):
 O1 P w K mg base CX0 (k+1) f fd ps (spP K ps.length (i4 (N.length - ps.length) m)):=by
 refine F.ok S (fun vs H Q E h=> ?_) (fun cdv A outer s H vs Q E hr h=> ?_)
 ·obtain⟨_,qs,_,_,r,h2,_⟩:=h
  rw [r.length,h2]
 ·obtain⟨F1,qs,r,s1,rl,hl,e,k⟩:=h
  refine⟨_,hb cdv A outer s H E hr, ?_⟩
  unfold i4 at e
  obtain⟨fl,e1,e2⟩:=bind_some e
  have hv:vs.length=ps.length:=by rw [rl.length,hl]
  refine⟨F1,H,F1,_,fl, ?_,e1, ?_⟩
  ·have:=a8s (N.length - ps.length) s1 rl
   unfold L2.a08
   rw [hv]
   exact this
  ·cases fl with
   |rt q=>cases e2;exact fun v F' H' o=>k v F' H' o
   |nx ρ=>cases e2;exact fun σ' F' H' _ so=>k .non F' H' (p4.val so.x rfl)
   |bk ρ=>cases e2
   |ct ρ=>cases e2
section
variable {X:Cx}
def rC1(K:AD)(g:b4->Option b4):List V->Hp->VK->Prop:=fun xs H Q=>∃F x rx rz,xs=[x]/\e9 F H/\J4 K F H x rx/\g rx=some rz/\∀v F' H',p4 K F H F' H' v rz->Q v H'
def rC2(K:AD)(g:b4->b4->Option b4):List V->Hp->VK->Prop:=fun xs H Q=>∃F x y rx ry rz,xs=[x,y]/\e9 F H/\J4 K F H x rx/\J4 K F H y ry/\g rx ry=some rz/\∀v F' H',p4 K F H F' H' v rz->Q v H'
def m1(g:b4->Option b4)(m:M):M:=fun ρ=>(m ρ).bind g
theorem a72{m:M}{g:b4->Option b4}{σ:L2.St}{H:Hp}{Q:VK}(h:tM X.K (m1 g m) σ H Q):tCB (rC1 X.K g) (a6B (tM X.K m) b0N) σ H Q:=by
 obtain⟨F,ρ,r,he,hm,k⟩:=h
 obtain⟨rx,e1,hm⟩:=bind_some hm
 exact⟨F,ρ,rx,he,e1,fun v F1 H1 o1=>⟨F1,v,rx,r,rfl,o1.x.fh,o1.rep,hm,fun z F2 H2 o2=>k z F2 H2 (p4.trans o1.x o2)⟩⟩
theorem a9y{m n:M}{g:b4->b4->Option b4}{σ:L2.St}{H:Hp}{Q:VK}(h:tM X.K (m2 g m n) σ H Q):tCB (rC2 X.K g) (a6B (tM X.K m) (a6B (tM X.K n) b0N)) σ H Q:=by
 obtain⟨F,ρ,r,he,hm,k⟩:=h
 obtain⟨rx,e1,hm⟩:=bind_some hm
 obtain⟨ry,e2,hm⟩:=bind_some hm
 exact⟨F,ρ,rx,he,e1,fun v F1 H1 o1=>⟨F1,ρ,ry,he.ext o1.x,e2,fun u F2 H2 o2=>⟨F2,v,u,rx,ry,r,rfl,o2.x.fh,o1.rep.ext o2.x,o2.rep,hm,fun z F3 H3 o3=>k z F3 H3 (p4.trans (o1.x.trans o2.x) o3)⟩⟩⟩
theorem a0o{id:String}{x:Str}{p pos:Pos}{e:AE}{g:b4->Option b4}{m:M}(hc:G2 X (.builtin id) (rC1 X.K g))(hg:Gl X x)(hm:X.mg x=none)(hv:bootBuiltins x=some (.builtin id))(ha:EE X e m)(hn:x≠"__name__":=by decide)(hdb:(x==("__debug__":Str))=false:=by decide)
 (he:AL [e] X.env=(false,eval e X.env)::AL [] X.env:=by rfl) (hpl:(backTo pos (AL [] X.env)).any (·.1)=false:=by rfl):EE X (.Call (.Name x p) [e] [] pos) (m1 g m):=
 D3 (a2W hc hg hm hv (B2 ha U1 he) hn hdb he hpl) fun _ _ _ h=>a72 h
theorem a9E{id:String}{x:Str}{p pos:Pos}{e e2:AE}{g:b4->b4->Option b4}{m n:M}(hc:G2 X (.builtin id) (rC2 X.K g))(hg:Gl X x)(hm:X.mg x=none)(hv:bootBuiltins x=some (.builtin id))(ha:EE X e m)(hb:EE X e2 n)(hn:x≠"__name__":=by decide)(hdb:(x==("__debug__":Str))=false:=by decide)
 (he:AL [e,e2] X.env=(false,eval e X.env)::AL [e2] X.env:=by rfl) (he2:AL [e2] X.env=(false,eval e2 X.env)::AL [] X.env:=by rfl) (hpl:(backTo pos (AL [e2] X.env)).any (·.1)=false:=by rfl):EE X (.Call (.Name x p) [e,e2] [] pos) (m2 g m n):=
 D3 (a2W hc hg hm hv (B2 ha (B2 hb U1 he2) he) hn hdb he hpl) fun _ _ _ h=>a9y h
theorem a4F{T:String}{x:Str}{p pos:Pos}{e:AE}{g:b4->Option b4}{m:M}(hc:G2 X (.type T) (rC1 X.K g))(hg:Gl X x)(hm:X.mg x=none)(hv:bootBuiltins x=some (.type T))(ha:EE X e m)(hn:x≠"__name__":=by decide)(hdb:(x==("__debug__":Str))=false:=by decide)
 (he:AL [e] X.env=(false,eval e X.env)::AL [] X.env:=by rfl) (hpl:(backTo pos (AL [] X.env)).any (·.1)=false:=by rfl):EE X (.Call (.Name x p) [e] [] pos) (m1 g m):=
 D3 (a67 hc hg hm hv (B2 ha U1 he) hn hdb he hpl) fun _ _ _ h=>a72 h
def M6(x:b4):Option b4:=match x.rd with
 | .str z=>if z.length<=AJ then some (.val (.int z.length)) else none
 |p=>match PyData.items? p with
  |some ps=>some (.val (.int ps.length))
  |none=>none
theorem O4:G2 X (.builtin "len") (rC1 X.K M6):=by
 intro pins s σ H xs us Q I rv h
 obtain⟨F,x,rx,rz,rfl,s0,h1,h2,k⟩:=h
 unfold M6 at h2
 split at h2
 ·rename_i z ez
  split at h2
  ·rename_i c
   cases h2
   have rr:=h1.rd s0
   rw [ez] at rr
   cases rr
   exact a3R pins s σ H _ us Q I rv ⟨z,rfl,c,k _ F H (p4.here s0 rfl)⟩
  ·cases h2
 ·split at h2
  ·rename_i ps e
   cases h2
   obtain⟨a,xs,rfl,hq,r⟩:=Q9 s0 h1 e
   refine a3Q pins s σ H _ us Q I rv ⟨a,xs,rfl,hq, ?_⟩
   rw [r.length]
   exact k _ F H (p4.here s0 rfl)
  ·cases h2
theorem a7s(hc:X.calm=true):G2 X (.builtin "min") (rC2 X.K (gI fun i j=> .int (if j<i then j else i))):=by
 intro pins s σ H xs us Q I rv h
 obtain⟨F,x,y,rx,ry,rz,rfl,s0,h1,h2,h3,k⟩:=h
 obtain⟨i,j,rfl,rfl,rfl⟩:=a6k h3
 cases h1;cases h2
 exact a6H hc pins s σ H _ us Q I rv ⟨i,j,rfl,k _ F H (p4.here s0 rfl)⟩
def kindOf:PV->String
 | .none=>"NoneType"
 | .bool _=>"bool"
 | .int _=>"int"
 | .str _=>"str"
 | .list _=>"list"
 | .tuple _=>"tuple"
 | .dict _=>"dict"
def M2(T:String)(p:PV):Bool:=kindOf p==T||(kindOf p=="bool" && T=="int")
def a5L:PV->Bool
 | .dict [(.str _,_)]=>true
 |_=>false
def a3e(T:String)(x:b4):Option b4:=bif a5L x.rd then none else some (.val (.bool (M2 T x.rd)))
def a7i(T:String):Prop:=T="int"\/T="bool"\/T="str"\/T="list"\/T="tuple"\/T="dict"
theorem a6Y{K:AD}{T:String}(h:a7i T):∀p:PV,PySem.W.kitOne K (.type (kindOf p)) (.type T)=some (M2 T p):=by
 intro p
 rcases h with rfl|rfl|rfl|rfl|rfl|rfl<;>cases p<;>kernel_rfl
theorem a1h{T:String}{e:AE}{m:M}{p p2 pos:Pos}(kt:a7i T)(hg:Gl X "isinstance")(hm:X.mg "isinstance"=none)(ha:EE X e m)(hT:PE X (.Name (AQ T) p2) (tC (.ty T)))
 (he:AL [e,.Name (AQ T) p2] X.env=(false,eval e X.env)::AL [.Name (AQ T) p2] X.env:=by rfl) (he2:AL [.Name (AQ T) p2] X.env=(false,eval (.Name (AQ T) p2) X.env)::AL [] X.env:=by rfl) (hpl:(backTo pos (AL [.Name (AQ T) p2] X.env)).any (·.1)=false:=by rfl)
 (hv:bootBuiltins "isinstance"=some (.builtin "isinstance"):=by rfl):
 EE X (.Call (.Name "isinstance" p) [e,.Name (AQ T) p2] [] pos) (m1 (a3e T) m):=by
 have hc:G2 X (.builtin "isinstance") (fun xs H Q=>∃F x rx,xs=[x,.ty T]/\e9 F H/\J4 X.K F H x rx/\a5L rx.rd=false/\Q (.bl (M2 T rx.rd)) H):=by
  intro pins s σ H xs us Q I rv h
  obtain⟨F,x,rx,rfl,s0,h1,nf,q⟩:=h
  obtain⟨u,u2,rfl,ru,ru2⟩:∃u1 u2,us=[u1,u2]/\l5 x u1/\l5 (.ty T) u2:=by
   cases rv with
   |cons p q=>
    cases q with
    |cons p' q'=>
     cases q'
     exact⟨_,_,rfl,p,p'⟩
  cases ru2
  have rr:=h1.rd s0
  have kk:=a6Y (K:=X.K) kt rx.rd
  have fin:∀tk,EP X pins σ Q (.bool (M2 T rx.rd)) {s with toks:=tk}:=fun tk=>⟨.bl _,H,I.tok tk,rfl,q⟩
  cases hp:rx.rd with
  |none=>rw [hp] at rr kk fin;cases rr;cases ru;exact PySem.W.kia_one PySem.W.kitx_none I.kIn True.intro kk (fun z=>nomatch z) fin
  |bool b=>rw [hp] at rr kk fin;cases rr;cases ru;exact PySem.W.kia_one PySem.W.kitx_bool I.kIn True.intro kk (fun z=>nomatch z) fin
  |int b=>rw [hp] at rr kk fin;cases rr;obtain⟨t,rfl⟩:=ru;exact PySem.W.kia_one PySem.W.kitx_int I.kIn True.intro kk (fun z=>nomatch z) fin
  |str b=>rw [hp] at rr kk fin;cases rr;obtain⟨t,rfl⟩:=ru;exact PySem.W.kia_one PySem.W.kitx_str I.kIn True.intro kk (fun z=>nomatch z) fin
  |list ps=>
   rw [hp] at rr kk fin
   obtain⟨a,ys,rfl,hq,_⟩:=rr
   cases ru
   obtain⟨its,_,⟨o,n,e1,e2,_⟩,_⟩:=I.list hq
   exact PySem.W.kia_one PySem.W.kitx_list I.kIn ⟨o,e1,e2⟩ kk (fun z=>nomatch z) fin
  |tuple ps=>
   rw [hp] at rr kk fin
   obtain⟨a,ys,rfl,hq,_⟩:=rr
   cases ru
   obtain⟨its,_,⟨o,e1,e2,_⟩,_⟩:=I.tuple hq.sq
   exact PySem.W.kia_one PySem.W.kitx_tuple I.kIn ⟨o,e1,e2⟩ kk (fun z=>nomatch z) fin
  |dict ps=>
   rw [hp] at rr kk fin nf
   rcases rr with⟨a,_,rfl,hq,_⟩|⟨a,_,rfl,hq,_⟩|⟨x,_,rfl,_⟩
   ·cases ru
    obtain⟨_,_,_,_,o,_,_,e1,e2,_⟩:=I.hok a _ hq
    exact PySem.W.kia_one PySem.W.kitx_dict I.kIn ⟨o,e1,e2.1⟩ kk (fun z=>nomatch z) fin
   ·cases ru
    obtain⟨_,_,_,_,o,_,_,e1,e2,_⟩:=I.hok a _ hq
    exact PySem.W.kia_one PySem.W.kitx_dict I.kIn ⟨o,e1,e2.1⟩ kk (fun z=>nomatch z) fin
   ·cases nf
 exact D3 (a2W hc hg hm hv (B2 ha (B2 hT U1 he2) he) (by decide) (by decide) he hpl) fun σ H Q ⟨F,ρ,r,h1,h2,k⟩=>by
  obtain⟨rx,e1,h2⟩:=bind_some h2
  unfold a3e at h2
  cases nf:a5L rx.rd with
  |true=>rw [nf] at h2;cases h2
  |false=>
   rw [nf] at h2
   cases h2
   exact⟨F,ρ,rx,h1,e1,fun v F1 H1 o=>⟨F1,v,rx,rfl,o.x.fh,o.rep,nf,k _ F1 H1 (p4.val o.x rfl)⟩⟩
theorem S3.putC{K:AD}{F0 H0 F H:Hp}{σ:L2.St}{ρ:a8}{i:Nat}{c d:P8}{a:AB}{o:HO}(s:S3 K F0 H0 F H σ ρ)(e:ρ[i]?=some (some (.ow c)))(ea:σ[i]?=some (some (.ref a)))(r:F a=none->M5 K F (upd H a o) (.ref a) d):
 S3 K F0 H0 F (upd H a o) σ (ρ.set i (some (.ow d))):=by
 obtain⟨v,h1,rr0⟩:=s.e.at_ i _ e
 obtain⟨a',xs,rfl,fa,ha⟩:=M5.at_ rr0
 rw [ea] at h1;cases h1
 have na:H0 a=none:=s.nw i c a e ea
 have hi:i<ρ.length:=(Ao.mp e).1
 refine⟨⟨s.x.f,fun b o z=>by rw [f8 (j4 z na)];exact s.x.h _ _ z,fun b o z=>by rw [f8 (j4 z fa)];exact s.x.fh _ _ z,s.x.nw,s.x.nf⟩,⟨fun b o z=>by rw [f8 (j4 z fa)];exact s.e.fh _ _ z,by simp [s.e.len],fun j q ej=> ?_,fun j z ej=> ?_,fun j k z1 z2 c' hjk e1 e2 e3 e4=> ?_⟩,fun j z c' e1 e2=> ?_⟩
 ·rw [List.getElem?_set] at ej
  by_cases hij:i=j
  ·subst hij
   rw [if_pos rfl,if_pos hi] at ej
   cases ej
   exact⟨.ref a,ea,r fa⟩
  ·rw [if_neg hij] at ej
   obtain⟨v,h1,rr⟩:=s.e.at_ j q ej
   refine⟨v,h1, ?_⟩
   cases q with
   |val p=>exact rr
   |bo z=>exact absurd ej (s.e.nb j z)
   |ow z=>
    have key:∀b,v= .ref b->b≠a:=fun b hb hab=>by subst hab;subst hb;exact s.e.ap i j c z b hij e ej ea h1
    cases z with
    |lst z=>
     obtain⟨b,zs,rfl,fb,hb,rz⟩:=rr
     exact⟨b,zs,rfl,fb,by rw [f8 (key b rfl)];exact hb,rz⟩
    |dct z=>
     obtain⟨b,zs,rfl,fb,hb,rz⟩:=rr
     exact⟨b,zs,rfl,fb,by rw [f8 (key b rfl)];exact hb,rz⟩
    |txt z=>
     obtain⟨b,zs,rfl,fb,hb,rz⟩:=rr
     exact⟨b,zs,rfl,fb,by rw [f8 (key b rfl)];exact hb,rz⟩
 ·rw [List.getElem?_set] at ej
  by_cases hij:i=j
  ·subst hij;rw [if_pos rfl,if_pos hi] at ej;cases ej
  ·rw [if_neg hij] at ej;exact s.e.nb j z ej
 ·have own_at:∀(j:Nat) (z:P8),(ρ.set i (some (b4.ow d)))[j]?=some (some (b4.ow z))->∃z':P8,ρ[j]?=some (some (b4.ow z')):=fun j z h=>by
   rw [List.getElem?_set] at h
   by_cases hij:i=j
   ·subst hij;exact⟨c,e⟩
   ·rw [if_neg hij] at h;exact⟨z,h⟩
  obtain⟨y1,h1⟩:=own_at j z1 e1
  obtain⟨y2,h2⟩:=own_at k z2 e2
  exact s.e.ap j k y1 y2 c' hjk h1 h2 e3 e4
 ·rw [List.getElem?_set] at e1
  by_cases hij:i=j
  ·subst hij;rw [ea] at e2;cases e2;exact na
  ·rw [if_neg hij] at e1;exact s.nw j z c' e1 e2
theorem S3.put{K:AD}{F0 H0 F H:Hp}{σ:L2.St}{ρ:a8}{i:Nat}{ps qs:List PV}{a:AB}{ys:List V}(s:S3 K F0 H0 F H σ ρ)(e:ρ[i]?=some (some (.own ps)))(ea:σ[i]?=some (some (.ref a)))(r:e8 K F qs ys):
 S3 K F0 H0 F (upd H a (.lst ys)) σ (ρ.set i (some (.own qs))):=s.putC e ea fun fa=>⟨a,ys,rfl,fa,m7,r⟩
def p8(i:Nat)(m:M):MS:=fun ρ=>(m ρ).bind fun r=>r.toVal.bind fun p=>match ρ[i]? with
 |some (some (.ow (.lst ps)))=>if ps.length<AJ then some (.nx (ρ.set i (some (.own (ps++[p]))))) else none
 |_=>none
theorem v0(i:Nat){x:Str}{p apos cpos pos:Pos}{e:AE}{m:M}(hx:PE X (.Name x p) (a51 i))(ha:EE X e m)
 (hbase:attributeBase (.Name x p) "append" X.env (eval (.Name x p) X.env)=eval (.Name x p) X.env:=by rfl)
 (hfew:((backTo cpos (AL [e] X.env)).all (fun x=> !x.1)&&(backToKw cpos (keywordEach [] X.env)).all (fun x=>x.1.isSome)
  && decide ([e].length+([]:List Keyword).length+(if([]:List Keyword).isEmpty then 0 else 1)<30))=true:=by rfl)
 (hline:(apos.endLine==cpos.line)=true:=by rfl) (hs:AL [e] X.env=(false,eval e X.env)::AL [] X.env:=by rfl) (hplain:(backTo cpos (AL [] X.env)).any (·.1)=false:=by rfl)
 (hsw:swapsWith (.Call (.Attribute (.Name x p) "append" apos) [e] [] cpos) none pos.line X.env=pure false:=by rfl):
 ES X (.Expr (.Call (.Attribute (.Name x p) "append" apos) [e] [] cpos) pos) (p8 i m):=
 K0 (a6v (a6t PySem.F.plainAttrs_list PySem.F.slot_list_append PySem.F.type_list_append a1v hx (B2 ha U1 hs) hbase hfew hline hs hplain) hsw) fun D σ H ⟨F0,H0,F,ρ,fl,so,e,fin⟩=>by
  obtain⟨r,e1,e⟩:=bind_some e
  obtain⟨q,e2,e⟩:=bind_some e
  split at e
  ·rename_i ps eo
   split at e
   ·rename_i c
    cases e
    obtain⟨v,h1,a,xs,rfl,fa,ha',rl⟩:=so.e.at_ i _ eo
    refine⟨.ref a,h1,.inl ⟨rfl,xs,R6.of ha'⟩,F,ρ,r,so.e,e1,fun w F1 H1 o=> ?_⟩
    obtain⟨F2,o2⟩:=o.toVal e2
    have so2:=so.ext o2.x
    refine⟨a,xs,w,rfl,rfl,o.x.h _ _ ha',by rw [rl.length];exact c, ?_⟩
    exact fin σ F2 _ o2.x.f (so2.put eo h1 ((e8.mono o2.x.f _ rl).append ⟨w,[],rfl,o2.rep,rfl⟩))
   ·cases e
  ·cases e
def a17(i:Nat)(g:b4->b4->Option b4)(m:M):MS:=fun ρ=>match ρ[i]? with
 |some (some (.val x))=>(m ρ).bind fun y=>(g (.val x) y).bind fun z=>if z.nb=true then some (.nx (ρ.set i (some z))) else none
 |_=>none
theorem a2u{i:Nat}{x:Str}{e:AE}{m:M}{g:b4->b4->Option b4}{op:Operator}{pos pos':Pos}(hN:X.N.Nodup)(he:EE X e m)(ho:OpM X (inplaceOp op) g)(hi:X.N[i]?=some x:=by rfl)(hx:Loc X.env.scope x:=by exact Or.inl rfl)(hf:X.fn x=true\/X.env.scope.names.lookup x=some .local:=by first|exact .inl rfl|exact .inr rfl|assumption):
 ES X (.AugAssign (.Name x pos') op e pos) (a17 i g m):=
 K0 (b0E hN hi hx he (ti:=rM2 X.K g) ho hf) fun D σ H ⟨F0,H0,F,ρ,fl,so,e,fin⟩=>by
  unfold a17 at e
  split at e
  ·rename_i p ep
   obtain⟨y,e1,e⟩:=bind_some e
   obtain⟨z,e2,e⟩:=bind_some e
   split at e
   ·rename_i c
    cases e
    obtain⟨v,h1,rv⟩:=so.e.at_ i _ ep
    exact⟨v,h1,F,ρ,y,so.e,e1,fun u F1 H1 o=>⟨F1,.val p,y,z,o.x.fh,rv.ext o.x,o.rep,e2,fun t F2 H2 o2=>fin _ F2 H2 (o.x.f.trans o2.x.f) ((so.ext o.x).set o2 c i)⟩⟩
   ·cases e
  ·cases e
theorem X8:OpM X (inplaceOp .Add) (gI fun i j=> .int (i+j)):=a74 a8T fun _ _ _=>rfl
def a1s(i:Nat)(n:MS):MS:=fun ρ=>match ρ[i]? with
 |some (some (.ow (.lst ps)))=>n (ρ.set i (some (.val (.list ps))))
 |_=>n ρ
theorem S3.frz{K:AD}{F0 H0 F H:Hp}{σ:L2.St}{ρ:a8}{i:Nat}{ps:List PV}(s:S3 K F0 H0 F H σ ρ)(e:ρ[i]?=some (some (.own ps))):∃F',e9 F F'/\S3 K F0 H0 F' H σ (ρ.set i (some (.val (.list ps)))):=by
 obtain⟨v,h1,a,xs,rfl,fa,ha,rl⟩:=s.e.at_ i _ e
 have na:H0 a=none:=s.nw i _ a e h1
 have hi:i<ρ.length:=(Ao.mp e).1
 have up:e9 F (upd F a (.lst xs)):=Y5 fa
 have fh:e9 (upd F a (.lst xs)) H:=fun b o z=>by
  by_cases hb:b=a
  ·subst hb;rw [m7] at z;cases z;exact ha
  ·rw [f8 hb] at z;exact s.e.fh _ _ z
 refine⟨upd F a (.lst xs),up,⟨⟨s.x.f.trans up,s.x.h,fh,fun b o z y t=>by rw [f8 (j4 y na)];exact s.x.nw b o z y t,a7X s.x.nf⟩,⟨fh,by simp [s.e.len],fun j q ej=> ?_,fun j z ej=> ?_,fun j k z1 z2 c hjk e1 e2 e3 e4=> ?_⟩,fun j z c e1 e2=> ?_⟩⟩
 ·rw [List.getElem?_set] at ej
  by_cases hij:i=j
  ·subst hij
   rw [if_pos rfl,if_pos hi] at ej
   cases ej
   exact⟨.ref a,h1,a,xs,rfl,R6.of m7,e8.mono up _ rl⟩
  ·rw [if_neg hij] at ej
   obtain⟨v,h2,rr⟩:=s.e.at_ j q ej
   refine⟨v,h2, ?_⟩
   cases q with
   |val p=>exact C3.mono up p rr
   |bo z=>exact absurd ej (s.e.nb j z)
   |ow z=>
    have key:∀b,v= .ref b->b≠a:=fun b hb hab=>by subst hab;subst hb;exact s.e.ap i j _ z b hij e ej h1 h2
    cases z with
    |lst z=>
     obtain⟨b,zs,rfl,fb,hb,rz⟩:=rr
     exact⟨b,zs,rfl,by rw [f8 (key b rfl)];exact fb,hb,e8.mono up _ rz⟩
    |dct z=>
     obtain⟨b,zs,rfl,fb,hb,rz⟩:=rr
     exact⟨b,zs,rfl,by rw [f8 (key b rfl)];exact fb,hb,v7.mono up _ rz⟩
    |txt z=>
     obtain⟨b,zs,rfl,fb,hb,rz⟩:=rr
     exact⟨b,zs,rfl,by rw [f8 (key b rfl)];exact fb,hb,v7.mono up _ rz⟩
 ·rw [List.getElem?_set] at ej
  by_cases hij:i=j
  ·subst hij;rw [if_pos rfl,if_pos hi] at ej;cases ej
  ·rw [if_neg hij] at ej;exact s.e.nb j z ej
 ·have own_at:∀(j:Nat) (z:P8),(ρ.set i (some (b4.val (.list ps))))[j]?=some (some (b4.ow z))->ρ[j]?=some (some (b4.ow z)):=fun j z h=>by
   rw [List.getElem?_set] at h
   by_cases hij:i=j
   ·subst hij;rw [if_pos rfl,if_pos hi] at h;cases h
   ·rw [if_neg hij] at h;exact h
  exact s.e.ap j k z1 z2 c hjk (own_at j z1 e1) (own_at k z2 e2) e3 e4
 ·rw [List.getElem?_set] at e1
  by_cases hij:i=j
  ·subst hij;rw [if_pos rfl,if_pos hi] at e1;cases e1
  ·rw [if_neg hij] at e1;exact s.nw j z c e1 e2
theorem a1k(i:Nat){st:Stmt}{n:MS}(h:ES X st n):ES X st (a1s i n):=K0 h fun D σ H ⟨F0,H0,F,ρ,fl,so,e,fin⟩=>by
 unfold a1s at e
 split at e
 ·rename_i ps eo
  obtain⟨F',s,so'⟩:=so.frz eo
  exact⟨F0,H0,F',_,fl,so',e,fin.later s⟩
 ·exact⟨F0,H0,F,ρ,fl,so,e,fin⟩
end
def d0(P:AI)(w:AG)(K:AD)(mg:Str->Option AA)(base:Heap)(x:Str)(ps:List Str)(k:Nat)(g:List PV->Option b4):Prop:=
 ∃f fd,O1 P w K mg base CX0 k f fd ps (spP K ps.length g)/\mg x=some (.ref f)/\PySem.W.keepIn K (.ref f)=true/\a1D K fd ps []
theorem a9u{K:AD}{n:Nat}{g g':List PV->Option b4}(h:∀ps r,g' ps=some r->g ps=some r):∀vs H Q E,spP K n g' vs H Q E->spP K n g vs H Q E:=
 fun vs H Q E ⟨F,ps,r,s,rl,hl,e,k⟩=>⟨F,ps,r,s,rl,hl,h _ _ e,k⟩
theorem d0.imp{P:AI}{w:AG}{K:AD}{mg:Str->Option AA}{base:Heap}{x:Str}{ps:List Str}{k:Nat}{g g':List PV->Option b4}(d:d0 P w K mg base x ps k g)(h:∀qs r,g' qs=some r->g qs=some r):d0 P w K mg base x ps k g':=by
 obtain⟨f,fd,G,r⟩:=d
 exact⟨f,fd,G.imp (a9u h),r⟩
section
variable {X:Cx}
theorem g9{k k':Nat}{ps:List Str}{g:List PV->Option b4}{x:Str}{p pos:Pos}{e:AE}{es:List AE}{m:MA}
 (d:d0 X.prog X.w X.K X.mg X.base x ps k g) (hr:J5 k' X.A) (hk:k<=k') (hg:Gl X x) (hn:∀ρ qs,m ρ=some qs->qs.length=ps.length) (ha:EA X (e::es) m)
 (hdb:(x==("__debug__":Str))=false:=by decide) (he:AL (e::es) X.env=(false,eval e X.env)::AL es X.env:=by rfl) (hpl:(backTo pos (AL es X.env)).any (·.1)=false:=by rfl):
 EE X (.Call (.Name x p) (e::es) [] pos) (j1 g m):=by
 obtain⟨f,fd,G,h1,h2,h3⟩:=d
 exact a8K G (hr.mono hk) hg h1 h2 h3 hn ha hdb he hpl
end
def a5h(K:AD):Sp:=fun vs H Q _=>∃(a:AB) (ns:List Int),vs=[.ref a]/\R6 K H a (ns.map V.int)/\ns.length<=63/\∀H',Q (.bl true) H'
theorem a3G{K:AD}{H:Hp}:∀ns:List Int,e8 K H (ns.map PyData.int) (ns.map V.int)
 |[]=>rfl
 |n::ns=>⟨.int n,_,rfl,rfl,a3G ns⟩
theorem a8X{K:AD}{g:List PV->Option b4}(h:∀ns:List Int,ns.length<=63->g [.list (ns.map .int)]=some (.val (.bool true))):∀vs H Q E,a5h K vs H Q E->spP K 1 g vs H Q E:=
 fun vs H Q E ⟨a,ns,e,hs,hl,k⟩=>by
  subst e
  exact⟨H,[.list (ns.map .int)],_,PU.e9.refl H,⟨.ref a,[],rfl,⟨a,_,rfl,hs,a3G ns⟩,rfl⟩,rfl,h ns hl,fun v F' H' o=>by
   have:v= .bl true:=o.rep
   subst this
   exact k H'⟩
theorem b1T{l:PySem.W.OpenLaw}{q:AI}{loose:List Str}{XP:(Str->Option AA)->Heap->Prop}{YP:AG->Heap->Prop}{d:DefRec}{K:Params->AD}{x:Str}{k:Nat}(hk:k<=40)(hn:l.most=some 63)(hdf:d.params.defaults=[])
 (hY:∀(w:AG) (h:Heap),YP w h->(K w.params).In h)
 (F:∀(w:AG) (mg:Str->Option AA) (fa:AB) (h:Heap),(K w.params).In h->h.Ns mainGlobals mg->mg d.name=some (.ref fa)->
  ∃fd:FuncData,(∀(s:AC) (u:AA),BindsTo s fd ⟨[u],[]⟩ [(x,u)])/\∀base:Heap,(K w.params).In base->base.Ns mainGlobals mg->O1 l.prog w (K w.params) mg base CX0 k fa fd [x] (a5h (K w.params))):
 PySem.W.WalkO q loose XP YP l.row.toRowW d [] (fun f vs=>PySem.call f vs):=
 L2.a9A (n:=63) (k:=40) (x:=x) (CX:=fun _=>CX0) (sp:=fun w=>a5h (K w.params)) hn (by decide) hdf ⟨rfl,by decide,by decide⟩ hY (fun w mg fa h a b c=>let ⟨fd,h1,h2⟩:=F w mg fa h a b c;⟨fd,h1,fun base x y=>(h2 base x y).mono hk⟩) (fun _ _ a ns hl _ hS=>⟨a,ns,rfl,hS,hl,fun _=>rfl⟩) fun _ _ _ _ _ z=>z
def a97(x y:b4):Option b4:=gIc a3J (fun i j=> .int (i*j)) x y
theorem a75{X:Cx}:OpM X (binaryOp .Mult) a97:=a88
theorem y0(i j:Int):A1 (.val (.int i)) (.val (.int j))=some (.val (.int (i+j))):=Eq.trans rfl rfl
theorem a7F{i j:Str}(h:i.length+j.length<=AJ):A1 (.val (.str i)) (.val (.str j))=some (.val (.str (i++j))):=by simp [A1,h]
theorem a8Q{ps qs:List PV}(h:ps.length+qs.length<=AJ):A1 (.own ps) (.own qs)=some (.own (ps++qs)):=by simp [A1,b4.mine,h]
theorem a0y(f:Int->Int->PV)(i j:Int):gI f (.val (.int i)) (.val (.int j))=some (.val (f i j)):=Eq.trans rfl rfl
theorem a3W{C:Int->Int->Prop}[∀i j,Decidable (C i j)](f:Int->Int->PV){i j:Int}(h:C i j):gIc C f (.val (.int i)) (.val (.int j))=some (.val (f i j)):=by
 show(if okC C i j=true then some (b4.val (f i j)) else none)=_
 rw [if_pos (a0c.mpr h)]
theorem a98{i j:Int}(h: -18446744073709551616<i/\i<18446744073709551616):a97 (.val (.int i)) (.val (.int j))=some (.val (.int (i*j))):=a3W _ (.inl (by lia))
theorem G4{f:Int->Int->PV}{i j:Int}(h:0<j):gIc (fun _ j=>0<j) f (.val (.int i)) (.val (.int j))=some (.val (f i j)):=a3W _ h
theorem Q7{f:Int->Int->PV}{i j:Int}(h:0<j/\j<1073741824):gIc a0N f (.val (.int i)) (.val (.int j))=some (.val (f i j)):=a3W _ h
theorem a95{x y:b4}(h:l4 x.rd 50=true/\l4 y.rd 50=true):gEq x y=some (.val (.bool (PyData.eqv x.rd y.rd))):=by simp [gEq,h]
theorem a5G{x y:b4}(h:l4 x.rd 50=true/\l4 y.rd 50=true):gNe x y=some (.val (.bool (!PyData.eqv x.rd y.rd))):=by simp [gNe,h]
theorem Q8(ps:List PV):M6 (.val (.list ps))=some (.val (.int ps.length)):=Eq.trans rfl rfl
theorem a2y{ps:List PV}{i:Int}{p:PV}(h:L2.atI ps i=some p):k0 (.val (.list ps)) (.val (.int i))=some (.val p):=by simp [k0,b4.rd,P8.rd,PyData.items?,h]
theorem a6m{ps:List PV}{i:Int}{p:PV}(h:L2.atI ps i=some p):k0 (.val (.tuple ps)) (.val (.int i))=some (.val p):=by simp [k0,b4.rd,P8.rd,PyData.items?,h]
theorem X0(p:PV)(ps:List PV):k0 (.val (.tuple (p::ps))) (.val (.int 0))=some (.val p):=by
 refine a6m ?_
 have h:(0:Int)<(((p::ps).length:Nat):Int):=by simp only [AS];lia
 unfold L2.atI L2.ixN
 rw [if_pos (by decide),if_pos h]
 rfl
theorem X1(p q:PV)(ps:List PV):k0 (.val (.tuple (p::q::ps))) (.val (.int 1))=some (.val q):=by
 refine a6m ?_
 have h:(1:Int)<(((p::q::ps).length:Nat):Int):=by simp only [AS];lia
 unfold L2.atI L2.ixN
 rw [if_pos (by decide),if_pos h]
 rfl
theorem c6(g:b4->b4->Option b4)(ma mb:M)(ρ:a8):m2 g ma mb ρ=(ma ρ).bind fun x=>(mb ρ).bind fun y=>g x y:=Eq.trans rfl rfl
theorem t6(g:b4->Option b4)(ma:M)(ρ:a8):m1 g ma ρ=(ma ρ).bind g:=Eq.trans rfl rfl
theorem c8(p:PV)(ρ:a8):mC p ρ=some (.val p):=Eq.trans rfl rfl
theorem b5(p:PV)(ρ:a8):a7 0 (some (.val p)::ρ)=some (.val p):=Eq.trans rfl rfl
theorem a6r(p:List PV)(ρ:a8):a7 0 (some (.own p)::ρ)=some (.bor p):=Eq.trans rfl rfl
theorem c9(n:Nat)(r:Option b4)(ρ:a8):a7 (n+1) (r::ρ)=a7 n ρ:=Eq.trans rfl rfl
theorem c4(ρ:a8):d3 ρ=some []:=Eq.trans rfl rfl
theorem b9(m:M)(r:MA)(ρ:a8):a6 m r ρ=((m ρ).bind b4.toVal).bind fun p=>(r ρ).bind fun ps=>some (p::ps):=Eq.trans rfl rfl
theorem b8(p:PV):(b4.val p).toVal=some p:=Eq.trans rfl rfl
theorem a7c(p:List PV):(b4.own p).toVal=some (.list p):=Eq.trans rfl rfl
theorem D1(m:MA)(ρ:a8):X7 m ρ=(m ρ).bind fun ps=>if ps.length<=AJ then some (.val (.tuple ps)) else none:=Eq.trans rfl rfl
theorem R1(m:MA)(ρ:a8):a34 m ρ=(m ρ).bind fun ps=>if ps.length<=AJ then some (.own ps) else none:=Eq.trans rfl rfl
theorem d8(g:List PV->Option b4)(m:MA)(ρ:a8):j1 g m ρ=(m ρ).bind g:=Eq.trans rfl rfl
def a9Y(i:Nat)(ρ:a8)(r:b4):Option Fl:=if r.nb=true then some (.nx (ρ.set i (some r))) else none
theorem i7(i:Nat)(m:M)(ρ:a8):v9 i m ρ=(m ρ).bind (a9Y i ρ):=Eq.trans rfl rfl
theorem p9(i:Nat)(ρ:a8)(p:PV):a9Y i ρ (.val p)=some (.nx (ρ.set i (some (.val p)))):=Eq.trans rfl rfl
theorem a0u(i:Nat)(ρ:a8)(p:List PV):a9Y i ρ (.own p)=some (.nx (ρ.set i (some (.own p)))):=Eq.trans rfl rfl
def b1n(r:b4):Option Fl:=if r.nb=true then some (.rt r) else none
theorem i8(m:M)(ρ:a8):o0 m ρ=(m ρ).bind b1n:=Eq.trans rfl rfl
theorem m8(p:PV):b1n (.val p)=some (.rt (.val p)):=Eq.trans rfl rfl
def b0I(n:MS):Fl->Option Fl
 | .nx ρ=>n ρ
 |f=>some f
theorem d6(m n:MS)(ρ:a8):j3 m n ρ=(m ρ).bind (b0I n):=Eq.trans rfl rfl
theorem g0(n:MS)(ρ:a8):b0I n (.nx ρ)=n ρ:=Eq.trans rfl rfl
theorem a0e(n:MS)(r:b4):b0I n (.rt r)=some (.rt r):=Eq.trans rfl rfl
def ifK(m n:MS)(ρ:a8)(b:Bool):Option Fl:=if b=true then m ρ else n ρ
theorem d5(c:MT)(m n:MS)(ρ:a8):w4 c m n ρ=(c ρ).bind (ifK m n ρ):=Eq.trans rfl rfl
theorem G9(m n:MS)(ρ:a8):ifK m n ρ true=m ρ:=Eq.trans rfl rfl
theorem u8(m n:MS)(ρ:a8):ifK m n ρ false=n ρ:=Eq.trans rfl rfl
theorem j7(ρ:a8):n8 ρ=some (.nx ρ):=Eq.trans rfl rfl
def b1o:Fl->Option b4
 | .rt r=>some r
 | .nx _=>some (.val .none)
 |_=>none
theorem f7(n:Nat)(b:MS)(ps:List PV):i4 n b ps=(b (ps.map (fun p=>some (b4.val p))++AN n none)).bind b1o:=Eq.trans rfl rfl
theorem i9(r:b4):b1o (.rt r)=some r:=Eq.trans rfl rfl
theorem N5(m:M)(ρ:a8):mtV m ρ=(m ρ).bind tru:=Eq.trans rfl rfl
theorem d9(m:M)(ρ:a8):J3 m ρ=(m ρ).bind a5Z:=Eq.trans rfl rfl
theorem g6(b:Bool):a5Z (.val (.bool b))=some b:=Eq.trans rfl rfl
theorem a1Y(b:Bool):tru (.val (.bool b))=some b:=Eq.trans rfl rfl
theorem A0(c:MT)(ρ:a8):N4 c ρ=(c ρ).map not:=Eq.trans rfl rfl
def orK(d:MT)(ρ:a8)(b:Bool):Option Bool:=if b=true then some true else d ρ
def a9X(d:MT)(ρ:a8)(b:Bool):Option Bool:=if b=true then d ρ else some false
theorem R3(c d:MT)(ρ:a8):a0i c d ρ=(c ρ).bind (orK d ρ):=Eq.trans rfl rfl
theorem z9(c d:MT)(ρ:a8):a0W c d ρ=(c ρ).bind (a9X d ρ):=Eq.trans rfl rfl
theorem a3D(d:MT)(ρ:a8):orK d ρ false=d ρ:=Eq.trans rfl rfl
theorem a1e(d:MT)(ρ:a8):a9X d ρ true=d ρ:=Eq.trans rfl rfl
theorem a3N(d:MT)(ρ:a8):a9X d ρ false=some false:=Eq.trans rfl rfl
theorem a2x(T:String)(p:PV):a3e T (.val p)=bif a5L p then none else some (.val (.bool (M2 T p))):=Eq.trans rfl rfl
theorem a7O(i:Int):a5L (.int i)=false:=Eq.trans rfl rfl
theorem a4U(i:Str):a5L (.str i)=false:=Eq.trans rfl rfl
theorem a7P(ps:List PV):a5L (.list ps)=false:=Eq.trans rfl rfl
theorem a7p{α:Type}(a b:α):(bif false then a else b)=b:=Eq.trans rfl rfl
theorem a5Y(p:PV):(b4.val p).rd=p:=Eq.trans rfl rfl
def b1v(is:List Nat)(ρ:a8):b4->Option Fl
 | .val (.tuple ps)=>if ps.length=is.length then some (.nx (setAll ρ is (ps.map .val))) else none
 |_=>none
theorem a7W(is:List Nat)(m:M)(ρ:a8):b0j is m ρ=(m ρ).bind (b1v is ρ):=Eq.trans rfl rfl
theorem b0S(i j:Nat)(ρ:a8)(p q:PV):b1v [i,j] ρ (.val (.tuple [p,q]))=some (.nx ((ρ.set i (some (.val p))).set j (some (.val q)))):=Eq.trans rfl rfl
theorem I0(it:MI)(tg:PV->a8->Option a8)(body:MS)(ρ:a8):a2J it tg body ρ=(it ρ).bind fun ps=>J8 body tg ps ρ:=Eq.trans rfl rfl
def a9N:List PV->Option (List PV)
 |[.int j]=>if inR j=true then some (Y1 0 j) else none
 |_=>none
theorem a1u(m:MA)(ρ:a8):a0q m ρ=(m ρ).bind a9N:=Eq.trans rfl rfl
theorem a4j{j:Int}(h: -4611686018427387904<=j/\j<4611686018427387904):a9N [.int j]=some (Y1 0 j):=by
 show(if inR j=true then some (Y1 0 j) else none)=_
 rw [if_pos (a3Z.mpr (by lia))]
theorem a7I(i j:Int):gNe (.val (.int i)) (.val (.int j))=some (.val (.bool (!(i==j)))):=Eq.trans rfl rfl
theorem a1N(i j:Int):gEq (.val (.int i)) (.val (.int j))=some (.val (.bool (i==j))):=Eq.trans rfl rfl
theorem a7J{p:PV}(h:l4 p 50=true):gNe (.val p) (.val p)=some (.val (.bool false)):=by
 rw [a5G (x:= .val p) (y:= .val p) ⟨h,h⟩,a5Y,a4I p 50 h]
 rfl
theorem sz(n:Nat):(n<=AJ)=(n<=16777216):=by rw [sizeLine_eq]
end PU
namespace L2
open PySem PySem.Spec PyProof.Rows
theorem u9:∀(names:List (Str×NameKind)) (n:Nat) (acc:List (Str×AB)),cellsFrom n names acc=cellsFrom n names []++acc
 |[],_,_=>rfl
 |(x,k)::r,n,acc=>by
  unfold cellsFrom
  split
  ·rw [u9 r (n+1) ((x,n)::acc),u9 r (n+1) [(x,n)],List.append_assoc];rfl
  ·exact u9 r n acc
theorem C6:∀{names:List (Str×NameKind)} {n:Nat} {x:Str} {c:AB},(x,c)∈cellsFrom n names []->n<=c/\(x,NameKind.cell)∈names
 |[],_,_,_,h=>nomatch h
 |(y,k)::r,n,x,c,h=>by
  unfold cellsFrom at h
  split at h
  ·rename_i hk
   rw [u9] at h
   rcases BC.mp h with h|h
   ·obtain⟨a,b⟩:=C6 h
    exact⟨by lia,Ah _ b⟩
   ·have e:(x,c)=(y,n):=by simpa using h
    cases e
    have:k= .cell:=by simpa using hk
    subst this
    exact⟨AR _,Aj⟩
  ·obtain⟨a,b⟩:=C6 h
   exact⟨a,Ah _ b⟩
theorem a2G{α:Type}:∀{l:List (Str×α)} {x:Str},(∀c,(x,c)∉l)->l.lookup x=none:=fun {l x} h=>by
 cases e:l.lookup x with
 |none=>rfl
 |some c=>exact absurd (PySem.mem_of_lookup e) (h c)
theorem a0p{α:Type}:∀{l r:List (Str×α)} {x:Str},l.lookup x=none->(l++r).lookup x=r.lookup x
 |[],_,_,_=>rfl
 |(y,v)::l,r,x,h=>by
  rw [Aa,List.lookup_cons]
  rw [List.lookup_cons] at h
  cases e:x==y with
  |true=>rw [e] at h;cases h
  |false=>rw [e] at h;exact a0p h
def K4(cells:List (Str×AB)):List (Str×NameKind)->List (Str×AB)->List (Str×AB)
 |[],acc=>acc
 |(x,k)::r,acc=>if k== .free then K4 cells r ((x,(cells.lookup x).getD 0)::acc) else K4 cells r acc
theorem a1f{cells:List (Str×AB)}:∀{names:List (Str×NameKind)} {acc:List (Str×AB)} {x:Str} {c:AB},(x,c)∈K4 cells names acc->(x,c)∈acc\/((x,NameKind.free)∈names/\c=(cells.lookup x).getD 0)
 |[],_,_,_,h=> .inl h
 |(y,k)::r,acc,x,c,h=>by
  unfold K4 at h
  split at h
  ·rename_i hk
   rcases a1f h with h|⟨h1,h2⟩
   ·rcases Aq.mp h with e|h
    ·cases e
     have:k= .free:=by simpa using hk
     subst this
     exact .inr ⟨Aj,rfl⟩
    ·exact .inl h
   ·exact .inr ⟨Ah _ h1,h2⟩
  ·rcases a1f h with h|⟨h1,h2⟩
   ·exact .inl h
   ·exact .inr ⟨Ah _ h1,h2⟩
theorem W5{cells:List (Str×AB)}:∀{names:List (Str×NameKind)} {acc:List (Str×AB)} {x:Str},x∉names.map (·.1)->(K4 cells names acc).lookup x=acc.lookup x
 |[],_,_,_=>rfl
 |(y,k)::r,acc,x,h=>by
  have h':¬(x=y)/\x∉r.map (·.1):=by simpa using h
  unfold K4
  split
  ·rw [W5 h'.2,List.lookup_cons]
   have e:(x==y)=false:=by simpa using h'.1
   rw [e]
  ·exact W5 h'.2
theorem T2{cells:List (Str×AB)}:∀{names:List (Str×NameKind)} {acc:List (Str×AB)} {x:Str},(names.map (·.1)).Nodup->names.lookup x=some .free->(K4 cells names acc).lookup x=some ((cells.lookup x).getD 0)
 |[],_,_,_,h=>by cases h
 |(y,k)::r,acc,x,nd,h=>by
  have nd':y∉r.map (·.1)/\(r.map (·.1)).Nodup:=List.nodup_cons.mp nd
  rw [List.lookup_cons] at h
  unfold K4
  cases e:x==y with
  |true=>
   rw [e] at h
   have hk:k= .free:=by simpa using h
   subst hk
   have exy:x=y:=by simpa using e
   subst exy
   rw [if_pos (show(NameKind.free==NameKind.free)=true from rfl),W5 nd'.1,List.lookup_cons,e]
  |false=>
   rw [e] at h
   split
   ·exact T2 nd'.2 h
   ·exact T2 nd'.2 h
theorem O3{env:Env}(f:Str×NameKind->List (Str×AB)->Sem (ForInStep (List (Str×AB))))(hf:∀x k cs,f (x,k) cs=if k== .free then(do let c<-cellOf env x;pure (.yield ((x,c)::cs))) else pure (.yield cs)):
 ∀(names:List (Str×NameKind)) (acc:List (Str×AB)),(∀x∈names,x.2= .free->(env.cells.lookup x.1).isSome=true)->forIn names acc f=pure (K4 env.cells names acc)
 |[],acc,_=>rfl
 |(x,k)::r,acc,h=>by
  rw [List.forIn_cons,hf]
  unfold K4
  have hr:=fun y hy=>h y (Ah _ hy)
  split
  ·rename_i hk
   have:=h (x,k) Aj (by simpa using hk)
   obtain⟨c,hc⟩:=Option.isSome_iff_exists.mp this
   unfold cellOf
   rw [hc]
   show forIn r ((x,c)::acc) f=_
   exact O3 f hf r _ hr
  ·exact O3 f hf r acc hr
theorem a3d{scope:Scope}{env:Env}(h:∀x∈scope.names,x.2= .free->(env.cells.lookup x.1).isSome=true):closureFor scope env=pure (K4 env.cells scope.names []):=by
 unfold closureFor
 have e:=O3 (env:=env) (fun(x:Str×NameKind) (cs:List (Str×AB))=>if x.2== .free then(do let c<-cellOf env x.1;pure (.yield ((x.1,c)::cs))) else pure (.yield cs)) (fun _ _ _=>rfl) scope.names [] h
 show(forIn scope.names [] _>>=fun r=>pure r)=_
 refine Eq.trans (congrArg (· >>=fun r=>pure r) (Eq.trans (congrArg (forIn scope.names []) ?_) e)) rfl
 funext x cs
 cases x with
 |mk n k=>cases k<;>rfl
theorem Y0{env:Env}{x:Str}:∀{names:List (Str×NameKind)},(names.map fun(p:Str×NameKind)=>if(p.2==NameKind.free && env.scope.kind== .function && env.kindOf p.1==some .cell) then(p.1,NameKind.cell) else(p.1,p.2)).lookup x
 =(names.lookup x).map fun k=>if(k==NameKind.free && env.scope.kind== .function && env.kindOf x==some .cell) then NameKind.cell else k
 |[]=>rfl
 |(n,k)::r=>by
  rw [AM]
  have ih:= @Y0 env x r
  show List.lookup x ((if(k==NameKind.free && env.scope.kind== .function && env.kindOf n==some .cell)=true then(n,NameKind.cell) else(n,k))::_)=_
  cases hx:x==n with
  |true=>
   have e:x=n:=by simpa using hx
   subst e
   by_cases c:(k==NameKind.free && env.scope.kind== .function && env.kindOf x==some .cell)=true
   ·rw [if_pos c,List.lookup_cons,hx,List.lookup_cons,hx];exact congrArg some (if_pos c).symm
   ·rw [if_neg c,List.lookup_cons,hx,List.lookup_cons,hx];exact congrArg some (if_neg c).symm
  |false=>
   by_cases c:(k==NameKind.free && env.scope.kind== .function && env.kindOf n==some .cell)=true
   ·rw [if_pos c,List.lookup_cons,hx,List.lookup_cons,hx];exact ih
   ·rw [if_neg c,List.lookup_cons,hx,List.lookup_cons,hx];exact ih
def B7(scope:Scope)(C:AB)(env:Env):Env:=
 {scope:=relabel scope env,locals:=C,globals:=env.globals,cells:=cellsFrom (C+1) scope.names (K4 env.cells scope.names []),qual:=env.qual,func:=none,code:=env.code,frame:=env.frame,builtins:=env.builtins}
def hid(ys:List Str)(x:Str):Str:=if ys.contains x=true then AQ "0"++x else x
def L6(X:Cx)(N0:List Str)(scope:Scope)(ys:List Str)(C:AB)(fp:List AB)(pins:List (AB×Obj))(s₃:AC)(H₃:Hp):Cx:=
 {X with N:=N0++ys,s₀:=s₃,H₀:=H₃,env:=B7 scope C X.env,outer:=X.stack,ex:=fp,fn:=fun x=>scope.names.lookup x==some .cell,pn:=X.pn++pins}
theorem L7{scope:Scope}{C:AB}{env:Env}{x:Str}:(B7 scope C env).kindOf x=(scope.names.lookup x).map fun k=>if(k==NameKind.free && env.scope.kind== .function && env.kindOf x==some .cell) then NameKind.cell else k:=
 Y0
structure P7(N N0 ys:List Str)(env:Env)(scope:Scope):Prop where
 eq:N0=N.map (hid ys)
 kind:scope.kind= .function
 nd:(scope.names.map (·.1)).Nodup
 fr:∀x∈scope.names,x.2= .free->env.kindOf x.1=some .cell\/env.kindOf x.1=some .free
 ou:∀x∈N,(ys.contains x=true->scope.names.lookup (hid ys x)=none)/\(ys.contains x=false->scope.names.lookup x=none\/scope.names.lookup x=some .free\/scope.names.lookup x=some .globalImplicit)
theorem t5{α:Type}:∀{l:List (Str×α)} {x:Str} {v:α},(l.map (·.1)).Nodup->(x,v)∈l->l.lookup x=some v
 |[],_,_,_,h=>nomatch h
 |(y,w)::r,x,v,nd,h=>by
  have nd':y∉r.map (·.1)/\(r.map (·.1)).Nodup:=List.nodup_cons.mp nd
  rw [List.lookup_cons]
  rcases Aq.mp h with e|h
  ·cases e;simp
  ·have:x≠y:=fun e=>nd'.1 (by rw [<-e];exact List.mem_map.mpr ⟨_,h,rfl⟩)
   have e:(x==y)=false:=by simpa using this
   rw [e]
   exact t5 nd'.2 h
section
variable {M:Model}{A:AH}{E:AA->AC->Prop}{s:AC}
theorem a0j{scope:Scope}{globals:AB}{cl:List (Str×AB)}{qual:Str}{env:Env}{builtins:AB}{Q:Env->AC->Prop}
 (h:Q (newEnv scope s.heap.objs.size globals (cellsFrom (s.heap.objs.size+1) scope.names cl) qual none .none (some env) builtins) {s with heap:=pushCells (s.heap.push {cls:= .type "dict",data:= .dict #[]}) scope.names}):
 AK M A (newFunctionEnv scope globals cl [] qual none .none (some env) builtins) Q E s:=by
 simp only [newFunctionEnv,Option.isSome_some,if_true]
 refine AO (wpAny_alloc ?_)
 refine AO (wpAny_layCells _ (fun name kind cells=>by cases hkc:kind==NameKind.cell<;>simp [hkc]) _ _ _ _ ?_)
 rw [show({s with heap:=s.heap.push {cls:= .type "dict",data:= .dict #[]}}:AC).heap.objs.size=s.heap.objs.size+1 from Heap.size_push ..]
 exact AO (AW (AW h))
end
section
variable {prog:AI}{w:AG}{A:AH}{R:Result->AC->Prop}{s:AC}
theorem a0f{elt target iter:AE}{ifs:List AE}{scope:Scope}{pos:Pos}{it acc:AA}{env:Env}(I:Nat->AC->Prop)
 (turn:∀n s,I n s->AK (model prog w) A (pyNext it) (fun r s₁=>match r with
  |none=>R (.ok .next) s₁
  |some v=>AK (model prog w) A (letOwnedTupleGo target it v) (fun _ s₁'=>AK (model prog w) A (assign target env v) (fun _ s₂=>
   AK (model prog w) A (forIn ifs true fun c r=>if r=true then do let ok<-isTrue c env (eval c env);pure (ForInStep.yield ok) else pure (ForInStep.yield r)) (fun ok s₃=>
    if ok=true then AK (model prog w) A (eval elt env) (fun x s₄=>
     AK (model prog w) A (call (.builtin "list.append") [acc,x]) (fun _ s₅=>∃m,m<n/\I m s₅) (fun _ _=>False) s₄) (fun _ _=>False) s₃
    else ∃m,m<n/\I m s₃) (fun _ _=>False) s₂) (fun _ _=>False) s₁') (fun _ _=>False) s₁) (fun _ _=>False) s)
 (n:Nat) (h:I n s):
 codeAny (model prog w) A (.compLoop (.ListComp elt [⟨target,iter,ifs,0⟩] scope pos) 0 it acc env) R s:=by
 refine codeAny_loop rfl I (fun n s hI=> ?_) n h
 show AK _ A ((compTurn (.ListComp elt [⟨target,iter,ifs,0⟩] scope pos) 0 it acc env).onRaise (fun x=>do noteFrame x env;theTreesLotGoes x)) _ _ s
 refine wpAny_noted ?_
 rw [compTurn_list]
 refine AO (wpAny_standAt (AO (wpAny_mono (turn n s hI) (fun r s₁ h₁=> ?_) fun _ _ h'=>h'.elim)))
 cases r with
 |none=>exact AW h₁
 |some v=>
  refine AO (wpAny_mono h₁ (fun _ s₁' h₁'=> ?_) fun _ _ h'=>h'.elim)
  refine AO (wpAny_mono h₁' (fun _ s₂ h₂=>AO (wpAny_mono h₂ (fun ok s₃ h₃=> ?_) fun _ _ h'=>h'.elim)) fun _ _ h'=>h'.elim)
  cases ok with
  |false=>exact AW ⟨rfl,h₃⟩
  |true=>
   exact AO (AO (wpAny_mono h₃ (fun x s₄ h₄=>AO (wpAny_mono h₄ (fun _ s₅ h₅=>AW (AW ⟨rfl,h₅⟩)) fun _ _ h'=>h'.elim)) fun _ _ h'=>h'.elim))
end
def PCs(X:Cx)(ifs:List AE)(t:TT):Prop:=
 ∀(pins:List (AB×Obj)) (s:AC) (σ:St) (H:Hp) (Q:Bool->Hp->Prop),e7 X pins σ H s->t σ H Q->
  AK (model X.prog X.w) X.A (forIn ifs true fun c r=>if r=true then do let ok<-isTrue c X.env (eval c X.env);pure (ForInStep.yield ok) else pure (ForInStep.yield r)) (TP X pins σ Q) X.xe s
def b1u:TT:=fun _ H Q=>Q true H
theorem a89{X:Cx}:PCs X [] b1u:=fun pins s σ H Q I h=>wpAny_tests_nil ⟨H,I,h⟩
def a8u(wi:TI)(g:TG)(tc:TT)(te:TE)(k:Nat):TE:=fun σ H Q=>wi σ H fun J H1=>∀D,H1 D=none->∃W:Nat->Nat->List V->Hp->Prop,(∃m,W 0 m [] (upd H1 D (.lst [])))/\∀i m xs H2,W i m xs H2->H2 D=some (.lst xs)->
 (J.stop i H2/\Q (.ref D) H2)\/(J.go i H2/\∀x H3,J.yld i H2 x H3->g x (σ++AN k none) H3 fun σ4 H4=>(∀(j:Nat) v,(σ++AN k none)[j]?=some (some v)->σ4[j]?=some (some v))/\tc σ4 H4 fun b H5=>if b=true then te σ4 H5 fun v H6=>H6 D=some (.lst xs)/\xs.length<AJ/\∃m',m'<m/\W (i+1) m' (xs++[v]) (upd H6 D (.lst (xs++[v])))
  else H5 D=some (.lst xs)/\∃m',m'<m/\W (i+1) m' xs H5)
section
variable {X:Cx}{elt iter tg:AE}{ifs:List AE}{scope:Scope}{N0 ys:List Str}{wi:TI}{g:TG}{tc:TT}{te:TE}{pos:Pos}
theorem T7{pins:List (AB×Obj)}{σ:St}{H:Hp}{s:AC}(I:e7 X pins σ H s)(S:P7 X.N N0 ys X.env scope){x:Str}(h:(x,NameKind.free)∈scope.names):∃c,X.env.cells.lookup x=some c:=I.ok.has x (S.fr _ h rfl)
theorem a5B{pins:List (AB×Obj)}{σ:St}{H:Hp}{s:AC}{fp:List AB}(S:P7 X.N N0 ys X.env scope)(I:e7 X pins σ H s)(hf:∀b∈fp,a3L X pins H b)(ho:∀b∈fp,∃o,s.heap.get? b=some o/\∀v,o.data≠.cell v):
 e7 (L6 X N0 scope ys s.heap.objs.size fp pins s H) [] (σ++AN ys.length none) H {s with heap:=pushCells (s.heap.push {cls:= .type "dict",data:= .dict #[]}) scope.names}:=by
 have up:∀b o,s.heap.get? b=some o->(pushCells (s.heap.push {cls:= .type "dict",data:= .dict #[]}) scope.names).get? b=some o:=fun b o e=>pushCells_keeps _ _ b o (Ak _ e)
 have okc:=cellsFrom_ok scope.names (s.heap.push {cls:= .type "dict",data:= .dict #[]}) (s.heap.objs.size+1) [] ⟨fun _ _ hm=>(nomatch hm),List.Pairwise.nil⟩ (by rw [Heap.size_push];exact AR _)
 rw [Heap.size_push] at okc
 have cel:∀x c,(B7 scope s.heap.objs.size X.env).cells.lookup x=some c->((x,c)∈cellsFrom (s.heap.objs.size+1) scope.names []/\(x,NameKind.cell)∈scope.names/\s.heap.objs.size<c)\/(X.env.cells.lookup x=some c/\(x,NameKind.free)∈scope.names):=fun x c e=>by
  have m:=PySem.mem_of_lookup e
  have m:(x,c)∈cellsFrom (s.heap.objs.size+1) scope.names (K4 X.env.cells scope.names []):=m
  rw [u9] at m
  rcases BC.mp m with m|m
  ·obtain⟨h1,h2⟩:=C6 m
   exact .inl ⟨m,h2,h1⟩
  ·rcases a1f m with m|⟨m,e⟩
   ·exact nomatch m
   ·obtain⟨c',hc'⟩:=T7 I S m
    rw [hc'] at e
    exact .inr ⟨by rw [hc',e];rfl,m⟩
 have celLt:∀x c,X.env.cells.lookup x=some c->c<s.heap.objs.size:=fun x c e=>let ⟨_,h⟩:=I.cell x c e;h.lt
 have fpLt:∀b∈fp,b<s.heap.objs.size:=fun b hb=>let ⟨_,e,_⟩:=ho b hb;AZ e
 have cellNo:∀x,(x,NameKind.cell)∉scope.names->(cellsFrom (s.heap.objs.size+1) scope.names []).lookup x=none:=fun x hx=>a2G fun c m=>hx (C6 m).2
 have look:∀x,(x,NameKind.free)∈scope.names->(B7 scope s.heap.objs.size X.env).cells.lookup x=X.env.cells.lookup x:=fun x m=>by
  have hl:=t5 S.nd m
  have hn:(x,NameKind.cell)∉scope.names:=fun z=>by
   have:=t5 S.nd z
   rw [hl] at this;cases this
  show(cellsFrom (s.heap.objs.size+1) scope.names (K4 X.env.cells scope.names [])).lookup x=_
  rw [u9,a0p (cellNo x hn),T2 S.nd hl]
  obtain⟨c,hc⟩:=T7 I S m
  rw [hc];rfl
 have kindF:∀x,scope.names.lookup x=some .free->X.env.kindOf x=some .cell\/X.env.kindOf x=some .free:=fun x h=>S.fr _ (PySem.mem_of_lookup h) rfl
 refine⟨⟨I.mod,S.kind,I.ok.glob,I.ok.blt,AR _,fun x y c h1 h2=> ?_,fun x h=> ?_,fun x c h1 h2=> ?_,I.ok.hd,I.ok.frames,.inl rfl,fun b hb=> ?_,I.bs,Nat.le_trans I.ok.bsz I.sz,fun b o e hb=> ?_,fun b hb hz=> ?_,I.stack,I.stkFree⟩,
  rfl,I.bare,Un.kept up,⟨fun _=>none, ?_,fun i x v h1 h2 h3=> ?_⟩,fun x c e=> ?_,I.hok.fresh (AR _),fun x c e=> ?_,fun p hp=> ?_,I.hok.kept up, ?_⟩
 ·rcases cel x c h1 with⟨a1,b1,c1⟩|⟨a1,b1⟩
  ·rcases cel y c h2 with⟨a2,b2,c2⟩|⟨a2,b2⟩
   ·exact name_of_addr okc.apart a1 a2
   ·exact absurd (Nat.lt_trans c1 (celLt y c a2)) (Nat.lt_irrefl _)
  ·rcases cel y c h2 with⟨a2,b2,c2⟩|⟨a2,b2⟩
   ·exact absurd (Nat.lt_trans c2 (celLt x c a1)) (Nat.lt_irrefl _)
   ·exact I.ok.inj x y c a1 a2
 ·have hk:(B7 scope s.heap.objs.size X.env).kindOf x=some .cell\/(B7 scope s.heap.objs.size X.env).kindOf x=some .free:=h
  rw [L7] at hk
  cases e:scope.names.lookup x with
  |none=>rw [e] at hk;rcases hk with z|z<;>cases z
  |some k=>
   rw [e] at hk
   have hk':k= .cell\/k= .free:=by
    by_cases c:(k==NameKind.free && X.env.scope.kind== .function && X.env.kindOf x==some .cell)=true
    ·have:(k==NameKind.free)=true:=by
      rw [Bool.and_eq_true,Bool.and_eq_true] at c;exact c.1.1
     exact .inr (by simpa using this)
    ·simp only [Ap] at hk
     rw [if_neg c] at hk
     rcases hk with z|z
     ·cases z;exact .inl rfl
     ·cases z;exact .inr rfl
   rcases hk' with rfl|rfl
   ·have q:=PySem.W.cellsFrom_some (x:=x) scope.names (s.heap.objs.size+1) (K4 X.env.cells scope.names []) (.inl e)
    exact Option.isSome_iff_exists.mp q
   ·obtain⟨c,hc⟩:=T7 I S (PySem.mem_of_lookup e)
    exact⟨c,by show(B7 scope s.heap.objs.size X.env).cells.lookup x=_;rw [look x (PySem.mem_of_lookup e)];exact hc⟩
 ·rcases cel x c h2 with⟨_,_,c1⟩|⟨_,b1⟩
  ·exact Ay c1
  ·have h1':(scope.names.lookup x==some .cell)=true:=h1
   rw [t5 S.nd b1] at h1'
   cases h1'
 ·refine⟨Am (fpLt b hb),fun x c e z=> ?_⟩
  rcases cel x c e with⟨_,_,c1⟩|⟨a1,_⟩
  ·rw [z] at c1;exact absurd (Nat.lt_trans c1 (fpLt b hb)) (Nat.lt_irrefl _)
  ·exact(hf b hb).2.2.2.2.1 x c a1 z
 ·have hb:b∈fp:=hb
  rcases(hf b hb).2.2.2.1 with z|z
  ·exact I.ok.noex b o e z
  ·have h1:=(I.ok.bs b o e).1
   have:=AZ h1
   exact absurd (Al this z) (Nat.lt_irrefl _)
 ·have hb:b∈fp:=hb
  have hz:b∈frs X.stack:=hz
  rcases Aq.mp (I.stkSub b hz) with z|z
  ·exact(hf b hb).2.1 z
  ·exact(hf b hb).2.2.1 z
 ·exact(Heap.Ns.new s.heap (.type "dict")).keeps (pushCells_keeps _ _)
 ·have h1:(N0++ys)[i]?=some x:=h1
  rw [S.eq] at h1
  have hi:i<σ.length:=by
   by_cases hi:i<σ.length
   ·exact hi
   ·rw [List.getElem?_append_right (by lia),List.getElem?_replicate] at h2
    split at h2<;>cases h2
  rw [Aw hi] at h2
  rw [Aw (by rw [Ai,<-I.len];exact hi),Av] at h1
  have hvis:Vis (B7 scope s.heap.objs.size X.env).scope x:=h3
  have hkn:scope.names.lookup x=none->False:=fun z=>by
   have hk:∀k,(B7 scope s.heap.objs.size X.env).kindOf x=some k->scope.names.lookup x≠none:=fun k z e=>by
    rw [L7,e] at z;cases z
   rcases hvis with e|e|e<;>exact absurd z (hk _ e)
  have h1:X.N[i]?=some x/\ys.contains x=false:=by
   cases e0:X.N[i]? with
   |none=>rw [e0] at h1;cases h1
   |some x0=>
    rw [e0] at h1
    have h1:hid ys x0=x:=Option.some.inj h1
    have ho:=S.ou x0 (BA e0)
    cases hc:ys.contains x0 with
    |true=>exact(hkn (by rw [<-h1];exact ho.1 hc)).elim
    |false=>
     have hx:x0=x:=by rw [<-h1];unfold hid;rw [if_neg (by rw [hc];exact Ar)]
     subst hx
     exact⟨rfl,hc⟩
  obtain⟨h1,hys⟩:=h1
  have hfree:scope.names.lookup x=some .free:=by
   have hk:∀k,(B7 scope s.heap.objs.size X.env).kindOf x=some k->scope.names.lookup x≠none:=fun k z e=>by
    rw [L7,e] at z;cases z
   rcases(S.ou x (BA h1)).2 hys with z|z|z
   ·rcases hvis with e|e|e<;>exact absurd z (hk _ e)
   ·exact z
   ·have hg:(B7 scope s.heap.objs.size X.env).kindOf x=some .globalImplicit:=by
     rw [L7,z];rfl
    rcases hvis with e|e|e
    ·have e:(B7 scope s.heap.objs.size X.env).kindOf x=some .local:=e
     rw [hg] at e;cases e
    ·have e:(B7 scope s.heap.objs.size X.env).kindOf x=some .cell:=e
     rw [hg] at e;cases e
    ·have e:(B7 scope s.heap.objs.size X.env).kindOf x=some .free:=e
     rw [hg] at e;cases e
  obtain⟨m,hn,hl⟩:=I.loc
  have hv:Vis X.env.scope x:=by
   rcases kindF x hfree with z|z
   ·exact .inr (.inl z)
   ·exact .inr (.inr z)
  obtain⟨u,r,l⟩:=hl i x v h1 h2 hv
  refine⟨u,r, ?_⟩
  rcases l with⟨k,_⟩|⟨k,c,e,z⟩
  ·rcases kindF x hfree with q|q<;>rw [q] at k<;>cases k
  ·refine .inr ⟨?_,c,by show(B7 scope s.heap.objs.size X.env).cells.lookup x=_;rw [look x (PySem.mem_of_lookup hfree)];exact e,z.keeps up⟩
   show(B7 scope s.heap.objs.size X.env).kindOf x=some .cell\/(B7 scope s.heap.objs.size X.env).kindOf x=some .free
   rw [L7,hfree]
   by_cases cc:((NameKind.free==NameKind.free)&& X.env.scope.kind== .function && X.env.kindOf x==some .cell)=true
   ·exact .inl (congrArg some (if_pos cc))
   ·exact .inr (congrArg some (if_neg cc))
 ·rcases cel x c e with⟨a1,_,_⟩|⟨a1,_⟩
  ·exact⟨none,(okc.empty x c a1).1⟩
  ·obtain⟨v,z⟩:=I.cell x c a1
   exact⟨v,z.keeps up⟩
 ·rcases cel x c e with⟨_,_,c1⟩|⟨a1,_⟩
  ·exact I.hok.fresh (Ay c1)
  ·exact I.freeC x c a1
 ·have hp:p∈(X.pn++pins)++[]:=hp
  rw [Ag] at hp
  obtain⟨e,n,ne,nf,d⟩:=I.pin p hp
  refine⟨up _ _ e,n,Am (AZ e),fun hz=> ?_,d⟩
  have hz:p.1∈frs X.stack:=hz
  rcases Aq.mp (I.stkSub p.1 hz) with z|z
  ·exact ne z
  ·exact nf z
 ·show(σ++AN ys.length none).length=(N0++ys).length
  rw [AU,List.length_replicate,AU,S.eq,Ai,I.len]
end
section
variable {X:Cx}{elt iter tg:AE}{ifs:List AE}{scope:Scope}{N0 ys:List Str}{wi:TI}{g:TG}{tc:TT}{te:TE}{pos:Pos}
def a7g(X:Cx)(pins:List (AB×Obj))(C:AB):Prop:=C≠X.env.locals/\X.s₀.heap.objs.size<=C/\(∀x c,X.env.cells.lookup x=some c->c≠C)/\∀p∈X.pn++pins,p.1≠C
theorem a6J{pos':Pos}{use:Option (AA->Sem Unit)}{QQ:AA->AC->Prop}(hx:∀e s,X.xe e s->False)(hc:X.calm=true)(S:P7 X.N N0 ys X.env scope)(hi:PI X tg iter wi)
 (hg:∀C fp pins s H,PG (L6 X N0 scope ys C fp pins s H) tg g) (ht:∀C fp pins s H,PCs (L6 X N0 scope ys C fp pins s H) ifs tc) (he:∀C fp pins s H,PE (L6 X N0 scope ys C fp pins s H) elt te)
 (hs:∀x,foldedSetIterable iter X.env x=pure x) {pins:List (AB×Obj)} {s:AC} {σ:St} {H:Hp} {Q:VK} (I:e7 X pins σ H s) (h:a8u wi g tc te ys.length σ H Q)
 (fin:∀D C s' H' m,e7 X pins σ H' s'->s'.heap.Ns C m->H' C=none->a7g X pins C->Q (.ref D) H'->compPost (model X.prog X.w) X.A X.xe use QQ (.ref D) C (.ok .next) s'):
 AK (model X.prog X.w) X.A (comprehension (.ListComp elt [⟨tg,iter,ifs,0⟩] scope pos) scope X.env pos' (newList []) false (eval iter X.env) use) QQ X.xe s:=by
 have hcl:closureFor scope X.env=pure (K4 X.env.cells scope.names []):=a3d fun x hx' hk=>by
  obtain⟨c,e⟩:=T7 (ys:=ys) I S (x:=x.1) (by rw [<-hk];exact hx')
  rw [e];rfl
 refine wpAny_comprehension_free (use:=use) rfl hs hcl S.kind (fun x hx' hk=>t5 S.nd (by rw [<-hk];exact hx')) (G0 (hi pins s σ H _ I h) fun v s1 h1=>G0 h1 fun itv s2 h2=> ?_)
 obtain⟨it,fp,tn,J,H2,e,I2,T,st2,f2,hW⟩:=h2
 subst e
 have hfr:=I2.hok.fresh (AR _)
 obtain⟨W,⟨m0,w0⟩,turn⟩:=hW s2.heap.objs.size hfr
 have fpLt:∀b∈fp,b<s2.heap.objs.size:=fun b hb=>let ⟨_,e,_⟩:=T.obj _ _ st2 b hb;AZ e
 refine wpAny_newObj_type ?_
 have I3:e7 X pins σ (upd H2 s2.heap.objs.size (.lst [])) {s2 with heap:=s2.heap.push {cls:= .type "list",data:= .seq ([]:List AA).toArray}}:=
  I2.laid (t':=s2.toks) (fun b o e=>Ak _ e) (AR _) ⟨by decide,[],0,.nil,Au _ rfl⟩
 have up3:∀b o,s2.heap.get? b=some o->(s2.heap.push {cls:= .type "list",data:= .seq ([]:List AA).toArray}).get? b=some o:=fun b o e=>Ak _ e
 have st3:tn 0 (s2.heap.push {cls:= .type "list",data:= .seq ([]:List AA).toArray}):=T.keep _ _ _ st2 fun b _ o e=>up3 b o e
 have f3:∀b∈fp,a3L X pins (upd H2 s2.heap.objs.size (.lst [])) b:=fun b hb=>⟨by rw [f8 (Am (fpLt b hb))];exact(f2 b hb).1,(f2 b hb).2⟩
 generalize hs3:({s2 with heap:=s2.heap.push {cls:= .type "list",data:= .seq ([]:List AA).toArray}}:AC)=s3 at I3
 have hs3h:s3.heap=s2.heap.push {cls:= .type "list",data:= .seq ([]:List AA).toArray}:=by rw [<-hs3]
 rw [<-hs3h] at st3 up3
 refine a0j ?_
 have I4:=a5B S I3 f3 (T.obj _ _ st3)
 generalize hs4:({s3 with heap:=pushCells (s3.heap.push {cls:= .type "dict",data:= .dict #[]}) scope.names}:AC)=s4 at I4 ⊢
 have hs4h:s4.heap=pushCells (s3.heap.push {cls:= .type "dict",data:= .dict #[]}) scope.names:=by rw [<-hs4]
 have st4:tn 0 s4.heap:=T.keep _ _ _ st3 fun b _ o e=>by rw [hs4h];exact pushCells_keeps _ _ b o (Ak _ e)
 generalize hX:L6 X N0 scope ys s3.heap.objs.size fp pins s3 (upd H2 s2.heap.objs.size (.lst []))=Y at I4
 have Yp:Y.prog=X.prog:=by rw [<-hX];rfl
 have Yw:Y.w=X.w:=by rw [<-hX];rfl
 have YK:Y.K=X.K:=by rw [<-hX];rfl
 have YA:Y.A=X.A:=by rw [<-hX];rfl
 have Yc:Y.calm=true:=by rw [<-hX];exact hc
 have Yx:Y.xe=X.xe:=by rw [<-hX];rfl
 have YL:Y.env.locals=s3.heap.objs.size:=by rw [<-hX];rfl
 have Yf:Y.fs=frs X.stack:=by rw [<-hX];rfl
 have Ye:Y.ex=fp:=by rw [<-hX];rfl
 have Yn:Y.pn=X.pn++pins:=by rw [<-hX];rfl
 have Ys:Y.s₀=s3:=by rw [<-hX];rfl
 have YH:Y.H₀=upd H2 s2.heap.objs.size (.lst []):=by rw [<-hX];rfl
 have YE:Y.env=B7 scope s3.heap.objs.size X.env:=by rw [<-hX];rfl
 have hgY:PG Y tg g:=by rw [<-hX];exact hg _ _ _ _ _
 have htY:PCs Y ifs tc:=by rw [<-hX];exact ht _ _ _ _ _
 have heY:PE Y elt te:=by rw [<-hX];exact he _ _ _ _ _
 have nlen:(σ++AN ys.length none).length=Y.N.length:=I4.len
 have exf:=I4.ok.exf
 have exfs:=I4.ok.exfs
 have stat:∀{H':Hp},(∀b∈fp,H' b=none)->∀b∈fp,a3L Y [] H' b:=fun {H'} hn b hb=>by
  have hb':b∈Y.ex:=by rw [Ye];exact hb
  refine⟨hn b hb,(exf b hb').1,exfs b hb',.inl hb',(exf b hb').2,fun p hp=> ?_⟩
  rw [Ag,Yn] at hp
  exact(f2 b hb).2.2.2.2.2 p hp
 have TY:a7k Y.prog Y.w Y.K tg J fp it tn:=by rw [Yp,Yw,YK];exact T
 have noX:∀e s,Y.xe e s->False:=fun e s h=>hx e s (by rw [<-Yx];exact h)
 have loop:∀R:Result->AC->Prop,(∀s' H' m,e7 X pins σ H' s'->s'.heap.Ns s3.heap.objs.size m->H' s3.heap.objs.size=none->a7g X pins s3.heap.objs.size->Q (.ref s2.heap.objs.size) H'->R (.ok .next) s')->
  codeAny (model X.prog X.w) X.A (.compLoop (.ListComp elt [⟨tg,iter,ifs,0⟩] scope pos) 0 (.ref it) (.ref s2.heap.objs.size) (B7 scope s3.heap.objs.size X.env)) R s4:=by
  intro R hR
  refine a0f (fun n s'=>∃i xs H' σ',e7 Y [] σ' H' s'/\(∀(j:Nat) v,(σ++AN ys.length none)[j]?=some (some v)->σ'[j]?=some (some v))/\tn i s'.heap/\(∀b∈fp,H' b=none)/\H' s2.heap.objs.size=some (.lst xs)/\W i n xs H') ?_ m0
   ⟨0,[],_,_,I4,fun _ _ e=>e,st4,fun b hb=>(f3 b hb).1,m7,w0⟩
  rintro n s5 ⟨i,xs,H5,σ5,I5,k5,st5,fr5,hD5,w5⟩
  have I5:e7 Y [] (σ++AN ys.length none) H5 s5:=I5.weak (by rw [nlen,I5.len]) k5
  rw [<-Yp,<-Yw,<-YA]
  rcases turn i n xs H5 w5 hD5 with⟨stop,q⟩|⟨go,step⟩
  ·refine wpAny_mono (TY.done Y rfl rfl rfl Yc i [] s5 _ H5 (fun _ _=>False) I5 (stat fr5) st5 stop) (fun r s6 ⟨hr,I6⟩=> ?_) fun _ _ z=>z
   subst hr
   obtain⟨m,hn,_⟩:=I6.loc
   have un:=I6.base
   rw [Yf,Ye,Ys,YH] at un
   rw [YL] at hn
   have hfC:=I6.free
   rw [YL] at hfC
   refine hR s6 H5 m (I3.call' (ch:=fp) (by rw [I6.os,Ys]) un (by have z:=I6.hok;rw [Yp,Yw] at z;exact z) I6.bare fun b hb=>⟨(f3 b hb).2.2.2.1,(f3 b hb).2.1,(f3 b hb).2.2.2.2.1,(f3 b hb).2.2.2.2.2⟩) hn hfC ⟨Nat.ne_of_gt I3.lt,I3.sz,fun x c e=> ?_,fun p hp=> ?_⟩ q
   ·obtain⟨v,z⟩:=I3.cell x c e
    exact Am z.lt
   ·exact Am (AZ (I3.pin p hp).1)
  ·refine wpAny_mono (TY.item Y rfl rfl rfl Yc i [] s5 _ H5 (fun _ _=>False) I5 (stat fr5) st5 go) (fun r s6 ⟨u,hr,h6⟩=> ?_) fun _ _ z=>z
   subst hr
   dsimp only
   refine wpAny_mono h6 (fun _ s7 ⟨x,H7,I7,r7,y7,st7,fr7⟩=> ?_) fun _ _ z=>z
   have I7':=I7.pinned (stat fr7) (T.obj _ _ st7)
   rw [<-YE]
   have keepT:∀{σ8:St} {H8:Hp} {s8:AC},e7 Y ([]++a2X fp s7.heap) σ8 H8 s8->tn (i+1) s8.heap/\∀b∈fp,H8 b=none:=fun {σ8 H8 s8} I8=>by
    refine⟨T.keep _ _ _ st7 fun b hb o e=>(I8.pin (b,o) (As _ (As _ (T9 hb e)))).1,fun b hb=> ?_⟩
    obtain⟨o,e,d⟩:=T.obj _ _ st7 b hb
    exact(I8.pin (b,o) (As _ (As _ (T9 hb e)))).2.1
   refine wpAny_mono (hgY _ s7 _ H7 x u _ I7' r7 (step x H7 y7)) (fun _ s8 ⟨σ8,H8,I8,k8,q8⟩=> ?_) fun e s z=>noX e s z
   refine wpAny_mono (htY _ s8 σ8 H8 _ I8 q8) (fun b s9 ⟨H9,I9,q9⟩=> ?_) fun e s z=>noX e s z
   cases b with
   |false=>
    rw [if_neg Ar] at q9 ⊢
    obtain⟨hD9,m',lt,w9⟩:=q9
    obtain⟨t9,n9⟩:=keepT I9
    exact⟨m',lt,i+1,xs,H9,σ8,I9.pins_of (fun p hp=>nomatch hp),k8,t9,n9,hD9,w9⟩
   |true=>
    rw [if_pos rfl] at q9 ⊢
    refine wpAny_mono (heY _ s9 σ8 H9 _ I9 q9) (fun y s10 ⟨v,H10,I10,r10,hD10,hz,m',lt,w10⟩=> ?_) fun e s z=>noX e s z
    refine wpAny_mono (a1v _ s10 σ8 H10 (.ref s2.heap.objs.size) [v] (.ref s2.heap.objs.size) [y] (fun _ H'=>H'=upd H10 s2.heap.objs.size (.lst (xs++[v]))) I10 rfl (.cons r10 .nil) ⟨_,xs,v,rfl,rfl,hD10,hz,rfl⟩) (fun _ s11 ⟨_,H11,I11,_,e11⟩=> ?_) fun e s z=>noX e s z
    subst e11
    obtain⟨t11,n11⟩:=keepT I11
    exact⟨m',lt,i+1,xs++[v],_,σ8,I11.pins_of (fun p hp=>nomatch hp),k8,t11,n11,m7,w10⟩
 show codeAny _ _ (.compStart _ 0 _ _ (B7 scope s3.heap.objs.size X.env)) _ _
 refine codeAny_compStart_list (loop _ fun s' H' m a b c d e=>fin _ _ s' H' m a b c d e) (T.self _ 0 _ _ _ st4 (loop _ fun s' H' m a b c d e=>fin _ _ s' H' m a b c d e))
end
section
variable {X:Cx}{elt iter tg:AE}{ifs:List AE}{scope:Scope}{N0 ys:List Str}{wi:TI}{g:TG}{tc:TT}{te:TE}{pos:Pos}
theorem a9b(hx:∀e s,X.xe e s->False)(hc:X.calm=true)(S:P7 X.N N0 ys X.env scope)(hi:PI X tg iter wi)
 (hg:∀C fp pins s H,PG (L6 X N0 scope ys C fp pins s H) tg g) (ht:∀C fp pins s H,PCs (L6 X N0 scope ys C fp pins s H) ifs tc) (he:∀C fp pins s H,PE (L6 X N0 scope ys C fp pins s H) elt te)
 (hs:∀x,foldedSetIterable iter X.env x=pure x:=by intro _;rfl):PE X (.ListComp elt [⟨tg,iter,ifs,0⟩] scope pos) (a8u wi g tc te ys.length):=by
 intro pins s σ H Q I h
 rw [eval_ListComp]
 refine a6J hx hc S hi hg ht he hs I h fun D C s' H' m I' hn hC gone q=>⟨m,hn,fun h' hs'=>⟨.ref D,H', ?_,rfl,q⟩⟩
 obtain⟨g1,g2,g3,g4⟩:=gone
 exact I'.turned (t':=s'.toks) (fun b o hb e=>hs'.extBut b o hb e) hC g1 (.inr g2) g3 g4
end
end L2
namespace PU
open PySem PySem.Spec PyProof.Rows L2
def a1L(c:MT)(elt:M)(tg:PV->a8->Option a8)(ρ:a8):List PV->Option (List PV)
 |[]=>some []
 |p::ps=>(tg p ρ).bind fun ρ1=>(c ρ1).bind fun b=>if b=true then((elt ρ1).bind b4.toVal).bind fun q=>(a1L c elt tg ρ ps).bind fun r=>some (q::r) else a1L c elt tg ρ ps
def a2L:MT:=fun _=>some true
def a1O(k:Nat)(it:MI)(tg:PV->a8->Option a8)(c:MT)(elt:M):M:=fun ρ=>(it ρ).bind fun ps=>if ps.length<=AJ then(a1L c elt tg (ρ++AN k none) ps).bind fun r=>some (.own r) else none
def a4z(K:AD)(n:Nat)(g:TG)(tg:PV->a8->Option a8):Prop:=
 ∀F H σ ρ ρ1 p x (Q:L2.St->Hp->Prop),t7 K F H σ ρ->C3 K F p x->tg p ρ=some ρ1->(∀σ',t7 K F H σ' ρ1->(∀(j:Nat),j<n->σ'[j]?=σ[j]?)->Q σ' H)->g x σ H Q
theorem t7.set{K:AD}{F H:Hp}{σ:L2.St}{ρ:a8}{p:PV}{x:V}(e:t7 K F H σ ρ)(r:C3 K F p x)(i:Nat):t7 K F H (σ.set i (some x)) (ρ.set i (some (.val p))):=by
 refine⟨e.fh,by simp [e.len],fun j q h=> ?_,fun j ps h=> ?_,fun j k ps qs a hjk h1 h2 h3 h4=> ?_⟩
 ·rw [List.getElem?_set] at h ⊢
  by_cases hij:i=j
  ·subst hij
   rw [if_pos rfl] at h ⊢
   rw [e.len]
   split at h
   ·rename_i c;cases h;rw [if_pos c];exact⟨x,rfl,r⟩
   ·cases h
  ·rw [if_neg hij] at h ⊢;exact e.at_ j q h
 ·rw [List.getElem?_set] at h
  by_cases hij:i=j
  ·subst hij
   rw [if_pos rfl] at h
   split at h<;>cases h
  ·rw [if_neg hij] at h;exact e.nb j ps h
 ·have get:∀(j:Nat) (ps:P8),(ρ.set i (some (b4.val p)))[j]?=some (some (b4.ow ps))->i≠j/\ρ[j]?=some (some (b4.ow ps)):=fun j ps h=>by
   rw [List.getElem?_set] at h
   by_cases hij:i=j
   ·subst hij
    rw [if_pos rfl] at h
    split at h<;>cases h
   ·rw [if_neg hij] at h;exact⟨hij,h⟩
  obtain⟨n1,h1⟩:=get j ps h1
  obtain⟨n2,h2⟩:=get k qs h2
  rw [List.getElem?_set_ne n1] at h3
  rw [List.getElem?_set_ne n2] at h4
  exact e.ap j k ps qs a hjk h1 h2 h3 h4
theorem V4{K:AD}{n i:Nat}(h:n<=i):a4z K n (a4S i) (l6 i):=fun F H σ ρ ρ1 p x Q e r q k=>by
 cases q
 exact k _ (e.set r i) fun j hj=>by rw [List.getElem?_set_ne (by lia)]
theorem t7.setAll{K:AD}{F H:Hp}{n:Nat}:∀{is:List Nat} {xs:List V} {ps:List PV} {σ:L2.St} {ρ:a8},(∀i∈is,n<=i)->t7 K F H σ ρ->e8 K F ps xs->t7 K F H (PU.setAll σ is xs) (PU.setAll ρ is (ps.map .val))/\∀(j:Nat),j<n->(PU.setAll σ is xs)[j]?=σ[j]?
 |[],xs,ps,σ,ρ,_,s,r=>by
  have e1:PU.setAll σ [] xs=σ:=by cases xs<;>rfl
  have e2:PU.setAll ρ [] (ps.map b4.val)=ρ:=by cases ps<;>rfl
  rw [e1,e2];exact⟨s,fun _ _=>rfl⟩
 |i::is,xs,[],σ,ρ,_,s,r=>by cases r;exact⟨s,fun _ _=>rfl⟩
 |i::is,xs,p::ps,σ,ρ,h,s,⟨v,t,e,rp,rl⟩=>by
  subst e
  obtain⟨h1,h2⟩:=t7.setAll (is:=is) (n:=n) (fun j hj=>h j (Ah _ hj)) (s.set rp i) rl
  refine⟨h1,fun j hj=> ?_⟩
  have hi:=h i Aj
  show(PU.setAll (σ.set i (some v)) is t)[j]?=_
  rw [h2 j hj,List.getElem?_set_ne (by lia)]
theorem t7.more{K:AD}{F H:Hp}{σ:L2.St}{ρ:a8}(e:t7 K F H σ ρ)(k:Nat):t7 K F H (σ++AN k none) (ρ++AN k none):=by
 have key:∀(j:Nat) (q:b4),(ρ++AN k none)[j]?=some (some q)->ρ[j]?=some (some q)/\(σ++AN k none)[j]?=σ[j]?:=fun j q h=>by
  by_cases hj:j<ρ.length
  ·rw [Aw hj] at h
   rw [Aw (by rw [e.len];exact hj)]
   exact⟨h,rfl⟩
  ·rw [List.getElem?_append_right (by lia),List.getElem?_replicate] at h
   split at h<;>cases h
 refine⟨e.fh,by simp [e.len],fun j q h=> ?_,fun j ps h=>e.nb j ps (key j _ h).1,fun j k' ps qs a hjk h1 h2 h3 h4=> ?_⟩
 ·obtain⟨h1,h2⟩:=key j q h
  rw [h2];exact e.at_ j q h1
 ·obtain⟨a1,b1⟩:=key j _ h1
  obtain⟨a2,b2⟩:=key k' _ h2
  rw [b1] at h3
  rw [b2] at h4
  exact e.ap j k' ps qs a hjk a1 a2 h3 h4
def WC(K:AD)(F H:Hp)(D:AB)(c:MT)(elt:M)(tg:PV->a8->Option a8)(ρ:a8)(ps r:List PV)(i m:Nat)(xs:List V)(H':Hp):Prop:=
 ∃F' done A2,i<=ps.length/\m=ps.length - i/\W3 F H F' H'/\F' D=none/\e8 K F' done xs/\done.length<=i/\a1L c elt tg ρ (ps.drop i)=some A2/\done++A2=r
theorem a6L{K:AD}{F H:Hp}{D:AB}{c:MT}{elt:M}{tg:PV->a8->Option a8}{g:TG}{σ:L2.St}{ρ:a8}{k:Nat}{ps r:List PV}{i m:Nat}{xs:List V}{H':Hp}{p:PV}{x:V}
 (T:a4z K ρ.length g tg) (en:t7 K F H σ ρ) (hD:H D=none) (hsz:ps.length<=AJ) (W:WC K F H D c elt tg (ρ++AN k none) ps r i m xs H') (hx:H' D=some (.lst xs)) (ep:ps[i]?=some p) (rx:C3 K F p x):
 g x (σ++AN k none) H' fun σ4 H4=>(∀(j:Nat) v,(σ++AN k none)[j]?=some (some v)->σ4[j]?=some (some v))/\tMT K c σ4 H4 fun b H5=>if b=true then tM K elt σ4 H5 fun v H6=>H6 D=some (.lst xs)/\xs.length<AJ/\∃m',m'<m/\WC K F H D c elt tg (ρ++AN k none) ps r (i+1) m' (xs++[v]) (upd H6 D (.lst (xs++[v])))
  else H5 D=some (.lst xs)/\∃m',m'<m/\WC K F H D c elt tg (ρ++AN k none) ps r (i+1) m' xs H5:=by
 obtain⟨F',done,A2,hi,hm,ex,fD,rl,dl,hc,hr⟩:=W
 have hk:i<ps.length:=(Ao.mp ep).1
 have hd:ps.drop i=p::ps.drop (i+1):=by
  rw [List.drop_eq_getElem_cons hk]
  congr 1
  exact(Ao.mp ep).2
 rw [hd] at hc
 unfold a1L at hc
 obtain⟨ρ1,e1,hc⟩:=bind_some hc
 obtain⟨b,e2,hc⟩:=bind_some hc
 have en':=(en.ext ex).more k
 refine T F' H' _ _ ρ1 p x _ en' (C3.mono ex.f _ rx) e1 fun σ4 en4 keep=>⟨fun j v e=> ?_, ?_⟩
 ·by_cases hj:j<ρ.length
  ·rw [keep j hj];exact e
  ·rw [List.getElem?_append_right (by rw [en.len];lia),List.getElem?_replicate] at e
   split at e<;>cases e
 refine⟨F',ρ1,b,en4,e2,fun F5 H5 x5=> ?_⟩
 have ex5:=ex.trans x5
 have fD5:F5 D=none:=x5.nw D _ fD hx (fun _ h=>nomatch h)
 cases b with
 |false=>
  rw [if_neg Ar] at hc
  refine a5N ⟨x5.h _ _ hx,ps.length - (i+1),by lia,F5,done,A2,by lia,rfl,ex5,fD5,e8.mono x5.f _ rl,by lia,hc,hr⟩
 |true=>
  rw [if_pos rfl] at hc
  obtain⟨q,e3,hc⟩:=bind_some hc
  obtain⟨rt,e4,hc⟩:=bind_some hc
  cases hc
  obtain⟨re,e5,e6⟩:=bind_some e3
  refine a6X ⟨F5,ρ1,re,en4.ext x5,e5,fun v F6 H6 o6=> ?_⟩
  obtain⟨F7,o7⟩:=o6.toVal e6
  have hx6:H6 D=some (.lst xs):=o6.x.h _ _ (x5.h _ _ hx)
  have fD7:F7 D=none:=o7.x.nw D _ fD5 (x5.h _ _ hx) (fun _ h=>nomatch h)
  have ex7:=ex5.trans o7.x
  have hlen:=rl.length
  refine⟨hx6,by lia,ps.length - (i+1),by lia,F7,done++[q],rt,by lia,rfl,⟨ex7.f,fun a o z=> ?_,fun a o z=> ?_,ex7.nw,ex7.nf⟩,fD7,e8.append (e8.mono (x5.f.trans o7.x.f) _ rl) ⟨v,[],rfl,o7.rep,rfl⟩,by simp;lia,e4,by rw [List.append_assoc];exact hr⟩
  ·rw [f8 (j4 z hD)];exact ex7.h _ _ z
  ·rw [f8 (j4 z fD7)];exact ex7.fh _ _ z
theorem a7r{K:AD}{F H:Hp}{D:AB}{c:MT}{elt:M}{tg:PV->a8->Option a8}{ρ:a8}{ps r:List PV}{m:Nat}{xs:List V}{H':Hp}(hD:H D=none)(W:WC K F H D c elt tg ρ ps r ps.length m xs H')(hx:H' D=some (.lst xs)):∃F',p4 K F H F' H' (.ref D) (.own r):=by
 obtain⟨F',done,A2,hi,hm,ex,fD,rl,dl,hc,hr⟩:=W
 rw [List.drop_length] at hc
 cases hc
 rw [Ag] at hr
 subst hr
 exact⟨F',ex,⟨D,xs,rfl,fD,hx,rl⟩,fun _ _ _ e=>by cases e;exact hD⟩
structure Src(K:AD)(F0 F H:Hp)(J:It)(ps:List PV):Prop where
 st:∀i H',e9 H H'->ps.length<=i->J.stop i H'
 go:∀i p H',e9 H H'->ps[i]?=some p->J.go i H'
 yd:∀i p x H' H'',e9 H H'->ps[i]?=some p->J.yld i H' x H''->H''=H'/\C3 K F p x
def SI(K:AD)(mi:MI)(wi:TI):Prop:=∀F H σ ρ ps (R:It->Hp->Prop),t7 K F H σ ρ->mi ρ=some ps->(∀F1 H1 J,W3 F H F1 H1->Src K F F1 H1 J ps->R J H1)->wi σ H R
abbrev EI(X:Cx)(tg iter:AE)(mi:MI):Prop:=∃wi,PI X tg iter wi/\SI X.K mi wi
section
variable {X:Cx}{tg:AE}
def T8(m:M):MI:=fun ρ=>(m ρ).bind fun r=>PyData.items? r.rd
theorem a7v{l:AE}{m:M}(h:EE X l m):EI X tg l (T8 m):=⟨_,a79 h,fun F H σ ρ ps R en e k=>by
 obtain⟨r,e1,e2⟩:=bind_some e
 refine⟨F,ρ,r,en,e1,fun v F1 H1 o1=> ?_⟩
 obtain⟨a,xs,rfl,hq,rl⟩:=Q9 o1.x.fh o1.rep e2
 have hlen:=rl.length
 rcases hq with hq|hq
 ·refine⟨a,rfl,.inl ⟨⟨xs,hq⟩,k F1 H1 _ o1.x ⟨fun i H2 s h=>⟨xs,J2 s hq,by lia⟩,fun i p H2 s h=> ?_,fun i p x H2 H3 s h y=> ?_⟩⟩⟩
  ·obtain⟨v,ev,_⟩:=rl.get h
   exact⟨xs,v,J2 s hq,ev⟩
  ·obtain⟨v,ev,rv⟩:=rl.get h
   obtain⟨e,y⟩:=y
   have:=y xs (J2 s hq)
   rw [ev] at this;cases this
   exact⟨e,rv⟩
 ·refine⟨a,rfl,.inr ⟨⟨xs,hq⟩,k F1 H1 _ o1.x ⟨fun i H2 s h=>⟨xs,o8 s hq,by lia⟩,fun i p H2 s h=> ?_,fun i p x H2 H3 s h y=> ?_⟩⟩⟩
  ·obtain⟨v,ev,_⟩:=rl.get h
   exact⟨xs,v,o8 s hq,ev⟩
  ·obtain⟨v,ev,rv⟩:=rl.get h
   obtain⟨e,y⟩:=y
   have:=y xs (o8 s hq)
   rw [ev] at this;cases this
   exact⟨e,rv⟩⟩
theorem a9n{K:AD}{F0 F H:Hp}{lo hi:Int}:Src K F0 F H (Itr lo (hi - lo).toNat) (Y1 lo hi):=by
 have hl:=a21 lo hi
 refine⟨fun i H2 s h=> ?_,fun i p H2 s h=> ?_,fun i p x H2 H3 s h y=> ?_⟩
 ·show(hi - lo).toNat<=i;lia
 ·have:=(Ao.mp h).1
  show i<(hi - lo).toNat;lia
 ·have hi':=(Ao.mp h).1
  rw [a20 (by lia)] at h
  cases h
  obtain⟨e,y⟩:=y
  exact⟨e,y⟩
theorem a6f{a:AE}{m:MA}{p rp:Pos}(hgl:Gl X "range")(hm:X.mg "range"=none)(ha:EA X [a] m)(hst:AL [a] X.env=[(false,eval a X.env)]:=by rfl):EI X tg (.Call (.Name "range" p) [a] [] rp) (a0q m):=⟨_,a3E hgl hm ha hst,fun F H σ ρ ps R en e k=>by
 obtain⟨qs,e1,e2⟩:=bind_some e
 refine⟨F,ρ,qs,en,e1,fun vs F1 H1 x rl=> ?_⟩
 split at e2
 ·rename_i j
  split at e2
  ·rename_i c
   have c:=a3Z.mp c
   cases e2
   obtain⟨v,r,rfl,rv,rr⟩:=rl
   cases rv
   cases rr
   have hz:(j - 0).toNat=j.toNat:=by lia
   refine⟨j,rfl,c.1,c.2,k F1 H1 _ x ?_⟩
   have z:=a9n (K:=X.K) (F0:=F) (F:=F1) (H:=H1) (lo:=0) (hi:=j)
   rw [hz] at z
   exact z
  ·cases e2
 ·cases e2⟩
abbrev EC(X:Cx)(ifs:List AE)(c:MT):Prop:=PCs X ifs (tMT X.K c)
theorem a3T:EC X [] a2L:=fun pins s σ H Q I ⟨F,ρ,b,en,e,k⟩=>by
 cases e
 exact a89 pins s σ H Q I (k F H (W3.refl en.fh))
theorem a6K{mi:MI}{wi:TI}{g:TG}{c:MT}{elt:M}{t:PV->a8->Option a8}{N:List Str}{k:Nat}(hi:SI X.K mi wi)(T:∀n,n=N.length->a4z X.K n g t){σ:L2.St}{H:Hp}{Q:VK}(hl:σ.length=N.length)(h:tM X.K (a1O k mi t c elt) σ H Q):a8u wi g (tMT X.K c) (tM X.K elt) k σ H Q:=by
 obtain⟨F,ρ,r,en,e,kk⟩:=h
 obtain⟨ps,e1,e⟩:=bind_some e
 split at e
 ·rename_i hsz
  obtain⟨rs,e2,e⟩:=bind_some e
  cases e
  refine hi F H σ ρ ps _ en e1 fun F1 H1 J x1 S D hD=> ?_
  have en1:=en.ext x1
  have T':a4z X.K ρ.length g t:=T _ (by rw [<-en.len,hl])
  refine⟨WC X.K F1 H1 D c elt t (ρ++AN k none) ps rs,⟨ps.length,F1,[],rs,Nat.zero_le _,rfl,W3.layH x1.fh hD,x1.fh.free hD,rfl,AR _,e2,rfl⟩,fun i m xs H2 W hx=> ?_⟩
  have W':=W
  obtain⟨F',done,A2,hi',hm,ex,fD,rl,dl,hc,hr⟩:=W'
  have sF:e9 H1 H2:=ex.h
  by_cases hlt:i<ps.length
  ·refine .inr ⟨S.go i ps[i] H2 sF (by simp [hlt]),fun x H3 y=> ?_⟩
   obtain⟨e3,rx⟩:=S.yd i ps[i] x H2 H3 sF (by simp [hlt]) y
   subst e3
   exact a6L T' en1 hD hsz W hx (by simp [hlt]) rx
  ·have e3:i=ps.length:=by lia
   subst e3
   refine .inl ⟨S.st _ H2 sF (AR _), ?_⟩
   obtain⟨F2,o⟩:=a7r hD W hx
   exact kk _ F2 H2 (p4.trans x1 o)
 ·cases e
theorem a2f{elt iter:AE}{ifs:List AE}{scope:Scope}{N0 ys:List Str}{mi:MI}{g:TG}{c:MT}{m:M}{t:PV->a8->Option a8}{pos:Pos}(hx:∀e s,X.xe e s->False)(hc:X.calm=true)(S:P7 X.N N0 ys X.env scope)(hi:EI X tg iter mi)
 (hg:∀C fp pins s H,PG (L6 X N0 scope ys C fp pins s H) tg g) (T:∀n,n=X.N.length->a4z X.K n g t) (ht:∀C fp pins s H,EC (L6 X N0 scope ys C fp pins s H) ifs c) (he:∀C fp pins s H,EE (L6 X N0 scope ys C fp pins s H) elt m)
 (hs:∀x,foldedSetIterable iter X.env x=pure x:=by intro _;rfl):EE X (.ListComp elt [⟨tg,iter,ifs,0⟩] scope pos) (a1O ys.length mi t c m):=by
 obtain⟨wi,h1,h2⟩:=hi
 intro pins s σ H Q I h
 exact a9b hx hc S h1 hg ht he hs pins s σ H Q I (a6K (N:=X.N) h2 T I.len h)
end
def V3:List PV->Option (List Str)
 |[]=>some []
 | .str x::r=>(V3 r).map (x::·)
 |_=>none
theorem a28:∀xs:List Str,V3 (xs.map .str)=some xs
 |[]=>rfl
 |x::xs=>by rw [AM];simp only [V3,a28 xs,Ap]
theorem a0M{K:AD}{H:Hp}:∀{ps:List PV} {ys:List Str} {xs:List V} {us:List AA},V3 ps=some ys->e8 K H ps xs->g7 xs us->StrsAre us ys
 |[],_,_,_,h,r,v=>by cases h;cases r;cases v;exact .nil
 |p::ps,ys,_,_,h,⟨x,r,e,hp,t⟩,v=>by
  subst e
  cases p with
  |str z=>
   simp only [V3] at h
   cases q:V3 ps with
   |none=>rw [q] at h;cases h
   |some zs=>
    rw [q] at h;cases h
    cases hp
    cases v with
    |cons a b=>
     obtain⟨tk,rfl⟩:=a
     exact .cons z tk (a0M q t b)
  |_=>simp [V3] at h
def A5(x y:b4):Option b4:=match x with
 | .val (.str z)=>(match PyData.items? y.rd with
   |some ps=>(V3 ps).bind fun ys=>if(ys.map (·.length)).sum+ys.length*z.length<=16777216 then some (.val (.str (Txt.join z ys))) else none
   |none=>none)
 |_=>none
section
variable {X:Cx}
theorem a80:MtR X "str.join" (fun x xs H Q=>∃F y rx ry rz,xs=[y]/\e9 F H/\J4 X.K F H x rx/\J4 X.K F H y ry/\A5 rx ry=some rz/\∀v F' H',p4 X.K F H F' H' v rz->Q v H'):=by
 intro pins s σ H x xs v us Q I rx rv h
 obtain⟨F,y,ra,rb,rz,rfl,s0,h1,h2,h3,k⟩:=h
 obtain⟨u,rfl,ru⟩:=a5m rv
 unfold A5 at h3
 split at h3
 ·rename_i z
  split at h3
  ·rename_i ps e
   obtain⟨ys,e2,h3⟩:=bind_some h3
   split at h3
   ·rename_i c
    cases h3
    cases h1
    obtain⟨t,rfl⟩:=rx
    obtain⟨a,xs,rfl,hq,r⟩:=Q9 s0 h2 e
    cases ru
    rcases hq with hq|hq
    ·obtain⟨its,rv,pl,hz⟩:=I.list hq
     exact join_list pl.isList (by simpa using a0M e2 r rv) c fun t' k'=>⟨.str _,H,I.tok _,⟨_,rfl⟩,k _ F H (p4.here s0 rfl)⟩
    ·obtain⟨its,rv,pl,hz⟩:=I.tuple hq
     exact join_tuple pl (by simpa using a0M e2 r rv) c fun t' k'=>⟨.str _,H,I.tok _,⟨_,rfl⟩,k _ F H (p4.here s0 rfl)⟩
   ·cases h3
  ·cases h3
 ·cases h3
theorem Z7{o e:AE}{m n:M}{apos cpos:Pos}(ho:EE X o m)(ha:EE X e n)
 (hbase:attributeBase o "join" X.env (eval o X.env)=eval o X.env:=by rfl)
 (hfew:((backTo cpos (AL [e] X.env)).all (fun x=> !x.1)&&(backToKw cpos (keywordEach [] X.env)).all (fun x=>x.1.isSome)
  && decide ([e].length+([]:List Keyword).length+(if([]:List Keyword).isEmpty then 0 else 1)<30))=true:=by rfl)
 (hline:(apos.endLine==cpos.line)=true:=by rfl) (hs:AL [e] X.env=(false,eval e X.env)::AL [] X.env:=by rfl) (hplain:(backTo cpos (AL [] X.env)).any (·.1)=false:=by rfl):
 EE X (.Call (.Attribute o "join" apos) [e] [] cpos) (m2 A5 m n):=
 D3 (a6t PySem.F.plainAttrs_str PySem.F.slot_str_join PySem.F.type_str_join a80 ho (B2 ha U1 hs) hbase hfew hline hs hplain) fun σ H Q ⟨F,ρ,r,he,hm,k⟩=>by
  obtain⟨rx,e1,hm⟩:=bind_some hm
  obtain⟨ry,e2,hm⟩:=bind_some hm
  refine⟨F,ρ,rx,he,e1,fun v F1 H1 o1=>⟨?_,⟨F1,ρ,ry,he.ext o1.x,e2,fun u F2 H2 o2=>⟨F2,u,rx,ry,r,rfl,o2.x.fh,o1.rep.ext o2.x,o2.rep,hm,fun z F3 H3 o3=>k z F3 H3 (p4.trans (o1.x.trans o2.x) o3)⟩⟩⟩⟩
  unfold A5 at hm
  split at hm
  ·cases o1.rep;rfl
  ·cases hm
end
def cut{α:Type}(xs:List α)(lo hi:Option Int):List α:=(xs.drop (HT.sIx xs.length 0 lo)).take (HT.sIx xs.length xs.length hi - HT.sIx xs.length 0 lo)
theorem a0R(n d:Nat)(hd:d<=n)(o:Option Int):(match o with|none=>(d:Int)|some i=>max 0 (min (if i<0 then i+n else i) n))=((HT.sIx n d o:Nat):Int):=by
 cases o with
 |none=>rfl
 |some i=>unfold HT.sIx;dsimp only;split<;>lia
theorem a8I(n:Nat)(lo hi:Option Int):Builtin.Str.strSliceIndices lo hi 1 n=(Ad (HT.sIx n n hi - HT.sIx n 0 lo)).map (HT.sIx n 0 lo+·):=by
 have h1:=a0R n 0 (Nat.zero_le _) lo
 have h2:=a0R n n (AR _) hi
 have key:∀a b:Int,a=((HT.sIx n 0 lo:Nat):Int)->b=((HT.sIx n n hi:Nat):Int)->sliceRange a b 1=(Ad (HT.sIx n n hi - HT.sIx n 0 lo)).map (HT.sIx n 0 lo+·):=fun a b ha hb=>by rw [ha,hb,sliceRange_one]
 refine key _ _ ?_ ?_
 ·cases lo with
  |none=>rfl
  |some i=>exact h1
 ·cases hi with
  |none=>rfl
  |some i=>exact h2
theorem a9t(z:Str)(lo hi:Option Int):Txt.slice z lo hi=⟨(cut z.cps.toList lo hi).toArray⟩:=by
 have hz:z.cps.toList.length=z.length:=by simp [Str.length]
 unfold Txt.slice
 rw [a8I,pick_run z.cps]
 split
 ·rename_i c
  have c':HT.sIx z.length z.length hi - HT.sIx z.length 0 lo=z.length:=by
   simpa using c
  have hle:=HT.sIx_le z.length z.length (AR _) hi
  unfold cut
  rw [hz,c']
  have:HT.sIx z.length 0 lo=0\/z.length=0:=by lia
  cases z with
  |mk a=>
   congr 1
   rcases this with h|h
   ·rw [h,List.drop_zero]
    have:a.toList.length=(⟨a⟩:Str).length:=hz
    rw [<-this,List.take_length]
   ·have h0:a.toList=[]:=List.length_eq_zero_iff.mp (by rw [<-h];exact hz)
    have:a= #[]:=by
     apply Array.ext'
     rw [h0]
    subst this
    simp
 ·unfold cut
  rw [hz]
theorem a0t(items:Array AA)(lo hi:Option Int):slicePick items lo hi none=(cut items.toList lo hi).toArray:=by
 have hz:items.toList.length=items.size:=by simp
 unfold slicePick cut
 rw [hz]
 have key:∀a b:Int,a=((HT.sIx items.size 0 lo:Nat):Int)->b=((HT.sIx items.size items.size hi:Nat):Int)->(List.filterMap (items[·]?) (sliceRange a b 1)).toArray=((items.toList.drop (HT.sIx items.size 0 lo)).take (HT.sIx items.size items.size hi - HT.sIx items.size 0 lo)).toArray:=fun a b ha hb=>by rw [ha,hb,sliceRange_one,pick_run]
 refine key _ _ ?_ ?_
 ·cases lo with
  |none=>rfl
  |some i=>exact a0R items.size 0 (Nat.zero_le _) (some i)
 ·cases hi with
  |none=>rfl
  |some i=>exact a0R items.size items.size (AR _) (some i)
theorem e8.cut{K:AD}{H:Hp}{ps:List PV}{xs:List V}(r:e8 K H ps xs)(lo hi:Option Int):e8 K H (PU.cut ps lo hi) (PU.cut xs lo hi):=by
 unfold PU.cut
 rw [r.length]
 exact(r.drop _).take _
theorem a6e{α:Type}(xs:List α)(lo hi:Option Int):(cut xs lo hi).length<=xs.length:=by
 unfold cut
 rw [List.length_take,List.length_drop];lia
theorem a0h{prog:AI}{w:AG}{A:AH}{E:AA->AC->Prop}{s:AC}{t sl:AB}{items:Array AA}{vl vu:AA}{lo hi:Option Int}{Q:AA->AC->Prop}(ht:IsTup s.heap t items)(hs:s.heap.IsSliceOf sl vl vu .none)(pl:IsPart vl lo)(pu:IsPart vu hi)
 (hw:HT.sIx items.size 0 lo=0/\HT.sIx items.size items.size hi=items.size)
 (h:Q (.ref t) s):AK (model prog w) A (getItem (.ref t) (.ref sl)) Q E s:=by
 obtain⟨os,hos,hcs,hds⟩:=id hs
 have hTs:s.TypeIs (.ref sl) "slice":=⟨os,hos,hcs⟩
 unfold getItem
 try with_reducible refine wpAny_holding ?_
 first|refine AO (AW ?_)|skip
 refine AO (wpAny_sequenceKey ht.typeIs (by decide) ?_)
 refine AO (wpAny_callSpecial?_slot (name:=AQ "__getitem__") ht.typeIs PyProof.Rows.slot_tuple_getitem
  (wpAny_call_entry PyProof.Rows.slot_tuple_getitem ht.typeIs entry_tuple_getitem ?_ (args_tuple_getitem _ _)))
 show AK _ _ (Builtin.Tuple.tupleItemsOf (.ref t)>>=_) _ _ s
 refine AO (tupleItemsOf_ ht ?_)
 refine AO (wpAny_typeOf hTs ?_)
 rw [if_pos (by decide)]
 refine AO (HT.sliceApplied_gen hs pl pu ?_)
 have hno:(((HT.sIx items.size 0 lo:Nat):Int)==0 &&(1:Int)==1 &&(HT.sIx items.size items.size hi - HT.sIx items.size 0 lo)==items.size)=true:=by
  rw [hw.1,hw.2];simp
 show AK _ _ (if(((HT.sIx items.size 0 lo:Nat):Int)==0 &&(1:Int)==1 &&(HT.sIx items.size items.size hi - HT.sIx items.size 0 lo)==items.size)=true then _ else _) _ _ s
 rw [if_pos hno]
 refine AO (AO (m:=typeOf (.ref t)) (wpAny_typeOf ht.typeIs (AW ?_)))
 rw [if_pos (by decide)]
 wp_walk
 exact⟨_,rfl,AW h⟩
theorem a9s{X:Cx}:SlR X (fun x lo hi H Q=>∃a xs,x= .ref a/\W0 X.K H a xs/\(HT.sIx xs.length 0 lo=0/\HT.sIx xs.length xs.length hi=xs.length)/\Q (.ref a) H):=by
 intro pins s σ H x v vl vu lo hi sl Q I rx hs pl pu h
 obtain⟨a,xs,rfl,hx,hw,q⟩:=h
 cases rx
 obtain⟨its,r,ht,hz⟩:=I.tuple hx
 have hlen:its.toArray.size=xs.length:=by rw [Ae];exact r.length.symm
 refine⟨"tuple",_,PyProof.Rows.slot_tuple_getitem.lookup,ht.typeIs, ?_⟩
 exact a0h ht hs pl pu (by rw [hlen];exact hw) ⟨.ref a,H,I,rfl,q⟩
theorem a6M{α:Type}{xs:List α}{lo hi:Option Int}(h:HT.sIx xs.length 0 lo=0/\HT.sIx xs.length xs.length hi=xs.length):cut xs lo hi=xs:=by
 unfold cut
 rw [h.1,h.2,List.drop_zero,Nat.sub_zero,List.take_length]
section
variable {X:Cx}
theorem a5M{h:Heap}{sl:AB}{vl vu:AA}{lo hi:Option Int}(hs:h.IsSliceOf sl vl vu .none)(pl:IsPart vl lo)(pu:IsPart vu hi):∃l u:Option (Int×Tok),h.IsSlice sl l u none/\l.map (·.1)=lo/\u.map (·.1)=hi:=by
 obtain⟨o,ho,hc,hd⟩:=hs
 cases pl with
 |none=>
  cases pu with
  |none=>exact⟨none,none,⟨o,ho,hc,hd⟩,rfl,rfl⟩
  |int j t=>exact⟨none,some (j,t),⟨o,ho,hc,hd⟩,rfl,rfl⟩
 |int i t=>
  cases pu with
  |none=>exact⟨some (i,t),none,⟨o,ho,hc,hd⟩,rfl,rfl⟩
  |int j t'=>exact⟨some (i,t),some (j,t'),⟨o,ho,hc,hd⟩,rfl,rfl⟩
theorem b0K:SlR X (fun x lo hi H Q=>∃z,x= .str z/\z.length<=AJ/\Q (.str (Txt.slice z lo hi)) H):=by
 intro pins s σ H x v vl vu lo hi sl Q I rx hs pl pu h
 obtain⟨z,rfl,hz,q⟩:=h
 obtain⟨t,rfl⟩:=rx
 obtain⟨l,u,hs',e1,e2⟩:=a5M hs pl pu
 subst e1 e2
 exact⟨"str",_,PySem.F.slot_str_getitem.lookup,typeIs_str _ _ _,wpAny_getItem_str_slice hs' rfl (post_val_or_str ⟨Nat.le_trans (Txt.slice_le z _ _) hz,fun t' k=>⟨.str _,H,I.tok _,⟨_,rfl⟩,q⟩⟩)⟩
theorem b0J:SlR X (fun x lo hi H Q=>∃a xs,x= .ref a/\R6 X.K H a xs/\∀p,H p=none->Q (.ref p) (upd H p (.lst (PU.cut xs lo hi)))):=by
 intro pins s σ H x v vl vu lo hi sl Q I rx hs pl pu h
 obtain⟨a,xs,rfl,hx,q⟩:=h
 cases rx
 obtain⟨its,r,pl',hz⟩:=I.list hx
 have hlen:=r.length
 refine⟨"list",_,list_getitem_lookup,pl'.isList.typeIs, ?_⟩
 refine wpAny_getItem_list_slice pl'.isList hs pl pu .none (by simp) ?_ (by rw [Ae];lia)
 rw [a0t]
 refine⟨.ref s.heap.objs.size,_,I.laid (t':=s.toks) (o:= .lst (PU.cut xs lo hi)) (fun b ob q=>Ak _ q) (AR _) ?_,rfl,q _ (I.hok.fresh (AR _))⟩
 refine⟨Nat.le_trans (a6e xs lo hi) hz,PU.cut its lo hi,0, ?_,Au _ rfl⟩
 unfold PU.cut
 rw [hlen]
 exact(r.drop _).take _
def gSl(x:b4)(lo hi:Option Int):Option b4:=match x with
 | .val (.str z)=>if z.length<=AJ then some (.val (.str ⟨(cut z.cps.toList lo hi).toArray⟩)) else none
 | .val (.tuple ps)=>some (.val (.tuple (cut ps lo hi)))
 | .val (.list ps)=>some (.own (cut ps lo hi))
 | .ow (.lst ps)=>some (.own (cut ps lo hi))
 | .bo (.lst ps)=>some (.own (cut ps lo hi))
 |_=>none
def rSl(K:AD):V->Option Int->Option Int->Hp->VK->Prop:=fun x lo hi H Q=>∃F rx rz,e9 F H/\J4 K F H x rx/\gSl rx lo hi=some rz/\∀v F' H',p4 K F H F' H' v rz->Q v H'
theorem slm:SlR X (rSl X.K):=by
 intro pins s σ H x v vl vu lo hi sl Q I rx hs pl pu h
 obtain⟨F,ra,rz,s0,h1,h2,k⟩:=h
 have lst:∀ps,PyData.items? ra.rd=some ps->(∃a xs,x= .ref a/\R6 X.K H a xs/\e8 X.K F ps xs)->rz= .own (cut ps lo hi)->∃T id,typeLookup (.type T) "__getitem__"=pure (some (.builtin id))/\s.TypeIs v T/\AK (model X.prog X.w) X.A (getItem v (.ref sl)) (EP X pins σ Q) X.xe s:=fun ps e ⟨a,xs,e1,hq,rl⟩ e2=>by
  subst e2
  exact b0J pins s σ H x v vl vu lo hi sl Q I rx hs pl pu ⟨a,xs,e1,hq,fun p hp=>k _ _ _ (p4.lst s0 hp (rl.cut lo hi))⟩
 unfold gSl at h2
 split at h2
 ·rename_i z
  split at h2
  ·rename_i c
   cases h2
   cases h1
   refine b0K pins s σ H _ v vl vu lo hi sl Q I rx hs pl pu ⟨z,rfl,c, ?_⟩
   rw [a9t]
   exact k _ F H (p4.here s0 rfl)
  ·cases h2
 ·rename_i ps
  cases h2
  by_cases c:HT.sIx ps.length 0 lo=0/\HT.sIx ps.length ps.length hi=ps.length
  ·obtain⟨a,xs,rfl,hq,rl⟩:=h1
   have hlen:=rl.length
   refine a9s pins s σ H _ v vl vu lo hi sl Q I rx hs pl pu ⟨a,xs,rfl,o8 s0 hq.sq,by rw [hlen];exact c, ?_⟩
   rw [a6M c] at k
   exact k _ F H (p4.here s0 ⟨a,xs,rfl,hq,rl⟩)
  ·obtain⟨a,xs,rfl,hq,rl⟩:=h1
   have hlen:=rl.length
   refine b0L pins s σ H _ v vl vu lo hi sl Q I rx hs pl pu ⟨a,xs,rfl,o8 s0 hq.sq,by rw [hlen];exact c,fun p hp=> ?_⟩
   exact k _ _ _ (p4.tup s0 hp (rl.cut lo hi))
 ·rename_i ps
  cases h2
  obtain⟨a,xs,e1,hq,rl⟩:=h1
  exact lst ps rfl ⟨a,xs,e1,J2 s0 hq,rl⟩ rfl
 ·rename_i ps
  cases h2
  obtain⟨a,xs,e1,_,hq,rl⟩:=h1
  exact lst ps rfl ⟨a,xs,e1,R6.of hq,rl⟩ rfl
 ·rename_i ps
  cases h2
  obtain⟨a,xs,e1,_,hq,rl⟩:=h1
  exact lst ps rfl ⟨a,xs,e1,R6.of hq,rl⟩ rfl
 ·cases h2
abbrev MO:=a8->Option (Option Int)
def tMO(K:AD)(m:MO):TO:=fun σ H Q=>∃F ρ o,t7 K F H σ ρ/\m ρ=some o/\∀F' H',W3 F H F' H'->Q o H'
abbrev EO(X:Cx)(e:Option AE)(m:MO):Prop:=PO X e (tMO X.K m)
def a5S:MO:=fun _=>some none
def a6n:b4->Option (Option Int)
 | .val (.int i)=>some (some i)
 |_=>none
def a0I(m:M):MO:=fun ρ=>(m ρ).bind a6n
theorem a8M:EO X none a5S:=fun pins s σ H Q I ⟨F,ρ,o,en,e,k⟩=>by
 cases e
 exact a9e pins s σ H Q I (k F H (W3.refl en.fh))
theorem a0S{e:AE}{m:M}(h:EE X e m):EO X (some e) (a0I m):=fun pins s σ H Q I ⟨F,ρ,o,en,e1,k⟩=>by
 obtain⟨r,e2,e3⟩:=bind_some e1
 refine a9f h pins s σ H Q I ⟨F,ρ,r,en,e2,fun v F1 H1 o1=> ?_⟩
 unfold a6n at e3
 split at e3
 ·cases e3
  exact⟨_,o1.rep,k F1 H1 o1.x⟩
 ·cases e3
def a2K(m:M)(lo hi:MO):M:=fun ρ=>(m ρ).bind fun r=>(lo ρ).bind fun l=>(hi ρ).bind fun h=>gSl r l h
theorem a2t{e:AE}{lo hi:Option AE}{m:M}{ml mh:MO}{pos p2:Pos}(he:EE X e m)(hl:EO X lo ml)(hh:EO X hi mh):EE X (.Subscript e (.Slice lo hi none p2) pos) (a2K m ml mh):=
 D3 (a78 slm he hl hh) fun σ H Q ⟨F,ρ,r,en,e,k⟩=>by
  obtain⟨ra,e1,e⟩:=bind_some e
  obtain⟨l,e2,e⟩:=bind_some e
  obtain⟨h,e3,e⟩:=bind_some e
  exact⟨F,ρ,ra,en,e1,fun v F1 H1 o1=>⟨F1,ρ,l,en.ext o1.x,e2,fun F2 H2 x2=>⟨F2,ρ,h,(en.ext o1.x).ext x2,e3,fun F3 H3 x3=>⟨F3,ra,r,x3.fh,(o1.rep.ext x2).ext x3,e,fun z F4 H4 o4=>k z F4 H4 (p4.trans ((o1.x.trans x2).trans x3) o4)⟩⟩⟩⟩
end
section
variable {X:Cx}{tg:AE}
end
def a4Q:b4->b4->Option b4
 | .val (.int i),.val (.int j)=>some (.val (.bool (decide (i<j))))
 | .val (.str i),.val (.str j)=>some (.val (.bool (decide (i.cps.toList<j.cps.toList))))
 |_,_=>none
def W1:b4->b4->Option b4
 | .val (.int i),.val (.int j)=>some (.val (.bool (decide (i<=j))))
 | .val (.str i),.val (.str j)=>some (.val (.bool (!decide (j.cps.toList<i.cps.toList))))
 |_,_=>none
section
variable {X:Cx}
theorem a6s:OpM X (compareOp .Lt) a4Q:=by
 intro pins s σ H x y v u Q I rx ry h
 obtain⟨F,ra,rb,rz,s0,h1,h2,h3,k⟩:=h
 unfold a4Q at h3
 split at h3
 ·cases h3;cases h1;cases h2
  exact b1f pins s σ H _ _ v u Q I rx ry ⟨_,_,rfl,rfl,k _ F H (p4.here s0 rfl)⟩
 ·cases h3;cases h1;cases h2
  exact a66 pins s σ H _ _ v u Q I rx ry ⟨_,_,rfl,rfl,k _ F H (p4.here s0 rfl)⟩
 ·cases h3
theorem N6:OpM X (compareOp .LtE) W1:=by
 intro pins s σ H x y v u Q I rx ry h
 obtain⟨F,ra,rb,rz,s0,h1,h2,h3,k⟩:=h
 unfold W1 at h3
 split at h3
 ·cases h3;cases h1;cases h2
  exact b1e pins s σ H _ _ v u Q I rx ry ⟨_,_,rfl,rfl,k _ F H (p4.here s0 rfl)⟩
 ·cases h3;cases h1;cases h2
  obtain⟨t,rfl⟩:=rx
  obtain⟨t',rfl⟩:=ry
  exact PySem.P.le_str ⟨.bl _,H,I,rfl,k _ F H (p4.here s0 rfl)⟩
 ·cases h3
def a0g(neg:Bool)(x y:b4):Option b4:=match x,y with
 | .val (.bool a),.val (.bool b)=>some (.val (.bool (if neg then !(a==b) else a==b)))
 |x,y=>a96 neg x y
theorem a7Q{a b:Bool}{M:Model}{A:AH}{E:AA->AC->Prop}{s:AC}{Q:AA->AC->Prop}(h:Q (.bool (a==b)) s):AK M A (compareOp .Is (.bool a) (.bool b)) Q E s:=by
 refine wpAny_is_plain (by cases a<;>cases b<;>rfl) ?_
 have e:(Value.bool a==Value.bool b)=(a==b):=by cases a<;>cases b<;>rfl
 rw [e];exact h
theorem U0:OpM X (compareOp .Is) (a0g false):=by
 intro pins s σ H x y v u Q I rx ry h
 obtain⟨F,ra,rb,rz,s0,h1,h2,h3,k⟩:=h
 unfold a0g at h3
 split at h3
 ·cases h3;cases h1;cases h2;cases rx;cases ry
  exact a7Q ⟨.bl _,H,I,rfl,k _ F H (p4.here s0 rfl)⟩
 ·exact a87 pins s σ H x y v u Q I rx ry ⟨F,_,_,rz,s0,h1,h2,h3,k⟩
def a4R:b4->b4->Option b4
 | .val (.str z),.val (.int k)=>if okC (fun k n=>0<=k/\k<=1000000/\n*k<=16777216) k z.length=true then some (.val (.str ⟨(AN k.toNat z.cps.toList).flatten.toArray⟩)) else none
 | .ow (.lst ps),.val (.int k)=>if okC (fun k n=>0<=k/\k<=1000000/\n*k<=16777216) k ps.length=true then some (.own (AN k.toNat ps).flatten) else none
 |x,y=>a97 x y
theorem a2v(xs:List Nat):∀(m:Nat) (acc:Array Nat),(AN m xs.toArray).foldl (· ++·) acc=acc++(AN m xs).flatten.toArray
 |0,acc=>by simp
 |m+1,acc=>by
  rw [AY,List.foldl_cons,a2v xs m,AY,List.flatten_cons]
  apply Array.ext'
  simp
theorem a9z{z:Str}{k:Int}(h0:0<=k):Txt.mul z k=⟨(AN k.toNat z.cps.toList).flatten.toArray⟩:=by
 unfold Txt.mul
 by_cases h1:k<1
 ·have:k=0:=by lia
  subst this
  rfl
 ·rw [if_neg h1]
  by_cases h2:(k==1||z.length==0)=true
  ·rw [if_pos h2]
   rw [Bool.or_eq_true] at h2
   cases z with
   |mk a=>
    rcases h2 with h2|h2
    ·have:k=1:=by simpa using h2
     subst this
     show(⟨a⟩:Str)=_
     congr 1
     apply Array.ext'
     simp
    ·have ha:a.size=0:=by simpa [Str.length] using h2
     have:a= #[]:=Array.eq_empty_of_size_eq_zero ha
     subst this
     congr 1
     apply Array.ext'
     simp
  ·rw [if_neg h2]
   have e:z.cps=z.cps.toList.toArray:=by simp
   congr 1
   rw [e,a2v]
   simp
theorem a2Y{K:AD}{H:Hp}{ps:List PV}{xs:List V}(r:e8 K H ps xs):∀m:Nat,e8 K H (AN m ps).flatten (AN m xs).flatten
 |0=>rfl
 |m+1=>by
  rw [AY,AY,List.flatten_cons,List.flatten_cons]
  exact r.append (a2Y r m)
theorem a76:OpM X (binaryOp .Mult) a4R:=by
 intro pins s σ H x y v u Q I rx ry h
 obtain⟨F,ra,rb,rz,s0,h1,h2,h3,k⟩:=h
 unfold a4R at h3
 split at h3
 ·rename_i z n
  split at h3
  ·rename_i c
   obtain⟨c0,c1,c2⟩:=a0c.mp c
   cases h3;cases h1;cases h2
   obtain⟨t,rfl⟩:=rx
   obtain⟨t',rfl⟩:=ry
   have hz:z.length*n.toNat<=AJ:=by
    rw [sizeLine_eq]
    have:((z.length*n.toNat:Nat):Int)=z.length*n:=by rw [Int.natCast_mul,Int.toNat_of_nonneg c0]
    lia
   refine SB.mul ⟨?_,fun h4 h5 h6=> ?_,fun h4 h5=> ?_⟩ fun t' k'=>⟨.str _,H,I.tok _,⟨_,rfl⟩, ?_⟩
   ·have e1:¬n< -(2 ^ 63:Int):=by lia
    have e2:¬n>=2 ^ 63:=by lia
    simp [e1,e2]
    lia
   ·have h7:(2 ^ 63 - 1:Int)/ n<z.length:=h6
    have h8:(2 ^ 63 - 1:Int)<(z.length:Int)*n:=by
     have:=Int.lt_mul_of_ediv_lt (a:=(2 ^ 63 - 1:Int)) (b:=(z.length:Int)) (c:=n) (by lia) h7
     exact this
    lia
   ·unfold Builtin.Str.tooLong
    rw [decide_eq_false (by lia)]
   ·rw [a9z c0]
    exact k _ F H (p4.here s0 rfl)
  ·cases h3
 ·rename_i ps n
  split at h3
  ·rename_i c
   obtain⟨c0,c1,c2⟩:=a0c.mp c
   cases h3;cases h2
   obtain⟨a,xs,rfl,fa,hq,rl⟩:=h1
   have hlen:=rl.length
   have hz:xs.length*n.toNat<=AJ:=by
    rw [sizeLine_eq,hlen]
    have:((ps.length*n.toNat:Nat):Int)=ps.length*n:=by rw [Int.natCast_mul,Int.toNat_of_nonneg c0]
    lia
   exact b0t pins s σ H _ _ v u Q I rx ry ⟨a,n,xs,rfl,rfl,hq,by lia,by lia,hz,fun p hp=>k _ _ _ (p4.lst s0 hp (a2Y rl _))⟩
  ·cases h3
 ·exact a75 pins s σ H x y v u Q I rx ry ⟨F,_,_,rz,s0,h1,h2,h3,k⟩
theorem e8.set{K:AD}{H:Hp}{p:PV}{v:V}(h:C3 K H p v):∀{ps:List PV} {xs:List V} (j:Nat),e8 K H ps xs->e8 K H (ps.set j p) (xs.set j v)
 |[],_,_,r=>by cases r;exact rfl
 |_::ps,_,0,⟨w,t,e,_,rl⟩=>by subst e;exact⟨v,t,rfl,h,rl⟩
 |q::ps,_,j+1,⟨w,t,e,hq,rl⟩=>by subst e;exact⟨w,_,rfl,hq,e8.set h j rl⟩
end
theorem a1w:fillsNumberSlot (.type "tuple") "mul"=pure false:=
 PySem.fillsNumberSlot_seq (id:="tuple.__mul__") (r:=some (.builtin "tuple.__rmul__")) PySem.F.slot_tuple_mul.lookup (by decide+kernel) PySem.F.slot_tuple_rmul.lookup (by decide+kernel)
theorem a4i:seqRepeat? (.type "tuple")=pure (some (.builtin "tuple.__mul__")):=by
 unfold seqRepeat?
 rw [PySem.seqSlot_of (T:="tuple") (name:="__mul__") (id:="tuple.__mul__") PySem.F.slot_tuple_mul.lookup (by decide+kernel),PySem.seqSlot_of (T:="tuple") (name:="__rmul__") (id:="tuple.__rmul__") PySem.F.slot_tuple_rmul.lookup (by decide+kernel)]
 rfl
theorem a2C(a:Int)(t:Tok)(l:AB)(items:Array AA)(n:Nat)(dd:Option AB)(sl:Array (Option AA)):Meets (Builtin.«int.__rmul__» ⟨[.int a t,.ref l],[]⟩) (fun _ R s=>s.heap.get? l=some {cls:= .type "tuple",dict:=dd,data:= .seq items n,slots:=sl}/\R (.ok (.ret Value.notImplemented)) s):=
 .of_wp fun prog w A R s h=>by obtain⟨hp,g,d,tk,os⟩:=s;obtain⟨hl,h⟩:=h;wp_walk;exact⟨_,rfl,h⟩
theorem a29(l:AB)(items:Array AA)(n:Nat)(dd:Option AB)(sl:Array (Option AA))(x:Int)(u:Tok)(hc0:(decide (x< -(2 ^ 63))||decide (x>=2 ^ 63))=false)(hc1:(items.isEmpty||x==1)=false)(hc2:(decide (x<=0)||items.isEmpty)=false)(hc3:¬(items.size:Int)*x>(2 ^ 63 - 1)/ 8)(hc4:Builtin.Tuple.tupleTooMany ((items.size:Int)*x)=false)(hz:((AN x.toNat items).foldl (· ++·) #[]).size<=AJ):
 Meets (Builtin.«tuple.__mul__» ⟨[.ref l,.int x u],[]⟩) (fun _ R s=>s.heap.get? l=some {cls:= .type "tuple",dict:=dd,data:= .seq items n,slots:=sl}/\R (.ok (.ret (Value.ref s.heap.objs.size))) {s with heap:=s.heap.push {cls:=Value.type "tuple",data:=Data.seq ((AN x.toNat items).foldl (· ++·) #[])},toks:=s.toks}):=
 .of_wp fun prog w A R s h=>by
  obtain⟨hp,g,d,tk,os⟩:=s;obtain⟨hl,h⟩:=h
  wp_walk
  have ht:IsTup hp l items:=⟨_,hl,rfl,n,rfl⟩
  rw [if_neg (by rw [hc0];exact Ar)]
  wp_walk
  rw [if_neg hc3]
  wp_walk
  exact⟨_,rfl,h⟩
section
variable {X:Cx}
theorem a86:OpR X (binaryOp .Mult) (fun x y H Q=>∃a xs n,x= .ref a/\y= .int n/\W0 X.K H a xs/\xs≠[]/\2<=n/\n<=1000000/\xs.length*n.toNat<=AJ/\∀p,H p=none->Q (.ref p) (upd H p (.tup (AN n.toNat xs).flatten))):=by
 intro pins s σ H x y v u Q I rx ry h
 obtain⟨a,xs,n,rfl,rfl,hx,hne,h1,h2,hz,q⟩:=h
 cases rx
 obtain⟨t,rfl⟩:=ry
 obtain⟨its,r,ht,_⟩:=I.tuple hx
 have hlen:its.toArray.size=xs.length:=by rw [Ae];exact r.length.symm
 have hie:its.toArray.isEmpty=false:=by
  cases its with
  |nil=>exact absurd (r.nil_iff.mp rfl) hne
  |cons _ _=>rfl
 have hnew:List.foldl (fun x1 x2=>x1++x2) #[] (AN n.toNat its.toArray)=(AN n.toNat its).flatten.toArray:=by
  have:=a1l its n.toNat []
  rw [AT] at this
  exact this
 have hc:((xs.length*n.toNat:Nat):Int)=(xs.length:Int)*n:=by rw [Int.natCast_mul,Int.toNat_of_nonneg (by lia)]
 have hsl:=sizeLine_eq
 obtain⟨⟨cls,dd,data,sl⟩,ho,hc',m,hd⟩:=id ht
 simp only at hc' hd
 subst hc' hd
 have hzz:(List.foldl (fun x1 x2=>x1++x2) #[] (AN n.toNat its.toArray)).size<=AJ:=by
  rw [hnew,Ae,a32,Nat.mul_comm,<-r.length];exact hz
 refine wpAny_binaryOp_repeat_ref (T:="tuple") (U:="int") (by decide) ht.typeIs (fun s'=>typeIs_int s' n t) a1w F.fills_int_mul F.slot_int_rmul a4i F.slot_int_index.lookup
  (call_meets F.slot_int_rmul (typeIs_int s n t) F.entry_int_rmul (F.args_int_rmul_2 _ _) (a2C n t a its.toArray m dd sl)
   ⟨ho,rfl,ht.typeIs,call_meets PySem.F.slot_tuple_mul ht.typeIs PySem.F.entry_tuple_mul (PySem.F.args_tuple_mul_2 _ _) (a29 a its.toArray m dd sl n t ?_ ?_ ?_ ?_ ?_ hzz) ⟨ho, ?_⟩⟩)
 ·have e1:¬n< -(2 ^ 63:Int):=by lia
  have e2:¬n>=2 ^ 63:=by lia
  simp [e1,e2]
  lia
 ·rw [hie]
  have:n≠1:=by lia
  simp [this]
 ·rw [hie]
  have:¬n<=0:=by lia
  simp [this]
 ·rw [hlen,<-hc]
  lia
 ·rw [hlen,<-hc]
  unfold Builtin.Tuple.tupleTooMany
  rw [decide_eq_false (by lia)]
 ·rw [hnew]
  refine⟨.ref s.heap.objs.size,_,I.laid (t':=s.toks) (o:= .tup (AN n.toNat xs).flatten) (fun b ob q=>Ak _ q) (AR _) ?_,rfl,q _ (I.hok.fresh (AR _))⟩
  exact⟨by rw [a32,Nat.mul_comm];exact hz,_,r.rep n.toNat,IsTup.new _ _⟩
def V8:b4->b4->Option b4
 | .val (.tuple ps),.val (.int k)=>if okC (fun k n=>2<=k/\k<=1000000/\1<=n/\n*k<=16777216) k ps.length=true then some (.val (.tuple (AN k.toNat ps).flatten)) else none
 |x,y=>a4R x y
theorem J1:OpM X (binaryOp .Mult) V8:=by
 intro pins s σ H x y v u Q I rx ry h
 obtain⟨F,ra,rb,rz,s0,h1,h2,h3,k⟩:=h
 unfold V8 at h3
 split at h3
 ·rename_i ps n
  split at h3
  ·rename_i c
   obtain⟨c0,c1,c2,c3⟩:=a0c.mp c
   cases h3;cases h2
   obtain⟨a,xs,rfl,hq,rl⟩:=h1
   have hlen:=rl.length
   have hz:xs.length*n.toNat<=AJ:=by
    rw [sizeLine_eq,hlen]
    have:((ps.length*n.toNat:Nat):Int)=ps.length*n:=by rw [Int.natCast_mul,Int.toNat_of_nonneg (by lia)]
    lia
   refine a86 pins s σ H _ _ v u Q I rx ry ⟨a,xs,n,rfl,rfl,o8 s0 hq.sq, ?_,by lia,by lia,hz,fun p hp=>k _ _ _ (p4.tup s0 hp (a2Y rl _))⟩
   intro e
   rw [e] at hlen
   simp at hlen
   lia
  ·cases h3
 ·exact a76 pins s σ H x y v u Q I rx ry ⟨F,_,_,rz,s0,h1,h2,h3,k⟩
end
section
variable {prog:AI}{w:AG}{A:AH}{E:AA->AC->Prop}{s:AC}
end
def a7h(h:Heap)(it:AB)(v:AA)(i:Int):Prop:=∃o,h.get? it=some o/\o.cls= .type "reversed"/\o.data= .fields #[v,rawInt i]
theorem a7h.typeIs{s:AC}{it:AB}{v:AA}{i:Int}(x:a7h s.heap it v i):s.TypeIs (.ref it) "reversed":=let ⟨o,ho,hc,_⟩:=x;⟨o,ho,hc⟩
theorem a7h.at{h h':Heap}{it:AB}{v:AA}{i:Int}(x:a7h h it v i)(e:∀o,h.get? it=some o->h'.get? it=some o):a7h h' it v i:=let ⟨o,ho,r⟩:=x;⟨o,e _ ho,r⟩
section
variable {prog:AI}{w:AG}{A:AH}{E:AA->AC->Prop}{s:AC}{u:AA}{T gid:String}{fp:List AB}{n:Nat}{P:Nat->AA->Prop}{Sq:Heap->Prop}
end
section
variable {prog:AI}{w:AG}{A:AH}{E:AA->AC->Prop}{s:AC}{u:AA}{T gid:String}{fp:List AB}{n:Nat}{P:Nat->AA->Prop}{Sq:Heap->Prop}
end
section
variable {prog:AI}{w:AG}{A:AH}{E:AA->AC->Prop}{s:AC}
end
section
variable {X:Cx}
theorem e8.reverse{K:AD}{H:Hp}:∀{ps:List PV} {xs:List V},e8 K H ps xs->e8 K H ps.reverse xs.reverse
 |[],_,r=>by cases r;exact rfl
 |p::ps,_,⟨x,r,e,hp,t⟩=>by
  subst e
  rw [List.reverse_cons,List.reverse_cons]
  exact(e8.reverse t).append ⟨x,[],rfl,hp,rfl⟩
theorem g7.reverse:∀{xs:List V} {us:List AA},g7 xs us->g7 xs.reverse us.reverse
 |_,_,.nil=> .nil
 |_,_,.cons a b=>by
  rw [List.reverse_cons,List.reverse_cons]
  exact(g7.reverse b).append (.cons a .nil)
end
section
variable {X:Cx}
theorem e8.last{K:AD}{H:Hp}{ps:List PV}{xs:List V}{p:PV}(r:e8 K H ps xs)(h:ps.getLast?=some p):∃v,xs.getLast?=some v/\C3 K H p v:=by
 rw [List.getLast?_eq_getElem?] at h
 obtain⟨v,e,q⟩:=r.get h
 exact⟨v,by rw [List.getLast?_eq_getElem?,r.length];exact e,q⟩
theorem e8.dropLast{K:AD}{H:Hp}{ps:List PV}{xs:List V}(r:e8 K H ps xs):e8 K H ps.dropLast xs.dropLast:=by
 rw [List.dropLast_eq_take,List.dropLast_eq_take,r.length]
 exact r.take _
end
def a4s(kvs:List (List k6×PV))(k:List k6):Option PV:=(kvs.find? fun kv=>decide (kv.1=k)).map (·.2)
def b1j(kvs:List (List k6×PV))(k:List k6)(v:PV):List (List k6×PV):=
 if(kvs.any fun kv=>decide (kv.1=k))=true then kvs.map (fun kv=>if kv.1=k then(kv.1,v) else kv) else kvs++[(k,v)]
theorem v7.length{K:AD}{H:Hp}:∀{kvs:List (List k6×PV)} {ys:List (List k6×V)},v7 K H kvs ys->ys.length=kvs.length
 |[],_,h=>by cases h;rfl
 |(k,p)::r,_,⟨v,t,e,q,h⟩=>by subst e;rw [AS,AS,v7.length h]
theorem v7.any{K:AD}{H:Hp}{k:List k6}:∀{kvs:List (List k6×PV)} {ys:List (List k6×V)},v7 K H kvs ys->(ys.any fun kv=>decide (kv.1=k))=(kvs.any fun kv=>decide (kv.1=k))
 |[],_,h=>by cases h;rfl
 |(k',p)::r,_,⟨v,t,e,q,h⟩=>by subst e;rw [List.any_cons,List.any_cons,v7.any h]
theorem v7.val{K:AD}{H:Hp}{k:List k6}:∀{kvs:List (List k6×PV)} {ys:List (List k6×V)},v7 K H kvs ys->(∀p,a4s kvs k=some p->∃v,W2 ys k=some v/\C3 K H p v)/\(a4s kvs k=none->W2 ys k=none)
 |[],_,h=>by cases h;exact⟨fun p e=>(nomatch e),fun _=>rfl⟩
 |(k',p)::r,_,⟨v,t,e,q,h⟩=>by
  subst e
  by_cases c:k'=k
  ·have e1:a4s ((k',p)::r) k=some p:=by simp [a4s,List.find?_cons,c]
   have e2:W2 ((k',v)::t) k=some v:=a1a c
   rw [e1,e2]
   exact⟨fun p' e'=>(by cases e';exact⟨v,rfl,q⟩),fun e'=>(nomatch e')⟩
  ·have e1:a4s ((k',p)::r) k=a4s r k:=by simp [a4s,List.find?_cons,c]
   have e2:W2 ((k',v)::t) k=W2 t k:=a09 c
   rw [e1,e2]
   exact v7.val h
theorem v7.repl{K:AD}{H:Hp}{k:List k6}{p:PV}{v:V}(hp:C3 K H p v):∀{kvs:List (List k6×PV)} {ys:List (List k6×V)},v7 K H kvs ys->v7 K H (kvs.map fun kv=>if kv.1=k then(kv.1,p) else kv) (ys.map fun kv=>if kv.1=k then(kv.1,v) else kv)
 |[],_,h=>by cases h;exact rfl
 |(k',p')::r,_,⟨v',t,e,q,h⟩=>by
  subst e
  by_cases c:k'=k
  ·rw [AM,AM]
   simp only [if_pos c]
   exact⟨v,_,rfl,hp,v7.repl hp h⟩
  ·rw [AM,AM]
   simp only [if_neg c]
   exact⟨v',_,rfl,q,v7.repl hp h⟩
theorem v7.snoc{K:AD}{H:Hp}{k:List k6}{p:PV}{v:V}(hp:C3 K H p v):∀{kvs:List (List k6×PV)} {ys:List (List k6×V)},v7 K H kvs ys->v7 K H (kvs++[(k,p)]) (ys++[(k,v)])
 |[],_,h=>by cases h;exact⟨v,[],rfl,hp,rfl⟩
 |(k',p')::r,_,⟨v',t,e,q,h⟩=>by subst e;exact⟨v',_,rfl,q,v7.snoc hp h⟩
theorem v7.put{K:AD}{H:Hp}{k:List k6}{p:PV}{v:V}{kvs:List (List k6×PV)}{ys:List (List k6×V)}(r:v7 K H kvs ys)(hp:C3 K H p v):v7 K H (b1j kvs k p) (a3l ys k v):=by
 unfold b1j a3l
 rw [r.any]
 split
 ·exact r.repl hp
 ·exact r.snoc hp
theorem p4.dct{K:AD}{F H:Hp}{a:AB}(s:e9 F H)(n:H a=none):p4 K F H F (upd H a (.dT [])) (.ref a) (.dct []):=
 ⟨W3.layH s n,⟨a,[],rfl,s.free n,m7,rfl⟩,fun _ _ _ e=>by cases e;exact n⟩
section
variable {X:Cx}
end
section
variable {prog:AI}{w:AG}{A:AH}{E:AA->AC->Prop}{s:AC}
end
section
variable {X:Cx}{pins:List (AB×Obj)}{σ:L2.St}{H:Hp}{s:AC}{a:AB}{A:AH}{E:AA->AC->Prop}
end
section
variable {X:Cx}
end
theorem a5P{K:AD}{a:AB}{o:Obj}:K.lookup a=some o->∃b,(b,o)∈K:=by
 induction K with
 |nil=>intro h;cases h
 |cons p r ih=>
  intro h
  obtain⟨b,u⟩:=p
  rw [List.lookup_cons] at h
  split at h
  ·cases h;exact⟨b,Aj ..⟩
  ·obtain⟨c,hc⟩:=ih h
   exact⟨c,Ah _ hc⟩
theorem v7.isSome{K:AD}{H:Hp}{k:List k6}{kvs:List (List k6×PV)}{ys:List (List k6×V)}(r:v7 K H kvs ys):(W2 ys k).isSome=(a4s kvs k).isSome:=by
 cases hv:a4s kvs k with
 |none=>rw [(r.val (k:=k)).2 hv];rfl
 |some p=>
  obtain⟨v,e,_⟩:=(r.val (k:=k)).1 p hv
  rw [e];rfl
section
variable {X:Cx}
end
section
variable {prog:AI}{w:AG}{A:AH}{E:AA->AC->Prop}{s:AC}
end
section
variable {X:Cx}
end
section
variable {X:Cx}
end
section
variable {prog:AI}{w:AG}{A:AH}{E:AA->AC->Prop}{s:AC}
end
section
variable {prog:AI}{w:AG}{A:AH}{E:AA->AC->Prop}{s:AC}
end
section
variable {X:Cx}
end
def a2l(A:AH)(s:AC)(u v:AA)(b:Bool):Prop:=∀(prog:AI) (w:AG) (E:AA->AC->Prop) (Q:AA->AC->Prop),Q (.bool b) s->AK (model prog w) A (richCompare .Lt u v) Q E s
section
open AutoSeq1 (wpAny_loadPart')
theorem a4q(l b:AB)(xs ys:Array AA)(n n2:Nat)(dd dd2:Option AB)(sl sl2:Array (Option AA))(e:Nat->Bool)(c:Bool):
 Meets (Builtin.«tuple.__lt__» ⟨[.ref l,.ref b],[]⟩)
  (fun A R s=>(s.heap.get? l=some {cls:= .type "tuple",dict:=dd,data:= .seq xs n,slots:=sl}/\s.heap.get? b=some {cls:= .type "tuple",dict:=dd2,data:= .seq ys n2,slots:=sl2})/\
   (∀j (h1:j<xs.size) (h2:j<ys.size),SeqAt.EqAt A.in1 s xs[j] ys[j] (e j))/\(∀j (h1:j<xs.size) (h2:j<ys.size),(∀k,k<j->e k=true)->e j=false->a2l A.in1 s xs[j] ys[j] c)/\
   ((∀k,k<min xs.size ys.size->e k=true)->c=decide (xs.size<ys.size))/\R (.ok (.ret (.bool c))) s):=
 .of_wp fun prog w A R s h=>by
  obtain⟨hp,g,d,tk,os⟩:=s
  obtain⟨⟨hl,hb⟩,he,hlt,hce,h⟩:=h
  have f2:=AutoSeq1.sub_tuple_tuple
  have hZ:(xs.toList.zip ys.toList).length=min xs.size ys.size:=by simp
  wp_walk using wpAny_loadPart' hl,wpAny_loadPart' hb,wpAny_forIn_list _ (fun A2 b s'=>b.1=none/\s'=⟨hp,g,d,tk,os⟩/\∃i,i<=min xs.size ys.size/\A2=(xs.toList.zip ys.toList).drop i/\∀k,k<i->e k=true) _
  case turn=>
   rintro⟨y,x⟩ A2 b s' ⟨hb',rfl,i,hi,hz,hR⟩
   have hlt':i<(xs.toList.zip ys.toList).length:=by
    rcases Nat.lt_or_ge i (xs.toList.zip ys.toList).length with h'|h'
    ·exact h'
    ·rw [List.drop_of_length_le h'] at hz;cases hz
   have hm:i<min xs.size ys.size:=by lia
   have h1:i<xs.size:=by lia
   have h2:i<ys.size:=by lia
   rw [List.drop_eq_getElem_cons hlt'] at hz
   injection hz with hyx hrest
   have hy:y=xs[i]:=by simpa using congrArg Prod.fst hyx
   have hx:x=ys[i]:=by simpa using congrArg Prod.snd hyx
   subst hy hx
   refine AO (he i h1 h2 prog w _ _ ?_)
   cases hq:e i with
   |true=>
    wp_walk
    exact⟨rfl,rfl,i+1,by lia,hrest,fun k hk=>by
     rcases Nat.lt_or_ge k i with h'|h'
     ·exact hR k h'
     ·rw [show k=i by lia];exact hq⟩
   |false=>
    have hl3:=hlt i h1 h2 hR hq
    show AK _ A.in1 (rule _>>=fun _=>richCompare .Lt xs[i] ys[i]>>=fun v=>ret v>>=fun q=>pure (ForInStep.done (some q,()))) _ _ _
    refine AO (wpAny_rule ?_)
    refine AO (hl3 prog w _ _ ?_)
    refine AO (AW ?_)
    refine AW ?_
    exact AW ⟨_,rfl,h⟩
  case fin=>
   rintro⟨b1,b2⟩ s' ⟨hb',rfl,i,hi,hz,hR⟩
   simp only at hb'
   subst hb'
   have hge:min xs.size ys.size<=i:=by
    rcases Nat.lt_or_ge i (xs.toList.zip ys.toList).length with h'|h'
    ·rw [List.drop_eq_getElem_cons h'] at hz;cases hz
    ·lia
   wp_walk
   refine⟨_,rfl, ?_⟩
   rw [hce fun k hk=>hR k (by lia)] at h
   exact h
  case h=>
   exact⟨rfl,rfl,0,by lia,rfl,fun k hk=>by lia⟩
variable {A:AH}{s:AC}
theorem a2l.tuples{l b:AB}{xs ys:Array AA}{e:Nat->Bool}{c:Bool}(hl:s.heap.IsTuple l xs)(hb:s.heap.IsTuple b ys)(hu:A.units<cLine)
 (he:∀j (h1:j<xs.size) (h2:j<ys.size),SeqAt.EqAt A.in1 s xs[j] ys[j] (e j)) (hlt:∀j (h1:j<xs.size) (h2:j<ys.size),(∀k,k<j->e k=true)->e j=false->a2l A.in1 s xs[j] ys[j] c)
 (hce:(∀k,k<min xs.size ys.size->e k=true)->c=decide (xs.size<ys.size)):a2l A s (.ref l) (.ref b) c:=fun prog w E Q h=>by
 obtain⟨⟨c1,d1,t1,s1⟩,o1,e1,n1,k1⟩:=id hl
 obtain⟨⟨c2,d2,t2,s2⟩,o2,e2,n2,k2⟩:=id hb
 simp only at e1 k1 e2 k2
 subst e1 k1 e2 k2
 exact richCompare_meets_room (op:= .Lt) ⟨_,o1,rfl⟩ ⟨_,o2,rfl⟩ F.slot_tuple_lt F.entry_tuple_lt (F.args_tuple_lt_2 _ _) (a4q l b xs ys n1 n2 d1 d2 s1 s2 e c)
  ⟨⟨o1,o2⟩,he,hlt,hce,show Value.bool c≠Value.notImplemented/\Q (.bool c) s from⟨(fun x=>nomatch x),h⟩⟩ hu
theorem a2l.strs(a b:Str)(t u:Tok):a2l A s (.str a t) (.str b u) (decide (a.cps.toList<b.cps.toList)):=fun prog w E Q h=>lt_str h
end
section
variable {X:Cx}{pins:List (AB×Obj)}{σ:L2.St}{H:Hp}{s:AC}
end
section
variable {X:Cx}
end
section
variable {prog:AI}{w:AG}{A:AH}{R:Result->AC->Prop}{I:AB}{fp wr:List AB}{n:Nat}{P:Nat->AA->Prop}{St:Nat->Heap->Prop}
end
section
variable {prog:AI}{w:AG}{A:AH}{E:AA->AC->Prop}{s:AC}
end
section
variable {X:Cx}
end
end PU
namespace TS
open PySem PyProof.Rows
abbrev SM(α:Type):=StateT SortSt Sem α
def g(a:Array Keyed)(i:Nat):Keyed:=(a[i]?).getD (Value.none,Value.none)
theorem a99{a:Array Keyed}{i:Nat}(h:i<a.size):a[i]?=some (g a i):=by
 unfold g;rw [getElem?_pos a i h];rfl
theorem b08{a:Array Keyed}{i:Nat}(h:i<a.size):g a i∈a.toList:=by
 have:=a99 h
 exact Array.mem_toList_iff.mpr (Array.mem_of_getElem? this)
section
variable {prog:AI}{w:AG}{A:AH}{E:AA->AC->Prop}{s:AC}
variable {κ:SortKind}{S:Keyed->Prop}{R:Keyed->Keyed->Bool}
end
def Fix(lo:Nat)(a b:Array Keyed):Prop:=∀i,i<lo->g b i=g a i
theorem Fix.refl{lo:Nat}{a:Array Keyed}:Fix lo a a:=fun _ _=>rfl
theorem Fix.trans{lo:Nat}{a b c:Array Keyed}(h:Fix lo a b)(k:Fix lo b c):Fix lo a c:=fun i hi=>(k i hi).trans (h i hi)
structure B(κ:SortKind)(a₀:Array Keyed)(st:SortSt):Prop where
 perm:(arrOf st).Perm a₀
 kind:kindOf st=κ
 failed:failedOf st=none
section
variable {prog:AI}{w:AG}{A:AH}{E:AA->AC->Prop}{s:AC}
variable {κ:SortKind}{S:Keyed->Prop}{R:Keyed->Keyed->Bool}{a₀:Array Keyed}
theorem B.size{st:SortSt}(h:B κ a₀ st):(arrOf st).size=a₀.size:=h.perm.size_eq
theorem B.set{st:SortSt}(h:B κ a₀ st){xs:Array Keyed}(hp:xs.Perm (arrOf st)):B κ a₀ (setArr st xs):=⟨hp.trans h.perm,h.kind,h.failed⟩
theorem B.sg{st:SortSt}(h:B κ a₀ st)(hS:∀p∈a₀.toList,S p){i:Nat}(hi:i<a₀.size):S (g (arrOf st) i):=
 hS _ ((Array.perm_iff_toList_perm.mp h.perm).mem_iff.mp (b08 (by rw [h.size];exact hi)))
def up(lo a nrem:Nat):SM (Option (Option Nat)×Nat):=
 forIn [a:nrem] ((none,a):Option (Option Nat)×Nat) fun _ c=>do
  let t<-ltAt' (lo+c.2) (lo+c.2 - 1)
  match t with
  |some b=>if b=true then pure (.done (none,c.2)) else pure (.yield (none,c.2+1))
  |_=>pure (.done (some none,c.2))
end
section
variable {prog:AI}{w:AG}{A:AH}{E:AA->AC->Prop}{s:AC}
variable {κ:SortKind}{S:Keyed->Prop}{R:Keyed->Keyed->Bool}{a₀:Array Keyed}
end
open PySem PySem.Spec PyProof.Rows
section
variable {prog:AI}{w:AG}{A:AH}{E:AA->AC->Prop}{s:AC}
variable {κ:SortKind}{S:Keyed->Prop}{R:Keyed->Keyed->Bool}
end
open PySem PySem.Spec PyProof.Rows L2 PU
section
variable {prog:AI}{w:AG}{A:AH}{E:AA->AC->Prop}{s:AC}
variable {κ:SortKind}{S:Keyed->Prop}{R:Keyed->Keyed->Bool}
end
end TS
namespace PU
open PySem PySem.Spec PyProof.Rows L2
section
variable {α:Type}{lt:α->α->Bool}
end
open PySem PySem.Spec PyProof.Rows L2 PySem.W
theorem a5O:∀{a b:k6},kV a=kV b->a=b
 | .inl _,.inl _,h=>by cases h;rfl
 | .inr _,.inr _,h=>by cases h;rfl
 | .inl _,.inr _,h=>nomatch h
 | .inr _,.inl _,h=>nomatch h
theorem a2h:∀{a b:List k6},a.map kV=b.map kV->a=b
 |[],[],_=>rfl
 |[],_::_,h=>nomatch h
 |_::_,[],h=>nomatch h
 |x::a,y::b,h=>by
  rw [AM,AM] at h
  obtain⟨h1,h2⟩:=List.cons.inj h
  rw [a5O h1,a2h h2]
def a6G(h:Heap)(u:AA)(k:List k6):Prop:=∃(a:AB) (o:Obj) (xs:Array AA) (n:Nat),u= .ref a/\h.get? a=some o/\o.cls= .type "tuple"/\o.data= .seq xs n/\g7 (k.map kV) xs.toList
theorem a6G.inj{h:Heap}{u:AA}{k j:List k6}(a:a6G h u k)(b:a6G h u j):k=j:=by
 obtain⟨a1,o1,x1,n1,rfl,g1,_,d1,v1⟩:=a
 obtain⟨a2,o2,x2,n2,e2,g2,_,d2,v2⟩:=b
 cases e2
 rw [g1] at g2;cases g2
 rw [d1] at d2;cases d2
 exact a2h (v1.inj v2)
theorem a6G.keep{h h':Heap}{u:AA}{k:List k6}(a:a6G h u k)(kp:∀b o,h.get? b=some o->h'.get? b=some o):a6G h' u k:=
 let ⟨a1,o1,x1,n1,e,g1,c,d1,v1⟩:=a;⟨a1,o1,x1,n1,e,kp _ _ g1,c,d1,v1⟩
section
variable {prog:AI}{w:AG}{A:AH}{E:AA->AC->Prop}{s:AC}
end
section
variable {prog:AI}{w:AG}{A:AH}{E:AA->AC->Prop}{s:AC}
end
section
variable {X:Cx}{pins:List (AB×Obj)}{σ:L2.St}{F H:Hp}{s:AC}
end
section
variable {X:Cx}
end
section
variable {X:Cx}
end
section
variable {X:Cx}
end
def a4x(h:Heap)(d:AB)(es:Array DictEntry)(ep:Nat):Prop:=∃o,h.get? d=some o/\o.ExactDict/\o.data= .dict es ep
section
variable {prog:AI}{w:AG}{A:AH}{E:AA->AC->Prop}{s:AC}{it d:AB}{i ep:Nat}{es:Array DictEntry}
theorem a4x.type(h:a4x s.heap d es ep):s.TypeIs (.ref d) "dict":=let ⟨o,ho,hc,_⟩:=h;⟨o,ho,hc.1⟩
theorem a4x.at{h h':Heap}(x:a4x h d es ep)(e:∀o,h.get? d=some o->h'.get? d=some o):a4x h' d es ep:=let ⟨o,ho,r⟩:=x;⟨o,e _ ho,r⟩
end
end PU
namespace TS
open PySem PySem.Spec PyProof.Rows L2 PU
section
variable {prog:AI}{w:AG}{A:AH}{E:AA->AC->Prop}{s:AC}
variable {κ:SortKind}{S:Keyed->Prop}{R:Keyed->Keyed->Bool}
end
end TS
namespace PU
open PySem PySem.Spec PyProof.Rows L2 PySem.W
section
variable {prog:AI}{w:AG}{A:AH}{E:AA->AC->Prop}{s:AC}
end
section
variable {X:Cx}
end
open PySem PySem.Spec PyProof.Rows L2
section
variable {X:Cx}{pins:List (AB×Obj)}{σ:L2.St}{H:Hp}{s:AC}{a b:AB}{kvs:List (List k6×V)}{k:List k6}{v:V}{r:AA}{A:AH}{E:AA->AC->Prop}
end
section
variable {X:Cx}
end
mutual
def nl:PV->Bool
 | .list _=>false
 | .tuple ps=>nlL ps
 | .dict ((.tuple _,_)::_)=>false
 |_=>true
def nlL:List PV->Bool
 |[]=>true
 |p::ps=>nl p && nlL ps
end
section
variable {K:AD}{F:Hp}{a:AB}{xs:List V}
end
section
variable {X:Cx}
end
section
variable {X:Cx}
end
section
variable {X:Cx}
end
section
variable {X:Cx}{tg:AE}
end
section
variable {prog:AI}{w:AG}{A:AH}{E:AA->AC->Prop}{s:AC}
end
theorem a9v{K:AD}{H:Hp}{a D:AB}{xs:List V}{kvs kvs':List (List k6×V)}(e:H D=some (.dT kvs))(h:W0 K H a xs):W0 K (upd H D (.dT kvs')) a xs:=by
 rcases h with(h|⟨o,h⟩)|h
 ·exact .inl (.inl (by rw [f8 (a42 h e (fun z=>nomatch z))];exact h))
 ·exact .inl (.inr ⟨o,by rw [f8 (a42 h e (fun z=>nomatch z))];exact h⟩)
 ·exact .inr h
def a9S(K:AD)(H:Hp)(p:List k6×V)(x:V):Prop:=∃a b,x= .ref a/\W0 K H a [.ref b,p.2]/\H b=some (.tup (p.1.map kV))
theorem a9S.upd{K:AD}{H:Hp}{D:AB}{kvs kvs':List (List k6×V)}(e:H D=some (.dT kvs)){p:List k6×V}{x:V}(h:a9S K H p x):a9S K (upd H D (.dT kvs')) p x:=
 let ⟨a,b,h1,h2,h3⟩:=h
 ⟨a,b,h1,a9v e h2,by rw [f8 (a42 h3 e (fun z=>nomatch z))];exact h3⟩
section
variable {X:Cx}{pins:List (AB×Obj)}{σ:L2.St}{A:AH}{R:Result->AC->Prop}
end
section
variable {X:Cx}
end
section
variable {X:Cx}
end
section
variable {X:Cx}
end
open Builtin Builtin.Str
section
variable {prog:AI}{w:AG}{A:AH}{E:AA->AC->Prop}{s:AC}{x y:Str}{t u:Tok}{Q:AA->AC->Prop}
end
section
variable {X:Cx}
def a5I(x:b4):Option b4:=match x with
 | .val (.int i)=>if i.natAbs.log2<1920 then some (.val (.str (AQ (toString i)))) else none
 |_=>none
theorem a3S:G2 X (.type "str") (rC1 X.K a5I):=by
 intro pins s σ H xs us Q I rv h
 obtain⟨F,x,rx,rz,rfl,s0,h1,h2,k⟩:=h
 obtain⟨u,rfl,ru⟩:=a5m rv
 unfold a5I at h2
 split at h2
 ·rename_i i
  split at h2
  ·rename_i c
   cases h2
   cases h1
   obtain⟨t,rfl⟩:=ru
   exact PySem.P.str_of_int c ⟨.str _,H,I.tok _,⟨_,rfl⟩,k _ F H (p4.here s0 rfl)⟩
  ·cases h2
 ·cases h2
def a6l(x:b4):Option b4:=match x with
 | .val (.str z)=>if z.length<=640 then(PySem.intText? z).map fun n=> .val (.int n) else none
 |_=>none
theorem a8G:G2 X (.type "int") (rC1 X.K a6l):=by
 intro pins s σ H xs us Q I rv h
 obtain⟨F,x,rx,rz,rfl,s0,h1,h2,k⟩:=h
 obtain⟨u,rfl,ru⟩:=a5m rv
 unfold a6l at h2
 split at h2
 ·rename_i z
  split at h2
  ·rename_i c
   cases hn:PySem.intText? z with
   |none=>rw [hn] at h2;cases h2
   |some n=>
    rw [hn] at h2
    cases h2
    cases h1
    obtain⟨t,rfl⟩:=ru
    exact PySem.W.KIN.call_text hn c ⟨.int n,H,I.tok _,⟨_,rfl⟩,k _ F H (p4.here s0 rfl)⟩
  ·cases h2
 ·cases h2
end
structure Chg(fs ex:List AB)(h h':Heap):Prop where
 keep:∀b o,h.get? b=some o->b∉fs->b∉ex->h'.get? b=some o
 slot:∀b o,h.get? b=some o->b∈fs->b∉ex->∃sl,h'.get? b=some {o with slots:=sl}
 size:h.objs.size<=h'.objs.size
section
variable {M:Model}{A:AH}{E:AA->AC->Prop}{s:AC}{base:Heap}{env:Env}{outer:List Env}{L e C:AB}
theorem Chg.trans{fs ex ex':List AB}{h h1 h2:Heap}(x:Chg fs ex h h1)(y:Chg fs ex' h1 h2):Chg fs (ex++ex') h h2 where
 keep:=fun b o e hf hx=>y.keep b o (x.keep b o e hf fun z=>hx (BB _ z)) hf fun z=>hx (As _ z)
 slot:=fun b o e hf hx=>by
  obtain⟨sl,e1⟩:=x.slot b o e hf fun z=>hx (BB _ z)
  obtain⟨sl2,e2⟩:=y.slot b {o with slots:=sl} e1 hf fun z=>hx (As _ z)
  exact⟨sl2,e2⟩
 size:=Nat.le_trans x.size y.size
theorem Chg.more{fs fs' ex ex':List AB}{h h':Heap}(x:Chg fs ex h h')(hf:∀b∈fs,b∈fs')(he:∀b∈ex,b∈ex'):Chg fs' ex' h h' where
 keep:=fun b o e h1 h2=>x.keep b o e (fun z=>h1 (hf b z)) fun z=>h2 (he b z)
 slot:=fun b o e h1 h2=>by
  by_cases hb:b∈fs
  ·exact x.slot b o e hb fun z=>h2 (he b z)
  ·exact⟨o.slots,x.keep b o e hb fun z=>h2 (he b z)⟩
 size:=x.size
theorem Chg.funs{fs ex:List AB}{h h':Heap}{l:List Env}(x:Chg fs ex h h')(hl:h.FunFrames base l)(hx:∀b∈ex,∀o,h.get? b=some o->∃vs,o.data= .fields vs):h'.FunFrames base l:=
 hl.of_keeps fun b o hb hnf=>by
  have hbx:b∉ex:=fun z=>by
   obtain⟨vs,hd⟩:=hx b z o hb
   exact hnf vs hd
  by_cases hbf:b∈fs
  ·obtain⟨sl,e⟩:=x.slot b o hb hbf hbx
   exact⟨_,e,rfl⟩
  ·exact⟨o,x.keep b o hb hbf hbx,rfl⟩
end
section
variable {P:AI}{w:AG}{K:AD}{mg:Str->Option AA}{base:Heap}{N:List Str}{qual:Str}{scope:Scope}{f:AB}{cd:AA}{A:AH}{outer:List Env}{s:AC}{H:Hp}{E:XK}
end
section
variable {X:Cx}{x:Str}{C:AB}{np cpos pos:Pos}{e₀:AE}{A2:List AE}{t:TA}{W:AB->Hp->Prop}
end
theorem Chg.any{fs ex:List AB}{h h':Heap}(c:Chg fs ex h h'){b:AB}{o:Obj}(e:h.get? b=some o)(hb:b∉ex):∃sl,h'.get? b=some {o with slots:=sl}:=by
 by_cases hf:b∈fs
 ·exact c.slot b o e hf hb
 ·exact⟨o.slots,c.keep b o e hf hb⟩
section
variable {X:Cx}{pins:List (AB×Obj)}{σ:L2.St}{H:Hp}{s:AC}
end
inductive FX where
 |fl (f:Fl)|rz (c:Str) (ρ:a8)
def a9Q(K:AD)(mg:Str->Option AA)(E:L2.St->XK)(F0 H0 F:Hp)(σ0:L2.St)(D:O0):FX->Prop
 | .fl f=>Fin K F0 H0 F D f
 | .rz c ρ=>∃C,mg c=some (.ref C)/\∀σ a F' H',e9 F F'->S3 K F0 H0 F' H' σ ρ->H' a=none->E σ (.ref a) (some C) H'
theorem a9Q.later{K:AD}{mg:Str->Option AA}{E:L2.St->XK}{F0 H0 F F1:Hp}{σ0 σ1:L2.St}{D:O0}(s:e9 F F1):∀{fx:FX},a9Q K mg E F0 H0 F σ0 D fx->a9Q K mg E F0 H0 F1 σ1 D fx
 | .fl _,h=>Fin.later s h
 | .rz _ _,⟨C,h1,h2⟩=>⟨C,h1,fun σ a F' H' s' so hn=>h2 σ a F' H' (s.trans s') so hn⟩
section
variable {X:Cx}{E:L2.St->XK}
end
section
variable {X:Cx}{E:L2.St->XK}{CX:CXT}
end
def left(g:List PV->Option (b4 ⊕ Str))(ps:List PV):Option b4:=(g ps).bind fun r=>match r with
 | .inl r=>some r
 | .inr _=>none
section
variable {X:Cx}
end
section
variable {X:Cx}
theorem apart{pins:List (AB×Obj)}{σ:L2.St}{H:Hp}{s:AC}{b:AB}(I:e7 X pins σ H s)(hx0:X.ex=[])(h:s.heap.get? b=none):X.s₀.heap.get? b=none/\b≠X.env.locals/\(∀x z,X.env.cells.lookup x=some z->z≠b)/\∀p∈X.pn++pins,p.1≠b:=by
 refine⟨?_,fun e=> ?_,fun x z hz e=> ?_,fun p hp e=> ?_⟩
 ·cases h0:X.s₀.heap.get? b with
  |none=>rfl
  |some o=>
   obtain⟨o',e⟩:=I.base.there b o h0 (fun z=>by rw [hx0] at z;cases z)
   rw [h] at e;cases e
 ·obtain⟨m,⟨o,_,_,ho,_⟩,_⟩:=I.loc
  rw [<-e,h] at ho;cases ho
 ·obtain⟨v,o,ho,_⟩:=I.cell x z hz
  rw [e,h] at ho;cases ho
 ·have:=(I.pin p hp).1
  rw [e,h] at this;cases this
end
section
variable {X:Cx}
end
section
variable {X:Cx}
end
section
variable {X:Cx}{pins:List (AB×Obj)}{σ:L2.St}{H:Hp}{s:AC}
end
def O0.drop(D:O0)(i:Nat):O0:=⟨fun σ H=>D.nx (σ.set i none) H,D.rt,fun σ H=>D.bk (σ.set i none) H,fun σ H=>D.ct (σ.set i none) H⟩
section
variable {X:Cx}
end
def a92(i:Nat):Fl->Fl
 | .nx ρ=> .nx (ρ.set i none)
 | .rt r=> .rt r
 | .bk ρ=> .bk (ρ.set i none)
 | .ct ρ=> .ct (ρ.set i none)
theorem o9{α:Type}{l:List (Option α)}{i j:Nat}{r:α}(h:(l.set i none)[j]?=some (some r)):i≠j/\l[j]?=some (some r):=by
 rw [List.getElem?_set] at h
 by_cases hij:i=j
 ·rw [if_pos hij] at h
  split at h
  ·cases h
  ·cases h
 ·rw [if_neg hij] at h;exact⟨hij,h⟩
theorem S3.drop{K:AD}{F0 H0 F H:Hp}{σ:L2.St}{ρ:a8}(s:S3 K F0 H0 F H σ ρ)(i:Nat):S3 K F0 H0 F H (σ.set i none) (ρ.set i none):=by
 refine⟨s.x,⟨s.e.fh,by simp [s.e.len],fun j q e=> ?_,fun j ps e=> ?_,fun j k ps qs a hjk e1 e2 e3 e4=> ?_⟩,fun j ps a e1 e2=> ?_⟩
 ·obtain⟨n,e⟩:=o9 e
  rw [List.getElem?_set_ne n]
  exact s.e.at_ j q e
 ·exact s.e.nb j ps (o9 e).2
 ·exact s.e.ap j k ps qs a hjk (o9 e1).2 (o9 e2).2 (o9 e3).2 (o9 e4).2
 ·exact s.nw j ps a (o9 e1).2 (o9 e2).2
theorem Fin.drop{K:AD}{F0 H0 F:Hp}{D:O0}{i:Nat}:∀{fl:Fl},Fin K F0 H0 F D (a92 i fl)->Fin K F0 H0 F (O0.drop D i) fl
 | .nx _,h=>fun σ' F' H' s' so=>h _ F' H' s' (so.drop i)
 | .rt _,h=>h
 | .bk _,h=>fun σ' F' H' s' so=>h _ F' H' s' (so.drop i)
 | .ct _,h=>fun σ' F' H' s' so=>h _ F' H' s' (so.drop i)
section
variable {X:Cx}
end
section
variable {X:Cx}
end
section
variable {X:Cx}
end
section
variable {X:Cx}
end
section
variable {X:Cx}
end
section
variable {X:Cx}
end
structure FnV(K:AD)(mg:Str->Option AA)(x:Str)(f:AB):Prop where
 mg:mg x=some (.ref f)
 at_:a3m K x (.ref f)
 one:∀a,a3m K x (.ref a)->a=f
def a73(K:AD)(x:Str)(f:AB):Bool:=K.all fun p=>match p.2.data with
 | .func fd=> !(fd.name==x)||p.1==f
 |_=>true
theorem a7V{K:AD}{a:AB}{o:Obj}:K.lookup a=some o->(a,o)∈K:=by
 induction K with
 |nil=>intro h;cases h
 |cons p r ih=>
  intro h
  obtain⟨b,u⟩:=p
  rw [List.lookup_cons] at h
  split at h
  ·rename_i z
   cases h
   rw [beq_iff_eq.mp z]
   exact Aj
  ·exact Ah _ (ih h)
theorem a93{K:AD}{mg:Str->Option AA}{x:Str}{f:AB}{oc:AA}{od:Option AB}{fd:FuncData}{sl:Array (Option AA)}(hm:mg x=some (.ref f))(l:K.lookup f=some ⟨oc,od,.func fd,sl⟩)(hn:fd.name=x)(q:a73 K x f=true):FnV K mg x f:=by
 refine⟨hm,⟨f,oc,od,fd,sl,rfl,l,hn⟩,fun a h=> ?_⟩
 obtain⟨b,oc',od',fd',sl',e,l',hn'⟩:=h
 cases e
 have:=List.all_eq_true.mp q _ (a7V l')
 simp only [hn',beq_self_eq_true,Bool.not_true,Bool.false_or] at this
 exact beq_iff_eq.mp this
abbrev a4O(x:Str):PV:= .dict [(.str x,.none)]
section
variable {X:Cx}
theorem a9F{x:Str}{f:AB}{pos:Pos}(v:FnV X.K X.mg x f)(hg:Gl X x:=by rfl)(hd:(x==("__debug__":Str))=false:=by decide):EE X (.Name x pos) (mC (a4O x)):=
 Q4 (v:= .ref f) (a6u hg v.mg rfl hd) fun H=>Or.inr (Or.inr ⟨x,_,rfl,.inl ⟨rfl,v.at_⟩⟩)
def a56(X:Cx)(n k':Nat)(tab:List (Str×(List PV->Option b4))):Prop:=∀x g,tab.lookup x=some g->∃f fd ps k,O1 X.prog X.w X.K X.mg X.base CX0 k f fd ps (spP X.K ps.length g)/\k<=k'/\PySem.W.keepIn X.K (.ref f)=true/\a1D X.K fd ps []/\ps.length=n/\∀a,a3m X.K x (.ref a)->a=f
theorem a6O{n k':Nat}:a56 X n k' []:=fun _ _ h=>nomatch h
theorem a5E{n k k':Nat}{x:Str}{f:AB}{ps:List Str}{g:List PV->Option b4}{t:List (Str×(List PV->Option b4))}(d:d0 X.prog X.w X.K X.mg X.base x ps k g)(v:FnV X.K X.mg x f)(hk:k<=k')(hn:ps.length=n)(h:a56 X n k' t):a56 X n k' ((x,g)::t):=fun y g' q=>by
 rw [List.lookup_cons] at q
 split at q
 ·rename_i z
  cases q
  obtain⟨f',fd,G,h1,h2,h3⟩:=d
  have e:=v.mg.symm.trans h1
  cases e
  refine⟨f,fd,ps,k,G,hk,h2,h3,hn, ?_⟩
  rw [beq_iff_eq.mp z]
  exact v.one
 ·exact h y g' q
def a1r(tab:List (Str×(List PV->Option b4)))(i:Nat)(m:MA):M:=fun ρ=>match ρ[i]? with
 |some (some (.val (.dict [(.str x,.none)])))=>(tab.lookup x).bind fun g=>(m ρ).bind g
 |_=>none
theorem a7u(i:Nat){n k':Nat}{y:Str}{p pos:Pos}{tab:List (Str×(List PV->Option b4))}{e:AE}{es:List AE}{m:MA}(T:a56 X n k' tab)(hr:J5 k' X.A)(hv:PE X (.Name y p) (a51 i))(hn:∀ρ qs,m ρ=some qs->qs.length=n)(ha:EA X (e::es) m)
 (he:AL (e::es) X.env=(false,eval e X.env)::AL es X.env:=by rfl) (hpl:(backTo pos (AL es X.env)).any (·.1)=false:=by rfl):
 EE X (.Call (.Name y p) (e::es) [] pos) (a1r tab i m):=by
 intro pins s σ H Q I ⟨F,ρ,r,env,hm,k⟩
 unfold a1r at hm
 split at hm
 ·rename_i x hρ
  cases hl:tab.lookup x with
  |none=>rw [hl] at hm;cases hm
  |some g=>
   rw [hl,AF] at hm
   obtain⟨f,fd,ps,kk,G,hk,h2,h3,h4,one⟩:=T x g hl
   obtain⟨v,hσ,hrep⟩:=env.at_ i _ hρ
   have hvf:v= .ref f:=by
    rcases hrep with⟨_,_,_,_,kk1,w1,t1,_,zz,_⟩|⟨_,_,_,_,kk1,w1,t1,_,zz,_⟩|⟨z,t,e,hz⟩
    ·cases zz
    ·cases zz
    ·cases e
     rcases hz with⟨_,hz⟩|⟨e,_⟩
     ·obtain⟨a,_,_,_,_,ea,_⟩:=id hz
      subst ea
      rw [one a hz]
     ·cases e
   subst hvf
   refine wpAny_Call_Name_kw (G0 (hv pins s σ H (fun v H1=>v= .ref f/\H1=H) I ⟨.ref f,hσ,rfl,rfl⟩) fun u s1 ⟨v,H1,I1,rv,hv1,hH⟩=> ?_)
   subst hv1 hH
   cases(show u=Value.ref f from rv)
   obtain⟨qs,e1,e2⟩:=bind_some hm
   refine PySem.W.callWith_K (h₀:=X.base) I1.ok.mod.kin h2 (G0 (ha pos pins s1 σ H1 (fun vs H2=>∃F2,W3 F H1 F2 H2/\e8 X.K F2 qs vs) I1 ⟨F,ρ,qs,env,e1,fun vs F2 H2 x rl=>⟨F2,x,rl⟩⟩) fun us s2 ⟨vs,H2,I2,rr,F2,x2,rl⟩=>⟨I2.kIn, ?_⟩) he hpl
   refine a8l (dvs:=[]) (ds:=[]) (sp:=spP X.K ps.length g) (E:=E0) G (hr.mono hk) h3 .nil a9L I2 rr ?_
   show spP X.K ps.length g (vs++[]) H2 Q E0
   rw [Ag]
   exact⟨F2,qs,r,x2.fh,rl,(hn _ _ e1).trans h4.symm,e2,fun v F3 H3 o=>k v F3 H3 (p4.trans x2 o)⟩
 ·cases hm
end
section
variable {X:Cx}
end
section
variable {X:Cx}
end
section
variable {X:Cx}
end
section
variable {X:Cx}
def a9P(Φ:L2.St->Hp->Prop)(K:AD)(F0 H0 F:Hp)(D:O0):Fl->Prop
 | .nx ρ=>∀σ' F' H',e9 F F'->S3 K F0 H0 F' H' σ' ρ->Φ σ' H'->D.nx σ' H'
 | .rt r=>∀v F' H',p4 K F0 H0 F' H' v r->D.rt v H'
 | .bk ρ=>∀σ' F' H',e9 F F'->S3 K F0 H0 F' H' σ' ρ->Φ σ' H'->D.bk σ' H'
 | .ct ρ=>∀σ' F' H',e9 F F'->S3 K F0 H0 F' H' σ' ρ->Φ σ' H'->D.ct σ' H'
theorem a9P.later{Φ:L2.St->Hp->Prop}{K:AD}{F0 H0 F F1:Hp}{D:O0}(s:e9 F F1):∀{fl:Fl},a9P Φ K F0 H0 F D fl->a9P Φ K F0 H0 F1 D fl
 | .nx _,h=>fun σ' F' H' s' so=>h σ' F' H' (s.trans s') so
 | .rt _,h=>h
 | .bk _,h=>fun σ' F' H' s' so=>h σ' F' H' (s.trans s') so
 | .ct _,h=>fun σ' F' H' s' so=>h σ' F' H' (s.trans s') so
variable {Φ:L2.St->Hp->Prop}{I:List Nat}
end
mutual
def a5D:PV->Bool
 | .none=>true
 | .bool _=>true
 | .int _=>true
 | .str _=>true
 | .tuple ps=>a4N ps
 |_=>false
def a4N:List PV->Bool
 |[]=>true
 |p::ps=>a5D p && a4N ps
end
mutual
theorem a5f{K:AD}{F G:Hp}(h:∀c ys,F c=some (.tup ys)->G c=some (.tup ys)):∀(p:PV) {v:V},a5D p=true->C3 K F p v->C3 K G p v
 | .none,_,_,r=>r
 | .bool _,_,_,r=>r
 | .int _,_,_,r=>r
 | .str _,_,_,r=>r
 | .tuple ps,_,f,⟨a,xs,e,q,r⟩=>⟨a,xs,e,q.elim (fun z=> .inl (h _ _ z)) .inr,a3F h ps (by simpa [a5D] using f) r⟩
 | .list _,_,f,_=>by simp [a5D] at f
 | .dict _,_,f,_=>by simp [a5D] at f
theorem a3F{K:AD}{F G:Hp}(h:∀c ys,F c=some (.tup ys)->G c=some (.tup ys)):∀(ps:List PV) {vs:List V},a4N ps=true->e8 K F ps vs->e8 K G ps vs
 |[],_,_,r=>r
 |p::ps,_,f,⟨v,t,e,q,r⟩=>by
  have f:a5D p=true/\a4N ps=true:=by simpa [a4N] using f
  exact⟨v,t,e,a5f h p f.1 q,a3F h ps f.2 r⟩
end
def keep(A:List Nat)(ρ:a8):a8:=ρ.zipIdx.map fun p=>if p.2∈A then p.1 else none
theorem a4V(A:List Nat)(ρ:a8):(keep A ρ).length=ρ.length:=by unfold keep;simp
theorem a6o{A:List Nat}{ρ:a8}{j:Nat}{r:b4}(h:(keep A ρ)[j]?=some (some r)):j∈A/\ρ[j]?=some (some r):=by
 unfold keep at h
 rw [Av,List.getElem?_zipIdx] at h
 cases e:ρ[j]? with
 |none=>rw [e] at h;simp at h
 |some q=>
  rw [e] at h
  simp only [Ap,Nat.zero_add,Option.some.injEq] at h
  split at h
  ·rename_i hj;exact⟨hj,by rw [h]⟩
  ·cases h
def a81(K:AD):Bool:=K.all fun p=>match p.2.cls with
 | .type x=> !(x=="list")
 |_=>true
theorem a7Y{K:AD}(nk:a81 K=true){a:AB}{o:Obj}(e:K.lookup a=some o)(hc:o.cls= .type "list"):False:=by
 obtain⟨b,hb⟩:=a5P e
 have h:=List.all_eq_true.mp nk _ hb
 simp only [hc] at h
 simp at h
theorem b0v{K:AD}{F H:Hp}{v:V}:∀{c:P8},M5 K F H v c->∃a o,v= .ref a/\F a=none/\H a=some o/\NT o
 | .lst _,⟨a,_,e,n,q,_⟩=>⟨a,_,e,n,q,fun _ h=>nomatch h⟩
 | .dct _,⟨a,_,e,n,q,_⟩=>⟨a,_,e,n,q,fun _ h=>nomatch h⟩
 | .txt _,⟨a,_,e,n,q,_⟩=>⟨a,_,e,n,q,fun _ h=>nomatch h⟩
theorem a9l{K:AD}{F H F' H':Hp}{a:AB}:∀{c:P8},M5 K F H (.ref a) c->e9 F F'->F' a=none->(∀o,H a=some o->H' a=some o)->M5 K F' H' (.ref a) c
 | .lst _,⟨a',xs,e,n,q,r⟩,s,f,h=>by cases e;exact⟨_,xs,rfl,f,h _ q,e8.mono s _ r⟩
 | .dct _,⟨a',xs,e,n,q,r⟩,s,f,h=>by cases e;exact⟨_,xs,rfl,f,h _ q,v7.mono s _ r⟩
 | .txt _,⟨a',xs,e,n,q,r⟩,s,f,h=>by cases e;exact⟨_,xs,rfl,f,h _ q,v7.mono s _ r⟩
theorem a8p{ρ:a8}{i j:Nat}{r:Option b4}{q:b4}(h:(ρ.set i r)[j]?=some (some q)):(j=i/\r=some q)\/(j≠i/\ρ[j]?=some (some q)):=by
 rw [List.getElem?_set] at h
 split at h
 ·rename_i z
  split at h
  ·exact .inl ⟨z.symm,Option.some.inj h⟩
  ·cases h
 ·rename_i z;exact .inr ⟨fun y=>z y.symm,h⟩
section
variable {X:Cx}
end
mutual
def nd:PV->Bool
 | .list ps=>ndL ps
 | .tuple ps=>ndL ps
 | .dict ((.tuple _,_)::_)=>false
 |_=>true
def ndL:List PV->Bool
 |[]=>true
 |p::ps=>nd p && ndL ps
end
section
variable {K:AD}{F:Hp}{a:AB}{xs:List (List k6×V)}
end
section
variable {X:Cx}
end
section
variable {prog:AI}{w:AG}{K:Type}[DecidableEq K]{kd:KeyKind prog w K}{A:AH}{E:AA->AC->Prop}{s:AC}
end
section
variable {X:Cx}{pins:List (AB×Obj)}{σ:L2.St}{H:Hp}{s:AC}{a:AB}{kvs:List (List k6×V)}{A:AH}{E:AA->AC->Prop}
end
section
variable {X:Cx}{o i:AE}{td ty:TE}
end
section
variable {X:Cx}
end
def byT(w:AG):Bool:=w.params.followText "set-order"
def a6F(prog:AI)(w:AG)(h:Heap)(a:AB)(es:Array (Int×AA))(ep:Nat):Prop:=
 ∃o t,h.get? a=some o/\o.ExactSet/\o.data= .set es ep t/\ElemsOf (a2i prog w) es.toList/\es.size<scanBound/\t.fits es.size=true/\t.led= !byT w/\(es.size≠0->t.plain=false)
def sOf:AA->Str
 | .str x _=>x
 |_=>⟨#[]⟩
abbrev a9K(es:Array (Int×AA)):List Str:=es.toList.map fun e=>sOf e.2
structure TxE(es:Array (Int×AA))(zs:List Str):Prop where
 all:∀e∈es.toList,∃x t,e.2= .str x t
 nd:(a9K es).Nodup
 mem:∀x,x∈a9K es↔x∈zs
theorem a6F.at'{prog:AI}{w:AG}{h h':Heap}{a:AB}{es:Array (Int×AA)}{ep:Nat}(x:a6F prog w h a es ep)(e:∀o,h.get? a=some o->h'.get? a=some o):a6F prog w h' a es ep:=
 let ⟨o,t,ho,r⟩:=x;⟨o,t,e _ ho,r⟩
section
variable {prog:AI}{w:AG}{A:AH}{E:AA->AC->Prop}{s:AC}
theorem TxE.perm{es es':Array (Int×AA)}{zs:List Str}(p:es'.toList.Perm es.toList)(T:TxE es zs):TxE es' zs where
 all:=fun e he=>T.all e (p.mem_iff.mp he)
 nd:=((p.map _).nodup_iff).mpr T.nd
 mem:=fun x=>((p.map _).mem_iff).trans (T.mem x)
end
end PU
set_option maxHeartbeats 3200000
namespace PU
open PySem PySem.Spec PyProof.Rows L2 PySem.W
section
variable {prog:AI}{w:AG}{A:AH}{E:AA->AC->Prop}{s:AC}
end
end PU
set_option maxHeartbeats 1000000
namespace PU
open PySem PySem.Spec PyProof.Rows L2 PySem.W
def a4w(h:Heap)(it:AB)(first:AA)(i:Nat)(a:AB)(n ep:Nat):Prop:=∃o,h.get? it=some o/\o.cls= .type "set_iterator"/\o.data= .fields #[first,.int i 0,.ref a,.int n 0,.int ep 0]
theorem a4w.typeIs{s:AC}{it:AB}{first:AA}{i:Nat}{a:AB}{n ep:Nat}(x:a4w s.heap it first i a n ep):s.TypeIs (.ref it) "set_iterator":=let ⟨o,ho,hc,_⟩:=x;⟨o,ho,hc⟩
theorem a4w.at'{h h':Heap}{it:AB}{first:AA}{i:Nat}{a:AB}{n ep:Nat}(x:a4w h it first i a n ep)(e:∀o,h.get? it=some o->h'.get? it=some o):a4w h' it first i a n ep:=let ⟨o,ho,r⟩:=x;⟨o,e _ ho,r⟩
section
variable {prog:AI}{w:AG}{A:AH}{E:AA->AC->Prop}{s:AC}{it a:AB}{i ep:Nat}{es:Array (Int×AA)}
theorem a6F.typeIs(x:a6F prog w s.heap a es ep):s.TypeIs (.ref a) "set":=let ⟨o,_,ho,hc,_⟩:=x;⟨o,ho,hc.1⟩
end
section
variable {prog:AI}{w:AG}{A:AH}{E:AA->AC->Prop}{s:AC}{it a:AB}{i ep:Nat}{es:Array (Int×AA)}
end
section
variable {prog:AI}{w:AG}{A:AH}{E:AA->AC->Prop}{s:AC}{a:AB}{ep:Nat}{es:Array (Int×AA)}
end
section
variable {prog:AI}{w:AG}{A:AH}{E:AA->AC->Prop}{s:AC}{a:AB}{ep:Nat}{es:Array (Int×AA)}
end
section
variable {X:Cx}{pins:List (AB×Obj)}{σ:L2.St}{H:Hp}{s:AC}
end
open PySem PySem.Spec PyProof.Rows L2
theorem p4.txt{K:AD}{F H:Hp}{a:AB}(s:e9 F H)(n:H a=none):p4 K F H F (upd H a (.dK [])) (.ref a) (.ow (.txt [])):=
 ⟨W3.layH s n,⟨a,[],rfl,s.free n,m7,rfl⟩,fun _ _ _ e=>by cases e;exact n⟩
section
variable {X:Cx}
end
abbrev ItO(f0:AA)(f1:Bool)(d:AB)(i n ep:Nat)(ok ov:AA):Obj:={cls:= .type "dict_itemiterator",dict:=none,data:= .fields #[f0,.bool f1,.ref d,.int i 0,.int n 0,.int ep 0,ok,ov],slots:= #[]}
def ItA(h:Heap)(it d:AB)(i n ep:Nat):Prop:=∃f0 f1 ok ov,h.get? it=some (ItO f0 f1 d i n ep ok ov)/\((f0= .none/\f1=false)\/∃a o,f0=rawInt (a:Nat)/\h.get? a=some o/\a≠it)
theorem ItA.at'{h h':Heap}{it d:AB}{i n ep:Nat}(x:ItA h it d i n ep)(e:∀b o,h.get? b=some o->h'.get? b=some o):ItA h' it d i n ep:=by
 obtain⟨f0,f1,ok,ov,h1,h2⟩:=x
 refine⟨f0,f1,ok,ov,e _ _ h1, ?_⟩
 rcases h2 with h2|⟨a,o,h2,h3,h4⟩
 ·exact .inl h2
 ·exact .inr ⟨a,o,h2,e _ _ h3,h4⟩
section
variable {prog:AI}{w:AG}{K:Type}[DecidableEq K]{knd:KeyKind prog w K}{A:AH}{E:AA->AC->Prop}{s:AC}
end
section
variable {prog:AI}{w:AG}{A:AH}{E:AA->AC->Prop}{s:AC}
def a5p(h:Heap)(lo:Nat)(v:AA)(kv:k6×AA):Prop:=∃a key,v= .ref a/\lo<=a/\a7T kv.1 key=true/\h.get? a=some {cls:= .type "tuple",data:= .seq #[key,kv.2]}
theorem a5p.keep{h h':Heap}{lo:Nat}{v:AA}{kv:k6×AA}(x:a5p h lo v kv)(e:∀b o,lo<=b->(∀xs n,o.data= .seq xs n->o.cls= .type "tuple"->h.get? b=some o->h'.get? b=some o)):a5p h' lo v kv:=
 let ⟨a,key,r,l,k,g⟩:=x;⟨a,key,r,l,k,e a _ l _ _ rfl rfl g⟩
end
end PU
namespace TS
open PySem PySem.Spec PyProof.Rows L2 PU
section
variable {prog:AI}{w:AG}{A:AH}{E:AA->AC->Prop}{s:AC}
variable {κ:SortKind}{S:Heap->Keyed->Prop}{R:Heap->Keyed->Keyed->Bool}
end
end TS
namespace PU
open PySem PySem.Spec PyProof.Rows L2 PySem.W
section
variable {X:Cx}{pins:List (AB×Obj)}{σ:L2.St}{H H':Hp}{s:AC}{h':Heap}
theorem e7.many{t':Nat}(I:e7 X pins σ H s)(k:∀b u,s.heap.get? b=some u->h'.get? b=some u)(old:∀b,b<s.heap.objs.size->H' b=H b)(new:∀b o,s.heap.objs.size<=b->H' b=some o->P9 X.prog X.w H' h' b o):
 e7 X pins σ H' {s with heap:=h',toks:=t'}:=by
 have tr:∀b o,H b=some o->H' b=some o:=fun b o e=>by rw [old b (I.hok.lt e)];exact e
 refine I.un ⟨fun b u q _ _ _=>k b u q,fun b u q _ _ _=>⟨u.slots,k b u q⟩,fun b u q n _=>by rw [old b (AZ q)];exact n,fun b u q _=>⟨u,k b u q⟩,fun b xs q=>tr b _ q,fun b u xs q=>tr b _ q,fun b ps q=>⟨#[],by rw [tr b _ q];simp⟩⟩ fun b o e=> ?_
 rcases Nat.lt_or_ge b s.heap.objs.size with hb|hb
 ·rw [old b hb] at e
  exact(I.hok b o e).stay (fun c v _ q=>k c v q) (fun c q=>tr c _ q) fun c xs q=>tr c _ q
 ·exact new b o hb e
end
section
variable {X:Cx}
end
section
variable {X:Cx}
end
open PySem PySem.Spec PyProof.Rows L2
section
variable {X:Cx}{pins:List (AB×Obj)}{σ:L2.St}{H:Hp}{s:AC}{a:AB}{kvs:List (k6×V)}{k:k6}{v:V}{u r:AA}{A:AH}{E:AA->AC->Prop}
end
theorem a8r{K:AD}{H:Hp}{a D:AB}{xs:List V}{kvs kvs':List (k6×V)}(e:H D=some (.dK kvs))(h:W0 K H a xs):W0 K (upd H D (.dK kvs')) a xs:=by
 rcases h with(h|⟨o,h⟩)|h
 ·exact .inl (.inl (by rw [f8 (a42 h e (fun z=>nomatch z))];exact h))
 ·exact .inl (.inr ⟨o,by rw [f8 (a42 h e (fun z=>nomatch z))];exact h⟩)
 ·exact .inr h
def a7j(K:AD)(H:Hp)(p:k6×V)(x:V):Prop:=∃a,x= .ref a/\W0 K H a [kV p.1,p.2]
theorem a7j.upd{K:AD}{H:Hp}{D:AB}{kvs kvs':List (k6×V)}(e:H D=some (.dK kvs)){p:k6×V}{x:V}(h:a7j K H p x):a7j K (upd H D (.dK kvs')) p x:=
 let ⟨a,h1,h2⟩:=h
 ⟨a,h1,a8r e h2⟩
section
variable {X:Cx}{pins:List (AB×Obj)}{σ:L2.St}{A:AH}{R:Result->AC->Prop}
end
section
variable {X:Cx}
end
section
variable {X:Cx}
end
abbrev tv(kvs:List (List k6×PV)):PV:= .dict (kvs.map fun kv=>(PyData.tuple (kv.1.map kP),kv.2))
section
variable {X:Cx}
end
mutual
def nk:PV->Bool
 | .list ps=>nkL ps
 | .tuple ps=>nkL ps
 | .dict _=>false
 |_=>true
def nkL:List PV->Bool
 |[]=>true
 |p::ps=>nk p && nkL ps
end
section
variable {K:AD}{F:Hp}{a:AB}{xs:List (k6×V)}
end
section
variable {X:Cx}
end
def a1c(F:Hp):Hp:=fun c=>match F c with
 |some (.tup ys)=>some (.tup ys)
 |_=>none
theorem a7E{F:Hp}:∀c ys,F c=some (.tup ys)->a1c F c=some (.tup ys):=fun c ys e=>by unfold a1c;rw [e]
theorem a2w{F:Hp}{c:AB}{o:HO}(e:a1c F c=some o):F c=some o/\∃ys,o= .tup ys:=by
 unfold a1c at e
 split at e
 ·rename_i ys z;cases e;exact⟨z,ys,rfl⟩
 ·cases e
theorem a6S{F:Hp}{c:AB}(f:F c=none):a1c F c=none:=by unfold a1c;rw [f]
theorem a7D{F:Hp}{c:AB}{xs:List V}(H:Hp)(s:e9 F H)(h:H c=some (.lst xs)):a1c F c=none:=by
 cases e:a1c F c with
 |none=>rfl
 |some o=>
  obtain⟨e1,ys,rfl⟩:=a2w e
  rw [s _ _ e1] at h;cases h
def a7B(A:List Nat)(ρ:a8):Bool:=A.all fun j=>match ρ[j]? with
 |some (some (.val p))=>a5D p
 |_=>false
theorem a6N{K:AD}{F H H':Hp}{σ σ':L2.St}{ρ:a8}{A:List Nat}(en:t7 K F H σ ρ)(fa:a7B A ρ=true)(hs:e9 (a1c F) H')(hl:σ'.length=σ.length)(hσ:∀j∈A,σ'[j]?=σ[j]?):t7 K (a1c F) H' σ' (keep A ρ):=by
 have at_:∀(j:Nat) (q:b4),(keep A ρ)[j]?=some (some q)->∃p v,q= .val p/\σ'[j]?=some (some v)/\C3 K (a1c F) p v:=fun j q z=>by
  obtain⟨z1,z2⟩:=a6o z
  have f1:=List.all_eq_true.mp fa j z1
  rw [z2] at f1
  cases q with
  |val p=>
   obtain⟨v,v1,v2⟩:=en.at_ j _ z2
   exact⟨p,v,rfl,by rw [hσ j z1];exact v1,a5f a7E p f1 v2⟩
  |ow c=>cases f1
  |bo c=>cases f1
 refine⟨hs,by rw [a4V,hl];exact en.len,fun j q z=> ?_,fun j c z=> ?_,fun j k c d a _ z=> ?_⟩
 ·obtain⟨p,v,rfl,h1,h2⟩:=at_ j q z
  exact⟨v,h1,h2⟩
 ·obtain⟨p,v,e,_⟩:=at_ j _ z;cases e
 ·obtain⟨p,v,e,_⟩:=at_ j _ z;cases e
theorem a0G{σ:L2.St}{i j:Nat}{v:Option V}(h:j≠i):(σ.set i v)[j]?=σ[j]?:=List.getElem?_set_ne (fun z=>h z.symm)
section
variable {X:Cx}
end
section
variable {prog:AI}{w:AG}{A:AH}{E:AA->AC->Prop}{s:AC}{z TI TO i1 i2:AB}{n1 n2 i:Nat}{P1 P2:Nat->AA->Prop}{St1 St2:Nat->Heap->Prop}{a b:AA}
end
section
variable {X:Cx}
end
section
variable {prog:AI}{w:AG}{K:Type}[DecidableEq K]{knd:KeyKind prog w K}{A:AH}{E:AA->AC->Prop}{s:AC}
end
section
variable {X:Cx}
end
section
variable {X:Cx}{tg:AE}
end
end PU
set_option maxHeartbeats 3200000
namespace PU
open PySem PySem.Spec PyProof.Rows L2 PySem.W
section
variable {prog:AI}{w:AG}{A:AH}{E:AA->AC->Prop}{s:AC}
end
end PU
set_option maxHeartbeats 1000000
namespace PU
open PySem PySem.Spec PyProof.Rows L2
section
variable {X:Cx}
def b1m(X:Cx):List V->Hp->VK->Prop:=fun xs H Q=>∃(a:AB) (zs:List Str),xs=[.ref a]/\H a=some (.lst (zs.map V.str))/\zs.length+1<4096/\∀p es ep,H p=none->TxE es zs->es.size<=zs.length->Q (.ref p) (upd H p (.ext fun h=>a6F X.prog X.w h p es ep))
end
section
variable {X:Cx}
end
section
variable {X:Cx}
end
def a5R:MS:=fun _=>none
theorem a4K{X:Cx}{st:Stmt}:ES X st a5R:=K0 a8c fun D σ H ⟨F0,H0,F,ρ,fl,so,e,fin⟩=>by cases e
section
open AutoSeq1 (wpAny_loadPart')
open PySem.MeetsSeq3 (plain_eq_loop entry_eq_loop)
theorem a60(l b:AB)(xs ys:Array AA)(n n2:Nat)(dd dd2:Option AB)(sl sl2:Array (Option AA))(e:Nat->Bool)(c:Bool)(k:Nat):
 ∀i:Nat,min xs.size ys.size - i=k->i<=min xs.size ys.size->(∀j,j<i->e j=true)->Meets (Builtin.«list.__eq__.loop» ⟨[.ref l,.ref b,rawInt i,rawInt 0],[]⟩)
  (fun A R s=>s.heap.get? l=some {cls:= .type "list",dict:=dd,data:= .seq xs n,slots:=sl}/\s.heap.get? b=some {cls:= .type "list",dict:=dd2,data:= .seq ys n2,slots:=sl2}/\
   (∀j (h1:j<xs.size) (h2:j<ys.size),SeqAt.EqAt A.in1 s xs[j] ys[j] (e j))/\(∀j (h1:j<xs.size) (h2:j<ys.size),(∀k,k<j->e k=true)->e j=false->a2l A.in1 s xs[j] ys[j] c)/\
   ((∀k,k<min xs.size ys.size->e k=true)->c=decide (xs.size<ys.size))/\R (.ok (.ret (.bool c))) s):=by
 induction k with
 |zero=>
  intro i hk hi hb4 prog w A R s h
  obtain⟨hp,g,d,tk,os⟩:=s;obtain⟨hl,hb,he,hlt,hce,h⟩:=h
  have hce':=hce fun k hk'=>hb4 k (by lia)
  wp_walk using wpAny_loadPart' hl,wpAny_loadPart' hb
  rcases Nat.lt_or_ge i xs.size with h1|h1
  ·have h2:ys.size<=i:=by lia
   have hi1:xs[((i:Nat):Int).toNat]?=some xs[i]:=by simp [h1]
   have hi2:ys[((i:Nat):Int).toNat]?=none:=by simp;lia
   rw [hi1,hi2]
   wp_walk using wpAny_loadPart' hl,wpAny_loadPart' hb
   show R (.ok (.ret (.bool (decide (xs.size<ys.size))))) _
   rw [<-hce'];exact h
  ·have hi1:xs[((i:Nat):Int).toNat]?=none:=by simp;lia
   rw [hi1]
   wp_walk using wpAny_loadPart' hl,wpAny_loadPart' hb
   show R (.ok (.ret (.bool (decide (xs.size<ys.size))))) _
   rw [<-hce'];exact h
 |succ k ih=>
  intro i hk hi hb4 prog w A R s h
  obtain⟨hp,g,d,tk,os⟩:=s;obtain⟨hl,hb,he,hlt,hce,h⟩:=h
  wp_walk using wpAny_loadPart' hl,wpAny_loadPart' hb
  have h1:i<xs.size:=by lia
  have h2:i<ys.size:=by lia
  have hi1:xs[((i:Nat):Int).toNat]?=some xs[i]:=by simp [h1]
  have hi2:ys[((i:Nat):Int).toNat]?=some ys[i]:=by simp [h2]
  have hc:((i:Int)+1)=((i+1:Nat):Int):=by push_cast;rfl
  rw [hi1,hi2]
  refine AO (he i h1 h2 prog w _ _ ?_)
  cases hq:e i with
  |true=>
   wp_walk
   rw [hc]
   exact⟨plainId_quiet plain_eq_loop _,codeAny_builtin entry_eq_loop (by
    rw [Around.under_plainId plain_eq_loop _]
    exact ih (i+1) (by lia) (by lia) (fun j hj=>by
     rcases Nat.lt_or_ge j i with h'|h'
     ·exact hb4 j h'
     ·rw [show j=i by lia];exact hq) prog w A R _ ⟨hl,hb,he,hlt,hce,h⟩)⟩
  |false=>
   have hl3:=hlt i h1 h2 hb4 hq
   wp_walk using wpAny_loadPart' hl,wpAny_loadPart' hb
   rw [hi1,hi2]
   show AK _ A.in1 (richCompare .Lt xs[i] ys[i]>>=fun v=>ret v) _ _ _
   refine AO (hl3 prog w _ _ ?_)
   exact AW h
theorem a3f(l b:AB)(xs ys:Array AA)(n n2:Nat)(dd dd2:Option AB)(sl sl2:Array (Option AA))(e:Nat->Bool)(c:Bool):
 Meets (Builtin.«list.__lt__» ⟨[.ref l,.ref b],[]⟩)
  (fun A R s=>s.heap.get? l=some {cls:= .type "list",dict:=dd,data:= .seq xs n,slots:=sl}/\s.heap.get? b=some {cls:= .type "list",dict:=dd2,data:= .seq ys n2,slots:=sl2}/\
   (∀j (h1:j<xs.size) (h2:j<ys.size),SeqAt.EqAt A.in1 s xs[j] ys[j] (e j))/\(∀j (h1:j<xs.size) (h2:j<ys.size),(∀k,k<j->e k=true)->e j=false->a2l A.in1 s xs[j] ys[j] c)/\
   ((∀k,k<min xs.size ys.size->e k=true)->c=decide (xs.size<ys.size))/\R (.ok (.ret (.bool c))) s):=by
 intro prog w A R s h
 obtain⟨hp,g,d,tk,os⟩:=s;obtain⟨hl,hb,he,hlt,hce,h⟩:=h
 have f3:=AutoSeq1.sub_list_list
 wp_walk using wpAny_loadPart' hl,wpAny_loadPart' hb
 exact⟨plainId_quiet plain_eq_loop _,codeAny_builtin entry_eq_loop (by
  rw [Around.under_plainId plain_eq_loop _]
  exact a60 l b xs ys n n2 dd dd2 sl sl2 e c _ 0 rfl (Nat.zero_le _) (fun j hj=>by lia) prog w A R _ ⟨hl,hb,he,hlt,hce,h⟩)⟩
variable {A:AH}{s:AC}
theorem a2l.lists{l b:AB}{xs ys:Array AA}{e:Nat->Bool}{c:Bool}(hl:s.heap.IsList l xs)(hb:s.heap.IsList b ys)(hu:A.units<cLine)
 (he:∀j (h1:j<xs.size) (h2:j<ys.size),SeqAt.EqAt A.in1 s xs[j] ys[j] (e j)) (hlt:∀j (h1:j<xs.size) (h2:j<ys.size),(∀k,k<j->e k=true)->e j=false->a2l A.in1 s xs[j] ys[j] c)
 (hce:(∀k,k<min xs.size ys.size->e k=true)->c=decide (xs.size<ys.size)):a2l A s (.ref l) (.ref b) c:=fun prog w E Q h=>by
 obtain⟨⟨c1,d1,t1,s1⟩,o1,e1,n1,k1⟩:=id hl
 obtain⟨⟨c2,d2,t2,s2⟩,o2,e2,n2,k2⟩:=id hb
 simp only at e1 k1 e2 k2
 subst e1 k1 e2 k2
 exact richCompare_meets_room (op:= .Lt) ⟨_,o1,rfl⟩ ⟨_,o2,rfl⟩ PySem.F.slot_list_lt PySem.F.entry_list_lt (PySem.F.args_list_lt_2 _ _) (a3f l b xs ys n1 n2 d1 d2 s1 s2 e c)
  ⟨o1,o2,he,hlt,hce,show Value.bool c≠Value.notImplemented/\Q (.bool c) s from⟨(fun x=>nomatch x),h⟩⟩ hu
end
open PySem PySem.Spec PyProof.Rows L2 PySem.W
abbrev PtL:=List (Int×Int)
def plv(p:Int×Int):PV:= .tuple [.int p.1,.int p.2]
def llv(L:PtL):PV:= .list (L.map plv)
section
variable {X:Cx}{pins:List (AB×Obj)}{σ:L2.St}{H:Hp}{s:AC}
def Gd(X:Cx)(H:Hp)(v:AA)(L:PtL):Prop:=∃x,l5 x v/\C3 X.K H (llv L) x
theorem a9d{p q:Int×Int}(h:plv p=plv q):p=q:=by
 unfold plv at h
 injection h with h
 injection h with h1 h
 injection h with h2 _
 injection h1 with h1
 injection h2 with h2
 exact Prod.ext h1 h2
theorem a8Z{L M:PtL}(h:llv L=llv M):L=M:=by
 unfold llv at h
 injection h with h
 exact List.map_inj_right (fun _ _=>a9d)|>.mp h
theorem Gd.uniq(I:e7 X pins σ H s){v:AA}{L M:PtL}(h:Gd X H v L)(g:Gd X H v M):L=M:=by
 obtain⟨x,r,h⟩:=h
 obtain⟨y,t,g⟩:=g
 obtain⟨a,xs,rfl,h1,h2⟩:=id h
 obtain⟨b,ys,rfl,g1,g2⟩:=id g
 cases r
 cases t
 exact a8Z (C3.inj I _ _ h g)
end
theorem a2F{ρ:a8}{j:Nat}{r:b4}(h:(keep [] ρ)[j]?=some (some r)):False:=by
 have:=(a6o h).1
 cases this
theorem a8L{K:AD}{H:Hp}{σ:L2.St}{ρ:a8}(h:σ.length=ρ.length):t7 K (fun _=>none) H σ (keep [] ρ):=
 ⟨fun _ _ z=>(nomatch z),by rw [a4V];exact h,fun _ _ z=>(a2F z).elim,fun _ _ z=>a2F z,fun _ _ _ _ _ _ z=>(a2F z).elim⟩
theorem S3.junk{K:AD}{F0 H0 F H H':Hp}{σ:L2.St}{ρ:a8}(so:S3 K F0 H0 F H σ ρ)(s:e9 H H')(x:Nat)(v:Option V):S3 K F0 H0 F H' (σ.set x v) (ρ.set x none):=by
 have s1:=so.ext (F':=F) (H':=H') ⟨PU.e9.refl F,s,so.e.fh.trans s,fun _ _ e _ _=>e,fun _ _ _ e=>e⟩
 have at_:∀{j:Nat} {r:b4},(ρ.set x none)[j]?=some (some r)->j≠x/\ρ[j]?=some (some r):=fun {j r} h=>by
  rcases a8p h with⟨_,z⟩|z
  ·cases z
  ·exact z
 refine⟨s1.x,⟨s1.e.fh,by simp only [List.length_set];exact so.e.len,fun j r h=> ?_,fun j c h=>s1.e.nb j c (at_ h).2,fun i j c d a hne h1 h2 h3 h4=> ?_⟩,fun j c a h1 h2=> ?_⟩
 ·obtain⟨hj,h⟩:=at_ h
  obtain⟨w,g1,g2⟩:=s1.e.at_ j r h
  exact⟨w,by rw [a0G hj];exact g1,g2⟩
 ·obtain⟨hi,h1⟩:=at_ h1
  obtain⟨hj,h2⟩:=at_ h2
  rw [a0G hi] at h3
  rw [a0G hj] at h4
  exact s1.e.ap i j c d a hne h1 h2 h3 h4
 ·obtain⟨hj,h1⟩:=at_ h1
  rw [a0G hj] at h2
  exact s1.nw j c a h1 h2
section
variable {X:Cx}
end
section
variable {X:Cx}
end
def a3n(H:Hp)(b:AB)(xs:List V)(n:Nat):Prop:=∃e:List V,e.length<=n/\H b=some (.lst (xs++e))
theorem a3n.same{H H':Hp}{b:AB}{xs:List V}{n:Nat}(g:a3n H b xs n)(s:e9 H H'):a3n H' b xs n:=let ⟨e,l,h⟩:=g;⟨e,l,s _ _ h⟩
structure Pk(K:AD)(H:Hp)(ah a0 a3 b1 b2 b3:AB)(z0 z3 y1 y2 y3:List V)(J:Hp)(n:Nat):Prop where
 t0:W0 K J a0 z0
 t3:W0 K J a3 z3
 g1:a3n J b1 y1 n
 g2:a3n J b2 y2 n
 g3:a3n J b3 y3 n
 o:∀c u,c≠ah->H c=some u->J c=some u
section
variable {K:AD}{H J J':Hp}{ah a0 a3 b1 b2 b3 c:AB}{z0 z3 y1 y2 y3:List V}{n:Nat}
theorem Pk.same(p:Pk K H ah a0 a3 b1 b2 b3 z0 z3 y1 y2 y3 J n)(s:e9 J J'):Pk K H ah a0 a3 b1 b2 b3 z0 z3 y1 y2 y3 J' n:=
 ⟨o8 s p.t0,o8 s p.t3,p.g1.same s,p.g2.same s,p.g3.same s,fun c u h q=>s _ _ (p.o c u h q)⟩
end
section
variable {X:Cx}
end
structure ApS(X:Cx)(e a:AE)(ap cp p:Pos):Prop where
 base:attributeBase e "append" X.env (eval e X.env)=eval e X.env
 few:((backTo cp (AL [a] X.env)).all (fun x=> !x.1)&&(backToKw cp (keywordEach [] X.env)).all (fun x=>x.1.isSome)
  && decide ([a].length+([]:List Keyword).length+(if([]:List Keyword).isEmpty then 0 else 1)<30))=true
 line:(ap.endLine==cp.line)=true
 se:AL [a] X.env=(false,eval a X.env)::AL [] X.env
 plain:(backTo cp (AL [] X.env)).any (·.1)=false
 sw:swapsWith (.Call (.Attribute e "append" ap) [a] [] cp) none p.line X.env=pure false
section
variable {X:Cx}
end
section
variable {X:Cx}
theorem n5{st:List Stmt}:ESs X st (fun _=>none):=fun pins s σ H D I h=>by
 obtain⟨F0,H0,F,ρ,fl,so,e,fin⟩:=h
 cases e
def B0(x y z:b4):Option b4:=match x,y,z with
 | .val (.str a),.val (.str b),.val (.int i)=>some (.val (.bool (fromIndex a.length i+b.length<=a.length && Builtin.Str.subAt a b (fromIndex a.length i))))
 |_,_,_=>none
def m3(g:b4->b4->b4->Option b4)(a b c:M):M:=fun ρ=>(a ρ).bind fun x=>(b ρ).bind fun y=>(c ρ).bind fun z=>g x y z
theorem a63:MtR X "str.startswith" (fun x xs H Q=>∃F y z rx ry rz r,xs=[y,z]/\e9 F H/\J4 X.K F H x rx/\J4 X.K F H y ry/\J4 X.K F H z rz/\B0 rx ry rz=some r/\∀v F' H',p4 X.K F H F' H' v r->Q v H'):=by
 intro pins s σ H x xs v us Q I rx rv h
 obtain⟨F,y,z,ra,rb,rc,r,rfl,s0,h1,h2,h3,h4,k⟩:=h
 cases rv with
 |cons ru rv=>
  cases rv with
  |cons ru2 rv=>
   cases rv
   unfold B0 at h4
   split at h4
   ·rename_i a b i
    cases h4
    cases h1
    cases h2
    cases h3
    obtain⟨t,rfl⟩:=rx
    obtain⟨t2,rfl⟩:=ru
    obtain⟨t3,rfl⟩:=ru2
    exact call_gives PySem.F.slot_str_startswith (typeIs_str _ _ _) PySem.F.entry_str_startswith (PySem.F.args_str_startswith_3 _ _ _) (gives_str_startswith_from a b i t t2 t3) ⟨.bl _,H,I,rfl,k _ F H (p4.here s0 rfl)⟩
   ·cases h4
theorem a1i{o e f:AE}{m n l:M}{apos cpos:Pos}(ho:EE X o m)(ha:EE X e n)(hb:EE X f l)
 (hbase:attributeBase o "startswith" X.env (eval o X.env)=eval o X.env:=by rfl)
 (hfew:((backTo cpos (AL [e,f] X.env)).all (fun x=> !x.1)&&(backToKw cpos (keywordEach [] X.env)).all (fun x=>x.1.isSome)
  && decide ([e,f].length+([]:List Keyword).length+(if([]:List Keyword).isEmpty then 0 else 1)<30))=true:=by rfl)
 (hline:(apos.endLine==cpos.line)=true:=by rfl) (hs:AL [e,f] X.env=(false,eval e X.env)::AL [f] X.env:=by rfl) (hs2:AL [f] X.env=(false,eval f X.env)::AL [] X.env:=by rfl) (hplain:(backTo cpos (AL [f] X.env)).any (·.1)=false:=by rfl):
 EE X (.Call (.Attribute o "startswith" apos) [e,f] [] cpos) (m3 B0 m n l):=
 D3 (a6t PySem.F.plainAttrs_str PySem.F.slot_str_startswith PySem.F.type_str_startswith a63 ho (B2 ha (B2 hb U1 hs2) hs) hbase hfew hline hs hplain) fun σ H Q ⟨F,ρ,r,he,hm,k⟩=>by
  obtain⟨rx,e1,hm⟩:=bind_some hm
  obtain⟨ry,e2,hm⟩:=bind_some hm
  obtain⟨rz,e3,hm⟩:=bind_some hm
  refine⟨F,ρ,rx,he,e1,fun v F1 H1 o1=>⟨?_,⟨F1,ρ,ry,he.ext o1.x,e2,fun u F2 H2 o2=>⟨F2,ρ,rz,(he.ext o1.x).ext o2.x,e3,fun w F3 H3 o3=>⟨F3,u,w,rx,ry,rz,r,rfl,o3.x.fh,(o1.rep.ext o2.x).ext o3.x,o2.rep.ext o3.x,o3.rep,hm,fun z F4 H4 o4=>k z F4 H4 (p4.trans ((o1.x.trans o2.x).trans o3.x) o4)⟩⟩⟩⟩⟩
  unfold B0 at hm
  split at hm
  ·cases o1.rep;rfl
  ·cases hm
theorem a2I(g:b4->b4->b4->Option b4)(a b c:M)(ρ:a8):m3 g a b c ρ=(a ρ).bind fun x=>(b ρ).bind fun y=>(c ρ).bind fun z=>g x y z:=Eq.trans rfl rfl
end
def a1t(x:Nat)(A:List Nat)(m1:M)(mc:MT)(ma:M)(n:MS):MS:=fun ρ=>
 if a7B A ρ=true then match m1 (keep A ρ) with
  |some (.val (.list L))=>if x<ρ.length/\L.length<AJ/\(ma (keep [] ρ)).isSome=true/\mc (ρ.set x (some (.val (.list L))))=some false then n (ρ.set x none) else none
  |_=>none
 else none
section
variable {X:Cx}
theorem a7z{x:Nat}{A:List Nat}{nx:Str}{e1 c2 ea:AE}{a2:List Stmt}{m1 ma:M}{mc:MT}{n2 n:MS}{A2:List Stmt}{p1 p1' p2 p3 q1 ap1 cp1:Pos}
 (hN:X.N.Nodup) (nl:a81 X.K=true)
 (h1:EE X e1 m1) (h2:ET X c2 mc) (ha2:ESs X a2 n2) (hv1:PE X (.Name nx q1) (a51 x)) (hea:EE X ea ma) (hr:ESs X A2 n)
 (hi:X.N[x]?=some nx:=by rfl) (hx:Loc X.env.scope nx:=by exact Or.inl rfl) (hs:swapsWith e1 (some (.Name nx p1')) p1.line X.env=pure false:=by rfl) (hf:X.fn nx=true\/X.env.scope.names.lookup nx=some .local:=by first|exact .inl rfl|exact .inr rfl)
 (b1:ApS X (.Name nx q1) ea ap1 cp1 p3:=by exact⟨rfl,rfl,rfl,rfl,rfl,rfl⟩):
 ESs X (.Assign [.Name nx p1'] e1 p1:: .If c2 a2 [] p2:: .Expr (.Call (.Attribute (.Name nx q1) "append" ap1) [ea] [] cp1) p3::A2) (a1t x A m1 mc ma n):=by
 refine a4f (a02 (a8e hN hi hx h1 hs hf) (a02 (a9M h2 ha2 a6w)
  (a02 (a6v (a6t PySem.F.plainAttrs_list PySem.F.slot_list_append PySem.F.type_list_append a1v hv1 (B2 hea U1 b1.se) b1.base b1.few b1.line b1.se b1.plain) b1.sw) hr))) fun D σ H ⟨F0,H0,F,ρ,fl,so,e,fin⟩=> ?_
 unfold a1t at e
 split at e
 case isFalse=>cases e
 rename_i fA
 split at e
 case h_2=>cases e
 rename_i L q1e
 split at e
 case isFalse=>cases e
 rename_i hc
 obtain⟨hxr,hz,hma,tst⟩:=hc
 have sFH:=so.e.fh
 have hlen:=so.e.len
 have sT:e9 (a1c F) H:=fun c o z=>sFH _ _ (a2w z).1
 have NTl:∀zs,NT (.lst zs):=fun zs _ h=>nomatch h
 refine⟨a1c F,_,_,a6N so.e fA sT rfl fun _ _=>rfl,q1e,fun v1 F1 H1 o1=> ?_⟩
 have rep1:=o1.rep
 obtain⟨b,ys,rfl,hq,rl⟩:=(show C3 X.K F1 (.list L) v1 from rep1)
 have fb:F1 b=some (.lst ys):=by
  rcases hq with(h|⟨w,h⟩)|⟨w,its,k,h1,h2,_⟩
  ·exact h
  ·have:=o1.x.nf _ _ _ h
   obtain⟨_,zs,e⟩:=a2w this
   cases e
  ·exact(a7Y nl h1 h2).elim
 have key:H b=none:=by
  cases hHb:H b with
  |none=>rfl
  |some w=>
   have h1b:=o1.x.h _ _ hHb
   have hw':w= .lst ys:=by have:=o1.x.fh _ _ fb;rw [h1b] at this;exact Option.some.inj this
   subst hw'
   have:=o1.x.nw b _ (a7D H sFH hHb) hHb (NTl _)
   rw [fb] at this;cases this
 obtain⟨U,hU⟩:∃U:Hp,U=fun c=>match F c with|some u=>some u|none=>F1 c:=⟨_,rfl⟩
 have UF:e9 F U:=fun c u z=>by rw [hU];simp only [z]
 have UH:e9 U H1:=fun c u z=>by
  rw [hU] at z
  cases h:F c with
  |some w=>simp only [h] at z;cases z;exact o1.x.h _ _ (sFH _ _ h)
  |none=>simp only [h] at z;exact o1.x.fh _ _ z
 have UF1:e9 F1 U:=fun c u z=>by
  cases h:F c with
  |some w=>
   have a1:=o1.x.h _ _ (sFH _ _ h)
   have a2:=o1.x.fh _ _ z
   rw [a1] at a2
   rw [UF _ _ h];exact a2
  |none=>rw [hU];simp only [h,z]
 have envU:t7 X.K U H1 (σ.set x (some (.ref b))) (ρ.set x (some (.val (.list L)))):=by
  have cl:∀(y:Nat) (q:b4),(ρ.set x (some (.val (.list L))))[y]?=some (some q)->(y=x/\q= .val (.list L))\/(y≠x/\ρ[y]?=some (some q)):=fun y q z=>by
   rcases a8p z with⟨a,b⟩|⟨a,b⟩
   ·exact .inl ⟨a,(Option.some.inj b).symm⟩
   ·exact .inr ⟨a,b⟩
  refine⟨UH,by simp only [List.length_set];exact hlen,fun y q z=> ?_,fun y c z=> ?_,fun y1 y2 c d b hne z1 z2 z3 z4=> ?_⟩
  ·have hyl:y<σ.length:=by have:=(Ao.mp z).1;simp only [List.length_set] at this;lia
   rcases cl y q z with⟨rfl,rfl⟩|⟨hx',w⟩
   ·exact⟨.ref b,by rw [BD hyl],C3.mono UF1 _ rep1⟩
   ·obtain⟨v,g1,g2⟩:=so.e.at_ y q w
    refine⟨v,by rw [a0G hx'];exact g1, ?_⟩
    cases q with
    |val p=>exact C3.mono UF _ g2
    |bo c=>exact absurd w (so.e.nb y c)
    |ow c=>
     have g2:M5 X.K F H v c:=g2
     obtain⟨a',u,rfl,f1',h1',nt⟩:=b0v g2
     have n1:F1 a'=none:=o1.x.nw a' u (a6S f1') h1' nt
     exact(show M5 X.K U H1 (.ref a') c from a9l g2 UF (by rw [hU];simp only [f1',n1]) fun o ho=>o1.x.h _ _ ho)
  ·rcases cl y _ z with⟨_,h⟩|⟨_,w⟩
   ·cases h
   ·exact so.e.nb y c w
  ·rcases cl y1 _ z1 with⟨_,h⟩|⟨a1,w⟩
   ·cases h
   ·rcases cl y2 _ z2 with⟨_,h⟩|⟨c1,w'⟩
    ·cases h
    ·rw [a0G a1] at z3
     rw [a0G c1] at z4
     exact so.e.ap y1 y2 c d b hne w w' z3 z4
 refine⟨U,_,false,envU,tst,fun U3 H3 x3=>a5N ?_⟩
 have hlx:(σ.set x (some (V.ref b))).length=ρ.length:=by rw [List.length_set];exact hlen
 have hxl:x<σ.length:=by lia
 have hb3:H3 b=some (.lst ys):=x3.h _ _ (o1.x.fh _ _ fb)
 obtain⟨ra,hra⟩:=Option.isSome_iff_exists.mp hma
 refine⟨.ref b,by rw [BD hxl],.inl ⟨rfl,ys,R6.of hb3⟩,_,_,_,a8L hlx,hra,fun w G7 H7 o7=> ?_⟩
 have hb7:H7 b=some (.lst ys):=o7.x.h _ _ hb3
 refine⟨b,ys,w,rfl,rfl,hb7,by rw [rl.length];exact hz, ?_⟩
 have sHH:e9 H (upd H7 b (.lst (ys++[w]))):=fun c o z=>by
  rw [f8 (fun y=>by rw [y,key] at z;cases z)]
  exact o7.x.h _ _ (x3.h _ _ (o1.x.h _ _ z))
 exact⟨F0,H0,F,_,fl,so.junk sHH x _,e,fin⟩
end
def Df0(K:AD)(x:Str)(st:Stmt):Prop:=∃f fd,PySem.W.nsIn K mainGlobals x=some (some (.ref f))/\Fun K x x st f fd
def Df(K:AD)(mg:Str->Option AA)(x:Str)(st:Stmt):Prop:=∃f fd,Fun K x x st f fd/\mg x=some (.ref f)
theorem a9C{K:AD}{x:Str}{st:Stmt}{f:AB}{oc:AA}{od an:Option AB}{osl:Array (Option AA)}{kV doc pm cdv ct:AA}(a:PySem.W.nsIn K mainGlobals x=some (some (.ref f)))
 (l:K.lookup f=some ⟨oc,od,.func (PySem.W.fnOf x x (N1 st) (C7 st) (c5 st) .none kV doc pm an cdv ct),osl⟩) (c:PySem.W.codeIn K cdv x=true) (k:PySem.W.keepIn K (.ref f)=true):Df0 K x st:=⟨_,_,a,a94 l c k⟩
theorem Df0.to{K:AD}{h:Heap}{mg:Str->Option AA}{x:Str}{st:Stmt}(d:Df0 K x st)(X:K.In h)(G:h.Ns mainGlobals mg):Df K mg x st:=let ⟨f,fd,a,F⟩:=d;⟨f,fd,F,PySem.W.mg_of X G a⟩
theorem mkS{N P:List Str}{sc:Scope}(h1:sc.kind= .function:=by rfl)(h2:sc.isCoroutine=false:=by rfl)(h3:sc.isGenerator=false:=by rfl)(h4:N.Nodup:=by decide+kernel)(h5:N.take P.length=P:=by rfl)
 (h6:∀x∈P,sc.names.lookup x=some .local\/sc.names.lookup x=some .cell:=by decide+kernel) (h7:∀y∈sc.names,y.2≠.free:=by decide+kernel):g8 N P sc:=⟨h1,h2,h3,h4,h5,h6,h7⟩
section
variable {P:AI}{w:AG}{K:AD}{mg:Str->Option AA}{base:Heap}
theorem h9{x:Str}{st:Stmt}{N ps:List Str}{k:Nat}{m:MS}(D:Df K mg x st)(S:g8 N ps (c5 st))
 (hi:∀(kV doc pm:AA) (an:Option AB) (cdv ct:AA) (us:List AA),us.length=ps.length->bindArgs (PySem.W.fnOf x x (N1 st) (C7 st) (c5 st) .none kV doc pm an cdv ct) ⟨us,[]⟩=pure (ps.zip us))
 (hb:∀(f:AB) (cdv:AA) (A:AH) (outer:List Env) (s:AC) (H:Hp) (E:XK),J5 k (A.deeper (envOfC x (c5 st) s.heap.objs.size f cdv))->ESs (a4D CX0 P w K mg base N x (c5 st) f cdv A outer s H E).nox (C7 st) m):
 d0 P w K mg base x ps (k+1) (i4 (N.length - ps.length) m):=
 let ⟨f,fd,F,hm⟩:=D
 ⟨f,fd,a9H F S (hb f),hm,F.kp,F.binds hi⟩
theorem a8W{fa:AB}{st:Stmt}{x:Str}{k:Nat}{g:List PV->Option b4}(D:Df K mg "law" st)(hfa:mg "law"=some (.ref fa))
 (hi:∀(kV doc pm:AA) (an:Option AB) (cdv ct v:AA),bindArgs (PySem.W.fnOf "law" "law" (N1 st) (C7 st) (c5 st) .none kV doc pm an cdv ct) ⟨[v],[]⟩=pure [(x,v)])
 (main:∀ns:List Int,ns.length<=63->g [.list (ns.map .int)]=some (.val (.bool true)))
 (H:∀(base:Heap) (f:AB) (fd:FuncData),K.In base->Fun K "law" "law" st f fd->O1 P w K mg base CX0 k f fd [x] (spP K 1 g)):
 ∃fd:FuncData,(∀(s:AC) (v:AA),BindsTo s fd ⟨[v],[]⟩ [(x,v)])/\∀base:Heap,K.In base->base.Ns mainGlobals mg->O1 P w K mg base CX0 k fa fd [x] (a5h K):=by
 obtain⟨f,fd,F,hm⟩:=D
 have e:=hfa.symm.trans hm
 cases e
 refine⟨fd,fun s v=> ?_,fun base kb _=>(H base _ fd kb F).imp (a8X main)⟩
 obtain⟨oc,od,kV,doc,pm,an,cdv,ct,osl,rfl,lk,hcd⟩:=F.ex
 exact .of_eq (hi kV doc pm an cdv ct v)
end
theorem el1{C:List AA->Prop}(h:∀a,C [a])(us:List AA)(e:us.length=1):C us:=by
 obtain⟨a,rfl⟩:=List.length_eq_one_iff.mp e
 exact h a
theorem elS{n:Nat}{us:List AA}(e:us.length=n+1):∃a t,us=a::t/\t.length=n:=by
 cases us with
 |nil=>cases e
 |cons a t=>exact⟨a,t,rfl,Nat.succ.inj e⟩
theorem el2{C:List AA->Prop}(h:∀a b,C [a,b])(us:List AA)(e:us.length=2):C us:=by
 obtain⟨a,t,rfl,z⟩:=elS e
 exact el1 (C:=fun t=>C (a::t)) (h a) t z
theorem el3{C:List AA->Prop}(h:∀a b c,C [a,b,c])(us:List AA)(e:us.length=3):C us:=by
 obtain⟨a,t,rfl,z⟩:=elS e
 exact el2 (C:=fun t=>C (a::t)) (h a) t z
theorem el4{C:List AA->Prop}(h:∀a b c d,C [a,b,c,d])(us:List AA)(e:us.length=4):C us:=by
 obtain⟨a,t,rfl,z⟩:=elS e
 exact el3 (C:=fun t=>C (a::t)) (h a) t z
def S(l:List Nat):Str:=⟨l.toArray⟩
theorem el5{C:List AA->Prop}(h:∀a b c d e,C [a,b,c,d,e])(us:List AA)(e:us.length=5):C us:=by
 obtain⟨a,t,rfl,z⟩:=elS e
 exact el4 (C:=fun t=>C (a::t)) (h a) t z
theorem b0V(a b:List Nat):S a++S b=S (a++b):=by
 show Str.append (S a) (S b)=_
 simp [Str.append,S]
theorem Q1(a:List Nat):(S a).length=a.length:=by simp [S,Str.length]
theorem a3o(a:List Nat):(S a).cps.toList=a:=by simp [S]
theorem b0X{a b:List Nat}(h:S a=S b):a=b:=by
 have:=congrArg (fun z:Str=>z.cps.toList) h
 simpa [S] using this
theorem b0W(a b:List Nat):(S a==S b)=(a==b):=by
 rw [Bool.eq_iff_iff]
 simp only [beq_iff_eq]
 exact⟨b0X,fun h=>by rw [h]⟩
def O8(sep:List Nat):List (List Nat)->List Nat
 |[]=>[]
 |[x]=>x
 |x::y::r=>x++sep++O8 sep (y::r)
theorem a3y(sep:List Nat):∀(ls:List (List Nat)) (acc:List Nat),(ls.foldl (fun a p=>a++sep++p) acc)=if ls=[] then acc else acc++sep++O8 sep ls
 |[],acc=>rfl
 |[x],acc=>by simp [O8]
 |x::y::r,acc=>by
  rw [List.foldl_cons,a3y sep (y::r)]
  simp [O8]
theorem a6j(sep:List Nat):∀(ls:List (List Nat)) (acc:List Nat),(ls.map S).foldl (fun a (p:Str)=>a++(S sep).cps++p.cps) acc.toArray=(ls.foldl (fun a p=>a++sep++p) acc).toArray
 |[],acc=>rfl
 |x::r,acc=>by
  rw [AM,List.foldl_cons,List.foldl_cons]
  have:acc.toArray++(S sep).cps++(S x).cps=(acc++sep++x).toArray:=by simp [S]
  rw [this]
  exact a6j sep r (acc++sep++x)
theorem b0d(sep:List Nat)(ls:List (List Nat)):Txt.join (S sep) (ls.map S)=S (O8 sep ls):=by
 unfold Txt.join Builtin.Str.glued
 cases ls with
 |nil=>rfl
 |cons x r=>
  show(⟨((r.map S).foldl (fun acc (p:Str)=>acc++(S sep).cps++p.cps) (S x).cps)⟩:Str)=_
  rw [show(S x).cps=x.toArray from rfl,a6j,a3y]
  cases r with
  |nil=>rfl
  |cons y r=>rw [if_neg (by simp)];simp [S,O8]
theorem a4T:∀ls:List (List Nat),O8 [] ls=ls.flatten
 |[]=>rfl
 |[x]=>by simp [O8]
 |x::y::r=>by simp [O8,a4T (y::r)]
theorem a1M:∀cs:List Nat,(cs.map fun c=>[c]).flatten=cs
 |[]=>rfl
 |c::cs=>by simp [a1M cs]
theorem a5z{α:Type}{xs:List α}{i:Int}(h:0<=i):L2.atI xs i=xs[i.toNat]?:=by
 unfold L2.atI L2.ixN
 rw [if_pos h]
 by_cases c:i<xs.length
 ·rw [if_pos c];rfl
 ·rw [if_neg c]
  have:xs.length<=i.toNat:=by lia
  rw [List.getElem?_eq_none_iff.mpr this];rfl
theorem b0Y{α:Type}{xs:List α}{k:Nat}:L2.atI xs (k:Int)=xs[k]?:=by
 rw [a5z (by lia)];simp
theorem b06{l:List Nat}{i:Int}{c:Nat}(hl:l.length<=16777216)(h:L2.atI l i=some c):k0 (.val (.str (S l))) (.val (.int i))=some (.val (.str (S [c]))):=by
 have hs:(S l).length<=AJ:=by rw [Q1,sizeLine_eq];exact hl
 unfold k0
 simp only [b4.rd,a3o,h,Ap,if_pos hs]
 rfl
theorem W9{l k:List Nat}(h:l.length+k.length<=16777216):A1 (.val (.str (S l))) (.val (.str (S k)))=some (.val (.str (S (l++k)))):=by
 rw [a7F (by rw [Q1,Q1,sizeLine_eq];exact h),b0V]
theorem a8S{i j:Int}(h: -18446744073709551616<i/\i<18446744073709551616):a4R (.val (.int i)) (.val (.int j))=some (.val (.int (i*j))):=a98 h
theorem a1m(i j:Int):a4Q (.val (.int i)) (.val (.int j))=some (.val (.bool (decide (i<j)))):=Eq.trans rfl rfl
theorem a7H(i j:Int):W1 (.val (.int i)) (.val (.int j))=some (.val (.bool (decide (i<=j)))):=Eq.trans rfl rfl
theorem T5{i j:Int}(h: -18446744073709551616<i/\i<18446744073709551616):V8 (.val (.int i)) (.val (.int j))=some (.val (.int (i*j))):=(show _=a4R (.val (.int i)) (.val (.int j)) from rfl).trans (a8S h)
def chK(g':b4->b4->Option b4)(mc:M)(ρ:a8)(y z:b4):Option b4:=(a5Z z).bind fun b=>if b=true then(mc ρ).bind fun w=>g' y w else some (.val (.bool false))
theorem E6(g g':b4->b4->Option b4)(ma mb mc:M)(ρ:a8):P0 g g' ma mb mc ρ=(ma ρ).bind fun x=>(mb ρ).bind fun y=>(g x y).bind (chK g' mc ρ y):=Eq.trans rfl rfl
theorem a4B(g':b4->b4->Option b4)(mc:M)(ρ:a8)(y:b4):chK g' mc ρ y (.val (.bool true))=(mc ρ).bind fun w=>g' y w:=Eq.trans rfl rfl
theorem b00(g':b4->b4->Option b4)(mc:M)(ρ:a8)(y:b4):chK g' mc ρ y (.val (.bool false))=some (.val (.bool false)):=Eq.trans rfl rfl
abbrev row(l:List Nat):PV:= .str (S l)
theorem a8O(a b:List Nat):PyData.eqv (row a) (row b)=(a==b):=by
 show PyData.eqv (.str (S a)) (.str (S b))=_
 rw [show PyData.eqv (.str (S a)) (.str (S b))=(S a==S b) by simp only [PyData.eqv],b0W]
theorem a4H(a:List Nat)(n:Nat):l4 (row a) n=true:=by cases n<;>rfl
theorem a4P{body:MS}{tg:PV->a8->Option a8}{I:Nat->a8->Prop}:∀{ps:List PV} {ρ:a8} (k:Nat),(∀(i:Nat) p,ps[i]?=some p->∀ρ,I (k+i) ρ->∃ρ1 ρ2,tg p ρ=some ρ1/\(body ρ1=some (.nx ρ2)\/body ρ1=some (.ct ρ2))/\I (k+i+1) ρ2)->I k ρ->∃ρ',J8 body tg ps ρ=some (.nx ρ')/\I (k+ps.length) ρ'
 |[],ρ,k,_,h=>⟨ρ,rfl,h⟩
 |p::ps,ρ,k,s,h=>by
  obtain⟨ρ1,ρ2,h1,h2,h3⟩:=s 0 p rfl ρ h
  obtain⟨ρ',h4,h5⟩:=a4P (ps:=ps) (ρ:=ρ2) (k+1) (fun i q hq ρ hi=>by
   have e:k+1+i=k+(i+1):=by lia
   rw [e] at hi ⊢
   exact s (i+1) q (by simpa using hq) ρ hi) h3
  refine⟨ρ', ?_,by rw [AS];have e:k+(ps.length+1)=k+1+ps.length:=by lia
                   rw [e];exact h5⟩
  unfold J8
  rw [h1]
  show(body ρ1).bind _=_
  rcases h2 with h2|h2<;>rw [h2]<;>exact h4
theorem a3w{body:MS}{tg:PV->a8->Option a8}(I:Nat->a8->Prop){ps:List PV}{ρ:a8}(s:∀(i:Nat) p,ps[i]?=some p->∀ρ,I i ρ->∃ρ1 ρ2,tg p ρ=some ρ1/\(body ρ1=some (.nx ρ2)\/body ρ1=some (.ct ρ2))/\I (i+1) ρ2)(h:I 0 ρ):∃ρ',J8 body tg ps ρ=some (.nx ρ')/\I ps.length ρ':=by
 obtain⟨ρ',a,b⟩:=a4P (I:=I) 0 (fun i p hp ρ hi=>by rw [Nat.zero_add] at hi ⊢;exact s i p hp ρ hi) h
 rw [Nat.zero_add] at b
 exact⟨ρ',a,b⟩
theorem a4o{body:MS}{tg:PV->a8->Option a8}{I:a8->Prop}{p:PV}{ρ ρ1 ρ2:a8}(h1:tg p ρ=some ρ1)(h2:body ρ1=some (.nx ρ2))(h3:I ρ2):∃ρ1 ρ2,tg p ρ=some ρ1/\(body ρ1=some (.nx ρ2)\/body ρ1=some (.ct ρ2))/\I ρ2:=⟨ρ1,ρ2,h1,.inl h2,h3⟩
theorem a6y{lo hi:Int}{i:Nat}{p:PV}(h:(Y1 lo hi)[i]?=some p):p= .int (lo+i)/\lo+i<hi:=by
 have hi':=(Ao.mp h).1
 rw [a21] at hi'
 rw [a20 hi'] at h
 cases h
 exact⟨rfl,by lia⟩
theorem a6z(n:Nat):Y1 0 (n:Int)=(Ad n).map fun k=> .int (k:Nat):=by
 unfold Y1
 have e:((n:Int) - 0).toNat=n:=by lia
 rw [e]
 exact List.map_congr_left fun k _=>by simp
theorem a61(k:Nat)(it:MI)(tg:PV->a8->Option a8)(c:MT)(elt:M)(ρ:a8):a1O k it tg c elt ρ=(it ρ).bind fun ps=>if ps.length<=AJ then(a1L c elt tg (ρ++AN k none) ps).bind fun r=>some (.own r) else none:=Eq.trans rfl rfl
theorem a3v{α:Type}{ι f:α->PV}{elt:M}{tg:PV->a8->Option a8}{ρ:a8}:∀{xs:List α},(∀x∈xs,∃ρ1,tg (ι x) ρ=some ρ1/\(elt ρ1).bind b4.toVal=some (f x))->a1L a2L elt tg ρ (xs.map ι)=some (xs.map f)
 |[],_=>rfl
 |x::xs,h=>by
  obtain⟨ρ1,h1,h2⟩:=h x Aj
  rw [AM,AM]
  unfold a1L
  rw [h1,AF]
  show((elt ρ1).bind b4.toVal).bind _=_
  rw [h2,AF,a3v fun y hy=>h y (Ah _ hy),AF]
theorem Z9{α:Type}{ι f:α->PV}{k:Nat}{it:MI}{elt:M}{tg:PV->a8->Option a8}{ρ:a8}(xs:List α)(h1:it ρ=some (xs.map ι))(h2:xs.length<=16777216)
 (h:∀x∈xs,∃ρ1,tg (ι x) (ρ++AN k none)=some ρ1/\(elt ρ1).bind b4.toVal=some (f x)):a1O k it tg a2L elt ρ=some (.own (xs.map f)):=by
 rw [a61,h1,AF,if_pos (by rw [Ai,sizeLine_eq];exact h2),a3v h,AF]
theorem E7(m:M)(ρ:a8):X5 m ρ=((m ρ).bind b4.toVal).bind PyData.items?:=Eq.trans rfl rfl
theorem a0H(m:M)(lo hi:MO)(ρ:a8):a2K m lo hi ρ=(m ρ).bind fun r=>(lo ρ).bind fun l=>(hi ρ).bind fun h=>gSl r l h:=Eq.trans rfl rfl
theorem a0J(m:M)(ρ:a8):a0I m ρ=(m ρ).bind a6n:=Eq.trans rfl rfl
theorem a5T(ρ:a8):a5S ρ=some none:=Eq.trans rfl rfl
theorem a30(i:Int):a6n (.val (.int i))=some (some i):=Eq.trans rfl rfl
theorem a1P{m:M}{ρ:a8}{r:b4}{ps:List PV}(h:m ρ=some r)(h2:PyData.items? r.rd=some ps):T8 m ρ=some ps:=by
 unfold T8
 rw [h,AF,h2]
theorem a3A{m:M}{ρ:a8}{n:Nat}(h:m ρ=some (.val (.int n)))(hn:n<4611686018427387904):a0q (a6 m d3) ρ=some ((Ad n).map fun k=> .int (k:Nat)):=by
 have e:a6 m d3 ρ=some [.int n]:=by rw [b9,h];rfl
 rw [a1u,e,AF,a4j (j:=(n:Int)) ⟨by lia,by lia⟩,a6z]
theorem a0z{sep:List Nat}{rows:List (List Nat)}{y:b4}(h:PyData.items? y.rd=some (rows.map row))(hl:(rows.map (·.length)).sum+rows.length*sep.length<=16777216):A5 (.val (.str (S sep))) y=some (.val (row (O8 sep rows))):=by
 have e1:V3 (rows.map row)=some (rows.map S):=by
  have:rows.map row=(rows.map S).map PyData.str:=by rw [At];rfl
  rw [this,a28]
 have e2:((rows.map S).map (·.length))=rows.map (·.length):=by rw [At];exact List.map_congr_left fun a _=>Q1 a
 unfold A5
 simp only [h,e1,AF,e2,Ai,Q1,if_pos hl,b0d]
theorem C0{i:Nat}{m:M}{ρ:a8}{r:b4}{p:PV}{ps:List PV}(h1:m ρ=some r)(h2:r.toVal=some p)(h3:ρ[i]?=some (some (.own ps)))(h:ps.length<16777216):p8 i m ρ=some (.nx (ρ.set i (some (.own (ps++[p]))))):=by
 unfold p8
 rw [h1,AF,h2,AF,h3]
 simp only [sizeLine_eq,if_pos h]
theorem a0a(p:b4)(ρ:a8):X6 0 (some p::ρ)=some (.rt p):=Eq.trans rfl rfl
theorem a0b(n:Nat)(r:Option b4)(ρ:a8):X6 (n+1) (r::ρ)=X6 n ρ:=Eq.trans rfl rfl
theorem a4G{ps:List PV}{n:Nat}(h:∀p∈ps,l4 p n=true):D8 ps n=true:=by
 induction ps with
 |nil=>rfl
 |cons p ps ih=>simp [D8,h p Aj,ih fun q hq=>h q (Ah _ hq)]
theorem a3X(a b:List Nat):gNe (.val (row a)) (.val (row b))=some (.val (.bool (!(a==b)))):=by
 rw [a5G (x:= .val (row a)) (y:= .val (row b)) ⟨a4H a 50,a4H b 50⟩,a5Y,a5Y,a8O]
end PU
set_option maxHeartbeats 4000000
namespace LW
open PySem PySem.Spec PyProof.Rows L2 PU
def F8:PV:=(.int 24)
def D7:PV:=(.int 4)
def G1:PV:=(.int 12)
def a0Q:MS:=
 (o0 (m2 (gIc (fun _ j=>0<j) fun i j=> .int (i % j)) (m2 V8 (m2 A1 (m2 (gIc (fun _ j=>0<j) fun i j=> .int (i % j)) (a7 0) (mC (.int 2147483629))) (mC (.int 48611))) (mC (.int 69621))) (mC (.int 2147483629))))
def z7:List PV->Option b4:=i4 0 a0Q
def C9(j6:List PV->Option b4):M:=
 (m2 k0 (a7 2) (mC (.int 1)))
def D0(j6:List PV->Option b4):M:=
 (j1 j6 (a6 (m2 k0 (a7 2) (mC (.int 2))) d3))
def m4(j6:List PV->Option b4):MS:=
 (w4 (J3 (m2 gEq (m2 k0 (a7 2) (mC (.int 0))) (mC (.str "run")))) (p8 1 (m2 A5 (mC (.str "")) (a1O 1 (a0q (a6 (m2 k0 (a7 2) (mC (.int 2))) d3)) (l6 3) a2L (C9 j6)))) (p8 1 (m2 A5 (mC (.str "")) (a1O 1 (a0q (a6 (m2 k0 (a7 2) (mC (.int 1))) d3)) (l6 3) a2L (D0 j6)))))
def C5(j6:List PV->Option b4):MS:=
 (j3 (v9 1 (a34 d3))
 (j3 (a2J (X5 (a7 0)) (l6 2) (m4 j6))
 (o0 (m2 A5 (mC (.str "")) (a7 1)))))
def V9:Nat->(List PV->Option b4)
 |0=>(i4 2 (fun _=>none))
 |n+1=>(i4 2 (C5 ((V9 n))))
def u7(n:Nat):List PV->Option b4:=(V9 n)
def y6:List PV->Option b4:=u7 6
def p7(E3:List PV->Option b4):MS:=
 (w4 (J3 (m2 (gI fun i j=> .bool (decide (j<i))) (a7 5) (mC (.int 0)))) (j3 (v9 1 (m2 A1 (a7 1) (mC (.int 1))))
 (j3 (v9 8 (j1 z7 (a6 (m2 A1 (m2 k0 (a7 0) (m2 (gIc (fun _ j=>0<j) fun i j=> .int (i % j)) (a7 1) (m1 M6 (a7 0)))) (m2 V8 (mC (.int 5)) (a7 1))) d3)))
 (w4 (a0W (J3 (m2 (gI fun i j=> .bool (decide (j<i))) (a7 3) (mC (.int 0)))) (a0W (J3 (m2 (gI fun i j=> .bool (decide (j<i))) (a7 5) (mC (.int 1)))) (J3 (m2 gEq (m2 (gIc (fun _ j=>0<j) fun i j=> .int (i % j)) (a7 8) (mC (.int 3))) (mC (.int 0)))))) (j3 (v9 9 (m2 A1 (mC (.int 2)) (m2 (gIc (fun _ j=>0<j) fun i j=> .int (i % j)) (m2 (gIc a0N fun i j=> .int (i / j)) (a7 8) (mC (.int 3))) (m2 (gI fun i j=> .int (if j<i then j else i)) (mC (.int 3)) (m2 (gI fun i j=> .int (i - j)) (a7 5) (mC (.int 1)))))))
 (j3 (b0j [10,1] (j1 E3 (a6 (a7 0) (a6 (m2 A1 (a7 1) (mC (.int 1))) (a6 (m2 (gIc a0N fun i j=> .int (i / j)) (a7 5) (a7 9)) (a6 (m2 (gI fun i j=> .int (i - j)) (a7 3) (mC (.int 1))) d3))))))
 (j3 (p8 4 (X7 (a6 (mC (.str "again")) (a6 (a7 9) (a6 (a7 10) d3)))))
 (v9 5 (m2 (gI fun i j=> .int (i - j)) (a7 5) (m2 V8 (a7 9) (m1 M6 (j1 y6 (a6 (a7 10) d3))))))))) (j3 (v9 9 (m2 A1 (mC (.int 1)) (m2 (gIc (fun _ j=>0<j) fun i j=> .int (i % j)) (m2 (gIc a0N fun i j=> .int (i / j)) (a7 8) (mC (.int 3))) (m2 (gI fun i j=> .int (if j<i then j else i)) (a7 5) (m2 A1 (mC (.int 3)) (m2 V8 (mC (.int 9)) (m2 (gIc a0N fun i j=> .int (i / j)) (m2 (gIc (fun _ j=>0<j) fun i j=> .int (i % j)) (m2 (gIc a0N fun i j=> .int (i / j)) (a7 8) (mC (.int 81))) (mC (.int 5))) (mC (.int 4)))))))))
 (j3 (p8 4 (X7 (a6 (mC (.str "run")) (a6 (m2 k0 (mC (.str "abcxz")) (m2 (gIc (fun _ j=>0<j) fun i j=> .int (i % j)) (m2 (gIc a0N fun i j=> .int (i / j)) (a7 8) (mC (.int 405))) (mC (.int 5)))) (a6 (a7 9) d3)))))
 (v9 5 (m2 (gI fun i j=> .int (i - j)) (a7 5) (a7 9)))))))) n8)
def S9(E3:List PV->Option b4):MS:=
 (j3 (v9 4 (a34 d3))
 (j3 (v9 5 (a7 2))
 (j3 (v9 6 (m2 A1 (mC (.int 1)) (m2 (gIc (fun _ j=>0<j) fun i j=> .int (i % j)) (j1 z7 (a6 (m2 A1 (m2 k0 (a7 0) (m2 (gIc (fun _ j=>0<j) fun i j=> .int (i % j)) (a7 1) (m1 M6 (a7 0)))) (a7 1)) d3)) (mC (.int 4)))))
 (j3 (a2J (a0q (a6 (a7 6) d3)) (l6 7) (p7 E3))
 (a1s 4 (o0 (X7 (a6 (a7 4) (a6 (a7 1) d3)))))))))
def a1W:Nat->(List PV->Option b4)
 |0=>(i4 7 (fun _=>none))
 |n+1=>(i4 7 (S9 ((a1W n))))
def u0(n:Nat):List PV->Option b4:=(a1W n)
def a0D:List PV->Option b4:=u0 6
def a0n:MS:=
 (j3 (w4 (J3 (m2 a4Q (a7 1) (m1 M6 (a7 0)))) (o0 (m2 k0 (a7 0) (a7 1))) n8)
 (o0 (mC (.int 0))))
def F9:List PV->Option b4:=i4 0 a0n
def a1I:MS:=
 (j3 (v9 3 (m2 A1 (a2K (a7 0) (a0I (a7 1)) a5S) (a34 (a6 (mC (.int 1)) d3))))
 (j3 (v9 4 (m2 k0 (a34 (a6 (a7 2) (a6 (a7 2) (a6 (m2 (gIc a0N fun i j=> .int (i / j)) (a7 2) (mC (.int 2))) (a6 (mC (.int 5)) d3))))) (m2 (gIc (fun _ j=>0<j) fun i j=> .int (i % j)) (m2 (gIc a0N fun i j=> .int (i / j)) (j1 z7 (a6 (j1 F9 (a6 (a7 0) (a6 (a7 1) d3))) d3)) (mC (.int 4))) (mC (.int 4)))))
 (a1s 3 (o0 (m2 k0 (j1 a0D (a6 (a7 3) (a6 (mC (.int 0)) (a6 (a7 4) (a6 (mC (.int 3)) d3))))) (mC (.int 0)))))))
def N2:List PV->Option b4:=i4 2 a1I
def A8(E1:List PV->Option b4):MS:=
 (w4 (J3 (m2 gEq (m2 k0 (a7 2) (mC (.int 0))) (mC (.str "run")))) (p8 1 (a7 2)) (p8 1 (X7 (a6 (mC (.str "again")) (a6 (m2 k0 (a7 2) (mC (.int 1))) (a6 (j1 E1 (a6 (m2 k0 (a7 2) (mC (.int 2))) d3)) d3))))))
def S7(E1:List PV->Option b4):MS:=
 (j3 (v9 1 (a34 d3))
 (j3 (a2J (X5 (a7 0)) (l6 2) (A8 E1))
 (X6 1)))
def a1U:Nat->(List PV->Option b4)
 |0=>(i4 2 (fun _=>none))
 |n+1=>(i4 2 (S7 ((a1U n))))
def G6(n:Nat):List PV->Option b4:=(a1U n)
def a0B:List PV->Option b4:=G6 6
def O9(p5 R_unfolded_part:List PV->Option b4):M:=
 (j1 R_unfolded_part (a6 (a7 1) d3))
def T1(p5 R_unfolded_part:List PV->Option b4):MS:=
 (o0 (m2 A5 (mC (.str "")) (a1O 1 (T8 (a7 0)) (l6 1) a2L (O9 p5 R_unfolded_part))))
def A9(p5 R_unfolded_part:List PV->Option b4):MS:=
 (j3 (w4 (J3 (m2 gEq (m2 k0 (a7 0) (mC (.int 0))) (mC (.str "run")))) (o0 (m2 V8 (m2 k0 (a7 0) (mC (.int 1))) (m2 k0 (a7 0) (mC (.int 2))))) n8)
 (o0 (m2 V8 (j1 p5 (a6 (m2 k0 (a7 0) (mC (.int 2))) d3)) (m2 k0 (a7 0) (mC (.int 1))))))
def C1:Nat->(List PV->Option b4)×(List PV->Option b4)
 |0=>(i4 0 (fun _=>none),i4 0 (fun _=>none))
 |n+1=>(i4 0 (T1 ((C1 n).1) ((C1 n).2)),i4 0 (A9 ((C1 n).1) ((C1 n).2)))
def B9(n:Nat):List PV->Option b4:=(C1 n).1
def a0F:List PV->Option b4:=B9 10
def t4(n:Nat):List PV->Option b4:=(C1 n).2
def R0(a1d:List PV->Option b4):MS:=
 (j3 (a17 1 (gI fun i j=> .int (i+j)) (mC (.int 1)))
 (w4 (J3 (m2 gEq (m2 k0 (a7 2) (mC (.int 0))) (mC (.str "again")))) (a17 1 (gI fun i j=> .int (i+j)) (j1 a1d (a6 (m2 k0 (a7 2) (mC (.int 2))) d3))) n8))
def a3P(a1d:List PV->Option b4):MS:=
 (j3 (v9 1 (mC (.int 0)))
 (j3 (a2J (X5 (a7 0)) (l6 2) (R0 a1d))
 (X6 1)))
def a6x:Nat->(List PV->Option b4)
 |0=>(i4 2 (fun _=>none))
 |n+1=>(i4 2 (a3P ((a6x n))))
def a0U(n:Nat):List PV->Option b4:=(a6x n)
def a5J:List PV->Option b4:=a0U 6
def V5:MS:=
 (j3 (w4 (J3 (m2 gEq (a7 0) (mC (.int 1)))) (o0 (mC (.str ""))) n8)
 (o0 (m1 a5I (a7 0))))
def B1:List PV->Option b4:=i4 0 V5
def J9(l7 R_shown_part:List PV->Option b4):M:=
 (j1 R_shown_part (a6 (a7 1) d3))
def K7(l7 R_shown_part:List PV->Option b4):MS:=
 (o0 (m2 A5 (mC (.str " ")) (a1O 1 (T8 (a7 0)) (l6 1) a2L (J9 l7 R_shown_part))))
def K8(l7 R_shown_part:List PV->Option b4):MS:=
 (j3 (w4 (J3 (m2 gEq (m2 k0 (a7 0) (mC (.int 0))) (mC (.str "run")))) (o0 (m2 A1 (m2 k0 (a7 0) (mC (.int 1))) (j1 B1 (a6 (m2 k0 (a7 0) (mC (.int 2))) d3)))) n8)
 (o0 (m2 A1 (m2 A1 (m2 A1 (mC (.str "(")) (j1 l7 (a6 (m2 k0 (a7 0) (mC (.int 2))) d3))) (mC (.str ")"))) (m1 a5I (m2 k0 (a7 0) (mC (.int 1)))))))
def v6:Nat->(List PV->Option b4)×(List PV->Option b4)
 |0=>(i4 0 (fun _=>none),i4 0 (fun _=>none))
 |n+1=>(i4 0 (K7 ((v6 n).1) ((v6 n).2)),i4 0 (K8 ((v6 n).1) ((v6 n).2)))
def v4(n:Nat):List PV->Option b4:=(v6 n).1
def T6:List PV->Option b4:=v4 10
def A6(n:Nat):List PV->Option b4:=(v6 n).2
def L0:MS:=
 (a17 4 (gI fun i j=> .int (i+j)) (mC (.int 1)))
def a3q:MS:=
 (j3 (v9 4 (a7 1))
 (j3 (A3 (a0W (J3 (m2 a4Q (a7 4) (m1 M6 (a7 0)))) (J3 (P0 W1 W1 (a7 2) (m2 k0 (a7 0) (a7 4)) (a7 3)))) L0 100)
 (X6 4)))
def a1n:List PV->Option b4:=i4 1 a3q
def a0m:MS:=
 (o0 (j1 a1n (a6 (a7 0) (a6 (a7 1) (a6 (mC (.str "0")) (a6 (mC (.str "9")) d3))))))
def v3:List PV->Option b4:=i4 0 a0m
def a1J:MS:=
 (j3 (w4 (a0i (N4 (J3 (P0 W1 W1 (mC (.int 1)) (m1 M6 (a7 0)) (mC D7)))) (J3 (m2 gNe (j1 v3 (a6 (a7 0) (a6 (mC (.int 0)) d3))) (m1 M6 (a7 0))))) (o0 (mC .none)) n8)
 (j3 (w4 (a0W (J3 (m2 gEq (m2 k0 (a7 0) (mC (.int 0))) (mC (.str "0")))) (J3 (m2 (gI fun i j=> .bool (decide (j<i))) (m1 M6 (a7 0)) (mC (.int 1))))) (o0 (mC .none)) n8)
 (o0 (m1 a6l (a7 0)))))
def N3:List PV->Option b4:=i4 0 a1J
def Q3:MS:=
 (j3 (v9 3 (j1 N3 (a6 (a7 0) d3)))
 (j3 (w4 (a0i (J3 (m2 (a0g false) (a7 3) (mC .none))) (N4 (J3 (P0 W1 W1 (a7 1) (a7 3) (a7 2))))) (o0 (mC .none)) n8)
 (X6 3)))
def z8:List PV->Option b4:=i4 1 Q3
def a0v:MS:=
 (j3 (v9 2 (j1 v3 (a6 (a7 0) (a6 (a7 1) d3))))
 (j3 (w4 (J3 (m2 gEq (a7 2) (a7 1))) (o0 (X7 (a6 (mC (.int 1)) (a6 (a7 2) d3)))) n8)
 (j3 (v9 3 (j1 z8 (a6 (a2K (a7 0) (a0I (a7 1)) (a0I (a7 2))) (a6 (mC (.int 2)) (a6 (mC F8) d3)))))
 (j3 (w4 (J3 (m2 (a0g false) (a7 3) (mC .none))) (o0 (mC .none)) n8)
 (o0 (X7 (a6 (a7 3) (a6 (a7 2) d3))))))))
def u5:List PV->Option b4:=i4 2 a0v
def a7o:MS:=
 (o0 (X7 (a6 (mC (.str "run")) (a6 (a7 0) (a6 (a7 1) d3)))))
def a2A:List PV->Option b4:=i4 0 a7o
def L5(R_again_at f6 k7:List PV->Option b4):MS:=
 (j3 (w4 (J3 (m2 gEq (a7 2) (mC (.int 0)))) (o0 (mC .none)) n8)
 (j3 (v9 5 (j1 k7 (a6 (a7 0) (a6 (a7 1) (a6 (m2 (gI fun i j=> .int (i - j)) (a7 2) (mC (.int 1))) (a6 (a7 3) d3))))))
 (j3 (w4 (a0i (J3 (m2 (a0g false) (a7 5) (mC .none))) (N4 (mtV (m3 B0 (a7 0) (a7 4) (m2 k0 (a7 5) (mC (.int 1))))))) (o0 (mC .none)) n8)
 (j3 (v9 6 (j1 u5 (a6 (a7 0) (a6 (m2 A1 (m2 k0 (a7 5) (mC (.int 1))) (mC (.int 1))) d3))))
 (j3 (w4 (a0i (J3 (m2 (a0g false) (a7 6) (mC .none))) (J3 (m2 gEq (m2 k0 (a7 6) (mC (.int 0))) (mC (.int 1))))) (o0 (mC .none)) n8)
 (o0 (X7 (a6 (X7 (a6 (mC (.str "again")) (a6 (m2 k0 (a7 6) (mC (.int 0))) (a6 (m2 k0 (a7 5) (mC (.int 0))) d3)))) (a6 (m2 k0 (a7 6) (mC (.int 1))) d3)))))))))
def l8(R_again_at f6 k7:List PV->Option b4):MS:=
 (j3 (w4 (mtV (m3 B0 (a7 0) (mC (.str "(")) (a7 1))) (o0 (j1 R_again_at (a6 (a7 0) (a6 (m2 A1 (a7 1) (mC (.int 1))) (a6 (a7 2) (a6 (mC (a4O "fold_part_at")) (a6 (mC (.str ")")) d3))))))) n8)
 (j3 (w4 (N4 (J3 (P0 W1 W1 (mC (.str "a")) (a2K (a7 0) (a0I (a7 1)) (a0I (m2 A1 (a7 1) (mC (.int 1))))) (mC (.str "z"))))) (o0 (mC .none)) n8)
 (j3 (v9 3 (j1 u5 (a6 (a7 0) (a6 (m2 A1 (a7 1) (mC (.int 1))) d3))))
 (j3 (w4 (J3 (m2 (a0g false) (a7 3) (mC .none))) (o0 (mC .none)) n8)
 (o0 (X7 (a6 (j1 a2A (a6 (m2 k0 (a7 0) (a7 1)) (a6 (m2 k0 (a7 3) (mC (.int 0))) d3))) (a6 (m2 k0 (a7 3) (mC (.int 1))) d3))))))))
def v5(R_again_at f6 k7:List PV->Option b4):MS:=
 (j3 (v9 5 (a1r [("fold_part_at",f6)] 3 (a6 (a7 0) (a6 (a7 1) (a6 (a7 2) d3)))))
 (j3 (w4 (J3 (m2 (a0g false) (a7 5) (mC .none))) (o0 (mC .none)) n8)
 (j3 (p8 4 (m2 k0 (a7 5) (mC (.int 0))))
 (j3 (w4 (N4 (mtV (m3 B0 (a7 0) (mC (.str " ")) (m2 k0 (a7 5) (mC (.int 1)))))) (a1s 4 (o0 (X7 (a6 (a7 4) (a6 (m2 k0 (a7 5) (mC (.int 1))) d3))))) n8)
 (v9 1 (m2 A1 (m2 k0 (a7 5) (mC (.int 1))) (mC (.int 1))))))))
def T0(R_again_at f6 k7:List PV->Option b4):MS:=
 (j3 (v9 4 (a34 d3))
 (A3 (mtV (mC (.bool true))) (v5 R_again_at f6 k7) 100))
def l0:Nat->(List PV->Option b4)×(List PV->Option b4)×(List PV->Option b4)
 |0=>(i4 2 (fun _=>none),i4 1 (fun _=>none),i4 2 (fun _=>none))
 |n+1=>(i4 2 (L5 ((l0 n).1) ((l0 n).2.1) ((l0 n).2.2)),i4 1 (l8 ((l0 n).1) ((l0 n).2.1) ((l0 n).2.2)),i4 2 (T0 ((l0 n).1) ((l0 n).2.1) ((l0 n).2.2)))
def B8(n:Nat):List PV->Option b4:=(l0 n).1
def m6(n:Nat):List PV->Option b4:=(l0 n).2.1
def a2z:List PV->Option b4:=m6 18
def u3(n:Nat):List PV->Option b4:=(l0 n).2.2
def a0E:List PV->Option b4:=u3 18
def A7(D9:List PV->Option b4):MS:=
 (w4 (J3 (m2 gEq (m2 k0 (a7 2) (mC (.int 0))) (mC (.str "run")))) (a17 1 (gI fun i j=> .int (i+j)) (m2 k0 (a7 2) (mC (.int 2)))) (a17 1 (gI fun i j=> .int (i+j)) (m2 V8 (m2 k0 (a7 2) (mC (.int 1))) (j1 D9 (a6 (m2 k0 (a7 2) (mC (.int 2))) d3)))))
def S6(D9:List PV->Option b4):MS:=
 (j3 (v9 1 (mC (.int 0)))
 (j3 (a2J (X5 (a7 0)) (l6 2) (A7 D9))
 (X6 1)))
def a1T:Nat->(List PV->Option b4)
 |0=>(i4 2 (fun _=>none))
 |n+1=>(i4 2 (S6 ((a1T n))))
def G5(n:Nat):List PV->Option b4:=(a1T n)
def a0A:List PV->Option b4:=G5 6
def a1K:MS:=
 (j3 (w4 (N4 (mtV (m1 (a3e "str") (a7 0)))) a5R n8)
 (j3 (v9 1 (j1 a0E (a6 (a7 0) (a6 (mC (.int 0)) (a6 (mC G1) (a6 (mC (a4O "fold_part_at")) d3))))))
 (j3 (w4 (a0i (J3 (m2 (a0g false) (a7 1) (mC .none))) (a0i (J3 (m2 gNe (m2 k0 (a7 1) (mC (.int 1))) (m1 M6 (a7 0)))) (J3 (m2 (gI fun i j=> .bool (decide (j<i))) (j1 a0A (a6 (m2 k0 (a7 1) (mC (.int 0))) d3)) (mC F8))))) a5R n8)
 (o0 (m2 k0 (a7 1) (mC (.int 0)))))))
def t8:List PV->Option b4:=i4 1 a1K
def p6(E2:List PV->Option b4):MS:=
 (w4 (J3 (m2 gEq (m2 k0 (a7 2) (mC (.int 0))) (mC (.str "again")))) (v9 1 (m2 A1 (a7 1) (j1 E2 (a6 (m2 k0 (a7 2) (mC (.int 2))) d3)))) n8)
def S8(E2:List PV->Option b4):MS:=
 (j3 (v9 1 (m1 M6 (a7 0)))
 (j3 (a2J (X5 (a7 0)) (l6 2) (p6 E2))
 (X6 1)))
def a1V:Nat->(List PV->Option b4)
 |0=>(i4 2 (fun _=>none))
 |n+1=>(i4 2 (S8 ((a1V n))))
def G8(n:Nat):List PV->Option b4:=(a1V n)
def a0C:List PV->Option b4:=G8 6
def y8(B6:List PV->Option b4):MS:=
 (w4 (J3 (m2 gEq (m2 k0 (a7 2) (mC (.int 0))) (mC (.str "again")))) (p8 1 (m2 A1 (m2 A1 (m2 A1 (mC (.str "(")) (j1 B6 (a6 (m2 k0 (a7 2) (mC (.int 2))) d3))) (mC (.str ")"))) (m1 a5I (m2 k0 (a7 2) (mC (.int 1)))))) (w4 (J3 (m2 gEq (m2 k0 (a7 2) (mC (.int 2))) (mC (.int 1)))) (p8 1 (m2 k0 (a7 2) (mC (.int 1)))) (p8 1 (m2 A1 (m2 k0 (a7 2) (mC (.int 1))) (m1 a5I (m2 k0 (a7 2) (mC (.int 2))))))))
def M8(B6:List PV->Option b4):MS:=
 (j3 (v9 1 (a34 d3))
 (j3 (a2J (X5 (a7 0)) (l6 2) (y8 B6))
 (o0 (m2 A5 (mC (.str " ")) (a7 1)))))
def a03:Nat->(List PV->Option b4)
 |0=>(i4 2 (fun _=>none))
 |n+1=>(i4 2 (M8 ((a03 n))))
def C8(n:Nat):List PV->Option b4:=(a03 n)
def X3:List PV->Option b4:=C8 6
def a0V:MS:=
 (j3 (v9 2 (j1 N2 (a6 (a7 0) (a6 (m2 V8 (mC (.int 10)) (a7 1)) (a6 (mC (.int 24)) d3)))))
 (j3 (v9 3 (j1 a0B (a6 (a7 2) d3)))
 (j3 (a1s 3 (v9 4 (j1 a0F (a6 (a7 3) d3))))
 (j3 (a1s 3 (v9 5 (j1 a5J (a6 (a7 3) d3))))
 (j3 (a1s 3 (v9 6 (j1 T6 (a6 (a7 3) d3))))
 (j3 (w4 (a0i (J3 (m2 gNe (a7 3) (a7 2))) (a0i (N4 (mtV (m1 (a3e "str") (a7 4)))) (J3 (m2 gNe (a7 4) (j1 y6 (a6 (a7 2) d3)))))) (o0 (mC (.bool false))) n8)
 (j3 (w4 (a0i (N4 (mtV (m1 (a3e "int") (a7 5)))) (a0i (mtV (m1 (a3e "bool") (a7 5))) (J3 (m2 gNe (a7 5) (j1 a0C (a6 (a7 2) d3)))))) (o0 (mC (.bool false))) n8)
 (j3 (w4 (a0i (N4 (mtV (m1 (a3e "str") (a7 6)))) (J3 (m2 gNe (a7 6) (j1 X3 (a6 (a7 2) d3))))) (o0 (mC (.bool false))) n8)
 (a1t 7 [6] (j1 t8 (a6 (a7 6) d3)) (a0i (N4 (mtV (m1 (a3e "list") (a7 7)))) (J3 (m2 gNe (a7 7) (a7 2)))) (X7 (a6 (mC (.str "run")) (a6 (mC (.str "q")) (a6 (mC (.int 1)) d3))))
 (w4 (J3 (m2 gNe (j1 t8 (a6 (a7 6) d3)) (a7 2))) (o0 (mC (.bool false))) n8))))))))))
def a9B:MS:=
 (j3 (a2J (a0q (a6 (mC (.int 8)) d3)) (l6 1) a0V)
 (o0 (mC (.bool true))))
def a7K:List PV->Option b4:=i4 7 a9B
end LW
set_option maxHeartbeats 1000000
namespace LW
open PySem PySem.Spec PyProof.Rows L2 PU
theorem a5i:∀(l:List Nat) (g:Nat->Nat),((l.map fun c=>[g c]).map (·.length)).sum=l.length
 |[],_=>rfl
 |a::l,g=>by
  have:=a5i l g
  simp only [AM,AS,Af,List.sum_cons] at this ⊢
  lia
theorem a6T(l:List Nat)(g:Nat->Nat):O8 [] (l.map fun c=>[g c])=l.map g:=by
 rw [a4T]
 have:(l.map fun c=>[g c])=((l.map g).map fun c=>[c]):=by rw [At];rfl
 rw [this,a1M]
theorem a5F{k:Nat}(hk:k<=10000)(g:Nat->Nat):A5 (.val (.str (S []))) (.own ((Ad k).map fun j=>row [g j]))=some (.val (row ((Ad k).map g))):=by
 rw [a0z (rows:=(Ad k).map fun j=>[g j]),a6T]
 ·show some _=some _
  rw [At];rfl
 ·rw [a5i,Ax,Ai,Ax];simp only [Af];lia
inductive Pa where
 |run (c k:Nat)
 |again (k:Nat) (ps:List Pa)
abbrev a0K:PV:= .str (AQ "run")
abbrev y9:PV:= .str (AQ "again")
mutual
def j9:Pa->PV
 | .run c k=> .tuple [a0K,row [c],.int (k:Nat)]
 | .again k ps=> .tuple [y9,.int (k:Nat),.list (j5 ps)]
def j5:List Pa->List PV
 |[]=>[]
 |p::ps=>j9 p::j5 ps
end
mutual
def Z5:Pa->List Nat
 | .run c k=>(Ad k).map fun _=>c
 | .again k ps=>((Ad k).map fun _=>u4 ps).flatten
def u4:List Pa->List Nat
 |[]=>[]
 |p::ps=>Z5 p++u4 ps
end
mutual
def dpP:Pa->Nat
 | .run _ _=>0
 | .again _ ps=>dpL ps+1
def dpL:List Pa->Nat
 |[]=>0
 |p::ps=>max (dpP p) (dpL ps)
end
mutual
def okP:Pa->Prop
 | .run c k=>1<=k/\k<=24/\c∈[97,98,99,120,122]
 | .again k ps=>2<=k/\k<=24/\ps≠[]/\okL ps
def okL:List Pa->Prop
 |[]=>True
 |p::ps=>okP p/\okL ps
end
theorem a0Z:∀{ps:List Pa} {p:Pa},okL ps->p∈ps->okP p
 |q::ps,p,h,hp=>by
  rcases Aq.mp hp with e|hp
  ·rw [e];exact h.1
  ·exact a0Z h.2 hp
theorem a2r:∀{ps:List Pa} {p:Pa},p∈ps->dpP p<=dpL ps
 |q::ps,p,hp=>by
  rw [dpL]
  rcases Aq.mp hp with e|hp
  ·rw [e];exact Nat.le_max_left _ _
  ·exact Nat.le_trans (a2r hp) (Nat.le_max_right _ _)
theorem a4r:∀{ps:List Pa} {p:Pa},p∈ps->(Z5 p).length<=(u4 ps).length
 |q::ps,p,hp=>by
  rw [u4,AU]
  rcases Aq.mp hp with e|hp
  ·rw [e];lia
  ·have:=a4r hp
   lia
theorem a0x{α:Type}(l:List α):∀k:Nat,(((Ad k).map fun _=>l).flatten).length=k*l.length
 |0=>by simp
 |k+1=>by
  rw [List.range_succ,Az,List.flatten_append,AU,a0x l k,Nat.succ_mul]
  simp
theorem M4(k:Nat)(ps:List Pa):(Z5 (.again k ps)).length=k*(u4 ps).length:=by rw [Z5,a0x]
theorem Z6(c k:Nat):(Z5 (.run c k)).length=k:=by rw [Z5];simp
theorem a3a{k:Nat}{qs ps:List Pa}(h:okL ps)(hp:Pa.again k qs∈ps):okL qs/\qs≠[]/\2<=k/\k<=24/\k*(u4 qs).length<=(u4 ps).length/\(u4 qs).length<=(u4 ps).length/\dpL qs<dpL ps:=by
 obtain⟨h1,h2,h3,h4⟩:=a0Z h hp
 have e:=a4r hp
 rw [M4] at e
 have d:=a2r hp
 rw [dpP] at d
 refine⟨h4,h3,h1,h2,e, ?_,by lia⟩
 have:1*(u4 qs).length<=k*(u4 qs).length:=Nat.mul_le_mul_right _ (by lia)
 lia
mutual
theorem a8x:∀{p:Pa},okP p->0<(Z5 p).length
 | .run c k,h=>by rw [Z6];exact h.1
 | .again k ps,h=>by
   rw [M4]
   exact Nat.mul_pos (by have:=h.1;lia) (a6C h.2.2.1 h.2.2.2)
theorem a6C:∀{ps:List Pa},ps≠[]->okL ps->0<(u4 ps).length
 |[],h,_=>absurd rfl h
 |p::ps,_,h=>by
  rw [u4,AU]
  have:=a8x h.1
  lia
end
theorem N9:∀{ps:List Pa},okL ps->ps.length<=(u4 ps).length
 |[],_=>AR _
 |p::ps,h=>by
  have:=a8x h.1
  have:=N9 h.2
  rw [u4,AU,AS]
  lia
theorem a0r(p:Pa):(∃c k,p= .run c k/\j9 p= .tuple [a0K,row [c],.int (k:Nat)])\/∃k qs,p= .again k qs/\j9 p= .tuple [y9,.int (k:Nat),.list (j5 qs)]:=by
 cases p with
 |run c k=>exact .inl ⟨c,k,rfl,by rw [j9]⟩
 |again k qs=>exact .inr ⟨k,qs,rfl,by rw [j9]⟩
theorem a7y:gEq (.val a0K) (.val a0K)=some (.val (.bool true)):=by rfl
theorem a7w:gEq (.val y9) (.val a0K)=some (.val (.bool false)):=by rfl
theorem a90:gEq (.val y9) (.val y9)=some (.val (.bool true)):=by rfl
theorem a8N:gEq (.val a0K) (.val y9)=some (.val (.bool false)):=by rfl
theorem a9J:∀ls:List (List Nat),O8 [] ls=ls.flatten
 |[]=>rfl
 |[x]=>by simp [O8]
 |x::y::r=>by
  have:=a9J (y::r)
  simp only [O8,List.flatten_cons] at this ⊢
  rw [this];simp
theorem a7R{rows:List (List Nat)}{y:b4}(h:PyData.items? y.rd=some (rows.map row))(hl:rows.flatten.length<=10000):A5 (.val (.str (AQ ""))) y=some (.val (row rows.flatten)):=by
 have:=a0z (sep:=[]) h (by
  have e:(rows.map (·.length)).sum=rows.flatten.length:=by rw [List.length_flatten]
  rw [e,Af,Nat.mul_zero,Nat.add_zero];lia)
 rw [a9J] at this
 exact this
theorem M3:∀ps:List Pa,u4 ps=(ps.map Z5).flatten
 |[]=>by rw [u4];rfl
 |p::ps=>by rw [u4,AM,List.flatten_cons,M3 ps]
theorem a40{R:List PV->Option b4}{q0:Option b4}:∀(ps:List Pa) (acc:List (List Nat)) (q2:Option b4),okL ps->(u4 ps).length<=24->(∀k qs,Pa.again k qs∈ps->R [.list (j5 qs)]=some (.val (row (u4 qs))))->acc.length+ps.length<10000->
 ∃q2',J8 (m4 R) (l6 2) (j5 ps) [q0,some (.own (acc.map row)),q2]=some (.nx [q0,some (.own ((acc++ps.map Z5).map row)),q2'])
 |[],acc,q2,_,_,_,_=>⟨q2,by rw [j5,AX,Ag];rfl⟩
 |p::ps,acc,q2,ok,hl,hR,hn=>by
  rw [AS] at hn
  rw [u4,AU] at hl
  obtain⟨q2',e⟩:=a40 (R:=R) (q0:=q0) ps (acc++[Z5 p]) (some (.val (j9 p))) ok.2 (by lia) (fun k qs h=>hR k qs (Ah _ h)) (by rw [AU,List.length_singleton];lia)
  refine⟨q2', ?_⟩
  have hb:m4 R [q0,some (.own (acc.map row)),some (.val (j9 p))]=some (.nx [q0,some (.own ((acc++[Z5 p]).map row)),some (.val (j9 p))]):=by
   have fin:∀m:M,m [q0,some (.own (acc.map row)),some (.val (j9 p))]=some (.val (row (Z5 p)))->p8 1 m [q0,some (.own (acc.map row)),some (.val (j9 p))]=some (.nx [q0,some (.own ((acc++[Z5 p]).map row)),some (.val (j9 p))]):=fun m hm=>by
    rw [C0 hm rfl rfl (by rw [Ai];lia),Az]
    rfl
   rcases a0r p with⟨c,k,rfl,ep⟩|⟨k,qs,rfl,ep⟩
   ·have i0:k0 (.val (j9 (.run c k))) (.val (.int 0))=some (.val a0K):=by rw [ep];rfl
    have i1:k0 (.val (j9 (.run c k))) (.val (.int 1))=some (.val (row [c])):=by rw [ep];rfl
    have i2:k0 (.val (j9 (.run c k))) (.val (.int 2))=some (.val (.int (k:Nat))):=by rw [ep];rfl
    rw [Z6] at hl
    have cm:=Z9 (ι:=fun j:Nat=>PyData.int (j:Nat)) (f:=fun _=>row [c]) (k:=1) (it:=a0q (a6 (m2 k0 (a7 2) (mC (.int 2))) d3)) (elt:=C9 R) (tg:=l6 3) (ρ:=[q0,some (.own (acc.map row)),some (.val (j9 (.run c k)))]) (Ad k) (a3A (n:=k) (by simp (disch:=omega) only [c6,c8,b5,c9,AF,i2]) (by lia)) (by rw [Ax];lia) fun j _=>⟨_,rfl,by unfold C9;simp (disch:=omega) only [c6,c8,b5,c9,b8,AF,AY,AV,Aa,AT,Ab,Ac,i1]⟩
    have jn:A5 (.val (.str (AQ ""))) (.own ((Ad k).map fun _=>row [c]))=some (.val (row (Z5 (.run c k)))):=by
     have:=a5F (k:=k) (by lia) fun _=>c
     rw [Z5]
     exact this
    unfold m4
    simp (disch:=omega) only [c6,c8,b5,c9,d5,G9,d9,g6,AF,i0,a7y]
    exact fin _ (by simp (disch:=omega) only [c6,c8,AF,cm,jn])
   ·have i0:k0 (.val (j9 (.again k qs))) (.val (.int 0))=some (.val y9):=by rw [ep];rfl
    have i1:k0 (.val (j9 (.again k qs))) (.val (.int 1))=some (.val (.int (k:Nat))):=by rw [ep];rfl
    have i2:k0 (.val (j9 (.again k qs))) (.val (.int 2))=some (.val (.list (j5 qs))):=by rw [ep];rfl
    rw [M4] at hl
    have hk:=ok.1
    obtain⟨k1,k2,_,_⟩:=hk
    have hr:=hR k qs Aj
    have cm:=Z9 (ι:=fun j:Nat=>PyData.int (j:Nat)) (f:=fun _=>row (u4 qs)) (k:=1) (it:=a0q (a6 (m2 k0 (a7 2) (mC (.int 1))) d3)) (elt:=D0 R) (tg:=l6 3) (ρ:=[q0,some (.own (acc.map row)),some (.val (j9 (.again k qs)))]) (Ad k) (a3A (n:=k) (by simp (disch:=omega) only [c6,c8,b5,c9,AF,i1]) (by lia)) (by rw [Ax];lia) fun j _=>⟨_,rfl,by unfold D0;simp (disch:=omega) only [c6,c8,b5,c9,c4,b9,b8,d8,AF,AY,AV,Aa,AT,Ab,Ac,i2,hr]⟩
    have jn:A5 (.val (.str (AQ ""))) (.own ((Ad k).map fun _=>row (u4 qs)))=some (.val (row (Z5 (.again k qs)))):=by
     rw [Z5]
     exact a7R (y:= .own ((Ad k).map fun _=>row (u4 qs))) (by rw [At];rfl) (by rw [a0x];lia)
    unfold m4
    simp (disch:=omega) only [c6,c8,b5,c9,d5,u8,d9,g6,AF,i0,a7w]
    exact fin _ (by simp (disch:=omega) only [c6,c8,AF,cm,jn])
  rw [j5,J8]
  show(m4 R [q0,some (.own (acc.map row)),some (.val (j9 p))]).bind _=_
  rw [hb,AF]
  rw [List.append_assoc] at e
  exact e
theorem a33:∀(n:Nat) (ps:List Pa),okL ps->(u4 ps).length<=24->dpL ps<n->u7 n [.list (j5 ps)]=some (.val (row (u4 ps)))
 |0,_,_,_,h=>by lia
 |n+1,ps,ok,hl,hd=>by
  have hm:=N9 ok
  obtain⟨q2,e⟩:=a40 (R:=u7 n) (q0:=some (.val (.list (j5 ps)))) ps [] none ok hl (fun k qs hq=>by
   obtain⟨h1,h2,h3,h4,h5,h6,h7⟩:=a3a ok hq
   exact a33 n qs h1 (by lia) (by lia)) (by simp;lia)
  have hit:PyData.items? (.list (j5 ps))=some (j5 ps):=rfl
  rw [AT] at e
  have jn:A5 (.val (.str (AQ ""))) (.bo (.lst ((ps.map Z5).map row)))=some (.val (row (u4 ps))):=by
   rw [M3]
   exact a7R (y:= .bo (.lst ((ps.map Z5).map row))) rfl (by rw [<-M3];lia)
  show i4 2 (C5 (u7 n)) [.list (j5 ps)]=_
  unfold C5
  simp (disch:=omega) only [b5,c4,b8,R1,i7,a0u,d6,g0,f7,I0,AF,AM,AX,AY,AV,Aa,AT,Ab,Ac,Af,↓reduceIte,E7,sz,An,hit]
  rw [show(some (b4.own []))=some (b4.own (([]:List (List Nat)).map row)) from rfl,e]
  simp (disch:=omega) only [c6,c8,a6r,c9,i8,m8,g0,i9,AF,jn]
theorem U2:∀ps:List Pa,j5 ps=ps.map j9
 |[]=>by rw [j5];rfl
 |p::ps=>by rw [j5,AM,U2 ps]
theorem b1c{l:List Nat}{k:Nat}(h:l.length*k<=10000)(hk:k<=10000):V8 (.val (row l)) (.val (.int (k:Nat)))=some (.val (row (((Ad k).map fun _=>l).flatten))):=by
 show(if okC (fun k n=>0<=k/\k<=1000000/\n*k<=16777216) (k:Int) (S l).length=true then some (b4.val (.str ⟨(AN (k:Int).toNat (S l).cps.toList).flatten.toArray⟩)) else none)=_
 have e:((Ad k).map fun _=>l)=AN k l:=by rw [List.map_const',Ax]
 rw [if_pos (a0c.mpr ⟨by lia,by lia,by
  rw [Q1,<-Int.natCast_mul]
  lia⟩),e,a3o,Int.toNat_natCast]
 rfl
theorem a8z{RU RP:List PV->Option b4}{p:Pa}(ok:okP p)(hl:(Z5 p).length<=24)(hU:∀k qs,p= .again k qs->RU [.list (j5 qs)]=some (.val (row (u4 qs)))):i4 0 (A9 RU RP) [j9 p]=some (.val (row (Z5 p))):=by
 unfold A9
 rcases a0r p with⟨c,k,rfl,ep⟩|⟨k,qs,rfl,ep⟩
 ·have i0:k0 (.val (j9 (.run c k))) (.val (.int 0))=some (.val a0K):=by rw [ep];rfl
  have i1:k0 (.val (j9 (.run c k))) (.val (.int 1))=some (.val (row [c])):=by rw [ep];rfl
  have i2:k0 (.val (j9 (.run c k))) (.val (.int 2))=some (.val (.int (k:Nat))):=by rw [ep];rfl
  rw [Z6] at hl
  have ml:=b1c (l:=[c]) (k:=k) (by simp;lia) (by lia)
  have e:(((Ad k).map fun _=>[c]).flatten)=Z5 (.run c k):=by
   rw [Z5]
   generalize Ad k=r
   induction r with
   |nil=>rfl
   |cons a r ih=>rw [AM,List.flatten_cons,ih,AM];rfl
  rw [e] at ml
  simp (disch:=omega) only [c6,c8,b5,i8,m8,d6,a0e,d5,G9,f7,i9,d9,g6,AF,AM,AX,AV,Ag,i0,i1,i2,a7y,ml]
 ·have i0:k0 (.val (j9 (.again k qs))) (.val (.int 0))=some (.val y9):=by rw [ep];rfl
  have i1:k0 (.val (j9 (.again k qs))) (.val (.int 1))=some (.val (.int (k:Nat))):=by rw [ep];rfl
  have i2:k0 (.val (j9 (.again k qs))) (.val (.int 2))=some (.val (.list (j5 qs))):=by rw [ep];rfl
  rw [M4] at hl
  obtain⟨k1,k2,_,_⟩:=ok
  have hr:=hU k qs rfl
  have ml:=b1c (l:=u4 qs) (k:=k) (by rw [Nat.mul_comm];lia) (by lia)
  have e:(((Ad k).map fun _=>u4 qs).flatten)=Z5 (.again k qs):=by rw [Z5]
  rw [e] at ml
  simp (disch:=omega) only [c6,c8,b5,c4,b9,b8,d8,i8,m8,d6,g0,d5,u8,j7,f7,i9,d9,g6,AF,AM,AX,AV,Ag,i0,i1,i2,a7w,hr,ml]
theorem a8y:∀(n:Nat) (ps:List Pa),okL ps->(u4 ps).length<=24->2*dpL ps+2<=n->B9 n [.list (j5 ps)]=some (.val (row (u4 ps)))
 |0,_,_,_,h=>by lia
 |1,_,_,_,h=>by lia
 |m+2,ps,ok,hl,hd=>by
  have hm:=N9 ok
  have cm:=Z9 (ι:=j9) (f:=fun p=>row (Z5 p)) (k:=1) (it:=T8 (a7 0)) (elt:=O9 (B9 (m+1)) (t4 (m+1))) (tg:=l6 1) (ρ:=[some (.val (.list (j5 ps)))]) ps
   (a1P (r:= .val (.list (j5 ps))) rfl (by rw [U2];rfl)) (by lia) fun p hp=>⟨_,rfl,by
    have:=a4r hp
    have e:t4 (m+1) [j9 p]=some (.val (row (Z5 p))):=a8z (RU:=B9 m) (RP:=t4 m) (a0Z ok hp) (by lia) fun k qs hq=>by
     subst hq
     obtain⟨h1,h2,h3,h4,h5,h6,h7⟩:=a3a ok hp
     exact a8y m qs h1 (by lia) (by lia)
    unfold O9
    simp (disch:=omega) only [b5,c9,c4,b9,b8,d8,AF,AY,AV,Aa,AT,Ab,Ac,e]⟩
  have jn:A5 (.val (.str (AQ ""))) (.own (ps.map fun p=>row (Z5 p)))=some (.val (row (u4 ps))):=by
   rw [M3]
   exact a7R (y:= .own (ps.map fun p=>row (Z5 p))) (by rw [At];rfl) (by rw [<-M3];lia)
  show i4 0 (T1 (B9 (m+1)) (t4 (m+1))) [.list (j5 ps)]=_
  unfold T1
  simp (disch:=omega) only [c6,c8,i8,m8,f7,i9,AF,AM,AX,AV,Ag,cm,jn]
mutual
def coP:Pa->Nat
 | .run _ _=>1
 | .again _ ps=>1+coL ps
def coL:List Pa->Nat
 |[]=>0
 |p::ps=>coP p+coL ps
end
theorem a6a{R:List PV->Option b4}{q0:Option b4}:∀(ps:List Pa) (a:Int) (q2:Option b4),(∀k qs,Pa.again k qs∈ps->R [.list (j5 qs)]=some (.val (.int (coL qs:Nat))))->
 ∃q2',J8 (R0 R) (l6 2) (j5 ps) [q0,some (.val (.int a)),q2]=some (.nx [q0,some (.val (.int (a+(coL ps:Nat)))),q2'])
 |[],a,q2,_=>⟨q2,by rw [j5,coL];show some _=_;rw [Int.natCast_zero,Int.add_zero]⟩
 |p::ps,a,q2,hR=>by
  obtain⟨q2',e⟩:=a6a (R:=R) (q0:=q0) ps (a+(coP p:Nat)) (some (.val (j9 p))) fun k qs h=>hR k qs (Ah _ h)
  refine⟨q2', ?_⟩
  have hb:R0 R [q0,some (.val (.int a)),some (.val (j9 p))]=some (.nx [q0,some (.val (.int (a+(coP p:Nat)))),some (.val (j9 p))]):=by
   have aug:∀(x:Int) (m:M) (y:Int),m [q0,some (.val (.int x)),some (.val (j9 p))]=some (.val (.int y))->a17 1 (gI fun i j=> .int (i+j)) m [q0,some (.val (.int x)),some (.val (j9 p))]=some (.nx [q0,some (.val (.int (x+y))),some (.val (j9 p))]):=fun x m y hm=>by
    unfold a17
    show((m [q0,some (.val (.int x)),some (.val (j9 p))]).bind _)=_
    rw [hm]
    rfl
   unfold R0
   rcases a0r p with⟨c,k,rfl,ep⟩|⟨k,qs,rfl,ep⟩
   ·have i0:k0 (.val (j9 (.run c k))) (.val (.int 0))=some (.val a0K):=by rw [ep];rfl
    rw [coP]
    simp (disch:=omega) only [c6,c8,b5,c9,d6,g0,d5,u8,j7,d9,g6,AF,Int.cast_ofNat_Int,aug a (mC (.int 1)) 1 rfl,i0,a8N]
   ·have i0:k0 (.val (j9 (.again k qs))) (.val (.int 0))=some (.val y9):=by rw [ep];rfl
    have i2:k0 (.val (j9 (.again k qs))) (.val (.int 2))=some (.val (.list (j5 qs))):=by rw [ep];rfl
    have hr:=hR k qs Aj
    rw [coP]
    simp (disch:=omega) only [c6,c8,b5,c9,d6,g0,d5,G9,d9,g6,AF,aug a (mC (.int 1)) 1 rfl,i0,a90]
    rw [aug (a+1) _ (coL qs:Nat) (by simp (disch:=omega) only [c6,c8,b5,c9,c4,b9,b8,d8,AF,i2,hr])]
    rw [Int.natCast_add,Int.add_assoc]
    rfl
  rw [j5,J8]
  show(R0 R [q0,some (.val (.int a)),some (.val (j9 p))]).bind _=_
  rw [hb,AF,coL,Int.natCast_add,<-Int.add_assoc]
  exact e
theorem a6c:∀(n:Nat) (ps:List Pa),dpL ps<n->a0U n [.list (j5 ps)]=some (.val (.int (coL ps:Nat)))
 |0,_,h=>by lia
 |n+1,ps,hd=>by
  obtain⟨q2,e⟩:=a6a (R:=a0U n) (q0:=some (.val (.list (j5 ps)))) ps 0 none fun k qs hq=>by
   have d:=a2r hq
   rw [dpP] at d
   exact a6c n qs (by lia)
  have hit:PyData.items? (.list (j5 ps))=some (j5 ps):=rfl
  rw [Int.zero_add] at e
  show i4 2 (a3P (a0U n)) [.list (j5 ps)]=_
  unfold a3P
  simp (disch:=omega) only [c8,b5,b8,i7,p9,d6,g0,f7,i9,I0,AF,AM,AX,AY,AV,Aa,AT,Ab,Ac,E7,a0a,a0b,hit,e]
theorem a4X{R:List PV->Option b4}{q0:Option b4}:∀(ps:List Pa) (a:Int) (q2:Option b4),(∀k qs,Pa.again k qs∈ps->R [.list (j5 qs)]=some (.val (.int (coL qs:Nat))))->
 ∃q2',J8 (p6 R) (l6 2) (j5 ps) [q0,some (.val (.int a)),q2]=some (.nx [q0,some (.val (.int (a+(coL ps:Nat) - (ps.length:Nat)))),q2'])
 |[],a,q2,_=>⟨q2,by rw [j5,coL];show some _=_;simp⟩
 |p::ps,a,q2,hR=>by
  have key:∀b:Int,b=a+(coP p:Nat) - 1->p6 R [q0,some (.val (.int a)),some (.val (j9 p))]=some (.nx [q0,some (.val (.int b)),some (.val (j9 p))])->∃q2',J8 (p6 R) (l6 2) (j5 (p::ps)) [q0,some (.val (.int a)),q2]=some (.nx [q0,some (.val (.int (a+(coL (p::ps):Nat) - ((p::ps).length:Nat)))),q2']):=fun b eb hb=>by
   obtain⟨q2',e⟩:=a4X (R:=R) (q0:=q0) ps b (some (.val (j9 p))) fun k qs h=>hR k qs (Ah _ h)
   refine⟨q2', ?_⟩
   rw [j5,J8]
   show(p6 R [q0,some (.val (.int a)),some (.val (j9 p))]).bind _=_
   rw [hb,AF,coL,AS]
   have:b+(coL ps:Nat) - (ps.length:Nat)=a+((coP p+coL ps:Nat):Int) - ((ps.length+1:Nat):Int):=by lia
   rw [<-this]
   exact e
  rcases a0r p with⟨c,k,rfl,ep⟩|⟨k,qs,rfl,ep⟩
  ·have i0:k0 (.val (j9 (.run c k))) (.val (.int 0))=some (.val a0K):=by rw [ep];rfl
   refine key a (by rw [coP];lia) ?_
   unfold p6
   simp (disch:=omega) only [c6,c8,b5,c9,d5,u8,j7,d9,g6,AF,i0,a8N]
  ·have i0:k0 (.val (j9 (.again k qs))) (.val (.int 0))=some (.val y9):=by rw [ep];rfl
   have i2:k0 (.val (j9 (.again k qs))) (.val (.int 2))=some (.val (.list (j5 qs))):=by rw [ep];rfl
   have hr:=hR k qs Aj
   refine key (a+(coL qs:Nat)) (by rw [coP];lia) ?_
   unfold p6
   simp (disch:=omega) only [y0,c6,c8,b5,c9,c4,b9,b8,d8,i7,p9,d5,G9,d9,g6,AF,Ab,Ac,i0,i2,a90,hr]
theorem a4h(ps:List Pa):(j5 ps).length=ps.length:=by rw [U2,Ai]
theorem a4Y:∀(n:Nat) (ps:List Pa),dpL ps<n->G8 n [.list (j5 ps)]=some (.val (.int (coL ps:Nat)))
 |0,_,h=>by lia
 |n+1,ps,hd=>by
  obtain⟨q2,e⟩:=a4X (R:=G8 n) (q0:=some (.val (.list (j5 ps)))) ps (ps.length:Nat) none fun k qs hq=>by
   have d:=a2r hq
   rw [dpP] at d
   exact a4Y n qs (by lia)
  have hit:PyData.items? (.list (j5 ps))=some (j5 ps):=rfl
  have e1:(ps.length:Int)+(coL ps:Nat) - (ps.length:Nat)=(coL ps:Nat):=by lia
  rw [e1] at e
  show i4 2 (S8 (G8 n)) [.list (j5 ps)]=_
  unfold S8
  simp (disch:=omega) only [Q8,t6,b5,b8,i7,p9,d6,g0,f7,i9,I0,AF,AM,AX,AY,AV,Aa,AT,Ab,Ac,E7,a0a,a0b,a4h,hit,e]
theorem a6d{R:List PV->Option b4}{q0:Option b4}:∀(ps:List Pa) (acc:List PV) (q2:Option b4),(∀k qs,Pa.again k qs∈ps->R [.list (j5 qs)]=some (.own (j5 qs)))->acc.length+ps.length<10000->
 ∃q2',J8 (A8 R) (l6 2) (j5 ps) [q0,some (.own acc),q2]=some (.nx [q0,some (.own (acc++j5 ps)),q2'])
 |[],acc,q2,_,_=>⟨q2,by rw [j5,Ag];rfl⟩
 |p::ps,acc,q2,hR,hn=>by
  rw [AS] at hn
  obtain⟨q2',e⟩:=a6d (R:=R) (q0:=q0) ps (acc++[j9 p]) (some (.val (j9 p))) (fun k qs h=>hR k qs (Ah _ h)) (by rw [AU,List.length_singleton];lia)
  refine⟨q2', ?_⟩
  have hb:A8 R [q0,some (.own acc),some (.val (j9 p))]=some (.nx [q0,some (.own (acc++[j9 p])),some (.val (j9 p))]):=by
   have fin:∀m:M,m [q0,some (.own acc),some (.val (j9 p))]=some (.val (j9 p))->p8 1 m [q0,some (.own acc),some (.val (j9 p))]=some (.nx [q0,some (.own (acc++[j9 p])),some (.val (j9 p))]):=fun m hm=>by
    rw [C0 hm rfl rfl (by lia)]
    rfl
   unfold A8
   rcases a0r p with⟨c,k,rfl,ep⟩|⟨k,qs,rfl,ep⟩
   ·have i0:k0 (.val (j9 (.run c k))) (.val (.int 0))=some (.val a0K):=by rw [ep];rfl
    simp (disch:=omega) only [c6,c8,b5,c9,d5,G9,d9,g6,AF,i0,a7y]
    exact fin _ (by simp (disch:=omega) only [b5,c9])
   ·have i0:k0 (.val (j9 (.again k qs))) (.val (.int 0))=some (.val y9):=by rw [ep];rfl
    have i1:k0 (.val (j9 (.again k qs))) (.val (.int 1))=some (.val (.int (k:Nat))):=by rw [ep];rfl
    have i2:k0 (.val (j9 (.again k qs))) (.val (.int 2))=some (.val (.list (j5 qs))):=by rw [ep];rfl
    have hr:=hR k qs Aj
    simp (disch:=omega) only [c6,c8,b5,c9,d5,u8,d9,g6,AF,i0,a7w]
    exact fin _ (by simp (disch:=omega) only [c6,c8,b5,c9,c4,b9,b8,a7c,D1,d8,AF,AS,Af,↓reduceIte,sz,Nat.reduceAdd,An,i1,i2,hr];rw [ep])
  rw [j5,J8]
  show(A8 R [q0,some (.own acc),some (.val (j9 p))]).bind _=_
  rw [hb,AF]
  rw [List.append_assoc] at e
  exact e
theorem a6b:∀(n:Nat) (ps:List Pa),okL ps->(u4 ps).length<=24->dpL ps<n->G6 n [.list (j5 ps)]=some (.own (j5 ps))
 |0,_,_,_,h=>by lia
 |n+1,ps,ok,hl,hd=>by
  have hm:=N9 ok
  obtain⟨q2,e⟩:=a6d (R:=G6 n) (q0:=some (.val (.list (j5 ps)))) ps [] none (fun k qs hq=>by
   obtain⟨h1,h2,h3,h4,h5,h6,h7⟩:=a3a ok hq
   exact a6b n qs h1 (by lia) (by lia)) (by simp;lia)
  have hit:PyData.items? (.list (j5 ps))=some (j5 ps):=rfl
  rw [AT] at e
  show i4 2 (S7 (G6 n)) [.list (j5 ps)]=_
  unfold S7
  simp (disch:=omega) only [b5,c4,b8,R1,i7,a0u,d6,g0,f7,i9,I0,AF,AM,AX,AY,AV,Aa,AT,Ab,Ac,Af,↓reduceIte,E7,a0a,a0b,sz,An,hit,e]
theorem a6p{R:List PV->Option b4}{q0:Option b4}:∀(ps:List Pa) (a:Int) (q2:Option b4),okL ps->(u4 ps).length<=24->(∀k qs,Pa.again k qs∈ps->R [.list (j5 qs)]=some (.val (.int ((u4 qs).length:Nat))))->
 ∃q2',J8 (A7 R) (l6 2) (j5 ps) [q0,some (.val (.int a)),q2]=some (.nx [q0,some (.val (.int (a+((u4 ps).length:Nat)))),q2'])
 |[],a,q2,_,_,_=>⟨q2,by rw [j5,u4];show some _=_;simp⟩
 |p::ps,a,q2,ok,hl,hR=>by
  rw [u4,AU] at hl
  obtain⟨q2',e⟩:=a6p (R:=R) (q0:=q0) ps (a+((Z5 p).length:Nat)) (some (.val (j9 p))) ok.2 (by lia) fun k qs h=>hR k qs (Ah _ h)
  refine⟨q2', ?_⟩
  have hb:A7 R [q0,some (.val (.int a)),some (.val (j9 p))]=some (.nx [q0,some (.val (.int (a+((Z5 p).length:Nat)))),some (.val (j9 p))]):=by
   have aug:∀(m:M) (y:Int),m [q0,some (.val (.int a)),some (.val (j9 p))]=some (.val (.int y))->a17 1 (gI fun i j=> .int (i+j)) m [q0,some (.val (.int a)),some (.val (j9 p))]=some (.nx [q0,some (.val (.int (a+y))),some (.val (j9 p))]):=fun m y hm=>by
    unfold a17
    show((m [q0,some (.val (.int a)),some (.val (j9 p))]).bind _)=_
    rw [hm]
    rfl
   unfold A7
   rcases a0r p with⟨c,k,rfl,ep⟩|⟨k,qs,rfl,ep⟩
   ·have i0:k0 (.val (j9 (.run c k))) (.val (.int 0))=some (.val a0K):=by rw [ep];rfl
    have i2:k0 (.val (j9 (.run c k))) (.val (.int 2))=some (.val (.int (k:Nat))):=by rw [ep];rfl
    simp (disch:=omega) only [c6,c8,b5,c9,d5,G9,d9,g6,AF,i0,a7y]
    rw [Z6]
    exact aug _ _ (by simp (disch:=omega) only [c6,c8,b5,c9,AF,i2])
   ·have i0:k0 (.val (j9 (.again k qs))) (.val (.int 0))=some (.val y9):=by rw [ep];rfl
    have i1:k0 (.val (j9 (.again k qs))) (.val (.int 1))=some (.val (.int (k:Nat))):=by rw [ep];rfl
    have i2:k0 (.val (j9 (.again k qs))) (.val (.int 2))=some (.val (.list (j5 qs))):=by rw [ep];rfl
    have hr:=hR k qs Aj
    have hk:=ok.1
    obtain⟨k1,k2,_,_⟩:=hk
    rw [M4] at hl ⊢
    have hq:(u4 qs).length<=24:=by
     have:1*(u4 qs).length<=k*(u4 qs).length:=Nat.mul_le_mul_right _ (by lia)
     lia
    simp (disch:=omega) only [c6,c8,b5,c9,d5,u8,d9,g6,AF,i0,a7w]
    refine aug _ _ ?_
    simp (disch:=omega) only [T5,c6,c8,b5,c9,c4,b9,b8,d8,AF,i1,i2,hr]
    rw [Int.natCast_mul]
  rw [j5,J8]
  show(A7 R [q0,some (.val (.int a)),some (.val (j9 p))]).bind _=_
  rw [hb,AF,u4,AU,Int.natCast_add,<-Int.add_assoc]
  exact e
theorem a4W:∀(n:Nat) (ps:List Pa),okL ps->(u4 ps).length<=24->dpL ps<n->G5 n [.list (j5 ps)]=some (.val (.int ((u4 ps).length:Nat)))
 |0,_,_,_,h=>by lia
 |n+1,ps,ok,hl,hd=>by
  obtain⟨q2,e⟩:=a6p (R:=G5 n) (q0:=some (.val (.list (j5 ps)))) ps 0 none ok hl fun k qs hq=>by
   obtain⟨h1,h2,h3,h4,h5,h6,h7⟩:=a3a ok hq
   exact a4W n qs h1 (by lia) (by lia)
  have hit:PyData.items? (.list (j5 ps))=some (j5 ps):=rfl
  rw [Int.zero_add] at e
  show i4 2 (S6 (G5 n)) [.list (j5 ps)]=_
  unfold S6
  simp (disch:=omega) only [c8,b5,b8,i7,p9,d6,g0,f7,i9,I0,AF,AM,AX,AY,AV,Aa,AT,Ab,Ac,E7,a0a,a0b,hit,e]
def dg(k:Nat):List Nat:=if k<10 then [48+k] else [48+k / 10,48+k % 10]
theorem a4p{k:Nat}(hk:k<25):a5I (.val (.int (k:Nat)))=some (.val (row (dg k))):=by
 match k,hk with
 |0,_=>rfl
 |1,_=>rfl
 |2,_=>rfl
 |3,_=>rfl
 |4,_=>rfl
 |5,_=>rfl
 |6,_=>rfl
 |7,_=>rfl
 |8,_=>rfl
 |9,_=>rfl
 |10,_=>rfl
 |11,_=>rfl
 |12,_=>rfl
 |13,_=>rfl
 |14,_=>rfl
 |15,_=>rfl
 |16,_=>rfl
 |17,_=>rfl
 |18,_=>rfl
 |19,_=>rfl
 |20,_=>rfl
 |21,_=>rfl
 |22,_=>rfl
 |23,_=>rfl
 |24,_=>rfl
 |k+25,h=>lia
theorem T3(k:Nat):1<=(dg k).length/\(dg k).length<=2:=by unfold dg;split<;>simp
def wt(k:Nat):List Nat:=if k=1 then [] else dg k
theorem a8A(k:Nat):(wt k).length<=2:=by
 unfold wt
 split
 ·simp
 ·exact(T3 k).2
mutual
def z5:Pa->List Nat
 | .run c k=>c::wt k
 | .again k ps=>40::(O8 [32] (shW ps)++41::dg k)
def shW:List Pa->List (List Nat)
 |[]=>[]
 |p::ps=>z5 p::shW ps
end
theorem a6A:∀ps:List Pa,shW ps=ps.map z5
 |[]=>by rw [shW];rfl
 |p::ps=>by rw [shW,AM,a6A ps]
def D5(ps:List Pa):List Nat:=O8 [32] (ps.map z5)
theorem a24(c k:Nat):z5 (.run c k)=c::wt k:=by rw [z5]
theorem D6(k:Nat)(ps:List Pa):z5 (.again k ps)=40::(D5 ps++41::dg k):=by rw [z5,a6A];rfl
theorem a2B:∀ls:List (List Nat),(O8 [32] ls).length<=(ls.map fun l=>l.length+1).sum
 |[]=>AR _
 |[x]=>by simp [O8]
 |x::y::r=>by
  have:=a2B (y::r)
  simp only [O8,AU,AS,Af,AM,List.sum_cons] at this ⊢
  lia
mutual
theorem a4m:∀{p:Pa},okP p->(z5 p).length+1<=5*(Z5 p).length
 | .run c k,h=>by
   rw [a24,Z6,AS]
   have:=a8A k
   have:=h.1
   lia
 | .again k ps,h=>by
   rw [D6,M4,AS,AU,AS]
   have h1:=a07 h.2.2.2
   have h2:=a2B (ps.map z5)
   rw [At] at h2
   have h3:=(T3 k).2
   have h4:=a6C h.2.2.1 h.2.2.2
   have h5:2*(u4 ps).length<=k*(u4 ps).length:=Nat.mul_le_mul_right _ h.1
   show(O8 [32] (ps.map z5)).length+_+1+1<=_
   have h6:(ps.map ((fun l=>l.length+1)∘z5)).sum=(ps.map fun p=>(z5 p).length+1).sum:=rfl
   lia
theorem a07:∀{ps:List Pa},okL ps->(ps.map fun p=>(z5 p).length+1).sum<=5*(u4 ps).length
 |[],_=>by simp
 |p::ps,h=>by
  have h1:=a4m h.1
  have h2:=a07 h.2
  rw [AM,List.sum_cons,u4,AU]
  lia
end
theorem a9p{ps:List Pa}(h:okL ps):(D5 ps).length<=5*(u4 ps).length:=by
 have h1:=a07 h
 have h2:=a2B (ps.map z5)
 rw [At] at h2
 have h6:(ps.map ((fun l=>l.length+1)∘z5)).sum=(ps.map fun p=>(z5 p).length+1).sum:=rfl
 unfold D5
 lia
theorem b1x{k:Nat}(hk:k<25):B1 [.int (k:Nat)]=some (.val (row (wt k))):=by
 unfold B1 V5 wt
 by_cases c:k=1
 ·subst c
  rfl
 ·rw [if_neg c]
  have c':((k:Int)==1)=false:=by rw [beq_eq_false_iff_ne];lia
  simp (disch:=omega) only [c6,t6,c8,b5,i8,m8,d6,g0,d5,u8,j7,f7,i9,d9,g6,AF,AM,AX,AV,Ag,a1N,c',a4p hk]
theorem a7S{ls:List (List Nat)}{y:b4}(h:PyData.items? y.rd=some (ls.map row))(hl:(ls.map fun l=>l.length+1).sum<=10000):A5 (.val (.str (AQ " "))) y=some (.val (row (O8 [32] ls))):=by
 refine a0z (sep:=[32]) h ?_
 have e:∀ls:List (List Nat),(ls.map (·.length)).sum+ls.length*[32].length=(ls.map fun l=>l.length+1).sum:=fun ls=>by
  induction ls with
  |nil=>rfl
  |cons x r ih=>
   simp only [AM,List.sum_cons,AS,Af] at ih ⊢
   lia
 rw [e];lia
theorem a9q{RF RP:List PV->Option b4}{p:Pa}(ok:okP p)(hl:(Z5 p).length<=24)(hF:∀k qs,p= .again k qs->RF [.list (j5 qs)]=some (.val (row (D5 qs)))):i4 0 (K8 RF RP) [j9 p]=some (.val (row (z5 p))):=by
 have hsl:=a4m ok
 unfold K8
 rcases a0r p with⟨c,k,rfl,ep⟩|⟨k,qs,rfl,ep⟩
 ·have i0:k0 (.val (j9 (.run c k))) (.val (.int 0))=some (.val a0K):=by rw [ep];rfl
  have i1:k0 (.val (j9 (.run c k))) (.val (.int 1))=some (.val (row [c])):=by rw [ep];rfl
  have i2:k0 (.val (j9 (.run c k))) (.val (.int 2))=some (.val (.int (k:Nat))):=by rw [ep];rfl
  rw [Z6] at hl
  have w:=b1x (k:=k) (by lia)
  have ad:=W9 (l:=[c]) (k:=wt k) (by have:=a8A k;simp;lia)
  rw [a24]
  simp (disch:=omega) only [c6,c8,b5,c4,b9,b8,d8,i8,m8,d6,a0e,d5,G9,f7,i9,d9,g6,AF,AM,AX,AV,Ag,Aa,AT,i0,i1,i2,a7y,w,ad]
 ·have i0:k0 (.val (j9 (.again k qs))) (.val (.int 0))=some (.val y9):=by rw [ep];rfl
  have i1:k0 (.val (j9 (.again k qs))) (.val (.int 1))=some (.val (.int (k:Nat))):=by rw [ep];rfl
  have i2:k0 (.val (j9 (.again k qs))) (.val (.int 2))=some (.val (.list (j5 qs))):=by rw [ep];rfl
  have hr:=hF k qs rfl
  obtain⟨k1,k2,_,okq⟩:=ok
  have d2:=T3 k
  rw [D6,AS,AU,AS] at hsl
  have a1:=W9 (l:=[40]) (k:=D5 qs) (by simp;lia)
  have a2:=W9 (l:=40::D5 qs) (k:=[41]) (by simp;lia)
  have a3:=W9 (l:=40::(D5 qs++[41])) (k:=dg k) (by simp;lia)
  have e:40::(D5 qs++[41])++dg k=z5 (.again k qs):=by rw [D6];simp
  rw [e] at a3
  have s1:AQ "("=S [40]:=rfl
  have s2:AQ ")"=S [41]:=rfl
  rw [s1,s2]
  simp (disch:=omega) only [c6,t6,c8,b5,c4,b9,b8,d8,i8,m8,d6,g0,d5,u8,j7,f7,i9,d9,g6,AF,AM,AX,AV,Ag,Aa,AT,i0,i1,i2,a7w,hr,a1,a2,a4p (k:=k) (by lia),a3]
theorem a5g:∀(n:Nat) (ps:List Pa),okL ps->(u4 ps).length<=24->2*dpL ps+2<=n->v4 n [.list (j5 ps)]=some (.val (row (D5 ps)))
 |0,_,_,_,h=>by lia
 |1,_,_,_,h=>by lia
 |m+2,ps,ok,hl,hd=>by
  have hm:=N9 ok
  have cm:=Z9 (ι:=j9) (f:=fun p=>row (z5 p)) (k:=1) (it:=T8 (a7 0)) (elt:=J9 (v4 (m+1)) (A6 (m+1))) (tg:=l6 1) (ρ:=[some (.val (.list (j5 ps)))]) ps
   (a1P (r:= .val (.list (j5 ps))) rfl (by rw [U2];rfl)) (by lia) fun p hp=>⟨_,rfl,by
    have:=a4r hp
    have e:A6 (m+1) [j9 p]=some (.val (row (z5 p))):=a9q (RF:=v4 m) (RP:=A6 m) (a0Z ok hp) (by lia) fun k qs hq=>by
     subst hq
     obtain⟨h1,h2,h3,h4,h5,h6,h7⟩:=a3a ok hp
     exact a5g m qs h1 (by lia) (by lia)
    unfold J9
    simp (disch:=omega) only [b5,c9,c4,b9,b8,d8,AF,AY,AV,Aa,AT,Ab,Ac,e]⟩
  have hs:=a07 ok
  have jn:A5 (.val (.str (AQ " "))) (.own (ps.map fun p=>row (z5 p)))=some (.val (row (D5 ps))):=
   a7S (ls:=ps.map z5) (y:= .own (ps.map fun p=>row (z5 p))) (by rw [At];rfl) (by
    rw [At]
    have h6:(ps.map ((fun l=>l.length+1)∘z5)).sum=(ps.map fun p=>(z5 p).length+1).sum:=rfl
    lia)
  show i4 0 (K7 (v4 (m+1)) (A6 (m+1))) [.list (j5 ps)]=_
  unfold K7
  simp (disch:=omega) only [c6,c8,i8,m8,f7,i9,AF,AM,AX,AV,Ag,cm,jn]
theorem a4Z{R:List PV->Option b4}{q0:Option b4}:∀(ps:List Pa) (acc:List (List Nat)) (q2:Option b4),okL ps->(u4 ps).length<=24->(∀k qs,Pa.again k qs∈ps->R [.list (j5 qs)]=some (.val (row (D5 qs))))->acc.length+ps.length<10000->
 ∃q2',J8 (y8 R) (l6 2) (j5 ps) [q0,some (.own (acc.map row)),q2]=some (.nx [q0,some (.own ((acc++ps.map z5).map row)),q2'])
 |[],acc,q2,_,_,_,_=>⟨q2,by rw [j5,AX,Ag];rfl⟩
 |p::ps,acc,q2,ok,hl,hR,hn=>by
  rw [AS] at hn
  rw [u4,AU] at hl
  obtain⟨q2',e⟩:=a4Z (R:=R) (q0:=q0) ps (acc++[z5 p]) (some (.val (j9 p))) ok.2 (by lia) (fun k qs h=>hR k qs (Ah _ h)) (by rw [AU,List.length_singleton];lia)
  refine⟨q2', ?_⟩
  have hsl:=a4m ok.1
  have hb:y8 R [q0,some (.own (acc.map row)),some (.val (j9 p))]=some (.nx [q0,some (.own ((acc++[z5 p]).map row)),some (.val (j9 p))]):=by
   have fin:∀m:M,m [q0,some (.own (acc.map row)),some (.val (j9 p))]=some (.val (row (z5 p)))->p8 1 m [q0,some (.own (acc.map row)),some (.val (j9 p))]=some (.nx [q0,some (.own ((acc++[z5 p]).map row)),some (.val (j9 p))]):=fun m hm=>by
    rw [C0 hm rfl rfl (by rw [Ai];lia),Az]
    rfl
   unfold y8
   rcases a0r p with⟨c,k,rfl,ep⟩|⟨k,qs,rfl,ep⟩
   ·have i0:k0 (.val (j9 (.run c k))) (.val (.int 0))=some (.val a0K):=by rw [ep];rfl
    have i1:k0 (.val (j9 (.run c k))) (.val (.int 1))=some (.val (row [c])):=by rw [ep];rfl
    have i2:k0 (.val (j9 (.run c k))) (.val (.int 2))=some (.val (.int (k:Nat))):=by rw [ep];rfl
    rw [Z6] at hl
    by_cases ck:k=1
    ·subst ck
     simp (disch:=omega) only [c6,c8,b5,c9,d5,G9,u8,d9,g6,AF,Int.cast_ofNat_Int,beq_self_eq_true,a1N,i0,i2,a8N]
     exact fin _ (by simp (disch:=omega) only [c6,c8,b5,c9,AF,i1];rw [a24];rfl)
    ·have c':((k:Int)==1)=false:=by rw [beq_eq_false_iff_ne];lia
     have d2:=T3 k
     have ad:=W9 (l:=[c]) (k:=dg k) (by simp;lia)
     simp (disch:=omega) only [c6,c8,b5,c9,d5,u8,d9,g6,AF,a1N,i0,i2,a8N,c']
     exact fin _ (by simp (disch:=omega) only [c6,t6,c8,b5,c9,AF,Aa,AT,i1,i2,a4p (k:=k) (by lia),ad];rw [a24];unfold wt;rw [if_neg ck])
   ·have i0:k0 (.val (j9 (.again k qs))) (.val (.int 0))=some (.val y9):=by rw [ep];rfl
    have i1:k0 (.val (j9 (.again k qs))) (.val (.int 1))=some (.val (.int (k:Nat))):=by rw [ep];rfl
    have i2:k0 (.val (j9 (.again k qs))) (.val (.int 2))=some (.val (.list (j5 qs))):=by rw [ep];rfl
    have hr:=hR k qs Aj
    have hk:=ok.1
    obtain⟨k1,k2,_,okq⟩:=hk
    have d2:=T3 k
    rw [D6,AS,AU,AS] at hsl
    have a1:=W9 (l:=[40]) (k:=D5 qs) (by simp;lia)
    have a2:=W9 (l:=40::D5 qs) (k:=[41]) (by simp;lia)
    have a3:=W9 (l:=40::(D5 qs++[41])) (k:=dg k) (by simp;lia)
    have e:40::(D5 qs++[41])++dg k=z5 (.again k qs):=by rw [D6];simp
    rw [e] at a3
    have s1:AQ "("=S [40]:=rfl
    have s2:AQ ")"=S [41]:=rfl
    rw [s1,s2]
    simp (disch:=omega) only [c6,c8,b5,c9,d5,G9,d9,g6,AF,i0,a90]
    exact fin _ (by simp (disch:=omega) only [c6,t6,c8,b5,c9,c4,b9,b8,d8,AF,Aa,AT,i1,i2,hr,a1,a2,a4p (k:=k) (by lia),a3])
  rw [j5,J8]
  show(y8 R [q0,some (.own (acc.map row)),some (.val (j9 p))]).bind _=_
  rw [hb,AF]
  rw [List.append_assoc] at e
  exact e
theorem a3z:∀(n:Nat) (ps:List Pa),okL ps->(u4 ps).length<=24->dpL ps<n->C8 n [.list (j5 ps)]=some (.val (row (D5 ps)))
 |0,_,_,_,h=>by lia
 |n+1,ps,ok,hl,hd=>by
  have hm:=N9 ok
  obtain⟨q2,e⟩:=a4Z (R:=C8 n) (q0:=some (.val (.list (j5 ps)))) ps [] none ok hl (fun k qs hq=>by
   obtain⟨h1,h2,h3,h4,h5,h6,h7⟩:=a3a ok hq
   exact a3z n qs h1 (by lia) (by lia)) (by simp;lia)
  have hit:PyData.items? (.list (j5 ps))=some (j5 ps):=rfl
  rw [AT] at e
  have hs:=a07 ok
  have jn:A5 (.val (.str (AQ " "))) (.bo (.lst ((ps.map z5).map row)))=some (.val (row (D5 ps))):=
   a7S (ls:=ps.map z5) (y:= .bo (.lst ((ps.map z5).map row))) rfl (by
    rw [At]
    have h6:(ps.map ((fun l=>l.length+1)∘z5)).sum=(ps.map fun p=>(z5 p).length+1).sum:=rfl
    lia)
  show i4 2 (M8 (C8 n)) [.list (j5 ps)]=_
  unfold M8
  simp (disch:=omega) only [b5,c4,b8,R1,i7,a0u,d6,g0,f7,I0,AF,AM,AX,AY,AV,Aa,AT,Ab,Ac,Af,↓reduceIte,E7,sz,An,hit]
  rw [show(some (b4.own []))=some (b4.own (([]:List (List Nat)).map row)) from rfl,e]
  simp (disch:=omega) only [c6,c8,a6r,c9,i8,m8,g0,i9,AF,jn]
def isD(x:Nat):Prop:=48<=x/\x<=57
theorem a8Y(a b:Nat):W1 (.val (row [a])) (.val (row [b]))=some (.val (.bool (decide (a<=b)))):=by
 show some (b4.val (.bool (!decide ((S [b]).cps.toList<(S [a]).cps.toList))))=_
 rw [a3o,a3o]
 congr 3
 have:([b]<[a])↔b<a:=by rw [List.cons_lt_cons_iff];simp
 by_cases h:a<=b
 ·rw [decide_eq_true h,decide_eq_false (fun z=>by have:=this.mp z;lia)];rfl
 ·rw [decide_eq_false h,decide_eq_true (this.mpr (by lia))];rfl
theorem a2j{pre r:List Nat}{x:Nat}(hl:(pre++x::r).length<=10000):k0 (.val (row (pre++x::r))) (.val (.int (pre.length:Nat)))=some (.val (row [x])):=by
 refine b06 (by lia) ?_
 rw [b0Y,List.getElem?_append_right (AR _),Nat.sub_self]
 rfl
theorem R5{pre r:List Nat}{x y:Nat}:B0 (.val (row (pre++x::r))) (.val (row [y])) (.val (.int (pre.length:Nat)))=some (.val (.bool (decide (x=y)))):=by
 show some (b4.val (.bool _))=_
 congr 3
 have f:fromIndex (S (pre++x::r)).length (pre.length:Nat)=pre.length:=by
  unfold fromIndex
  rw [if_neg (by lia)]
  lia
 rw [f,Q1,Q1]
 have h1:decide (pre.length+[y].length<=(pre++x::r).length)=true:=decide_eq_true (by simp)
 rw [h1,Bool.true_and]
 unfold Builtin.Str.subAt
 rw [Q1]
 have e:(S (pre++x::r)).cps.extract pre.length (pre.length+[y].length)= #[x]:=by
  apply Array.ext'
  rw [Array.toList_extract,a3o]
  simp [List.drop_append,List.extract]
 rw [e]
 show(#[x]== #[y])=_
 by_cases h:x=y
 ·subst h;simp
 ·rw [decide_eq_false h];simp [h]
theorem a50{pre:List Nat}{y:Nat}:B0 (.val (row pre)) (.val (row [y])) (.val (.int (pre.length:Nat)))=some (.val (.bool false)):=by
 show some (b4.val (.bool _))=_
 congr 3
 have f:fromIndex (S pre).length (pre.length:Nat)=pre.length:=by
  unfold fromIndex
  rw [if_neg (by lia)]
  lia
 rw [f,Q1,Q1]
 have h1:decide (pre.length+[y].length<=pre.length)=false:=decide_eq_false (by simp)
 rw [h1,Bool.false_and]
theorem X2{l:List Nat}(h:l.length<=10000):M6 (.val (row l))=some (.val (.int (l.length:Nat))):=by
 show(if(S l).length<=AJ then some (b4.val (.int ((S l).length:Nat))) else none)=_
 rw [Q1,if_pos (by rw [sizeLine_eq];lia)]
theorem a8R(a b:List Nat):gEq (.val (row a)) (.val (row b))=some (.val (.bool (a==b))):=by
 have h:=a3X a b
 rw [a5G (x:= .val (row a)) (y:= .val (row b)) ⟨rfl,rfl⟩] at h
 rw [a95 (x:= .val (row a)) (y:= .val (row b)) ⟨rfl,rfl⟩]
 have h:=Option.some.inj h
 injection h with h
 injection h with h
 rw [Bool.not_inj h]
theorem a4M{post:List Nat}(hp:∀y r,post=y::r->¬isD y){T:List Nat}(hT:T.length<=10000){q1:Option b4}:∀(ds pre:List Nat) (fuel:Nat),T=pre++(ds++post)->(∀x∈ds,isD x)->ds.length<fuel->
 A3 (a0W (J3 (m2 a4Q (a7 4) (m1 M6 (a7 0)))) (J3 (P0 W1 W1 (a7 2) (m2 k0 (a7 0) (a7 4)) (a7 3)))) L0 fuel [some (.val (row T)),q1,some (.val (row [48])),some (.val (row [57])),some (.val (.int (pre.length:Nat)))]
 =some (.nx [some (.val (row T)),q1,some (.val (row [48])),some (.val (row [57])),some (.val (.int ((pre.length+ds.length:Nat):Int)))])
 |[],pre,0,_,_,h=>by lia
 |[],pre,fuel+1,e,hd,_=>by
  rw [AT] at e
  have gl:M6 (.val (row T))=some (.val (.int (T.length:Nat))):=X2 hT
  have c:a0W (J3 (m2 a4Q (a7 4) (m1 M6 (a7 0)))) (J3 (P0 W1 W1 (a7 2) (m2 k0 (a7 0) (a7 4)) (a7 3))) [some (.val (row T)),q1,some (.val (row [48])),some (.val (row [57])),some (.val (.int (pre.length:Nat)))]=some false:=by
   cases post with
   |nil=>
    have hlt:decide ((pre.length:Int)<(T.length:Int))=false:=decide_eq_false (by rw [e];simp)
    simp (disch:=omega) only [a1m,c6,t6,b5,c9,d9,g6,z9,a3N,AF,gl,hlt]
   |cons y r=>
    have hlt:decide ((pre.length:Int)<(T.length:Int))=true:=decide_eq_true (by rw [e];simp;lia)
    have sa:k0 (.val (row T)) (.val (.int (pre.length:Nat)))=some (.val (row [y])):=by rw [e];exact a2j (by rw [<-e];exact hT)
    have hy:=hp y r rfl
    unfold isD at hy
    by_cases h1:48<=y
    ·have h2:decide (y<=57)=false:=decide_eq_false (by lia)
     simp (disch:=omega) only [a1m,E6,a4B,c6,t6,b5,c9,d9,g6,z9,a1e,AF,gl,hlt,sa,a8Y,decide_eq_true h1,h2]
    ·simp (disch:=omega) only [a1m,E6,b00,c6,t6,b5,c9,d9,g6,z9,a1e,AF,gl,hlt,sa,a8Y,decide_eq_false h1]
  rw [A3,c]
  rfl
 |d::ds,pre,0,_,_,h=>by simp at h
 |d::ds,pre,fuel+1,e,hd,h=>by
  rw [AS] at h
  have gl:M6 (.val (row T))=some (.val (.int (T.length:Nat))):=X2 hT
  have hlt:decide ((pre.length:Int)<(T.length:Int))=true:=decide_eq_true (by rw [e];simp;lia)
  have sa:k0 (.val (row T)) (.val (.int (pre.length:Nat)))=some (.val (row [d])):=by rw [e,Aa];exact a2j (by rw [<-Aa,<-e];exact hT)
  have hd1:=hd d Aj
  have c:a0W (J3 (m2 a4Q (a7 4) (m1 M6 (a7 0)))) (J3 (P0 W1 W1 (a7 2) (m2 k0 (a7 0) (a7 4)) (a7 3))) [some (.val (row T)),q1,some (.val (row [48])),some (.val (row [57])),some (.val (.int (pre.length:Nat)))]=some true:=by
   simp (disch:=omega) only [a1m,E6,a4B,c6,t6,b5,c9,d9,g6,z9,a1e,AF,gl,hlt,sa,a8Y,decide_eq_true hd1.1,decide_eq_true hd1.2]
  have b:L0 [some (.val (row T)),q1,some (.val (row [48])),some (.val (row [57])),some (.val (.int (pre.length:Nat)))]=some (.nx [some (.val (row T)),q1,some (.val (row [48])),some (.val (row [57])),some (.val (.int ((pre++[d]).length:Nat)))]):=by
   unfold L0 a17
   show some _=_
   rw [AU,List.length_singleton,Int.natCast_add]
   rfl
  have ih:=a4M hp hT (q1:=q1) ds (pre++[d]) fuel (by rw [e];simp) (fun x hx=>hd x (Ah _ hx)) (by lia)
  rw [A3,c,AF,if_pos rfl,b,AF]
  show A3 _ _ fuel _=_
  rw [ih,AU,List.length_singleton,AS,show pre.length+1+ds.length=pre.length+(ds.length+1) by lia]
theorem a5C{pre ds post:List Nat}(hp:∀y r,post=y::r->¬isD y)(hd:∀x∈ds,isD x)(hl:ds.length<90)(hT:(pre++(ds++post)).length<=10000):v3 [row (pre++(ds++post)),.int (pre.length:Nat)]=some (.val (.int ((pre.length+ds.length:Nat):Int))):=by
 have e:=a4M hp (T:=pre++(ds++post)) hT (q1:=some (.val (.int (pre.length:Nat)))) ds pre 100 rfl hd (by lia)
 have s0:AQ "0"=S [48]:=rfl
 have s9:AQ "9"=S [57]:=rfl
 unfold v3 a0m a1n a3q
 rw [s0,s9]
 simp (disch:=omega) only [c8,b5,c9,c4,b9,b8,d8,i7,p9,i8,m8,d6,g0,f7,i9,AF,AM,AX,AY,AV,Ag,Aa,AT,Ab,Ac,a0a,a0b,e]
theorem b02{k:Nat}(hk:k<25):∀x∈dg k,isD x:=by
 unfold dg isD
 intro x hx
 split at hx
 ·have:x=48+k:=by simpa using hx
  lia
 ·have:x=48+k / 10\/x=48+k % 10:=by simpa using hx
  lia
theorem b0k{k:Nat}(h2:2<=k)(hk:k<25):N3 [row (dg k)]=some (.val (.int (k:Nat))):=by
 have fe:=a5C (pre:=[]) (ds:=dg k) (post:=[]) (fun y r h=>nomatch h) (b02 hk) (by have:=T3 k;lia) (by have:=T3 k;simp;lia)
 rw [Ag,AT,Af,Nat.zero_add] at fe
 have fe:v3 [row (dg k),.int 0]=some (.val (.int ((dg k).length:Nat))):=fe
 have it:a6l (.val (row (dg k)))=some (.val (.int (k:Nat))):=by
  match k,hk with
  |2,_=>kernel_rfl
  |3,_=>kernel_rfl
  |4,_=>kernel_rfl
  |5,_=>kernel_rfl
  |6,_=>kernel_rfl
  |7,_=>kernel_rfl
  |8,_=>kernel_rfl
  |9,_=>kernel_rfl
  |10,_=>kernel_rfl
  |11,_=>kernel_rfl
  |12,_=>kernel_rfl
  |13,_=>kernel_rfl
  |14,_=>kernel_rfl
  |15,_=>kernel_rfl
  |16,_=>kernel_rfl
  |17,_=>kernel_rfl
  |18,_=>kernel_rfl
  |19,_=>kernel_rfl
  |20,_=>kernel_rfl
  |21,_=>kernel_rfl
  |22,_=>kernel_rfl
  |23,_=>kernel_rfl
  |24,_=>kernel_rfl
  |k+25,h=>lia
 obtain⟨d1,d2⟩:=T3 k
 have gl:M6 (.val (row (dg k)))=some (.val (.int ((dg k).length:Nat))):=X2 (by lia)
 have g1:decide ((1:Int)<=((dg k).length:Int))=true:=decide_eq_true (by lia)
 have g2:decide (((dg k).length:Int)<=4)=true:=decide_eq_true (by lia)
 obtain⟨x,r,ex⟩:∃x r,dg k=x::r:=by
  cases h:dg k with
  |nil=>rw [h] at d1;simp at d1
  |cons x r=>exact⟨x,r,rfl⟩
 have hx0:x≠48:=by
  unfold dg at ex
  split at ex
  ·injection ex with e1 _;lia
  ·injection ex with e1 _;lia
 have i0:k0 (.val (row (dg k))) (.val (.int 0))=some (.val (row [x])):=by rw [ex];exact a2j (pre:=[]) (by have:(x::r).length<=2:=ex▸d2;simp only [AT];lia)
 have q0:gEq (.val (row [x])) (.val (.str (AQ "0")))=some (.val (.bool false)):=by
  have:=a8R [x] [48]
  rw [show AQ "0"=S [48] from rfl,this]
  simp [hx0]
 unfold N3 a1J D7
 simp (disch:=omega) only [a7H,E6,a4B,c6,t6,c8,b5,c4,b9,b8,d8,i8,m8,d6,g0,d5,u8,j7,f7,i9,d9,g6,A0,R3,z9,a3D,a3N,AF,Ap,AM,AX,AV,Ag,Bool.not_true,beq_self_eq_true,a7I,gl,g1,g2,fe,i0,q0,it]
theorem a8J{pre ds post:List Nat}:cut (pre++(ds++post)) (some (pre.length:Nat)) (some ((pre.length+ds.length:Nat):Int))=ds:=by
 unfold cut
 have h1:HT.sIx (pre++(ds++post)).length 0 (some (pre.length:Nat))=pre.length:=by rw [HT.sIx_nat];simp
 have h2:HT.sIx (pre++(ds++post)).length (pre++(ds++post)).length (some ((pre.length+ds.length:Nat):Int))=pre.length+ds.length:=by
  rw [HT.sIx_nat];simp
 rw [h1,h2,List.drop_left,Nat.add_sub_cancel_left,List.take_left]
theorem a8q{pre ds post:List Nat}(hT:(pre++(ds++post)).length<=10000):gSl (.val (row (pre++(ds++post)))) (some (pre.length:Nat)) (some ((pre.length+ds.length:Nat):Int))=some (.val (row ds)):=by
 show(if(S (pre++(ds++post))).length<=AJ then some (b4.val (.str ⟨(cut (S (pre++(ds++post))).cps.toList (some (pre.length:Nat)) (some ((pre.length+ds.length:Nat):Int))).toArray⟩)) else none)=_
 rw [Q1,if_pos (by rw [sizeLine_eq];lia),a3o,a8J]
 rfl
theorem a5A{k:Nat}(h2:2<=k)(hk:k<25):z8 [row (dg k),.int 2,.int 24]=some (.val (.int (k:Nat))):=by
 have nb:=b0k h2 hk
 have g1:decide ((2:Int)<=(k:Int))=true:=decide_eq_true (by lia)
 have g2:decide ((k:Int)<=24)=true:=decide_eq_true (by lia)
 have is:a0g false (.val (.int (k:Nat))) (.val .none)=some (.val (.bool false)):=rfl
 unfold z8 Q3
 simp (disch:=omega) only [a7H,E6,a4B,c6,c8,b5,c9,c4,b9,b8,d8,i7,p9,d6,g0,d5,u8,j7,f7,i9,d9,g6,A0,R3,a3D,AF,Ap,AM,AX,AY,AV,Aa,AT,Ab,Ac,Bool.not_true,a0a,a0b,nb,is,g1,g2]
theorem a5j{pre post:List Nat}{k:Nat}(h2:2<=k)(hk:k<25)(hp:∀y r,post=y::r->¬isD y)(hT:(pre++(dg k++post)).length<=10000):u5 [row (pre++(dg k++post)),.int (pre.length:Nat)]=some (.val (.tuple [.int (k:Nat),.int ((pre.length+(dg k).length:Nat):Int)])):=by
 obtain⟨d1,d2⟩:=T3 k
 have fe:=a5C (pre:=pre) (ds:=dg k) (post:=post) hp (b02 hk) (by lia) hT
 have sl:=a8q (pre:=pre) (ds:=dg k) (post:=post) hT
 have bt:=a5A h2 hk
 have c':(((pre.length+(dg k).length:Nat):Int)==(pre.length:Int))=false:=by rw [beq_eq_false_iff_ne];lia
 have is:a0g false (.val (.int (k:Nat))) (.val .none)=some (.val (.bool false)):=rfl
 unfold u5 a0v F8
 generalize pre++(dg k++post)=T at fe sl ⊢
 generalize pre.length+(dg k).length=e at fe sl c' ⊢
 simp (disch:=omega) only [c6,c8,b5,c9,c4,b9,b8,D1,d8,i7,p9,i8,m8,d6,g0,d5,u8,j7,f7,i9,d9,g6,AF,AM,AX,AY,AV,Aa,AT,Ab,Ac,AS,Af,↓reduceIte,a0H,a0J,a30,sz,Nat.reduceAdd,An,a1N,fe,c',sl,bt,is]
theorem a52{pre post:List Nat}(hp:∀y r,post=y::r->¬isD y)(hT:(pre++post).length<=10000):u5 [row (pre++post),.int (pre.length:Nat)]=some (.val (.tuple [.int 1,.int (pre.length:Nat)])):=by
 have fe:=a5C (pre:=pre) (ds:=[]) (post:=post) hp (fun x h=>nomatch h) (by simp) (by rw [AT];exact hT)
 rw [AT,Af,Nat.add_zero] at fe
 unfold u5 a0v
 simp (disch:=omega) only [c6,c8,b5,c9,c4,b9,b8,D1,d8,i7,p9,i8,m8,d6,g0,a0e,d5,G9,f7,i9,d9,g6,AF,AM,AX,AY,AV,Aa,AT,Ab,Ac,AS,Af,↓reduceIte,sz,Nat.reduceAdd,An,beq_self_eq_true,a1N,fe]
theorem a8v{pre post:List Nat}{k:Nat}(h1:1<=k)(hk:k<25)(hp:∀y r,post=y::r->¬isD y)(hT:(pre++(wt k++post)).length<=10000):u5 [row (pre++(wt k++post)),.int (pre.length:Nat)]=some (.val (.tuple [.int (k:Nat),.int ((pre.length+(wt k).length:Nat):Int)])):=by
 by_cases c:k=1
 ·subst c
  exact a52 hp hT
 ·have e:wt k=dg k:=by unfold wt;rw [if_neg c]
  rw [e] at hT ⊢
  exact a5j (by lia) hk hp hT
abbrev fnP:PV:=a4O (AQ "fold_part_at")
def stop(post:List Nat):Prop:=post=[]\/∃r,post=41::r
theorem stop.D{post:List Nat}(h:stop post):∀y r,post=y::r->¬isD y:=fun y r e=>by
 rcases h with h|⟨t,h⟩
 ·rw [h] at e;cases e
 ·rw [h] at e;injection e with e1 _;unfold isD;lia
theorem a8m{RA RF RP:List PV->Option b4}{pre post:List Nat}{c k:Nat}{left:Int}(ok:okP (.run c k))(hp:∀y r,post=y::r->¬isD y)(hT:(pre++(z5 (.run c k)++post)).length<=10000):
 i4 1 (l8 RA RF RP) [row (pre++(z5 (.run c k)++post)),.int (pre.length:Nat),.int left]=some (.val (.tuple [j9 (.run c k),.int ((pre.length+(z5 (.run c k)).length:Nat):Int)])):=by
 obtain⟨k1,k2,hc⟩:=ok
 rw [a24] at hT ⊢
 have hcc:c≠40/\97<=c/\c<=122:=by
  simp only [Aq,List.not_mem_nil,or_false] at hc
  lia
 have eT:pre++(c::wt k++post)=pre++c::(wt k++post):=rfl
 have st:=R5 (pre:=pre) (r:=wt k++post) (x:=c) (y:=40)
 rw [decide_eq_false hcc.1] at st
 have sg:=a2j (pre:=pre) (r:=wt k++post) (x:=c) hT
 have sl:=a8q (pre:=pre) (ds:=[c]) (post:=wt k++post) hT
 have tm:=a8v (pre:=pre++[c]) (post:=post) k1 (by lia) hp (by rw [List.append_assoc];exact hT)
 rw [List.append_assoc,AU,List.length_singleton] at tm
 have e1:(pre.length:Int)+1=((pre.length+1:Nat):Int):=by lia
 have e2:pre.length+1+(wt k).length=pre.length+(c::wt k).length:=by rw [AS];lia
 rw [e2] at tm
 rw [List.length_singleton] at sl
 have is:∀x:PV,a0g false (.val (.tuple [.int (k:Nat),x])) (.val .none)=some (.val (.bool false)):=fun _=>rfl
 have g1:decide (97<=c)=true:=decide_eq_true hcc.2.1
 have g2:decide (c<=122)=true:=decide_eq_true hcc.2.2
 have ro:a2A [row [c],.int (k:Nat)]=some (.val (j9 (.run c k))):=by rw [j9];rfl
 have s1:AQ "("=S [40]:=rfl
 have s2:AQ "a"=S [97]:=rfl
 have s3:AQ "z"=S [122]:=rfl
 have tm:u5 [row (pre++c::(wt k++post)),.int ((pre.length+1:Nat):Int)]=_:=tm
 have sl:gSl (.val (row (pre++c::(wt k++post)))) (some (pre.length:Nat)) (some ((pre.length+1:Nat):Int))=_:=sl
 rw [eT]
 generalize pre++c::(wt k++post)=T at st sg sl tm ⊢
 generalize pre.length+(c::wt k).length=e at tm ⊢
 unfold l8
 rw [s1,s2,s3]
 simp (disch:=omega) only [y0,E6,a4B,X0,X1,c6,c8,b5,c9,c4,b9,b8,D1,d8,i7,p9,i8,m8,d6,g0,d5,u8,j7,f7,i9,N5,d9,g6,a1Y,A0,AF,Ap,AM,AX,AY,AV,Aa,AT,Ab,Ac,AS,Af,↓reduceIte,Bool.not_true,a0H,a0J,a30,sz,Nat.reduceAdd,An,a2I,st,e1,sl,a8Y,g1,g2,tm,is,sg,ro]
theorem a5Q{x:Str}{g:List PV->Option b4}{i:Nat}{m:MA}{ρ:a8}{qs:List PV}{r:b4}{tab:List (Str×(List PV->Option b4))}(h:ρ[i]?=some (some (.val (a4O x))))(hl:tab.lookup x=some g)(hm:m ρ=some qs)(hg:g qs=some r):a1r tab i m ρ=some r:=by
 unfold a1r
 rw [h]
 show(tab.lookup x).bind (fun g=>(m ρ).bind g)=_
 rw [hl,AF,hm,AF,hg]
theorem a7n{RA RF RP:List PV->Option b4}{pre post:List Nat}{k:Nat}{qs:List Pa}{left:Int}(h2:2<=k)(hk:k<25)(hl:left≠0)(hp:∀y r,post=y::r->¬isD y){T:List Nat}(eT:T=pre++(z5 (.again k qs)++post))(hT:T.length<=10000)
 (hR:RP [row T,.int ((pre.length+1:Nat):Int),.int (left - 1),fnP]=some (.val (.tuple [.list (j5 qs),.int ((pre.length+1+(D5 qs).length:Nat):Int)]))):
 i4 2 (L5 RA RF RP) [row T,.int ((pre.length+1:Nat):Int),.int left,fnP,row [41]]=some (.val (.tuple [j9 (.again k qs),.int ((pre.length+(z5 (.again k qs)).length:Nat):Int)])):=by
 rw [D6] at eT
 have e2:T=(pre++40::D5 qs)++41::(dg k++post):=by rw [eT];simp
 have e3:T=(pre++40::(D5 qs++[41]))++(dg k++post):=by rw [eT];simp
 have l2:(pre++40::D5 qs).length=pre.length+1+(D5 qs).length:=by simp;lia
 have l3:(pre++40::(D5 qs++[41])).length=pre.length+1+(D5 qs).length+1:=by simp;lia
 have st:=R5 (pre:=pre++40::D5 qs) (r:=dg k++post) (x:=41) (y:=41)
 rw [<-e2,l2,decide_eq_true rfl] at st
 have tm:=a5j (pre:=pre++40::(D5 qs++[41])) (post:=post) h2 hk hp (by rw [<-e3];exact hT)
 rw [<-e3,l3] at tm
 have e4:pre.length+1+(D5 qs).length+1+(dg k).length=pre.length+(z5 (.again k qs)).length:=by
  rw [D6];simp;lia
 rw [e4] at tm
 have c0:(left==0)=false:=by rw [beq_eq_false_iff_ne];exact hl
 have ck:((k:Int)==1)=false:=by rw [beq_eq_false_iff_ne];lia
 have is1:∀y:PV,a0g false (.val (.tuple [.list (j5 qs),y])) (.val .none)=some (.val (.bool false)):=fun _=>rfl
 have is2:∀y:PV,a0g false (.val (.tuple [.int (k:Nat),y])) (.val .none)=some (.val (.bool false)):=fun _=>rfl
 have e1:((pre.length+1+(D5 qs).length:Nat):Int)+1=((pre.length+1+(D5 qs).length+1:Nat):Int):=by lia
 have ep:j9 (.again k qs)= .tuple [y9,.int (k:Nat),.list (j5 qs)]:=by rw [j9]
 rw [ep]
 clear eT e2 e3 e4 l2 l3
 generalize pre.length+1+(D5 qs).length=a1 at hR st tm e1 ⊢
 generalize pre.length+(z5 (.again k qs)).length=a2 at tm ⊢
 unfold L5
 simp (disch:=omega) only [y0,a0y,X0,X1,c6,c8,b5,c9,c4,b9,b8,D1,d8,i7,p9,i8,m8,d6,g0,d5,u8,j7,f7,i9,N5,d9,g6,a1Y,A0,R3,a3D,AF,Ap,AM,AX,AY,AV,Aa,AT,Ab,Ac,AS,Af,↓reduceIte,Bool.not_true,sz,Nat.reduceAdd,An,a1N,c0,hR,is1,a2I,st,e1,tm,is2,ck]
theorem a5y{RA RF RP:List PV->Option b4}{pre r:List Nat}{left:Int}{v:PV}{T:List Nat}(eT:T=pre++40::r)
 (hA:RA [row T,.int ((pre.length+1:Nat):Int),.int left,fnP,row [41]]=some (.val v)):i4 1 (l8 RA RF RP) [row T,.int (pre.length:Nat),.int left]=some (.val v):=by
 have st:=R5 (pre:=pre) (r:=r) (x:=40) (y:=40)
 rw [<-eT,decide_eq_true rfl] at st
 have e1:(pre.length:Int)+1=((pre.length+1:Nat):Int):=by lia
 have s1:AQ "("=S [40]:=rfl
 have s2:AQ ")"=S [41]:=rfl
 unfold l8
 rw [s1,s2]
 simp (disch:=omega) only [y0,c6,c8,b5,c9,c4,b9,b8,d8,i8,m8,d6,a0e,d5,G9,f7,i9,N5,a1Y,AF,AM,AX,AY,AV,Aa,AT,a2I,st,e1,hA]
theorem a2V{RA RF RP:List PV->Option b4}{left:Int}{post:List Nat}(hs:stop post){T:List Nat}:∀(ps:List Pa) (pre:List Nat) (acc:List PV) (fuel:Nat) (q5:Option b4),ps≠[]->T=pre++(D5 ps++post)->
 (∀p∈ps,∀pre post':List Nat,(∀y r,post'=y::r->¬isD y)->T=pre++(z5 p++post')->RF [row T,.int (pre.length:Nat),.int left]=some (.val (.tuple [j9 p,.int ((pre.length+(z5 p).length:Nat):Int)])))->ps.length<=fuel->acc.length+ps.length<10000->
 A3 (mtV (mC (.bool true))) (v5 RA RF RP) fuel [some (.val (row T)),some (.val (.int (pre.length:Nat))),some (.val (.int left)),some (.val fnP),some (.own acc),q5]
 =some (.rt (.val (.tuple [.list (acc++j5 ps),.int ((pre.length+(D5 ps).length:Nat):Int)])))
 |[],_,_,_,_,h,_,_,_,_=>absurd rfl h
 |p::ps,pre,acc,0,q5,_,_,_,hf,_=>by simp at hf
 |p::ps,pre,acc,fuel+1,q5,_,eT,hR,hf,hn=>by
  rw [AS] at hf hn
  have isN:∀x y:PV,a0g false (.val (.tuple [x,y])) (.val .none)=some (.val (.bool false)):=fun _ _=>rfl
  have s1:AQ " "=S [32]:=rfl
  have key:∀(post':List Nat),(∀y r,post'=y::r->¬isD y)->T=pre++(z5 p++post')->∀b:Bool,B0 (.val (row T)) (.val (row [32])) (.val (.int ((pre.length+(z5 p).length:Nat):Int)))=some (.val (.bool b))->
   v5 RA RF RP [some (.val (row T)),some (.val (.int (pre.length:Nat))),some (.val (.int left)),some (.val fnP),some (.own acc),q5]=if b=true then some (.nx [some (.val (row T)),some (.val (.int ((pre.length+(z5 p).length+1:Nat):Int))),some (.val (.int left)),some (.val fnP),some (.own (acc++[j9 p])),some (.val (.tuple [j9 p,.int ((pre.length+(z5 p).length:Nat):Int)]))]) else some (.rt (.val (.tuple [.list (acc++[j9 p]),.int ((pre.length+(z5 p).length:Nat):Int)]))):=fun post' h1 h2 b hb=>by
   have hr:=hR p Aj pre post' h1 h2
   have hc:a1r [((AQ "fold_part_at"),RF)] 3 (a6 (a7 0) (a6 (a7 1) (a6 (a7 2) d3))) [some (.val (row T)),some (.val (.int (pre.length:Nat))),some (.val (.int left)),some (.val fnP),some (.own acc),q5]=some (.val (.tuple [j9 p,.int ((pre.length+(z5 p).length:Nat):Int)])):=
    a5Q (x:=AQ "fold_part_at") (qs:=[row T,.int (pre.length:Nat),.int left]) rfl List.lookup_cons_self (by simp (disch:=omega) only [b5,c9,c4,b9,b8,AF]) hr
   have ap:=C0 (i:=4) (m:=m2 k0 (a7 5) (mC (.int 0))) (ρ:=[some (.val (row T)),some (.val (.int (pre.length:Nat))),some (.val (.int left)),some (.val fnP),some (.own acc),some (.val (.tuple [j9 p,.int ((pre.length+(z5 p).length:Nat):Int)]))]) (r:= .val (j9 p)) (p:=j9 p) (ps:=acc) (by simp (disch:=omega) only [X0,c6,c8,b5,c9,AF]) rfl rfl (by lia)
   have fz:∀(nn:MS) (a b c d e:Option b4) (L:List PV),a1s 4 nn [a,b,c,d,some (.ow (.lst L)),e]=nn [a,b,c,d,some (.val (.list L)),e]:=fun _ _ _ _ _ _ _=>rfl
   have e1:((pre.length+(z5 p).length:Nat):Int)+1=((pre.length+(z5 p).length+1:Nat):Int):=by lia
   unfold v5
   rw [s1]
   clear eT hR hr h2
   generalize pre.length+(z5 p).length=a at hb hc ap e1 ⊢
   cases b with
   |true=>simp (disch:=omega) only [y0,X1,c6,c8,b5,c9,i7,p9,d6,g0,d5,u8,j7,N5,d9,g6,a1Y,A0,AF,Ap,Ab,Ac,↓reduceIte,Bool.not_true,hc,isN,ap,a2I,hb,e1]
   |false=>simp (disch:=omega) only [X1,c6,c8,b5,c9,c4,b9,b8,D1,i7,p9,i8,m8,d6,g0,a0e,d5,G9,u8,j7,N5,d9,g6,a1Y,A0,AF,Ap,Ab,Ac,AS,Af,↓reduceIte,Bool.not_false,Bool.false_eq_true,sz,Nat.reduceAdd,An,hc,isN,ap,a2I,hb,fz]
  cases ps with
  |nil=>
   have eL:D5 [p]=z5 p:=rfl
   rw [eL] at eT ⊢
   have hb:B0 (.val (row T)) (.val (row [32])) (.val (.int ((pre.length+(z5 p).length:Nat):Int)))=some (.val (.bool false)):=by
    rcases hs with h|⟨r,h⟩
    ·have:T=pre++z5 p:=by rw [eT,h,Ag]
     rw [this,<-AU]
     exact a50
    ·have:T=(pre++z5 p)++41::r:=by rw [eT,h,List.append_assoc]
     rw [this,<-AU]
     exact R5
   have k:=key post hs.D eT false hb
   rw [if_neg Ar] at k
   rw [A3]
   show((v5 RA RF RP [some (.val (row T)),some (.val (.int (pre.length:Nat))),some (.val (.int left)),some (.val fnP),some (.own acc),q5]).bind _)=_
   rw [k,j5,j5]
   rfl
  |cons q r=>
   have eL:D5 (p::q::r)=z5 p++32::D5 (q::r):=by
    show z5 p++[32]++D5 (q::r)=_
    simp
   rw [eL] at eT ⊢
   have e2:T=pre++(z5 p++(32::(D5 (q::r)++post))):=by rw [eT];simp
   have hb:B0 (.val (row T)) (.val (row [32])) (.val (.int ((pre.length+(z5 p).length:Nat):Int)))=some (.val (.bool true)):=by
    have:T=(pre++z5 p)++32::(D5 (q::r)++post):=by rw [e2,List.append_assoc]
    rw [this,<-AU]
    exact R5
   have k:=key (32::(D5 (q::r)++post)) (fun y t h=>by injection h with h1 _;unfold isD;lia) e2 true hb
   rw [if_pos rfl] at k
   have ih:=a2V (RA:=RA) (RF:=RF) (RP:=RP) (left:=left) hs (q::r) (pre++(z5 p++[32])) (acc++[j9 p]) fuel (some (.val (.tuple [j9 p,.int ((pre.length+(z5 p).length:Nat):Int)]))) (by simp) (by rw [e2];simp) (fun p' hp'=>hR p' (Ah _ hp')) (by lia) (by rw [AU,List.length_singleton];lia)
   have l1:(pre++(z5 p++[32])).length=pre.length+(z5 p).length+1:=by simp;lia
   rw [l1] at ih
   rw [A3]
   show((v5 RA RF RP [some (.val (row T)),some (.val (.int (pre.length:Nat))),some (.val (.int left)),some (.val fnP),some (.own acc),q5]).bind _)=_
   rw [k]
   show A3 _ _ fuel _=_
   rw [ih,j5,List.append_assoc]
   have l2:pre.length+(z5 p).length+1+(D5 (q::r)).length=pre.length+(z5 p++32::D5 (q::r)).length:=by simp;lia
   rw [l2]
   rfl
theorem a5d:∀(n:Nat) (ps:List Pa) (pre post:List Nat) (left:Nat) (T:List Nat),okL ps->ps≠[]->(u4 ps).length<=24->dpL ps<=left->3*dpL ps+2<=n->stop post->T=pre++(D5 ps++post)->T.length<=10000->
 u3 n [row T,.int (pre.length:Nat),.int (left:Nat),fnP]=some (.val (.tuple [.list (j5 ps),.int ((pre.length+(D5 ps).length:Nat):Int)]))
 |0,_,_,_,_,_,_,_,_,_,h,_,_,_=>by lia
 |1,_,_,_,_,_,_,_,_,_,h,_,_,_=>by lia
 |m+2,ps,pre,post,left,T,ok,hne,hl,hd,hn,hs,eT,hT=>by
  have hm:=N9 ok
  have e:=a2V (RA:=B8 (m+1)) (RF:=m6 (m+1)) (RP:=u3 (m+1)) (left:=(left:Nat)) hs (T:=T) ps pre [] 100 none hne eT (fun p hp pre' post' hD eT'=>by
   rcases a0r p with⟨c,k,rfl,_⟩|⟨k,qs,rfl,_⟩
   ·show i4 1 (l8 (B8 m) (m6 m) (u3 m)) _=_
    rw [eT']
    exact a8m (a0Z ok hp) hD (by rw [<-eT'];exact hT)
   ·obtain⟨h1,h2,h3,h4,h5,h6,h7⟩:=a3a ok hp
    obtain⟨m',rfl⟩:∃m',m=m'+1:=⟨m - 1,by lia⟩
    have ih:=a5d m' qs (pre'++[40]) (41::(dg k++post')) (left - 1) T h1 h2 (by lia) (by lia) (by lia) (.inr ⟨_,rfl⟩) (by rw [eT',D6];simp) hT
    rw [AU,List.length_singleton,show((left - 1:Nat):Int)=(left:Int) - 1 by lia] at ih
    show i4 1 (l8 (B8 (m'+1)) (m6 (m'+1)) (u3 (m'+1))) _=_
    refine a5y (r:=D5 qs++41::dg k++post') (by rw [eT',D6];simp) ?_
    show i4 2 (L5 (B8 m') (m6 m') (u3 m')) _=_
    exact a7n h3 (by lia) (by lia) hD eT' hT ih) (by lia) (by simp;lia)
  show i4 2 (T0 (B8 (m+1)) (m6 (m+1)) (u3 (m+1))) [row T,.int (pre.length:Nat),.int (left:Nat),fnP]=_
  rw [AT] at e
  unfold T0
  simp (disch:=omega) only [c4,R1,i7,a0u,d6,g0,f7,i9,AF,AM,AX,AY,AV,Aa,AT,Ab,Ac,Af,↓reduceIte,sz,An,e]
theorem a9k{ps:List Pa}(ok:okL ps)(hne:ps≠[])(hl:(u4 ps).length<=24)(hd:dpL ps<=3):t8 [row (D5 ps)]=some (.val (.list (j5 ps))):=by
 have hsl:=a9p ok
 have pe:=a5d 18 ps [] [] 12 (D5 ps) ok hne hl (by lia) (by lia) (.inl rfl) (by simp) (by lia)
 rw [Af,Nat.zero_add] at pe
 have pe:a0E [row (D5 ps),.int 0,.int 12,fnP]=some (.val (.tuple [.list (j5 ps),.int ((D5 ps).length:Nat)])):=pe
 have kn:a0A [.list (j5 ps)]=_:=a4W 6 ps ok hl (by lia)
 have gl:=X2 (l:=D5 ps) (by lia)
 have isN:∀x y:PV,a0g false (.val (.tuple [x,y])) (.val .none)=some (.val (.bool false)):=fun _ _=>rfl
 have kS:M2 "str" (row (D5 ps))=true:=rfl
 have g1:decide ((24:Int)<((u4 ps).length:Int))=false:=decide_eq_false (by lia)
 unfold t8 a1K G1 F8
 simp (disch:=omega) only [a0y,X0,X1,c6,t6,c8,b5,c9,c4,b9,b8,d8,i7,p9,i8,m8,d6,g0,d5,u8,j7,f7,i9,N5,d9,g6,a1Y,A0,R3,a3D,a2x,AF,Ap,AM,AX,AY,AV,Aa,AT,Ab,Ac,Bool.not_true,beq_self_eq_true,a7I,a4U,a7p,kS,pe,isN,gl,kn,g1]
theorem a1x(c:Int):∃N:Int,0<=N/\z7 [.int c]=some (.val (.int N)):=by
 refine⟨(c % 2147483629+48611)*69621 % 2147483629,by lia, ?_⟩
 unfold z7 a0Q
 simp (disch:=omega) only [y0,T5,G4,c6,c8,b5,i8,m8,f7,i9,AF,AM,AX,AV,Ag]
theorem a58{cs:List Int}(h:0<cs.length)(a:Int):∃c:Int,k0 (.val (.list (cs.map .int))) (.val (.int (a %(cs.length:Int))))=some (.val (.int c)):=by
 have h0:0<=a %(cs.length:Int):=Int.emod_nonneg _ (by lia)
 have h1:a %(cs.length:Int)<cs.length:=Int.emod_lt_of_pos _ (by lia)
 have hk:(a %(cs.length:Int)).toNat<cs.length:=by lia
 refine⟨cs[(a %(cs.length:Int)).toNat],a2y ?_⟩
 rw [a5z h0,Av,BE hk]
 rfl
theorem a9Z{N:Int}(h:0<=N):∃c∈[97,98,99,120,122],k0 (.val (.str (AQ "abcxz"))) (.val (.int (N / 405 % 5)))=some (.val (row [c])):=by
 have:N / 405 % 5=0\/N / 405 % 5=1\/N / 405 % 5=2\/N / 405 % 5=3\/N / 405 % 5=4:=by lia
 rcases this with e|e|e|e|e<;>rw [e]
 ·exact⟨97,by simp,rfl⟩
 ·exact⟨98,by simp,rfl⟩
 ·exact⟨99,by simp,rfl⟩
 ·exact⟨120,by simp,rfl⟩
 ·exact⟨122,by simp,rfl⟩
theorem a6P{R:List PV->Option b4}{cs:List Int}(hcs:0<cs.length){deep g B:Nat}(hdeep:deep<=3)
 (hR:0<deep->∀a room:Nat,1<=room->room<=24->a<=B->∃(qs:List Pa) (a':Nat),okL qs/\qs≠[]/\(u4 qs).length<=room/\dpL qs+1<=deep/\a'<=a+g/\R [.list (cs.map .int),.int (a:Nat),.int (room:Nat),.int ((deep:Int) - 1)]=some (.val (.tuple [.list (j5 qs),.int (a':Nat)])))
 {a left:Nat} (ha:a<=40000) (hB:a+2<=B) (hl:0<left) (hl2:left<=24) {acc:List PV} (hacc:acc.length<1000) (q2 q6 q7 q8 q9 q10:Option b4):
 ∃(p:Pa) (a' left':Nat) (q8' q9' q10':Option b4),okP p/\dpP p<=deep/\(Z5 p).length+left'=left/\a'<=a+2+g/\
  p7 R [some (.val (.list (cs.map .int))),some (.val (.int (a:Nat))),q2,some (.val (.int (deep:Nat))),some (.own acc),some (.val (.int (left:Nat))),q6,q7,q8,q9,q10]
  =some (.nx [some (.val (.list (cs.map .int))),some (.val (.int (a':Nat))),q2,some (.val (.int (deep:Nat))),some (.own (acc++[j9 p])),some (.val (.int (left':Nat))),q6,q7,q8',q9',q10']):=by
 obtain⟨c,hc⟩:=a58 hcs (((a+1:Nat):Int))
 obtain⟨N,hN,eN⟩:=a1x (c+5*((a+1:Nat):Int))
 have gl:M6 (.val (.list (cs.map .int)))=some (.val (.int (cs.length:Nat))):=by rw [Q8,Ai]
 have e1:(a:Int)+1=((a+1:Nat):Int):=by lia
 have p0:decide ((0:Int)<(left:Int))=true:=decide_eq_true (by lia)
 by_cases hb:0<deep/\1<left/\N % 3=0
 ·obtain⟨b1,b2,b3⟩:=hb
  obtain⟨m,hm,ma1,ma2⟩:∃m:Nat,(if(left:Int) - 1<3 then(left:Int) - 1 else 3)=(m:Int)/\1<=m/\m+1<=left/\m<=3:=⟨(if(left:Int) - 1<3 then(left:Int) - 1 else 3).toNat,by split<;>lia,by split<;>lia,by split<;>lia,by split<;>lia⟩
  have r0:0<=N / 3 %(m:Int):=Int.emod_nonneg _ (by lia)
  have r1:N / 3 %(m:Int)<m:=Int.emod_lt_of_pos _ (by lia)
  obtain⟨k,hk,k1,k2,k3⟩:∃k:Nat,2+N / 3 %(m:Int)=(k:Int)/\2<=k/\k<=left/\k<=4:=⟨(2+N / 3 %(m:Int)).toNat,by lia,by lia,by lia,by lia⟩
  have hroom:1<=left / k:=(Nat.le_div_iff_mul_le (by lia)).mpr (by lia)
  have hroom2:left / k<=24:=Nat.le_trans (Nat.div_le_self _ _) hl2
  obtain⟨qs,a',okq,qne,hq,dq,ha',eR⟩:=hR b1 (a+2) (left / k) hroom hroom2 (by lia)
  have hmul:k*(u4 qs).length<=left:=by
   have:=Nat.mul_le_mul_left k hq
   have:=Nat.mul_div_le left k
   lia
  have hlu:y6 [.list (j5 qs)]=some (.val (row (u4 qs))):=a33 6 qs okq (by lia) (by lia)
  have gl2:=X2 (l:=u4 qs) (by lia)
  have c1:decide ((0:Int)<(deep:Int))=true:=decide_eq_true (by lia)
  have c2:decide ((1:Int)<(left:Int))=true:=decide_eq_true (by lia)
  have c3:(N % 3==0)=true:=by rw [beq_iff_eq];exact b3
  have e2:((a+1:Nat):Int)+1=((a+2:Nat):Int):=by lia
  have e3:(left:Int)/(k:Int)=((left / k:Nat):Int):=(Int.natCast_ediv left k).symm
  have e4:(left:Int) - (k:Int)*((u4 qs).length:Int)=((left - k*(u4 qs).length:Nat):Int):=by rw [Int.ofNat_sub hmul,Int.natCast_mul]
  refine⟨.again k qs,a',left - k*(u4 qs).length,some (.val (.int N)),some (.val (.int (k:Nat))),some (.val (.list (j5 qs))),⟨k1,by lia,qne,okq⟩,by rw [dpP];lia,by rw [M4];lia,by lia, ?_⟩
  have ep:j9 (.again k qs)= .tuple [y9,.int (k:Nat),.list (j5 qs)]:=by rw [j9]
  have ap:=C0 (i:=4) (m:=X7 (a6 (mC (.str (AQ "again"))) (a6 (a7 9) (a6 (a7 10) d3)))) (ρ:=[some (.val (.list (cs.map .int))),some (.val (.int (a':Nat))),q2,some (.val (.int (deep:Nat))),some (.own acc),some (.val (.int (left:Nat))),q6,q7,some (.val (.int N)),some (.val (.int (k:Nat))),some (.val (.list (j5 qs)))]) (r:= .val (j9 (.again k qs))) (p:=j9 (.again k qs)) (ps:=acc) (by rw [ep];simp (disch:=omega) only [c8,b5,c9,c4,b9,b8,D1,AF,AS,Af,↓reduceIte,sz,Nat.reduceAdd,An]) rfl rfl (by lia)
  unfold p7
  simp (disch:=omega) only [y0,a0y,T5,G4,Q7,c6,t6,c8,b5,c9,c4,b9,b8,d8,i7,p9,d6,g0,d5,G9,d9,g6,z9,a1e,a7W,b0S,AF,Ab,Ac,a1N,p0,e1,gl,hc,eN,c1,c2,c3,hm,hk,e2,e3,eR,ap,hlu,gl2,e4]
 ·obtain⟨col,hcol,ecol⟩:=a9Z hN
  have w0:0<=N / 81 % 5 / 4/\N / 81 % 5 / 4<=1:=by lia
  obtain⟨m,hm,ma1,ma2⟩:∃m:Nat,(if 3+9*(N / 81 % 5 / 4)<(left:Int) then 3+9*(N / 81 % 5 / 4) else(left:Int))=(m:Int)/\1<=m/\m<=left:=⟨(if 3+9*(N / 81 % 5 / 4)<(left:Int) then 3+9*(N / 81 % 5 / 4) else(left:Int)).toNat,by split<;>lia,by split<;>lia,by split<;>lia⟩
  have r0:0<=N / 3 %(m:Int):=Int.emod_nonneg _ (by lia)
  have r1:N / 3 %(m:Int)<m:=Int.emod_lt_of_pos _ (by lia)
  obtain⟨k,hk,k1,k2⟩:∃k:Nat,1+N / 3 %(m:Int)=(k:Int)/\1<=k/\k<=left:=⟨(1+N / 3 %(m:Int)).toNat,by lia,by lia,by lia⟩
  have e4:(left:Int) - (k:Int)=((left - k:Nat):Int):=by lia
  refine⟨.run col k,a+1,left - k,some (.val (.int N)),some (.val (.int (k:Nat))),q10,⟨k1,by lia,hcol⟩,by rw [dpP];lia,by rw [Z6];lia,by lia, ?_⟩
  have ep:j9 (.run col k)= .tuple [a0K,row [col],.int (k:Nat)]:=by rw [j9]
  have ap:=C0 (i:=4) (m:=X7 (a6 (mC (.str (AQ "run"))) (a6 (m2 k0 (mC (.str (AQ "abcxz"))) (m2 (gIc (fun _ j=>0<j) fun i j=> .int (i % j)) (m2 (gIc a0N fun i j=> .int (i / j)) (a7 8) (mC (.int 405))) (mC (.int 5)))) (a6 (a7 9) d3)))) (ρ:=[some (.val (.list (cs.map .int))),some (.val (.int ((a+1:Nat):Int))),q2,some (.val (.int (deep:Nat))),some (.own acc),some (.val (.int (left:Nat))),q6,q7,some (.val (.int N)),some (.val (.int (k:Nat))),q10]) (r:= .val (j9 (.run col k))) (p:=j9 (.run col k)) (ps:=acc) (by rw [ep];simp (disch:=omega) only [G4,Q7,c6,c8,b5,c9,c4,b9,b8,D1,AF,AS,Af,↓reduceIte,sz,Nat.reduceAdd,An,ecol]) rfl rfl (by lia)
  unfold p7
  by_cases b1:0<deep
  ·have c1:decide ((0:Int)<(deep:Int))=true:=decide_eq_true (by lia)
   by_cases b2:1<left
   ·have c2:decide ((1:Int)<(left:Int))=true:=decide_eq_true (by lia)
    have c3:(N % 3==0)=false:=by rw [beq_eq_false_iff_ne];exact fun z=>hb ⟨b1,b2,z⟩
    simp (disch:=omega) only [y0,a0y,T5,G4,Q7,c6,t6,c8,b5,c9,c4,b9,b8,d8,i7,p9,d6,g0,d5,G9,u8,d9,g6,z9,a1e,AF,Ab,Ac,a1N,p0,e1,gl,hc,eN,c1,c2,c3,hm,hk,ap,e4]
   ·have c2:decide ((1:Int)<(left:Int))=false:=decide_eq_false (by lia)
    simp (disch:=omega) only [y0,a0y,T5,G4,Q7,c6,t6,c8,b5,c9,c4,b9,b8,d8,i7,p9,d6,g0,d5,G9,u8,d9,g6,z9,a1e,a3N,AF,Ab,Ac,p0,e1,gl,hc,eN,c1,c2,hm,hk,ap,e4]
  ·have c1:decide ((0:Int)<(deep:Int))=false:=decide_eq_false (by lia)
   simp (disch:=omega) only [y0,a0y,T5,G4,Q7,c6,t6,c8,b5,c9,c4,b9,b8,d8,i7,p9,d6,g0,d5,G9,u8,d9,g6,z9,a3N,AF,Ab,Ac,p0,e1,gl,hc,eN,c1,hm,hk,ap,e4]
theorem a8i(ps:List Pa)(p:Pa):j5 (ps++[p])=j5 ps++[j9 p]:=by rw [U2,U2,Az];rfl
theorem a8w(ps:List Pa)(p:Pa):(u4 (ps++[p])).length=(u4 ps).length+(Z5 p).length:=by
 rw [M3,M3,Az,List.flatten_append,AU]
 simp
theorem a44:∀{ps:List Pa} {p:Pa},okL ps->okP p->okL (ps++[p])
 |[],p,_,h=>⟨h,trivial⟩
 |q::ps,p,h,g=>⟨h.1,a44 h.2 g⟩
theorem a4E:∀{ps:List Pa} {p:Pa} {d:Nat},dpL ps<=d->dpP p<=d->dpL (ps++[p])<=d
 |[],p,d,_,h=>by
  show dpL [p]<=d
  rw [dpL,dpL];lia
 |q::ps,p,d,h,g=>by
  rw [dpL] at h
  rw [Aa,dpL]
  have:=a4E (ps:=ps) (p:=p) (d:=d) (by lia) g
  lia
def grw:Nat->Nat
 |0=>8
 |d+1=>4*(2+grw d)
theorem a6h{cs:List Int}(hcs:0<cs.length):∀(n deep a room:Nat),deep<n->deep<=3->1<=room->room<=24->a<=30000 - grw deep->grw deep<=5000->
 ∃(ps:List Pa) (a':Nat),okL ps/\ps≠[]/\(u4 ps).length<=room/\dpL ps<=deep/\a'<=a+grw deep/\u0 n [.list (cs.map .int),.int (a:Nat),.int (room:Nat),.int (deep:Nat)]=some (.val (.tuple [.list (j5 ps),.int (a':Nat)]))
 |0,deep,a,room,h,_,_,_,_,_=>by lia
 |n+1,deep,a,room,hn,hd,hr1,hr2,ha,hg=>by
  obtain⟨c,hc⟩:=a58 hcs (a:Int)
  obtain⟨N,hN,eN⟩:=a1x (c+(a:Int))
  have gl:M6 (.val (.list (cs.map .int)))=some (.val (.int (cs.length:Nat))):=by rw [Q8,Ai]
  obtain⟨mn,emn,mn1,mn2⟩:∃mn:Nat,1+N % 4=(mn:Int)/\1<=mn/\mn<=4:=⟨(1+N % 4).toNat,by lia,by lia,by lia⟩
  obtain⟨gi,hgi,hgi2,hR⟩:∃gi:Nat,4*(2+gi)<=grw deep/\gi<=5000/\(0<deep->∀b rm:Nat,1<=rm->rm<=24->b<=a+3*(2+gi)+2->∃(qs:List Pa) (a':Nat),okL qs/\qs≠[]/\(u4 qs).length<=rm/\dpL qs+1<=deep/\a'<=b+gi/\u0 n [.list (cs.map .int),.int (b:Nat),.int (rm:Nat),.int ((deep:Int) - 1)]=some (.val (.tuple [.list (j5 qs),.int (a':Nat)]))):=by
   cases deep with
   |zero=>exact⟨0,by show 4*(2+0)<=8;lia,by lia,fun h=>absurd h (Nat.lt_irrefl 0)⟩
   |succ d=>
    have e:grw (d+1)=4*(2+grw d):=rfl
    refine⟨grw d,by lia,by lia,fun _ b rm h1 h2 h3=> ?_⟩
    obtain⟨qs,a',x1,x2,x3,x4,x5,x6⟩:=a6h hcs n d b rm (by lia) (by lia) h1 h2 (by lia) (by lia)
    exact⟨qs,a',x1,x2,x3,by lia,x5,by rw [show((d+1:Nat):Int) - 1=(d:Int) by lia];exact x6⟩
  obtain⟨ρ1,e1,ps,a',left,q7,q8,q9,q10,x1,x2,x3,x4,x5,x6,rfl⟩:=a3w (body:=p7 (u0 n)) (tg:=l6 7) (fun i ρ=>∃(ps:List Pa) (a' left:Nat) (q7 q8 q9 q10:Option b4),okL ps/\(0<i->ps≠[])/\(u4 ps).length+left=room/\dpL ps<=deep/\a'<=a+i*(2+gi)/\ps.length<=i/\
   ρ=[some (.val (.list (cs.map .int))),some (.val (.int (a':Nat))),some (.val (.int (room:Nat))),some (.val (.int (deep:Nat))),some (.own (j5 ps)),some (.val (.int (left:Nat))),some (.val (.int (mn:Nat))),q7,q8,q9,q10])
   (ps:=Y1 0 ((mn:Nat):Int)) (ρ:=[some (.val (.list (cs.map .int))),some (.val (.int (a:Nat))),some (.val (.int (room:Nat))),some (.val (.int (deep:Nat))),some (.own []),some (.val (.int (room:Nat))),some (.val (.int (mn:Nat))),none,none,none,none])
   (by
    rintro i p hp ρ ⟨ps,a',left,q7,q8,q9,q10,x1,x2,x3,x4,x5,x6,rfl⟩
    obtain⟨rfl,hi⟩:=a6y hp
    have hi4:i<4:=by lia
    have hb:i*(2+gi)<=3*(2+gi):=Nat.mul_le_mul_right _ (by lia)
    have e5:(i+1)*(2+gi)=i*(2+gi)+(2+gi):=Nat.succ_mul _ _
    by_cases hl:0<left
    ·obtain⟨p,b,left',r8,r9,r10,y1,y2,y3,y4,y5⟩:=a6P (R:=u0 n) hcs (deep:=deep) (g:=gi) (B:=a+3*(2+gi)+2) hd hR (a:=a') (left:=left) (by lia) (by lia) hl (by lia) (acc:=j5 ps) (by rw [a4h];lia) (some (.val (.int (room:Nat)))) (some (.val (.int (mn:Nat)))) (some (.val (.int ((0:Int)+(i:Int))))) q8 q9 q10
     refine a4o rfl y5 ⟨ps++[p],b,left',some (.val (.int ((0:Int)+(i:Int)))),r8,r9,r10,a44 x1 y1,fun _=>by simp,by rw [a8w];lia,a4E x4 y2,by lia,by rw [AU,List.length_singleton];lia,by rw [a8i]⟩
    ·have p0:decide ((0:Int)<(left:Int))=false:=decide_eq_false (by lia)
     refine a4o rfl (ρ2:=[some (.val (.list (cs.map .int))),some (.val (.int (a':Nat))),some (.val (.int (room:Nat))),some (.val (.int (deep:Nat))),some (.own (j5 ps)),some (.val (.int (left:Nat))),some (.val (.int (mn:Nat))),some (.val (.int ((0:Int)+(i:Int)))),q8,q9,q10]) ?_ ⟨ps,a',left,_,q8,q9,q10,x1,fun _ z=>by
      subst z
      rw [u4] at x3
      simp at x3
      lia,x3,x4,by lia,by lia,rfl⟩
     show p7 (u0 n) [some (.val (.list (cs.map .int))),some (.val (.int (a':Nat))),some (.val (.int (room:Nat))),some (.val (.int (deep:Nat))),some (.own (j5 ps)),some (.val (.int (left:Nat))),some (.val (.int (mn:Nat))),some (.val (.int ((0:Int)+(i:Int)))),q8,q9,q10]=_
     unfold p7
     simp (disch:=omega) only [a0y,c6,c8,b5,c9,d5,u8,j7,d9,g6,AF,p0]) ⟨[],a,room,none,none,none,none,trivial,fun h=>absurd h (Nat.lt_irrefl 0),by rw [u4];simp,by rw [dpL];lia,by simp,AR _,by rw [j5]⟩
  have hlen:(Y1 0 ((mn:Nat):Int)).length=mn:=by rw [a6z,Ai,Ax]
  rw [hlen] at x2 x5
  have hb:mn*(2+gi)<=4*(2+gi):=Nat.mul_le_mul_right _ mn2
  refine⟨ps,a',x1,x2 (by lia),by lia,x4,by lia, ?_⟩
  have fz:∀(nn:MS) (s0 s1 s2 s3 s5 s6 s7 s8 s9 s10:Option b4) (L:List PV),a1s 4 nn [s0,s1,s2,s3,some (.ow (.lst L)),s5,s6,s7,s8,s9,s10]=nn [s0,s1,s2,s3,some (.val (.list L)),s5,s6,s7,s8,s9,s10]:=fun _ _ _ _ _ _ _ _ _ _ _ _=>rfl
  show i4 7 (S9 (u0 n)) [.list (cs.map .int),.int (a:Nat),.int (room:Nat),.int (deep:Nat)]=_
  unfold S9
  simp (disch:=omega) only [y0,G4,c6,t6,c8,b5,c9,c4,b9,b8,D1,R1,d8,i7,p9,a0u,i8,m8,d6,g0,f7,i9,I0,a1u,a4j,AF,AM,AX,AY,AV,Aa,AT,Ab,Ac,AS,Af,↓reduceIte,sz,Nat.reduceAdd,An,gl,hc,eN,emn,e1,fz]
theorem a6I{ns:List Int}{k:Int}(h0:0<=k):∃c:Int,F9 [.list (ns.map .int),.int k]=some (.val (.int c)):=by
 unfold F9 a0n
 by_cases h:k<ns.length
 ·have hk:k.toNat<ns.length:=by lia
  have e:L2.atI (ns.map PyData.int) k=some (.int ns[k.toNat]):=by
   rw [a5z h0,Av,BE hk];rfl
  refine⟨ns[k.toNat], ?_⟩
  simp (disch:=omega) only [a1m,Q8,c6,t6,b5,c9,d6,d5,f7,d9,g6,AF,AM,AX,AV,Ag,Ai,a2y e]
  simp only [h,decide_true]
  simp (disch:=omega) only [c6,b5,c9,i8,m8,a0e,G9,i9,AF,a2y e]
 ·refine⟨0, ?_⟩
  simp (disch:=omega) only [a1m,Q8,c6,t6,b5,c9,d6,d5,f7,d9,g6,AF,AM,AX,AV,Ag,Ai]
  simp only [h,decide_false]
  simp (disch:=omega) only [c8,i8,m8,g0,u8,j7,i9,AF]
theorem a9r(cs:List Int)(lo hi:Option Int):gSl (.val (.list (cs.map .int))) lo hi=some (.own ((cut cs lo hi).map .int)):=by
 show some _=_
 rw [show cut (cs.map PyData.int) lo hi=(cut cs lo hi).map PyData.int by unfold cut;rw [Ai,List.map_take,List.map_drop]]
theorem a7t(ns:List Int)(hn:ns.length<=63){at_:Nat}(ha:at_<=100):∃ps:List Pa,okL ps/\ps≠[]/\(u4 ps).length<=24/\dpL ps<=3/\N2 [.list (ns.map .int),.int (at_:Nat),.int 24]=some (.val (.list (j5 ps))):=by
 have gs:=a9r ns (some (at_:Nat)) none
 have hcut:=a6e ns (some ((at_:Nat):Int)) none
 have cat:A1 (.own ((cut ns (some ((at_:Nat):Int)) none).map .int)) (.own [.int 1])=some (.own ((cut ns (some ((at_:Nat):Int)) none++[1]).map .int)):=by
  rw [a8Q (by rw [Ai,sizeLine_eq];simp only [AS,Af];lia),Az]
  rfl
 have hcs:0<(cut ns (some ((at_:Nat):Int)) none++[1]).length:=by rw [AU,List.length_singleton];lia
 generalize cut ns (some ((at_:Nat):Int)) none++[1]=cs at cat hcs
 obtain⟨c,hc⟩:=a6I (ns:=ns) (k:=(at_:Nat)) (by lia)
 obtain⟨N,hN,eN⟩:=a1x c
 have hx:∃room:Nat,1<=room/\room<=24/\k0 (.own [.int 24,.int 24,.int 12,.int 5]) (.val (.int (N / 4 % 4)))=some (.val (.int (room:Nat))):=by
  have:N / 4 % 4=0\/N / 4 % 4=1\/N / 4 % 4=2\/N / 4 % 4=3:=by lia
  rcases this with e|e|e|e<;>rw [e]
  ·exact⟨24,by lia,by lia,rfl⟩
  ·exact⟨24,by lia,by lia,rfl⟩
  ·exact⟨12,by lia,by lia,rfl⟩
  ·exact⟨5,by lia,by lia,rfl⟩
 obtain⟨room,hr1,hr2,hx⟩:=hx
 obtain⟨ps,a',x1,x2,x3,x4,_,x6⟩:=a6h hcs 6 3 0 room (by lia) (by lia) hr1 hr2 (by decide) (by decide)
 refine⟨ps,x1,x2,by lia,x4, ?_⟩
 have x6:a0D [.list (cs.map .int),.int 0,.int (room:Nat),.int 3]=_:=x6
 have fz:∀(nn:MS) (s0 s1 s2 s4:Option b4) (L:List PV),a1s 3 nn [s0,s1,s2,some (.ow (.lst L)),s4]=nn [s0,s1,s2,some (.val (.list L)),s4]:=fun _ _ _ _ _ _=>rfl
 unfold N2 a1I
 simp (disch:=omega) only [G4,Q7,X0,c6,c8,b5,c9,c4,b9,b8,R1,d8,i7,p9,a0u,i8,m8,d6,g0,f7,i9,AF,AM,AX,AY,AV,Aa,AT,Ab,Ac,AS,Af,↓reduceIte,a0H,a0J,a5T,a30,sz,Nat.reduceAdd,An,Int.reduceDiv,gs,cat,hc,eN,hx,fz,x6]
theorem a6i:∀(n:Nat) (ps:List Pa),2*dpL ps+3<=n->D8 (j5 ps) n=true
 |0,_,h=>by lia
 |1,_,h=>by lia
 |2,_,h=>by lia
 |m+3,ps,h=>by
  rw [U2]
  refine a4G fun p hp=> ?_
  obtain⟨p,hp1,rfl⟩:=List.mem_map.mp hp
  have d:=a2r hp1
  rcases a0r p with⟨c,k,rfl,ep⟩|⟨k,qs,rfl,ep⟩
  ·rw [ep];rfl
  ·rw [ep]
   rw [dpP] at d
   show D8 [y9,.int (k:Nat),.list (j5 qs)] (m+2)=true
   refine a4G fun q hq=> ?_
   simp only [Aq,List.not_mem_nil,or_false] at hq
   rcases hq with rfl|rfl|rfl
   ·rfl
   ·rfl
   ·exact a6i (m+1) qs (by lia)
theorem a62{x:Nat}{A:List Nat}{m1 ma:M}{mc:MT}{n:MS}{ρ:a8}{L:List PV}(fA:a7B A ρ=true)(e1:m1 (keep A ρ)=some (.val (.list L)))(hx:x<ρ.length)(h1:L.length<16777216)(hma:(ma (keep [] ρ)).isSome=true)
 (tst:mc (ρ.set x (some (.val (.list L))))=some false):a1t x A m1 mc ma n ρ=n (ρ.set x none):=by
 unfold a1t
 rw [if_pos fA,e1]
 show(if _ then _ else _)=_
 rw [if_pos ⟨hx,by rw [sizeLine_eq];exact h1,hma,tst⟩]
theorem main:∀ns:List Int,ns.length<=63->a7K [.list (ns.map .int)]=some (.val (.bool true)):=by
 intro ns hl
 obtain⟨ρ1,e1,q1,q2,q3,q4,q5,q6,q7,rfl⟩:=a3w (body:=a0V) (tg:=l6 1) (fun _ ρ=>∃q1 q2 q3 q4 q5 q6 q7:Option b4,ρ=[some (.val (.list (ns.map .int))),q1,q2,q3,q4,q5,q6,q7])
  (ps:=Y1 0 8) (ρ:=[some (.val (.list (ns.map .int))),none,none,none,none,none,none,none])
  (by
   rintro i p hp ρ ⟨q1,q2,q3,q4,q5,q6,q7,rfl⟩
   obtain⟨rfl,hi⟩:=a6y hp
   rw [Int.zero_add] at hi ⊢
   obtain⟨ps,ok,hne,hul,hdp,ed⟩:=a7t ns hl (at_:=10*i) (by lia)
   have e10:(10:Int)*(i:Int)=((10*i:Nat):Int):=by lia
   have cp:a0B [.list (j5 ps)]=_:=a6b 6 ps ok hul (by lia)
   have uf:a0F [.list (j5 ps)]=_:=a8y 10 ps ok hul (by lia)
   have co:a5J [.list (j5 ps)]=_:=a6c 6 ps (by lia)
   have sh:T6 [.list (j5 ps)]=_:=a5g 10 ps ok hul (by lia)
   have lu:y6 [.list (j5 ps)]=_:=a33 6 ps ok hul (by lia)
   have lc:a0C [.list (j5 ps)]=_:=a4Y 6 ps (by lia)
   have ls:X3 [.list (j5 ps)]=_:=a3z 6 ps ok hul (by lia)
   have rd:=a9k ok hne hul hdp
   have hm:=N9 ok
   have ne:gNe (.val (.list (j5 ps))) (.val (.list (j5 ps)))=some (.val (.bool false)):=a7J (by
    show D8 (j5 ps) 49=true
    exact a6i 49 ps (by lia))
   have k1:M2 "str" (row (u4 ps))=true:=rfl
   have k2:M2 "str" (row (D5 ps))=true:=rfl
   have k3:M2 "int" (.int (coL ps:Nat))=true:=rfl
   have k4:M2 "bool" (.int (coL ps:Nat))=false:=rfl
   have k5:M2 "list" (.list (j5 ps))=true:=rfl
   have n1:gNe (.val (row (u4 ps))) (.val (row (u4 ps)))=some (.val (.bool false)):=by rw [a3X];simp
   have n2:gNe (.val (row (D5 ps))) (.val (row (D5 ps)))=some (.val (.bool false)):=by rw [a3X];simp
   have fzo:∀(nn:MS) (s0 s1 s2 s4 s5 s6 s7:Option b4) (L:List PV),a1s 3 nn [s0,s1,s2,some (.ow (.lst L)),s4,s5,s6,s7]=nn [s0,s1,s2,some (.val (.list L)),s4,s5,s6,s7]:=fun _ _ _ _ _ _ _ _ _=>rfl
   have fzv:∀(nn:MS) (s0 s1 s2 s4 s5 s6 s7:Option b4) (L:List PV),a1s 3 nn [s0,s1,s2,some (.val (.list L)),s4,s5,s6,s7]=nn [s0,s1,s2,some (.val (.list L)),s4,s5,s6,s7]:=fun _ _ _ _ _ _ _ _ _=>rfl
   have pk:∀q7:Option b4,a1t 7 [6] (j1 t8 (a6 (a7 6) d3)) (a0i (N4 (mtV (m1 (a3e "list") (a7 7)))) (J3 (m2 gNe (a7 7) (a7 2)))) (X7 (a6 (mC (.str "run")) (a6 (mC (.str "q")) (a6 (mC (.int 1)) d3))))
    (w4 (J3 (m2 gNe (j1 t8 (a6 (a7 6) d3)) (a7 2))) (o0 (mC (.bool false))) n8)
    [some (.val (.list (ns.map .int))),some (.val (.int (i:Int))),some (.val (.list (j5 ps))),some (.val (.list (j5 ps))),some (.val (row (u4 ps))),some (.val (.int (coL ps:Nat))),some (.val (row (D5 ps))),q7]
    =some (.nx [some (.val (.list (ns.map .int))),some (.val (.int (i:Int))),some (.val (.list (j5 ps))),some (.val (.list (j5 ps))),some (.val (row (u4 ps))),some (.val (.int (coL ps:Nat))),some (.val (row (D5 ps))),none]):=fun q7=>by
    rw [a62 (L:=j5 ps) rfl (by
     show j1 t8 (a6 (a7 6) d3) [none,none,none,none,none,none,some (.val (row (D5 ps))),none]=_
     simp (disch:=omega) only [b5,c9,c4,b9,b8,d8,AF,rd]) (by simp) (by rw [a4h];lia) rfl (by
     show a0i _ _ [some (.val (.list (ns.map .int))),some (.val (.int (i:Int))),some (.val (.list (j5 ps))),some (.val (.list (j5 ps))),some (.val (row (u4 ps))),some (.val (.int (coL ps:Nat))),some (.val (row (D5 ps))),some (.val (.list (j5 ps)))]=_
     simp (disch:=omega) only [c6,t6,b5,c9,N5,d9,g6,a1Y,A0,R3,a3D,a2x,AF,Ap,Bool.not_true,a7P,a7p,k5,ne])]
    show w4 _ _ _ [some (.val (.list (ns.map .int))),some (.val (.int (i:Int))),some (.val (.list (j5 ps))),some (.val (.list (j5 ps))),some (.val (row (u4 ps))),some (.val (.int (coL ps:Nat))),some (.val (row (D5 ps))),none]=_
    simp (disch:=omega) only [c6,b5,c9,c4,b9,b8,d8,d5,u8,j7,d9,g6,AF,rd,ne]
   refine a4o rfl (ρ2:=[some (.val (.list (ns.map .int))),some (.val (.int (i:Int))),some (.val (.list (j5 ps))),some (.val (.list (j5 ps))),some (.val (row (u4 ps))),some (.val (.int (coL ps:Nat))),some (.val (row (D5 ps))),none]) ?_ ⟨_,_,_,_,_,_,_,rfl⟩
   show a0V [some (.val (.list (ns.map .int))),some (.val (.int (i:Int))),q2,q3,q4,q5,q6,q7]=_
   unfold a0V
   simp (disch:=omega) only [T5,c6,t6,c8,b5,c9,c4,b9,b8,d8,i7,p9,a0u,d6,g0,d5,u8,j7,N5,d9,g6,a1Y,A0,R3,a3D,a2x,AF,Ap,Ab,Ac,Bool.not_true,beq_self_eq_true,a7I,a7O,a4U,a7p,e10,ed,cp,fzo,fzv,uf,co,sh,ne,k1,lu,n1,k3,k4,lc,k2,ls,n2,pk]) ⟨none,none,none,none,none,none,none,rfl⟩
 unfold a7K a9B
 simp (disch:=omega) only [c8,c4,b9,b8,i8,m8,d6,g0,f7,i9,I0,a1u,a4j,AF,AM,AX,AY,AV,Aa,AT,e1]
end LW
set_option maxHeartbeats 4000000
namespace LW
open PySem PySem.Spec PyProof.Rows L2 PU
def top(i:Nat):Stmt:=PySem.Challenge.pw_carpetkin_k31_folds_written.main.body.getD i (.Pass ⟨0,0,0,0⟩)
abbrev U9:Stmt:=top 27
theorem a0s:g8 ["_law_cell"] ["_law_cell"] (c5 U9):=mkS
theorem a0X:List.Nodup (α:=Str) ["_law_fold_here","_law_parts","_law_part","_law_turn"]:=by decide+kernel
theorem a0Y:List.Nodup (α:=Str) ["_law_fold_here","_law_parts","_law_part","_law_turn"]:=by decide+kernel
abbrev D4:Stmt:=top 29
theorem K3:g8 ["_law_fold_here","_law_parts","_law_part"] ["_law_fold_here"] (c5 D4):=mkS
abbrev U8:Stmt:=top 28
theorem Z2:g8 ["_law_cells","_law_at","_law_room","_law_deep","_law_fold_here","_law_left","_law_many","_law_turn","_law_number_here","_law_k","_law_inner"] ["_law_cells","_law_at","_law_room","_law_deep"] (c5 U8):=mkS
abbrev P4:Stmt:=top 26
theorem Y9:g8 ["_law_script","_law_k"] ["_law_script","_law_k"] (c5 P4):=mkS
abbrev Y2:Stmt:=top 31
theorem a04:g8 ["_law_script","_law_at","_law_most","_law_cells","_law_room"] ["_law_script","_law_at","_law_most"] (c5 Y2):=mkS
abbrev U6:Stmt:=top 33
theorem Z0:g8 ["_law_fold_here","_law_found","_law_part"] ["_law_fold_here"] (c5 U6):=mkS
theorem a3g:List.Nodup (α:=Str) ["fold","part"]:=by decide+kernel
abbrev V1:Stmt:=top 13
theorem Z4:g8 ["fold"] ["fold"] (c5 V1):=mkS
abbrev B3:Stmt:=top 12
theorem E9:g8 ["part"] ["part"] (c5 B3):=mkS
abbrev a4k:Stmt:=top 14
theorem a4l:g8 ["fold","many","part"] ["fold"] (c5 a4k):=mkS
abbrev K1:Stmt:=top 16
theorem R4:g8 ["many"] ["many"] (c5 K1):=mkS
theorem a18:List.Nodup (α:=Str) ["fold","part"]:=by decide+kernel
abbrev L1:Stmt:=top 18
theorem P5:g8 ["fold"] ["fold"] (c5 L1):=mkS
abbrev L3:Stmt:=top 17
theorem P6:g8 ["part"] ["part"] (c5 L3):=mkS
abbrev a1C:Stmt:=top 6
theorem a23:g8 ["text","at","first","last","end"] ["text","at","first","last"] (c5 a1C):=mkS
abbrev P3:Stmt:=top 7
theorem Y7:g8 ["text","at"] ["text","at"] (c5 P3):=mkS
abbrev Y3:Stmt:=top 8
theorem a05:g8 ["word"] ["word"] (c5 Y3):=mkS
abbrev E8:Stmt:=top 9
theorem N8:g8 ["word","least","most","number"] ["word","least","most"] (c5 E8):=mkS
abbrev a0L:Stmt:=top 19
theorem a1X:g8 ["text","at","end","many"] ["text","at"] (c5 a0L):=mkS
abbrev a22:Stmt:=top 15
theorem a3H:g8 ["colour","many"] ["colour","many"] (c5 a22):=mkS
abbrev U4:Stmt:=top 21
theorem Y6:g8 ["text","at","left","part_at","closing","found","times"] ["text","at","left","part_at","closing"] (c5 U4):=mkS
abbrev n0:Stmt:=top 22
theorem K2:g8 ["text","at","left","times"] ["text","at","left"] (c5 n0):=mkS
abbrev V0:Stmt:=top 20
theorem Z3:g8 ["text","at","left","part_at","parts","found"] ["text","at","left","part_at"] (c5 V0):=mkS
abbrev U5:Stmt:=top 23
theorem Y8:g8 ["fold","many","part"] ["fold"] (c5 U5):=mkS
abbrev Y4:Stmt:=top 24
theorem a06:g8 ["text","found"] ["text"] (c5 Y4):=mkS
abbrev U7:Stmt:=top 30
theorem Z1:g8 ["_law_fold_here","_law_found","_law_part"] ["_law_fold_here"] (c5 U7):=mkS
abbrev N7:Stmt:=top 32
theorem V2:g8 ["_law_fold_here","_law_words","_law_part"] ["_law_fold_here"] (c5 N7):=mkS
abbrev a8n:Stmt:=top 34
theorem a8o:g8 ["_law_script","_law_k","_law_fold_here","_law_handed","_law_line","_law_parts","_law_text","_law_found"] ["_law_script"] (c5 a8n):=mkS
structure Mo(K:AD)(mg:Str->Option AA):Prop where
 z_bool:mg "bool"=none
 z_int:mg "int"=none
 z_isinstance:mg "isinstance"=none
 z_len:mg "len"=none
 z_list:mg "list"=none
 z_min:mg "min"=none
 z_range:mg "range"=none
 z_str:mg "str"=none
 nl:a81 K=true
section
variable (P:AI)(w:AG)(K:AD)(mg:Str->Option AA)(base:Heap)
abbrev K6:Prop:=d0 P w K mg base "_law_number" ["_law_cell"] 1 z7
abbrev L4:Prop:=d0 P w K mg base "_law_unfolded" ["_law_fold_here"] 7 y6
abbrev a5u:Prop:=d0 P w K mg base "_law_fold" ["_law_cells","_law_at","_law_room","_law_deep"] 13 a0D
abbrev a0l:Prop:=d0 P w K mg base "_law_cell_at" ["_law_script","_law_k"] 1 F9
abbrev a1F:Prop:=d0 P w K mg base "_law_drawn" ["_law_script","_law_at","_law_most"] 14 N2
abbrev a5s:Prop:=d0 P w K mg base "_law_copy" ["_law_fold_here"] 7 a0B
abbrev a5w:Prop:=d0 P w K mg base "unfolded" ["fold"] 11 a0F
abbrev a9T:Prop:=d0 P w K mg base "cost" ["fold"] 7 a5J
abbrev J6:Prop:=d0 P w K mg base "written_times" ["many"] 1 B1
abbrev a3M:Prop:=d0 P w K mg base "shown_fold" ["fold"] 11 T6
abbrev a3p:Prop:=d0 P w K mg base "run_end" ["text","at","first","last"] 1 a1n
abbrev O2:Prop:=d0 P w K mg base "figures_end" ["text","at"] 2 v3
abbrev a1G:Prop:=d0 P w K mg base "number_in" ["word"] 3 N3
abbrev Q2:Prop:=d0 P w K mg base "number_between" ["word","least","most"] 4 z8
abbrev S4:Prop:=d0 P w K mg base "times_at" ["text","at"] 5 u5
abbrev a2n:Prop:=d0 P w K mg base "run_of" ["colour","many"] 1 a2A
abbrev a2m:Prop:=d0 P w K mg base "fold_part_at" ["text","at","left"] 23 a2z
abbrev a5v:Prop:=d0 P w K mg base "parts_at" ["text","at","left","part_at"] 23 a0E
abbrev a5r:Prop:=d0 P w K mg base "knots_in" ["fold"] 7 a0A
abbrev a1H:Prop:=d0 P w K mg base "read_fold" ["text"] 24 t8
abbrev a5t:Prop:=d0 P w K mg base "_law_cost" ["_law_fold_here"] 7 a0C
abbrev a4y:Prop:=d0 P w K mg base "_law_shown" ["_law_fold_here"] 7 X3
end
section
variable (P:AI)(w:AG){K:AD}{mg:Str->Option AA}(base:Heap)
theorem a3i(D:Df K mg "_law_number" U9):K6 P w K mg base:=by
 refine h9 (k:=0) D a0s (fun _ _ _ _ _ _=>el1 (fun _=>rfl)) fun f cdv A outer s H E hr=> ?_
 have S:=a0s
 have hu:=hr.units
 exact(b7 (g5 (d4 D2 (d4 J1 (d4 j8 (d4 D2 (a4 0 (pv 0)) a9) a9) a9) a9)))
theorem a2c{k:Nat}(hk0:1<=k){j6:List PV->Option b4}(D:Df K mg "_law_unfolded" D4)(M:Mo K mg)(k9:d0 P w K mg base "_law_unfolded" ["_law_fold_here"] k j6):d0 P w K mg base "_law_unfolded" ["_law_fold_here"] (k+1) (i4 2 (C5 j6)):=by
 refine h9 (k:=k) D K3 (fun _ _ _ _ _ _=>el1 (fun _=>rfl)) fun f cdv A outer s H E hr=> ?_
 have S:=K3
 have hu:=hr.units
 refine b6 ?_ ?_
 ·exact(j2 (i:=1) S.nd (a0w c7))
 refine b6 ?_ ?_
 ·refine a1j PassesOwn.never ?_ ?_ ?_ (C2 2) ?_
  ·exact rfl
  ·exact(a4 0 (pv 0))
  ·exact(v8 (i:=2) S.nd rfl (Or.inr rfl))
  refine b7 ?_
  refine m9 ?_ ?_ ?_
  ·exact(i5 (B5 hu) (f9 (a4 2 (pv 2)) a9) j0 (by first|rfl|exact i6 _))
  ·refine b7 ?_
   refine v0 1 (pv 1) ?_
   refine Z7 ?_ ?_
   ·exact j0
   refine a2f (ys:=["_law_turn"]) (N0:=["_law_fold_here","_law_parts","_law_part"]) (fun _ _ h=>h) ?_ ⟨by kernel_rfl,rfl,of_decide_eq_true rfl,of_decide_eq_true rfl,of_decide_eq_true rfl⟩ ?_ (fun C fp pins s H=>v8 (i:=3) a0X rfl (Or.inl rfl)) (fun n h=>V4 (i:=3) (Nat.le_of_eq h)) (fun C fp pins s H=>a3T) ?_
   ·exact rfl
   ·exact(a6f rfl M.z_range (a5 (f9 (a4 2 (pv 2)) a9) c7))
   intro C fp pins s H
   exact(f9 (a4 2 (pv 2)) a9)
  refine b7 ?_
  refine v0 1 (pv 1) ?_
  refine Z7 ?_ ?_
  ·exact j0
  refine a2f (ys:=["_law_turn"]) (N0:=["_law_fold_here","_law_parts","_law_part"]) (fun _ _ h=>h) ?_ ⟨by kernel_rfl,rfl,of_decide_eq_true rfl,of_decide_eq_true rfl,of_decide_eq_true rfl⟩ ?_ (fun C fp pins s H=>v8 (i:=3) a0Y rfl (Or.inl rfl)) (fun n h=>V4 (i:=3) (Nat.le_of_eq h)) (fun C fp pins s H=>a3T) ?_
  ·exact rfl
  ·exact(a6f rfl M.z_range (a5 (f9 (a4 2 (pv 2)) a9) c7))
  intro C fp pins s H
  exact(g9 k9 hr (by lia) rfl (b0 d7) (a5 (f9 (a4 2 (pv 2)) a9) c7))
 exact(b7 (g5 (Z7 j0 (a4 1 (pv 1)))))
theorem a1y(w6:Df K mg "_law_unfolded" D4)(M:Mo K mg):∀n:Nat,d0 P w K mg base "_law_unfolded" ["_law_fold_here"] (1+n) (u7 n):=by
 intro n
 induction n with
 |zero=>exact h9 (k:=0) w6 K3 (fun _ _ _ _ _ _=>el1 (fun _=>rfl)) fun f cdv A outer s H E hr=>n5
 |succ n ih=>
  skip
  exact a2c P w base (Nat.le_add_right _ _) w6 M ih
theorem a49{k:Nat}(hk0:7<=k){E3:List PV->Option b4}(D:Df K mg "_law_fold" U8)(M:Mo K mg)(n4:K6 P w K mg base)(k9:L4 P w K mg base)(M1:d0 P w K mg base "_law_fold" ["_law_cells","_law_at","_law_room","_law_deep"] k E3):d0 P w K mg base "_law_fold" ["_law_cells","_law_at","_law_room","_law_deep"] (k+1) (i4 7 (S9 E3)):=by
 refine h9 (k:=k) D Z2 (fun _ _ _ _ _ _=>el4 (fun _ _ _ _=>rfl)) fun f cdv A outer s H E hr=> ?_
 have S:=Z2
 have hu:=hr.units
 refine b6 ?_ ?_
 ·exact(j2 (i:=4) S.nd (a0w c7))
 refine b6 ?_ ?_
 ·exact(j2 (i:=5) S.nd (a4 2 (pv 2)))
 refine b6 ?_ ?_
 ·refine j2 (i:=6) ?_ ?_
  ·exact S.nd
  refine d4 j8 ?_ ?_
  ·exact a9
  refine d4 D2 ?_ ?_
  ·refine g9 n4 hr ?_ ?_ ?_ ?_
   ·lia
   ·exact rfl
   ·exact(b0 d7)
   refine a5 ?_ ?_
   ·exact(d4 j8 (f9 (a4 0 (pv 0)) (d4 D2 (a4 1 (pv 1)) (a0o O4 rfl M.z_len (by rfl) (a4 0 (pv 0))))) (a4 1 (pv 1)))
   exact c7
  exact a9
 refine b6 ?_ ?_
 ·refine a4J PassesOwn.never ?_ ?_ M.z_range ?_ ?_ (C2 7) ?_
  ·exact rfl
  ·exact rfl
  ·exact(a5 (a4 6 (pv 6)) c7)
  ·exact(v8 (i:=7) S.nd rfl (Or.inl rfl))
  refine b7 ?_
  refine m9 ?_ ?_ ?_
  ·exact(i5 a2U (a4 5 (pv 5)) a9 (by first|rfl|exact i6 _))
  ·refine b6 ?_ ?_
   ·exact(j2 (i:=1) S.nd (d4 j8 (a4 1 (pv 1)) a9))
   refine b6 ?_ ?_
   ·refine j2 (i:=8) ?_ ?_
    ·exact S.nd
    refine g9 n4 hr ?_ ?_ ?_ ?_
    ·lia
    ·exact rfl
    ·exact(b0 d7)
    refine a5 ?_ ?_
    ·refine d4 j8 ?_ ?_
     ·exact(f9 (a4 0 (pv 0)) (d4 D2 (a4 1 (pv 1)) (a0o O4 rfl M.z_len (by rfl) (a4 0 (pv 0)))))
     exact(d4 J1 a9 (a4 1 (pv 1)))
    exact c7
   refine b7 ?_
   refine m9 (PW.pt (a3U (i5 a2U (a4 3 (pv 3)) a9 (by first|rfl|exact i6 _)) (a3U (i5 a2U (a4 5 (pv 5)) a9 (by first|rfl|exact i6 _)) (a3V (i5 (B5 hu) (d4 D2 (a4 8 (pv 8)) a9) a9 (by first|rfl|exact i6 _)))))) ?_ ?_
   ·refine b6 ?_ ?_
    ·refine j2 (i:=9) ?_ ?_
     ·exact S.nd
     refine d4 j8 ?_ ?_
     ·exact a9
     refine d4 D2 ?_ ?_
     ·exact(d4 J0 (a4 8 (pv 8)) a9)
     exact(a9E (a7s rfl) rfl M.z_min (by rfl) a9 (d4 a01 (a4 5 (pv 5)) a9))
    refine b6 ?_ ?_
    ·refine a91 (is:=[10,1]) ?_ ?_ ?_
     ·exact rfl
     ·refine g9 M1 hr ?_ ?_ ?_ ?_
      ·lia
      ·exact rfl
      ·exact(b0 (b0 (b0 (b0 d7))))
      refine a5 ?_ ?_
      ·exact(a4 0 (pv 0))
      refine a5 ?_ ?_
      ·exact(d4 j8 (a4 1 (pv 1)) a9)
      exact(a5 (d4 J0 (a4 5 (pv 5)) (a4 9 (pv 9))) (a5 (d4 a01 (a4 3 (pv 3)) a9) c7))
     exact(a5e (v8 (i:=10) S.nd rfl (Or.inl rfl)) (a5e (v8 (i:=1) S.nd rfl (Or.inl rfl)) a9c))
    refine b6 ?_ ?_
    ·exact(v0 4 (pv 4) (J7 (a5 j0 (a5 (a4 9 (pv 9)) (a5 (a4 10 (pv 10)) c7)))))
    refine b7 ?_
    refine j2 (i:=5) ?_ ?_
    ·exact S.nd
    refine d4 a01 ?_ ?_
    ·exact(a4 5 (pv 5))
    refine d4 J1 ?_ ?_
    ·exact(a4 9 (pv 9))
    exact(a0o O4 rfl M.z_len (by rfl) (g9 k9 hr (by lia) rfl (b0 d7) (a5 (a4 10 (pv 10)) c7)))
   refine b6 ?_ ?_
   ·refine j2 (i:=9) ?_ ?_
    ·exact S.nd
    refine d4 j8 ?_ ?_
    ·exact a9
    refine d4 D2 ?_ ?_
    ·exact(d4 J0 (a4 8 (pv 8)) a9)
    refine a9E (a7s rfl) ?_ M.z_min ?_ ?_ ?_
    ·exact rfl
    ·rfl
    ·exact(a4 5 (pv 5))
    exact(d4 j8 a9 (d4 J1 a9 (d4 J0 (d4 D2 (d4 J0 (a4 8 (pv 8)) a9) a9) a9)))
   refine b6 ?_ ?_
   ·refine v0 4 (pv 4) ?_
    refine J7 ?_
    exact(a5 j0 (a5 (f9 j0 (d4 D2 (d4 J0 (a4 8 (pv 8)) a9) a9)) (a5 (a4 9 (pv 9)) c7)))
   exact(b7 (j2 (i:=5) S.nd (d4 a01 (a4 5 (pv 5)) (a4 9 (pv 9)))))
  exact l9
 exact(b7 (a1k 4 (g5 (J7 (a5 (a4 4 (pv 4)) (a5 (a4 1 (pv 1)) c7))))))
theorem a39(S0:Df K mg "_law_fold" U8)(M:Mo K mg)(n4:K6 P w K mg base)(k9:L4 P w K mg base):∀n:Nat,d0 P w K mg base "_law_fold" ["_law_cells","_law_at","_law_room","_law_deep"] (7+n) (u0 n):=by
 intro n
 induction n with
 |zero=>exact h9 (k:=6) S0 Z2 (fun _ _ _ _ _ _=>el4 (fun _ _ _ _=>rfl)) fun f cdv A outer s H E hr=>n5
 |succ n ih=>
  skip
  exact a49 P w base (Nat.le_add_right _ _) S0 M n4 k9 ih
theorem a2T(D:Df K mg "_law_cell_at" P4)(M:Mo K mg):a0l P w K mg base:=by
 refine h9 (k:=0) D Y9 (fun _ _ _ _ _ _=>el2 (fun _ _=>rfl)) fun f cdv A outer s H E hr=> ?_
 have S:=Y9
 have hu:=hr.units
 refine b6 ?_ ?_
 ·refine m9 ?_ ?_ ?_
  ·exact(i5 a6s (a4 1 (pv 1)) (a0o O4 rfl M.z_len (by rfl) (a4 0 (pv 0))) (by first|rfl|exact i6 _))
  ·exact(b7 (g5 (f9 (a4 0 (pv 0)) (a4 1 (pv 1)))))
  exact l9
 exact(b7 (g5 a9))
theorem a4b(D:Df K mg "_law_drawn" Y2)(M1:a5u P w K mg base)(n4:K6 P w K mg base)(O5:a0l P w K mg base):a1F P w K mg base:=by
 refine h9 (k:=13) D a04 (fun _ _ _ _ _ _=>el3 (fun _ _ _=>rfl)) fun f cdv A outer s H E hr=> ?_
 have S:=a04
 have hu:=hr.units
 refine b6 ?_ ?_
 ·exact(j2 (i:=3) S.nd (d4 j8 (a2t (a4 0 (pv 0)) (a0S (a4 1 (pv 1))) a8M) (a0w (a5 a9 c7))))
 refine b6 ?_ ?_
 ·refine j2 (i:=4) ?_ ?_
  ·exact S.nd
  refine f9 ?_ ?_
  ·exact(a0w (a5 (a4 2 (pv 2)) (a5 (a4 2 (pv 2)) (a5 (d4 J0 (a4 2 (pv 2)) a9) (a5 a9 c7)))))
  refine d4 D2 ?_ ?_
  ·refine d4 J0 ?_ ?_
   ·refine g9 n4 hr ?_ ?_ ?_ ?_
    ·decide
    ·exact rfl
    ·exact(b0 d7)
    refine a5 ?_ ?_
    ·exact(g9 O5 hr (by decide) rfl (b0 (b0 d7)) (a5 (a4 0 (pv 0)) (a5 (a4 1 (pv 1)) c7)))
    exact c7
   exact a9
  exact a9
 refine b7 ?_
 refine a1k 3 ?_
 refine g5 ?_
 refine f9 ?_ ?_
 ·refine g9 M1 hr ?_ ?_ ?_ ?_
  ·decide
  ·exact rfl
  ·exact(b0 (b0 (b0 (b0 d7))))
  exact(a5 (a4 3 (pv 3)) (a5 a9 (a5 (a4 4 (pv 4)) (a5 a9 c7))))
 exact a9
theorem a47{k:Nat}(hk0:1<=k){E1:List PV->Option b4}(D:Df K mg "_law_copy" U6)(L9:d0 P w K mg base "_law_copy" ["_law_fold_here"] k E1):d0 P w K mg base "_law_copy" ["_law_fold_here"] (k+1) (i4 2 (S7 E1)):=by
 refine h9 (k:=k) D Z0 (fun _ _ _ _ _ _=>el1 (fun _=>rfl)) fun f cdv A outer s H E hr=> ?_
 have S:=Z0
 have hu:=hr.units
 refine b6 ?_ ?_
 ·exact(j2 (i:=1) S.nd (a0w c7))
 refine b6 ?_ ?_
 ·refine a1j PassesOwn.never ?_ ?_ ?_ (C2 2) ?_
  ·exact rfl
  ·exact(a4 0 (pv 0))
  ·exact(v8 (i:=2) S.nd rfl (Or.inl rfl))
  refine b7 ?_
  refine m9 ?_ ?_ ?_
  ·exact(i5 (B5 hu) (f9 (a4 2 (pv 2)) a9) j0 (by first|rfl|exact i6 _))
  ·exact(b7 (v0 1 (pv 1) (a4 2 (pv 2))))
  refine b7 ?_
  refine v0 1 (pv 1) ?_
  refine J7 ?_
  refine a5 ?_ ?_
  ·exact j0
  refine a5 ?_ ?_
  ·exact(f9 (a4 2 (pv 2)) a9)
  exact(a5 (g9 L9 hr (by lia) rfl (b0 d7) (a5 (f9 (a4 2 (pv 2)) a9) c7)) c7)
 exact(b7 (Z8 1 (pv 1)))
theorem a37(R8:Df K mg "_law_copy" U6):∀n:Nat,d0 P w K mg base "_law_copy" ["_law_fold_here"] (1+n) (G6 n):=by
 intro n
 induction n with
 |zero=>exact h9 (k:=0) R8 Z0 (fun _ _ _ _ _ _=>el1 (fun _=>rfl)) fun f cdv A outer s H E hr=>n5
 |succ n ih=>
  skip
  exact a47 P w base (Nat.le_add_right _ _) R8 ih
theorem a5c{k:Nat}(hk0:1<=k){p5 R_unfolded_part:List PV->Option b4}(D:Df K mg "unfolded" V1)(E5:d0 P w K mg base "unfolded" ["fold"] k p5)(d_unfolded_part:d0 P w K mg base "unfolded_part" ["part"] k R_unfolded_part):d0 P w K mg base "unfolded" ["fold"] (k+1) (i4 0 (T1 p5 R_unfolded_part)):=by
 refine h9 (k:=k) D Z4 (fun _ _ _ _ _ _=>el1 (fun _=>rfl)) fun f cdv A outer s H E hr=> ?_
 have S:=Z4
 have hu:=hr.units
 refine b7 ?_
 refine g5 ?_
 refine Z7 ?_ ?_
 ·exact j0
 refine a2f (ys:=["part"]) (N0:=["fold"]) (fun _ _ h=>h) ?_ ⟨by kernel_rfl,rfl,of_decide_eq_true rfl,of_decide_eq_true rfl,of_decide_eq_true rfl⟩ ?_ (fun C fp pins s H=>v8 (i:=1) a3g rfl (Or.inl rfl)) (fun n h=>V4 (i:=1) (Nat.le_of_eq h)) (fun C fp pins s H=>a3T) ?_
 ·exact rfl
 ·exact(a7v (a4 0 (pv 0)))
 intro C fp pins s H
 exact(g9 d_unfolded_part hr (by lia) rfl (b0 d7) (a5 (a4 1 (pv 1)) c7))
theorem a1z{k:Nat}(hk0:1<=k){p5 R_unfolded_part:List PV->Option b4}(D:Df K mg "unfolded_part" B3)(E5:d0 P w K mg base "unfolded" ["fold"] k p5)(d_unfolded_part:d0 P w K mg base "unfolded_part" ["part"] k R_unfolded_part):d0 P w K mg base "unfolded_part" ["part"] (k+1) (i4 0 (A9 p5 R_unfolded_part)):=by
 refine h9 (k:=k) D E9 (fun _ _ _ _ _ _=>el1 (fun _=>rfl)) fun f cdv A outer s H E hr=> ?_
 have S:=E9
 have hu:=hr.units
 refine b6 ?_ ?_
 ·refine m9 ?_ ?_ ?_
  ·exact(i5 (B5 hu) (f9 (a4 0 (pv 0)) a9) j0 (by first|rfl|exact i6 _))
  ·exact(b7 (g5 (d4 J1 (f9 (a4 0 (pv 0)) a9) (f9 (a4 0 (pv 0)) a9))))
  exact l9
 refine b7 ?_
 refine g5 ?_
 refine d4 J1 ?_ ?_
 ·exact(g9 E5 hr (by lia) rfl (b0 d7) (a5 (f9 (a4 0 (pv 0)) a9) c7))
 exact(f9 (a4 0 (pv 0)) a9)
theorem a4a(S2:Df K mg "unfolded" V1)(D_unfolded_part:Df K mg "unfolded_part" B3):∀n:Nat,d0 P w K mg base "unfolded" ["fold"] (1+n) (B9 n)/\d0 P w K mg base "unfolded_part" ["part"] (1+n) (t4 n):=by
 intro n
 induction n with
 |zero=>exact⟨h9 (k:=0) S2 Z4 (fun _ _ _ _ _ _=>el1 (fun _=>rfl)) fun f cdv A outer s H E hr=>n5,h9 (k:=0) D_unfolded_part E9 (fun _ _ _ _ _ _=>el1 (fun _=>rfl)) fun f cdv A outer s H E hr=>n5⟩
 |succ n ih=>
  obtain⟨h0,h1⟩:=ih
  exact⟨a5c P w base (Nat.le_add_right _ _) S2 h0 h1,a1z P w base (Nat.le_add_right _ _) D_unfolded_part h0 h1⟩
theorem a83{k:Nat}(hk0:1<=k){a1d:List PV->Option b4}(D:Df K mg "cost" a4k)(a2q:d0 P w K mg base "cost" ["fold"] k a1d):d0 P w K mg base "cost" ["fold"] (k+1) (i4 2 (a3P a1d)):=by
 refine h9 (k:=k) D a4l (fun _ _ _ _ _ _=>el1 (fun _=>rfl)) fun f cdv A outer s H E hr=> ?_
 have S:=a4l
 have hu:=hr.units
 refine b6 ?_ ?_
 ·exact(j2 (i:=1) S.nd a9)
 refine b6 ?_ ?_
 ·refine a1j PassesOwn.never ?_ ?_ ?_ (C2 2) ?_
  ·exact rfl
  ·exact(a4 0 (pv 0))
  ·exact(v8 (i:=2) S.nd rfl (Or.inl rfl))
  refine b6 ?_ ?_
  ·exact(a2u (i:=1) S.nd a9 X8)
  refine b7 ?_
  refine m9 ?_ ?_ ?_
  ·exact(i5 (B5 hu) (f9 (a4 2 (pv 2)) a9) j0 (by first|rfl|exact i6 _))
  ·exact(b7 (a2u (i:=1) S.nd (g9 a2q hr (by lia) rfl (b0 d7) (a5 (f9 (a4 2 (pv 2)) a9) c7)) X8))
  exact l9
 exact(b7 (Z8 1 (pv 1)))
theorem a71(a3K:Df K mg "cost" a4k):∀n:Nat,d0 P w K mg base "cost" ["fold"] (1+n) (a0U n):=by
 intro n
 induction n with
 |zero=>exact h9 (k:=0) a3K a4l (fun _ _ _ _ _ _=>el1 (fun _=>rfl)) fun f cdv A outer s H E hr=>n5
 |succ n ih=>
  skip
  exact a83 P w base (Nat.le_add_right _ _) a3K ih
theorem a1A(D:Df K mg "written_times" K1)(M:Mo K mg):J6 P w K mg base:=by
 refine h9 (k:=0) D R4 (fun _ _ _ _ _ _=>el1 (fun _=>rfl)) fun f cdv A outer s H E hr=> ?_
 have S:=R4
 have hu:=hr.units
 refine b6 ?_ ?_
 ·exact(m9 (i5 (B5 hu) (a4 0 (pv 0)) a9 (by first|rfl|exact i6 _)) (b7 (g5 j0)) l9)
 exact(b7 (g5 (a4F a3S rfl M.z_str (by rfl) (a4 0 (pv 0)))))
theorem a3j{k:Nat}(hk0:1<=k){l7 R_shown_part:List PV->Option b4}(D:Df K mg "shown_fold" L1)(z6:d0 P w K mg base "shown_fold" ["fold"] k l7)(d_shown_part:d0 P w K mg base "shown_part" ["part"] k R_shown_part):d0 P w K mg base "shown_fold" ["fold"] (k+1) (i4 0 (K7 l7 R_shown_part)):=by
 refine h9 (k:=k) D P5 (fun _ _ _ _ _ _=>el1 (fun _=>rfl)) fun f cdv A outer s H E hr=> ?_
 have S:=P5
 have hu:=hr.units
 refine b7 ?_
 refine g5 ?_
 refine Z7 ?_ ?_
 ·exact j0
 refine a2f (ys:=["part"]) (N0:=["fold"]) (fun _ _ h=>h) ?_ ⟨by kernel_rfl,rfl,of_decide_eq_true rfl,of_decide_eq_true rfl,of_decide_eq_true rfl⟩ ?_ (fun C fp pins s H=>v8 (i:=1) a18 rfl (Or.inl rfl)) (fun n h=>V4 (i:=1) (Nat.le_of_eq h)) (fun C fp pins s H=>a3T) ?_
 ·exact rfl
 ·exact(a7v (a4 0 (pv 0)))
 intro C fp pins s H
 exact(g9 d_shown_part hr (by lia) rfl (b0 d7) (a5 (a4 1 (pv 1)) c7))
theorem a3k{k:Nat}(hk0:1<=k){l7 R_shown_part:List PV->Option b4}(D:Df K mg "shown_part" L3)(M:Mo K mg)(u6:J6 P w K mg base)(z6:d0 P w K mg base "shown_fold" ["fold"] k l7)(d_shown_part:d0 P w K mg base "shown_part" ["part"] k R_shown_part):d0 P w K mg base "shown_part" ["part"] (k+1) (i4 0 (K8 l7 R_shown_part)):=by
 refine h9 (k:=k) D P6 (fun _ _ _ _ _ _=>el1 (fun _=>rfl)) fun f cdv A outer s H E hr=> ?_
 have S:=P6
 have hu:=hr.units
 refine b6 ?_ ?_
 ·refine m9 ?_ ?_ ?_
  ·exact(i5 (B5 hu) (f9 (a4 0 (pv 0)) a9) j0 (by first|rfl|exact i6 _))
  ·refine b7 ?_
   refine g5 ?_
   refine d4 j8 ?_ ?_
   ·exact(f9 (a4 0 (pv 0)) a9)
   exact(g9 u6 hr (by lia) rfl (b0 d7) (a5 (f9 (a4 0 (pv 0)) a9) c7))
  exact l9
 refine b7 ?_
 refine g5 ?_
 refine d4 j8 ?_ ?_
 ·refine d4 j8 ?_ ?_
  ·exact(d4 j8 j0 (g9 z6 hr (by lia) rfl (b0 d7) (a5 (f9 (a4 0 (pv 0)) a9) c7)))
  exact j0
 exact(a4F a3S rfl M.z_str (by rfl) (f9 (a4 0 (pv 0)) a9))
theorem a2R(K5:Df K mg "shown_fold" L1)(D_shown_part:Df K mg "shown_part" L3)(M:Mo K mg)(u6:J6 P w K mg base):∀n:Nat,d0 P w K mg base "shown_fold" ["fold"] (1+n) (v4 n)/\d0 P w K mg base "shown_part" ["part"] (1+n) (A6 n):=by
 intro n
 induction n with
 |zero=>exact⟨h9 (k:=0) K5 P5 (fun _ _ _ _ _ _=>el1 (fun _=>rfl)) fun f cdv A outer s H E hr=>n5,h9 (k:=0) D_shown_part P6 (fun _ _ _ _ _ _=>el1 (fun _=>rfl)) fun f cdv A outer s H E hr=>n5⟩
 |succ n ih=>
  obtain⟨h0,h1⟩:=ih
  exact⟨a3j P w base (Nat.le_add_right _ _) K5 h0 h1,a3k P w base (Nat.le_add_right _ _) D_shown_part M u6 h0 h1⟩
theorem a5U(D:Df K mg "run_end" a1C)(M:Mo K mg):a3p P w K mg base:=by
 refine h9 (k:=0) D a23 (fun _ _ _ _ _ _=>el4 (fun _ _ _ _=>rfl)) fun f cdv A outer s H E hr=> ?_
 have S:=a23
 have hu:=hr.units
 refine b6 ?_ ?_
 ·exact(j2 (i:=4) S.nd (a4 1 (pv 1)))
 refine b6 ?_ ?_
 ·refine a4L 100 PassesOwn.never (PW.pt (a3U (i5 a6s (a4 4 (pv 4)) (a0o O4 rfl M.z_len (by rfl) (a4 0 (pv 0))) (by first|rfl|exact i6 _)) (a3V (a0T N6 N6 (a4 2 (pv 2)) (f9 (a4 0 (pv 0)) (a4 4 (pv 4))) (a4 3 (pv 3)))))) ?_
  exact(b7 (a2u (i:=4) S.nd a9 X8))
 exact(b7 (Z8 4 (pv 4)))
theorem a2S(D:Df K mg "figures_end" P3)(a1g:a3p P w K mg base):O2 P w K mg base:=by
 refine h9 (k:=1) D Y7 (fun _ _ _ _ _ _=>el2 (fun _ _=>rfl)) fun f cdv A outer s H E hr=> ?_
 have S:=Y7
 have hu:=hr.units
 refine b7 ?_
 refine g5 ?_
 refine g9 a1g hr ?_ ?_ ?_ ?_
 ·decide
 ·exact rfl
 ·exact(b0 (b0 (b0 (b0 d7))))
 exact(a5 (a4 0 (pv 0)) (a5 (a4 1 (pv 1)) (a5 j0 (a5 j0 c7))))
theorem a4d(D:Df K mg "number_in" Y3)(M:Mo K mg){u_MOST_FIGURES:AA}{n_MOST_FIGURES:Nat}(m_MOST_FIGURES:mg "MOST_FIGURES"=some u_MOST_FIGURES)(c_MOST_FIGURES:S5 K n_MOST_FIGURES u_MOST_FIGURES=some D7)(A4:O2 P w K mg base):a1G P w K mg base:=by
 refine h9 (k:=2) D a05 (fun _ _ _ _ _ _=>el1 (fun _=>rfl)) fun f cdv A outer s H E hr=> ?_
 have S:=a05
 have hu:=hr.units
 refine b6 ?_ ?_
 ·refine m9 (PW.pt (V7 (O6 (a0T N6 N6 a9 (a0o O4 rfl M.z_len (by rfl) (a4 0 (pv 0))) (a2g rfl m_MOST_FIGURES c_MOST_FIGURES))) (T4 (i5 (X9 hu) (g9 A4 hr (by decide) rfl (b0 (b0 d7)) (a5 (a4 0 (pv 0)) (a5 a9 c7))) (a0o O4 rfl M.z_len (by rfl) (a4 0 (pv 0))) (by first|rfl|exact i6 _))))) ?_ ?_
  ·exact(b7 (g5 x8))
  exact l9
 refine b6 ?_ ?_
 ·refine m9 (PW.pt (a3U (i5 (B5 hu) (f9 (a4 0 (pv 0)) a9) j0 (by first|rfl|exact i6 _)) (a3V (i5 a2U (a0o O4 rfl M.z_len (by rfl) (a4 0 (pv 0))) a9 (by first|rfl|exact i6 _))))) ?_ ?_
  ·exact(b7 (g5 x8))
  exact l9
 exact(b7 (g5 (a4F a8G rfl M.z_int (by rfl) (a4 0 (pv 0)))))
theorem a00(D:Df K mg "number_between" E8)(W7:a1G P w K mg base):Q2 P w K mg base:=by
 refine h9 (k:=3) D N8 (fun _ _ _ _ _ _=>el3 (fun _ _ _=>rfl)) fun f cdv A outer s H E hr=> ?_
 have S:=N8
 have hu:=hr.units
 refine b6 ?_ ?_
 ·exact(j2 (i:=3) S.nd (g9 W7 hr (by decide) rfl (b0 d7) (a5 (a4 0 (pv 0)) c7)))
 refine b6 ?_ ?_
 ·refine m9 (PW.pt (V7 (i5 U0 (a4 3 (pv 3)) x8 (by first|rfl|exact i6 _)) (T4 (O6 (a0T N6 N6 (a4 1 (pv 1)) (a4 3 (pv 3)) (a4 2 (pv 2))))))) ?_ ?_
  ·exact(b7 (g5 x8))
  exact l9
 exact(b7 (Z8 3 (pv 3)))
theorem a5b(D:Df K mg "times_at" a0L){u_LONGEST:AA}{n_LONGEST:Nat}(m_LONGEST:mg "LONGEST"=some u_LONGEST)(c_LONGEST:S5 K n_LONGEST u_LONGEST=some F8)(A4:O2 P w K mg base)(E4:Q2 P w K mg base):S4 P w K mg base:=by
 refine h9 (k:=4) D a1X (fun _ _ _ _ _ _=>el2 (fun _ _=>rfl)) fun f cdv A outer s H E hr=> ?_
 have S:=a1X
 have hu:=hr.units
 refine b6 ?_ ?_
 ·refine j2 (i:=2) ?_ ?_
  ·exact S.nd
  exact(g9 A4 hr (by decide) rfl (b0 (b0 d7)) (a5 (a4 0 (pv 0)) (a5 (a4 1 (pv 1)) c7)))
 refine b6 ?_ ?_
 ·refine m9 ?_ ?_ ?_
  ·exact(i5 (B5 hu) (a4 2 (pv 2)) (a4 1 (pv 1)) (by first|rfl|exact i6 _))
  ·exact(b7 (g5 (J7 (a5 a9 (a5 (a4 2 (pv 2)) c7)))))
  exact l9
 refine b6 ?_ ?_
 ·refine j2 (i:=3) ?_ ?_
  ·exact S.nd
  refine g9 E4 hr ?_ ?_ ?_ ?_
  ·decide
  ·exact rfl
  ·exact(b0 (b0 (b0 d7)))
  refine a5 ?_ ?_
  ·exact(a2t (a4 0 (pv 0)) (a0S (a4 1 (pv 1))) (a0S (a4 2 (pv 2))))
  exact(a5 a9 (a5 (a2g rfl m_LONGEST c_LONGEST) c7))
 refine b6 ?_ ?_
 ·exact(m9 (i5 U0 (a4 3 (pv 3)) x8 (by first|rfl|exact i6 _)) (b7 (g5 x8)) l9)
 exact(b7 (g5 (J7 (a5 (a4 3 (pv 3)) (a5 (a4 2 (pv 2)) c7)))))
theorem a65(D:Df K mg "run_of" a22):a2n P w K mg base:=by
 refine h9 (k:=0) D a3H (fun _ _ _ _ _ _=>el2 (fun _ _=>rfl)) fun f cdv A outer s H E hr=> ?_
 have S:=a3H
 have hu:=hr.units
 exact(b7 (g5 (J7 (a5 j0 (a5 (a4 0 (pv 0)) (a5 (a4 1 (pv 1)) c7))))))
theorem a45{k:Nat}(hk0:5<=k){R_again_at f6 k7:List PV->Option b4}(D:Df K mg "again_at" U4)(w8:S4 P w K mg base)(d_again_at:d0 P w K mg base "again_at" ["text","at","left","part_at","closing"] k R_again_at)(r6:d0 P w K mg base "fold_part_at" ["text","at","left"] k f6)(B4:d0 P w K mg base "parts_at" ["text","at","left","part_at"] k k7):d0 P w K mg base "again_at" ["text","at","left","part_at","closing"] (k+1) (i4 2 (L5 R_again_at f6 k7)):=by
 refine h9 (k:=k) D Y6 (fun _ _ _ _ _ _=>el5 (fun _ _ _ _ _=>rfl)) fun f cdv A outer s H E hr=> ?_
 have S:=Y6
 have hu:=hr.units
 refine b6 ?_ ?_
 ·exact(m9 (i5 (B5 hu) (a4 2 (pv 2)) a9 (by first|rfl|exact i6 _)) (b7 (g5 x8)) l9)
 refine b6 ?_ ?_
 ·refine j2 (i:=5) ?_ ?_
  ·exact S.nd
  refine g9 B4 hr ?_ ?_ ?_ ?_
  ·lia
  ·exact rfl
  ·exact(b0 (b0 (b0 (b0 d7))))
  exact(a5 (a4 0 (pv 0)) (a5 (a4 1 (pv 1)) (a5 (d4 a01 (a4 2 (pv 2)) a9) (a5 (a4 3 (pv 3)) c7))))
 refine b6 ?_ ?_
 ·refine m9 (PW.pt (V7 (i5 U0 (a4 5 (pv 5)) x8 (by first|rfl|exact i6 _)) (T4 (O6 (O7 (a1i (a4 0 (pv 0)) (a4 4 (pv 4)) (f9 (a4 5 (pv 5)) a9))))))) ?_ ?_
  ·exact(b7 (g5 x8))
  exact l9
 refine b6 ?_ ?_
 ·refine j2 (i:=6) ?_ ?_
  ·exact S.nd
  refine g9 w8 hr ?_ ?_ ?_ ?_
  ·lia
  ·exact rfl
  ·exact(b0 (b0 d7))
  exact(a5 (a4 0 (pv 0)) (a5 (d4 j8 (f9 (a4 5 (pv 5)) a9) a9) c7))
 refine b6 ?_ ?_
 ·refine m9 (PW.pt (V7 (i5 U0 (a4 6 (pv 6)) x8 (by first|rfl|exact i6 _)) (T4 (i5 (B5 hu) (f9 (a4 6 (pv 6)) a9) a9 (by first|rfl|exact i6 _))))) ?_ ?_
  ·exact(b7 (g5 x8))
  exact l9
 refine b7 ?_
 refine g5 ?_
 refine J7 ?_
 refine a5 ?_ ?_
 ·exact(J7 (a5 j0 (a5 (f9 (a4 6 (pv 6)) a9) (a5 (f9 (a4 5 (pv 5)) a9) c7))))
 exact(a5 (f9 (a4 6 (pv 6)) a9) c7)
theorem a2b{k:Nat}(hk0:5<=k){R_again_at f6 k7:List PV->Option b4}(D:Df K mg "fold_part_at" n0){m5:AB}(i3:FnV K mg "fold_part_at" m5)(w8:S4 P w K mg base)(W8:a2n P w K mg base)(d_again_at:d0 P w K mg base "again_at" ["text","at","left","part_at","closing"] k R_again_at)(r6:d0 P w K mg base "fold_part_at" ["text","at","left"] k f6)(B4:d0 P w K mg base "parts_at" ["text","at","left","part_at"] k k7):d0 P w K mg base "fold_part_at" ["text","at","left"] (k+1) (i4 1 (l8 R_again_at f6 k7)):=by
 refine h9 (k:=k) D K2 (fun _ _ _ _ _ _=>el3 (fun _ _ _=>rfl)) fun f cdv A outer s H E hr=> ?_
 have S:=K2
 have hu:=hr.units
 refine b6 ?_ ?_
 ·refine m9 ?_ ?_ ?_
  ·exact(O7 (a1i (a4 0 (pv 0)) j0 (a4 1 (pv 1))))
  ·refine b7 ?_
   refine g5 ?_
   refine g9 d_again_at hr ?_ ?_ ?_ ?_
   ·lia
   ·exact rfl
   ·exact(b0 (b0 (b0 (b0 (b0 d7)))))
   refine a5 ?_ ?_
   ·exact(a4 0 (pv 0))
   exact(a5 (d4 j8 (a4 1 (pv 1)) a9) (a5 (a4 2 (pv 2)) (a5 (a9F i3) (a5 j0 c7))))
  exact l9
 refine b6 ?_ ?_
 ·refine m9 ?_ ?_ ?_
  ·refine O6 ?_
   exact(a0T N6 N6 j0 (a2t (a4 0 (pv 0)) (a0S (a4 1 (pv 1))) (a0S (d4 j8 (a4 1 (pv 1)) a9))) j0)
  ·exact(b7 (g5 x8))
  exact l9
 refine b6 ?_ ?_
 ·refine j2 (i:=3) ?_ ?_
  ·exact S.nd
  refine g9 w8 hr ?_ ?_ ?_ ?_
  ·lia
  ·exact rfl
  ·exact(b0 (b0 d7))
  exact(a5 (a4 0 (pv 0)) (a5 (d4 j8 (a4 1 (pv 1)) a9) c7))
 refine b6 ?_ ?_
 ·exact(m9 (i5 U0 (a4 3 (pv 3)) x8 (by first|rfl|exact i6 _)) (b7 (g5 x8)) l9)
 refine b7 ?_
 refine g5 ?_
 refine J7 ?_
 refine a5 ?_ ?_
 ·refine g9 W8 hr ?_ ?_ ?_ ?_
  ·lia
  ·exact rfl
  ·exact(b0 (b0 d7))
  exact(a5 (f9 (a4 0 (pv 0)) (a4 1 (pv 1))) (a5 (f9 (a4 3 (pv 3)) a9) c7))
 exact(a5 (f9 (a4 3 (pv 3)) a9) c7)
theorem a5a{k:Nat}(hk0:5<=k){R_again_at f6 k7:List PV->Option b4}(D:Df K mg "parts_at" V0){m5:AB}(i3:FnV K mg "fold_part_at" m5)(d_again_at:d0 P w K mg base "again_at" ["text","at","left","part_at","closing"] k R_again_at)(r6:d0 P w K mg base "fold_part_at" ["text","at","left"] k f6)(B4:d0 P w K mg base "parts_at" ["text","at","left","part_at"] k k7):d0 P w K mg base "parts_at" ["text","at","left","part_at"] (k+1) (i4 2 (T0 R_again_at f6 k7)):=by
 refine h9 (k:=k) D Z3 (fun _ _ _ _ _ _=>el4 (fun _ _ _ _=>rfl)) fun f cdv A outer s H E hr=> ?_
 have S:=Z3
 have hu:=hr.units
 refine b6 ?_ ?_
 ·exact(j2 (i:=4) S.nd (a0w c7))
 refine b7 ?_
 refine a4L 100 PassesOwn.never ?_ ?_
 ·exact(O7 a2s)
 refine b6 ?_ ?_
 ·refine j2 (i:=5) ?_ ?_
  ·exact S.nd
  refine a7u 3 (a5E r6 i3 (by lia) rfl a6O) hr (pv 3) ?_ ?_
  ·exact(b0 (b0 (b0 d7)))
  exact(a5 (a4 0 (pv 0)) (a5 (a4 1 (pv 1)) (a5 (a4 2 (pv 2)) c7)))
 refine b6 ?_ ?_
 ·exact(m9 (i5 U0 (a4 5 (pv 5)) x8 (by first|rfl|exact i6 _)) (b7 (g5 x8)) l9)
 refine b6 ?_ ?_
 ·exact(v0 4 (pv 4) (f9 (a4 5 (pv 5)) a9))
 refine b6 ?_ ?_
 ·refine m9 ?_ ?_ ?_
  ·exact(O6 (O7 (a1i (a4 0 (pv 0)) j0 (f9 (a4 5 (pv 5)) a9))))
  ·exact(b7 (a1k 4 (g5 (J7 (a5 (a4 4 (pv 4)) (a5 (f9 (a4 5 (pv 5)) a9) c7))))))
  exact l9
 exact(b7 (j2 (i:=1) S.nd (d4 j8 (f9 (a4 5 (pv 5)) a9) a9)))
theorem a35(D_again_at:Df K mg "again_at" U4)(C4:Df K mg "fold_part_at" n0)(S1:Df K mg "parts_at" V0){m5:AB}(i3:FnV K mg "fold_part_at" m5)(w8:S4 P w K mg base)(W8:a2n P w K mg base):∀n:Nat,d0 P w K mg base "again_at" ["text","at","left","part_at","closing"] (5+n) (B8 n)/\d0 P w K mg base "fold_part_at" ["text","at","left"] (5+n) (m6 n)/\d0 P w K mg base "parts_at" ["text","at","left","part_at"] (5+n) (u3 n):=by
 intro n
 induction n with
 |zero=>exact⟨h9 (k:=4) D_again_at Y6 (fun _ _ _ _ _ _=>el5 (fun _ _ _ _ _=>rfl)) fun f cdv A outer s H E hr=>n5,h9 (k:=4) C4 K2 (fun _ _ _ _ _ _=>el3 (fun _ _ _=>rfl)) fun f cdv A outer s H E hr=>n5,h9 (k:=4) S1 Z3 (fun _ _ _ _ _ _=>el4 (fun _ _ _ _=>rfl)) fun f cdv A outer s H E hr=>n5⟩
 |succ n ih=>
  obtain⟨h0,h1,h2⟩:=ih
  exact⟨a45 P w base (Nat.le_add_right _ _) D_again_at w8 h0 h1 h2,a2b P w base (Nat.le_add_right _ _) C4 i3 w8 W8 h0 h1 h2,a5a P w base (Nat.le_add_right _ _) S1 i3 h0 h1 h2⟩
theorem a46{k:Nat}(hk0:1<=k){D9:List PV->Option b4}(D:Df K mg "knots_in" U5)(L8:d0 P w K mg base "knots_in" ["fold"] k D9):d0 P w K mg base "knots_in" ["fold"] (k+1) (i4 2 (S6 D9)):=by
 refine h9 (k:=k) D Y8 (fun _ _ _ _ _ _=>el1 (fun _=>rfl)) fun f cdv A outer s H E hr=> ?_
 have S:=Y8
 have hu:=hr.units
 refine b6 ?_ ?_
 ·exact(j2 (i:=1) S.nd a9)
 refine b6 ?_ ?_
 ·refine a1j PassesOwn.never ?_ ?_ ?_ (C2 2) ?_
  ·exact rfl
  ·exact(a4 0 (pv 0))
  ·exact(v8 (i:=2) S.nd rfl (Or.inl rfl))
  refine b7 ?_
  refine m9 ?_ ?_ ?_
  ·exact(i5 (B5 hu) (f9 (a4 2 (pv 2)) a9) j0 (by first|rfl|exact i6 _))
  ·exact(b7 (a2u (i:=1) S.nd (f9 (a4 2 (pv 2)) a9) X8))
  refine b7 ?_
  refine a2u (i:=1) ?_ ?_ X8
  ·exact S.nd
  refine d4 J1 ?_ ?_
  ·exact(f9 (a4 2 (pv 2)) a9)
  exact(g9 L8 hr (by lia) rfl (b0 d7) (a5 (f9 (a4 2 (pv 2)) a9) c7))
 exact(b7 (Z8 1 (pv 1)))
theorem a36(R7:Df K mg "knots_in" U5):∀n:Nat,d0 P w K mg base "knots_in" ["fold"] (1+n) (G5 n):=by
 intro n
 induction n with
 |zero=>exact h9 (k:=0) R7 Y8 (fun _ _ _ _ _ _=>el1 (fun _=>rfl)) fun f cdv A outer s H E hr=>n5
 |succ n ih=>
  skip
  exact a46 P w base (Nat.le_add_right _ _) R7 ih
theorem a4e(D:Df K mg "read_fold" Y4)(M:Mo K mg){m5:AB}(i3:FnV K mg "fold_part_at" m5){u_LONGEST:AA}{n_LONGEST:Nat}(m_LONGEST:mg "LONGEST"=some u_LONGEST)(c_LONGEST:S5 K n_LONGEST u_LONGEST=some F8){u_MOST_WITHIN:AA}{n_MOST_WITHIN:Nat}(m_MOST_WITHIN:mg "MOST_WITHIN"=some u_MOST_WITHIN)(c_MOST_WITHIN:S5 K n_MOST_WITHIN u_MOST_WITHIN=some G1)(B4:a5v P w K mg base)(r6:a2m P w K mg base)(L8:a5r P w K mg base):a1H P w K mg base:=by
 refine h9 (k:=23) D a06 (fun _ _ _ _ _ _=>el1 (fun _=>rfl)) fun f cdv A outer s H E hr=> ?_
 have S:=a06
 have hu:=hr.units
 refine b6 ?_ ?_
 ·refine m9 ?_ ?_ ?_
  ·exact(O6 (O7 (a1h (.inr (.inr (.inl rfl))) rfl M.z_isinstance (a4 0 (pv 0)) (a0d rfl M.z_str (by rfl) rfl))))
  ·exact(b7 a4K)
  exact l9
 refine b6 ?_ ?_
 ·refine j2 (i:=1) ?_ ?_
  ·exact S.nd
  refine g9 B4 hr ?_ ?_ ?_ ?_
  ·decide
  ·exact rfl
  ·exact(b0 (b0 (b0 (b0 d7))))
  exact(a5 (a4 0 (pv 0)) (a5 a9 (a5 (a2g rfl m_MOST_WITHIN c_MOST_WITHIN) (a5 (a9F i3) c7))))
 refine b6 ?_ ?_
 ·refine m9 (PW.pt (V7 (i5 U0 (a4 1 (pv 1)) x8 (by first|rfl|exact i6 _)) (V7 (i5 (X9 hu) (f9 (a4 1 (pv 1)) a9) (a0o O4 rfl M.z_len (by rfl) (a4 0 (pv 0))) (by first|rfl|exact i6 _)) (T4 (i5 a2U (g9 L8 hr (by decide) rfl (b0 d7) (a5 (f9 (a4 1 (pv 1)) a9) c7)) (a2g rfl m_LONGEST c_LONGEST) (by first|rfl|exact i6 _)))))) ?_ ?_
  ·exact(b7 a4K)
  exact l9
 exact(b7 (g5 (f9 (a4 1 (pv 1)) a9)))
theorem a48{k:Nat}(hk0:1<=k){E2:List PV->Option b4}(D:Df K mg "_law_cost" U7)(M:Mo K mg)(M0:d0 P w K mg base "_law_cost" ["_law_fold_here"] k E2):d0 P w K mg base "_law_cost" ["_law_fold_here"] (k+1) (i4 2 (S8 E2)):=by
 refine h9 (k:=k) D Z1 (fun _ _ _ _ _ _=>el1 (fun _=>rfl)) fun f cdv A outer s H E hr=> ?_
 have S:=Z1
 have hu:=hr.units
 refine b6 ?_ ?_
 ·exact(j2 (i:=1) S.nd (a0o O4 rfl M.z_len (by rfl) (a4 0 (pv 0))))
 refine b6 ?_ ?_
 ·refine a1j PassesOwn.never ?_ ?_ ?_ (C2 2) ?_
  ·exact rfl
  ·exact(a4 0 (pv 0))
  ·exact(v8 (i:=2) S.nd rfl (Or.inl rfl))
  refine b7 ?_
  refine m9 ?_ ?_ ?_
  ·exact(i5 (B5 hu) (f9 (a4 2 (pv 2)) a9) j0 (by first|rfl|exact i6 _))
  ·refine b7 ?_
   refine j2 (i:=1) ?_ ?_
   ·exact S.nd
   exact(d4 j8 (a4 1 (pv 1)) (g9 M0 hr (by lia) rfl (b0 d7) (a5 (f9 (a4 2 (pv 2)) a9) c7)))
  exact l9
 exact(b7 (Z8 1 (pv 1)))
theorem a38(R9:Df K mg "_law_cost" U7)(M:Mo K mg):∀n:Nat,d0 P w K mg base "_law_cost" ["_law_fold_here"] (1+n) (G8 n):=by
 intro n
 induction n with
 |zero=>exact h9 (k:=0) R9 Z1 (fun _ _ _ _ _ _=>el1 (fun _=>rfl)) fun f cdv A outer s H E hr=>n5
 |succ n ih=>
  skip
  exact a48 P w base (Nat.le_add_right _ _) R9 M ih
theorem a4c{k:Nat}(hk0:1<=k){B6:List PV->Option b4}(D:Df K mg "_law_shown" N7)(M:Mo K mg)(G3:d0 P w K mg base "_law_shown" ["_law_fold_here"] k B6):d0 P w K mg base "_law_shown" ["_law_fold_here"] (k+1) (i4 2 (M8 B6)):=by
 refine h9 (k:=k) D V2 (fun _ _ _ _ _ _=>el1 (fun _=>rfl)) fun f cdv A outer s H E hr=> ?_
 have S:=V2
 have hu:=hr.units
 refine b6 ?_ ?_
 ·exact(j2 (i:=1) S.nd (a0w c7))
 refine b6 ?_ ?_
 ·refine a1j PassesOwn.never ?_ ?_ ?_ (C2 2) ?_
  ·exact rfl
  ·exact(a4 0 (pv 0))
  ·exact(v8 (i:=2) S.nd rfl (Or.inl rfl))
  refine b7 ?_
  refine m9 ?_ ?_ ?_
  ·exact(i5 (B5 hu) (f9 (a4 2 (pv 2)) a9) j0 (by first|rfl|exact i6 _))
  ·refine b7 ?_
   refine v0 1 (pv 1) ?_
   refine d4 j8 ?_ ?_
   ·refine d4 j8 ?_ ?_
    ·exact(d4 j8 j0 (g9 G3 hr (by lia) rfl (b0 d7) (a5 (f9 (a4 2 (pv 2)) a9) c7)))
    exact j0
   exact(a4F a3S rfl M.z_str (by rfl) (f9 (a4 2 (pv 2)) a9))
  refine b7 ?_
  refine m9 ?_ ?_ ?_
  ·exact(i5 (B5 hu) (f9 (a4 2 (pv 2)) a9) a9 (by first|rfl|exact i6 _))
  ·exact(b7 (v0 1 (pv 1) (f9 (a4 2 (pv 2)) a9)))
  exact(b7 (v0 1 (pv 1) (d4 j8 (f9 (a4 2 (pv 2)) a9) (a4F a3S rfl M.z_str (by rfl) (f9 (a4 2 (pv 2)) a9)))))
 exact(b7 (g5 (Z7 j0 (a4 1 (pv 1)))))
theorem a3h(M7:Df K mg "_law_shown" N7)(M:Mo K mg):∀n:Nat,d0 P w K mg base "_law_shown" ["_law_fold_here"] (1+n) (C8 n):=by
 intro n
 induction n with
 |zero=>exact h9 (k:=0) M7 V2 (fun _ _ _ _ _ _=>el1 (fun _=>rfl)) fun f cdv A outer s H E hr=>n5
 |succ n ih=>
  skip
  exact a4c P w base (Nat.le_add_right _ _) M7 M ih
theorem b0l{f:AB}{fd:FuncData}(F:Fun K "law" "law" a8n f fd)(M:Mo K mg)(W6:a1F P w K mg base)(L9:a5s P w K mg base)(E5:a5w P w K mg base)(a2q:a9T P w K mg base)(z6:a3M P w K mg base)(M9:a1H P w K mg base)(k9:L4 P w K mg base)(M0:a5t P w K mg base)(G3:a4y P w K mg base):O1 P w K mg base CX0 25 f fd ["_law_script"] (spP K 1 a7K):=by
 refine a9H (k:=24) F a8o fun cdv A outer s H E hr=> ?_
 have S:=a8o
 have hu:=hr.units
 refine b6 ?_ ?_
 ·refine a4J PassesOwn.never ?_ ?_ M.z_range ?_ ?_ (C2 1) ?_
  ·exact rfl
  ·exact rfl
  ·exact(a5 a9 c7)
  ·exact(v8 (i:=1) S.nd rfl (Or.inl rfl))
  refine b6 ?_ ?_
  ·refine j2 (i:=2) ?_ ?_
   ·exact S.nd
   refine g9 W6 hr ?_ ?_ ?_ ?_
   ·decide
   ·exact rfl
   ·exact(b0 (b0 (b0 d7)))
   exact(a5 (a4 0 (pv 0)) (a5 (d4 J1 a9 (a4 1 (pv 1))) (a5 a9 c7)))
  refine b6 ?_ ?_
  ·exact(j2 (i:=3) S.nd (g9 L9 hr (by decide) rfl (b0 d7) (a5 (a4 2 (pv 2)) c7)))
  refine b6 ?_ ?_
  ·exact(a1k 3 (j2 (i:=4) S.nd (g9 E5 hr (by decide) rfl (b0 d7) (a5 (a4 3 (pv 3)) c7))))
  refine b6 ?_ ?_
  ·exact(a1k 3 (j2 (i:=5) S.nd (g9 a2q hr (by decide) rfl (b0 d7) (a5 (a4 3 (pv 3)) c7))))
  refine b6 ?_ ?_
  ·exact(a1k 3 (j2 (i:=6) S.nd (g9 z6 hr (by decide) rfl (b0 d7) (a5 (a4 3 (pv 3)) c7))))
  refine b6 ?_ ?_
  ·refine m9 (PW.pt (V7 (i5 (X9 hu) (a4 3 (pv 3)) (a4 2 (pv 2)) (by first|rfl|exact i6 _)) (V7 (O6 (O7 (a1h (.inr (.inr (.inl rfl))) rfl M.z_isinstance (a4 4 (pv 4)) (a0d rfl M.z_str (by rfl) rfl)))) (T4 (i5 (X9 hu) (a4 4 (pv 4)) (g9 k9 hr (by decide) rfl (b0 d7) (a5 (a4 2 (pv 2)) c7)) (by first|rfl|exact i6 _)))))) ?_ ?_
   ·exact(b7 (g5 a2s))
   exact l9
  refine b6 ?_ ?_
  ·refine m9 (PW.pt (V7 (O6 (O7 (a1h (.inl rfl) rfl M.z_isinstance (a4 5 (pv 5)) (a0d rfl M.z_int (by rfl) rfl)))) (V7 (O7 (a1h (.inr (.inl rfl)) rfl M.z_isinstance (a4 5 (pv 5)) (a0d rfl M.z_bool (by rfl) rfl))) (T4 (i5 (X9 hu) (a4 5 (pv 5)) (g9 M0 hr (by decide) rfl (b0 d7) (a5 (a4 2 (pv 2)) c7)) (by first|rfl|exact i6 _)))))) ?_ ?_
   ·exact(b7 (g5 a2s))
   exact l9
  refine b6 ?_ ?_
  ·refine m9 (PW.pt (V7 (O6 (O7 (a1h (.inr (.inr (.inl rfl))) rfl M.z_isinstance (a4 6 (pv 6)) (a0d rfl M.z_str (by rfl) rfl)))) (T4 (i5 (X9 hu) (a4 6 (pv 6)) (g9 G3 hr (by decide) rfl (b0 d7) (a5 (a4 2 (pv 2)) c7)) (by first|rfl|exact i6 _))))) ?_ ?_
   ·exact(b7 (g5 a2s))
   exact l9
  refine a7z (x:=7) (A:=[6]) (n2:=(o0 (mC (.bool false)))) ?_ M.nl ?_ (PW.pt (V7 (O6 (O7 (a1h (.inr (.inr (.inr (.inl rfl)))) rfl M.z_isinstance (a4 7 (pv 7)) (a0d rfl M.z_list (by rfl) rfl)))) (T4 (i5 (X9 hu) (a4 7 (pv 7)) (a4 2 (pv 2)) (by first|rfl|exact i6 _))))) ?_ (pv 7) ?_ ?_
  ·exact S.nd
  ·exact(g9 M9 hr (by decide) rfl (b0 d7) (a5 (a4 6 (pv 6)) c7))
  ·exact(b7 (g5 a2s))
  ·exact(J7 (a5 j0 (a5 j0 (a5 a9 c7))))
  refine b7 ?_
  refine m9 ?_ ?_ ?_
  ·refine i5 (X9 hu) ?_ ?_ ?_
   ·exact(g9 M9 hr (by decide) rfl (b0 d7) (a5 (a4 6 (pv 6)) c7))
   ·exact(a4 2 (pv 2))
   first|rfl|exact i6 _
  ·exact(b7 (g5 a2s))
  exact l9
 exact(b7 (g5 a2s))
end
theorem a9W{l:PySem.W.OpenLaw}{w:AG}{K:AD}{h:Heap}{mg:Str->Option AA}{fa:AB}(X:K.In h)(G:h.Ns mainGlobals mg)(hfa:mg "law"=some (.ref fa))
 {x9:AB} {a2a a11:Option AB} {a2e:Array (Option AA)} {a19 a16 a13 a2d V6 a12:AA}
 {uu_LONGEST:AA}
 {uu_MOST_FIGURES:AA}
 {uu_MOST_WITHIN:AA}
 (n4:Df0 K "_law_number" U9)
 (k9:Df0 K "_law_unfolded" D4)
 (M1:Df0 K "_law_fold" U8)
 (O5:Df0 K "_law_cell_at" P4)
 (W6:Df0 K "_law_drawn" Y2)
 (L9:Df0 K "_law_copy" U6)
 (E5:Df0 K "unfolded" V1)
 (d_unfolded_part:Df0 K "unfolded_part" B3)
 (a2q:Df0 K "cost" a4k)
 (u6:Df0 K "written_times" K1)
 (z6:Df0 K "shown_fold" L1)
 (d_shown_part:Df0 K "shown_part" L3)
 (a1g:Df0 K "run_end" a1C)
 (A4:Df0 K "figures_end" P3)
 (W7:Df0 K "number_in" Y3)
 (E4:Df0 K "number_between" E8)
 (w8:Df0 K "times_at" a0L)
 (W8:Df0 K "run_of" a22)
 (d_again_at:Df0 K "again_at" U4)
 (W4:PySem.W.nsIn K mainGlobals "fold_part_at"=some (some (.ref x9))) (X4:K.lookup x9=some ⟨a19,a2a,.func (PySem.W.fnOf "fold_part_at" "fold_part_at" (N1 n0) (C7 n0) (c5 n0) .none a16 a13 a2d a11 V6 a12),a2e⟩) (a2p:PySem.W.codeIn K V6 "fold_part_at"=true) (a2E:PySem.W.keepIn K (.ref x9)=true) (a14:a73 K "fold_part_at" x9=true)
 (B4:Df0 K "parts_at" V0)
 (L8:Df0 K "knots_in" U5)
 (M9:Df0 K "read_fold" Y4)
 (M0:Df0 K "_law_cost" U7)
 (G3:Df0 K "_law_shown" N7)
 (b01:Df0 K "law" a8n)
 (nl:a81 K=true)
 (z_bool:PySem.W.nsIn K mainGlobals "bool"=some none)
 (z_int:PySem.W.nsIn K mainGlobals "int"=some none)
 (z_isinstance:PySem.W.nsIn K mainGlobals "isinstance"=some none)
 (z_len:PySem.W.nsIn K mainGlobals "len"=some none)
 (z_list:PySem.W.nsIn K mainGlobals "list"=some none)
 (z_min:PySem.W.nsIn K mainGlobals "min"=some none)
 (z_range:PySem.W.nsIn K mainGlobals "range"=some none)
 (z_str:PySem.W.nsIn K mainGlobals "str"=some none)
 (e_LONGEST:PySem.W.nsIn K mainGlobals "LONGEST"=some (some uu_LONGEST)) (q_LONGEST:S5 K 40 uu_LONGEST=some F8)
 (e_MOST_FIGURES:PySem.W.nsIn K mainGlobals "MOST_FIGURES"=some (some uu_MOST_FIGURES)) (q_MOST_FIGURES:S5 K 40 uu_MOST_FIGURES=some D7)
 (e_MOST_WITHIN:PySem.W.nsIn K mainGlobals "MOST_WITHIN"=some (some uu_MOST_WITHIN)) (q_MOST_WITHIN:S5 K 40 uu_MOST_WITHIN=some G1)
 :∃fd:FuncData,(∀(s:AC) (v:AA),BindsTo s fd ⟨[v],[]⟩ [("_law_script",v)])/\∀base:Heap,K.In base->base.Ns mainGlobals mg->O1 l.prog w K mg base CX0 25 fa fd ["_law_script"] (a5h K):=by
 have i3:FnV K mg "fold_part_at" x9:=a93 (PySem.W.mg_of X G W4) X4 rfl a14
 have r6:Df0 K "fold_part_at" n0:=a9C W4 X4 a2p a2E
 have M:Mo K mg:=⟨PySem.W.mg_none_of X G z_bool,PySem.W.mg_none_of X G z_int,PySem.W.mg_none_of X G z_isinstance,PySem.W.mg_none_of X G z_len,PySem.W.mg_none_of X G z_list,PySem.W.mg_none_of X G z_min,PySem.W.mg_none_of X G z_range,PySem.W.mg_none_of X G z_str,nl⟩
 have mm_LONGEST:=PySem.W.mg_of X G e_LONGEST
 have mm_MOST_FIGURES:=PySem.W.mg_of X G e_MOST_FIGURES
 have mm_MOST_WITHIN:=PySem.W.mg_of X G e_MOST_WITHIN
 refine a8W (b01.to X G) hfa (fun _ _ _ _ _ _ _=>rfl) main fun base f fd kb F=> ?_
 have a0O:=a3i l.prog w base (n4.to X G)
 obtain w6:=a1y l.prog w base (k9.to X G) M 6
 obtain S0:=a39 l.prog w base (M1.to X G) M a0O w6 6
 have a3b:=a2T l.prog w base (O5.to X G) M
 have a4t:=a4b l.prog w base (W6.to X G) S0 a0O a3b
 obtain R8:=a37 l.prog w base (L9.to X G) 6
 obtain⟨S2,D_unfolded_part⟩:=a4a l.prog w base (E5.to X G) (d_unfolded_part.to X G) 10
 obtain a3K:=a71 l.prog w base (a2q.to X G) 6
 have a1Z:=a1A l.prog w base (u6.to X G) M
 obtain⟨K5,D_shown_part⟩:=a2R l.prog w base (z6.to X G) (d_shown_part.to X G) M a1Z 10
 have a6E:=a5U l.prog w base (a1g.to X G) M
 have a0k:=a2S l.prog w base (A4.to X G) a6E
 have a4u:=a4d l.prog w base (W7.to X G) M mm_MOST_FIGURES q_MOST_FIGURES a0k
 have a1b:=a00 l.prog w base (E4.to X G) a4u
 have a5n:=a5b l.prog w base (w8.to X G) mm_LONGEST q_LONGEST a0k a1b
 have a7e:=a65 l.prog w base (W8.to X G)
 obtain⟨D_again_at,C4,S1⟩:=a35 l.prog w base (d_again_at.to X G) (r6.to X G) (B4.to X G) i3 a5n a7e 18
 obtain R7:=a36 l.prog w base (L8.to X G) 6
 have a4v:=a4e l.prog w base (M9.to X G) M i3 mm_LONGEST q_LONGEST mm_MOST_WITHIN q_MOST_WITHIN S1 C4 R7
 obtain R9:=a38 l.prog w base (M0.to X G) M 6
 obtain M7:=a3h l.prog w base (G3.to X G) M 6
 exact b0l l.prog w base F M a4t R8 S2 a3K K5 a4v w6 R9 M7
end LW
namespace PySem.W.Fast
def tw9807002041554159316:=()
def tw15275862034744802220:=()
def tw9771452182546578361:=()
def tw13197243122401092177:=()
def tw2418222254025917551:=()
def tw10051293296391424915:=()
def tw11010439016375244086:=()
def tw7233593784190329313:=()
def tw504441004967347575:=()
def tw14989562451166293095:=()
def tw556522722583979841:=()
def tw13155917359281059094:=()
def tw10323254702981207742:=()
def tw39387743216947345:=()
end PySem.W.Fast
open PySem PySem.W PyProof.Rows
set_option maxRecDepth 100000 in
set_option maxHeartbeats 0 in
theorem PySem.Challenge.cw_carpetkin_k31_folds_written_holds : PySem.Challenge.rw_carpetkin_k31_folds_written.Holds := by
 w_on;o_law;k_head;(case hw=>w_witness2)
 k_fill
 refine PU.b1T (k:=25) (x:="_law_script") (l:=PySem.Challenge.rw_carpetkin_k31_folds_written) (by decide) rfl rfl (fun w h Y=>PySem.W.kIn_of Y) ?F
 case F=>
  intro w mg fa h KX G hmg
  refine' LW.a9W KX G hmg ?_ ?_ ?_ ?_ ?_ ?_ ?_ ?_ ?_ ?_ ?_ ?_ ?_ ?_ ?_ ?_ ?_ ?_ ?_ ?_ ?_ ?_ ?_ ?_ ?_ ?_ ?_ ?_ ?_ ?_ ?_ ?_ ?_ ?_ ?_ ?_ ?_ ?_ ?_ ?_ ?_ ?_ ?_ ?_ ?_
  all_goals first|(apply PU.a9C<;>k_is)|k_is|kernel_rfl|skip
