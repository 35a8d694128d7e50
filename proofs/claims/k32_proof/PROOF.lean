import PyProof.Rows.All
import Wide.All
import OpenK.AllK
import Wide.FinOn
import Lean
import PyProof.EqAt
import PyProof.EqKinds
import PyProof.TupleCall
import PyProof.Rows.SortPure
import PyProof.Rows.SortWalk
import PyProof.AttrMissHeap
import KE.KDictOf
import KE.KIntText
import PyProof.StrBlockH
import PyProof.CallStr
import PyProof.StrLawsIn
import PyProof.StrLawsOcc
import PyProof.StationsW
import PyProof.ExcClass2
import PyProof.ExcBaseAll.ValueError
import PyProof.ExcInit
import PyProof.InstStore
import OpenK.KOwn
import OpenK.KMake
import PyProof.InstStoreFacts
import PyProof.ExcAttrAll.ValueError
import OpenK.KCls
import PyProof.RulesTry
import PyProof.Rows.CatchBare
import PyProof.Rows.CatchOwn
import PyProof.NsDelKeeps
import PyProof.Rows.RuleDivmod
import PyProof.Rows.SumAny
import PyProof.StrLawsLast
import PySem.Challenge.RW_carpetkin_k32_texts_of_no_fold
set_option Elab.async false
set_option linter.all false
set_option maxRecDepth 100000
noncomputable section
open PySem renaming Value -> AA
open PySem renaming Addr -> AB
open PySem renaming Shared -> AC
open PySem.W renaming Frag -> AD
open Option renaming bind_some -> AE
open PySem renaming Expr -> AF
open PySem renaming wpAny_bind -> AG
open PySem renaming wpAny -> AH
open PySem renaming World -> AI
open PySem renaming Around -> AJ
open PySem renaming Program -> AK
open List renaming map_cons -> AL
open PySem renaming starEach -> AM
open PySem.Str renaming ofString -> AN
open List renaming cons_append -> AO
open PySem renaming sizeLine -> AQ
open List renaming nil_append -> AR
open List renaming length_cons -> AS
open List renaming map_nil -> AT
open List renaming replicate_zero -> AU
open PySem renaming wpAny_pure -> AV
open Nat renaming le_refl -> AW
open List renaming set_cons_zero -> AX
open List renaming set_cons_succ -> AY
open List renaming replicate_succ -> AZ
open List renaming length_append -> Aa
open List renaming replicate -> Ab
open PySem.Heap renaming lt_size -> Ac
open List renaming mem_cons -> Ad
open List renaming mem_cons_of_mem -> Ae
open List renaming mem_cons_self -> Af
open List renaming append_nil -> Ag
open Option renaming map_some -> Ah
open List renaming length_nil -> Ai
open Bool renaming false_ne_true -> Aj
open List renaming length_map -> Ak
open PySem.Heap renaming get?_push_of_some -> Al
open List renaming mem_append -> Am
open List renaming size_toArray -> An
open List renaming range -> Ao
open Nat renaming reduceLeDiff -> Aq
open Nat renaming lt_of_lt_of_le -> Ar
open Nat renaming ne_of_lt -> As
open List renaming mem_append_right -> Au
open List renaming getElem?_eq_some_iff -> Av
open PySem.Heap renaming get?_push_size -> Aw
open List renaming map_map -> Ax
open List renaming mem_append_left -> Ay
open List renaming getElem?_eq_getElem -> Az
open List renaming mem_map -> BA
open List renaming getElem?_map -> BB
open List renaming getElem?_append_left -> BC
open List renaming mem_of_getElem? -> BD
open List renaming map_append -> BE
open Nat renaming le_of_lt -> BF
open List renaming length_range -> BG
open Bool renaming false_eq_true -> BH
open List renaming getElem?_set_self -> BI
namespace L2
open PySem PySem.Spec PyProof.Rows
abbrev u7:=Sum Int Str
def b13:u7->AA->Bool
 | .inl k,v=>Value.isInt k v
 | .inr x,v=>Value.isStrOf x v
def b70(w:AI):u7->Int
 | .inl k=>hashInt k
 | .inr x=>hashStr w x
theorem B7:∀{k:u7} {v:AA},b13 k v=true->(∃i t,k=Sum.inl i/\v=Value.int i t)\/(∃x t,k=Sum.inr x/\v=Value.str x t)
 | .inl i,v,h=>by
   obtain⟨t,e⟩:=Value.isInt_shape (k:=i) (v:=v) h
   exact .inl ⟨i,t,rfl,e⟩
 | .inr x,v,h=>by
   obtain⟨t,e⟩:=Value.isStrOf_shape (x:=x) (v:=v) h
   exact .inr ⟨x,t,rfl,e⟩
theorem b5R(a b:Int):decide ((Sum.inl a:u7)=Sum.inl b)=(a==b):=by
 by_cases e:a=b
 ·subst e;simp
 ·have h:¬(Sum.inl a:u7)=Sum.inl b:=fun q=>e (Sum.inl.inj q)
  rw [decide_eq_false h]
  exact(beq_eq_false_iff_ne.mpr e).symm
theorem b5U(a b:Str):decide ((Sum.inr a:u7)=Sum.inr b)=decide (a=b):=by
 by_cases e:a=b
 ·subst e;simp
 ·have h:¬(Sum.inr a:u7)=Sum.inr b:=fun q=>e (Sum.inr.inj q)
  rw [decide_eq_false h,decide_eq_false e]
theorem b5S(a:Int)(b:Str):decide ((Sum.inl a:u7)=Sum.inr b)=false:=decide_eq_false (fun q=>nomatch q)
theorem b5T(a:Str)(b:Int):decide ((Sum.inr a:u7)=Sum.inl b)=false:=decide_eq_false (fun q=>nomatch q)
def a4u(prog:AK)(w:AI):PySem.KeyKind prog w u7 where
 is:=b13
 hash:=b70 w
 inj:=fun v a b ha hb=>by
  rcases B7 ha with⟨i,t,rfl,rfl⟩|⟨x,t,rfl,rfl⟩
  ·rcases B7 hb with⟨j,u,rfl,e⟩|⟨y,u,rfl,e⟩
   ·injection e with e1 _;rw [e1]
   ·exact nomatch e
  ·rcases B7 hb with⟨j,u,rfl,e⟩|⟨y,u,rfl,e⟩
   ·exact nomatch e
   ·injection e with e1 _;rw [e1]
 byValue:=fun k v h=>by
   rcases B7 h with⟨i,t,rfl,rfl⟩|⟨x,t,rfl,rfl⟩<;>rfl
 pyHash:=fun hv h=>by
  rcases B7 hv with⟨i,t,rfl,rfl⟩|⟨x,t,rfl,rfl⟩
  ·exact wpAny_pyHash_int h
  ·exact wpAny_pyHash_str h
 eqBool:=fun hu hv h=>by
  rcases B7 hu with⟨i,t,rfl,rfl⟩|⟨x,t,rfl,rfl⟩
  ·rcases B7 hv with⟨j,u,rfl,rfl⟩|⟨y,u,rfl,rfl⟩
   ·rw [b5R] at h;exact wpAny_eqBool_int h
   ·rw [b5S] at h;exact SeqAt.EqAt.int_str i t y u _ _ _ _ h
  ·rcases B7 hv with⟨j,u,rfl,rfl⟩|⟨y,u,rfl,rfl⟩
   ·rw [b5T] at h;exact SeqAt.EqAt.str_int x t j u _ _ _ _ h
   ·rw [b5U] at h;exact wpAny_eqBool_str h
 «strs»:=fun k x t v h=>by
  rcases B7 h with⟨i,u,rfl,e⟩|⟨y,u,rfl,e⟩
  ·exact nomatch e
  ·injection e with e1 _
   subst e1
   cases v<;>rfl
inductive V where
 |non|bl (b:Bool)|int (i:Int)|str (x:Str)|byt (b:Array UInt8)|flt (b:UInt64)|ref (a:AB)|ty (n:String)
 deriving DecidableEq
def t5:V->AA->Prop
 | .non,u=>u=Value.none
 | .bl b,u=>u=Value.bool b
 | .int i,u=>∃t,u=Value.int i t
 | .str x,u=>∃t,u=Value.str x t
 | .byt b,u=>∃t,u=Value.bytes b t
 | .flt b,u=>∃t,u=Value.float b t
 | .ref a,u=>u=Value.ref a
 | .ty n,u=>u=Value.type n
abbrev m7:List V->List AA->Prop:=Paired t5
theorem m7.length{xs:List V}{us:List AA}(r:m7 xs us):xs.length=us.length:=Paired.length r
theorem m7.get:∀{xs:List V} {us:List AA} {i:Nat} {x:V},m7 xs us->xs[i]?=some x->∃u,us[i]?=some u/\t5 x u
 |_,_,_,_,.nil,e=>by simp at e
 |_,_,0,_,.cons r _,e=>by simp at e;subst e;exact⟨_,rfl,r⟩
 |_,_,i+1,x,.cons _ t,e=>by
  obtain⟨u,h1,h2⟩:=m7.get (i:=i) (x:=x) t (by simpa using e)
  exact⟨u,by simpa using h1,h2⟩
theorem m7.set{x:V}{u:AA}(r:t5 x u):∀{xs:List V} {us:List AA} (i:Nat),m7 xs us->m7 (xs.set i x) (us.set i u)
 |_,_,_,.nil=> .nil
 |_,_,0,.cons _ t=> .cons r t
 |_,_,i+1,.cons q t=> .cons q (m7.set r i t)
theorem m7.append:∀{xs ys:List V} {us ws:List AA},m7 xs us->m7 ys ws->m7 (xs++ys) (us++ws)
 |_,_,_,_,.nil,s=>s
 |_,_,_,_,.cons r t,s=> .cons r (m7.append t s)
theorem m7.take:∀{xs:List V} {us:List AA} (n:Nat),m7 xs us->m7 (xs.take n) (us.take n)
 |_,_,0,_=> .nil
 |_,_,_+1,.nil=> .nil
 |_,_,n+1,.cons r t=> .cons r (m7.take n t)
theorem m7.drop:∀{xs:List V} {us:List AA} (n:Nat),m7 xs us->m7 (xs.drop n) (us.drop n)
 |_,_,0,r=>r
 |_,_,_+1,.nil=> .nil
 |_,_,n+1,.cons _ t=>m7.drop n t
theorem m7.none_of:∀{xs:List V} {us:List AA} {i:Nat},m7 xs us->xs[i]?=none->us[i]?=none:=fun {xs us i} r e=>by
 have h1:=r.length
 have h2:xs.length<=i:=List.getElem?_eq_none_iff.mp e
 exact List.getElem?_eq_none_iff.mpr (by lia)
def a4z:Option V->Option AA->Prop
 |some v,some u=>t5 v u
 |none,none=>True
 |_,_=>False
def KV{κ:Type}:List (κ×V)->List (κ×AA)->Prop:=Paired fun(p:κ×V) (q:κ×AA)=>p.1=q.1/\t5 p.2 q.2
def kV:u7->V
 | .inl i=> .int i
 | .inr x=> .str x
inductive HO where
 |lst (xs:List V)
 |tup (xs:List V)
 |dK (kvs:List (u7×V))|dT (kvs:List (List u7×V))
 |set (S:Int->Bool) (n:Nat)
 |ins (C dx:AB) (fs:List (Str×V))
 |own (x:AB)
 |xd (fs:List (Str×V))
 |met (f x:AB)
 |rng (lo hi:Int)
 |frz (o:Obj) (u:HO)
 |tbl (ps:Array AA)
 |ext (φ:Heap->Prop)
abbrev Hp:=AB->Option HO
def upd(H:Hp)(a:AB)(o:HO):Hp:=fun b=>if b=a then some o else H b
theorem t7{H:Hp}{a:AB}{o:HO}:upd H a o a=some o:=by unfold upd;rw [if_pos rfl]
theorem j0{H:Hp}{a b:AB}{o:HO}(h:b≠a):upd H a o b=H b:=by unfold upd;rw [if_neg h]
theorem a8c{H:Hp}{a b:AB}{o u:HO}(h:H a=some o)(h':H b=some u)(d:o≠u):a≠b:=by
 intro e;subst e;rw [h] at h';exact d (Option.some.inj h')
theorem j6{H:Hp}{a b:AB}{o:HO}(h:H a=some o)(h':H b=none):a≠b:=by
 intro e;subst e;rw [h] at h';cases h'
section
variable (P:AK)(w:AI)
def M7(H:Hp)(h:Heap)(a:AB):HO->Prop
 | .lst xs=>xs.length<=AQ/\∃(its:List AA) (n:Nat),m7 xs its/\h.get? a=some {cls:= .type "list",data:= .seq its.toArray n}
 | .tup xs=>xs.length<=AQ/\∃its:List AA,m7 xs its/\IsTup h a its.toArray
 | .dK kvs=>kvs.length<=AQ/\(a==sysModules)=false/\∃vs,KV kvs vs/\h.DictOf (a4u P w) a vs
 | .dT kvs=>kvs.length<=AQ/\(a==sysModules)=false/\∃xs:List (List u7×AB×AA),
  Paired (fun(p:List u7×V) (q:List u7×AB×AA)=>p.1=q.1/\H q.2.1=some (.tup (p.1.map kV))/\t5 p.2 q.2.2) kvs xs/\
  ∃o es ep,h.get? a=some o/\o.ExactDict/\o.data= .dict es ep/\es.toList=xs.map (entryOfKey (tupleKind (a4u P w)))/\(xs.map (·.1)).Nodup
 | .set S n=>h.SetOf (intKind P w) a S n
 | .ins C dx fs=>H dx=some (.own a)/\fs.length<=1000/\dx≠a/\h.get? a=some (PySem.W.instObj C dx)/\
  ∃mA,h.Ns1 dx mA/\(∀f,a4z (fs.lookup f) (mA f))/\PySem.Within mA (fs.map (·.1))
 | .own _=>∃o,h.get? a=some o
 | .xd fs=>∃mA,h.Ns1 a mA/\∀f,a4z (fs.lookup f) (mA f)
 | .rng lo hi=>∃t u v,h.get? a=some {cls:= .type "range",data:= .fields #[.int lo t,.int hi u,.int 1 v]}
 | .frz o u=>h.get? a=some o/\M7 H h a u
 | .tbl ps=>h.get? a=some {cls:= .none,data:= .fields ps}
 | .met f x=>h.get? a=some (PySem.W.methodObj (.ref f) (.ref x))
 | .ext φ=>φ h/\(∃o,h.get? a=some o)/\∀h1 h2:Heap,φ h1->(∀o,h1.get? a=some o->h2.get? a=some o)->φ h2
def HOk(H:Hp)(h:Heap):Prop:=∀a o,H a=some o->M7 P w H h a o
end
section
variable {P:AK}{w:AI}{H H':Hp}{h h':Heap}{a:AB}{o:HO}
theorem M7.lt(x:M7 P w H h a o):a<h.objs.size:=by
 cases o with
 |lst xs=>obtain⟨_,_,_,_,e⟩:=x;exact Ac e
 |tup xs=>obtain⟨_,_,_,p⟩:=x;exact p.lt
 |dK kvs=>obtain⟨_,_,_,_,o,_,_,e,_⟩:=x;exact Ac e
 |dT kvs=>obtain⟨_,_,_,_,o,_,_,e,_⟩:=x;exact Ac e
 |set S n=>obtain⟨o,_,_,_,e,_⟩:=x;exact Ac e
 |ins C dx fs=>obtain⟨_,_,_,e,_⟩:=x;exact Ac e
 |own y=>obtain⟨_,e⟩:=x;exact Ac e
 |xd fs=>obtain⟨_,⟨_,_,_,e,_⟩,_⟩:=x;exact Ac e
 |rng lo hi=>obtain⟨_,_,_,e⟩:=x;exact Ac e
 |frz ob u=>obtain⟨e,_⟩:=x;exact Ac e
 |tbl ps=>exact Ac (show h.get? a=some _ from x)
 |met f y=>exact Ac (show h.get? a=some _ from x)
 |ext φ=>obtain⟨_,⟨_,e⟩,_⟩:=x;exact Ac e
theorem Paired.mapP{α β:Type}{F G:α->β->Prop}:∀{l₁:List α} {l₂:List β},Paired F l₁ l₂->(∀a b,F a b->G a b)->Paired G l₁ l₂
 |_,_,.nil,_=> .nil
 |_,_,.cons r t,f=> .cons (f _ _ r) (Paired.mapP t f)
theorem M7.stay(x:M7 P w H h a o)(k:∀b u,(b=a\/H b=some (.own a))->h.get? b=some u->h'.get? b=some u)
 (ho:∀b,H b=some (.own a)->H' b=some (.own a)) (ht:∀b xs,H b=some (.tup xs)->H' b=some (.tup xs)):M7 P w H' h' a o:=by
 induction o with
 |lst xs=>obtain⟨z,its,n,r,e⟩:=x;exact⟨z,its,n,r,k _ _ (.inl rfl) e⟩
 |tup xs=>obtain⟨z,its,r,ob,e,c⟩:=x;exact⟨z,its,r,ob,k _ _ (.inl rfl) e,c⟩
 |dK kvs=>obtain⟨z,y,vs,r,ob,es,ep,e,c⟩:=x;exact⟨z,y,vs,r,ob,es,ep,k _ _ (.inl rfl) e,c⟩
 |dT kvs=>
  obtain⟨z,y,xs,r,ob,es,ep,e,c⟩:=x
  exact⟨z,y,xs,Paired.mapP r fun p q z=>⟨z.1,ht _ _ z.2.1,z.2.2⟩,ob,es,ep,k _ _ (.inl rfl) e,c⟩
 |set S n=>obtain⟨ob,es,ep,t,e,c⟩:=x;exact⟨ob,es,ep,t,k _ _ (.inl rfl) e,c⟩
 |ins C dx fs=>
  obtain⟨d,z,ne,e,mA,⟨od,es,ep,e2,c⟩,r⟩:=x
  exact⟨ho _ d,z,ne,k _ _ (.inl rfl) e,mA,⟨od,es,ep,k _ _ (.inr d) e2,c⟩,r⟩
 |own y=>obtain⟨ob,e⟩:=x;exact⟨ob,k _ _ (.inl rfl) e⟩
 |xd fs=>obtain⟨mA,⟨od,es,ep,e,c⟩,r⟩:=x;exact⟨mA,⟨od,es,ep,k _ _ (.inl rfl) e,c⟩,r⟩
 |rng lo hi=>obtain⟨t,u,v,e⟩:=x;exact⟨t,u,v,k _ _ (.inl rfl) e⟩
 |frz ob u ih=>obtain⟨e,q⟩:=x;exact⟨k _ _ (.inl rfl) e,ih q⟩
 |tbl ps=>
  have e:h.get? a=some {cls:= .none,data:= .fields ps}:=x
  show h'.get? a=some {cls:= .none,data:= .fields ps}
  exact k a _ (.inl rfl) e
 |met f y=>
  have e:h.get? a=some (PySem.W.methodObj (.ref f) (.ref y)):=x
  show h'.get? a=some (PySem.W.methodObj (.ref f) (.ref y))
  exact k a _ (.inl rfl) e
 |ext φ=>obtain⟨p,⟨o,e⟩,st⟩:=x;exact⟨st _ _ p fun o q=>k _ _ (.inl rfl) q,⟨o,k _ _ (.inl rfl) e⟩,st⟩
theorem HOk.lt(x:HOk P w H h)(e:H a=some o):a<h.objs.size:=(x a o e).lt
theorem HOk.fresh(x:HOk P w H h)(e:h.objs.size<=a):H a=none:=by
 cases q:H a with
 |none=>rfl
 |some u=>exact absurd (Ar (x.lt q) e) (Nat.lt_irrefl _)
theorem HOk.kept(x:HOk P w H h)(k:∀b u,h.get? b=some u->h'.get? b=some u):HOk P w H h':=fun a o e=>
 (x a o e).stay (fun b u _ q=>k b u q) (fun _ q=>q) fun _ _ q=>q
theorem HOk.laid(x:HOk P w H h)(k:∀b u,h.get? b=some u->h'.get? b=some u)(hp:h.objs.size<=a)(new:M7 P w (upd H a o) h' a o):HOk P w (upd H a o) h':=fun b u e=>by
 have hn:=x.fresh hp
 by_cases hb:b=a
 ·subst hb;rw [t7] at e;cases e;exact new
 ·rw [j0 hb] at e
  exact(x b u e).stay (fun c v _ q=>k c v q) (fun c q=>by rw [j0 (j6 q hn)];exact q) fun c xs q=>by rw [j0 (j6 q hn)];exact q
end
def Rd(H:Hp)(a:AB)(u:HO):Prop:=H a=some u\/∃o,H a=some (.frz o u)
theorem Rd.of{H:Hp}{a:AB}{u:HO}(h:H a=some u):Rd H a u:= .inl h
theorem Rd.ok{P:AK}{w:AI}{H:Hp}{h:Heap}{a:AB}{u:HO}(r:Rd H a u)(x:HOk P w H h):M7 P w H h a u:=by
 rcases r with r|⟨o,r⟩
 ·exact x a u r
 ·obtain⟨_,q⟩:=x a _ r
  exact q
def Mut:Option HO->Prop
 |some (.lst _)=>True
 |some (.dK _)=>True
 |some (.dT _)=>True
 |some (.set _ _)=>True
 |some (.ins _ _ _)=>True
 |some (.ext _)=>True
 |_=>False
section
variable {P:AK}{w:AI}{H:Hp}{h h':Heap}{x e:AB}{o':HO}
theorem HOk.write(ok:HOk P w H h)(mu:Mut (H x))(he:e=x\/H e=some (.own x))(k:∀b u,b≠e->h.get? b=some u->h'.get? b=some u)(heo:∃u,h'.get? e=some u)
 (new:M7 P w (upd H x o') h' x o'):HOk P w (upd H x o') h':=fun b u q=>by
 have nown:∀c y,H c=some (.own y)->c≠x:=fun c y r z=>by subst z;rw [r] at mu;exact mu
 have ntup:∀c xs,H c=some (.tup xs)->c≠x:=fun c xs r z=>by subst z;rw [r] at mu;exact mu
 by_cases hb:b=x
 ·subst hb;rw [t7] at q;cases q;exact new
 ·rw [j0 hb] at q
  by_cases hbe:b=e
  ·have q':H b=some (.own x):=by
    rcases he with z|z
    ·exact absurd (hbe.trans z) hb
    ·rw [hbe];exact z
   rw [q] at q';cases q'
   obtain⟨v,hv⟩:=heo
   exact⟨v,by rw [hbe];exact hv⟩
  ·refine(ok b u q).stay (fun c v hc r=>k c v ?_ r) (fun c r=>by rw [j0 (nown c b r)];exact r) fun c xs r=>by rw [j0 (ntup c xs r)];exact r
   rcases hc with rfl|hc
   ·exact hbe
   ·rintro rfl
    rcases he with z|z
    ·exact nown c b hc z
    ·rw [hc] at z;cases z;exact hb rfl
end
structure Un(fs ex:List AB)(H H':Hp)(h h':Heap):Prop where
 keep:∀b o,h.get? b=some o->H b=none->b∉fs->b∉ex->h'.get? b=some o
 slot:∀b o,h.get? b=some o->H b=none->b∈fs->b∉ex->∃sl,h'.get? b=some {o with slots:=sl}
 free:∀b o,h.get? b=some o->H b=none->b∉ex->H' b=none
 there:∀b o,h.get? b=some o->b∉ex->∃o',h'.get? b=some o'
 tups:∀b xs,H b=some (.tup xs)->H' b=some (.tup xs)
 frzs:∀b o u,H b=some (.frz o u)->H' b=some (.frz o u)
 tbls:∀b ps,H b=some (.tbl ps)->∃more,H' b=some (.tbl (ps++more))
section
variable {fs fs' ex ex':List AB}{H H1 H2:Hp}{h h1 h2 h':Heap}{a x e:AB}{o:HO}
theorem Un.any(u:Un fs ex H H1 h h1){b:AB}{ob:Obj}(q:h.get? b=some ob)(n:H b=none)(hx:b∉ex):∃sl,h1.get? b=some {ob with slots:=sl}:=by
 by_cases hb:b∈fs
 ·exact u.slot b ob q n hb hx
 ·exact⟨ob.slots,u.keep b ob q n hb hx⟩
theorem Un.trans(a:Un fs ex H H1 h h1)(b:Un fs ex H1 H2 h1 h2):Un fs ex H H2 h h2 where
 keep:=fun c ob q n hc hx=>b.keep c ob (a.keep c ob q n hc hx) (a.free c ob q n hx) hc hx
 slot:=fun c ob q n hc hx=>by
  obtain⟨sl,e1⟩:=a.slot c ob q n hc hx
  obtain⟨sl',e2⟩:=b.slot c _ e1 (a.free c ob q n hx) hc hx
  exact⟨sl',e2⟩
 free:=fun c ob q n hx=>by
  obtain⟨o',e1⟩:=a.there c ob q hx
  exact b.free c o' e1 (a.free c ob q n hx) hx
 there:=fun c ob q hx=>by
  obtain⟨o',e1⟩:=a.there c ob q hx
  exact b.there c o' e1 hx
 tups:=fun c xs q=>b.tups c xs (a.tups c xs q)
 frzs:=fun c ob xs q=>b.frzs c ob xs (a.frzs c ob xs q)
 tbls:=fun c ps q=>by
  obtain⟨m1,e1⟩:=a.tbls c ps q
  obtain⟨m2,e2⟩:=b.tbls c _ e1
  exact⟨m1++m2,by rw [e2,Array.append_assoc]⟩
theorem Un.kept(k:∀b u,h.get? b=some u->h'.get? b=some u):Un fs ex H H h h':=
 ⟨fun b ob q _ _ _=>k b ob q,fun b ob q _ _ _=>⟨ob.slots,k b ob q⟩,fun _ _ _ n _=>n,fun b ob q _=>⟨ob,k b ob q⟩,fun _ _ q=>q,fun _ _ _ q=>q,fun _ ps q=>⟨#[],by rw [q];simp⟩⟩
theorem Un.refl:Un fs ex H H h h:=Un.kept fun _ _ q=>q
theorem Un.laid(k:∀b u,h.get? b=some u->h'.get? b=some u)(hp:h.objs.size<=a)(hn:H a=none):Un fs ex H (upd H a o) h h' where
 keep:=fun b u q _ _ _=>k b u q
 slot:=fun b u q _ _ _=>⟨u.slots,k b u q⟩
 free:=fun b u q n _=>by rw [j0 (As (Ar (Ac q) hp))];exact n
 there:=fun b u q _=>⟨u,k b u q⟩
 tups:=fun b xs q=>by rw [j0 (j6 q hn)];exact q
 frzs:=fun b u xs q=>by rw [j0 (j6 q hn)];exact q
 tbls:=fun b ps q=>⟨#[],by rw [j0 (j6 q hn),q];simp⟩
theorem Un.write(mu:Mut (H x))(he:e=x\/H e=some (.own x))(k:∀b u,b≠e->h.get? b=some u->h'.get? b=some u)(heo:∃u,h'.get? e=some u):Un fs ex H (upd H x o) h h':=by
 have hx:∀b,H b=none->b≠x:=fun b n z=>by subst z;rw [n] at mu;exact mu
 have hb:∀b,H b=none->b≠e:=fun b n z=>by
  subst z
  rcases he with r|r
  ·exact hx b n r
  ·rw [n] at r;cases r
 have hm:∀b u,H b=some u->¬Mut (some u)->b≠x:=fun b u q nm z=>by subst z;rw [q] at mu;exact nm mu
 refine⟨fun b u q n _ _=>k b u (hb b n) q,fun b u q n _ _=>⟨u.slots,k b u (hb b n) q⟩,fun b u q n _=>by rw [j0 (hx b n)];exact n,fun b u q _=> ?_,
  fun b xs q=>by rw [j0 (hm b _ q fun z=>z)];exact q,fun b u xs q=>by rw [j0 (hm b _ q fun z=>z)];exact q,fun b ps q=>⟨#[],by rw [j0 (hm b _ q fun z=>z),q];simp⟩⟩
 by_cases hbe:b=e
 ·subst hbe;exact heo
 ·exact⟨u,k b u hbe q⟩
theorem Un.mono(u:Un fs ex H H1 h h1)(hs:∀b∈fs,b∈fs')(hx:∀b∈ex,b∈ex'):Un fs' ex' H H1 h h1:=
 ⟨fun b ob q n hb he=>u.keep b ob q n (fun z=>hb (hs b z)) fun z=>he (hx b z),fun _ _ q n _ he=>u.any q n fun z=>he (hx _ z),fun b ob q n he=>u.free b ob q n fun z=>he (hx b z),fun b ob q he=>u.there b ob q fun z=>he (hx b z),u.tups,u.frzs,u.tbls⟩
end
def trk(h:Heap)(H:Hp):List AB:=(Ao h.objs.size).filter fun a=>(H a).isSome
def a6Z(h:Heap)(H:Hp):Heap:=PySem.W.hideAll h (trk h H)
theorem b0K(h:Heap)(H:Hp):(a6Z h H).objs.size=h.objs.size:=PySem.W.hideAll_size _ _
theorem b1V{h:Heap}{H:Hp}{b:AB}{o:Obj}(e:h.get? b=some o)(n:H b=none):(a6Z h H).get? b=some o:=
 PySem.W.hideAll_get _ e fun hm=>by
  have q:(H b).isSome=true:=(List.mem_filter.mp hm).2
  rw [n] at q;simp at q
theorem b3Y{h:Heap}{H:Hp}{b:AB}{o:Obj}(e:(a6Z h H).get? b=some o):h.get? b=some o/\H b=none:=by
 have e':h.get? b=some o:=PySem.W.of_hideAll (trk h H) e
 refine⟨e', ?_⟩
 cases q:H b with
 |none=>rfl
 |some x=>
  have hm:b∈trk h H:=List.mem_filter.mpr ⟨List.mem_range.mpr (Ac e'),by simp [q]⟩
  have z:(a6Z h H).get? b=none:=PySem.W.hideAll_none (trk h H) hm
  rw [z] at e;cases e
def b3j(g h:Heap)(L:AB):List (AB×Obj):=(Ao h.objs.size).filterMap fun a=>if a=L\/(g.get? a).isSome=true then none else(h.get? a).map fun o=>(a,o)
def u9(g h:Heap)(L d:AB):List (AB×Obj):=(b3j g h L).filter fun p=>decide (p.1≠d)
structure Mod(K:AD)(mg:Str->Option AA)(base:Heap):Prop where
 kin:K.In base
 glob:base.Ns mainGlobals mg
 blt:∃mb,base.Ns builtinsNs mb/\∀x:Str,x≠"__name__"->mb x=bootBuiltins x
 nolimit:base.NoLimit
structure Cx where
 prog:AK
 w:AI
 K:AD
 mg:Str->Option AA
 base:Heap
 A:AJ
 N:List Str
 s₀:AC
 H₀:Hp
 env:Env
 outer:List Env
 stack:List Env
 ex:List AB
 fn:Str->Bool
 calm:Bool
 pn:List (AB×Obj)
 xe:AA->AC->Prop
def frs(l:List Env):List AB:=l.filterMap (·.frame)
abbrev Cx.fs(X:Cx):List AB:=frs X.outer
def Vis(sc:Scope)(x:Str):Prop:=sc.names.lookup x=some .local\/sc.names.lookup x=some .cell\/sc.names.lookup x=some .free
def Loc(sc:Scope)(x:Str):Prop:=sc.names.lookup x=some .local\/sc.names.lookup x=some .cell
def b7O(env:Env)(h:Heap)(m:Str->Option AA)(x:Str)(u:AA):Prop:=
 (env.kindOf x=some .local/\m x=some u)\/((env.kindOf x=some .cell\/env.kindOf x=some .free)/\∃c,env.cells.lookup x=some c/\h.IsCell c (some u))
structure Cx.Ok(X:Cx):Prop where
 mod:Mod X.K X.mg X.base
 kind:X.env.scope.kind= .function
 glob:X.env.globals=mainGlobals
 blt:X.env.builtins=builtinsNs
 above:X.s₀.heap.objs.size<=X.env.locals
 inj:∀x y c,X.env.cells.lookup x=some c->X.env.cells.lookup y=some c->x=y
 has:∀x,(X.env.kindOf x=some .cell\/X.env.kindOf x=some .free)->∃c,X.env.cells.lookup x=some c
 cab:∀x c,X.fn x=true->X.env.cells.lookup x=some c->X.s₀.heap.objs.size<=c
 hd:X.calm=true->X.A.handled=none
 frames:X.A.frames=some X.stack
 stk:X.stack=X.outer\/(X.stack=X.env::X.outer/\X.env.frame=some X.env.locals)
 exf:∀b∈X.ex,b≠X.env.locals/\∀x c,X.env.cells.lookup x=some c->c≠b
 bs:∀b o,X.base.get? b=some o->X.s₀.heap.get? b=some o/\X.H₀ b=none
 bsz:X.base.objs.size<=X.s₀.heap.objs.size
 noex:∀b o,X.base.get? b=some o->b∉X.ex
 exfs:∀b∈X.ex,b∉X.fs
 funs:X.s₀.heap.FunFrames X.base X.outer
 frf:∀b∈X.fs,X.H₀ b=none
structure j7(X:Cx)(pins:List (AB×Obj))(σ:List (Option V))(H:Hp)(s:AC):Prop where
 ok:X.Ok
 os:s.os=X.s₀.os
 bare:AllBare s.gens
 base:Un X.fs X.ex X.H₀ H X.s₀.heap s.heap
 loc:∃m,s.heap.Ns X.env.locals m/\∀(i:Nat) (x:Str) (v:V),X.N[i]?=some x->σ[i]?=some (some v)->Vis X.env.scope x->∃u,t5 v u/\b7O X.env s.heap m x u
 cell:∀x c,X.env.cells.lookup x=some c->∃v,s.heap.IsCell c v
 free:H X.env.locals=none
 freeC:∀x c,X.env.cells.lookup x=some c->H c=none
 pin:∀p∈X.pn++pins,s.heap.get? p.1=some p.2/\H p.1=none/\p.1≠X.env.locals/\p.1∉X.fs/\∀v,p.2.data≠.cell v
 hok:HOk X.prog X.w H s.heap
 len:σ.length=X.N.length
section
variable {X:Cx}{pins:List (AB×Obj)}{σ:List (Option V)}{H H':Hp}{s:AC}{h':Heap}
theorem Cx.Ok.nofr(ok:X.Ok){b:AB}{o:Obj}(e:X.base.get? b=some o):b∉X.fs:=fun hb=>by
 have:=(ok.funs.mem hb).1
 rw [e] at this;cases this
theorem j7.bs(I:j7 X pins σ H s):∀b o,X.base.get? b=some o->s.heap.get? b=some o/\H b=none:=fun b o e=>
 ⟨I.base.keep b o (I.ok.bs b o e).1 (I.ok.bs b o e).2 (I.ok.nofr e) (I.ok.noex b o e),I.base.free b o (I.ok.bs b o e).1 (I.ok.bs b o e).2 (I.ok.noex b o e)⟩
theorem j7.bk(I:j7 X pins σ H s):∀b o,X.base.get? b=some o->s.heap.get? b=some o:=fun b o e=>(I.bs b o e).1
theorem j7.mod(I:j7 X pins σ H s):Mod X.K X.mg X.base:=I.ok.mod
theorem j7.kIn(I:j7 X pins σ H s):X.K.In s.heap:=I.ok.mod.kin.keeps I.bk
theorem j7.nolimit(I:j7 X pins σ H s):s.heap.NoLimit:=I.ok.mod.nolimit.keeps I.bk
theorem j7.fr(I:j7 X pins σ H s):∃m,Fr X.base X.env.locals s.heap m:=
 let ⟨m,hn,_⟩:=I.loc
 ⟨m,hn,I.bk,Nat.le_trans I.ok.bsz I.ok.above⟩
theorem j7.lt(I:j7 X pins σ H s):X.env.locals<s.heap.objs.size:=let ⟨_,hn,_⟩:=I.loc;hn.lt
theorem j7.sz(I:j7 X pins σ H s):X.s₀.heap.objs.size<=s.heap.objs.size:=Nat.le_trans I.ok.above (BF I.lt)
theorem j7.nofs(I:j7 X pins σ H s){a:AB}(h:s.heap.objs.size<=a):a∉X.fs:=fun hb=>by
 obtain⟨_,o,ho,_⟩:=I.ok.funs.mem hb
 exact absurd (Ar (Ac ho) (Nat.le_trans I.sz h)) (Nat.lt_irrefl _)
theorem j7.cne(I:j7 X pins σ H s):∀x c,X.env.cells.lookup x=some c->c≠X.env.locals:=fun x c e z=>by
 obtain⟨v,o,ho,hd⟩:=I.cell x c e
 obtain⟨m,⟨o',es,ep,ho',hd',_⟩,_⟩:=I.loc
 rw [z,ho'] at ho;cases ho;rw [hd'] at hd;cases hd
theorem j7.funs(I:j7 X pins σ H s):s.heap.FunFrames X.base X.outer:=by
 have all:∀(l:List Env),(∀b∈frs l,b∈X.fs)->X.s₀.heap.FunFrames X.base l->s.heap.FunFrames X.base l:=by
  intro l
  induction l with
  |nil=>intro _ _;trivial
  |cons env r ih=>
   intro hs hl
   obtain⟨hk,⟨L,o,hf,hn,ho,hd⟩,hr⟩:=hl
   have hL:L∈X.fs:=hs L (by unfold frs;rw [List.filterMap_cons,hf];exact Af)
   obtain⟨sl,e⟩:=I.base.slot L o ho (I.ok.frf L hL) hL fun z=>I.ok.exfs L z hL
   exact⟨hk,⟨L,_,hf,hn,e,hd⟩,ih (fun b hb=>hs b (by unfold frs;rw [List.filterMap_cons,hf];exact Ae _ hb)) hr⟩
 exact all X.outer (fun _ hb=>hb) I.ok.funs
theorem j7.stack(I:j7 X pins σ H s):s.heap.FunFrames X.base X.stack:=by
 rcases I.ok.stk with e|⟨e,hf⟩
 ·rw [e];exact I.funs
 ·rw [e]
  obtain⟨m,hn,_⟩:=I.loc
  refine .cons (by rw [I.ok.kind];decide) hf hn ?_ I.funs
  exact Heap.get?_none_of_le (Nat.le_trans I.ok.bsz I.ok.above)
theorem j7.stkSub(I:j7 X pins σ H s):∀b∈frs X.stack,b∈X.env.locals::X.fs:=fun b hb=>by
 rcases I.ok.stk with e|⟨e,hf⟩
 ·rw [e] at hb;exact Ae _ hb
 ·rw [e] at hb
  unfold frs at hb
  rw [List.filterMap_cons,hf] at hb
  exact hb
theorem j7.stkFree(I:j7 X pins σ H s):∀b∈frs X.stack,H b=none:=fun b hb=>by
 rcases Ad.mp (I.stkSub b hb) with e|hb
 ·rw [e];exact I.free
 ·obtain⟨_,o,ho,_⟩:=I.ok.funs.mem hb
  exact I.base.free b o ho (I.ok.frf b hb) fun z=>I.ok.exfs b z hb
theorem j7.step{g':Array GenState}{t':Nat}{d':Drawn}{ch:List AB}(I:j7 X pins σ H s)
 (hch:∀b∈ch,(b∈X.ex\/X.s₀.heap.objs.size<=b)/\b≠X.env.locals/\(∀x c,X.env.cells.lookup x=some c->c≠b)/\∀p∈X.pn++pins,p.1≠b)
 (keep:∀b o,b≠X.env.locals->b∉X.fs->b∉ch->s.heap.get? b=some o->H b=none->h'.get? b=some o)
 (slot:∀b o,b≠X.env.locals->b∈X.fs->b∉ch->s.heap.get? b=some o->H b=none->∃sl,h'.get? b=some {o with slots:=sl}) (free:∀b o,b∉ch->s.heap.get? b=some o->H b=none->H' b=none)
 (there:∀b o,b∉ch->s.heap.get? b=some o->∃o',h'.get? b=some o')
 (tups:∀b xs,H b=some (.tup xs)->H' b=some (.tup xs)) (frzs:∀b o u,H b=some (.frz o u)->H' b=some (.frz o u)) (tbls:∀b ps,H b=some (.tbl ps)->∃more,H' b=some (.tbl (ps++more)))
 (ns:∀m,s.heap.Ns X.env.locals m->h'.Ns X.env.locals m) (hok:HOk X.prog X.w H' h') (hg:AllBare g'):
 j7 X pins σ H' {s with heap:=h',gens:=g',drawn:=d',toks:=t'}:=by
 have neL:∀b o,X.s₀.heap.get? b=some o->b≠X.env.locals:=fun b o e=>As (Ar (Ac e) I.ok.above)
 have neC:∀b o,X.s₀.heap.get? b=some o->b∉X.ex->b∉ch:=fun b o e hx hb=>by
  rcases(hch b hb).1 with z|z
  ·exact hx z
  ·exact absurd (Ar (Ac e) z) (Nat.lt_irrefl _)
 have cellK:∀x c,X.env.cells.lookup x=some c->∀v,s.heap.IsCell c v->h'.IsCell c v:=fun x c e v ⟨o,ho,hd⟩=>by
  have nch:c∉ch:=fun z=>(hch c z).2.2.1 x c e rfl
  by_cases hc:c∈X.fs
  ·obtain⟨sl,q⟩:=slot c o (I.cne x c e) hc nch ho (I.freeC x c e)
   exact⟨_,q,hd⟩
  ·exact⟨o,keep c o (I.cne x c e) hc nch ho (I.freeC x c e),hd⟩
 refine⟨I.ok,I.os,hg,⟨fun b o e n hb hx=> ?_,fun b o e n hb hx=> ?_,fun b o e n hx=> ?_,fun b o e hx=> ?_,fun b xs e=>tups b xs (I.base.tups b xs e),fun b o xs e=>frzs b o xs (I.base.frzs b o xs e),fun b ps e=> ?_⟩, ?_,fun x c e=> ?_, ?_,fun x c e=> ?_,fun p hp=> ?_,hok,I.len⟩
 ·exact keep b o (neL b o e) hb (neC b o e hx) (I.base.keep b o e n hb hx) (I.base.free b o e n hx)
 ·obtain⟨sl,e1⟩:=I.base.slot b o e n hb hx
  obtain⟨sl',e2⟩:=slot b _ (neL b o e) hb (neC b o e hx) e1 (I.base.free b o e n hx)
  exact⟨sl',e2⟩
 ·obtain⟨o',e1⟩:=I.base.there b o e hx
  exact free b o' (neC b o e hx) e1 (I.base.free b o e n hx)
 ·obtain⟨o',e1⟩:=I.base.there b o e hx
  exact there b o' (neC b o e hx) e1
 ·obtain⟨m1,e1⟩:=I.base.tbls b ps e
  obtain⟨m2,e2⟩:=tbls b _ e1
  exact⟨m1++m2,by rw [e2,Array.append_assoc]⟩
 ·obtain⟨m,hn,hl⟩:=I.loc
  refine⟨m,ns m hn,fun i x v e1 e2 e3=> ?_⟩
  obtain⟨u,r,l⟩:=hl i x v e1 e2 e3
  refine⟨u,r, ?_⟩
  rcases l with l|⟨k,c,e,z⟩
  ·exact .inl l
  ·exact .inr ⟨k,c,e,cellK x c e _ z⟩
 ·obtain⟨v,z⟩:=I.cell x c e
  exact⟨v,cellK x c e v z⟩
 ·obtain⟨m,⟨o,_,_,ho,_⟩,_⟩:=I.loc
  exact free _ o (fun z=>(hch _ z).2.1 rfl) ho I.free
 ·obtain⟨v,o,ho,hd⟩:=I.cell x c e
  exact free c o (fun z=>(hch c z).2.2.1 x c e rfl) ho (I.freeC x c e)
 ·obtain⟨e,n,ne,nf,d⟩:=I.pin p hp
  have nch:p.1∉ch:=fun z=>(hch p.1 z).2.2.2 p hp rfl
  exact⟨keep p.1 p.2 ne nf nch e n,free p.1 p.2 nch e n,ne,nf,d⟩
theorem j7.un{t':Nat}(I:j7 X pins σ H s)(u:Un X.fs [] H H' s.heap h')(hok:HOk X.prog X.w H' h'):j7 X pins σ H' {s with heap:=h',toks:=t'}:=by
 obtain⟨m,⟨o,es,ep,ho,r⟩,_⟩:=id I.loc
 obtain⟨sl,hL⟩:=u.any ho I.free (by simp)
 exact I.step (g':=s.gens) (d':=s.drawn) (ch:=[]) (fun _ z=>nomatch z) (fun b o _ hb _ e n=>u.keep b o e n hb (by simp)) (fun b o _ hb _ e n=>u.slot b o e n hb (by simp)) (fun b o _ e n=>u.free b o e n (by simp)) (fun b o _ e=>u.there b o e (by simp)) u.tups u.frzs u.tbls (fun m' hm=>by
  obtain⟨o',es',ep',ho',r'⟩:=hm
  rw [ho] at ho';cases ho'
  exact⟨_,es',ep',hL,r'⟩) hok I.bare
theorem j7.call{g':Array GenState}{t':Nat}{d':Drawn}{ch:List AB}(I:j7 X pins σ H s)(u:Un (frs X.stack) ch H H' s.heap h')(hok:HOk X.prog X.w H' h')(hg:AllBare g')
 (hch:∀b∈ch,(b∈X.ex\/X.s₀.heap.objs.size<=b)/\b≠X.env.locals/\(∀x c,X.env.cells.lookup x=some c->c≠b)/\∀p∈X.pn++pins,p.1≠b):
 j7 X pins σ H' {s with heap:=h',gens:=g',drawn:=d',toks:=t'}:=by
 obtain⟨m,⟨o,es,ep,ho,r⟩,_⟩:=id I.loc
 obtain⟨sl,hL⟩:=u.any ho I.free fun z=>(hch _ z).2.1 rfl
 exact I.step (ch:=ch) hch (fun b o hL hb hc e n=>u.keep b o e n (fun z=>(Ad.mp (I.stkSub b z)).elim hL hb) hc) (fun b o _ _ hc e n=>u.any e n hc) (fun b o hc e n=>u.free b o e n hc) (fun b o hc e=>u.there b o e hc) u.tups u.frzs u.tbls (fun m' hm=>by
  obtain⟨o',es',ep',ho',r'⟩:=hm
  rw [ho] at ho';cases ho'
  exact⟨_,es',ep',hL,r'⟩) hok hg
theorem j7.turned{t':Nat}{it:AB}(I:j7 X pins σ H s)(k:∀b o,b≠it->s.heap.get? b=some o->h'.get? b=some o)(hn:H it=none)(hL:it≠X.env.locals)
 (h1:it∈X.ex\/X.s₀.heap.objs.size<=it) (h2:∀x c,X.env.cells.lookup x=some c->c≠it) (h3:∀p∈X.pn++pins,p.1≠it):j7 X pins σ H {s with heap:=h',toks:=t'}:=by
 have nit:∀b u,H b=some u->b≠it:=fun b u e z=>by rw [z,hn] at e;cases e
 refine I.step (g':=s.gens) (d':=s.drawn) (ch:=[it]) (fun b hb=> ?_) (fun b o _ _ hc e _=>k b o (fun z=>hc (by simp [z])) e) (fun b o _ _ hc e _=>⟨o.slots,k b o (fun z=>hc (by simp [z])) e⟩) (fun _ _ _ _ n=>n)
  (fun b o hc e=>⟨o,k b o (fun z=>hc (by simp [z])) e⟩) (fun _ _ e=>e) (fun _ _ _ e=>e) (fun b ps e=>⟨#[],by rw [e];simp⟩) (fun m hm=> ?_) (fun b u e=> ?_) I.bare
 ·have e:b=it:=by simpa using hb
  subst e
  exact⟨h1,hL,h2,h3⟩
 ·obtain⟨o,es,ep,ho,r⟩:=hm
  exact⟨o,es,ep,k _ o (Ne.symm hL) ho,r⟩
 ·refine(I.hok b u e).stay (fun c v hc q=>k c v ?_ q) (fun _ q=>q) fun _ _ q=>q
  rcases hc with z|z
  ·rw [z];exact nit b u e
  ·exact nit c _ z
theorem j7.tok(I:j7 X pins σ H s)(t:Nat):j7 X pins σ H {s with toks:=t}:=I.un (h':=s.heap) (t':=t) Un.refl I.hok
theorem j7.kept{t':Nat}(I:j7 X pins σ H s)(k:∀b u,s.heap.get? b=some u->h'.get? b=some u):j7 X pins σ H {s with heap:=h',toks:=t'}:=I.un (Un.kept k) (I.hok.kept k)
theorem j7.laid{a:AB}{o:HO}{t':Nat}(I:j7 X pins σ H s)(k:∀b u,s.heap.get? b=some u->h'.get? b=some u)(hp:s.heap.objs.size<=a)(new:M7 X.prog X.w (upd H a o) h' a o):
 j7 X pins σ (upd H a o) {s with heap:=h',toks:=t'}:=I.un (Un.laid k hp (I.hok.fresh hp)) (I.hok.laid k hp new)
theorem j7.write{x e:AB}{o:HO}{t':Nat}(I:j7 X pins σ H s)(mu:Mut (H x))(he:e=x\/H e=some (.own x))(k:∀b u,b≠e->s.heap.get? b=some u->h'.get? b=some u)(heo:∃u,h'.get? e=some u)
 (new:M7 X.prog X.w (upd H x o) h' x o):j7 X pins σ (upd H x o) {s with heap:=h',toks:=t'}:=I.un (Un.write mu he k heo) (I.hok.write mu he k heo new)
theorem j7.weak{σ':List (Option V)}(I:j7 X pins σ H s)(hl:σ'.length=σ.length)(w:∀(i:Nat) v,σ'[i]?=some (some v)->σ[i]?=some (some v)):j7 X pins σ' H s:=
 ⟨I.ok,I.os,I.bare,I.base,let ⟨m,hn,hl'⟩:=I.loc;⟨m,hn,fun i x v e1 e2 e3=>hl' i x v e1 (w i v e2) e3⟩,I.cell,I.free,I.freeC,I.pin,I.hok,hl.trans I.len⟩
theorem j7.pins_of{pins':List (AB×Obj)}(I:j7 X pins σ H s)(h:∀p∈pins',s.heap.get? p.1=some p.2/\H p.1=none/\p.1≠X.env.locals/\p.1∉X.fs/\∀v,p.2.data≠.cell v):j7 X pins' σ H s:=
 ⟨I.ok,I.os,I.bare,I.base,I.loc,I.cell,I.free,I.freeC,fun p hp=>(Am.mp hp).elim (fun z=>I.pin p (Ay _ z)) (h p),I.hok,I.len⟩
theorem a5a{N:List Str}(hN:N.Nodup){i j:Nat}{x:Str}(a:N[i]?=some x)(b:N[j]?=some x):i=j:=by
 obtain⟨h1,e1⟩:=Av.mp a
 obtain⟨h2,e2⟩:=Av.mp b
 exact(List.getElem_inj hN).mp (e1.trans e2.symm)
theorem b09{M:Model}{A:AJ}{E:AA->AC->Prop}{i:Nat}{x:Str}{v:V}{u:AA}{Q:Unit->AC->Prop}(I:j7 X pins σ H s)(hN:X.N.Nodup)(hi:X.N[i]?=some x)(hx:Loc X.env.scope x)(r:t5 v u)
 (h:∀s',j7 X pins (σ.set i (some v)) H s'->(∃a,Heap.SameBut a s.heap s'.heap/\(a=X.env.locals\/X.env.cells.lookup x=some a))->Q () s') (hf:X.fn x=true\/X.env.scope.names.lookup x=some .local:=by first|exact .inl rfl|exact .inr rfl|assumption):AH M A (storeName X.env x u) Q E s:=by
 obtain⟨m,hn,hl⟩:=id I.loc
 have hcls:(X.env.scope.kind== .class||(X.env.scope.kind== .module && X.env.locals !=X.env.globals))=false:=by rw [I.ok.kind];rfl
 have hiσ:i<σ.length:=by rw [I.len];exact(Av.mp hi).1
 have cne:=I.cne
 have tracked:∀{a:AB} {h':Heap},(∃o,s.heap.get? a=some o/\H a=none)->Heap.SameBut a s.heap h'->HOk X.prog X.w H h':=fun {a h'} ha hs b ob e=>by
  obtain⟨_,_,hfree⟩:=ha
  refine(I.hok b ob e).stay (fun c w' hc q=>(hs.2 c ?_).trans q) (fun _ q=>q) fun _ _ q=>q
  rintro rfl
  rcases hc with rfl|hc
  ·rw [hfree] at e;cases e
  ·rw [hfree] at hc;cases hc
 rcases hx with hk|hk
 ·refine wpAny_storeName_local hk hn (fun h' hn' hs=> ?_) hcls
  obtain⟨oL,_,_,hoL,_⟩:=id hn
  refine h _ ⟨I.ok,I.os,I.bare,⟨fun b o e n hb hx=> ?_,fun b o e n hb hx=> ?_,I.base.free,fun b o e hx=> ?_,I.base.tups,I.base.frzs,I.base.tbls⟩,⟨_,hn',fun j y v' e1 e2 e3=> ?_⟩,fun y c e=> ?_,I.free,I.freeC,fun p hp=> ?_,tracked ⟨oL,hoL,I.free⟩ hs,by simpa using I.len⟩ ⟨_,hs,.inl rfl⟩
  ·exact(hs.2 b (As (Ar (Ac e) I.ok.above))).trans (I.base.keep b o e n hb hx)
  ·obtain⟨sl,e1⟩:=I.base.slot b o e n hb hx
   exact⟨sl,(hs.2 b (As (Ar (Ac e) I.ok.above))).trans e1⟩
  ·obtain⟨o',e1⟩:=I.base.there b o e hx
   exact⟨o',(hs.2 b (As (Ar (Ac e) I.ok.above))).trans e1⟩
  ·by_cases hj:j=i
   ·subst hj
    rw [hi] at e1;cases e1
    rw [BI hiσ] at e2
    cases e2
    exact⟨u,r,.inl ⟨hk,by simp⟩⟩
   ·rw [List.getElem?_set_ne (Ne.symm hj)] at e2
    obtain⟨u',r',q⟩:=hl j y v' e1 e2 e3
    refine⟨u',r', ?_⟩
    rcases q with⟨k,e⟩|⟨k,c,e,z⟩
    ·refine .inl ⟨k, ?_⟩
     have:y≠x:=fun e=>hj (a5a hN e1 (e▸hi))
     simp [this,e]
    ·exact .inr ⟨k,c,e,z.sameBut hs (cne y c e)⟩
  ·obtain⟨w',z⟩:=I.cell y c e
   exact⟨w',z.sameBut hs (cne y c e)⟩
  ·obtain⟨e,n,ne,nf,d⟩:=I.pin p hp
   exact⟨(hs.2 p.1 ne).trans e,n,ne,nf,d⟩
 ·have hfn:X.fn x=true:=by
   rcases hf with z|z
   ·exact z
   ·rw [z] at hk;cases hk
  obtain⟨c,hc⟩:=I.ok.has x (.inl hk)
  obtain⟨w',z⟩:=I.cell x c hc
  refine wpAny_storeName_cell I.ok.kind hk hc z (fun h' hc' hs=> ?_)
  obtain⟨oc,hoc,hocd⟩:=id z
  refine h {s with heap:=h'} ⟨I.ok,I.os,I.bare,⟨fun b o e n hb hx=> ?_,fun b o e n hb hx=> ?_,I.base.free,fun b o e hx=> ?_,I.base.tups,I.base.frzs,I.base.tbls⟩,⟨m,hn.sameBut hs (Ne.symm (cne x c hc)),fun j y v' e1 e2 e3=> ?_⟩,fun y c' e=> ?_,I.free,I.freeC,fun p hp=> ?_,tracked ⟨oc,hoc,I.freeC x c hc⟩ hs,by simpa using I.len⟩ ⟨c,hs,.inr hc⟩
  ·exact(hs.2 b (As (Ar (Ac e) (I.ok.cab x c hfn hc)))).trans (I.base.keep b o e n hb hx)
  ·obtain⟨sl,e1⟩:=I.base.slot b o e n hb hx
   exact⟨sl,(hs.2 b (As (Ar (Ac e) (I.ok.cab x c hfn hc)))).trans e1⟩
  ·obtain⟨o',e1⟩:=I.base.there b o e hx
   exact⟨o',(hs.2 b (As (Ar (Ac e) (I.ok.cab x c hfn hc)))).trans e1⟩
  ·by_cases hj:j=i
   ·subst hj
    rw [hi] at e1;cases e1
    rw [BI hiσ] at e2
    cases e2
    exact⟨u,r,.inr ⟨.inl hk,c,hc,hc'⟩⟩
   ·rw [List.getElem?_set_ne (Ne.symm hj)] at e2
    obtain⟨u',r',q⟩:=hl j y v' e1 e2 e3
    refine⟨u',r', ?_⟩
    rcases q with q|⟨k,c',e,z'⟩
    ·exact .inl q
    ·refine .inr ⟨k,c',e,z'.sameBut hs ?_⟩
     rintro rfl
     exact hj (a5a hN e1 (I.ok.inj _ _ _ e hc▸hi))
  ·by_cases hcc:c'=c
   ·subst hcc;exact⟨_,hc'⟩
   ·obtain⟨w2,z2⟩:=I.cell y c' e
    exact⟨w2,z2.sameBut hs hcc⟩
  ·obtain⟨e,n,ne,nf,d⟩:=I.pin p hp
   refine⟨(hs.2 p.1 ?_).trans e,n,ne,nf,d⟩
   intro q
   rw [q,hoc] at e
   have q':oc=p.2:=Option.some.inj e
   exact d w' (by rw [<-q'];exact hocd)
theorem a23{M:Model}{A:AJ}{E:AA->AC->Prop}{i:Nat}{x:Str}{v:V}{u:AA}{Q:Unit->AC->Prop}(I:j7 X pins σ H s)(hN:X.N.Nodup)(hi:X.N[i]?=some x)(hx:Loc X.env.scope x)(r:t5 v u)
 (h:∀s',j7 X pins (σ.set i (some v)) H s'->Q () s') (hf:X.fn x=true\/X.env.scope.names.lookup x=some .local:=by first|exact .inl rfl|exact .inr rfl|assumption):AH M A (storeName X.env x u) Q E s:=
 b09 I hN hi hx r (fun s' I' _=>h s' I') hf
theorem j7.call'{s':AC}{ch:List AB}(I:j7 X pins σ H s)(ho:s'.os=s.os)(u:Un (frs X.stack) ch H H' s.heap s'.heap)(hok:HOk X.prog X.w H' s'.heap)(hg:AllBare s'.gens)
 (hch:∀b∈ch,(b∈X.ex\/X.s₀.heap.objs.size<=b)/\b≠X.env.locals/\(∀x c,X.env.cells.lookup x=some c->c≠b)/\∀p∈X.pn++pins,p.1≠b):j7 X pins σ H' s':=by
 obtain⟨h',g',d',t',o'⟩:=s'
 have e:o'=s.os:=ho
 subst e
 exact I.call (g':=g') (t':=t') (d':=d') u hok hg hch
end
abbrev XK:=AA->Option AB->Hp->Prop
abbrev St:=List (Option V)
abbrev VK:=V->Hp->Prop
abbrev TE:=St->Hp->VK->Prop
abbrev TT:=St->Hp->(Bool->Hp->Prop)->Prop
abbrev TA:=St->Hp->(List V->Hp->Prop)->Prop
structure P4 where
 nx:St->Hp->Prop
 rt:VK
 bk:St->Hp->Prop:=fun _ _=>False
 ct:St->Hp->Prop:=fun _ _=>False
abbrev TS:=P4->St->Hp->Prop
def EP(X:Cx)(pins:List (AB×Obj))(σ:St)(Q:VK)(u:AA)(s':AC):Prop:=∃v H',j7 X pins σ H' s'/\t5 v u/\Q v H'
def TP(X:Cx)(pins:List (AB×Obj))(σ:St)(Q:Bool->Hp->Prop)(b:Bool)(s':AC):Prop:=∃H',j7 X pins σ H' s'/\Q b H'
def AP(X:Cx)(pins:List (AB×Obj))(σ:St)(Q:List V->Hp->Prop)(us:List AA)(s':AC):Prop:=∃vs H',j7 X pins σ H' s'/\m7 vs us/\Q vs H'
def SP(X:Cx)(pins:List (AB×Obj))(D:P4)(f:Flow)(s':AC):Prop:=
 match f with
 | .next=>∃σ' H',j7 X pins σ' H' s'/\D.nx σ' H'
 | .brk=>∃σ' H',j7 X pins σ' H' s'/\D.bk σ' H'
 | .cont=>∃σ' H',j7 X pins σ' H' s'/\D.ct σ' H'
 | .ret u=>∃v σ' H',j7 X pins σ' H' s'/\t5 v u/\D.rt v H'
def PE(X:Cx)(e:AF)(t:TE):Prop:=
 ∀(pins:List (AB×Obj)) (s:AC) (σ:St) (H:Hp) (Q:VK),j7 X pins σ H s->t σ H Q->AH (model X.prog X.w) X.A (eval e X.env) (EP X pins σ Q) X.xe s
def PT(X:Cx)(e:AF)(t:TT):Prop:=
 ∀(pins:List (AB×Obj)) (s:AC) (σ:St) (H:Hp) (Q:Bool->Hp->Prop),j7 X pins σ H s->t σ H Q->AH (model X.prog X.w) X.A (isTrue e X.env (eval e X.env)) (TP X pins σ Q) X.xe s
def PW(X:Cx)(e:AF)(t:TT):Prop:=
 ∀(whole:Sem AA) (pins:List (AB×Obj)) (s:AC) (σ:St) (H:Hp) (Q:Bool->Hp->Prop),j7 X pins σ H s->t σ H Q->AH (model X.prog X.w) X.A (isTrue e X.env whole) (TP X pins σ Q) X.xe s
theorem PW.pt{X:Cx}{e:AF}{t:TT}(h:PW X e t):PT X e t:=h _
def PA(X:Cx)(es:List AF)(t:TA):Prop:=
 ∀(pos:Pos) (pins:List (AB×Obj)) (s:AC) (σ:St) (H:Hp) (Q:List V->Hp->Prop),j7 X pins σ H s->t σ H Q->AH (model X.prog X.w) X.A (spliced (backTo pos (AM es X.env))) (AP X pins σ Q) X.xe s
def PS(X:Cx)(st:Stmt)(t:TS):Prop:=
 ∀(pins:List (AB×Obj)) (s:AC) (σ:St) (H:Hp) (D:P4),j7 X pins σ H s->t D σ H->AH (model X.prog X.w) X.A (exec st X.env) (SP X pins D) X.xe s
def PSs(X:Cx)(st:List Stmt)(t:TS):Prop:=
 ∀(pins:List (AB×Obj)) (s:AC) (σ:St) (H:Hp) (D:P4),j7 X pins σ H s->t D σ H->AH (model X.prog X.w) X.A (execs st X.env) (SP X pins D) X.xe s
theorem L4{α:Type}{t:Sem α}{Q Q':α->AC->Prop}{M:Model}{A:AJ}{E:AA->AC->Prop}{s:AC}(h:AH M A t Q E s)(hQ:∀a s,Q a s->Q' a s):AH M A t Q' E s:=wpAny_mono h hQ fun _ _ x=>x
section
variable {X:Cx}
def b1a(i:Nat):TE:=fun σ H Q=>∃v,σ[i]?=some (some v)/\Q v H
def tC(v:V):TE:=fun _ H Q=>Q v H
theorem b6j{i:Nat}{x:Str}{pos:Pos}(hN:X.N[i]?=some x)(hv:Vis X.env.scope x)(hd:(x==("__debug__":Str))=false:=by decide)(hcd:(x==("__classdict__":Str))=false:=by decide):PE X (.Name x pos) (b1a i):=by
 intro pins s σ H Q I h
 obtain⟨v,e,h⟩:=h
 obtain⟨m,hn,hl⟩:=I.loc
 obtain⟨u,r,l⟩:=hl i x v hN e hv
 have fin:EP X pins σ Q u s:=⟨v,H,I,r,h⟩
 rcases l with⟨hk,hm⟩|⟨hk,c,hc,hcell⟩
 ·exact wpAny_Name (wpAny_loadName_local I.ok.kind hk hn hm fin) hd
 ·rcases hk with hk|hk
  ·exact wpAny_Name (wpAny_loadName_cell I.ok.kind hk hc hcell fin) hd
  ·exact wpAny_Name (wpAny_loadName_free I.ok.kind hk hc hcell fin hcd) hd
theorem b6d{i j pos}:PE X (.Constant (.int i) j pos) (tC (.int i)):=fun _ _ _ H _ I h=>wpAny_Constant_int ⟨.int i,H,I.tok _,⟨_,rfl⟩,h⟩
theorem b7n{b j pos}:PE X (.Constant (.bool b) j pos) (tC (.bl b)):=fun _ _ _ H _ I h=>Constant_bool ⟨.bl b,H,I,rfl,h⟩
theorem b6f{j pos}:PE X (.Constant .none j pos) (tC .non):=fun _ _ _ H _ I h=>Constant_none ⟨.non,H,I,rfl,h⟩
theorem b6h{x j pos}:PE X (.Constant (.str x) j pos) (tC (.str x)):=fun _ _ _ H _ I h=>Calls.Constant_str ⟨.str x,H,I.tok _,⟨_,rfl⟩,h⟩
def Gl(X:Cx)(x:Str):Prop:=X.env.kindOf x=some .globalImplicit
theorem a1D{E:AA->AC->Prop}{pins:List (AB×Obj)}{s:AC}{σ:St}{H:Hp}{x:Str}{u:AA}{pos:Pos}{Q:AA->AC->Prop}(I:j7 X pins σ H s)(hg:Gl X x)(hm:X.mg x=some u)(h:Q u s)
 (hd:(x==("__debug__":Str))=false:=by decide):AH (model X.prog X.w) X.A (eval (.Name x pos) X.env) Q E s:=
 Calls.Name_function_global I.ok.kind hg (Calls.loadGlobal_global (by rw [I.ok.glob];exact I.mod.glob.keeps I.bk) hm h) hd
theorem a66{E:AA->AC->Prop}{pins:List (AB×Obj)}{s:AC}{σ:St}{H:Hp}{x:Str}{u:AA}{pos:Pos}{Q:AA->AC->Prop}(I:j7 X pins σ H s)(hg:Gl X x)(hm:X.mg x=none)(hv:bootBuiltins x=some u)(h:Q u s)
 (hn:x≠"__name__":=by decide) (hd:(x==("__debug__":Str))=false:=by decide):AH (model X.prog X.w) X.A (eval (.Name x pos) X.env) Q E s:=by
 obtain⟨mb,h1,h2⟩:=I.mod.blt
 exact Calls.Name_function_global I.ok.kind hg (Calls.loadGlobal_builtin (by rw [I.ok.glob];exact I.mod.glob.keeps I.bk) hm (by rw [I.ok.blt];exact h1.keeps I.bk) ((h2 x hn).trans hv) h) hd
theorem a7o{x:Str}{v:V}{u:AA}{pos:Pos}(hg:Gl X x)(hm:X.mg x=some u)(r:t5 v u)(hd:(x==("__debug__":Str))=false:=by decide):PE X (.Name x pos) (tC v):=
 fun _ _ _ H _ I h=>a1D I hg hm ⟨v,H,I,r,h⟩ hd
theorem a93{x:Str}{v:V}{u:AA}{pos:Pos}(hg:Gl X x)(hm:X.mg x=none)(hv:bootBuiltins x=some u)(r:t5 v u)(hn:x≠"__name__":=by decide)(hd:(x==("__debug__":Str))=false:=by decide):PE X (.Name x pos) (tC v):=
 fun _ _ _ H _ I h=>a66 I hg hm hv ⟨v,H,I,r,h⟩ hn hd
variable {a b:AF}{ta tb:TE}{pos:Pos}
variable {tA tB':TT}{u9:List AF}
def b8a(t u:TT):TT:=fun σ H Q=>t σ H fun c H1=>if c=true then u σ H1 Q else Q false H1
def tOr(t u:TT):TT:=fun σ H Q=>t σ H fun c H1=>if c=true then Q true H1 else u σ H1 Q
def b8f(t:TT):TT:=fun σ H Q=>t σ H fun c H1=>Q (!c) H1
theorem b4g(ha:PT X a tA):PW X (.BoolOp .And [a] pos) tA:=by
 intro wh pins s σ H Q I h
 refine isTrue_and (L4 (ha pins s σ H Q I h) fun c s1 e=> ?_)
 cases c with
 |true=>exact isTrue_and_nil e
 |false=>exact e
theorem b6r(ha:PT X a tA):PW X (.BoolOp .Or [a] pos) tA:=by
 intro wh pins s σ H Q I h
 refine isTrue_or (L4 (ha pins s σ H Q I h) fun c s1 e=> ?_)
 cases c with
 |false=>exact isTrue_or_nil e
 |true=>exact e
theorem b6q(ha:PT X a tA)(hb:PW X (.BoolOp .And (b::u9) pos) tB'):PW X (.BoolOp .And (a::b::u9) pos) (b8a tA tB'):=by
 intro wh pins s σ H Q I h
 refine isTrue_and (L4 (ha pins s σ H _ I h) fun c s1 ⟨H1,I1,q1⟩=> ?_)
 cases c with
 |true=>exact hb wh pins s1 σ H1 Q I1 q1
 |false=>exact⟨H1,I1,q1⟩
theorem b7v(ha:PT X a tA)(hb:PW X (.BoolOp .Or (b::u9) pos) tB'):PW X (.BoolOp .Or (a::b::u9) pos) (tOr tA tB'):=by
 intro wh pins s σ H Q I h
 refine isTrue_or (L4 (ha pins s σ H _ I h) fun c s1 ⟨H1,I1,q1⟩=> ?_)
 cases c with
 |true=>exact⟨H1,I1,q1⟩
 |false=>exact hb wh pins s1 σ H1 Q I1 q1
theorem b6p(ha:PT X a tA):PT X (.UnaryOp .Not a pos) (b8f tA):=by
 intro pins s σ H Q I h
 exact isTrue_not (ha pins s σ H (fun c H1=>Q (!c) H1) I h)
def b7C(ta tb:TE):TE:=fun σ H Q=>ta σ H fun x H1=>∃c,x= .bl c/\if c=true then tb σ H1 Q else Q (.bl false) H1
def b8g(ta tb:TE):TE:=fun σ H Q=>ta σ H fun x H1=>∃c,x= .bl c/\if c=true then Q (.bl true) H1 else tb σ H1 Q
theorem b6g{op}{t:TE}(h:PE X a t):PE X (.BoolOp op [a] pos) t:=fun pins s σ H Q I hw=>BoolOp_one (h pins s σ H Q I hw)
theorem b6c(ha:PE X a ta)(hb:PE X (.BoolOp .And (b::u9) pos) tb):PE X (.BoolOp .And (a::b::u9) pos) (b7C ta tb):=by
 intro pins s σ H Q I h
 refine BoolOp_and (L4 (ha pins s σ H _ I h) fun v s1 ⟨x,H1,I1,r1,q1⟩=> ?_)
 obtain⟨c,rfl,q1⟩:=q1
 cases r1
 refine wpAny_truthy_bool ?_
 cases c with
 |true=>exact hb pins s1 σ H1 Q I1 q1
 |false=>exact⟨.bl false,H1,I1,rfl,q1⟩
theorem b7q(ha:PE X a ta)(hb:PE X (.BoolOp .Or (b::u9) pos) tb):PE X (.BoolOp .Or (a::b::u9) pos) (b8g ta tb):=by
 intro pins s σ H Q I h
 refine BoolOp_or (L4 (ha pins s σ H _ I h) fun v s1 ⟨x,H1,I1,r1,q1⟩=> ?_)
 obtain⟨c,rfl,q1⟩:=q1
 cases r1
 refine wpAny_truthy_bool ?_
 cases c with
 |false=>exact hb pins s1 σ H1 Q I1 q1
 |true=>exact⟨.bl true,H1,I1,rfl,q1⟩
end
def SqL(K:AD)(H:Hp)(a:AB)(xs:List V):Prop:=
 Rd H a (.lst xs)\/
  ∃(o:Obj) (its:Array AA) (n:Nat),K.lookup a=some o/\o.cls= .type "list"/\o.dict=none/\o.data= .seq its n/\its.size<=AQ/\m7 xs its.toList
def SqT(K:AD)(H:Hp)(a:AB)(xs:List V):Prop:=
 Rd H a (.tup xs)\/
  ∃(o:Obj) (its:Array AA) (n:Nat),K.lookup a=some o/\o.cls= .type "tuple"/\o.data= .seq its n/\its.size<=AQ/\m7 xs its.toList
def b7T:AA->Option V
 | .none=>some .non
 | .bool b=>some (.bl b)
 | .int i _=>some (.int i)
 | .str x _=>some (.str x)
 | .bytes b _=>some (.byt b)
 | .float b _=>some (.flt b)
 | .ref a=>some (.ref a)
 | .type n=>some (.ty n)
 |_=>none
theorem t5.abs{x:V}{u:AA}(r:t5 x u):b7T u=some x:=by
 cases x with
 |non=>cases r;rfl
 |bl _=>cases r;rfl
 |int _=>obtain⟨t,rfl⟩:=r;rfl
 |str _=>obtain⟨t,rfl⟩:=r;rfl
 |byt _=>obtain⟨t,rfl⟩:=r;rfl
 |flt _=>obtain⟨t,rfl⟩:=r;rfl
 |ref _=>cases r;rfl
 |ty _=>cases r;rfl
theorem t5.inj{x y:V}{u:AA}(r:t5 x u)(q:t5 y u):x=y:=Option.some.inj (r.abs.symm.trans q.abs)
theorem m7.inj:∀{xs ys:List V} {us:List AA},m7 xs us->m7 ys us->xs=ys
 |_,_,_,.nil,.nil=>rfl
 |_,_,_,.cons r t,.cons r' t'=>by rw [r.inj r',m7.inj t t']
section
variable {X:Cx}{pins:List (AB×Obj)}{σ:St}{H:Hp}{s:AC}{a:AB}{xs ys:List V}
theorem SqL.of{K:AD}(h:H a=some (.lst xs)):SqL K H a xs:= .inl (.inl h)
theorem SqT.of{K:AD}(h:H a=some (.tup xs)):SqT K H a xs:= .inl (.inl h)
theorem j7.list(I:j7 X pins σ H s)(h:SqL X.K H a xs):∃its:List AA,m7 xs its/\PlainL s.heap a its.toArray/\xs.length<=AQ:=by
 rcases h with h|⟨o,its,n,hk,hc,hd,hs,hz,r⟩
 ·obtain⟨z,its,n,r,e⟩:=h.ok I.hok
  exact⟨its,r,⟨_,n,e,rfl,rfl,rfl⟩,z⟩
 ·refine⟨its.toList,r,⟨o,n,I.kIn a o hk,hc,hd,by simpa using hs⟩, ?_⟩
  have e:=r.length
  simp only [Array.length_toList] at e
  lia
theorem j7.tuple(I:j7 X pins σ H s)(h:SqT X.K H a xs):∃its:List AA,m7 xs its/\IsTup s.heap a its.toArray/\xs.length<=AQ:=by
 rcases h with h|⟨o,its,n,hk,hc,hs,hz,r⟩
 ·obtain⟨z,its,r,p⟩:=h.ok I.hok
  exact⟨its,r,p,z⟩
 ·refine⟨its.toList,r,⟨o,I.kIn a o hk,hc,n,by simpa using hs⟩, ?_⟩
  have e:=r.length
  simp only [Array.length_toList] at e
  lia
theorem j7.list_inj(I:j7 X pins σ H s)(h:SqL X.K H a xs)(h':SqL X.K H a ys):xs=ys:=by
 obtain⟨its,r,⟨o,n,e,_,_,d⟩,_⟩:=I.list h
 obtain⟨its',r',⟨o',n',e',_,_,d'⟩,_⟩:=I.list h'
 rw [e] at e';cases e'
 rw [d] at d'
 injection d' with d1 _
 have:its=its':=by simpa using congrArg Array.toList d1
 subst this
 exact r.inj r'
theorem j7.tuple_inj(I:j7 X pins σ H s)(h:SqT X.K H a xs)(h':SqT X.K H a ys):xs=ys:=by
 obtain⟨its,r,⟨o,e,_,n,d⟩,_⟩:=I.tuple h
 obtain⟨its',r',⟨o',e',_,n',d'⟩,_⟩:=I.tuple h'
 rw [e] at e';cases e'
 rw [d] at d'
 injection d' with d1 _
 have:its=its':=by simpa using congrArg Array.toList d1
 subst this
 exact r.inj r'
end
abbrev Cx.wish(X:Cx)(E:AA->AC->Prop):Cx:={X with xe:=E}
abbrev Cx.nox(X:Cx):Cx:=X.wish fun _ _=>False
theorem Cx.Ok.wish{X:Cx}(ok:X.Ok)(E:AA->AC->Prop):(X.wish E).Ok:=
 ⟨ok.mod,ok.kind,ok.glob,ok.blt,ok.above,ok.inj,ok.has,ok.cab,ok.hd,ok.frames,ok.stk,ok.exf,ok.bs,ok.bsz,ok.noex,ok.exfs,ok.funs,ok.frf⟩
theorem Cx.Ok.unwish{X:Cx}{E:AA->AC->Prop}(ok:(X.wish E).Ok):X.Ok:=
 ⟨ok.mod,ok.kind,ok.glob,ok.blt,ok.above,ok.inj,ok.has,ok.cab,ok.hd,ok.frames,ok.stk,ok.exf,ok.bs,ok.bsz,ok.noex,ok.exfs,ok.funs,ok.frf⟩
section
variable {X:Cx}{pins:List (AB×Obj)}{σ:St}{H:Hp}{s:AC}{E:AA->AC->Prop}
theorem j7.wish(I:j7 X pins σ H s)(E:AA->AC->Prop):j7 (X.wish E) pins σ H s:=⟨I.ok.wish E,I.os,I.bare,I.base,I.loc,I.cell,I.free,I.freeC,I.pin,I.hok,I.len⟩
theorem j7.unwish(I:j7 (X.wish E) pins σ H s):j7 X pins σ H s:=⟨I.ok.unwish,I.os,I.bare,I.base,I.loc,I.cell,I.free,I.freeC,I.pin,I.hok,I.len⟩
theorem SP.unwish{D:P4}{f:Flow}{s':AC}(h:SP (X.wish E) pins D f s'):SP X pins D f s':=by
 cases f with
 |next=>obtain⟨σ',H',I,q⟩:=h;exact⟨σ',H',I.unwish,q⟩
 |brk=>obtain⟨σ',H',I,q⟩:=h;exact⟨σ',H',I.unwish,q⟩
 |cont=>obtain⟨σ',H',I,q⟩:=h;exact⟨σ',H',I.unwish,q⟩
 |ret u=>obtain⟨v,σ',H',I,r,q⟩:=h;exact⟨v,σ',H',I.unwish,r,q⟩
theorem PE.nox{e:AF}{t:TE}(h:PE X.nox e t):PE X e t:=fun pins s σ H Q I hw=>
 wpAny_mono (h pins s σ H Q (I.wish _) hw) (fun _ _ ⟨v,H',I',r,q⟩=>⟨v,H',I'.unwish,r,q⟩) fun _ _ z=>False.elim z
theorem PT.nox{e:AF}{t:TT}(h:PT X.nox e t):PT X e t:=fun pins s σ H Q I hw=>
 wpAny_mono (h pins s σ H Q (I.wish _) hw) (fun _ _ ⟨H',I',q⟩=>⟨H',I'.unwish,q⟩) fun _ _ z=>False.elim z
theorem PSs.nox{st:List Stmt}{t:TS}(h:PSs X.nox st t):PSs X st t:=fun pins s σ H D I hw=>
 wpAny_mono (h pins s σ H D (I.wish _) hw) (fun _ _ q=>q.unwish) fun _ _ z=>False.elim z
end
section
variable {X:Cx}{st:Stmt}{u9:List Stmt}{t u:TS}{e:AF}{te:TE}{pos:Pos}
def b7G:TS:=fun D σ H=>D.nx σ H
def b8i(t u:TS):TS:=fun D σ H=>t {D with nx:=u D} σ H
theorem b4d:PSs X [] b7G:=fun _ _ σ H _ I h=>wpAny_execs_nil ⟨σ,H,I,h⟩
theorem a8n(h1:PS X st t)(h2:PSs X u9 u):PSs X (st::u9) (b8i t u):=by
 intro pins s σ H D I h
 refine wpAny_execs_cons (L4 (h1 pins s σ H {D with nx:=u D} I h) fun f s1 q=> ?_)
 cases f with
 |next=>
  obtain⟨σ',H',I',q⟩:=q
  exact h2 pins s1 σ' H' D I' q
 |ret v=>exact q
 |brk=>exact q
 |cont=>exact q
theorem a95(h1:PS X st t):PSs X [st] t:=by
 intro pins s σ H D I h
 refine wpAny_execs_cons (L4 (h1 pins s σ H D I h) fun f s1 q=> ?_)
 cases f with
 |next=>exact wpAny_execs_nil q
 |ret v=>exact q
 |brk=>exact q
 |cont=>exact q
theorem j7.quiet{pins:List (AB×Obj)}{σ:St}{H:Hp}{s:AC}(I:j7 X pins σ H s):interactive X.env=false:=by simp [interactive,I.ok.kind]
def b7F(te:TE):TS:=fun D σ H=>te σ H fun _ H1=>D.nx σ H1
theorem a94(he:PE X e te)(hs:swapsWith e none pos.line X.env=pure false:=by rfl):PS X (.Expr e pos) (b7F te):=by
 intro pins s σ H D I h
 exact wpAny_Expr_any (L4 (he pins s σ H _ I h) fun v s1 ⟨x,H1,I1,r1,q1⟩=>⟨σ,H1,I1,q1⟩) I.quiet hs
def b8h(te:TE):TS:=fun D σ H=>te σ H D.rt
theorem b2B(he:PE X e te):PS X (.Return (some e) pos) (b8h te):=by
 intro pins s σ H D I h
 exact wpAny_Return_some (L4 (he pins s σ H _ I h) fun v s1 ⟨x,H1,I1,r1,q1⟩=>⟨x,σ,H1,I1,r1,q1⟩)
def b8d(c:TT)(t u:TS):TS:=fun D σ H=>c σ H fun b H1=>if b=true then t D σ H1 else u D σ H1
theorem b47{c:AF}{a b:List Stmt}{tc:TT}(hc:PT X c tc)(ha:PSs X a t)(hb:PSs X b u):PS X (.If c a b pos) (b8d tc t u):=by
 intro pins s σ H D I h
 refine wpAny_If (L4 (hc pins s σ H _ I h) fun d s1 ⟨H1,I1,q1⟩=> ?_)
 cases d with
 |true=>exact ha pins s1 σ H1 D I1 q1
 |false=>exact hb pins s1 σ H1 D I1 q1
end
abbrev TG:=V->St->Hp->(St->Hp->Prop)->Prop
abbrev TGs:=List V->St->Hp->(St->Hp->Prop)->Prop
def PG(X:Cx)(target:AF)(t:TG):Prop:=
 ∀(pins:List (AB×Obj)) (s:AC) (σ:St) (H:Hp) (v:V) (u:AA) (Q:St->Hp->Prop),j7 X pins σ H s->t5 v u->t v σ H Q->
  AH (model X.prog X.w) X.A (assign target X.env u) (fun _ s'=>∃σ' H',j7 X pins σ' H' s'/\Q σ' H') X.xe s
def PGs(X:Cx)(ts:List AF)(t:TGs):Prop:=
 ∀(pins:List (AB×Obj)) (s:AC) (σ:St) (H:Hp) (vs:List V) (us:List AA) (Q:St->Hp->Prop),j7 X pins σ H s->m7 vs us->t vs σ H Q->
  AH (model X.prog X.w) X.A (assignInOrder ((assignEach ts X.env).map (·.2)) us) (fun _ s'=>∃σ' H',j7 X pins σ' H' s'/\Q σ' H') X.xe s
abbrev TIp:=V->V->Hp->VK->Prop
def PIp(X:Cx)(op:Operator)(t:TIp):Prop:=
 ∀(pins:List (AB×Obj)) (s:AC) (σ:St) (H:Hp) (x y:V) (v u:AA) (Q:VK),j7 X pins σ H s->t5 x v->t5 y u->t x y H Q->
  AH (model X.prog X.w) X.A (inplaceOp op v u) (EP X pins σ Q) X.xe s
section
variable {X:Cx}{pos:Pos}
def a7Y(i:Nat):TG:=fun v σ H Q=>Q (σ.set i (some v)) H
theorem L3{i:Nat}{x:Str}(hN:X.N.Nodup)(hi:X.N[i]?=some x)(hx:Loc X.env.scope x)(hf:X.fn x=true\/X.env.scope.names.lookup x=some .local:=by first|exact .inl rfl|exact .inr rfl|assumption):PG X (.Name x pos) (a7Y i):=by
 intro pins s σ H v u Q I r h
 exact wpAny_assign_Name (a23 I hN hi hx r (fun s' I'=>⟨_,H,I',h⟩) hf)
def b66:TGs:=fun vs σ H Q=>vs=[]/\Q σ H
def b41(t:TG)(u:TGs):TGs:=fun vs σ H Q=>∃v r,vs=v::r/\t v σ H fun σ' H'=>u r σ' H' Q
theorem b39:PGs X [] b66:=by
 intro pins s σ H vs us Q I r h
 obtain⟨e,h⟩:=h
 subst e
 cases r
 exact assignInOrder_nil ⟨σ,H,I,h⟩
theorem a8m{e:AF}{es:List AF}{t:TG}{u:TGs}(h1:PG X e t)(h2:PGs X es u)
 (hs:(assignEach (e::es) X.env).map (·.2)=assign e X.env::(assignEach es X.env).map (·.2):=by rfl):PGs X (e::es) (b41 t u):=by
 intro pins s σ H vs us Q I r h
 obtain⟨v,vr,e1,h⟩:=h
 subst e1
 cases r with
 |cons r rr=>
  rw [hs]
  refine assignInOrder_cons (L4 (h1 pins s σ H _ _ _ I r h) fun _ s1 ⟨σ1,H1,I1,q1⟩=> ?_)
  exact h2 pins s1 σ1 H1 _ _ Q I1 rr q1
def b7X(K:AD)(n:Nat)(t:TGs):TG:=fun v σ H Q=>∃a xs,v= .ref a/\SqT K H a xs/\xs.length=n/\t xs σ H Q
theorem b6l{es:List AF}{k:Nat}{t:TGs}{n:Nat}(hc:X.calm=true)(h:PGs X es t)
 (hn:(assignEach es X.env).length=n:=by rfl) (hst:(assignEach es X.env).findIdx? (·.1)=none:=by rfl):PG X (.Tuple es k pos) (b7X X.K n t):=by
 intro pins s σ H v u Q I r hw
 obtain⟨a,xs,e1,hq,hl,hw⟩:=hw
 subst e1
 cases r
 obtain⟨its,rv,ht,hz⟩:=I.tuple hq
 refine assign_Tuple_tuple (I.ok.hd hc) ht (by simp [hn,<-hl,rv.length]) hst fun h' hx=> ?_
 have I1:j7 X pins σ H {s with heap:=h'}:=I.kept (t':=s.toks) fun b o e=>hx b o (As (Ac e)) e
 exact h pins _ σ H xs _ Q I1 (by simpa using rv) hw
def b7D(te:TE)(g:TG):TS:=fun D σ H=>te σ H fun x H1=>g x σ H1 D.nx
theorem b6n{tg e:AF}{te:TE}{g:TG}(he:PE X e te)(hg:PG X tg g)(hs:swapsWithSole [tg] e pos.line X.env=pure false:=by rfl)(hw:swappedStores [tg] e X.env=pure none:=by rfl)
 (h1:(assignEach [tg] X.env).map (·.2)=[assign tg X.env]:=by rfl):PS X (.Assign [tg] e pos) (b7D te g):=by
 intro pins s σ H D I h
 refine wpAny_Assign_stores (L4 (he pins s σ H _ I h) fun v s1 ⟨x,H1,I1,r1,q1⟩=> ?_) hs hw
 rw [h1]
 exact L4 (hg pins s1 σ H1 x v _ I1 r1 q1) fun _ s2 q=>q
theorem b2C{i:Nat}{x:Str}{e:AF}{te:TE}{pos':Pos}(hN:X.N.Nodup)(hi:X.N[i]?=some x)(hx:Loc X.env.scope x)(he:PE X e te)(hs:swapsWith e (some (.Name x pos')) pos.line X.env=pure false:=by rfl)(hf:X.fn x=true\/X.env.scope.names.lookup x=some .local:=by first|exact .inl rfl|exact .inr rfl|assumption):
 PS X (.Assign [.Name x pos'] e pos) (b7D te (a7Y i)):=by
 intro pins s σ H D I h
 refine wpAny_Assign_Name (L4 (he pins s σ H _ I h) fun v s1 ⟨y,H1,I1,r1,q1⟩=> ?_) hs
 exact a23 I1 hN hi hx r1 (fun s2 I2=>⟨_,H1,I2,q1⟩) hf
def b8b(i:Nat)(te:TE)(ti:TIp):TS:=fun D σ H=>∃x,σ[i]?=some (some x)/\te σ H fun y H1=>ti x y H1 fun z H2=>D.nx (σ.set i (some z)) H2
theorem b6o{i:Nat}{x:Str}{e:AF}{te:TE}{op:Operator}{ti:TIp}{pos':Pos}(hN:X.N.Nodup)(hi:X.N[i]?=some x)(hx:Loc X.env.scope x)(he:PE X e te)(ho:PIp X op ti)(hf:X.fn x=true\/X.env.scope.names.lookup x=some .local:=by first|exact .inl rfl|exact .inr rfl|assumption):
 PS X (.AugAssign (.Name x pos') op e pos) (b8b i te ti):=by
 intro pins s σ H D I h
 obtain⟨v,e1,h⟩:=h
 obtain⟨m,hn,hl⟩:=I.loc
 have vis:Vis X.env.scope x:=by rcases hx with k|k;exact .inl k;exact .inr (.inl k)
 obtain⟨u,r,l⟩:=hl i x v hi e1 vis
 refine wpAny_AugAssign_Name ?_
 have go:AH (model X.prog X.w) X.A (eval e X.env) (fun w s₂=>AH (model X.prog X.w) X.A (inplaceOp op u w) (fun r s₃=>AH (model X.prog X.w) X.A (storeName X.env x r) (fun _=>SP X pins D .next) X.xe s₃) X.xe s₂) X.xe s:=by
  refine L4 (he pins s σ H _ I h) fun w s1 ⟨y,H1,I1,r1,q1⟩=> ?_
  refine L4 (ho pins s1 σ H1 v y u w _ I1 r r1 q1) fun z s2 ⟨zv,H2,I2,r2,q2⟩=> ?_
  exact a23 I2 hN hi hx r2 (fun s3 I3=>⟨_,H2,I3,q2⟩) hf
 rcases l with⟨hk,hm⟩|⟨hk,c,hc,hcell⟩
 ·exact wpAny_loadName_local I.ok.kind hk hn hm go
 ·rcases hk with hk|hk
  ·exact wpAny_loadName_cell I.ok.kind hk hc hcell go
  ·rcases hx with k|k
   ·have:X.env.scope.names.lookup x=some .free:=hk
    rw [k] at this;cases this
   ·have:X.env.scope.names.lookup x=some .free:=hk
    rw [k] at this;cases this
end
section
variable {X:Cx}{pos:Pos}
def b6C(c:TT)(tb:TS):TS:=fun D σ H=>∃W:Nat->St->Hp->Prop,(∃m,W m σ H)/\∀m σ H,W m σ H->
 c σ H fun b H1=>if b=true then ∃N:St->Hp->Prop,(∀σ' H',N σ' H'->∃m',m'<m/\W m' σ' H')/\tb {D with nx:=N,ct:=N,bk:=D.nx} σ H1 else D.nx σ H1
theorem b2E{c:AF}{body:List Stmt}{tc:TT}{tb:TS}(hp:PassesOwn (model X.prog X.w) X.A X.env X.xe)(hc:PT X c tc)(hb:PSs X body tb):PS X (.While c body [] pos) (b6C tc tb):=by
 intro pins s σ H D I h
 obtain⟨W,⟨m0,w0⟩,turn⟩:=h
 refine wpAny_While (codeAny_whileLoop (fun n s'=>∃σ' H',j7 X pins σ' H' s'/\W n σ' H') ?_ m0 ⟨σ,H,I,w0⟩)
 rintro n s1 ⟨σ1,H1,I1,w1⟩
 refine wpAny_passesOwn hp (L4 (hc pins s1 σ1 H1 _ I1 (turn n σ1 H1 w1)) fun b s2 ⟨H2,I2,q2⟩=> ?_)
 cases b with
 |true=>
  obtain⟨N,hN,q2⟩:=q2
  rw [if_pos rfl]
  refine wpAny_passesOwn hp (L4 (hb pins s2 σ1 H2 _ I2 q2) fun f s3 q3=> ?_)
  cases f with
  |next=>
   obtain⟨σ3,H3,I3,n3⟩:=q3
   obtain⟨m',hm,w3⟩:=hN σ3 H3 n3
   exact⟨m',hm,σ3,H3,I3,w3⟩
  |cont=>
   obtain⟨σ3,H3,I3,n3⟩:=q3
   obtain⟨m',hm,w3⟩:=hN σ3 H3 n3
   exact⟨m',hm,σ3,H3,I3,w3⟩
  |brk=>exact q3
  |ret v=>exact q3
 |false=>
  rw [if_neg Aj]
  exact wpAny_execs_nil ⟨σ1,H2,I2,q2⟩
end
structure It where
 go:Nat->Hp->Prop
 yld:Nat->Hp->V->Hp->Prop
 stop:Nat->Hp->Prop
def a3c(X:Cx)(pins:List (AB×Obj))(H:Hp)(b:AB):Prop:=
 H b=none/\b≠X.env.locals/\b∉X.fs/\(b∈X.ex\/X.s₀.heap.objs.size<=b)/\(∀x c,X.env.cells.lookup x=some c->c≠b)/\∀p∈X.pn++pins,p.1≠b
theorem j7.fpOk{X:Cx}{pins:List (AB×Obj)}{σ:St}{H H':Hp}{s:AC}{b:AB}(I:j7 X pins σ H s)(hb:s.heap.objs.size<=b)(hn:H' b=none):a3c X pins H' b:=by
 refine⟨hn,Nat.ne_of_gt (Ar I.lt hb),I.nofs hb,.inr (Nat.le_trans I.sz hb),fun x c e z=> ?_,fun p hp z=> ?_⟩
 ·obtain⟨v,q⟩:=I.cell x c e
  exact absurd (Ar q.lt (by rw [z];exact hb)) (Nat.lt_irrefl _)
 ·exact absurd (Ar (Ac (I.pin p hp).1) (by rw [z];exact hb)) (Nat.lt_irrefl _)
structure b0r(P:AK)(w:AI)(K:AD)(tg:AF)(J:It)(fp:List AB)(it:AB)(tn:Nat->Heap->Prop):Prop where
 mem:it∈fp
 obj:∀i h,tn i h->∀b∈fp,∃o,h.get? b=some o/\∀v,o.data≠.cell v
 keep:∀i h h',tn i h->(∀b∈fp,∀o,h.get? b=some o->h'.get? b=some o)->tn i h'
 item:∀(X:Cx),X.prog=P->X.w=w->X.K=K->X.calm=true->∀(i:Nat) (pins:List (AB×Obj)) (s:AC) (σ:St) (H:Hp) (E:AA->AC->Prop),j7 X pins σ H s->(∀b∈fp,a3c X pins H b)->tn i s.heap->J.go i H->
  AH (model P w) X.A (pyNext (.ref it)) (fun r s1=>∃u,r=some u/\
   AH (model P w) X.A (letOwnedTupleGo tg (.ref it) u) (fun _ s2=>∃x H',j7 X pins σ H' s2/\t5 x u/\J.yld i H x H'/\tn (i+1) s2.heap/\∀b∈fp,H' b=none) E s1) E s
 done:∀(X:Cx),X.prog=P->X.w=w->X.K=K->X.calm=true->∀(i:Nat) (pins:List (AB×Obj)) (s:AC) (σ:St) (H:Hp) (E:AA->AC->Prop),j7 X pins σ H s->(∀b∈fp,a3c X pins H b)->tn i s.heap->J.stop i H->
   AH (model P w) X.A (pyNext (.ref it)) (fun r s1=>r=none/\j7 X pins σ H s1) E s
 self:∀(A:AJ) (i:Nat) (s:AC) (Q:AA->AC->Prop) (E:AA->AC->Prop),tn i s.heap->Q (.ref it) s->AH (model P w) A (pyIter (.ref it)) Q E s
abbrev TI:=St->Hp->(It->Hp->Prop)->Prop
def PIE(X:Cx)(pins:List (AB×Obj))(σ:St)(tg:AF)(R:It->Hp->Prop)(itv:AA)(s2:AC):Prop:=
 ∃(it:AB) (fp:List AB) (tn:Nat->Heap->Prop) (J:It) (H':Hp),itv= .ref it/\j7 X pins σ H' s2/\b0r X.prog X.w X.K tg J fp it tn/\tn 0 s2.heap/\(∀b∈fp,a3c X pins H' b)/\R J H'
def PI(X:Cx)(tg iter:AF)(wi:TI):Prop:=
 ∀(pins:List (AB×Obj)) (s:AC) (σ:St) (H:Hp) (R:It->Hp->Prop),j7 X pins σ H s->wi σ H R->
  AH (model X.prog X.w) X.A (eval iter X.env) (fun v s1=>AH (model X.prog X.w) X.A (pyIter v) (PIE X pins σ tg R) X.xe s1) X.xe s
theorem a9R{M:Model}{A:AJ}{E:AA->AC->Prop}{s:AC}{tg:AF}{it:AB}{u:AA}{o:Obj}{n:String}{vs:Array AA}{Q:Unit->AC->Prop}(ho:s.heap.get? it=some o)(hc:o.cls= .type n)(hd:o.data= .fields vs)
 (hn:["enumerate","zip","dict_itemiterator","dict_reverseitemiterator","odict_iterator","itertools.zip_longest","itertools.pairwise"].contains n=false) (hQ:Q () s):AH M A (letOwnedTupleGo tg (.ref it) u) Q E s:=by
 unfold letOwnedTupleGo
 cases tg<;>first
  |exact AV hQ
  |(cases u<;>first
   |exact AV hQ
   |(refine AG (wpAny_load ho ?_)
     rw [hc,hd]
     show AH M A (if(["enumerate","zip","dict_itemiterator","dict_reverseitemiterator","odict_iterator","itertools.zip_longest","itertools.pairwise"].contains n && vs[0]?==some (rawInt _))=true then _ else _) Q E s
     rw [if_neg (by intro h;rw [hn,Bool.false_and] at h;cases h)]
     exact AV hQ))
def Itl(K:AD)(a:AB):It:=
 ⟨fun i H=>∃xs x,SqL K H a xs/\xs[i]?=some x,fun i H x H'=>H'=H/\∀xs,SqL K H a xs->xs[i]?=some x,fun i H=>∃xs,SqL K H a xs/\xs.length<=i⟩
def Itt(K:AD)(a:AB):It:=
 ⟨fun i H=>∃xs x,SqT K H a xs/\xs[i]?=some x,fun i H x H'=>H'=H/\∀xs,SqT K H a xs->xs[i]?=some x,fun i H=>∃xs,SqT K H a xs/\xs.length<=i⟩
def Itr(lo:Int)(n:Nat):It:=⟨fun i _=>i<n,fun i H x H'=>H'=H/\x= .int (lo+i),fun i _=>n<=i⟩
theorem b1b{P:AK}{w:AI}{K:AD}{tg:AF}(a it:AB):b0r P w K tg (Itl K a) [it] it (fun i h=>h.IsListIter it a i) where
 mem:=by simp
 obj:=fun i h st b hb=>by
  have e:b=it:=by simpa using hb
  subst e
  obtain⟨o,e,c,d⟩:=st
  exact⟨o,e,fun v z=>by rw [d] at z;cases z⟩
 keep:=fun i h h' st k=>st.at fun o e=>k it (by simp) o e
 item:=by
  intro X hP hw hK hc i pins s σ H E I hf st hg
  subst hP hw hK
  obtain⟨xs,x,hq,hx⟩:=hg
  obtain⟨its,rv,p,hz⟩:=I.list hq
  obtain⟨u,hu,ru⟩:=rv.get hx
  obtain⟨f0,f1,f2,f3,f4,f5⟩:=hf it (by simp)
  refine wpAny_pyNext_list_item st p.isList (x:=u) (by simpa using hu) fun h' st' sb=> ?_
  have I1:j7 X pins σ H {s with heap:=h'}:=I.turned (t':=s.toks) (fun b o hb e=>(sb.2 b hb).trans e) f0 f1 f3 f4 f5
  obtain⟨o,e,c,d⟩:=id st'
  exact⟨u,rfl,a9R (s:={s with heap:=h'}) e c d (by decide) ⟨x,H,I1,ru,⟨rfl,fun ys hy=>by rw [I.list_inj hy hq];exact hx⟩,st',fun b hb=>(hf b hb).1⟩⟩
 done:=by
   intro X hP hw hK hc i pins s σ H E I hf st hg
   subst hP hw hK
   obtain⟨xs,hq,hx⟩:=hg
   obtain⟨its,rv,p,hz⟩:=I.list hq
   obtain⟨f0,f1,f2,f3,f4,f5⟩:=hf it (by simp)
   have hl:=rv.length
   exact wpAny_pyNext_list_end (I.ok.hd hc) st p.isList (by simp;lia) fun h' eb=>⟨rfl,I.turned (t':=s.toks) (fun b o hb e=>eb b o hb e) f0 f1 f3 f4 f5⟩
 self:=fun _ _ _ _ _ st h=>wpAny_pyIter_listiter st h
theorem a9s{P:AK}{w:AI}{K:AD}{tg:AF}(a it:AB):b0r P w K tg (Itt K a) [it] it (fun i h=>h.IsTupleIter it a i) where
 mem:=by simp
 obj:=fun i h st b hb=>by
  have e:b=it:=by simpa using hb
  subst e
  obtain⟨o,e,c,d⟩:=st
  exact⟨o,e,fun v z=>by rw [d] at z;cases z⟩
 keep:=fun i h h' st k=>st.at fun o e=>k it (by simp) o e
 item:=by
  intro X hP hw hK hc i pins s σ H E I hf st hg
  subst hP hw hK
  obtain⟨xs,x,hq,hx⟩:=hg
  obtain⟨its,rv,p,hz⟩:=I.tuple hq
  obtain⟨u,hu,ru⟩:=rv.get hx
  obtain⟨f0,f1,f2,f3,f4,f5⟩:=hf it (by simp)
  refine wpAny_pyNext_tuple_item st (show s.heap.IsTuple a its.toArray from p) (x:=u) (by simpa using hu) fun h' st' sb=> ?_
  have I1:j7 X pins σ H {s with heap:=h'}:=I.turned (t':=s.toks) (fun b o hb e=>(sb.2 b hb).trans e) f0 f1 f3 f4 f5
  obtain⟨o,e,c,d⟩:=id st'
  exact⟨u,rfl,a9R (s:={s with heap:=h'}) e c d (by decide) ⟨x,H,I1,ru,⟨rfl,fun ys hy=>by rw [I.tuple_inj hy hq];exact hx⟩,st',fun b hb=>(hf b hb).1⟩⟩
 done:=by
   intro X hP hw hK hc i pins s σ H E I hf st hg
   subst hP hw hK
   obtain⟨xs,hq,hx⟩:=hg
   obtain⟨its,rv,p,hz⟩:=I.tuple hq
   obtain⟨f0,f1,f2,f3,f4,f5⟩:=hf it (by simp)
   have hl:=rv.length
   exact wpAny_pyNext_tuple_end (I.ok.hd hc) st (show s.heap.IsTuple a its.toArray from p) (by simp;lia) fun h' eb=>⟨rfl,I.turned (t':=s.toks) (fun b o hb e=>eb b o hb e) f0 f1 f3 f4 f5⟩
 self:=fun _ _ _ _ _ st h=>wpAny_pyIter_tupleiter st h
theorem a9r{P:AK}{w:AI}{K:AD}{tg:AF}(it:AB)(lo:Int)(n:Nat):b0r P w K tg (Itr lo n) [it] it (fun i h=>IsRangeIter h it (lo+(i:Nat)*1) ((n:Int) - (i:Nat)) 1) where
 mem:=by simp
 obj:=fun i h st b hb=>by
  have e:b=it:=by simpa using hb
  subst e
  exact⟨_,st,fun v z=>by
   have z':Data.fields _=Data.cell v:=z
   cases z'⟩
 keep:=fun i h h' st k=>k it (by simp) _ st
 item:=by
  intro X hP hw hK hc i pins s σ H E I hf st hg
  subst hP hw hK
  obtain⟨f0,f1,f2,f3,f4,f5⟩:=hf it (by simp)
  have W:=Walks.range (prog:=X.prog) (w:=X.w) (I.ok.hd hc) it lo 1 n
  refine W.item i s _ _ hg st fun v h' tk hv st' kk=> ?_
  obtain⟨t,rfl⟩:=hv
  have I1:j7 X pins σ H {s with heap:=h',toks:=tk}:=I.turned (fun b o hb e=>kk b o (by simpa using hb) e) f0 f1 f3 f4 f5
  refine⟨_,rfl,a9R (s:={s with heap:=h',toks:=tk}) (n:="range_iterator") st' rfl rfl (by decide) ⟨.int (lo+i),H,I1,⟨t, ?_⟩,⟨rfl,rfl⟩,st',fun b hb=>(hf b hb).1⟩⟩
  rw [Int.mul_one]
 done:=by
   intro X hP hw hK hc i pins s σ H E I hf st hg
   subst hP hw hK
   obtain⟨f0,f1,f2,f3,f4,f5⟩:=hf it (by simp)
   exact wpAny_pyNext_range_end (I.ok.hd hc) st (by have:n<=i:=hg;lia) fun h' eb=>⟨rfl,I.turned (t':=s.toks) (fun b o hb e=>eb b o hb e) f0 f1 f3 f4 f5⟩
 self:=fun _ _ _ _ _ st h=>wpAny_pyIter_rangeiter st h
section
variable {X:Cx}{tg:AF}
theorem b2J{pins:List (AB×Obj)}{σ:St}{H:Hp}{s:AC}{R:It->Hp->Prop}{E:AA->AC->Prop}{lo hi:Int}{t u v:Tok}{tk:Nat}(I:j7 X pins σ H s)(h1: -(2 ^ 62)<=lo)(h2:lo<2 ^ 62)(h3: -(2 ^ 62)<=hi)(h4:hi<2 ^ 62)
 (q:R (Itr lo (hi - lo).toNat) H):AH (model X.prog X.w) X.A (pyIter (.ref s.heap.objs.size)) (PIE X pins σ tg R) E {s with heap:=s.heap.push {cls:= .type "range",data:= .fields #[.int lo t,.int hi u,.int 1 v]},toks:=tk}:=by
 refine wpAny_pyIter_range (IsRange.new ..) (small_one h1 h2 h3 h4) ?_
 have I1:j7 X pins σ H {s with heap:=s.heap.push {cls:= .type "range",data:= .fields #[.int lo t,.int hi u,.int 1 v]},toks:=tk}:=I.kept fun b o e=>Al _ e
 refine⟨(s.heap.push {cls:= .type "range",data:= .fields #[.int lo t,.int hi u,.int 1 v]}).objs.size,[(s.heap.push {cls:= .type "range",data:= .fields #[.int lo t,.int hi u,.int 1 v]}).objs.size],_,_,H,rfl,
  I1.kept (t':=tk) fun b o e=>Al _ e,a9r _ lo (hi - lo).toNat, ?_,fun b hb=> ?_,q⟩
 ·have e1:lo+((0:Nat):Int)*1=lo:=by simp
  have e2:(((hi - lo).toNat:Nat):Int) - ((0:Nat):Int)=Builtin.Range.rangeSize lo hi 1:=by rw [rangeSize_one];split<;>lia
  show IsRangeIter _ _ (lo+((0:Nat):Int)*1) ((((hi - lo).toNat:Nat):Int) - ((0:Nat):Int)) 1
  rw [e1,e2]
  exact Aw _ rfl
 ·have e:b=(s.heap.push {cls:= .type "range",data:= .fields #[.int lo t,.int hi u,.int 1 v]}).objs.size:=by simpa using hb
  subst e
  exact I1.fpOk (AW _) (I1.hok.fresh (AW _))
def b69(ta:TA):TI:=fun σ H R=>ta σ H fun vs H1=>∃j:Int,vs=[.int j]/\ -(2 ^ 62)<=j/\j<2 ^ 62/\R (Itr 0 j.toNat) H1
theorem a6u{a:AF}{ta:TA}{p pos:Pos}(hg:Gl X "range")(hm:X.mg "range"=none)(ha:PA X [a] ta)(hs:AM [a] X.env=[(false,eval a X.env)]:=by rfl):PI X tg (.Call (.Name "range" p) [a] [] pos) (b69 ta):=by
 intro pins s σ H R I h
 refine Call_ (a66 I hg hm boot_range (PyProof.Rows.callWith_type1 (L4 (ha pos pins s σ H _ I h) fun us s1 ⟨vs,H1,I1,r1,q1⟩=> ?_) hs rfl))
 obtain⟨j,e,q1,q2,q⟩:=q1
 subst e
 cases r1 with
 |cons r rr=>
  cases rr
  obtain⟨t,rfl⟩:=r
  exact call_range_1 (b2J I1 (by lia) (by lia) q1 q2 (by simpa using q))
def b8c(wi:TI)(g:TG)(tb:TS):TS:=fun D σ H=>wi σ H fun J H1=>∃W:Nat->Nat->St->Hp->Prop,(∃m,W 0 m σ H1)/\∀i m σ H,W i m σ H->
 (J.stop i H/\D.nx σ H)\/(J.go i H/\∃N:St->Hp->Prop,(∀σ' H',N σ' H'->∃m',m'<m/\W (i+1) m' σ' H')/\∀x H',J.yld i H x H'->g x σ H' fun σ2 H2=>tb {D with nx:=N,ct:=N,bk:=D.nx} σ2 H2)
def a5p(fp:List AB)(h:Heap):List (AB×Obj):=fp.filterMap fun b=>(h.get? b).map fun o=>(b,o)
theorem a0x{fp:List AB}{h:Heap}{b:AB}{o:Obj}(hb:b∈fp)(e:h.get? b=some o):(b,o)∈a5p fp h:=List.mem_filterMap.mpr ⟨b,hb,by rw [e];rfl⟩
theorem b0W{fp:List AB}{h:Heap}{p:AB×Obj}(hp:p∈a5p fp h):p.1∈fp/\h.get? p.1=some p.2:=by
 obtain⟨b,hb,e⟩:=List.mem_filterMap.mp hp
 cases q:h.get? b with
 |none=>rw [q] at e;cases e
 |some o=>
  rw [q] at e
  have e':(b,o)=p:=Option.some.inj e
  subst e'
  exact⟨hb,q⟩
theorem j7.pinned{pins:List (AB×Obj)}{σ:St}{H:Hp}{s:AC}{fp:List AB}(I:j7 X pins σ H s)(hf:∀b∈fp,a3c X pins H b)(ho:∀b∈fp,∃o,s.heap.get? b=some o/\∀v,o.data≠.cell v):j7 X (pins++a5p fp s.heap) σ H s:=
 I.pins_of fun p hp=>(Am.mp hp).elim (fun z=>I.pin p (Au _ z)) fun z=>by
  obtain⟨hb,e⟩:=b0W z
  obtain⟨f0,f1,f2,_⟩:=hf p.1 hb
  obtain⟨o,e',d⟩:=ho p.1 hb
  rw [e] at e';cases e'
  exact⟨e,f0,f1,f2,d⟩
theorem j7.unpinned{pins pl:List (AB×Obj)}{σ:St}{H:Hp}{s:AC}(I:j7 X (pins++pl) σ H s):j7 X pins σ H s:=I.pins_of fun p hp=>I.pin p (Au _ (Ay _ hp))
theorem a9n{iter:AF}{body:List Stmt}{wi:TI}{g:TG}{tb:TS}{pos:Pos}(hp:PassesOwn (model X.prog X.w) X.A X.env X.xe)(hc:X.calm=true)(hi:PI X tg iter wi)(hg:PG X tg g)(hb:PSs X body tb)
 (hs:∀x,foldedSetIterable iter X.env x=pure x:=by intro _;rfl):PS X (.For tg iter body [] pos) (b8c wi g tb):=by
 intro pins s σ H D I h
 refine wpAny_For (L4 (hi pins s σ H _ I h) fun v s1 h1=>L4 h1 fun itv s2 h2=> ?_) hs
 obtain⟨it,fp,tn,J,H2,e,I2,T,st2,f2,W,⟨m0,w0⟩,turn⟩:=h2
 subst e
 have stat:∀{H':Hp},(∀b∈fp,H' b=none)->∀b∈fp,a3c X pins H' b:=fun hn b hb=>⟨hn b hb,(f2 b hb).2⟩
 refine codeAny_forLoop_any (fun n s'=>∃i σ' H',j7 X pins σ' H' s'/\tn i s'.heap/\(∀b∈fp,H' b=none)/\W i n σ' H') ?_ m0 ⟨0,σ,H2,I2,st2,fun b hb=>(f2 b hb).1,w0⟩
 rintro n s3 ⟨i,σ3,H3,I3,st3,fr3,w3⟩
 rcases turn i n σ3 H3 w3 with⟨stop,qn⟩|⟨go,N,hN,step⟩
 ·refine wpAny_passesOwn hp (L4 (T.done X rfl rfl rfl hc i pins s3 σ3 H3 X.xe I3 (stat fr3) st3 stop) fun r s4 ⟨hr,I4⟩=> ?_)
  subst hr
  exact wpAny_execs_nil ⟨σ3,H3,I4,qn⟩
 ·refine wpAny_passesOwn hp (L4 (T.item X rfl rfl rfl hc i pins s3 σ3 H3 X.xe I3 (stat fr3) st3 go) fun r s4 ⟨u,hr,h4⟩=> ?_)
  subst hr
  refine wpAny_passesOwn hp (L4 h4 fun _ s5 ⟨x,H5,I5,r5,y5,st5,fr5⟩=> ?_)
  have I5':=I5.pinned (stat fr5) (T.obj _ _ st5)
  refine wpAny_passesOwn hp (L4 (hg _ s5 σ3 H5 x u _ I5' r5 (step x H5 y5)) fun _ s6 ⟨σ6,H6,I6,q6⟩=> ?_)
  refine wpAny_passesOwn hp (L4 (hb _ s6 σ6 H6 _ I6 q6) fun f s7 q7=> ?_)
  have again:∀{σ7:St} {H7:Hp},j7 X (pins++a5p fp s5.heap) σ7 H7 s7->N σ7 H7->∃m,m<n/\∃i σ' H',j7 X pins σ' H' s7/\tn i s7.heap/\(∀b∈fp,H' b=none)/\W i m σ' H':=fun {σ7 H7} I7 n7=>by
   obtain⟨m',hm,w7⟩:=hN σ7 H7 n7
   refine⟨m',hm,i+1,σ7,H7,I7.unpinned,T.keep _ _ _ st5 fun b hb o e=>(I7.pin (b,o) (Au _ (Au _ (a0x hb e)))).1,fun b hb=> ?_,w7⟩
   obtain⟨o,e,d⟩:=T.obj _ _ st5 b hb
   exact(I7.pin (b,o) (Au _ (Au _ (a0x hb e)))).2.1
  cases f with
  |next=>obtain⟨σ7,H7,I7,n7⟩:=q7;exact again I7 n7
  |cont=>obtain⟨σ7,H7,I7,n7⟩:=q7;exact again I7 n7
  |brk=>obtain⟨σ7,H7,I7,q7⟩:=q7;exact⟨σ7,H7,I7.unpinned,q7⟩
  |ret v=>obtain⟨x7,σ7,H7,I7,r7,q7⟩:=q7;exact⟨x7,σ7,H7,I7.unpinned,r7,q7⟩
end
theorem b1K{K:AD}{a:AB}{xs:List V}{g:TG}{tb:TS}{D:P4}{σ:St}{H:Hp}(Pv:Nat->St->Hp->Prop)(h0:Pv 0 σ H)(hl:∀i σ H,i<=xs.length->Pv i σ H->SqL K H a xs)
 (hs:∀i x σ H,xs[i]?=some x->Pv i σ H->g x σ H fun σ2 H2=>tb {D with nx:=Pv (i+1),ct:=Pv (i+1),bk:=D.nx} σ2 H2) (hd:∀σ H,Pv xs.length σ H->D.nx σ H):
 ∃W:Nat->Nat->St->Hp->Prop,(∃m,W 0 m σ H)/\∀i m σ H,W i m σ H->
  ((Itl K a).stop i H/\D.nx σ H)\/((Itl K a).go i H/\∃N:St->Hp->Prop,(∀σ' H',N σ' H'->∃m',m'<m/\W (i+1) m' σ' H')/\∀x H',(Itl K a).yld i H x H'->g x σ H' fun σ2 H2=>tb {D with nx:=N,ct:=N,bk:=D.nx} σ2 H2):=by
 refine⟨fun i m σ H=>m=xs.length - i/\i<=xs.length/\Pv i σ H,⟨xs.length,by simp,Nat.zero_le _,h0⟩, ?_⟩
 rintro i m σ H ⟨rfl,hi,p⟩
 have q:=hl i σ H hi p
 by_cases hlt:i<xs.length
 ·refine .inr ⟨⟨xs,xs[i],q,by simp [hlt]⟩,Pv (i+1),fun σ' H' p'=>⟨xs.length - (i+1),by lia,rfl,hlt,p'⟩,fun x H' y=> ?_⟩
  obtain⟨e,y⟩:=y
  subst e
  exact hs i x σ _ (y xs q) p
 ·have e:i=xs.length:=by lia
  subst e
  exact .inl ⟨⟨xs,q,AW _⟩,hd σ H p⟩
theorem b3y{K:AD}{a:AB}{xs:List V}{g:TG}{tb:TS}{D:P4}{σ:St}{H:Hp}(Pv:Nat->St->Hp->Prop)(h0:Pv 0 σ H)(hl:∀i σ H,i<=xs.length->Pv i σ H->SqT K H a xs)
 (hs:∀i x σ H,xs[i]?=some x->Pv i σ H->g x σ H fun σ2 H2=>tb {D with nx:=Pv (i+1),ct:=Pv (i+1),bk:=D.nx} σ2 H2) (hd:∀σ H,Pv xs.length σ H->D.nx σ H):
 ∃W:Nat->Nat->St->Hp->Prop,(∃m,W 0 m σ H)/\∀i m σ H,W i m σ H->
  ((Itt K a).stop i H/\D.nx σ H)\/((Itt K a).go i H/\∃N:St->Hp->Prop,(∀σ' H',N σ' H'->∃m',m'<m/\W (i+1) m' σ' H')/\∀x H',(Itt K a).yld i H x H'->g x σ H' fun σ2 H2=>tb {D with nx:=N,ct:=N,bk:=D.nx} σ2 H2):=by
 refine⟨fun i m σ H=>m=xs.length - i/\i<=xs.length/\Pv i σ H,⟨xs.length,by simp,Nat.zero_le _,h0⟩, ?_⟩
 rintro i m σ H ⟨rfl,hi,p⟩
 have q:=hl i σ H hi p
 by_cases hlt:i<xs.length
 ·refine .inr ⟨⟨xs,xs[i],q,by simp [hlt]⟩,Pv (i+1),fun σ' H' p'=>⟨xs.length - (i+1),by lia,rfl,hlt,p'⟩,fun x H' y=> ?_⟩
  obtain⟨e,y⟩:=y
  subst e
  exact hs i x σ _ (y xs q) p
 ·have e:i=xs.length:=by lia
  subst e
  exact .inl ⟨⟨xs,q,AW _⟩,hd σ H p⟩
theorem b0I{lo:Int}{n:Nat}{g:TG}{tb:TS}{D:P4}{σ:St}{H:Hp}(Pv:Nat->St->Hp->Prop)(h0:Pv 0 σ H)
 (hs:∀i σ H,i<n->Pv i σ H->g (.int (lo+i)) σ H fun σ2 H2=>tb {D with nx:=Pv (i+1),ct:=Pv (i+1),bk:=D.nx} σ2 H2) (hd:∀σ H,Pv n σ H->D.nx σ H):
 ∃W:Nat->Nat->St->Hp->Prop,(∃m,W 0 m σ H)/\∀i m σ H,W i m σ H->
  ((Itr lo n).stop i H/\D.nx σ H)\/((Itr lo n).go i H/\∃N:St->Hp->Prop,(∀σ' H',N σ' H'->∃m',m'<m/\W (i+1) m' σ' H')/\∀x H',(Itr lo n).yld i H x H'->g x σ H' fun σ2 H2=>tb {D with nx:=N,ct:=N,bk:=D.nx} σ2 H2):=by
 refine⟨fun i m σ H=>m=n - i/\i<=n/\Pv i σ H,⟨n,by simp,Nat.zero_le _,h0⟩, ?_⟩
 rintro i m σ H ⟨rfl,hi,p⟩
 by_cases hlt:i<n
 ·refine .inr ⟨hlt,Pv (i+1),fun σ' H' p'=>⟨n - (i+1),by lia,rfl,hlt,p'⟩,fun x H' y=> ?_⟩
  obtain⟨e,y⟩:=y
  subst e y
  exact hs i σ _ hlt p
 ·have e:i=n:=by lia
  subst e
  exact .inl ⟨AW _,hd σ H p⟩
abbrev R2:=V->V->Hp->VK->Prop
def OpR(X:Cx)(f:AA->AA->Sem AA)(r:R2):Prop:=
 ∀(pins:List (AB×Obj)) (s:AC) (σ:St) (H:Hp) (x y:V) (v u:AA) (Q:VK),j7 X pins σ H s->t5 x v->t5 y u->r x y H Q->
  AH (model X.prog X.w) X.A (f v u) (EP X pins σ Q) X.xe s
def UnR(X:Cx)(f:AA->Sem AA)(r:V->Hp->VK->Prop):Prop:=
 ∀(pins:List (AB×Obj)) (s:AC) (σ:St) (H:Hp) (x:V) (v:AA) (Q:VK),j7 X pins σ H s->t5 x v->r x H Q->
  AH (model X.prog X.w) X.A (f v) (EP X pins σ Q) X.xe s
def L5(X:Cx)(f:AA)(r:List V->Hp->VK->Prop):Prop:=
 ∀(pins:List (AB×Obj)) (s:AC) (σ:St) (H:Hp) (xs:List V) (us:List AA) (Q:VK),j7 X pins σ H s->m7 xs us->r xs H Q->
  AH (model X.prog X.w) X.A (call f us) (EP X pins σ Q) X.xe s
def b7S(X:Cx)(r:V->Hp->(Bool->Hp->Prop)->Prop):Prop:=
 ∀(pins:List (AB×Obj)) (s:AC) (σ:St) (H:Hp) (x:V) (v:AA) (Q:Bool->Hp->Prop),j7 X pins σ H s->t5 x v->r x H Q->
  AH (model X.prog X.w) X.A (truthy v) (TP X pins σ Q) X.xe s
def tOp(r:R2)(ta tb:TE):TE:=fun σ H Q=>ta σ H fun x H1=>tb σ H1 fun y H2=>r x y H2 Q
def tUn(r:V->Hp->VK->Prop)(ta:TE):TE:=fun σ H Q=>ta σ H fun x H1=>r x H1 Q
def rI(C:Int->Int->Prop)(g:Int->Int->V):R2:=fun x y H Q=>∃i j,x= .int i/\y= .int j/\C i j/\Q (g i j) H
def rI0(g:Int->Int->V):R2:=fun x y H Q=>∃i j,x= .int i/\y= .int j/\Q (g i j) H
def rU(g:Int->V):V->Hp->VK->Prop:=fun x H Q=>∃i,x= .int i/\Q (g i) H
section
variable {X:Cx}{a b c:AF}{ta tb tc:TE}{pos:Pos}
theorem b5q(ha:PE X a ta)(hb:PE X b tb){pins:List (AB×Obj)}{s:AC}{σ:St}{H:Hp}{R:V->V->Hp->Prop}(I:j7 X pins σ H s)
 (h:ta σ H fun x H1=>tb σ H1 fun y H2=>R x y H2) {Q:AA->AC->Prop} {f:AA->AA->Sem AA}
 (hf:∀v u s2 x y H2,j7 X pins σ H2 s2->t5 x v->t5 y u->R x y H2->AH (model X.prog X.w) X.A (f v u) Q X.xe s2):
 AH (model X.prog X.w) X.A (eval a X.env) (fun v s₁=>AH (model X.prog X.w) X.A (eval b X.env) (fun u s₂=>AH (model X.prog X.w) X.A (f v u) Q X.xe s₂) X.xe s₁) X.xe s:=by
 refine L4 (ha pins s σ H _ I h) fun v s1 ⟨x,H1,I1,r1,q1⟩=> ?_
 refine L4 (hb pins s1 σ H1 _ I1 q1) fun u s2 ⟨y,H2,I2,r2,q2⟩=> ?_
 exact hf v u s2 x y H2 I2 r1 r2 q2
theorem b7p{op:Operator}{r:R2}(ho:OpR X (binaryOp op) r)(ha:PE X a ta)(hb:PE X b tb):PE X (.BinOp a op b pos) (tOp r ta tb):=by
 intro pins s σ H Q I h
 exact wpAny_BinOp (b5q ha hb I h fun v u s2 x y H2 I2 rx ry q=>ho pins s2 σ H2 x y v u Q I2 rx ry q)
theorem b7r{op:UnaryOp}{r:V->Hp->VK->Prop}(ho:UnR X (unaryOp op) r)(ha:PE X a ta):PE X (.UnaryOp op a pos) (tUn r ta):=by
 intro pins s σ H Q I h
 exact UnaryOp_ (L4 (ha pins s σ H _ I h) fun v s1 ⟨x,H1,I1,r1,q1⟩=>ho pins s1 σ H1 x v Q I1 r1 q1)
theorem opI{f:AA->AA->Sem AA}{C:Int->Int->Prop}{g:Int->Int->Int}
 (rule:∀(i j:Int) (t u:Tok) (s:AC) (Q:AA->AC->Prop) (E:AA->AC->Prop),C i j->Q (.int (g i j) s.toks) {s with toks:=s.toks+1}->AH (model X.prog X.w) X.A (f (.int i t) (.int j u)) Q E s):
 OpR X f (rI C fun i j=> .int (g i j)):=by
 intro pins s σ H x y v u Q I rx ry h
 obtain⟨i,j,rfl,rfl,hc,q⟩:=h
 obtain⟨t,rfl⟩:=rx
 obtain⟨t',rfl⟩:=ry
 exact rule i j t t' s _ _ hc ⟨.int (g i j),H,I.tok _,⟨_,rfl⟩,q⟩
theorem b53{f:AA->AA->Sem AA}{g:Int->Int->Int}
 (rule:∀(i j:Int) (t u:Tok) (s:AC) (Q:AA->AC->Prop) (E:AA->AC->Prop),Q (.int (g i j) s.toks) {s with toks:=s.toks+1}->AH (model X.prog X.w) X.A (f (.int i t) (.int j u)) Q E s):
 OpR X f (rI0 fun i j=> .int (g i j)):=by
 intro pins s σ H x y v u Q I rx ry h
 obtain⟨i,j,rfl,rfl,q⟩:=h
 obtain⟨t,rfl⟩:=rx
 obtain⟨t',rfl⟩:=ry
 exact rule i j t t' s _ _ ⟨.int (g i j),H,I.tok _,⟨_,rfl⟩,q⟩
theorem b52{f:AA->AA->Sem AA}{g:Int->Int->Bool}
 (rule:∀(i j:Int) (t u:Tok) (s:AC) (Q:AA->AC->Prop) (E:AA->AC->Prop),Q (.bool (g i j)) s->AH (model X.prog X.w) X.A (f (.int i t) (.int j u)) Q E s):
 OpR X f (rI0 fun i j=> .bl (g i j)):=by
 intro pins s σ H x y v u Q I rx ry h
 obtain⟨i,j,rfl,rfl,q⟩:=h
 obtain⟨t,rfl⟩:=rx
 obtain⟨t',rfl⟩:=ry
 exact rule i j t t' s _ _ ⟨.bl (g i j),H,I,rfl,q⟩
def a0Q(i j:Int):Prop:=0<j/\j<1073741824
def b6L(i j:Int):Prop:=0<=j/\j<=1000000/\i.natAbs<2 ^ 64
def a6F(i j:Int):Prop:=(-(2 ^ 64)<i/\i<2 ^ 64)\/(-(2 ^ 64)<j/\j<2 ^ 64)
theorem a6F.ok{i j:Int}(h:a6F i j):IntMulOk i j:=by
 rcases h with⟨h1,h2⟩|⟨h1,h2⟩
 ·exact .of_left (intBits_le_64 h1 h2)
 ·exact .of_right (intBits_le_64 h1 h2)
theorem b54:OpR X (binaryOp .Add) (rI0 fun i j=> .int (i+j)):=b53 fun _ _ _ _ _ _ _ q=>add_int q
theorem b6a:OpR X (binaryOp .Sub) (rI0 fun i j=> .int (i - j)):=b53 fun _ _ _ _ _ _ _ q=>sub_int q
theorem b58:OpR X (binaryOp .Mult) (rI a6F fun i j=> .int (i*j)):=opI fun _ _ _ _ _ _ _ hc q=>mul_int q hc.ok
theorem b30:OpR X (binaryOp .FloorDiv) (rI a0Q fun i j=> .int (i / j)):=opI fun i j _ _ _ _ _ hc q=>by
 have h1:(0:Int)<j:=hc.1
 have h2:j<1073741824:=hc.2
 exact floordiv_int (by lia) (by rw [Int.fdiv_eq_ediv_of_nonneg i (by lia)];exact q) (.inl (PyProof.noPylong_small (by lia)))
theorem b57:OpR X (binaryOp .Mod) (rI (fun _ j=>0<j) fun i j=> .int (i % j)):=opI fun i j _ _ _ _ _ hc q=>by
 have h1:(0:Int)<j:=hc
 exact mod_int' (by lia) (by rw [Int.fmod_eq_emod_of_nonneg i (by lia)];exact q)
theorem b3H:OpR X (inplaceOp .Add) (rI0 fun i j=> .int (i+j)):=b53 fun _ _ _ _ _ _ _ q=>iadd_int q
theorem unI{f:AA->Sem AA}{g:Int->Int}
 (rule:∀(i:Int) (t:Tok) (s:AC) (Q:AA->AC->Prop) (E:AA->AC->Prop),Q (.int (g i) s.toks) {s with toks:=s.toks+1}->AH (model X.prog X.w) X.A (f (.int i t)) Q E s):
 UnR X f (rU fun i=> .int (g i)):=by
 intro pins s σ H x v Q I rx h
 obtain⟨i,rfl,q⟩:=h
 obtain⟨t,rfl⟩:=rx
 exact rule i t s _ _ ⟨.int (g i),H,I.tok _,⟨_,rfl⟩,q⟩
theorem b6F:UnR X (unaryOp .USub) (rU fun i=> .int (-i)):=unI fun _ _ _ _ _ q=>neg_int q
end
section
variable {X:Cx}{a b c:AF}{ta tb tc:TE}{pos:Pos}
theorem a4L{pins:List (AB×Obj)}{σ:St}{H:Hp}{s:AC}{Q:VK}{k k':Bool}(I:j7 X pins σ H s)(q:Q (.bl k) H)(e:k=k'):EP X pins σ Q (.bool k') s:=by
 subst e
 exact⟨.bl k,H,I,rfl,q⟩
theorem b7k:OpR X (compareOp .Lt) (rI0 fun i j=> .bl (decide (i<j))):=b52 fun _ _ _ _ _ _ _ q=>lt_int q
theorem b7j:OpR X (compareOp .LtE) (rI0 fun i j=> .bl (decide (i<=j))):=b52 fun _ _ _ _ _ _ _ q=>le_int q
theorem b7i:OpR X (compareOp .Gt) (rI0 fun i j=> .bl (decide (j<i))):=b52 fun _ _ _ _ _ _ _ q=>gt_int q
theorem b0Z:OpR X (compareOp .Lt) (fun x y H Q=>∃i j,x= .str i/\y= .str j/\Q (.bl (decide (i.cps.toList<j.cps.toList))) H):=by
 intro pins s σ H x y v u Q I rx ry h
 obtain⟨i,j,rfl,rfl,q⟩:=h
 obtain⟨t,rfl⟩:=rx
 obtain⟨t',rfl⟩:=ry
 exact lt_str (a4L I q rfl)
theorem b0Y:OpR X (compareOp .In) (fun x y H Q=>∃i j,x= .str i/\y= .str j/\Q (.bl (!(Builtin.Str.occurrences j i 0 j.length 1).isEmpty)) H):=by
 intro pins s σ H x y v u Q I rx ry h
 obtain⟨i,j,rfl,rfl,q⟩:=h
 obtain⟨t,rfl⟩:=rx
 obtain⟨t',rfl⟩:=ry
 exact in_str (a4L I q rfl)
theorem b56:OpR X (compareOp .Is) (fun x y H Q=>y= .non/\Q (.bl (decide (x= .non))) H):=by
 intro pins s σ H x y v u Q I rx ry h
 obtain⟨rfl,q⟩:=h
 cases ry
 refine is_none_gen (a4L I q ?_)
 cases x<;>first
  |(cases rx;rfl)
  |(obtain⟨t,rfl⟩:=rx;rfl)
theorem b31:OpR X (compareOp .IsNot) (fun x y H Q=>y= .non/\Q (.bl (!decide (x= .non))) H):=by
 intro pins s σ H x y v u Q I rx ry h
 obtain⟨rfl,q⟩:=h
 cases ry
 refine isnot_none_gen (a4L I q ?_)
 cases x<;>first
  |(cases rx;rfl)
  |(obtain⟨t,rfl⟩:=rx;rfl)
theorem a7n:OpR X (compareOp .NotIn) (fun x y H Q=>∃i j,x= .str i/\y= .str j/\Q (.bl (!(!(Builtin.Str.occurrences j i 0 j.length 1).isEmpty))) H):=by
 intro pins s σ H x y v u Q I rx ry h
 obtain⟨i,j,rfl,rfl,q⟩:=h
 obtain⟨t,rfl⟩:=rx
 obtain⟨t',rfl⟩:=ry
 exact notIn_str (a4L I q rfl)
theorem OpR.or{f:AA->AA->Sem AA}{r r':R2}(h:OpR X f r)(h':OpR X f r'):OpR X f (fun x y H Q=>r x y H Q\/r' x y H Q):=by
 intro pins s σ H x y v u Q I rx ry q
 rcases q with q|q
 ·exact h pins s σ H x y v u Q I rx ry q
 ·exact h' pins s σ H x y v u Q I rx ry q
theorem j8(b:AF){op:CmpOp}(h:op≠.In:=by decide)(h2:op≠.NotIn:=by decide):behindInMarks op b=false:=by
 have e1:(op==CmpOp.In)=false:=by cases op<;>first|rfl|exact absurd rfl h
 have e2:(op==CmpOp.NotIn)=false:=by cases op<;>first|rfl|exact absurd rfl h2
 cases b<;>simp [behindInMarks,e1,e2]
theorem b37{op:CmpOp}{r:R2}(ho:OpR X (compareOp op) r)(ha:PE X a ta)(hb:PE X b tb)(hm:behindInMarks op b=false):PE X (.Compare a [op] [b] pos) (tOp r ta tb):=by
 intro pins s σ H Q I h
 exact wpAny_Compare1 (b5q ha hb I h fun v u s2 x y H2 I2 rx ry q=>ho pins s2 σ H2 x y v u Q I2 rx ry q) hm
def b5b(t:TE):TT:=fun σ H Q=>t σ H fun x H'=>∃k,x= .bl k/\Q k H'
theorem b4e{op:CmpOp}{r:R2}(ho:OpR X (compareOp op) r)(ha:PE X a ta)(hb:PE X b tb)(hm:behindInMarks op b=false):PT X (.Compare a [op] [b] pos) (b5b (tOp r ta tb)):=by
 intro pins s σ H Q I h
 refine wpAny_isTrue_Compare1 (L4 (ha pins s σ H _ I h) fun v s1 ⟨x,H1,I1,r1,q1⟩=>L4 (hb pins s1 σ H1 _ I1 q1) fun u s2 ⟨y,H2,I2,r2,q2⟩=>
  L4 (ho pins s2 σ H2 x y v u _ I2 r1 r2 q2) fun c s3 ⟨z,H3,I3,r3,k,e,q3⟩=> ?_) hm
 subst e
 cases r3
 exact wpAny_truthy_bool ⟨H3,I3,q3⟩
def b2X(r r':R2)(ta tb tc:TE):TE:=fun σ H Q=>ta σ H fun x H1=>tb σ H1 fun y H2=>r x y H2 fun z H3=>∃k,z= .bl k/\
 (if k=true then tc σ H3 fun w' H4=>r' y w' H4 Q else Q (.bl false) H3)
theorem b2F{op op':CmpOp}{r r':R2}(ho:OpR X (compareOp op) r)(ho':OpR X (compareOp op') r')(ha:PE X a ta)(hb:PE X b tb)(hc:PE X c tc)
 (hm:lastMarks [op,op'] [b,c]=false:=by with_unfolding_all rfl):PT X (.Compare a [op,op'] [b,c] pos) (b5b (b2X r r' ta tb tc)):=by
 intro pins s σ H Q I h
 refine isTrue_chain (L4 (ha pins s σ H _ I h) fun v s1 ⟨x,H1,I1,r1,q1⟩=>test_link (L4 (hb pins s1 σ H1 _ I1 q1) fun u s2 ⟨y,H2,I2,r2,q2⟩=>
  L4 (ho pins s2 σ H2 x y v u _ I2 r1 r2 q2) fun d s3 ⟨z,H3,I3,r3,k,e,q3⟩=> ?_)) hm
 subst e
 cases r3
 refine wpAny_truthy_bool ?_
 cases k with
 |false=>
  obtain⟨k',e',q'⟩:=q3
  cases e'
  exact ite_ff ⟨H3,I3,q'⟩
 |true=>
  refine ite_tt (test_last (L4 (hc pins s3 σ H3 _ I3 q3) fun w' s4 ⟨z',H4,I4,r4,q4⟩=>L4 (ho' pins s4 σ H4 y z' u w' _ I4 r2 r4 q4) fun d' s5 ⟨z2,H5,I5,r5,k2,e2,q5⟩=> ?_))
  subst e2
  cases r5
  exact wpAny_truthy_bool ⟨H5,I5,q5⟩
def b5k(K:AD)(x:V)(H:Hp)(k:Bool):Prop:=
 match x with
 | .non=>k=false
 | .bl b=>k=b
 | .int i=>k=(i !=0)
 | .str y=>y.length<=AQ/\k=((y.length:Int) !=0)
 | .byt y=>y.size<=AQ/\k=((y.size:Int) !=0)
 | .ref p=>(∃xs,SqL K H p xs/\k= !xs.isEmpty)\/(∃xs,SqT K H p xs/\k= !xs.isEmpty)\/∃kvs,H p=some (.dK kvs)/\k= !kvs.isEmpty
 |_=>False
theorem a9a{κ:Type}{kvs:List (κ×V)}{vs:List (κ×AA)}(r:KV kvs vs):(!vs.isEmpty)= !kvs.isEmpty:=by
 cases r<;>rfl
theorem a4Z{xs:List V}{its:List AA}(r:m7 xs its):(!its.toArray.isEmpty)= !xs.isEmpty:=by
 cases r<;>simp
theorem a3r:(AQ:Nat)<2 ^ 63:=by rw [sizeLine_eq];decide
theorem b6D:b7S X (fun x H Q=>∃k,b5k X.K x H k/\Q k H):=by
 intro pins s σ H x v Q I rx h
 obtain⟨k,e,q⟩:=h
 have hl:=a3r
 have hs:AQ=16777216:=sizeLine_eq
 cases x with
 |non=>
  cases rx
  have e':k=false:=e
  subst e'
  exact truthy_none ⟨H,I,q⟩
 |bl b=>
  cases rx
  have e':k=b:=e
  subst e'
  exact wpAny_truthy_bool ⟨H,I,q⟩
 |int i=>
  obtain⟨t,rfl⟩:=rx
  have e':k=(i !=0):=e
  subst e'
  exact PySem.P.truthy_int ⟨H,I,q⟩
 |str y=>
  obtain⟨t,rfl⟩:=rx
  obtain⟨hy,e'⟩:y.length<=AQ/\k=((y.length:Int) !=0):=e
  subst e'
  exact PySem.P.truthy_str (by lia) ⟨H,I.tok _,q⟩
 |byt y=>
  obtain⟨t,rfl⟩:=rx
  obtain⟨hy,e'⟩:y.size<=AQ/\k=((y.size:Int) !=0):=e
  subst e'
  exact PySem.W.truthy_bytes (by lia) ⟨H,I.tok _,q⟩
 |ref p=>
  cases rx
  have e':(∃xs,SqL X.K H p xs/\k= !xs.isEmpty)\/(∃xs,SqT X.K H p xs/\k= !xs.isEmpty)\/∃kvs,H p=some (.dK kvs)/\k= !kvs.isEmpty:=e
  rcases e' with⟨xs,hx,e'⟩|⟨xs,hx,e'⟩|⟨kvs,hx,e'⟩
  ·subst e'
   obtain⟨its,r,pl,hz⟩:=I.list hx
   have hlen:=r.length
   exact wpAny_truthy_list pl.isList (by simp only [An];lia) ⟨H,I.tok _,by rw [a4Z r];exact q⟩
  ·subst e'
   obtain⟨its,r,pl,hz⟩:=I.tuple hx
   have hlen:=r.length
   exact truthy_tuple pl (by simp only [An];lia) ⟨H,I.tok _,by rw [a4Z r];exact q⟩
  ·subst e'
   obtain⟨hz,hS,vs,r,m⟩:kvs.length<=AQ/\(p==sysModules)=false/\∃vs,KV kvs vs/\s.heap.DictOf (a4u X.prog X.w) p vs:=I.hok p _ hx
   have hlen:kvs.length=vs.length:=Paired.length r
   exact wpAny_truthy_dict hS m (by lia) ⟨H,I.tok _,by rw [a9a r];exact q⟩
 |_=>exact(show False from e).elim
theorem b2G(ha:PE X a ta)(he:∀whole,isTrue a X.env whole=(do let v<-whole;standAt a.pos;holding [v] (truthy v))):
 PT X a (fun σ H Q=>ta σ H fun x H'=>∃k,b5k X.K x H' k/\Q k H'):=by
 intro pins s σ H Q I h
 exact isTrue_plain (L4 (ha pins s σ H _ I h) fun v s1 ⟨x,H1,I1,r1,q1⟩=>b6D pins s1 σ H1 x v Q I1 r1 q1) (he _)
theorem a9k:OpR X (binaryOp .Add) (fun x y H Q=>∃i j,x= .str i/\y= .str j/\i.length+j.length<=AQ/\Q (.str (i++j)) H):=by
 intro pins s σ H x y v u Q I rx ry h
 obtain⟨i,j,rfl,rfl,hz,q⟩:=h
 obtain⟨t,rfl⟩:=rx
 obtain⟨t',rfl⟩:=ry
 exact add_str (fun t' tk=>⟨.str (i++j),H,I.tok _,⟨_,rfl⟩,q⟩) hz
theorem a5L{x:V}{us:List AA}(r:m7 [x] us):∃u,us=[u]/\t5 x u:=by
 cases r with
 |cons r1 r2=>cases r2;exact⟨_,rfl,r1⟩
theorem b5e{x y:V}{us:List AA}(r:m7 [x,y] us):∃u w',us=[u,w']/\t5 x u/\t5 y w':=by
 cases r with
 |cons r1 r2=>
  cases r2 with
  |cons r3 r4=>cases r4;exact⟨_,_,rfl,r1,r3⟩
theorem b0w(hc:X.calm=true):L5 X (.builtin "max") (fun xs H Q=>∃i j,xs=[.int i,.int j]/\Q (.int (if j>i then j else i)) H):=by
 intro pins s σ H xs us Q I r h
 obtain⟨i,j,rfl,q⟩:=h
 obtain⟨u,w',rfl,⟨t,rfl⟩,⟨t',rfl⟩⟩:=b5e r
 refine max_two_ints (I.ok.hd hc) fun h' tk k=>⟨_,H,I.kept k, ?_,q⟩
 by_cases hj:j>i
 ·rw [if_pos hj,if_pos hj];exact⟨_,rfl⟩
 ·rw [if_neg hj,if_neg hj];exact⟨_,rfl⟩
theorem b0x(hc:X.calm=true):L5 X (.builtin "min") (fun xs H Q=>∃i j,xs=[.int i,.int j]/\Q (.int (if j<i then j else i)) H):=by
 intro pins s σ H xs us Q I r h
 obtain⟨i,j,rfl,q⟩:=h
 obtain⟨u,w',rfl,⟨t,rfl⟩,⟨t',rfl⟩⟩:=b5e r
 refine min_two_ints (I.ok.hd hc) fun h' tk k=>⟨_,H,I.kept k, ?_,q⟩
 by_cases hj:j<i
 ·rw [if_pos hj,if_pos hj];exact⟨_,rfl⟩
 ·rw [if_neg hj,if_neg hj];exact⟨_,rfl⟩
end
structure b6O(h:Heap)(x dx C:AB)(mA:Str->Option AA):Prop where
 obj:h.get? x=some (PySem.W.instObj C dx)
 ns:h.Ns1 dx mA
 ne:dx≠x
theorem b0O{h:Heap}{dx:AB}{mA:Str->Option AA}(n:h.Ns1 dx mA):∃od,h.get? dx=some od/\∀name,PySem.W.lookIn name od=some (mA name):=by
 obtain⟨o,es,ep,ho,hd,hk,_,hm⟩:=n
 refine⟨o,ho,fun name=> ?_⟩
 have e:=hm name
 unfold nsFind findBy at e
 rw [<-Array.find?_toList] at e
 unfold PySem.W.lookIn
 rw [hd]
 dsimp only
 split
 ·rename_i y q
  rw [q] at e
  exact congrArg some e
 ·rename_i q
  rw [q] at e
  have a:es.toList.any (·.refKey)=false:=by
   rw [List.any_eq_false]
   intro y hy
   obtain⟨z,t,hkey⟩:=hk y (Array.mem_toList_iff.mp hy)
   simp [DictEntry.refKey,hkey]
  have a':¬es.toList.any (·.refKey)=true:=by rw [a];exact Aj
  rw [if_neg a']
  exact congrArg some e
theorem b6O.look{h:Heap}{x dx C:AB}{mA:Str->Option AA}(I:b6O h x dx C mA):∃od,PySem.W.InstAt h x (PySem.W.instObj C dx) C (some od)/\∀name,PySem.W.lookIn name od=some (mA name):=
 let ⟨od,ho,hl⟩:=b0O I.ns
 ⟨od,⟨I.obj,rfl,rfl,ho⟩,hl⟩
section
variable {prog:AK}{w:AI}{A:AJ}{E:AA->AC->Prop}{s:AC}{K:AD}{x dx C f:AB}{mA:Str->Option AA}{name:Str}{v:AA}
end
def b7s(f:Str)(v:V):List (Str×V)->List (Str×V)
 |[]=>[(f,v)]
 |(g,x)::r=>if g=f then(g,v)::r else(g,x)::b7s f v r
theorem a4z.none_of{o:Option AA}(r:a4z none o):o=none:=by
 cases o with
 |none=>rfl
 |some u=>exact(show False from r).elim
section
variable {P:AK}{w:AI}{H H':Hp}{h h':Heap}{a C dx:AB}{fs fs':List (Str×V)}
end
structure Cls(K:AD)(C:AB):Prop where
 pg:PySem.W.plainGet K C Str.empty=true
 hd:PySem.W.hasDictIn K C=true
 po:PySem.W.plainOver K C=true
 sa:PySem.W.findIn K (.ref C) "__setattr__"=some (some (.builtin "object.__setattr__"))
theorem Cls.get{K:AD}{C:AB}(c:Cls K C)(f:Str):PySem.W.plainGet K C f=true:=c.pg
def b5h(K:AD)(C:AB)(f:Str):Prop:=PySem.W.findIn K (.ref C) f=some none
section
variable {X:Cx}{pins:List (AB×Obj)}{σ:St}{H:Hp}{s:AC}{a C dx:AB}{fs:List (Str×V)}{f:Str}{v:V}{A:AJ}{E:AA->AC->Prop}
end
section
variable {X:Cx}{o e value:AF}{f:Str}{pos pos' tpos:Pos}{ta tv:TE}
end
section
variable {X:Cx}{pins:List (AB×Obj)}{σ:St}{H:Hp}{s:AC}{A:AJ}{E:AA->AC->Prop}{Q:AA->AC->Prop}{c:AA}{b:Bool}
inductive a4E (K:AD) (H:Hp):V->AA->Prop where
 |non:a4E K H .non (.type "NoneType")
 |bl (x:Bool):a4E K H (.bl x) (.type "bool")
 |int (i:Int):a4E K H (.int i) (.type "int")
 |str (x:Str):a4E K H (.str x) (.type "str")
 |flt (x:UInt64):a4E K H (.flt x) (.type "float")
 |lst {a:AB} {xs:List V} (e:H a=some (.lst xs)):a4E K H (.ref a) (.type "list")
 |frz {a:AB} {o:Obj} {xs:List V} (e:H a=some (.frz o (.lst xs))):a4E K H (.ref a) (.type "list")
 |tup {a:AB} {xs:List V} (e:H a=some (.tup xs)):a4E K H (.ref a) (.type "tuple")
 |dK {a:AB} {kvs:List (u7×V)} (e:H a=some (.dK kvs)):a4E K H (.ref a) (.type "dict")
 |dT {a:AB} {kvs:List (List u7×V)} (e:H a=some (.dT kvs)):a4E K H (.ref a) (.type "dict")
 |ins {a C dx:AB} {fs:List (Str×V)} (e:H a=some (.ins C dx fs)) (cl:Cls K C) (ha:PySem.W.findIn K (.ref C) "__class__"=some (some (.builtin "object.__class__")))
  (hn:PySem.W.specialIn K (.builtin "object.__class__") "__get__"=some (some (.builtin "getset_descriptor.__get__"))) (htk:PySem.W.takesIn K (.builtin "object.__class__")=some true)
  (hm:PySem.W.mroIn K C (.type "object")=some true):a4E K H (.ref a) (.ref C)
end
structure J3(k:Nat)(A:AJ):Prop where
 hd:A.handled=none
 dp:A.depth+3*k+5<recursionLimit
 un:A.units+16*k+200<cLine
theorem J3.mono{j k:Nat}{A:AJ}(r:J3 k A)(h:j<=k):J3 j A:=⟨r.hd,by have:=r.dp;lia,by have:=r.un;lia⟩
theorem J3.deeper{k:Nat}{A:AJ}(r:J3 (k+1) A)(env:Env):J3 k (A.deeper env):=
 ⟨r.hd,by have:=r.dp;show A.depth+1+3*k+5<_;lia,by have:=r.un;show A.units+3+16*k+200<_;lia⟩
theorem J3.in1{k:Nat}{A:AJ}(r:J3 (k+1) A):J3 k A.in1:=
 ⟨r.hd,by have:=r.dp;show A.depth+3*k+5<_;lia,by have:=r.un;show A.units+1+16*k+200<_;lia⟩
theorem J3.depth{k:Nat}{A:AJ}(r:J3 k A):A.depth<recursionLimit:=by have:=r.dp;lia
theorem J3.units{k:Nat}{A:AJ}(r:J3 k A):A.units+64<cLine:=by have:=r.un;lia
def b6A:TA:=fun _ H Q=>Q [] H
def b0i(ta:TE)(tr:TA):TA:=fun σ H Q=>ta σ H fun x H1=>tr σ H1 fun xs H2=>Q (x::xs) H2
section
variable {X:Cx}{e:AF}{es:List AF}{te:TE}{t:TA}{pos:Pos}
theorem T3:PA X [] b6A:=fun _ _ _ _ H Q I h=>Calls.spliced_nil ⟨[],H,I,.nil,h⟩
theorem B9(ha:PE X e te)(hr:PA X es t)(hs:AM (e::es) X.env=(false,eval e X.env)::AM es X.env:=by rfl):PA X (e::es) (b0i te t):=by
 intro pos pins s σ H Q I h
 rw [hs]
 show AH _ _ (spliced ((false,eval e X.env)::backTo pos (AM es X.env))) _ _ s
 refine Calls.spliced_cons (L4 (ha pins s σ H _ I h) fun u s1 ⟨x,H1,I1,r1,q1⟩=> ?_)
 exact L4 (hr pos pins s1 σ H1 _ I1 q1) fun us s2 ⟨xs,H2,I2,r2,q2⟩=>⟨x::xs,H2,I2,.cons r1 r2,q2⟩
def b8j(t:TA):TE:=fun σ H Q=>t σ H fun xs H1=>xs.length<=AQ/\∀p,H1 p=none->Q (.ref p) (upd H1 p (.tup xs))
def b8e(t:TA):TE:=fun σ H Q=>t σ H fun xs H1=>xs.length<=AQ/\∀p,H1 p=none->Q (.ref p) (upd H1 p (.lst xs))
theorem b6i{x1}(h:PA X es t):PE X (.Tuple es x1 pos) (b8j t):=by
 intro pins s σ H Q I hq
 refine wpAny_Tuple_spliced (L4 (h pos pins s σ H _ I hq) fun us s1 ⟨xs,H1,I1,r,z,q⟩=>⟨by rw [<-r.length];exact z, ?_⟩)
 have hf:H1 s1.heap.objs.size=none:=I1.hok.fresh (AW _)
 refine⟨.ref s1.heap.objs.size,upd H1 s1.heap.objs.size (.tup xs),I1.laid (t':=s1.toks) (fun b u e=>Al _ e) (AW _) ?_,rfl,q _ hf⟩
 exact⟨z,us,r,⟨_,Aw _ rfl,rfl,_,rfl⟩⟩
theorem b6e(h:PA X es t):PE X (.List es pos) (b8e t):=by
 intro pins s σ H Q I hq
 refine wpAny_List_spliced (L4 (h pos pins s σ H _ I hq) fun us s1 ⟨xs,H1,I1,r,z,q⟩=>⟨by rw [<-r.length];exact z, ?_⟩)
 have hf:H1 s1.heap.objs.size=none:=I1.hok.fresh (AW _)
 refine⟨.ref s1.heap.objs.size,upd H1 s1.heap.objs.size (.lst xs),I1.laid (t':=s1.toks) (fun b u e=>Al _ e) (AW _) ?_,rfl,q _ hf⟩
 exact⟨z,us,0,r,Aw _ rfl⟩
end
abbrev Sp:=List V->Hp->VK->XK->Prop
abbrev CXT:=List Env->Hp->AC->XK->AA->AC->Prop
structure a8M(P:AK)(w:AI)(K:AD)(mg:Str->Option AA)(base:Heap)(A:AJ)(outer:List Env)(s:AC)(H:Hp):Prop where
 frames:A.frames=some outer
 mod:Mod K mg base
 bs:∀b o,base.get? b=some o->s.heap.get? b=some o/\H b=none
 bsz:base.objs.size<=s.heap.objs.size
 funs:s.heap.FunFrames base outer
 frf:∀b∈frs outer,H b=none
 hok:HOk P w H s.heap
 bare:AllBare s.gens
def CE(outer:List Env)(P:AK)(w:AI)(H:Hp)(s:AC)(Q:VK)(u:AA)(s':AC):Prop:=
 ∃v H',s'.os=s.os/\AllBare s'.gens/\Un (frs outer) [] H H' s.heap s'.heap/\HOk P w H' s'.heap/\t5 v u/\Q v H'
def CR(CX:CXT)(outer:List Env)(P:AK)(w:AI)(H:Hp)(s:AC)(Q:VK)(E:XK)(r:Result)(s':AC):Prop:=
 match r with
 | .ok (.ret u)=>CE outer P w H s Q u s'
 | .ok _=>False
 | .error e=>CX outer H s E e s'
structure R3(P:AK)(w:AI)(K:AD)(mg:Str->Option AA)(base:Heap)(CX:CXT)(k:Nat)(f:AB)(fd:FuncData)(ps:List Str)(sp:Sp):Prop where
 len:∀vs H Q E,sp vs H Q E->vs.length=ps.length
 run:∀(A:AJ) (outer:List Env) (s:AC) (H:Hp) (args:Args) (us:List AA) (vs:List V) (Q:VK) (E:XK),J3 k A->a8M P w K mg base A outer s H->BindsTo s fd args (ps.zip us)->m7 vs us->sp vs H Q E->
  codeAny (model P w) A (.call (.ref f) args) (CR CX outer P w H s Q E) s
theorem R3.mono{P:AK}{w:AI}{K:AD}{mg:Str->Option AA}{base:Heap}{CX:CXT}{j k:Nat}{f:AB}{fd:FuncData}{ps:List Str}{sp:Sp}(F:R3 P w K mg base CX j f fd ps sp)(h:j<=k):
 R3 P w K mg base CX k f fd ps sp:=⟨F.len,fun A outer s H args us vs Q E hr=>F.run A outer s H args us vs Q E (hr.mono h)⟩
theorem R3.imp{P:AK}{w:AI}{K:AD}{mg:Str->Option AA}{base:Heap}{CX:CXT}{k:Nat}{f:AB}{fd:FuncData}{ps:List Str}{sp sp':Sp}(F:R3 P w K mg base CX k f fd ps sp)
 (h:∀vs H Q E,sp' vs H Q E->sp vs H Q E):R3 P w K mg base CX k f fd ps sp':=
 ⟨fun vs H Q E q=>F.len vs H Q E (h _ _ _ _ q),fun A outer s H args us vs Q E hr he hb hv hs=>F.run A outer s H args us vs Q E hr he hb hv (h _ _ _ _ hs)⟩
theorem a8M.in1{P:AK}{w:AI}{K:AD}{mg:Str->Option AA}{base:Heap}{A:AJ}{outer:List Env}{s:AC}{H:Hp}(e:a8M P w K mg base A outer s H):
 a8M P w K mg base A.in1 outer s H:=⟨e.frames,e.mod,e.bs,e.bsz,e.funs,e.frf,e.hok,e.bare⟩
section
variable {X:Cx}{pins:List (AB×Obj)}{σ:St}{H:Hp}{s s':AC}
theorem j7.env0(I:j7 X pins σ H s):a8M X.prog X.w X.K X.mg X.base X.A X.stack s H:=
 ⟨I.ok.frames,I.ok.mod,I.bs,Nat.le_trans I.ok.bsz I.sz,I.stack,I.stkFree,I.hok,I.bare⟩
theorem j7.after{Q:VK}{u:AA}(I:j7 X pins σ H s)(h:CE X.stack X.prog X.w H s Q u s'):EP X pins σ Q u s':=by
 obtain⟨v,H',os,bare,un,hok,r,q⟩:=h
 obtain⟨hh,g,d,t,os'⟩:=s'
 obtain rfl:os'=s.os:=os
 exact⟨v,H',I.call (h':=hh) (g':=g) (d':=d) (t':=t) (ch:=[]) un hok bare (fun b z=>absurd z (by simp)),r,q⟩
end
def b7E(sp:Sp)(dvs:List V)(E:XK)(t:TA):TE:=fun σ H Q=>t σ H fun vs H1=>sp (vs++dvs) H1 Q E
def a0I(K:AD)(fd:FuncData)(ps:List Str)(ds:List AA):Prop:=
 ∀(s:AC) (us:List AA),K.In s.heap->(us++ds).length=ps.length->BindsTo s fd ⟨us,[]⟩ (ps.zip (us++ds))
theorem a0I.all{K:AD}{fd:FuncData}{ps:List Str}(h:∀us:List AA,us.length=ps.length->bindArgs fd ⟨us,[]⟩=pure (ps.zip us)):a0I K fd ps []:=fun s us _ hl=>by
 rw [Ag] at hl ⊢
 exact .of_eq (h us hl)
def a6H(CX:CXT)(X:Cx)(E:XK):Prop:=∀(pins:List (AB×Obj)) (σ:St) (H:Hp) (s:AC) (e:AA) (s':AC),j7 X pins σ H s->CX X.stack H s E e s'->X.xe e s'
section
variable {X:Cx}{CX:CXT}{k:Nat}{f C:AB}{fd:FuncData}{ps:List Str}{sp:Sp}{dvs:List V}{ds:List AA}{E:XK}{x m:Str}{p pos apos:Pos}{e o:AF}{es:List AF}{ta:TE}{t:TA}
theorem b2Q{pins:List (AB×Obj)}{σ:St}{H:Hp}{s:AC}{Q:VK}{us:List AA}{vs:List V}(F:R3 X.prog X.w X.K X.mg X.base CX k f fd ps sp)(hr:J3 k X.A)(hb:a0I X.K fd ps ds)(hd:m7 dvs ds)(hx:a6H CX X E)
 (I:j7 X pins σ H s) (r:m7 vs us) (h:sp (vs++dvs) H Q E):AH (model X.prog X.w) X.A (call (.ref f) us) (EP X pins σ Q) X.xe s:=by
 have r2:m7 (vs++dvs) (us++ds):=r.append hd
 have hl:(us++ds).length=ps.length:=by rw [<-r2.length];exact F.len _ _ _ _ h
 refine wpAny_call (codeAny_mono (F.run X.A X.stack s H ⟨us,[]⟩ (us++ds) (vs++dvs) Q E hr I.env0 (hb s us I.kIn hl) r2 h) fun r s' hq=> ?_)
 cases r with
 |error e=>exact hx pins σ H s e s' I hq
 |ok fl=>
  cases fl with
  |ret u=>exact I.after hq
  |next=>exact False.elim hq
  |brk=>exact False.elim hq
  |cont=>exact False.elim hq
theorem b36(F:R3 X.prog X.w X.K X.mg X.base CX k f fd ps sp)(hr:J3 k X.A)(hg:Gl X x)(hm:X.mg x=some (.ref f))(hk:PySem.W.keepIn X.K (.ref f)=true)(hb:a0I X.K fd ps ds)(hd:m7 dvs ds)(hx:a6H CX X E)
 (ha:PA X (e::es) t) (hdb:(x==("__debug__":Str))=false:=by decide) (he:AM (e::es) X.env=(false,eval e X.env)::AM es X.env:=by rfl) (hpl:(backTo pos (AM es X.env)).any (·.1)=false:=by rfl):
 PE X (.Call (.Name x p) (e::es) [] pos) (b7E sp dvs E t):=by
 intro pins s σ H Q I h
 refine wpAny_Call_Name_kw (a1D I hg hm ?_ hdb)
 refine PySem.W.callWith_K (h₀:=X.base) I.ok.mod.kin hk (L4 (ha pos pins s σ H _ I h) fun us s1 ⟨vs,H1,I1,r,q⟩=>⟨I1.kIn, ?_⟩) he hpl
 exact b2Q F hr hb hd hx I1 r q
end
section
variable {X:Cx}{CX:CXT}{k:Nat}{f C:AB}{fd:FuncData}{ps ks:List Str}{sp:Sp}{E:XK}{x m:Str}{p pos apos kpos:Pos}{e o:AF}{es:List AF}{kws:List Keyword}{te ta:TE}{t tk:TA}{nm:Option Str}
variable {g:List AA->List AA->List AA}{gV:List V->List V->List V}
end
structure m5(N P:List Str)(sc:Scope):Prop where
 kind:sc.kind= .function
 co:sc.isCoroutine=false
 gen:sc.isGenerator=false
 nd:N.Nodup
 pre:N.take P.length=P
 par:∀x∈P,sc.names.lookup x=some .local\/sc.names.lookup x=some .cell
 nofree:∀y∈sc.names,y.2≠.free
theorem a59{kindOf:Str->Option NameKind}{x:Str}:∀{binds:List (Str×AA)} {m:Str->Option AA},(∀v,(x,v)∉binds)->bindL kindOf binds m x=m x
 |[],_,_=>rfl
 |(n,v)::r,m,h=>by
  unfold bindL
  rw [a59 fun w hw=>h w (Ae _ hw)]
  split
  ·have:x≠n:=by rintro rfl;exact h v Af
   simp [this]
  ·rfl
theorem a57{kindOf:Str->Option NameKind}{x:Str}:∀{binds:List (Str×AA)} {m:Str->Option AA},(∀v,(x,v)∉binds)->bindC kindOf binds m x=m x
 |[],_,_=>rfl
 |(n,v)::r,m,h=>by
  unfold bindC
  rw [a57 fun w hw=>h w (Ae _ hw)]
  split
  ·rfl
  ·have:x≠n:=by rintro rfl;exact h v Af
   simp [this]
theorem a58{kindOf:Str->Option NameKind}{x:Str}{v:AA}:∀{P:List Str} {vs:List AA} {i:Nat} {m:Str->Option AA},P.Nodup->P[i]?=some x->vs[i]?=some v->kindOf x=some .local->
 bindL kindOf (P.zip vs) m x=some v
 |[],_,_,_,_,h,_,_=>by simp at h
 |_::_,[],_,_,_,_,h,_=>by simp at h
 |p::P,w::vs,0,m,nd,h1,h2,hk=>by
  simp at h1 h2;subst h1;subst h2
  show bindL kindOf ((p,w)::P.zip vs) m p=_
  unfold bindL
  rw [a59 fun v hv=>(List.nodup_cons.mp nd).1 (List.of_mem_zip hv).1,if_pos hk]
  simp
 |p::P,w::vs,i+1,m,nd,h1,h2,hk=>by
  show bindL kindOf ((p,w)::P.zip vs) m x=_
  unfold bindL
  exact a58 (i:=i) (List.nodup_cons.mp nd).2 (by simpa using h1) (by simpa using h2) hk
theorem a56{kindOf:Str->Option NameKind}{x:Str}{v:AA}:∀{P:List Str} {vs:List AA} {i:Nat} {m:Str->Option AA},P.Nodup->P[i]?=some x->vs[i]?=some v->kindOf x≠some .local->
 bindC kindOf (P.zip vs) m x=some v
 |[],_,_,_,_,h,_,_=>by simp at h
 |_::_,[],_,_,_,_,h,_=>by simp at h
 |p::P,w::vs,0,m,nd,h1,h2,hk=>by
  simp at h1 h2;subst h1;subst h2
  show bindC kindOf ((p,w)::P.zip vs) m p=_
  unfold bindC
  rw [a57 fun v hv=>(List.nodup_cons.mp nd).1 (List.of_mem_zip hv).1,if_neg hk]
  simp
 |p::P,w::vs,i+1,m,nd,h1,h2,hk=>by
  show bindC kindOf ((p,w)::P.zip vs) m x=_
  unfold bindC
  exact a56 (i:=i) (List.nodup_cons.mp nd).2 (by simpa using h1) (by simpa using h2) hk
def a13(N:List Str)(vs:List V):St:=vs.map some++Ab (N.length - vs.length) none
def a19(CX:CXT)(P:AK)(w:AI)(K:AD)(mg:Str->Option AA)(base:Heap)(N:List Str)(qual:Str)(scope:Scope)(f:AB)(cd:AA)(A:AJ)(outer:List Env)(s:AC)(H:Hp)(E:XK):Cx where
 prog:=P
 w:=w
 K:=K
 mg:=mg
 base:=base
 A:=A.deeper (envOfC qual scope s.heap.objs.size f cd)
 N:=N
 s₀:=s
 H₀:=H
 env:=envOfC qual scope s.heap.objs.size f cd
 outer:=outer
 stack:=envOfC qual scope s.heap.objs.size f cd::outer
 ex:=[]
 calm:=true
 fn:=fun _=>true
 pn:=[]
 xe:=fun e s'=>AH (model P w) (A.deeper (envOfC qual scope s.heap.objs.size f cd)) (leaving (envOfC qual scope s.heap.objs.size f cd) e) (fun _ s''=>CX outer H s E e s'') (fun e' s''=>CX outer H s E e' s'') s'
theorem a7K{sc:Scope}{n:Nat}{x:Str}(h:sc.names.lookup x=some .cell):∃c,(cellsFrom n sc.names []).lookup x=some c:=by
 have q:=PySem.W.cellsFrom_some sc.names n [] (.inl h)
 exact Option.isSome_iff_exists.mp q
theorem b0L{CX:CXT}{P:AK}{w:AI}{K:AD}{mg:Str->Option AA}{base:Heap}{N ps:List Str}{qual:Str}{scope:Scope}{f:AB}{cd:AA}{A:AJ}{outer:List Env}{s s1:AC}{H:Hp}{E:XK}{us:List AA}{vs:List V}
 (S:m5 N ps scope) (hd:A.handled=none) (e0:a8M P w K mg base A outer s H) (hl:vs.length=ps.length) (r:m7 vs us)
 (x:InCallC s s.heap.objs.size (bindL (envOfC qual scope s.heap.objs.size f cd).kindOf (ps.zip us) fun _=>none) (cellsFrom (s.heap.objs.size+1) scope.names []) (bindC (envOfC qual scope s.heap.objs.size f cd).kindOf (ps.zip us) fun _=>none) s1):
 j7 (a19 CX P w K mg base N qual scope f cd A outer s H E) [] (a13 N vs) H s1:=by
 have hpl:ps.length<=N.length:=by have:=congrArg List.length S.pre;rw [List.length_take] at this;lia
 obtain⟨h1,tk,rfl,hk⟩:=x.done
 have noA:∀b:AB,b∉(a19 CX P w K mg base N qual scope f cd A outer s H E).ex:=fun b z=>absurd (show b∈([]:List AB) from z) (by simp)
 refine⟨⟨e0.mod,S.kind,rfl,rfl,AW _,fun y z c h1 h2=> ?_,fun y hy=> ?_,fun y c _ h=> ?_,fun _=>hd,Around.frames_deeper e0.frames,.inr ⟨rfl,rfl⟩,fun b z=>absurd z (noA b),e0.bs,e0.bsz,fun b _ _=>noA b,fun b z=>absurd z (noA b),e0.funs,e0.frf⟩,
  rfl,e0.bare,Un.kept hk,⟨_,x.toInCall.ns,fun i y v h1 h2 h3=> ?_⟩,fun y c h=>⟨_,x.cell y c h⟩,e0.hok.fresh (AW _),fun y c h=> ?_,fun p hp=>absurd (show p∈([]:List (AB×Obj)) from hp) (by simp),e0.hok.kept hk, ?_⟩
 ·exact name_of_addr x.apart (PySem.mem_of_lookup h1) (PySem.mem_of_lookup h2)
 ·have hy:scope.names.lookup y=some .cell\/scope.names.lookup y=some .free:=hy
  rcases hy with hy|hy
  ·exact a7K hy
  ·exact absurd rfl (S.nofree _ (PySem.mem_of_lookup hy))
 ·exact BF (x.above y c (PySem.mem_of_lookup h))
 ·have hi:i<vs.length:=by
   unfold a13 at h2
   by_cases hi:i<vs.length
   ·exact hi
   ·rw [List.getElem?_append_right (by simpa using hi)] at h2
    rw [List.getElem?_replicate] at h2
    split at h2<;>cases h2
  have ha:vs[i]?=some v:=by
   unfold a13 at h2
   rw [BC (by simpa using hi),BB] at h2
   cases e:vs[i]? with
   |none=>rw [e] at h2;cases h2
   |some a=>rw [e] at h2;cases h2;rfl
  obtain⟨u,hu,rv⟩:=r.get ha
  have hp:ps[i]?=some y:=by
   rw [<-S.pre,List.getElem?_take_of_lt (by lia)];exact h1
  have ndP:ps.Nodup:=by rw [<-S.pre];exact S.nd.sublist (List.take_sublist _ _)
  refine⟨u,rv, ?_⟩
  rcases S.par y (BD hp) with k|k
  ·exact .inl ⟨k,a58 ndP hp hu k⟩
  ·obtain⟨c,e⟩:=a7K (n:=s.heap.objs.size+1) k
   refine .inr ⟨.inl k,c,e, ?_⟩
   have q:=x.cell y c e
   rw [a56 ndP hp hu (by show scope.names.lookup y≠_;rw [k];decide)] at q
   exact q
 ·exact e0.hok.fresh (BF (x.above y c (PySem.mem_of_lookup h)))
 ·unfold a13
  show _=N.length
  rw [Aa,Ak,List.length_replicate]
  lia
theorem b4Y{CX:CXT}{P:AK}{w:AI}{K:AD}{mg:Str->Option AA}{base:Heap}{k:Nat}{f:AB}{name qual:Str}{params:Arguments}{body:List Stmt}{scope:Scope}{dV kV doc pm cdv ct oc:AA}{an od:Option AB}
 {osl:Array (Option AA)} {N ps:List Str} {sp:Sp} (lk:K.lookup f=some ⟨oc,od,.func (PySem.W.fnOf name qual params body scope dV kV doc pm an cdv ct),osl⟩) (hcd:PySem.W.codeIn K cdv qual=true) (S:m5 N ps scope)
 (len:∀vs H Q E,sp vs H Q E->vs.length=ps.length)
 (hbody:∀(A:AJ) (outer:List Env) (s:AC) (H:Hp) (vs:List V) (Q:VK) (E:XK),J3 k (A.deeper (envOfC qual scope s.heap.objs.size f cdv))->sp vs H Q E->
  ∃t,PSs (a19 CX P w K mg base N qual scope f cdv A outer s H E) body t/\t {nx:=fun _ H'=>Q .non H',rt:=Q} (a13 N vs) H):
 R3 P w K mg base CX (k+1) f (PySem.W.fnOf name qual params body scope dV kV doc pm an cdv ct) ps sp:=by
 refine⟨len,fun A outer s H args us vs Q E hr e0 hb r hsp=> ?_⟩
 have hl:=len _ _ _ _ hsp
 have KX:K.In s.heap:=e0.mod.kin.keeps fun b o e=>(e0.bs b o e).1
 have lim:s.heap.NoLimit:=e0.mod.nolimit.keeps fun b o e=>(e0.bs b o e).1
 have hkind:∀y∈ps.zip us,scope.names.lookup y.1=some .local\/(scope.names.lookup y.1=some .cell/\((cellsFrom (s.heap.objs.size+1) scope.names []).lookup y.1).isSome=true):=fun⟨n,v⟩ hy=>by
  rcases S.par n (List.of_mem_zip hy).1 with q|q
  ·exact .inl q
  ·exact .inr ⟨q,PySem.W.cellsFrom_some _ _ _ (.inl q)⟩
 refine codeAny_call_function hr.depth (KX _ _ lk) rfl S.co S.gen rfl (PySem.W.codeRec_of KX hcd) (hb _ _ _ _ ?_)
 refine wpAny_newFunctionEnv_cells S.kind hkind fun env he s1 x=> ?_
 subst he
 refine⟨lim.keeps x.toInCall.keep,codeAny_func ?_⟩
 obtain⟨t,ht,hq⟩:=hbody A outer s H vs Q E (hr.deeper _) hsp
 have I:j7 (a19 CX P w K mg base N qual scope f cdv A outer s H E) [] (a13 N vs) H s1:=b0L S hr.hd e0 hl r x
 refine wpAny_mono (ht [] s1 (a13 N vs) H _ I hq) (fun fl s' hs=> ?_) fun e s' hs=>hs
 have fin:∀{σ':St} {H':Hp} {v:V} {u:AA},j7 (a19 CX P w K mg base N qual scope f cdv A outer s H E) [] σ' H' s'->t5 v u->Q v H'->CE outer P w H s Q u s':=
  fun {σ' H' v u} J rv q=>⟨v,H',J.os,J.bare,J.base,J.hok,rv,q⟩
 cases fl with
 |ret u=>
  obtain⟨v,σ',H',J,rv,q⟩:=hs
  exact fin J rv q
 |next=>
  obtain⟨σ',H',J,q⟩:=hs
  exact fin (v:=V.non) (u:=Value.none) J rfl q
 |brk=>
  obtain⟨_,_,_,q⟩:=hs
  exact False.elim q
 |cont=>
  obtain⟨_,_,_,q⟩:=hs
  exact False.elim q
section
variable {X:Cx}{x:Str}{p pos:Pos}{e:AF}{es:List AF}{t:TA}{id T:String}{r:List V->Hp->VK->Prop}
def tCB(r:List V->Hp->VK->Prop)(t:TA):TE:=fun σ H Q=>t σ H fun vs H1=>r vs H1 Q
theorem a2T(hc:L5 X (.builtin id) r)(hg:Gl X x)(hm:X.mg x=none)(hv:bootBuiltins x=some (.builtin id))(ha:PA X (e::es) t)(hn:x≠"__name__":=by decide)(hdb:(x==("__debug__":Str))=false:=by decide)
 (he:AM (e::es) X.env=(false,eval e X.env)::AM es X.env:=by rfl) (hpl:(backTo pos (AM es X.env)).any (·.1)=false:=by rfl):PE X (.Call (.Name x p) (e::es) [] pos) (tCB r t):=by
 intro pins s σ H Q I h
 refine wpAny_Call_Name_kw (a66 I hg hm hv ?_ hn hdb)
 exact PyProof.Rows.callWith_builtin1 (L4 (ha pos pins s σ H _ I h) fun us s1 ⟨vs,H1,I1,r1,q1⟩=>hc pins s1 σ H1 vs us Q I1 r1 q1) he hpl
theorem b01(hc:L5 X (.type T) r)(hg:Gl X x)(hm:X.mg x=none)(hv:bootBuiltins x=some (.type T))(ha:PA X (e::es) t)(hn:x≠"__name__":=by decide)(hdb:(x==("__debug__":Str))=false:=by decide)
 (he:AM (e::es) X.env=(false,eval e X.env)::AM es X.env:=by rfl) (hpl:(backTo pos (AM es X.env)).any (·.1)=false:=by rfl):PE X (.Call (.Name x p) (e::es) [] pos) (tCB r t):=by
 intro pins s σ H Q I h
 refine wpAny_Call_Name_kw (a66 I hg hm hv ?_ hn hdb)
 exact PyProof.Rows.callWith_type1 (L4 (ha pos pins s σ H _ I h) fun us s1 ⟨vs,H1,I1,r1,q1⟩=>hc pins s1 σ H1 vs us Q I1 r1 q1) he hpl
end
end L2
namespace HT
open PySem PyProof.Rows
section
open PySem.SeqAt
open PySem.AutoSeq1 (wpAny_loadPart')
open PySem.MeetsSeq PySem.MeetsSeq2 PySem.MeetsSeq3
end
section
variable {prog:AK}{w:AI}{A:AJ}{E:AA->AC->Prop}{s:AC}
theorem cat_tup{t b:AB}{vs ws:List AA}{Q:AA->AC->Prop}(ht:IsTup s.heap t vs.toArray)(hb:IsTup s.heap b ws.toArray)(hv:vs≠[])
 (h1:ws=[]->Q (.ref t) s) (h2:ws≠[]->Q (.ref s.heap.objs.size) {s with heap:=s.heap.push {cls:= .type "tuple",data:= .seq (vs++ws).toArray}})
 (hsz:vs.length+ws.length<=AQ):AH (model prog w) A (binaryOp .Add (.ref t) (.ref b)) Q E s:=by
 obtain⟨⟨cls,dd,data,sl⟩,ho,hc,n,hd⟩:=id ht
 obtain⟨⟨cls2,dd2,data2,sl2⟩,ho2,hc2,n2,hd2⟩:=id hb
 simp only at hc hd hc2 hd2
 subst hc hd hc2 hd2
 have e:vs.toArray++ws.toArray=(vs++ws).toArray:=by simp
 by_cases hw:ws=[]
 ·exact concat_meets ⟨_,ho,rfl⟩ ⟨_,ho2,rfl⟩ noFill_tuple_add seq_tuple_add PySem.F.slot_tuple_add PySem.F.entry_tuple_add (PySem.F.args_tuple_add_2 _ _)
   (tuple_addW1 t b vs.toArray ws.toArray n n2 dd dd2 sl sl2 (by simpa using hv) (by simp [hw])) ⟨ho,ho2,h1 hw⟩
 ·refine concat_meets ⟨_,ho,rfl⟩ ⟨_,ho2,rfl⟩ noFill_tuple_add seq_tuple_add PySem.F.slot_tuple_add PySem.F.entry_tuple_add (PySem.F.args_tuple_add_2 _ _)
   (tuple_addW2 t b vs.toArray ws.toArray n n2 dd dd2 sl sl2 (by simpa using hv) (by simpa using hw) (by rw [An,An];exact hsz)) ⟨ho,ho2, ?_⟩
  rw [e]
  exact h2 hw
def sIx(n d:Nat):Option Int->Nat
 |none=>d
 |some v=>if v<0 then(v+(n:Int)).toNat else min v.toNat n
theorem sIx_none(n d:Nat):sIx n d none=d:=rfl
theorem sIx_nat(n d k:Nat):sIx n d (some (k:Int))=min k n:=by
 show(if(k:Int)<0 then((k:Int)+(n:Int)).toNat else min (k:Int).toNat n)=min k n
 rw [if_neg (by lia),Int.toNat_natCast]
theorem sIx_le(n d:Nat)(hd:d<=n)(o:Option Int):sIx n d o<=n:=by
 cases o with
 |none=>exact hd
 |some v=>
  show(if v<0 then(v+(n:Int)).toNat else min v.toNat n)<=n
  by_cases hv:v<0
  ·rw [if_pos hv];lia
  ·rw [if_neg hv];exact Nat.min_le_right _ _
theorem a9A(v:Int)(n d:Nat):(if v<0 then max (v+(n:Int)) 0 else min v (n:Int))=((sIx n d (some v):Nat):Int):=by
 show(if v<0 then max (v+(n:Int)) 0 else min v (n:Int))=(((if v<0 then(v+(n:Int)).toNat else min v.toNat n):Nat):Int)
 by_cases hv:v<0
 ·simp only [if_pos hv];lia
 ·simp only [if_neg hv];lia
theorem a8S(lo hi:Option Int)(n:Nat):Builtin.Slice.sliceAdjust lo hi 1 (n:Int)=(((sIx n 0 lo:Nat):Int),((sIx n n hi:Nat):Int)):=by
 have h1:¬((1:Int)<0):=by lia
 unfold Builtin.Slice.sliceAdjust
 simp only [h1,if_false]
 refine Prod.ext ?_ ?_
 ·cases lo with
  |none=>rfl
  |some v=>exact a9A v n 0
 ·cases hi with
  |none=>rfl
  |some v=>exact a9A v n n
theorem a9m(i j:Nat):Builtin.Slice.slicePlaces (i:Int) (j:Int) 1=j - i:=by
 unfold Builtin.Slice.slicePlaces
 have h1:(1:Int)>0:=by lia
 simp only [h1,if_true,Int.ediv_one]
 split<;>lia
theorem a5B{v:AA}{o:Option Int}{Q:Option Int->AC->Prop}(p:IsPart v o)(h:Q o s):AH (model prog w) A (Builtin.Slice.slicePartIndex v) Q E s:=by
 cases p with
 |none=>exact slicePart_none h
 |int i t=>exact slicePart_int h
theorem sliceApplied_gen{sl:AB}{vl vu:AA}{lo hi:Option Int}{n:Nat}{Q:Int×Int×Nat->AC->Prop}(hs:s.heap.IsSliceOf sl vl vu .none)(pl:IsPart vl lo)(pu:IsPart vu hi)
 (h:Q (((sIx n 0 lo:Nat):Int),1,sIx n n hi - sIx n 0 lo) s):AH (model prog w) A (Builtin.Slice.sliceApplied (.ref sl) (pure (n:Int))) Q E s:=by
 obtain⟨os,hos,hcs,hds⟩:=id hs
 unfold Builtin.Slice.sliceApplied Builtin.Slice.sliceFields
 refine AG (AG (wpAny_field hos hds (x:=vl) rfl (AG (wpAny_field hos hds (x:=vu) rfl (AG (wpAny_field hos hds (x:= .none) rfl (AV ?_)))))))
 refine AG (slicePart_none ?_)
 show AH _ _ (if((1:Int)==0)=true then _ else _) _ _ s
 rw [if_neg (by decide)]
 refine AG (a5B pl (AG (a5B pu (AG (AV ?_)))))
 show AH _ _ (match Builtin.Slice.sliceAdjust lo hi 1 (n:Int) with|(lo,hi)=>pure (lo,(1:Int),Builtin.Slice.slicePlaces lo hi 1)) _ _ s
 rw [a8S lo hi n]
 show AH _ _ (pure (((sIx n 0 lo:Nat):Int),(1:Int),Builtin.Slice.slicePlaces ((sIx n 0 lo:Nat):Int) ((sIx n n hi:Nat):Int) 1)) _ _ s
 rw [a9m]
 exact AV h
theorem b2y(xs:Array AA)(i k:Nat):((Ao k).filterMap fun(m:Nat)=>xs[((i:Int)+(m:Int)*1).toNat]?).toArray=((xs.toList.drop i).take k).toArray:=by
 have e:(fun(m:Nat)=>xs[((i:Int)+(m:Int)*1).toNat]?)=fun m=>xs[i+m]?:=by
  funext m
  have:((i:Int)+(m:Int)*1).toNat=i+m:=by lia
  rw [this]
 rw [e]
 have:=pick_run xs i k
 rw [List.filterMap_map] at this
 have e2:((fun x=>xs[x]?)∘fun x=>i+x)=fun m=>xs[i+m]?:=rfl
 rw [e2] at this
 rw [this]
theorem getItem_tuple_cut{t sl:AB}{items:Array AA}{vl vu:AA}{lo hi:Option Int}{Q:AA->AC->Prop}(ht:IsTup s.heap t items)(hs:s.heap.IsSliceOf sl vl vu .none)(pl:IsPart vl lo)(pu:IsPart vu hi)
 (hw:¬(sIx items.size 0 lo=0/\sIx items.size items.size hi=items.size))
 (h:Q (.ref s.heap.objs.size) {s with heap:=s.heap.push {cls:= .type "tuple",data:= .seq ((items.toList.drop (sIx items.size 0 lo)).take (sIx items.size items.size hi - sIx items.size 0 lo)).toArray}})
 (hsz:items.size<=AQ):AH (model prog w) A (getItem (.ref t) (.ref sl)) Q E s:=by
 have htake:sizeOk (.seq ((items.toList.drop (sIx items.size 0 lo)).take (sIx items.size items.size hi - sIx items.size 0 lo)).toArray):=by
  show((items.toList.drop (sIx items.size 0 lo)).take (sIx items.size items.size hi - sIx items.size 0 lo)).toArray.size<=AQ
  rw [An,List.length_take,List.length_drop,Array.length_toList]
  lia
 have hj:sIx items.size items.size hi<=items.size:=sIx_le _ _ (AW _) hi
 obtain⟨os,hos,hcs,hds⟩:=id hs
 have hTs:s.TypeIs (.ref sl) "slice":=⟨os,hos,hcs⟩
 unfold getItem
 try with_reducible refine wpAny_holding ?_
 first|refine AG (AV ?_)|skip
 refine AG (wpAny_sequenceKey ht.typeIs (by decide) ?_)
 refine AG (wpAny_callSpecial?_slot (name:=AN "__getitem__") ht.typeIs PyProof.Rows.slot_tuple_getitem
  (wpAny_call_entry PyProof.Rows.slot_tuple_getitem ht.typeIs entry_tuple_getitem ?_ (args_tuple_getitem _ _)))
 show AH _ _ (Builtin.Tuple.tupleItemsOf (.ref t)>>=_) _ _ s
 refine AG (tupleItemsOf_ ht ?_)
 refine AG (wpAny_typeOf hTs ?_)
 rw [if_pos (by decide)]
 refine AG (sliceApplied_gen hs pl pu ?_)
 have hno:¬((((sIx items.size 0 lo:Nat):Int)==0 &&(1:Int)==1 &&(sIx items.size items.size hi - sIx items.size 0 lo)==items.size)=true):=by
  intro q
  rw [Bool.and_eq_true,Bool.and_eq_true] at q
  have q1:((sIx items.size 0 lo:Nat):Int)=0:=eq_of_beq q.1.1
  have q2:sIx items.size items.size hi - sIx items.size 0 lo=items.size:=eq_of_beq q.2
  exact hw ⟨by lia,by lia⟩
 show AH _ _ (if(((sIx items.size 0 lo:Nat):Int)==0 &&(1:Int)==1 &&(sIx items.size items.size hi - sIx items.size 0 lo)==items.size)=true then _ else _) _ _ s
 rw [if_neg hno,b2y]
 first
  |exact AG (m:=Builtin.Tuple.tupleExact _) (wpAny_newObj_type (AV ⟨_,rfl,AV h⟩) htake)
  |exact AG (m:=Builtin.Tuple.tupleExact _) (wpAny_newObj_type (AG (AV (AV ⟨_,rfl,AV h⟩))) htake)
  |exact AG (AG (m:=Builtin.Tuple.tupleExact _) (wpAny_newObj_type (AV (AV ⟨_,rfl,AV h⟩)) htake))
  |exact AG (AG (m:=Builtin.Tuple.tupleExact _) (wpAny_newObj_type (AV ⟨_,rfl,AV h⟩) htake))
end
end HT
namespace L2
open PySem PySem.Spec PyProof.Rows
abbrev TO:=St->Hp->(Option Int->Hp->Prop)->Prop
def PO(X:Cx)(e:Option AF)(t:TO):Prop:=
 ∀(pins:List (AB×Obj)) (s:AC) (σ:St) (H:Hp) (Q:Option Int->Hp->Prop),j7 X pins σ H s->t σ H Q->
  AH (model X.prog X.w) X.A (evalPart e X.env) (fun u s'=>∃o H',j7 X pins σ H' s'/\IsPart u o/\Q o H') X.xe s
def b4B:TO:=fun _ H Q=>Q none H
def b7H(t:TE):TO:=fun σ H Q=>t σ H fun x H1=>∃i,x= .int i/\Q (some i) H1
section
variable {X:Cx}{e:AF}{te:TE}{lo hi:Option AF}{tl th:TO}{pos p2:Pos}
theorem b4b:PO X none b4B:=by
 intro pins s σ H Q I h
 rw [evalPart_none]
 exact AV ⟨none,H,I,.none,h⟩
theorem b4c(h:PE X e te):PO X (some e) (b7H te):=by
 intro pins s σ H Q I hw
 rw [evalPart_some]
 refine L4 (h pins s σ H _ I hw) fun u s1 ⟨x,H1,I1,r1,q1⟩=> ?_
 obtain⟨i,rfl,q⟩:=q1
 obtain⟨t,rfl⟩:=r1
 exact⟨some i,H1,I1,.int i t,q⟩
def SlR(X:Cx)(r:V->Option Int->Option Int->Hp->VK->Prop):Prop:=
 ∀(pins:List (AB×Obj)) (s:AC) (σ:St) (H:Hp) (x:V) (v vl vu:AA) (lo hi:Option Int) (sl:AB) (Q:VK),j7 X pins σ H s->t5 x v->s.heap.IsSliceOf sl vl vu .none->IsPart vl lo->IsPart vu hi->r x lo hi H Q->
  ∃T id,typeLookup (.type T) "__getitem__"=pure (some (.builtin id))/\s.TypeIs v T/\AH (model X.prog X.w) X.A (getItem v (.ref sl)) (EP X pins σ Q) X.xe s
theorem SlR.or{r r':V->Option Int->Option Int->Hp->VK->Prop}(h:SlR X r)(h':SlR X r'):SlR X (fun x lo hi H Q=>r x lo hi H Q\/r' x lo hi H Q):=by
 intro pins s σ H x v vl vu lo hi sl Q I rx hs pl pu q
 rcases q with q|q
 ·exact h pins s σ H x v vl vu lo hi sl Q I rx hs pl pu q
 ·exact h' pins s σ H x v vl vu lo hi sl Q I rx hs pl pu q
def tSl(r:V->Option Int->Option Int->Hp->VK->Prop)(te:TE)(tl th:TO):TE:=fun σ H Q=>te σ H fun x H1=>tl σ H1 fun l H2=>th σ H2 fun u H3=>r x l u H3 Q
theorem b2w{r:V->Option Int->Option Int->Hp->VK->Prop}(hr:SlR X r)(he:PE X e te)(hl:PO X lo tl)(hu:PO X hi th):PE X (.Subscript e (.Slice lo hi none p2) pos) (tSl r te tl th):=by
 intro pins s σ H Q I h
 refine Subscript_ (L4 (he pins s σ H _ I h) fun v s1 ⟨x,H1,I1,r1,q1⟩=> ?_)
 refine wpAny_Slice (L4 (hl pins s1 σ H1 _ I1 q1) fun vl s2 ⟨l,H2,I2,pl,q2⟩=>L4 (hu pins s2 σ H2 _ I2 q2) fun vu s3 ⟨u,H3,I3,pu,q3⟩=> ?_)
 rw [evalPart_none]
 refine AV ?_
 have I4:j7 X pins σ H3 {s3 with heap:=s3.heap.push {cls:= .type "slice",data:= .fields #[vl,vu,.none]}}:=I3.kept (t':=s3.toks) fun b ob q=>Al _ q
 obtain⟨T,id,hT,ht,hg⟩:=hr pins {s3 with heap:=s3.heap.push {cls:= .type "slice",data:= .fields #[vl,vu,.none]}} σ H3 x v vl vu l u s3.heap.objs.size Q I4 r1 (Heap.IsSliceOf.new ..) pl pu q3
 show AH (model X.prog X.w) X.A (subscriptTail e (.Slice lo hi none p2) v (.ref s3.heap.objs.size)) (EP X pins σ Q) X.xe {s3 with heap:=s3.heap.push {cls:= .type "slice",data:= .fields #[vl,vu,.none]}}
 exact tail_any (ops:=[.ref s3.heap.objs.size,v]) ht hT hg (by with_unfolding_all rfl)
def b3n(xs:List V)(lo hi:Option Int):List V:=(xs.drop (HT.sIx xs.length 0 lo)).take (HT.sIx xs.length xs.length hi - HT.sIx xs.length 0 lo)
theorem a7O(xs:List V)(lo hi:Option Int):(b3n xs lo hi).length<=xs.length:=by
 unfold b3n
 rw [List.length_take,List.length_drop]
 lia
def b78(K:AD):V->Option Int->Option Int->Hp->VK->Prop:=fun x lo hi H Q=>∃a xs,x= .ref a/\SqT K H a xs/\
 ¬(HT.sIx xs.length 0 lo=0/\HT.sIx xs.length xs.length hi=xs.length)/\∀p,H p=none->Q (.ref p) (upd H p (.tup (b3n xs lo hi)))
theorem b6z:SlR X (b78 X.K):=by
 intro pins s σ H x v vl vu lo hi sl Q I rx hs pl pu h
 obtain⟨a,xs,rfl,hx,hw,q⟩:=h
 cases rx
 obtain⟨its,r,ht,hz⟩:=I.tuple hx
 have hlen:its.toArray.size=xs.length:=by rw [An];exact r.length.symm
 refine⟨"tuple",_,PyProof.Rows.slot_tuple_getitem.lookup,ht.typeIs, ?_⟩
 refine HT.getItem_tuple_cut ht hs pl pu (by rw [hlen];exact hw) ?_ (by rw [hlen];exact hz)
 rw [hlen]
 refine⟨.ref s.heap.objs.size,_,I.laid (t':=s.toks) (o:= .tup (b3n xs lo hi)) (fun b ob q=>Al _ q) (AW _) ?_,rfl,q _ (I.hok.fresh (AW _))⟩
 exact⟨Nat.le_trans (a7O xs lo hi) hz,_,(r.drop (HT.sIx xs.length 0 lo)).take (HT.sIx xs.length xs.length hi - HT.sIx xs.length 0 lo),IsTup.new _ _⟩
def b7w(K:AD):R2:=fun x y H Q=>∃a b xs ys,x= .ref a/\y= .ref b/\SqT K H a xs/\SqT K H b ys/\xs≠[]/\xs.length+ys.length<=AQ/\
 (ys=[]->Q (.ref a) H)/\(ys≠[]->∀p,H p=none->Q (.ref p) (upd H p (.tup (xs++ys))))
theorem m7.nil_iff{xs:List V}{us:List AA}(r:m7 xs us):us=[]↔xs=[]:=by
 cases r with
 |nil=>simp
 |cons _ _=>simp
theorem b3Z:OpR X (binaryOp .Add) (b7w X.K):=by
 intro pins s σ H x y v u Q I rx ry h
 obtain⟨a,b,xs,ys,rfl,rfl,ha,hb,hx,hz,q1,q2⟩:=h
 cases rx
 cases ry
 obtain⟨its,r1,p1,_⟩:=I.tuple ha
 obtain⟨its2,r2,p2,_⟩:=I.tuple hb
 refine HT.cat_tup p1 p2 (fun z=>hx (r1.nil_iff.mp z)) (fun z=>⟨.ref a,H,I,rfl,q1 (r2.nil_iff.mp z)⟩) (fun z=> ?_) (by rw [<-r1.length,<-r2.length];exact hz)
 refine⟨.ref s.heap.objs.size,_,I.laid (t':=s.toks) (o:= .tup (xs++ys)) (fun b ob q=>Al _ q) (AW _) ?_,rfl,q2 (fun w=>z (r2.nil_iff.mpr w)) _ (I.hok.fresh (AW _))⟩
 exact⟨by rw [Aa];exact hz,_,r1.append r2,IsTup.new _ _⟩
end
def ixN(n:Nat)(i:Int):Option Nat:=if 0<=i then(if i<n then some i.toNat else none) else if -(n:Int)<=i then some (i+n).toNat else none
def atI{α:Type}(xs:List α)(i:Int):Option α:=(ixN xs.length i).bind fun j=>xs[j]?
theorem b3I{n:Nat}{i:Int}{j:Nat}(h:ixN n i=some j):seqIndex? i n=some j/\j<n/\ -(n:Int)<=i/\i<n:=by
 unfold ixN at h
 by_cases h0:0<=i
 ·rw [if_pos h0] at h
  by_cases h1:i<n
  ·rw [if_pos h1] at h
   have e:i.toNat=j:=Option.some.inj h
   exact⟨by rw [seqIndex_of h0 h1,e],by lia,by lia,h1⟩
  ·rw [if_neg h1] at h;cases h
 ·rw [if_neg h0] at h
  by_cases h1: -(n:Int)<=i
  ·rw [if_pos h1] at h
   have e:(i+n).toNat=j:=Option.some.inj h
   exact⟨by rw [seqIndex_neg (by lia) h1,e],by lia,h1,by lia⟩
  ·rw [if_neg h1] at h;cases h
theorem a6J{α:Type}{xs:List α}{i:Int}{v:α}(h:atI xs i=some v):∃j,seqIndex? i xs.length=some j/\xs[j]?=some v/\j<xs.length/\ -(xs.length:Int)<=i/\i<xs.length:=by
 unfold atI at h
 cases e:ixN xs.length i with
 |none=>rw [e] at h;cases h
 |some j=>
  rw [e] at h
  obtain⟨h1,h2,h3,h4⟩:=b3I e
  exact⟨j,h1,h,h2,h3,h4⟩
def a9w(b:AF):Prop:=∀o i,subscripted b false o i=operate [o,i] (getItem o i)
def IxR(X:Cx)(r:R2):Prop:=
 ∀(value slice:AF) (pins:List (AB×Obj)) (s:AC) (σ:St) (H:Hp) (x y:V) (v u:AA) (Q:VK),j7 X pins σ H s->t5 x v->t5 y u->r x y H Q->
  subscripted slice false v u=operate [v,u] (getItem v u)->AH (model X.prog X.w) X.A (subscriptTail value slice v u) (EP X pins σ Q) X.xe s
def MtR(X:Cx)(id:String)(r:V->List V->Hp->VK->Prop):Prop:=
 ∀(pins:List (AB×Obj)) (s:AC) (σ:St) (H:Hp) (x:V) (xs:List V) (v:AA) (us:List AA) (Q:VK),j7 X pins σ H s->t5 x v->m7 xs us->r x xs H Q->
  AH (model X.prog X.w) X.A (call (.builtin id) (v::us)) (EP X pins σ Q) X.xe s
section
variable {X:Cx}{a b:AF}{ta tb:TE}{pos:Pos}
theorem IxR.or{r r':R2}(h:IxR X r)(h':IxR X r'):IxR X (fun x y H Q=>r x y H Q\/r' x y H Q):=by
 intro value slice pins s σ H x y v u Q I rx ry q hs
 rcases q with q|q
 ·exact h value slice pins s σ H x y v u Q I rx ry q hs
 ·exact h' value slice pins s σ H x y v u Q I rx ry q hs
theorem MtR.or{id:String}{r r':V->List V->Hp->VK->Prop}(h:MtR X id r)(h':MtR X id r'):MtR X id (fun x xs H Q=>r x xs H Q\/r' x xs H Q):=by
 intro pins s σ H x xs v us Q I rx rs q
 rcases q with q|q
 ·exact h pins s σ H x xs v us Q I rx rs q
 ·exact h' pins s σ H x xs v us Q I rx rs q
theorem b7o{r:R2}(hr:IxR X r)(ha:PE X a ta)(hb:PE X b tb)(hs:a9w b):PE X (.Subscript a b pos) (tOp r ta tb):=by
 intro pins s σ H Q I h
 exact Subscript_ (b5q ha hb I h fun v u s2 x y H2 I2 rx ry q=>hr a b pins s2 σ H2 x y v u Q I2 rx ry q (hs _ _))
def b74(K:AD):R2:=fun x y H Q=>∃p xs i v,x= .ref p/\y= .int i/\SqL K H p xs/\atI xs i=some v/\Q v H
def b76(K:AD):R2:=fun x y H Q=>∃p xs i v,x= .ref p/\y= .int i/\SqT K H p xs/\atI xs i=some v/\Q v H
def b75:R2:=fun x y H Q=>∃z i c,x= .str z/\y= .int i/\z.length<=AQ/\atI z.cps.toList i=some c/\Q (.str ⟨#[c]⟩) H
theorem b3J:IxR X (b74 X.K):=by
 intro value slice pins s σ H x y v u Q I rx ry h hs
 obtain⟨p,xs,i,z,rfl,rfl,hq,he,q⟩:=h
 cases rx
 obtain⟨t,rfl⟩:=ry
 obtain⟨its,r,pl,hz⟩:=I.list hq
 obtain⟨j,h1,h2,h3,h4,h5⟩:=a6J he
 obtain⟨w,ew,rw'⟩:=r.get h2
 have hl:=r.length
 have hn:=a3r
 have fin:EP X pins σ Q w s:=⟨z,H,I,rw',q⟩
 by_cases h0:0<=i
 ·have hj:i.toNat=j:=by
   rw [seqIndex_of h0 h5] at h1
   exact Option.some.inj h1
  exact item_listR pl.isList h0 (by lia) (by rw [hj];simpa using ew) fin hs
 ·have hj:(i+(its.toArray.size:Int)).toNat=j:=by
   rw [seqIndex_neg (by lia) h4] at h1
   rw [An,<-hl]
   exact Option.some.inj h1
  exact subscriptTail_builtinR (x:=w) pl.isList.typeIs slot_list_getitem.lookup
   (wpAny_getItem_list_neg (Q:=fun r s'=>r=w/\EP X pins σ Q r s') pl.isList (by lia) (by rw [An]<;>lia) (by lia) (by rw [hj];simpa using ew) ⟨rfl,fin⟩) hs
theorem b5Q:IxR X (b76 X.K):=by
 intro value slice pins s σ H x y v u Q I rx ry h hs
 obtain⟨p,xs,i,z,rfl,rfl,hq,he,q⟩:=h
 cases rx
 obtain⟨t,rfl⟩:=ry
 obtain⟨its,r,pl,hz⟩:=I.tuple hq
 obtain⟨j,h1,h2,h3,h4,h5⟩:=a6J he
 obtain⟨w,ew,rw'⟩:=r.get h2
 have hl:=r.length
 have hn:=a3r
 have fin:EP X pins σ Q w s:=⟨z,H,I,rw',q⟩
 exact subscriptTail_builtinR (x:=w) pl.typeIs slot_tuple_getitem.lookup
  (getItem_tuple (j:=j) (Q:=fun r s'=>r=w/\EP X pins σ Q r s') pl (by lia) (by lia) (by rw [An,<-hl];exact h1) (by simpa using ew) ⟨rfl,fin⟩) hs
theorem b5P:IxR X b75:=by
 intro value slice pins s σ H x y v u Q I rx ry h hs
 obtain⟨z,i,c,rfl,rfl,hz,he,q⟩:=h
 obtain⟨t,rfl⟩:=rx
 obtain⟨t',rfl⟩:=ry
 obtain⟨j,h1,h2,h3,h4,h5⟩:=a6J he
 have hl:z.cps.toList.length=z.length:=by simp [Str.length]
 rw [hl] at h1 h4 h5
 have hn:=a3r
 exact tail_any (typeIs_str s z t) slot_str_getitem.lookup (getItem_str (c:=c) (by
  have e1:decide (i< -(2 ^ 63:Int))=false:=decide_eq_false (by lia)
  have e2:decide (i>=2 ^ 63)=false:=decide_eq_false (by lia)
  rw [e1,e2,Bool.or_false]) (by rw [h1];simpa using h2) ⟨.str ⟨#[c]⟩,H,I.tok _,⟨_,rfl⟩,q⟩) hs
theorem j7.lst{pins:List (AB×Obj)}{σ:St}{H:Hp}{s:AC}{p:AB}{xs:List V}(I:j7 X pins σ H s)(h:H p=some (.lst xs)):
 ∃(its:List AA) (n:Nat),m7 xs its/\s.heap.get? p=some {cls:= .type "list",data:= .seq its.toArray n}/\xs.length<=AQ:=by
 obtain⟨z,its,n,r,e⟩:=I.hok p _ h
 exact⟨its,n,r,e,z⟩
def b7x:V->V->V->Hp->(Hp->Prop)->Prop:=fun o i v H Q=>∃p xs k j,o= .ref p/\i= .int k/\H p=some (.lst xs)/\ixN xs.length k=some j/\Q (upd H p (.lst (xs.set j v)))
theorem a7v(lo hi:Option Int)(n:Nat):(sliceBounds lo hi none n).1=((HT.sIx n 0 lo:Nat):Int)/\(sliceBounds lo hi none n).2.1=((HT.sIx n n hi:Nat):Int)/\(sliceBounds lo hi none n).2.2=1:=by
 refine⟨?_, ?_,rfl⟩
 ·cases lo with
  |none=>simp [sliceBounds,HT.sIx]
  |some i=>
   simp only [sliceBounds,HT.sIx,Option.getD_none,show(1:Int)>0 by decide,if_true]
   by_cases h:i<0
   ·simp only [h,if_true]<;>lia
   ·simp only [h,if_false]<;>lia
 ·cases hi with
  |none=>simp [sliceBounds,HT.sIx]
  |some i=>
   simp only [sliceBounds,HT.sIx,Option.getD_none,show(1:Int)>0 by decide,if_true]
   by_cases h:i<0
   ·simp only [h,if_true]<;>lia
   ·simp only [h,if_false]<;>lia
theorem a12(its:List AA)(lo hi:Option Int):slicePick its.toArray lo hi none=((its.drop (HT.sIx its.length 0 lo)).take (HT.sIx its.length its.length hi - HT.sIx its.length 0 lo)).toArray:=by
 obtain⟨h1,h2,h3⟩:=a7v lo hi its.toArray.size
 unfold slicePick
 rw [h1,h2,h3]
 simp only [sliceRange_one,pick_run,An]<;>rfl
theorem a6M:L5 X (.builtin "len") (fun xs H Q=>∃p ys,xs=[.ref p]/\(SqL X.K H p ys\/SqT X.K H p ys)/\Q (.int ys.length) H):=by
 intro pins s σ H xs us Q I r h
 obtain⟨p,ys,rfl,hq,q⟩:=h
 obtain⟨u,rfl,rx⟩:=a5L r
 cases rx
 have hn:=a3r
 rcases hq with hq|hq
 ·obtain⟨its,r',pl,hz⟩:=I.list hq
  have hlen:=r'.length
  exact Calls.call_len_list pl.isList (by simp only [An]<;>lia) ⟨.int ys.length,H,I.tok _,⟨s.toks+1,by rw [An,hlen]⟩,q⟩
 ·obtain⟨its,r',pl,hz⟩:=I.tuple hq
  have hlen:=r'.length
  exact len_tuple pl (by simp only [An]<;>lia) ⟨.int ys.length,H,I.tok _,⟨s.toks+1,by rw [An,hlen]⟩,q⟩
theorem a6N:L5 X (.builtin "len") (fun xs H Q=>∃z,xs=[.str z]/\z.length<=AQ/\Q (.int z.length) H):=by
 intro pins s σ H xs us Q I r h
 obtain⟨z,rfl,hz,q⟩:=h
 obtain⟨u,rfl,t,rfl⟩:=a5L r
 have hn:=a3r
 exact len_str (by lia) ⟨.int z.length,H,I.tok _,⟨_,rfl⟩,q⟩
theorem L5.or{f:AA}{r r':List V->Hp->VK->Prop}(h:L5 X f r)(h':L5 X f r'):L5 X f (fun xs H Q=>r xs H Q\/r' xs H Q):=by
 intro pins s σ H xs us Q I rs q
 rcases q with q|q
 ·exact h pins s σ H xs us Q I rs q
 ·exact h' pins s σ H xs us Q I rs q
def tyV(K:AD)(T:String)(x:V)(H:Hp):Prop:=match x with
 | .str _=>T="str"
 | .int _=>T="int"
 | .ref p=>(T="list"/\∃xs,SqL K H p xs)\/(T="tuple"/\∃o,K.lookup p=some o/\o.cls= .type "tuple"/\o.dict=none)\/
  (T="dict"/\((∃kvs,H p=some (.dK kvs))\/∃kvs,H p=some (.dT kvs)))\/(T="set"/\∃S n,H p=some (.set S n))
 |_=>False
theorem b6E{pins:List (AB×Obj)}{σ:St}{H:Hp}{s:AC}{T:String}{x:V}{v:AA}(I:j7 X pins σ H s)(r:t5 x v)(ty:tyV X.K T x H):
 s.TypeIs v T/\∀a,v= .ref a->∃ob,s.heap.get? a=some ob/\ob.dict=none:=by
 cases x with
 |str z=>
  obtain⟨t,rfl⟩:=r
  cases(show T="str" from ty)
  exact⟨typeIs_str s z t,fun _ e=>nomatch e⟩
 |int i=>
  obtain⟨t,rfl⟩:=r
  cases(show T="int" from ty)
  exact⟨typeIs_int s i t,fun _ e=>nomatch e⟩
 |ref p=>
  cases r
  rcases ty with⟨rfl,xs,hq⟩|⟨rfl,o,hk,hc,hd⟩|⟨rfl,hk⟩|⟨rfl,S,n,hk⟩
  ·obtain⟨its,_,pl,_⟩:=I.list hq
   refine⟨pl.isList.typeIs,fun a e=> ?_⟩
   cases e
   obtain⟨o,n,e,c,hd,_⟩:=pl
   exact⟨o,e,hd⟩
  ·refine⟨⟨o,I.kIn p o hk,hc⟩,fun a e=> ?_⟩
   cases e
   exact⟨o,I.kIn _ o hk,hd⟩
  ·have z:∃o,s.heap.get? p=some o/\o.ExactDict:=by
    rcases hk with⟨kvs,hk⟩|⟨kvs,hk⟩
    ·obtain⟨_,_,_,_,o,_,_,e,ex,_⟩:=I.hok p _ hk
     exact⟨o,e,ex⟩
    ·obtain⟨_,_,_,_,o,_,_,e,ex,_⟩:=I.hok p _ hk
     exact⟨o,e,ex⟩
   obtain⟨o,e,ex⟩:=z
   refine⟨⟨o,e,ex.1⟩,fun a e2=> ?_⟩
   cases e2
   exact⟨o,e,ex.2.1⟩
  ·obtain⟨o,_,_,_,e,ex,_⟩:=I.hok p _ hk
   refine⟨⟨o,e,ex.1⟩,fun a e2=> ?_⟩
   cases e2
   exact⟨o,e,ex.2.1⟩
 |_=>exact False.elim ty
def tBM(K:AD)(T:String)(r:V->List V->Hp->VK->Prop)(to:TE)(t:TA):TE:=fun σ H Q=>to σ H fun x H1=>tyV K T x H1/\t σ H1 fun xs H2=>r x xs H2 Q
variable {o e:AF}{es:List AF}{to:TE}{t:TA}{name:Str}{apos cpos:Pos}{T id:String}{r:V->List V->Hp->VK->Prop}
theorem a6t(pa:PlainAttrs T)(slot:Slot T name id)(hty:typeOf (.builtin id)=pure (.type "method_descriptor"))(hm:MtR X id r)(ho:PE X o to)(ha:PA X (e::es) t)
 (hbase:attributeBase o name X.env (eval o X.env)=eval o X.env:=by rfl)
 (hfew:((backTo cpos (AM (e::es) X.env)).all (fun x=> !x.1)&&(backToKw cpos (keywordEach [] X.env)).all (fun x=>x.1.isSome)
  && decide ((e::es).length+([]:List Keyword).length+(if([]:List Keyword).isEmpty then 0 else 1)<30))=true:=by rfl)
 (hline:(apos.endLine==cpos.line)=true:=by rfl) (hs:AM (e::es) X.env=(false,eval e X.env)::AM es X.env:=by rfl) (hplain:(backTo cpos (AM es X.env)).any (·.1)=false:=by rfl):
 PE X (.Call (.Attribute o name apos) (e::es) [] cpos) (tBM X.K T r to t):=by
 intro pins s σ H Q I h
 refine wpAny_Call_method_late hbase hfew hline rfl (L4 (ho pins s σ H _ I h) fun v s1 ⟨x,H1,I1,r1,ty,q1⟩=> ?_)
 obtain⟨h1,h2⟩:=b6E I1 r1 ty
 refine⟨T,id,pa,slot,hty,h1,h2, ?_⟩
 have hA:=ha cpos pins s1 σ H1 _ I1 q1
 rw [hs] at hA ⊢
 refine Calls.callWith_builtin (by show(false||(backTo cpos (AM es X.env)).any (·.1))=false;rw [hplain]<;>rfl) (Calls.evalArgs_plain ?_)
 exact L4 hA fun us s2 ⟨vs,H2,I2,r2,q2⟩=>hm pins s2 σ H2 x vs v us Q I2 r1 r2 q2
end
def MtM(X:Cx)(id:String)(r:V->List V->Hp->VK->Prop):Prop:=
 ∀(pins:List (AB×Obj)) (s:AC) (σ:St) (H:Hp) (x:V) (xs:List V) (v:AA) (us:List AA) (Q:VK),j7 X pins σ H s->t5 x v->m7 xs us->r x xs H Q->
  AH (model X.prog X.w) X.A (call (.builtin id) (v::us)) (EP X pins σ Q) X.xe s
theorem m7.one:∀{x:V} {us:List AA},m7 [x] us->∃u,us=[u]/\t5 x u
 |_,_,.cons r .nil=>⟨_,rfl,r⟩
theorem m7.zero:∀{us:List AA},m7 [] us->us=[]
 |_,.nil=>rfl
theorem m7.dropLast{xs:List V}{us:List AA}(h:m7 xs us):m7 xs.dropLast us.dropLast:=by
 induction h with
 |nil=>exact .nil
 |cons r t ih=>
  cases t with
  |nil=>exact .nil
  |cons q t'=>exact .cons r ih
theorem m7.reverse{xs:List V}{us:List AA}(h:m7 xs us):m7 xs.reverse us.reverse:=by
 induction h with
 |nil=>exact .nil
 |cons r t ih=>rw [List.reverse_cons,List.reverse_cons];exact m7.append ih (.cons r .nil)
theorem m7.rep{xs:List V}{us:List AA}(h:m7 xs us):∀k:Nat,m7 (Ab k xs).flatten (Ab k us).flatten
 |0=> .nil
 |k+1=>by
  rw [AZ,AZ,List.flatten_cons,List.flatten_cons]
  exact m7.append h (m7.rep h k)
theorem a3l(its:List AA):∀(k:Nat) (acc:List AA),
 List.foldl (fun x1 x2=>x1++x2) acc.toArray (Ab k its.toArray)=(acc++(Ab k its).flatten).toArray
 |0,acc=>by simp
 |k+1,acc=>by
  have e:acc.toArray++its.toArray=(acc++its).toArray:=by simp
  have e2:(acc++its)++(Ab k its).flatten=acc++(Ab (k+1) its).flatten:=by
   rw [AZ,List.flatten_cons,List.append_assoc]
  rw [<-e2,<-a3l its k (acc++its),<-e,AZ,List.foldl_cons]
section
variable {X:Cx}{pins:List (AB×Obj)}{σ:St}{H:Hp}{s:AC}{l b:AB}{xs ys zs:List V}
theorem j7.lset{its its':List AA}{n:Nat}{f:Array AA->Array AA}{t':Nat}(I:j7 X pins σ H s)(hH:H l=some (.lst xs))
 (e:s.heap.get? l=some {cls:= .type "list",data:= .seq its.toArray n}) (hf:f its.toArray=its'.toArray) (hv:m7 ys its') (hz:ys.length<=AQ):
 j7 X pins σ (upd H l (.lst ys)) {s with heap:=s.heap.update l (Obj.mapSeq f),toks:=t'}:=by
 have q:=PySem.IsL.update e f
 rw [hf] at q
 refine I.write (x:=l) (e:=l) (by rw [hH];exact trivial) (.inl rfl) (fun b' u hb hu=>(Heap.get?_update_other s.heap (Obj.mapSeq f) (Ne.symm hb)).trans hu) ⟨_,q⟩ ?_
 exact⟨hz,its',_,hv,q⟩
theorem j7.lnew{its:List AA}{t':Nat}(I:j7 X pins σ H s)(hv:m7 ys its)(hz:ys.length<=AQ):
 j7 X pins σ (upd H s.heap.objs.size (.lst ys)) {s with heap:=s.heap.push {cls:= .type "list",data:= .seq its.toArray},toks:=t'}:=
 I.laid (fun _ _ q=>Al _ q) (AW _) ⟨hz,its,0,hv,Aw _ rfl⟩
theorem j7.fresh(I:j7 X pins σ H s):H s.heap.objs.size=none:=I.hok.fresh (AW _)
theorem j7.lstM(I:j7 X pins σ H s)(hH:H l=some (.lst xs)):xs.length<=AQ/\∃(its:List AA) (n:Nat),m7 xs its/\xs.length=its.length/\s.heap.get? l=some {cls:= .type "list",data:= .seq its.toArray n}:=by
 obtain⟨z,its,n,r,e⟩:=I.hok l _ hH
 exact⟨z,its,n,r,r.length,e⟩
theorem b2g{n:Nat}(h:n<=AQ):Builtin.List.listTooLong n=false:=by
 unfold Builtin.List.listTooLong
 exact decide_eq_false (by lia)
end
section
variable {X:Cx}
def b4h:V->List V->Hp->VK->Prop:=fun x vs H Q=>∃l xs y,x= .ref l/\vs=[y]/\H l=some (.lst xs)/\xs.length<AQ/\Q .non (upd H l (.lst (xs++[y])))
theorem a6l:MtM X "list.append" b4h:=by
 intro pins s σ H x vs v us Q I rx rv h
 obtain⟨l,xs,y,rfl,rfl,hH,hz,q⟩:=h
 cases rx
 obtain⟨u,rfl,ru⟩:=rv.one
 obtain⟨z,its,n,r,hl,e⟩:=I.lstM hH
 refine call_meets F.slot_list_append ⟨_,e,rfl⟩ F.entry_list_append (F.args_list_append_2 _ _) (PySem.list_append l its.toArray n u (by rw [An];lia)) ⟨e, ?_⟩
 refine⟨.non,_,I.lset (its':=its++[u]) hH e (by simp) (r.append (.cons ru .nil)) ?_,rfl,q⟩
 rw [Aa,List.length_singleton]
 lia
def b73:R2:=fun x y H Q=>∃l b xs zs,x= .ref l/\y= .ref b/\H l=some (.lst xs)/\H b=some (.lst zs)/\xs.length+zs.length<=AQ/\∀p,H p=none->Q (.ref p) (upd H p (.lst (xs++zs)))
theorem b55:OpR X (binaryOp .Add) b73:=by
 intro pins s σ H x y v u Q I rx ry h
 obtain⟨l,b,xs,zs,rfl,rfl,hH,hB,hz,q⟩:=h
 cases rx
 cases ry
 obtain⟨z,its,n,r,hl,e⟩:=I.lstM hH
 obtain⟨z2,its2,n2,r2,hl2,e2⟩:=I.lstM hB
 refine PySem.P.add_list e e2 ?_ (by rw [An,An];lia)
 have ea:its.toArray++its2.toArray=(its++its2).toArray:=by simp
 rw [ea]
 exact⟨.ref _,_,I.lnew (t':=s.toks) (r.append r2) (by rw [Aa];lia),rfl,q _ I.fresh⟩
def b77:R2:=fun x y H Q=>∃l k xs,x= .ref l/\y= .int k/\H l=some (.lst xs)/\ -(2 ^ 63)<=k/\k<2 ^ 63/\xs.length*k.toNat<=AQ/\
 ∀p,H p=none->Q (.ref p) (upd H p (.lst (Ab k.toNat xs).flatten))
theorem a67{α:Type}(xs:List α)(k:Nat):(Ab k xs).flatten.length=k*xs.length:=by
 induction k with
 |zero=>simp
 |succ k ih=>rw [AZ,List.flatten_cons,Aa,ih,Nat.succ_mul,Nat.add_comm]
theorem b59:OpR X (binaryOp .Mult) b77:=by
 intro pins s σ H x y v u Q I rx ry h
 obtain⟨l,k,xs,rfl,rfl,hH,h1,h2,hz,q⟩:=h
 cases rx
 obtain⟨t,rfl⟩:=ry
 obtain⟨z,its,n,r,hl,e⟩:=I.lstM hH
 have hlen:its.toArray.size*k.toNat<=AQ:=by rw [An,<-hl];exact hz
 have hcap:¬its.toArray.size*k.toNat>(2 ^ 63 - 1)/ 8:=by
  have:(AQ:Nat)<=(2 ^ 63 - 1)/ 8:=by decide
  lia
 have hfit:¬(!Builtin.List.listFitsIndex k)=true:=by
  rw [fitsIndex_both h1 h2]
  exact Aj
 have hlong:¬Builtin.List.listTooLong (its.toArray.size*k.toNat)=true:=by
  rw [b2g hlen]
  exact Aj
 have hnew:List.foldl (fun x1 x2=>x1++x2) #[] (Ab (if its.toArray.isEmpty=true then 0 else k.toNat) its.toArray)=(Ab k.toNat its).flatten.toArray:=by
  have f0:∀m:Nat,List.foldl (fun x1 x2=>x1++x2) #[] (Ab m its.toArray)=(Ab m its).flatten.toArray:=fun m=>by
   have:=a3l its m []
   rw [AR] at this
   exact this
  rw [f0]
  cases its with
  |nil=>simp
  |cons a r'=>rw [if_neg (by simp)]
 refine wpAny_binaryOp_repeat_ref (T:="list") (U:="int") (by decide) ⟨_,e,rfl⟩ (fun s'=>typeIs_int s' k t) noFill_list_mul F.fills_int_mul F.slot_int_rmul repeat_list F.slot_int_index.lookup
  (call_meets F.slot_int_rmul (typeIs_int s k t) F.entry_int_rmul (F.args_int_rmul_2 _ _) (int___rmul___int_list k t l its.toArray n)
   ⟨e,rfl,⟨_,e,rfl⟩,call_meets F.slot_list_mul ⟨_,e,rfl⟩ F.entry_list_mul (F.args_list_mul_2 _ _) (AutoListH.list___mul___list_int_3 l its.toArray n k t hfit hcap hlong) ⟨e, ?_⟩⟩)
 rw [hnew]
 exact⟨.ref _,_,I.lnew (t':=s.toks) (r.rep k.toNat) (by rw [a67,Nat.mul_comm];exact hz),rfl,q _ I.fresh⟩
end
section
variable {prog:AK}{w:AI}{A:AJ}{E:AA->AC->Prop}{s:AC}
end
section
variable {X:Cx}
end
end L2
namespace Att
open PySem PySem.W PySem.Calls PyProof.Rows
theorem a39{P:Params}{h:Heap}:∀(ns:List Int) (vs:List AA),WellAll P h vs (ns.map WData.int)->IntsAre vs ns:=by
 intro ns
 induction ns with
 |nil=>
  intro vs w
  rw [AT] at w
  cases w
  exact .nil
 |cons n ns ih=>
  intro vs w
  rw [AL] at w
  cases w with
  |cons a b=>
   cases a
   exact .cons _ _ (ih _ b)
theorem b05{l:OpenLaw}{n:Nat}(hn:l.most=some n){P:Params}{h:Heap}{args:List WData}{vals:List AA}
 (hpre:l.row.toRowW.claim.pre args=true) (hwl:WellAll P h vals args):
 ∃a vs ns,vals=[Value.ref a]/\args=[WData.list (ns.map WData.int)]/\h.get? a=some {cls:= .type "list",data:= .seq vs.toArray}/\IntsAre vs ns/\ns.length<=n:=by
 have hsh:WShape.hasAll [] args [.list .int]=true:=(pre_splitW hpre).1
 have hc:l.pre.holds [] {args:=args}=true:=(pre_splitW hpre).2
 obtain⟨d,r,rfl,h1,h2⟩:=hasAllW_cons hsh
 obtain rfl:=hasAllW_nil h2
 obtain⟨xs,rfl,h3⟩:=hasW_list h1
 obtain⟨ns,rfl⟩:=items_int h3
 have hlen:ns.length<=n:=by
  unfold OpenLaw.pre at hc
  have h4:(WTm.not (.lt (.lit (.int (n:Int))) (.len (.arg 0)))).holds [] {args:=[.list (ns.map .int)]}=true:=by
   have h4:=(holds_andW hc).1
   rw [hn] at h4
   exact h4
  have h5:=condW_of h4 (w_not (w_lt w_lit (w_len_list (w_arg rfl))))
  rw [Ak] at h5
  refine Nat.le_of_not_lt fun q=> ?_
  have q':(n:Int)<((ns.length:Nat):Int):=by lia
  first
   |(rw [decide_eq_true q'] at h5;exact absurd h5 (by decide))
   |(simp at h5;lia)
 cases hwl with
 |cons w1 w2=>
  cases w2
  cases w1 with
  |list ho hall=>exact⟨_,_,ns,rfl,rfl,ho,a39 ns _ hall,hlen⟩
theorem b02(l:OpenLaw)(args:List WData):l.row.toRowW.claim.post args (.bool true) args=true:=
 postW_of (r:=l.row.toRowW) (X:=(true==true))
  (show WShape.has [] (.bool true) .bool=true by first|rfl|decide|simp [WShape.has,WShape.arms,WShape.armsAll])
  (show(WTm.eq .res (.lit (.bool true))).value [] {args:=args,res:=some (.bool true),after:=args}=some (.bool (true==true)) from w_eq_bool (w_res rfl) w_lit) rfl
theorem attach_call{l:OpenLaw}{n:Nat}{q:AK}{loose:List Str}{XP:(Str->Option AA)->Heap->Prop}{YP:AI->Heap->Prop}{d:DefRec}
 (hn:l.most=some n) (hdf:d.params.defaults=[])
 (call:∀(w:AI) (s₀ s₁:AC) (mg mb:Str->Option AA) (fa:AB) (o:Obj) (pm cd doc:AA) (a:AB) (vs:List AA) (ns:List Int),
  Ground q loose [] XP w s₀ mg mb s₁.heap->YP w s₁.heap->
  s₁.heap.get? fa=some o->o.data= .func (docDef d.name d.params d.body d.scope pm cd doc)->s₁.heap.CodeRec cd d.name->mg d.name=some (.ref fa)->
  s₁.heap.get? a=some {cls:= .type "list",data:= .seq vs.toArray}->IntsAre vs ns->ns.length<=n->s₁.gens= #[]->
  codeAny (model l.prog w) callerA (.call (.ref fa) ⟨[.ref a],[]⟩) (fun r s'=>r= .ok (.ret (.bool true))/\OldK s₁.heap s'.heap/\s'.os=s₁.os/\AllBare s'.gens) s₁):
 WalkO q loose XP YP l.row.toRowW d [] (fun f vs=>PySem.call f vs):=by
 intro w s₀ s₁ mg mb G Y fa o pm cd doc dV kV ho hd hcd hD hmg hg args vals as hpre hlay hrd hwl hlo
 obtain rfl:dV= .none:=Dflts.none hD hdf
 obtain rfl:kV= .none:=Dflts.noKw hD
 obtain⟨a,vs,ns,rfl,rfl,hobj,hints,hlen⟩:=b05 hn hpre hwl
 refine enter_call (codeAny_mono (call w s₀ s₁ mg mb fa o pm cd doc a vs ns G Y ho (fd_plain hd) hcd hmg hobj hints hlen hg) fun r s' hq=> ?_)
 obtain⟨rfl,h2,h3,h4⟩:=hq
 exact⟨.inl ⟨.bool true,.bool true,[],rfl,fun _=>rfl,.bool true,b02 l _,fun _=>⟨List.Pairwise.nil,fun _ hm=>(nomatch hm)⟩⟩,h2,h3,h4⟩
section
variable {prog:AK}{w:AI}{A:AJ}{E:AA->AC->Prop}{s:AC}{K:Frag}
end
end Att
namespace L2
open PySem PySem.Spec PyProof.Rows
theorem a6D:∀{vs:List AA} {ns:List Int},IntsAre vs ns->m7 (ns.map V.int) vs
 |_,_,.nil=> .nil
 |_,_,.cons n t h=> .cons ⟨t,rfl⟩ (a6D h)
def b5i(H:Hp):Prop:=∀b,H b=none\/∃o xs,H b=some (.frz o (.lst xs))
theorem b14{P:AK}{w:AI}{K:AD}{mg mb:Str->Option AA}{CX:CXT}{k:Nat}{fa a:AB}{fd:FuncData}{x:Str}{sp:Sp}{s₁:AC}{vs:List AA}{ns:List Int}
 (KX:K.In s₁.heap) (hns:s₁.heap.Ns mainGlobals mg) (hb:s₁.heap.Ns builtinsNs mb) (hbb:∀x:Str,x≠"__name__"->mb x=bootBuiltins x) (hlim:s₁.heap.NoLimit) (hg:s₁.gens= #[])
 (ha:s₁.heap.get? a=some {cls:= .type "list",data:= .seq vs.toArray}) (hi:IntsAre vs ns) (hl:ns.length<=AQ) (hr:J3 k callerA)
 (F:∀base:Heap,K.In base->base.Ns mainGlobals mg->R3 P w K mg base CX k fa fd [x] sp) (hbind:∀(s:AC) (u:AA),BindsTo s fd ⟨[u],[]⟩ [(x,u)])
 (hsp:∀H:Hp,b5i H->SqL K H a (ns.map V.int)->sp [.ref a] H (fun v _=>v= .bl true) fun _ _ _=>False)
 (hCX:∀H e s',CX [] H s₁ (fun _ _ _=>False) e s'->False):
 codeAny (model P w) callerA (.call (.ref fa) ⟨[.ref a],[]⟩) (fun r s'=>r= .ok (.ret (.bool true))/\OldK s₁.heap s'.heap/\s'.os=s₁.os/\AllBare s'.gens) s₁:=by
 have rv:=a6D hi
 have lenV:=hi.length
 have core:∀H:Hp,b5i H->SqL K H a (ns.map V.int)->HOk P w H s₁.heap->(∀b,H b≠none->b=a)->(H a≠none->K.lookup a=none)->
  codeAny (model P w) callerA (.call (.ref fa) ⟨[.ref a],[]⟩) (fun r s'=>r= .ok (.ret (.bool true))/\OldK s₁.heap s'.heap/\s'.os=s₁.os/\AllBare s'.gens) s₁:=by
  intro H hO hS hok hA hK
  have base_of:∀{b:AB} {o:Obj},s₁.heap.get? b=some o->H b=none->(a6Z s₁.heap H).get? b=some o:=fun e n=>b1V e n
  have noA:∀{b:AB} {o:Obj} {es:Array DictEntry} {ep:Nat},s₁.heap.get? b=some o->o.data= .dict es ep->H b=none:=fun {b o es ep} e d=>by
   cases q:H b with
   |none=>rfl
   |some u=>
    have e':b=a:=hA b (by rw [q];simp)
    subst e'
    rw [ha] at e;cases e
    have d':Data.seq vs.toArray _=Data.dict es ep:=d
    cases d'
  have nsK:∀{b:AB} {m:Str->Option AA},s₁.heap.Ns b m->(a6Z s₁.heap H).Ns b m:=fun {b m} ⟨o,es,ep,e,d,r⟩=>⟨o,es,ep,base_of e (noA e d),d,r⟩
  have hKb:K.In (a6Z s₁.heap H):=fun b o e=>base_of (KX b o e) (by
   cases q:H b with
   |none=>rfl
   |some u=>
    have e':b=a:=hA b (by rw [q];simp)
    subst e'
    rw [hK (by rw [q];simp)] at e;cases e)
  have hM:Mod K mg (a6Z s₁.heap H):=⟨hKb,nsK hns,⟨mb,nsK hb,hbb⟩,let ⟨mc,h1,h2⟩:=hlim;⟨mc,nsK h1,h2⟩⟩
  have e0:a8M P w K mg (a6Z s₁.heap H) callerA [] s₁ H:=⟨rfl,hM,fun b o e=>b3Y e,Nat.le_of_eq (b0K _ _),trivial,fun b hb=>absurd (show b∈([]:List AB) from hb) (by simp),hok,.of_eq hg⟩
  refine codeAny_mono ((F _ hKb (nsK hns)).run callerA [] s₁ H ⟨[.ref a],[]⟩ [.ref a] [.ref a] _ _ hr e0 (hbind s₁ (.ref a)) (.cons rfl .nil) (hsp H hO hS)) fun r s' h=> ?_
  cases r with
  |error e=>exact(hCX H e s' h).elim
  |ok fl=>
   cases fl with
   |next=>exact False.elim h
   |brk=>exact False.elim h
   |cont=>exact False.elim h
   |ret u=>
    obtain⟨v,H',os,bare,un,hok',r',q⟩:=h
    have q':v= .bl true:=q
    subst q'
    obtain rfl:u=Value.bool true:=r'
    refine⟨rfl,OldK.of_keep fun b o e=> ?_,os,bare⟩
    cases q:H b with
    |none=>exact un.keep b o e q (by intro z;exact absurd (show b∈([]:List AB) from z) (by simp)) (by simp)
    |some u=>
     rcases hO b with z|⟨ob,xs,z⟩
     ·rw [q] at z;cases z
     ·have z2:=un.frzs b ob _ z
      obtain⟨e1,_⟩:=hok b _ z
      obtain⟨e2,_⟩:=hok' b _ z2
      rw [e] at e1;cases e1
      exact e2
 cases hk:K.lookup a with
 |some o=>
  have e:=KX a o hk
  rw [ha] at e
  cases e
  refine core (fun _=>none) (fun _=> .inl rfl) (.inr ⟨_,vs.toArray,_,hk,rfl,rfl,rfl,by rw [An,lenV];exact hl,by simpa using rv⟩) (fun b u z=>by have z':(none:Option HO)=some u:=z;cases z') (fun b z=>absurd rfl z) fun z=>absurd rfl z
 |none=>
  refine core (fun b=>if b=a then some (.frz {cls:= .type "list",data:= .seq vs.toArray} (.lst (ns.map V.int))) else none) (fun b=> ?_) (.inl (.inr ⟨{cls:= .type "list",data:= .seq vs.toArray},if_pos rfl⟩)) (fun b u z=> ?_) (fun b z=> ?_) fun _=>hk
  ·by_cases hb:b=a
   ·exact .inr ⟨_,_,if_pos hb⟩
   ·exact .inl (if_neg hb)
  ·by_cases hb:b=a
   ·have z':=(if_pos hb).symm.trans z
    cases z'
    subst hb
    exact⟨ha,by rw [Ak];exact hl,vs,_,rv,ha⟩
   ·have z':=(if_neg hb).symm.trans z
    cases z'
  ·by_cases hb:b=a
   ·exact hb
   ·exact absurd (if_neg hb) z
theorem b4H{l:PySem.W.OpenLaw}{n k:Nat}{q:AK}{loose:List Str}{XP:(Str->Option AA)->Heap->Prop}{YP:AI->Heap->Prop}{d:DefRec}{K:Params->AD}{CX:AI->CXT}{sp:AI->Sp}{x:Str}
 (hn:l.most=some n) (hn2:n<=AQ) (hdf:d.params.defaults=[]) (hr:J3 k callerA)
 (hY:∀(w:AI) (h:Heap),YP w h->(K w.params).In h)
 (F:∀(w:AI) (mg:Str->Option AA) (fa:AB) (h:Heap),(K w.params).In h->h.Ns mainGlobals mg->mg d.name=some (.ref fa)->
  ∃fd:FuncData,(∀(s:AC) (u:AA),BindsTo s fd ⟨[u],[]⟩ [(x,u)])/\
   ∀base:Heap,(K w.params).In base->base.Ns mainGlobals mg->R3 l.prog w (K w.params) mg base (CX w) k fa fd [x] (sp w))
 (hsp:∀(w:AI) (H:Hp) (a:AB) (ns:List Int),ns.length<=n->b5i H->SqL (K w.params) H a (ns.map V.int)->sp w [.ref a] H (fun v _=>v= .bl true) fun _ _ _=>False)
 (hCX:∀(w:AI) (H:Hp) (s:AC) (e:AA) (s':AC),CX w [] H s (fun _ _ _=>False) e s'->False):
 PySem.W.WalkO q loose XP YP l.row.toRowW d [] (fun f vs=>PySem.call f vs):=by
 refine Att.attach_call hn hdf fun w s₀ s₁ mg mb fa o pm cd doc a vs ns G Y ho hd hcd hmg hobj hints hlen hg=> ?_
 have KX:=hY w _ Y
 obtain⟨fd,hb,hF⟩:=F w mg fa _ KX G.T.g hmg
 exact b14 KX G.T.g G.T.b G.T.builtins G.T.nolimit hg hobj hints (Nat.le_trans hlen hn2) hr hF hb (fun H hO hS=>hsp w H a ns hlen hO hS) fun H e s'=>hCX w H s₁ e s'
def Q5(s:Stmt):Arguments:=match s with
 | .FunctionDef _ a _ _ _ _ _ _ _ _=>a
 |_=>{posonlyargs:=[],args:=[],vararg:=none,kwonlyargs:=[],kw_defaults:=[],kwarg:=none,defaults:=[]}
def D0(s:Stmt):List Stmt:=match s with
 | .FunctionDef _ _ b _ _ _ _ _ _ _=>b
 |_=>[]
def i4(s:Stmt):Scope:=match s with
 | .FunctionDef _ _ _ _ _ _ sc _ _ _=>sc
 |_=>{kind:= .function,names:=[],isGenerator:=false,isCoroutine:=false}
abbrev CX0:CXT:=fun _ _ _ _ _ _=>False
abbrev E0:XK:=fun _ _ _=>False
theorem b46{X:Cx}:a6H CX0 X E0:=fun _ _ _ _ _ _ _ h=>h.elim
structure Fun(K:AD)(x qual:Str)(st:Stmt)(f:AB)(fd:FuncData):Prop where
 ex:∃(oc:AA) (od:Option AB) (kV doc pm:AA) (an:Option AB) (cdv ct:AA) (osl:Array (Option AA)),
  fd=PySem.W.fnOf x qual (Q5 st) (D0 st) (i4 st) .none kV doc pm an cdv ct/\K.lookup f=some ⟨oc,od,.func fd,osl⟩/\PySem.W.codeIn K cdv qual=true
 kp:PySem.W.keepIn K (.ref f)=true
section
variable {P:AK}{w:AI}{K:AD}{mg:Str->Option AA}{base:Heap}
theorem Fun.ok{x qual:Str}{st:Stmt}{f:AB}{fd:FuncData}{N ps:List Str}{k:Nat}{sp:Sp}(F:Fun K x qual st f fd)(S:m5 N ps (i4 st))(len:∀vs H Q E,sp vs H Q E->vs.length=ps.length)
 (hbody:∀(cdv:AA) (A:AJ) (outer:List Env) (s:AC) (H:Hp) (vs:List V) (Q:VK) (E:XK),J3 k (A.deeper (envOfC qual (i4 st) s.heap.objs.size f cdv))->sp vs H Q E->
  ∃t,PSs (a19 CX0 P w K mg base N qual (i4 st) f cdv A outer s H E).nox (D0 st) t/\t {nx:=fun _ H'=>Q .non H',rt:=Q} (a13 N vs) H):R3 P w K mg base CX0 (k+1) f fd ps sp:=by
 obtain⟨oc,od,kV,doc,pm,an,cdv,ct,osl,rfl,lk,hcd⟩:=F.ex
 refine b4Y lk hcd S len fun A outer s H vs Q E hr hsp=> ?_
 obtain⟨t,h,q⟩:=hbody cdv A outer s H vs Q E hr hsp
 exact⟨t,h.nox,q⟩
theorem Fun.binds{x qual:Str}{st:Stmt}{f:AB}{fd:FuncData}{ps:List Str}(F:Fun K x qual st f fd)
 (h:∀(kV doc pm:AA) (an:Option AB) (cdv ct:AA) (us:List AA),us.length=ps.length->bindArgs (PySem.W.fnOf x qual (Q5 st) (D0 st) (i4 st) .none kV doc pm an cdv ct) ⟨us,[]⟩=pure (ps.zip us)):a0I K fd ps []:=by
 obtain⟨oc,od,kV,doc,pm,an,cdv,ct,osl,rfl,lk,hcd⟩:=F.ex
 exact .all (h kV doc pm an cdv ct)
theorem b1M{x qual:Str}{st:Stmt}{f:AB}{oc:AA}{od an:Option AB}{osl:Array (Option AA)}{kV doc pm cdv ct:AA}(l:K.lookup f=some ⟨oc,od,.func (PySem.W.fnOf x qual (Q5 st) (D0 st) (i4 st) .none kV doc pm an cdv ct),osl⟩)
 (c:PySem.W.codeIn K cdv qual=true) (k:PySem.W.keepIn K (.ref f)=true):Fun K x qual st f (PySem.W.fnOf x qual (Q5 st) (D0 st) (i4 st) .none kV doc pm an cdv ct):=⟨⟨oc,od,kV,doc,pm,an,cdv,ct,osl,rfl,l,c⟩,k⟩
end
theorem b06{n:Nat}(h:n<=1000):n<AQ:=Nat.lt_of_le_of_lt h (by decide)
section
variable {X:Cx}
theorem pv(i:Nat){x:Str}{pos:Pos}(hN:X.N[i]?=some x:=by rfl)(hv:Vis X.env.scope x:=by first|exact Or.inl rfl|exact Or.inr (Or.inl rfl)|exact Or.inr (Or.inr rfl))(hd:(x==("__debug__":Str))=false:=by decide)
 (hcd:(x==("__classdict__":Str))=false:=by decide):PE X (.Name x pos) (b1a i):=b6j hN hv hd hcd
end
theorem a63{A B:Prop}(h:B):if false=true then A else B:=by
 rw [if_neg Aj]
 exact h
theorem a64{A B:Prop}(h:A):if true=true then A else B:=by
 rw [if_pos rfl]
 exact h
def l7(H H':Hp):Prop:=∀b o,H b=some o->H' b=some o
theorem l7.refl(H:Hp):l7 H H:=fun _ _ h=>h
theorem l7.trans{H H1 H2:Hp}(a:l7 H H1)(b:l7 H1 H2):l7 H H2:=fun c o h=>b c o (a c o h)
theorem l7.free{H H':Hp}(e:l7 H H'){l:AB}(h:H' l=Option.none):H l=Option.none:=by
 cases q:H l with
 |none=>rfl
 |some o=>
  rw [e l o q] at h
  cases h
theorem l7.seq{K:AD}{H H':Hp}{a:AB}{xs:List V}(e:l7 H H')(h:SqL K H a xs):SqL K H' a xs:=by
 rcases h with(h|⟨o,h⟩)|h
 ·exact .inl (.inl (e _ _ h))
 ·exact .inl (.inr ⟨o,e _ _ h⟩)
 ·exact .inr h
section
variable (P:AK)(w:AI)
end
section
variable {P:AK}{w:AI}{H H':Hp}{h h':Heap}{a:AB}{o:HO}
end
section
variable {P:AK}{w:AI}{H:Hp}{h h':Heap}{x e:AB}{o':HO}
end
section
variable {fs fs' ex ex':List AB}{H H1 H2:Hp}{h h1 h2 h':Heap}{a x e:AB}{o:HO}
end
section
variable {X:Cx}{pins:List (AB×Obj)}{σ:List (Option V)}{H H':Hp}{s:AC}{h':Heap}
end
section
variable {X:Cx}
variable {a b:AF}{ta tb:TE}{pos:Pos}
variable {tA tB':TT}{u9:List AF}
end
section
variable {X:Cx}{pins:List (AB×Obj)}{σ:St}{H:Hp}{s:AC}{a:AB}{xs ys:List V}
end
section
variable {X:Cx}{pins:List (AB×Obj)}{σ:St}{H:Hp}{s:AC}{E:AA->AC->Prop}
end
section
variable {X:Cx}{st:Stmt}{u9:List Stmt}{t u:TS}{e:AF}{te:TE}{pos:Pos}
end
section
variable {X:Cx}{pos:Pos}
end
section
variable {X:Cx}{pos:Pos}
end
section
variable {X:Cx}{tg:AF}
end
section
variable {X:Cx}{a b c:AF}{ta tb tc:TE}{pos:Pos}
end
section
variable {X:Cx}{a b c:AF}{ta tb tc:TE}{pos:Pos}
end
section
variable {prog:AK}{w:AI}{A:AJ}{E:AA->AC->Prop}{s:AC}{K:AD}{x dx C f:AB}{mA:Str->Option AA}{name:Str}{v:AA}
end
section
variable {P:AK}{w:AI}{H H':Hp}{h h':Heap}{a C dx:AB}{fs fs':List (Str×V)}
end
section
variable {X:Cx}{pins:List (AB×Obj)}{σ:St}{H:Hp}{s:AC}{a C dx:AB}{fs:List (Str×V)}{f:Str}{v:V}{A:AJ}{E:AA->AC->Prop}
end
section
variable {X:Cx}{o e value:AF}{f:Str}{pos pos' tpos:Pos}{ta tv:TE}
end
section
variable {X:Cx}{pins:List (AB×Obj)}{σ:St}{H:Hp}{s:AC}{A:AJ}{E:AA->AC->Prop}{Q:AA->AC->Prop}{c:AA}{b:Bool}
end
section
variable {X:Cx}{e:AF}{es:List AF}{te:TE}{t:TA}{pos:Pos}
end
section
variable {X:Cx}{pins:List (AB×Obj)}{σ:St}{H:Hp}{s s':AC}
end
section
variable {X:Cx}{CX:CXT}{k:Nat}{f C:AB}{fd:FuncData}{ps:List Str}{sp:Sp}{dvs:List V}{ds:List AA}{E:XK}{x m:Str}{p pos apos:Pos}{e o:AF}{es:List AF}{ta:TE}{t:TA}
end
section
variable {X:Cx}{CX:CXT}{k:Nat}{f C:AB}{fd:FuncData}{ps ks:List Str}{sp:Sp}{E:XK}{x m:Str}{p pos apos kpos:Pos}{e o:AF}{es:List AF}{kws:List Keyword}{te ta:TE}{t tk:TA}{nm:Option Str}
variable {g:List AA->List AA->List AA}{gV:List V->List V->List V}
end
section
variable {X:Cx}{x:Str}{p pos:Pos}{e:AF}{es:List AF}{t:TA}{id T:String}{r:List V->Hp->VK->Prop}
end
section
variable {κ:Type}[DecidableEq κ]
def a0S(kvs:List (κ×V))(k:κ):Option V:=(kvs.find? fun kv=>decide (kv.1=k)).map (·.2)
def a51(kvs:List (κ×V))(k:κ)(v:V):List (κ×V):=
 if(kvs.any fun kv=>decide (kv.1=k))=true then kvs.map (fun kv=>if kv.1=k then(kv.1,v) else kv) else kvs++[(k,v)]
def b4Q(kvs:List (κ×V))(k:κ):List (κ×V):=kvs.filter fun kv=>decide (kv.1≠k)
theorem a26{p:κ×V}{r:List (κ×V)}{k:κ}(e:p.1=k):a0S (p::r) k=some p.2:=by simp [a0S,List.find?_cons,e]
theorem a25{p:κ×V}{r:List (κ×V)}{k:κ}(e:¬p.1=k):a0S (p::r) k=a0S r k:=by simp [a0S,List.find?_cons,e]
theorem a8G(k:κ):∀kvs:List (κ×V),(kvs.any fun kv=>decide (kv.1=k))=(a0S kvs k).isSome
 |[]=>rfl
 |p::r=>by
  rw [List.any_cons]
  by_cases e:p.1=k
  ·simp only [a26 e,decide_eq_true e,Bool.true_or,Option.isSome_some]
  ·rw [a25 e,decide_eq_false e,Bool.false_or];exact a8G k r
theorem a4z.isSome_eq{o:Option V}{u:Option AA}(r:a4z o u):o.isSome=u.isSome:=by
 cases o with
 |none=>cases u with
  |none=>rfl
  |some _=>exact(show False from r).elim
 |some _=>cases u with
  |none=>exact(show False from r).elim
  |some _=>rfl
theorem a4z.getD{o:Option V}{u:Option AA}{d:V}{d':AA}(r:a4z o u)(rd:t5 d d'):t5 (o.getD d) (u.getD d'):=by
 cases o with
 |none=>cases u with
  |none=>exact rd
  |some _=>exact(show False from r).elim
 |some _=>cases u with
  |none=>exact(show False from r).elim
  |some _=>exact r
theorem KV.val{kvs:List (κ×V)}{vs:List (κ×AA)}(r:KV kvs vs)(k:κ):a4z (a0S kvs k) (valueAt vs k):=by
 unfold KV at r
 induction r with
 |nil=>exact True.intro
 | @cons p q ps qs h t ih=>
   obtain⟨h1,h2⟩:=h
   by_cases e:p.1=k
   ·have e':q.1=k:=h1.symm.trans e
    have b:valueAt (q::qs) k=some q.2:=by simp [valueAt,List.find?_cons,e']
    rw [a26 e,b];exact h2
   ·have e':¬q.1=k:=fun z=>e (h1.trans z)
    have b:valueAt (q::qs) k=valueAt qs k:=by simp [valueAt,List.find?_cons,e']
    rw [a25 e,b];exact ih
theorem KV.any{kvs:List (κ×V)}{vs:List (κ×AA)}(r:KV kvs vs)(k:κ):(kvs.any fun kv=>decide (kv.1=k))=vs.any fun kv=>decide (kv.1=k):=by
 unfold KV at r
 induction r with
 |nil=>rfl
 |cons h t ih=>rw [List.any_cons,List.any_cons,ih,h.1]
theorem KV.repl{kvs:List (κ×V)}{vs:List (κ×AA)}(r:KV kvs vs)(k:κ){y:V}{u:AA}(ry:t5 y u):
 KV (kvs.map fun kv=>if kv.1=k then(kv.1,y) else kv) (vs.map fun kv=>if kv.1=k then(kv.1,u) else kv):=by
 unfold KV at r ⊢
 induction r with
 |nil=>exact .nil
 | @cons p q ps qs h t ih=>
   rw [AL,AL]
   refine .cons ?_ ih
   obtain⟨h1,h2⟩:=h
   by_cases e:p.1=k
   ·rw [if_pos e,if_pos (h1.symm.trans e)];exact⟨h1,ry⟩
   ·rw [if_neg e,if_neg (fun z=>e (h1.trans z))];exact⟨h1,h2⟩
theorem KV.put{kvs:List (κ×V)}{vs:List (κ×AA)}(r:KV kvs vs)(k:κ){y:V}{u:AA}(ry:t5 y u):KV (a51 kvs k y) (stored vs k u):=by
 unfold a51 stored
 rw [r.any k]
 by_cases e:(vs.any fun kv=>decide (kv.1=k))=true
 ·rw [if_pos e,if_pos e];exact r.repl k ry
 ·rw [if_neg e,if_neg e];exact Paired.snoc r ⟨rfl,ry⟩
theorem KV.drop{kvs:List (κ×V)}{vs:List (κ×AA)}(r:KV kvs vs)(k:κ):KV (b4Q kvs k) (without vs k):=by
 unfold KV at r ⊢
 unfold b4Q without
 induction r with
 |nil=>exact .nil
 | @cons p q ps qs h t ih=>
   obtain⟨h1,h2⟩:=h
   rw [List.filter_cons,List.filter_cons]
   by_cases e:p.1=k
   ·have a:¬decide (p.1≠k)=true:=by simp [e]
    have b:¬decide (q.1≠k)=true:=by simp [h1.symm.trans e]
    rw [if_neg a,if_neg b];exact ih
   ·have e':¬q.1=k:=fun z=>e (h1.trans z)
    have a:decide (p.1≠k)=true:=by simp [e]
    have b:decide (q.1≠k)=true:=by simp [e']
    rw [if_pos a,if_pos b];exact .cons ⟨h1,h2⟩ ih
theorem KV.length{kvs:List (κ×V)}{vs:List (κ×AA)}(r:KV kvs vs):kvs.length=vs.length:=Paired.length r
end
theorem a9c{a b:u7}(e:kV a=kV b):a=b:=by
 cases a with
 |inl i=>cases b with
  |inl j=>have e':V.int i=V.int j:=e;injection e' with e';rw [e']
  |inr y=>exact nomatch (show V.int i=V.str y from e)
 |inr x=>cases b with
  |inl j=>exact nomatch (show V.str x=V.int j from e)
  |inr y=>have e':V.str x=V.str y:=e;injection e' with e';rw [e']
theorem a4r:∀{a b:List u7},a.map kV=b.map kV->a=b
 |[],[],_=>rfl
 |[],_::_,e=>by simp at e
 |_::_,[],e=>by simp at e
 |x::xs,y::ys,e=>by
  rw [AL,AL] at e
  injection e with e1 e2
  rw [a9c e1,a4r e2]
abbrev KT(H:Hp):List (List u7×V)->List (List u7×AB×AA)->Prop:=Paired fun p q=>p.1=q.1/\H q.2.1=some (.tup (p.1.map kV))/\t5 p.2 q.2.2
theorem KT.val{H:Hp}{kvs:List (List u7×V)}{xs:List (List u7×AB×AA)}(r:KT H kvs xs)(k:List u7):a4z (a0S kvs k) ((atKey xs k).map (·.2)):=by
 induction r with
 |nil=>exact True.intro
 | @cons p q ps qs h t ih=>
   obtain⟨h1,_,h2⟩:=h
   by_cases e:p.1=k
   ·have e':q.1=k:=h1.symm.trans e
    have b:atKey (q::qs) k=some q.2:=by simp [atKey,List.find?_cons,e']
    rw [a26 e,b];exact h2
   ·have e':¬q.1=k:=fun z=>e (h1.trans z)
    have b:atKey (q::qs) k=atKey qs k:=by simp [atKey,List.find?_cons,e']
    rw [a25 e,b];exact ih
theorem KT.repl{H:Hp}{kvs:List (List u7×V)}{xs:List (List u7×AB×AA)}(r:KT H kvs xs)(k:List u7){y:V}{u:AA}(ry:t5 y u):
 KT H (kvs.map fun kv=>if kv.1=k then(kv.1,y) else kv) (xs.map (putAt k u)):=by
 induction r with
 |nil=>exact .nil
 | @cons p q ps qs h t ih=>
   rw [AL,AL]
   refine .cons ?_ ih
   obtain⟨h1,h2,h3⟩:=h
   unfold putAt
   by_cases e:p.1=k
   ·rw [if_pos e,if_pos (h1.symm.trans e)];exact⟨h1,h2,ry⟩
   ·rw [if_neg e,if_neg (fun z=>e (h1.trans z))];exact⟨h1,h2,h3⟩
theorem KT.put{H:Hp}{kvs:List (List u7×V)}{xs:List (List u7×AB×AA)}(r:KT H kvs xs)(k:List u7){b:AB}{y:V}{u:AA}(hb:H b=some (.tup (k.map kV)))(ry:t5 y u):
 KT H (a51 kvs k y) (storedH xs k b u):=by
 have e:(kvs.any fun kv=>decide (kv.1=k))=(atKey xs k).isSome:=by
  rw [a8G,(r.val k).isSome_eq,Option.isSome_map]
 unfold a51 storedH
 rw [e]
 by_cases q:(atKey xs k).isSome=true
 ·rw [if_pos q,if_pos q];exact r.repl k ry
 ·rw [if_neg q,if_neg q];exact Paired.snoc r ⟨rfl,hb,ry⟩
theorem KT.keeps{H H':Hp}{kvs:List (List u7×V)}{xs:List (List u7×AB×AA)}(r:KT H kvs xs)(ht:∀b ys,H b=some (.tup ys)->H' b=some (.tup ys)):KT H' kvs xs:=
 Paired.mapP r fun _ _ z=>⟨z.1,ht _ _ z.2.1,z.2.2⟩
section
variable {P:AK}{w:AI}{H:Hp}{h:Heap}{a:AB}
end
def b3c(H:Hp)(a:AB)(y:V)(r:Option V):Prop:=
 (∃kvs k,Rd H a (.dK kvs)/\y=kV k/\r=a0S kvs k)\/∃kvs k b,Rd H a (.dT kvs)/\y= .ref b/\H b=some (.tup (k.map kV))/\r=a0S kvs k
def b3d(H:Hp)(a:AB)(y v:V)(H':Hp):Prop:=
 (∃kvs k,H a=some (.dK kvs)/\y=kV k/\kvs.length<AQ/\H'=upd H a (.dK (a51 kvs k v)))\/
 ∃kvs k b,H a=some (.dT kvs)/\y= .ref b/\H b=some (.tup (k.map kV))/\kvs.length<AQ/\H'=upd H a (.dT (a51 kvs k v))
theorem b3c.k{H:Hp}{a:AB}{kvs:List (u7×V)}{k:u7}(e:H a=some (.dK kvs)):b3c H a (kV k) (a0S kvs k):= .inl ⟨kvs,k,.inl e,rfl,rfl⟩
theorem b3c.t{H:Hp}{a b:AB}{kvs:List (List u7×V)}{k:List u7}(e:H a=some (.dT kvs))(eb:H b=some (.tup (k.map kV))):b3c H a (.ref b) (a0S kvs k):= .inr ⟨kvs,k,b,.inl e,rfl,eb,rfl⟩
theorem b3d.k{H:Hp}{a:AB}{kvs:List (u7×V)}{k:u7}{v:V}(e:H a=some (.dK kvs))(hl:kvs.length<AQ):b3d H a (kV k) v (upd H a (.dK (a51 kvs k v))):= .inl ⟨kvs,k,e,rfl,hl,rfl⟩
theorem b3d.t{H:Hp}{a b:AB}{kvs:List (List u7×V)}{k:List u7}{v:V}(e:H a=some (.dT kvs))(eb:H b=some (.tup (k.map kV)))(hl:kvs.length<AQ):
 b3d H a (.ref b) v (upd H a (.dT (a51 kvs k v))):= .inr ⟨kvs,k,b,e,rfl,eb,hl,rfl⟩
section
variable {X:Cx}{pins:List (AB×Obj)}{σ:St}{H:Hp}{s:AC}{a:AB}{y v:V}{u r:AA}{o:Option V}{A:AJ}{E:AA->AC->Prop}
end
section
variable {X:Cx}{pins:List (AB×Obj)}{σ:St}{H:Hp}{s:AC}{a:AB}{kvs:List (u7×V)}{k:u7}{u:AA}{A:AJ}{E:AA->AC->Prop}
end
section
variable {X:Cx}{o i e value:AF}{pos pos' tpos:Pos}{td ty tv:TE}
end
section
variable {X:Cx}{pos:Pos}
end
def b6B:List (TE×TE)->St->Hp->(List (V×V)->Hp->Prop)->Prop
 |[],_,H,Q=>Q [] H
 |(tk,tv)::r,σ,H,Q=>tk σ H fun x H1=>tv σ H1 fun y H2=>b6B r σ H2 fun ps H3=>Q ((x,y)::ps) H3
section
variable {X:Cx}{pins:List (AB×Obj)}{σ:St}{H:Hp}{s:AC}{a:AB}{y d:V}{u r:AA}{o:Option V}{A:AJ}{E:AA->AC->Prop}
end
section
variable {X:Cx}{o e f:AF}{apos cpos:Pos}{td ty tx:TE}
end
section
variable {X:Cx}{pins:List (AB×Obj)}{σ:St}{H:Hp}{s:AC}{a:AB}{kvs:List (u7×V)}{A:AJ}{E:AA->AC->Prop}
end
section
variable {X:Cx}{pins:List (AB×Obj)}{σ:St}{H:Hp}{s:AC}{a:AB}{y:V}{u:AA}{A:AJ}{E:AA->AC->Prop}
end
end L2
namespace Att
open PySem PySem.W PySem.Calls PyProof.Rows
section
variable {prog:AK}{w:AI}{A:AJ}{E:AA->AC->Prop}{s:AC}{K:Frag}
end
end Att
namespace L2
open PySem PySem.Spec PyProof.Rows
section
variable {P:AK}{w:AI}{K:AD}{mg:Str->Option AA}{base:Heap}
end
section
variable {X:Cx}
end
section
variable {κ:Type}[DecidableEq κ]
end
end L2
set_option maxHeartbeats 4000000
namespace PU
open PySem PySem.Spec PyProof.Rows L2
abbrev PV:=PyData
def TqT(K:AD)(H:Hp)(a:AB)(xs:List V):Prop:=
 H a=some (.tup xs)\/∃(o:Obj) (its:Array AA) (n:Nat),K.lookup a=some o/\o.cls= .type "tuple"/\o.data= .seq its n/\its.size<=AQ/\m7 xs its.toList
theorem TqT.of{K:AD}{H:Hp}{a:AB}{xs:List V}(h:H a=some (.tup xs)):TqT K H a xs:= .inl h
theorem TqT.sq{K:AD}{H:Hp}{a:AB}{xs:List V}(h:TqT K H a xs):SqT K H a xs:=h.elim (fun h=> .inl (.inl h)) .inr
instance {K:AD} {H:Hp} {a:AB} {xs:List V}:Coe (TqT K H a xs) (SqT K H a xs):=⟨TqT.sq⟩
theorem b4n{K:AD}{H H':Hp}{a:AB}{xs:List V}(s:l7 H H')(h:TqT K H a xs):TqT K H' a xs:=h.elim (fun h=> .inl (s _ _ h)) .inr
def a52(K:AD)(x:Str)(v:V):Prop:=∃(a:AB) (oc:AA) (od:Option AB) (fd:FuncData) (osl:Array (Option AA)),v= .ref a/\K.lookup a=some ⟨oc,od,.func fd,osl⟩/\fd.name=x
def P0(K:AD)(x:Str)(C:AB):Prop:=PySem.W.nsIn K mainGlobals x=some (some (.ref C))/\∃(oc:AA) (od:Option AB) (cd:ClassData) (osl:Array (Option AA)),K.lookup C=some ⟨oc,od,.cls cd,osl⟩/\cd.name=x
theorem P0.inj{K:AD}{x y:Str}{C:AB}(h:P0 K x C)(h':P0 K y C):x=y:=by
 obtain⟨_,_,_,_,_,k,n⟩:=h
 obtain⟨_,_,_,_,_,k',n'⟩:=h'
 rw [k] at k';cases k'
 rw [<-n,n']
theorem P0.uniq{K:AD}{x:Str}{C D:AB}(h:P0 K x C)(h':P0 K x D):C=D:=by
 have:=h.1.symm.trans h'.1
 cases this;rfl
def b3g(K:AD)(H:Hp)(x:Str)(v:V):Prop:=∃(a C:AB) (φ:Heap->Prop),v= .ref a/\H a=some (.ext φ)/\
 (∀h:Heap,φ h->∃oe vs,h.get? a=some oe/\oe.cls= .ref C/\oe.data= .fields vs/\oe.dict=none)/\P0 K x C
def a3b(K:AD)(H:Hp)(x:Str)(t:PV)(v:V):Prop:=(t= .none/\a52 K x v)\/(t= .bool true/\b3g K H x v)
theorem a3b.ref{K:AD}{H:Hp}{x:Str}{t:PV}{v:V}(h:a3b K H x t v):∃a,v= .ref a:=by
 rcases h with⟨_,a,_,_,_,_,e,_⟩|⟨_,a,_,_,e,_⟩<;>exact⟨a,e⟩
theorem a3b.mono{K:AD}{H H':Hp}{x:Str}{t:PV}{v:V}(s:l7 H H')(h:a3b K H x t v):a3b K H' x t v:=by
 rcases h with h|⟨z,a,C,φ,e,q,r⟩
 ·exact .inl h
 ·exact .inr ⟨z,a,C,φ,e,s _ _ q,r⟩
def a1N(K:AD)(H:Hp)(x:Str)(m:V)(fs:List (Str×V))(v:V):Prop:=
 (m= .bl false/\∃a C dx,v= .ref a/\H a=some (.ins C dx fs)/\P0 K x C)\/
 (m= .int 0/\∃(a C dx:AB) (φ:Heap->Prop),v= .ref a/\H a=some (.ext φ)/\(∀h:Heap,φ h->∃oe vs,h.get? a=some oe/\oe.cls= .ref C/\oe.data= .fields vs/\oe.dict=some dx)/\H dx=some (.xd fs)/\P0 K x C)
theorem a1N.ref{K:AD}{H:Hp}{x:Str}{m:V}{fs:List (Str×V)}{v:V}(h:a1N K H x m fs v):∃a,v= .ref a:=by
 rcases h with⟨_,a,_,_,e,_⟩|⟨_,a,_,_,_,e,_⟩<;>exact⟨a,e⟩
theorem a1N.mono{K:AD}{H H':Hp}{x:Str}{m:V}{fs:List (Str×V)}{v:V}(s:l7 H H')(h:a1N K H x m fs v):a1N K H' x m fs v:=by
 rcases h with⟨z,a,C,dx,e,q,n⟩|⟨z,a,C,dx,φ,e,q,r,d,n⟩
 ·exact .inl ⟨z,a,C,dx,e,s _ _ q,n⟩
 ·exact .inr ⟨z,a,C,dx,φ,e,s _ _ q,r,s _ _ d,n⟩
def kP:u7->PV
 | .inl i=> .int i
 | .inr x=> .str x
def s1{α:Type}(kv:u7×α):List u7×α:=([kv.1],kv.2)
mutual
def I0(K:AD)(H:Hp):PV->V->Prop
 | .none,v=>v= .non
 | .bool b,v=>v= .bl b
 | .int i,v=>v= .int i
 | .str x,v=>v= .str x
 | .tuple ps,v=>∃a xs,v= .ref a/\TqT K H a xs/\l8 K H ps xs
 | .list ps,v=>∃a xs,v= .ref a/\SqL K H a xs/\l8 K H ps xs
 | .dict kvs,v=>(∃a ys,v= .ref a/\H a=some (.dK ys)/\Z0 K H kvs (ys.map s1))\/(∃a xs,v= .ref a/\H a=some (.dT xs)/\Z0 K H kvs (([],.non)::xs))\/(∃x t,kvs=[(.str x,t)]/\a3b K H x t v)\/(∃x m fs,a1N K H x m fs v/\a0U K H kvs ((x,m)::fs))
def l8(K:AD)(H:Hp):List PV->List V->Prop
 |[],vs=>vs=[]
 |p::ps,vs=>∃v r,vs=v::r/\I0 K H p v/\l8 K H ps r
def Z0(K:AD)(H:Hp):List (PV×PV)->List (List u7×V)->Prop
 |[],ys=>ys=[]
 |(k,p)::r,ys=>∃kk v t,ys=(kk,v)::t/\k= .tuple (kk.map kP)/\I0 K H p v/\Z0 K H r t
def a0U(K:AD)(H:Hp):List (PV×PV)->List (Str×V)->Prop
 |[],ys=>ys=[]
 |(k,p)::r,ys=>∃f v t,ys=(f,v)::t/\k= .str f/\I0 K H p v/\a0U K H r t
end
theorem C0{K:AD}{H H':Hp}{a:AB}{xs:List V}(s:l7 H H')(h:SqT K H a xs):SqT K H' a xs:=by
 rcases h with(h|⟨o,h⟩)|h
 ·exact .inl (.inl (s _ _ h))
 ·exact .inl (.inr ⟨o,s _ _ h⟩)
 ·exact .inr h
theorem S4{K:AD}{H H':Hp}{a:AB}{xs:List V}(s:l7 H H')(h:SqL K H a xs):SqL K H' a xs:=by
 rcases h with(h|⟨o,h⟩)|h
 ·exact .inl (.inl (s _ _ h))
 ·exact .inl (.inr ⟨o,s _ _ h⟩)
 ·exact .inr h
mutual
theorem I0.mono{K:AD}{H H':Hp}(s:l7 H H'):∀(p:PV) {v:V},I0 K H p v->I0 K H' p v
 | .none,_,h=>h
 | .bool _,_,h=>h
 | .int _,_,h=>h
 | .str _,_,h=>h
 | .dict kvs,_,.inl ⟨a,ys,q,h,r⟩=> .inl ⟨a,ys,q,s _ _ h,Z0.mono s kvs r⟩
 | .dict kvs,_,.inr (.inl ⟨a,xs,q,h,r⟩)=> .inr (.inl ⟨a,xs,q,s _ _ h,Z0.mono s kvs r⟩)
 | .dict _,_,.inr (.inr (.inl ⟨x,t,e,h⟩))=> .inr (.inr (.inl ⟨x,t,e,h.mono s⟩))
 | .dict kvs,_,.inr (.inr (.inr ⟨x,m,fs,h,r⟩))=> .inr (.inr (.inr ⟨x,m,fs,h.mono s,a0U.mono s kvs r⟩))
 | .tuple ps,_,⟨a,xs,e,q,r⟩=>⟨a,xs,e,b4n s q,l8.mono s ps r⟩
 | .list ps,_,⟨a,xs,e,q,r⟩=>⟨a,xs,e,S4 s q,l8.mono s ps r⟩
theorem l8.mono{K:AD}{H H':Hp}(s:l7 H H'):∀(ps:List PV) {vs:List V},l8 K H ps vs->l8 K H' ps vs
 |[],_,h=>h
 |p::ps,_,⟨v,r,e,q,t⟩=>⟨v,r,e,I0.mono s p q,l8.mono s ps t⟩
theorem Z0.mono{K:AD}{H H':Hp}(s:l7 H H'):∀(es:List (PV×PV)) {ys:List (List u7×V)},Z0 K H es ys->Z0 K H' es ys
 |[],_,h=>h
 |(k,p)::es,_,⟨kk,v,r,e,z,q,t⟩=>⟨kk,v,r,e,z,I0.mono s p q,Z0.mono s es t⟩
theorem a0U.mono{K:AD}{H H':Hp}(s:l7 H H'):∀(es:List (PV×PV)) {ys:List (Str×V)},a0U K H es ys->a0U K H' es ys
 |[],_,h=>h
 |(k,p)::es,_,⟨kk,v,r,e,z,q,t⟩=>⟨kk,v,r,e,z,I0.mono s p q,a0U.mono s es t⟩
end
theorem l8.length{K:AD}{H:Hp}:∀{ps:List PV} {vs:List V},l8 K H ps vs->vs.length=ps.length
 |[],_,h=>by cases h;rfl
 |_::ps,_,⟨v,r,e,_,t⟩=>by subst e;rw [AS,AS,l8.length t]
theorem l8.get{K:AD}{H:Hp}:∀{ps:List PV} {vs:List V} {i:Nat} {p:PV},l8 K H ps vs->ps[i]?=some p->∃v,vs[i]?=some v/\I0 K H p v
 |[],_,_,_,_,h=>by simp at h
 |q::ps,_,0,p,⟨v,r,e,a,t⟩,h=>by subst e;simp at h;subst h;exact⟨v,rfl,a⟩
 |q::ps,_,i+1,p,⟨v,r,e,a,t⟩,h=>by subst e;exact l8.get (i:=i) t (by simpa using h)
theorem l8.getV{K:AD}{H:Hp}:∀{ps:List PV} {vs:List V} {i:Nat} {v:V},l8 K H ps vs->vs[i]?=some v->∃p,ps[i]?=some p/\I0 K H p v
 |[],_,_,_,h,e=>by cases h;simp at e
 |q::ps,_,0,v,⟨w,r,e,a,t⟩,h=>by subst e;simp at h;subst h;exact⟨q,rfl,a⟩
 |q::ps,_,i+1,v,⟨w,r,e,a,t⟩,h=>by subst e;exact l8.getV (i:=i) t (by simpa using h)
theorem l8.append{K:AD}{H:Hp}:∀{ps qs:List PV} {vs ws:List V},l8 K H ps vs->l8 K H qs ws->l8 K H (ps++qs) (vs++ws)
 |[],_,_,_,h,t=>by cases h;exact t
 |_::ps,_,_,_,⟨v,r,e,a,t⟩,s=>by subst e;exact⟨v,_,rfl,a,l8.append t s⟩
theorem l8.drop{K:AD}{H:Hp}:∀{ps:List PV} {vs:List V} (n:Nat),l8 K H ps vs->l8 K H (ps.drop n) (vs.drop n)
 |_,_,0,h=>h
 |[],_,n+1,h=>by cases h;rfl
 |_::ps,_,n+1,⟨v,r,e,a,t⟩=>by subst e;exact l8.drop n t
theorem l8.take{K:AD}{H:Hp}:∀{ps:List PV} {vs:List V} (n:Nat),l8 K H ps vs->l8 K H (ps.take n) (vs.take n)
 |_,_,0,h=>rfl
 |[],_,n+1,h=>by cases h;rfl
 |_::ps,_,n+1,⟨v,r,e,a,t⟩=>by subst e;exact⟨v,_,rfl,a,l8.take n t⟩
def F9(K:AD)(H:Hp):List (List u7×PV)->List (List u7×V)->Prop
 |[],ys=>ys=[]
 |(k,p)::r,ys=>∃v t,ys=(k,v)::t/\I0 K H p v/\F9 K H r t
theorem F9.mono{K:AD}{H H':Hp}(s:l7 H H'):∀(kvs:List (List u7×PV)) {ys:List (List u7×V)},F9 K H kvs ys->F9 K H' kvs ys
 |[],_,h=>h
 |(k,p)::r,_,⟨v,t,e,q,h⟩=>⟨v,t,e,I0.mono s p q,F9.mono s r h⟩
inductive Y9 where
 |lst (ps:List PV)|dct (kvs:List (List u7×PV))|txt (kvs:List (List u7×PV))
inductive e8 where
 |val (p:PV)|ow (c:Y9)|bo (c:Y9)
abbrev e8.own(ps:List PV):e8:= .ow (.lst ps)
abbrev e8.bor(ps:List PV):e8:= .bo (.lst ps)
abbrev e8.dct(kvs:List (List u7×PV)):e8:= .ow (.dct kvs)
def a0T(K:AD)(F H:Hp)(v:V):Y9->Prop
 | .lst ps=>∃a xs,v= .ref a/\F a=none/\H a=some (.lst xs)/\l8 K F ps xs
 | .dct kvs=>∃a xs,v= .ref a/\F a=none/\H a=some (.dT xs)/\F9 K F kvs xs
 | .txt kvs=>∃a xs,v= .ref a/\F a=none/\H a=some (.dK xs)/\F9 K F kvs (xs.map s1)
def J8(K:AD)(F H:Hp)(v:V):e8->Prop
 | .val p=>I0 K F p v
 | .ow c=>a0T K F H v c
 | .bo c=>a0T K F H v c
theorem a0T.at_{K:AD}{F H:Hp}{v:V}:∀{c:Y9},a0T K F H v c->∃a o,v= .ref a/\F a=none/\H a=some o
 | .lst _,⟨a,_,e,n,q,_⟩=>⟨a,_,e,n,q⟩
 | .dct _,⟨a,_,e,n,q,_⟩=>⟨a,_,e,n,q⟩
 | .txt _,⟨a,_,e,n,q,_⟩=>⟨a,_,e,n,q⟩
def NT(o:HO):Prop:=∀xs,o≠.tup xs
structure Ext(F H F' H':Hp):Prop where
 f:l7 F F'
 h:l7 H H'
 fh:l7 F' H'
 nw:∀b o,F b=none->H b=some o->NT o->F' b=none
 nf:∀b o u,F' b=some (.frz o u)->F b=some (.frz o u)
theorem l7.refl(H:Hp):l7 H H:=fun _ _ e=>e
theorem Ext.refl{F H:Hp}(s:l7 F H):Ext F H F H:=⟨l7.refl F,l7.refl H,s,fun _ _ e _ _=>e,fun _ _ _ e=>e⟩
theorem Ext.trans{F H F1 H1 F2 H2:Hp}(a:Ext F H F1 H1)(b:Ext F1 H1 F2 H2):Ext F H F2 H2:=
 ⟨a.f.trans b.f,a.h.trans b.h,b.fh,fun c o e q t=>b.nw c o (a.nw c o e q t) (a.h c o q) t,fun c o u e=>a.nf c o u (b.nf c o u e)⟩
theorem b2f{F0 F:Hp}{a:AB}{xs:List V}(h:∀b o u,F b=some (.frz o u)->F0 b=some (.frz o u)):∀b o u,upd F a (.lst xs) b=some (.frz o u)->F0 b=some (.frz o u):=fun b o u z=>by
 by_cases hb:b=a
 ·subst hb;rw [t7] at z;cases z
 ·rw [j0 hb] at z;exact h _ _ _ z
theorem a0T.ext{K:AD}{F H F' H':Hp}{v:V}(x:Ext F H F' H'):∀{c:Y9},a0T K F H v c->a0T K F' H' v c
 | .lst _,⟨a,xs,e,n,q,r⟩=>⟨a,xs,e,x.nw _ _ n q (fun _ h=>nomatch h),x.h _ _ q,l8.mono x.f _ r⟩
 | .dct _,⟨a,xs,e,n,q,r⟩=>⟨a,xs,e,x.nw _ _ n q (fun _ h=>nomatch h),x.h _ _ q,F9.mono x.f _ r⟩
 | .txt _,⟨a,xs,e,n,q,r⟩=>⟨a,xs,e,x.nw _ _ n q (fun _ h=>nomatch h),x.h _ _ q,F9.mono x.f _ r⟩
theorem J8.ext{K:AD}{F H F' H':Hp}{v:V}(x:Ext F H F' H'):∀{r:e8},J8 K F H v r->J8 K F' H' v r
 | .val p,h=>I0.mono x.f p h
 | .ow _,h=>a0T.ext x h
 | .bo _,h=>a0T.ext x h
def Y9.rd:Y9->PV
 | .lst ps=> .list ps
 | .dct kvs=> .dict ((.tuple [],.none)::kvs.map fun kv=>(.tuple (kv.1.map kP),kv.2))
 | .txt kvs=> .dict (kvs.map fun kv=>(.tuple (kv.1.map kP),kv.2))
def e8.rd:e8->PV
 | .val p=>p
 | .ow c=>c.rd
 | .bo c=>c.rd
def e8.toVal:e8->Option PV
 | .val p=>some p
 | .ow (.lst ps)=>some (.list ps)
 | .ow (.dct _)=>none
 | .ow (.txt _)=>none
 | .bo _=>none
theorem Z0.of{K:AD}{F H:Hp}(s:l7 F H):∀{kvs:List (List u7×PV)} {xs:List (List u7×V)},F9 K F kvs xs->Z0 K H (kvs.map fun kv=>(PyData.tuple (kv.1.map kP),kv.2)) xs
 |[],_,h=>h
 |(k,p)::r,_,⟨v,t,e,q,h⟩=>⟨k,v,t,e,rfl,I0.mono s p q,Z0.of s h⟩
theorem a0T.rd{K:AD}{F H:Hp}{v:V}(s:l7 F H):∀{c:Y9},a0T K F H v c->I0 K H c.rd v
 | .lst ps,⟨a,xs,e,n,q,r⟩=>⟨a,xs,e,SqL.of q,l8.mono s _ r⟩
 | .dct kvs,⟨a,xs,e,n,q,r⟩=> .inr (.inl ⟨a,xs,e,q,[],.non,xs,rfl,rfl,rfl,Z0.of s r⟩)
 | .txt kvs,⟨a,xs,e,n,q,r⟩=> .inl ⟨a,xs,e,q,Z0.of s r⟩
theorem J8.rd{K:AD}{F H:Hp}{v:V}(s:l7 F H):∀{r:e8},J8 K F H v r->I0 K H r.rd v
 | .val p,h=>I0.mono s p h
 | .ow _,h=>a0T.rd s h
 | .bo _,h=>a0T.rd s h
structure v4(K:AD)(F H F' H':Hp)(v:V)(r:e8):Prop where
 x:Ext F H F' H'
 rep:J8 K F' H' v r
 fr:∀c a,r= .ow c->v= .ref a->H a=none
theorem v4.val{K:AD}{F H F' H':Hp}{v:V}{p:PV}(x:Ext F H F' H')(r:I0 K F' p v):v4 K F H F' H' v (.val p):=⟨x,r,fun _ _ e=>nomatch e⟩
theorem v4.here{K:AD}{F H:Hp}{v:V}{p:PV}(s:l7 F H)(r:I0 K F p v):v4 K F H F H v (.val p):=v4.val (Ext.refl s) r
theorem v4.trans{K:AD}{F H F1 H1 F2 H2:Hp}{v:V}{r:e8}(a:Ext F H F1 H1)(b:v4 K F1 H1 F2 H2 v r):v4 K F H F2 H2 v r:=
 ⟨a.trans b.x,b.rep,fun ps c e q=>a.h.free (b.fr ps c e q)⟩
theorem v4.toVal{K:AD}{F H F' H':Hp}{v:V}{p:PV}:∀{r:e8},v4 K F H F' H' v r->r.toVal=some p->∃F2,v4 K F H F2 H' v (.val p)
 | .val q,o,e=>by cases e;exact⟨F',o⟩
 | .bo _,_,e=>nomatch e
 | .ow (.dct _),_,e=>nomatch e
 | .ow (.txt _),_,e=>nomatch e
 | .ow (.lst ps),o,e=>by
   cases e
   obtain⟨a,xs,rfl,n,q,r⟩:=o.rep
   have fr:=o.fr _ a rfl rfl
   have up:l7 F' (upd F' a (.lst xs)):=fun b u z=>by rw [j0 (j6 z n)];exact z
   refine⟨upd F' a (.lst xs),v4.val ⟨o.x.f.trans up,o.x.h,fun b u z=> ?_,fun b u z y t=> ?_,b2f o.x.nf⟩ ⟨a,xs,rfl,SqL.of t7,l8.mono up _ r⟩⟩
   ·by_cases hb:b=a
    ·subst hb;rw [t7] at z;cases z;exact q
    ·rw [j0 hb] at z;exact o.x.fh _ _ z
   ·rw [j0 (j6 y fr)];exact o.x.nw b u z y t
theorem W2{H:Hp}{a:AB}{o:HO}(n:H a=none):l7 H (upd H a o):=fun b u z=>by rw [j0 (j6 z n)];exact z
theorem Ext.lay{F H:Hp}{a:AB}{o:HO}(s:l7 F H)(n:H a=none)(hf:∀x u,o≠.frz x u:=by intro _ _ h;cases h):Ext F H (upd F a o) (upd H a o):=
 ⟨W2 (s.free n),W2 n,fun b u z=>by
  by_cases hb:b=a
  ·subst hb;rw [t7] at z ⊢;exact z
  ·rw [j0 hb] at z ⊢;exact s _ _ z,fun b u z y _=>by rw [j0 (j6 y n)];exact z,fun b w u z=>by
  by_cases hb:b=a
  ·subst hb;rw [t7] at z;exact absurd (Option.some.inj z) (hf w u)
  ·rw [j0 hb] at z;exact z⟩
theorem Ext.layH{F H:Hp}{a:AB}{o:HO}(s:l7 F H)(n:H a=none):Ext F H F (upd H a o):=
 ⟨l7.refl F,W2 n,fun b u z=>by rw [j0 (j6 (s _ _ z) n)];exact s _ _ z,fun b u z y _=>z,fun _ _ _ z=>z⟩
theorem v4.tup{K:AD}{F H:Hp}{a:AB}{xs:List V}{ps:List PV}(s:l7 F H)(n:H a=none)(r:l8 K F ps xs):v4 K F H (upd F a (.tup xs)) (upd H a (.tup xs)) (.ref a) (.val (.tuple ps)):=
 v4.val (Ext.lay s n) ⟨a,xs,rfl,TqT.of t7,l8.mono (W2 (s.free n)) _ r⟩
theorem v4.lst{K:AD}{F H:Hp}{a:AB}{xs:List V}{ps:List PV}(s:l7 F H)(n:H a=none)(r:l8 K F ps xs):v4 K F H F (upd H a (.lst xs)) (.ref a) (.own ps):=
 ⟨Ext.layH s n,⟨a,xs,rfl,s.free n,t7,r⟩,fun _ _ _ e=>by cases e;exact n⟩
abbrev c7:=List (Option e8)
structure F8(K:AD)(F H:Hp)(σ:L2.St)(ρ:c7):Prop where
 fh:l7 F H
 len:σ.length=ρ.length
 at_:∀(i:Nat) (r:e8),ρ[i]?=some (some r)->∃v,σ[i]?=some (some v)/\J8 K F H v r
 nb:∀(i:Nat) (c:Y9),ρ[i]?≠some (some (.bo c))
 ap:∀(i j:Nat) (c d:Y9) (a:AB),i≠j->ρ[i]?=some (some (.ow c))->ρ[j]?=some (some (.ow d))->σ[i]?=some (some (.ref a))->σ[j]?≠some (some (.ref a))
theorem F8.ext{K:AD}{F H F' H':Hp}{σ:L2.St}{ρ:c7}(e:F8 K F H σ ρ)(x:Ext F H F' H'):F8 K F' H' σ ρ:=
 ⟨x.fh,e.len,fun i r q=>let ⟨v,a,b⟩:=e.at_ i r q;⟨v,a,b.ext x⟩,e.nb,e.ap⟩
abbrev M:=c7->Option e8
def tM(K:AD)(m:M):TE:=fun σ H Q=>∃F ρ r,F8 K F H σ ρ/\m ρ=some r/\∀v F' H',v4 K F H F' H' v r->Q v H'
abbrev EE(X:Cx)(e:AF)(m:M):Prop:=PE X e (tM X.K m)
theorem B5{X:Cx}{e:AF}{t t':TE}(h:PE X e t)(i:∀σ H Q,t' σ H Q->t σ H Q):PE X e t':=fun pins s σ H Q I q=>h pins s σ H Q I (i σ H Q q)
theorem a7q{X:Cx}{e:AF}{t t':TT}(h:PT X e t)(i:∀σ H Q,t' σ H Q->t σ H Q):PT X e t':=fun pins s σ H Q I q=>h pins s σ H Q I (i σ H Q q)
theorem b2I{X:Cx}{e:AF}{t t':TT}(h:PW X e t)(i:∀σ H Q,t' σ H Q->t σ H Q):PW X e t':=fun wh pins s σ H Q I q=>h wh pins s σ H Q I (i σ H Q q)
theorem b2t{X:Cx}{e:List AF}{t t':TA}(h:PA X e t)(i:∀σ H Q,t' σ H Q->t σ H Q):PA X e t':=fun pos pins s σ H Q I q=>h pos pins s σ H Q I (i σ H Q q)
theorem D4{X:Cx}{e:Stmt}{t t':TS}(h:PS X e t)(i:∀D σ H,t' D σ H->t D σ H):PS X e t':=fun pins s σ H D I q=>h pins s σ H D I (i D σ H q)
theorem a4v{X:Cx}{e:List Stmt}{t t':TS}(h:PSs X e t)(i:∀D σ H,t' D σ H->t D σ H):PSs X e t':=fun pins s σ H D I q=>h pins s σ H D I (i D σ H q)
def mC(p:PV):M:=fun _=>some (.val p)
def b7(i:Nat):M:=fun ρ=>match ρ[i]? with
 |some (some (.ow c))=>some (.bo c)
 |some (some r)=>some r
 |_=>none
section
variable {X:Cx}{a b c:AF}{ma mb mc:M}{pos:Pos}
theorem Z4{e:AF}{v:V}{p:PV}(h:PE X e (tC v))(r:∀H,I0 X.K H p v):EE X e (mC p):=
 B5 h fun σ H Q ⟨F,ρ,q,he,hm,k⟩=>by
  cases hm
  exact k v F H (v4.here he.fh (r F))
theorem b9{i j pos}:EE X (.Constant (.int i) j pos) (mC (.int i)):=Z4 b6d fun _=>rfl
theorem a2v{b j pos}:EE X (.Constant (.bool b) j pos) (mC (.bool b)):=Z4 b7n fun _=>rfl
theorem t6{j pos}:EE X (.Constant .none j pos) (mC .none):=Z4 b6f fun _=>rfl
theorem i9{x j pos}:EE X (.Constant (.str x) j pos) (mC (.str x)):=Z4 b6h fun _=>rfl
theorem a8(i:Nat){x:Str}{pos:Pos}(h:PE X (.Name x pos) (b1a i)):EE X (.Name x pos) (b7 i):=
 B5 h fun σ H Q ⟨F,ρ,r,he,hm,k⟩=>by
  unfold b7 at hm
  split at hm
  ·rename_i ps e
   cases hm
   obtain⟨v,e1,rr⟩:=he.at_ i _ e
   exact⟨v,e1,k v F H ⟨Ext.refl he.fh,rr,fun _ _ z=>nomatch z⟩⟩
  ·rename_i r' nn e
   cases hm
   obtain⟨v,e1,rr⟩:=he.at_ i _ e
   exact⟨v,e1,k v F H ⟨Ext.refl he.fh,rr,fun ps _ z=>absurd z (nn ps)⟩⟩
  ·cases hm
def rM2(K:AD)(g:e8->e8->Option e8):R2:=fun x y H Q=>∃F rx ry rz,l7 F H/\J8 K F H x rx/\J8 K F H y ry/\g rx ry=some rz/\∀v F' H',v4 K F H F' H' v rz->Q v H'
abbrev OpM(X:Cx)(f:AA->AA->Sem AA)(g:e8->e8->Option e8):Prop:=OpR X f (rM2 X.K g)
def m2(g:e8->e8->Option e8)(ma mb:M):M:=fun ρ=>(ma ρ).bind fun x=>(mb ρ).bind fun y=>g x y
theorem bind_some{α β:Type}{o:Option α}{f:α->Option β}{b:β}(h:o.bind f=some b):∃a,o=some a/\f a=some b:=by
 cases o with
 |none=>cases h
 |some a=>exact⟨a,rfl,h⟩
theorem a7A{K:AD}{g:e8->e8->Option e8}{σ:L2.St}{H:Hp}{Q:VK}(h:tM K (m2 g ma mb) σ H Q):tOp (rM2 K g) (tM K ma) (tM K mb) σ H Q:=by
 obtain⟨F,ρ,r,he,hm,k⟩:=h
 obtain⟨rx,e1,hm⟩:=bind_some hm
 obtain⟨ry,e2,hm⟩:=bind_some hm
 exact⟨F,ρ,rx,he,e1,fun v F1 H1 o1=>⟨F1,ρ,ry,he.ext o1.x,e2,fun u F2 H2 o2=>⟨F2,rx,ry,r,o2.x.fh,o1.rep.ext o2.x,o2.rep,hm,fun z F3 H3 o3=>k z F3 H3 (v4.trans (o1.x.trans o2.x) o3)⟩⟩⟩
theorem i3{op:Operator}{g:e8->e8->Option e8}(ho:OpM X (binaryOp op) g)(ha:EE X a ma)(hb:EE X b mb):EE X (.BinOp a op b pos) (m2 g ma mb):=
 B5 (b7p ho ha hb) fun _ _ _ h=>a7A h
theorem a3i{op:CmpOp}{g:e8->e8->Option e8}(ho:OpM X (compareOp op) g)(ha:EE X a ma)(hb:EE X b mb)(hm:behindInMarks op b=false):EE X (.Compare a [op] [b] pos) (m2 g ma mb):=
 B5 (b37 ho ha hb hm) fun _ _ _ h=>a7A h
theorem a1I{f:AA->AA->Sem AA}{r:R2}{g:e8->e8->Option e8}(h:OpR X f r)
 (i:∀F H x y rx ry rz,l7 F H->J8 X.K F H x rx->J8 X.K F H y ry->g rx ry=some rz->∀Q:VK,(∀v F' H',v4 X.K F H F' H' v rz->Q v H')->r x y H Q):OpM X f g:=
 fun pins s σ H x y v u Q I rx ry ⟨F,ra,rb,rz,s0,h1,h2,h3,k⟩=>h pins s σ H x y v u Q I rx ry (i F H x y ra rb rz s0 h1 h2 h3 Q k)
end
def gI(f:Int->Int->PV):e8->e8->Option e8
 | .val (.int i),.val (.int j)=>some (.val (f i j))
 |_,_=>none
theorem b2h:∃f:(Int->Int->Prop)->Int->Int->Bool,∀C i j,f C i j=true↔C i j:=⟨fun C i j=> @decide (C i j) (Classical.propDecidable _),fun C i j=> @decide_eq_true_iff (C i j) (Classical.propDecidable _)⟩
def okC:(Int->Int->Prop)->Int->Int->Bool:=b2h.choose
theorem a2Q{C:Int->Int->Prop}{i j:Int}:okC C i j=true↔C i j:=b2h.choose_spec C i j
def Z7(C:Int->Int->Prop)[∀i j,Decidable (C i j)](f:Int->Int->PV):e8->e8->Option e8
 | .val (.int i),.val (.int j)=>if okC C i j=true then some (.val (f i j)) else none
 |_,_=>none
theorem a6W{f:Int->Int->PV}{rx ry rz:e8}(h:gI f rx ry=some rz):∃i j,rx= .val (.int i)/\ry= .val (.int j)/\rz= .val (f i j):=by
 unfold gI at h
 split at h
 ·cases h;exact⟨_,_,rfl,rfl,rfl⟩
 ·cases h
theorem b1O{C:Int->Int->Prop}[∀i j,Decidable (C i j)]{f:Int->Int->PV}{rx ry rz:e8}(h:Z7 C f rx ry=some rz):∃i j,rx= .val (.int i)/\ry= .val (.int j)/\C i j/\rz= .val (f i j):=by
 unfold Z7 at h
 split at h
 ·split at h
  ·rename_i c;cases h;exact⟨_,_,rfl,rfl,a2Q.mp c,rfl⟩
  ·cases h
 ·cases h
section
variable {X:Cx}
theorem b2l{f:AA->AA->Sem AA}{g:Int->Int->V}{g':Int->Int->PV}(h:OpR X f (rI0 g))(e:∀i j H,I0 X.K H (g' i j) (g i j)):OpM X f (gI g'):=
 a1I h fun F H x y rx ry rz s h1 h2 h3 Q k=>by
  obtain⟨i,j,rfl,rfl,rfl⟩:=a6W h3
  exact⟨i,j,h1,h2,k _ F H (v4.here s (e i j F))⟩
theorem a9l{f:AA->AA->Sem AA}{C:Int->Int->Prop}[∀i j,Decidable (C i j)]{g:Int->Int->V}{g':Int->Int->PV}(h:OpR X f (rI C g))(e:∀i j H,I0 X.K H (g' i j) (g i j)):OpM X f (Z7 C g'):=
 a1I h fun F H x y rx ry rz s h1 h2 h3 Q k=>by
  obtain⟨i,j,rfl,rfl,c,rfl⟩:=b1O h3
  exact⟨i,j,h1,h2,c,k _ F H (v4.here s (e i j F))⟩
end
section
variable {X:Cx}{pins:List (AB×Obj)}{σ:L2.St}{H:Hp}{s:AC}
theorem a3X(I:j7 X pins σ H s){a:AB}{xs ys:List V}(h:SqL X.K H a xs)(h':SqT X.K H a ys):False:=by
 obtain⟨its,r,p,_⟩:=I.list h
 obtain⟨its',r',p',_⟩:=I.tuple h'
 exact SeqAt.ne_of_list_tuple p.isList (show s.heap.IsTuple a its'.toArray from p') rfl
theorem a3V(I:j7 X pins σ H s){a:AB}{xs:List V}{ys:List (u7×V)}(h:H a=some (.dK ys))(h':SqL X.K H a xs):False:=by
 obtain⟨its,r,⟨o,n,e,c,_⟩,_⟩:=I.list h'
 obtain⟨_,_,_,_,o',_,_,e',ex,_⟩:=I.hok a _ h
 rw [e] at e';cases e'
 have:=ex.1
 rw [c] at this;exact absurd this (by simp)
theorem a3W(I:j7 X pins σ H s){a:AB}{xs:List V}{ys:List (u7×V)}(h:H a=some (.dK ys))(h':SqT X.K H a xs):False:=by
 obtain⟨its,r,⟨o,e,c,_⟩,_⟩:=I.tuple h'
 obtain⟨_,_,_,_,o',_,_,e',ex,_⟩:=I.hok a _ h
 rw [e] at e';cases e'
 have:=ex.1
 rw [c] at this;exact absurd this (by simp)
theorem a5b(I:j7 X pins σ H s){a:AB}{ys:List (List u7×V)}{xs:List V}(h:H a=some (.dT ys))(h':SqL X.K H a xs):False:=by
 obtain⟨its,r,⟨o,n,e,c,_⟩,_⟩:=I.list h'
 obtain⟨_,_,_,_,o',_,_,e',ex,_⟩:=I.hok a _ h
 rw [e] at e';cases e'
 have:=ex.1
 rw [c] at this;exact absurd this (by simp)
theorem a5c(I:j7 X pins σ H s){a:AB}{ys:List (List u7×V)}{xs:List V}(h:H a=some (.dT ys))(h':SqT X.K H a xs):False:=by
 obtain⟨its,r,⟨o,e,c,_⟩,_⟩:=I.tuple h'
 obtain⟨_,_,_,_,o',_,_,e',ex,_⟩:=I.hok a _ h
 rw [e] at e';cases e'
 have:=ex.1
 rw [c] at this;exact absurd this (by simp)
theorem a9L(I:j7 X pins σ H s){x:Str}{v:V}(h:a52 X.K x v):∃(a:AB) (o:Obj) (fd:FuncData),v= .ref a/\s.heap.get? a=some o/\o.data= .func fd/\fd.name=x:=by
 obtain⟨a,oc,od,fd,osl,e,k,n⟩:=h
 exact⟨a,_,fd,e,I.kIn a _ k,rfl,n⟩
theorem a1M(I:j7 X pins σ H s){x:Str}{v:V}(h:b3g X.K H x v):∃(a C:AB) (o:Obj) (vs:Array AA),v= .ref a/\s.heap.get? a=some o/\o.cls= .ref C/\o.data= .fields vs/\P0 X.K x C/\o.dict=none:=by
 obtain⟨a,C,φ,e,q,k,n⟩:=h
 obtain⟨oe,vs,h1,h2,h3,h4⟩:=k _ (I.hok a _ q).1
 exact⟨a,C,oe,vs,e,h1,h2,h3,n,h4⟩
theorem a5f(I:j7 X pins σ H s){x:Str}{a:AB}{xs:List V}{t:PV}(h:a3b X.K H x t (.ref a))(h':SqT X.K H a xs):False:=by
 obtain⟨its,r,⟨o',e',c',n',d'⟩,_⟩:=I.tuple h'
 rcases h with⟨_,h⟩|⟨_,h⟩
 ·obtain⟨b,o,fd,e,g,d,_⟩:=a9L I h
  cases e
  rw [g] at e';cases e'
  rw [d] at d';cases d'
 ·obtain⟨b,C,o,vs,e,g,c,d,_⟩:=a1M I h
  cases e
  rw [g] at e';cases e'
  rw [d] at d';cases d'
theorem a5e(I:j7 X pins σ H s){x:Str}{a:AB}{xs:List V}{t:PV}(h:a3b X.K H x t (.ref a))(h':SqL X.K H a xs):False:=by
 obtain⟨its,r,pl,_⟩:=I.list h'
 obtain⟨o',e',c',n',d'⟩:=pl.isList
 rcases h with⟨_,h⟩|⟨_,h⟩
 ·obtain⟨b,o,fd,e,g,d,_⟩:=a9L I h
  cases e
  rw [g] at e';cases e'
  rw [d] at d';cases d'
 ·obtain⟨b,C,o,vs,e,g,c,d,_⟩:=a1M I h
  cases e
  rw [g] at e';cases e'
  rw [d] at d';cases d'
theorem a5d(I:j7 X pins σ H s){x:Str}{a:AB}{ys:List (u7×V)}{t:PV}(h:a3b X.K H x t (.ref a))(h':H a=some (.dK ys)):False:=by
 rcases h with⟨_,b,oc,od,fd,osl,e,k,_⟩|⟨_,b,C,φ,e,q,_⟩
 ·cases e
  have:=(I.bs a _ (I.ok.mod.kin a _ k)).2
  rw [this] at h';cases h'
 ·cases e
  rw [q] at h';cases h'
theorem a6o(I:j7 X pins σ H s){x:Str}{a:AB}{ys:List (List u7×V)}{t:PV}(h:a3b X.K H x t (.ref a))(h':H a=some (.dT ys)):False:=by
 rcases h with⟨_,b,oc,od,fd,osl,e,k,_⟩|⟨_,b,C,φ,e,q,_⟩
 ·cases e
  have:=(I.bs a _ (I.ok.mod.kin a _ k)).2
  rw [this] at h';cases h'
 ·cases e
  rw [q] at h';cases h'
theorem a6p(I:j7 X pins σ H s){x y:Str}{v:V}(h:a52 X.K x v)(h':b3g X.K H y v):False:=by
 obtain⟨b,oc,od,fd,osl,e,k,_⟩:=h
 obtain⟨b',C,φ,e',q,_⟩:=h'
 rw [e] at e';cases e'
 have:=(I.bs b _ (I.ok.mod.kin b _ k)).2
 rw [this] at q;cases q
theorem b65(I:j7 X pins σ H s){x y:Str}{t u:PV}{v:V}(h:a3b X.K H x t v)(h':a3b X.K H y u v):x=y/\t=u:=by
 rcases h with⟨rfl,h⟩|⟨rfl,h⟩<;>rcases h' with⟨rfl,h'⟩|⟨rfl,h'⟩
 all_goals first|refine⟨?_,rfl⟩|skip
 ·obtain⟨b,oc,od,fd,osl,e,k,n⟩:=h
  obtain⟨b',oc',od',fd',osl',e',k',n'⟩:=h'
  rw [e] at e';cases e'
  rw [k] at k';cases k'
  rw [<-n,n']
 ·exact(a6p I h h').elim
 ·exact(a6p I h' h).elim
 ·obtain⟨b,C,o,vs,e,g,c,d,n,_⟩:=a1M I h
  obtain⟨b',C',o',vs',e',g',c',d',n',_⟩:=a1M I h'
  rw [e] at e';cases e'
  rw [g] at g';cases g'
  rw [c] at c';cases c'
  exact n.inj n'
theorem a91(I:j7 X pins σ H s){x:Str}{m v:V}{fs:List (Str×V)}(h:a1N X.K H x m fs v):∃(a C:AB) (o:Obj),v= .ref a/\s.heap.get? a=some o/\o.cls= .ref C/\P0 X.K x C:=by
 rcases h with⟨_,a,C,dx,e,q,n⟩|⟨_,a,C,dx,φ,e,q,r,d,n⟩
 ·obtain⟨_,_,_,g,_⟩:=I.hok a _ q
  exact⟨a,C,_,e,g,rfl,n⟩
 ·obtain⟨oe,vs,h1,h2,_⟩:=r _ (I.hok a _ q).1
  exact⟨a,C,oe,e,h1,h2,n⟩
theorem a5i(I:j7 X pins σ H s){x:Str}{m:V}{fs:List (Str×V)}{a:AB}{xs:List V}(h:a1N X.K H x m fs (.ref a))(h':SqT X.K H a xs):False:=by
 obtain⟨its,r,⟨o',e',c',n',d'⟩,_⟩:=I.tuple h'
 obtain⟨b,C,o,e,g,c,_⟩:=a91 I h
 cases e
 rw [g] at e';cases e'
 rw [c] at c';cases c'
theorem a5h(I:j7 X pins σ H s){x:Str}{m:V}{fs:List (Str×V)}{a:AB}{xs:List V}(h:a1N X.K H x m fs (.ref a))(h':SqL X.K H a xs):False:=by
 obtain⟨its,r,pl,_⟩:=I.list h'
 obtain⟨o',e',c',n',d'⟩:=pl.isList
 obtain⟨b,C,o,e,g,c,_⟩:=a91 I h
 cases e
 rw [g] at e';cases e'
 rw [c] at c';cases c'
theorem a5g{x:Str}{m:V}{fs:List (Str×V)}{a:AB}{ys:List (u7×V)}(h:a1N X.K H x m fs (.ref a))(h':H a=some (.dK ys)):False:=by
 rcases h with⟨_,b,C,dx,e,q,n⟩|⟨_,b,C,dx,φ,e,q,r,d,n⟩
 ·cases e;rw [q] at h';cases h'
 ·cases e;rw [q] at h';cases h'
theorem a6q{x:Str}{m:V}{fs:List (Str×V)}{a:AB}{ys:List (List u7×V)}(h:a1N X.K H x m fs (.ref a))(h':H a=some (.dT ys)):False:=by
 rcases h with⟨_,b,C,dx,e,q,n⟩|⟨_,b,C,dx,φ,e,q,r,d,n⟩
 ·cases e;rw [q] at h';cases h'
 ·cases e;rw [q] at h';cases h'
theorem a6r(I:j7 X pins σ H s){x y:Str}{m v:V}{fs:List (Str×V)}{t:PV}(h:a1N X.K H x m fs v)(h':a3b X.K H y t v):False:=by
 rcases h' with⟨_,h'⟩|⟨_,h'⟩
 ·obtain⟨b,oc,od,fd,osl,e,k,_⟩:=h'
  have nn:=(I.bs b _ (I.ok.mod.kin b _ k)).2
  rcases h with⟨_,b',C,dx,e',q,n⟩|⟨_,b',C,dx,φ,e',q,r,d,n⟩
  ·rw [e] at e';cases e';rw [nn] at q;cases q
  ·rw [e] at e';cases e';rw [nn] at q;cases q
 ·obtain⟨b,C,o,vs,e,g,c,d,n,dn⟩:=a1M I h'
  rcases h with⟨_,b',C',dx,e',q,n'⟩|⟨_,b',C',dx,φ,e',q,r,d',n'⟩
  ·rw [e] at e';cases e'
   obtain⟨_,_,_,g',_⟩:=I.hok _ _ q
   rw [g] at g';cases g'
   cases dn
  ·rw [e] at e';cases e'
   obtain⟨oe,vs',h1,h2,h3,h4⟩:=r _ (I.hok _ _ q).1
   rw [g] at h1;cases h1
   rw [dn] at h4;cases h4
theorem b7h(I:j7 X pins σ H s){x y:Str}{m m' v:V}{fs fs':List (Str×V)}(h:a1N X.K H x m fs v)(h':a1N X.K H y m' fs' v):(x,m)::fs=(y,m')::fs':=by
 rcases h with⟨rfl,b,C,dx,e,q,n⟩|⟨rfl,b,C,dx,φ,e,q,r,d,n⟩<;>rcases h' with⟨rfl,b',C',dx',e',q',n'⟩|⟨rfl,b',C',dx',φ',e',q',r',d',n'⟩
 ·rw [e] at e';cases e';rw [q] at q';cases q';rw [n.inj n']
 ·rw [e] at e';cases e';rw [q] at q';cases q'
 ·rw [e] at e';cases e';rw [q] at q';cases q'
 ·rw [e] at e';cases e';rw [q] at q';cases q'
  obtain⟨o1,v1,a1,a2,a3,a4⟩:=r _ (I.hok _ _ q).1
  obtain⟨o2,v2,b1,b2,b3,b4⟩:=r' _ (I.hok _ _ q).1
  rw [a1] at b1;cases b1
  rw [a2] at b2;cases b2
  rw [a4] at b4;cases b4
  rw [d] at d';cases d'
  rw [n.inj n']
theorem a92{K:AD}{F:Hp}{k p:PV}{r:List (PV×PV)}{y:Str}{m v:V}{fs:List (Str×V)}(h:a1N K F y m fs v)(hr:a0U K F ((k,p)::r) ((y,m)::fs)):k= .str y/\(p= .bool false\/p= .int 0)/\a0U K F r fs:=by
 obtain⟨f,w,t,e,z,q,hr⟩:=hr
 cases e
 refine⟨z, ?_,hr⟩
 rcases h with⟨rfl,_⟩|⟨rfl,_⟩
 ·cases p with
  |bool b=>cases q;exact .inl rfl
  |tuple _=>obtain⟨_,_,e,_⟩:=q;cases e
  |list _=>obtain⟨_,_,e,_⟩:=q;cases e
  |dict _=>
   rcases q with⟨_,_,e,_⟩|⟨_,_,e,_⟩|⟨_,_,_,q⟩|⟨_,_,_,q,_⟩
   ·cases e
   ·cases e
   ·obtain⟨_,e⟩:=q.ref;cases e
   ·obtain⟨_,e⟩:=q.ref;cases e
  |_=>cases q
 ·cases p with
  |int b=>cases q;exact .inr rfl
  |tuple _=>obtain⟨_,_,e,_⟩:=q;cases e
  |list _=>obtain⟨_,_,e,_⟩:=q;cases e
  |dict _=>
   rcases q with⟨_,_,e,_⟩|⟨_,_,e,_⟩|⟨_,_,_,q⟩|⟨_,_,_,q,_⟩
   ·cases e
   ·cases e
   ·obtain⟨_,e⟩:=q.ref;cases e
   ·obtain⟨_,e⟩:=q.ref;cases e
  |_=>cases q
mutual
theorem I0.inj(I:j7 X pins σ H s):∀(p q:PV) {v:V},I0 X.K H p v->I0 X.K H q v->p=q
 | .tuple ps,q,v,⟨a,xs,e,h,r⟩,h'=>by
   subst e
   cases q with
   |tuple qs=>
    obtain⟨a',xs',e',h',r'⟩:=h'
    cases e'
    cases I.tuple_inj h.sq h'.sq
    rw [l8.inj I ps qs r r']
   |list qs=>obtain⟨a',xs',e',h',r'⟩:=h';cases e';exact(a3X I h' h.sq).elim
   |dict qs=>
    rcases h' with⟨a',_,e',h',_⟩|⟨a',_,e',h',_⟩|⟨x,t,_,h'⟩|⟨x,m,fs,h',_⟩
    ·cases e';exact(a3W I h' h.sq).elim
    ·cases e';exact(a5c I h' h.sq).elim
    ·exact(a5f I h' h.sq).elim
    ·exact(a5i I h' h.sq).elim
   |_=>cases h'
 | .list ps,q,v,⟨a,xs,e,h,r⟩,h'=>by
   subst e
   cases q with
   |list qs=>
    obtain⟨a',xs',e',h',r'⟩:=h'
    cases e'
    cases I.list_inj h h'
    rw [l8.inj I ps qs r r']
   |tuple qs=>obtain⟨a',xs',e',h',r'⟩:=h';cases e';exact(a3X I h h'.sq).elim
   |dict qs=>
    rcases h' with⟨a',_,e',h',_⟩|⟨a',_,e',h',_⟩|⟨x,t,_,h'⟩|⟨x,m,fs,h',_⟩
    ·cases e';exact(a3V I h' h).elim
    ·cases e';exact(a5b I h' h).elim
    ·exact(a5e I h' h).elim
    ·exact(a5h I h' h).elim
   |_=>cases h'
 | .dict ps,q,v,.inl ⟨a,ys,e,h,hr⟩,h'=>by
   subst e
   cases q with
   |tuple qs=>obtain⟨a',xs',e',h',r'⟩:=h';cases e';exact(a3W I h h'.sq).elim
   |list qs=>obtain⟨a',xs',e',h',r'⟩:=h';cases e';exact(a3V I h h').elim
   |dict qs=>
    rcases h' with⟨a',_,e',h',r'⟩|⟨a',_,e',h',_⟩|⟨x,t,_,h'⟩|⟨x,m,fs,h',_⟩
    ·cases e';rw [h] at h';cases h';rw [Z0.inj I ps qs hr r']
    ·cases e';rw [h] at h';cases h'
    ·exact(a5d I h' h).elim
    ·exact(a5g h' h).elim
   |_=>cases h'
 | .dict ps,q,v,.inr (.inl ⟨a,ys,e,h,hr⟩),h'=>by
   subst e
   cases q with
   |tuple qs=>obtain⟨a',xs',e',h',r'⟩:=h';cases e';exact(a5c I h h'.sq).elim
   |list qs=>obtain⟨a',xs',e',h',r'⟩:=h';cases e';exact(a5b I h h').elim
   |dict qs=>
    rcases h' with⟨a',_,e',h',_⟩|⟨a',_,e',h',r'⟩|⟨x,t,_,h'⟩|⟨x,m,fs,h',_⟩
    ·cases e';rw [h] at h';cases h'
    ·cases e';rw [h] at h';cases h';rw [Z0.inj I ps qs hr r']
    ·exact(a6o I h' h).elim
    ·exact(a6q h' h).elim
   |_=>cases h'
 | .dict ps,q,v,.inr (.inr (.inr ⟨x,m,fs,h,hr⟩)),h'=>by
   cases q with
   |tuple qs=>obtain⟨a',xs',e',h',r'⟩:=h';subst e';exact(a5i I h h'.sq).elim
   |list qs=>obtain⟨a',xs',e',h',r'⟩:=h';subst e';exact(a5h I h h').elim
   |dict qs=>
    rcases h' with⟨a',_,e',h',_⟩|⟨a',_,e',h',_⟩|⟨y,u,e1,h'⟩|⟨y,m',fs',h',hr'⟩
    ·subst e';exact(a5g h h').elim
    ·subst e';exact(a6q h h').elim
    ·exact(a6r I h h').elim
    ·have z:=b7h I h h'
     rw [z] at hr
     rw [a0U.inj I ps qs hr hr']
   |none=>obtain⟨_,e⟩:=h.ref;rw [e] at h';cases h'
   |bool _=>obtain⟨_,e⟩:=h.ref;rw [e] at h';cases h'
   |int _=>obtain⟨_,e⟩:=h.ref;rw [e] at h';cases h'
   |str _=>obtain⟨_,e⟩:=h.ref;rw [e] at h';cases h'
 | .dict ps,q,v,.inr (.inr (.inl ⟨x,t,e0,h⟩)),h'=>by
   subst e0
   cases q with
   |tuple qs=>obtain⟨a',xs',e',h',r'⟩:=h';subst e';exact(a5f I h h'.sq).elim
   |list qs=>obtain⟨a',xs',e',h',r'⟩:=h';subst e';exact(a5e I h h').elim
   |dict qs=>
    rcases h' with⟨a',_,e',h',_⟩|⟨a',_,e',h',_⟩|⟨y,u,e1,h'⟩|⟨y,m,fs,h',_⟩
    ·subst e';exact(a5d I h h').elim
    ·subst e';exact(a6o I h h').elim
    ·obtain⟨z1,z2⟩:=b65 I h h';rw [e1,z1,z2]
    ·exact(a6r I h' h).elim
   |none=>obtain⟨_,e⟩:=h.ref;rw [e] at h';cases h'
   |bool _=>obtain⟨_,e⟩:=h.ref;rw [e] at h';cases h'
   |int _=>obtain⟨_,e⟩:=h.ref;rw [e] at h';cases h'
   |str _=>obtain⟨_,e⟩:=h.ref;rw [e] at h';cases h'
 | .none,q,v,h,h'=>by
   cases h
   cases q with
   |none=>rfl
   |tuple _=>obtain⟨_,_,e,_⟩:=h';cases e
   |list _=>obtain⟨_,_,e,_⟩:=h';cases e
   |dict _=>
    rcases h' with⟨_,_,e,_,_⟩|⟨_,_,e,_⟩|⟨_,_,_,h'⟩|⟨_,_,_,h',_⟩
    ·cases e
    ·cases e
    ·obtain⟨_,e⟩:=h'.ref;cases e
    ·obtain⟨_,e⟩:=h'.ref;cases e
   |_=>cases h'
 | .bool _,q,v,h,h'=>by
   cases h
   cases q with
   |bool _=>cases h';rfl
   |tuple _=>obtain⟨_,_,e,_⟩:=h';cases e
   |list _=>obtain⟨_,_,e,_⟩:=h';cases e
   |dict _=>
    rcases h' with⟨_,_,e,_,_⟩|⟨_,_,e,_⟩|⟨_,_,_,h'⟩|⟨_,_,_,h',_⟩
    ·cases e
    ·cases e
    ·obtain⟨_,e⟩:=h'.ref;cases e
    ·obtain⟨_,e⟩:=h'.ref;cases e
   |_=>cases h'
 | .int _,q,v,h,h'=>by
   cases h
   cases q with
   |int _=>cases h';rfl
   |tuple _=>obtain⟨_,_,e,_⟩:=h';cases e
   |list _=>obtain⟨_,_,e,_⟩:=h';cases e
   |dict _=>
    rcases h' with⟨_,_,e,_,_⟩|⟨_,_,e,_⟩|⟨_,_,_,h'⟩|⟨_,_,_,h',_⟩
    ·cases e
    ·cases e
    ·obtain⟨_,e⟩:=h'.ref;cases e
    ·obtain⟨_,e⟩:=h'.ref;cases e
   |_=>cases h'
 | .str _,q,v,h,h'=>by
   cases h
   cases q with
   |str _=>cases h';rfl
   |tuple _=>obtain⟨_,_,e,_⟩:=h';cases e
   |list _=>obtain⟨_,_,e,_⟩:=h';cases e
   |dict _=>
    rcases h' with⟨_,_,e,_,_⟩|⟨_,_,e,_⟩|⟨_,_,_,h'⟩|⟨_,_,_,h',_⟩
    ·cases e
    ·cases e
    ·obtain⟨_,e⟩:=h'.ref;cases e
    ·obtain⟨_,e⟩:=h'.ref;cases e
   |_=>cases h'
theorem l8.inj(I:j7 X pins σ H s):∀(ps qs:List PV) {vs:List V},l8 X.K H ps vs->l8 X.K H qs vs->ps=qs
 |[],qs,vs,h,h'=>by
  cases h
  cases qs with
  |nil=>rfl
  |cons q qs=>obtain⟨_,_,e,_⟩:=h';cases e
 |p::ps,qs,vs,⟨v,r,e,h,t⟩,h'=>by
  subst e
  cases qs with
  |nil=>cases h'
  |cons q qs=>
   obtain⟨v',r',e',h',t'⟩:=h'
   cases e'
   rw [I0.inj I p q h h',l8.inj I ps qs t t']
theorem Z0.inj(I:j7 X pins σ H s):∀(es fs:List (PV×PV)) {ys:List (List u7×V)},Z0 X.K H es ys->Z0 X.K H fs ys->es=fs
 |[],fs,ys,h,h'=>by
  cases h
  cases fs with
  |nil=>rfl
  |cons f fs=>obtain⟨k,p⟩:=f;obtain⟨_,_,_,e,_⟩:=h';cases e
 |(k,p)::es,fs,ys,⟨kk,v,r,e,z,q,t⟩,h'=>by
  subst e
  cases fs with
  |nil=>cases h'
  |cons f fs=>
   obtain⟨k',p'⟩:=f
   obtain⟨kk',v',r',e',z',q',t'⟩:=h'
   cases e'
   rw [z,z',I0.inj I p p' q q',Z0.inj I es fs t t']
theorem a0U.inj(I:j7 X pins σ H s):∀(es fs:List (PV×PV)) {ys:List (Str×V)},a0U X.K H es ys->a0U X.K H fs ys->es=fs
 |[],fs,ys,h,h'=>by
  cases h
  cases fs with
  |nil=>rfl
  |cons f fs=>obtain⟨k,p⟩:=f;obtain⟨_,_,_,e,_⟩:=h';cases e
 |(k,p)::es,fs,ys,⟨kk,v,r,e,z,q,t⟩,h'=>by
  subst e;subst z
  cases fs with
  |nil=>cases h'
  |cons f fs=>
   obtain⟨k',p'⟩:=f
   obtain⟨kk',v',r',e',z',q',t'⟩:=h'
   cases e';subst z'
   rw [I0.inj I p p' q q',a0U.inj I es fs t t']
end
end
mutual
def v5:PV->Nat->Bool
 | .list xs,n+1=>N5 xs n
 | .tuple xs,n+1=>N5 xs n
 | .list _,0=>false
 | .tuple _,0=>false
 | .dict _,_=>false
 | .none,_=>true
 | .bool _,_=>true
 | .int _,_=>true
 | .str _,_=>true
def N5:List PV->Nat->Bool
 |[],_=>true
 |x::xs,n=>v5 x n && N5 xs n
end
mutual
theorem b1H:∀(p:PV) (n:Nat),v5 p n=true->PyData.eqv p p=true
 | .none,_,_=>by simp [PyData.eqv]
 | .bool _,_,_=>by simp [PyData.eqv]
 | .int _,_,_=>by simp [PyData.eqv]
 | .str _,_,_=>by simp [PyData.eqv]
 | .list xs,n+1,h=>by simp only [PyData.eqv];exact Z5 xs n (by simpa [v5] using h)
 | .tuple xs,n+1,h=>by simp only [PyData.eqv];exact Z5 xs n (by simpa [v5] using h)
 | .list xs,0,h=>by simp [v5] at h
 | .tuple xs,0,h=>by simp [v5] at h
 | .dict _,_,h=>by simp [v5] at h
theorem Z5:∀(ps:List PV) (n:Nat),N5 ps n=true->PyData.eqvAll ps ps=true
 |[],_,_=>by simp [PyData.eqvAll]
 |x::xs,n,h=>by
  have h':v5 x n=true/\N5 xs n=true:=by simpa [N5] using h
  simp only [PyData.eqvAll,b1H x n h'.1,Z5 xs n h'.2,Bool.and_self]
end
def eAt(ps qs:List PV)(j:Nat):Bool:=match ps[j]?,qs[j]? with
 |some p,some q=>PyData.eqv p q
 |_,_=>false
theorem U5:∀(ps qs:List PV),PyData.eqvAll ps qs=((Ao (min ps.length qs.length)).all (eAt ps qs)&& ps.length==qs.length)
 |[],[]=>by simp [PyData.eqvAll]
 |[],_::_=>by simp [PyData.eqvAll]
 |_::_,[]=>by simp [PyData.eqvAll]
 |p::ps,q::qs=>by
  have e:min (p::ps).length (q::qs).length=min ps.length qs.length+1:=by simp only [AS];lia
  rw [e,List.range_succ_eq_map,List.all_cons,List.all_map]
  have h0:eAt (p::ps) (q::qs) 0=PyData.eqv p q:=rfl
  have h1:(eAt (p::ps) (q::qs)∘Nat.succ)=eAt ps qs:=by funext j;simp [eAt,Function.comp]
  rw [h0,h1]
  simp only [PyData.eqvAll,U5 ps qs,AS,Bool.and_assoc]
  have e2:(ps.length+1==qs.length+1)=(ps.length==qs.length):=by
   rw [Bool.eq_iff_iff];simp
  rw [e2]
section
variable {X:Cx}{pins:List (AB×Obj)}{σ:L2.St}{H:Hp}{s:AC}
structure b1e(A:AJ)(s:AC)(u w:AA)(b:Bool):Prop where
 rc:SeqAt.RcAt A s u w b
 ne:SeqAt.RcNeAt A s u w (!b)
 eq:SeqAt.EqAt A s u w b
theorem a6h(A:AJ):A.in1.units=A.units+1:=rfl
theorem b0l{xs:List V}{its:List AA}{j:Nat}(r:m7 xs its)(h:j<its.length):∃x,xs[j]?=some x/\t5 x its[j]:=by
 have hx:j<xs.length:=by rw [r.length];exact h
 obtain⟨u,h1,h2⟩:=r.get (i:=j) (x:=xs[j]) (by simp [hx])
 rw [Az h] at h1
 cases h1
 exact⟨xs[j],by simp [hx],h2⟩
theorem a8F{A:AJ}{ps qs:List PV}{xs ys:List V}{its its2:List AA}(r:l8 X.K H ps xs)(r':l8 X.K H qs ys)(rv:m7 xs its)(rv':m7 ys its2)
 (ih:∀p q x y u w,p∈ps->q∈qs->I0 X.K H p x->I0 X.K H q y->t5 x u->t5 y w->b1e A s u w (PyData.eqv p q)):
 ∀j (h1:j<its.toArray.size) (h2:j<its2.toArray.size),SeqAt.EqAt A s its.toArray[j] its2.toArray[j] (eAt ps qs j):=by
 intro j h1 h2
 have h1':j<its.length:=by simpa using h1
 have h2':j<its2.length:=by simpa using h2
 obtain⟨x,ex,rx⟩:=b0l rv h1'
 obtain⟨y,ey,ry⟩:=b0l rv' h2'
 obtain⟨p,ep,hp⟩:=r.getV ex
 obtain⟨q,eq,hq⟩:=r'.getV ey
 have:eAt ps qs j=PyData.eqv p q:=by simp [eAt,ep,eq]
 rw [this]
 have z:=(ih p q x y _ _ (BD ep) (BD eq) hp hq rx ry).eq
 simpa using z
theorem V2:∀{ps:List PV} {n:Nat} {p:PV},N5 ps n=true->p∈ps->v5 p n=true
 |[],_,_,_,h=>by cases h
 |x::xs,n,p,h,hp=>by
  have h':v5 x n=true/\N5 xs n=true:=by simpa [N5] using h
  rcases Ad.mp hp with rfl|hp
  ·exact h'.1
  ·exact V2 h'.2 hp
theorem a81(I:j7 X pins σ H s):∀(n:Nat) (A:AJ) (p q:PV) (x y:V) (u w:AA),A.units+n<cLine->v5 p n=true->v5 q n=true->I0 X.K H p x->I0 X.K H q y->t5 x u->t5 y w->b1e A s u w (PyData.eqv p q):=by
 intro n
 induction n with
 |zero=>
  intro A p q x y u w hu hp hq rp rq rx ry
  cases p with
  |none=>
   cases rp;cases rx
   cases q with
   |none=>cases rq;cases ry;simp only [PyData.eqv];exact⟨.none_none,.none_none,.same _⟩
   |bool j=>cases rq;cases ry;simp only [PyData.eqv];exact⟨.none_bool _,.none_bool _,.none_bool _⟩
   |int j=>cases rq;obtain⟨ty,rfl⟩:=ry;simp only [PyData.eqv];exact⟨.none_int _ _,.none_int _ _,.none_int _ _⟩
   |str j=>cases rq;obtain⟨ty,rfl⟩:=ry;simp only [PyData.eqv];exact⟨.none_str _ _,.none_str _ _,.none_str _ _⟩
   |dict _=>simp [v5] at hq
   |list _=>simp [v5] at hq
   |tuple _=>simp [v5] at hq
  |bool i=>
   cases rp;cases rx
   cases q with
   |none=>cases rq;cases ry;simp only [PyData.eqv];exact⟨.bool_none _,.bool_none _,.bool_none _⟩
   |bool j=>cases rq;cases ry;simp only [PyData.eqv];exact⟨.bool_bool _ _,.bool_bool _ _,.bool_bool _ _⟩
   |int j=>cases rq;obtain⟨ty,rfl⟩:=ry;simp only [PyData.eqv];exact⟨.bool_int _ _ _,.bool_int _ _ _,.bool_int _ _ _⟩
   |str j=>cases rq;obtain⟨ty,rfl⟩:=ry;simp only [PyData.eqv];exact⟨.bool_str _ _ _,.bool_str _ _ _,.bool_str _ _ _⟩
   |dict _=>simp [v5] at hq
   |list _=>simp [v5] at hq
   |tuple _=>simp [v5] at hq
  |int i=>
   cases rp;obtain⟨tx,rfl⟩:=rx
   cases q with
   |none=>cases rq;cases ry;simp only [PyData.eqv];exact⟨.int_none _ _,.int_none _ _,.int_none _ _⟩
   |bool j=>cases rq;cases ry;simp only [PyData.eqv];exact⟨.int_bool _ _ _,.int_bool _ _ _,.int_bool _ _ _⟩
   |int j=>cases rq;obtain⟨ty,rfl⟩:=ry;simp only [PyData.eqv];exact⟨.int_int _ _ _ _,.int_int _ _ _ _,.int_int _ _ _ _⟩
   |str j=>cases rq;obtain⟨ty,rfl⟩:=ry;simp only [PyData.eqv];exact⟨.int_str _ _ _ _,.int_str _ _ _ _,.int_str _ _ _ _⟩
   |dict _=>simp [v5] at hq
   |list _=>simp [v5] at hq
   |tuple _=>simp [v5] at hq
  |str i=>
   cases rp;obtain⟨tx,rfl⟩:=rx
   cases q with
   |none=>cases rq;cases ry;simp only [PyData.eqv];exact⟨.str_none _ _,.str_none _ _,.str_none _ _⟩
   |bool j=>cases rq;cases ry;simp only [PyData.eqv];exact⟨.str_bool _ _ _,.str_bool _ _ _,.str_bool _ _ _⟩
   |int j=>cases rq;obtain⟨ty,rfl⟩:=ry;simp only [PyData.eqv];exact⟨.str_int _ _ _ _,.str_int _ _ _ _,.str_int _ _ _ _⟩
   |str j=>cases rq;obtain⟨ty,rfl⟩:=ry;simp only [PyData.eqv];exact⟨.str_str _ _ _ _,.str_str _ _ _ _,.str_str _ _ _ _⟩
   |dict _=>simp [v5] at hq
   |list _=>simp [v5] at hq
   |tuple _=>simp [v5] at hq
  |dict _=>simp [v5] at hp
  |list _=>simp [v5] at hp
  |tuple _=>simp [v5] at hp
 |succ n ih=>
  intro A p q x y u w hu hp hq rp rq rx ry
  have hu0:A.units<cLine:=by lia
  have hu1:A.in1.units+n<cLine:=by rw [a6h];lia
  cases p with
  |dict _=>simp [v5] at hp
  |list ps=>
   obtain⟨a,xs,rfl,hs,r⟩:=rp
   cases rx
   obtain⟨its,rv,pl,hz⟩:=I.list hs
   have okp:N5 ps n=true:=by simpa [v5] using hp
   cases q with
   |dict _=>simp [v5] at hq
   |list qs=>
    obtain⟨b,ys,rfl,hs',r'⟩:=rq
    cases ry
    obtain⟨its2,rv',pl',hz'⟩:=I.list hs'
    have okq:N5 qs n=true:=by simpa [v5] using hq
    have hle:its.toArray.size=ps.length:=by rw [<-r.length,rv.length];simp
    have hle':its2.toArray.size=qs.length:=by rw [<-r'.length,rv'.length];simp
    have he:=a8F (A:=A.in1) (s:=s) r r' rv rv' fun p q x y u w hp' hq' rp' rq' rx' ry'=>ih A.in1 p q x y u w hu1 (V2 okp hp') (V2 okq hq') rp' rq' rx' ry'
    simp only [PyData.eqv]
    have main:SeqAt.RcAt A s (.ref a) (.ref b) (PyData.eqvAll ps qs)/\SeqAt.RcNeAt A s (.ref a) (.ref b) (!PyData.eqvAll ps qs):=by
     by_cases e:its.toArray.size=its2.toArray.size
     ·have el:ps.length=qs.length:=by rw [<-hle,<-hle',e]
      have e3:PyData.eqvAll ps qs=(Ao its.toArray.size).all (eAt ps qs):=by
       rw [U5,el,Nat.min_self,hle,el];simp
      rw [e3]
      exact⟨.lists pl.isList pl'.isList e hu0 he,.lists pl.isList pl'.isList e hu0 he⟩
     ·have e3:PyData.eqvAll ps qs=false:=by
       rw [U5]
       have:(ps.length==qs.length)=false:=by
        rw [beq_eq_false_iff_ne];intro z;exact e (by rw [hle,hle',z])
       rw [this,Bool.and_false]
      have e4:(its.toArray.size !=its2.toArray.size)=true:=by simpa using e
      rw [e3]
      exact⟨.lists_lengths pl.isList pl'.isList e4 hu0,.lists_lengths pl.isList pl'.isList e4 hu0⟩
    refine⟨main.1,main.2, ?_⟩
    by_cases hab:a=b
    ·subst hab
     cases I.list_inj hs hs'
     cases l8.inj I ps qs r r'
     rw [Z5 ps n okp]
     exact .same _
    ·exact .of_refs hab main.1
   |tuple qs=>
    obtain⟨b,ys,rfl,hs',r'⟩:=rq
    cases ry
    obtain⟨its2,rv',pl',hz'⟩:=I.tuple hs'.sq
    simp only [PyData.eqv]
    exact⟨.list_tuple pl.isList pl' hu0,.list_tuple pl.isList pl' hu0,.list_tuple pl.isList pl' hu0⟩
   |none=>cases rq;cases ry;simp only [PyData.eqv];exact⟨.list_none pl.isList hu0,.list_none pl.isList hu0,.list_none pl.isList hu0⟩
   |bool k=>cases rq;cases ry;simp only [PyData.eqv];exact⟨.list_bool _ pl.isList hu0,.list_bool _ pl.isList hu0,.list_bool _ pl.isList hu0⟩
   |int k=>cases rq;obtain⟨t,rfl⟩:=ry;simp only [PyData.eqv];exact⟨.list_int _ _ pl.isList hu0,.list_int _ _ pl.isList hu0,.list_int _ _ pl.isList hu0⟩
   |str k=>cases rq;obtain⟨t,rfl⟩:=ry;simp only [PyData.eqv];exact⟨.list_str _ _ pl.isList hu0,.list_str _ _ pl.isList hu0,.list_str _ _ pl.isList hu0⟩
  |tuple ps=>
   obtain⟨a,xs,rfl,hs,r⟩:=rp
   cases rx
   obtain⟨its,rv,pl,hz⟩:=I.tuple hs.sq
   have okp:N5 ps n=true:=by simpa [v5] using hp
   cases q with
   |dict _=>simp [v5] at hq
   |tuple qs=>
    obtain⟨b,ys,rfl,hs',r'⟩:=rq
    cases ry
    obtain⟨its2,rv',pl',hz'⟩:=I.tuple hs'.sq
    have okq:N5 qs n=true:=by simpa [v5] using hq
    have hle:its.toArray.size=ps.length:=by rw [<-r.length,rv.length];simp
    have hle':its2.toArray.size=qs.length:=by rw [<-r'.length,rv'.length];simp
    have he:=a8F (A:=A.in1) (s:=s) r r' rv rv' fun p q x y u w hp' hq' rp' rq' rx' ry'=>ih A.in1 p q x y u w hu1 (V2 okp hp') (V2 okq hq') rp' rq' rx' ry'
    simp only [PyData.eqv]
    have e3:PyData.eqvAll ps qs=((Ao (min its.toArray.size its2.toArray.size)).all (eAt ps qs)&& its.toArray.size==its2.toArray.size):=by
     rw [U5,hle,hle']
    have main:SeqAt.RcAt A s (.ref a) (.ref b) (PyData.eqvAll ps qs)/\SeqAt.RcNeAt A s (.ref a) (.ref b) (!PyData.eqvAll ps qs):=by
     rw [e3]
     exact⟨.tuples pl pl' hu0 he,.tuples pl pl' hu0 he⟩
    refine⟨main.1,main.2, ?_⟩
    by_cases hab:a=b
    ·subst hab
     cases I.tuple_inj hs.sq hs'.sq
     cases l8.inj I ps qs r r'
     rw [Z5 ps n okp]
     exact .same _
    ·exact .of_refs hab main.1
   |list qs=>
    obtain⟨b,ys,rfl,hs',r'⟩:=rq
    cases ry
    obtain⟨its2,rv',pl',hz'⟩:=I.list hs'
    simp only [PyData.eqv]
    exact⟨.tuple_list pl pl'.isList hu0,.tuple_list pl pl'.isList hu0,.tuple_list pl pl'.isList hu0⟩
   |none=>cases rq;cases ry;simp only [PyData.eqv];exact⟨.tuple_none pl hu0,.tuple_none pl hu0,.tuple_none pl hu0⟩
   |bool k=>cases rq;cases ry;simp only [PyData.eqv];exact⟨.tuple_bool _ pl hu0,.tuple_bool _ pl hu0,.tuple_bool _ pl hu0⟩
   |int k=>cases rq;obtain⟨t,rfl⟩:=ry;simp only [PyData.eqv];exact⟨.tuple_int _ _ pl hu0,.tuple_int _ _ pl hu0,.tuple_int _ _ pl hu0⟩
   |str k=>cases rq;obtain⟨t,rfl⟩:=ry;simp only [PyData.eqv];exact⟨.tuple_str _ _ pl hu0,.tuple_str _ _ pl hu0,.tuple_str _ _ pl hu0⟩
  |none=>
   cases q with
   |list qs=>
    obtain⟨b,ys,rfl,hs',r'⟩:=rq;cases ry;obtain⟨its2,rv',pl',hz'⟩:=I.list hs';cases rp;cases rx;simp only [PyData.eqv]
    exact⟨.none_list pl'.isList hu0,.none_list pl'.isList hu0,.none_list pl'.isList hu0⟩
   |tuple qs=>
    obtain⟨b,ys,rfl,hs',r'⟩:=rq;cases ry;obtain⟨its2,rv',pl',hz'⟩:=I.tuple hs'.sq;cases rp;cases rx;simp only [PyData.eqv]
    exact⟨.none_tuple pl' hu0,.none_tuple pl' hu0,.none_tuple pl' hu0⟩
   |dict _=>simp [v5] at hq
   |_=>exact ih A _ _ x y u w (by lia) (by simp [v5]) (by simp [v5]) rp rq rx ry
  |bool k=>
   cases q with
   |list qs=>
    obtain⟨b,ys,rfl,hs',r'⟩:=rq;cases ry;obtain⟨its2,rv',pl',hz'⟩:=I.list hs';cases rp;cases rx;simp only [PyData.eqv]
    exact⟨.bool_list _ pl'.isList hu0,.bool_list _ pl'.isList hu0,.bool_list _ pl'.isList hu0⟩
   |tuple qs=>
    obtain⟨b,ys,rfl,hs',r'⟩:=rq;cases ry;obtain⟨its2,rv',pl',hz'⟩:=I.tuple hs'.sq;cases rp;cases rx;simp only [PyData.eqv]
    exact⟨.bool_tuple _ pl' hu0,.bool_tuple _ pl' hu0,.bool_tuple _ pl' hu0⟩
   |dict _=>simp [v5] at hq
   |_=>exact ih A _ _ x y u w (by lia) (by simp [v5]) (by simp [v5]) rp rq rx ry
  |int k=>
   cases q with
   |list qs=>
    obtain⟨b,ys,rfl,hs',r'⟩:=rq;cases ry;obtain⟨its2,rv',pl',hz'⟩:=I.list hs';cases rp;obtain⟨t,rfl⟩:=rx;simp only [PyData.eqv]
    exact⟨.int_list _ _ pl'.isList hu0,.int_list _ _ pl'.isList hu0,.int_list _ _ pl'.isList hu0⟩
   |tuple qs=>
    obtain⟨b,ys,rfl,hs',r'⟩:=rq;cases ry;obtain⟨its2,rv',pl',hz'⟩:=I.tuple hs'.sq;cases rp;obtain⟨t,rfl⟩:=rx;simp only [PyData.eqv]
    exact⟨.int_tuple _ _ pl' hu0,.int_tuple _ _ pl' hu0,.int_tuple _ _ pl' hu0⟩
   |dict _=>simp [v5] at hq
   |_=>exact ih A _ _ x y u w (by lia) (by simp [v5]) (by simp [v5]) rp rq rx ry
  |str k=>
   cases q with
   |list qs=>
    obtain⟨b,ys,rfl,hs',r'⟩:=rq;cases ry;obtain⟨its2,rv',pl',hz'⟩:=I.list hs';cases rp;obtain⟨t,rfl⟩:=rx;simp only [PyData.eqv]
    exact⟨.str_list _ _ pl'.isList hu0,.str_list _ _ pl'.isList hu0,.str_list _ _ pl'.isList hu0⟩
   |tuple qs=>
    obtain⟨b,ys,rfl,hs',r'⟩:=rq;cases ry;obtain⟨its2,rv',pl',hz'⟩:=I.tuple hs'.sq;cases rp;obtain⟨t,rfl⟩:=rx;simp only [PyData.eqv]
    exact⟨.str_tuple _ _ pl' hu0,.str_tuple _ _ pl' hu0,.str_tuple _ _ pl' hu0⟩
   |dict _=>simp [v5] at hq
   |_=>exact ih A _ _ x y u w (by lia) (by simp [v5]) (by simp [v5]) rp rq rx ry
end
end PU
set_option maxHeartbeats 1000000
namespace PU
open PySem PySem.Spec PyProof.Rows L2
instance:DecidableRel (fun(i j:Int)=>a6F i j):=fun i j=>by unfold a6F;infer_instance
instance (i j:Int):Decidable (a6F i j):=by unfold a6F;infer_instance
instance (i j:Int):Decidable (a0Q i j):=by unfold a0Q;infer_instance
instance (i j:Int):Decidable (b6L i j):=by unfold b6L;infer_instance
def e8.mine:e8->Option (List PV)
 | .ow (.lst ps)=>some ps
 | .bo (.lst ps)=>some ps
 |_=>none
theorem a8a{K:AD}{F H:Hp}{v:V}{r:e8}{ps:List PV}(h:J8 K F H v r)(e:r.mine=some ps):∃a xs,v= .ref a/\F a=none/\H a=some (.lst xs)/\l8 K F ps xs:=by
 cases r with
 |val _=>cases e
 |ow c=>cases c<;>cases e;exact h
 |bo c=>cases c<;>cases e;exact h
def y8(x y:e8):Option e8:=match x,y with
 | .val (.int i),.val (.int j)=>some (.val (.int (i+j)))
 | .val (.str i),.val (.str j)=>if i.length+j.length<=AQ then some (.val (.str (i++j))) else none
 | .val (.tuple ps),.val (.tuple qs)=>if(ps.length≠0/\qs.length≠0)/\ps.length+qs.length<=AQ then some (.val (.tuple (ps++qs))) else none
 |x,y=>match x.mine,y.mine with
  |some ps,some qs=>if ps.length+qs.length<=AQ then some (.own (ps++qs)) else none
  |_,_=>none
section
variable {X:Cx}
theorem l0:OpM X (binaryOp .Add) y8:=by
 intro pins s σ H x y v u Q I rx ry h
 obtain⟨F,ra,rb,rz,s0,h1,h2,h3,k⟩:=h
 unfold y8 at h3
 split at h3
 ·cases h3
  cases h1;cases h2
  exact b54 pins s σ H _ _ v u Q I rx ry ⟨_,_,rfl,rfl,k _ F H (v4.here s0 rfl)⟩
 ·rename_i i j
  split at h3
  ·rename_i c
   cases h3
   cases h1;cases h2
   exact a9k pins s σ H _ _ v u Q I rx ry ⟨i,j,rfl,rfl,c,k _ F H (v4.here s0 rfl)⟩
  ·cases h3
 ·rename_i ps qs
  split at h3
  ·rename_i c
   cases h3
   obtain⟨a,xs,rfl,hq,r⟩:=h1
   obtain⟨b,ys,rfl,hq',r'⟩:=h2
   refine b3Z pins s σ H _ _ v u Q I rx ry ⟨a,b,xs,ys,rfl,rfl,C0 s0 hq.sq,C0 s0 hq'.sq, ?_,by rw [r.length,r'.length];exact c.2, ?_⟩
   ·intro z
    subst z
    exact c.1.1 r.length.symm
   ·refine⟨fun z=> ?_,fun _ p hp=>k _ _ _ (v4.tup s0 hp (r.append r'))⟩
    subst z
    exact absurd r'.length.symm c.1.2
  ·cases h3
 ·split at h3
  ·rename_i ps qs e1 e2
   split at h3
   ·rename_i c
    cases h3
    obtain⟨a,xs,rfl,_,hq,r⟩:=a8a h1 e1
    obtain⟨b,ys,rfl,_,hq',r'⟩:=a8a h2 e2
    refine b55 pins s σ H _ _ v u Q I rx ry ⟨a,b,xs,ys,rfl,rfl,hq,hq',by rw [r.length,r'.length];exact c,fun p hp=> ?_⟩
    exact k _ _ _ (v4.lst s0 hp (r.append r'))
   ·cases h3
  ·cases h3
theorem a1J:OpM X (binaryOp .Sub) (gI fun i j=> .int (i - j)):=b2l b6a fun _ _ _=>rfl
theorem b34:OpM X (binaryOp .Mult) (Z7 a6F fun i j=> .int (i*j)):=a9l b58 fun _ _ _=>rfl
theorem B8:OpM X (binaryOp .Mod) (Z7 (fun _ j=>0<j) fun i j=> .int (i % j)):=a9l b57 fun _ _ _=>rfl
theorem E4:OpM X (binaryOp .FloorDiv) (Z7 a0Q fun i j=> .int (i / j)):=a9l b30 fun _ _ _=>rfl
theorem a2h:OpM X (compareOp .Gt) (gI fun i j=> .bool (decide (j<i))):=b2l b7i fun _ _ _=>rfl
def Z6(x y:e8):Option e8:=if v5 x.rd 50=true/\v5 y.rd 50=true then some (.val (.bool (PyData.eqv x.rd y.rd))) else none
def gNe(x y:e8):Option e8:=if v5 x.rd 50=true/\v5 y.rd 50=true then some (.val (.bool (!PyData.eqv x.rd y.rd))) else none
theorem B4(hu:X.A.units+64<cLine):OpM X (compareOp .Eq) Z6:=by
 intro pins s σ H x y v u Q I rx ry h
 obtain⟨F,ra,rb,rz,s0,h1,h2,h3,k⟩:=h
 unfold Z6 at h3
 split at h3
 ·rename_i c
  cases h3
  have z:=a81 I 50 X.A _ _ x y v u (by lia) c.1 c.2 (h1.rd s0) (h2.rd s0) rx ry
  exact z.rc _ _ _ _ ⟨.bl _,H,I,rfl,k _ F H (v4.here s0 rfl)⟩
 ·cases h3
theorem b2o(hu:X.A.units+64<cLine):OpM X (compareOp .NotEq) gNe:=by
 intro pins s σ H x y v u Q I rx ry h
 obtain⟨F,ra,rb,rz,s0,h1,h2,h3,k⟩:=h
 unfold gNe at h3
 split at h3
 ·rename_i c
  cases h3
  have z:=a81 I 50 X.A _ _ x y v u (by lia) c.1 c.2 (h1.rd s0) (h2.rd s0) rx ry
  exact z.ne _ _ _ _ ⟨.bl _,H,I,rfl,k _ F H (v4.here s0 rfl)⟩
 ·cases h3
open Classical in
def a1P(K:AD)(H:Hp)(q:PV)(u:AA):Bool:=if h:∃p v,t5 v u/\I0 K H p v then PyData.eqv h.choose q else false
theorem a9D{pins:List (AB×Obj)}{σ:L2.St}{H:Hp}{s:AC}(I:j7 X pins σ H s){p q:PV}{v:V}{u:AA}(r:t5 v u)(h:I0 X.K H p v):a1P X.K H q u=PyData.eqv p q:=by
 have hx:∃p v,t5 v u/\I0 X.K H p v:=⟨p,v,r,h⟩
 unfold a1P
 rw [dif_pos hx]
 obtain⟨v',r',h'⟩:=hx.choose_spec
 cases r.inj r'
 rw [I0.inj I _ _ h' h]
theorem a0Z{pins:List (AB×Obj)}{σ:L2.St}{H:Hp}{s:AC}(I:j7 X pins σ H s){q:PV}:∀{ps:List PV} {xs:List V} {us:List AA},l8 X.K H ps xs->m7 xs us->us.any (a1P X.K H q)=ps.any fun p=>PyData.eqv p q
 |[],_,_,r,v=>by cases r;cases v;rfl
 |p::ps,_,_,⟨x,r,e,h,t⟩,v=>by
  subst e
  cases v with
  |cons a b=>rw [List.any_cons,List.any_cons,a9D I a h,a0Z I t b]
theorem a90{H:Hp}:∀{ps:List PV} {xs:List V} {us:List AA} {u:AA},l8 X.K H ps xs->m7 xs us->u∈us->∃p x,p∈ps/\t5 x u/\I0 X.K H p x
 |[],_,_,_,r,v,h=>by cases r;cases v;cases h
 |p::ps,_,_,u,⟨x,r,e,hp,t⟩,v,h=>by
  subst e
  cases v with
  |cons a b=>
   rcases Ad.mp h with rfl|h
   ·exact⟨p,x,Af,a,hp⟩
   ·obtain⟨p',x',h1,h2,h3⟩:=a90 t b h
    exact⟨p',x',Ae _ h1,h2,h3⟩
def PyData.items?:PV->Option (List PV)
 | .list ps=>some ps
 | .tuple ps=>some ps
 |_=>none
def gIn(neg:Bool)(x y:e8):Option e8:=match PyData.items? y.rd with
 |some ps=>if v5 x.rd 50=true/\N5 ps 50=true then some (.val (.bool (if neg then !(ps.any fun p=>PyData.eqv p x.rd) else ps.any fun p=>PyData.eqv p x.rd))) else none
 |none=>none
theorem a2D{pins:List (AB×Obj)}{σ:L2.St}{H:Hp}{s:AC}(I:j7 X pins σ H s)(hu:X.A.units+64<cLine){q:PV}{ps:List PV}{x:V}{xs:List V}{v:AA}{us:List AA}(hq:v5 q 50=true)(hp:N5 ps 50=true)
 (rq:I0 X.K H q x) (rx:t5 x v) (r:l8 X.K H ps xs) (rv:m7 xs us):∀y,y∈us.toArray->SeqAt.EqAt X.A.in1 s y v (a1P X.K H q y):=by
 intro y hy
 have hy':y∈us:=by simpa using hy
 obtain⟨p,z,h1,h2,h3⟩:=a90 r rv hy'
 rw [a9D I h2 h3]
 exact(a81 I 50 X.A.in1 p q z x y v (by rw [a6h];lia) (V2 hp h1) hq h3 rq h2 rx).eq
theorem Q0{F H:Hp}{v:V}{r:e8}{ps:List PV}(s0:l7 F H)(h:J8 X.K F H v r)(e:PyData.items? r.rd=some ps):∃a xs,v= .ref a/\(SqL X.K H a xs\/SqT X.K H a xs)/\l8 X.K F ps xs:=by
 cases r with
 |val p=>
  cases p with
  |list qs=>cases e;obtain⟨a,xs,rfl,hq,r⟩:=h;exact⟨a,xs,rfl,.inl (S4 s0 hq),r⟩
  |tuple qs=>cases e;obtain⟨a,xs,rfl,hq,r⟩:=h;exact⟨a,xs,rfl,.inr (C0 s0 hq.sq),r⟩
  |_=>cases e
 |ow c=>cases c<;>cases e;obtain⟨a,xs,rfl,_,hq,r⟩:=h;exact⟨a,xs,rfl,.inl (SqL.of hq),r⟩
 |bo c=>cases c<;>cases e;obtain⟨a,xs,rfl,_,hq,r⟩:=h;exact⟨a,xs,rfl,.inl (SqL.of hq),r⟩
theorem b6b(hu:X.A.units+64<cLine):OpM X (compareOp .In) (gIn false):=by
 intro pins s σ H x y v u Q I rx ry h
 obtain⟨F,ra,rb,rz,s0,h1,h2,h3,k⟩:=h
 unfold gIn at h3
 split at h3
 ·rename_i ps e
  split at h3
  ·rename_i c
   cases h3
   obtain⟨a,xs,rfl,hq,r⟩:=Q0 s0 h2 e
   cases ry
   have rH:=l8.mono s0 _ r
   rcases hq with hq|hq
   ·obtain⟨its,rv,pl,hz⟩:=I.list hq
    refine SeqAt.in_listAt (a1P X.K H ra.rd) pl.isList (a2D I hu c.1 c.2 (h1.rd s0) rx rH rv) ⟨.bl _,H,I,rfl, ?_⟩
    rw [show its.toArray.any (a1P X.K H ra.rd)=its.any (a1P X.K H ra.rd) by simp,a0Z I rH rv]
    exact k _ F H (v4.here s0 rfl)
   ·obtain⟨its,rv,pl,hz⟩:=I.tuple hq
    refine SeqAt.in_tupleAt (a1P X.K H ra.rd) pl (a2D I hu c.1 c.2 (h1.rd s0) rx rH rv) ⟨.bl _,H,I,rfl, ?_⟩
    rw [show its.toArray.any (a1P X.K H ra.rd)=its.any (a1P X.K H ra.rd) by simp,a0Z I rH rv]
    exact k _ F H (v4.here s0 rfl)
  ·cases h3
 ·cases h3
theorem b00(hu:X.A.units+64<cLine):OpM X (compareOp .NotIn) (gIn true):=by
 intro pins s σ H x y v u Q I rx ry h
 obtain⟨F,ra,rb,rz,s0,h1,h2,h3,k⟩:=h
 unfold gIn at h3
 split at h3
 ·rename_i ps e
  split at h3
  ·rename_i c
   cases h3
   obtain⟨a,xs,rfl,hq,r⟩:=Q0 s0 h2 e
   cases ry
   have rH:=l8.mono s0 _ r
   rcases hq with hq|hq
   ·obtain⟨its,rv,pl,hz⟩:=I.list hq
    refine SeqAt.notIn_listAt (a1P X.K H ra.rd) pl.isList (a2D I hu c.1 c.2 (h1.rd s0) rx rH rv) ⟨.bl _,H,I,rfl, ?_⟩
    rw [show its.toArray.any (a1P X.K H ra.rd)=its.any (a1P X.K H ra.rd) by simp,a0Z I rH rv]
    exact k _ F H (v4.here s0 rfl)
   ·obtain⟨its,rv,pl,hz⟩:=I.tuple hq
    refine SeqAt.notIn_tupleAt (a1P X.K H ra.rd) pl (a2D I hu c.1 c.2 (h1.rd s0) rx rH rv) ⟨.bl _,H,I,rfl, ?_⟩
    rw [show its.toArray.any (a1P X.K H ra.rd)=its.any (a1P X.K H ra.rd) by simp,a0Z I rH rv]
    exact k _ F H (v4.here s0 rfl)
  ·cases h3
 ·cases h3
def b1P(neg:Bool)(x y:e8):Option e8:=match y with
 | .val .none=>(match x.rd with
   | .none=>some (.val (.bool (!neg)))
   |_=>some (.val (.bool neg)))
 |_=>none
def PyData.isNone:PV->Bool
 | .none=>true
 |_=>false
theorem b0b{K:AD}{H:Hp}{p:PV}{v:V}(h:I0 K H p v):decide (v=V.non)=PyData.isNone p:=by
 cases p with
 |none=>cases h;rfl
 |bool _=>cases h;rfl
 |int _=>cases h;rfl
 |str _=>cases h;rfl
 |list _=>obtain⟨_,_,rfl,_⟩:=h;rfl
 |tuple _=>obtain⟨_,_,rfl,_⟩:=h;rfl
 |dict _=>
  rcases h with⟨_,_,rfl,_⟩|⟨_,_,rfl,_⟩|⟨_,_,_,h⟩|⟨_,_,_,h,_⟩
  ·rfl
  ·rfl
  ·obtain⟨_,rfl⟩:=h.ref;rfl
  ·obtain⟨_,rfl⟩:=h.ref;rfl
theorem b33:OpM X (compareOp .Is) (b1P false):=
 a1I b56 fun F H x y rx ry rz s0 h1 h2 h3 Q k=>by
  unfold b1P at h3
  split at h3
  ·cases h2
   have e:=b0b (h1.rd s0)
   refine⟨rfl, ?_⟩
   rw [e]
   cases hp:rx.rd<;>rw [hp] at h3<;>cases h3<;>exact k _ F H (v4.here s0 rfl)
  ·cases h3
theorem b2q:OpM X (compareOp .IsNot) (b1P true):=
 a1I b31 fun F H x y rx ry rz s0 h1 h2 h3 Q k=>by
  unfold b1P at h3
  split at h3
  ·cases h2
   have e:=b0b (h1.rd s0)
   refine⟨rfl, ?_⟩
   rw [e]
   cases hp:rx.rd<;>rw [hp] at h3<;>cases h3<;>exact k _ F H (v4.here s0 rfl)
  ·cases h3
def b5X(m:M):M:=fun ρ=>(m ρ).bind fun r=>match r with
 | .val (.int i)=>some (.val (.int (-i)))
 |_=>none
theorem b5w{a:AF}{ma:M}{pos:Pos}(ha:EE X a ma):EE X (.UnaryOp .USub a pos) (b5X ma):=
 B5 (b7r b6F ha) fun σ H Q ⟨F,ρ,r,he,hm,k⟩=>by
  obtain⟨rx,e1,hm⟩:=bind_some hm
  refine⟨F,ρ,rx,he,e1,fun v F1 H1 o1=> ?_⟩
  split at hm
  ·cases hm
   exact⟨_,o1.rep,k _ F1 H1 (v4.trans o1.x (v4.here o1.x.fh rfl))⟩
  ·cases hm
def v7(x y:e8):Option e8:=match y with
 | .val (.int i)=>(match x.rd with
   | .str z=>if z.length<=AQ then(atI z.cps.toList i).map fun c=> .val (.str ⟨#[c]⟩) else none
   |p=>match PyData.items? p with
    |some ps=>(atI ps i).map .val
    |none=>none)
 |_=>none
theorem l8.atI{K:AD}{H:Hp}{ps:List PV}{xs:List V}{i:Int}{p:PV}(r:l8 K H ps xs)(e:L2.atI ps i=some p):∃v,L2.atI xs i=some v/\I0 K H p v:=by
 unfold L2.atI at e ⊢
 rw [r.length]
 obtain⟨j,e1,e2⟩:=bind_some e
 rw [e1]
 exact r.get e2
theorem ixm:IxR X (rM2 X.K v7):=by
 intro value slice pins s σ H x y v u Q I rx ry h hs
 obtain⟨F,ra,rb,rz,s0,h1,h2,h3,k⟩:=h
 unfold v7 at h3
 split at h3
 ·rename_i i
  cases h2
  split at h3
  ·rename_i z ez
   split at h3
   ·rename_i c
    have rr:=h1.rd s0
    rw [ez] at rr
    cases rr
    cases ea:L2.atI z.cps.toList i with
    |none=>rw [ea] at h3;cases h3
    |some ch=>
     rw [ea] at h3;cases h3
     exact b5P value slice pins s σ H _ _ v u Q I rx ry ⟨z,i,ch,rfl,rfl,c,ea,k _ F H (v4.here s0 rfl)⟩ hs
   ·cases h3
  ·split at h3
   ·rename_i ps e
    cases ea:L2.atI ps i with
    |none=>rw [ea] at h3;cases h3
    |some p=>
     rw [ea] at h3;cases h3
     obtain⟨a,xs,rfl,hq,r⟩:=Q0 s0 h1 e
     obtain⟨z,ez,rp⟩:=r.atI ea
     rcases hq with hq|hq
     ·exact b3J value slice pins s σ H _ _ v u Q I rx ry ⟨a,xs,i,z,rfl,rfl,hq,ez,k _ F H (v4.here s0 rp)⟩ hs
     ·exact b5Q value slice pins s σ H _ _ v u Q I rx ry ⟨a,xs,i,z,rfl,rfl,hq,ez,k _ F H (v4.here s0 rp)⟩ hs
   ·cases h3
 ·cases h3
theorem n8{a b:AF}{ma mb:M}{pos:Pos}(ha:EE X a ma)(hb:EE X b mb)(hs:a9w b:=by intro _ _;rfl):EE X (.Subscript a b pos) (m2 v7 ma mb):=
 B5 (b7o ixm ha hb hs) fun _ _ _ h=>a7A h
abbrev MA:=c7->Option (List PV)
def tMA(K:AD)(m:MA):TA:=fun σ H Q=>∃F ρ ps,F8 K F H σ ρ/\m ρ=some ps/\∀vs F' H',Ext F H F' H'->l8 K F' ps vs->Q vs H'
abbrev EA(X:Cx)(es:List AF)(m:MA):Prop:=PA X es (tMA X.K m)
def j1:MA:=fun _=>some []
def b0(m:M)(r:MA):MA:=fun ρ=>((m ρ).bind e8.toVal).bind fun p=>(r ρ).bind fun ps=>some (p::ps)
theorem i6:EA X [] j1:=b2t T3 fun σ H Q ⟨F,ρ,ps,he,hm,k⟩=>by
 cases hm
 exact k [] F H (Ext.refl he.fh) rfl
theorem a9{e:AF}{es:List AF}{m:M}{r:MA}(ha:EE X e m)(hr:EA X es r)(hs:AM (e::es) X.env=(false,eval e X.env)::AM es X.env:=by rfl):EA X (e::es) (b0 m r):=
 b2t (B9 ha hr hs) fun σ H Q ⟨F,ρ,ps,he,hm,k⟩=>by
  obtain⟨p,e1,hm⟩:=bind_some hm
  obtain⟨r1,e1,e2⟩:=bind_some e1
  obtain⟨qs,e3,hm⟩:=bind_some hm
  cases hm
  refine⟨F,ρ,r1,he,e1,fun v F1 H1 o1=> ?_⟩
  obtain⟨F2,o2⟩:=o1.toVal e2
  exact⟨F2,ρ,qs,he.ext o2.x,e3,fun vs F3 H3 x3 rl=>k _ F3 H3 (o2.x.trans x3) ⟨v,vs,rfl,I0.mono x3.f _ o2.rep,rl⟩⟩
def a0R(m:MA):M:=fun ρ=>(m ρ).bind fun ps=>if ps.length<=AQ then some (.val (.tuple ps)) else none
def a3v(m:MA):M:=fun ρ=>(m ρ).bind fun ps=>if ps.length<=AQ then some (.own ps) else none
theorem N4{es:List AF}{m:MA}{x1:Nat}{pos:Pos}(h:EA X es m):EE X (.Tuple es x1 pos) (a0R m):=
 B5 (b6i h) fun σ H Q ⟨F,ρ,r,he,hm,k⟩=>by
  obtain⟨ps,e1,hm⟩:=bind_some hm
  split at hm
  ·rename_i c
   cases hm
   exact⟨F,ρ,ps,he,e1,fun vs F1 H1 x rl=>⟨by rw [rl.length];exact c,fun p hp=>k _ _ _ (v4.trans x (v4.tup x.fh hp rl))⟩⟩
  ·cases hm
theorem V7{es:List AF}{m:MA}{pos:Pos}(h:EA X es m):EE X (.List es pos) (a3v m):=
 B5 (b6e h) fun σ H Q ⟨F,ρ,r,he,hm,k⟩=>by
  obtain⟨ps,e1,hm⟩:=bind_some hm
  split at hm
  ·rename_i c
   cases hm
   exact⟨F,ρ,ps,he,e1,fun vs F1 H1 x rl=>⟨by rw [rl.length];exact c,fun p hp=>k _ _ _ (v4.trans x (v4.lst x.fh hp rl))⟩⟩
  ·cases hm
def spP(K:AD)(n:Nat)(g:List PV->Option e8):Sp:=fun vs H Q _=>∃F ps r,l7 F H/\l8 K F ps vs/\ps.length=n/\g ps=some r/\∀v F' H',v4 K F H F' H' v r->Q v H'
def u4(g:List PV->Option e8)(m:MA):M:=fun ρ=>(m ρ).bind g
theorem b3p{k n:Nat}{f:AB}{fd:FuncData}{ps:List Str}{g:List PV->Option e8}{x:Str}{p pos:Pos}{e:AF}{es:List AF}{m:MA}
 (G:R3 X.prog X.w X.K X.mg X.base CX0 k f fd ps (spP X.K n g)) (hr:J3 k X.A) (hg:Gl X x) (hm:X.mg x=some (.ref f)) (hk:PySem.W.keepIn X.K (.ref f)=true) (hb:a0I X.K fd ps []) (hn:∀ρ ps,m ρ=some ps->ps.length=n) (ha:EA X (e::es) m)
 (hdb:(x==("__debug__":Str))=false:=by decide) (he:AM (e::es) X.env=(false,eval e X.env)::AM es X.env:=by rfl) (hpl:(backTo pos (AM es X.env)).any (·.1)=false:=by rfl):
 EE X (.Call (.Name x p) (e::es) [] pos) (u4 g m):=
 B5 (b36 G hr hg hm hk hb .nil b46 ha hdb he hpl) fun σ H Q ⟨F,ρ,r,he,hm,k⟩=>by
  obtain⟨qs,e1,hm⟩:=bind_some hm
  refine⟨F,ρ,qs,he,e1,fun vs F1 H1 x rl=> ?_⟩
  show spP X.K n g (vs++[]) H1 Q E0
  rw [Ag]
  exact⟨F1,qs,r,x.fh,rl,hn _ _ e1,hm,fun v F2 H2 o=>k v F2 H2 (v4.trans x o)⟩
theorem l3:∀ρ ps,j1 ρ=some ps->ps.length=0:=fun _ _ h=>by cases h;rfl
theorem d6{m:M}{r:MA}{n:Nat}(h:∀ρ ps,r ρ=some ps->ps.length=n):∀ρ ps,b0 m r ρ=some ps->ps.length=n+1:=fun ρ ps e=>by
 obtain⟨p,e1,e⟩:=bind_some e
 obtain⟨qs,e3,e⟩:=bind_some e
 cases e
 rw [AS,h ρ qs e3]
end
mutual
def a0o(K:AD):Nat->AA->Option PV
 |0,_=>none
 |_+1,.none=>some .none
 |_+1,.bool b=>some (.bool b)
 |_+1,.int i _=>some (.int i)
 |_+1,.str x _=>some (.str x)
 |n+1,.ref a=>match K.lookup a with
  |some ⟨.type "tuple",_,.seq its _,_⟩=>if its.size<=1000 then(a2r K n its.toList).map .tuple else none
  |some ⟨.type "list",none,.seq its _,_⟩=>if its.size<=1000 then(a2r K n its.toList).map .list else none
  |_=>none
 |_+1,_=>none
def a2r(K:AD):Nat->List AA->Option (List PV)
 |0,_=>none
 |_+1,[]=>some []
 |n+1,u::us=>(a0o K n u).bind fun p=>(a2r K n us).bind fun ps=>some (p::ps)
end
theorem a5C{n:Nat}(h:n<=1000):n<=AQ:=BF (b06 h)
theorem b1p(K:AD):∀(n:Nat),(∀(u:AA) (p:PV),a0o K n u=some p->∃v,t5 v u/\∀H,I0 K H p v)/\(∀(us:List AA) (ps:List PV),a2r K n us=some ps->∃vs,m7 vs us/\∀H,l8 K H ps vs):=by
 intro n
 induction n with
 |zero=>exact⟨fun u p h=>by simp [a0o] at h,fun u p h=>by simp [a2r] at h⟩
 |succ n ih=>
  constructor
  ·intro u p h
   cases u with
   |none=>simp only [a0o] at h;cases h;exact⟨.non,rfl,fun _=>rfl⟩
   |bool b=>simp only [a0o] at h;cases h;exact⟨.bl b,rfl,fun _=>rfl⟩
   |int i t=>simp only [a0o] at h;cases h;exact⟨.int i,⟨t,rfl⟩,fun _=>rfl⟩
   |str x t=>simp only [a0o] at h;cases h;exact⟨.str x,⟨t,rfl⟩,fun _=>rfl⟩
   |ref a=>
    simp only [a0o] at h
    split at h
    ·rename_i d its m sl e
     split at h
     ·rename_i c
      cases q:a2r K n its.toList with
      |none=>rw [q] at h;cases h
      |some ps=>
       rw [q] at h;cases h
       obtain⟨vs,h1,h2⟩:=ih.2 _ _ q
       exact⟨.ref a,rfl,fun H=>⟨a,vs,rfl,.inr ⟨_,its,m,e,rfl,rfl,a5C c,h1⟩,h2 H⟩⟩
     ·cases h
    ·rename_i its m sl e
     split at h
     ·rename_i c
      cases q:a2r K n its.toList with
      |none=>rw [q] at h;cases h
      |some ps=>
       rw [q] at h;cases h
       obtain⟨vs,h1,h2⟩:=ih.2 _ _ q
       exact⟨.ref a,rfl,fun H=>⟨a,vs,rfl,.inr ⟨_,its,m,e,rfl,rfl,rfl,a5C c,h1⟩,h2 H⟩⟩
     ·cases h
    ·cases h
   |_=>simp [a0o] at h
  ·intro us ps h
   cases us with
   |nil=>simp only [a2r] at h;cases h;exact⟨[],.nil,fun _=>rfl⟩
   |cons u us=>
    simp only [a2r] at h
    obtain⟨p,e1,h⟩:=bind_some h
    obtain⟨qs,e2,h⟩:=bind_some h
    cases h
    obtain⟨v,r1,r2⟩:=ih.1 _ _ e1
    obtain⟨vs,r3,r4⟩:=ih.2 _ _ e2
    exact⟨v::vs,.cons r1 r3,fun H=>⟨v,vs,rfl,r2 H,r4 H⟩⟩
section
variable {X:Cx}
theorem a4l{x:Str}{u:AA}{p:PV}{pos:Pos}{n:Nat}(hg:Gl X x)(hm:X.mg x=some u)(ha:a0o X.K n u=some p)(hd:(x==("__debug__":Str))=false:=by decide):EE X (.Name x pos) (mC p):=by
 obtain⟨v,r,h⟩:=(b1p X.K n).1 u p ha
 exact Z4 (a7o hg hm r hd) h
def b7c:PV->Option u7
 | .int i=>some (.inl i)
 | .str x=>some (.inr x)
 |_=>none
def b4S:List DictEntry->Option (List (u7×AA))
 |[]=>some []
 |e::es=>match e.key with
  | .int i _=>(b4S es).map fun r=>(.inl i,e.val)::r
  | .str x _=>(b4S es).map fun r=>(.inr x,e.val)::r
  |_=>none
def b3h{κ:Type}(K:AD)(n:Nat):List (κ×AA)->Option (List (κ×PV))
 |[]=>some []
 |(k,u)::r=>(a0o K n u).bind fun p=>(b3h K n r).bind fun t=>some ((k,p)::t)
def b7e{κ:Type}[DecidableEq κ](tbl:List (κ×PV))(k:κ):Option PV:=match tbl with
 |[]=>none
 |(k',p)::r=>if k'=k then some p else b7e r k
def b5V:List PV->Option (List u7)
 |[]=>some []
 |p::ps=>(b7c p).bind fun k=>(b5V ps).bind fun ks=>some (k::ks)
def a3q:List AA->Option (List u7)
 |[]=>some []
 | .int i _::r=>(a3q r).map fun t=> .inl i::t
 | .str x _::r=>(a3q r).map fun t=> .inr x::t
 |_::_=>none
end
def b61(K:AD):List DictEntry->Option (List (List u7×AB×AA))
 |[]=>some []
 |e::es=>match e.key with
  | .ref b=>(match K.lookup b with
    |some ⟨.type "tuple",_,.seq its _,_⟩=>(a3q its.toList).bind fun ks=>(b61 K es).bind fun r=>some ((ks,b,e.val)::r)
    |_=>none)
  |_=>none
def b1q(K:AD)(n:Nat):List (List u7×AB×AA)->Option (List (List u7×PV))
 |[]=>some []
 |(k,_,u)::r=>(a0o K n u).bind fun p=>(b1q K n r).bind fun t=>some ((k,p)::t)
section
variable {X:Cx}
abbrev MT:=c7->Option Bool
def tMT(K:AD)(c:MT):TT:=fun σ H Q=>∃F ρ b,F8 K F H σ ρ/\c ρ=some b/\∀F' H',Ext F H F' H'->Q b H'
abbrev ET(X:Cx)(e:AF)(c:MT):Prop:=PT X e (tMT X.K c)
abbrev EW(X:Cx)(e:AF)(c:MT):Prop:=PW X e (tMT X.K c)
def a5t:e8->Option Bool
 | .val (.bool b)=>some b
 |_=>none
def tru(r:e8):Option Bool:=match r.rd with
 | .none=>some false
 | .bool b=>some b
 | .int i=>some (i !=0)
 | .str z=>if z.length<=AQ then some ((z.length:Int) !=0) else none
 | .list ps=>some (!ps.isEmpty)
 | .tuple ps=>some (!ps.isEmpty)
 | .dict _=>none
def mtV(m:M):MT:=fun ρ=>(m ρ).bind tru
def E3(m:M):MT:=fun ρ=>(m ρ).bind a5t
theorem l8.empty{K:AD}{H:Hp}{ps:List PV}{vs:List V}(r:l8 K H ps vs):vs.isEmpty=ps.isEmpty:=by
 cases ps with
 |nil=>cases r;rfl
 |cons p ps=>obtain⟨_,_,e,_⟩:=r;subst e;rfl
theorem b4C{H:Hp}{r:e8}{v:V}{b:Bool}(h:I0 X.K H r.rd v)(e:tru r=some b):b5k X.K v H b:=by
 unfold tru at e
 cases hp:r.rd with
 |none=>rw [hp] at h e;cases h;cases e;exact rfl
 |bool k=>rw [hp] at h e;cases h;cases e;exact rfl
 |int i=>rw [hp] at h e;cases h;cases e;exact rfl
 |str z=>
  rw [hp] at h e;cases h
  dsimp only at e
  split at e
  ·rename_i c;cases e;exact⟨c,rfl⟩
  ·cases e
 |list ps=>rw [hp] at h e;obtain⟨a,xs,rfl,hq,rl⟩:=h;cases e;exact .inl ⟨xs,hq,by rw [rl.empty]⟩
 |tuple ps=>rw [hp] at h e;obtain⟨a,xs,rfl,hq,rl⟩:=h;cases e;exact .inr (.inl ⟨xs,hq.sq,by rw [rl.empty]⟩)
 |dict _=>rw [hp] at e;cases e
theorem X8{e:AF}{m:M}(h:EE X e m)(he:∀whole,isTrue e X.env whole=(do let v<-whole;standAt e.pos;holding [v] (truthy v)):=by intro _;rfl):ET X e (mtV m):=
 a7q (b2G h he) fun σ H Q ⟨F,ρ,b,h1,h2,k⟩=>by
  obtain⟨r,e1,e2⟩:=bind_some h2
  exact⟨F,ρ,r,h1,e1,fun v F1 H1 o=>⟨b,b4C (o.rep.rd o.x.fh) e2,k F1 H1 o.x⟩⟩
theorem a1d{K:AD}{F H:Hp}{r:e8}{v:V}{b:Bool}(h:J8 K F H v r)(e:a5t r=some b):v= .bl b:=by
 unfold a5t at e
 split at e
 ·cases e;exact h
 ·cases e
theorem k7{a b:AF}{ma mb:M}{pos:Pos}{op:CmpOp}{g:e8->e8->Option e8}(ho:OpM X (compareOp op) g)(ha:EE X a ma)(hb:EE X b mb)(hm:behindInMarks op b=false):ET X (.Compare a [op] [b] pos) (E3 (m2 g ma mb)):=
 a7q (b4e ho ha hb hm) fun σ H Q ⟨F,ρ,k,h1,h2,q⟩=>by
  obtain⟨r,e1,e2⟩:=bind_some h2
  exact a7A ⟨F,ρ,r,h1,e1,fun v F1 H1 o=>⟨k,a1d o.rep e2,q F1 H1 o.x⟩⟩
def M2(c:MT):MT:=fun ρ=>(c ρ).map not
theorem V8{a:AF}{c:MT}{pos:Pos}(ha:ET X a c):ET X (.UnaryOp .Not a pos) (M2 c):=
 a7q (b6p ha) fun σ H Q ⟨F,ρ,k,h1,h2,q⟩=>by
  unfold M2 at h2
  cases e:c ρ with
  |none=>rw [e] at h2;cases h2
  |some b=>rw [e] at h2;cases h2;exact⟨F,ρ,b,h1,e,q⟩
def W8(c d:MT):MT:=fun ρ=>(c ρ).bind fun b=>if b=true then d ρ else some false
def U8(c d:MT):MT:=fun ρ=>(c ρ).bind fun b=>if b=true then some true else d ρ
theorem a2A{a:AF}{c:MT}{pos:Pos}(ha:ET X a c):EW X (.BoolOp .And [a] pos) c:=b4g ha
theorem P9{a:AF}{c:MT}{pos:Pos}(ha:ET X a c):EW X (.BoolOp .Or [a] pos) c:=b6r ha
theorem a3k{a b:AF}{u9:List AF}{c d:MT}{pos:Pos}(ha:ET X a c)(hb:EW X (.BoolOp .And (b::u9) pos) d):EW X (.BoolOp .And (a::b::u9) pos) (W8 c d):=
 b2I (b6q ha hb) fun σ H Q ⟨F,ρ,k,h1,h2,q⟩=>by
  obtain⟨b,e1,e2⟩:=bind_some h2
  refine⟨F,ρ,b,h1,e1,fun F1 H1 x=> ?_⟩
  cases b with
  |true=>exact a64 ⟨F1,ρ,k,h1.ext x,e2,fun F2 H2 y=>q F2 H2 (x.trans y)⟩
  |false=>cases e2;exact a63 (q F1 H1 x)
theorem R6{a b:AF}{u9:List AF}{c d:MT}{pos:Pos}(ha:ET X a c)(hb:EW X (.BoolOp .Or (b::u9) pos) d):EW X (.BoolOp .Or (a::b::u9) pos) (U8 c d):=
 b2I (b7v ha hb) fun σ H Q ⟨F,ρ,k,h1,h2,q⟩=>by
  obtain⟨b,e1,e2⟩:=bind_some h2
  refine⟨F,ρ,b,h1,e1,fun F1 H1 x=> ?_⟩
  cases b with
  |false=>exact a63 ⟨F1,ρ,k,h1.ext x,e2,fun F2 H2 y=>q F2 H2 (x.trans y)⟩
  |true=>cases e2;exact a64 (q F1 H1 x)
def b17(m n:M):M:=fun ρ=>(m ρ).bind fun r=>(a5t r).bind fun b=>if b=true then n ρ else some (.val (.bool false))
def mOr(m n:M):M:=fun ρ=>(m ρ).bind fun r=>(a5t r).bind fun b=>if b=true then some (.val (.bool true)) else n ρ
theorem b1E{op:BoolOp}{a:AF}{m:M}{pos:Pos}(h:EE X a m):EE X (.BoolOp op [a] pos) m:=b6g h
theorem a80{a b:AF}{u9:List AF}{m n:M}{pos:Pos}(ha:EE X a m)(hb:EE X (.BoolOp .And (b::u9) pos) n):EE X (.BoolOp .And (a::b::u9) pos) (b17 m n):=
 B5 (b6c ha hb) fun σ H Q ⟨F,ρ,r,h1,h2,q⟩=>by
  obtain⟨r1,e1,h2⟩:=bind_some h2
  obtain⟨b,e2,h2⟩:=bind_some h2
  refine⟨F,ρ,r1,h1,e1,fun v F1 H1 o=>⟨b,a1d o.rep e2, ?_⟩⟩
  cases b with
  |true=>exact a64 ⟨F1,ρ,r,h1.ext o.x,h2,fun w F2 H2 y=>q w F2 H2 (v4.trans o.x y)⟩
  |false=>cases h2;exact a63 (q _ F1 H1 (v4.val o.x rfl))
theorem b60{a b:AF}{u9:List AF}{m n:M}{pos:Pos}(ha:EE X a m)(hb:EE X (.BoolOp .Or (b::u9) pos) n):EE X (.BoolOp .Or (a::b::u9) pos) (mOr m n):=
 B5 (b7q ha hb) fun σ H Q ⟨F,ρ,r,h1,h2,q⟩=>by
  obtain⟨r1,e1,h2⟩:=bind_some h2
  obtain⟨b,e2,h2⟩:=bind_some h2
  refine⟨F,ρ,r1,h1,e1,fun v F1 H1 o=>⟨b,a1d o.rep e2, ?_⟩⟩
  cases b with
  |false=>exact a63 ⟨F1,ρ,r,h1.ext o.x,h2,fun w F2 H2 y=>q w F2 H2 (v4.trans o.x y)⟩
  |true=>cases h2;exact a64 (q _ F1 H1 (v4.val o.x rfl))
def Y0(g g':e8->e8->Option e8)(ma mb mc:M):M:=fun ρ=>(ma ρ).bind fun x=>(mb ρ).bind fun y=>(g x y).bind fun z=>(a5t z).bind fun b=>if b=true then(mc ρ).bind fun w=>g' y w else some (.val (.bool false))
theorem b1v{ma mb mc:M}{g g':e8->e8->Option e8}{σ:L2.St}{H:Hp}{Q:VK}(h:tM X.K (Y0 g g' ma mb mc) σ H Q):b2X (rM2 X.K g) (rM2 X.K g') (tM X.K ma) (tM X.K mb) (tM X.K mc) σ H Q:=by
 obtain⟨F,ρ,r,he,hm,k⟩:=h
 obtain⟨rx,e1,hm⟩:=bind_some hm
 obtain⟨ry,e2,hm⟩:=bind_some hm
 obtain⟨rz,e3,hm⟩:=bind_some hm
 obtain⟨b,e4,hm⟩:=bind_some hm
 refine⟨F,ρ,rx,he,e1,fun v F1 H1 o1=>⟨F1,ρ,ry,he.ext o1.x,e2,fun u F2 H2 o2=>⟨F2,rx,ry,rz,o2.x.fh,o1.rep.ext o2.x,o2.rep,e3,fun z F3 H3 o3=>⟨b,a1d o3.rep e4, ?_⟩⟩⟩⟩
 have x3:=(o1.x.trans o2.x).trans o3.x
 cases b with
 |true=>
  rw [if_pos rfl] at hm
  obtain⟨rw',e5,hm⟩:=bind_some hm
  exact a64 ⟨F3,ρ,rw',he.ext x3,e5,fun w F4 H4 o4=>⟨F4,ry,rw',r,o4.x.fh,(o2.rep.ext o3.x).ext o4.x,o4.rep,hm,fun z F5 H5 o5=>k z F5 H5 (v4.trans (x3.trans o4.x) o5)⟩⟩
 |false=>
  rw [if_neg Aj] at hm
  cases hm
  exact a63 (k _ F3 H3 (v4.val x3 rfl))
theorem a2z{a b c:AF}{ma mb mc:M}{pos:Pos}{op op':CmpOp}{g g':e8->e8->Option e8}(ho:OpM X (compareOp op) g)(ho':OpM X (compareOp op') g')(ha:EE X a ma)(hb:EE X b mb)(hc:EE X c mc)
 (hm:lastMarks [op,op'] [b,c]=false:=by with_unfolding_all rfl):ET X (.Compare a [op,op'] [b,c] pos) (E3 (Y0 g g' ma mb mc)):=
 a7q (b2F ho ho' ha hb hc hm) fun σ H Q ⟨F,ρ,k,h1,h2,q⟩=>by
  obtain⟨r,e1,e2⟩:=bind_some h2
  exact b1v ⟨F,ρ,r,h1,e1,fun v F1 H1 o=>⟨k,a1d o.rep e2,q F1 H1 o.x⟩⟩
end
inductive Fl where
 |nx (ρ:c7)|rt (r:e8)|bk (ρ:c7)|ct (ρ:c7)
abbrev MS:=c7->Option Fl
structure SOk(K:AD)(F0 H0 F H:Hp)(σ:L2.St)(ρ:c7):Prop where
 x:Ext F0 H0 F H
 e:F8 K F H σ ρ
 nw:∀(i:Nat) (c:Y9) (a:AB),ρ[i]?=some (some (.ow c))->σ[i]?=some (some (.ref a))->H0 a=none
def Fin(K:AD)(F0 H0 F:Hp)(D:P4):Fl->Prop
 | .nx ρ=>∀σ' F' H',l7 F F'->SOk K F0 H0 F' H' σ' ρ->D.nx σ' H'
 | .rt r=>∀v F' H',v4 K F0 H0 F' H' v r->D.rt v H'
 | .bk ρ=>∀σ' F' H',l7 F F'->SOk K F0 H0 F' H' σ' ρ->D.bk σ' H'
 | .ct ρ=>∀σ' F' H',l7 F F'->SOk K F0 H0 F' H' σ' ρ->D.ct σ' H'
theorem Fin.later{K:AD}{F0 H0 F F1:Hp}{D:P4}(s:l7 F F1):∀{fl:Fl},Fin K F0 H0 F D fl->Fin K F0 H0 F1 D fl
 | .nx _,h=>fun σ' F' H' s' so=>h σ' F' H' (s.trans s') so
 | .rt _,h=>h
 | .bk _,h=>fun σ' F' H' s' so=>h σ' F' H' (s.trans s') so
 | .ct _,h=>fun σ' F' H' s' so=>h σ' F' H' (s.trans s') so
def tMS(K:AD)(m:MS):TS:=fun D σ H=>∃F0 H0 F ρ fl,SOk K F0 H0 F H σ ρ/\m ρ=some fl/\Fin K F0 H0 F D fl
abbrev ES(X:Cx)(st:Stmt)(m:MS):Prop:=PS X st (tMS X.K m)
abbrev ESs(X:Cx)(st:List Stmt)(m:MS):Prop:=PSs X st (tMS X.K m)
theorem SOk.ext{K:AD}{F0 H0 F H F' H':Hp}{σ:L2.St}{ρ:c7}(s:SOk K F0 H0 F H σ ρ)(x:Ext F H F' H'):SOk K F0 H0 F' H' σ ρ:=⟨s.x.trans x,s.e.ext x,s.nw⟩
def e8.nb:e8->Bool
 | .bo _=>false
 |_=>true
theorem SOk.set{K:AD}{F0 H0 F H F' H':Hp}{σ:L2.St}{ρ:c7}{v:V}{r:e8}(s:SOk K F0 H0 F H σ ρ)(o:v4 K F H F' H' v r)(hb:r.nb=true)(i:Nat):SOk K F0 H0 F' H' (σ.set i (some v)) (ρ.set i (some r)):=by
 have s1:=s.ext o.x
 have le:=s.e.len
 refine⟨s1.x,⟨s1.e.fh,by simp [le],fun j q e=> ?_,fun j ps e=> ?_,fun j k ps qs a hjk e1 e2 e3 e4=> ?_⟩,fun j ps a e1 e2=> ?_⟩
 ·rw [List.getElem?_set] at e ⊢
  by_cases hij:i=j
  ·subst hij
   rw [if_pos rfl] at e ⊢
   rw [le]
   split at e
   ·rename_i c;cases e;rw [if_pos c];exact⟨v,rfl,o.rep⟩
   ·cases e
  ·rw [if_neg hij] at e ⊢
   exact s1.e.at_ j q e
 ·rw [List.getElem?_set] at e
  by_cases hij:i=j
  ·subst hij
   rw [if_pos rfl] at e
   split at e
   ·cases e;cases hb
   ·cases e
  ·rw [if_neg hij] at e
   exact s1.e.nb j ps e
 ·rw [List.getElem?_set] at e1 e2 e3 e4
  by_cases hij:i=j
  ·subst hij
   rw [if_pos rfl] at e1 e3
   rw [if_neg hjk] at e2 e4
   split at e1
   ·cases e1
    split at e3
    ·cases e3
     have fr:=o.fr ps a rfl rfl
     obtain⟨w,h1,rr⟩:=s.e.at_ k _ e2
     obtain⟨a',xs,h2,_,h3⟩:=a0T.at_ rr
     rw [e4] at h1;cases h1
     cases h2
     rw [fr] at h3;cases h3
    ·cases e3
   ·cases e1
  ·rw [if_neg hij] at e1 e3
   by_cases hik:i=k
   ·subst hik
    rw [if_pos rfl] at e2 e4
    split at e2
    ·cases e2
     split at e4
     ·cases e4
      have fr:=o.fr qs a rfl rfl
      obtain⟨w,h1,rr⟩:=s.e.at_ j _ e1
      obtain⟨a',xs,h2,_,h3⟩:=a0T.at_ rr
      rw [e3] at h1;cases h1
      cases h2
      rw [fr] at h3;cases h3
     ·cases e4
    ·cases e2
   ·rw [if_neg hik] at e2 e4
    exact s1.e.ap j k ps qs a hjk e1 e2 e3 e4
 ·rw [List.getElem?_set] at e1 e2
  by_cases hij:i=j
  ·subst hij
   rw [if_pos rfl] at e1 e2
   split at e1
   ·cases e1
    split at e2
    ·cases e2;exact s.x.h.free (o.fr ps a rfl rfl)
    ·cases e2
   ·cases e1
  ·rw [if_neg hij] at e1 e2
   exact s.nw j ps a e1 e2
section
variable {X:Cx}
def u8:MS:=fun ρ=>some (.nx ρ)
def m9(m n:MS):MS:=fun ρ=>(m ρ).bind fun fl=>match fl with
 | .nx ρ'=>n ρ'
 |f=>some f
theorem o9:ESs X [] u8:=a4v b4d fun D σ H ⟨F0,H0,F,ρ,fl,so,e,fin⟩=>by
 cases e
 exact fin σ F H (PU.l7.refl F) so
theorem e9{st:Stmt}{u9:List Stmt}{m n:MS}(h1:ES X st m)(h2:ESs X u9 n):ESs X (st::u9) (m9 m n):=
 a4v (a8n h1 h2) fun D σ H ⟨F0,H0,F,ρ,fl,so,e,fin⟩=>by
  obtain⟨f1,e1,e⟩:=bind_some e
  cases f1 with
  |nx ρ'=>exact⟨F0,H0,F,ρ,.nx ρ',so,e1,fun σ' F' H' s so'=>⟨F0,H0,F',ρ',fl,so',e,fin.later s⟩⟩
  |rt r=>cases e;exact⟨F0,H0,F,ρ,_,so,e1,fin⟩
  |bk r=>cases e;exact⟨F0,H0,F,ρ,_,so,e1,fin⟩
  |ct r=>cases e;exact⟨F0,H0,F,ρ,_,so,e1,fin⟩
theorem g9{st:Stmt}{m:MS}(h1:ES X st m):ESs X [st] m:=a95 h1
def A8(i:Nat)(m:M):MS:=fun ρ=>(m ρ).bind fun r=>if r.nb=true then some (.nx (ρ.set i (some r))) else none
theorem m4{i:Nat}{x:Str}{e:AF}{m:M}{pos pos':Pos}(hN:X.N.Nodup)(he:EE X e m)(hi:X.N[i]?=some x:=by rfl)(hx:Loc X.env.scope x:=by exact Or.inl rfl)(hs:swapsWith e (some (.Name x pos')) pos.line X.env=pure false:=by rfl)(hf:X.fn x=true\/X.env.scope.names.lookup x=some .local:=by first|exact .inl rfl|exact .inr rfl|assumption):
 ES X (.Assign [.Name x pos'] e pos) (A8 i m):=
 D4 (b2C hN hi hx he hs hf) fun D σ H ⟨F0,H0,F,ρ,fl,so,e,fin⟩=>by
  obtain⟨r,e1,e⟩:=bind_some e
  split at e
  ·rename_i c
   cases e
   exact⟨F,ρ,r,so.e,e1,fun v F' H' o=>fin _ F' H' o.x.f (so.set o c i)⟩
  ·cases e
def u5(m:M):MS:=fun ρ=>(m ρ).bind fun r=>if r.nb=true then some (.rt r) else none
theorem k6{e:AF}{m:M}{pos:Pos}(he:EE X e m):ES X (.Return (some e) pos) (u5 m):=
 D4 (b2B he) fun D σ H ⟨F0,H0,F,ρ,fl,so,e,fin⟩=>by
  obtain⟨r,e1,e⟩:=bind_some e
  split at e
  ·rename_i c
   cases e
   exact⟨F,ρ,r,so.e,e1,fun v F' H' o=>fin v F' H' (v4.trans so.x o)⟩
  ·cases e
def a2J(i:Nat):MS:=fun ρ=>match ρ[i]? with
 |some (some r)=>some (.rt r)
 |_=>none
theorem a4m(i:Nat){x:Str}{p pos:Pos}(h:PE X (.Name x p) (b1a i)):ES X (.Return (some (.Name x p)) pos) (a2J i):=
 D4 (b2B h) fun D σ H ⟨F0,H0,F,ρ,fl,so,e,fin⟩=>by
  unfold a2J at e
  split at e
  ·rename_i r er
   cases e
   obtain⟨v,e1,rr⟩:=so.e.at_ i _ er
   exact⟨v,e1,fin v F H ⟨so.x,rr,fun ps a z1 z2=>by subst z1;subst z2;exact so.nw i ps a er e1⟩⟩
  ·cases e
def B3(c:MT)(m n:MS):MS:=fun ρ=>(c ρ).bind fun b=>if b=true then m ρ else n ρ
theorem v3{c:AF}{a b:List Stmt}{mc:MT}{m n:MS}{pos:Pos}(hc:ET X c mc)(ha:ESs X a m)(hb:ESs X b n):ES X (.If c a b pos) (B3 mc m n):=
 D4 (b47 hc ha hb) fun D σ H ⟨F0,H0,F,ρ,fl,so,e,fin⟩=>by
  obtain⟨b,e1,e⟩:=bind_some e
  refine⟨F,ρ,b,so.e,e1,fun F1 H1 x=> ?_⟩
  cases b with
  |true=>exact a64 ⟨F0,H0,F1,ρ,fl,so.ext x,e,fin.later x.f⟩
  |false=>exact a63 ⟨F0,H0,F1,ρ,fl,so.ext x,e,fin.later x.f⟩
def setAll{α:Type}:List (Option α)->List Nat->List α->List (Option α)
 |σ,i::is,x::xs=>setAll (σ.set i (some x)) is xs
 |σ,_,_=>σ
def a87:List Nat->TGs
 |[]=>b66
 |i::is=>b41 (a7Y i) (a87 is)
theorem a6f:∀{is:List Nat} {xs:List V} {σ:L2.St} {H:Hp} {Q:L2.St->Hp->Prop},xs.length=is.length->Q (setAll σ is xs) H->a87 is xs σ H Q
 |[],[],_,_,_,_,q=>⟨rfl,q⟩
 |[],_::_,_,_,_,h,_=>by cases h
 |_::_,[],_,_,_,h,_=>by cases h
 |i::is,x::xs,σ,H,Q,h,q=>⟨x,xs,rfl,a6f (is:=is) (xs:=xs) (by simpa using h) q⟩
theorem SOk.setAll{K:AD}{F0 H0 F H:Hp}:∀{is:List Nat} {xs:List V} {ps:List PV} {σ:L2.St} {ρ:c7},SOk K F0 H0 F H σ ρ->l8 K F ps xs->SOk K F0 H0 F H (PU.setAll σ is xs) (PU.setAll ρ is (ps.map .val))
 |[],xs,ps,σ,ρ,s,r=>by
  have e1:PU.setAll σ [] xs=σ:=by cases xs<;>rfl
  have e2:PU.setAll ρ [] (ps.map e8.val)=ρ:=by cases ps<;>rfl
  rw [e1,e2];exact s
 |i::is,xs,[],σ,ρ,s,r=>by cases r;exact s
 |i::is,xs,p::ps,σ,ρ,s,⟨v,t,e,rp,rl⟩=>by
  subst e
  exact SOk.setAll (is:=is) (s.set (v4.here s.e.fh rp) rfl i) rl
def b5Y(is:List Nat)(m:M):MS:=fun ρ=>(m ρ).bind fun r=>match r with
 | .val (.tuple ps)=>if ps.length=is.length then some (.nx (setAll ρ is (ps.map .val))) else none
 |_=>none
theorem b5B{is:List Nat}{es:List AF}{k:Nat}{e:AF}{m:M}{pos tpos:Pos}(hc:X.calm=true)(he:EE X e m)(hg:PGs X es (a87 is))
 (hn:(assignEach es X.env).length=is.length:=by rfl) (hst:(assignEach es X.env).findIdx? (·.1)=none:=by rfl)
 (hs:swapsWithSole [.Tuple es k tpos] e pos.line X.env=pure false:=by rfl) (hw:swappedStores [.Tuple es k tpos] e X.env=pure none:=by rfl)
 (h1:(assignEach [.Tuple es k tpos] X.env).map (·.2)=[assign (.Tuple es k tpos) X.env]:=by rfl):ES X (.Assign [.Tuple es k tpos] e pos) (b5Y is m):=
 D4 (b6n he (b6l hc hg hn hst) hs hw h1) fun D σ H ⟨F0,H0,F,ρ,fl,so,e,fin⟩=>by
  obtain⟨r,e1,e⟩:=bind_some e
  split at e
  ·rename_i ps
   split at e
   ·rename_i c
    cases e
    refine⟨F,ρ,_,so.e,e1,fun v F' H' o=> ?_⟩
    obtain⟨a,xs,rfl,hq,rl⟩:=o.rep
    have hl:xs.length=is.length:=by rw [rl.length];exact c
    exact⟨a,xs,rfl,C0 o.x.fh hq.sq,hl,a6f hl (fin _ F' H' o.x.f ((so.ext o.x).setAll rl))⟩
   ·cases e
  ·cases e
def O9(body:MS)(tg:PV->c7->Option c7):List PV->c7->Option Fl
 |[],ρ=>some (.nx ρ)
 |p::ps,ρ=>(tg p ρ).bind fun ρ1=>(body ρ1).bind fun fl=>match fl with
  | .nx ρ'=>O9 body tg ps ρ'
  | .ct ρ'=>O9 body tg ps ρ'
  | .bk ρ'=>some (.nx ρ')
  | .rt r=>some (.rt r)
def u6(i:Nat):PV->c7->Option c7:=fun p ρ=>some (ρ.set i (some (.val p)))
def b1n(K:AD)(g:TG)(tg:PV->c7->Option c7):Prop:=
 ∀F0 H0 F H σ ρ ρ1 p x (Q:L2.St->Hp->Prop),SOk K F0 H0 F H σ ρ->I0 K F p x->tg p ρ=some ρ1->(∀σ',SOk K F0 H0 F H σ' ρ1->Q σ' H)->g x σ H Q
theorem Q3{K:AD}(i:Nat):b1n K (a7Y i) (u6 i):=fun F0 H0 F H σ ρ ρ1 p x Q so r e k=>by
 cases e
 exact k _ (so.set (v4.here so.e.fh r) rfl i)
theorem b0H{body:MS}{tg:PV->c7->Option c7}{ps:List PV}{p:PV}{ρ:c7}{fl:Fl}(h:O9 body tg (p::ps) ρ=some fl):∃ρ1 f1,tg p ρ=some ρ1/\body ρ1=some f1/\(match f1 with
 | .nx ρ'=>O9 body tg ps ρ'
 | .ct ρ'=>O9 body tg ps ρ'
 | .bk ρ'=>some (.nx ρ')
 | .rt r=>some (.rt r))=some fl:=by
 unfold O9 at h
 obtain⟨ρ1,e1,h⟩:=bind_some h
 obtain⟨f1,e2,h⟩:=bind_some h
 exact⟨ρ1,f1,e1,e2,h⟩
def PvL(K:AD)(F0 H0 F1:Hp)(body:MS)(tg:PV->c7->Option c7)(ps:List PV)(fl:Fl)(k:Nat)(σ:L2.St)(H:Hp):Prop:=
 ∃F ρ,l7 F1 F/\SOk K F0 H0 F H σ ρ/\O9 body tg (ps.drop k) ρ=some fl
theorem a1E{K:AD}{F0 H0 F1:Hp}{body:MS}{tg:PV->c7->Option c7}{g:TG}{ps:List PV}{fl:Fl}{D:P4}{k:Nat}{p:PV}{x:V}{σ:L2.St}{H:Hp}(T:b1n K g tg)(fin:Fin K F0 H0 F1 D fl)(ep:ps[k]?=some p)
 (hp:PvL K F0 H0 F1 body tg ps fl k σ H) (rx:∀F,l7 F1 F->I0 K F p x):
 g x σ H fun σ2 H2=>tMS K body {D with nx:=PvL K F0 H0 F1 body tg ps fl (k+1),ct:=PvL K F0 H0 F1 body tg ps fl (k+1),bk:=D.nx} σ2 H2:=by
 obtain⟨F,ρ,s,so,e⟩:=hp
 have hk:k<ps.length:=(Av.mp ep).1
 have hd:ps.drop k=p::ps.drop (k+1):=by
  rw [List.drop_eq_getElem_cons hk]
  congr 1
  exact(Av.mp ep).2
 rw [hd] at e
 obtain⟨ρ1,f1,e1,e2,e3⟩:=b0H e
 refine T F0 H0 F H σ ρ ρ1 p x _ so (rx F s) e1 fun σ' so'=>⟨F0,H0,F,ρ1,f1,so',e2, ?_⟩
 cases f1 with
 |nx ρ'=>exact fun σ2 F2 H2 s2 so2=>⟨F2,ρ',s.trans s2,so2,e3⟩
 |ct ρ'=>exact fun σ2 F2 H2 s2 so2=>⟨F2,ρ',s.trans s2,so2,e3⟩
 |bk ρ'=>cases e3;exact fun σ2 F2 H2 s2 so2=>fin σ2 F2 H2 (s.trans s2) so2
 |rt r=>cases e3;exact fin
theorem a2H{K:AD}{F0 H0 F1:Hp}{body:MS}{tg:PV->c7->Option c7}{ps:List PV}{fl:Fl}{D:P4}{σ:L2.St}{H:Hp}(fin:Fin K F0 H0 F1 D fl)
 (hp:PvL K F0 H0 F1 body tg ps fl ps.length σ H):D.nx σ H:=by
 obtain⟨F,ρ,s,so,e⟩:=hp
 rw [List.drop_length] at e
 cases e
 exact fin σ F H s so
abbrev MI:=c7->Option (List PV)
def a2g(m:M):MI:=fun ρ=>((m ρ).bind e8.toVal).bind PyData.items?
def b7Y(K:AD)(tl:TE):TI:=fun σ H R=>tl σ H fun x H1=>∃a,x= .ref a/\(((∃xs,SqL K H1 a xs)/\R (Itl K a) H1)\/((∃xs,SqT K H1 a xs)/\R (Itt K a) H1))
theorem b2x{tg l:AF}{tl:TE}(hl:PE X l tl):PI X tg l (b7Y X.K tl):=by
 intro pins s σ H R I h
 refine L4 (hl pins s σ H _ I h) fun v s1 ⟨x,H1,I1,r1,q1⟩=> ?_
 obtain⟨a,e,q⟩:=q1
 subst e
 cases r1
 rcases q with⟨⟨xs,hq⟩,q⟩|⟨⟨xs,hq⟩,q⟩
 ·obtain⟨its,rv,p,hz⟩:=I1.list hq
  refine wpAny_pyIter_list p.isList ?_
  refine⟨s1.heap.objs.size,[s1.heap.objs.size],_,_,H1,rfl,I1.kept (t':=s1.toks) fun b o e=>Al _ e,b1b a _,⟨_,Aw _ rfl,rfl,rfl⟩,fun b hb=> ?_,q⟩
  have e:b=s1.heap.objs.size:=by simpa using hb
  subst e
  exact I1.fpOk (AW _) (I1.hok.fresh (AW _))
 ·obtain⟨its,rv,p,hz⟩:=I1.tuple hq
  refine wpAny_pyIter_tuple (show s1.heap.IsTuple a its.toArray from p) ?_
  refine⟨s1.heap.objs.size,[s1.heap.objs.size],_,_,H1,rfl,I1.kept (t':=s1.toks) fun b o e=>Al _ e,a9s a _,⟨_,Aw _ rfl,rfl,rfl⟩,fun b hb=> ?_,q⟩
  have e:b=s1.heap.objs.size:=by simpa using hb
  subst e
  exact I1.fpOk (AW _) (I1.hok.fresh (AW _))
def a44(it:MI)(tg:PV->c7->Option c7)(body:MS):MS:=fun ρ=>(it ρ).bind fun ps=>O9 body tg ps ρ
theorem a4J{tg iter:AF}{body:List Stmt}{m:M}{g:TG}{t:PV->c7->Option c7}{b:MS}{pos:Pos}(hp:PassesOwn (model X.prog X.w) X.A X.env X.xe)(hc:X.calm=true)(hi:EE X iter m)(hg:PG X tg g)(T:b1n X.K g t)(hb:ESs X body b)
 (hs:∀x,foldedSetIterable iter X.env x=pure x:=by intro _;rfl):ES X (.For tg iter body [] pos) (a44 (a2g m) t b):=
 D4 (a9n hp hc (b2x hi) hg hb hs) fun D σ H ⟨F0,H0,F,ρ,fl,so,e,fin⟩=>by
  obtain⟨ps,e1,e⟩:=bind_some e
  obtain⟨q,e1,e2⟩:=bind_some e1
  obtain⟨r,e1,e3⟩:=bind_some e1
  refine⟨F,ρ,r,so.e,e1,fun v F' H' o=> ?_⟩
  obtain⟨F1,o1⟩:=o.toVal e3
  have fin1:=fin.later o1.x.f
  have so1:=so.ext o1.x
  obtain⟨a,xs,rfl,hq,rl⟩:=Q0 (F:=F1) (H:=F1) (PU.l7.refl F1) (show J8 X.K F1 F1 v (.val q) from o1.rep) e2
  have hlen:=rl.length
  have get:∀k x,xs[k]?=some x->∃p,ps[k]?=some p/\∀F,l7 F1 F->I0 X.K F p x:=fun k x ex=>by
   obtain⟨p,ep,rp⟩:=rl.getV ex
   exact⟨p,ep,fun F s=>I0.mono s _ rp⟩
  rcases hq with hq|hq
  ·refine⟨a,rfl,.inl ⟨⟨xs,S4 o1.x.fh hq⟩,b1K (K:=X.K) (a:=a) (xs:=xs) (PvL X.K F0 H0 F1 b t ps fl) ⟨F1,ρ,PU.l7.refl F1,so1,e⟩ (fun k σ H _ ⟨F,_,s,so2,_⟩=>S4 (s.trans so2.e.fh) hq) (fun k x σ H ex hp=> ?_) (fun σ H hp=> ?_)⟩⟩
   ·obtain⟨p,ep,rp⟩:=get k x ex
    exact a1E T fin1 ep hp rp
   ·rw [hlen] at hp
    exact a2H fin1 hp
  ·refine⟨a,rfl,.inr ⟨⟨xs,C0 o1.x.fh hq⟩,b3y (K:=X.K) (a:=a) (xs:=xs) (PvL X.K F0 H0 F1 b t ps fl) ⟨F1,ρ,PU.l7.refl F1,so1,e⟩ (fun k σ H _ ⟨F,_,s,so2,_⟩=>C0 (s.trans so2.e.fh) hq) (fun k x σ H ex hp=> ?_) (fun σ H hp=> ?_)⟩⟩
   ·obtain⟨p,ep,rp⟩:=get k x ex
    exact a1E T fin1 ep hp rp
   ·rw [hlen] at hp
    exact a2H fin1 hp
def a1S(lo hi:Int):List PV:=(Ao (hi - lo).toNat).map fun k=> .int (lo+(k:Nat))
theorem b1X:∃f:Int->Bool,∀j,f j=decide (-(2 ^ 62)<=j/\j<2 ^ 62):=⟨_,fun _=>rfl⟩
def inR:Int->Bool:=b1X.choose
theorem b5O(j:Int):inR j=decide (-(2 ^ 62)<=j/\j<2 ^ 62):=b1X.choose_spec j
theorem a61{j:Int}:inR j=true↔(-(2 ^ 62)<=j/\j<2 ^ 62):=by rw [b5O,decide_eq_true_iff]
def a2K(m:MA):MI:=fun ρ=>(m ρ).bind fun ps=>match ps with
 |[.int j]=>if inR j=true then some (a1S 0 j) else none
 |_=>none
theorem a5v{lo hi:Int}{k:Nat}(h:k<(hi - lo).toNat):(a1S lo hi)[k]?=some (.int (lo+k)):=by
 simp [a1S,h]
theorem a5w(lo hi:Int):(a1S lo hi).length=(hi - lo).toNat:=by simp [a1S]
theorem b1I{tg a:AF}{body:List Stmt}{m:MA}{g:TG}{t:PV->c7->Option c7}{b:MS}{p rp pos:Pos}(hp:PassesOwn (model X.prog X.w) X.A X.env X.xe)(hc:X.calm=true)(hgl:Gl X "range")(hm:X.mg "range"=none)(ha:EA X [a] m)(hg:PG X tg g)(T:b1n X.K g t)(hb:ESs X body b)
 (hst:AM [a] X.env=[(false,eval a X.env)]:=by rfl) (hs:∀x,foldedSetIterable (.Call (.Name "range" p) [a] [] rp) X.env x=pure x:=by intro _;rfl):ES X (.For tg (.Call (.Name "range" p) [a] [] rp) body [] pos) (a44 (a2K m) t b):=
 D4 (a9n hp hc (a6u hgl hm ha hst) hg hb hs) fun D σ H ⟨F0,H0,F,ρ,fl,so,e,fin⟩=>by
  obtain⟨ps,e1,e⟩:=bind_some e
  obtain⟨qs,e1,e2⟩:=bind_some e1
  refine⟨F,ρ,qs,so.e,e1,fun vs F1 H1 x rl=> ?_⟩
  split at e2
  ·rename_i j
   split at e2
   ·rename_i c
    have c:=a61.mp c
    cases e2
    obtain⟨v,r,rfl,rv,rr⟩:=rl
    cases rv
    cases rr
    have fin1:=fin.later x.f
    have hz:(j - 0).toNat=j.toNat:=by lia
    refine⟨j,rfl,c.1,c.2,b0I (lo:=0) (n:=j.toNat) (PvL X.K F0 H0 F1 b t (a1S 0 j) fl) ⟨F1,ρ,PU.l7.refl F1,so.ext x,e⟩ (fun k σ H hk hp=> ?_) (fun σ H hp=> ?_)⟩
    ·exact a1E T fin1 (a5v (by lia)) hp fun _ _=>rfl
    ·have:j.toNat=(a1S 0 j).length:=by rw [a5w,hz]
     rw [this] at hp
     exact a2H fin1 hp
   ·cases e2
  ·cases e2
def y0(c:MT)(body:MS):Nat->c7->Option Fl
 |0,_=>none
 |n+1,ρ=>(c ρ).bind fun b=>if b=true then(body ρ).bind fun fl=>match fl with
  | .nx ρ'=>y0 c body n ρ'
  | .ct ρ'=>y0 c body n ρ'
  | .bk ρ'=>some (.nx ρ')
  | .rt r=>some (.rt r) else some (.nx ρ)
theorem a2y(n:Nat){c:AF}{body:List Stmt}{mc:MT}{b:MS}{pos:Pos}(hp:PassesOwn (model X.prog X.w) X.A X.env X.xe)(hc:ET X c mc)(hb:ESs X body b):ES X (.While c body [] pos) (y0 mc b n):=
 D4 (b2E hp hc hb) fun D σ H ⟨F0,H0,F,ρ,fl,so,e,fin⟩=>by
  refine⟨fun k σ H=>∃F1 ρ,l7 F F1/\SOk X.K F0 H0 F1 H σ ρ/\y0 mc b k ρ=some fl,⟨n,F,ρ,PU.l7.refl F,so,e⟩, ?_⟩
  rintro k σ H ⟨F1,ρ,s,so,e⟩
  cases k with
  |zero=>cases e
  |succ k=>
   unfold y0 at e
   obtain⟨d,e1,e⟩:=bind_some e
   refine⟨F1,ρ,d,so.e,e1,fun F2 H2 x=> ?_⟩
   have s2:=s.trans x.f
   cases d with
   |true=>
    rw [if_pos rfl] at e
    obtain⟨f1,e2,e⟩:=bind_some e
    refine a64 ⟨fun σ' H'=>∃F1 ρ,l7 F F1/\SOk X.K F0 H0 F1 H' σ' ρ/\y0 mc b k ρ=some fl,fun σ' H' h=>⟨k,Nat.lt_succ_self k,h⟩,⟨F0,H0,F2,ρ,f1,so.ext x,e2, ?_⟩⟩
    cases f1 with
    |nx ρ'=>exact fun σ3 F3 H3 s3 so3=>⟨F3,ρ',s2.trans s3,so3,e⟩
    |ct ρ'=>exact fun σ3 F3 H3 s3 so3=>⟨F3,ρ',s2.trans s3,so3,e⟩
    |bk ρ'=>cases e;exact fun σ3 F3 H3 s3 so3=>fin σ3 F3 H3 (s2.trans s3) so3
    |rt r=>cases e;exact fin
   |false=>
    rw [if_neg Aj] at e
    cases e
    exact a63 (fin σ F2 H2 s2 (so.ext x))
def v6(n:Nat)(body:MS)(ps:List PV):Option e8:=(body (ps.map (fun p=>some (e8.val p))++Ab n none)).bind fun fl=>match fl with
 | .rt r=>some r
 | .nx _=>some (.val .none)
 |_=>none
end
theorem a8A{K:AD}{F H:Hp}{ps:List PV}{vs:List V}(n:Nat)(s:l7 F H)(r:l8 K F ps vs):SOk K F H F H (vs.map some++Ab n none) (ps.map (fun p=>some (e8.val p))++Ab n none):=by
 have hl:=r.length
 have key:∀(i:Nat) (q:e8),(ps.map (fun p=>some (e8.val p))++Ab n none)[i]?=some (some q)->∃p v,q= .val p/\(vs.map some++Ab n none)[i]?=some (some v)/\I0 K F p v:=by
  intro i q e
  by_cases h:i<ps.length
  ·rw [BC (by simpa using h),BB] at e
   rw [BC (by rw [Ak,hl];exact h),BB]
   cases q':ps[i]? with
   |none=>rw [q'] at e;cases e
   |some p=>
    rw [q'] at e
    cases e
    obtain⟨v,h1,h2⟩:=r.get q'
    exact⟨p,v,rfl,by rw [h1];rfl,h2⟩
  ·rw [List.getElem?_append_right (by simpa using h),List.getElem?_replicate] at e
   split at e<;>cases e
 refine⟨Ext.refl s,⟨s,by simp [hl],fun i q e=> ?_,fun i qs e=> ?_,fun i j qs _ a _ e=> ?_⟩,fun i qs a e=> ?_⟩
 ·obtain⟨p,v,rfl,h1,h2⟩:=key i q e;exact⟨v,h1,h2⟩
 ·obtain⟨p,v,z,_⟩:=key i _ e;cases z
 ·obtain⟨p,v,z,_⟩:=key i _ e;cases z
 ·obtain⟨p,v,z,_⟩:=key i _ e;cases z
theorem b4Z{P:AK}{w:AI}{K:AD}{mg:Str->Option AA}{base:Heap}{x qual:Str}{st:Stmt}{f:AB}{fd:FuncData}{N ps:List Str}{k:Nat}{m:MS}(F:Fun K x qual st f fd)(S:m5 N ps (i4 st))
 (hb:∀(cdv:AA) (A:AJ) (outer:List Env) (s:AC) (H:Hp) (E:XK),J3 k (A.deeper (envOfC qual (i4 st) s.heap.objs.size f cdv))->ESs (a19 CX0 P w K mg base N qual (i4 st) f cdv A outer s H E).nox (D0 st) m):
 R3 P w K mg base CX0 (k+1) f fd ps (spP K ps.length (v6 (N.length - ps.length) m)):=by
 refine F.ok S (fun vs H Q E h=> ?_) (fun cdv A outer s H vs Q E hr h=> ?_)
 ·obtain⟨_,qs,_,_,r,h2,_⟩:=h
  rw [r.length,h2]
 ·obtain⟨F1,qs,r,s1,rl,hl,e,k⟩:=h
  refine⟨_,hb cdv A outer s H E hr, ?_⟩
  unfold v6 at e
  obtain⟨fl,e1,e2⟩:=bind_some e
  have hv:vs.length=ps.length:=by rw [rl.length,hl]
  refine⟨F1,H,F1,_,fl, ?_,e1, ?_⟩
  ·have:=a8A (N.length - ps.length) s1 rl
   unfold L2.a13
   rw [hv]
   exact this
  ·cases fl with
   |rt q=>cases e2;exact fun v F' H' o=>k v F' H' o
   |nx ρ=>cases e2;exact fun σ' F' H' _ so=>k .non F' H' (v4.val so.x rfl)
   |bk ρ=>cases e2
   |ct ρ=>cases e2
section
variable {X:Cx}
def rC1(K:AD)(g:e8->Option e8):List V->Hp->VK->Prop:=fun xs H Q=>∃F x rx rz,xs=[x]/\l7 F H/\J8 K F H x rx/\g rx=some rz/\∀v F' H',v4 K F H F' H' v rz->Q v H'
def rC2(K:AD)(g:e8->e8->Option e8):List V->Hp->VK->Prop:=fun xs H Q=>∃F x y rx ry rz,xs=[x,y]/\l7 F H/\J8 K F H x rx/\J8 K F H y ry/\g rx ry=some rz/\∀v F' H',v4 K F H F' H' v rz->Q v H'
def m1(g:e8->Option e8)(m:M):M:=fun ρ=>(m ρ).bind g
theorem b2j{m:M}{g:e8->Option e8}{σ:L2.St}{H:Hp}{Q:VK}(h:tM X.K (m1 g m) σ H Q):tCB (rC1 X.K g) (b0i (tM X.K m) b6A) σ H Q:=by
 obtain⟨F,ρ,r,he,hm,k⟩:=h
 obtain⟨rx,e1,hm⟩:=bind_some hm
 exact⟨F,ρ,rx,he,e1,fun v F1 H1 o1=>⟨F1,v,rx,r,rfl,o1.x.fh,o1.rep,hm,fun z F2 H2 o2=>k z F2 H2 (v4.trans o1.x o2)⟩⟩
theorem b4E{m n:M}{g:e8->e8->Option e8}{σ:L2.St}{H:Hp}{Q:VK}(h:tM X.K (m2 g m n) σ H Q):tCB (rC2 X.K g) (b0i (tM X.K m) (b0i (tM X.K n) b6A)) σ H Q:=by
 obtain⟨F,ρ,r,he,hm,k⟩:=h
 obtain⟨rx,e1,hm⟩:=bind_some hm
 obtain⟨ry,e2,hm⟩:=bind_some hm
 exact⟨F,ρ,rx,he,e1,fun v F1 H1 o1=>⟨F1,ρ,ry,he.ext o1.x,e2,fun u F2 H2 o2=>⟨F2,v,u,rx,ry,r,rfl,o2.x.fh,o1.rep.ext o2.x,o2.rep,hm,fun z F3 H3 o3=>k z F3 H3 (v4.trans (o1.x.trans o2.x) o3)⟩⟩⟩
theorem a0M{id:String}{x:Str}{p pos:Pos}{e:AF}{g:e8->Option e8}{m:M}(hc:L5 X (.builtin id) (rC1 X.K g))(hg:Gl X x)(hm:X.mg x=none)(hv:bootBuiltins x=some (.builtin id))(ha:EE X e m)(hn:x≠"__name__":=by decide)(hdb:(x==("__debug__":Str))=false:=by decide)
 (he:AM [e] X.env=(false,eval e X.env)::AM [] X.env:=by rfl) (hpl:(backTo pos (AM [] X.env)).any (·.1)=false:=by rfl):EE X (.Call (.Name x p) [e] [] pos) (m1 g m):=
 B5 (a2T hc hg hm hv (B9 ha T3 he) hn hdb he hpl) fun _ _ _ h=>b2j h
theorem b1B{id:String}{x:Str}{p pos:Pos}{e e2:AF}{g:e8->e8->Option e8}{m n:M}(hc:L5 X (.builtin id) (rC2 X.K g))(hg:Gl X x)(hm:X.mg x=none)(hv:bootBuiltins x=some (.builtin id))(ha:EE X e m)(hb:EE X e2 n)(hn:x≠"__name__":=by decide)(hdb:(x==("__debug__":Str))=false:=by decide)
 (he:AM [e,e2] X.env=(false,eval e X.env)::AM [e2] X.env:=by rfl) (he2:AM [e2] X.env=(false,eval e2 X.env)::AM [] X.env:=by rfl) (hpl:(backTo pos (AM [e2] X.env)).any (·.1)=false:=by rfl):EE X (.Call (.Name x p) [e,e2] [] pos) (m2 g m n):=
 B5 (a2T hc hg hm hv (B9 ha (B9 hb T3 he2) he) hn hdb he hpl) fun _ _ _ h=>b4E h
theorem a2x{T:String}{x:Str}{p pos:Pos}{e:AF}{g:e8->Option e8}{m:M}(hc:L5 X (.type T) (rC1 X.K g))(hg:Gl X x)(hm:X.mg x=none)(hv:bootBuiltins x=some (.type T))(ha:EE X e m)(hn:x≠"__name__":=by decide)(hdb:(x==("__debug__":Str))=false:=by decide)
 (he:AM [e] X.env=(false,eval e X.env)::AM [] X.env:=by rfl) (hpl:(backTo pos (AM [] X.env)).any (·.1)=false:=by rfl):EE X (.Call (.Name x p) [e] [] pos) (m1 g m):=
 B5 (b01 hc hg hm hv (B9 ha T3 he) hn hdb he hpl) fun _ _ _ h=>b2j h
def U6(x:e8):Option e8:=match x.rd with
 | .str z=>if z.length<=AQ then some (.val (.int z.length)) else none
 |p=>match PyData.items? p with
  |some ps=>some (.val (.int ps.length))
  |none=>none
theorem S7:L5 X (.builtin "len") (rC1 X.K U6):=by
 intro pins s σ H xs us Q I rv h
 obtain⟨F,x,rx,rz,rfl,s0,h1,h2,k⟩:=h
 unfold U6 at h2
 split at h2
 ·rename_i z ez
  split at h2
  ·rename_i c
   cases h2
   have rr:=h1.rd s0
   rw [ez] at rr
   cases rr
   exact a6N pins s σ H _ us Q I rv ⟨z,rfl,c,k _ F H (v4.here s0 rfl)⟩
  ·cases h2
 ·split at h2
  ·rename_i ps e
   cases h2
   obtain⟨a,xs,rfl,hq,r⟩:=Q0 s0 h1 e
   refine a6M pins s σ H _ us Q I rv ⟨a,xs,rfl,hq, ?_⟩
   rw [r.length]
   exact k _ F H (v4.here s0 rfl)
  ·cases h2
theorem b1x(hc:X.calm=true):L5 X (.builtin "min") (rC2 X.K (gI fun i j=> .int (if j<i then j else i))):=by
 intro pins s σ H xs us Q I rv h
 obtain⟨F,x,y,rx,ry,rz,rfl,s0,h1,h2,h3,k⟩:=h
 obtain⟨i,j,rfl,rfl,rfl⟩:=a6W h3
 cases h1;cases h2
 exact b0x hc pins s σ H _ us Q I rv ⟨i,j,rfl,k _ F H (v4.here s0 rfl)⟩
theorem b5t(hc:X.calm=true):L5 X (.builtin "max") (rC2 X.K (gI fun i j=> .int (if j>i then j else i))):=by
 intro pins s σ H xs us Q I rv h
 obtain⟨F,x,y,rx,ry,rz,rfl,s0,h1,h2,h3,k⟩:=h
 obtain⟨i,j,rfl,rfl,rfl⟩:=a6W h3
 cases h1;cases h2
 exact b0w hc pins s σ H _ us Q I rv ⟨i,j,rfl,k _ F H (v4.here s0 rfl)⟩
def kindOf:PV->String
 | .none=>"NoneType"
 | .bool _=>"bool"
 | .int _=>"int"
 | .str _=>"str"
 | .list _=>"list"
 | .tuple _=>"tuple"
 | .dict _=>"dict"
def a62(T:String)(p:PV):Bool:=kindOf p==T||(kindOf p=="bool" && T=="int")
def isFn:PV->Bool
 | .dict ((.str _,_)::_)=>true
 |_=>false
def a84(T:String)(x:e8):Option e8:=bif isFn x.rd then none else some (.val (.bool (a62 T x.rd)))
def b1h(T:String):Prop:=T="int"\/T="bool"\/T="str"\/T="list"\/T="tuple"\/T="dict"
theorem b0N{K:AD}{T:String}(h:b1h T):∀p:PV,PySem.W.kitOne K (.type (kindOf p)) (.type T)=some (a62 T p):=by
 intro p
 rcases h with rfl|rfl|rfl|rfl|rfl|rfl<;>cases p<;>kernel_rfl
theorem b5v{T:String}{e:AF}{m:M}{p p2 pos:Pos}(kt:b1h T)(hg:Gl X "isinstance")(hm:X.mg "isinstance"=none)(ha:EE X e m)(hT:PE X (.Name (AN T) p2) (tC (.ty T)))
 (he:AM [e,.Name (AN T) p2] X.env=(false,eval e X.env)::AM [.Name (AN T) p2] X.env:=by rfl) (he2:AM [.Name (AN T) p2] X.env=(false,eval (.Name (AN T) p2) X.env)::AM [] X.env:=by rfl) (hpl:(backTo pos (AM [.Name (AN T) p2] X.env)).any (·.1)=false:=by rfl)
 (hv:bootBuiltins "isinstance"=some (.builtin "isinstance"):=by rfl):
 EE X (.Call (.Name "isinstance" p) [e,.Name (AN T) p2] [] pos) (m1 (a84 T) m):=by
 have hc:L5 X (.builtin "isinstance") (fun xs H Q=>∃F x rx,xs=[x,.ty T]/\l7 F H/\J8 X.K F H x rx/\isFn rx.rd=false/\Q (.bl (a62 T rx.rd)) H):=by
  intro pins s σ H xs us Q I rv h
  obtain⟨F,x,rx,rfl,s0,h1,nf,q⟩:=h
  obtain⟨u,u2,rfl,ru,ru2⟩:∃u1 u2,us=[u1,u2]/\t5 x u1/\t5 (.ty T) u2:=by
   cases rv with
   |cons p q=>
    cases q with
    |cons p' q'=>
     cases q'
     exact⟨_,_,rfl,p,p'⟩
  cases ru2
  have rr:=h1.rd s0
  have kk:=b0N (K:=X.K) kt rx.rd
  have fin:∀tk,EP X pins σ Q (.bool (a62 T rx.rd)) {s with toks:=tk}:=fun tk=>⟨.bl _,H,I.tok tk,rfl,q⟩
  cases hp:rx.rd with
  |none=>rw [hp] at rr kk fin;cases rr;cases ru;exact PySem.W.kia_one PySem.W.kitx_none I.kIn True.intro kk (fun z=>nomatch z) fin
  |bool b=>rw [hp] at rr kk fin;cases rr;cases ru;exact PySem.W.kia_one PySem.W.kitx_bool I.kIn True.intro kk (fun z=>nomatch z) fin
  |int b=>rw [hp] at rr kk fin;cases rr;obtain⟨t,rfl⟩:=ru;exact PySem.W.kia_one PySem.W.kitx_int I.kIn True.intro kk (fun z=>nomatch z) fin
  |str b=>rw [hp] at rr kk fin;cases rr;obtain⟨t,rfl⟩:=ru;exact PySem.W.kia_one PySem.W.kitx_str I.kIn True.intro kk (fun z=>nomatch z) fin
  |list ps=>
   rw [hp] at rr kk fin
   obtain⟨a,ys,rfl,hq,_⟩:=rr
   cases ru
   obtain⟨its,_,⟨o,n,e1,e2,_⟩,_⟩:=I.list hq
   exact PySem.W.kia_one PySem.W.kitx_list I.kIn ⟨o,e1,e2⟩ kk (fun z=>nomatch z) fin
  |tuple ps=>
   rw [hp] at rr kk fin
   obtain⟨a,ys,rfl,hq,_⟩:=rr
   cases ru
   obtain⟨its,_,⟨o,e1,e2,_⟩,_⟩:=I.tuple hq.sq
   exact PySem.W.kia_one PySem.W.kitx_tuple I.kIn ⟨o,e1,e2⟩ kk (fun z=>nomatch z) fin
  |dict ps=>
   rw [hp] at rr kk fin nf
   rcases rr with⟨a,_,rfl,hq,_⟩|⟨a,_,rfl,hq,_⟩|⟨x,_,rfl,_⟩|⟨x,m,fs,_,hf⟩
   ·cases ru
    obtain⟨_,_,_,_,o,_,_,e1,e2,_⟩:=I.hok a _ hq
    exact PySem.W.kia_one PySem.W.kitx_dict I.kIn ⟨o,e1,e2.1⟩ kk (fun z=>nomatch z) fin
   ·cases ru
    obtain⟨_,_,_,_,o,_,_,e1,e2,_⟩:=I.hok a _ hq
    exact PySem.W.kia_one PySem.W.kitx_dict I.kIn ⟨o,e1,e2.1⟩ kk (fun z=>nomatch z) fin
   ·cases nf
   ·cases ps with
    |nil=>cases hf
    |cons f ps=>obtain⟨k,p⟩:=f;obtain⟨_,_,_,_,z,_⟩:=hf;subst z;cases nf
 exact B5 (a2T hc hg hm hv (B9 ha (B9 hT T3 he2) he) (by decide) (by decide) he hpl) fun σ H Q ⟨F,ρ,r,h1,h2,k⟩=>by
  obtain⟨rx,e1,h2⟩:=bind_some h2
  unfold a84 at h2
  cases nf:isFn rx.rd with
  |true=>rw [nf] at h2;cases h2
  |false=>
   rw [nf] at h2
   cases h2
   exact⟨F,ρ,rx,h1,e1,fun v F1 H1 o=>⟨F1,v,rx,rfl,o.x.fh,o.rep,nf,k _ F1 H1 (v4.val o.x rfl)⟩⟩
theorem SOk.putC{K:AD}{F0 H0 F H:Hp}{σ:L2.St}{ρ:c7}{i:Nat}{c d:Y9}{a:AB}{o:HO}(s:SOk K F0 H0 F H σ ρ)(e:ρ[i]?=some (some (.ow c)))(ea:σ[i]?=some (some (.ref a)))(r:F a=none->a0T K F (upd H a o) (.ref a) d):
 SOk K F0 H0 F (upd H a o) σ (ρ.set i (some (.ow d))):=by
 obtain⟨v,h1,rr0⟩:=s.e.at_ i _ e
 obtain⟨a',xs,rfl,fa,ha⟩:=a0T.at_ rr0
 rw [ea] at h1;cases h1
 have na:H0 a=none:=s.nw i c a e ea
 have hi:i<ρ.length:=(Av.mp e).1
 refine⟨⟨s.x.f,fun b o z=>by rw [j0 (j6 z na)];exact s.x.h _ _ z,fun b o z=>by rw [j0 (j6 z fa)];exact s.x.fh _ _ z,s.x.nw,s.x.nf⟩,⟨fun b o z=>by rw [j0 (j6 z fa)];exact s.e.fh _ _ z,by simp [s.e.len],fun j q ej=> ?_,fun j z ej=> ?_,fun j k z1 z2 c' hjk e1 e2 e3 e4=> ?_⟩,fun j z c' e1 e2=> ?_⟩
 ·rw [List.getElem?_set] at ej
  by_cases hij:i=j
  ·subst hij
   rw [if_pos rfl,if_pos hi] at ej
   cases ej
   exact⟨.ref a,ea,r fa⟩
  ·rw [if_neg hij] at ej
   obtain⟨v,h1,rr⟩:=s.e.at_ j q ej
   refine⟨v,h1, ?_⟩
   cases q with
   |val p=>exact rr
   |bo z=>exact absurd ej (s.e.nb j z)
   |ow z=>
    have key:∀b,v= .ref b->b≠a:=fun b hb hab=>by subst hab;subst hb;exact s.e.ap i j c z b hij e ej ea h1
    cases z with
    |lst z=>
     obtain⟨b,zs,rfl,fb,hb,rz⟩:=rr
     exact⟨b,zs,rfl,fb,by rw [j0 (key b rfl)];exact hb,rz⟩
    |dct z=>
     obtain⟨b,zs,rfl,fb,hb,rz⟩:=rr
     exact⟨b,zs,rfl,fb,by rw [j0 (key b rfl)];exact hb,rz⟩
    |txt z=>
     obtain⟨b,zs,rfl,fb,hb,rz⟩:=rr
     exact⟨b,zs,rfl,fb,by rw [j0 (key b rfl)];exact hb,rz⟩
 ·rw [List.getElem?_set] at ej
  by_cases hij:i=j
  ·subst hij;rw [if_pos rfl,if_pos hi] at ej;cases ej
  ·rw [if_neg hij] at ej;exact s.e.nb j z ej
 ·have own_at:∀(j:Nat) (z:Y9),(ρ.set i (some (e8.ow d)))[j]?=some (some (e8.ow z))->∃z':Y9,ρ[j]?=some (some (e8.ow z')):=fun j z h=>by
   rw [List.getElem?_set] at h
   by_cases hij:i=j
   ·subst hij;exact⟨c,e⟩
   ·rw [if_neg hij] at h;exact⟨z,h⟩
  obtain⟨y1,h1⟩:=own_at j z1 e1
  obtain⟨y2,h2⟩:=own_at k z2 e2
  exact s.e.ap j k y1 y2 c' hjk h1 h2 e3 e4
 ·rw [List.getElem?_set] at e1
  by_cases hij:i=j
  ·subst hij;rw [ea] at e2;cases e2;exact na
  ·rw [if_neg hij] at e1;exact s.nw j z c' e1 e2
theorem SOk.put{K:AD}{F0 H0 F H:Hp}{σ:L2.St}{ρ:c7}{i:Nat}{ps qs:List PV}{a:AB}{ys:List V}(s:SOk K F0 H0 F H σ ρ)(e:ρ[i]?=some (some (.own ps)))(ea:σ[i]?=some (some (.ref a)))(r:l8 K F qs ys):
 SOk K F0 H0 F (upd H a (.lst ys)) σ (ρ.set i (some (.own qs))):=s.putC e ea fun fa=>⟨a,ys,rfl,fa,t7,r⟩
def E9(i:Nat)(m:M):MS:=fun ρ=>(m ρ).bind fun r=>r.toVal.bind fun p=>match ρ[i]? with
 |some (some (.ow (.lst ps)))=>if ps.length<AQ then some (.nx (ρ.set i (some (.own (ps++[p]))))) else none
 |_=>none
theorem M0(i:Nat){x:Str}{p apos cpos pos:Pos}{e:AF}{m:M}(hx:PE X (.Name x p) (b1a i))(ha:EE X e m)
 (hbase:attributeBase (.Name x p) "append" X.env (eval (.Name x p) X.env)=eval (.Name x p) X.env:=by rfl)
 (hfew:((backTo cpos (AM [e] X.env)).all (fun x=> !x.1)&&(backToKw cpos (keywordEach [] X.env)).all (fun x=>x.1.isSome)
  && decide ([e].length+([]:List Keyword).length+(if([]:List Keyword).isEmpty then 0 else 1)<30))=true:=by rfl)
 (hline:(apos.endLine==cpos.line)=true:=by rfl) (hs:AM [e] X.env=(false,eval e X.env)::AM [] X.env:=by rfl) (hplain:(backTo cpos (AM [] X.env)).any (·.1)=false:=by rfl)
 (hsw:swapsWith (.Call (.Attribute (.Name x p) "append" apos) [e] [] cpos) none pos.line X.env=pure false:=by rfl):
 ES X (.Expr (.Call (.Attribute (.Name x p) "append" apos) [e] [] cpos) pos) (E9 i m):=
 D4 (a94 (a6t PySem.F.plainAttrs_list PySem.F.slot_list_append PySem.F.type_list_append a6l hx (B9 ha T3 hs) hbase hfew hline hs hplain) hsw) fun D σ H ⟨F0,H0,F,ρ,fl,so,e,fin⟩=>by
  obtain⟨r,e1,e⟩:=bind_some e
  obtain⟨q,e2,e⟩:=bind_some e
  split at e
  ·rename_i ps eo
   split at e
   ·rename_i c
    cases e
    obtain⟨v,h1,a,xs,rfl,fa,ha',rl⟩:=so.e.at_ i _ eo
    refine⟨.ref a,h1,.inl ⟨rfl,xs,SqL.of ha'⟩,F,ρ,r,so.e,e1,fun w F1 H1 o=> ?_⟩
    obtain⟨F2,o2⟩:=o.toVal e2
    have so2:=so.ext o2.x
    refine⟨a,xs,w,rfl,rfl,o.x.h _ _ ha',by rw [rl.length];exact c, ?_⟩
    exact fin σ F2 _ o2.x.f (so2.put eo h1 ((l8.mono o2.x.f _ rl).append ⟨w,[],rfl,o2.rep,rfl⟩))
   ·cases e
  ·cases e
def a78(i:Nat)(g:e8->e8->Option e8)(m:M):MS:=fun ρ=>match ρ[i]? with
 |some (some (.val x))=>(m ρ).bind fun y=>(g (.val x) y).bind fun z=>if z.nb=true then some (.nx (ρ.set i (some z))) else none
 |_=>none
theorem a82{i:Nat}{x:Str}{e:AF}{m:M}{g:e8->e8->Option e8}{op:Operator}{pos pos':Pos}(hN:X.N.Nodup)(he:EE X e m)(ho:OpM X (inplaceOp op) g)(hi:X.N[i]?=some x:=by rfl)(hx:Loc X.env.scope x:=by exact Or.inl rfl)(hf:X.fn x=true\/X.env.scope.names.lookup x=some .local:=by first|exact .inl rfl|exact .inr rfl|assumption):
 ES X (.AugAssign (.Name x pos') op e pos) (a78 i g m):=
 D4 (b6o hN hi hx he (ti:=rM2 X.K g) ho hf) fun D σ H ⟨F0,H0,F,ρ,fl,so,e,fin⟩=>by
  unfold a78 at e
  split at e
  ·rename_i p ep
   obtain⟨y,e1,e⟩:=bind_some e
   obtain⟨z,e2,e⟩:=bind_some e
   split at e
   ·rename_i c
    cases e
    obtain⟨v,h1,rv⟩:=so.e.at_ i _ ep
    exact⟨v,h1,F,ρ,y,so.e,e1,fun u F1 H1 o=>⟨F1,.val p,y,z,o.x.fh,rv.ext o.x,o.rep,e2,fun t F2 H2 o2=>fin _ F2 H2 (o.x.f.trans o2.x.f) ((so.ext o.x).set o2 c i)⟩⟩
   ·cases e
  ·cases e
theorem a5o:OpM X (inplaceOp .Add) (gI fun i j=> .int (i+j)):=b2l b3H fun _ _ _=>rfl
def a5W(i:Nat)(n:MS):MS:=fun ρ=>match ρ[i]? with
 |some (some (.ow (.lst ps)))=>n (ρ.set i (some (.val (.list ps))))
 |_=>n ρ
theorem SOk.frz{K:AD}{F0 H0 F H:Hp}{σ:L2.St}{ρ:c7}{i:Nat}{ps:List PV}(s:SOk K F0 H0 F H σ ρ)(e:ρ[i]?=some (some (.own ps))):∃F',l7 F F'/\SOk K F0 H0 F' H σ (ρ.set i (some (.val (.list ps)))):=by
 obtain⟨v,h1,a,xs,rfl,fa,ha,rl⟩:=s.e.at_ i _ e
 have na:H0 a=none:=s.nw i _ a e h1
 have hi:i<ρ.length:=(Av.mp e).1
 have up:l7 F (upd F a (.lst xs)):=W2 fa
 have fh:l7 (upd F a (.lst xs)) H:=fun b o z=>by
  by_cases hb:b=a
  ·subst hb;rw [t7] at z;cases z;exact ha
  ·rw [j0 hb] at z;exact s.e.fh _ _ z
 refine⟨upd F a (.lst xs),up,⟨⟨s.x.f.trans up,s.x.h,fh,fun b o z y t=>by rw [j0 (j6 y na)];exact s.x.nw b o z y t,b2f s.x.nf⟩,⟨fh,by simp [s.e.len],fun j q ej=> ?_,fun j z ej=> ?_,fun j k z1 z2 c hjk e1 e2 e3 e4=> ?_⟩,fun j z c e1 e2=> ?_⟩⟩
 ·rw [List.getElem?_set] at ej
  by_cases hij:i=j
  ·subst hij
   rw [if_pos rfl,if_pos hi] at ej
   cases ej
   exact⟨.ref a,h1,a,xs,rfl,SqL.of t7,l8.mono up _ rl⟩
  ·rw [if_neg hij] at ej
   obtain⟨v,h2,rr⟩:=s.e.at_ j q ej
   refine⟨v,h2, ?_⟩
   cases q with
   |val p=>exact I0.mono up p rr
   |bo z=>exact absurd ej (s.e.nb j z)
   |ow z=>
    have key:∀b,v= .ref b->b≠a:=fun b hb hab=>by subst hab;subst hb;exact s.e.ap i j _ z b hij e ej h1 h2
    cases z with
    |lst z=>
     obtain⟨b,zs,rfl,fb,hb,rz⟩:=rr
     exact⟨b,zs,rfl,by rw [j0 (key b rfl)];exact fb,hb,l8.mono up _ rz⟩
    |dct z=>
     obtain⟨b,zs,rfl,fb,hb,rz⟩:=rr
     exact⟨b,zs,rfl,by rw [j0 (key b rfl)];exact fb,hb,F9.mono up _ rz⟩
    |txt z=>
     obtain⟨b,zs,rfl,fb,hb,rz⟩:=rr
     exact⟨b,zs,rfl,by rw [j0 (key b rfl)];exact fb,hb,F9.mono up _ rz⟩
 ·rw [List.getElem?_set] at ej
  by_cases hij:i=j
  ·subst hij;rw [if_pos rfl,if_pos hi] at ej;cases ej
  ·rw [if_neg hij] at ej;exact s.e.nb j z ej
 ·have own_at:∀(j:Nat) (z:Y9),(ρ.set i (some (e8.val (.list ps))))[j]?=some (some (e8.ow z))->ρ[j]?=some (some (e8.ow z)):=fun j z h=>by
   rw [List.getElem?_set] at h
   by_cases hij:i=j
   ·subst hij;rw [if_pos rfl,if_pos hi] at h;cases h
   ·rw [if_neg hij] at h;exact h
  exact s.e.ap j k z1 z2 c hjk (own_at j z1 e1) (own_at k z2 e2) e3 e4
 ·rw [List.getElem?_set] at e1
  by_cases hij:i=j
  ·subst hij;rw [if_pos rfl,if_pos hi] at e1;cases e1
  ·rw [if_neg hij] at e1;exact s.nw j z c e1 e2
theorem a6T(i:Nat){st:Stmt}{n:MS}(h:ES X st n):ES X st (a5W i n):=D4 h fun D σ H ⟨F0,H0,F,ρ,fl,so,e,fin⟩=>by
 unfold a5W at e
 split at e
 ·rename_i ps eo
  obtain⟨F',s,so'⟩:=so.frz eo
  exact⟨F0,H0,F',_,fl,so',e,fin.later s⟩
 ·exact⟨F0,H0,F,ρ,fl,so,e,fin⟩
end
def n6(P:AK)(w:AI)(K:AD)(mg:Str->Option AA)(base:Heap)(x:Str)(ps:List Str)(k:Nat)(g:List PV->Option e8):Prop:=
 ∃f fd,R3 P w K mg base CX0 k f fd ps (spP K ps.length g)/\mg x=some (.ref f)/\PySem.W.keepIn K (.ref f)=true/\a0I K fd ps []
theorem b4u{K:AD}{n:Nat}{g g':List PV->Option e8}(h:∀ps r,g' ps=some r->g ps=some r):∀vs H Q E,spP K n g' vs H Q E->spP K n g vs H Q E:=
 fun vs H Q E ⟨F,ps,r,s,rl,hl,e,k⟩=>⟨F,ps,r,s,rl,hl,h _ _ e,k⟩
theorem n6.imp{P:AK}{w:AI}{K:AD}{mg:Str->Option AA}{base:Heap}{x:Str}{ps:List Str}{k:Nat}{g g':List PV->Option e8}(d:n6 P w K mg base x ps k g)(h:∀qs r,g' qs=some r->g qs=some r):n6 P w K mg base x ps k g':=by
 obtain⟨f,fd,G,r⟩:=d
 exact⟨f,fd,G.imp (b4u h),r⟩
section
variable {X:Cx}
theorem n5{k k':Nat}{ps:List Str}{g:List PV->Option e8}{x:Str}{p pos:Pos}{e:AF}{es:List AF}{m:MA}
 (d:n6 X.prog X.w X.K X.mg X.base x ps k g) (hr:J3 k' X.A) (hk:k<=k') (hg:Gl X x) (hn:∀ρ qs,m ρ=some qs->qs.length=ps.length) (ha:EA X (e::es) m)
 (hdb:(x==("__debug__":Str))=false:=by decide) (he:AM (e::es) X.env=(false,eval e X.env)::AM es X.env:=by rfl) (hpl:(backTo pos (AM es X.env)).any (·.1)=false:=by rfl):
 EE X (.Call (.Name x p) (e::es) [] pos) (u4 g m):=by
 obtain⟨f,fd,G,h1,h2,h3⟩:=d
 exact b3p G (hr.mono hk) hg h1 h2 h3 hn ha hdb he hpl
end
def a8v(K:AD):Sp:=fun vs H Q _=>∃(a:AB) (ns:List Int),vs=[.ref a]/\SqL K H a (ns.map V.int)/\ns.length<=63/\∀H',Q (.bl true) H'
theorem a6w{K:AD}{H:Hp}:∀ns:List Int,l8 K H (ns.map PyData.int) (ns.map V.int)
 |[]=>rfl
 |n::ns=>⟨.int n,_,rfl,rfl,a6w ns⟩
theorem b3N{K:AD}{g:List PV->Option e8}(h:∀ns:List Int,ns.length<=63->g [.list (ns.map .int)]=some (.val (.bool true))):∀vs H Q E,a8v K vs H Q E->spP K 1 g vs H Q E:=
 fun vs H Q E ⟨a,ns,e,hs,hl,k⟩=>by
  subst e
  exact⟨H,[.list (ns.map .int)],_,PU.l7.refl H,⟨.ref a,[],rfl,⟨a,_,rfl,hs,a6w ns⟩,rfl⟩,rfl,h ns hl,fun v F' H' o=>by
   have:v= .bl true:=o.rep
   subst this
   exact k H'⟩
def b3B(x y:e8):Option e8:=Z7 a6F (fun i j=> .int (i*j)) x y
theorem b2m{X:Cx}:OpM X (binaryOp .Mult) b3B:=b34
theorem l9(i j:Int):y8 (.val (.int i)) (.val (.int j))=some (.val (.int (i+j))):=Eq.trans rfl rfl
theorem b1N{i j:Str}(h:i.length+j.length<=AQ):y8 (.val (.str i)) (.val (.str j))=some (.val (.str (i++j))):=by simp [y8,h]
theorem a9O{ps qs:List PV}(h:ps.length+qs.length<=AQ):y8 (.own ps) (.own qs)=some (.own (ps++qs)):=by simp [y8,e8.mine,h]
theorem x9(f:Int->Int->PV)(i j:Int):gI f (.val (.int i)) (.val (.int j))=some (.val (f i j)):=Eq.trans rfl rfl
theorem a4p{C:Int->Int->Prop}[∀i j,Decidable (C i j)](f:Int->Int->PV){i j:Int}(h:C i j):Z7 C f (.val (.int i)) (.val (.int j))=some (.val (f i j)):=by
 show(if okC C i j=true then some (e8.val (f i j)) else none)=_
 rw [if_pos (a2Q.mpr h)]
theorem b5L{i j:Int}(h: -18446744073709551616<i/\i<18446744073709551616):b3B (.val (.int i)) (.val (.int j))=some (.val (.int (i*j))):=a4p _ (.inl (by lia))
theorem b5M{i j:Int}(h: -18446744073709551616<j/\j<18446744073709551616):b3B (.val (.int i)) (.val (.int j))=some (.val (.int (i*j))):=a4p _ (.inr (by lia))
theorem B6{f:Int->Int->PV}{i j:Int}(h:0<j):Z7 (fun _ j=>0<j) f (.val (.int i)) (.val (.int j))=some (.val (f i j)):=a4p _ h
theorem G4{f:Int->Int->PV}{i j:Int}(h:0<j/\j<1073741824):Z7 a0Q f (.val (.int i)) (.val (.int j))=some (.val (f i j)):=a4p _ h
theorem b5K{x y:e8}(h:v5 x.rd 50=true/\v5 y.rd 50=true):Z6 x y=some (.val (.bool (PyData.eqv x.rd y.rd))):=by simp [Z6,h]
theorem b1R{x y:e8}(h:v5 x.rd 50=true/\v5 y.rd 50=true):gNe x y=some (.val (.bool (!PyData.eqv x.rd y.rd))):=by simp [gNe,h]
theorem a1B(ps:List PV):U6 (.val (.list ps))=some (.val (.int ps.length)):=Eq.trans rfl rfl
theorem a4S{ps:List PV}{i:Int}{p:PV}(h:L2.atI ps i=some p):v7 (.val (.list ps)) (.val (.int i))=some (.val p):=by simp [v7,e8.rd,Y9.rd,PyData.items?,h]
theorem a9P{ps:List PV}{i:Int}{p:PV}(h:L2.atI ps i=some p):v7 (.val (.tuple ps)) (.val (.int i))=some (.val p):=by simp [v7,e8.rd,Y9.rd,PyData.items?,h]
theorem b3A{ps:List PV}{i:Int}{p:PV}(h:L2.atI ps i=some p):v7 (.own ps) (.val (.int i))=some (.val p):=by simp [v7,e8.rd,Y9.rd,PyData.items?,h]
theorem b3z{ps:List PV}{i:Int}{p:PV}(h:L2.atI ps i=some p):v7 (.bor ps) (.val (.int i))=some (.val p):=by simp [v7,e8.rd,Y9.rd,PyData.items?,h]
theorem a2C(p:PV)(ps:List PV):v7 (.val (.tuple (p::ps))) (.val (.int 0))=some (.val p):=by
 refine a9P ?_
 have h:(0:Int)<(((p::ps).length:Nat):Int):=by simp only [AS];lia
 unfold L2.atI L2.ixN
 rw [if_pos (by decide),if_pos h]
 rfl
theorem K3(p q:PV)(ps:List PV):v7 (.val (.tuple (p::q::ps))) (.val (.int 1))=some (.val q):=by
 refine a9P ?_
 have h:(1:Int)<(((p::q::ps).length:Nat):Int):=by simp only [AS];lia
 unfold L2.atI L2.ixN
 rw [if_pos (by decide),if_pos h]
 rfl
theorem d7(g:e8->e8->Option e8)(ma mb:M)(ρ:c7):m2 g ma mb ρ=(ma ρ).bind fun x=>(mb ρ).bind fun y=>g x y:=Eq.trans rfl rfl
theorem n0(g:e8->Option e8)(ma:M)(ρ:c7):m1 g ma ρ=(ma ρ).bind g:=Eq.trans rfl rfl
theorem d8(p:PV)(ρ:c7):mC p ρ=some (.val p):=Eq.trans rfl rfl
theorem b8(p:PV)(ρ:c7):b7 0 (some (.val p)::ρ)=some (.val p):=Eq.trans rfl rfl
theorem a69(p:List PV)(ρ:c7):b7 0 (some (.own p)::ρ)=some (.bor p):=Eq.trans rfl rfl
theorem f7(n:Nat)(r:Option e8)(ρ:c7):b7 (n+1) (r::ρ)=b7 n ρ:=Eq.trans rfl rfl
theorem d5(ρ:c7):j1 ρ=some []:=Eq.trans rfl rfl
theorem c8(m:M)(r:MA)(ρ:c7):b0 m r ρ=((m ρ).bind e8.toVal).bind fun p=>(r ρ).bind fun ps=>some (p::ps):=Eq.trans rfl rfl
theorem d4(p:PV):(e8.val p).toVal=some p:=Eq.trans rfl rfl
theorem a1L(p:List PV):(e8.own p).toVal=some (.list p):=Eq.trans rfl rfl
theorem D9(m:MA)(ρ:c7):a0R m ρ=(m ρ).bind fun ps=>if ps.length<=AQ then some (.val (.tuple ps)) else none:=Eq.trans rfl rfl
theorem S2(m:MA)(ρ:c7):a3v m ρ=(m ρ).bind fun ps=>if ps.length<=AQ then some (.own ps) else none:=Eq.trans rfl rfl
theorem f9(g:List PV->Option e8)(m:MA)(ρ:c7):u4 g m ρ=(m ρ).bind g:=Eq.trans rfl rfl
def b5p(i:Nat)(ρ:c7)(r:e8):Option Fl:=if r.nb=true then some (.nx (ρ.set i (some r))) else none
theorem g5(i:Nat)(m:M)(ρ:c7):A8 i m ρ=(m ρ).bind (b5p i ρ):=Eq.trans rfl rfl
theorem k4(i:Nat)(ρ:c7)(p:PV):b5p i ρ (.val p)=some (.nx (ρ.set i (some (.val p)))):=Eq.trans rfl rfl
theorem a3e(i:Nat)(ρ:c7)(p:List PV):b5p i ρ (.own p)=some (.nx (ρ.set i (some (.own p)))):=Eq.trans rfl rfl
def b7z(r:e8):Option Fl:=if r.nb=true then some (.rt r) else none
theorem f6(m:M)(ρ:c7):u5 m ρ=(m ρ).bind b7z:=Eq.trans rfl rfl
theorem i8(p:PV):b7z (.val p)=some (.rt (.val p)):=Eq.trans rfl rfl
def b6u(n:MS):Fl->Option Fl
 | .nx ρ=>n ρ
 |f=>some f
theorem d0(m n:MS)(ρ:c7):m9 m n ρ=(m ρ).bind (b6u n):=Eq.trans rfl rfl
theorem g0(n:MS)(ρ:c7):b6u n (.nx ρ)=n ρ:=Eq.trans rfl rfl
theorem j9(n:MS)(r:e8):b6u n (.rt r)=some (.rt r):=Eq.trans rfl rfl
def ifK(m n:MS)(ρ:c7)(b:Bool):Option Fl:=if b=true then m ρ else n ρ
theorem c9(c:MT)(m n:MS)(ρ:c7):B3 c m n ρ=(c ρ).bind (ifK m n ρ):=Eq.trans rfl rfl
theorem n4(m n:MS)(ρ:c7):ifK m n ρ true=m ρ:=Eq.trans rfl rfl
theorem m8(m n:MS)(ρ:c7):ifK m n ρ false=n ρ:=Eq.trans rfl rfl
theorem g7(ρ:c7):u8 ρ=some (.nx ρ):=Eq.trans rfl rfl
def b7A:Fl->Option e8
 | .rt r=>some r
 | .nx _=>some (.val .none)
 |_=>none
theorem g6(n:Nat)(b:MS)(ps:List PV):v6 n b ps=(b (ps.map (fun p=>some (e8.val p))++Ab n none)).bind b7A:=Eq.trans rfl rfl
theorem i5(r:e8):b7A (.rt r)=some r:=Eq.trans rfl rfl
theorem z4(m:M)(ρ:c7):mtV m ρ=(m ρ).bind tru:=Eq.trans rfl rfl
theorem d9(m:M)(ρ:c7):E3 m ρ=(m ρ).bind a5t:=Eq.trans rfl rfl
theorem g8(b:Bool):a5t (.val (.bool b))=some b:=Eq.trans rfl rfl
theorem M3(b:Bool):tru (.val (.bool b))=some b:=Eq.trans rfl rfl
theorem l6(c:MT)(ρ:c7):M2 c ρ=(c ρ).map not:=Eq.trans rfl rfl
def orK(d:MT)(ρ:c7)(b:Bool):Option Bool:=if b=true then some true else d ρ
def b5n(d:MT)(ρ:c7)(b:Bool):Option Bool:=if b=true then d ρ else some false
theorem j4(c d:MT)(ρ:c7):U8 c d ρ=(c ρ).bind (orK d ρ):=Eq.trans rfl rfl
theorem p9(c d:MT)(ρ:c7):W8 c d ρ=(c ρ).bind (b5n d ρ):=Eq.trans rfl rfl
theorem P3(d:MT)(ρ:c7):orK d ρ true=some true:=Eq.trans rfl rfl
theorem A2(d:MT)(ρ:c7):orK d ρ false=d ρ:=Eq.trans rfl rfl
theorem S6(d:MT)(ρ:c7):b5n d ρ true=d ρ:=Eq.trans rfl rfl
theorem a15(d:MT)(ρ:c7):b5n d ρ false=some false:=Eq.trans rfl rfl
def b6V(n:M)(ρ:c7)(r:e8):Option e8:=(a5t r).bind fun b=>if b=true then n ρ else some (.val (.bool false))
def orR(n:M)(ρ:c7)(r:e8):Option e8:=(a5t r).bind fun b=>if b=true then some (.val (.bool true)) else n ρ
theorem b18(m n:M)(ρ:c7):b17 m n ρ=(m ρ).bind (b6V n ρ):=Eq.trans rfl rfl
theorem a9Z(m n:M)(ρ:c7):mOr m n ρ=(m ρ).bind (orR n ρ):=Eq.trans rfl rfl
theorem b5o(n:M)(ρ:c7):b6V n ρ (.val (.bool true))=n ρ:=Eq.trans rfl rfl
theorem b7m(n:M)(ρ:c7):orR n ρ (.val (.bool true))=some (.val (.bool true)):=Eq.trans rfl rfl
theorem b7l(n:M)(ρ:c7):orR n ρ (.val (.bool false))=n ρ:=Eq.trans rfl rfl
def b7f:e8->Option e8
 | .val (.int i)=>some (.val (.int (-i)))
 |_=>none
theorem b19(m:M)(ρ:c7):b5X m ρ=(m ρ).bind b7f:=Eq.trans rfl rfl
theorem b5Z(i:Int):b7f (.val (.int i))=some (.val (.int (-i))):=Eq.trans rfl rfl
theorem b2M(p:PV):(e8.val p).rd=p:=Eq.trans rfl rfl
def b7K(is:List Nat)(ρ:c7):e8->Option Fl
 | .val (.tuple ps)=>if ps.length=is.length then some (.nx (setAll ρ is (ps.map .val))) else none
 |_=>none
theorem b2b(is:List Nat)(m:M)(ρ:c7):b5Y is m ρ=(m ρ).bind (b7K is ρ):=Eq.trans rfl rfl
theorem b6G(i j:Nat)(ρ:c7)(p q:PV):b7K [i,j] ρ (.val (.tuple [p,q]))=some (.nx ((ρ.set i (some (.val p))).set j (some (.val q)))):=Eq.trans rfl rfl
theorem D8(it:MI)(tg:PV->c7->Option c7)(body:MS)(ρ:c7):a44 it tg body ρ=(it ρ).bind fun ps=>O9 body tg ps ρ:=Eq.trans rfl rfl
def b49:List PV->Option (List PV)
 |[.int j]=>if inR j=true then some (a1S 0 j) else none
 |_=>none
theorem a6i(m:MA)(ρ:c7):a2K m ρ=(m ρ).bind b49:=Eq.trans rfl rfl
theorem b0c{j:Int}(h: -4611686018427387904<=j/\j<4611686018427387904):b49 [.int j]=some (a1S 0 j):=by
 show(if inR j=true then some (a1S 0 j) else none)=_
 rw [if_pos (a61.mpr (by lia))]
theorem a7Z(i j:Int):gNe (.val (.int i)) (.val (.int j))=some (.val (.bool (!(i==j)))):=Eq.trans rfl rfl
theorem J5(i j:Int):Z6 (.val (.int i)) (.val (.int j))=some (.val (.bool (i==j))):=Eq.trans rfl rfl
theorem sz(n:Nat):(n<=AQ)=(n<=16777216):=by rw [sizeLine_eq]
end PU
namespace L2
open PySem PySem.Spec PyProof.Rows
theorem E5:∀(names:List (Str×NameKind)) (n:Nat) (acc:List (Str×AB)),cellsFrom n names acc=cellsFrom n names []++acc
 |[],_,_=>rfl
 |(x,k)::r,n,acc=>by
  unfold cellsFrom
  split
  ·rw [E5 r (n+1) ((x,n)::acc),E5 r (n+1) [(x,n)],List.append_assoc];rfl
  ·exact E5 r n acc
theorem N3:∀{names:List (Str×NameKind)} {n:Nat} {x:Str} {c:AB},(x,c)∈cellsFrom n names []->n<=c/\(x,NameKind.cell)∈names
 |[],_,_,_,h=>nomatch h
 |(y,k)::r,n,x,c,h=>by
  unfold cellsFrom at h
  split at h
  ·rename_i hk
   rw [E5] at h
   rcases Am.mp h with h|h
   ·obtain⟨a,b⟩:=N3 h
    exact⟨by lia,Ae _ b⟩
   ·have e:(x,c)=(y,n):=by simpa using h
    cases e
    have:k= .cell:=by simpa using hk
    subst this
    exact⟨AW _,Af⟩
  ·obtain⟨a,b⟩:=N3 h
   exact⟨a,Ae _ b⟩
theorem a42{α:Type}:∀{l:List (Str×α)} {x:Str},(∀c,(x,c)∉l)->l.lookup x=none:=fun {l x} h=>by
 cases e:l.lookup x with
 |none=>rfl
 |some c=>exact absurd (PySem.mem_of_lookup e) (h c)
theorem a10{α:Type}:∀{l r:List (Str×α)} {x:Str},l.lookup x=none->(l++r).lookup x=r.lookup x
 |[],_,_,_=>rfl
 |(y,v)::l,r,x,h=>by
  rw [AO,List.lookup_cons]
  rw [List.lookup_cons] at h
  cases e:x==y with
  |true=>rw [e] at h;cases h
  |false=>rw [e] at h;exact a10 h
def T9(cells:List (Str×AB)):List (Str×NameKind)->List (Str×AB)->List (Str×AB)
 |[],acc=>acc
 |(x,k)::r,acc=>if k== .free then T9 cells r ((x,(cells.lookup x).getD 0)::acc) else T9 cells r acc
theorem a3f{cells:List (Str×AB)}:∀{names:List (Str×NameKind)} {acc:List (Str×AB)} {x:Str} {c:AB},(x,c)∈T9 cells names acc->(x,c)∈acc\/((x,NameKind.free)∈names/\c=(cells.lookup x).getD 0)
 |[],_,_,_,h=> .inl h
 |(y,k)::r,acc,x,c,h=>by
  unfold T9 at h
  split at h
  ·rename_i hk
   rcases a3f h with h|⟨h1,h2⟩
   ·rcases Ad.mp h with e|h
    ·cases e
     have:k= .free:=by simpa using hk
     subst this
     exact .inr ⟨Af,rfl⟩
    ·exact .inl h
   ·exact .inr ⟨Ae _ h1,h2⟩
  ·rcases a3f h with h|⟨h1,h2⟩
   ·exact .inl h
   ·exact .inr ⟨Ae _ h1,h2⟩
theorem a02{cells:List (Str×AB)}:∀{names:List (Str×NameKind)} {acc:List (Str×AB)} {x:Str},x∉names.map (·.1)->(T9 cells names acc).lookup x=acc.lookup x
 |[],_,_,_=>rfl
 |(y,k)::r,acc,x,h=>by
  have h':¬(x=y)/\x∉r.map (·.1):=by simpa using h
  unfold T9
  split
  ·rw [a02 h'.2,List.lookup_cons]
   have e:(x==y)=false:=by simpa using h'.1
   rw [e]
  ·exact a02 h'.2
theorem a0s{cells:List (Str×AB)}:∀{names:List (Str×NameKind)} {acc:List (Str×AB)} {x:Str},(names.map (·.1)).Nodup->names.lookup x=some .free->(T9 cells names acc).lookup x=some ((cells.lookup x).getD 0)
 |[],_,_,_,h=>by cases h
 |(y,k)::r,acc,x,nd,h=>by
  have nd':y∉r.map (·.1)/\(r.map (·.1)).Nodup:=List.nodup_cons.mp nd
  rw [List.lookup_cons] at h
  unfold T9
  cases e:x==y with
  |true=>
   rw [e] at h
   have hk:k= .free:=by simpa using h
   subst hk
   have exy:x=y:=by simpa using e
   subst exy
   rw [if_pos (show(NameKind.free==NameKind.free)=true from rfl),a02 nd'.1,List.lookup_cons,e]
  |false=>
   rw [e] at h
   split
   ·exact a0s nd'.2 h
   ·exact a0s nd'.2 h
theorem X4{env:Env}(f:Str×NameKind->List (Str×AB)->Sem (ForInStep (List (Str×AB))))(hf:∀x k cs,f (x,k) cs=if k== .free then(do let c<-cellOf env x;pure (.yield ((x,c)::cs))) else pure (.yield cs)):
 ∀(names:List (Str×NameKind)) (acc:List (Str×AB)),(∀x∈names,x.2= .free->(env.cells.lookup x.1).isSome=true)->forIn names acc f=pure (T9 env.cells names acc)
 |[],acc,_=>rfl
 |(x,k)::r,acc,h=>by
  rw [List.forIn_cons,hf]
  unfold T9
  have hr:=fun y hy=>h y (Ae _ hy)
  split
  ·rename_i hk
   have:=h (x,k) Af (by simpa using hk)
   obtain⟨c,hc⟩:=Option.isSome_iff_exists.mp this
   unfold cellOf
   rw [hc]
   show forIn r ((x,c)::acc) f=_
   exact X4 f hf r _ hr
  ·exact X4 f hf r acc hr
theorem a5R{scope:Scope}{env:Env}(h:∀x∈scope.names,x.2= .free->(env.cells.lookup x.1).isSome=true):closureFor scope env=pure (T9 env.cells scope.names []):=by
 unfold closureFor
 have e:=X4 (env:=env) (fun(x:Str×NameKind) (cs:List (Str×AB))=>if x.2== .free then(do let c<-cellOf env x.1;pure (.yield ((x.1,c)::cs))) else pure (.yield cs)) (fun _ _ _=>rfl) scope.names [] h
 show(forIn scope.names [] _>>=fun r=>pure r)=_
 refine Eq.trans (congrArg (· >>=fun r=>pure r) (Eq.trans (congrArg (forIn scope.names []) ?_) e)) rfl
 funext x cs
 cases x with
 |mk n k=>cases k<;>rfl
theorem a1c{env:Env}{x:Str}:∀{names:List (Str×NameKind)},(names.map fun(p:Str×NameKind)=>if(p.2==NameKind.free && env.scope.kind== .function && env.kindOf p.1==some .cell) then(p.1,NameKind.cell) else(p.1,p.2)).lookup x
 =(names.lookup x).map fun k=>if(k==NameKind.free && env.scope.kind== .function && env.kindOf x==some .cell) then NameKind.cell else k
 |[]=>rfl
 |(n,k)::r=>by
  rw [AL]
  have ih:= @a1c env x r
  show List.lookup x ((if(k==NameKind.free && env.scope.kind== .function && env.kindOf n==some .cell)=true then(n,NameKind.cell) else(n,k))::_)=_
  cases hx:x==n with
  |true=>
   have e:x=n:=by simpa using hx
   subst e
   by_cases c:(k==NameKind.free && env.scope.kind== .function && env.kindOf x==some .cell)=true
   ·rw [if_pos c,List.lookup_cons,hx,List.lookup_cons,hx];exact congrArg some (if_pos c).symm
   ·rw [if_neg c,List.lookup_cons,hx,List.lookup_cons,hx];exact congrArg some (if_neg c).symm
  |false=>
   by_cases c:(k==NameKind.free && env.scope.kind== .function && env.kindOf n==some .cell)=true
   ·rw [if_pos c,List.lookup_cons,hx,List.lookup_cons,hx];exact ih
   ·rw [if_neg c,List.lookup_cons,hx,List.lookup_cons,hx];exact ih
def L9(scope:Scope)(C:AB)(env:Env):Env:=
 {scope:=relabel scope env,locals:=C,globals:=env.globals,cells:=cellsFrom (C+1) scope.names (T9 env.cells scope.names []),qual:=env.qual,func:=none,code:=env.code,frame:=env.frame,builtins:=env.builtins}
def hid(ys:List Str)(x:Str):Str:=if ys.contains x=true then AN "0"++x else x
def V3(X:Cx)(N0:List Str)(scope:Scope)(ys:List Str)(C:AB)(fp:List AB)(pins:List (AB×Obj))(s₃:AC)(H₃:Hp):Cx:=
 {X with N:=N0++ys,s₀:=s₃,H₀:=H₃,env:=L9 scope C X.env,outer:=X.stack,ex:=fp,fn:=fun x=>scope.names.lookup x==some .cell,pn:=X.pn++pins}
theorem V4{scope:Scope}{C:AB}{env:Env}{x:Str}:(L9 scope C env).kindOf x=(scope.names.lookup x).map fun k=>if(k==NameKind.free && env.scope.kind== .function && env.kindOf x==some .cell) then NameKind.cell else k:=
 a1c
structure Y8(N N0 ys:List Str)(env:Env)(scope:Scope):Prop where
 eq:N0=N.map (hid ys)
 kind:scope.kind= .function
 nd:(scope.names.map (·.1)).Nodup
 fr:∀x∈scope.names,x.2= .free->env.kindOf x.1=some .cell\/env.kindOf x.1=some .free
 ou:∀x∈N,(ys.contains x=true->scope.names.lookup (hid ys x)=none)/\(ys.contains x=false->scope.names.lookup x=none\/scope.names.lookup x=some .free\/scope.names.lookup x=some .globalImplicit)
theorem C6{α:Type}:∀{l:List (Str×α)} {x:Str} {v:α},(l.map (·.1)).Nodup->(x,v)∈l->l.lookup x=some v
 |[],_,_,_,h=>nomatch h
 |(y,w)::r,x,v,nd,h=>by
  have nd':y∉r.map (·.1)/\(r.map (·.1)).Nodup:=List.nodup_cons.mp nd
  rw [List.lookup_cons]
  rcases Ad.mp h with e|h
  ·cases e;simp
  ·have:x≠y:=fun e=>nd'.1 (by rw [<-e];exact BA.mpr ⟨_,h,rfl⟩)
   have e:(x==y)=false:=by simpa using this
   rw [e]
   exact C6 nd'.2 h
section
variable {M:Model}{A:AJ}{E:AA->AC->Prop}{s:AC}
theorem a1R{scope:Scope}{globals:AB}{cl:List (Str×AB)}{qual:Str}{env:Env}{builtins:AB}{Q:Env->AC->Prop}
 (h:Q (newEnv scope s.heap.objs.size globals (cellsFrom (s.heap.objs.size+1) scope.names cl) qual none .none (some env) builtins) {s with heap:=pushCells (s.heap.push {cls:= .type "dict",data:= .dict #[]}) scope.names}):
 AH M A (newFunctionEnv scope globals cl [] qual none .none (some env) builtins) Q E s:=by
 simp only [newFunctionEnv,Option.isSome_some,if_true]
 refine AG (wpAny_alloc ?_)
 refine AG (wpAny_layCells _ (fun name kind cells=>by cases hkc:kind==NameKind.cell<;>simp [hkc]) _ _ _ _ ?_)
 rw [show({s with heap:=s.heap.push {cls:= .type "dict",data:= .dict #[]}}:AC).heap.objs.size=s.heap.objs.size+1 from Heap.size_push ..]
 exact AG (AV (AV h))
end
section
variable {prog:AK}{w:AI}{A:AJ}{R:Result->AC->Prop}{s:AC}
theorem a1O{elt target iter:AF}{ifs:List AF}{scope:Scope}{pos:Pos}{it acc:AA}{env:Env}(I:Nat->AC->Prop)
 (turn:∀n s,I n s->AH (model prog w) A (pyNext it) (fun r s₁=>match r with
  |none=>R (.ok .next) s₁
  |some v=>AH (model prog w) A (letOwnedTupleGo target it v) (fun _ s₁'=>AH (model prog w) A (assign target env v) (fun _ s₂=>
   AH (model prog w) A (forIn ifs true fun c r=>if r=true then do let ok<-isTrue c env (eval c env);pure (ForInStep.yield ok) else pure (ForInStep.yield r)) (fun ok s₃=>
    if ok=true then AH (model prog w) A (eval elt env) (fun x s₄=>
     AH (model prog w) A (call (.builtin "list.append") [acc,x]) (fun _ s₅=>∃m,m<n/\I m s₅) (fun _ _=>False) s₄) (fun _ _=>False) s₃
    else ∃m,m<n/\I m s₃) (fun _ _=>False) s₂) (fun _ _=>False) s₁') (fun _ _=>False) s₁) (fun _ _=>False) s)
 (n:Nat) (h:I n s):
 codeAny (model prog w) A (.compLoop (.ListComp elt [⟨target,iter,ifs,0⟩] scope pos) 0 it acc env) R s:=by
 refine codeAny_loop rfl I (fun n s hI=> ?_) n h
 show AH _ A ((compTurn (.ListComp elt [⟨target,iter,ifs,0⟩] scope pos) 0 it acc env).onRaise (fun x=>do noteFrame x env;theTreesLotGoes x)) _ _ s
 refine wpAny_noted ?_
 rw [compTurn_list]
 refine AG (wpAny_standAt (AG (wpAny_mono (turn n s hI) (fun r s₁ h₁=> ?_) fun _ _ h'=>h'.elim)))
 cases r with
 |none=>exact AV h₁
 |some v=>
  refine AG (wpAny_mono h₁ (fun _ s₁' h₁'=> ?_) fun _ _ h'=>h'.elim)
  refine AG (wpAny_mono h₁' (fun _ s₂ h₂=>AG (wpAny_mono h₂ (fun ok s₃ h₃=> ?_) fun _ _ h'=>h'.elim)) fun _ _ h'=>h'.elim)
  cases ok with
  |false=>exact AV ⟨rfl,h₃⟩
  |true=>
   exact AG (AG (wpAny_mono h₃ (fun x s₄ h₄=>AG (wpAny_mono h₄ (fun _ s₅ h₅=>AV (AV ⟨rfl,h₅⟩)) fun _ _ h'=>h'.elim)) fun _ _ h'=>h'.elim))
end
def PCs(X:Cx)(ifs:List AF)(t:TT):Prop:=
 ∀(pins:List (AB×Obj)) (s:AC) (σ:St) (H:Hp) (Q:Bool->Hp->Prop),j7 X pins σ H s->t σ H Q->
  AH (model X.prog X.w) X.A (forIn ifs true fun c r=>if r=true then do let ok<-isTrue c X.env (eval c X.env);pure (ForInStep.yield ok) else pure (ForInStep.yield r)) (TP X pins σ Q) X.xe s
def b7I:TT:=fun _ H Q=>Q true H
theorem b35{X:Cx}:PCs X [] b7I:=fun pins s σ H Q I h=>wpAny_tests_nil ⟨H,I,h⟩
def b2Y(wi:TI)(g:TG)(tc:TT)(te:TE)(k:Nat):TE:=fun σ H Q=>wi σ H fun J H1=>∀D,H1 D=none->∃W:Nat->Nat->List V->Hp->Prop,(∃m,W 0 m [] (upd H1 D (.lst [])))/\∀i m xs H2,W i m xs H2->H2 D=some (.lst xs)->
 (J.stop i H2/\Q (.ref D) H2)\/(J.go i H2/\∀x H3,J.yld i H2 x H3->g x (σ++Ab k none) H3 fun σ4 H4=>(∀(j:Nat) v,(σ++Ab k none)[j]?=some (some v)->σ4[j]?=some (some v))/\tc σ4 H4 fun b H5=>if b=true then te σ4 H5 fun v H6=>H6 D=some (.lst xs)/\xs.length<AQ/\∃m',m'<m/\W (i+1) m' (xs++[v]) (upd H6 D (.lst (xs++[v])))
  else H5 D=some (.lst xs)/\∃m',m'<m/\W (i+1) m' xs H5)
section
variable {X:Cx}{elt iter tg:AF}{ifs:List AF}{scope:Scope}{N0 ys:List Str}{wi:TI}{g:TG}{tc:TT}{te:TE}{pos:Pos}
theorem a0v{pins:List (AB×Obj)}{σ:St}{H:Hp}{s:AC}(I:j7 X pins σ H s)(S:Y8 X.N N0 ys X.env scope){x:Str}(h:(x,NameKind.free)∈scope.names):∃c,X.env.cells.lookup x=some c:=I.ok.has x (S.fr _ h rfl)
theorem a8W{pins:List (AB×Obj)}{σ:St}{H:Hp}{s:AC}{fp:List AB}(S:Y8 X.N N0 ys X.env scope)(I:j7 X pins σ H s)(hf:∀b∈fp,a3c X pins H b)(ho:∀b∈fp,∃o,s.heap.get? b=some o/\∀v,o.data≠.cell v):
 j7 (V3 X N0 scope ys s.heap.objs.size fp pins s H) [] (σ++Ab ys.length none) H {s with heap:=pushCells (s.heap.push {cls:= .type "dict",data:= .dict #[]}) scope.names}:=by
 have up:∀b o,s.heap.get? b=some o->(pushCells (s.heap.push {cls:= .type "dict",data:= .dict #[]}) scope.names).get? b=some o:=fun b o e=>pushCells_keeps _ _ b o (Al _ e)
 have okc:=cellsFrom_ok scope.names (s.heap.push {cls:= .type "dict",data:= .dict #[]}) (s.heap.objs.size+1) [] ⟨fun _ _ hm=>(nomatch hm),List.Pairwise.nil⟩ (by rw [Heap.size_push];exact AW _)
 rw [Heap.size_push] at okc
 have cel:∀x c,(L9 scope s.heap.objs.size X.env).cells.lookup x=some c->((x,c)∈cellsFrom (s.heap.objs.size+1) scope.names []/\(x,NameKind.cell)∈scope.names/\s.heap.objs.size<c)\/(X.env.cells.lookup x=some c/\(x,NameKind.free)∈scope.names):=fun x c e=>by
  have m:=PySem.mem_of_lookup e
  have m:(x,c)∈cellsFrom (s.heap.objs.size+1) scope.names (T9 X.env.cells scope.names []):=m
  rw [E5] at m
  rcases Am.mp m with m|m
  ·obtain⟨h1,h2⟩:=N3 m
   exact .inl ⟨m,h2,h1⟩
  ·rcases a3f m with m|⟨m,e⟩
   ·exact nomatch m
   ·obtain⟨c',hc'⟩:=a0v I S m
    rw [hc'] at e
    exact .inr ⟨by rw [hc',e];rfl,m⟩
 have celLt:∀x c,X.env.cells.lookup x=some c->c<s.heap.objs.size:=fun x c e=>let ⟨_,h⟩:=I.cell x c e;h.lt
 have fpLt:∀b∈fp,b<s.heap.objs.size:=fun b hb=>let ⟨_,e,_⟩:=ho b hb;Ac e
 have cellNo:∀x,(x,NameKind.cell)∉scope.names->(cellsFrom (s.heap.objs.size+1) scope.names []).lookup x=none:=fun x hx=>a42 fun c m=>hx (N3 m).2
 have look:∀x,(x,NameKind.free)∈scope.names->(L9 scope s.heap.objs.size X.env).cells.lookup x=X.env.cells.lookup x:=fun x m=>by
  have hl:=C6 S.nd m
  have hn:(x,NameKind.cell)∉scope.names:=fun z=>by
   have:=C6 S.nd z
   rw [hl] at this;cases this
  show(cellsFrom (s.heap.objs.size+1) scope.names (T9 X.env.cells scope.names [])).lookup x=_
  rw [E5,a10 (cellNo x hn),a0s S.nd hl]
  obtain⟨c,hc⟩:=a0v I S m
  rw [hc];rfl
 have kindF:∀x,scope.names.lookup x=some .free->X.env.kindOf x=some .cell\/X.env.kindOf x=some .free:=fun x h=>S.fr _ (PySem.mem_of_lookup h) rfl
 refine⟨⟨I.mod,S.kind,I.ok.glob,I.ok.blt,AW _,fun x y c h1 h2=> ?_,fun x h=> ?_,fun x c h1 h2=> ?_,I.ok.hd,I.ok.frames,.inl rfl,fun b hb=> ?_,I.bs,Nat.le_trans I.ok.bsz I.sz,fun b o e hb=> ?_,fun b hb hz=> ?_,I.stack,I.stkFree⟩,
  rfl,I.bare,Un.kept up,⟨fun _=>none, ?_,fun i x v h1 h2 h3=> ?_⟩,fun x c e=> ?_,I.hok.fresh (AW _),fun x c e=> ?_,fun p hp=> ?_,I.hok.kept up, ?_⟩
 ·rcases cel x c h1 with⟨a1,b1,c1⟩|⟨a1,b1⟩
  ·rcases cel y c h2 with⟨a2,b2,c2⟩|⟨a2,b2⟩
   ·exact name_of_addr okc.apart a1 a2
   ·exact absurd (Nat.lt_trans c1 (celLt y c a2)) (Nat.lt_irrefl _)
  ·rcases cel y c h2 with⟨a2,b2,c2⟩|⟨a2,b2⟩
   ·exact absurd (Nat.lt_trans c2 (celLt x c a1)) (Nat.lt_irrefl _)
   ·exact I.ok.inj x y c a1 a2
 ·have hk:(L9 scope s.heap.objs.size X.env).kindOf x=some .cell\/(L9 scope s.heap.objs.size X.env).kindOf x=some .free:=h
  rw [V4] at hk
  cases e:scope.names.lookup x with
  |none=>rw [e] at hk;rcases hk with z|z<;>cases z
  |some k=>
   rw [e] at hk
   have hk':k= .cell\/k= .free:=by
    by_cases c:(k==NameKind.free && X.env.scope.kind== .function && X.env.kindOf x==some .cell)=true
    ·have:(k==NameKind.free)=true:=by
      rw [Bool.and_eq_true,Bool.and_eq_true] at c;exact c.1.1
     exact .inr (by simpa using this)
    ·simp only [Ah] at hk
     rw [if_neg c] at hk
     rcases hk with z|z
     ·cases z;exact .inl rfl
     ·cases z;exact .inr rfl
   rcases hk' with rfl|rfl
   ·have q:=PySem.W.cellsFrom_some (x:=x) scope.names (s.heap.objs.size+1) (T9 X.env.cells scope.names []) (.inl e)
    exact Option.isSome_iff_exists.mp q
   ·obtain⟨c,hc⟩:=a0v I S (PySem.mem_of_lookup e)
    exact⟨c,by show(L9 scope s.heap.objs.size X.env).cells.lookup x=_;rw [look x (PySem.mem_of_lookup e)];exact hc⟩
 ·rcases cel x c h2 with⟨_,_,c1⟩|⟨_,b1⟩
  ·exact BF c1
  ·have h1':(scope.names.lookup x==some .cell)=true:=h1
   rw [C6 S.nd b1] at h1'
   cases h1'
 ·refine⟨As (fpLt b hb),fun x c e z=> ?_⟩
  rcases cel x c e with⟨_,_,c1⟩|⟨a1,_⟩
  ·rw [z] at c1;exact absurd (Nat.lt_trans c1 (fpLt b hb)) (Nat.lt_irrefl _)
  ·exact(hf b hb).2.2.2.2.1 x c a1 z
 ·have hb:b∈fp:=hb
  rcases(hf b hb).2.2.2.1 with z|z
  ·exact I.ok.noex b o e z
  ·have h1:=(I.ok.bs b o e).1
   have:=Ac h1
   exact absurd (Ar this z) (Nat.lt_irrefl _)
 ·have hb:b∈fp:=hb
  have hz:b∈frs X.stack:=hz
  rcases Ad.mp (I.stkSub b hz) with z|z
  ·exact(hf b hb).2.1 z
  ·exact(hf b hb).2.2.1 z
 ·exact(Heap.Ns.new s.heap (.type "dict")).keeps (pushCells_keeps _ _)
 ·have h1:(N0++ys)[i]?=some x:=h1
  rw [S.eq] at h1
  have hi:i<σ.length:=by
   by_cases hi:i<σ.length
   ·exact hi
   ·rw [List.getElem?_append_right (by lia),List.getElem?_replicate] at h2
    split at h2<;>cases h2
  rw [BC hi] at h2
  rw [BC (by rw [Ak,<-I.len];exact hi),BB] at h1
  have hvis:Vis (L9 scope s.heap.objs.size X.env).scope x:=h3
  have hkn:scope.names.lookup x=none->False:=fun z=>by
   have hk:∀k,(L9 scope s.heap.objs.size X.env).kindOf x=some k->scope.names.lookup x≠none:=fun k z e=>by
    rw [V4,e] at z;cases z
   rcases hvis with e|e|e<;>exact absurd z (hk _ e)
  have h1:X.N[i]?=some x/\ys.contains x=false:=by
   cases e0:X.N[i]? with
   |none=>rw [e0] at h1;cases h1
   |some x0=>
    rw [e0] at h1
    have h1:hid ys x0=x:=Option.some.inj h1
    have ho:=S.ou x0 (BD e0)
    cases hc:ys.contains x0 with
    |true=>exact(hkn (by rw [<-h1];exact ho.1 hc)).elim
    |false=>
     have hx:x0=x:=by rw [<-h1];unfold hid;rw [if_neg (by rw [hc];exact Aj)]
     subst hx
     exact⟨rfl,hc⟩
  obtain⟨h1,hys⟩:=h1
  have hfree:scope.names.lookup x=some .free:=by
   have hk:∀k,(L9 scope s.heap.objs.size X.env).kindOf x=some k->scope.names.lookup x≠none:=fun k z e=>by
    rw [V4,e] at z;cases z
   rcases(S.ou x (BD h1)).2 hys with z|z|z
   ·rcases hvis with e|e|e<;>exact absurd z (hk _ e)
   ·exact z
   ·have hg:(L9 scope s.heap.objs.size X.env).kindOf x=some .globalImplicit:=by
     rw [V4,z];rfl
    rcases hvis with e|e|e
    ·have e:(L9 scope s.heap.objs.size X.env).kindOf x=some .local:=e
     rw [hg] at e;cases e
    ·have e:(L9 scope s.heap.objs.size X.env).kindOf x=some .cell:=e
     rw [hg] at e;cases e
    ·have e:(L9 scope s.heap.objs.size X.env).kindOf x=some .free:=e
     rw [hg] at e;cases e
  obtain⟨m,hn,hl⟩:=I.loc
  have hv:Vis X.env.scope x:=by
   rcases kindF x hfree with z|z
   ·exact .inr (.inl z)
   ·exact .inr (.inr z)
  obtain⟨u,r,l⟩:=hl i x v h1 h2 hv
  refine⟨u,r, ?_⟩
  rcases l with⟨k,_⟩|⟨k,c,e,z⟩
  ·rcases kindF x hfree with q|q<;>rw [q] at k<;>cases k
  ·refine .inr ⟨?_,c,by show(L9 scope s.heap.objs.size X.env).cells.lookup x=_;rw [look x (PySem.mem_of_lookup hfree)];exact e,z.keeps up⟩
   show(L9 scope s.heap.objs.size X.env).kindOf x=some .cell\/(L9 scope s.heap.objs.size X.env).kindOf x=some .free
   rw [V4,hfree]
   by_cases cc:((NameKind.free==NameKind.free)&& X.env.scope.kind== .function && X.env.kindOf x==some .cell)=true
   ·exact .inl (congrArg some (if_pos cc))
   ·exact .inr (congrArg some (if_neg cc))
 ·rcases cel x c e with⟨a1,_,_⟩|⟨a1,_⟩
  ·exact⟨none,(okc.empty x c a1).1⟩
  ·obtain⟨v,z⟩:=I.cell x c a1
   exact⟨v,z.keeps up⟩
 ·rcases cel x c e with⟨_,_,c1⟩|⟨a1,_⟩
  ·exact I.hok.fresh (BF c1)
  ·exact I.freeC x c a1
 ·have hp:p∈(X.pn++pins)++[]:=hp
  rw [Ag] at hp
  obtain⟨e,n,ne,nf,d⟩:=I.pin p hp
  refine⟨up _ _ e,n,As (Ac e),fun hz=> ?_,d⟩
  have hz:p.1∈frs X.stack:=hz
  rcases Ad.mp (I.stkSub p.1 hz) with z|z
  ·exact ne z
  ·exact nf z
 ·show(σ++Ab ys.length none).length=(N0++ys).length
  rw [Aa,List.length_replicate,Aa,S.eq,Ak,I.len]
end
section
variable {X:Cx}{elt iter tg:AF}{ifs:List AF}{scope:Scope}{N0 ys:List Str}{wi:TI}{g:TG}{tc:TT}{te:TE}{pos:Pos}
def b1f(X:Cx)(pins:List (AB×Obj))(C:AB):Prop:=C≠X.env.locals/\X.s₀.heap.objs.size<=C/\(∀x c,X.env.cells.lookup x=some c->c≠C)/\∀p∈X.pn++pins,p.1≠C
theorem b0z{pos':Pos}{use:Option (AA->Sem Unit)}{QQ:AA->AC->Prop}(hx:∀e s,X.xe e s->False)(hc:X.calm=true)(S:Y8 X.N N0 ys X.env scope)(hi:PI X tg iter wi)
 (hg:∀C fp pins s H,PG (V3 X N0 scope ys C fp pins s H) tg g) (ht:∀C fp pins s H,PCs (V3 X N0 scope ys C fp pins s H) ifs tc) (he:∀C fp pins s H,PE (V3 X N0 scope ys C fp pins s H) elt te)
 (hs:∀x,foldedSetIterable iter X.env x=pure x) {pins:List (AB×Obj)} {s:AC} {σ:St} {H:Hp} {Q:VK} (I:j7 X pins σ H s) (h:b2Y wi g tc te ys.length σ H Q)
 (fin:∀D C s' H' m,j7 X pins σ H' s'->s'.heap.Ns C m->H' C=none->b1f X pins C->Q (.ref D) H'->compPost (model X.prog X.w) X.A X.xe use QQ (.ref D) C (.ok .next) s'):
 AH (model X.prog X.w) X.A (comprehension (.ListComp elt [⟨tg,iter,ifs,0⟩] scope pos) scope X.env pos' (newList []) false (eval iter X.env) use) QQ X.xe s:=by
 have hcl:closureFor scope X.env=pure (T9 X.env.cells scope.names []):=a5R fun x hx' hk=>by
  obtain⟨c,e⟩:=a0v (ys:=ys) I S (x:=x.1) (by rw [<-hk];exact hx')
  rw [e];rfl
 refine wpAny_comprehension_free (use:=use) rfl hs hcl S.kind (fun x hx' hk=>C6 S.nd (by rw [<-hk];exact hx')) (L4 (hi pins s σ H _ I h) fun v s1 h1=>L4 h1 fun itv s2 h2=> ?_)
 obtain⟨it,fp,tn,J,H2,e,I2,T,st2,f2,hW⟩:=h2
 subst e
 have hfr:=I2.hok.fresh (AW _)
 obtain⟨W,⟨m0,w0⟩,turn⟩:=hW s2.heap.objs.size hfr
 have fpLt:∀b∈fp,b<s2.heap.objs.size:=fun b hb=>let ⟨_,e,_⟩:=T.obj _ _ st2 b hb;Ac e
 refine wpAny_newObj_type ?_
 have I3:j7 X pins σ (upd H2 s2.heap.objs.size (.lst [])) {s2 with heap:=s2.heap.push {cls:= .type "list",data:= .seq ([]:List AA).toArray}}:=
  I2.laid (t':=s2.toks) (fun b o e=>Al _ e) (AW _) ⟨by decide,[],0,.nil,Aw _ rfl⟩
 have up3:∀b o,s2.heap.get? b=some o->(s2.heap.push {cls:= .type "list",data:= .seq ([]:List AA).toArray}).get? b=some o:=fun b o e=>Al _ e
 have st3:tn 0 (s2.heap.push {cls:= .type "list",data:= .seq ([]:List AA).toArray}):=T.keep _ _ _ st2 fun b _ o e=>up3 b o e
 have f3:∀b∈fp,a3c X pins (upd H2 s2.heap.objs.size (.lst [])) b:=fun b hb=>⟨by rw [j0 (As (fpLt b hb))];exact(f2 b hb).1,(f2 b hb).2⟩
 generalize hs3:({s2 with heap:=s2.heap.push {cls:= .type "list",data:= .seq ([]:List AA).toArray}}:AC)=s3 at I3
 have hs3h:s3.heap=s2.heap.push {cls:= .type "list",data:= .seq ([]:List AA).toArray}:=by rw [<-hs3]
 rw [<-hs3h] at st3 up3
 refine a1R ?_
 have I4:=a8W S I3 f3 (T.obj _ _ st3)
 generalize hs4:({s3 with heap:=pushCells (s3.heap.push {cls:= .type "dict",data:= .dict #[]}) scope.names}:AC)=s4 at I4 ⊢
 have hs4h:s4.heap=pushCells (s3.heap.push {cls:= .type "dict",data:= .dict #[]}) scope.names:=by rw [<-hs4]
 have st4:tn 0 s4.heap:=T.keep _ _ _ st3 fun b _ o e=>by rw [hs4h];exact pushCells_keeps _ _ b o (Al _ e)
 generalize hX:V3 X N0 scope ys s3.heap.objs.size fp pins s3 (upd H2 s2.heap.objs.size (.lst []))=Y at I4
 have Yp:Y.prog=X.prog:=by rw [<-hX];rfl
 have Yw:Y.w=X.w:=by rw [<-hX];rfl
 have YK:Y.K=X.K:=by rw [<-hX];rfl
 have YA:Y.A=X.A:=by rw [<-hX];rfl
 have Yc:Y.calm=true:=by rw [<-hX];exact hc
 have Yx:Y.xe=X.xe:=by rw [<-hX];rfl
 have YL:Y.env.locals=s3.heap.objs.size:=by rw [<-hX];rfl
 have Yf:Y.fs=frs X.stack:=by rw [<-hX];rfl
 have Ye:Y.ex=fp:=by rw [<-hX];rfl
 have Yn:Y.pn=X.pn++pins:=by rw [<-hX];rfl
 have Ys:Y.s₀=s3:=by rw [<-hX];rfl
 have YH:Y.H₀=upd H2 s2.heap.objs.size (.lst []):=by rw [<-hX];rfl
 have YE:Y.env=L9 scope s3.heap.objs.size X.env:=by rw [<-hX];rfl
 have hgY:PG Y tg g:=by rw [<-hX];exact hg _ _ _ _ _
 have htY:PCs Y ifs tc:=by rw [<-hX];exact ht _ _ _ _ _
 have heY:PE Y elt te:=by rw [<-hX];exact he _ _ _ _ _
 have nlen:(σ++Ab ys.length none).length=Y.N.length:=I4.len
 have exf:=I4.ok.exf
 have exfs:=I4.ok.exfs
 have stat:∀{H':Hp},(∀b∈fp,H' b=none)->∀b∈fp,a3c Y [] H' b:=fun {H'} hn b hb=>by
  have hb':b∈Y.ex:=by rw [Ye];exact hb
  refine⟨hn b hb,(exf b hb').1,exfs b hb',.inl hb',(exf b hb').2,fun p hp=> ?_⟩
  rw [Ag,Yn] at hp
  exact(f2 b hb).2.2.2.2.2 p hp
 have TY:b0r Y.prog Y.w Y.K tg J fp it tn:=by rw [Yp,Yw,YK];exact T
 have noX:∀e s,Y.xe e s->False:=fun e s h=>hx e s (by rw [<-Yx];exact h)
 have loop:∀R:Result->AC->Prop,(∀s' H' m,j7 X pins σ H' s'->s'.heap.Ns s3.heap.objs.size m->H' s3.heap.objs.size=none->b1f X pins s3.heap.objs.size->Q (.ref s2.heap.objs.size) H'->R (.ok .next) s')->
  codeAny (model X.prog X.w) X.A (.compLoop (.ListComp elt [⟨tg,iter,ifs,0⟩] scope pos) 0 (.ref it) (.ref s2.heap.objs.size) (L9 scope s3.heap.objs.size X.env)) R s4:=by
  intro R hR
  refine a1O (fun n s'=>∃i xs H' σ',j7 Y [] σ' H' s'/\(∀(j:Nat) v,(σ++Ab ys.length none)[j]?=some (some v)->σ'[j]?=some (some v))/\tn i s'.heap/\(∀b∈fp,H' b=none)/\H' s2.heap.objs.size=some (.lst xs)/\W i n xs H') ?_ m0
   ⟨0,[],_,_,I4,fun _ _ e=>e,st4,fun b hb=>(f3 b hb).1,t7,w0⟩
  rintro n s5 ⟨i,xs,H5,σ5,I5,k5,st5,fr5,hD5,w5⟩
  have I5:j7 Y [] (σ++Ab ys.length none) H5 s5:=I5.weak (by rw [nlen,I5.len]) k5
  rw [<-Yp,<-Yw,<-YA]
  rcases turn i n xs H5 w5 hD5 with⟨stop,q⟩|⟨go,step⟩
  ·refine wpAny_mono (TY.done Y rfl rfl rfl Yc i [] s5 _ H5 (fun _ _=>False) I5 (stat fr5) st5 stop) (fun r s6 ⟨hr,I6⟩=> ?_) fun _ _ z=>z
   subst hr
   obtain⟨m,hn,_⟩:=I6.loc
   have un:=I6.base
   rw [Yf,Ye,Ys,YH] at un
   rw [YL] at hn
   have hfC:=I6.free
   rw [YL] at hfC
   refine hR s6 H5 m (I3.call' (ch:=fp) (by rw [I6.os,Ys]) un (by have z:=I6.hok;rw [Yp,Yw] at z;exact z) I6.bare fun b hb=>⟨(f3 b hb).2.2.2.1,(f3 b hb).2.1,(f3 b hb).2.2.2.2.1,(f3 b hb).2.2.2.2.2⟩) hn hfC ⟨Nat.ne_of_gt I3.lt,I3.sz,fun x c e=> ?_,fun p hp=> ?_⟩ q
   ·obtain⟨v,z⟩:=I3.cell x c e
    exact As z.lt
   ·exact As (Ac (I3.pin p hp).1)
  ·refine wpAny_mono (TY.item Y rfl rfl rfl Yc i [] s5 _ H5 (fun _ _=>False) I5 (stat fr5) st5 go) (fun r s6 ⟨u,hr,h6⟩=> ?_) fun _ _ z=>z
   subst hr
   dsimp only
   refine wpAny_mono h6 (fun _ s7 ⟨x,H7,I7,r7,y7,st7,fr7⟩=> ?_) fun _ _ z=>z
   have I7':=I7.pinned (stat fr7) (T.obj _ _ st7)
   rw [<-YE]
   have keepT:∀{σ8:St} {H8:Hp} {s8:AC},j7 Y ([]++a5p fp s7.heap) σ8 H8 s8->tn (i+1) s8.heap/\∀b∈fp,H8 b=none:=fun {σ8 H8 s8} I8=>by
    refine⟨T.keep _ _ _ st7 fun b hb o e=>(I8.pin (b,o) (Au _ (Au _ (a0x hb e)))).1,fun b hb=> ?_⟩
    obtain⟨o,e,d⟩:=T.obj _ _ st7 b hb
    exact(I8.pin (b,o) (Au _ (Au _ (a0x hb e)))).2.1
   refine wpAny_mono (hgY _ s7 _ H7 x u _ I7' r7 (step x H7 y7)) (fun _ s8 ⟨σ8,H8,I8,k8,q8⟩=> ?_) fun e s z=>noX e s z
   refine wpAny_mono (htY _ s8 σ8 H8 _ I8 q8) (fun b s9 ⟨H9,I9,q9⟩=> ?_) fun e s z=>noX e s z
   cases b with
   |false=>
    rw [if_neg Aj] at q9 ⊢
    obtain⟨hD9,m',lt,w9⟩:=q9
    obtain⟨t9,n9⟩:=keepT I9
    exact⟨m',lt,i+1,xs,H9,σ8,I9.pins_of (fun p hp=>nomatch hp),k8,t9,n9,hD9,w9⟩
   |true=>
    rw [if_pos rfl] at q9 ⊢
    refine wpAny_mono (heY _ s9 σ8 H9 _ I9 q9) (fun y s10 ⟨v,H10,I10,r10,hD10,hz,m',lt,w10⟩=> ?_) fun e s z=>noX e s z
    refine wpAny_mono (a6l _ s10 σ8 H10 (.ref s2.heap.objs.size) [v] (.ref s2.heap.objs.size) [y] (fun _ H'=>H'=upd H10 s2.heap.objs.size (.lst (xs++[v]))) I10 rfl (.cons r10 .nil) ⟨_,xs,v,rfl,rfl,hD10,hz,rfl⟩) (fun _ s11 ⟨_,H11,I11,_,e11⟩=> ?_) fun e s z=>noX e s z
    subst e11
    obtain⟨t11,n11⟩:=keepT I11
    exact⟨m',lt,i+1,xs++[v],_,σ8,I11.pins_of (fun p hp=>nomatch hp),k8,t11,n11,t7,w10⟩
 show codeAny _ _ (.compStart _ 0 _ _ (L9 scope s3.heap.objs.size X.env)) _ _
 refine codeAny_compStart_list (loop _ fun s' H' m a b c d e=>fin _ _ s' H' m a b c d e) (T.self _ 0 _ _ _ st4 (loop _ fun s' H' m a b c d e=>fin _ _ s' H' m a b c d e))
end
section
variable {X:Cx}{elt iter tg:AF}{ifs:List AF}{scope:Scope}{N0 ys:List Str}{wi:TI}{g:TG}{tc:TT}{te:TE}{pos:Pos}
theorem b38(hx:∀e s,X.xe e s->False)(hc:X.calm=true)(S:Y8 X.N N0 ys X.env scope)(hi:PI X tg iter wi)
 (hg:∀C fp pins s H,PG (V3 X N0 scope ys C fp pins s H) tg g) (ht:∀C fp pins s H,PCs (V3 X N0 scope ys C fp pins s H) ifs tc) (he:∀C fp pins s H,PE (V3 X N0 scope ys C fp pins s H) elt te)
 (hs:∀x,foldedSetIterable iter X.env x=pure x:=by intro _;rfl):PE X (.ListComp elt [⟨tg,iter,ifs,0⟩] scope pos) (b2Y wi g tc te ys.length):=by
 intro pins s σ H Q I h
 rw [eval_ListComp]
 refine b0z hx hc S hi hg ht he hs I h fun D C s' H' m I' hn hC gone q=>⟨m,hn,fun h' hs'=>⟨.ref D,H', ?_,rfl,q⟩⟩
 obtain⟨g1,g2,g3,g4⟩:=gone
 exact I'.turned (t':=s'.toks) (fun b o hb e=>hs'.extBut b o hb e) hC g1 (.inr g2) g3 g4
end
end L2
namespace PU
open PySem PySem.Spec PyProof.Rows L2
def a3Q(c:MT)(elt:M)(tg:PV->c7->Option c7)(ρ:c7):List PV->Option (List PV)
 |[]=>some []
 |p::ps=>(tg p ρ).bind fun ρ1=>(c ρ1).bind fun b=>if b=true then((elt ρ1).bind e8.toVal).bind fun q=>(a3Q c elt tg ρ ps).bind fun r=>some (q::r) else a3Q c elt tg ρ ps
def a6k:MT:=fun _=>some true
def a43(k:Nat)(it:MI)(tg:PV->c7->Option c7)(c:MT)(elt:M):M:=fun ρ=>(it ρ).bind fun ps=>if ps.length<=AQ then(a3Q c elt tg (ρ++Ab k none) ps).bind fun r=>some (.own r) else none
def a7J(K:AD)(n:Nat)(g:TG)(tg:PV->c7->Option c7):Prop:=
 ∀F H σ ρ ρ1 p x (Q:L2.St->Hp->Prop),F8 K F H σ ρ->I0 K F p x->tg p ρ=some ρ1->(∀σ',F8 K F H σ' ρ1->(∀(j:Nat),j<n->σ'[j]?=σ[j]?)->Q σ' H)->g x σ H Q
theorem F8.set{K:AD}{F H:Hp}{σ:L2.St}{ρ:c7}{p:PV}{x:V}(e:F8 K F H σ ρ)(r:I0 K F p x)(i:Nat):F8 K F H (σ.set i (some x)) (ρ.set i (some (.val p))):=by
 refine⟨e.fh,by simp [e.len],fun j q h=> ?_,fun j ps h=> ?_,fun j k ps qs a hjk h1 h2 h3 h4=> ?_⟩
 ·rw [List.getElem?_set] at h ⊢
  by_cases hij:i=j
  ·subst hij
   rw [if_pos rfl] at h ⊢
   rw [e.len]
   split at h
   ·rename_i c;cases h;rw [if_pos c];exact⟨x,rfl,r⟩
   ·cases h
  ·rw [if_neg hij] at h ⊢;exact e.at_ j q h
 ·rw [List.getElem?_set] at h
  by_cases hij:i=j
  ·subst hij
   rw [if_pos rfl] at h
   split at h<;>cases h
  ·rw [if_neg hij] at h;exact e.nb j ps h
 ·have get:∀(j:Nat) (ps:Y9),(ρ.set i (some (e8.val p)))[j]?=some (some (e8.ow ps))->i≠j/\ρ[j]?=some (some (e8.ow ps)):=fun j ps h=>by
   rw [List.getElem?_set] at h
   by_cases hij:i=j
   ·subst hij
    rw [if_pos rfl] at h
    split at h<;>cases h
   ·rw [if_neg hij] at h;exact⟨hij,h⟩
  obtain⟨n1,h1⟩:=get j ps h1
  obtain⟨n2,h2⟩:=get k qs h2
  rw [List.getElem?_set_ne n1] at h3
  rw [List.getElem?_set_ne n2] at h4
  exact e.ap j k ps qs a hjk h1 h2 h3 h4
theorem a2p{K:AD}{n i:Nat}(h:n<=i):a7J K n (a7Y i) (u6 i):=fun F H σ ρ ρ1 p x Q e r q k=>by
 cases q
 exact k _ (e.set r i) fun j hj=>by rw [List.getElem?_set_ne (by lia)]
theorem F8.setAll{K:AD}{F H:Hp}{n:Nat}:∀{is:List Nat} {xs:List V} {ps:List PV} {σ:L2.St} {ρ:c7},(∀i∈is,n<=i)->F8 K F H σ ρ->l8 K F ps xs->F8 K F H (PU.setAll σ is xs) (PU.setAll ρ is (ps.map .val))/\∀(j:Nat),j<n->(PU.setAll σ is xs)[j]?=σ[j]?
 |[],xs,ps,σ,ρ,_,s,r=>by
  have e1:PU.setAll σ [] xs=σ:=by cases xs<;>rfl
  have e2:PU.setAll ρ [] (ps.map e8.val)=ρ:=by cases ps<;>rfl
  rw [e1,e2];exact⟨s,fun _ _=>rfl⟩
 |i::is,xs,[],σ,ρ,_,s,r=>by cases r;exact⟨s,fun _ _=>rfl⟩
 |i::is,xs,p::ps,σ,ρ,h,s,⟨v,t,e,rp,rl⟩=>by
  subst e
  obtain⟨h1,h2⟩:=F8.setAll (is:=is) (n:=n) (fun j hj=>h j (Ae _ hj)) (s.set rp i) rl
  refine⟨h1,fun j hj=> ?_⟩
  have hi:=h i Af
  show(PU.setAll (σ.set i (some v)) is t)[j]?=_
  rw [h2 j hj,List.getElem?_set_ne (by lia)]
theorem F8.more{K:AD}{F H:Hp}{σ:L2.St}{ρ:c7}(e:F8 K F H σ ρ)(k:Nat):F8 K F H (σ++Ab k none) (ρ++Ab k none):=by
 have key:∀(j:Nat) (q:e8),(ρ++Ab k none)[j]?=some (some q)->ρ[j]?=some (some q)/\(σ++Ab k none)[j]?=σ[j]?:=fun j q h=>by
  by_cases hj:j<ρ.length
  ·rw [BC hj] at h
   rw [BC (by rw [e.len];exact hj)]
   exact⟨h,rfl⟩
  ·rw [List.getElem?_append_right (by lia),List.getElem?_replicate] at h
   split at h<;>cases h
 refine⟨e.fh,by simp [e.len],fun j q h=> ?_,fun j ps h=>e.nb j ps (key j _ h).1,fun j k' ps qs a hjk h1 h2 h3 h4=> ?_⟩
 ·obtain⟨h1,h2⟩:=key j q h
  rw [h2];exact e.at_ j q h1
 ·obtain⟨a1,b1⟩:=key j _ h1
  obtain⟨a2,b2⟩:=key k' _ h2
  rw [b1] at h3
  rw [b2] at h4
  exact e.ap j k' ps qs a hjk a1 a2 h3 h4
def WC(K:AD)(F H:Hp)(D:AB)(c:MT)(elt:M)(tg:PV->c7->Option c7)(ρ:c7)(ps r:List PV)(i m:Nat)(xs:List V)(H':Hp):Prop:=
 ∃F' done u9,i<=ps.length/\m=ps.length - i/\Ext F H F' H'/\F' D=none/\l8 K F' done xs/\done.length<=i/\a3Q c elt tg ρ (ps.drop i)=some u9/\done++u9=r
theorem b0B{K:AD}{F H:Hp}{D:AB}{c:MT}{elt:M}{tg:PV->c7->Option c7}{g:TG}{σ:L2.St}{ρ:c7}{k:Nat}{ps r:List PV}{i m:Nat}{xs:List V}{H':Hp}{p:PV}{x:V}
 (T:a7J K ρ.length g tg) (en:F8 K F H σ ρ) (hD:H D=none) (hsz:ps.length<=AQ) (W:WC K F H D c elt tg (ρ++Ab k none) ps r i m xs H') (hx:H' D=some (.lst xs)) (ep:ps[i]?=some p) (rx:I0 K F p x):
 g x (σ++Ab k none) H' fun σ4 H4=>(∀(j:Nat) v,(σ++Ab k none)[j]?=some (some v)->σ4[j]?=some (some v))/\tMT K c σ4 H4 fun b H5=>if b=true then tM K elt σ4 H5 fun v H6=>H6 D=some (.lst xs)/\xs.length<AQ/\∃m',m'<m/\WC K F H D c elt tg (ρ++Ab k none) ps r (i+1) m' (xs++[v]) (upd H6 D (.lst (xs++[v])))
  else H5 D=some (.lst xs)/\∃m',m'<m/\WC K F H D c elt tg (ρ++Ab k none) ps r (i+1) m' xs H5:=by
 obtain⟨F',done,u9,hi,hm,ex,fD,rl,dl,hc,hr⟩:=W
 have hk:i<ps.length:=(Av.mp ep).1
 have hd:ps.drop i=p::ps.drop (i+1):=by
  rw [List.drop_eq_getElem_cons hk]
  congr 1
  exact(Av.mp ep).2
 rw [hd] at hc
 unfold a3Q at hc
 obtain⟨ρ1,e1,hc⟩:=bind_some hc
 obtain⟨b,e2,hc⟩:=bind_some hc
 have en':=(en.ext ex).more k
 refine T F' H' _ _ ρ1 p x _ en' (I0.mono ex.f _ rx) e1 fun σ4 en4 keep=>⟨fun j v e=> ?_, ?_⟩
 ·by_cases hj:j<ρ.length
  ·rw [keep j hj];exact e
  ·rw [List.getElem?_append_right (by rw [en.len];lia),List.getElem?_replicate] at e
   split at e<;>cases e
 refine⟨F',ρ1,b,en4,e2,fun F5 H5 x5=> ?_⟩
 have ex5:=ex.trans x5
 have fD5:F5 D=none:=x5.nw D _ fD hx (fun _ h=>nomatch h)
 cases b with
 |false=>
  rw [if_neg Aj] at hc
  refine a63 ⟨x5.h _ _ hx,ps.length - (i+1),by lia,F5,done,u9,by lia,rfl,ex5,fD5,l8.mono x5.f _ rl,by lia,hc,hr⟩
 |true=>
  rw [if_pos rfl] at hc
  obtain⟨q,e3,hc⟩:=bind_some hc
  obtain⟨rt,e4,hc⟩:=bind_some hc
  cases hc
  obtain⟨re,e5,e6⟩:=bind_some e3
  refine a64 ⟨F5,ρ1,re,en4.ext x5,e5,fun v F6 H6 o6=> ?_⟩
  obtain⟨F7,o7⟩:=o6.toVal e6
  have hx6:H6 D=some (.lst xs):=o6.x.h _ _ (x5.h _ _ hx)
  have fD7:F7 D=none:=o7.x.nw D _ fD5 (x5.h _ _ hx) (fun _ h=>nomatch h)
  have ex7:=ex5.trans o7.x
  have hlen:=rl.length
  refine⟨hx6,by lia,ps.length - (i+1),by lia,F7,done++[q],rt,by lia,rfl,⟨ex7.f,fun a o z=> ?_,fun a o z=> ?_,ex7.nw,ex7.nf⟩,fD7,l8.append (l8.mono (x5.f.trans o7.x.f) _ rl) ⟨v,[],rfl,o7.rep,rfl⟩,by simp;lia,e4,by rw [List.append_assoc];exact hr⟩
  ·rw [j0 (j6 z hD)];exact ex7.h _ _ z
  ·rw [j0 (j6 z fD7)];exact ex7.fh _ _ z
theorem b1w{K:AD}{F H:Hp}{D:AB}{c:MT}{elt:M}{tg:PV->c7->Option c7}{ρ:c7}{ps r:List PV}{m:Nat}{xs:List V}{H':Hp}(hD:H D=none)(W:WC K F H D c elt tg ρ ps r ps.length m xs H')(hx:H' D=some (.lst xs)):∃F',v4 K F H F' H' (.ref D) (.own r):=by
 obtain⟨F',done,u9,hi,hm,ex,fD,rl,dl,hc,hr⟩:=W
 rw [List.drop_length] at hc
 cases hc
 rw [Ag] at hr
 subst hr
 exact⟨F',ex,⟨D,xs,rfl,fD,hx,rl⟩,fun _ _ _ e=>by cases e;exact hD⟩
structure Src(K:AD)(F0 F H:Hp)(J:It)(ps:List PV):Prop where
 st:∀i H',l7 H H'->ps.length<=i->J.stop i H'
 go:∀i p H',l7 H H'->ps[i]?=some p->J.go i H'
 yd:∀i p x H' H'',l7 H H'->ps[i]?=some p->J.yld i H' x H''->H''=H'/\I0 K F p x
def SI(K:AD)(mi:MI)(wi:TI):Prop:=∀F H σ ρ ps (R:It->Hp->Prop),F8 K F H σ ρ->mi ρ=some ps->(∀F1 H1 J,Ext F H F1 H1->Src K F F1 H1 J ps->R J H1)->wi σ H R
abbrev EI(X:Cx)(tg iter:AF)(mi:MI):Prop:=∃wi,PI X tg iter wi/\SI X.K mi wi
section
variable {X:Cx}{tg:AF}
def a2I(m:M):MI:=fun ρ=>(m ρ).bind fun r=>PyData.items? r.rd
theorem b5x{l:AF}{m:M}(h:EE X l m):EI X tg l (a2I m):=⟨_,b2x h,fun F H σ ρ ps R en e k=>by
 obtain⟨r,e1,e2⟩:=bind_some e
 refine⟨F,ρ,r,en,e1,fun v F1 H1 o1=> ?_⟩
 obtain⟨a,xs,rfl,hq,rl⟩:=Q0 o1.x.fh o1.rep e2
 have hlen:=rl.length
 rcases hq with hq|hq
 ·refine⟨a,rfl,.inl ⟨⟨xs,hq⟩,k F1 H1 _ o1.x ⟨fun i H2 s h=>⟨xs,S4 s hq,by lia⟩,fun i p H2 s h=> ?_,fun i p x H2 H3 s h y=> ?_⟩⟩⟩
  ·obtain⟨v,ev,_⟩:=rl.get h
   exact⟨xs,v,S4 s hq,ev⟩
  ·obtain⟨v,ev,rv⟩:=rl.get h
   obtain⟨e,y⟩:=y
   have:=y xs (S4 s hq)
   rw [ev] at this;cases this
   exact⟨e,rv⟩
 ·refine⟨a,rfl,.inr ⟨⟨xs,hq⟩,k F1 H1 _ o1.x ⟨fun i H2 s h=>⟨xs,C0 s hq,by lia⟩,fun i p H2 s h=> ?_,fun i p x H2 H3 s h y=> ?_⟩⟩⟩
  ·obtain⟨v,ev,_⟩:=rl.get h
   exact⟨xs,v,C0 s hq,ev⟩
  ·obtain⟨v,ev,rv⟩:=rl.get h
   obtain⟨e,y⟩:=y
   have:=y xs (C0 s hq)
   rw [ev] at this;cases this
   exact⟨e,rv⟩⟩
theorem b4m{K:AD}{F0 F H:Hp}{lo hi:Int}:Src K F0 F H (Itr lo (hi - lo).toNat) (a1S lo hi):=by
 have hl:=a5w lo hi
 refine⟨fun i H2 s h=> ?_,fun i p H2 s h=> ?_,fun i p x H2 H3 s h y=> ?_⟩
 ·show(hi - lo).toNat<=i;lia
 ·have:=(Av.mp h).1
  show i<(hi - lo).toNat;lia
 ·have hi':=(Av.mp h).1
  rw [a5v (by lia)] at h
  cases h
  obtain⟨e,y⟩:=y
  exact⟨e,y⟩
theorem a9E{a:AF}{m:MA}{p rp:Pos}(hgl:Gl X "range")(hm:X.mg "range"=none)(ha:EA X [a] m)(hst:AM [a] X.env=[(false,eval a X.env)]:=by rfl):EI X tg (.Call (.Name "range" p) [a] [] rp) (a2K m):=⟨_,a6u hgl hm ha hst,fun F H σ ρ ps R en e k=>by
 obtain⟨qs,e1,e2⟩:=bind_some e
 refine⟨F,ρ,qs,en,e1,fun vs F1 H1 x rl=> ?_⟩
 split at e2
 ·rename_i j
  split at e2
  ·rename_i c
   have c:=a61.mp c
   cases e2
   obtain⟨v,r,rfl,rv,rr⟩:=rl
   cases rv
   cases rr
   have hz:(j - 0).toNat=j.toNat:=by lia
   refine⟨j,rfl,c.1,c.2,k F1 H1 _ x ?_⟩
   have z:=b4m (K:=X.K) (F0:=F) (F:=F1) (H:=H1) (lo:=0) (hi:=j)
   rw [hz] at z
   exact z
  ·cases e2
 ·cases e2⟩
abbrev EC(X:Cx)(ifs:List AF)(c:MT):Prop:=PCs X ifs (tMT X.K c)
theorem a8Z:EC X [] a6k:=fun pins s σ H Q I ⟨F,ρ,b,en,e,k⟩=>by
 cases e
 exact b35 pins s σ H Q I (k F H (Ext.refl en.fh))
theorem b0A{mi:MI}{wi:TI}{g:TG}{c:MT}{elt:M}{t:PV->c7->Option c7}{N:List Str}{k:Nat}(hi:SI X.K mi wi)(T:∀n,n=N.length->a7J X.K n g t){σ:L2.St}{H:Hp}{Q:VK}(hl:σ.length=N.length)(h:tM X.K (a43 k mi t c elt) σ H Q):b2Y wi g (tMT X.K c) (tM X.K elt) k σ H Q:=by
 obtain⟨F,ρ,r,en,e,kk⟩:=h
 obtain⟨ps,e1,e⟩:=bind_some e
 split at e
 ·rename_i hsz
  obtain⟨rs,e2,e⟩:=bind_some e
  cases e
  refine hi F H σ ρ ps _ en e1 fun F1 H1 J x1 S D hD=> ?_
  have en1:=en.ext x1
  have T':a7J X.K ρ.length g t:=T _ (by rw [<-en.len,hl])
  refine⟨WC X.K F1 H1 D c elt t (ρ++Ab k none) ps rs,⟨ps.length,F1,[],rs,Nat.zero_le _,rfl,Ext.layH x1.fh hD,x1.fh.free hD,rfl,AW _,e2,rfl⟩,fun i m xs H2 W hx=> ?_⟩
  have W':=W
  obtain⟨F',done,u9,hi',hm,ex,fD,rl,dl,hc,hr⟩:=W'
  have sF:l7 H1 H2:=ex.h
  by_cases hlt:i<ps.length
  ·refine .inr ⟨S.go i ps[i] H2 sF (by simp [hlt]),fun x H3 y=> ?_⟩
   obtain⟨e3,rx⟩:=S.yd i ps[i] x H2 H3 sF (by simp [hlt]) y
   subst e3
   exact b0B T' en1 hD hsz W hx (by simp [hlt]) rx
  ·have e3:i=ps.length:=by lia
   subst e3
   refine .inl ⟨S.st _ H2 sF (AW _), ?_⟩
   obtain⟨F2,o⟩:=b1w hD W hx
   exact kk _ F2 H2 (v4.trans x1 o)
 ·cases e
theorem a6S{elt iter:AF}{ifs:List AF}{scope:Scope}{N0 ys:List Str}{mi:MI}{g:TG}{c:MT}{m:M}{t:PV->c7->Option c7}{pos:Pos}(hx:∀e s,X.xe e s->False)(hc:X.calm=true)(S:Y8 X.N N0 ys X.env scope)(hi:EI X tg iter mi)
 (hg:∀C fp pins s H,PG (V3 X N0 scope ys C fp pins s H) tg g) (T:∀n,n=X.N.length->a7J X.K n g t) (ht:∀C fp pins s H,EC (V3 X N0 scope ys C fp pins s H) ifs c) (he:∀C fp pins s H,EE (V3 X N0 scope ys C fp pins s H) elt m)
 (hs:∀x,foldedSetIterable iter X.env x=pure x:=by intro _;rfl):EE X (.ListComp elt [⟨tg,iter,ifs,0⟩] scope pos) (a43 ys.length mi t c m):=by
 obtain⟨wi,h1,h2⟩:=hi
 intro pins s σ H Q I h
 exact b38 hx hc S h1 hg ht he hs pins s σ H Q I (b0A (N:=X.N) h2 T I.len h)
end
def a0H:List PV->Option (List Str)
 |[]=>some []
 | .str x::r=>(a0H r).map (x::·)
 |_=>none
theorem a5H:∀xs:List Str,a0H (xs.map .str)=some xs
 |[]=>rfl
 |x::xs=>by rw [AL];simp only [a0H,a5H xs,Ah]
theorem a2o{K:AD}{H:Hp}:∀{ps:List PV} {ys:List Str} {xs:List V} {us:List AA},a0H ps=some ys->l8 K H ps xs->m7 xs us->StrsAre us ys
 |[],_,_,_,h,r,v=>by cases h;cases r;cases v;exact .nil
 |p::ps,ys,_,_,h,⟨x,r,e,hp,t⟩,v=>by
  subst e
  cases p with
  |str z=>
   simp only [a0H] at h
   cases q:a0H ps with
   |none=>rw [q] at h;cases h
   |some zs=>
    rw [q] at h;cases h
    cases hp
    cases v with
    |cons a b=>
     obtain⟨tk,rfl⟩:=a
     exact .cons z tk (a2o q t b)
  |_=>simp [a0H] at h
def N8(x y:e8):Option e8:=match x with
 | .val (.str z)=>(match PyData.items? y.rd with
   |some ps=>(a0H ps).bind fun ys=>if(ys.map (·.length)).sum+ys.length*z.length<=16777216 then some (.val (.str (Txt.join z ys))) else none
   |none=>none)
 |_=>none
section
variable {X:Cx}
theorem b3R:MtR X "str.join" (fun x xs H Q=>∃F y rx ry rz,xs=[y]/\l7 F H/\J8 X.K F H x rx/\J8 X.K F H y ry/\N8 rx ry=some rz/\∀v F' H',v4 X.K F H F' H' v rz->Q v H'):=by
 intro pins s σ H x xs v us Q I rx rv h
 obtain⟨F,y,ra,rb,rz,rfl,s0,h1,h2,h3,k⟩:=h
 obtain⟨u,rfl,ru⟩:=a5L rv
 unfold N8 at h3
 split at h3
 ·rename_i z
  split at h3
  ·rename_i ps e
   obtain⟨ys,e2,h3⟩:=bind_some h3
   split at h3
   ·rename_i c
    cases h3
    cases h1
    obtain⟨t,rfl⟩:=rx
    obtain⟨a,xs,rfl,hq,r⟩:=Q0 s0 h2 e
    cases ru
    rcases hq with hq|hq
    ·obtain⟨its,rv,pl,hz⟩:=I.list hq
     exact join_list pl.isList (by simpa using a2o e2 r rv) c fun t' k'=>⟨.str _,H,I.tok _,⟨_,rfl⟩,k _ F H (v4.here s0 rfl)⟩
    ·obtain⟨its,rv,pl,hz⟩:=I.tuple hq
     exact join_tuple pl (by simpa using a2o e2 r rv) c fun t' k'=>⟨.str _,H,I.tok _,⟨_,rfl⟩,k _ F H (v4.here s0 rfl)⟩
   ·cases h3
  ·cases h3
 ·cases h3
theorem a2w{o e:AF}{m n:M}{apos cpos:Pos}(ho:EE X o m)(ha:EE X e n)
 (hbase:attributeBase o "join" X.env (eval o X.env)=eval o X.env:=by rfl)
 (hfew:((backTo cpos (AM [e] X.env)).all (fun x=> !x.1)&&(backToKw cpos (keywordEach [] X.env)).all (fun x=>x.1.isSome)
  && decide ([e].length+([]:List Keyword).length+(if([]:List Keyword).isEmpty then 0 else 1)<30))=true:=by rfl)
 (hline:(apos.endLine==cpos.line)=true:=by rfl) (hs:AM [e] X.env=(false,eval e X.env)::AM [] X.env:=by rfl) (hplain:(backTo cpos (AM [] X.env)).any (·.1)=false:=by rfl):
 EE X (.Call (.Attribute o "join" apos) [e] [] cpos) (m2 N8 m n):=
 B5 (a6t PySem.F.plainAttrs_str PySem.F.slot_str_join PySem.F.type_str_join b3R ho (B9 ha T3 hs) hbase hfew hline hs hplain) fun σ H Q ⟨F,ρ,r,he,hm,k⟩=>by
  obtain⟨rx,e1,hm⟩:=bind_some hm
  obtain⟨ry,e2,hm⟩:=bind_some hm
  refine⟨F,ρ,rx,he,e1,fun v F1 H1 o1=>⟨?_,⟨F1,ρ,ry,he.ext o1.x,e2,fun u F2 H2 o2=>⟨F2,u,rx,ry,r,rfl,o2.x.fh,o1.rep.ext o2.x,o2.rep,hm,fun z F3 H3 o3=>k z F3 H3 (v4.trans (o1.x.trans o2.x) o3)⟩⟩⟩⟩
  unfold N8 at hm
  split at hm
  ·cases o1.rep;rfl
  ·cases hm
end
def cut{α:Type}(xs:List α)(lo hi:Option Int):List α:=(xs.drop (HT.sIx xs.length 0 lo)).take (HT.sIx xs.length xs.length hi - HT.sIx xs.length 0 lo)
theorem a2t(n d:Nat)(hd:d<=n)(o:Option Int):(match o with|none=>(d:Int)|some i=>max 0 (min (if i<0 then i+n else i) n))=((HT.sIx n d o:Nat):Int):=by
 cases o with
 |none=>rfl
 |some i=>unfold HT.sIx;dsimp only;split<;>lia
theorem b3o(n:Nat)(lo hi:Option Int):Builtin.Str.strSliceIndices lo hi 1 n=(Ao (HT.sIx n n hi - HT.sIx n 0 lo)).map (HT.sIx n 0 lo+·):=by
 have h1:=a2t n 0 (Nat.zero_le _) lo
 have h2:=a2t n n (AW _) hi
 have key:∀a b:Int,a=((HT.sIx n 0 lo:Nat):Int)->b=((HT.sIx n n hi:Nat):Int)->sliceRange a b 1=(Ao (HT.sIx n n hi - HT.sIx n 0 lo)).map (HT.sIx n 0 lo+·):=fun a b ha hb=>by rw [ha,hb,sliceRange_one]
 refine key _ _ ?_ ?_
 ·cases lo with
  |none=>rfl
  |some i=>exact h1
 ·cases hi with
  |none=>rfl
  |some i=>exact h2
theorem b4t(z:Str)(lo hi:Option Int):Txt.slice z lo hi=⟨(cut z.cps.toList lo hi).toArray⟩:=by
 have hz:z.cps.toList.length=z.length:=by simp [Str.length]
 unfold Txt.slice
 rw [b3o,pick_run z.cps]
 split
 ·rename_i c
  have c':HT.sIx z.length z.length hi - HT.sIx z.length 0 lo=z.length:=by
   simpa using c
  have hle:=HT.sIx_le z.length z.length (AW _) hi
  unfold cut
  rw [hz,c']
  have:HT.sIx z.length 0 lo=0\/z.length=0:=by lia
  cases z with
  |mk a=>
   congr 1
   rcases this with h|h
   ·rw [h,List.drop_zero]
    have:a.toList.length=(⟨a⟩:Str).length:=hz
    rw [<-this,List.take_length]
   ·have h0:a.toList=[]:=List.length_eq_zero_iff.mp (by rw [<-h];exact hz)
    have:a= #[]:=by
     apply Array.ext'
     rw [h0]
    subst this
    simp
 ·unfold cut
  rw [hz]
theorem a12(items:Array AA)(lo hi:Option Int):slicePick items lo hi none=(cut items.toList lo hi).toArray:=by
 have hz:items.toList.length=items.size:=by simp
 unfold slicePick cut
 rw [hz]
 have key:∀a b:Int,a=((HT.sIx items.size 0 lo:Nat):Int)->b=((HT.sIx items.size items.size hi:Nat):Int)->(List.filterMap (items[·]?) (sliceRange a b 1)).toArray=((items.toList.drop (HT.sIx items.size 0 lo)).take (HT.sIx items.size items.size hi - HT.sIx items.size 0 lo)).toArray:=fun a b ha hb=>by rw [ha,hb,sliceRange_one,pick_run]
 refine key _ _ ?_ ?_
 ·cases lo with
  |none=>rfl
  |some i=>exact a2t items.size 0 (Nat.zero_le _) (some i)
 ·cases hi with
  |none=>rfl
  |some i=>exact a2t items.size items.size (AW _) (some i)
theorem l8.cut{K:AD}{H:Hp}{ps:List PV}{xs:List V}(r:l8 K H ps xs)(lo hi:Option Int):l8 K H (PU.cut ps lo hi) (PU.cut xs lo hi):=by
 unfold PU.cut
 rw [r.length]
 exact(r.drop _).take _
theorem a6P{α:Type}(xs:List α)(lo hi:Option Int):(cut xs lo hi).length<=xs.length:=by
 unfold cut
 rw [List.length_take,List.length_drop];lia
theorem a1Q{prog:AK}{w:AI}{A:AJ}{E:AA->AC->Prop}{s:AC}{t sl:AB}{items:Array AA}{vl vu:AA}{lo hi:Option Int}{Q:AA->AC->Prop}(ht:IsTup s.heap t items)(hs:s.heap.IsSliceOf sl vl vu .none)(pl:IsPart vl lo)(pu:IsPart vu hi)
 (hw:HT.sIx items.size 0 lo=0/\HT.sIx items.size items.size hi=items.size)
 (h:Q (.ref t) s):AH (model prog w) A (getItem (.ref t) (.ref sl)) Q E s:=by
 obtain⟨os,hos,hcs,hds⟩:=id hs
 have hTs:s.TypeIs (.ref sl) "slice":=⟨os,hos,hcs⟩
 unfold getItem
 try with_reducible refine wpAny_holding ?_
 first|refine AG (AV ?_)|skip
 refine AG (wpAny_sequenceKey ht.typeIs (by decide) ?_)
 refine AG (wpAny_callSpecial?_slot (name:=AN "__getitem__") ht.typeIs PyProof.Rows.slot_tuple_getitem
  (wpAny_call_entry PyProof.Rows.slot_tuple_getitem ht.typeIs entry_tuple_getitem ?_ (args_tuple_getitem _ _)))
 show AH _ _ (Builtin.Tuple.tupleItemsOf (.ref t)>>=_) _ _ s
 refine AG (tupleItemsOf_ ht ?_)
 refine AG (wpAny_typeOf hTs ?_)
 rw [if_pos (by decide)]
 refine AG (HT.sliceApplied_gen hs pl pu ?_)
 have hno:(((HT.sIx items.size 0 lo:Nat):Int)==0 &&(1:Int)==1 &&(HT.sIx items.size items.size hi - HT.sIx items.size 0 lo)==items.size)=true:=by
  rw [hw.1,hw.2];simp
 show AH _ _ (if(((HT.sIx items.size 0 lo:Nat):Int)==0 &&(1:Int)==1 &&(HT.sIx items.size items.size hi - HT.sIx items.size 0 lo)==items.size)=true then _ else _) _ _ s
 rw [if_pos hno]
 refine AG (AG (m:=typeOf (.ref t)) (wpAny_typeOf ht.typeIs (AV ?_)))
 rw [if_pos (by decide)]
 wp_walk
 exact⟨_,rfl,AV h⟩
theorem b4s{X:Cx}:SlR X (fun x lo hi H Q=>∃a xs,x= .ref a/\SqT X.K H a xs/\(HT.sIx xs.length 0 lo=0/\HT.sIx xs.length xs.length hi=xs.length)/\Q (.ref a) H):=by
 intro pins s σ H x v vl vu lo hi sl Q I rx hs pl pu h
 obtain⟨a,xs,rfl,hx,hw,q⟩:=h
 cases rx
 obtain⟨its,r,ht,hz⟩:=I.tuple hx
 have hlen:its.toArray.size=xs.length:=by rw [An];exact r.length.symm
 refine⟨"tuple",_,PyProof.Rows.slot_tuple_getitem.lookup,ht.typeIs, ?_⟩
 exact a1Q ht hs pl pu (by rw [hlen];exact hw) ⟨.ref a,H,I,rfl,q⟩
theorem b0C{α:Type}{xs:List α}{lo hi:Option Int}(h:HT.sIx xs.length 0 lo=0/\HT.sIx xs.length xs.length hi=xs.length):cut xs lo hi=xs:=by
 unfold cut
 rw [h.1,h.2,List.drop_zero,Nat.sub_zero,List.take_length]
section
variable {X:Cx}
theorem a9b{h:Heap}{sl:AB}{vl vu:AA}{lo hi:Option Int}(hs:h.IsSliceOf sl vl vu .none)(pl:IsPart vl lo)(pu:IsPart vu hi):∃l u:Option (Int×Tok),h.IsSlice sl l u none/\l.map (·.1)=lo/\u.map (·.1)=hi:=by
 obtain⟨o,ho,hc,hd⟩:=hs
 cases pl with
 |none=>
  cases pu with
  |none=>exact⟨none,none,⟨o,ho,hc,hd⟩,rfl,rfl⟩
  |int j t=>exact⟨none,some (j,t),⟨o,ho,hc,hd⟩,rfl,rfl⟩
 |int i t=>
  cases pu with
  |none=>exact⟨some (i,t),none,⟨o,ho,hc,hd⟩,rfl,rfl⟩
  |int j t'=>exact⟨some (i,t),some (j,t'),⟨o,ho,hc,hd⟩,rfl,rfl⟩
theorem b6y:SlR X (fun x lo hi H Q=>∃z,x= .str z/\z.length<=AQ/\Q (.str (Txt.slice z lo hi)) H):=by
 intro pins s σ H x v vl vu lo hi sl Q I rx hs pl pu h
 obtain⟨z,rfl,hz,q⟩:=h
 obtain⟨t,rfl⟩:=rx
 obtain⟨l,u,hs',e1,e2⟩:=a9b hs pl pu
 subst e1 e2
 exact⟨"str",_,PySem.F.slot_str_getitem.lookup,typeIs_str _ _ _,wpAny_getItem_str_slice hs' rfl (post_val_or_str ⟨Nat.le_trans (Txt.slice_le z _ _) hz,fun t' k=>⟨.str _,H,I.tok _,⟨_,rfl⟩,q⟩⟩)⟩
theorem b6w:SlR X (fun x lo hi H Q=>∃a xs,x= .ref a/\SqL X.K H a xs/\∀p,H p=none->Q (.ref p) (upd H p (.lst (PU.cut xs lo hi)))):=by
 intro pins s σ H x v vl vu lo hi sl Q I rx hs pl pu h
 obtain⟨a,xs,rfl,hx,q⟩:=h
 cases rx
 obtain⟨its,r,pl',hz⟩:=I.list hx
 have hlen:=r.length
 refine⟨"list",_,list_getitem_lookup,pl'.isList.typeIs, ?_⟩
 refine wpAny_getItem_list_slice pl'.isList hs pl pu .none (by simp) ?_ (by rw [An];lia)
 rw [a12]
 refine⟨.ref s.heap.objs.size,_,I.laid (t':=s.toks) (o:= .lst (PU.cut xs lo hi)) (fun b ob q=>Al _ q) (AW _) ?_,rfl,q _ (I.hok.fresh (AW _))⟩
 refine⟨Nat.le_trans (a6P xs lo hi) hz,PU.cut its lo hi,0, ?_,Aw _ rfl⟩
 unfold PU.cut
 rw [hlen]
 exact(r.drop _).take _
def gSl(x:e8)(lo hi:Option Int):Option e8:=match x with
 | .val (.str z)=>if z.length<=AQ then some (.val (.str ⟨(cut z.cps.toList lo hi).toArray⟩)) else none
 | .val (.tuple ps)=>some (.val (.tuple (cut ps lo hi)))
 | .val (.list ps)=>some (.own (cut ps lo hi))
 | .ow (.lst ps)=>some (.own (cut ps lo hi))
 | .bo (.lst ps)=>some (.own (cut ps lo hi))
 |_=>none
def rSl(K:AD):V->Option Int->Option Int->Hp->VK->Prop:=fun x lo hi H Q=>∃F rx rz,l7 F H/\J8 K F H x rx/\gSl rx lo hi=some rz/\∀v F' H',v4 K F H F' H' v rz->Q v H'
theorem slm:SlR X (rSl X.K):=by
 intro pins s σ H x v vl vu lo hi sl Q I rx hs pl pu h
 obtain⟨F,ra,rz,s0,h1,h2,k⟩:=h
 have lst:∀ps,PyData.items? ra.rd=some ps->(∃a xs,x= .ref a/\SqL X.K H a xs/\l8 X.K F ps xs)->rz= .own (cut ps lo hi)->∃T id,typeLookup (.type T) "__getitem__"=pure (some (.builtin id))/\s.TypeIs v T/\AH (model X.prog X.w) X.A (getItem v (.ref sl)) (EP X pins σ Q) X.xe s:=fun ps e ⟨a,xs,e1,hq,rl⟩ e2=>by
  subst e2
  exact b6w pins s σ H x v vl vu lo hi sl Q I rx hs pl pu ⟨a,xs,e1,hq,fun p hp=>k _ _ _ (v4.lst s0 hp (rl.cut lo hi))⟩
 unfold gSl at h2
 split at h2
 ·rename_i z
  split at h2
  ·rename_i c
   cases h2
   cases h1
   refine b6y pins s σ H _ v vl vu lo hi sl Q I rx hs pl pu ⟨z,rfl,c, ?_⟩
   rw [b4t]
   exact k _ F H (v4.here s0 rfl)
  ·cases h2
 ·rename_i ps
  cases h2
  by_cases c:HT.sIx ps.length 0 lo=0/\HT.sIx ps.length ps.length hi=ps.length
  ·obtain⟨a,xs,rfl,hq,rl⟩:=h1
   have hlen:=rl.length
   refine b4s pins s σ H _ v vl vu lo hi sl Q I rx hs pl pu ⟨a,xs,rfl,C0 s0 hq.sq,by rw [hlen];exact c, ?_⟩
   rw [b0C c] at k
   exact k _ F H (v4.here s0 ⟨a,xs,rfl,hq,rl⟩)
  ·obtain⟨a,xs,rfl,hq,rl⟩:=h1
   have hlen:=rl.length
   refine b6z pins s σ H _ v vl vu lo hi sl Q I rx hs pl pu ⟨a,xs,rfl,C0 s0 hq.sq,by rw [hlen];exact c,fun p hp=> ?_⟩
   exact k _ _ _ (v4.tup s0 hp (rl.cut lo hi))
 ·rename_i ps
  cases h2
  obtain⟨a,xs,e1,hq,rl⟩:=h1
  exact lst ps rfl ⟨a,xs,e1,S4 s0 hq,rl⟩ rfl
 ·rename_i ps
  cases h2
  obtain⟨a,xs,e1,_,hq,rl⟩:=h1
  exact lst ps rfl ⟨a,xs,e1,SqL.of hq,rl⟩ rfl
 ·rename_i ps
  cases h2
  obtain⟨a,xs,e1,_,hq,rl⟩:=h1
  exact lst ps rfl ⟨a,xs,e1,SqL.of hq,rl⟩ rfl
 ·cases h2
abbrev MO:=c7->Option (Option Int)
def tMO(K:AD)(m:MO):TO:=fun σ H Q=>∃F ρ o,F8 K F H σ ρ/\m ρ=some o/\∀F' H',Ext F H F' H'->Q o H'
abbrev EO(X:Cx)(e:Option AF)(m:MO):Prop:=PO X e (tMO X.K m)
def O3:MO:=fun _=>some none
def a9U:e8->Option (Option Int)
 | .val (.int i)=>some (some i)
 |_=>none
def w6(m:M):MO:=fun ρ=>(m ρ).bind a9U
theorem K7:EO X none O3:=fun pins s σ H Q I ⟨F,ρ,o,en,e,k⟩=>by
 cases e
 exact b4b pins s σ H Q I (k F H (Ext.refl en.fh))
theorem p7{e:AF}{m:M}(h:EE X e m):EO X (some e) (w6 m):=fun pins s σ H Q I ⟨F,ρ,o,en,e1,k⟩=>by
 obtain⟨r,e2,e3⟩:=bind_some e1
 refine b4c h pins s σ H Q I ⟨F,ρ,r,en,e2,fun v F1 H1 o1=> ?_⟩
 unfold a9U at e3
 split at e3
 ·cases e3
  exact⟨_,o1.rep,k F1 H1 o1.x⟩
 ·cases e3
def C4(m:M)(lo hi:MO):M:=fun ρ=>(m ρ).bind fun r=>(lo ρ).bind fun l=>(hi ρ).bind fun h=>gSl r l h
theorem v0{e:AF}{lo hi:Option AF}{m:M}{ml mh:MO}{pos p2:Pos}(he:EE X e m)(hl:EO X lo ml)(hh:EO X hi mh):EE X (.Subscript e (.Slice lo hi none p2) pos) (C4 m ml mh):=
 B5 (b2w slm he hl hh) fun σ H Q ⟨F,ρ,r,en,e,k⟩=>by
  obtain⟨ra,e1,e⟩:=bind_some e
  obtain⟨l,e2,e⟩:=bind_some e
  obtain⟨h,e3,e⟩:=bind_some e
  exact⟨F,ρ,ra,en,e1,fun v F1 H1 o1=>⟨F1,ρ,l,en.ext o1.x,e2,fun F2 H2 x2=>⟨F2,ρ,h,(en.ext o1.x).ext x2,e3,fun F3 H3 x3=>⟨F3,ra,r,x3.fh,(o1.rep.ext x2).ext x3,e,fun z F4 H4 o4=>k z F4 H4 (v4.trans ((o1.x.trans x2).trans x3) o4)⟩⟩⟩⟩
end
def Its(x:Str):It:=⟨fun i _=>i<x.cps.size,fun i H v H'=>H'=H/\∃c,x.cps[i]?=some c/\v= .str ⟨#[c]⟩,fun i _=>x.cps.size<=i⟩
theorem b20{P:AK}{w:AI}{K:AD}{tg:AF}(b:Bool)(it:AB)(x:Str)(t:Tok):b0r P w K tg (Its x) [it] it (fun i h=>h.IsStrIter it (if b then "str_ascii_iterator" else "str_iterator") x t i) where
 mem:=by simp
 obj:=fun i h st c hb=>by
  have e:c=it:=by simpa using hb
  subst e
  obtain⟨o,e,c,d⟩:=st
  exact⟨o,e,fun v z=>by rw [d] at z;cases z⟩
 keep:=fun i h h' st k=>let ⟨o,e,r⟩:=st;⟨o,k it (by simp) o e,r⟩
 item:=by
  intro X hP hw hK hc i pins s σ H E I hf st hg
  subst hP hw hK
  obtain⟨f0,f1,f2,f3,f4,f5⟩:=hf it (by simp)
  have hg:i<x.cps.size:=hg
  have hx:x.cps[i]?=some x.cps[i]:=by simp [hg]
  have fin:∀h':Heap,h'.IsStrIter it (if b then "str_ascii_iterator" else "str_iterator") x t (i+1)->Heap.SameBut it s.heap h'->∃u,some (Value.str ⟨#[x.cps[i]]⟩ s.toks)=some u/\
   AH (model X.prog X.w) X.A (letOwnedTupleGo tg (.ref it) u) (fun _ s2=>∃y H',j7 X pins σ H' s2/\t5 y u/\(Its x).yld i H y H'/\s2.heap.IsStrIter it (if b then "str_ascii_iterator" else "str_iterator") x t (i+1)/\∀b∈[it],H' b=none) E {s with heap:=h',toks:=s.toks+1}:=fun h' st' sb=>by
   have I1:j7 X pins σ H {s with heap:=h',toks:=s.toks+1}:=I.turned (fun b o hb e=>(sb.2 b hb).trans e) f0 f1 f3 f4 f5
   obtain⟨o,e,c,d⟩:=id st'
   refine⟨_,rfl,a9R (s:={s with heap:=h',toks:=s.toks+1}) (n:=if b then "str_ascii_iterator" else "str_iterator") e c d (by cases b<;>decide) ⟨.str ⟨#[x.cps[i]]⟩,H,I1,⟨_,rfl⟩,⟨rfl,_,hx,rfl⟩,st',fun b hb=>(hf b hb).1⟩⟩
  cases b with
  |true=>exact wpAny_pyNext_ascii_item st hx fun h' a b=>fin h' a b
  |false=>exact wpAny_pyNext_wide_item st hx fun h' a b=>fin h' a b
 done:=by
   intro X hP hw hK hc i pins s σ H E I hf st hg
   subst hP hw hK
   obtain⟨f0,f1,f2,f3,f4,f5⟩:=hf it (by simp)
   have hg:x.cps.size<=i:=hg
   have hx:x.cps[i]?=none:=by simp [hg]
   cases b with
   |true=>exact wpAny_pyNext_ascii_end (I.ok.hd hc) st hx fun h' eb=>⟨rfl,I.turned (t':=s.toks) (fun b o hb e=>eb b o hb e) f0 f1 f3 f4 f5⟩
   |false=>exact wpAny_pyNext_wide_end (I.ok.hd hc) st hx fun h' eb=>⟨rfl,I.turned (t':=s.toks) (fun b o hb e=>eb b o hb e) f0 f1 f3 f4 f5⟩
 self:=fun _ _ _ _ _ st h=>by
  cases b with
  |true=>exact wpAny_pyIter_striter_ascii st h
  |false=>exact wpAny_pyIter_striter_wide st h
section
variable {X:Cx}{tg:AF}
def b7Z(tl:TE):TI:=fun σ H R=>tl σ H fun x H1=>∃z,x= .str z/\R (Its z) H1
theorem b6m{l:AF}{tl:TE}(hl:PE X l tl):PI X tg l (b7Z tl):=by
 intro pins s σ H R I h
 refine L4 (hl pins s σ H _ I h) fun v s1 ⟨x,H1,I1,r1,q1⟩=> ?_
 obtain⟨z,e,q⟩:=q1
 subst e
 obtain⟨t,rfl⟩:=r1
 have fin:∀b:Bool,PIE X pins σ tg R (.ref s1.heap.objs.size) {s1 with heap:=s1.heap.push {cls:= .type (if b then "str_ascii_iterator" else "str_iterator"),data:= .fields #[.str z t,.int 0 0]}}:=fun b=>by
  refine⟨s1.heap.objs.size,[s1.heap.objs.size],_,_,H1,rfl,I1.kept (t':=s1.toks) fun b o e=>Al _ e,b20 b _ z t,⟨_,Aw _ rfl,rfl,rfl⟩,fun c hb=> ?_,q⟩
  have e:c=s1.heap.objs.size:=by simpa using hb
  subst e
  exact I1.fpOk (AW _) (I1.hok.fresh (AW _))
 cases ha:z.cps.all (· <128)
 ·exact wpAny_pyIter_wide ha (fin false)
 ·exact wpAny_pyIter_ascii ha (fin true)
structure b6T(K:AD)(F:Hp)(J:It)(ps:List PV):Prop where
 st:∀i H',l7 F H'->ps.length<=i->J.stop i H'
 go:∀i p H',l7 F H'->ps[i]?=some p->J.go i H'
 yd:∀i p x H' H'',l7 F H'->ps[i]?=some p->J.yld i H' x H''->H''=H'/\I0 K F p x
def SIF(K:AD)(mi:MI)(wi:TI):Prop:=∀F H σ ρ ps (R:It->Hp->Prop),F8 K F H σ ρ->mi ρ=some ps->(∀F1 H1 J,Ext F H F1 H1->b6T K F1 J ps->R J H1)->wi σ H R
abbrev EIF(X:Cx)(tg iter:AF)(mi:MI):Prop:=∃wi,PI X tg iter wi/\SIF X.K mi wi
theorem EIF.ei{iter:AF}{mi:MI}(h:EIF X tg iter mi):EI X tg iter mi:=by
 obtain⟨wi,h1,h2⟩:=h
 exact⟨wi,h1,fun F H σ ρ ps R en e k=>h2 F H σ ρ ps R en e fun F1 H1 J x S=>k F1 H1 J x ⟨fun i H' s=>S.st i H' (x.fh.trans s),fun i p H' s=>S.go i p H' (x.fh.trans s),fun i p y H' H'' s=>S.yd i p y H' H'' (x.fh.trans s)⟩⟩
def a45(m:M):MI:=fun ρ=>(m ρ).bind fun r=>match r with
 | .val (.str z)=>some (z.cps.toList.map fun c=> .str ⟨#[c]⟩)
 |_=>none
theorem b3r{l:AF}{m:M}(h:EE X l m):EIF X tg l (a45 m):=⟨_,b6m h,fun F H σ ρ ps R en e k=>by
 obtain⟨r,e1,e2⟩:=bind_some e
 refine⟨F,ρ,r,en,e1,fun v F1 H1 o1=> ?_⟩
 split at e2
 ·rename_i z
  cases e2
  cases o1.rep
  refine⟨z,rfl,k F1 H1 _ o1.x ⟨fun i H2 s h=> ?_,fun i p H2 s h=> ?_,fun i p x H2 H3 s h y=> ?_⟩⟩
  ·have h:z.cps.size<=i:=by simpa using h
   exact h
  ·have:=(Av.mp h).1
   have h:i<z.cps.size:=by simpa using this
   exact h
  ·obtain⟨e,c,hc,rfl⟩:=y
   refine⟨e, ?_⟩
   rw [BB,Array.getElem?_toList,hc] at h
   cases h
   rfl
 ·cases e2⟩
theorem b1L{K:AD}{F:Hp}{J:It}{ps:List PV}{g:TG}{tb:TS}{D:P4}{σ:L2.St}{H:Hp}(S:b6T K F J ps)(Pv:Nat->L2.St->Hp->Prop)(h0:Pv 0 σ H)(hl:∀i σ H,Pv i σ H->l7 F H)
 (hs:∀i p x σ H,ps[i]?=some p->I0 K F p x->Pv i σ H->g x σ H fun σ2 H2=>tb {D with nx:=Pv (i+1),ct:=Pv (i+1),bk:=D.nx} σ2 H2) (hd:∀σ H,Pv ps.length σ H->D.nx σ H):
 ∃W:Nat->Nat->L2.St->Hp->Prop,(∃m,W 0 m σ H)/\∀i m σ H,W i m σ H->
  (J.stop i H/\D.nx σ H)\/(J.go i H/\∃N:L2.St->Hp->Prop,(∀σ' H',N σ' H'->∃m',m'<m/\W (i+1) m' σ' H')/\∀x H',J.yld i H x H'->g x σ H' fun σ2 H2=>tb {D with nx:=N,ct:=N,bk:=D.nx} σ2 H2):=by
 refine⟨fun i m σ H=>m=ps.length - i/\i<=ps.length/\Pv i σ H,⟨ps.length,by simp,Nat.zero_le _,h0⟩, ?_⟩
 rintro i m σ H ⟨rfl,hi,p⟩
 have q:=hl i σ H p
 by_cases hlt:i<ps.length
 ·have e:ps[i]?=some ps[i]:=by simp [hlt]
  refine .inr ⟨S.go i ps[i] H q e,Pv (i+1),fun σ' H' p'=>⟨ps.length - (i+1),by lia,rfl,hlt,p'⟩,fun x H' y=> ?_⟩
  obtain⟨e2,rx⟩:=S.yd i ps[i] x H H' q e y
  subst e2
  exact hs i ps[i] x σ _ e rx p
 ·have e:i=ps.length:=by lia
  subst e
  exact .inl ⟨S.st _ H q (AW _),hd σ H p⟩
theorem b3t{iter:AF}{body:List Stmt}{mi:MI}{g:TG}{t:PV->c7->Option c7}{b:MS}{pos:Pos}(hp:PassesOwn (model X.prog X.w) X.A X.env X.xe)(hc:X.calm=true)(hi:EIF X tg iter mi)(hg:PG X tg g)(T:b1n X.K g t)(hb:ESs X body b)
 (hs:∀x,foldedSetIterable iter X.env x=pure x:=by intro _;rfl):ES X (.For tg iter body [] pos) (a44 mi t b):=by
 obtain⟨wi,h1,h2⟩:=hi
 exact D4 (a9n hp hc h1 hg hb hs) fun D σ H ⟨F0,H0,F,ρ,fl,so,e,fin⟩=>by
  obtain⟨ps,e1,e⟩:=bind_some e
  refine h2 F H σ ρ ps _ so.e e1 fun F1 H1 J x S=> ?_
  have fin1:=fin.later x.f
  refine b1L S (PvL X.K F0 H0 F1 b t ps fl) ⟨F1,ρ,PU.l7.refl F1,so.ext x,e⟩ (fun i σ H ⟨F2,_,s,so2,_⟩=>s.trans so2.e.fh) (fun i p y σ H ep rp hp=> ?_) (fun σ H hp=>a2H fin1 hp)
  exact a1E T fin1 ep hp fun F2 s=>I0.mono s _ rp
end
def a2d:e8->e8->Option e8
 | .val (.int i),.val (.int j)=>some (.val (.bool (decide (i<j))))
 | .val (.str i),.val (.str j)=>some (.val (.bool (decide (i.cps.toList<j.cps.toList))))
 |_,_=>none
def Z8:e8->e8->Option e8
 | .val (.int i),.val (.int j)=>some (.val (.bool (decide (i<=j))))
 | .val (.str i),.val (.str j)=>some (.val (.bool (!decide (j.cps.toList<i.cps.toList))))
 |_,_=>none
section
variable {X:Cx}
theorem a1H:OpM X (compareOp .Lt) a2d:=by
 intro pins s σ H x y v u Q I rx ry h
 obtain⟨F,ra,rb,rz,s0,h1,h2,h3,k⟩:=h
 unfold a2d at h3
 split at h3
 ·cases h3;cases h1;cases h2
  exact b7k pins s σ H _ _ v u Q I rx ry ⟨_,_,rfl,rfl,k _ F H (v4.here s0 rfl)⟩
 ·cases h3;cases h1;cases h2
  exact b0Z pins s σ H _ _ v u Q I rx ry ⟨_,_,rfl,rfl,k _ F H (v4.here s0 rfl)⟩
 ·cases h3
theorem U9:OpM X (compareOp .LtE) Z8:=by
 intro pins s σ H x y v u Q I rx ry h
 obtain⟨F,ra,rb,rz,s0,h1,h2,h3,k⟩:=h
 unfold Z8 at h3
 split at h3
 ·cases h3;cases h1;cases h2
  exact b7j pins s σ H _ _ v u Q I rx ry ⟨_,_,rfl,rfl,k _ F H (v4.here s0 rfl)⟩
 ·cases h3;cases h1;cases h2
  obtain⟨t,rfl⟩:=rx
  obtain⟨t',rfl⟩:=ry
  exact PySem.P.le_str ⟨.bl _,H,I,rfl,k _ F H (v4.here s0 rfl)⟩
 ·cases h3
def J7(neg:Bool)(x y:e8):Option e8:=match x,y with
 | .val (.str i),.val (.str j)=>some (.val (.bool (if neg then !(!(Builtin.Str.occurrences j i 0 j.length 1).isEmpty) else !(Builtin.Str.occurrences j i 0 j.length 1).isEmpty)))
 |x,y=>gIn neg x y
theorem a2S(hu:X.A.units+64<cLine):OpM X (compareOp .In) (J7 false):=by
 intro pins s σ H x y v u Q I rx ry h
 obtain⟨F,ra,rb,rz,s0,h1,h2,h3,k⟩:=h
 unfold J7 at h3
 split at h3
 ·cases h3;cases h1;cases h2
  exact b0Y pins s σ H _ _ v u Q I rx ry ⟨_,_,rfl,rfl,k _ F H (v4.here s0 rfl)⟩
 ·exact b6b hu pins s σ H x y v u Q I rx ry ⟨F,_,_,rz,s0,h1,h2,h3,k⟩
theorem a0y(hu:X.A.units+64<cLine):OpM X (compareOp .NotIn) (J7 true):=by
 intro pins s σ H x y v u Q I rx ry h
 obtain⟨F,ra,rb,rz,s0,h1,h2,h3,k⟩:=h
 unfold J7 at h3
 split at h3
 ·cases h3;cases h1;cases h2
  exact a7n pins s σ H _ _ v u Q I rx ry ⟨_,_,rfl,rfl,k _ F H (v4.here s0 rfl)⟩
 ·exact b00 hu pins s σ H x y v u Q I rx ry ⟨F,_,_,rz,s0,h1,h2,h3,k⟩
def S9(neg:Bool)(x y:e8):Option e8:=match x,y with
 | .val (.bool a),.val (.bool b)=>some (.val (.bool (if neg then !(a==b) else a==b)))
 |x,y=>b1P neg x y
theorem b1Z{a b:Bool}{M:Model}{A:AJ}{E:AA->AC->Prop}{s:AC}{Q:AA->AC->Prop}(h:Q (.bool (a==b)) s):AH M A (compareOp .Is (.bool a) (.bool b)) Q E s:=by
 refine wpAny_is_plain (by cases a<;>cases b<;>rfl) ?_
 have e:(Value.bool a==Value.bool b)=(a==b):=by cases a<;>cases b<;>rfl
 rw [e];exact h
theorem K9:OpM X (compareOp .Is) (S9 false):=by
 intro pins s σ H x y v u Q I rx ry h
 obtain⟨F,ra,rb,rz,s0,h1,h2,h3,k⟩:=h
 unfold S9 at h3
 split at h3
 ·cases h3;cases h1;cases h2;cases rx;cases ry
  exact b1Z ⟨.bl _,H,I,rfl,k _ F H (v4.here s0 rfl)⟩
 ·exact b33 pins s σ H x y v u Q I rx ry ⟨F,_,_,rz,s0,h1,h2,h3,k⟩
theorem a74{a b:Bool}{M:Model}{A:AJ}{E:AA->AC->Prop}{s:AC}{Q:AA->AC->Prop}(h:Q (.bool (!(a==b))) s):AH M A (compareOp .IsNot (.bool a) (.bool b)) Q E s:=by
 refine wpAny_isNot_plain (by cases a<;>cases b<;>rfl) ?_
 have e:(Value.bool a==Value.bool b)=(a==b):=by cases a<;>cases b<;>rfl
 first
  |(rw [e];exact h)
  |(have e2:(Value.bool a !=Value.bool b)= !(a==b):=by cases a<;>cases b<;>rfl
    rw [e2];exact h)
theorem b2p:OpM X (compareOp .IsNot) (S9 true):=by
 intro pins s σ H x y v u Q I rx ry h
 obtain⟨F,ra,rb,rz,s0,h1,h2,h3,k⟩:=h
 unfold S9 at h3
 split at h3
 ·cases h3;cases h1;cases h2;cases rx;cases ry
  exact a74 ⟨.bl _,H,I,rfl,k _ F H (v4.here s0 rfl)⟩
 ·exact b2q pins s σ H x y v u Q I rx ry ⟨F,_,_,rz,s0,h1,h2,h3,k⟩
def a4T:e8->e8->Option e8
 | .val (.str z),.val (.int k)=>if okC (fun k n=>0<=k/\k<=1000000/\n*k<=16777216) k z.length=true then some (.val (.str ⟨(Ab k.toNat z.cps.toList).flatten.toArray⟩)) else none
 | .ow (.lst ps),.val (.int k)=>if okC (fun k n=>0<=k/\k<=1000000/\n*k<=16777216) k ps.length=true then some (.own (Ab k.toNat ps).flatten) else none
 |x,y=>b3B x y
theorem a4P(xs:List Nat):∀(m:Nat) (acc:Array Nat),(Ab m xs.toArray).foldl (· ++·) acc=acc++(Ab m xs).flatten.toArray
 |0,acc=>by simp
 |m+1,acc=>by
  rw [AZ,List.foldl_cons,a4P xs m,AZ,List.flatten_cons]
  apply Array.ext'
  simp
theorem b4F{z:Str}{k:Int}(h0:0<=k):Txt.mul z k=⟨(Ab k.toNat z.cps.toList).flatten.toArray⟩:=by
 unfold Txt.mul
 by_cases h1:k<1
 ·have:k=0:=by lia
  subst this
  rfl
 ·rw [if_neg h1]
  by_cases h2:(k==1||z.length==0)=true
  ·rw [if_pos h2]
   rw [Bool.or_eq_true] at h2
   cases z with
   |mk a=>
    rcases h2 with h2|h2
    ·have:k=1:=by simpa using h2
     subst this
     show(⟨a⟩:Str)=_
     congr 1
     apply Array.ext'
     simp
    ·have ha:a.size=0:=by simpa [Str.length] using h2
     have:a= #[]:=Array.eq_empty_of_size_eq_zero ha
     subst this
     congr 1
     apply Array.ext'
     simp
  ·rw [if_neg h2]
   have e:z.cps=z.cps.toList.toArray:=by simp
   congr 1
   rw [e,a4P]
   simp
theorem a5s{K:AD}{H:Hp}{ps:List PV}{xs:List V}(r:l8 K H ps xs):∀m:Nat,l8 K H (Ab m ps).flatten (Ab m xs).flatten
 |0=>rfl
 |m+1=>by
  rw [AZ,AZ,List.flatten_cons,List.flatten_cons]
  exact r.append (a5s r m)
theorem b2n:OpM X (binaryOp .Mult) a4T:=by
 intro pins s σ H x y v u Q I rx ry h
 obtain⟨F,ra,rb,rz,s0,h1,h2,h3,k⟩:=h
 unfold a4T at h3
 split at h3
 ·rename_i z n
  split at h3
  ·rename_i c
   obtain⟨c0,c1,c2⟩:=a2Q.mp c
   cases h3;cases h1;cases h2
   obtain⟨t,rfl⟩:=rx
   obtain⟨t',rfl⟩:=ry
   have hz:z.length*n.toNat<=AQ:=by
    rw [sizeLine_eq]
    have:((z.length*n.toNat:Nat):Int)=z.length*n:=by rw [Int.natCast_mul,Int.toNat_of_nonneg c0]
    lia
   refine SB.mul ⟨?_,fun h4 h5 h6=> ?_,fun h4 h5=> ?_⟩ fun t' k'=>⟨.str _,H,I.tok _,⟨_,rfl⟩, ?_⟩
   ·have e1:¬n< -(2 ^ 63:Int):=by lia
    have e2:¬n>=2 ^ 63:=by lia
    simp [e1,e2]
    lia
   ·have h7:(2 ^ 63 - 1:Int)/ n<z.length:=h6
    have h8:(2 ^ 63 - 1:Int)<(z.length:Int)*n:=by
     have:=Int.lt_mul_of_ediv_lt (a:=(2 ^ 63 - 1:Int)) (b:=(z.length:Int)) (c:=n) (by lia) h7
     exact this
    lia
   ·unfold Builtin.Str.tooLong
    rw [decide_eq_false (by lia)]
   ·rw [b4F c0]
    exact k _ F H (v4.here s0 rfl)
  ·cases h3
 ·rename_i ps n
  split at h3
  ·rename_i c
   obtain⟨c0,c1,c2⟩:=a2Q.mp c
   cases h3;cases h2
   obtain⟨a,xs,rfl,fa,hq,rl⟩:=h1
   have hlen:=rl.length
   have hz:xs.length*n.toNat<=AQ:=by
    rw [sizeLine_eq,hlen]
    have:((ps.length*n.toNat:Nat):Int)=ps.length*n:=by rw [Int.natCast_mul,Int.toNat_of_nonneg c0]
    lia
   exact b59 pins s σ H _ _ v u Q I rx ry ⟨a,n,xs,rfl,rfl,hq,by lia,by lia,hz,fun p hp=>k _ _ _ (v4.lst s0 hp (a5s rl _))⟩
  ·cases h3
 ·exact b2m pins s σ H x y v u Q I rx ry ⟨F,_,_,rz,s0,h1,h2,h3,k⟩
theorem l8.set{K:AD}{H:Hp}{p:PV}{v:V}(h:I0 K H p v):∀{ps:List PV} {xs:List V} (j:Nat),l8 K H ps xs->l8 K H (ps.set j p) (xs.set j v)
 |[],_,_,r=>by cases r;exact rfl
 |_::ps,_,0,⟨w,t,e,_,rl⟩=>by subst e;exact⟨v,t,rfl,h,rl⟩
 |q::ps,_,j+1,⟨w,t,e,hq,rl⟩=>by subst e;exact⟨w,_,rfl,hq,l8.set h j rl⟩
end
theorem a3w:fillsNumberSlot (.type "tuple") "mul"=pure false:=
 PySem.fillsNumberSlot_seq (id:="tuple.__mul__") (r:=some (.builtin "tuple.__rmul__")) PySem.F.slot_tuple_mul.lookup (by decide+kernel) PySem.F.slot_tuple_rmul.lookup (by decide+kernel)
theorem a7r:seqRepeat? (.type "tuple")=pure (some (.builtin "tuple.__mul__")):=by
 unfold seqRepeat?
 rw [PySem.seqSlot_of (T:="tuple") (name:="__mul__") (id:="tuple.__mul__") PySem.F.slot_tuple_mul.lookup (by decide+kernel),PySem.seqSlot_of (T:="tuple") (name:="__rmul__") (id:="tuple.__rmul__") PySem.F.slot_tuple_rmul.lookup (by decide+kernel)]
 rfl
theorem a4Y(a:Int)(t:Tok)(l:AB)(items:Array AA)(n:Nat)(dd:Option AB)(sl:Array (Option AA)):Meets (Builtin.«int.__rmul__» ⟨[.int a t,.ref l],[]⟩) (fun _ R s=>s.heap.get? l=some {cls:= .type "tuple",dict:=dd,data:= .seq items n,slots:=sl}/\R (.ok (.ret Value.notImplemented)) s):=
 .of_wp fun prog w A R s h=>by obtain⟨hp,g,d,tk,os⟩:=s;obtain⟨hl,h⟩:=h;wp_walk;exact⟨_,rfl,h⟩
theorem a5K(l:AB)(items:Array AA)(n:Nat)(dd:Option AB)(sl:Array (Option AA))(x:Int)(u:Tok)(hc0:(decide (x< -(2 ^ 63))||decide (x>=2 ^ 63))=false)(hc1:(items.isEmpty||x==1)=false)(hc2:(decide (x<=0)||items.isEmpty)=false)(hc3:¬(items.size:Int)*x>(2 ^ 63 - 1)/ 8)(hc4:Builtin.Tuple.tupleTooMany ((items.size:Int)*x)=false)(hz:((Ab x.toNat items).foldl (· ++·) #[]).size<=AQ):
 Meets (Builtin.«tuple.__mul__» ⟨[.ref l,.int x u],[]⟩) (fun _ R s=>s.heap.get? l=some {cls:= .type "tuple",dict:=dd,data:= .seq items n,slots:=sl}/\R (.ok (.ret (Value.ref s.heap.objs.size))) {s with heap:=s.heap.push {cls:=Value.type "tuple",data:=Data.seq ((Ab x.toNat items).foldl (· ++·) #[])},toks:=s.toks}):=
 .of_wp fun prog w A R s h=>by
  obtain⟨hp,g,d,tk,os⟩:=s;obtain⟨hl,h⟩:=h
  wp_walk
  have ht:IsTup hp l items:=⟨_,hl,rfl,n,rfl⟩
  rw [if_neg (by rw [hc0];exact Aj)]
  wp_walk
  rw [if_neg hc3]
  wp_walk
  exact⟨_,rfl,h⟩
section
variable {X:Cx}
theorem b32:OpR X (binaryOp .Mult) (fun x y H Q=>∃a xs n,x= .ref a/\y= .int n/\SqT X.K H a xs/\xs≠[]/\2<=n/\n<=1000000/\xs.length*n.toNat<=AQ/\∀p,H p=none->Q (.ref p) (upd H p (.tup (Ab n.toNat xs).flatten))):=by
 intro pins s σ H x y v u Q I rx ry h
 obtain⟨a,xs,n,rfl,rfl,hx,hne,h1,h2,hz,q⟩:=h
 cases rx
 obtain⟨t,rfl⟩:=ry
 obtain⟨its,r,ht,_⟩:=I.tuple hx
 have hlen:its.toArray.size=xs.length:=by rw [An];exact r.length.symm
 have hie:its.toArray.isEmpty=false:=by
  cases its with
  |nil=>exact absurd (r.nil_iff.mp rfl) hne
  |cons _ _=>rfl
 have hnew:List.foldl (fun x1 x2=>x1++x2) #[] (Ab n.toNat its.toArray)=(Ab n.toNat its).flatten.toArray:=by
  have:=a3l its n.toNat []
  rw [AR] at this
  exact this
 have hc:((xs.length*n.toNat:Nat):Int)=(xs.length:Int)*n:=by rw [Int.natCast_mul,Int.toNat_of_nonneg (by lia)]
 have hsl:=sizeLine_eq
 obtain⟨⟨cls,dd,data,sl⟩,ho,hc',m,hd⟩:=id ht
 simp only at hc' hd
 subst hc' hd
 have hzz:(List.foldl (fun x1 x2=>x1++x2) #[] (Ab n.toNat its.toArray)).size<=AQ:=by
  rw [hnew,An,a67,Nat.mul_comm,<-r.length];exact hz
 refine wpAny_binaryOp_repeat_ref (T:="tuple") (U:="int") (by decide) ht.typeIs (fun s'=>typeIs_int s' n t) a3w F.fills_int_mul F.slot_int_rmul a7r F.slot_int_index.lookup
  (call_meets F.slot_int_rmul (typeIs_int s n t) F.entry_int_rmul (F.args_int_rmul_2 _ _) (a4Y n t a its.toArray m dd sl)
   ⟨ho,rfl,ht.typeIs,call_meets PySem.F.slot_tuple_mul ht.typeIs PySem.F.entry_tuple_mul (PySem.F.args_tuple_mul_2 _ _) (a5K a its.toArray m dd sl n t ?_ ?_ ?_ ?_ ?_ hzz) ⟨ho, ?_⟩⟩)
 ·have e1:¬n< -(2 ^ 63:Int):=by lia
  have e2:¬n>=2 ^ 63:=by lia
  simp [e1,e2]
  lia
 ·rw [hie]
  have:n≠1:=by lia
  simp [this]
 ·rw [hie]
  have:¬n<=0:=by lia
  simp [this]
 ·rw [hlen,<-hc]
  lia
 ·rw [hlen,<-hc]
  unfold Builtin.Tuple.tupleTooMany
  rw [decide_eq_false (by lia)]
 ·rw [hnew]
  refine⟨.ref s.heap.objs.size,_,I.laid (t':=s.toks) (o:= .tup (Ab n.toNat xs).flatten) (fun b ob q=>Al _ q) (AW _) ?_,rfl,q _ (I.hok.fresh (AW _))⟩
  exact⟨by rw [a67,Nat.mul_comm];exact hz,_,r.rep n.toNat,IsTup.new _ _⟩
def a0N:e8->e8->Option e8
 | .val (.tuple ps),.val (.int k)=>if okC (fun k n=>2<=k/\k<=1000000/\1<=n/\n*k<=16777216) k ps.length=true then some (.val (.tuple (Ab k.toNat ps).flatten)) else none
 |x,y=>a4T x y
theorem a0a:OpM X (binaryOp .Mult) a0N:=by
 intro pins s σ H x y v u Q I rx ry h
 obtain⟨F,ra,rb,rz,s0,h1,h2,h3,k⟩:=h
 unfold a0N at h3
 split at h3
 ·rename_i ps n
  split at h3
  ·rename_i c
   obtain⟨c0,c1,c2,c3⟩:=a2Q.mp c
   cases h3;cases h2
   obtain⟨a,xs,rfl,hq,rl⟩:=h1
   have hlen:=rl.length
   have hz:xs.length*n.toNat<=AQ:=by
    rw [sizeLine_eq,hlen]
    have:((ps.length*n.toNat:Nat):Int)=ps.length*n:=by rw [Int.natCast_mul,Int.toNat_of_nonneg (by lia)]
    lia
   refine b32 pins s σ H _ _ v u Q I rx ry ⟨a,xs,n,rfl,rfl,C0 s0 hq.sq, ?_,by lia,by lia,hz,fun p hp=>k _ _ _ (v4.tup s0 hp (a5s rl _))⟩
   intro e
   rw [e] at hlen
   simp at hlen
   lia
  ·cases h3
 ·exact b2n pins s σ H x y v u Q I rx ry ⟨F,_,_,rz,s0,h1,h2,h3,k⟩
end
section
variable {prog:AK}{w:AI}{A:AJ}{E:AA->AC->Prop}{s:AC}
end
def b1g(h:Heap)(it:AB)(v:AA)(i:Int):Prop:=∃o,h.get? it=some o/\o.cls= .type "reversed"/\o.data= .fields #[v,rawInt i]
theorem b1g.typeIs{s:AC}{it:AB}{v:AA}{i:Int}(x:b1g s.heap it v i):s.TypeIs (.ref it) "reversed":=let ⟨o,ho,hc,_⟩:=x;⟨o,ho,hc⟩
theorem b1g.at{h h':Heap}{it:AB}{v:AA}{i:Int}(x:b1g h it v i)(e:∀o,h.get? it=some o->h'.get? it=some o):b1g h' it v i:=let ⟨o,ho,r⟩:=x;⟨o,e _ ho,r⟩
section
variable {prog:AK}{w:AI}{A:AJ}{E:AA->AC->Prop}{s:AC}{u:AA}{T gid:String}{fp:List AB}{n:Nat}{P:Nat->AA->Prop}{Sq:Heap->Prop}
end
section
variable {prog:AK}{w:AI}{A:AJ}{E:AA->AC->Prop}{s:AC}{u:AA}{T gid:String}{fp:List AB}{n:Nat}{P:Nat->AA->Prop}{Sq:Heap->Prop}
end
section
variable {prog:AK}{w:AI}{A:AJ}{E:AA->AC->Prop}{s:AC}
end
section
variable {X:Cx}
theorem l8.reverse{K:AD}{H:Hp}:∀{ps:List PV} {xs:List V},l8 K H ps xs->l8 K H ps.reverse xs.reverse
 |[],_,r=>by cases r;exact rfl
 |p::ps,_,⟨x,r,e,hp,t⟩=>by
  subst e
  rw [List.reverse_cons,List.reverse_cons]
  exact(l8.reverse t).append ⟨x,[],rfl,hp,rfl⟩
theorem m7.reverse:∀{xs:List V} {us:List AA},m7 xs us->m7 xs.reverse us.reverse
 |_,_,.nil=> .nil
 |_,_,.cons a b=>by
  rw [List.reverse_cons,List.reverse_cons]
  exact(m7.reverse b).append (.cons a .nil)
end
section
variable {X:Cx}
theorem l8.last{K:AD}{H:Hp}{ps:List PV}{xs:List V}{p:PV}(r:l8 K H ps xs)(h:ps.getLast?=some p):∃v,xs.getLast?=some v/\I0 K H p v:=by
 rw [List.getLast?_eq_getElem?] at h
 obtain⟨v,e,q⟩:=r.get h
 exact⟨v,by rw [List.getLast?_eq_getElem?,r.length];exact e,q⟩
theorem l8.dropLast{K:AD}{H:Hp}{ps:List PV}{xs:List V}(r:l8 K H ps xs):l8 K H ps.dropLast xs.dropLast:=by
 rw [List.dropLast_eq_take,List.dropLast_eq_take,r.length]
 exact r.take _
end
def a7B(kvs:List (List u7×PV))(k:List u7):Option PV:=(kvs.find? fun kv=>decide (kv.1=k)).map (·.2)
def b7t(kvs:List (List u7×PV))(k:List u7)(v:PV):List (List u7×PV):=
 if(kvs.any fun kv=>decide (kv.1=k))=true then kvs.map (fun kv=>if kv.1=k then(kv.1,v) else kv) else kvs++[(k,v)]
theorem F9.length{K:AD}{H:Hp}:∀{kvs:List (List u7×PV)} {ys:List (List u7×V)},F9 K H kvs ys->ys.length=kvs.length
 |[],_,h=>by cases h;rfl
 |(k,p)::r,_,⟨v,t,e,q,h⟩=>by subst e;rw [AS,AS,F9.length h]
theorem F9.any{K:AD}{H:Hp}{k:List u7}:∀{kvs:List (List u7×PV)} {ys:List (List u7×V)},F9 K H kvs ys->(ys.any fun kv=>decide (kv.1=k))=(kvs.any fun kv=>decide (kv.1=k))
 |[],_,h=>by cases h;rfl
 |(k',p)::r,_,⟨v,t,e,q,h⟩=>by subst e;rw [List.any_cons,List.any_cons,F9.any h]
theorem F9.val{K:AD}{H:Hp}{k:List u7}:∀{kvs:List (List u7×PV)} {ys:List (List u7×V)},F9 K H kvs ys->(∀p,a7B kvs k=some p->∃v,a0S ys k=some v/\I0 K H p v)/\(a7B kvs k=none->a0S ys k=none)
 |[],_,h=>by cases h;exact⟨fun p e=>(nomatch e),fun _=>rfl⟩
 |(k',p)::r,_,⟨v,t,e,q,h⟩=>by
  subst e
  by_cases c:k'=k
  ·have e1:a7B ((k',p)::r) k=some p:=by simp [a7B,List.find?_cons,c]
   have e2:a0S ((k',v)::t) k=some v:=a26 c
   rw [e1,e2]
   exact⟨fun p' e'=>(by cases e';exact⟨v,rfl,q⟩),fun e'=>(nomatch e')⟩
  ·have e1:a7B ((k',p)::r) k=a7B r k:=by simp [a7B,List.find?_cons,c]
   have e2:a0S ((k',v)::t) k=a0S t k:=a25 c
   rw [e1,e2]
   exact F9.val h
theorem F9.repl{K:AD}{H:Hp}{k:List u7}{p:PV}{v:V}(hp:I0 K H p v):∀{kvs:List (List u7×PV)} {ys:List (List u7×V)},F9 K H kvs ys->F9 K H (kvs.map fun kv=>if kv.1=k then(kv.1,p) else kv) (ys.map fun kv=>if kv.1=k then(kv.1,v) else kv)
 |[],_,h=>by cases h;exact rfl
 |(k',p')::r,_,⟨v',t,e,q,h⟩=>by
  subst e
  by_cases c:k'=k
  ·rw [AL,AL]
   simp only [if_pos c]
   exact⟨v,_,rfl,hp,F9.repl hp h⟩
  ·rw [AL,AL]
   simp only [if_neg c]
   exact⟨v',_,rfl,q,F9.repl hp h⟩
theorem F9.snoc{K:AD}{H:Hp}{k:List u7}{p:PV}{v:V}(hp:I0 K H p v):∀{kvs:List (List u7×PV)} {ys:List (List u7×V)},F9 K H kvs ys->F9 K H (kvs++[(k,p)]) (ys++[(k,v)])
 |[],_,h=>by cases h;exact⟨v,[],rfl,hp,rfl⟩
 |(k',p')::r,_,⟨v',t,e,q,h⟩=>by subst e;exact⟨v',_,rfl,q,F9.snoc hp h⟩
theorem F9.put{K:AD}{H:Hp}{k:List u7}{p:PV}{v:V}{kvs:List (List u7×PV)}{ys:List (List u7×V)}(r:F9 K H kvs ys)(hp:I0 K H p v):F9 K H (b7t kvs k p) (a51 ys k v):=by
 unfold b7t a51
 rw [r.any]
 split
 ·exact r.repl hp
 ·exact r.snoc hp
theorem v4.dct{K:AD}{F H:Hp}{a:AB}(s:l7 F H)(n:H a=none):v4 K F H F (upd H a (.dT [])) (.ref a) (.dct []):=
 ⟨Ext.layH s n,⟨a,[],rfl,s.free n,t7,rfl⟩,fun _ _ _ e=>by cases e;exact n⟩
section
variable {X:Cx}
end
section
variable {prog:AK}{w:AI}{A:AJ}{E:AA->AC->Prop}{s:AC}
end
section
variable {X:Cx}{pins:List (AB×Obj)}{σ:L2.St}{H:Hp}{s:AC}{a:AB}{A:AJ}{E:AA->AC->Prop}
end
section
variable {X:Cx}
end
theorem F9.isSome{K:AD}{H:Hp}{k:List u7}{kvs:List (List u7×PV)}{ys:List (List u7×V)}(r:F9 K H kvs ys):(a0S ys k).isSome=(a7B kvs k).isSome:=by
 cases hv:a7B kvs k with
 |none=>rw [(r.val (k:=k)).2 hv];rfl
 |some p=>
  obtain⟨v,e,_⟩:=(r.val (k:=k)).1 p hv
  rw [e];rfl
section
variable {X:Cx}
end
section
variable {prog:AK}{w:AI}{A:AJ}{E:AA->AC->Prop}{s:AC}
end
theorem a6x{K:AD}{H:Hp}:∀ss:List Str,l8 K H (ss.map PyData.str) (ss.map V.str)
 |[]=>rfl
 |x::r=>⟨_,_,rfl,rfl,a6x r⟩
section
variable {X:Cx}
end
section
variable {X:Cx}
end
section
variable {prog:AK}{w:AI}{A:AJ}{E:AA->AC->Prop}{s:AC}
end
section
variable {prog:AK}{w:AI}{A:AJ}{E:AA->AC->Prop}{s:AC}
end
section
variable {X:Cx}
end
def S(l:List Nat):Str:=⟨l.toArray⟩
theorem b4N(z:Str):S z.cps.toList=z:=by cases z;simp [S]
theorem b6P(a b:List Nat):S a++S b=S (a++b):=by
 show Str.append (S a) (S b)=_
 simp [Str.append,S]
theorem L8(a:List Nat):(S a).length=a.length:=by simp [S,Str.length]
theorem T8(a:List Nat):(S a).cps.toList=a:=by simp [S]
theorem b1k{a b:List Nat}(h:S a=S b):a=b:=by
 have:=congrArg (fun z:Str=>z.cps.toList) h
 simpa [S] using this
theorem b6S(c:Nat):(⟨#[c]⟩:Str)=S [c]:=rfl
theorem b6Q(a b:List Nat):(S a==S b)=(a==b):=by
 rw [Bool.eq_iff_iff]
 simp only [beq_iff_eq]
 exact⟨b1k,fun h=>by rw [h]⟩
def G7(sep:List Nat):List (List Nat)->List Nat
 |[]=>[]
 |[x]=>x
 |x::y::r=>x++sep++G7 sep (y::r)
theorem a6g(sep:List Nat):∀(ls:List (List Nat)) (acc:List Nat),(ls.foldl (fun a p=>a++sep++p) acc)=if ls=[] then acc else acc++sep++G7 sep ls
 |[],acc=>rfl
 |[x],acc=>by simp [G7]
 |x::y::r,acc=>by
  rw [List.foldl_cons,a6g sep (y::r)]
  simp [G7]
theorem a9N(sep:List Nat):∀(ls:List (List Nat)) (acc:List Nat),(ls.map S).foldl (fun a (p:Str)=>a++(S sep).cps++p.cps) acc.toArray=(ls.foldl (fun a p=>a++sep++p) acc).toArray
 |[],acc=>rfl
 |x::r,acc=>by
  rw [AL,List.foldl_cons,List.foldl_cons]
  have:acc.toArray++(S sep).cps++(S x).cps=(acc++sep++x).toArray:=by simp [S]
  rw [this]
  exact a9N sep r (acc++sep++x)
theorem b12(sep:List Nat)(ls:List (List Nat)):Txt.join (S sep) (ls.map S)=S (G7 sep ls):=by
 unfold Txt.join Builtin.Str.glued
 cases ls with
 |nil=>rfl
 |cons x r=>
  show(⟨((r.map S).foldl (fun acc (p:Str)=>acc++(S sep).cps++p.cps) (S x).cps)⟩:Str)=_
  rw [show(S x).cps=x.toArray from rfl,a9N,a6g]
  cases r with
  |nil=>rfl
  |cons y r=>rw [if_neg (by simp)];simp [S,G7]
theorem a71:∀ls:List (List Nat),G7 [] ls=ls.flatten
 |[]=>rfl
 |[x]=>by simp [G7]
 |x::y::r=>by simp [G7,a71 (y::r)]
theorem a3R:∀cs:List Nat,(cs.map fun c=>[c]).flatten=cs
 |[]=>rfl
 |c::cs=>by simp [a3R cs]
theorem a8T{α:Type}{xs:List α}{i:Int}(h:0<=i):L2.atI xs i=xs[i.toNat]?:=by
 unfold L2.atI L2.ixN
 rw [if_pos h]
 by_cases c:i<xs.length
 ·rw [if_pos c];rfl
 ·rw [if_neg c]
  have:xs.length<=i.toNat:=by lia
  rw [List.getElem?_eq_none_iff.mpr this];rfl
theorem a9x{α:Type}{xs:List α}{k:Nat}:L2.atI xs (k:Int)=xs[k]?:=by
 rw [a8T (by lia)];simp
theorem b42{l:List Nat}{i:Int}{c:Nat}(hl:l.length<=16777216)(h:L2.atI l i=some c):v7 (.val (.str (S l))) (.val (.int i))=some (.val (.str (S [c]))):=by
 have hs:(S l).length<=AQ:=by rw [L8,sizeLine_eq];exact hl
 unfold v7
 simp only [e8.rd,T8,h,Ah,if_pos hs]
 rfl
theorem J6{l k:List Nat}(h:l.length+k.length<=16777216):y8 (.val (.str (S l))) (.val (.str (S k)))=some (.val (.str (S (l++k)))):=by
 rw [b1N (by rw [L8,L8,sizeLine_eq];exact h),b6P]
theorem b3C{i j:Int}(h: -18446744073709551616<i/\i<18446744073709551616):a4T (.val (.int i)) (.val (.int j))=some (.val (.int (i*j))):=b5L h
theorem b3D{i j:Int}(h: -18446744073709551616<j/\j<18446744073709551616):a4T (.val (.int i)) (.val (.int j))=some (.val (.int (i*j))):=b5M h
theorem C5(i j:Int):a2d (.val (.int i)) (.val (.int j))=some (.val (.bool (decide (i<j)))):=Eq.trans rfl rfl
theorem X9(i j:Int):Z8 (.val (.int i)) (.val (.int j))=some (.val (.bool (decide (i<=j)))):=Eq.trans rfl rfl
theorem a1C{i j:Int}(h: -18446744073709551616<i/\i<18446744073709551616):a0N (.val (.int i)) (.val (.int j))=some (.val (.int (i*j))):=(show _=a4T (.val (.int i)) (.val (.int j)) from rfl).trans (b3C h)
theorem b3E{i j:Int}(h: -18446744073709551616<j/\j<18446744073709551616):a0N (.val (.int i)) (.val (.int j))=some (.val (.int (i*j))):=(show _=a4T (.val (.int i)) (.val (.int j)) from rfl).trans (b3D h)
theorem b2a{m:M}{ρ:c7}{l:List Nat}(h:m ρ=some (.val (.str (S l)))):a45 m ρ=some (l.map fun c=> .str (S [c])):=by
 unfold a45
 rw [h,AE]
 show some ((S l).cps.toList.map _)=_
 rw [T8]
 rfl
def chK(g':e8->e8->Option e8)(mc:M)(ρ:c7)(y z:e8):Option e8:=(a5t z).bind fun b=>if b=true then(mc ρ).bind fun w=>g' y w else some (.val (.bool false))
theorem j5(g g':e8->e8->Option e8)(ma mb mc:M)(ρ:c7):Y0 g g' ma mb mc ρ=(ma ρ).bind fun x=>(mb ρ).bind fun y=>(g x y).bind (chK g' mc ρ y):=Eq.trans rfl rfl
theorem a0L(g':e8->e8->Option e8)(mc:M)(ρ:c7)(y:e8):chK g' mc ρ y (.val (.bool true))=(mc ρ).bind fun w=>g' y w:=Eq.trans rfl rfl
theorem a7L(g':e8->e8->Option e8)(mc:M)(ρ:c7)(y:e8):chK g' mc ρ y (.val (.bool false))=some (.val (.bool false)):=Eq.trans rfl rfl
abbrev row(l:List Nat):PV:= .str (S l)
theorem b3s(a b:List Nat):PyData.eqv (row a) (row b)=(a==b):=by
 show PyData.eqv (.str (S a)) (.str (S b))=_
 rw [show PyData.eqv (.str (S a)) (.str (S b))=(S a==S b) by simp only [PyData.eqv],b6Q]
theorem a7T(a:List Nat)(n:Nat):v5 (row a) n=true:=by cases n<;>rfl
theorem a7X{body:MS}{tg:PV->c7->Option c7}{I:Nat->c7->Prop}:∀{ps:List PV} {ρ:c7} (k:Nat),(∀(i:Nat) p,ps[i]?=some p->∀ρ,I (k+i) ρ->∃ρ1 ρ2,tg p ρ=some ρ1/\(body ρ1=some (.nx ρ2)\/body ρ1=some (.ct ρ2))/\I (k+i+1) ρ2)->I k ρ->∃ρ',O9 body tg ps ρ=some (.nx ρ')/\I (k+ps.length) ρ'
 |[],ρ,k,_,h=>⟨ρ,rfl,h⟩
 |p::ps,ρ,k,s,h=>by
  obtain⟨ρ1,ρ2,h1,h2,h3⟩:=s 0 p rfl ρ h
  obtain⟨ρ',h4,h5⟩:=a7X (ps:=ps) (ρ:=ρ2) (k+1) (fun i q hq ρ hi=>by
   have e:k+1+i=k+(i+1):=by lia
   rw [e] at hi ⊢
   exact s (i+1) q (by simpa using hq) ρ hi) h3
  refine⟨ρ', ?_,by rw [AS];have e:k+(ps.length+1)=k+1+ps.length:=by lia
                   rw [e];exact h5⟩
  unfold O9
  rw [h1]
  show(body ρ1).bind _=_
  rcases h2 with h2|h2<;>rw [h2]<;>exact h4
theorem a6e{body:MS}{tg:PV->c7->Option c7}(I:Nat->c7->Prop){ps:List PV}{ρ:c7}(s:∀(i:Nat) p,ps[i]?=some p->∀ρ,I i ρ->∃ρ1 ρ2,tg p ρ=some ρ1/\(body ρ1=some (.nx ρ2)\/body ρ1=some (.ct ρ2))/\I (i+1) ρ2)(h:I 0 ρ):∃ρ',O9 body tg ps ρ=some (.nx ρ')/\I ps.length ρ':=by
 obtain⟨ρ',a,b⟩:=a7X (I:=I) 0 (fun i p hp ρ hi=>by rw [Nat.zero_add] at hi ⊢;exact s i p hp ρ hi) h
 rw [Nat.zero_add] at b
 exact⟨ρ',a,b⟩
theorem a7w{body:MS}{tg:PV->c7->Option c7}{I:c7->Prop}{p:PV}{ρ ρ1 ρ2:c7}(h1:tg p ρ=some ρ1)(h2:body ρ1=some (.nx ρ2))(h3:I ρ2):∃ρ1 ρ2,tg p ρ=some ρ1/\(body ρ1=some (.nx ρ2)\/body ρ1=some (.ct ρ2))/\I ρ2:=⟨ρ1,ρ2,h1,.inl h2,h3⟩
theorem b4l{lo hi:Int}{i:Nat}{p:PV}(h:(a1S lo hi)[i]?=some p):p= .int (lo+i)/\lo+i<hi:=by
 have hi':=(Av.mp h).1
 rw [a5w] at hi'
 rw [a5v hi'] at h
 cases h
 exact⟨rfl,by lia⟩
theorem b0d(n:Nat):a1S 0 (n:Int)=(Ao n).map fun k=> .int (k:Nat):=by
 unfold a1S
 have e:((n:Int) - 0).toNat=n:=by lia
 rw [e]
 exact List.map_congr_left fun k _=>by simp
theorem b0Q(k:Nat)(it:MI)(tg:PV->c7->Option c7)(c:MT)(elt:M)(ρ:c7):a43 k it tg c elt ρ=(it ρ).bind fun ps=>if ps.length<=AQ then(a3Q c elt tg (ρ++Ab k none) ps).bind fun r=>some (.own r) else none:=Eq.trans rfl rfl
theorem a6b{α:Type}{ι f:α->PV}{elt:M}{tg:PV->c7->Option c7}{ρ:c7}:∀{xs:List α},(∀x∈xs,∃ρ1,tg (ι x) ρ=some ρ1/\(elt ρ1).bind e8.toVal=some (f x))->a3Q a6k elt tg ρ (xs.map ι)=some (xs.map f)
 |[],_=>rfl
 |x::xs,h=>by
  obtain⟨ρ1,h1,h2⟩:=h x Af
  rw [AL,AL]
  unfold a3Q
  rw [h1,AE]
  show((elt ρ1).bind e8.toVal).bind _=_
  rw [h2,AE,a6b fun y hy=>h y (Ae _ hy),AE]
theorem a3u{α:Type}{ι f:α->PV}{k:Nat}{it:MI}{elt:M}{tg:PV->c7->Option c7}{ρ:c7}(xs:List α)(h1:it ρ=some (xs.map ι))(h2:xs.length<=16777216)
 (h:∀x∈xs,∃ρ1,tg (ι x) (ρ++Ab k none)=some ρ1/\(elt ρ1).bind e8.toVal=some (f x)):a43 k it tg a6k elt ρ=some (.own (xs.map f)):=by
 rw [b0Q,h1,AE,if_pos (by rw [Ak,sizeLine_eq];exact h2),a6b h,AE]
theorem Q1(m:M)(ρ:c7):a2g m ρ=((m ρ).bind e8.toVal).bind PyData.items?:=Eq.trans rfl rfl
theorem f8(m:M)(lo hi:MO)(ρ:c7):C4 m lo hi ρ=(m ρ).bind fun r=>(lo ρ).bind fun l=>(hi ρ).bind fun h=>gSl r l h:=Eq.trans rfl rfl
theorem l4(m:M)(ρ:c7):w6 m ρ=(m ρ).bind a9U:=Eq.trans rfl rfl
theorem z6(ρ:c7):O3 ρ=some none:=Eq.trans rfl rfl
theorem u3(i:Int):a9U (.val (.int i))=some (some i):=Eq.trans rfl rfl
theorem a79{m:M}{ρ:c7}{r:e8}{ps:List PV}(h:m ρ=some r)(h2:PyData.items? r.rd=some ps):a2I m ρ=some ps:=by
 unfold a2I
 rw [h,AE,h2]
theorem a6j{m:M}{ρ:c7}{n:Nat}(h:m ρ=some (.val (.int n)))(hn:n<4611686018427387904):a2K (b0 m j1) ρ=some ((Ao n).map fun k=> .int (k:Nat)):=by
 have e:b0 m j1 ρ=some [.int n]:=by rw [c8,h];rfl
 rw [a6i,e,AE,b0c (j:=(n:Int)) ⟨by lia,by lia⟩,b0d]
theorem a2c{sep:List Nat}{rows:List (List Nat)}{y:e8}(h:PyData.items? y.rd=some (rows.map row))(hl:(rows.map (·.length)).sum+rows.length*sep.length<=16777216):N8 (.val (.str (S sep))) y=some (.val (row (G7 sep rows))):=by
 have e1:a0H (rows.map row)=some (rows.map S):=by
  have:rows.map row=(rows.map S).map PyData.str:=by rw [Ax];rfl
  rw [this,a5H]
 have e2:((rows.map S).map (·.length))=rows.map (·.length):=by rw [Ax];exact List.map_congr_left fun a _=>L8 a
 unfold N8
 simp only [h,e1,AE,e2,Ak,L8,if_pos hl,b12]
theorem S1{i:Nat}{m:M}{ρ:c7}{r:e8}{p:PV}{ps:List PV}(h1:m ρ=some r)(h2:r.toVal=some p)(h3:ρ[i]?=some (some (.own ps)))(h:ps.length<16777216):E9 i m ρ=some (.nx (ρ.set i (some (.own (ps++[p]))))):=by
 unfold E9
 rw [h1,AE,h2,AE,h3]
 simp only [sizeLine_eq,if_pos h]
theorem a4s(p:e8)(ρ:c7):a2J 0 (some p::ρ)=some (.rt p):=Eq.trans rfl rfl
theorem a4t(n:Nat)(r:Option e8)(ρ:c7):a2J (n+1) (r::ρ)=a2J n ρ:=Eq.trans rfl rfl
theorem b3F(a b:List Nat):gNe (.val (row a)) (.val (row b))=some (.val (.bool (!(a==b)))):=by
 rw [b1R (x:= .val (row a)) (y:= .val (row b)) ⟨a7T a 50,a7T b 50⟩,b2M,b2M,b3s]
def a4y(A:AJ)(s:AC)(u v:AA)(b:Bool):Prop:=∀(prog:AK) (w:AI) (E:AA->AC->Prop) (Q:AA->AC->Prop),Q (.bool b) s->AH (model prog w) A (richCompare .Lt u v) Q E s
section
open PySem.AutoSeq1 (wpAny_loadPart')
theorem a7z(l b:AB)(xs ys:Array AA)(n n2:Nat)(dd dd2:Option AB)(sl sl2:Array (Option AA))(e:Nat->Bool)(c:Bool):
 Meets (Builtin.«tuple.__lt__» ⟨[.ref l,.ref b],[]⟩)
  (fun A R s=>(s.heap.get? l=some {cls:= .type "tuple",dict:=dd,data:= .seq xs n,slots:=sl}/\s.heap.get? b=some {cls:= .type "tuple",dict:=dd2,data:= .seq ys n2,slots:=sl2})/\
   (∀j (h1:j<xs.size) (h2:j<ys.size),SeqAt.EqAt A.in1 s xs[j] ys[j] (e j))/\(∀j (h1:j<xs.size) (h2:j<ys.size),(∀k,k<j->e k=true)->e j=false->a4y A.in1 s xs[j] ys[j] c)/\
   ((∀k,k<min xs.size ys.size->e k=true)->c=decide (xs.size<ys.size))/\R (.ok (.ret (.bool c))) s):=
 .of_wp fun prog w A R s h=>by
  obtain⟨hp,g,d,tk,os⟩:=s
  obtain⟨⟨hl,hb⟩,he,hlt,hce,h⟩:=h
  have f2:=AutoSeq1.sub_tuple_tuple
  have hZ:(xs.toList.zip ys.toList).length=min xs.size ys.size:=by simp
  wp_walk using wpAny_loadPart' hl,wpAny_loadPart' hb,wpAny_forIn_list _ (fun u9 b s'=>b.1=none/\s'=⟨hp,g,d,tk,os⟩/\∃i,i<=min xs.size ys.size/\u9=(xs.toList.zip ys.toList).drop i/\∀k,k<i->e k=true) _
  case turn=>
   rintro⟨y,x⟩ u9 b s' ⟨hb',rfl,i,hi,hz,hR⟩
   have hlt':i<(xs.toList.zip ys.toList).length:=by
    rcases Nat.lt_or_ge i (xs.toList.zip ys.toList).length with h'|h'
    ·exact h'
    ·rw [List.drop_of_length_le h'] at hz;cases hz
   have hm:i<min xs.size ys.size:=by lia
   have h1:i<xs.size:=by lia
   have h2:i<ys.size:=by lia
   rw [List.drop_eq_getElem_cons hlt'] at hz
   injection hz with hyx hrest
   have hy:y=xs[i]:=by simpa using congrArg Prod.fst hyx
   have hx:x=ys[i]:=by simpa using congrArg Prod.snd hyx
   subst hy hx
   refine AG (he i h1 h2 prog w _ _ ?_)
   cases hq:e i with
   |true=>
    wp_walk
    exact⟨rfl,rfl,i+1,by lia,hrest,fun k hk=>by
     rcases Nat.lt_or_ge k i with h'|h'
     ·exact hR k h'
     ·rw [show k=i by lia];exact hq⟩
   |false=>
    have hl3:=hlt i h1 h2 hR hq
    show AH _ A.in1 (rule _>>=fun _=>richCompare .Lt xs[i] ys[i]>>=fun v=>ret v>>=fun q=>pure (ForInStep.done (some q,()))) _ _ _
    refine AG (wpAny_rule ?_)
    refine AG (hl3 prog w _ _ ?_)
    refine AG (AV ?_)
    refine AV ?_
    exact AV ⟨_,rfl,h⟩
  case fin=>
   rintro⟨b1,b2⟩ s' ⟨hb',rfl,i,hi,hz,hR⟩
   simp only at hb'
   subst hb'
   have hge:min xs.size ys.size<=i:=by
    rcases Nat.lt_or_ge i (xs.toList.zip ys.toList).length with h'|h'
    ·rw [List.drop_eq_getElem_cons h'] at hz;cases hz
    ·lia
   wp_walk
   refine⟨_,rfl, ?_⟩
   rw [hce fun k hk=>hR k (by lia)] at h
   exact h
  case h=>
   exact⟨rfl,rfl,0,by lia,rfl,fun k hk=>by lia⟩
variable {A:AJ}{s:AC}
theorem a4y.tuples{l b:AB}{xs ys:Array AA}{e:Nat->Bool}{c:Bool}(hl:s.heap.IsTuple l xs)(hb:s.heap.IsTuple b ys)(hu:A.units<cLine)
 (he:∀j (h1:j<xs.size) (h2:j<ys.size),SeqAt.EqAt A.in1 s xs[j] ys[j] (e j)) (hlt:∀j (h1:j<xs.size) (h2:j<ys.size),(∀k,k<j->e k=true)->e j=false->a4y A.in1 s xs[j] ys[j] c)
 (hce:(∀k,k<min xs.size ys.size->e k=true)->c=decide (xs.size<ys.size)):a4y A s (.ref l) (.ref b) c:=fun prog w E Q h=>by
 obtain⟨⟨c1,d1,t1,s1⟩,o1,e1,n1,k1⟩:=id hl
 obtain⟨⟨c2,d2,t2,s2⟩,o2,e2,n2,k2⟩:=id hb
 simp only at e1 k1 e2 k2
 subst e1 k1 e2 k2
 exact richCompare_meets_room (op:= .Lt) ⟨_,o1,rfl⟩ ⟨_,o2,rfl⟩ F.slot_tuple_lt F.entry_tuple_lt (F.args_tuple_lt_2 _ _) (a7z l b xs ys n1 n2 d1 d2 s1 s2 e c)
  ⟨⟨o1,o2⟩,he,hlt,hce,show Value.bool c≠Value.notImplemented/\Q (.bool c) s from⟨(fun x=>nomatch x),h⟩⟩ hu
theorem a4y.strs(a b:Str)(t u:Tok):a4y A s (.str a t) (.str b u) (decide (a.cps.toList<b.cps.toList)):=fun prog w E Q h=>lt_str h
end
section
variable {X:Cx}{pins:List (AB×Obj)}{σ:L2.St}{H:Hp}{s:AC}
end
section
variable {X:Cx}
end
section
variable {prog:AK}{w:AI}{A:AJ}{R:Result->AC->Prop}{I:AB}{fp wr:List AB}{n:Nat}{P:Nat->AA->Prop}{St:Nat->Heap->Prop}
end
section
variable {prog:AK}{w:AI}{A:AJ}{E:AA->AC->Prop}{s:AC}
end
section
variable {X:Cx}
end
end PU
namespace TS
open PySem PyProof.Rows
abbrev SM(α:Type):=StateT SortSt Sem α
def g(a:Array Keyed)(i:Nat):Keyed:=(a[i]?).getD (Value.none,Value.none)
theorem b1T{a:Array Keyed}{i:Nat}(h:i<a.size):a[i]?=some (g a i):=by
 unfold g;rw [getElem?_pos a i h];rfl
theorem b68{a:Array Keyed}{i:Nat}(h:i<a.size):g a i∈a.toList:=by
 have:=b1T h
 exact Array.mem_toList_iff.mpr (Array.mem_of_getElem? this)
theorem a88{a:Array Keyed}{i:Nat}(h:i<a.size):a.toList[i]?=some (g a i):=by
 rw [Array.getElem?_toList];exact b1T h
section
variable {prog:AK}{w:AI}{A:AJ}{E:AA->AC->Prop}{s:AC}
structure Cmp(prog:AK)(w:AI)(A:AJ)(E:AA->AC->Prop)(s:AC)(κ:SortKind)(S:Keyed->Prop)(R:Keyed->Keyed->Bool):Prop where
 lt:∀x y,S x->S y->∀(st:SortSt) (Q:Option Bool->SortSt->Prop),kindOf st=κ->Q (some (R x y)) st->wpS (model prog w) A E s (lt' x y) Q st
 tr:∀x y z,S x->S y->S z->R y x=false->R z y=false->R z x=false
 as:∀x y,S x->S y->R x y=true->R y x=false
variable {κ:SortKind}{S:Keyed->Prop}{R:Keyed->Keyed->Bool}
end
def Seg(R:Keyed->Keyed->Bool)(a:Array Keyed)(lo hi:Nat):Prop:=∀i j,lo<=i->i<=j->j<hi->R (g a j) (g a i)=false
def Fix(lo:Nat)(a b:Array Keyed):Prop:=∀i,i<lo->g b i=g a i
theorem Fix.refl{lo:Nat}{a:Array Keyed}:Fix lo a a:=fun _ _=>rfl
theorem Fix.trans{lo:Nat}{a b c:Array Keyed}(h:Fix lo a b)(k:Fix lo b c):Fix lo a c:=fun i hi=>(k i hi).trans (h i hi)
structure B(κ:SortKind)(a₀:Array Keyed)(st:SortSt):Prop where
 perm:(arrOf st).Perm a₀
 kind:kindOf st=κ
 failed:failedOf st=none
section
variable {prog:AK}{w:AI}{A:AJ}{E:AA->AC->Prop}{s:AC}
variable {κ:SortKind}{S:Keyed->Prop}{R:Keyed->Keyed->Bool}{a₀:Array Keyed}
theorem B.size{st:SortSt}(h:B κ a₀ st):(arrOf st).size=a₀.size:=h.perm.size_eq
theorem B.set{st:SortSt}(h:B κ a₀ st){xs:Array Keyed}(hp:xs.Perm (arrOf st)):B κ a₀ (setArr st xs):=⟨hp.trans h.perm,h.kind,h.failed⟩
theorem B.sg{st:SortSt}(h:B κ a₀ st)(hS:∀p∈a₀.toList,S p){i:Nat}(hi:i<a₀.size):S (g (arrOf st) i):=
 hS _ ((Array.perm_iff_toList_perm.mp h.perm).mem_iff.mp (b68 (by rw [h.size];exact hi)))
def up(lo a nrem:Nat):SM (Option (Option Nat)×Nat):=
 forIn [a:nrem] ((none,a):Option (Option Nat)×Nat) fun _ c=>do
  let t<-ltAt' (lo+c.2) (lo+c.2 - 1)
  match t with
  |some b=>if b=true then pure (.done (none,c.2)) else pure (.yield (none,c.2+1))
  |_=>pure (.done (some none,c.2))
def dn(lo n nrem:Nat):SM (Option (Option Nat)×Nat×Nat):=
 forIn [n:nrem] ((none,n,0):Option (Option Nat)×Nat×Nat) fun _ c=>do
  let t<-ltAt' (lo+c.2.1) (lo+c.2.1 - 1)
  match t with
  |some b=>
   if b=true then
    if c.2.2>0 then do
     reverseSlice' (lo+c.2.1 - (c.2.2+1)) (lo+c.2.1)
     pure (.yield (none,c.2.1+1,0))
    else pure (.yield (none,c.2.1+1,0))
   else do
    let t<-ltAt' (lo+c.2.1 - 1) (lo+c.2.1)
    match t with
    |some b=>if b=true then pure (.done (none,c.2.1,c.2.2)) else pure (.yield (none,c.2.1+1,c.2.2+1))
    |_=>pure (.done (some none,c.2.1,c.2.2))
  |_=>pure (.done (some none,c.2.1,c.2.2))
end
def le(R:Keyed->Keyed->Bool)(x y:Keyed):Prop:=R y x=false
def Mg(R:Keyed->Keyed->Bool)(W out la lb:List Keyed):Prop:=(out++la).Pairwise (le R)/\(out++lb).Pairwise (le R)/\(out++(la++lb)).Perm W
section
variable {R:Keyed->Keyed->Bool}{W out la lb xs:List Keyed}
theorem Mg.takeA(h:Mg R W out (xs++la) lb)(k:∀x∈xs,∀y∈lb,le R x y):Mg R W (out++xs) la lb:=by
 obtain⟨h1,h2,h3⟩:=h
 have e1:=List.pairwise_append.mp (show((out++xs)++la).Pairwise (le R) by rw [List.append_assoc];exact h1)
 have e2:=List.pairwise_append.mp h2
 refine⟨by rw [List.append_assoc];exact h1,List.pairwise_append.mpr ⟨e1.1,e2.2.1,fun x hx y hy=> ?_⟩,by rw [List.append_assoc,<-List.append_assoc xs];exact h3⟩
 rcases Am.mp hx with hx|hx
 ·exact e2.2.2 x hx y hy
 ·exact k x hx y hy
theorem Mg.swap(h:Mg R W out la lb):Mg R W out lb la:=⟨h.2.1,h.1,(List.Perm.append_left out List.perm_append_comm).trans h.2.2⟩
theorem Mg.takeB(h:Mg R W out la (xs++lb))(k:∀x∈xs,∀y∈la,le R x y):Mg R W (out++xs) la lb:=(h.swap.takeA k).swap
def a5Q(R:Keyed->Keyed->Bool)(W r:List Keyed):Prop:=r.Pairwise (le R)/\r.Perm W
theorem Mg.doneB(h:Mg R W out la []):a5Q R W (out++la):=⟨h.1,by have:=h.2.2;rwa [Ag] at this⟩
theorem Mg.doneA(h:Mg R W out [] lb):a5Q R W (out++lb):=⟨h.2.1,h.2.2⟩
theorem Mg.last{x:Keyed}(h:Mg R W out [x] lb)(k:∀y∈lb,le R y x):a5Q R W ((out++lb)++[x]):=by
 obtain⟨h1,h2,h3⟩:=h
 have e1:=List.pairwise_append.mp h1
 refine⟨List.pairwise_append.mpr ⟨h2,e1.2.1,fun y hy z hz=> ?_⟩, ?_⟩
 ·cases List.mem_singleton.mp hz
  rcases Am.mp hy with hy|hy
  ·exact e1.2.2 y hy x (List.mem_singleton.mpr rfl)
  ·exact k y hy
 ·rw [List.append_assoc]
  exact(List.Perm.append_left out List.perm_append_comm).trans h3
end
theorem a1z{a:Array Keyed}{i:Nat}(h:i<a.size):a.toList.drop i=g a i::a.toList.drop (i+1):=by
 have h':i<a.toList.length:=h
 rw [List.drop_eq_getElem_cons h']
 congr 1
 have:=a88 h
 rw [Az h'] at this
 exact Option.some.inj this
theorem a47{a:Array Keyed}{i:Nat}{x:Keyed}(h:x∈a.toList.drop i):∃j,i<=j/\j<a.size/\x=g a j:=by
 obtain⟨k,hk,e⟩:=List.mem_iff_getElem.mp h
 have hk':i+k<a.size:=by rw [List.length_drop] at hk;have:a.toList.length=a.size:=rfl;lia
 refine⟨i+k,by lia,hk', ?_⟩
 have e2:=a88 hk'
 rw [List.getElem_drop] at e
 rw [Az (show i+k<a.toList.length from hk')] at e2
 exact e.symm.trans (Option.some.inj e2)
theorem a09{a:Array Keyed}{i k:Nat}{x:Keyed}(h:x∈(a.toList.drop i).take k)(hk:i+k<=a.size):∃j,j<k/\x=g a (i+j):=by
 obtain⟨q,hq,e⟩:=List.mem_iff_getElem.mp h
 rw [List.length_take,List.length_drop] at hq
 rw [List.getElem_take,List.getElem_drop] at e
 refine⟨q,by lia, ?_⟩
 have hk':i+q<a.size:=by lia
 have e2:=a88 hk'
 rw [Az (show i+q<a.toList.length from hk')] at e2
 exact e.symm.trans (Option.some.inj e2)
theorem N7(a:Array Keyed)(i j:Nat):(a.extract i j).toList=(a.toList.drop i).take (j - i):=by
 rw [Array.toList_extract,List.extract_eq_take_drop]
theorem a4o{a:Array Keyed}{i:Nat}:(a.extract i a.size).toList=a.toList.drop i:=by
 rw [N7,List.take_of_length_le]
 rw [List.length_drop];exact AW _
section
variable {prog:AK}{w:AI}{A:AJ}{E:AA->AC->Prop}{s:AC}
variable {κ:SortKind}{S:Keyed->Prop}{R:Keyed->Keyed->Bool}
structure Sm(st st':SortSt):Prop where
 k:kindOf st'=kindOf st
 a:arrOf st'=arrOf st
 p:pendingOf st'=pendingOf st
 f:failedOf st'=failedOf st
theorem Sm.refl{st:SortSt}:Sm st st:=⟨rfl,rfl,rfl,rfl⟩
def rs(a b o:Array Keyed)(i j:Nat):Array Keyed:=o++a.extract i a.size++b.extract j b.size
def D(R:Keyed->Keyed->Bool)(a b o:Array Keyed)(i j:Nat):Prop:=Mg R (a.toList++b.toList) o.toList (a.toList.drop i) (b.toList.drop j)
structure Two(S:Keyed->Prop)(R:Keyed->Keyed->Bool)(a b:Array Keyed):Prop where
 Sa:∀i,i<a.size->S (g a i)
 Sb:∀i,i<b.size->S (g b i)
 sa:Seg R a 0 a.size
 sb:Seg R b 0 b.size
 pa:0<a.size
 pb:0<b.size
 lo:∀i,i<a.size->le R (g b 0) (g a i)
 hi:∀j,j<b.size->le R (g b j) (g a (a.size - 1))
theorem D.takeAk(C:Cmp prog w A E s κ S R){a b o:Array Keyed}{i j k:Nat}(T:Two S R a b)(h:D R a b o i j)(hk:i+k<=a.size)(hj:j<b.size)(q:∀l,l<k->le R (g a (i+l)) (g b j)):
 D R a b (o++a.extract i (i+k)) (i+k) j:=by
 unfold D at h ⊢
 rw [Array.toList_append,N7,show i+k - i=k by lia]
 refine Mg.takeA (by rw [<-List.drop_drop,List.take_append_drop];exact h) fun x hx y hy=> ?_
 obtain⟨l,hl,rfl⟩:=a09 hx hk
 obtain⟨m,hm,hm2,rfl⟩:=a47 hy
 exact C.tr _ (g b j) _ (T.Sa _ (by lia)) (T.Sb _ hj) (T.Sb _ hm2) (q l hl) (T.sb j m (by lia) hm hm2)
theorem D.takeBk(C:Cmp prog w A E s κ S R){a b o:Array Keyed}{i j k:Nat}(T:Two S R a b)(h:D R a b o i j)(hk:j+k<=b.size)(hi:i<a.size)(q:∀l,l<k->le R (g b (j+l)) (g a i)):
 D R a b (o++b.extract j (j+k)) i (j+k):=by
 unfold D at h ⊢
 rw [Array.toList_append,N7,show j+k - j=k by lia]
 refine Mg.takeB (by rw [<-List.drop_drop,List.take_append_drop];exact h) fun x hx y hy=> ?_
 obtain⟨l,hl,rfl⟩:=a09 hx hk
 obtain⟨m,hm,hm2,rfl⟩:=a47 hy
 exact C.tr _ (g a i) _ (T.Sb _ (by lia)) (T.Sa _ hi) (T.Sa _ hm2) (q l hl) (T.sa i m (by lia) hm hm2)
theorem a5q{o a:Array Keyed}{i:Nat}(h:i<a.size):o.push (g a i)=o++a.extract i (i+1):=by
 apply Array.toList_inj.mp
 rw [Array.toList_push,Array.toList_append,N7,a1z h,show i+1 - i=1 by lia]
 rfl
theorem D.takeA(C:Cmp prog w A E s κ S R){a b o:Array Keyed}{i j:Nat}(T:Two S R a b)(h:D R a b o i j)(hi:i<a.size)(hj:j<b.size)(q:le R (g a i) (g b j)):D R a b (o.push (g a i)) (i+1) j:=by
 rw [a5q hi]
 exact h.takeAk C T (by lia) hj fun l hl=>by rw [show i+l=i by lia];exact q
theorem D.takeB(C:Cmp prog w A E s κ S R){a b o:Array Keyed}{i j:Nat}(T:Two S R a b)(h:D R a b o i j)(hi:i<a.size)(hj:j<b.size)(q:le R (g b j) (g a i)):D R a b (o.push (g b j)) i (j+1):=by
 rw [a5q hj]
 exact h.takeBk C T (by lia) hi fun l hl=>by rw [show j+l=j by lia];exact q
theorem D.done{a b o:Array Keyed}{i j:Nat}(h:D R a b o i j)(e:i=a.size\/j=b.size):a5Q R (a.toList++b.toList) (rs a b o i j).toList:=by
 unfold rs
 rw [Array.toList_append,Array.toList_append,a4o,a4o]
 unfold D at h
 have nil:∀c:Array Keyed,c.toList.drop c.size=[]:=fun c=>List.drop_eq_nil_of_le (AW _)
 rcases e with rfl|rfl
 ·rw [nil] at h ⊢;rw [Ag];exact h.doneA
 ·rw [nil] at h ⊢;rw [Ag];exact h.doneB
theorem D.last{a b o:Array Keyed}{i j:Nat}(T:Two S R a b)(h:D R a b o i j)(e:i+1=a.size):a5Q R (a.toList++b.toList) (rs b a o j i).toList:=by
 unfold rs
 rw [Array.toList_append,Array.toList_append,a4o,a4o]
 unfold D at h
 have e1:a.toList.drop i=[g a (a.size - 1)]:=by
  rw [a1z (by lia),e,show i=a.size - 1 by lia]
  congr 1
  exact List.drop_eq_nil_of_le (AW _)
 rw [e1] at h ⊢
 exact h.last fun y hy=>by
  obtain⟨m,hm,hm2,rfl⟩:=a47 hy
  exact T.hi m hm2
section
variable {a b o:Array Keyed}{st st':SortSt}{i j mg u v x₀ x:Nat}
end
section
variable {a b:Array Keyed}{st st':SortSt}{x₀ x mg:Nat}
end
end
def Mh(R:Keyed->Keyed->Bool)(W out la lb:List Keyed):Prop:=(la++out).Pairwise (le R)/\(lb++out).Pairwise (le R)/\((la++lb)++out).Perm W
section
variable {R:Keyed->Keyed->Bool}{W out la lb xs:List Keyed}
theorem Mh.swap(h:Mh R W out la lb):Mh R W out lb la:=⟨h.2.1,h.1,(List.Perm.append_right out List.perm_append_comm).trans h.2.2⟩
theorem Mh.takeA(h:Mh R W out (la++xs) lb)(k:∀x∈xs,∀y∈lb,le R y x):Mh R W (xs++out) la lb:=by
 obtain⟨h1,h2,h3⟩:=h
 have e1:=List.pairwise_append.mp (show(la++(xs++out)).Pairwise (le R) by rw [<-List.append_assoc];exact h1)
 have e2:=List.pairwise_append.mp h2
 refine⟨by rw [<-List.append_assoc];exact h1,List.pairwise_append.mpr ⟨e2.1,e1.2.1,fun y hy x hx=> ?_⟩, ?_⟩
 ·rcases Am.mp hx with hx|hx
  ·exact k x hx y hy
  ·exact e2.2.2 y hy x hx
 ·refine List.Perm.trans ?_ h3
  rw [<-List.append_assoc]
  refine List.Perm.append_right out ?_
  rw [List.append_assoc,List.append_assoc]
  exact List.Perm.append_left la List.perm_append_comm
theorem Mh.takeB(h:Mh R W out la (lb++xs))(k:∀x∈xs,∀y∈la,le R y x):Mh R W (xs++out) la lb:=(h.swap.takeA k).swap
theorem Mh.doneB(h:Mh R W out la []):a5Q R W (la++out):=⟨h.1,by have:=h.2.2;rwa [Ag] at this⟩
theorem Mh.doneA(h:Mh R W out [] lb):a5Q R W (lb++out):=⟨h.2.1,h.2.2⟩
theorem Mh.first{x:Keyed}(h:Mh R W out la [x])(k:∀y∈la,le R x y):a5Q R W ([x]++(la++out)):=by
 obtain⟨h1,h2,h3⟩:=h
 have e2:=List.pairwise_append.mp h2
 refine⟨List.pairwise_append.mpr ⟨e2.1,h1,fun y hy z hz=> ?_⟩, ?_⟩
 ·cases List.mem_singleton.mp hy
  rcases Am.mp hz with hz|hz
  ·exact k z hz
  ·exact e2.2.2 x (List.mem_singleton.mpr rfl) z hz
 ·rw [<-List.append_assoc]
  exact(List.Perm.append_right out List.perm_append_comm).trans h3
end
theorem a48{a:Array Keyed}{n:Nat}{x:Keyed}(hn:n<=a.size)(h:x∈a.toList.take n):∃j,j<n/\x=g a j:=by
 obtain⟨j,hj,e⟩:=a09 (i:=0) (k:=n) (a:=a) (x:=x) (by rwa [List.drop_zero]) (by lia)
 exact⟨j,hj,by rwa [Nat.zero_add] at e⟩
theorem a5I{a:Array Keyed}{m n:Nat}(h:m<=n):a.toList.take n=a.toList.take m++(a.extract m n).toList:=by
 rw [N7,<-List.take_add,show m+(n - m)=n by lia]
theorem a2B(a:Array Keyed)(n:Nat):(a.extract 0 n).toList=a.toList.take n:=by
 rw [N7,List.drop_zero,Nat.sub_zero]
section
variable {prog:AK}{w:AI}{A:AJ}{E:AA->AC->Prop}{s:AC}
variable {κ:SortKind}{S:Keyed->Prop}{R:Keyed->Keyed->Bool}
def rh(a b o:Array Keyed)(i j:Nat):Array Keyed:=a.extract 0 i++b.extract 0 j++o.reverse
def H(R:Keyed->Keyed->Bool)(a b o:Array Keyed)(i j:Nat):Prop:=Mh R (a.toList++b.toList) o.toList.reverse (a.toList.take i) (b.toList.take j)
theorem H.takeAk(C:Cmp prog w A E s κ S R){a b o:Array Keyed}{i j m:Nat}(T:Two S R a b)(h:H R a b o i j)(hi:i<=a.size)(hm:m<=i)(hj:j<=b.size)(h0:0<j)(q:∀l,m<=l->l<i->le R (g b (j - 1)) (g a l)):
 H R a b (o++(a.extract m i).reverse) m j:=by
 unfold H at h ⊢
 rw [a5I hm] at h
 rw [Array.toList_append,Array.toList_reverse,List.reverse_append,List.reverse_reverse]
 refine Mh.takeA h fun x hx y hy=> ?_
 rw [N7] at hx
 obtain⟨l,hl,rfl⟩:=a09 hx (by lia)
 obtain⟨k,hk,rfl⟩:=a48 hj hy
 exact C.tr _ (g b (j - 1)) _ (T.Sb _ (by lia)) (T.Sb _ (by lia)) (T.Sa _ (by lia)) (T.sb k (j - 1) (by lia) (by lia) (by lia)) (q _ (by lia) (by lia))
theorem H.takeBk(C:Cmp prog w A E s κ S R){a b o:Array Keyed}{i j m:Nat}(T:Two S R a b)(h:H R a b o i j)(hj:j<=b.size)(hm:m<=j)(hi:i<=a.size)(h0:0<i)(q:∀l,m<=l->l<j->le R (g a (i - 1)) (g b l)):
 H R a b (o++(b.extract m j).reverse) i m:=by
 unfold H at h ⊢
 rw [a5I hm] at h
 rw [Array.toList_append,Array.toList_reverse,List.reverse_append,List.reverse_reverse]
 refine Mh.takeB h fun x hx y hy=> ?_
 rw [N7] at hx
 obtain⟨l,hl,rfl⟩:=a09 hx (by lia)
 obtain⟨k,hk,rfl⟩:=a48 hi hy
 exact C.tr _ (g a (i - 1)) _ (T.Sa _ (by lia)) (T.Sa _ (by lia)) (T.Sb _ (by lia)) (T.sa k (i - 1) (by lia) (by lia) (by lia)) (q _ (by lia) (by lia))
theorem a8o{o a:Array Keyed}{i:Nat}(h:i<a.size):o.push (g a i)=o++(a.extract i (i+1)).reverse:=by
 rw [a5q h]
 congr 1
 apply Array.toList_inj.mp
 rw [Array.toList_reverse,N7,a1z h,show i+1 - i=1 by lia]
 rfl
theorem H.takeA(C:Cmp prog w A E s κ S R){a b o:Array Keyed}{i j:Nat}(T:Two S R a b)(h:H R a b o i j)(hi:i<=a.size)(hi0:0<i)(hj:j<=b.size)(h0:0<j)(q:le R (g b (j - 1)) (g a (i - 1))):H R a b (o.push (g a (i - 1))) (i - 1) j:=by
 rw [a8o (by lia),show i - 1+1=i by lia]
 exact h.takeAk C T hi (by lia) hj h0 fun l h1 h2=>by rw [show l=i - 1 by lia];exact q
theorem H.takeB(C:Cmp prog w A E s κ S R){a b o:Array Keyed}{i j:Nat}(T:Two S R a b)(h:H R a b o i j)(hj:j<=b.size)(hj0:0<j)(hi:i<=a.size)(h0:0<i)(q:le R (g a (i - 1)) (g b (j - 1))):H R a b (o.push (g b (j - 1))) i (j - 1):=by
 rw [a8o (by lia),show j - 1+1=j by lia]
 exact h.takeBk C T hj (by lia) hi h0 fun l h1 h2=>by rw [show l=j - 1 by lia];exact q
theorem H.done{a b o:Array Keyed}{i j:Nat}(h:H R a b o i j)(e:i=0\/j=0):a5Q R (a.toList++b.toList) (rh a b o i j).toList:=by
 unfold rh
 rw [Array.toList_append,Array.toList_append,a2B,a2B,Array.toList_reverse]
 unfold H at h
 rcases e with rfl|rfl
 ·rw [List.take_zero] at h ⊢;exact h.doneA
 ·rw [List.take_zero] at h ⊢;rw [Ag];exact h.doneB
theorem H.first{a b o:Array Keyed}{i j:Nat}(T:Two S R a b)(h:H R a b o i j)(hi:i<=a.size)(e:j=1):a5Q R (a.toList++b.toList) (rh b a o j i).toList:=by
 unfold rh
 rw [Array.toList_append,Array.toList_append,a2B,a2B,Array.toList_reverse]
 unfold H at h
 subst e
 have e1:b.toList.take 1=[g b 0]:=by
  have:=a1z (a:=b) T.pb
  rw [List.drop_zero] at this
  rw [this];rfl
 rw [e1] at h ⊢
 rw [List.append_assoc]
 exact h.first fun y hy=>by
  obtain⟨m,hm,rfl⟩:=a48 hi hy
  exact T.lo m (by lia)
section
variable {a b o:Array Keyed}{st st':SortSt}{i j mg u v x₀ x:Nat}
end
section
variable {a b:Array Keyed}{st st':SortSt}{x₀ x mg:Nat}
end
end
def sp(r:Array Keyed)(d:Nat)(a:Array Keyed):Array Keyed:=r.toList.zipIdx.foldl (fun a (p,j)=>a.setIfInBounds (d+j) p) a
section
variable {prog:AK}{w:AI}{A:AJ}{E:AA->AC->Prop}{s:AC}
variable {κ:SortKind}{S:Keyed->Prop}{R:Keyed->Keyed->Bool}{a₀:Array Keyed}
end
def Cov(R:Keyed->Keyed->Bool)(a:Array Keyed):List (Nat×Nat×Nat)->Nat->Nat->Prop
 |[],f,t=>f=t
 |(p,n,_)::r,f,t=>p=f/\1<=n/\Seg R a p (p+n)/\Cov R a r (p+n) t
section
variable {R:Keyed->Keyed->Bool}{a b:Array Keyed}
theorem Cov.le:∀{l:List (Nat×Nat×Nat)} {f t:Nat},Cov R a l f t->f+l.length<=t
 |[],f,t,h=>by have:f=t:=h;rw [Ai];lia
 |(p,n,e)::r,f,t,h=>by
  obtain⟨h1,h2,_,h4⟩:=h
  have:=h4.le
  rw [AS];lia
theorem Cov.same:∀{l:List (Nat×Nat×Nat)} {f t:Nat},Cov R a l f t->(∀j,f<=j->j<t->g b j=g a j)->Cov R b l f t
 |[],f,t,h,_=>h
 |(p,n,e)::r,f,t,h,k=>by
  obtain⟨h1,h2,h3,h4⟩:=h
  have:=h4.le
  refine⟨h1,h2,fun i j hi hij hj=> ?_,h4.same fun j h5 h6=>k j (by lia) h6⟩
  rw [k i (by lia) (by lia),k j (by lia) (by lia)]
  exact h3 i j hi hij hj
theorem Cov.split:∀{l m:List (Nat×Nat×Nat)} {f t:Nat},Cov R a (l++m) f t->∃u,Cov R a l f u/\Cov R a m u t
 |[],m,f,t,h=>⟨f,rfl,h⟩
 |(p,n,e)::r,m,f,t,h=>by
  obtain⟨h1,h2,h3,h4⟩:=h
  obtain⟨u,h5,h6⟩:=h4.split
  exact⟨u,⟨h1,h2,h3,h5⟩,h6⟩
theorem Cov.join:∀{l m:List (Nat×Nat×Nat)} {f u t:Nat},Cov R a l f u->Cov R a m u t->Cov R a (l++m) f t
 |[],m,f,u,t,h,k=>by have:f=u:=h;subst this;exact k
 |(p,n,e)::r,m,f,u,t,h,k=>⟨h.1,h.2.1,h.2.2.1,h.2.2.2.join k⟩
end
section
variable {prog:AK}{w:AI}{A:AJ}{E:AA->AC->Prop}{s:AC}
variable {κ:SortKind}{S:Keyed->Prop}{R:Keyed->Keyed->Bool}{a₀:Array Keyed}
end
open PySem PySem.Spec PyProof.Rows
section
variable {prog:AK}{w:AI}{A:AJ}{E:AA->AC->Prop}{s:AC}
variable {κ:SortKind}{S:Keyed->Prop}{R:Keyed->Keyed->Bool}
end
open PySem PySem.Spec PyProof.Rows L2 PU
section
variable {prog:AK}{w:AI}{A:AJ}{E:AA->AC->Prop}{s:AC}
variable {κ:SortKind}{S:Keyed->Prop}{R:Keyed->Keyed->Bool}
end
end TS
namespace PU
open PySem PySem.Spec PyProof.Rows L2
section
variable {α:Type}{lt:α->α->Bool}
end
open PySem PySem.Spec PyProof.Rows L2 PySem.W
theorem a9c:∀{a b:u7},kV a=kV b->a=b
 | .inl _,.inl _,h=>by cases h;rfl
 | .inr _,.inr _,h=>by cases h;rfl
 | .inl _,.inr _,h=>nomatch h
 | .inr _,.inl _,h=>nomatch h
theorem a4r:∀{a b:List u7},a.map kV=b.map kV->a=b
 |[],[],_=>rfl
 |[],_::_,h=>nomatch h
 |_::_,[],h=>nomatch h
 |x::a,y::b,h=>by
  rw [AL,AL] at h
  obtain⟨h1,h2⟩:=List.cons.inj h
  rw [a9c h1,a4r h2]
def b0q(h:Heap)(u:AA)(k:List u7):Prop:=∃(a:AB) (o:Obj) (xs:Array AA) (n:Nat),u= .ref a/\h.get? a=some o/\o.cls= .type "tuple"/\o.data= .seq xs n/\m7 (k.map kV) xs.toList
theorem b0q.inj{h:Heap}{u:AA}{k j:List u7}(a:b0q h u k)(b:b0q h u j):k=j:=by
 obtain⟨a1,o1,x1,n1,rfl,g1,_,d1,v1⟩:=a
 obtain⟨a2,o2,x2,n2,e2,g2,_,d2,v2⟩:=b
 cases e2
 rw [g1] at g2;cases g2
 rw [d1] at d2;cases d2
 exact a4r (v1.inj v2)
theorem b0q.keep{h h':Heap}{u:AA}{k:List u7}(a:b0q h u k)(kp:∀b o,h.get? b=some o->h'.get? b=some o):b0q h' u k:=
 let ⟨a1,o1,x1,n1,e,g1,c,d1,v1⟩:=a;⟨a1,o1,x1,n1,e,kp _ _ g1,c,d1,v1⟩
section
variable {prog:AK}{w:AI}{A:AJ}{E:AA->AC->Prop}{s:AC}
end
section
variable {prog:AK}{w:AI}{A:AJ}{E:AA->AC->Prop}{s:AC}
end
section
variable {X:Cx}{pins:List (AB×Obj)}{σ:L2.St}{F H:Hp}{s:AC}
end
section
variable {X:Cx}
end
section
variable {X:Cx}
end
section
variable {X:Cx}
end
def a7I(h:Heap)(d:AB)(es:Array DictEntry)(ep:Nat):Prop:=∃o,h.get? d=some o/\o.ExactDict/\o.data= .dict es ep
section
variable {prog:AK}{w:AI}{A:AJ}{E:AA->AC->Prop}{s:AC}{it d:AB}{i ep:Nat}{es:Array DictEntry}
theorem a7I.type(h:a7I s.heap d es ep):s.TypeIs (.ref d) "dict":=let ⟨o,ho,hc,_⟩:=h;⟨o,ho,hc.1⟩
theorem a7I.at{h h':Heap}(x:a7I h d es ep)(e:∀o,h.get? d=some o->h'.get? d=some o):a7I h' d es ep:=let ⟨o,ho,r⟩:=x;⟨o,e _ ho,r⟩
end
end PU
namespace TS
open PySem PySem.Spec PyProof.Rows L2 PU
section
variable {prog:AK}{w:AI}{A:AJ}{E:AA->AC->Prop}{s:AC}
variable {κ:SortKind}{S:Keyed->Prop}{R:Keyed->Keyed->Bool}
end
end TS
namespace PU
open PySem PySem.Spec PyProof.Rows L2 PySem.W
section
variable {prog:AK}{w:AI}{A:AJ}{E:AA->AC->Prop}{s:AC}
end
section
variable {X:Cx}
end
open PySem PySem.Spec PyProof.Rows L2
section
variable {X:Cx}{pins:List (AB×Obj)}{σ:L2.St}{H:Hp}{s:AC}{a b:AB}{kvs:List (List u7×V)}{k:List u7}{v:V}{r:AA}{A:AJ}{E:AA->AC->Prop}
end
section
variable {X:Cx}
end
mutual
def nl:PV->Bool
 | .list _=>false
 | .tuple ps=>nlL ps
 | .dict ((.tuple _,_)::_)=>false
 | .dict ((.str _,.bool false)::_)=>false
 | .dict ((.str _,.int _)::_)=>false
 |_=>true
def nlL:List PV->Bool
 |[]=>true
 |p::ps=>nl p && nlL ps
end
section
variable {K:AD}{F:Hp}{a:AB}{xs:List V}
end
section
variable {X:Cx}
end
section
variable {X:Cx}
end
section
variable {X:Cx}
end
section
variable {X:Cx}{tg:AF}
end
section
variable {prog:AK}{w:AI}{A:AJ}{E:AA->AC->Prop}{s:AC}
end
theorem b4y{K:AD}{H:Hp}{a D:AB}{xs:List V}{kvs kvs':List (List u7×V)}(e:H D=some (.dT kvs))(h:SqT K H a xs):SqT K (upd H D (.dT kvs')) a xs:=by
 rcases h with(h|⟨o,h⟩)|h
 ·exact .inl (.inl (by rw [j0 (a8c h e (fun z=>nomatch z))];exact h))
 ·exact .inl (.inr ⟨o,by rw [j0 (a8c h e (fun z=>nomatch z))];exact h⟩)
 ·exact .inr h
def b5j(K:AD)(H:Hp)(p:List u7×V)(x:V):Prop:=∃a b,x= .ref a/\SqT K H a [.ref b,p.2]/\H b=some (.tup (p.1.map kV))
theorem b5j.upd{K:AD}{H:Hp}{D:AB}{kvs kvs':List (List u7×V)}(e:H D=some (.dT kvs)){p:List u7×V}{x:V}(h:b5j K H p x):b5j K (upd H D (.dT kvs')) p x:=
 let ⟨a,b,h1,h2,h3⟩:=h
 ⟨a,b,h1,b4y e h2,by rw [j0 (a8c h3 e (fun z=>nomatch z))];exact h3⟩
section
variable {X:Cx}{pins:List (AB×Obj)}{σ:L2.St}{A:AJ}{R:Result->AC->Prop}
end
section
variable {X:Cx}
end
section
variable {X:Cx}
end
section
variable {X:Cx}
end
open Builtin Builtin.Str
section
variable {prog:AK}{w:AI}{A:AJ}{E:AA->AC->Prop}{s:AC}{x y:Str}{t u:Tok}{Q:AA->AC->Prop}
theorem a8V(hy:(y.length==0)=false)
 (hq:∀l k,l.map (·.1)=Txt.split x y->Q (.ref s.heap.objs.size) {s with heap:=s.heap.push {cls:= .type "list",data:= .seq (strValues l).toArray},toks:=k})
 (hsz:x.length<=AQ) (hsz2:(Txt.split x y).length<=AQ):
 AH (model prog w) A (call (.builtin "str.split") [.str x t,.str y u]) Q E s:=by
 cases h1:(decide (x.length<y.length)||decide (strKind x<strKind y))
 ·cases hf:(occurrences x y 0 x.length (x.length+1)).isEmpty
  ·have e:Txt.split x y=partsBetween x (occurrences x y 0 x.length (x.length+1)) y.length:=(if_neg (ne_true_of_eq_false h1)).trans (if_neg (ne_true_of_eq_false hf))
   refine call_meets F.slot_str_split (typeIs_str _ _ _) F.entry_str_split (F.args_str_split_2 _ _) (meets_str_split_sep x y t u h1 hy hf hsz (by rw [<-e];exact hsz2)) ?_
   show wants Q E _ {s with toks:=_,heap:=s.heap.push {cls:= .type "list",data:= .seq (strsFrom s.toks (partsBetween x (occurrences x y 0 x.length (x.length+1)) y.length)).toArray}}
   rw [strsFrom_eq]
   exact hq (numbered s.toks _) _ ((numbered_texts _ _).trans e.symm)
  ·exact call_meets F.slot_str_split (typeIs_str _ _ _) F.entry_str_split (F.args_str_split_2 _ _) (meets_str_split_not_found x y t u h1 hy hf)
    (hq [(x,t)] s.toks ((if_neg (ne_true_of_eq_false h1)).trans (if_pos hf)).symm)
 ·exact call_meets F.slot_str_split (typeIs_str _ _ _) F.entry_str_split (F.args_str_split_2 _ _) (meets_str_split_cannot_occur x y t u h1)
   (hq [(x,t)] s.toks (if_pos h1).symm)
end
def a3n(x y:e8):Option e8:=match x,y with
 | .val (.str z),.val (.str y)=>if(y.length==0)=false/\z.length<=AQ/\(Txt.split z y).length<=AQ then some (.own ((Txt.split z y).map .str)) else none
 |_,_=>none
theorem a6E:∀(l:List (Str×Tok)),m7 ((l.map (·.1)).map V.str) (strValues l)
 |[]=> .nil
 |p::l=> .cons ⟨p.2,rfl⟩ (a6E l)
section
variable {X:Cx}
theorem b2d:MtR X "str.split" (fun x xs H Q=>∃F y rx ry rz,xs=[y]/\l7 F H/\J8 X.K F H x rx/\J8 X.K F H y ry/\a3n rx ry=some rz/\∀v F' H',v4 X.K F H F' H' v rz->Q v H'):=by
 intro pins s σ H x xs v us Q I rx rv h
 obtain⟨F,y,ra,rb,rz,rfl,s0,h1,h2,h3,k⟩:=h
 obtain⟨u,rfl,ru⟩:=a5L rv
 unfold a3n at h3
 split at h3
 ·rename_i z y
  split at h3
  ·rename_i c
   cases h3
   cases h1
   cases h2
   obtain⟨t,rfl⟩:=rx
   obtain⟨t2,rfl⟩:=ru
   refine a8V c.1 (fun l k' hl=> ?_) c.2.1 c.2.2
   have hf:=I.hok.fresh (AW s.heap.objs.size)
   refine⟨.ref s.heap.objs.size,_,I.laid (t':=k') (o:= .lst ((Txt.split z y).map V.str)) (fun b ob q=>Al _ q) (AW _) ⟨by rw [Ak];exact c.2.2,strValues l,0, ?_,Aw _ rfl⟩,rfl,k _ F _ (v4.lst s0 hf (a6x _))⟩
   rw [<-hl]
   exact a6E l
  ·cases h3
 ·cases h3
theorem b1G{o e:AF}{m n:M}{apos cpos:Pos}(ho:EE X o m)(ha:EE X e n)
 (hbase:attributeBase o "split" X.env (eval o X.env)=eval o X.env:=by rfl)
 (hfew:((backTo cpos (AM [e] X.env)).all (fun x=> !x.1)&&(backToKw cpos (keywordEach [] X.env)).all (fun x=>x.1.isSome)
  && decide ([e].length+([]:List Keyword).length+(if([]:List Keyword).isEmpty then 0 else 1)<30))=true:=by rfl)
 (hline:(apos.endLine==cpos.line)=true:=by rfl) (hs:AM [e] X.env=(false,eval e X.env)::AM [] X.env:=by rfl) (hplain:(backTo cpos (AM [] X.env)).any (·.1)=false:=by rfl):
 EE X (.Call (.Attribute o "split" apos) [e] [] cpos) (m2 a3n m n):=
 B5 (a6t PySem.F.plainAttrs_str PySem.F.slot_str_split PySem.F.type_str_split b2d ho (B9 ha T3 hs) hbase hfew hline hs hplain) fun σ H Q ⟨F,ρ,r,he,hm,k⟩=>by
  obtain⟨rx,e1,hm⟩:=bind_some hm
  obtain⟨ry,e2,hm⟩:=bind_some hm
  refine⟨F,ρ,rx,he,e1,fun v F1 H1 o1=>⟨?_,⟨F1,ρ,ry,he.ext o1.x,e2,fun u F2 H2 o2=>⟨F2,u,rx,ry,r,rfl,o2.x.fh,o1.rep.ext o2.x,o2.rep,hm,fun z F3 H3 o3=>k z F3 H3 (v4.trans (o1.x.trans o2.x) o3)⟩⟩⟩⟩
  unfold a3n at hm
  split at hm
  ·cases o1.rep;rfl
  ·cases hm
def a5U(x:e8):Option e8:=match x with
 | .val (.int i)=>if i.natAbs.log2<1920 then some (.val (.str (AN (toString i)))) else none
 |_=>none
theorem a4I:L5 X (.type "str") (rC1 X.K a5U):=by
 intro pins s σ H xs us Q I rv h
 obtain⟨F,x,rx,rz,rfl,s0,h1,h2,k⟩:=h
 obtain⟨u,rfl,ru⟩:=a5L rv
 unfold a5U at h2
 split at h2
 ·rename_i i
  split at h2
  ·rename_i c
   cases h2
   cases h1
   obtain⟨t,rfl⟩:=ru
   exact PySem.P.str_of_int c ⟨.str _,H,I.tok _,⟨_,rfl⟩,k _ F H (v4.here s0 rfl)⟩
  ·cases h2
 ·cases h2
def a3S(x:e8):Option e8:=match x with
 | .val (.str z)=>if z.length<=640 then(PySem.intText? z).map fun n=> .val (.int n) else none
 |_=>none
theorem a4j:L5 X (.type "int") (rC1 X.K a3S):=by
 intro pins s σ H xs us Q I rv h
 obtain⟨F,x,rx,rz,rfl,s0,h1,h2,k⟩:=h
 obtain⟨u,rfl,ru⟩:=a5L rv
 unfold a3S at h2
 split at h2
 ·rename_i z
  split at h2
  ·rename_i c
   cases hn:PySem.intText? z with
   |none=>rw [hn] at h2;cases h2
   |some n=>
    rw [hn] at h2
    cases h2
    cases h1
    obtain⟨t,rfl⟩:=ru
    exact PySem.W.KIN.call_text hn c ⟨.int n,H,I.tok _,⟨_,rfl⟩,k _ F H (v4.here s0 rfl)⟩
  ·cases h2
 ·cases h2
end
structure Chg(fs ex:List AB)(h h':Heap):Prop where
 keep:∀b o,h.get? b=some o->b∉fs->b∉ex->h'.get? b=some o
 slot:∀b o,h.get? b=some o->b∈fs->b∉ex->∃sl,h'.get? b=some {o with slots:=sl}
 size:h.objs.size<=h'.objs.size
structure ExT(h:Heap)(e C T:AB)(fl:AA)(dd:Option AB):Prop where
 obj:∃oe vs,h.get? e=some oe/\oe.cls= .ref C/\oe.data= .fields vs/\vs[1]?=some (.ref T)/\oe.dict=dd
 ne:T≠e
 tb:∃oT ts,h.get? T=some oT/\oT.data= .fields ts/\ts[3]?=some fl
def Ex0(h:Heap)(e C:AB)(dd:Option AB):Prop:=∃oe vs,h.get? e=some oe/\oe.cls= .ref C/\oe.data= .fields vs/\vs[1]?=some .none/\oe.dict=dd
theorem b0D(f:Array AA->Array AA)(o:Obj):(Obj.mapFields f o).dict=o.dict:=by
 obtain⟨c,d,dt,sl⟩:=o
 cases dt<;>rfl
section
variable {M:Model}{A:AJ}{E:AA->AC->Prop}{s:AC}{base:Heap}{env:Env}{outer:List Env}{L e C:AB}{dd:Option AB}
theorem a6n{oe:Obj}{vs:Array AA}{head:AA}{hadNext:Bool}{Q:Unit->AC->Prop}(hfr:A.frames=some (env::outer))(hl:s.heap.FunFrames base (env::outer))(hf:env.frame=some L)
 (he:s.heap.get? e=some oe) (hc:oe.cls= .ref C) (hd:oe.data= .fields vs) (hdn:oe.dict=dd) (hsz:1<vs.size)
 (k:∀T h',s.heap.objs.size<=T->ExT h' e C T (rawInt L) dd->Chg ((env::outer).filterMap (·.frame)) [e] s.heap h'->Q () {s with heap:=h'}):
 AH M A (do let a<-frameOf env;let pl<-entryPlaceOf L hadNext;let b<-EntryCells.newEntry head a .none (rawInt L) .none pl;setField (.ref e) 1 b) Q E s:=by
 have hef:e∉(env::outer).filterMap (·.frame):=fun hm=>by
  obtain⟨_,o,ho,hnf⟩:=hl.mem hm
  rw [he] at ho
  cases ho
  exact hnf vs hd
 refine AG (wpAny_frameOf_fun hfr hl hf fun h₁ hs₁=> ?_)
 refine AG (wpAny_entryPlaceOf fun pl hpl=> ?_)
 unfold EntryCells.newEntry newFields
 refine AG (wpAny_newObj_type ?_ (hpl.sizeOk5 _ _ _ _ _))
 generalize hT:({cls:= .type "traceback",dict:=none,data:= .fields ([head,.ref L,.none,rawInt L,.none]++(if pl.isEmpty then Ab 6 Value.none else pl)).toArray}:Obj)=oT
 have he₁:h₁.get? e=some oe:=(hs₁.2.1 e hef).trans he
 have he₂:=Al (h:=h₁) oT he₁
 have hTe:h₁.objs.size≠e:=Nat.ne_of_gt (Ac he₁)
 have hd₃:=Obj.data_mapFields hd (·.setIfInBounds 1 (Value.ref h₁.objs.size))
 have he₃:=Heap.get?_update_self (Obj.mapFields (·.setIfInBounds 1 (Value.ref h₁.objs.size))) he₂ (Obj.isFreed_of_fields hd₃)
 have oth:∀b o,b≠e->h₁.get? b=some o->((h₁.push oT).update e (Obj.mapFields (·.setIfInBounds 1 (Value.ref h₁.objs.size)))).get? b=some o:=fun b o hb hbo=>by
  rw [Heap.get?_update_other _ _ (Ne.symm hb)]
  exact Al _ hbo
 have hT3:((h₁.push oT).update e (Obj.mapFields (·.setIfInBounds 1 (Value.ref h₁.objs.size)))).get? h₁.objs.size=some oT:=by
  rw [Heap.get?_update_other _ _ (Ne.symm hTe)]
  exact Aw h₁ (by rw [<-hT];rfl)
 refine wpAny_setField he₂ hd hsz (k h₁.objs.size _ (Nat.le_of_eq hs₁.1.symm) ⟨⟨_,_,he₃,(Obj.cls_mapFields _ _).trans hc,hd₃,by simp [hsz],(b0D _ _).trans hdn⟩,hTe,oT,_,hT3,by rw [<-hT], ?_⟩ ⟨fun b o hb hbf hbe=> ?_,fun b o hb hbf hbe=> ?_, ?_⟩)
 ·rcases hpl with rfl|⟨_,_,_,_,_,_,_,rfl⟩<;>simp
 ·exact oth b o (fun z=>hbe (by rw [z];exact List.mem_singleton.mpr rfl)) ((hs₁.2.1 b hbf).trans hb)
 ·obtain⟨sl,hs⟩:=hs₁.2.2 b o hb
  exact⟨sl,oth b _ (fun z=>hbe (by rw [z];exact List.mem_singleton.mpr rfl)) hs⟩
 ·rw [Heap.size_update,Heap.size_push,hs₁.1];lia
theorem a9h{Q:Unit->AC->Prop}(hfr:A.frames=some (env::outer))(hl:s.heap.FunFrames base (env::outer))(hf:env.frame=some L)(x:Ex0 s.heap e C dd)
 (k:∀T h',s.heap.objs.size<=T->ExT h' e C T (rawInt L) dd->Chg ((env::outer).filterMap (·.frame)) [e] s.heap h'->Q () {s with heap:=h'}):AH M A (noteFrame (.ref e) env) Q E s:=by
 obtain⟨oe,vs,he,hc,hd,h1,hdn⟩:=x
 unfold noteFrame
 simp only [hf]
 refine AG (wpAny_field he hd h1 ?_)
 rw [if_neg (by decide)]
 exact a6n hfr hl hf he hc hd hdn (Array.getElem?_eq_some_iff.mp h1).1 k
theorem a4O{fl:AA}{T:AB}{Q:Unit->AC->Prop}(x:ExT s.heap e C T fl dd)(fr:Option AB)(k:∀h',ExT h' e C T (fr.elim .none fun f=>rawInt f) dd->Chg [] [T] s.heap h'->h'.objs.size=s.heap.objs.size->Q () {s with heap:=h'}):AH M A (setFlight (.ref e) fr) Q E s:=by
 obtain⟨⟨oe,vs,he,hc,hd,h1,hdn⟩,hne,oT,ts,hT,hdT,h3⟩:=x
 have hsz:=(Array.getElem?_eq_some_iff.mp h3).1
 unfold setFlight
 refine AG (wpAny_field he hd h1 ?_)
 rw [if_pos (show(Value.ref T !=Value.none)=true from by simp)]
 refine wpAny_setField hT hdT hsz (k _ ⟨⟨oe,vs, ?_,hc,hd,h1,hdn⟩,hne,_,_,Heap.get?_update_self _ hT (Obj.isFreed_of_fields (Obj.data_mapFields hdT _)),Obj.data_mapFields hdT _,by simp [hsz]⟩ ⟨fun b o hb _ hbe=> ?_,(fun b o _ hb=>nomatch hb), ?_⟩ ?_)
 ·rw [Heap.get?_update_other _ _ hne];exact he
 ·rw [Heap.get?_update_other _ _ (fun z=>hbe (by rw [<-z];exact List.mem_singleton.mpr rfl))];exact hb
 ·rw [Heap.size_update];exact AW _
 ·rw [Heap.size_update]
theorem Chg.trans{fs ex ex':List AB}{h h1 h2:Heap}(x:Chg fs ex h h1)(y:Chg fs ex' h1 h2):Chg fs (ex++ex') h h2 where
 keep:=fun b o e hf hx=>y.keep b o (x.keep b o e hf fun z=>hx (Ay _ z)) hf fun z=>hx (Au _ z)
 slot:=fun b o e hf hx=>by
  obtain⟨sl,e1⟩:=x.slot b o e hf fun z=>hx (Ay _ z)
  obtain⟨sl2,e2⟩:=y.slot b {o with slots:=sl} e1 hf fun z=>hx (Au _ z)
  exact⟨sl2,e2⟩
 size:=Nat.le_trans x.size y.size
theorem Chg.more{fs fs' ex ex':List AB}{h h':Heap}(x:Chg fs ex h h')(hf:∀b∈fs,b∈fs')(he:∀b∈ex,b∈ex'):Chg fs' ex' h h' where
 keep:=fun b o e h1 h2=>x.keep b o e (fun z=>h1 (hf b z)) fun z=>h2 (he b z)
 slot:=fun b o e h1 h2=>by
  by_cases hb:b∈fs
  ·exact x.slot b o e hb fun z=>h2 (he b z)
  ·exact⟨o.slots,x.keep b o e hb fun z=>h2 (he b z)⟩
 size:=x.size
theorem Chg.funs{fs ex:List AB}{h h':Heap}{l:List Env}(x:Chg fs ex h h')(hl:h.FunFrames base l)(hx:∀b∈ex,∀o,h.get? b=some o->∃vs,o.data= .fields vs):h'.FunFrames base l:=
 hl.of_keeps fun b o hb hnf=>by
  have hbx:b∉ex:=fun z=>by
   obtain⟨vs,hd⟩:=hx b z o hb
   exact hnf vs hd
  by_cases hbf:b∈fs
  ·obtain⟨sl,e⟩:=x.slot b o hb hbf hbx
   exact⟨_,e,rfl⟩
  ·exact⟨o,x.keep b o hb hbf hbx,rfl⟩
theorem a6s{fl:AA}{T:AB}{Q:Unit->AC->Prop}(hfr:A.frames=some (env::outer))(hl:s.heap.FunFrames base (env::outer))(hf:env.frame=some L)(x:ExT s.heap e C T fl dd)(hne:fl≠rawInt L)
 (k:∀T' h',s.heap.objs.size<=T'->ExT h' e C T' (rawInt L) dd->Chg ((env::outer).filterMap (·.frame)) [T,e] s.heap h'->Q () {s with heap:=h'}):AH M A (noteFrame (.ref e) env) Q E s:=by
 obtain⟨⟨oe,vs,he,hc,hd,h1,hdn⟩,hTe,oT,ts,hT,hdT,h3⟩:=x
 have hsz:=(Array.getElem?_eq_some_iff.mp h3).1
 unfold noteFrame
 simp only [hf]
 refine AG (wpAny_field he hd h1 ?_)
 rw [if_pos (show(Value.ref T !=Value.none)=true from by simp)]
 refine AG (wpAny_field hT hdT h3 ?_)
 rw [if_neg (by simpa using hne)]
 refine AG (wpAny_setField hT hdT hsz ?_)
 have c1:Chg ((env::outer).filterMap (·.frame)) [T] s.heap (s.heap.update T (Obj.mapFields (·.setIfInBounds 3 Value.none))):=⟨fun b o hb _ hbe=>by
  rw [Heap.get?_update_other _ _ (fun z=>hbe (by rw [<-z];exact List.mem_singleton.mpr rfl))];exact hb,fun b o hb _ hbe=>⟨o.slots,by
  rw [Heap.get?_update_other _ _ (fun z=>hbe (by rw [<-z];exact List.mem_singleton.mpr rfl))];exact hb⟩,by rw [Heap.size_update];exact AW _⟩
 have hl':=c1.funs hl fun b hb o ho=>by
  rw [List.mem_singleton.mp hb,hT] at ho
  cases ho
  exact⟨ts,hdT⟩
 refine a6n (s:={s with heap:=s.heap.update T (Obj.mapFields (·.setIfInBounds 3 Value.none))}) hfr hl' hf (by rw [Heap.get?_update_other _ _ hTe];exact he) hc hd hdn (Array.getElem?_eq_some_iff.mp h1).1 fun T' h' hT' x' c'=>k T' h' ?_ x' (c1.trans c')
 have:(s.heap.update T (Obj.mapFields (·.setIfInBounds 3 Value.none))).objs.size=s.heap.objs.size:=Heap.size_update ..
 rw [<-this];exact hT'
end
def CX1(P:AK)(w:AI):CXT:=fun outer H s E e s'=>∃a C T dd H',e= .ref a/\s'.os=s.os/\AllBare s'.gens/\Un (frs outer) [] H H' s.heap s'.heap/\HOk P w H' s'.heap/\
 s.heap.get? a=none/\s.heap.get? T=none/\H' a=none/\H' T=none/\ExT s'.heap a C T .none dd/\E (.ref C) dd H'
theorem ExT.thereT{h:Heap}{e C T:AB}{fl:AA}{dd:Option AB}(x:ExT h e C T fl dd):∃o,h.get? T=some o:=let ⟨o,_,h1,_⟩:=x.tb;⟨o,h1⟩
theorem a60{P:AK}{w:AI}{H:Hp}{h h':Heap}{fs ex:List AB}(x:HOk P w H h)(c:Chg fs ex h h')(hf:∀b∈fs,H b=none)(he:∀b∈ex,H b=none):HOk P w H h':=fun a o e=>
 (x a o e).stay (fun b u hb q=>by
  have hn:∃z,H b=some z:=by
   rcases hb with rfl|hb
   ·exact⟨_,e⟩
   ·exact⟨_,hb⟩
  obtain⟨z,hz⟩:=hn
  exact c.keep b u q (fun m=>by rw [hf b m] at hz;cases hz) fun m=>by rw [he b m] at hz;cases hz) (fun _ q=>q) fun _ _ q=>q
theorem b22{fs ex fs':List AB}{H H1:Hp}{h h1 h2:Heap}(u:Un fs [] H H1 h h1)(c:Chg fs' ex h1 h2)(hfs:∀b∈fs',b∈fs\/h.objs.size<=b)(hex:∀b∈ex,h.get? b=none):Un fs [] H H1 h h2 where
 keep:=fun b o e hn hf hx=>by
  have hlt:b<h.objs.size:=Ac e
  refine c.keep b o (u.keep b o e hn hf hx) (fun m=> ?_) fun m=>by rw [hex b m] at e;cases e
  rcases hfs b m with h|h
  ·exact hf h
  ·exact Nat.lt_irrefl _ (Ar hlt h)
 slot:=fun b o e hn hf hx=>by
  have hlt:b<h.objs.size:=Ac e
  obtain⟨sl,e1⟩:=u.slot b o e hn hf hx
  by_cases hb:b∈fs'
  ·obtain⟨sl2,e2⟩:=c.slot b {o with slots:=sl} e1 hb fun m=>by rw [hex b m] at e;cases e
   exact⟨sl2,e2⟩
  ·exact⟨sl,c.keep b _ e1 hb fun m=>by rw [hex b m] at e;cases e⟩
 free:=u.free
 there:=fun b o e hx=>by
  obtain⟨o1,e1⟩:=u.there b o e hx
  by_cases hb:b∈ex
  ·rw [hex b hb] at e;cases e
  ·by_cases hb2:b∈fs'
   ·obtain⟨sl,e2⟩:=c.slot b o1 e1 hb2 hb
    exact⟨_,e2⟩
   ·exact⟨_,c.keep b o1 e1 hb2 hb⟩
 tups:=u.tups
 frzs:=u.frzs
 tbls:=u.tbls
section
variable {P:AK}{w:AI}{K:AD}{mg:Str->Option AA}{base:Heap}{N:List Str}{qual:Str}{scope:Scope}{f:AB}{cd:AA}{A:AJ}{outer:List Env}{s:AC}{H:Hp}{E:XK}
theorem a3T{pins:List (AB×Obj)}{σ:L2.St}{H2:Hp}{s2:AC}{a C:AB}{dd:Option AB}(I:j7 (a19 (CX1 P w) P w K mg base N qual scope f cd A outer s H E) pins σ H2 s2)(x:Ex0 s2.heap a C dd)(ha:s.heap.get? a=none)(hn:H2 a=none)(hE:E (.ref C) dd H2):
 (a19 (CX1 P w) P w K mg base N qual scope f cd A outer s H E).xe (.ref a) s2:=by
 show AH (model P w) _ (leaving (envOfC qual scope s.heap.objs.size f cd) (.ref a)) _ _ s2
 unfold leaving
 have hfree:∀b∈(envOfC qual scope s.heap.objs.size f cd::outer).filterMap (·.frame),H2 b=none:=I.stkFree
 refine AG (a9h I.ok.frames I.stack rfl x fun T h1 hT x1 c1=> ?_)
 refine a4O x1 none fun h2 x2 c2 _=> ?_
 have hTn:H2 T=none:=I.hok.fresh hT
 have c:Chg ((envOfC qual scope s.heap.objs.size f cd::outer).filterMap (·.frame)) ([a]++[T]) s2.heap h2:=c1.trans (c2.more (fun b hb=>nomatch hb) fun b hb=>hb)
 have hsz:s.heap.objs.size<=s2.heap.objs.size:=I.sz
 have hex:∀b∈[a]++[T],s.heap.get? b=none:=fun b hb=>by
  rcases Am.mp hb with h|h<;>rw [List.mem_singleton.mp h]
  ·exact ha
  ·exact Heap.get?_none_of_le (Nat.le_trans hsz hT)
 refine⟨a,C,T,dd,H2,rfl,I.os,I.bare,b22 I.base c (fun b hb=> ?_) hex,a60 I.hok c hfree fun b hb=> ?_,ha,Heap.get?_none_of_le (Nat.le_trans hsz hT),hn,hTn,x2,hE⟩
 ·rcases Ad.mp (I.stkSub b hb) with h|h
  ·exact .inr (by rw [h];exact I.ok.above)
  ·exact .inl h
 ·rcases Am.mp hb with h|h<;>rw [List.mem_singleton.mp h]
  ·exact hn
  ·exact hTn
theorem a9e:a6H (CX1 P w) (a19 (CX1 P w) P w K mg base N qual scope f cd A outer s H E) E:=by
 intro pins σ H1 s1 e s' I h
 obtain⟨a,C,T,dd,H2,rfl,ho,hb,un,hok,ha,hT,hn,hTn,x,hE⟩:=h
 have J:j7 (a19 (CX1 P w) P w K mg base N qual scope f cd A outer s H E) pins σ H2 s':=I.call' (ch:=[]) ho un hok hb fun b z=>nomatch z
 show AH (model P w) _ (leaving (envOfC qual scope s.heap.objs.size f cd) (.ref a)) _ _ s'
 unfold leaving
 have hfree:∀b∈(envOfC qual scope s.heap.objs.size f cd::outer).filterMap (·.frame),H2 b=none:=J.stkFree
 refine AG (a6s J.ok.frames J.stack rfl x (by simp [rawInt]) fun T' h1 hT' x1 c1=> ?_)
 refine a4O x1 none fun h2 x2 c2 _=> ?_
 have hTn':H2 T'=none:=J.hok.fresh hT'
 have c:Chg ((envOfC qual scope s.heap.objs.size f cd::outer).filterMap (·.frame)) ([T,a]++[T']) s'.heap h2:=c1.trans (c2.more (fun b hb=>nomatch hb) fun b hb=>hb)
 have hsz:s.heap.objs.size<=s'.heap.objs.size:=J.sz
 have back:∀b,s1.heap.get? b=none->s.heap.get? b=none:=fun b hb=>by
  cases h:s.heap.get? b with
  |none=>rfl
  |some o=>
   obtain⟨o',e⟩:=I.base.there b o h (fun z=>nomatch z)
   rw [hb] at e;cases e
 have mem:∀b∈[T,a]++[T'],b=T\/b=a\/b=T':=fun b hb=>by simpa using hb
 obtain⟨oT,hoT⟩:=x.thereT
 refine⟨a,C,T',dd,H2,rfl,J.os,J.bare,b22 J.base c (fun b hb=> ?_) (fun b hb=> ?_),a60 J.hok c hfree fun b hb=> ?_,back a ha,Heap.get?_none_of_le (Nat.le_trans hsz hT'),hn,hTn',x2,hE⟩
 ·rcases Ad.mp (J.stkSub b hb) with h|h
  ·exact .inr (by rw [h];exact J.ok.above)
  ·exact .inl h
 ·rcases mem b hb with rfl|rfl|rfl
  ·exact back _ hT
  ·exact back _ ha
  ·exact Heap.get?_none_of_le (Nat.le_trans hsz hT')
 ·rcases mem b hb with rfl|rfl|rfl
  ·exact hTn
  ·exact hn
  ·exact hTn'
end
theorem a8N{P:AK}{w:AI}{H:Hp}{h:Heap}{a:AB}:∀{o:HO},M7 P w H h a o->∃ob,h.get? a=some ob
 | .lst _,⟨_,_,_,_,e⟩=>⟨_,e⟩
 | .tup _,⟨_,_,_,o,e,_⟩=>⟨_,e⟩
 | .dK _,⟨_,_,_,_,o,_,_,e,_⟩=>⟨_,e⟩
 | .dT _,⟨_,_,_,_,o,_,_,e,_⟩=>⟨_,e⟩
 | .set _ _,⟨o,_,_,_,e,_⟩=>⟨_,e⟩
 | .ins _ _ _,⟨_,_,_,e,_⟩=>⟨_,e⟩
 | .own _,⟨_,e⟩=>⟨_,e⟩
 | .xd _,⟨_,⟨_,_,_,e,_⟩,_⟩=>⟨_,e⟩
 | .rng _ _,⟨_,_,_,e⟩=>⟨_,e⟩
 | .frz _ _,⟨e,_⟩=>⟨_,e⟩
 | .tbl _,e=>⟨_,e⟩
 | .met _ _,e=>⟨_,e⟩
 | .ext _,⟨_,e,_⟩=>e
def a7a:List AA:=[.type "ValueError",.type "Exception",.type "BaseException",.type "object"]
def b0s(C:AB)(h:Heap):Prop:=∃tl N nm q bs hdct sn sub ab col dd k0 k1 k2 k3 k5,
 h.get? C=some (excClassObj nm q C N bs tl hdct sn sub ab col dd k0 k1 k2 k3 k5 "ValueError.__new__")/\OwnTail h a7a tl
def b1o(C:AB)(h:Heap):Prop:=∃tl N nm q bs hdct sn sub ab col dd k0 k1 k2 k3 k5 mN,
 h.get? C=some (excClassObj nm q C N bs tl hdct sn sub ab col dd k0 k1 k2 k3 k5 "ValueError.__new__")/\h.Ns N mN/\mN "__init__"=none/\OwnTail h a7a tl
theorem b1o.base{C:AB}{h:Heap}(x:b1o C h):b0s C h:=let ⟨tl,N,nm,q,bs,hdct,sn,sub,ab,col,dd,k0,k1,k2,k3,k5,_,h1,_,_,T⟩:=x;⟨tl,N,nm,q,bs,hdct,sn,sub,ab,col,dd,k0,k1,k2,k3,k5,h1,T⟩
section
variable {X:Cx}{x:Str}{C:AB}{np cpos pos:Pos}{e₀:AF}{u9:List AF}{t:TA}{W:Hp->Prop}
theorem b2A(hc:X.calm=true)(hx0:X.ex=[])(hg:Gl X x)(hm:X.mg x=some (.ref C))(hX:b1o C X.base)(ha:PA X (e₀::u9) t)
 (hxe:∀(pins:List (AB×Obj)) (σ:L2.St) (H:Hp) (s:AC) (a:AB),j7 X pins σ H s->Ex0 s.heap a C none->X.s₀.heap.get? a=none->H a=none->W H->X.xe (.ref a) s)
 (he:AM (e₀::u9) X.env=(false,eval e₀ X.env)::AM u9 X.env:=by rfl) (hplain:(backTo cpos (AM u9 X.env)).any (·.1)=false:=by rfl) (hdb:(x==("__debug__":Str))=false:=by decide):
 PS X (.Raise (some (.Call (.Name x np) (e₀::u9) [] cpos)) none pos) (fun _ σ H=>t σ H fun vs H1=>vs.length<=AQ/\W H1):=by
 intro pins s σ H D I h
 obtain⟨tl,N,nm,q,bs,hdct,sn,sub,ab,col,dd,k0,k1,k2,k3,k5,mN,hC,hN,hni,T⟩:=hX
 have FB:=F.excBase_ValueError
 refine wpAny_Raise_call_subT (C:=C) (nm:=nm) (q:=q) (N:=N) (bs:=bs) (bm:=tl) (hdct:=hdct) (sn:=sn) (sub:=sub) (ab:=ab) (col:=col) (dd:=dd) (k0:=k0) (k1:=k1) (k2:=k2) (k3:=k3) (k5:=k5)
  FB (mN:=mN) (T.hasType FB.hasBase) (I.ok.hd hc) (by rw [he];show(false||(backTo cpos (AM u9 X.env)).any (·.1))=false;rw [hplain];rfl) hni (a1D I hg hm ⟨rfl, ?_⟩ hdb)
 have hA:=ha cpos pins s σ H _ I h
 rw [he] at hA ⊢
 refine Calls.evalArgs_plain (L4 hA fun us s2 ⟨vs,H2,I2,r2,hl,q2⟩=>⟨rfl,by rw [<-r2.length];exact hl,I2.bk _ _ hC,hN.keeps I2.bk,T.keeps I2.bk,fun h' a hmk=> ?_⟩)
 obtain⟨tt,h1,_,_⟩:=hmk.there
 have hn:H2 a=none:=by
  cases h:H2 a with
  |none=>rfl
  |some o=>
   obtain⟨ob,e⟩:=a8N (I2.hok a o h)
   rw [hmk.new] at e;cases e
 have h0:X.s₀.heap.get? a=none:=by
  cases h:X.s₀.heap.get? a with
  |none=>rfl
  |some o=>
   obtain⟨o',e⟩:=I2.base.there a o h (fun z=>by rw [hx0] at z;cases z)
   rw [hmk.new] at e;cases e
 have I3:j7 X pins σ H2 {s2 with heap:=h'}:=I2.kept (t':=s2.toks) hmk.keeps
 exact hxe pins σ H2 {s2 with heap:=h'} a I3 ⟨_,_,h1,rfl,rfl,rfl,rfl⟩ h0 hn q2
end
section
variable {prog:AK}{w:AI}{A:AJ}{E:AA->AC->Prop}{h:Heap}{g:Array GenState}{d:Drawn}{t:Nat}{os:OsState}
variable {nm q:Str}{C N:AB}{bs bm bmB:List AA}{hdct:Bool}{sn:List Str}{sub:List AA}{ab:Bool}{col:Option Bool}{dd:Option AB}{k0 k1 k2 k3 k5:Option AA}{B newId initId:String}
end
section
variable {prog:AK}{w:AI}{A:AJ}{E:AA->AC->Prop}{s:AC}{env:Env}
variable {nm q:Str}{C N:AB}{bs bm bmB:List AA}{hdct:Bool}{sn:List Str}{sub:List AA}{ab:Bool}{col:Option Bool}{dd:Option AB}{k0 k1 k2 k3 k5:Option AA}{B newId initId:String}
end
open PySem PySem.Spec PyProof.Rows L2 PySem.W Builtin Builtin.ObjectAttr
def b2s:List AA->Bool
 | .ref _::r=>b2s r
 |l=>l==a7a
def b5C(K:Frag)(C:AB):Bool:=(clsIn K C).any fun cd=>b2s cd.mro && cd.hasDict
section
variable {prog:AK}{w:AI}{A:AJ}{E:AA->AC->Prop}{s:AC}{K:Frag}{x C:AB}
end
theorem b4G{fs ex0 ex fs':List AB}{H H1:Hp}{h h1 h2:Heap}(u:Un fs ex0 H H1 h h1)(c:Chg fs' ex h1 h2)(hfs:∀b∈fs',b∈fs\/h.objs.size<=b)(hex:∀b∈ex,h.get? b=none):Un fs ex0 H H1 h h2 where
 keep:=fun b o e hn hf hx=>by
  have hlt:b<h.objs.size:=Ac e
  refine c.keep b o (u.keep b o e hn hf hx) (fun m=> ?_) fun m=>by rw [hex b m] at e;cases e
  rcases hfs b m with h|h
  ·exact hf h
  ·exact Nat.lt_irrefl _ (Ar hlt h)
 slot:=fun b o e hn hf hx=>by
  obtain⟨sl,e1⟩:=u.slot b o e hn hf hx
  by_cases hb:b∈fs'
  ·obtain⟨sl2,e2⟩:=c.slot b {o with slots:=sl} e1 hb fun m=>by rw [hex b m] at e;cases e
   exact⟨sl2,e2⟩
  ·exact⟨sl,c.keep b _ e1 hb fun m=>by rw [hex b m] at e;cases e⟩
 free:=u.free
 there:=fun b o e hx=>by
  obtain⟨o1,e1⟩:=u.there b o e hx
  by_cases hb:b∈ex
  ·rw [hex b hb] at e;cases e
  ·by_cases hb2:b∈fs'
   ·obtain⟨sl,e2⟩:=c.slot b o1 e1 hb2 hb
    exact⟨_,e2⟩
   ·exact⟨_,c.keep b o1 e1 hb2 hb⟩
 tups:=u.tups
 frzs:=u.frzs
 tbls:=u.tbls
theorem Chg.any{fs ex:List AB}{h h':Heap}(c:Chg fs ex h h'){b:AB}{o:Obj}(e:h.get? b=some o)(hb:b∉ex):∃sl,h'.get? b=some {o with slots:=sl}:=by
 by_cases hf:b∈fs
 ·exact c.slot b o e hf hb
 ·exact⟨o.slots,c.keep b o e hf hb⟩
section
variable {X:Cx}{pins:List (AB×Obj)}{σ:L2.St}{H:Hp}{s:AC}
theorem j7.chg{h':Heap}{ex:List AB}(I:j7 X pins σ H s)(c:Chg (frs X.stack) ex s.heap h')(h0:∀b∈ex,X.s₀.heap.get? b=none)(hn:∀b∈ex,H b=none)
 (hL:∀b∈ex,b≠X.env.locals) (hc:∀b∈ex,∀x z,X.env.cells.lookup x=some z->z≠b) (hp:∀b∈ex,∀p∈X.pn++pins,p.1≠b):j7 X pins σ H {s with heap:=h'} where
 ok:=I.ok
 os:=I.os
 bare:=I.bare
 base:=b4G I.base c (fun b hb=>by
  rcases Ad.mp (I.stkSub b hb) with h|h
  ·exact .inr (by rw [h];exact I.ok.above)
  ·exact .inl h) h0
 loc:=by
  obtain⟨m,⟨o,es,ep,ho,hd,r⟩,hm⟩:=I.loc
  obtain⟨sl,e⟩:=c.any ho fun z=>hL _ z rfl
  refine⟨m,⟨_,es,ep,e,hd,r⟩,fun i x v h1 h2 h3=> ?_⟩
  obtain⟨u,ru,hk⟩:=hm i x v h1 h2 h3
  refine⟨u,ru, ?_⟩
  rcases hk with hk|⟨hk,z,hz,oz,hoz,hdz⟩
  ·exact .inl hk
  ·obtain⟨sl2,e2⟩:=c.any hoz fun m=>hc _ m x z hz rfl
   exact .inr ⟨hk,z,hz,_,e2,hdz⟩
 cell:=fun x z hz=>by
  obtain⟨v,oz,hoz,hdz⟩:=I.cell x z hz
  obtain⟨sl2,e2⟩:=c.any hoz fun m=>hc _ m x z hz rfl
  exact⟨v,_,e2,hdz⟩
 free:=I.free
 freeC:=I.freeC
 pin:=fun p hpm=>by
  obtain⟨h1,h2,h3,h4,h5⟩:=I.pin p hpm
  refine⟨c.keep _ _ h1 (fun m=> ?_) fun m=>hp _ m p hpm rfl,h2,h3,h4,h5⟩
  rcases Ad.mp (I.stkSub _ m) with h|h
  ·exact h3 h
  ·exact h4 h
 hok:=a60 I.hok c (fun b hb=>I.stkFree b hb) hn
 len:=I.len
end
structure XT where
 cls:Str
 fs:List (PV×PV)
def XF(K:AD)(F:Hp)(fs:List (PV×PV))(dd:Option AB):Prop:=(fs=[]/\dd=none)\/∃d vs,dd=some d/\F d=some (.xd vs)/\fs≠[]/\a0U K F fs vs
theorem XF.mono{K:AD}{F F':Hp}{fs:List (PV×PV)}{dd:Option AB}(s:l7 F F')(h:XF K F fs dd):XF K F' fs dd:=by
 rcases h with h|⟨d,vs,e,q,n,r⟩
 ·exact .inl h
 ·exact .inr ⟨d,vs,e,s _ _ q,n,a0U.mono s _ r⟩
inductive FX where
 |fl (f:Fl)|rz (c:XT) (ρ:c7)
abbrev MX:=c7->Option FX
def b3e(K:AD)(mg:Str->Option AA)(E:L2.St->XK)(F0 H0 F:Hp)(σ0:L2.St)(D:P4):FX->Prop
 | .fl f=>Fin K F0 H0 F D f
 | .rz c ρ=>∃C,mg c.cls=some (.ref C)/\∀σ dd F' H',l7 F F'->SOk K F0 H0 F' H' σ ρ->XF K F' c.fs dd->E σ (.ref C) dd H'
theorem b3e.later{K:AD}{mg:Str->Option AA}{E:L2.St->XK}{F0 H0 F F1:Hp}{σ0 σ1:L2.St}{D:P4}(s:l7 F F1):∀{fx:FX},b3e K mg E F0 H0 F σ0 D fx->b3e K mg E F0 H0 F1 σ1 D fx
 | .fl _,h=>Fin.later s h
 | .rz _ _,⟨C,h1,h2⟩=>⟨C,h1,fun σ a F' H' s' so hn=>h2 σ a F' H' (s.trans s') so hn⟩
def tMX(K:AD)(mg:Str->Option AA)(E:L2.St->XK)(m:MX):TS:=fun D σ H=>∃F0 H0 F ρ fx,SOk K F0 H0 F H σ ρ/\m ρ=some fx/\b3e K mg E F0 H0 F σ D fx
abbrev EX(X:Cx)(E:L2.St->XK)(st:Stmt)(m:MX):Prop:=PS X st (tMX X.K X.mg E m)
abbrev EXs(X:Cx)(E:L2.St->XK)(st:List Stmt)(m:MX):Prop:=PSs X st (tMX X.K X.mg E m)
def a49(m:MS):MX:=fun ρ=>(m ρ).map .fl
def a8b(m n:MX):MX:=fun ρ=>(m ρ).bind fun fx=>match fx with
 | .fl (.nx ρ')=>n ρ'
 |f=>some f
def b3V(c:MT)(m n:MX):MX:=fun ρ=>(c ρ).bind fun b=>if b=true then m ρ else n ρ
def b2e(c:Str)(ma:MA):MX:=fun ρ=>(ma ρ).bind fun ps=>if ps.length<=AQ then some (.rz ⟨c,[]⟩ ρ) else none
section
variable {X:Cx}{E:L2.St->XK}
theorem b5d{m:MS}{D:P4}{σ:L2.St}{H:Hp}(h:tMX X.K X.mg E (a49 m) D σ H):tMS X.K m D σ H:=by
 obtain⟨F0,H0,F,ρ,fx,so,e,fin⟩:=h
 unfold a49 at e
 cases hm:m ρ with
 |none=>rw [hm] at e;cases e
 |some f=>rw [hm] at e;cases e;exact⟨F0,H0,F,ρ,f,so,hm,fin⟩
theorem b64{st:Stmt}{m:MS}(h:ES X st m):EX X E st (a49 m):=D4 h fun _ _ _ q=>b5d q
theorem b5G{st:List Stmt}{m:MS}(h:ESs X st m):EXs X E st (a49 m):=a4v h fun _ _ _ q=>b5d q
theorem a4n{st:Stmt}{m:MX}(h:EX X E st m):EXs X E [st] m:=a95 h
theorem a4K{st:Stmt}{u9:List Stmt}{m n:MX}(h1:EX X E st m)(h2:EXs X E u9 n):EXs X E (st::u9) (a8b m n):=
 a4v (a8n h1 h2) fun D σ H ⟨F0,H0,F,ρ,fx,so,e,fin⟩=>by
  obtain⟨f1,e1,e⟩:=bind_some e
  cases f1 with
  |rz c ρ1=>cases e;exact⟨F0,H0,F,ρ,.rz c ρ1,so,e1,fin⟩
  |fl f=>
   cases f with
   |nx ρ'=>exact⟨F0,H0,F,ρ,.fl (.nx ρ'),so,e1,fun σ' F' H' s so'=>⟨F0,H0,F',ρ',fx,so',e,fin.later s⟩⟩
   |rt r=>cases e;exact⟨F0,H0,F,ρ,_,so,e1,fin⟩
   |bk r=>cases e;exact⟨F0,H0,F,ρ,_,so,e1,fin⟩
   |ct r=>cases e;exact⟨F0,H0,F,ρ,_,so,e1,fin⟩
theorem b4T{c:AF}{a b:List Stmt}{mc:MT}{m n:MX}{pos:Pos}(hc:ET X c mc)(ha:EXs X E a m)(hb:EXs X E b n):EX X E (.If c a b pos) (b3V mc m n):=
 D4 (b47 hc ha hb) fun D σ H ⟨F0,H0,F,ρ,fx,so,e,fin⟩=>by
  obtain⟨b,e1,e⟩:=bind_some e
  refine⟨F,ρ,b,so.e,e1,fun F1 H1 x=> ?_⟩
  cases b with
  |true=>exact a64 ⟨F0,H0,F1,ρ,fx,so.ext x,e,fin.later x.f⟩
  |false=>exact a63 ⟨F0,H0,F1,ρ,fx,so.ext x,e,fin.later x.f⟩
end
def spX(K:AD)(mg:Str->Option AA)(n:Nat)(g:List PV->Option (e8 ⊕ XT)):Sp:=fun vs H Q E=>∃F ps r,l7 F H/\l8 K F ps vs/\ps.length=n/\g ps=some r/\(match r with
 | .inl r=>∀v F' H',v4 K F H F' H' v r->Q v H'
 | .inr c=>∃C,mg c.cls=some (.ref C)/\∀dd F' H',Ext F H F' H'->XF K F' c.fs dd->E (.ref C) dd H')
def M8(CX:CXT)(X:Cx)(E:L2.St->XK):Prop:=∀(pins:List (AB×Obj)) (σ:L2.St) (H:Hp) (s:AC) (e:AA) (s':AC),j7 X pins σ H s->CX X.stack H s (E σ) e s'->X.xe e s'
section
variable {X:Cx}{E:L2.St->XK}{CX:CXT}
theorem a8l{k:Nat}{f:AB}{fd:FuncData}{ps:List Str}{sp:Sp}{x:Str}{p pos:Pos}{e:AF}{es:List AF}{t:TA}(F:R3 X.prog X.w X.K X.mg X.base CX k f fd ps sp)(hr:J3 k X.A)(hg:Gl X x)(hm:X.mg x=some (.ref f))(hk:PySem.W.keepIn X.K (.ref f)=true)(hb:a0I X.K fd ps [])(hx:M8 CX X E)
 (ha:PA X (e::es) t) (hdb:(x==("__debug__":Str))=false:=by decide) (he:AM (e::es) X.env=(false,eval e X.env)::AM es X.env:=by rfl) (hpl:(backTo pos (AM es X.env)).any (·.1)=false:=by rfl):
 PE X (.Call (.Name x p) (e::es) [] pos) (fun σ H Q=>t σ H fun vs H1=>sp vs H1 Q (E σ)):=by
 intro pins s σ H Q I h
 refine wpAny_Call_Name_kw (a1D I hg hm ?_ hdb)
 refine PySem.W.callWith_K (h₀:=X.base) I.ok.mod.kin hk (L4 (ha pos pins s σ H _ I h) fun us s1 ⟨vs,H1,I1,r,q⟩=>⟨I1.kIn, ?_⟩) he hpl
 have hl:(us++[]).length=ps.length:=by rw [Ag,<-r.length];exact F.len _ _ _ _ q
 have hb':=hb s1 us I1.kIn hl
 rw [Ag] at hb'
 refine wpAny_call (codeAny_mono (F.run X.A X.stack s1 H1 ⟨us,[]⟩ us vs Q (E σ) hr I1.env0 hb' r q) fun r s' hq=> ?_)
 cases r with
 |error e=>exact hx pins σ H1 s1 e s' I1 hq
 |ok fl=>
  cases fl with
  |ret u=>exact I1.after hq
  |next=>exact False.elim hq
  |brk=>exact False.elim hq
  |cont=>exact False.elim hq
def a6a(g:List PV->Option (e8 ⊕ XT))(m:MA):c7->Option (e8 ⊕ XT):=fun ρ=>(m ρ).bind g
def a2L(i:Nat)(g:List PV->Option (e8 ⊕ XT))(m:MA):MX:=fun ρ=>(a6a g m ρ).bind fun r=>match r with
 | .inl r=>if r.nb=true then some (.fl (.nx (ρ.set i (some r)))) else none
 | .inr c=>some (.rz c ρ)
def a6m(g:List PV->Option (e8 ⊕ XT))(m:MA):MX:=fun ρ=>(a6a g m ρ).bind fun r=>match r with
 | .inl _=>some (.fl (.nx ρ))
 | .inr c=>some (.rz c ρ)
theorem a9y{n:Nat}{g:List PV->Option (e8 ⊕ XT)}{m:MA}{F0 H0 F H:Hp}{σ:L2.St}{ρ:c7}{Q:VK}{r:e8 ⊕ XT}(so:SOk X.K F0 H0 F H σ ρ)(hn:∀ρ ps,m ρ=some ps->ps.length=n)(e:a6a g m ρ=some r)
 (k:match r with
  | .inl r=>∀v F' H',v4 X.K F H F' H' v r->Q v H'
  | .inr c=>∃C,X.mg c.cls=some (.ref C)/\∀dd F' H',Ext F H F' H'->XF X.K F' c.fs dd->E σ (.ref C) dd H'):
 tMA X.K m σ H fun vs H1=>spX X.K X.mg n g vs H1 Q (E σ):=by
 obtain⟨qs,e1,e2⟩:=bind_some e
 refine⟨F,ρ,qs,so.e,e1,fun vs F1 H1 x rl=>⟨F1,qs,r,x.fh,rl,hn _ _ e1,e2, ?_⟩⟩
 cases r with
 |inl r=>exact fun v F2 H2 o=>k v F2 H2 (v4.trans x o)
 |inr c=>
  obtain⟨C,h1,h2⟩:=k
  exact⟨C,h1,fun a F2 H2 y hn=>h2 a F2 H2 (x.trans y) hn⟩
theorem b5D{k n i:Nat}{f:AB}{fd:FuncData}{ps:List Str}{g:List PV->Option (e8 ⊕ XT)}{x y:Str}{p pos pos' pos2:Pos}{e:AF}{es:List AF}{m:MA}(hN:X.N.Nodup)
 (G:R3 X.prog X.w X.K X.mg X.base CX k f fd ps (spX X.K X.mg n g)) (hr:J3 k X.A) (hg:Gl X x) (hm:X.mg x=some (.ref f)) (hk:PySem.W.keepIn X.K (.ref f)=true) (hb:a0I X.K fd ps []) (hx:M8 CX X E) (hn:∀ρ ps,m ρ=some ps->ps.length=n) (ha:EA X (e::es) m)
 (hi:X.N[i]?=some y:=by rfl) (hy:Loc X.env.scope y:=by exact Or.inl rfl) (hs:swapsWith (.Call (.Name x p) (e::es) [] pos) (some (.Name y pos')) pos2.line X.env=pure false:=by rfl) (hf:X.fn y=true\/X.env.scope.names.lookup y=some .local:=by first|exact .inl rfl|exact .inr rfl|assumption)
 (hdb:(x==("__debug__":Str))=false:=by decide) (he:AM (e::es) X.env=(false,eval e X.env)::AM es X.env:=by rfl) (hpl:(backTo pos (AM es X.env)).any (·.1)=false:=by rfl):
 EX X E (.Assign [.Name y pos'] (.Call (.Name x p) (e::es) [] pos) pos2) (a2L i g m):=
 D4 (b2C hN hi hy (a8l (E:=E) G hr hg hm hk hb hx ha hdb he hpl) hs hf) fun D σ H ⟨F0,H0,F,ρ,fx,so,e,fin⟩=>by
  obtain⟨r,e1,e⟩:=bind_some e
  refine a9y so hn e1 ?_
  cases r with
  |inl r=>
   have e:(if r.nb=true then some (FX.fl (.nx (ρ.set i (some r)))) else none)=some fx:=e
   split at e
   ·rename_i c
    cases e
    exact fun v F' H' o=>fin _ F' H' o.x.f (so.set o c i)
   ·cases e
  |inr c=>
   cases e
   obtain⟨C,h1,h2⟩:=fin
   exact⟨C,h1,fun a F' H' y hn=>h2 σ a F' H' y.f (so.ext y) hn⟩
theorem b5E{k n:Nat}{f:AB}{fd:FuncData}{ps:List Str}{g:List PV->Option (e8 ⊕ XT)}{x:Str}{p pos pos2:Pos}{e:AF}{es:List AF}{m:MA}
 (G:R3 X.prog X.w X.K X.mg X.base CX k f fd ps (spX X.K X.mg n g)) (hr:J3 k X.A) (hg:Gl X x) (hm:X.mg x=some (.ref f)) (hk:PySem.W.keepIn X.K (.ref f)=true) (hb:a0I X.K fd ps []) (hx:M8 CX X E) (hn:∀ρ ps,m ρ=some ps->ps.length=n) (ha:EA X (e::es) m)
 (hs:swapsWith (.Call (.Name x p) (e::es) [] pos) none pos2.line X.env=pure false:=by rfl)
 (hdb:(x==("__debug__":Str))=false:=by decide) (he:AM (e::es) X.env=(false,eval e X.env)::AM es X.env:=by rfl) (hpl:(backTo pos (AM es X.env)).any (·.1)=false:=by rfl):
 EX X E (.Expr (.Call (.Name x p) (e::es) [] pos) pos2) (a6m g m):=
 D4 (a94 (a8l (E:=E) G hr hg hm hk hb hx ha hdb he hpl) hs) fun D σ H ⟨F0,H0,F,ρ,fx,so,e,fin⟩=>by
  obtain⟨r,e1,e⟩:=bind_some e
  refine a9y so hn e1 ?_
  cases r with
  |inl r=>cases e;exact fun v F' H' o=>fin σ F' H' o.x.f (so.ext o.x)
  |inr c=>
   cases e
   obtain⟨C,h1,h2⟩:=fin
   exact⟨C,h1,fun a F' H' y hn=>h2 σ a F' H' y.f (so.ext y) hn⟩
theorem a7U{E1:XK}{x:Str}{C:AB}{np cpos pos:Pos}{e₀:AF}{u9:List AF}{m:MA}(hc:X.calm=true)(hx0:X.ex=[])(hg:Gl X x)(hm:X.mg x=some (.ref C))(hX:b1o C X.base)(ha:EA X (e₀::u9) m)
 (hxe:∀(pins:List (AB×Obj)) (σ:L2.St) (H:Hp) (s:AC) (a:AB),j7 X pins σ H s->Ex0 s.heap a C none->X.s₀.heap.get? a=none->H a=none->E1 (.ref C) none H->X.xe (.ref a) s)
 (he:AM (e₀::u9) X.env=(false,eval e₀ X.env)::AM u9 X.env:=by rfl) (hplain:(backTo cpos (AM u9 X.env)).any (·.1)=false:=by rfl) (hdb:(x==("__debug__":Str))=false:=by decide):
 EX X (fun _=>E1) (.Raise (some (.Call (.Name x np) (e₀::u9) [] cpos)) none pos) (b2e x m):=
 D4 (b2A (W:=fun H=>E1 (.ref C) none H) hc hx0 hg hm hX ha hxe he hplain hdb) fun D σ H ⟨F0,H0,F,ρ,fx,so,e,fin⟩=>by
  obtain⟨qs,e1,e⟩:=bind_some e
  split at e
  ·rename_i c
   cases e
   obtain⟨C',h1,h2⟩:=fin
   rw [hm] at h1
   cases h1
   refine⟨F,ρ,qs,so.e,e1,fun vs F1 H1 y rl=>⟨by rw [rl.length];exact c,h2 σ none F1 H1 y.f (so.ext y) (.inl ⟨rfl,rfl⟩)⟩⟩
  ·cases e
end
def b2N(n:Nat)(body:MX)(ps:List PV):Option (e8 ⊕ XT):=(body (ps.map (fun p=>some (e8.val p))++Ab n none)).bind fun fx=>match fx with
 | .fl (.rt r)=>some (.inl r)
 | .fl (.nx _)=>some (.inl (.val .none))
 | .rz c _=>some (.inr c)
 |_=>none
theorem b5H{P:AK}{w:AI}{K:AD}{mg:Str->Option AA}{base:Heap}{x qual:Str}{st:Stmt}{f:AB}{fd:FuncData}{N ps:List Str}{k:Nat}{m:MX}(F:Fun K x qual st f fd)(S:m5 N ps (i4 st))
 (hb:∀(cdv:AA) (A:AJ) (outer:List Env) (s:AC) (H:Hp) (E:XK),J3 k (A.deeper (envOfC qual (i4 st) s.heap.objs.size f cdv))->EXs (a19 (CX1 P w) P w K mg base N qual (i4 st) f cdv A outer s H E) (fun _=>E) (D0 st) m):
 R3 P w K mg base (CX1 P w) (k+1) f fd ps (spX K mg ps.length (b2N (N.length - ps.length) m)):=by
 obtain⟨oc,od,kV,doc,pm,an,cdv,ct,osl,rfl,lk,hcd⟩:=F.ex
 refine b4Y lk hcd S (fun vs H Q E h=> ?_) fun A outer s H vs Q E hr h=> ?_
 ·obtain⟨_,qs,_,_,r,h2,_⟩:=h
  rw [r.length,h2]
 ·obtain⟨F1,qs,r,s1,rl,hl,e,k⟩:=h
  refine⟨_,hb cdv A outer s H E hr, ?_⟩
  unfold b2N at e
  obtain⟨fx,e1,e2⟩:=bind_some e
  have hv:vs.length=ps.length:=by rw [rl.length,hl]
  refine⟨F1,H,F1,_,fx, ?_,e1, ?_⟩
  ·have:=a8A (N.length - ps.length) s1 rl
   unfold L2.a13
   rw [hv]
   exact this
  ·cases fx with
   |rz c ρ1=>
    cases e2
    obtain⟨C,h1,h2⟩:=k
    exact⟨C,h1,fun _ a F' H' _ so' hn=>h2 a F' H' so'.x hn⟩
   |fl f=>
    cases f with
    |rt q=>cases e2;exact fun v F' H' o=>k v F' H' o
    |nx ρ=>cases e2;exact fun σ' F' H' _ so=>k .non F' H' (v4.val so.x rfl)
    |bk ρ=>cases e2
    |ct ρ=>cases e2
def a6G(P:AK)(w:AI)(K:AD)(mg:Str->Option AA)(base:Heap)(x:Str)(ps:List Str)(k:Nat)(g:List PV->Option (e8 ⊕ XT)):Prop:=
 ∃f fd,R3 P w K mg base (CX1 P w) k f fd ps (spX K mg ps.length g)/\mg x=some (.ref f)/\PySem.W.keepIn K (.ref f)=true/\a0I K fd ps []
def left(g:List PV->Option (e8 ⊕ XT))(ps:List PV):Option e8:=(g ps).bind fun r=>match r with
 | .inl r=>some r
 | .inr _=>none
section
variable {X:Cx}
end
section
variable {X:Cx}
abbrev _root_.L2.Cx.aim(X:Cx)(Y:AA->AC->Prop)(pn:List (AB×Obj)):Cx:={X with xe:=Y,pn:=pn}
theorem b5l{Y:AA->AC->Prop}{pins:List (AB×Obj)}{σ:L2.St}{H:Hp}{s:AC}(I:j7 X pins σ H s):j7 (X.aim Y (X.pn++pins)) [] σ H s:=⟨⟨I.ok.mod,I.ok.kind,I.ok.glob,I.ok.blt,I.ok.above,I.ok.inj,I.ok.has,I.ok.cab,I.ok.hd,I.ok.frames,I.ok.stk,I.ok.exf,I.ok.bs,I.ok.bsz,I.ok.noex,I.ok.exfs,I.ok.funs,I.ok.frf⟩,I.os,I.bare,I.base,I.loc,I.cell,I.free,I.freeC,fun p hp=>I.pin p (by simpa using hp),I.hok,I.len⟩
theorem a1x{Y:AA->AC->Prop}{pins pins1:List (AB×Obj)}{σ:L2.St}{H:Hp}{s:AC}(I:j7 (X.aim Y (X.pn++pins)) pins1 σ H s):j7 X pins σ H s:=⟨⟨I.ok.mod,I.ok.kind,I.ok.glob,I.ok.blt,I.ok.above,I.ok.inj,I.ok.has,I.ok.cab,I.ok.hd,I.ok.frames,I.ok.stk,I.ok.exf,I.ok.bs,I.ok.bsz,I.ok.noex,I.ok.exfs,I.ok.funs,I.ok.frf⟩,I.os,I.bare,I.base,I.loc,I.cell,I.free,I.freeC,fun p hp=>I.pin p (Ay _ hp),I.hok,I.len⟩
def Ap(X:Cx)(pins:List (AB×Obj))(b:AB):Prop:=X.s₀.heap.get? b=none/\b≠X.env.locals/\(∀x z,X.env.cells.lookup x=some z->z≠b)/\∀p∈X.pn++pins,p.1≠b
def Hnd(X:Cx)(hs:List ExceptHandler)(th:AB->AB->Option AB->TS):Prop:=
 ∀(pins:List (AB×Obj)) (s:AC) (σ:L2.St) (H:Hp) (D:P4) (a C T:AB) (dd:Option AB),j7 X pins σ H s->ExT s.heap a C T .none dd->H a=none->H T=none->Ap X pins a->Ap X pins T->th a C dd D σ H->
  AH (model X.prog X.w) X.A (handleBy (.ref a) X.env hs) (SP X pins D) X.xe s
theorem apart{pins:List (AB×Obj)}{σ:L2.St}{H:Hp}{s:AC}{b:AB}(I:j7 X pins σ H s)(hx0:X.ex=[])(h:s.heap.get? b=none):X.s₀.heap.get? b=none/\b≠X.env.locals/\(∀x z,X.env.cells.lookup x=some z->z≠b)/\∀p∈X.pn++pins,p.1≠b:=by
 refine⟨?_,fun e=> ?_,fun x z hz e=> ?_,fun p hp e=> ?_⟩
 ·cases h0:X.s₀.heap.get? b with
  |none=>rfl
  |some o=>
   obtain⟨o',e⟩:=I.base.there b o h0 (fun z=>by rw [hx0] at z;cases z)
   rw [h] at e;cases e
 ·obtain⟨m,⟨o,_,_,ho,_⟩,_⟩:=I.loc
  rw [<-e,h] at ho;cases ho
 ·obtain⟨v,o,ho,_⟩:=I.cell x z hz
  rw [e,h] at ho;cases ho
 ·have:=(I.pin p hp).1
  rw [e,h] at this;cases this
theorem b2D{body:List Stmt}{h₀:ExceptHandler}{hs:List ExceptHandler}{pos:Pos}{tb:(L2.St->XK)->TS}{th:AB->AB->Option AB->TS}(hx0:X.ex=[])(hst:X.stack=X.env::X.outer)(hfr:X.env.frame=some X.env.locals)
 (hb:∀(Y:AA->AC->Prop) (pn:List (AB×Obj)) (E:L2.St->XK),M8 (CX1 X.prog X.w) (X.aim Y pn) E->PSs (X.aim Y pn) body (tb E)) (hh:Hnd X (h₀::hs) th):
 PS X (.Try body (h₀::hs) [] [] pos) (fun D σ H=>tb (fun σ1 v dd H1=>∃C,v= .ref C/\∀a,H1 a=none->th a C dd D σ1 H1) D σ H):=by
 intro pins s σ H D I h
 refine wpAny_Try_except ?_
 have key:=hb (fun e s₁=>AH (model X.prog X.w) X.A (noteFrame e X.env) (fun _ s₂=>AH (model X.prog X.w) X.A (setFlight e none) (fun _ s₃=>AH (model X.prog X.w) X.A (handleBy e X.env (h₀::hs)) (SP X pins D) X.xe s₃) X.xe s₂) X.xe s₁) (X.pn++pins) _ ?_ [] s σ H D (b5l I) h
 ·refine L4 key fun fl s1 hq=> ?_
  cases fl with
  |next=>
   obtain⟨σ',H',J,q⟩:=hq
   exact wpAny_execs_nil ⟨σ',H',a1x J,q⟩
  |brk=>obtain⟨σ',H',J,q⟩:=hq;exact⟨σ',H',a1x J,q⟩
  |cont=>obtain⟨σ',H',J,q⟩:=hq;exact⟨σ',H',a1x J,q⟩
  |ret u=>obtain⟨v,σ',H',J,r,q⟩:=hq;exact⟨v,σ',H',a1x J,r,q⟩
 ·intro pins1 σ1 H1 s1 e s' I1 hx
  obtain⟨a,C,T,dd,H2,rfl,ho,hbare,un,hok,ha,hT,hn,hTn,x,C',e1,ht⟩:=hx
  cases e1
  have J1:=I1.call' (ch:=[]) ho un hok hbare fun b z=>nomatch z
  have J:j7 X pins σ1 H2 s':=a1x J1
  have J0:j7 X pins σ1 H1 s1:=a1x I1
  show AH (model X.prog X.w) X.A (noteFrame (.ref a) X.env) _ X.xe s'
  have fr:X.A.frames=some (X.env::X.outer):=by rw [<-hst];exact J.ok.frames
  have fn:s'.heap.FunFrames X.base (X.env::X.outer):=by rw [<-hst];exact J.stack
  refine a6s fr fn hfr x (by simp [rawInt]) fun T' h1 hT' x1 c1=> ?_
  refine a4O x1 none fun h2 x2 c2 _=> ?_
  have hTn':H2 T'=none:=J.hok.fresh hT'
  have c:Chg (frs X.stack) ([T,a]++[T']) s'.heap h2:=by
   rw [hst]
   exact c1.trans (c2.more (fun b hb=>nomatch hb) fun b hb=>hb)
  have mem:∀b∈[T,a]++[T'],b=T\/b=a\/b=T':=fun b hb=>by simpa using hb
  have q1:=apart J0 hx0 hT
  have q2:=apart J0 hx0 ha
  have q3:=apart J hx0 (Heap.get?_none_of_le hT')
  have K:j7 X pins σ1 H2 {s' with heap:=h2}:=j7.chg J c (fun b hb=> ?_) (fun b hb=> ?_) (fun b hb=> ?_) (fun b hb=> ?_) (fun b hb=> ?_)
  ·exact hh pins _ σ1 H2 D a C T' dd K x2 hn hTn' q2 q3 (ht a hn)
  all_goals rcases mem b hb with rfl|rfl|rfl
  ·exact q1.1
  ·exact q2.1
  ·exact q3.1
  ·exact hTn
  ·exact hn
  ·exact hTn'
  ·exact q1.2.1
  ·exact q2.2.1
  ·exact q3.2.1
  ·exact q1.2.2.1
  ·exact q2.2.2.1
  ·exact q3.2.2.1
  ·exact q1.2.2.2
  ·exact q2.2.2.2
  ·exact q3.2.2.2
end
theorem a6c{M:Model}{A:AJ}{E:AA->AC->Prop}{h:Heap}{g:Array GenState}{d:Drawn}{t:Nat}{os:OsState}{e C B:AB}{oe:Obj}{Q:Bool->AC->Prop}(hC:b0s C h)(hB:b0s B h)
 (he:h.get? e=some oe) (hcls:oe.cls= .ref C) (hq:∀tl:List AA,OwnTail h a7a tl->(∃N nm q bs hdct sn sub ab col dd k0 k1 k2 k3 k5,h.get? C=some (excClassObj nm q C N bs tl hdct sn sub ab col dd k0 k1 k2 k3 k5 "ValueError.__new__"))->Q ((Value.ref C::tl).contains (.ref B)) ⟨h,g,d,t,os⟩):AH M A (excMatches (.ref e) (.ref B)) Q E ⟨h,g,d,t,os⟩:=by
 obtain⟨tl,N,nm,q,bs,hdct,sn,sub,ab,col,dd,k0,k1,k2,k3,k5,hC,T⟩:=hC
 obtain⟨tl',N',nm',q',bs',hdct',sn',sub',ab',col',dd',k0',k1',k2',k3',k5',hB,T'⟩:=hB
 have hq':=hq tl T ⟨_,_,_,_,_,_,_,_,_,_,_,_,_,_,_,hC⟩
 have hcB:(Value.ref B::tl').contains (.type "BaseException")=true:=by rw [List.contains_cons,T'.hasType (show a7a.contains (.type "BaseException")=true by decide),Bool.or_true]
 have f:=tc_notTuple
 unfold excMatches
 repeat (first|(with_reducible refine wpAny_loadPart_at he ?_;rw [hcls])|with_reducible refine wpAny_loadPart_at hB ?_|(with_reducible refine wpAny_isSubtype_exc hB ?_;rw [hcB])|with_reducible refine wpAny_isSubtype_exc hC ?_|wp_step)
 cases hb:(Value.ref C::tl).contains (.ref B)<;>(rw [hb] at hq';wp_walk;exact hq')
def a29(X:Cx)(C B:AB)(b:Bool):Prop:=∀h:Heap,X.K.In h->b0s C h/\b0s B h/\∀(tl:List AA) N nm q bs hdct sn sub ab col dd k0 k1 k2 k3 k5,h.get? C=some (excClassObj nm q C N bs tl hdct sn sub ab col dd k0 k1 k2 k3 k5 "ValueError.__new__")->(Value.ref C::tl).contains (.ref B)=b
section
variable {X:Cx}
abbrev _root_.L2.Cx.caught(X:Cx)(a:AB)(Y:AA->AC->Prop):Cx:={X with A:=X.A.mark (some (.ref a)),calm:=false,xe:=Y}
theorem a1y{a:AB}{Y:AA->AC->Prop}{pins:List (AB×Obj)}{σ:L2.St}{H:Hp}{s:AC}(I:j7 X pins σ H s):j7 (X.caught a Y) pins σ H s:=⟨⟨I.ok.mod,I.ok.kind,I.ok.glob,I.ok.blt,I.ok.above,I.ok.inj,I.ok.has,I.ok.cab,(fun z=>nomatch z),I.ok.frames,I.ok.stk,I.ok.exf,I.ok.bs,I.ok.bsz,I.ok.noex,I.ok.exfs,I.ok.funs,I.ok.frf⟩,I.os,I.bare,I.base,I.loc,I.cell,I.free,I.freeC,I.pin,I.hok,I.len⟩
theorem G0{a:AB}{Y:AA->AC->Prop}{pins:List (AB×Obj)}{σ:L2.St}{H:Hp}{s:AC}(hd:X.calm=true->X.A.handled=none)(I:j7 (X.caught a Y) pins σ H s):j7 X pins σ H s:=⟨⟨I.ok.mod,I.ok.kind,I.ok.glob,I.ok.blt,I.ok.above,I.ok.inj,I.ok.has,I.ok.cab,hd,I.ok.frames,I.ok.stk,I.ok.exf,I.ok.bs,I.ok.bsz,I.ok.noex,I.ok.exfs,I.ok.funs,I.ok.frf⟩,I.os,I.bare,I.base,I.loc,I.cell,I.free,I.freeC,I.pin,I.hok,I.len⟩
theorem b1W{x:Str}{B:AB}{np pos:Pos}{b₀:Stmt}{suite:List Stmt}{u9:List ExceptHandler}{ts:TS}(hg:Gl X x)(hm:X.mg x=some (.ref B))(hdb:(x==("__debug__":Str))=false)(hs:∀a Y,PSs (X.caught a Y) (b₀::suite) ts):
 Hnd X (.ExceptHandler (some (.Name x np)) none (b₀::suite) pos::u9) (fun _ C _ D σ H=>a29 X C B true/\ts D σ H):=by
 intro pins s σ H D a C T dd0 I ex hn hTn apA apT ⟨hbl,q⟩
 have J:j7 (X.caught a (notedBy (model X.prog X.w) (X.A.mark (some (.ref a))) X.env (cameBackBy (model X.prog X.w) X.A X.env X.xe))) pins σ H s:=a1y I
 refine wpAny_handleBy_cons (codeAny_handlers_test (a1D (X:=X.caught a _) J hg hm ?_ hdb)) (by intro q;cases q)
 obtain⟨hC,hB,hin⟩:=hbl s.heap I.kIn
 obtain⟨oe,vs,he,hcls,_⟩:=ex.obj
 obtain⟨hh,g,d,tk,os⟩:=s
 refine a6c hC hB he hcls fun tl T0 ⟨N,nm,q0,bs,hdct,sn,sub,ab,col,dd,k0,k1,k2,k3,k5,hc⟩=> ?_
 rw [hin tl N nm q0 bs hdct sn sub ab col dd k0 k1 k2 k3 k5 hc]
 refine codeAny_handlers_suite ?_
 refine a4O (s:=⟨hh,g,d,tk,os⟩) ex none fun h2 x2 c2 hsz=> ?_
 have one:∀b∈[T],b=T:=fun b hb=>List.mem_singleton.mp hb
 have K:j7 X pins σ H ⟨h2,g,d,tk,os⟩:=j7.chg I (c2.more (fun b hb=>nomatch hb) fun b hb=>hb) (fun b hb=>by rw [one b hb];exact apT.1) (fun b hb=>by rw [one b hb];exact hTn) (fun b hb=>by rw [one b hb];exact apT.2.1) (fun b hb=>by rw [one b hb];exact apT.2.2.1) (fun b hb=>by rw [one b hb];exact apT.2.2.2)
 refine L4 (hs a _ pins _ σ H D (a1y K) q) fun fl s1 hq=> ?_
 show SP X pins D fl s1
 cases fl with
 |next=>obtain⟨σ',H',J,q⟩:=hq;exact⟨σ',H',G0 I.ok.hd J,q⟩
 |brk=>obtain⟨σ',H',J,q⟩:=hq;exact⟨σ',H',G0 I.ok.hd J,q⟩
 |cont=>obtain⟨σ',H',J,q⟩:=hq;exact⟨σ',H',G0 I.ok.hd J,q⟩
 |ret u=>obtain⟨v,σ',H',J,r,q⟩:=hq;exact⟨v,σ',H',G0 I.ok.hd J,r,q⟩
end
theorem b0n{K:AD}{h:Heap}{C:AB}(X:K.In h)(q:PySem.W.excIn K C a7a "ValueError.__new__"=true):b1o C h:=by
 unfold PySem.W.excIn at q
 cases hk:K.lookup C with
 |none=>rw [hk] at q;cases q
 |some o=>
  rw [hk] at q
  split at q
  ·rename_i dd cd sl e
   cases e
   obtain⟨nm,bs,mro,ns,qn,hd,sn,sub,ab,col,del⟩:=cd
   obtain⟨l⟩:=sl
   split at q
   ·rename_i C' bm k0 k1 k2 k3 n k5 hm hs
    have hm:mro= .ref C'::bm:=hm
    have hs:l=[k0,k1,k2,k3,some (.builtin n),k5]:=hs
    subst hm hs
    rw [Bool.and_eq_true,Bool.and_eq_true,Bool.and_eq_true,Bool.and_eq_true,Bool.and_eq_true] at q
    obtain⟨⟨⟨⟨⟨c1,c2⟩,c3⟩,c4⟩,c5⟩,c6⟩:=q
    have c3':del=false:=by simpa using c3
    cases(beq_iff_eq.mp c1)
    cases(beq_iff_eq.mp c2)
    clear c3
    subst c3'
    exact⟨bm,ns,nm,qn,bs,hd,sn,sub,ab,col,dd,k0,k1,k2,k3,k5,_,X _ _ hk,.of_isNs (PySem.W.isNs_of_in X c5),PySem.W.nsMap_none_of_in X c5 (beq_iff_eq.mp c6),PySem.W.tail_of_in X c4⟩
   ·cases q
  ·cases q
def a4X(K:AD)(C B:AB):Bool:=match K.lookup C with
 |some ⟨_,_,.cls cd,_⟩=>cd.mro.contains (.ref B)
 |_=>false
def a5S(K:AD)(C:AB):Bool:=match K.lookup C with
 |some ⟨.type "type",_,.cls cd,sl⟩=>(match cd.mro,sl.toList with
  | .ref C'::bm,[_,_,_,_,some (.builtin n),_]=>C'==C && n=="ValueError.__new__" && !cd.hasDel && PySem.W.tailIn K a7a bm
  |_,_=>false)
 |_=>false
theorem b0m{K:AD}{h:Heap}{C:AB}(X:K.In h)(q:a5S K C=true):b0s C h:=by
 unfold a5S at q
 cases hk:K.lookup C with
 |none=>rw [hk] at q;cases q
 |some o=>
  rw [hk] at q
  split at q
  ·rename_i dd cd sl e
   cases e
   obtain⟨nm,bs,mro,ns,qn,hd,sn,sub,ab,col,del⟩:=cd
   obtain⟨l⟩:=sl
   split at q
   ·rename_i C' bm k0 k1 k2 k3 n k5 hm hs
    have hm:mro= .ref C'::bm:=hm
    have hs:l=[k0,k1,k2,k3,some (.builtin n),k5]:=hs
    subst hm hs
    rw [Bool.and_eq_true,Bool.and_eq_true,Bool.and_eq_true] at q
    obtain⟨⟨⟨c1,c2⟩,c3⟩,c4⟩:=q
    have c3':del=false:=by simpa using c3
    cases(beq_iff_eq.mp c1)
    cases(beq_iff_eq.mp c2)
    clear c3
    subst c3'
    exact⟨bm,ns,nm,qn,bs,hd,sn,sub,ab,col,dd,k0,k1,k2,k3,k5,X _ _ hk,PySem.W.tail_of_in X c4⟩
   ·cases q
  ·cases q
theorem b1t{X:Cx}{C B:AB}(q1:a5S X.K C=true)(q2:a5S X.K B=true):a29 X C B (a4X X.K C B):=fun h I=>⟨b0m I q1,b0m I q2,fun tl N nm q bs hdct sn sub ab col dd k0 k1 k2 k3 k5 hc=>by
 cases hk:X.K.lookup C with
 |none=>unfold a5S at q1;rw [hk] at q1;cases q1
 |some o=>
  have:=I _ _ hk
  rw [hc] at this
  cases this
  unfold a4X
  rw [hk]⟩
def b0R(b:MX)(inm:Str->Bool)(hd:MS):MS:=fun ρ=>(b ρ).bind fun fx=>match fx with
 | .fl f=>some f
 | .rz c ρ'=>if inm c.cls=true then hd ρ' else none
section
variable {X:Cx}
theorem b5A{body:List Stmt}{x:Str}{B:AB}{np hpos pos:Pos}{b₀:Stmt}{suite:List Stmt}{b:MX}{inm:Str->Bool}{hd:MS}(hx0:X.ex=[])(hst:X.stack=X.env::X.outer)(hfr:X.env.frame=some X.env.locals)
 (hg:Gl X x) (hm:X.mg x=some (.ref B)) (hdb:(x==("__debug__":Str))=false) (hin:∀c,inm c=true->∃C,X.mg c=some (.ref C)/\a29 X C B true)
 (hb:∀(Y:AA->AC->Prop) (pn:List (AB×Obj)) (E:L2.St->XK),M8 (CX1 X.prog X.w) (X.aim Y pn) E->EXs (X.aim Y pn) E body b) (hs:∀a Y,ESs (X.caught a Y) (b₀::suite) hd):
 ES X (.Try body [.ExceptHandler (some (.Name x np)) none (b₀::suite) hpos] [] [] pos) (b0R b inm hd):=
 D4 (b2D hx0 hst hfr (tb:=fun E=>tMX X.K X.mg E b) hb (b1W (ts:=tMS X.K hd) hg hm hdb fun a Y=>hs a Y)) fun D σ H ⟨F0,H0,F,ρ,fl,so,e,fin⟩=>by
  obtain⟨fx,e1,e⟩:=bind_some e
  cases fx with
  |fl f=>cases e;exact⟨F0,H0,F,ρ,.fl _,so,e1,fin⟩
  |rz c ρ1=>
   have e:(if inm c.cls=true then hd ρ1 else none)=some fl:=e
   split at e
   ·rename_i hc
    obtain⟨C,h1,h2⟩:=hin c.cls hc
    exact⟨F0,H0,F,ρ,.rz c ρ1,so,e1,C,h1,fun σ1 dd F' H' s' so' hn=>⟨C,rfl,fun a ha=>⟨h2,F0,H0,F',ρ1,fl,so',e,fin.later s'⟩⟩⟩
   ·cases e
end
section
variable {X:Cx}{pins:List (AB×Obj)}{σ:L2.St}{H:Hp}{s:AC}
theorem _root_.L2.j7.track{a:AB}{o:HO}(I:j7 X pins σ H s)(hn:H a=none)(ap:Ap X pins a)(new:M7 X.prog X.w (upd H a o) s.heap a o):j7 X pins σ (upd H a o) s where
 ok:=I.ok
 os:=I.os
 bare:=I.bare
 base:=⟨I.base.keep,I.base.slot,fun b ob e n hx=>by
  rw [j0 (fun z=>by rw [z,ap.1] at e;cases e)];exact I.base.free b ob e n hx,I.base.there,
  fun b xs e=>by rw [j0 (j6 (I.base.tups b xs e) hn)];exact I.base.tups b xs e,
  fun b ob u e=>by rw [j0 (j6 (I.base.frzs b ob u e) hn)];exact I.base.frzs b ob u e,
  fun b ps e=>by obtain⟨more,q⟩:=I.base.tbls b ps e;exact⟨more,by rw [j0 (j6 q hn)];exact q⟩⟩
 loc:=I.loc
 cell:=I.cell
 free:=by rw [j0 (Ne.symm ap.2.1)];exact I.free
 freeC:=fun x c e=>by rw [j0 (ap.2.2.1 x c e)];exact I.freeC x c e
 pin:=fun p hp=>by
  obtain⟨h1,h2,h3⟩:=I.pin p hp
  exact⟨h1,by rw [j0 (ap.2.2.2 p hp)];exact h2,h3⟩
 hok:=fun b u e=>by
  by_cases hb:b=a
  ·subst hb;rw [t7] at e;cases e;exact new
  ·rw [j0 hb] at e
   exact(I.hok b u e).stay (fun c v _ q=>q) (fun c q=>by rw [j0 (j6 q hn)];exact q) fun c xs q=>by rw [j0 (j6 q hn)];exact q
 len:=I.len
theorem a4q{M:Model}{A:AJ}{E:AA->AC->Prop}{i:Nat}{x:Str}{pos:Pos}{Q:Unit->AC->Prop}(I:j7 X pins σ H s)(hN:X.N.Nodup)(hi:X.N[i]?=some x)(hk:X.env.scope.names.lookup x=some .local)
 (h:∀s',j7 X pins (σ.set i none) H s'->Q () s'):AH M A (do bindName X.env x .none;unbindBehindTheSuite X.env x pos) Q E s:=by
 obtain⟨m,hn,hl⟩:=id I.loc
 have hcls:(X.env.scope.kind== .class||(X.env.scope.kind== .module && X.env.locals !=X.env.globals))=false:=by rw [I.ok.kind];rfl
 have hiσ:i<σ.length:=by rw [I.len];exact(Av.mp hi).1
 have cne:=I.cne
 refine wpAny_nameGoes_keeps hk hn hcls fun h' v hn' hs=> ?_
 refine h _ ⟨I.ok,I.os,I.bare,⟨fun b o e n hb hx=> ?_,fun b o e n hb hx=> ?_,I.base.free,fun b o e hx=> ?_,I.base.tups,I.base.frzs,I.base.tbls⟩,⟨_,hn',fun j y v' e1 e2 e3=> ?_⟩,fun y c e=> ?_,I.free,I.freeC,fun p hp=> ?_,fun b ob e=> ?_,by simpa using I.len⟩
 ·exact(hs.2 b (As (Ar (Ac e) I.ok.above))).trans (I.base.keep b o e n hb hx)
 ·obtain⟨sl,e1⟩:=I.base.slot b o e n hb hx
  exact⟨sl,(hs.2 b (As (Ar (Ac e) I.ok.above))).trans e1⟩
 ·obtain⟨o',e1⟩:=I.base.there b o e hx
  exact⟨o',(hs.2 b (As (Ar (Ac e) I.ok.above))).trans e1⟩
 ·by_cases hj:j=i
  ·subst hj
   rw [BI hiσ] at e2
   cases e2
  ·rw [List.getElem?_set_ne (Ne.symm hj)] at e2
   obtain⟨u',r',q⟩:=hl j y v' e1 e2 e3
   refine⟨u',r', ?_⟩
   rcases q with⟨k,e⟩|⟨k,c,e,z⟩
   ·refine .inl ⟨k, ?_⟩
    have:y≠x:=fun e=>hj (a5a hN e1 (e▸hi))
    simp [this,e]
   ·exact .inr ⟨k,c,e,z.sameBut hs (cne y c e)⟩
 ·obtain⟨w',z⟩:=I.cell y c e
  exact⟨w',z.sameBut hs (cne y c e)⟩
 ·obtain⟨e,n,ne,nf,d⟩:=I.pin p hp
  exact⟨(hs.2 p.1 ne).trans e,n,ne,nf,d⟩
 ·refine(I.hok b ob e).stay (fun c w' hc q=>(hs.2 c ?_).trans q) (fun _ q=>q) fun _ _ q=>q
  rintro rfl
  have hfree:=I.free
  rcases hc with rfl|hc
  ·rw [hfree] at e;cases e
  ·rw [hfree] at hc;cases hc
end
def XO(a C:AB)(dd:Option AB)(h:Heap):Prop:=∃oe vs,h.get? a=some oe/\oe.cls= .ref C/\oe.data= .fields vs/\oe.dict=dd
def P4.drop(D:P4)(i:Nat):P4:=⟨fun σ H=>D.nx (σ.set i none) H,D.rt,fun σ H=>D.bk (σ.set i none) H,fun σ H=>D.ct (σ.set i none) H⟩
section
variable {X:Cx}
theorem b5N{i:Nat}{x y:Str}{B:AB}{np pos:Pos}{b₀:Stmt}{suite:List Stmt}{u9:List ExceptHandler}{ts:TS}(hN:X.N.Nodup)(hi:X.N[i]?=some y)(hy:X.env.scope.names.lookup y=some .local)
 (hg:Gl X x) (hm:X.mg x=some (.ref B)) (hdb:(x==("__debug__":Str))=false) (hs:∀a Y,PSs (X.caught a Y) (b₀::suite) ts):
 Hnd X (.ExceptHandler (some (.Name x np)) (some y) (b₀::suite) pos::u9) (fun a C dd D σ H=>a29 X C B true/\ts (P4.drop D i) (σ.set i (some (.ref a))) (upd H a (.ext (XO a C dd)))):=by
 intro pins s σ H D a C T dd0 I ex hn hTn apA apT ⟨hbl,q⟩
 have J:j7 (X.caught a (notedBy (model X.prog X.w) (X.A.mark (some (.ref a))) X.env (cameBackBy (model X.prog X.w) X.A X.env X.xe))) pins σ H s:=a1y I
 refine wpAny_handleBy_cons (codeAny_handlers_test (a1D (X:=X.caught a _) J hg hm ?_ hdb)) (by intro q;cases q)
 obtain⟨hC,hB,hin⟩:=hbl s.heap I.kIn
 obtain⟨oe,vs,he,hcls,_⟩:=ex.obj
 obtain⟨hh,g,d,tk,os⟩:=s
 refine a6c hC hB he hcls fun tl T0 ⟨N,nm,q0,bs,hdct,sn,sub,ab,col,dd,k0,k1,k2,k3,k5,hc⟩=> ?_
 rw [hin tl N nm q0 bs hdct sn sub ab col dd k0 k1 k2 k3 k5 hc]
 refine codeAny_handlers_suite_as ?_
 refine a4O (s:=⟨hh,g,d,tk,os⟩) ex none fun h2 x2 c2 hsz=> ?_
 have one:∀b∈[T],b=T:=fun b hb=>List.mem_singleton.mp hb
 have K:j7 X pins σ H ⟨h2,g,d,tk,os⟩:=j7.chg I (c2.more (fun b hb=>nomatch hb) fun b hb=>hb) (fun b hb=>by rw [one b hb];exact apT.1) (fun b hb=>by rw [one b hb];exact hTn) (fun b hb=>by rw [one b hb];exact apT.2.1) (fun b hb=>by rw [one b hb];exact apT.2.2.1) (fun b hb=>by rw [one b hb];exact apT.2.2.2)
 obtain⟨oe',vs',he',hcls',hd',_,hdn⟩:=x2.obj
 have K1:j7 X pins σ (upd H a (.ext (XO a C dd0))) ⟨h2,g,d,tk,os⟩:=K.track hn apA ⟨⟨oe',vs',he',hcls',hd',hdn⟩,⟨oe',he'⟩,fun h1 h2 ⟨o1,v1,e1,e2,e3⟩ st=>⟨o1,v1,st _ e1,e2,e3⟩⟩
 refine a23 (v:= .ref a) K1 hN hi (.inl hy) rfl (fun s' I'=> ?_) (.inr hy)
 refine L4 (hs a _ pins _ _ _ (P4.drop D i) (a1y I') q) fun fl s1 hq=> ?_
 cases fl with
 |next=>obtain⟨σ',H',J,q⟩:=hq;exact a4q (G0 I.ok.hd J) hN hi hy fun s2 J2=>⟨_,H',J2,q⟩
 |brk=>obtain⟨σ',H',J,q⟩:=hq;exact a4q (G0 I.ok.hd J) hN hi hy fun s2 J2=>⟨_,H',J2,q⟩
 |cont=>obtain⟨σ',H',J,q⟩:=hq;exact a4q (G0 I.ok.hd J) hN hi hy fun s2 J2=>⟨_,H',J2,q⟩
 |ret u=>obtain⟨v,σ',H',J,r,q⟩:=hq;exact a4q (G0 I.ok.hd J) hN hi hy fun s2 J2=>⟨v,_,H',J2,r,q⟩
end
def xcV(c:XT):PV:=match c.fs with
 |[]=> .dict [(.str c.cls,.bool true)]
 |f::r=> .dict ((.str c.cls,.int 0)::f::r)
theorem b4K{K:AD}{F:Hp}{c:XT}{dd:Option AB}{a C:AB}(ha:F a=none)(xf:XF K F c.fs dd)(h3:P0 K c.cls C):I0 K (upd F a (.ext (XO a C dd))) (xcV c) (.ref a):=by
 obtain⟨cl,fs⟩:=c
 rcases xf with⟨e1,e2⟩|⟨d,vs,e1,q,n,r⟩
 ·have e1:fs=[]:=e1
  subst e1;subst e2
  exact Or.inr (Or.inr (Or.inl ⟨cl,_,rfl,.inr ⟨rfl,a,C,XO a C none,rfl,t7,fun h q=>q,h3⟩⟩))
 ·cases fs with
  |nil=>exact absurd rfl n
  |cons f r0=>
   subst e1
   have s:l7 F (upd F a (.ext (XO a C (some d)))):=W2 ha
   refine Or.inr (Or.inr (Or.inr ⟨cl,.int 0,vs,.inr ⟨rfl,a,C,d,XO a C (some d),rfl,t7,fun h q=>q,s _ _ q,h3⟩,cl,.int 0,vs,rfl,rfl,rfl, ?_⟩))
   exact a0U.mono s _ r
def a4M(i:Nat):Fl->Fl
 | .nx ρ=> .nx (ρ.set i none)
 | .rt r=> .rt r
 | .bk ρ=> .bk (ρ.set i none)
 | .ct ρ=> .ct (ρ.set i none)
def a0w(b:MX)(i:Nat)(inm:Str->Bool)(hd:MS):MS:=fun ρ=>(b ρ).bind fun fx=>match fx with
 | .fl f=>some f
 | .rz c ρ'=>if inm c.cls=true then(hd (ρ'.set i (some (.val (xcV c))))).map (a4M i) else none
theorem C1{α:Type}{l:List (Option α)}{i j:Nat}{r:α}(h:(l.set i none)[j]?=some (some r)):i≠j/\l[j]?=some (some r):=by
 rw [List.getElem?_set] at h
 by_cases hij:i=j
 ·rw [if_pos hij] at h
  split at h
  ·cases h
  ·cases h
 ·rw [if_neg hij] at h;exact⟨hij,h⟩
theorem SOk.drop{K:AD}{F0 H0 F H:Hp}{σ:L2.St}{ρ:c7}(s:SOk K F0 H0 F H σ ρ)(i:Nat):SOk K F0 H0 F H (σ.set i none) (ρ.set i none):=by
 refine⟨s.x,⟨s.e.fh,by simp [s.e.len],fun j q e=> ?_,fun j ps e=> ?_,fun j k ps qs a hjk e1 e2 e3 e4=> ?_⟩,fun j ps a e1 e2=> ?_⟩
 ·obtain⟨n,e⟩:=C1 e
  rw [List.getElem?_set_ne n]
  exact s.e.at_ j q e
 ·exact s.e.nb j ps (C1 e).2
 ·exact s.e.ap j k ps qs a hjk (C1 e1).2 (C1 e2).2 (C1 e3).2 (C1 e4).2
 ·exact s.nw j ps a (C1 e1).2 (C1 e2).2
theorem Fin.drop{K:AD}{F0 H0 F:Hp}{D:P4}{i:Nat}:∀{fl:Fl},Fin K F0 H0 F D (a4M i fl)->Fin K F0 H0 F (P4.drop D i) fl
 | .nx _,h=>fun σ' F' H' s' so=>h _ F' H' s' (so.drop i)
 | .rt _,h=>h
 | .bk _,h=>fun σ' F' H' s' so=>h _ F' H' s' (so.drop i)
 | .ct _,h=>fun σ' F' H' s' so=>h _ F' H' s' (so.drop i)
section
variable {X:Cx}
theorem b1J{i:Nat}{body:List Stmt}{x y:Str}{B:AB}{np hpos pos:Pos}{b₀:Stmt}{suite:List Stmt}{b:MX}{inm:Str->Bool}{hd:MS}(hN:X.N.Nodup)(hi:X.N[i]?=some y)(hy:X.env.scope.names.lookup y=some .local)(hx0:X.ex=[])(hst:X.stack=X.env::X.outer)(hfr:X.env.frame=some X.env.locals)
 (hg:Gl X x) (hm:X.mg x=some (.ref B)) (hdb:(x==("__debug__":Str))=false) (hin:∀c,inm c=true->∃C,X.mg c=some (.ref C)/\a29 X C B true/\P0 X.K c C)
 (hb:∀(Y:AA->AC->Prop) (pn:List (AB×Obj)) (E:L2.St->XK),M8 (CX1 X.prog X.w) (X.aim Y pn) E->EXs (X.aim Y pn) E body b) (hs:∀a Y,ESs (X.caught a Y) (b₀::suite) hd):
 ES X (.Try body [.ExceptHandler (some (.Name x np)) (some y) (b₀::suite) hpos] [] [] pos) (a0w b i inm hd):=
 D4 (b2D hx0 hst hfr (tb:=fun E=>tMX X.K X.mg E b) hb (b5N (i:=i) (ts:=tMS X.K hd) hN hi hy hg hm hdb fun a Y=>hs a Y)) fun D σ H ⟨F0,H0,F,ρ,fl,so,e,fin⟩=>by
  obtain⟨fx,e1,e⟩:=bind_some e
  cases fx with
  |fl f=>cases e;exact⟨F0,H0,F,ρ,.fl _,so,e1,fin⟩
  |rz c ρ1=>
   have e:(if inm c.cls=true then(hd (ρ1.set i (some (.val (xcV c))))).map (a4M i) else none)=some fl:=e
   split at e
   ·rename_i hc
    obtain⟨C,h1,h2,h3⟩:=hin c.cls hc
    cases hh:hd (ρ1.set i (some (.val (xcV c)))) with
    |none=>rw [hh] at e;cases e
    |some f=>
     rw [hh] at e
     cases e
     refine⟨F0,H0,F,ρ,.rz c ρ1,so,e1,C,h1,fun σ1 dd F' H' s' so' xf=>⟨C,rfl,fun a hn=>⟨h2,F0,H0,upd F' a (.ext (XO a C dd)),_,f, ?_,hh, ?_⟩⟩⟩
     ·exact so'.set (r:= .val (xcV c)) (v4.val (p:=xcV c) (Ext.lay so'.e.fh hn) (b4K (so'.e.fh.free hn) xf h3)) rfl i
     ·exact Fin.drop ((fin.later s').later (W2 (so'.e.fh.free hn)))
   ·cases e
theorem b3v{E:L2.St->XK}{k k' i:Nat}{ps:List Str}{g:List PV->Option (e8 ⊕ XT)}{x y:Str}{p pos pos' pos2:Pos}{e:AF}{es:List AF}{m:MA}(hN:X.N.Nodup)
 (d:a6G X.prog X.w X.K X.mg X.base x ps k g) (hr:J3 k' X.A) (hk:k<=k') (hg:Gl X x) (hx:M8 (CX1 X.prog X.w) X E) (hn:∀ρ qs,m ρ=some qs->qs.length=ps.length) (ha:EA X (e::es) m)
 (hi:X.N[i]?=some y:=by rfl) (hy:Loc X.env.scope y:=by exact Or.inl rfl) (hs:swapsWith (.Call (.Name x p) (e::es) [] pos) (some (.Name y pos')) pos2.line X.env=pure false:=by rfl) (hf:X.fn y=true\/X.env.scope.names.lookup y=some .local:=by first|exact .inl rfl|exact .inr rfl|assumption)
 (hdb:(x==("__debug__":Str))=false:=by decide) (he:AM (e::es) X.env=(false,eval e X.env)::AM es X.env:=by rfl) (hpl:(backTo pos (AM es X.env)).any (·.1)=false:=by rfl):
 EX X E (.Assign [.Name y pos'] (.Call (.Name x p) (e::es) [] pos) pos2) (a2L i g m):=by
 obtain⟨f,fd,G,h1,h2,h3⟩:=d
 exact b5D hN G (hr.mono hk) hg h1 h2 h3 hx hn ha hi hy hs hf hdb he hpl
theorem b3w{E:L2.St->XK}{k k':Nat}{ps:List Str}{g:List PV->Option (e8 ⊕ XT)}{x:Str}{p pos pos2:Pos}{e:AF}{es:List AF}{m:MA}
 (d:a6G X.prog X.w X.K X.mg X.base x ps k g) (hr:J3 k' X.A) (hk:k<=k') (hg:Gl X x) (hx:M8 (CX1 X.prog X.w) X E) (hn:∀ρ qs,m ρ=some qs->qs.length=ps.length) (ha:EA X (e::es) m)
 (hs:swapsWith (.Call (.Name x p) (e::es) [] pos) none pos2.line X.env=pure false:=by rfl)
 (hdb:(x==("__debug__":Str))=false:=by decide) (he:AM (e::es) X.env=(false,eval e X.env)::AM es X.env:=by rfl) (hpl:(backTo pos (AM es X.env)).any (·.1)=false:=by rfl):
 EX X E (.Expr (.Call (.Name x p) (e::es) [] pos) pos2) (a6m g m):=by
 obtain⟨f,fd,G,h1,h2,h3⟩:=d
 exact b5E G (hr.mono hk) hg h1 h2 h3 hx hn ha hs hdb he hpl
end
def a7b(K:AD)(C:AB)(x:Str):Bool:=match K.lookup C with
 |some ⟨_,_,.cls cd,_⟩=>cd.name==x
 |_=>false
structure XC(K:AD)(mg:Str->Option AA)(c:Str)(C:AB):Prop where
 mg:mg c=some (.ref C)
 named:P0 K c C
 exc:a5S K C=true
theorem b5f{K:AD}{mg:Str->Option AA}{h:Heap}{c:Str}{C:AB}(X:K.In h)(G:h.Ns mainGlobals mg)(e:PySem.W.nsIn K mainGlobals c=some (some (.ref C)))(q:(a7b K C c && a5S K C)=true):XC K mg c C:=by
 rw [Bool.and_eq_true] at q
 obtain⟨q1,q3⟩:=q
 refine⟨PySem.W.mg_of X G e,⟨e, ?_⟩,q3⟩
 unfold a7b at q1
 split at q1
 ·rename_i oc od cd sl hk
  exact⟨oc,od,cd,sl,hk,beq_iff_eq.mp q1⟩
 ·cases q1
theorem b1r{K:AD}{x D:AB}{c:AA}(e:PySem.W.kitOne K (.ref D) c=some true):Answers (fun s=>K.In s.heap/\∃o,s.heap.get? x=some o/\o.cls= .ref D) (.ref x) c true:=fun dep tk prog w A R s hs=>by
 obtain⟨hh,gg,dr,tt,oo⟩:=s
 obtain⟨⟨kin,o,h1,h2⟩,fin⟩:=hs
 have LT:PySem.W.Looks (model prog w) hh (typeOf (.ref x)) (.ref D):=h2▸(PySem.W.Looks.ld h1).andThen .now
 unfold Builtin.«isinstance.nested»
 refine AG ?_
 refine LT.at ?_
 cases q:(Value.ref D==c) with
 |true=>
  rw [if_pos rfl]
  exact AG (wpAny_rule (AV (fin tt)))
 |false=>
  rw [if_neg Aj]
  unfold PySem.W.kitOne at e
  rw [q,if_neg Aj] at e
  have z:=PySem.W.kit_cls (M:=model prog w) kin e
  have z3:PySem.W.Looks (model prog w) hh (isInstance (.ref x) c) true:=LT.andThen z.2.2
  refine AG ?_
  refine z.1.at ?_
  rw [if_pos (by decide)]
  k_delta "plainIsInstance"
  refine AG ?_
  refine AG ?_
  refine z.2.1.at ?_
  simp only [Bool.not_true,if_false,BH]
  refine AG ?_
  refine z3.at ?_
  exact AV (AV (fin tt))
theorem b10{K:AD}{prog:AK}{w:AI}{A:AJ}{E:AA->AC->Prop}{s:AC}{Q:AA->AC->Prop}{x D:AB}{c:AA}{o:Obj}(kin:K.In s.heap)(h1:s.heap.get? x=some o)(h2:o.cls= .ref D)(e:PySem.W.kitOne K (.ref D) c=some true)(fin:∀tk,Q (.bool true) {s with toks:=tk}):
 AH (model prog w) A (call (.builtin "isinstance") [.ref x,c]) Q E s:=by
 refine call_isinstance (S:=fun _ R s=>(K.In s.heap/\∃o,s.heap.get? x=some o/\o.cls= .ref D)/\∀tk,R (.ok (.ret (.bool true))) {s with toks:=tk}) (fun prog w A R s hs=> ?_) ⟨⟨kin,o,h1,h2⟩,fin⟩
 refine isinstance_outer ?_ (fun z=>nomatch z)
 exact b1r e 0 _ prog w A R s hs
def b6I:PV->Option Str
 | .dict [(.str c,.bool true)]=>some c
 | .dict ((.str c,.int 0)::_)=>some c
 |_=>none
def b0t(K:AD)(H:Hp)(x:Str)(v:V):Prop:=b3g K H x v\/∃fs,a1N K H x (.int 0) fs v
theorem b0t.mono{K:AD}{H H':Hp}{x:Str}{v:V}(s:l7 H H')(h:b0t K H x v):b0t K H' x v:=by
 rcases h with⟨a,C,φ,e,q,r⟩|⟨fs,h⟩
 ·exact .inl ⟨a,C,φ,e,s _ _ q,r⟩
 ·exact .inr ⟨fs,h.mono s⟩
theorem b4L{K:AD}{F:Hp}{p:PV}{v:V}{c:Str}(rr:I0 K F p v)(h:b6I p=some c):b0t K F c v:=by
 unfold b6I at h
 split at h
 ·cases h
  rcases rr with⟨_,_,_,_,kk,w,t,_,z,_⟩|⟨_,_,_,_,kk,w,t,_,z,_⟩|⟨y,t,e,hy⟩|⟨_,_,_,ho,hf⟩
  ·cases z
  ·cases z
  ·cases e
   rcases hy with⟨z,_⟩|⟨_,h1⟩
   ·cases z
   ·exact .inl h1
  ·rcases(a92 ho hf).2.1 with e|e<;>cases e
 ·cases h
  rcases rr with⟨_,_,_,_,kk,w,t,_,z,_⟩|⟨_,_,_,_,kk,w,t,_,z,_⟩|⟨y,t,e,hy⟩|⟨y,m,fs,ho,hf⟩
  ·cases z
  ·cases z
  ·cases e
   rcases hy with⟨z,_⟩|⟨z,_⟩<;>cases z
  ·obtain⟨g,w,t,e,z,q,_⟩:=hf
   cases z
   cases e
   cases q
   exact .inr ⟨_,ho⟩
 ·cases h
theorem b4M{X:Cx}{pins:List (AB×Obj)}{σ:L2.St}{H:Hp}{s:AC}(I:j7 X pins σ H s){x:Str}{v:V}(h:b0t X.K H x v):∃(a C:AB) (o:Obj) (od:Option Obj),v= .ref a/\P0 X.K x C/\PySem.W.InstAt s.heap a o C od:=by
 rcases h with h|⟨fs,⟨z,_⟩|⟨_,a,C,dx,φ,e,q,r,d,n⟩⟩
 ·obtain⟨a,C,o,vs,e,h1,h2,h3,n,h4⟩:=a1M I h
  exact⟨a,C,o,none,e,n,h1,h2,by unfold PySem.W.notCls;rw [h3],by rw [h4];trivial⟩
 ·cases z
 ·obtain⟨oe,vs,h1,h2,h3,h4⟩:=r _ (I.hok a _ q).1
  obtain⟨mA,⟨od,es,ep,ho,_⟩,_⟩:=I.hok dx _ d
  exact⟨a,C,oe,some od,e,n,h1,h2,by unfold PySem.W.notCls;rw [h3],by rw [h4];exact ho⟩
def a5T(tab:List (Str×Bool))(x:e8):Option e8:=(b6I x.rd).bind fun c=>(tab.lookup c).map fun b=> .val (.bool b)
section
variable {X:Cx}
end
def inL(l:List Str)(c:Str):Bool:=l.contains c
section
variable {X:Cx}
def Hin(X:Cx)(B:AB)(l:List Str):Prop:=∀c,inL l c=true->∃C,X.mg c=some (.ref C)/\a29 X C B true/\P0 X.K c C
theorem a9S{B:AB}:Hin X B []:=fun _ h=>nomatch h
theorem a73{B C:AB}{b c:Str}{l:List Str}(xB:XC X.K X.mg b B)(x:XC X.K X.mg c C)(e:a4X X.K C B=true)(h:Hin X B l):Hin X B (c::l):=fun c1 q=>by
 unfold inL at q
 rw [List.contains_cons,Bool.or_eq_true] at q
 rcases q with q|q
 ·rw [beq_iff_eq.mp q]
  exact⟨C,x.mg,by rw [<-e];exact b1t x.exc xB.exc,x.named⟩
 ·exact h c1 q
theorem b3u{l:List Str}{body:List Stmt}{x:Str}{B:AB}{np hpos pos:Pos}{b₀:Stmt}{suite:List Stmt}{b:MX}{hd:MS}(xB:XC X.K X.mg x B)(hin:Hin X B l)
 (hb:∀(Y:AA->AC->Prop) (pn:List (AB×Obj)) (E:L2.St->XK),M8 (CX1 X.prog X.w) (X.aim Y pn) E->EXs (X.aim Y pn) E body b) (hs:∀a Y,ESs (X.caught a Y) (b₀::suite) hd)
 (hx0:X.ex=[]:=by rfl) (hst:X.stack=X.env::X.outer:=by rfl) (hfr:X.env.frame=some X.env.locals:=by rfl) (hg:Gl X x:=by rfl) (hdb:(x==("__debug__":Str))=false:=by decide):
 ES X (.Try body [.ExceptHandler (some (.Name x np)) none (b₀::suite) hpos] [] [] pos) (b0R b (inL l) hd):=
 b5A hx0 hst hfr hg xB.mg hdb (fun c q=>let ⟨C,h1,h2,_⟩:=hin c q;⟨C,h1,h2⟩) hb hs
theorem b0E{i:Nat}{l:List Str}{body:List Stmt}{x y:Str}{B:AB}{np hpos pos:Pos}{b₀:Stmt}{suite:List Stmt}{b:MX}{hd:MS}(hN:X.N.Nodup)(xB:XC X.K X.mg x B)(hin:Hin X B l)
 (hb:∀(Y:AA->AC->Prop) (pn:List (AB×Obj)) (E:L2.St->XK),M8 (CX1 X.prog X.w) (X.aim Y pn) E->EXs (X.aim Y pn) E body b) (hs:∀a Y,ESs (X.caught a Y) (b₀::suite) hd)
 (hi:X.N[i]?=some y:=by rfl) (hy:X.env.scope.names.lookup y=some .local:=by rfl) (hx0:X.ex=[]:=by rfl) (hst:X.stack=X.env::X.outer:=by rfl) (hfr:X.env.frame=some X.env.locals:=by rfl) (hg:Gl X x:=by rfl) (hdb:(x==("__debug__":Str))=false:=by decide):
 ES X (.Try body [.ExceptHandler (some (.Name x np)) (some y) (b₀::suite) hpos] [] [] pos) (a0w b i (inL l) hd):=
 b1J hN hi hy hx0 hst hfr hg xB.mg hdb hin hb hs
end
section
variable {X:Cx}
end
section
variable {X:Cx}
end
section
variable {X:Cx}
theorem a6U{E:L2.St->XK}{st:List Stmt}{m:MS}(h:ESs X.nox st m):EXs X E st (a49 m):=b5G (PSs.nox h)
theorem b5F{E:L2.St->XK}{st:Stmt}{m:MS}(h:ES X.nox st m):EX X E st (a49 m):=b64 fun pins s σ H D I hw=>
 wpAny_mono (h pins s σ H D (I.wish _) hw) (fun fl s1 hq=>by
  cases fl with
  |next=>obtain⟨σ',H',J,q⟩:=hq;exact⟨σ',H',J.unwish,q⟩
  |brk=>obtain⟨σ',H',J,q⟩:=hq;exact⟨σ',H',J.unwish,q⟩
  |cont=>obtain⟨σ',H',J,q⟩:=hq;exact⟨σ',H',J.unwish,q⟩
  |ret u=>obtain⟨v,σ',H',J,r,q⟩:=hq;exact⟨v,σ',H',J.unwish,r,q⟩) fun _ _ z=>z.elim
end
abbrev exO(C:AB)(dd:Option AB)(t:AB):Obj:={cls:= .ref C,dict:=dd,data:= .fields #[.ref t,.none,.none,.none,.bool false,.none]}
def XQ(a C:AB)(dd:Option AB)(h:Heap):Prop:=∃t,h.get? a=some (exO C dd t)
def XD(d:AB)(fs:List (Str×V))(h:Heap):Prop:=∃mA,h.Ns1 d mA/\(∀f,a4z (fs.lookup f) (mA f))/\PySem.Within mA (fs.map (·.1))
theorem XQ.ok{P:AK}{w:AI}{H:Hp}{h:Heap}{a C:AB}{dd:Option AB}(x:XQ a C dd h):M7 P w H h a (.ext (XQ a C dd)):=
 ⟨x,let ⟨t,e⟩:=x;⟨_,e⟩,fun h1 h2 ⟨t,e⟩ k=>⟨t,k _ e⟩⟩
theorem XD.ok{P:AK}{w:AI}{H:Hp}{h:Heap}{d:AB}{fs:List (Str×V)}(x:XD d fs h):M7 P w H h d (.ext (XD d fs)):=
 ⟨x,let ⟨mA,⟨o,_,_,e,_⟩,_⟩:=x;⟨o,e⟩,fun h1 h2 ⟨mA,n,r⟩ k=>⟨mA,n.at k,r⟩⟩
structure b6M(K:Frag)(C:AB):Prop where
 ov:b5C K C=true
 sa:findIn K (.ref C) "__setattr__"=some (some (.builtin "object.__setattr__"))
 ga:findIn K (.ref C) "__getattribute__"=some (some (.builtin "BaseException.__getattribute__"))
 gg:findIn K (.ref C) "__getattr__"=some none
 ex:a5S K C=true
section
variable {X:Cx}{pins:List (AB×Obj)}{σ:L2.St}{H:Hp}{s:AC}{a C d:AB}
end
def Df0(K:AD)(x:Str)(st:Stmt):Prop:=∃f fd,PySem.W.nsIn K mainGlobals x=some (some (.ref f))/\Fun K x x st f fd
def Df(K:AD)(mg:Str->Option AA)(x:Str)(st:Stmt):Prop:=∃f fd,Fun K x x st f fd/\mg x=some (.ref f)
theorem b4P{K:AD}{x:Str}{st:Stmt}{f:AB}{oc:AA}{od an:Option AB}{osl:Array (Option AA)}{kV doc pm cdv ct:AA}(a:PySem.W.nsIn K mainGlobals x=some (some (.ref f)))
 (l:K.lookup f=some ⟨oc,od,.func (PySem.W.fnOf x x (Q5 st) (D0 st) (i4 st) .none kV doc pm an cdv ct),osl⟩) (c:PySem.W.codeIn K cdv x=true) (k:PySem.W.keepIn K (.ref f)=true):Df0 K x st:=⟨_,_,a,b1M l c k⟩
theorem Df0.to{K:AD}{h:Heap}{mg:Str->Option AA}{x:Str}{st:Stmt}(d:Df0 K x st)(X:K.In h)(G:h.Ns mainGlobals mg):Df K mg x st:=let ⟨f,fd,a,F⟩:=d;⟨f,fd,F,PySem.W.mg_of X G a⟩
theorem mkS{N P:List Str}{sc:Scope}(h1:sc.kind= .function:=by rfl)(h2:sc.isCoroutine=false:=by rfl)(h3:sc.isGenerator=false:=by rfl)(h4:N.Nodup:=by decide+kernel)(h5:N.take P.length=P:=by rfl)
 (h6:∀x∈P,sc.names.lookup x=some .local\/sc.names.lookup x=some .cell:=by decide+kernel) (h7:∀y∈sc.names,y.2≠.free:=by decide+kernel):m5 N P sc:=⟨h1,h2,h3,h4,h5,h6,h7⟩
section
variable {P:AK}{w:AI}{K:AD}{mg:Str->Option AA}{base:Heap}
theorem p4{x:Str}{st:Stmt}{N ps:List Str}{k:Nat}{m:MS}(D:Df K mg x st)(S:m5 N ps (i4 st))
 (hi:∀(kV doc pm:AA) (an:Option AB) (cdv ct:AA) (us:List AA),us.length=ps.length->bindArgs (PySem.W.fnOf x x (Q5 st) (D0 st) (i4 st) .none kV doc pm an cdv ct) ⟨us,[]⟩=pure (ps.zip us))
 (hb:∀(f:AB) (cdv:AA) (A:AJ) (outer:List Env) (s:AC) (H:Hp) (E:XK),J3 k (A.deeper (envOfC x (i4 st) s.heap.objs.size f cdv))->ESs (a19 CX0 P w K mg base N x (i4 st) f cdv A outer s H E).nox (D0 st) m):
 n6 P w K mg base x ps (k+1) (v6 (N.length - ps.length) m):=
 let ⟨f,fd,F,hm⟩:=D
 ⟨f,fd,b4Z F S (hb f),hm,F.kp,F.binds hi⟩
theorem b3M{fa:AB}{st:Stmt}{x:Str}{k:Nat}{g:List PV->Option e8}(D:Df K mg "law" st)(hfa:mg "law"=some (.ref fa))
 (hi:∀(kV doc pm:AA) (an:Option AB) (cdv ct v:AA),bindArgs (PySem.W.fnOf "law" "law" (Q5 st) (D0 st) (i4 st) .none kV doc pm an cdv ct) ⟨[v],[]⟩=pure [(x,v)])
 (main:∀ns:List Int,ns.length<=63->g [.list (ns.map .int)]=some (.val (.bool true)))
 (H:∀(base:Heap) (f:AB) (fd:FuncData),K.In base->Fun K "law" "law" st f fd->R3 P w K mg base CX0 k f fd [x] (spP K 1 g)):
 ∃fd:FuncData,(∀(s:AC) (v:AA),BindsTo s fd ⟨[v],[]⟩ [(x,v)])/\∀base:Heap,K.In base->base.Ns mainGlobals mg->R3 P w K mg base CX0 k fa fd [x] (a8v K):=by
 obtain⟨f,fd,F,hm⟩:=D
 have e:=hfa.symm.trans hm
 cases e
 refine⟨fd,fun s v=> ?_,fun base kb _=>(H base _ fd kb F).imp (b3N main)⟩
 obtain⟨oc,od,kV,doc,pm,an,cdv,ct,osl,rfl,lk,hcd⟩:=F.ex
 exact .of_eq (hi kV doc pm an cdv ct v)
end
theorem el1{C:List AA->Prop}(h:∀a,C [a])(us:List AA)(e:us.length=1):C us:=by
 obtain⟨a,rfl⟩:=List.length_eq_one_iff.mp e
 exact h a
theorem elS{n:Nat}{us:List AA}(e:us.length=n+1):∃a t,us=a::t/\t.length=n:=by
 cases us with
 |nil=>cases e
 |cons a t=>exact⟨a,t,rfl,Nat.succ.inj e⟩
theorem el2{C:List AA->Prop}(h:∀a b,C [a,b])(us:List AA)(e:us.length=2):C us:=by
 obtain⟨a,t,rfl,z⟩:=elS e
 exact el1 (C:=fun t=>C (a::t)) (h a) t z
theorem el3{C:List AA->Prop}(h:∀a b c,C [a,b,c])(us:List AA)(e:us.length=3):C us:=by
 obtain⟨a,t,rfl,z⟩:=elS e
 exact el2 (C:=fun t=>C (a::t)) (h a) t z
theorem el4{C:List AA->Prop}(h:∀a b c d,C [a,b,c,d])(us:List AA)(e:us.length=4):C us:=by
 obtain⟨a,t,rfl,z⟩:=elS e
 exact el3 (C:=fun t=>C (a::t)) (h a) t z
section
variable {K:AD}{F:Hp}
end
section
variable {X:Cx}
end
section
variable {P:AK}{w:AI}{K:AD}{mg:Str->Option AA}{base:Heap}
def Dm(K:AD)(x qual:Str)(st:Stmt)(f:AB):Prop:=PySem.W.isFn K (.ref f)=true/\∃fd,Fun K x qual st f fd
theorem b6Z{x qual:Str}{st:Stmt}{f:AB}{oc:AA}{od an:Option AB}{osl:Array (Option AA)}{kV doc pm cdv ct:AA}
 (l:K.lookup f=some ⟨oc,od,.func (PySem.W.fnOf x qual (Q5 st) (D0 st) (i4 st) .none kV doc pm an cdv ct),osl⟩) (c:PySem.W.codeIn K cdv qual=true) (k:PySem.W.keepIn K (.ref f)=true) (i:PySem.W.isFn K (.ref f)=true):Dm K x qual st f:=⟨i,_,b1M l c k⟩
end
section
variable {X:Cx}
end
def sX(K:Frag)(ta tv:TE)(f:Str):TS:=fun D σ H=>tv σ H fun y H1=>ta σ H1 fun x H2=>∃a C,x= .ref a/\b6M K C/\b5h K C f/\
 ((H2 a=some (.ext (XQ a C none))/\∀d,d≠a->H2 d=none->D.nx σ (upd (upd H2 d (.ext (XD d [(f,y)]))) a (.ext (XQ a C (some d)))))\/
  ∃d fs,H2 a=some (.ext (XQ a C (some d)))/\H2 d=some (.ext (XD d fs))/\fs.length<1000/\D.nx σ (upd H2 d (.ext (XD d (b7s f y fs)))))
section
variable {X:Cx}
end
section
variable {X:Cx}{pins:List (AB×Obj)}{σ:L2.St}{H:Hp}{s:AC}
end
section
variable {X:Cx}{x:Str}{C:AB}{np cpos pos:Pos}{e₀:AF}{u9:List AF}{t:TA}{W:Option AB->Hp->Prop}
end
section
variable {X:Cx}
end
section
variable {X:Cx}
end
structure KX(K:Frag)(x:Str)(C:AB):Prop where
 cls:b6M K C
 named:P0 K x C
section
variable {P:AK}{w:AI}{K:Frag}{mg:Str->Option AA}{base:Heap}
end
section
variable {K:AD}{mg:Str->Option AA}{E:L2.St->XK}{F0 H0 F1:Hp}{body:MX}{tg:PV->c7->Option c7}{g:TG}{ps:List PV}{fl:FX}{D:P4}{k:Nat}{p:PV}{x:V}{σ σ0:L2.St}{H:Hp}
end
section
variable {X:Cx}{E:L2.St->XK}
end
def byT(w:AI):Bool:=w.params.followText "set-order"
def b0p(prog:AK)(w:AI)(h:Heap)(a:AB)(es:Array (Int×AA))(ep:Nat):Prop:=
 ∃o t,h.get? a=some o/\o.ExactSet/\o.data= .set es ep t/\ElemsOf (a4u prog w) es.toList/\es.size<scanBound/\t.fits es.size=true/\t.led= !byT w/\(es.size≠0->t.plain=false)
def sOf:AA->Str
 | .str x _=>x
 |_=>⟨#[]⟩
abbrev b45(es:Array (Int×AA)):List Str:=es.toList.map fun e=>sOf e.2
structure TxE(es:Array (Int×AA))(zs:List Str):Prop where
 all:∀e∈es.toList,∃x t,e.2= .str x t
 nd:(b45 es).Nodup
 mem:∀x,x∈b45 es↔x∈zs
theorem b0p.at'{prog:AK}{w:AI}{h h':Heap}{a:AB}{es:Array (Int×AA)}{ep:Nat}(x:b0p prog w h a es ep)(e:∀o,h.get? a=some o->h'.get? a=some o):b0p prog w h' a es ep:=
 let ⟨o,t,ho,r⟩:=x;⟨o,t,e _ ho,r⟩
section
variable {prog:AK}{w:AI}{A:AJ}{E:AA->AC->Prop}{s:AC}
theorem TxE.perm{es es':Array (Int×AA)}{zs:List Str}(p:es'.toList.Perm es.toList)(T:TxE es zs):TxE es' zs where
 all:=fun e he=>T.all e (p.mem_iff.mp he)
 nd:=((p.map _).nodup_iff).mpr T.nd
 mem:=fun x=>((p.map _).mem_iff).trans (T.mem x)
end
end PU
set_option maxHeartbeats 3200000
namespace PU
open PySem PySem.Spec PyProof.Rows L2 PySem.W
section
variable {prog:AK}{w:AI}{A:AJ}{E:AA->AC->Prop}{s:AC}
end
end PU
set_option maxHeartbeats 1000000
namespace PU
open PySem PySem.Spec PyProof.Rows L2 PySem.W
def a7H(h:Heap)(it:AB)(first:AA)(i:Nat)(a:AB)(n ep:Nat):Prop:=∃o,h.get? it=some o/\o.cls= .type "set_iterator"/\o.data= .fields #[first,.int i 0,.ref a,.int n 0,.int ep 0]
theorem a7H.typeIs{s:AC}{it:AB}{first:AA}{i:Nat}{a:AB}{n ep:Nat}(x:a7H s.heap it first i a n ep):s.TypeIs (.ref it) "set_iterator":=let ⟨o,ho,hc,_⟩:=x;⟨o,ho,hc⟩
theorem a7H.at'{h h':Heap}{it:AB}{first:AA}{i:Nat}{a:AB}{n ep:Nat}(x:a7H h it first i a n ep)(e:∀o,h.get? it=some o->h'.get? it=some o):a7H h' it first i a n ep:=let ⟨o,ho,r⟩:=x;⟨o,e _ ho,r⟩
section
variable {prog:AK}{w:AI}{A:AJ}{E:AA->AC->Prop}{s:AC}{it a:AB}{i ep:Nat}{es:Array (Int×AA)}
theorem b0p.typeIs(x:b0p prog w s.heap a es ep):s.TypeIs (.ref a) "set":=let ⟨o,_,ho,hc,_⟩:=x;⟨o,ho,hc.1⟩
end
section
variable {prog:AK}{w:AI}{A:AJ}{E:AA->AC->Prop}{s:AC}{it a:AB}{i ep:Nat}{es:Array (Int×AA)}
end
section
variable {prog:AK}{w:AI}{A:AJ}{E:AA->AC->Prop}{s:AC}{a:AB}{ep:Nat}{es:Array (Int×AA)}
end
section
variable {prog:AK}{w:AI}{A:AJ}{E:AA->AC->Prop}{s:AC}{a:AB}{ep:Nat}{es:Array (Int×AA)}
end
section
variable {X:Cx}{pins:List (AB×Obj)}{σ:L2.St}{H:Hp}{s:AC}
end
open PySem PySem.Spec PyProof.Rows L2
section
variable {X:Cx}
end
mutual
def nd:PV->Bool
 | .list ps=>ndL ps
 | .tuple ps=>ndL ps
 | .dict ((.tuple _,_)::_)=>false
 | .dict ((.str _,.bool false)::_)=>false
 | .dict ((.str _,.int _)::_)=>false
 |_=>true
def ndL:List PV->Bool
 |[]=>true
 |p::ps=>nd p && ndL ps
end
section
variable {K:AD}{F:Hp}{a:AB}{xs:List (List u7×V)}
end
section
variable {X:Cx}
end
section
variable {prog:AK}{w:AI}{K:Type}[DecidableEq K]{kd:KeyKind prog w K}{A:AJ}{E:AA->AC->Prop}{s:AC}
end
section
variable {X:Cx}{pins:List (AB×Obj)}{σ:L2.St}{H:Hp}{s:AC}{a:AB}{kvs:List (List u7×V)}{A:AJ}{E:AA->AC->Prop}
end
section
variable {X:Cx}{o i:AF}{td ty:TE}
end
section
variable {X:Cx}
end
theorem v4.txt{K:AD}{F H:Hp}{a:AB}(s:l7 F H)(n:H a=none):v4 K F H F (upd H a (.dK [])) (.ref a) (.ow (.txt [])):=
 ⟨Ext.layH s n,⟨a,[],rfl,s.free n,t7,rfl⟩,fun _ _ _ e=>by cases e;exact n⟩
section
variable {X:Cx}
end
abbrev ItO(f0:AA)(f1:Bool)(d:AB)(i n ep:Nat)(ok ov:AA):Obj:={cls:= .type "dict_itemiterator",dict:=none,data:= .fields #[f0,.bool f1,.ref d,.int i 0,.int n 0,.int ep 0,ok,ov],slots:= #[]}
def ItA(h:Heap)(it d:AB)(i n ep:Nat):Prop:=∃f0 f1 ok ov,h.get? it=some (ItO f0 f1 d i n ep ok ov)/\((f0= .none/\f1=false)\/∃a o,f0=rawInt (a:Nat)/\h.get? a=some o/\a≠it)
theorem ItA.at'{h h':Heap}{it d:AB}{i n ep:Nat}(x:ItA h it d i n ep)(e:∀b o,h.get? b=some o->h'.get? b=some o):ItA h' it d i n ep:=by
 obtain⟨f0,f1,ok,ov,h1,h2⟩:=x
 refine⟨f0,f1,ok,ov,e _ _ h1, ?_⟩
 rcases h2 with h2|⟨a,o,h2,h3,h4⟩
 ·exact .inl h2
 ·exact .inr ⟨a,o,h2,e _ _ h3,h4⟩
section
variable {prog:AK}{w:AI}{K:Type}[DecidableEq K]{knd:KeyKind prog w K}{A:AJ}{E:AA->AC->Prop}{s:AC}
end
section
variable {prog:AK}{w:AI}{A:AJ}{E:AA->AC->Prop}{s:AC}
def a8O(h:Heap)(lo:Nat)(v:AA)(kv:u7×AA):Prop:=∃a key,v= .ref a/\lo<=a/\b13 kv.1 key=true/\h.get? a=some {cls:= .type "tuple",data:= .seq #[key,kv.2]}
theorem a8O.keep{h h':Heap}{lo:Nat}{v:AA}{kv:u7×AA}(x:a8O h lo v kv)(e:∀b o,lo<=b->(∀xs n,o.data= .seq xs n->o.cls= .type "tuple"->h.get? b=some o->h'.get? b=some o)):a8O h' lo v kv:=
 let ⟨a,key,r,l,k,g⟩:=x;⟨a,key,r,l,k,e a _ l _ _ rfl rfl g⟩
end
end PU
namespace TS
open PySem PySem.Spec PyProof.Rows L2 PU
section
variable {prog:AK}{w:AI}{A:AJ}{E:AA->AC->Prop}{s:AC}
variable {κ:SortKind}{S:Heap->Keyed->Prop}{R:Heap->Keyed->Keyed->Bool}
end
end TS
namespace PU
open PySem PySem.Spec PyProof.Rows L2 PySem.W
section
variable {X:Cx}{pins:List (AB×Obj)}{σ:L2.St}{H H':Hp}{s:AC}{h':Heap}
theorem j7.many{t':Nat}(I:j7 X pins σ H s)(k:∀b u,s.heap.get? b=some u->h'.get? b=some u)(old:∀b,b<s.heap.objs.size->H' b=H b)(new:∀b o,s.heap.objs.size<=b->H' b=some o->M7 X.prog X.w H' h' b o):
 j7 X pins σ H' {s with heap:=h',toks:=t'}:=by
 have tr:∀b o,H b=some o->H' b=some o:=fun b o e=>by rw [old b (I.hok.lt e)];exact e
 refine I.un ⟨fun b u q _ _ _=>k b u q,fun b u q _ _ _=>⟨u.slots,k b u q⟩,fun b u q n _=>by rw [old b (Ac q)];exact n,fun b u q _=>⟨u,k b u q⟩,fun b xs q=>tr b _ q,fun b u xs q=>tr b _ q,fun b ps q=>⟨#[],by rw [tr b _ q];simp⟩⟩ fun b o e=> ?_
 rcases Nat.lt_or_ge b s.heap.objs.size with hb|hb
 ·rw [old b hb] at e
  exact(I.hok b o e).stay (fun c v _ q=>k c v q) (fun c q=>tr c _ q) fun c xs q=>tr c _ q
 ·exact new b o hb e
end
section
variable {X:Cx}
end
section
variable {X:Cx}
end
open PySem PySem.Spec PyProof.Rows L2
section
variable {X:Cx}{pins:List (AB×Obj)}{σ:L2.St}{H:Hp}{s:AC}{a:AB}{kvs:List (u7×V)}{k:u7}{v:V}{u r:AA}{A:AJ}{E:AA->AC->Prop}
end
theorem b2W{K:AD}{H:Hp}{a D:AB}{xs:List V}{kvs kvs':List (u7×V)}(e:H D=some (.dK kvs))(h:SqT K H a xs):SqT K (upd H D (.dK kvs')) a xs:=by
 rcases h with(h|⟨o,h⟩)|h
 ·exact .inl (.inl (by rw [j0 (a8c h e (fun z=>nomatch z))];exact h))
 ·exact .inl (.inr ⟨o,by rw [j0 (a8c h e (fun z=>nomatch z))];exact h⟩)
 ·exact .inr h
def b1i(K:AD)(H:Hp)(p:u7×V)(x:V):Prop:=∃a,x= .ref a/\SqT K H a [kV p.1,p.2]
theorem b1i.upd{K:AD}{H:Hp}{D:AB}{kvs kvs':List (u7×V)}(e:H D=some (.dK kvs)){p:u7×V}{x:V}(h:b1i K H p x):b1i K (upd H D (.dK kvs')) p x:=
 let ⟨a,h1,h2⟩:=h
 ⟨a,h1,b2W e h2⟩
section
variable {X:Cx}{pins:List (AB×Obj)}{σ:L2.St}{A:AJ}{R:Result->AC->Prop}
end
section
variable {X:Cx}
end
section
variable {X:Cx}
end
abbrev tv(kvs:List (List u7×PV)):PV:= .dict (kvs.map fun kv=>(PyData.tuple (kv.1.map kP),kv.2))
section
variable {X:Cx}
end
mutual
def nk:PV->Bool
 | .list ps=>nkL ps
 | .tuple ps=>nkL ps
 | .dict _=>false
 |_=>true
def nkL:List PV->Bool
 |[]=>true
 |p::ps=>nk p && nkL ps
end
section
variable {K:AD}{F:Hp}{a:AB}{xs:List (u7×V)}
end
section
variable {X:Cx}
end
structure ZA(z TI TO i1 i2:AB):Prop where
 TIz:TI≠z
 TOz:TO≠z
 i1z:i1≠z
 i2z:i2≠z
 TITO:TI≠TO
 TIi1:TI≠i1
 TIi2:TI≠i2
 TOi1:TO≠i1
 TOi2:TO≠i2
 i12:i1≠i2
section
variable {prog:AK}{w:AI}{A:AJ}{E:AA->AC->Prop}{s:AC}{z TI TO i1 i2:AB}{n1 n2 i:Nat}{P1 P2:Nat->AA->Prop}{St1 St2:Nat->Heap->Prop}{a b:AA}
theorem a3G{Q:AA->AC->Prop}(D:ZA z TI TO i1 i2)(D1:∀A',A'.handled=none->Draws prog w A' i1 [i1] n1 P1 St1)(D2:∀A',A'.handled=none->Draws prog w A' i2 [i2] n2 P2 St2)(hh:A.handled=none)
 (hz:IsZip s.heap z TI TO .none) (hTI:IsPair s.heap TI (.ref i1) (.ref i2)) (hTO:IsPair s.heap TO a b) (h1:St1 i s.heap) (h2:St2 i s.heap) (l1:i<n1) (l2:i<n2)
 (hQ:∀x y h' tk,P1 i x->P2 i y->IsZip h' z TI TO (rawInt s.heap.objs.size)->IsPair h' TO x y->St1 (i+1) h'->St2 (i+1) h'->IsPair h' s.heap.objs.size x y->h'.objs.size=s.heap.objs.size+1->
  (∀c o,c≠z->c≠TO->c≠i1->c≠i2->s.heap.get? c=some o->h'.get? c=some o)->Q (.ref s.heap.objs.size) {s with heap:=h',toks:=tk}):
 AH (model prog w) A (Builtin.«zip.__next__» ⟨[.ref z],[]⟩) (fun fin s'=>∃v,fin= .done (.ret v)/\Q v s') E s:=by
 show AH _ _ (field (.ref z) 2>>=_) _ _ _
 refine AG (wpAny_field hz rfl (x:= .bool false) rfl ?_)
 show AH _ _ (field (.ref z) 3>>=_) _ _ _
 refine AG (wpAny_field hz rfl (x:= .ref TI) rfl ?_)
 refine AG (wpAny_seqItems hTI rfl ?_)
 show AH _ _ (Builtin.SmallTypes.ownedTupleIsFree (.ref z)>>=_) _ _ _
 refine AG ?_
 unfold Builtin.SmallTypes.ownedTupleIsFree
 refine AG (wpAny_field hz rfl (x:= .none) rfl (AV ?_))
 simp only [if_true]
 refine AG (wpAny_rule ?_)
 refine AG (wpAny_field hz rfl (x:= .ref TO) rfl ?_)
 refine AG (wpAny_setField_rec hz (by simp) fun h₁ hz₁ hs₁=> ?_)
 replace hz₁:IsZip h₁ z TI TO .ellipsis:=hz₁
 refine AG ?_
 simp only [List.zipIdx_cons,List.zipIdx_nil,List.forIn_cons,List.forIn_nil]
 have f1:∀{x:AB} {h h':Heap} {i},x≠i1->Heap.SameBut x h h'->St1 i h->St1 i h':=fun n k st=>(D1 A hh).frame _ _ _ st fun b hb o e=>by
  have hb:b=i1:=by simpa using hb
  exact k.extBut _ _ (by rw [hb];exact Ne.symm n) e
 have f2:∀{x:AB} {h h':Heap} {i},x≠i2->Heap.SameBut x h h'->St2 i h->St2 i h':=fun n k st=>(D2 A hh).frame _ _ _ st fun b hb o e=>by
  have hb:b=i2:=by simpa using hb
  exact k.extBut _ _ (by rw [hb];exact Ne.symm n) e
 refine AG (AG (wpAny_onRaise ?_))
 show AH _ _ (Builtin.SmallTypes.nextOf (.ref i1)>>=_) _ _ _
 refine AG ((D1 _ hh).item i _ _ _ l1 (f1 D.i1z.symm hs₁ h1) fun x h₂ tk₂ px h1₂ hs₂=>AV ?_)
 have hTO₂:IsPair h₂ TO a b:=hs₂.extBut _ _ D.TOi1 (hs₁.extBut _ _ D.TOz hTO)
 refine AG (wpAny_seqItems hTO₂ rfl ?_)
 refine AG (wpAny_updateSeq_pair hTO₂ fun h₃ hTO₃ hs₃=> ?_)
 replace hTO₃:IsPair h₃ TO x b:=hTO₃
 refine AG (wpAny_letGo (AV ?_))
 refine AG (AG (wpAny_onRaise ?_))
 show AH _ _ (Builtin.SmallTypes.nextOf (.ref i2)>>=_) _ _ _
 refine AG ((D2 _ hh).item i _ _ _ l2 (f2 D.TOi2 hs₃ (f2 D.i12 hs₂ (f2 D.i2z.symm hs₁ h2))) fun y h₄ tk₄ py h2₄ hs₄=>AV ?_)
 have hTO₄:IsPair h₄ TO x b:=hs₄.extBut _ _ D.TOi2 hTO₃
 refine AG (wpAny_seqItems hTO₄ rfl ?_)
 refine AG (wpAny_updateSeq_pair hTO₄ fun h₅ hTO₅ hs₅=> ?_)
 replace hTO₅:IsPair h₅ TO x y:=hTO₅
 refine AG (wpAny_letGo (AV (AV ?_)))
 refine AG (wpAny_seqItems hTO₅ rfl ?_)
 refine AG (wpAny_newTuple ?_)
 have hsz:h₅.objs.size=s.heap.objs.size:=by rw [hs₅.1,hs₄.1,hs₃.1,hs₂.1,hs₁.1]
 have hz₅:IsZip h₅ z TI TO .ellipsis:=hs₅.extBut _ _ D.TOz.symm (hs₄.extBut _ _ D.i2z.symm (hs₃.extBut _ _ D.TOz.symm (hs₂.extBut _ _ D.i1z.symm hz₁)))
 have hk₅:∀c o,c≠z->c≠TO->c≠i1->c≠i2->s.heap.get? c=some o->h₅.get? c=some o:=fun c o c1 c2 c3 c4 e=>
  hs₅.extBut _ _ c2 (hs₄.extBut _ _ c4 (hs₃.extBut _ _ c2 (hs₂.extBut _ _ c3 (hs₁.extBut _ _ c1 e))))
 have h1₅:St1 (i+1) h₅:=f1 D.TOi1 hs₅ (f1 D.i12.symm hs₄ (f1 D.TOi1 hs₃ h1₂))
 have h2₅:St2 (i+1) h₅:=f2 D.TOi2 hs₅ h2₄
 have hzlt:z<h₅.objs.size:=Ac hz₅
 have hTOlt:TO<h₅.objs.size:=Ac hTO₅
 have hi1lt:i1<h₅.objs.size:=by obtain⟨_,e⟩:=(D1 A hh).live _ _ h1₅;exact Ac e
 have hi2lt:i2<h₅.objs.size:=by obtain⟨_,e⟩:=(D2 A hh).live _ _ h2₅;exact Ac e
 show AH _ _ (Builtin.SmallTypes.ownedTupleHandOut (.ref z) (.ref h₅.objs.size)>>=_) _ _ _
 refine AG ?_
 unfold Builtin.SmallTypes.ownedTupleHandOut
 have hz₆:IsZip (h₅.push {cls:= .type "tuple",data:= .seq #[x,y]}) z TI TO .ellipsis:=Al _ hz₅
 refine AG (wpAny_setField_rec hz₆ (by simp) fun h₇ hz₇ hs₇=> ?_)
 replace hz₇:IsZip h₇ z TI TO (rawInt h₅.objs.size):=hz₇
 refine wpAny_setField_rec hz₇ (by simp) fun h₈ hz₈ hs₈=> ?_
 replace hz₈:IsZip h₈ z TI TO (rawInt h₅.objs.size):=hz₈
 have up:∀c o,c≠z->h₅.get? c=some o->h₈.get? c=some o:=fun c o c1 e=>hs₈.extBut _ _ c1 (hs₇.extBut _ _ c1 (Al _ e))
 have hT₈:IsPair h₈ h₅.objs.size x y:=hs₈.extBut _ _ (Nat.ne_of_gt hzlt) (hs₇.extBut _ _ (Nat.ne_of_gt hzlt) (Aw _ rfl))
 have hz8:h₈.objs.size=h₅.objs.size+1:=by rw [hs₈.1,hs₇.1,Heap.size_push]
 rw [hsz] at hz₈ hT₈ hz8
 refine AV ⟨_,rfl, ?_⟩
 show Q (.ref h₅.objs.size) _
 rw [hsz]
 refine hQ x y h₈ _ px py hz₈ (up _ _ D.TOz hTO₅) ?_ ?_ hT₈ hz8 fun c o c1 c2 c3 c4 e=>up c o c1 (hk₅ c o c1 c2 c3 c4 e)
 ·refine(D1 A hh).frame _ _ _ h1₅ fun b hb o e=>up b o ?_ e
  rw [List.mem_singleton.mp hb]
  exact D.i1z
 ·refine(D2 A hh).frame _ _ _ h2₅ fun b hb o e=>up b o ?_ e
  rw [List.mem_singleton.mp hb]
  exact D.i2z
theorem a5M{Q:PySem.Fin->AC->Prop}(D:ZA z TI TO i1 i2)(D1:∀A',A'.handled=none->Draws prog w A' i1 [i1] n1 P1 St1)(D2:∀A',A'.handled=none->Draws prog w A' i2 [i2] n2 P2 St2)(hh:A.handled=none)
 (hz:IsZip s.heap z TI TO .none) (hTI:IsPair s.heap TI (.ref i1) (.ref i2)) (hTO:IsPair s.heap TO a b) (h1:St1 i s.heap) (h2:St2 i s.heap) (l1:i<=n1) (l2:i<=n2) (hend:i=n1\/i=n2)
 (hE:∀h' e tk,(∀c o,c≠z->c≠TO->c≠i1->c≠i2->s.heap.get? c=some o->h'.get? c=some o)->(∃o,h'.get? e=some o/\o.cls= .type "StopIteration")->E (.ref e) {s with heap:=h',toks:=tk}):
 AH (model prog w) A (Builtin.«zip.__next__» ⟨[.ref z],[]⟩) Q E s:=by
 show AH _ _ (field (.ref z) 2>>=_) _ _ _
 refine AG (wpAny_field hz rfl (x:= .bool false) rfl ?_)
 show AH _ _ (field (.ref z) 3>>=_) _ _ _
 refine AG (wpAny_field hz rfl (x:= .ref TI) rfl ?_)
 refine AG (wpAny_seqItems hTI rfl ?_)
 show AH _ _ (Builtin.SmallTypes.ownedTupleIsFree (.ref z)>>=_) _ _ _
 refine AG ?_
 unfold Builtin.SmallTypes.ownedTupleIsFree
 refine AG (wpAny_field hz rfl (x:= .none) rfl (AV ?_))
 simp only [if_true]
 refine AG (wpAny_rule ?_)
 refine AG (wpAny_field hz rfl (x:= .ref TO) rfl ?_)
 refine AG (wpAny_setField_rec hz (by simp) fun h₁ hz₁ hs₁=> ?_)
 replace hz₁:IsZip h₁ z TI TO .ellipsis:=hz₁
 refine AG ?_
 simp only [List.zipIdx_cons,List.zipIdx_nil,List.forIn_cons,List.forIn_nil]
 have f1:∀{x:AB} {h h':Heap} {i},x≠i1->Heap.SameBut x h h'->St1 i h->St1 i h':=fun n k st=>(D1 A hh).frame _ _ _ st fun b hb o e=>by
  have hb:b=i1:=by simpa using hb
  exact k.extBut _ _ (by rw [hb];exact Ne.symm n) e
 have f2:∀{x:AB} {h h':Heap} {i},x≠i2->Heap.SameBut x h h'->St2 i h->St2 i h':=fun n k st=>(D2 A hh).frame _ _ _ st fun b hb o e=>by
  have hb:b=i2:=by simpa using hb
  exact k.extBut _ _ (by rw [hb];exact Ne.symm n) e
 refine AG (AG (wpAny_onRaise ?_))
 show AH _ _ (Builtin.SmallTypes.nextOf (.ref i1)>>=_) _ _ _
 by_cases hx:i=n1
 ·subst hx
  refine AG ((D1 _ hh).done _ _ _ (f1 D.i1z.symm hs₁ h1) fun h₂ e hs₂ he=> ?_)
  obtain⟨oe,hoe,hce⟩:=he
  have hz₂:IsZip h₂ z TI TO .ellipsis:=hs₂ _ _ D.i1z.symm hz₁
  have hez:e≠z:=fun x=>by subst x;rw [hz₂] at hoe;cases hoe;simp at hce
  exact wpAny_setField_rec hz₂ (by simp) fun h₃ _ hs₃=>hE h₃ e _ (fun c o c1 _ c3 _ x=>hs₃.extBut _ _ c1 (hs₂ _ _ c3 (hs₁.extBut _ _ c1 x))) ⟨oe,hs₃.extBut _ _ hez hoe,hce⟩
 ·have hy:i=n2:=hend.resolve_left hx
  subst hy
  refine AG ((D1 _ hh).item i _ _ _ (Nat.lt_of_le_of_ne l1 hx) (f1 D.i1z.symm hs₁ h1) fun x h₂ tk₂ px h1₂ hs₂=>AV ?_)
  have hTO₂:IsPair h₂ TO a b:=hs₂.extBut _ _ D.TOi1 (hs₁.extBut _ _ D.TOz hTO)
  refine AG (wpAny_seqItems hTO₂ rfl ?_)
  refine AG (wpAny_updateSeq_pair hTO₂ fun h₃ hTO₃ hs₃=> ?_)
  refine AG (wpAny_letGo (AV ?_))
  refine AG (AG (wpAny_onRaise ?_))
  show AH _ _ (Builtin.SmallTypes.nextOf (.ref i2)>>=_) _ _ _
  refine AG ((D2 _ hh).done _ _ _ (f2 D.TOi2 hs₃ (f2 D.i12 hs₂ (f2 D.i2z.symm hs₁ h2))) fun h₄ e hs₄ he=> ?_)
  obtain⟨oe,hoe,hce⟩:=he
  have hz₄:IsZip h₄ z TI TO .ellipsis:=hs₄ _ _ D.i2z.symm (hs₃.extBut _ _ D.TOz.symm (hs₂.extBut _ _ D.i1z.symm hz₁))
  have hez:e≠z:=fun x=>by subst x;rw [hz₄] at hoe;cases hoe;simp at hce
  exact wpAny_setField_rec hz₄ (by simp) fun h₅ _ hs₅=>hE h₅ e _ (fun c o c1 c2 c3 c4 x=>hs₅.extBut _ _ c1 (hs₄ _ _ c4 (hs₃.extBut _ _ c2 (hs₂.extBut _ _ c3 (hs₁.extBut _ _ c1 x))))) ⟨oe,hs₅.extBut _ _ hez hoe,hce⟩
theorem a3A{Q:Option AA->AC->Prop}(D:ZA z TI TO i1 i2)(D1:∀A',A'.handled=none->Draws prog w A' i1 [i1] n1 P1 St1)(D2:∀A',A'.handled=none->Draws prog w A' i2 [i2] n2 P2 St2)(hh:A.handled=none)
 (hz:IsZip s.heap z TI TO .none) (hTI:IsPair s.heap TI (.ref i1) (.ref i2)) (hTO:IsPair s.heap TO a b) (h1:St1 i s.heap) (h2:St2 i s.heap) (l1:i<n1) (l2:i<n2)
 (hQ:∀x y h' tk,P1 i x->P2 i y->IsZip h' z TI TO (rawInt s.heap.objs.size)->IsPair h' TO x y->St1 (i+1) h'->St2 (i+1) h'->IsPair h' s.heap.objs.size x y->h'.objs.size=s.heap.objs.size+1->
  (∀c o,c≠z->c≠TO->c≠i1->c≠i2->s.heap.get? c=some o->h'.get? c=some o)->Q (some (.ref s.heap.objs.size)) {s with heap:=h',toks:=tk}):
 AH (model prog w) A (pyNext (.ref z)) Q E s:=by
 have hT:s.TypeIs (.ref z) "zip":=⟨_,hz,rfl⟩
 unfold pyNext
 exact AG (wpAny_attempt (wpAny_callSpecial?_slot (name:=AN "__next__") hT F.slot_zip_next
  (wpAny_call_entry F.slot_zip_next hT F.entry_zip_next
   (a3G D D1 D2 hh hz hTI hTO h1 h2 l1 l2 fun x y h' tk p1 p2 a1 a2 a3 a4 a5 a6 a7=>AV (hQ x y h' tk p1 p2 a1 a2 a3 a4 a5 a6 a7)) (F.args_zip_next_1 _))))
theorem a4h{Q:Option AA->AC->Prop}(D:ZA z TI TO i1 i2)(D1:∀A',A'.handled=none->Draws prog w A' i1 [i1] n1 P1 St1)(D2:∀A',A'.handled=none->Draws prog w A' i2 [i2] n2 P2 St2)(hh:A.handled=none)
 (hz:IsZip s.heap z TI TO .none) (hTI:IsPair s.heap TI (.ref i1) (.ref i2)) (hTO:IsPair s.heap TO a b) (h1:St1 i s.heap) (h2:St2 i s.heap) (l1:i<=n1) (l2:i<=n2) (hend:i=n1\/i=n2)
 (hQ:∀h' tk,(∀c o,c≠z->c≠TO->c≠i1->c≠i2->s.heap.get? c=some o->h'.get? c=some o)->Q none {s with heap:=h',toks:=tk}):AH (model prog w) A (pyNext (.ref z)) Q E s:=by
 have hT:s.TypeIs (.ref z) "zip":=⟨_,hz,rfl⟩
 unfold pyNext
 refine AG (wpAny_attempt (wpAny_callSpecial?_slot (name:=AN "__next__") hT F.slot_zip_next
  (wpAny_call_entry F.slot_zip_next hT F.entry_zip_next (a5M D D1 D2 hh hz hTI hTO h1 h2 l1 l2 hend fun h' e tk hk he=> ?_) (F.args_zip_next_1 _))))
 obtain⟨o,ho,hc⟩:=he
 refine AG (wpAny_isInstance (T:="StopIteration") (b:=true) ⟨o,ho,hc⟩ isSubtype_stop ?_)
 exact AV (hQ _ _ hk)
end
theorem j7.turnedTupN{X:Cx}{pins:List (AB×Obj)}{σ:L2.St}{H:Hp}{s:AC}{h':Heap}{t':Nat}{ch:List AB}{xs:List V}(I:j7 X pins σ H s)(f:∀b∈ch,a3c X pins H b)
 (k:∀b o,b∉ch->s.heap.get? b=some o->h'.get? b=some o) (new:M7 X.prog X.w (upd H s.heap.objs.size (.tup xs)) h' s.heap.objs.size (.tup xs)):
 j7 X pins σ (upd H s.heap.objs.size (.tup xs)) {s with heap:=h',toks:=t'}:=by
 have hn:H s.heap.objs.size=none:=I.hok.fresh (AW _)
 have nb:∀b u,H b=some u->b∉ch:=fun b u q z=>by rw [(f b z).1] at q;cases q
 refine I.step (g':=s.gens) (d':=s.drawn) (ch:=ch) (fun b hb=>⟨(f b hb).2.2.2.1,(f b hb).2.1,(f b hb).2.2.2.2.1,(f b hb).2.2.2.2.2⟩) (fun b o _ _ hc q _=>k b o hc q) (fun b o _ _ hc q _=>⟨o.slots,k b o hc q⟩)
  (fun b o _ q n=>by rw [j0 (As (Ac q))];exact n) (fun b o hc q=>⟨o,k b o hc q⟩)
  (fun b xs q=>by rw [j0 (j6 q hn)];exact q) (fun b o u q=>by rw [j0 (j6 q hn)];exact q) (fun b ps q=>⟨#[],by rw [j0 (j6 q hn),q];simp⟩) (fun m hm=> ?_) (fun b u q=> ?_) I.bare
 ·obtain⟨o,es,ep,ho,r⟩:=hm
  exact⟨o,es,ep,k _ o (fun z=>(f _ z).2.1 rfl) ho,r⟩
 ·by_cases hb:b=s.heap.objs.size
  ·subst hb
   rw [t7] at q
   cases q
   exact new
  ·rw [j0 hb] at q
   refine(I.hok b u q).stay (fun c v hc y=>k c v ?_ y) (fun c y=>by rw [j0 (j6 y hn)];exact y) fun c ys y=>by rw [j0 (j6 y hn)];exact y
   rcases hc with z|z
   ·rw [z];exact nb b u q
   ·exact nb c _ z
theorem j7.turnedN{X:Cx}{pins:List (AB×Obj)}{σ:L2.St}{H:Hp}{s:AC}{h':Heap}{t':Nat}{ch:List AB}(I:j7 X pins σ H s)(f:∀b∈ch,a3c X pins H b)
 (k:∀b o,b∉ch->s.heap.get? b=some o->h'.get? b=some o):j7 X pins σ H {s with heap:=h',toks:=t'}:=by
 have nb:∀b u,H b=some u->b∉ch:=fun b u q z=>by rw [(f b z).1] at q;cases q
 refine I.step (g':=s.gens) (d':=s.drawn) (ch:=ch) (fun b hb=>⟨(f b hb).2.2.2.1,(f b hb).2.1,(f b hb).2.2.2.2.1,(f b hb).2.2.2.2.2⟩) (fun b o _ _ hc q _=>k b o hc q) (fun b o _ _ hc q _=>⟨o.slots,k b o hc q⟩)
  (fun _ _ _ _ n=>n) (fun b o hc q=>⟨o,k b o hc q⟩) (fun _ _ e=>e) (fun _ _ _ e=>e) (fun b ps e=>⟨#[],by rw [e];simp⟩) (fun m hm=> ?_) (fun b u q=> ?_) I.bare
 ·obtain⟨o,es,ep,ho,r⟩:=hm
  exact⟨o,es,ep,k _ o (fun z=>(f _ z).2.1 rfl) ho,r⟩
 ·refine(I.hok b u q).stay (fun c v hc y=>k c v ?_ y) (fun _ y=>y) fun _ _ y=>y
  rcases hc with z|z
  ·rw [z];exact nb b u q
  ·exact nb c _ z
theorem b1u:bootBuiltins "zip"=some (.type "zip"):=by decide+kernel
theorem b6K(n:Nat):ZA (n+4) (n+2) (n+3) n (n+1):=by
 exact⟨(by lia:(n+2:Nat)≠n+4),(by lia:(n+3:Nat)≠n+4),(by lia:(n:Nat)≠n+4),(by lia:(n+1:Nat)≠n+4),(by lia:(n+2:Nat)≠n+3),(by lia:(n+2:Nat)≠n),(by lia:(n+2:Nat)≠n+1),
  (by lia:(n+3:Nat)≠n),(by lia:(n+3:Nat)≠n+1),(by lia:(n:Nat)≠n+1)⟩
section
variable {X:Cx}
end
section
variable {prog:AK}{w:AI}{K:Type}[DecidableEq K]{knd:KeyKind prog w K}{A:AJ}{E:AA->AC->Prop}{s:AC}
end
section
variable {X:Cx}
end
section
variable {X:Cx}{tg:AF}
end
end PU
set_option maxHeartbeats 3200000
namespace PU
open PySem PySem.Spec PyProof.Rows L2 PySem.W
section
variable {prog:AK}{w:AI}{A:AJ}{E:AA->AC->Prop}{s:AC}
end
end PU
set_option maxHeartbeats 1000000
namespace PU
open PySem PySem.Spec PyProof.Rows L2
section
variable {X:Cx}
def b7x(X:Cx):List V->Hp->VK->Prop:=fun xs H Q=>∃(a:AB) (zs:List Str),xs=[.ref a]/\H a=some (.lst (zs.map V.str))/\zs.length+1<4096/\∀p es ep,H p=none->TxE es zs->es.size<=zs.length->Q (.ref p) (upd H p (.ext fun h=>b0p X.prog X.w h p es ep))
end
section
variable {X:Cx}
end
section
variable {X:Cx}
end
section
variable {X:Cx}
theorem N6{st:List Stmt}:ESs X st (fun _=>none):=fun pins s σ H D I h=>by
 obtain⟨F0,H0,F,ρ,fl,so,e,fin⟩:=h
 cases e
def J4(x y z:e8):Option e8:=match x,y,z with
 | .val (.str a),.val (.str b),.val (.int i)=>some (.val (.bool (fromIndex a.length i+b.length<=a.length && Builtin.Str.subAt a b (fromIndex a.length i))))
 |_,_,_=>none
def m3(g:e8->e8->e8->Option e8)(a b c:M):M:=fun ρ=>(a ρ).bind fun x=>(b ρ).bind fun y=>(c ρ).bind fun z=>g x y z
theorem b0U:MtR X "str.startswith" (fun x xs H Q=>∃F y z rx ry rz r,xs=[y,z]/\l7 F H/\J8 X.K F H x rx/\J8 X.K F H y ry/\J8 X.K F H z rz/\J4 rx ry rz=some r/\∀v F' H',v4 X.K F H F' H' v r->Q v H'):=by
 intro pins s σ H x xs v us Q I rx rv h
 obtain⟨F,y,z,ra,rb,rc,r,rfl,s0,h1,h2,h3,h4,k⟩:=h
 cases rv with
 |cons ru rv=>
  cases rv with
  |cons ru2 rv=>
   cases rv
   unfold J4 at h4
   split at h4
   ·rename_i a b i
    cases h4
    cases h1
    cases h2
    cases h3
    obtain⟨t,rfl⟩:=rx
    obtain⟨t2,rfl⟩:=ru
    obtain⟨t3,rfl⟩:=ru2
    exact call_gives PySem.F.slot_str_startswith (typeIs_str _ _ _) PySem.F.entry_str_startswith (PySem.F.args_str_startswith_3 _ _ _) (gives_str_startswith_from a b i t t2 t3) ⟨.bl _,H,I,rfl,k _ F H (v4.here s0 rfl)⟩
   ·cases h4
theorem a3j{o e f:AF}{m n l:M}{apos cpos:Pos}(ho:EE X o m)(ha:EE X e n)(hb:EE X f l)
 (hbase:attributeBase o "startswith" X.env (eval o X.env)=eval o X.env:=by rfl)
 (hfew:((backTo cpos (AM [e,f] X.env)).all (fun x=> !x.1)&&(backToKw cpos (keywordEach [] X.env)).all (fun x=>x.1.isSome)
  && decide ([e,f].length+([]:List Keyword).length+(if([]:List Keyword).isEmpty then 0 else 1)<30))=true:=by rfl)
 (hline:(apos.endLine==cpos.line)=true:=by rfl) (hs:AM [e,f] X.env=(false,eval e X.env)::AM [f] X.env:=by rfl) (hs2:AM [f] X.env=(false,eval f X.env)::AM [] X.env:=by rfl) (hplain:(backTo cpos (AM [f] X.env)).any (·.1)=false:=by rfl):
 EE X (.Call (.Attribute o "startswith" apos) [e,f] [] cpos) (m3 J4 m n l):=
 B5 (a6t PySem.F.plainAttrs_str PySem.F.slot_str_startswith PySem.F.type_str_startswith b0U ho (B9 ha (B9 hb T3 hs2) hs) hbase hfew hline hs hplain) fun σ H Q ⟨F,ρ,r,he,hm,k⟩=>by
  obtain⟨rx,e1,hm⟩:=bind_some hm
  obtain⟨ry,e2,hm⟩:=bind_some hm
  obtain⟨rz,e3,hm⟩:=bind_some hm
  refine⟨F,ρ,rx,he,e1,fun v F1 H1 o1=>⟨?_,⟨F1,ρ,ry,he.ext o1.x,e2,fun u F2 H2 o2=>⟨F2,ρ,rz,(he.ext o1.x).ext o2.x,e3,fun w F3 H3 o3=>⟨F3,u,w,rx,ry,rz,r,rfl,o3.x.fh,(o1.rep.ext o2.x).ext o3.x,o2.rep.ext o3.x,o3.rep,hm,fun z F4 H4 o4=>k z F4 H4 (v4.trans ((o1.x.trans o2.x).trans o3.x) o4)⟩⟩⟩⟩⟩
  unfold J4 at hm
  split at hm
  ·cases o1.rep;rfl
  ·cases hm
theorem C3(g:e8->e8->e8->Option e8)(a b c:M)(ρ:c7):m3 g a b c ρ=(a ρ).bind fun x=>(b ρ).bind fun y=>(c ρ).bind fun z=>g x y z:=Eq.trans rfl rfl
end
theorem el5{C:List AA->Prop}(h:∀a b c d e,C [a,b,c,d,e])(us:List AA)(e:us.length=5):C us:=by
 obtain⟨a,t,rfl,z⟩:=elS e
 exact el4 (C:=fun t=>C (a::t)) (h a) t z
end PU
set_option maxHeartbeats 2000000
namespace PU
open PySem PySem.Spec PyProof.Rows L2 PySem.W
section
variable {prog:AK}{w:AI}{A:AJ}{E:AA->AC->Prop}{s:AC}
end
section
variable {X:Cx}
end
section
variable {X:Cx}
def a9G(a b:Str)(i:Int):Int:=match Builtin.Str.occurrences a b (fromIndex a.length i) a.length 1 with
 |k::_=>(k:Int)
 |[]=> -1
def a4Q(x y z:e8):Option e8:=match x,y,z with
 | .val (.str a),.val (.str b),.val (.int i)=>some (.val (.int (a9G a b i)))
 |_,_,_=>none
theorem b3Q:MtR X "str.find" (fun x xs H Q=>∃F y z rx ry rz r,xs=[y,z]/\l7 F H/\J8 X.K F H x rx/\J8 X.K F H y ry/\J8 X.K F H z rz/\a4Q rx ry rz=some r/\∀v F' H',v4 X.K F H F' H' v r->Q v H'):=by
 intro pins s σ H x xs v us Q I rx rv h
 obtain⟨F,y,z,ra,rb,rc,r,rfl,s0,h1,h2,h3,h4,k⟩:=h
 cases rv with
 |cons ru rv=>
  cases rv with
  |cons ru2 rv=>
   cases rv
   unfold a4Q at h4
   split at h4
   ·rename_i a b i
    cases h4
    cases h1
    cases h2
    cases h3
    obtain⟨t,rfl⟩:=rx
    obtain⟨t2,rfl⟩:=ru
    obtain⟨t3,rfl⟩:=ru2
    exact call_gives PySem.F.slot_str_find (typeIs_str _ _ _) PySem.F.entry_str_find (PySem.F.args_str_find_3 _ _ _) (gives_str_find_from a b i t t2 t3) ⟨.int _,H,I.tok _,⟨_,rfl⟩,k _ F H (v4.here s0 rfl)⟩
   ·cases h4
theorem b3q{o e f:AF}{m n l:M}{apos cpos:Pos}(ho:EE X o m)(ha:EE X e n)(hb:EE X f l)
 (hbase:attributeBase o "find" X.env (eval o X.env)=eval o X.env:=by rfl)
 (hfew:((backTo cpos (AM [e,f] X.env)).all (fun x=> !x.1)&&(backToKw cpos (keywordEach [] X.env)).all (fun x=>x.1.isSome)
  && decide ([e,f].length+([]:List Keyword).length+(if([]:List Keyword).isEmpty then 0 else 1)<30))=true:=by rfl)
 (hline:(apos.endLine==cpos.line)=true:=by rfl) (hs:AM [e,f] X.env=(false,eval e X.env)::AM [f] X.env:=by rfl) (hs2:AM [f] X.env=(false,eval f X.env)::AM [] X.env:=by rfl) (hplain:(backTo cpos (AM [f] X.env)).any (·.1)=false:=by rfl):
 EE X (.Call (.Attribute o "find" apos) [e,f] [] cpos) (m3 a4Q m n l):=
 B5 (a6t PySem.F.plainAttrs_str PySem.F.slot_str_find PySem.F.type_str_find b3Q ho (B9 ha (B9 hb T3 hs2) hs) hbase hfew hline hs hplain) fun σ H Q ⟨F,ρ,r,he,hm,k⟩=>by
  obtain⟨rx,e1,hm⟩:=bind_some hm
  obtain⟨ry,e2,hm⟩:=bind_some hm
  obtain⟨rz,e3,hm⟩:=bind_some hm
  refine⟨F,ρ,rx,he,e1,fun v F1 H1 o1=>⟨?_,⟨F1,ρ,ry,he.ext o1.x,e2,fun u F2 H2 o2=>⟨F2,ρ,rz,(he.ext o1.x).ext o2.x,e3,fun w F3 H3 o3=>⟨F3,u,w,rx,ry,rz,r,rfl,o3.x.fh,(o1.rep.ext o2.x).ext o3.x,o2.rep.ext o3.x,o3.rep,hm,fun z F4 H4 o4=>k z F4 H4 (v4.trans ((o1.x.trans o2.x).trans o3.x) o4)⟩⟩⟩⟩⟩
  unfold a4Q at hm
  split at hm
  ·cases o1.rep;rfl
  ·cases hm
end
section
variable {P:AK}{w:AI}{K:AD}{mg:Str->Option AA}{base:Heap}
theorem b3x{x:Str}{st:Stmt}{N ps:List Str}{k:Nat}{m:MX}(D:Df K mg x st)(S:m5 N ps (i4 st))
 (hi:∀(kV doc pm:AA) (an:Option AB) (cdv ct:AA) (us:List AA),us.length=ps.length->bindArgs (PySem.W.fnOf x x (Q5 st) (D0 st) (i4 st) .none kV doc pm an cdv ct) ⟨us,[]⟩=pure (ps.zip us))
 (hb:∀(f:AB) (cdv:AA) (A:AJ) (outer:List Env) (s:AC) (H:Hp) (E:XK),J3 k (A.deeper (envOfC x (i4 st) s.heap.objs.size f cdv))->M8 (CX1 P w) (a19 (CX1 P w) P w K mg base N x (i4 st) f cdv A outer s H E) (fun _=>E)->EXs (a19 (CX1 P w) P w K mg base N x (i4 st) f cdv A outer s H E) (fun _=>E) (D0 st) m):
 a6G P w K mg base x ps (k+1) (b2N (N.length - ps.length) m):=
 let ⟨f,fd,F,hm⟩:=D
 ⟨f,fd,b5H F S fun cdv A outer s H E hr=>hb f cdv A outer s H E hr fun pins σ H s e s' I h=>a9e pins σ H s e s' I h,hm,F.kp,F.binds hi⟩
end
theorem b7L{l:PySem.W.OpenLaw}{q:AK}{loose:List Str}{XP:(Str->Option AA)->Heap->Prop}{YP:AI->Heap->Prop}{d:DefRec}{K:Params->AD}{x:Str}{k:Nat}(hk:k<=200)(hn:l.most=some 63)(hdf:d.params.defaults=[])
 (hY:∀(w:AI) (h:Heap),YP w h->(K w.params).In h)
 (F:∀(w:AI) (mg:Str->Option AA) (fa:AB) (h:Heap),(K w.params).In h->h.Ns mainGlobals mg->mg d.name=some (.ref fa)->
  ∃fd:FuncData,(∀(s:AC) (u:AA),BindsTo s fd ⟨[u],[]⟩ [(x,u)])/\∀base:Heap,(K w.params).In base->base.Ns mainGlobals mg->R3 l.prog w (K w.params) mg base CX0 k fa fd [x] (a8v (K w.params))):
 PySem.W.WalkO q loose XP YP l.row.toRowW d [] (fun f vs=>PySem.call f vs):=
 L2.b4H (n:=63) (k:=200) (x:=x) (CX:=fun _=>CX0) (sp:=fun w=>a8v (K w.params)) hn (by decide) hdf ⟨rfl,by decide,by decide⟩ hY (fun w mg fa h a b c=>let ⟨fd,h1,h2⟩:=F w mg fa h a b c;⟨fd,h1,fun base x y=>(h2 base x y).mono hk⟩) (fun _ _ a ns hl _ hS=>⟨a,ns,rfl,hS,hl,fun _=>rfl⟩) fun _ _ _ _ _ z=>z
open PySem PySem.Spec PyProof.Rows L2
end PU
set_option maxHeartbeats 1000000
namespace PU
open PySem PySem.Spec PyProof.Rows L2 PySem.W
def a3C(a b:Str):Int:=match Builtin.Str.lastOccurrence a b 0 a.length with
 |some i=>(i:Int)
 |none=> -1
def a3m(x y:e8):Option e8:=match x,y with
 | .val (.str z),.val (.str y)=>some (.val (.int (a3C z y)))
 |_,_=>none
section
variable {X:Cx}
theorem b2c:MtR X "str.rfind" (fun x xs H Q=>∃F y rx ry rz,xs=[y]/\l7 F H/\J8 X.K F H x rx/\J8 X.K F H y ry/\a3m rx ry=some rz/\∀v F' H',v4 X.K F H F' H' v rz->Q v H'):=by
 intro pins s σ H x xs v us Q I rx rv h
 obtain⟨F,y,ra,rb,rz,rfl,s0,h1,h2,h3,k⟩:=h
 obtain⟨u,rfl,ru⟩:=a5L rv
 unfold a3m at h3
 split at h3
 ·rename_i z y
  cases h3
  cases h1
  cases h2
  obtain⟨t,rfl⟩:=rx
  obtain⟨t2,rfl⟩:=ru
  exact call_gives PySem.F.slot_str_rfind (typeIs_str _ _ _) PySem.F.entry_str_rfind (PySem.F.args_str_rfind_2 _ _) (gives_str_rfind z y t t2) ⟨.int _,H,I.tok _,⟨_,rfl⟩,k _ F H (v4.here s0 rfl)⟩
 ·cases h3
theorem b1F{o e:AF}{m n:M}{apos cpos:Pos}(ho:EE X o m)(ha:EE X e n)
 (hbase:attributeBase o "rfind" X.env (eval o X.env)=eval o X.env:=by rfl)
 (hfew:((backTo cpos (AM [e] X.env)).all (fun x=> !x.1)&&(backToKw cpos (keywordEach [] X.env)).all (fun x=>x.1.isSome)
  && decide ([e].length+([]:List Keyword).length+(if([]:List Keyword).isEmpty then 0 else 1)<30))=true:=by rfl)
 (hline:(apos.endLine==cpos.line)=true:=by rfl) (hs:AM [e] X.env=(false,eval e X.env)::AM [] X.env:=by rfl) (hplain:(backTo cpos (AM [] X.env)).any (·.1)=false:=by rfl):
 EE X (.Call (.Attribute o "rfind" apos) [e] [] cpos) (m2 a3m m n):=
 B5 (a6t PySem.F.plainAttrs_str PySem.F.slot_str_rfind PySem.F.type_str_rfind b2c ho (B9 ha T3 hs) hbase hfew hline hs hplain) fun σ H Q ⟨F,ρ,r,he,hm,k⟩=>by
  obtain⟨rx,e1,hm⟩:=bind_some hm
  obtain⟨ry,e2,hm⟩:=bind_some hm
  refine⟨F,ρ,rx,he,e1,fun v F1 H1 o1=>⟨?_,⟨F1,ρ,ry,he.ext o1.x,e2,fun u F2 H2 o2=>⟨F2,u,rx,ry,r,rfl,o2.x.fh,o1.rep.ext o2.x,o2.rep,hm,fun z F3 H3 o3=>k z F3 H3 (v4.trans (o1.x.trans o2.x) o3)⟩⟩⟩⟩
  unfold a3m at hm
  split at hm
  ·cases o1.rep;rfl
  ·cases hm
end
open PySem PySem.Spec PyProof.Rows L2
structure FnV(K:AD)(mg:Str->Option AA)(x:Str)(f:AB):Prop where
 mg:mg x=some (.ref f)
 at_:a52 K x (.ref f)
 one:∀a,a52 K x (.ref a)->a=f
def b2k(K:AD)(x:Str)(f:AB):Bool:=K.all fun p=>match p.2.data with
 | .func fd=> !(fd.name==x)||p.1==f
 |_=>true
theorem b16{K:AD}{a:AB}{o:Obj}:K.lookup a=some o->(a,o)∈K:=by
 induction K with
 |nil=>intro h;cases h
 |cons p r ih=>
  intro h
  obtain⟨b,u⟩:=p
  rw [List.lookup_cons] at h
  split at h
  ·rename_i z
   cases h
   rw [beq_iff_eq.mp z]
   exact Af
  ·exact Ae _ (ih h)
theorem b5I{K:AD}{mg:Str->Option AA}{x:Str}{f:AB}{oc:AA}{od:Option AB}{fd:FuncData}{sl:Array (Option AA)}(hm:mg x=some (.ref f))(l:K.lookup f=some ⟨oc,od,.func fd,sl⟩)(hn:fd.name=x)(q:b2k K x f=true):FnV K mg x f:=by
 refine⟨hm,⟨f,oc,od,fd,sl,rfl,l,hn⟩,fun a h=> ?_⟩
 obtain⟨b,oc',od',fd',sl',e,l',hn'⟩:=h
 cases e
 have:=List.all_eq_true.mp q _ (b16 l')
 simp only [hn',beq_self_eq_true,Bool.not_true,Bool.false_or] at this
 exact beq_iff_eq.mp this
abbrev a7W(x:Str):PV:= .dict [(.str x,.none)]
section
variable {X:Cx}
theorem b4R{x:Str}{f:AB}{pos:Pos}(v:FnV X.K X.mg x f)(hg:Gl X x:=by rfl)(hd:(x==("__debug__":Str))=false:=by decide):EE X (.Name x pos) (mC (a7W x)):=
 Z4 (v:= .ref f) (a7o hg v.mg rfl hd) fun H=>Or.inr (Or.inr (Or.inl ⟨x,_,rfl,.inl ⟨rfl,v.at_⟩⟩))
def a9v(X:Cx)(n k':Nat)(tab:List (Str×(List PV->Option e8))):Prop:=∀x g,tab.lookup x=some g->∃f fd ps k,R3 X.prog X.w X.K X.mg X.base CX0 k f fd ps (spP X.K ps.length g)/\k<=k'/\PySem.W.keepIn X.K (.ref f)=true/\a0I X.K fd ps []/\ps.length=n/\∀a,a52 X.K x (.ref a)->a=f
theorem b0F{n k':Nat}:a9v X n k' []:=fun _ _ h=>nomatch h
theorem a83{n k k':Nat}{x:Str}{f:AB}{ps:List Str}{g:List PV->Option e8}{t:List (Str×(List PV->Option e8))}(d:n6 X.prog X.w X.K X.mg X.base x ps k g)(v:FnV X.K X.mg x f)(hk:k<=k')(hn:ps.length=n)(h:a9v X n k' t):a9v X n k' ((x,g)::t):=fun y g' q=>by
 rw [List.lookup_cons] at q
 split at q
 ·rename_i z
  cases q
  obtain⟨f',fd,G,h1,h2,h3⟩:=d
  have e:=v.mg.symm.trans h1
  cases e
  refine⟨f,fd,ps,k,G,hk,h2,h3,hn, ?_⟩
  rw [beq_iff_eq.mp z]
  exact v.one
 ·exact h y g' q
def a08(tab:List (Str×(List PV->Option e8)))(i:Nat)(m:MA):M:=fun ρ=>match ρ[i]? with
 |some (some (.val (.dict [(.str x,.none)])))=>(tab.lookup x).bind fun g=>(m ρ).bind g
 |_=>none
theorem b1C(i:Nat){n k':Nat}{y:Str}{p pos:Pos}{tab:List (Str×(List PV->Option e8))}{e:AF}{es:List AF}{m:MA}(T:a9v X n k' tab)(hr:J3 k' X.A)(hv:PE X (.Name y p) (b1a i))(hn:∀ρ qs,m ρ=some qs->qs.length=n)(ha:EA X (e::es) m)
 (he:AM (e::es) X.env=(false,eval e X.env)::AM es X.env:=by rfl) (hpl:(backTo pos (AM es X.env)).any (·.1)=false:=by rfl):
 EE X (.Call (.Name y p) (e::es) [] pos) (a08 tab i m):=by
 intro pins s σ H Q I ⟨F,ρ,r,env,hm,k⟩
 unfold a08 at hm
 split at hm
 ·rename_i x hρ
  cases hl:tab.lookup x with
  |none=>rw [hl] at hm;cases hm
  |some g=>
   rw [hl,AE] at hm
   obtain⟨f,fd,ps,kk,G,hk,h2,h3,h4,one⟩:=T x g hl
   obtain⟨v,hσ,hrep⟩:=env.at_ i _ hρ
   have hvf:v= .ref f:=by
    rcases hrep with⟨_,_,_,_,kk1,w1,t1,_,zz,_⟩|⟨_,_,_,_,kk1,w1,t1,_,zz,_⟩|⟨z,t,e,hz⟩|⟨_,_,_,ho,hf⟩
    ·cases zz
    ·cases zz
    ·cases e
     rcases hz with⟨_,hz⟩|⟨e,_⟩
     ·obtain⟨a,_,_,_,_,ea,_⟩:=id hz
      subst ea
      rw [one a hz]
     ·cases e
    ·rcases(a92 ho hf).2.1 with e|e<;>cases e
   subst hvf
   refine wpAny_Call_Name_kw (L4 (hv pins s σ H (fun v H1=>v= .ref f/\H1=H) I ⟨.ref f,hσ,rfl,rfl⟩) fun u s1 ⟨v,H1,I1,rv,hv1,hH⟩=> ?_)
   subst hv1 hH
   cases(show u=Value.ref f from rv)
   obtain⟨qs,e1,e2⟩:=bind_some hm
   refine PySem.W.callWith_K (h₀:=X.base) I1.ok.mod.kin h2 (L4 (ha pos pins s1 σ H1 (fun vs H2=>∃F2,Ext F H1 F2 H2/\l8 X.K F2 qs vs) I1 ⟨F,ρ,qs,env,e1,fun vs F2 H2 x rl=>⟨F2,x,rl⟩⟩) fun us s2 ⟨vs,H2,I2,rr,F2,x2,rl⟩=>⟨I2.kIn, ?_⟩) he hpl
   refine b2Q (dvs:=[]) (ds:=[]) (sp:=spP X.K ps.length g) (E:=E0) G (hr.mono hk) h3 .nil b46 I2 rr ?_
   show spP X.K ps.length g (vs++[]) H2 Q E0
   rw [Ag]
   exact⟨F2,qs,r,x2.fh,rl,(hn _ _ e1).trans h4.symm,e2,fun v F3 H3 o=>k v F3 H3 (v4.trans x2 o)⟩
 ·cases hm
end
section
variable {X:Cx}
end
section
variable {X:Cx}
end
section
variable {X:Cx}
end
section
variable {X:Cx}
def b5g(Φ:L2.St->Hp->Prop)(K:AD)(F0 H0 F:Hp)(D:P4):Fl->Prop
 | .nx ρ=>∀σ' F' H',l7 F F'->SOk K F0 H0 F' H' σ' ρ->Φ σ' H'->D.nx σ' H'
 | .rt r=>∀v F' H',v4 K F0 H0 F' H' v r->D.rt v H'
 | .bk ρ=>∀σ' F' H',l7 F F'->SOk K F0 H0 F' H' σ' ρ->Φ σ' H'->D.bk σ' H'
 | .ct ρ=>∀σ' F' H',l7 F F'->SOk K F0 H0 F' H' σ' ρ->Φ σ' H'->D.ct σ' H'
theorem b5g.later{Φ:L2.St->Hp->Prop}{K:AD}{F0 H0 F F1:Hp}{D:P4}(s:l7 F F1):∀{fl:Fl},b5g Φ K F0 H0 F D fl->b5g Φ K F0 H0 F1 D fl
 | .nx _,h=>fun σ' F' H' s' so=>h σ' F' H' (s.trans s') so
 | .rt _,h=>h
 | .bk _,h=>fun σ' F' H' s' so=>h σ' F' H' (s.trans s') so
 | .ct _,h=>fun σ' F' H' s' so=>h σ' F' H' (s.trans s') so
variable {Φ:L2.St->Hp->Prop}{I:List Nat}
end
mutual
def b7W:PV->Bool
 | .none=>true
 | .bool _=>true
 | .int _=>true
 | .str _=>true
 | .tuple ps=>b4X ps
 |_=>false
def b4X:List PV->Bool
 |[]=>true
 |p::ps=>b7W p && b4X ps
end
def keep(A:List Nat)(ρ:c7):c7:=ρ.zipIdx.map fun p=>if p.2∈A then p.1 else none
section
variable {X:Cx}
end
section
open PySem.AutoSeq1 (wpAny_loadPart')
open PySem.MeetsSeq3 (plain_eq_loop entry_eq_loop)
theorem b0P(l b:AB)(xs ys:Array AA)(n n2:Nat)(dd dd2:Option AB)(sl sl2:Array (Option AA))(e:Nat->Bool)(c:Bool)(k:Nat):
 ∀i:Nat,min xs.size ys.size - i=k->i<=min xs.size ys.size->(∀j,j<i->e j=true)->Meets (Builtin.«list.__eq__.loop» ⟨[.ref l,.ref b,rawInt i,rawInt 0],[]⟩)
  (fun A R s=>s.heap.get? l=some {cls:= .type "list",dict:=dd,data:= .seq xs n,slots:=sl}/\s.heap.get? b=some {cls:= .type "list",dict:=dd2,data:= .seq ys n2,slots:=sl2}/\
   (∀j (h1:j<xs.size) (h2:j<ys.size),SeqAt.EqAt A.in1 s xs[j] ys[j] (e j))/\(∀j (h1:j<xs.size) (h2:j<ys.size),(∀k,k<j->e k=true)->e j=false->a4y A.in1 s xs[j] ys[j] c)/\
   ((∀k,k<min xs.size ys.size->e k=true)->c=decide (xs.size<ys.size))/\R (.ok (.ret (.bool c))) s):=by
 induction k with
 |zero=>
  intro i hk hi hb4 prog w A R s h
  obtain⟨hp,g,d,tk,os⟩:=s;obtain⟨hl,hb,he,hlt,hce,h⟩:=h
  have hce':=hce fun k hk'=>hb4 k (by lia)
  wp_walk using wpAny_loadPart' hl,wpAny_loadPart' hb
  rcases Nat.lt_or_ge i xs.size with h1|h1
  ·have h2:ys.size<=i:=by lia
   have hi1:xs[((i:Nat):Int).toNat]?=some xs[i]:=by simp [h1]
   have hi2:ys[((i:Nat):Int).toNat]?=none:=by simp;lia
   rw [hi1,hi2]
   wp_walk using wpAny_loadPart' hl,wpAny_loadPart' hb
   show R (.ok (.ret (.bool (decide (xs.size<ys.size))))) _
   rw [<-hce'];exact h
  ·have hi1:xs[((i:Nat):Int).toNat]?=none:=by simp;lia
   rw [hi1]
   wp_walk using wpAny_loadPart' hl,wpAny_loadPart' hb
   show R (.ok (.ret (.bool (decide (xs.size<ys.size))))) _
   rw [<-hce'];exact h
 |succ k ih=>
  intro i hk hi hb4 prog w A R s h
  obtain⟨hp,g,d,tk,os⟩:=s;obtain⟨hl,hb,he,hlt,hce,h⟩:=h
  wp_walk using wpAny_loadPart' hl,wpAny_loadPart' hb
  have h1:i<xs.size:=by lia
  have h2:i<ys.size:=by lia
  have hi1:xs[((i:Nat):Int).toNat]?=some xs[i]:=by simp [h1]
  have hi2:ys[((i:Nat):Int).toNat]?=some ys[i]:=by simp [h2]
  have hc:((i:Int)+1)=((i+1:Nat):Int):=by push_cast;rfl
  rw [hi1,hi2]
  refine AG (he i h1 h2 prog w _ _ ?_)
  cases hq:e i with
  |true=>
   wp_walk
   rw [hc]
   exact⟨plainId_quiet plain_eq_loop _,codeAny_builtin entry_eq_loop (by
    rw [Around.under_plainId plain_eq_loop _]
    exact ih (i+1) (by lia) (by lia) (fun j hj=>by
     rcases Nat.lt_or_ge j i with h'|h'
     ·exact hb4 j h'
     ·rw [show j=i by lia];exact hq) prog w A R _ ⟨hl,hb,he,hlt,hce,h⟩)⟩
  |false=>
   have hl3:=hlt i h1 h2 hb4 hq
   wp_walk using wpAny_loadPart' hl,wpAny_loadPart' hb
   rw [hi1,hi2]
   show AH _ A.in1 (richCompare .Lt xs[i] ys[i]>>=fun v=>ret v) _ _ _
   refine AG (hl3 prog w _ _ ?_)
   exact AV h
theorem a5V(l b:AB)(xs ys:Array AA)(n n2:Nat)(dd dd2:Option AB)(sl sl2:Array (Option AA))(e:Nat->Bool)(c:Bool):
 Meets (Builtin.«list.__lt__» ⟨[.ref l,.ref b],[]⟩)
  (fun A R s=>s.heap.get? l=some {cls:= .type "list",dict:=dd,data:= .seq xs n,slots:=sl}/\s.heap.get? b=some {cls:= .type "list",dict:=dd2,data:= .seq ys n2,slots:=sl2}/\
   (∀j (h1:j<xs.size) (h2:j<ys.size),SeqAt.EqAt A.in1 s xs[j] ys[j] (e j))/\(∀j (h1:j<xs.size) (h2:j<ys.size),(∀k,k<j->e k=true)->e j=false->a4y A.in1 s xs[j] ys[j] c)/\
   ((∀k,k<min xs.size ys.size->e k=true)->c=decide (xs.size<ys.size))/\R (.ok (.ret (.bool c))) s):=by
 intro prog w A R s h
 obtain⟨hp,g,d,tk,os⟩:=s;obtain⟨hl,hb,he,hlt,hce,h⟩:=h
 have f3:=AutoSeq1.sub_list_list
 wp_walk using wpAny_loadPart' hl,wpAny_loadPart' hb
 exact⟨plainId_quiet plain_eq_loop _,codeAny_builtin entry_eq_loop (by
  rw [Around.under_plainId plain_eq_loop _]
  exact b0P l b xs ys n n2 dd dd2 sl sl2 e c _ 0 rfl (Nat.zero_le _) (fun j hj=>by lia) prog w A R _ ⟨hl,hb,he,hlt,hce,h⟩)⟩
variable {A:AJ}{s:AC}
theorem a4y.lists{l b:AB}{xs ys:Array AA}{e:Nat->Bool}{c:Bool}(hl:s.heap.IsList l xs)(hb:s.heap.IsList b ys)(hu:A.units<cLine)
 (he:∀j (h1:j<xs.size) (h2:j<ys.size),SeqAt.EqAt A.in1 s xs[j] ys[j] (e j)) (hlt:∀j (h1:j<xs.size) (h2:j<ys.size),(∀k,k<j->e k=true)->e j=false->a4y A.in1 s xs[j] ys[j] c)
 (hce:(∀k,k<min xs.size ys.size->e k=true)->c=decide (xs.size<ys.size)):a4y A s (.ref l) (.ref b) c:=fun prog w E Q h=>by
 obtain⟨⟨c1,d1,t1,s1⟩,o1,e1,n1,k1⟩:=id hl
 obtain⟨⟨c2,d2,t2,s2⟩,o2,e2,n2,k2⟩:=id hb
 simp only at e1 k1 e2 k2
 subst e1 k1 e2 k2
 exact richCompare_meets_room (op:= .Lt) ⟨_,o1,rfl⟩ ⟨_,o2,rfl⟩ PySem.F.slot_list_lt PySem.F.entry_list_lt (PySem.F.args_list_lt_2 _ _) (a5V l b xs ys n1 n2 d1 d2 s1 s2 e c)
  ⟨o1,o2,he,hlt,hce,show Value.bool c≠Value.notImplemented/\Q (.bool c) s from⟨(fun x=>nomatch x),h⟩⟩ hu
end
abbrev PtL:=List (Int×Int)
def plv(p:Int×Int):PV:= .tuple [.int p.1,.int p.2]
def llv(L:PtL):PV:= .list (L.map plv)
section
variable {X:Cx}{pins:List (AB×Obj)}{σ:L2.St}{H:Hp}{s:AC}
def Gd(X:Cx)(H:Hp)(v:AA)(L:PtL):Prop:=∃x,t5 x v/\I0 X.K H (llv L) x
theorem b4a{p q:Int×Int}(h:plv p=plv q):p=q:=by
 unfold plv at h
 injection h with h
 injection h with h1 h
 injection h with h2 _
 injection h1 with h1
 injection h2 with h2
 exact Prod.ext h1 h2
theorem b3O{L M:PtL}(h:llv L=llv M):L=M:=by
 unfold llv at h
 injection h with h
 exact List.map_inj_right (fun _ _=>b4a)|>.mp h
theorem Gd.uniq(I:j7 X pins σ H s){v:AA}{L M:PtL}(h:Gd X H v L)(g:Gd X H v M):L=M:=by
 obtain⟨x,r,h⟩:=h
 obtain⟨y,t,g⟩:=g
 obtain⟨a,xs,rfl,h1,h2⟩:=id h
 obtain⟨b,ys,rfl,g1,g2⟩:=id g
 cases r
 cases t
 exact b3O (I0.inj I _ _ h g)
end
section
variable {X:Cx}
end
section
variable {X:Cx}
end
def a53(H:Hp)(b:AB)(xs:List V)(n:Nat):Prop:=∃e:List V,e.length<=n/\H b=some (.lst (xs++e))
theorem a53.same{H H':Hp}{b:AB}{xs:List V}{n:Nat}(g:a53 H b xs n)(s:l7 H H'):a53 H' b xs n:=let ⟨e,l,h⟩:=g;⟨e,l,s _ _ h⟩
structure Pk(K:AD)(H:Hp)(ah a0 a3 b1 b2 b3:AB)(z0 z3 y1 y2 y3:List V)(J:Hp)(n:Nat):Prop where
 t0:SqT K J a0 z0
 t3:SqT K J a3 z3
 g1:a53 J b1 y1 n
 g2:a53 J b2 y2 n
 g3:a53 J b3 y3 n
 o:∀c u,c≠ah->H c=some u->J c=some u
section
variable {K:AD}{H J J':Hp}{ah a0 a3 b1 b2 b3 c:AB}{z0 z3 y1 y2 y3:List V}{n:Nat}
theorem Pk.same(p:Pk K H ah a0 a3 b1 b2 b3 z0 z3 y1 y2 y3 J n)(s:l7 J J'):Pk K H ah a0 a3 b1 b2 b3 z0 z3 y1 y2 y3 J' n:=
 ⟨C0 s p.t0,C0 s p.t3,p.g1.same s,p.g2.same s,p.g3.same s,fun c u h q=>s _ _ (p.o c u h q)⟩
end
section
variable {X:Cx}
end
section
variable {X:Cx}
end
section
variable {X:Cx}
end
end PU
namespace L2
open PySem PySem.Spec PyProof.Rows
structure b1j(k:Nat)(A:AJ):Prop where
 dp:A.depth+3*k+5<recursionLimit
 un:A.units+16*k+200<cLine
theorem b1j.units{k:Nat}{A:AJ}(r:b1j k A):A.units+64<cLine:=by have:=r.un;lia
theorem J3.q{k:Nat}{A:AJ}(r:J3 k A)(v:Option AA):b1j k (A.mark v):=⟨r.dp,r.un⟩
end L2
namespace PU
open PySem PySem.Spec PyProof.Rows L2
open PySem.W (Looks InstAt looks_findIn looks_find looks_subIn looks_mroIn)
def b27(K:AD)(D:AB):Bool:=(PySem.W.clsIn K D).isSome && PySem.W.findIn K (.ref D) "__getattribute__"==some (some (.builtin "BaseException.__getattribute__"))&& PySem.W.findIn K (.ref D) "__getattr__"==some none
 && PySem.W.findIn K (.ref D) "__class__"==some (some (.builtin "object.__class__"))&& PySem.W.specialIn K (.builtin "object.__class__") "__get__"==some (some (.builtin "getset_descriptor.__get__"))&& PySem.W.takesIn K (.builtin "object.__class__")==some true
 && PySem.W.mroIn K D (.type "object")==some true && PySem.W.subIn K (.ref D) (.type "BaseException")==some true
structure XcF(K:AD)(D:AB):Prop where
 cl:(PySem.W.clsIn K D).isSome=true
 ga:PySem.W.findIn K (.ref D) "__getattribute__"=some (some (.builtin "BaseException.__getattribute__"))
 gt:PySem.W.findIn K (.ref D) "__getattr__"=some none
 ob:∀od,PySem.W.findObj K D od "__class__"=some (.bind (.builtin "getset_descriptor.__get__") (.builtin "object.__class__"))
 mo:PySem.W.mroIn K D (.type "object")=some true
 sb:PySem.W.subIn K (.ref D) (.type "BaseException")=some true
theorem b4J{K:AD}{D:AB}(h:b27 K D=true):XcF K D:=by
 unfold b27 at h
 simp only [Bool.and_eq_true,beq_iff_eq] at h
 obtain⟨⟨⟨⟨⟨⟨⟨h1,h2⟩,h3⟩,h4⟩,h5⟩,h6⟩,h7⟩,h8⟩:=h
 refine⟨h1,h2,h3,fun od=> ?_,h7,h8⟩
 obtain⟨cd,hc⟩:=Option.isSome_iff_exists.mp h1
 unfold PySem.W.findObj
 rw [hc,AE,h4,AE]
 simp [h5,h6]
section
variable {prog:AK}{w:AI}{A:AJ}{E:AA->AC->Prop}{s:AC}{K:AD}{x D:AB}{ox:Obj}{od:Option Obj}
theorem b3a{tk:Tok}{Q:PySem.Fin->AC->Prop}(X:K.In s.heap)(I:InstAt s.heap x ox D od)(F:XcF K D)(hq:Q (.done (.ret (.ref D))) s):
 AH (model prog w) A (Builtin.«object.__getattribute__» ⟨[.ref x,.str "__class__" tk],[]⟩) Q E s:=by
 obtain⟨hh,g,d,t,os⟩:=s
 have L0:=I.type (M:=model prog w)
 have L1:=looks_find (M:=model prog w) X I (F.ob od)
 unfold Builtin.«object.__getattribute__»
 repeat (any_goals (first|assumption|with_reducible refine L0.at ?_|with_reducible refine L1.at ?_|wp_step))
 exact PySem.W.class_get (s:=⟨hh,g,d,t,os⟩) X I F.mo (AV hq)
theorem b28{nameV:AA}{Q:Unit->AC->Prop}(X:K.In s.heap)(I:InstAt s.heap x ox D od)(F:XcF K D)(hq:Q () s):AH (model prog w) A (checkBuiltinCall "BaseException.__getattribute__" ⟨[.ref x,nameV],[]⟩) Q E s:=by
 obtain⟨hh,g,d,t,os⟩:=s
 have L0:=I.type (M:=model prog w)
 have L1:=looks_subIn (M:=model prog w) X F.sb
 have hk:builtinKind "BaseException.__getattribute__"=some .slot:=by decide+kernel
 have hsplit:splitId "BaseException.__getattribute__"=some ("BaseException","__getattribute__"):=by decide+kernel
 have ha:=PySem.F.args_bexc_ga (.ref x) nameV
 simp only [checkBuiltinCall,hk,hsplit]
 refine AG ?_
 ·unfold isInstance
  repeat (first|with_reducible refine L0.at ?_|with_reducible refine L1.at ?_|wp_step)
  exact hq
theorem b7N{tk:Tok}{fill expr:Bool}{Q:AA->AC->Prop}(X:K.In s.heap)(I:InstAt s.heap x ox D od)(F:XcF K D)(hq:Q (.ref D) s):AH (model prog w) A (getAttrBy (.ref x) (.str "__class__" tk) fill expr) Q E s:=by
 obtain⟨hh,g,d,t,os⟩:=s
 have L0:=I.type (M:=model prog w)
 have L1:=looks_findIn (M:=model prog w) X F.ga
 have L2:=looks_findIn (M:=model prog w) X F.gt
 have FB:=PySem.F.attr_ValueError
 have f3:=FB.ga.bind (.ref x)
 have hx0:(expr && onTheHeap (Value.builtin "BaseException.__getattribute__"))=false:=by cases expr<;>rfl
 have hx2:(Value.builtin "BaseException.__getattribute__"==Value.builtin "object.__getattribute__")=false:=by decide+kernel
 have hx1:(onTheHeap (Value.ref D)&& Value.builtin "BaseException.__getattribute__"==Value.builtin "object.__getattribute__")=false:=by rw [hx2];rfl
 repeat (any_goals (first|assumption|with_reducible refine L0.at ?_|with_reducible refine L1.at ?_|with_reducible refine L2.at ?_|wp_step))
 refine codeAny_call_builtin FB.ga.plain PySem.F.entry_bexc_ga (b28 (s:=⟨hh,g,d,t,os⟩) X I F (b3a (s:=⟨hh,g,d,t,os⟩) X I F ?_))
 repeat (any_goals (first|assumption|wp_step))
theorem b29{Q:Option AA->AC->Prop}(X:K.In s.heap)(I:InstAt s.heap x ox D od)(F:XcF K D)(hq:Q (some (.ref D)) {s with toks:=s.toks+1}):AH (model prog w) A (getAttr? (.ref x) "__class__") Q E s:=by
 obtain⟨hh,g,d,t,os⟩:=s
 unfold getAttr? getAttrBy?
 refine AG (wpAny_mkText (AG (wpAny_attempt (b7N (s:=⟨hh,g,d,t+1,os⟩) X I F ?_))))
 exact AV hq
end
theorem b0u{K:AD}{x D:AB}{c:AA}(F:XcF K D)(e:PySem.W.kitOne K (.ref D) c=some false):Answers (fun s=>K.In s.heap/\∃o od,InstAt s.heap x o D od) (.ref x) c false:=fun dep tk prog w A R s hs=>by
 obtain⟨hh,gg,dr,tt,oo⟩:=s
 obtain⟨⟨kin,o,od,I⟩,fin⟩:=hs
 have L0:=I.type (M:=model prog w)
 have hisD:Looks (model prog w) hh (isType (.ref D)) true:=by
  obtain⟨cdD,hcD⟩:=Option.isSome_iff_exists.mp F.cl
  unfold PySem.W.clsIn at hcD
  split at hcD
  ·rename_i c' d' cd' sl' ho
   intro A' Q' E' s' k q
   unfold isType loadHead
   exact AG (wpAny_loadPart (k _ _ (kin _ _ ho)) (AV q))
  ·cases hcD
 unfold Builtin.«isinstance.nested»
 refine AG ?_
 refine L0.at ?_
 cases q:(Value.ref D==c) with
 |true=>
  unfold PySem.W.kitOne at e
  rw [q,if_pos rfl] at e
  cases e
 |false=>
  rw [if_neg Aj]
  unfold PySem.W.kitOne at e
  rw [q,if_neg Aj] at e
  have z:=PySem.W.kit_cls (M:=model prog w) kin e
  have z3:Looks (model prog w) hh (isInstance (.ref x) c) false:=L0.andThen z.2.2
  refine AG ?_
  refine z.1.at ?_
  rw [if_pos (by decide)]
  k_delta "plainIsInstance"
  refine AG ?_
  refine AG ?_
  refine z.2.1.at ?_
  simp only [Bool.not_true,if_false,BH]
  refine AG ?_
  refine z3.at ?_
  simp only [BH,if_false]
  refine AG (b29 (s:=⟨hh,gg,dr,tt,oo⟩) kin I F ?_)
  refine AG (hisD.at ?_)
  simp only [Bool.not_true,BH,if_false]
  refine AG (wpAny_rule ?_)
  refine z.2.2.at ?_
  first
   |exact AV (fin _)
   |exact AV (AV (fin _))
   |exact AG (AV (AV (fin _)))
theorem b0M{K:AD}{prog:AK}{w:AI}{A:AJ}{E:AA->AC->Prop}{s:AC}{Q:AA->AC->Prop}{x D:AB}{c:AA}{o:Obj}{od:Option Obj}(kin:K.In s.heap)(I:InstAt s.heap x o D od)(F:XcF K D)(e:PySem.W.kitOne K (.ref D) c=some false)(fin:∀tk,Q (.bool false) {s with toks:=tk}):
 AH (model prog w) A (call (.builtin "isinstance") [.ref x,c]) Q E s:=by
 refine call_isinstance (S:=fun _ R s=>(K.In s.heap/\∃o od,InstAt s.heap x o D od)/\∀tk,R (.ok (.ret (.bool false))) {s with toks:=tk}) (fun prog w A R s hs=> ?_) ⟨⟨kin,o,od,I⟩,fin⟩
 refine isinstance_outer ?_ (fun z=>nomatch z)
 exact b0u F e 0 _ prog w A R s hs
def b3f(K:AD)(cv:AA)(tab:List (Str×Bool)):Prop:=∀c b,tab.lookup c=some b->∃C,P0 K c C/\XcF K C/\PySem.W.kitOne K (.ref C) cv=some b
theorem a8D{K:AD}{cv:AA}:b3f K cv []:=fun _ _ h=>nomatch h
theorem a6B{K:AD}{mg:Str->Option AA}{cv:AA}{c:Str}{b:Bool}{C:AB}{t:List (Str×Bool)}(x:XC K mg c C)(f:b27 K C=true)(e:PySem.W.kitOne K (.ref C) cv=some b)(h:b3f K cv t):b3f K cv ((c,b)::t):=fun c1 b1 q=>by
 rw [List.lookup_cons] at q
 split at q
 ·rename_i z
  cases q
  rw [beq_iff_eq.mp z]
  exact⟨C,x.named,b4J f,e⟩
 ·exact h c1 b1 q
section
variable {X:Cx}
theorem b1D{tab:List (Str×Bool)}{cv:AA}{cV:V}{e:AF}{n:Str}{m:M}{p p2 pos:Pos}(T:b3f X.K cv tab)(rv:∀u,t5 cV u->u=cv)(hg:Gl X "isinstance")(hm:X.mg "isinstance"=none)(ha:EE X e m)(hT:PE X (.Name n p2) (tC cV))
 (he:AM [e,.Name n p2] X.env=(false,eval e X.env)::AM [.Name n p2] X.env:=by rfl) (he2:AM [.Name n p2] X.env=(false,eval (.Name n p2) X.env)::AM [] X.env:=by rfl) (hpl:(backTo pos (AM [.Name n p2] X.env)).any (·.1)=false:=by rfl)
 (hv:bootBuiltins "isinstance"=some (.builtin "isinstance"):=by rfl):
 EE X (.Call (.Name "isinstance" p) [e,.Name n p2] [] pos) (m1 (a5T tab) m):=by
 have hc:L5 X (.builtin "isinstance") (fun xs H Q=>∃F x c b,xs=[x,cV]/\l7 F H/\b0t X.K F c x/\tab.lookup c=some b/\Q (.bl b) H):=by
  intro pins s σ H xs us Q I rv0 h
  obtain⟨F,x,c,b,rfl,s0,h1,hl,q⟩:=h
  obtain⟨u,u2,rfl,ru,ru2⟩:∃u1 u2,us=[u1,u2]/\t5 x u1/\t5 cV u2:=by
   cases rv0 with
   |cons p q=>
    cases q with
    |cons p' q'=>
     cases q'
     exact⟨_,_,rfl,p,p'⟩
  cases rv _ ru2
  obtain⟨C,nm,fc,k1⟩:=T c b hl
  have fin:∀tk,EP X pins σ Q (.bool b) {s with toks:=tk}:=fun tk=>⟨.bl _,H,I.tok tk,rfl,q⟩
  obtain⟨a,C',o,od,rfl,g4,J⟩:=b4M I (h1.mono s0)
  cases g4.uniq nm
  cases(show u=Value.ref a from ru)
  cases b with
  |true=>exact b10 I.kIn J.at_ J.cls k1 fin
  |false=>exact b0M I.kIn J fc k1 fin
 exact B5 (a2T hc hg hm hv (B9 ha (B9 hT T3 he2) he) (by decide) (by decide) he hpl) fun σ H Q ⟨F,ρ,r,h1,h2,k⟩=>by
  obtain⟨rx,e1,h2⟩:=bind_some h2
  refine⟨F,ρ,rx,h1,e1,fun v F1 H1 o=> ?_⟩
  obtain⟨c,hc,h2⟩:=bind_some h2
  cases hl:tab.lookup c with
  |none=>rw [hl] at h2;cases h2
  |some b=>
   rw [hl] at h2
   cases h2
   exact⟨H1,v,c,b,rfl,l7.refl H1,b4L (o.rep.rd o.x.fh) hc,hl,k _ F1 H1 (v4.val o.x rfl)⟩
end
end PU
namespace ZT
open PySem PySem.Spec PyProof.Rows L2 PU
structure ZA(z TI TO i1 i2:AB):Prop where
 TIz:TI≠z
 TOz:TO≠z
 i1z:i1≠z
 i2z:i2≠z
 TITO:TI≠TO
 TIi1:TI≠i1
 TIi2:TI≠i2
 TOi1:TO≠i1
 TOi2:TO≠i2
 i12:i1≠i2
def LA(z TO i1 i2 l:AB):Prop:=l≠z/\l≠TO/\l≠i1/\l≠i2
section
variable {prog:AK}{w:AI}{A:AJ}{E:AA->AC->Prop}{s:AC}{z TI TO i1 i2:AB}{n1 n2 i:Nat}{P1 P2:Nat->AA->Prop}{St1 St2:Nat->Heap->Prop}{a b:AA}{l1 l2:AB}
theorem a3G{Q:AA->AC->Prop}(D:ZA z TI TO i1 i2)(D1:∀A',A'.handled=none->Draws prog w A' i1 [i1,l1] n1 P1 St1)(D2:∀A',A'.handled=none->Draws prog w A' i2 [i2,l2] n2 P2 St2)(hh:A.handled=none)(a1:LA z TO i1 i2 l1)(a2:LA z TO i1 i2 l2)
 (hz:IsZip s.heap z TI TO .none) (hTI:IsPair s.heap TI (.ref i1) (.ref i2)) (hTO:IsPair s.heap TO a b) (h1:St1 i s.heap) (h2:St2 i s.heap) (m1:i<n1) (m2:i<n2)
 (hQ:∀x y h' tk,P1 i x->P2 i y->IsZip h' z TI TO (rawInt s.heap.objs.size)->IsPair h' TO x y->St1 (i+1) h'->St2 (i+1) h'->IsPair h' s.heap.objs.size x y->h'.objs.size=s.heap.objs.size+1->
  (∀c o,c≠z->c≠TO->c≠i1->c≠i2->s.heap.get? c=some o->h'.get? c=some o)->Q (.ref s.heap.objs.size) {s with heap:=h',toks:=tk}):
 AH (model prog w) A (Builtin.«zip.__next__» ⟨[.ref z],[]⟩) (fun fin s'=>∃v,fin= .done (.ret v)/\Q v s') E s:=by
 show AH _ _ (field (.ref z) 2>>=_) _ _ _
 refine AG (wpAny_field hz rfl (x:= .bool false) rfl ?_)
 show AH _ _ (field (.ref z) 3>>=_) _ _ _
 refine AG (wpAny_field hz rfl (x:= .ref TI) rfl ?_)
 refine AG (wpAny_seqItems hTI rfl ?_)
 show AH _ _ (Builtin.SmallTypes.ownedTupleIsFree (.ref z)>>=_) _ _ _
 refine AG ?_
 unfold Builtin.SmallTypes.ownedTupleIsFree
 refine AG (wpAny_field hz rfl (x:= .none) rfl (AV ?_))
 simp only [if_true]
 refine AG (wpAny_rule ?_)
 refine AG (wpAny_field hz rfl (x:= .ref TO) rfl ?_)
 refine AG (wpAny_setField_rec hz (by simp) fun h₁ hz₁ hs₁=> ?_)
 replace hz₁:IsZip h₁ z TI TO .ellipsis:=hz₁
 refine AG ?_
 simp only [List.zipIdx_cons,List.zipIdx_nil,List.forIn_cons,List.forIn_nil]
 have f1:∀{x:AB} {h h':Heap} {i},x≠i1->x≠l1->Heap.SameBut x h h'->St1 i h->St1 i h':=fun n n' k st=>(D1 A hh).frame _ _ _ st fun b hb o e=>by
  have hb:b=i1\/b=l1:=by simpa using hb
  rcases hb with hb|hb
  ·exact k.extBut _ _ (by rw [hb];exact Ne.symm n) e
  ·exact k.extBut _ _ (by rw [hb];exact Ne.symm n') e
 have f2:∀{x:AB} {h h':Heap} {i},x≠i2->x≠l2->Heap.SameBut x h h'->St2 i h->St2 i h':=fun n n' k st=>(D2 A hh).frame _ _ _ st fun b hb o e=>by
  have hb:b=i2\/b=l2:=by simpa using hb
  rcases hb with hb|hb
  ·exact k.extBut _ _ (by rw [hb];exact Ne.symm n) e
  ·exact k.extBut _ _ (by rw [hb];exact Ne.symm n') e
 refine AG (AG (wpAny_onRaise ?_))
 show AH _ _ (Builtin.SmallTypes.nextOf (.ref i1)>>=_) _ _ _
 refine AG ((D1 _ hh).item i _ _ _ m1 (f1 D.i1z.symm (Ne.symm a1.1) hs₁ h1) fun x h₂ tk₂ px h1₂ hs₂=>AV ?_)
 have hTO₂:IsPair h₂ TO a b:=hs₂.extBut _ _ D.TOi1 (hs₁.extBut _ _ D.TOz hTO)
 refine AG (wpAny_seqItems hTO₂ rfl ?_)
 refine AG (wpAny_updateSeq_pair hTO₂ fun h₃ hTO₃ hs₃=> ?_)
 replace hTO₃:IsPair h₃ TO x b:=hTO₃
 refine AG (wpAny_letGo (AV ?_))
 refine AG (AG (wpAny_onRaise ?_))
 show AH _ _ (Builtin.SmallTypes.nextOf (.ref i2)>>=_) _ _ _
 refine AG ((D2 _ hh).item i _ _ _ m2 (f2 D.TOi2 (Ne.symm a2.2.1) hs₃ (f2 D.i12 (Ne.symm a2.2.2.1) hs₂ (f2 D.i2z.symm (Ne.symm a2.1) hs₁ h2))) fun y h₄ tk₄ py h2₄ hs₄=>AV ?_)
 have hTO₄:IsPair h₄ TO x b:=hs₄.extBut _ _ D.TOi2 hTO₃
 refine AG (wpAny_seqItems hTO₄ rfl ?_)
 refine AG (wpAny_updateSeq_pair hTO₄ fun h₅ hTO₅ hs₅=> ?_)
 replace hTO₅:IsPair h₅ TO x y:=hTO₅
 refine AG (wpAny_letGo (AV (AV ?_)))
 refine AG (wpAny_seqItems hTO₅ rfl ?_)
 refine AG (wpAny_newTuple ?_)
 have hsz:h₅.objs.size=s.heap.objs.size:=by rw [hs₅.1,hs₄.1,hs₃.1,hs₂.1,hs₁.1]
 have hz₅:IsZip h₅ z TI TO .ellipsis:=hs₅.extBut _ _ D.TOz.symm (hs₄.extBut _ _ D.i2z.symm (hs₃.extBut _ _ D.TOz.symm (hs₂.extBut _ _ D.i1z.symm hz₁)))
 have hk₅:∀c o,c≠z->c≠TO->c≠i1->c≠i2->s.heap.get? c=some o->h₅.get? c=some o:=fun c o c1 c2 c3 c4 e=>
  hs₅.extBut _ _ c2 (hs₄.extBut _ _ c4 (hs₃.extBut _ _ c2 (hs₂.extBut _ _ c3 (hs₁.extBut _ _ c1 e))))
 have h1₅:St1 (i+1) h₅:=f1 D.TOi1 (Ne.symm a1.2.1) hs₅ (f1 D.i12.symm (Ne.symm a1.2.2.2) hs₄ (f1 D.TOi1 (Ne.symm a1.2.1) hs₃ h1₂))
 have h2₅:St2 (i+1) h₅:=f2 D.TOi2 (Ne.symm a2.2.1) hs₅ h2₄
 have hzlt:z<h₅.objs.size:=Ac hz₅
 have hTOlt:TO<h₅.objs.size:=Ac hTO₅
 have hi1lt:i1<h₅.objs.size:=by obtain⟨_,e⟩:=(D1 A hh).live _ _ h1₅;exact Ac e
 have hi2lt:i2<h₅.objs.size:=by obtain⟨_,e⟩:=(D2 A hh).live _ _ h2₅;exact Ac e
 show AH _ _ (Builtin.SmallTypes.ownedTupleHandOut (.ref z) (.ref h₅.objs.size)>>=_) _ _ _
 refine AG ?_
 unfold Builtin.SmallTypes.ownedTupleHandOut
 have hz₆:IsZip (h₅.push {cls:= .type "tuple",data:= .seq #[x,y]}) z TI TO .ellipsis:=Al _ hz₅
 refine AG (wpAny_setField_rec hz₆ (by simp) fun h₇ hz₇ hs₇=> ?_)
 replace hz₇:IsZip h₇ z TI TO (rawInt h₅.objs.size):=hz₇
 refine wpAny_setField_rec hz₇ (by simp) fun h₈ hz₈ hs₈=> ?_
 replace hz₈:IsZip h₈ z TI TO (rawInt h₅.objs.size):=hz₈
 have up:∀c o,c≠z->h₅.get? c=some o->h₈.get? c=some o:=fun c o c1 e=>hs₈.extBut _ _ c1 (hs₇.extBut _ _ c1 (Al _ e))
 have hT₈:IsPair h₈ h₅.objs.size x y:=hs₈.extBut _ _ (Nat.ne_of_gt hzlt) (hs₇.extBut _ _ (Nat.ne_of_gt hzlt) (Aw _ rfl))
 have hz8:h₈.objs.size=h₅.objs.size+1:=by rw [hs₈.1,hs₇.1,Heap.size_push]
 rw [hsz] at hz₈ hT₈ hz8
 refine AV ⟨_,rfl, ?_⟩
 show Q (.ref h₅.objs.size) _
 rw [hsz]
 refine hQ x y h₈ _ px py hz₈ (up _ _ D.TOz hTO₅) ?_ ?_ hT₈ hz8 fun c o c1 c2 c3 c4 e=>up c o c1 (hk₅ c o c1 c2 c3 c4 e)
 ·refine(D1 A hh).frame _ _ _ h1₅ fun b hb o e=>up b o ?_ e
  have hb:b=i1\/b=l1:=by simpa using hb
  rcases hb with hb|hb
  ·rw [hb];exact D.i1z
  ·rw [hb];exact a1.1
 ·refine(D2 A hh).frame _ _ _ h2₅ fun b hb o e=>up b o ?_ e
  have hb:b=i2\/b=l2:=by simpa using hb
  rcases hb with hb|hb
  ·rw [hb];exact D.i2z
  ·rw [hb];exact a2.1
theorem a5M{Q:PySem.Fin->AC->Prop}(D:ZA z TI TO i1 i2)(D1:∀A',A'.handled=none->Draws prog w A' i1 [i1,l1] n1 P1 St1)(D2:∀A',A'.handled=none->Draws prog w A' i2 [i2,l2] n2 P2 St2)(hh:A.handled=none)(a1:LA z TO i1 i2 l1)(a2:LA z TO i1 i2 l2)
 (hz:IsZip s.heap z TI TO .none) (hTI:IsPair s.heap TI (.ref i1) (.ref i2)) (hTO:IsPair s.heap TO a b) (h1:St1 i s.heap) (h2:St2 i s.heap) (m1:i<=n1) (m2:i<=n2) (hend:i=n1\/i=n2)
 (hE:∀h' e tk,(∀c o,c≠z->c≠TO->c≠i1->c≠i2->s.heap.get? c=some o->h'.get? c=some o)->(∃o,h'.get? e=some o/\o.cls= .type "StopIteration")->E (.ref e) {s with heap:=h',toks:=tk}):
 AH (model prog w) A (Builtin.«zip.__next__» ⟨[.ref z],[]⟩) Q E s:=by
 show AH _ _ (field (.ref z) 2>>=_) _ _ _
 refine AG (wpAny_field hz rfl (x:= .bool false) rfl ?_)
 show AH _ _ (field (.ref z) 3>>=_) _ _ _
 refine AG (wpAny_field hz rfl (x:= .ref TI) rfl ?_)
 refine AG (wpAny_seqItems hTI rfl ?_)
 show AH _ _ (Builtin.SmallTypes.ownedTupleIsFree (.ref z)>>=_) _ _ _
 refine AG ?_
 unfold Builtin.SmallTypes.ownedTupleIsFree
 refine AG (wpAny_field hz rfl (x:= .none) rfl (AV ?_))
 simp only [if_true]
 refine AG (wpAny_rule ?_)
 refine AG (wpAny_field hz rfl (x:= .ref TO) rfl ?_)
 refine AG (wpAny_setField_rec hz (by simp) fun h₁ hz₁ hs₁=> ?_)
 replace hz₁:IsZip h₁ z TI TO .ellipsis:=hz₁
 refine AG ?_
 simp only [List.zipIdx_cons,List.zipIdx_nil,List.forIn_cons,List.forIn_nil]
 have f1:∀{x:AB} {h h':Heap} {i},x≠i1->x≠l1->Heap.SameBut x h h'->St1 i h->St1 i h':=fun n n' k st=>(D1 A hh).frame _ _ _ st fun b hb o e=>by
  have hb:b=i1\/b=l1:=by simpa using hb
  rcases hb with hb|hb
  ·exact k.extBut _ _ (by rw [hb];exact Ne.symm n) e
  ·exact k.extBut _ _ (by rw [hb];exact Ne.symm n') e
 have f2:∀{x:AB} {h h':Heap} {i},x≠i2->x≠l2->Heap.SameBut x h h'->St2 i h->St2 i h':=fun n n' k st=>(D2 A hh).frame _ _ _ st fun b hb o e=>by
  have hb:b=i2\/b=l2:=by simpa using hb
  rcases hb with hb|hb
  ·exact k.extBut _ _ (by rw [hb];exact Ne.symm n) e
  ·exact k.extBut _ _ (by rw [hb];exact Ne.symm n') e
 refine AG (AG (wpAny_onRaise ?_))
 show AH _ _ (Builtin.SmallTypes.nextOf (.ref i1)>>=_) _ _ _
 by_cases hx:i=n1
 ·subst hx
  refine AG ((D1 _ hh).done _ _ _ (f1 D.i1z.symm (Ne.symm a1.1) hs₁ h1) fun h₂ e hs₂ he=> ?_)
  obtain⟨oe,hoe,hce⟩:=he
  have hz₂:IsZip h₂ z TI TO .ellipsis:=hs₂ _ _ D.i1z.symm hz₁
  have hez:e≠z:=fun x=>by subst x;rw [hz₂] at hoe;cases hoe;simp at hce
  exact wpAny_setField_rec hz₂ (by simp) fun h₃ _ hs₃=>hE h₃ e _ (fun c o c1 _ c3 _ x=>hs₃.extBut _ _ c1 (hs₂ _ _ c3 (hs₁.extBut _ _ c1 x))) ⟨oe,hs₃.extBut _ _ hez hoe,hce⟩
 ·have hy:i=n2:=hend.resolve_left hx
  subst hy
  refine AG ((D1 _ hh).item i _ _ _ (Nat.lt_of_le_of_ne m1 hx) (f1 D.i1z.symm (Ne.symm a1.1) hs₁ h1) fun x h₂ tk₂ px h1₂ hs₂=>AV ?_)
  have hTO₂:IsPair h₂ TO a b:=hs₂.extBut _ _ D.TOi1 (hs₁.extBut _ _ D.TOz hTO)
  refine AG (wpAny_seqItems hTO₂ rfl ?_)
  refine AG (wpAny_updateSeq_pair hTO₂ fun h₃ hTO₃ hs₃=> ?_)
  refine AG (wpAny_letGo (AV ?_))
  refine AG (AG (wpAny_onRaise ?_))
  show AH _ _ (Builtin.SmallTypes.nextOf (.ref i2)>>=_) _ _ _
  refine AG ((D2 _ hh).done _ _ _ (f2 D.TOi2 (Ne.symm a2.2.1) hs₃ (f2 D.i12 (Ne.symm a2.2.2.1) hs₂ (f2 D.i2z.symm (Ne.symm a2.1) hs₁ h2))) fun h₄ e hs₄ he=> ?_)
  obtain⟨oe,hoe,hce⟩:=he
  have hz₄:IsZip h₄ z TI TO .ellipsis:=hs₄ _ _ D.i2z.symm (hs₃.extBut _ _ D.TOz.symm (hs₂.extBut _ _ D.i1z.symm hz₁))
  have hez:e≠z:=fun x=>by subst x;rw [hz₄] at hoe;cases hoe;simp at hce
  exact wpAny_setField_rec hz₄ (by simp) fun h₅ _ hs₅=>hE h₅ e _ (fun c o c1 c2 c3 c4 x=>hs₅.extBut _ _ c1 (hs₄ _ _ c4 (hs₃.extBut _ _ c2 (hs₂.extBut _ _ c3 (hs₁.extBut _ _ c1 x))))) ⟨oe,hs₅.extBut _ _ hez hoe,hce⟩
theorem a3A{Q:Option AA->AC->Prop}(D:ZA z TI TO i1 i2)(D1:∀A',A'.handled=none->Draws prog w A' i1 [i1,l1] n1 P1 St1)(D2:∀A',A'.handled=none->Draws prog w A' i2 [i2,l2] n2 P2 St2)(hh:A.handled=none)(a1:LA z TO i1 i2 l1)(a2:LA z TO i1 i2 l2)
 (hz:IsZip s.heap z TI TO .none) (hTI:IsPair s.heap TI (.ref i1) (.ref i2)) (hTO:IsPair s.heap TO a b) (h1:St1 i s.heap) (h2:St2 i s.heap) (m1:i<n1) (m2:i<n2)
 (hQ:∀x y h' tk,P1 i x->P2 i y->IsZip h' z TI TO (rawInt s.heap.objs.size)->IsPair h' TO x y->St1 (i+1) h'->St2 (i+1) h'->IsPair h' s.heap.objs.size x y->h'.objs.size=s.heap.objs.size+1->
  (∀c o,c≠z->c≠TO->c≠i1->c≠i2->s.heap.get? c=some o->h'.get? c=some o)->Q (some (.ref s.heap.objs.size)) {s with heap:=h',toks:=tk}):
 AH (model prog w) A (pyNext (.ref z)) Q E s:=by
 have hT:s.TypeIs (.ref z) "zip":=⟨_,hz,rfl⟩
 unfold pyNext
 exact AG (wpAny_attempt (wpAny_callSpecial?_slot (name:=AN "__next__") hT F.slot_zip_next
  (wpAny_call_entry F.slot_zip_next hT F.entry_zip_next
   (a3G D D1 D2 hh a1 a2 hz hTI hTO h1 h2 m1 m2 fun x y h' tk p1 p2 a1 a2 a3 a4 a5 a6 a7=>AV (hQ x y h' tk p1 p2 a1 a2 a3 a4 a5 a6 a7)) (F.args_zip_next_1 _))))
theorem a4h{Q:Option AA->AC->Prop}(D:ZA z TI TO i1 i2)(D1:∀A',A'.handled=none->Draws prog w A' i1 [i1,l1] n1 P1 St1)(D2:∀A',A'.handled=none->Draws prog w A' i2 [i2,l2] n2 P2 St2)(hh:A.handled=none)(a1:LA z TO i1 i2 l1)(a2:LA z TO i1 i2 l2)
 (hz:IsZip s.heap z TI TO .none) (hTI:IsPair s.heap TI (.ref i1) (.ref i2)) (hTO:IsPair s.heap TO a b) (h1:St1 i s.heap) (h2:St2 i s.heap) (m1:i<=n1) (m2:i<=n2) (hend:i=n1\/i=n2)
 (hQ:∀h' tk,(∀c o,c≠z->c≠TO->c≠i1->c≠i2->s.heap.get? c=some o->h'.get? c=some o)->Q none {s with heap:=h',toks:=tk}):AH (model prog w) A (pyNext (.ref z)) Q E s:=by
 have hT:s.TypeIs (.ref z) "zip":=⟨_,hz,rfl⟩
 unfold pyNext
 refine AG (wpAny_attempt (wpAny_callSpecial?_slot (name:=AN "__next__") hT F.slot_zip_next
  (wpAny_call_entry F.slot_zip_next hT F.entry_zip_next (a5M D D1 D2 hh a1 a2 hz hTI hTO h1 h2 m1 m2 hend fun h' e tk hk he=> ?_) (F.args_zip_next_1 _))))
 obtain⟨o,ho,hc⟩:=he
 refine AG (wpAny_isInstance (T:="StopIteration") (b:=true) ⟨o,ho,hc⟩ isSubtype_stop ?_)
 exact AV (hQ _ _ hk)
end
section
variable {prog:AK}{w:AI}{A:AJ}{E:AA->AC->Prop}{s:AC}
end
theorem j7.turnedTupN{X:Cx}{pins:List (AB×Obj)}{σ:L2.St}{H:Hp}{s:AC}{h':Heap}{t':Nat}{ch:List AB}{xs:List V}(I:j7 X pins σ H s)(f:∀b∈ch,a3c X pins H b)
 (k:∀b o,b∉ch->s.heap.get? b=some o->h'.get? b=some o) (new:M7 X.prog X.w (upd H s.heap.objs.size (.tup xs)) h' s.heap.objs.size (.tup xs)):
 j7 X pins σ (upd H s.heap.objs.size (.tup xs)) {s with heap:=h',toks:=t'}:=by
 have hn:H s.heap.objs.size=none:=I.hok.fresh (AW _)
 have nb:∀b u,H b=some u->b∉ch:=fun b u q z=>by rw [(f b z).1] at q;cases q
 refine I.step (g':=s.gens) (d':=s.drawn) (ch:=ch) (fun b hb=>⟨(f b hb).2.2.2.1,(f b hb).2.1,(f b hb).2.2.2.2.1,(f b hb).2.2.2.2.2⟩) (fun b o _ _ hc q _=>k b o hc q) (fun b o _ _ hc q _=>⟨o.slots,k b o hc q⟩)
  (fun b o _ q n=>by rw [j0 (As (Ac q))];exact n) (fun b o hc q=>⟨o,k b o hc q⟩)
  (fun b xs q=>by rw [j0 (j6 q hn)];exact q) (fun b o u q=>by rw [j0 (j6 q hn)];exact q) (fun b ps q=>⟨#[],by rw [j0 (j6 q hn),q];simp⟩) (fun m hm=> ?_) (fun b u q=> ?_) I.bare
 ·obtain⟨o,es,ep,ho,r⟩:=hm
  exact⟨o,es,ep,k _ o (fun z=>(f _ z).2.1 rfl) ho,r⟩
 ·by_cases hb:b=s.heap.objs.size
  ·subst hb
   rw [t7] at q
   cases q
   exact new
  ·rw [j0 hb] at q
   refine(I.hok b u q).stay (fun c v hc y=>k c v ?_ y) (fun c y=>by rw [j0 (j6 y hn)];exact y) fun c ys y=>by rw [j0 (j6 y hn)];exact y
   rcases hc with z|z
   ·rw [z];exact nb b u q
   ·exact nb c _ z
theorem j7.turnedN{X:Cx}{pins:List (AB×Obj)}{σ:L2.St}{H:Hp}{s:AC}{h':Heap}{t':Nat}{ch:List AB}(I:j7 X pins σ H s)(f:∀b∈ch,a3c X pins H b)
 (k:∀b o,b∉ch->s.heap.get? b=some o->h'.get? b=some o):j7 X pins σ H {s with heap:=h',toks:=t'}:=by
 have nb:∀b u,H b=some u->b∉ch:=fun b u q z=>by rw [(f b z).1] at q;cases q
 refine I.step (g':=s.gens) (d':=s.drawn) (ch:=ch) (fun b hb=>⟨(f b hb).2.2.2.1,(f b hb).2.1,(f b hb).2.2.2.2.1,(f b hb).2.2.2.2.2⟩) (fun b o _ _ hc q _=>k b o hc q) (fun b o _ _ hc q _=>⟨o.slots,k b o hc q⟩)
  (fun _ _ _ _ n=>n) (fun b o hc q=>⟨o,k b o hc q⟩) (fun _ _ e=>e) (fun _ _ _ e=>e) (fun b ps e=>⟨#[],by rw [e];simp⟩) (fun m hm=> ?_) (fun b u q=> ?_) I.bare
 ·obtain⟨o,es,ep,ho,r⟩:=hm
  exact⟨o,es,ep,k _ o (fun z=>(f _ z).2.1 rfl) ho,r⟩
 ·refine(I.hok b u q).stay (fun c v hc y=>k c v ?_ y) (fun _ y=>y) fun _ _ y=>y
  rcases hc with z|z
  ·rw [z];exact nb b u q
  ·exact nb c _ z
theorem b1u:bootBuiltins "zip"=some (.type "zip"):=by decide+kernel
theorem b6K(n:Nat):ZA (n+4) (n+2) (n+3) n (n+1):=by
 exact⟨(by lia:(n+2:Nat)≠n+4),(by lia:(n+3:Nat)≠n+4),(by lia:(n:Nat)≠n+4),(by lia:(n+1:Nat)≠n+4),(by lia:(n+2:Nat)≠n+3),(by lia:(n+2:Nat)≠n),(by lia:(n+2:Nat)≠n+1),
  (by lia:(n+3:Nat)≠n),(by lia:(n+3:Nat)≠n+1),(by lia:(n:Nat)≠n+1)⟩
section
variable {X:Cx}
end
end ZT
namespace PU
open PySem PySem.Spec PyProof.Rows L2
section
variable {X:Cx}
end
section
variable {X:Cx}
end
section
variable {X:Cx}
inductive EJ (X:Cx):List AF->List M->Prop where
 |nil:EJ X [] []
 |cons {e:AF} {m:M} {es:List AF} {ms:List M} (h:EE X e m) (t:EJ X es ms):EJ X (e::es) (m::ms)
end
section
variable {X:Cx}{tg:AF}
end
section
variable {X:Cx}
end
end PU
set_option maxHeartbeats 4000000
namespace LW
open PySem PySem.Spec PyProof.Rows L2 PU
def Q4:PV:=(.int 24)
def O7:PV:=(.int 4)
def R0:PV:=(.int 12)
def G9(L7:List PV->Option e8):MS:=
 (B3 (E3 (m2 Z6 (m2 v7 (b7 2) (mC (.int 0))) (mC (.str "again")))) (E9 1 (m2 y8 (m2 y8 (m2 y8 (mC (.str "(")) (u4 L7 (b0 (m2 v7 (b7 2) (mC (.int 2))) j1))) (mC (.str ")"))) (m1 a5U (m2 v7 (b7 2) (mC (.int 1)))))) (B3 (E3 (m2 Z6 (m2 v7 (b7 2) (mC (.int 2))) (mC (.int 1)))) (E9 1 (m2 v7 (b7 2) (mC (.int 1)))) (E9 1 (m2 y8 (m2 v7 (b7 2) (mC (.int 1))) (m1 a5U (m2 v7 (b7 2) (mC (.int 2))))))))
def W5(L7:List PV->Option e8):MS:=
 (m9 (A8 1 (a3v j1))
 (m9 (a44 (a2g (b7 0)) (u6 2) (G9 L7))
 (u5 (m2 N8 (mC (.str " ")) (b7 1)))))
def a2V:Nat->(List PV->Option e8)
 |0=>(v6 2 (fun _=>none))
 |n+1=>(v6 2 (W5 ((a2V n))))
def O0(n:Nat):List PV->Option e8:=(a2V n)
def R8:List PV->Option e8:=O0 16
def a2s:MS:=
 (u5 (m2 (Z7 (fun _ j=>0<j) fun i j=> .int (i % j)) (m2 a0N (m2 y8 (m2 (Z7 (fun _ j=>0<j) fun i j=> .int (i % j)) (b7 0) (mC (.int 2147483629))) (mC (.int 48611))) (mC (.int 69621))) (mC (.int 2147483629))))
def D3:List PV->Option e8:=v6 0 a2s
def O1(r6:List PV->Option e8):M:=
 (m2 v7 (b7 2) (mC (.int 1)))
def O2(r6:List PV->Option e8):M:=
 (u4 r6 (b0 (m2 v7 (b7 2) (mC (.int 2))) j1))
def y9(r6:List PV->Option e8):MS:=
 (B3 (E3 (m2 Z6 (m2 v7 (b7 2) (mC (.int 0))) (mC (.str "run")))) (E9 1 (m2 N8 (mC (.str "")) (a43 1 (a2K (b0 (m2 v7 (b7 2) (mC (.int 2))) j1)) (u6 3) a6k (O1 r6)))) (E9 1 (m2 N8 (mC (.str "")) (a43 1 (a2K (b0 (m2 v7 (b7 2) (mC (.int 1))) j1)) (u6 3) a6k (O2 r6)))))
def N2(r6:List PV->Option e8):MS:=
 (m9 (A8 1 (a3v j1))
 (m9 (a44 (a2g (b7 0)) (u6 2) (y9 r6))
 (u5 (m2 N8 (mC (.str "")) (b7 1)))))
def a0P:Nat->(List PV->Option e8)
 |0=>(v6 2 (fun _=>none))
 |n+1=>(v6 2 (N2 ((a0P n))))
def D7(n:Nat):List PV->Option e8:=(a0P n)
def V9:List PV->Option e8:=D7 6
def C2(P6:List PV->Option e8):MS:=
 (B3 (E3 (m2 (gI fun i j=> .bool (decide (j<i))) (b7 5) (mC (.int 0)))) (m9 (A8 1 (m2 y8 (b7 1) (mC (.int 1))))
 (m9 (A8 8 (u4 D3 (b0 (m2 y8 (m2 v7 (b7 0) (m2 (Z7 (fun _ j=>0<j) fun i j=> .int (i % j)) (b7 1) (m1 U6 (b7 0)))) (m2 a0N (mC (.int 5)) (b7 1))) j1)))
 (B3 (W8 (E3 (m2 (gI fun i j=> .bool (decide (j<i))) (b7 3) (mC (.int 0)))) (W8 (E3 (m2 (gI fun i j=> .bool (decide (j<i))) (b7 5) (mC (.int 1)))) (E3 (m2 Z6 (m2 (Z7 (fun _ j=>0<j) fun i j=> .int (i % j)) (b7 8) (mC (.int 3))) (mC (.int 0)))))) (m9 (A8 9 (m2 y8 (mC (.int 2)) (m2 (Z7 (fun _ j=>0<j) fun i j=> .int (i % j)) (m2 (Z7 a0Q fun i j=> .int (i / j)) (b7 8) (mC (.int 3))) (m2 (gI fun i j=> .int (if j<i then j else i)) (mC (.int 3)) (m2 (gI fun i j=> .int (i - j)) (b7 5) (mC (.int 1)))))))
 (m9 (b5Y [10,1] (u4 P6 (b0 (b7 0) (b0 (m2 y8 (b7 1) (mC (.int 1))) (b0 (m2 (Z7 a0Q fun i j=> .int (i / j)) (b7 5) (b7 9)) (b0 (m2 (gI fun i j=> .int (i - j)) (b7 3) (mC (.int 1))) j1))))))
 (m9 (E9 4 (a0R (b0 (mC (.str "again")) (b0 (b7 9) (b0 (b7 10) j1)))))
 (A8 5 (m2 (gI fun i j=> .int (i - j)) (b7 5) (m2 a0N (b7 9) (m1 U6 (u4 V9 (b0 (b7 10) j1))))))))) (m9 (A8 9 (m2 y8 (mC (.int 1)) (m2 (Z7 (fun _ j=>0<j) fun i j=> .int (i % j)) (m2 (Z7 a0Q fun i j=> .int (i / j)) (b7 8) (mC (.int 3))) (m2 (gI fun i j=> .int (if j<i then j else i)) (b7 5) (m2 y8 (mC (.int 3)) (m2 a0N (mC (.int 9)) (m2 (Z7 a0Q fun i j=> .int (i / j)) (m2 (Z7 (fun _ j=>0<j) fun i j=> .int (i % j)) (m2 (Z7 a0Q fun i j=> .int (i / j)) (b7 8) (mC (.int 81))) (mC (.int 5))) (mC (.int 4)))))))))
 (m9 (E9 4 (a0R (b0 (mC (.str "run")) (b0 (m2 v7 (mC (.str "abcxz")) (m2 (Z7 (fun _ j=>0<j) fun i j=> .int (i % j)) (m2 (Z7 a0Q fun i j=> .int (i / j)) (b7 8) (mC (.int 405))) (mC (.int 5)))) (b0 (b7 9) j1)))))
 (A8 5 (m2 (gI fun i j=> .int (i - j)) (b7 5) (b7 9)))))))) u8)
def a0q(P6:List PV->Option e8):MS:=
 (m9 (A8 4 (a3v j1))
 (m9 (A8 5 (b7 2))
 (m9 (A8 6 (m2 y8 (mC (.int 1)) (m2 (Z7 (fun _ j=>0<j) fun i j=> .int (i % j)) (u4 D3 (b0 (m2 y8 (m2 v7 (b7 0) (m2 (Z7 (fun _ j=>0<j) fun i j=> .int (i % j)) (b7 1) (m1 U6 (b7 0)))) (b7 1)) j1)) (mC (.int 4)))))
 (m9 (a44 (a2K (b0 (b7 6) j1)) (u6 7) (C2 P6))
 (a5W 4 (u5 (a0R (b0 (b7 4) (b0 (b7 1) j1)))))))))
def a3Z:Nat->(List PV->Option e8)
 |0=>(v6 7 (fun _=>none))
 |n+1=>(v6 7 (a0q ((a3Z n))))
def C8(n:Nat):List PV->Option e8:=(a3Z n)
def a2f:List PV->Option e8:=C8 6
def a1Y:MS:=
 (m9 (B3 (E3 (m2 a2d (b7 1) (m1 U6 (b7 0)))) (u5 (m2 v7 (b7 0) (b7 1))) u8)
 (u5 (mC (.int 0))))
def Q6:List PV->Option e8:=v6 0 a1Y
def a3O:MS:=
 (m9 (A8 3 (m2 y8 (C4 (b7 0) (w6 (b7 1)) O3) (a3v (b0 (mC (.int 1)) j1))))
 (m9 (A8 4 (m2 v7 (a3v (b0 (b7 2) (b0 (b7 2) (b0 (m2 (Z7 a0Q fun i j=> .int (i / j)) (b7 2) (mC (.int 2))) (b0 (mC (.int 5)) j1))))) (m2 (Z7 (fun _ j=>0<j) fun i j=> .int (i % j)) (m2 (Z7 a0Q fun i j=> .int (i / j)) (u4 D3 (b0 (u4 Q6 (b0 (b7 0) (b0 (b7 1) j1))) j1)) (mC (.int 4))) (mC (.int 4)))))
 (a5W 3 (u5 (m2 v7 (u4 a2f (b0 (b7 3) (b0 (mC (.int 0)) (b0 (b7 4) (b0 (mC (.int 3)) j1))))) (mC (.int 0)))))))
def R7:List PV->Option e8:=v6 2 a3O
def p3:MS:=
 (B3 (E3 (m2 (J7 true) (b7 2) (mC (.str "0123456789")))) (u5 (mC .none)) u8)
def a3N:MS:=
 (m9 (B3 (E3 (m2 Z6 (b7 0) (mC (.str "")))) (u5 (mC (.int 1))) u8)
 (m9 (a44 (a45 (b7 0)) (u6 2) p3)
 (m9 (B3 (U8 (E3 (m2 Z6 (m2 v7 (b7 0) (mC (.int 0))) (mC (.str "0")))) (U8 (E3 (m2 (gI fun i j=> .bool (decide (j<i))) (m1 U6 (b7 0)) (mC (.int 3)))) (E3 (m2 a2d (m1 a3S (b7 0)) (b7 1))))) (u5 (mC .none)) u8)
 (u5 (m1 a3S (b7 0))))))
def p8:List PV->Option e8:=v6 1 a3N
def m6:MS:=
 (m9 (B3 (E3 (m2 Z6 (C4 (b7 2) O3 (w6 (mC (.int 1)))) (mC (.str "#")))) (A8 3 (m1 a3S (C4 (b7 2) (w6 (mC (.int 1))) (w6 (b5X (mC (.int 1))))))) (m9 (A8 4 (u4 p8 (b0 (C4 (b7 2) (w6 (mC (.int 1))) O3) (b0 (mC (.int 2)) j1))))
 (m9 (B3 (U8 (E3 (m2 Z6 (b7 2) (mC (.str "")))) (U8 (E3 (m2 (J7 true) (m2 v7 (b7 2) (mC (.int 0))) (mC (.str "abcdefghijklmnopqrstuvwxyz")))) (E3 (m2 (S9 false) (b7 4) (mC .none))))) (u5 (mC .none)) u8)
 (A8 3 (b7 4)))))
 (A8 1 (m2 y8 (b7 1) (b7 3))))
def a4F:MS:=
 (m9 (A8 1 (mC (.int 0)))
 (m9 (a44 (a2g (m2 a3n (b7 0) (mC (.str " ")))) (u6 2) m6)
 (a2J 1)))
def G5:List PV->Option e8:=v6 4 a4F
def Q8:MS:=
 (A8 3 (m2 y8 (b7 3) (mC (.int 1))))
def o8:MS:=
 (m9 (A8 1 (m2 a3m (b7 0) (mC (.str "("))))
 (m9 (A8 2 (m3 a4Q (b7 0) (mC (.str ")")) (m2 (gI fun i j=> .int (if j>i then j else i)) (b7 1) (mC (.int 0)))))
 (m9 (B3 (U8 (E3 (m2 a2d (b7 1) (mC (.int 0)))) (E3 (m2 a2d (b7 2) (mC (.int 0))))) (u5 (mC .none)) u8)
 (m9 (A8 3 (m2 y8 (b7 2) (mC (.int 1))))
 (m9 (y0 (W8 (E3 (m2 a2d (b7 3) (m1 U6 (b7 0)))) (E3 (m2 (J7 false) (m2 v7 (b7 0) (b7 3)) (mC (.str "0123456789"))))) Q8 200)
 (m9 (A8 4 (u4 G5 (b0 (C4 (b7 0) (w6 (m2 y8 (b7 1) (mC (.int 1)))) (w6 (b7 2))) j1)))
 (m9 (A8 5 (u4 p8 (b0 (C4 (b7 0) (w6 (m2 y8 (b7 2) (mC (.int 1)))) (w6 (b7 3))) (b0 (mC (.int 2)) j1))))
 (m9 (B3 (U8 (E3 (m2 (S9 false) (b7 4) (mC .none))) (U8 (E3 (m2 (S9 false) (b7 5) (mC .none))) (E3 (m2 Z6 (m2 y8 (b7 2) (mC (.int 1))) (b7 3))))) (u5 (mC .none)) u8)
 (m9 (B3 (U8 (E3 (m2 (J7 true) (C4 (b7 0) (w6 (m2 (gI fun i j=> .int (i - j)) (b7 1) (mC (.int 1)))) (w6 (b7 1))) (a0R (b0 (mC (.str "")) (b0 (mC (.str " ")) (b0 (mC (.str "(")) j1)))))) (E3 (m2 (J7 true) (C4 (b7 0) (w6 (b7 3)) (w6 (m2 y8 (b7 3) (mC (.int 1))))) (a0R (b0 (mC (.str "")) (b0 (mC (.str " ")) (b0 (mC (.str ")")) j1))))))) (u5 (mC .none)) u8)
 (A8 0 (m2 y8 (m2 y8 (m2 y8 (m2 y8 (C4 (b7 0) O3 (w6 (b7 1))) (mC (.str "#"))) (m1 a5U (m2 a0N (b7 4) (b7 5)))) (mC (.str "!"))) (C4 (b7 0) (w6 (b7 3)) O3))))))))))))
def a16:MS:=
 (m9 (B3 (U8 (E3 (m2 (J7 false) (mC (.str "#")) (b7 0))) (E3 (m2 (J7 false) (mC (.str "!")) (b7 0)))) (u5 (mC .none)) u8)
 (m9 (y0 (U8 (E3 (m2 (J7 false) (mC (.str "(")) (b7 0))) (E3 (m2 (J7 false) (mC (.str ")")) (b7 0)))) o8 200)
 (a5W 0 (u5 (u4 G5 (b0 (b7 0) j1))))))
def G6:List PV->Option e8:=v6 5 a16
def U7:MS:=
 (a78 4 (gI fun i j=> .int (i+j)) (mC (.int 1)))
def a55:MS:=
 (m9 (A8 4 (b7 1))
 (m9 (y0 (W8 (E3 (m2 a2d (b7 4) (m1 U6 (b7 0)))) (E3 (Y0 Z8 Z8 (b7 2) (m2 v7 (b7 0) (b7 4)) (b7 3)))) U7 200)
 (a2J 4)))
def a3o:List PV->Option e8:=v6 1 a55
def a1X:MS:=
 (u5 (u4 a3o (b0 (b7 0) (b0 (b7 1) (b0 (mC (.str "0")) (b0 (mC (.str "9")) j1))))))
def E6:List PV->Option e8:=v6 0 a1X
def a3P:MS:=
 (m9 (B3 (U8 (M2 (E3 (Y0 Z8 Z8 (mC (.int 1)) (m1 U6 (b7 0)) (mC O7)))) (E3 (m2 gNe (u4 E6 (b0 (b7 0) (b0 (mC (.int 0)) j1))) (m1 U6 (b7 0))))) (u5 (mC .none)) u8)
 (m9 (B3 (W8 (E3 (m2 Z6 (m2 v7 (b7 0) (mC (.int 0))) (mC (.str "0")))) (E3 (m2 (gI fun i j=> .bool (decide (j<i))) (m1 U6 (b7 0)) (mC (.int 1))))) (u5 (mC .none)) u8)
 (u5 (m1 a3S (b7 0)))))
def W7:List PV->Option e8:=v6 0 a3P
def Z3:MS:=
 (m9 (A8 3 (u4 W7 (b0 (b7 0) j1)))
 (m9 (B3 (U8 (E3 (m2 (S9 false) (b7 3) (mC .none))) (M2 (E3 (Y0 Z8 Z8 (b7 1) (b7 3) (b7 2))))) (u5 (mC .none)) u8)
 (a2J 3)))
def A4:List PV->Option e8:=v6 1 Z3
def a17:MS:=
 (m9 (A8 2 (u4 E6 (b0 (b7 0) (b0 (b7 1) j1))))
 (m9 (B3 (E3 (m2 Z6 (b7 2) (b7 1))) (u5 (a0R (b0 (mC (.int 1)) (b0 (b7 2) j1)))) u8)
 (m9 (A8 3 (u4 A4 (b0 (C4 (b7 0) (w6 (b7 1)) (w6 (b7 2))) (b0 (mC (.int 2)) (b0 (mC Q4) j1)))))
 (m9 (B3 (E3 (m2 (S9 false) (b7 3) (mC .none))) (u5 (mC .none)) u8)
 (u5 (a0R (b0 (b7 3) (b0 (b7 2) j1))))))))
def A7:List PV->Option e8:=v6 2 a17
def b1s:MS:=
 (u5 (a0R (b0 (mC (.str "run")) (b0 (b7 0) (b0 (b7 1) j1)))))
def a4V:List PV->Option e8:=v6 0 b1s
def P7(R_again_at l5 p6:List PV->Option e8):MS:=
 (m9 (B3 (E3 (m2 Z6 (b7 2) (mC (.int 0)))) (u5 (mC .none)) u8)
 (m9 (A8 5 (u4 p6 (b0 (b7 0) (b0 (b7 1) (b0 (m2 (gI fun i j=> .int (i - j)) (b7 2) (mC (.int 1))) (b0 (b7 3) j1))))))
 (m9 (B3 (U8 (E3 (m2 (S9 false) (b7 5) (mC .none))) (M2 (mtV (m3 J4 (b7 0) (b7 4) (m2 v7 (b7 5) (mC (.int 1))))))) (u5 (mC .none)) u8)
 (m9 (A8 6 (u4 A7 (b0 (b7 0) (b0 (m2 y8 (m2 v7 (b7 5) (mC (.int 1))) (mC (.int 1))) j1))))
 (m9 (B3 (U8 (E3 (m2 (S9 false) (b7 6) (mC .none))) (E3 (m2 Z6 (m2 v7 (b7 6) (mC (.int 0))) (mC (.int 1))))) (u5 (mC .none)) u8)
 (u5 (a0R (b0 (a0R (b0 (mC (.str "again")) (b0 (m2 v7 (b7 6) (mC (.int 0))) (b0 (m2 v7 (b7 5) (mC (.int 0))) j1)))) (b0 (m2 v7 (b7 6) (mC (.int 1))) j1)))))))))
def N1(R_again_at l5 p6:List PV->Option e8):MS:=
 (m9 (B3 (mtV (m3 J4 (b7 0) (mC (.str "(")) (b7 1))) (u5 (u4 R_again_at (b0 (b7 0) (b0 (m2 y8 (b7 1) (mC (.int 1))) (b0 (b7 2) (b0 (mC (a7W "fold_part_at")) (b0 (mC (.str ")")) j1))))))) u8)
 (m9 (B3 (M2 (E3 (Y0 Z8 Z8 (mC (.str "a")) (C4 (b7 0) (w6 (b7 1)) (w6 (m2 y8 (b7 1) (mC (.int 1))))) (mC (.str "z"))))) (u5 (mC .none)) u8)
 (m9 (A8 3 (u4 A7 (b0 (b7 0) (b0 (m2 y8 (b7 1) (mC (.int 1))) j1))))
 (m9 (B3 (E3 (m2 (S9 false) (b7 3) (mC .none))) (u5 (mC .none)) u8)
 (u5 (a0R (b0 (u4 a4V (b0 (m2 v7 (b7 0) (b7 1)) (b0 (m2 v7 (b7 3) (mC (.int 0))) j1))) (b0 (m2 v7 (b7 3) (mC (.int 1))) j1))))))))
def A0(R_again_at l5 p6:List PV->Option e8):MS:=
 (m9 (A8 5 (a08 [("fold_part_at",l5)] 3 (b0 (b7 0) (b0 (b7 1) (b0 (b7 2) j1)))))
 (m9 (B3 (E3 (m2 (S9 false) (b7 5) (mC .none))) (u5 (mC .none)) u8)
 (m9 (E9 4 (m2 v7 (b7 5) (mC (.int 0))))
 (m9 (B3 (M2 (mtV (m3 J4 (b7 0) (mC (.str " ")) (m2 v7 (b7 5) (mC (.int 1)))))) (a5W 4 (u5 (a0R (b0 (b7 4) (b0 (m2 v7 (b7 5) (mC (.int 1))) j1))))) u8)
 (A8 1 (m2 y8 (m2 v7 (b7 5) (mC (.int 1))) (mC (.int 1))))))))
def a0r(R_again_at l5 p6:List PV->Option e8):MS:=
 (m9 (A8 4 (a3v j1))
 (y0 (mtV (mC (.bool true))) (A0 R_again_at l5 p6) 200))
def v9:Nat->(List PV->Option e8)×(List PV->Option e8)×(List PV->Option e8)
 |0=>(v6 2 (fun _=>none),v6 1 (fun _=>none),v6 2 (fun _=>none))
 |n+1=>(v6 2 (P7 ((v9 n).1) ((v9 n).2.1) ((v9 n).2.2)),v6 1 (N1 ((v9 n).1) ((v9 n).2.1) ((v9 n).2.2)),v6 2 (a0r ((v9 n).1) ((v9 n).2.1) ((v9 n).2.2)))
def G8(n:Nat):List PV->Option e8:=(v9 n).1
def u0(n:Nat):List PV->Option e8:=(v9 n).2.1
def a4U:List PV->Option e8:=u0 42
def C9(n:Nat):List PV->Option e8:=(v9 n).2.2
def W0:List PV->Option e8:=C9 42
def K5(P5:List PV->Option e8):MS:=
 (B3 (E3 (m2 Z6 (m2 v7 (b7 2) (mC (.int 0))) (mC (.str "run")))) (a78 1 (gI fun i j=> .int (i+j)) (m2 v7 (b7 2) (mC (.int 2)))) (a78 1 (gI fun i j=> .int (i+j)) (m2 a0N (m2 v7 (b7 2) (mC (.int 1))) (u4 P5 (b0 (m2 v7 (b7 2) (mC (.int 2))) j1)))))
def a0p(P5:List PV->Option e8):MS:=
 (m9 (A8 1 (mC (.int 0)))
 (m9 (a44 (a2g (b7 0)) (u6 2) (K5 P5))
 (a2J 1)))
def a3Y:Nat->(List PV->Option e8)
 |0=>(v6 2 (fun _=>none))
 |n+1=>(v6 2 (a0p ((a3Y n))))
def S0(n:Nat):List PV->Option e8:=(a3Y n)
def a2e:List PV->Option e8:=S0 16
def a01:MX:=
 (a8b (b3V (M2 (mtV (m1 (a84 "str") (b7 0)))) (b2e "NoFold" (b0 (mC (.str "what is no text writes no fold")) j1)) (a49 u8))
 (a8b (a49 (A8 1 (u4 W0 (b0 (b7 0) (b0 (mC (.int 0)) (b0 (mC R0) (b0 (mC (a7W "fold_part_at")) j1)))))))
 (a8b (b3V (U8 (E3 (m2 (S9 false) (b7 1) (mC .none))) (U8 (E3 (m2 gNe (m2 v7 (b7 1) (mC (.int 1))) (m1 U6 (b7 0)))) (E3 (m2 (gI fun i j=> .bool (decide (j<i))) (u4 a2e (b0 (m2 v7 (b7 1) (mC (.int 0))) j1)) (mC Q4))))) (b2e "NoFold" (b0 (mC (.str "the text writes no fold of a line")) j1)) (a49 u8))
 (a49 (u5 (m2 v7 (b7 1) (mC (.int 0))))))))
def v8:List PV->Option (e8 ⊕ XT):=b2N 1 a01
def a0J:MS:=
 (m9 (B3 (E3 (m2 Z6 (b7 0) (mC (.int 1)))) (u5 (mC (.str ""))) u8)
 (u5 (m1 a5U (b7 0))))
def K8:List PV->Option e8:=v6 0 a0J
def T1(t8 R_shown_part:List PV->Option e8):M:=
 (u4 R_shown_part (b0 (b7 1) j1))
def U2(t8 R_shown_part:List PV->Option e8):MS:=
 (u5 (m2 N8 (mC (.str " ")) (a43 1 (a2I (b7 0)) (u6 1) a6k (T1 t8 R_shown_part))))
def U3(t8 R_shown_part:List PV->Option e8):MS:=
 (m9 (B3 (E3 (m2 Z6 (m2 v7 (b7 0) (mC (.int 0))) (mC (.str "run")))) (u5 (m2 y8 (m2 v7 (b7 0) (mC (.int 1))) (u4 K8 (b0 (m2 v7 (b7 0) (mC (.int 2))) j1)))) u8)
 (u5 (m2 y8 (m2 y8 (m2 y8 (mC (.str "(")) (u4 t8 (b0 (m2 v7 (b7 0) (mC (.int 2))) j1))) (mC (.str ")"))) (m1 a5U (m2 v7 (b7 0) (mC (.int 1)))))))
def E8:Nat->(List PV->Option e8)×(List PV->Option e8)
 |0=>(v6 0 (fun _=>none),v6 0 (fun _=>none))
 |n+1=>(v6 0 (U2 ((E8 n).1) ((E8 n).2)),v6 0 (U3 ((E8 n).1) ((E8 n).2)))
def E7(n:Nat):List PV->Option e8:=(E8 n).1
def a0u:List PV->Option e8:=E7 30
def K4(n:Nat):List PV->Option e8:=(E8 n).2
def a00:MS:=
 (m9 (A8 1 (u4 G6 (b0 (b7 0) j1)))
 (m9 (A8 2 (mC .none))
 (m9 (a0w (a2L 2 v8 (b0 (b7 0) j1)) 3 (inL ["NoFold"]) (B3 (U8 (M2 (mtV (m1 (a5T [("NoFold",true)]) (b7 3)))) (M2 (mtV (m1 (a5T [("NoFold",true)]) (b7 3))))) (u5 (mC (.bool false))) u8))
 (m9 (B3 (E3 (m2 (S9 false) (b7 2) (mC .none))) (u5 (mOr (m2 (S9 false) (b7 1) (mC .none)) (m2 (gI fun i j=> .bool (decide (j<i))) (b7 1) (mC (.int 24))))) u8)
 (u5 (b17 (m2 (S9 true) (b7 1) (mC .none)) (b17 (m2 Z8 (b7 1) (mC (.int 24))) (b17 (m2 Z6 (u4 R8 (b0 (b7 2) j1)) (b7 0)) (m2 Z6 (u4 a0u (b0 (b7 2) j1)) (b7 0))))))))))
def M1:List PV->Option e8:=v6 3 a00
def a1Z:MS:=
 (m9 (b0R (a6m v8 (b0 (b7 0) j1)) (inL ["NoFold"]) (u5 (mC (.bool true))))
 (u5 (mC (.bool false))))
def Q7:List PV->Option e8:=v6 0 a1Z
def J9:MS:=
 (m9 (A8 2 (m2 (Z7 (fun _ j=>0<j) fun i j=> .int (i % j)) (b7 1) (mC (.int 5))))
 (m9 (A8 3 (m2 (Z7 (fun _ j=>0<j) fun i j=> .int (i % j)) (m2 (Z7 a0Q fun i j=> .int (i / j)) (b7 1) (mC (.int 5))) (m2 y8 (m1 U6 (b7 0)) (mC (.int 1)))))
 (m9 (A8 4 (m2 v7 (mC (.str "ab12309 ()) (xA-+]\n")) (m2 (Z7 (fun _ j=>0<j) fun i j=> .int (i % j)) (m2 (Z7 a0Q fun i j=> .int (i / j)) (b7 1) (mC (.int 500))) (mC (.int 19)))))
 (m9 (B3 (E3 (m2 Z6 (b7 2) (mC (.int 0)))) (u5 (m2 y8 (C4 (b7 0) O3 (w6 (b7 3))) (C4 (b7 0) (w6 (m2 y8 (b7 3) (mC (.int 1)))) O3))) u8)
 (m9 (B3 (E3 (m2 Z6 (b7 2) (mC (.int 1)))) (u5 (m2 y8 (m2 y8 (C4 (b7 0) O3 (w6 (b7 3))) (b7 4)) (C4 (b7 0) (w6 (m2 y8 (b7 3) (mC (.int 1)))) O3))) u8)
 (m9 (B3 (W8 (E3 (m2 Z6 (b7 2) (mC (.int 2)))) (E3 (m2 Z6 (m2 (Z7 (fun _ j=>0<j) fun i j=> .int (i % j)) (m2 (Z7 a0Q fun i j=> .int (i / j)) (b7 1) (mC (.int 5))) (mC (.int 3))) (mC (.int 0))))) (m9 (A8 5 (a3v (b0 (mC (.str "a24")) (b0 (mC (.str "a25")) (b0 (mC (.str "(a b)12")) (b0 (mC (.str "(a b)13")) (b0 (mC (.str "(a2 b)8")) (b0 (mC (.str "(a2 b)8 c")) (b0 (mC (.str "((a)2)12")) (b0 (mC (.str "a99")) (b0 (mC (.str "a100")) (b0 (mC (.str "(a12)2 b")) j1))))))))))))
 (u5 (m2 v7 (b7 5) (m2 (Z7 (fun _ j=>0<j) fun i j=> .int (i % j)) (m2 (Z7 a0Q fun i j=> .int (i / j)) (b7 1) (mC (.int 15))) (mC (.int 10)))))) u8)
 (u5 (m2 y8 (m2 y8 (C4 (b7 0) O3 (w6 (b7 3))) (b7 4)) (C4 (b7 0) (w6 (b7 3)) O3)))))))))
def z9:List PV→Option e8:=v6 4 J9
def a2F:MS:=
 (m9 (A8 3 (u4 D3 (b0 (b7 2) j1)))
 (m9 (B3 (M2 (mtV (u4 M1 (b0 (u4 z9 (b0 (b7 1) (b0 (b7 3) j1))) j1)))) (u5 (mC (.bool false))) u8)
 (B3 (M2 (mtV (u4 Q7 (b0 (m2 v7 (a3v (b0 (mC .none) (b0 (mC (.int 5)) (b0 (a3v (b0 (mC (.str "a")) j1)) (b0 (a0R (b0 (mC (.str "run")) (b0 (mC (.str "a")) (b0 (mC (.int 1)) j1)))) (b0 (a3v (b0 (a0R (b0 (mC (.str "run")) (b0 (mC (.str "a")) (b0 (mC (.int 1)) j1)))) j1)) (b0 (mC (.bool true)) j1))))))) (m2 (Z7 (fun _ j=>0<j) fun i j=> .int (i % j)) (b7 3) (mC (.int 6)))) j1)))) (u5 (mC (.bool false))) u8)))
def b4O:MS:=
 (m9 (A8 1 (u4 R8 (b0 (u4 R7 (b0 (b7 0) (b0 (mC (.int 0)) (b0 (mC (.int 24)) j1)))) j1)))
 (m9 (B3 (M2 (mtV (u4 M1 (b0 (b7 1) j1)))) (u5 (mC (.bool false))) u8)
 (m9 (a44 (a2g (m2 y8 (C4 (b7 0) O3 (w6 (mC (.int 60)))) (a3v (b0 (mC (.int 2)) j1)))) (u6 2) a2F)
 (u5 (mC (.bool true))))))
def b1S:List PV→Option e8:=v6 3 b4O
end LW
set_option maxHeartbeats 1000000
namespace LW
open PySem PySem.Spec PyProof.Rows L2 PU
theorem a8B:∀(l:List Nat) (g:Nat→Nat),((l.map fun c=>[g c]).map (·.length)).sum=l.length
 |[],_=>rfl
 |a::l,g=>by
  have:=a8B l g
  simp only [AL,AS,Ai,List.sum_cons] at this ⊢
  lia
theorem b0J(l:List Nat)(g:Nat→Nat):G7 [] (l.map fun c=>[g c])=l.map g:=by
 rw [a71]
 have:(l.map fun c=>[g c])=((l.map g).map fun c=>[c]):=by rw [Ax];rfl
 rw [this,a3R]
theorem a85{k:Nat}(hk:k≤10000)(g:Nat→Nat):N8 (.val (.str (S []))) (.own ((Ao k).map fun j=>row [g j]))=some (.val (row ((Ao k).map g))):=by
 rw [a2c (rows:=(Ao k).map fun j=>[g j]),b0J]
 ·show some _=some _
  rw [Ax];rfl
 ·rw [a8B,BG,Ak,BG];simp only [Ai];lia
abbrev A5:=Nat ⊕ Nat
inductive Ea where
 |run (c k:Nat)
 |again (k:Nat) (ps:List Ea)
 |hole (N:Nat)
def dg3(k:Nat):List Nat:=if k<10 then [48+k] else if k<100 then [48+k / 10,48+k % 10] else [48+k / 100,48+k / 10 % 10,48+k % 10]
def wt3(k:Nat):List Nat:=if k=1 then [] else dg3 k
mutual
def shE:Ea→List A5
 | .run c k=> .inl c::(wt3 k).map .inl
 | .again k ps=> .inl 40::(B0 ps++ .inl 41::(dg3 k).map .inl)
 | .hole N=>[.inr N]
def B0:List Ea→List A5
 |[]=>[]
 |p::ps=>shE p++poT ps
def poT:List Ea→List A5
 |[]=>[]
 |p::ps=> .inl 32::(shE p++poT ps)
end
mutual
def knE:Ea→Nat
 | .run _ k=>k
 | .again k ps=>x8 ps*k
 | .hole N=>N
def x8:List Ea→Nat
 |[]=>0
 |p::ps=>knE p+x8 ps
end
mutual
def vE:Ea→Prop
 | .run c k=>(97≤c∧c≤122)∧1≤k∧k≤999
 | .again k ps=>(2≤k∧k≤999)∧ps≠[]∧vEL ps
 | .hole N=>1≤N
def vEL:List Ea→Prop
 |[]=>True
 |p::ps=>vE p∧vEL ps
end
def flE:Ea→Bool
 | .again _ _=>false
 |_=>true
theorem Z2{α:Type}:∀{X Y A B:List α} {h:α},X++Y=A++h::B→(∃C,X=A++h::C∧B=C++Y)∨∃C,A=X++C∧Y=C++h::B
 |[],Y,A,B,h,e=> .inr ⟨A,rfl,e⟩
 |x::X,Y,[],B,h,e=>by
  injection e with e1 e2
  exact .inl ⟨X,by rw [e1];rfl,e2.symm⟩
 |x::X,Y,a::A,B,h,e=>by
  injection e with e1 e2
  subst e1
  rcases Z2 e2 with⟨C,c1,c2⟩|⟨C,c1,c2⟩
  ·exact .inl ⟨C,by rw [c1];rfl,c2⟩
  ·exact .inr ⟨C,by rw [c1];rfl,c2⟩
theorem a9f{l:List Nat}{A B:List A5}{m:Nat}(e:l.map Sum.inl=A++ .inr m::B):False:=by
 have:(Sum.inr m:A5)∈l.map Sum.inl:=by rw [e];simp
 simp at this
abbrev fil(F:List Ea)(k:Nat):List A5:= .inl 40::(B0 F++ .inl 41::(dg3 k).map .inl)
mutual
theorem b4U{F:List Ea}{k m:Nat}(hF:vEL F)(hne:F≠[])(hk:2≤k∧k≤999)(hm:m=x8 F*k):∀{p:Ea} {A B:List A5},vE p→shE p=A++ .inr m::B→∃q,vE q∧knE q=knE p∧shE q=A++(fil F k++B)
 | .run c j,A,B,_,e=>by
   rw [shE] at e
   exact(a9f (l:=c::wt3 j) e).elim
 | .hole N,A,B,_,e=>by
   rw [shE] at e
   cases A with
   |nil=>
    injection e with e1 e2
    refine⟨.again k F,⟨hk,hne,hF⟩, ?_, ?_⟩
    ·rw [knE,knE,←hm];exact(Sum.inr.inj e1).symm
    ·rw [shE,←e2,AR,Ag]
   |cons a A=>
    injection e with e1 e2
    cases A<;>cases e2
 | .again j ps,A,B,v,e=>by
   rw [shE] at e
   rw [vE] at v
   cases A with
   |nil=>injection e with e1 e2;cases e1
   |cons a A=>
    injection e with e1 e2
    subst e1
    rcases Z2 e2 with⟨C,c1,c2⟩|⟨C,c1,c2⟩
    ·obtain⟨qs,q1,q2,q3,q4⟩:=b4V hF hne hk hm v.2.2 c1
     refine⟨.again j qs,⟨v.1,q4 v.2.1,q1⟩,by rw [knE,knE,q2], ?_⟩
     rw [shE,q3,c2]
     simp only [List.append_assoc,AO]
    ·cases C with
     |nil=>injection c2 with c3 c4;cases c3
     |cons c C=>
      injection c2 with c3 c4
      exact(a9f c4).elim
theorem b4V{F:List Ea}{k m:Nat}(hF:vEL F)(hne:F≠[])(hk:2≤k∧k≤999)(hm:m=x8 F*k):∀{ps:List Ea} {A B:List A5},vEL ps→B0 ps=A++ .inr m::B→∃qs,vEL qs∧x8 qs=x8 ps∧B0 qs=A++(fil F k++B)∧(ps≠[]→qs≠[])
 |[],A,B,_,e=>by rw [B0] at e;cases A<;>cases e
 |p::ps,A,B,v,e=>by
  rw [B0] at e
  rw [vEL] at v
  rcases Z2 e with⟨C,c1,c2⟩|⟨C,c1,c2⟩
  ·obtain⟨q,q1,q2,q3⟩:=b4U hF hne hk hm v.1 c1
   refine⟨q::ps,⟨q1,v.2⟩,by rw [x8,x8,q2], ?_,fun _=>by simp⟩
   rw [B0,q3,c2]
   simp only [List.append_assoc,AO]
  ·obtain⟨qs,q1,q2,q3⟩:=b4W hF hne hk hm v.2 c2
   refine⟨p::qs,⟨v.1,q1⟩,by rw [x8,x8,q2], ?_,fun _=>by simp⟩
   rw [B0,q3,c1]
   simp only [List.append_assoc,AO]
theorem b4W{F:List Ea}{k m:Nat}(hF:vEL F)(hne:F≠[])(hk:2≤k∧k≤999)(hm:m=x8 F*k):∀{ps:List Ea} {A B:List A5},vEL ps→poT ps=A++ .inr m::B→∃qs,vEL qs∧x8 qs=x8 ps∧poT qs=A++(fil F k++B)
 |[],A,B,_,e=>by rw [poT] at e;cases A<;>cases e
 |p::ps,A,B,v,e=>by
  rw [poT] at e
  rw [vEL] at v
  cases A with
  |nil=>injection e with e1 e2;cases e1
  |cons a A=>
   injection e with e1 e2
   subst e1
   rcases Z2 e2 with⟨C,c1,c2⟩|⟨C,c1,c2⟩
   ·obtain⟨q,q1,q2,q3⟩:=b4U hF hne hk hm v.1 c1
    refine⟨q::ps,⟨q1,v.2⟩,by rw [x8,x8,q2], ?_⟩
    rw [poT,q3,c2]
    simp only [List.append_assoc,AO]
   ·obtain⟨qs,q1,q2,q3⟩:=b4W hF hne hk hm v.2 c2
    refine⟨p::qs,⟨v.1,q1⟩,by rw [x8,x8,q2], ?_⟩
    rw [poT,q3,c1]
    simp only [List.append_assoc,AO]
end
theorem a6R{k x:Nat}(h:x∈dg3 k):48≤x:=by
 unfold dg3 at h
 split at h
 ·simp at h;lia
 ·split at h
  ·simp at h;lia
  ·simp at h;lia
theorem b25{k x:Nat}(h:x∈wt3 k):48≤x:=by
 unfold wt3 at h
 split at h
 ·cases h
 ·exact a6R h
abbrev noB(t:A5):Prop:=t≠.inl 40∧t≠.inl 41
theorem a68{l:List Nat}(h:∀x∈l,48≤x){t:A5}(ht:t∈l.map Sum.inl):noB t:=by
 obtain⟨x,hx,rfl⟩:=BA.mp ht
 have:=h x hx
 constructor<;>intro z<;>have:=Sum.inl.inj z<;>lia
theorem a9J:∀{p:Ea},vE p→flE p=true→∀t∈shE p,noB t
 | .run c k,v,_,t,ht=>by
   rw [shE] at ht
   rw [vE] at v
   refine a68 (l:=c::wt3 k) (fun x hx=> ?_) ht
   rcases Ad.mp hx with e|hx
   ·lia
   ·exact b25 hx
 | .hole N,_,_,t,ht=>by
   rw [shE] at ht
   have:t= .inr N:=by simpa using ht
   rw [this]
   exact⟨fun z=>(nomatch z),fun z=>(nomatch z)⟩
theorem a7p:∀{ps:List Ea},vEL ps→(∀p∈ps,flE p=true)→∀t∈poT ps,noB t
 |[],_,_,t,ht=>by rw [poT] at ht;cases ht
 |p::ps,v,f,t,ht=>by
  rw [poT] at ht
  rw [vEL] at v
  rcases Ad.mp ht with e|ht
  ·rw [e];exact⟨by decide,by decide⟩
  ·rcases Am.mp ht with h|h
   ·exact a9J v.1 (f p Af) t h
   ·exact a7p v.2 (fun q hq=>f q (Ae _ hq)) t h
theorem a7t{ps:List Ea}(v:vEL ps)(f:∀p∈ps,flE p=true):∀t∈B0 ps,noB t:=by
 cases ps with
 |nil=>intro t ht;rw [B0] at ht;cases ht
 |cons p ps=>
  intro t ht
  rw [B0] at ht
  rw [vEL] at v
  rcases Am.mp ht with h|h
  ·exact a9J v.1 (f p Af) t h
  ·exact a7p v.2 (fun q hq=>f q (Ae _ hq)) t h
abbrev pvO(A:List A5):Prop:=A=[]∨A.getLast?=some (.inl 32)∨A.getLast?=some (.inl 40)
abbrev nxO(B:List A5):Prop:=B=[]∨B.head?=some (.inl 32)∨B.head?=some (.inl 41)
structure Dc(T A:List A5)(F:List Ea)(k:Nat)(B T':List A5):Prop where
 eq:T=A++(fil F k++B)
 eq':T'=A++ .inr (x8 F*k)::B
 nb:∀t∈B,t≠.inl 40
 fl:∀p∈F,flE p=true
 v:vEL F
 ne:F≠[]
 hk:2≤k∧k≤999
 pv:pvO A
 nx:nxO B
theorem Dc.wrap{T A:List A5}{F:List Ea}{k:Nat}{B T':List A5}(h:Dc T A F k B T'){X Y:List A5}(hX:A=[]→pvO X)(hY:B=[]→nxO Y)(hn:∀t∈Y,t≠.inl 40):Dc (X++(T++Y)) (X++A) F k (B++Y) (X++(T'++Y)) where
 eq:=by rw [h.eq];simp only [List.append_assoc,AO]
 eq':=by rw [h.eq'];simp only [List.append_assoc,AO]
 nb:=fun t ht=>(Am.mp ht).elim (h.nb t) (hn t)
 fl:=h.fl
 v:=h.v
 ne:=h.ne
 hk:=h.hk
 pv:=by
  cases hA:A with
  |nil=>rw [Ag];exact hX hA
  |cons a A'=>
   have:=h.pv
   rw [hA] at this
   right
   rw [List.getLast?_append]
   rcases this with z|z|z
   ·cases z
   ·rw [z];exact .inl rfl
   ·rw [z];exact .inr rfl
 nx:=by
  cases hB:B with
  |nil=>exact hY hB
  |cons b B'=>
   have:=h.nx
   rw [hB] at this
   right
   rcases this with z|z|z
   ·cases z
   ·exact .inl z
   ·exact .inr z
theorem b2z:∀ps:List Ea,nxO (poT ps)
 |[]=> .inl (by rw [poT])
 |p::ps=> .inr (.inl (by rw [poT];rfl))
mutual
theorem b3K:∀{p:Ea},vE p→1≤knE p
 | .run c k,v=>by rw [vE] at v;rw [knE];exact v.2.1
 | .hole N,v=>by rw [vE] at v;rw [knE];exact v
 | .again k ps,v=>by
   rw [vE] at v
   rw [knE]
   have:=Nat.mul_le_mul (a2E v.2.1 v.2.2) v.1.1
   lia
theorem a2E:∀{ps:List Ea},ps≠[]→vEL ps→1≤x8 ps
 |[],h,_=>absurd rfl h
 |p::ps,_,v=>by
  rw [vEL] at v
  rw [x8]
  have:=b3K v.1
  lia
end
mutual
theorem la1:∀{p:Ea},vE p→flE p=false→∃A F k B q,Dc (shE p) A F k B (shE q)∧vE q∧knE q=knE p
 | .run _ _,_,f=>by cases f
 | .hole _,_,f=>by cases f
 | .again k ps,v,_=>by
   rw [vE] at v
   by_cases c:∀p∈ps,flE p=true
   ·have hp:1≤x8 ps*k:=by
     have:=a2E v.2.1 v.2.2
     have:=Nat.mul_le_mul this v.1.1
     lia
    refine⟨[],ps,k,[],.hole (x8 ps*k),⟨?_, ?_,fun t h=>(nomatch h),c,v.2.2,v.2.1,v.1,.inl rfl,.inl rfl⟩,hp, ?_⟩
    ·rw [shE,Ag];rfl
    ·rw [shE];rfl
    ·rw [knE,knE]
   ·obtain⟨A,F,j,B,qs,d,vq,kq,nq⟩:=laL v.2.2 (by
     apply Classical.byContradiction
     intro z
     exact c fun p hp=>by
      cases h:flE p with
      |true=>rfl
      |false=>exact absurd ⟨p,hp,h⟩ z)
    have w:=d.wrap (X:=[.inl 40]) (Y:= .inl 41::(dg3 k).map .inl) (fun _=> .inr (.inr rfl)) (fun _=> .inr (.inr rfl)) (fun t ht=>by
     rcases Ad.mp ht with e|h
     ·rw [e];decide
     ·exact(a68 (fun x hx=>a6R hx) h).1)
    exact⟨[.inl 40]++A,F,j,B++ .inl 41::(dg3 k).map .inl,.again k qs,by rw [shE,shE];exact w,⟨v.1,nq,vq⟩,by rw [knE,knE,kq]⟩
theorem laL:∀{ps:List Ea},vEL ps→(∃p∈ps,flE p=false)→∃A F k B qs,Dc (B0 ps) A F k B (B0 qs)∧vEL qs∧x8 qs=x8 ps∧qs≠[]
 |[],_,h=>by obtain⟨_,h,_⟩:=h;cases h
 |p::ps,v,h=>by
  rw [vEL] at v
  by_cases c:∃q∈ps,flE q=false
  ·obtain⟨A,F,k,B,qs,d,vq,kq,nA⟩:=laP v.2 c
   have w:=d.wrap (X:=shE p) (Y:=[]) (fun z=>absurd z nA) (fun _=> .inl rfl) (fun t ht=>nomatch ht)
   simp only [Ag] at w
   exact⟨shE p++A,F,k,B,p::qs,by rw [B0,B0];exact w,⟨v.1,vq⟩,by rw [x8,x8,kq],by simp⟩
  ·have f:∀q∈ps,flE q=true:=fun q hq=>by
    cases h:flE q with
    |true=>rfl
    |false=>exact absurd ⟨q,hq,h⟩ c
   have fp:flE p=false:=by
    obtain⟨q,hq,e⟩:=h
    rcases Ad.mp hq with z|z
    ·rw [←z];exact e
    ·exact absurd ⟨q,z,e⟩ c
   obtain⟨A,F,k,B,q,d,vq,kq⟩:=la1 v.1 fp
   have w:=d.wrap (X:=[]) (Y:=poT ps) (fun _=> .inl rfl) (fun _=>b2z ps) (fun t ht=>(a7p v.2 f t ht).1)
   exact⟨[]++A,F,k,B++poT ps,q::ps,by rw [B0,B0];exact w,⟨vq,v.2⟩,by rw [x8,x8,kq],by simp⟩
theorem laP:∀{ps:List Ea},vEL ps→(∃p∈ps,flE p=false)→∃A F k B qs,Dc (poT ps) A F k B (poT qs)∧vEL qs∧x8 qs=x8 ps∧A≠[]
 |[],_,h=>by obtain⟨_,h,_⟩:=h;cases h
 |p::ps,v,h=>by
  rw [vEL] at v
  by_cases c:∃q∈ps,flE q=false
  ·obtain⟨A,F,k,B,qs,d,vq,kq,nA⟩:=laP v.2 c
   have w:=d.wrap (X:= .inl 32::shE p) (Y:=[]) (fun z=>absurd z nA) (fun _=> .inl rfl) (fun t ht=>nomatch ht)
   simp only [Ag] at w
   exact⟨(.inl 32::shE p)++A,F,k,B,p::qs,by rw [poT,poT];exact w,⟨v.1,vq⟩,by rw [x8,x8,kq],by simp⟩
  ·have f:∀q∈ps,flE q=true:=fun q hq=>by
    cases h:flE q with
    |true=>rfl
    |false=>exact absurd ⟨q,hq,h⟩ c
   have fp:flE p=false:=by
    obtain⟨q,hq,e⟩:=h
    rcases Ad.mp hq with z|z
    ·rw [←z];exact e
    ·exact absurd ⟨q,z,e⟩ c
   obtain⟨A,F,k,B,q,d,vq,kq⟩:=la1 v.1 fp
   have w:=d.wrap (X:=[.inl 32]) (Y:=poT ps) (fun _=> .inr (.inl rfl)) (fun _=>b2z ps) (fun t ht=>(a7p v.2 f t ht).1)
   exact⟨[.inl 32]++A,F,k,B++poT ps,q::ps,by rw [poT,poT];exact w,⟨vq,v.2⟩,by rw [x8,x8,kq],by simp⟩
end
abbrev S8(ds:List Nat):Nat:=PySem.NumText.digitsVal ds
def U0(x:Nat):Bool:=decide (48≤x)&& decide (x≤57)
theorem p5{x:Nat}:U0 x=true↔48≤x∧x≤57:=by unfold U0;simp
def O8(w:List Nat):Option Nat:=if w=[] then some 1 else if(w.all U0 &&(!(w.head?==some 48)&&(decide (w.length≤3)&& decide (2≤S8 w))))=true then some (S8 w) else none
theorem dv1(a:Nat):S8 [a]=a - 48:=by show 0*10+(a - 48)=_;lia
theorem dv2(a b:Nat):S8 [a,b]=(a - 48)*10+(b - 48):=by show(0*10+(a - 48))*10+(b - 48)=_;lia
theorem dv3(a b c:Nat):S8 [a,b,c]=((a - 48)*10+(b - 48))*10+(c - 48):=by show((0*10+(a - 48))*10+(b - 48))*10+(c - 48)=_;lia
theorem a18{w:List Nat}{k:Nat}(h:O8 w=some k):w=wt3 k∧1≤k∧k≤999∧(w≠[]→2≤k):=by
 unfold O8 at h
 split at h
 ·rename_i e
  cases h
  exact⟨by rw [e];rfl,AW _,by lia,fun z=>absurd e z⟩
 ·rename_i ne
  split at h
  ·rename_i c
   cases h
   rw [Bool.and_eq_true,Bool.and_eq_true,Bool.and_eq_true,List.all_eq_true] at c
   obtain⟨c1,c2,c3,c4⟩:=c
   have c3:=of_decide_eq_true c3
   have c4:=of_decide_eq_true c4
   have h48:∀a r,w=a::r→a≠48:=fun a r e z=>by rw [e,z] at c2;simp at c2
   have hk:wt3 (S8 w)=dg3 (S8 w):=by unfold wt3;rw [if_neg (by lia)]
   refine⟨?_,by lia, ?_,fun _=>c4⟩
   ·rw [hk]
    unfold dg3
    match w,c1,c3,c4,h48 with
    |[a],c1,_,c4,_=>
     have ha:=p5.mp (c1 a (by simp))
     rw [dv1] at c4 ⊢
     rw [if_pos (by lia)]
     congr 1;lia
    |[a,b],c1,_,c4,h48=>
     have ha:=p5.mp (c1 a (by simp))
     have hb:=p5.mp (c1 b (by simp))
     have:=h48 a [b] rfl
     rw [dv2] at c4 ⊢
     rw [if_neg (by lia),if_pos (by lia)]
     congr 1
     ·lia
     ·congr 1;lia
    |[a,b,d],c1,_,c4,h48=>
     have ha:=p5.mp (c1 a (by simp))
     have hb:=p5.mp (c1 b (by simp))
     have hd:=p5.mp (c1 d (by simp))
     have:=h48 a [b,d] rfl
     rw [dv3] at c4 ⊢
     rw [if_neg (by lia),if_neg (by lia)]
     congr 1
     ·lia
     ·congr 1
      ·lia
      ·congr 1;lia
    |[],_,_,_,_=>exact absurd rfl ne
    |_::_::_::_::_,_,c3,_,_=>simp at c3
   ·match w,c1,c3 with
    |[a],c1,_=>
     have ha:=p5.mp (c1 a (by simp))
     rw [dv1];lia
    |[a,b],c1,_=>
     have ha:=p5.mp (c1 a (by simp))
     have hb:=p5.mp (c1 b (by simp))
     rw [dv2];lia
    |[a,b,d],c1,_=>
     have ha:=p5.mp (c1 a (by simp))
     have hb:=p5.mp (c1 b (by simp))
     have hd:=p5.mp (c1 d (by simp))
     rw [dv3];lia
    |[],_,_=>exact absurd rfl ne
    |_::_::_::_::_,_,c3=>simp at c3
  ·cases h
theorem a9B{k:Nat}(h2:2≤k)(h9:k≤999):O8 (dg3 k)=some k:=by
 unfold O8 dg3
 split
 ·rw [if_neg (by simp),dv1]
  rw [if_pos (by simp [U0];lia)]
  congr 1;lia
 ·split
  ·rw [if_neg (by simp),dv2]
   rw [if_pos (by simp [U0];lia)]
   congr 1;lia
  ·rw [if_neg (by simp),dv3]
   rw [if_pos (by simp [U0];lia)]
   congr 1;lia
theorem b3l{k:Nat}(h1:1≤k)(h9:k≤999):O8 (wt3 k)=some k:=by
 unfold wt3
 split
 ·rename_i e;rw [e];rfl
 ·exact a9B (by lia) h9
def a1s:List A5→Option (List Nat)
 |[]=>some []
 | .inl c::r=>(a1s r).map (c::·)
 | .inr _::_=>none
theorem b0e:∀l:List Nat,a1s (l.map .inl)=some l
 |[]=>rfl
 |c::l=>by rw [AL,a1s,b0e l];rfl
theorem a1K:∀{T:List A5} {l:List Nat},a1s T=some l→T=l.map .inl
 |[],l,h=>by cases h;rfl
 | .inl c::r,l,h=>by
   rw [a1s] at h
   cases e:a1s r with
   |none=>rw [e] at h;cases h
   |some m=>rw [e] at h;cases h;rw [AL,a1K e]
 | .inr _::_,l,h=>by cases h
def a0g:List A5→Option Nat
 |[.inr N]=>some N
 | .inl c::r=>if 97≤c∧c≤122 then(a1s r).bind O8 else none
 |_=>none
theorem a8I{p:Ea}(v:vE p)(f:flE p=true):a0g (shE p)=some (knE p):=by
 cases p with
 |again k ps=>cases f
 |hole N=>rw [shE,knE];rfl
 |run c k=>
  rw [vE] at v
  rw [shE,knE]
  show(if 97≤c∧c≤122 then(a1s ((wt3 k).map .inl)).bind O8 else none)=_
  rw [if_pos v.1,b0e,AE,b3l v.2.1 v.2.2]
theorem a33{w:List A5}{s:Nat}(hp:∀N,Sum.inr N∈w→1≤N)(h:a0g w=some s):∃p,vE p∧flE p=true∧w=shE p∧knE p=s:=by
 unfold a0g at h
 split at h
 ·cases h
  exact⟨.hole s,hp s (by simp),rfl,by rw [shE],by rw [knE]⟩
 ·rename_i c r
  split at h
  ·rename_i hc
   cases e:a1s r with
   |none=>rw [e] at h;cases h
   |some l=>
    rw [e,AE] at h
    obtain⟨h1,h2,h3,_⟩:=a18 h
    exact⟨.run c s,⟨hc,h2,h3⟩,rfl,by rw [shE,a1K e,←h1],by rw [knE]⟩
  ·cases h
 ·cases h
def D5:List A5→List (List A5)
 |[]=>[[]]
 |t::r=>if t= .inl 32 then []::D5 r else match D5 r with
  |h::l=>(t::h)::l
  |[]=>[[t]]
theorem X2:∀l:List A5,D5 l≠[]
 |[]=>by simp [D5]
 |x::r=>by
  unfold D5
  split
  ·simp
  ·split<;>simp
theorem b4x{A B:List A5}(h:∀t∈A,t≠.inl 32):D5 (A++ .inl 32::B)=A::D5 B:=by
 induction A with
 |nil=>rw [AR,D5,if_pos rfl]
 |cons a A ih=>
  rw [AO,D5,if_neg (h a Af),ih fun t ht=>h t (Ae _ ht)]
theorem b4v{A:List A5}(h:∀t∈A,t≠.inl 32):D5 A=[A]:=by
 induction A with
 |nil=>rfl
 |cons a A ih=>rw [D5,if_neg (h a Af),ih fun t ht=>h t (Ae _ ht)]
def a1v:List (List A5)→Option Nat
 |[]=>some 0
 |w::ws=>(a0g w).bind fun a=>(a1v ws).map (a+·)
def K2(T:List A5):Option Nat:=a1v (D5 T)
theorem a9K{p:Ea}(v:vE p)(f:flE p=true):∀t∈shE p,t≠.inl 32:=by
 intro t ht z
 cases p with
 |again k ps=>cases f
 |hole N=>rw [shE,z] at ht;simp at ht
 |run c k=>
  rw [vE] at v
  rw [shE,z] at ht
  rcases Ad.mp ht with e|h
  ·have:=Sum.inl.inj e;lia
  ·obtain⟨x,hx,e⟩:=BA.mp h
   have:=b25 hx
   have:=Sum.inl.inj e
   lia
theorem a6V:∀{p:Ea} {ps:List Ea},vE p→flE p=true→vEL ps→(∀q∈ps,flE q=true)→K2 (shE p++poT ps)=some (knE p+x8 ps)
 |p,[],v,f,_,_=>by
  rw [poT,Ag,x8]
  unfold K2
  rw [b4v (a9K v f),a1v,a8I v f]
  rfl
 |p,q::ps,v,f,vs,fs=>by
  rw [vEL] at vs
  have ih:=a6V vs.1 (fs q Af) vs.2 fun r hr=>fs r (Ae _ hr)
  unfold K2 at ih
  rw [poT,x8]
  unfold K2
  rw [b4x (a9K v f),a1v,a8I v f,ih]
  rfl
theorem b4w:∀{ws:List (List A5)} {T:List A5},D5 T=ws→∀{s:Nat},(∀N,Sum.inr N∈T→1≤N)→a1v ws=some s→∃p ps,vE p∧flE p=true∧vEL ps∧(∀q∈ps,flE q=true)∧T=shE p++poT ps∧knE p+x8 ps=s:=by
 intro ws
 induction ws with
 |nil=>intro T e;exact absurd e (X2 T)
 |cons w ws ih=>
  intro T e s hp h
  rw [a1v] at h
  cases ew:a0g w with
  |none=>rw [ew] at h;cases h
  |some a=>
   rw [ew,AE] at h
   cases es:a1v ws with
   |none=>rw [es] at h;cases h
   |some b=>
    rw [es] at h
    cases h
    have key:(ws=[]∧T=w)∨∃B,T=w++ .inl 32::B∧D5 B=ws:=by
     clear ih hp ew es
     induction T generalizing w with
     |nil=>injection e with e1 e2;exact .inl ⟨e2.symm,e1⟩
     |cons t r iht=>
      rw [D5] at e
      split at e
      ·rename_i ht
       injection e with e1 e2
       exact .inr ⟨r,by rw [←e1,ht];rfl,e2⟩
      ·cases hs:D5 r with
       |nil=>exact absurd hs (X2 r)
       |cons g l=>
        rw [hs] at e
        injection e with e1 e2
        rcases iht g (by rw [hs,e2]) with⟨h1,h2⟩|⟨B,h1,h2⟩
        ·exact .inl ⟨h1,by rw [←e1,h2]⟩
        ·exact .inr ⟨B,by rw [←e1,h1];rfl,h2⟩
    rcases key with⟨h1,h2⟩|⟨B,h1,h2⟩
    ·subst h1
     subst h2
     cases es
     obtain⟨p,v,f,e1,e2⟩:=a33 hp ew
     exact⟨p,[],v,f,trivial,fun _ h=>(nomatch h),by rw [poT,Ag];exact e1,by rw [x8,e2]⟩
    ·obtain⟨p,v,f,e1,e2⟩:=a33 (fun N hN=>hp N (by rw [h1];exact Ay _ hN)) ew
     obtain⟨q,qs,vq,fq,vs,fs,e3,e4⟩:=ih h2 (fun N hN=>hp N (by rw [h1];exact Au _ (Ae _ hN))) es
     refine⟨p,q::qs,v,f,⟨vq,vs⟩,fun r hr=> ?_, ?_,by rw [x8,e2,e4]⟩
     ·rcases Ad.mp hr with z|z
      ·rw [z];exact fq
      ·exact fs r z
     ·rw [h1,poT,e1,e3]
theorem a4N{T:List A5}{s:Nat}(hp:∀N,Sum.inr N∈T→1≤N)(h:K2 T=some s):∃F,vEL F∧F≠[]∧(∀q∈F,flE q=true)∧T=B0 F∧x8 F=s:=by
 obtain⟨p,ps,v,f,vs,fs,e1,e2⟩:=b4w rfl hp h
 refine⟨p::ps,⟨v,vs⟩,by simp,fun q hq=> ?_,by rw [B0];exact e1,by rw [x8];exact e2⟩
 rcases Ad.mp hq with z|z
 ·rw [z];exact f
 ·exact fs q z
def W3:List A5→Option (List A5×List A5)
 |[]=>none
 |t::r=>match W3 r with
  |some (A,R)=>some (t::A,R)
  |none=>if t= .inl 40 then some ([],r) else none
theorem a5F:∀{T:List A5},(∀t∈T,t≠.inl 40)→W3 T=none
 |[],_=>rfl
 |t::r,h=>by rw [W3,a5F fun u hu=>h u (Ae _ hu)];exact if_neg (h t Af)
theorem a5E:∀{T:List A5},W3 T=none→∀t∈T,t≠.inl 40
 |[],_,t,ht=>nomatch ht
 |t::r,h,u,hu=>by
  rw [W3] at h
  cases e:W3 r with
  |some x=>rw [e] at h;cases h
  |none=>
   rw [e] at h
   by_cases c:t= .inl 40
   ·rw [if_pos c] at h;cases h
   ·rcases Ad.mp hu with z|z
    ·rw [z];exact c
    ·exact a5E e u z
theorem a8y:∀{A R:List A5},(∀t∈R,t≠.inl 40)→W3 (A++ .inl 40::R)=some (A,R)
 |[],R,h=>by rw [AR,W3,a5F h];exact if_pos rfl
 |a::A,R,h=>by rw [AO,W3,a8y h]
theorem a2l:∀{T A R:List A5},W3 T=some (A,R)→T=A++ .inl 40::R∧∀t∈R,t≠.inl 40
 |[],A,R,h=>by cases h
 |t::r,A,R,h=>by
  rw [W3] at h
  cases e:W3 r with
  |some x=>
   obtain⟨A',R'⟩:=x
   rw [e] at h
   cases h
   obtain⟨h1,h2⟩:=a2l e
   exact⟨by rw [h1];rfl,h2⟩
  |none=>
   rw [e] at h
   by_cases c:t= .inl 40
   ·rw [if_pos c] at h
    cases h
    exact⟨by rw [c];rfl,a5E e⟩
   ·rw [if_neg c] at h;cases h
def a0e:List A5→Option (List A5×List A5)
 |[]=>none
 |t::r=>if t= .inl 41 then some ([],r) else(a0e r).map fun x=>(t::x.1,x.2)
theorem a8z:∀{X Y:List A5},(∀t∈X,t≠.inl 41)→a0e (X++ .inl 41::Y)=some (X,Y)
 |[],Y,_=>by rw [AR,a0e,if_pos rfl]
 |x::X,Y,h=>by rw [AO,a0e,if_neg (h x Af),a8z fun t ht=>h t (Ae _ ht)];rfl
theorem a2m:∀{T X Y:List A5},a0e T=some (X,Y)→T=X++ .inl 41::Y∧∀t∈X,t≠.inl 41
 |[],X,Y,h=>by cases h
 |t::r,X,Y,h=>by
  rw [a0e] at h
  by_cases c:t= .inl 41
  ·rw [if_pos c] at h
   cases h
   exact⟨by rw [c];rfl,fun _ z=>nomatch z⟩
  ·rw [if_neg c] at h
   cases e:a0e r with
   |none=>rw [e] at h;cases h
   |some x=>
    obtain⟨X',Y'⟩:=x
    rw [e] at h
    cases h
    obtain⟨h1,h2⟩:=a2m e
    refine⟨by rw [h1];rfl,fun u hu=> ?_⟩
    rcases Ad.mp hu with z|z
    ·rw [z];exact c
    ·exact h2 u z
def B2:List A5→List Nat×List A5
 | .inl c::r=>if U0 c=true then(c::(B2 r).1,(B2 r).2) else([],.inl c::r)
 |T=>([],T)
theorem a3E:∀T:List A5,T=(B2 T).1.map .inl++(B2 T).2
 |[]=>rfl
 | .inr N::r=>rfl
 | .inl c::r=>by
   rw [B2]
   split
   ·show _= .inl c::((B2 r).1.map .inl++(B2 r).2)
    rw [←a3E r]
   ·rfl
theorem a8x:∀{ds:List Nat} {B:List A5},(∀x∈ds,U0 x=true)→nxO B→B2 (ds.map .inl++B)=(ds,B)
 |[],B,_,h=>by
  rw [AT,AR]
  rcases h with h|h|h
  ·rw [h];rfl
  ·cases B with
   |nil=>rfl
   |cons b B=>cases Option.some.inj h;rfl
  ·cases B with
   |nil=>rfl
   |cons b B=>cases Option.some.inj h;rfl
 |d::ds,B,h,hB=>by
  rw [AL,AO,B2,if_pos (h d Af),a8x (fun x hx=>h x (Ae _ hx)) hB]
theorem b6X{k:Nat}(hk:k≤999){x:Nat}(h:x∈dg3 k):U0 x=true:=by
 rw [p5]
 unfold dg3 at h
 split at h
 ·simp at h;lia
 ·split at h
  ·simp at h;lia
  ·simp at h;lia
def a14(T:List A5):Option (List A5):=(W3 T).bind fun p=>(a0e p.2).bind fun q=>(K2 q.1).bind fun s=>(O8 (B2 q.2).1).bind fun k=>
 if(B2 q.2).1=[]∨¬pvO p.1∨¬nxO (B2 q.2).2 then none else some (p.1++ .inr (s*k)::(B2 q.2).2)
def a6Y(T:List A5):Bool:=T.any fun t=>decide (t= .inl 40)||decide (t= .inl 41)
def szT:Nat→List A5→Option Nat
 |0,_=>none
 |n+1,T=>if a6Y T=true then(a14 T).bind (szT n) else K2 T
theorem b4z{T A:List A5}{F:List Ea}{k:Nat}{B T':List A5}(d:Dc T A F k B T'):a14 T=some T':=by
 have e:T=A++ .inl 40::(B0 F++ .inl 41::((dg3 k).map .inl++B)):=by
  rw [d.eq]
  show A++ .inl 40::((B0 F++ .inl 41::(dg3 k).map .inl)++B)=_
  simp only [List.append_assoc,AO]
 have nF:=a7t d.v d.fl
 have n1:∀t∈B0 F++ .inl 41::((dg3 k).map .inl++B),t≠.inl 40:=fun t ht=>by
  rcases Am.mp ht with h|h
  ·exact(nF t h).1
  ·rcases Ad.mp h with z|h
   ·rw [z];decide
   ·rcases Am.mp h with h|h
    ·exact(a68 (fun x hx=>a6R hx) h).1
    ·exact d.nb t h
 have hfl:K2 (B0 F)=some (x8 F):=by
  have:=d.ne
  have v:=d.v
  have f:=d.fl
  cases F with
  |nil=>exact absurd rfl this
  |cons p ps=>
   rw [vEL] at v
   rw [B0,x8]
   exact a6V v.1 (f p Af) v.2 fun q hq=>f q (Ae _ hq)
 have sp:=a8x (ds:=dg3 k) (B:=B) (fun x hx=>b6X d.hk.2 hx) d.nx
 have ne:dg3 k≠[]:=by unfold dg3;split<;>(try split)<;>simp
 unfold a14
 rw [e,a8y n1,AE,a8z fun t ht=>(nF t ht).2,AE]
 show(K2 (B0 F)).bind (fun s=>(O8 (B2 ((dg3 k).map .inl++B)).1).bind fun j=>if(B2 ((dg3 k).map .inl++B)).1=[]∨¬pvO A∨¬nxO (B2 ((dg3 k).map .inl++B)).2 then none else some (A++ .inr (s*j)::(B2 ((dg3 k).map .inl++B)).2))=_
 rw [hfl,AE,sp,a9B d.hk.1 d.hk.2,AE,if_neg (fun z=> ?_),d.eq']
 rcases z with z|z|z
 ·exact ne z
 ·exact z d.pv
 ·exact z d.nx
def c40:List A5→Nat
 |[]=>0
 |t::r=>(if t= .inl 40 then 1 else 0)+c40 r
theorem U4:∀A B:List A5,c40 (A++B)=c40 A+c40 B
 |[],B=>by rw [AR,c40,Nat.zero_add]
 |a::A,B=>by rw [AO,c40,c40,U4 A B,Nat.add_assoc]
theorem a4G:∀{A:List A5},(∀t∈A,t≠.inl 40)→c40 A=0
 |[],_=>rfl
 |a::A,h=>by rw [c40,if_neg (h a Af),a4G fun t ht=>h t (Ae _ ht)]
theorem b5a:∀{n:Nat} {E:List Ea},vEL E→E≠[]→c40 (B0 E)<n→szT n (B0 E)=some (x8 E)
 |0,E,_,_,h=>by lia
 |n+1,E,v,ne,h=>by
  by_cases c:∃p∈E,flE p=false
  ·obtain⟨A,F,k,B,E',d,v',k',ne'⟩:=laL v c
   have m40:Sum.inl 40∈B0 E:=by rw [d.eq];simp
   have cF:c40 (B0 F)=0:=a4G fun t ht=>(a7t d.v d.fl t ht).1
   have cd:c40 ((dg3 k).map .inl)=0:=a4G fun t ht=>(a68 (fun x hx=>a6R hx) ht).1
   have ct:c40 (B0 E')+1=c40 (B0 E):=by
    rw [d.eq,d.eq',U4,U4,U4,c40,c40,U4,c40,cF,cd,if_neg (fun z=>by cases z),if_pos rfl,if_neg (fun z=>by cases z)]
    lia
   rw [szT,if_pos (show a6Y (B0 E)=true from List.any_eq_true.mpr ⟨_,m40,by simp⟩),b4z d,AE,b5a v' ne' (by lia),k']
  ·have f:∀q∈E,flE q=true:=fun q hq=>by
    cases h:flE q with
    |true=>rfl
    |false=>exact absurd ⟨q,hq,h⟩ c
   have nb:=a7t v f
   have hb:¬a6Y (B0 E)=true:=fun z=>by
    obtain⟨u,hu,z⟩:=List.any_eq_true.mp z
    have:=nb u hu
    simp [this.1,this.2] at z
   rw [szT,if_neg hb]
   cases E with
   |nil=>exact absurd rfl ne
   |cons p ps=>
    rw [vEL] at v
    rw [B0,x8]
    exact a6V v.1 (f p Af) v.2 fun q hq=>f q (Ae _ hq)
theorem a8C:∀{n:Nat} {T:List A5} {N:Nat},(∀m,Sum.inr m∈T→1≤m)→szT n T=some N→∃E,vEL E∧E≠[]∧T=B0 E∧x8 E=N
 |0,T,N,_,h=>by cases h
 |n+1,T,N,hp,h=>by
  rw [szT] at h
  split at h
  ·unfold a14 at h
   cases e1:W3 T with
   |none=>rw [e1] at h;cases h
   |some x=>
    obtain⟨A,R⟩:=x
    rw [e1,AE] at h
    obtain⟨t1,_⟩:=a2l e1
    cases e2:a0e R with
    |none=>rw [e2] at h;cases h
    |some y=>
     obtain⟨X,Y⟩:=y
     rw [e2,AE] at h
     obtain⟨t2,_⟩:=a2m e2
     cases e3:K2 X with
     |none=>rw [e3] at h;cases h
     |some s=>
      rw [e3,AE] at h
      cases e4:O8 (B2 Y).1 with
      |none=>rw [e4] at h;cases h
      |some k=>
       rw [e4,AE] at h
       split at h
       ·cases h
       ·rename_i c
        rw [AE] at h
        have t3:=a3E Y
        have hne:(B2 Y).1≠[]:=fun z=>c (.inl z)
        generalize (B2 Y).1=ds at*
        generalize (B2 Y).2=B at*
        obtain⟨w1,w2,w3,w4⟩:=a18 e4
        have hk:=w4 hne
        have hd:ds=dg3 k:=by rw [w1];unfold wt3;rw [if_neg (by lia)]
        have sub:∀m,Sum.inr m∈X→1≤m:=fun m hm=>hp m (by rw [t1,t2];simp [hm])
        obtain⟨F,vF,nF,fF,eF,kF⟩:=a4N sub e3
        have hpos:=a2E nF vF
        obtain⟨E',vE',nE',eE',kE'⟩:=a8C (T:=A++ .inr (s*k)::B) (fun m hm=>by
         rcases Am.mp hm with z|z
         ·exact hp m (by rw [t1];exact Ay _ z)
         ·rcases Ad.mp z with z|z
          ·have:=Nat.mul_le_mul hpos hk
           rw [Sum.inr.inj z,←kF];lia
          ·exact hp m (by rw [t1,t2,t3];simp [z])) h
        obtain⟨E,v,kk,ee,nn⟩:=b4V vF nF ⟨hk,w3⟩ (by rw [kF]) vE' eE'.symm
        refine⟨E,v,nn nE', ?_,by rw [kk,kE']⟩
        rw [ee,t1,t2,t3,eF,hd]
        show _=A++((.inl 40::(B0 F++ .inl 41::(dg3 k).map .inl))++B)
        simp only [List.append_assoc,AO]
  ·obtain⟨F,vF,nF,fF,eF,kF⟩:=a4N hp h
   exact⟨F,vF,nF,eF,kF⟩
inductive Pa where
 |run (c k:Nat)
 |again (k:Nat) (ps:List Pa)
abbrev a5x:PV:= .str (AN "run")
abbrev W1:PV:= .str (AN "again")
mutual
def C7:Pa→PV
 | .run c k=> .tuple [a5x,row [c],.int (k:Nat)]
 | .again k ps=> .tuple [W1,.int (k:Nat),.list (z7 ps)]
def z7:List Pa→List PV
 |[]=>[]
 |p::ps=>C7 p::z7 ps
end
mutual
def unP:Pa→List Nat
 | .run c k=>(Ao k).map fun _=>c
 | .again k ps=>((Ao k).map fun _=>Q9 ps).flatten
def Q9:List Pa→List Nat
 |[]=>[]
 |p::ps=>unP p++Q9 ps
end
mutual
def dpP:Pa→Nat
 | .run _ _=>0
 | .again _ ps=>dpL ps+1
def dpL:List Pa→Nat
 |[]=>0
 |p::ps=>max (dpP p) (dpL ps)
end
mutual
def okP:Pa→Prop
 | .run c k=>1≤k∧k≤24∧(97≤c∧c≤122)
 | .again k ps=>2≤k∧k≤24∧ps≠[]∧okL ps
def okL:List Pa→Prop
 |[]=>True
 |p::ps=>okP p∧okL ps
end
theorem a7d:∀{ps:List Pa} {p:Pa},okL ps→p∈ps→okP p
 |q::ps,p,h,hp=>by
  rcases Ad.mp hp with e|hp
  ·rw [e];exact h.1
  ·exact a7d h.2 hp
theorem a8Y:∀{ps:List Pa} {p:Pa},p∈ps→dpP p≤dpL ps
 |q::ps,p,hp=>by
  rw [dpL]
  rcases Ad.mp hp with e|hp
  ·rw [e];exact Nat.le_max_left _ _
  ·exact Nat.le_trans (a8Y hp) (Nat.le_max_right _ _)
theorem a9u:∀{ps:List Pa} {p:Pa},p∈ps→(unP p).length≤(Q9 ps).length
 |q::ps,p,hp=>by
  rw [Q9,Aa]
  rcases Ad.mp hp with e|hp
  ·rw [e];lia
  ·have:=a9u hp
   lia
theorem a2b{α:Type}(l:List α):∀k:Nat,(((Ao k).map fun _=>l).flatten).length=k*l.length
 |0=>by simp
 |k+1=>by
  rw [List.range_succ,BE,List.flatten_append,Aa,a2b l k,Nat.succ_mul]
  simp
theorem a0f(k:Nat)(ps:List Pa):(unP (.again k ps)).length=k*(Q9 ps).length:=by rw [unP,a2b]
theorem a2q(c k:Nat):(unP (.run c k)).length=k:=by rw [unP];simp
theorem b23{k:Nat}{qs ps:List Pa}(h:okL ps)(hp:Pa.again k qs∈ps):okL qs∧qs≠[]∧2≤k∧k≤24∧k*(Q9 qs).length≤(Q9 ps).length∧(Q9 qs).length≤(Q9 ps).length∧dpL qs<dpL ps:=by
 obtain⟨h1,h2,h3,h4⟩:=a7d h hp
 have e:=a9u hp
 rw [a0f] at e
 have d:=a8Y hp
 rw [dpP] at d
 refine⟨h4,h3,h1,h2,e, ?_,by lia⟩
 have:1*(Q9 qs).length≤k*(Q9 qs).length:=Nat.mul_le_mul_right _ (by lia)
 lia
mutual
theorem b24:∀{p:Pa},okP p→0<(unP p).length
 | .run c k,h=>by rw [a2q];exact h.1
 | .again k ps,h=>by
   rw [a0f]
   exact Nat.mul_pos (by have:=h.1;lia) (b0k h.2.2.1 h.2.2.2)
theorem b0k:∀{ps:List Pa},ps≠[]→okL ps→0<(Q9 ps).length
 |[],h,_=>absurd rfl h
 |p::ps,_,h=>by
  rw [Q9,Aa]
  have:=b24 h.1
  lia
end
theorem a4x:∀{ps:List Pa},okL ps→ps.length≤(Q9 ps).length
 |[],_=>AW _
 |p::ps,h=>by
  have:=b24 h.1
  have:=a4x h.2
  rw [Q9,Aa,AS]
  lia
theorem a98(p:Pa):(∃c k,p= .run c k∧C7 p= .tuple [a5x,row [c],.int (k:Nat)])∨∃k qs,p= .again k qs∧C7 p= .tuple [W1,.int (k:Nat),.list (z7 qs)]:=by
 cases p with
 |run c k=>exact .inl ⟨c,k,rfl,by rw [C7]⟩
 |again k qs=>exact .inr ⟨k,qs,rfl,by rw [C7]⟩
theorem b5z:Z6 (.val a5x) (.val a5x)=some (.val (.bool true)):=by rfl
theorem b5y:Z6 (.val W1) (.val a5x)=some (.val (.bool false)):=by rfl
theorem b7V:Z6 (.val W1) (.val W1)=some (.val (.bool true)):=by rfl
theorem b62:Z6 (.val a5x) (.val W1)=some (.val (.bool false)):=by rfl
def dg(k:Nat):List Nat:=if k<10 then [48+k] else [48+k / 10,48+k % 10]
theorem a3h(k:Nat):1≤(dg k).length∧(dg k).length≤2:=by unfold dg;split<;>simp
def wt(k:Nat):List Nat:=if k=1 then [] else dg k
theorem b26(k:Nat):(wt k).length≤2:=by
 unfold wt
 split
 ·simp
 ·exact(a3h k).2
mutual
def M4:Pa→List Nat
 | .run c k=>c::wt k
 | .again k ps=>40::(G7 [32] (shW ps)++41::dg k)
def shW:List Pa→List (List Nat)
 |[]=>[]
 |p::ps=>M4 p::shW ps
end
theorem b0f:∀ps:List Pa,shW ps=ps.map M4
 |[]=>by rw [shW];rfl
 |p::ps=>by rw [shW,AL,b0f ps]
def shL(ps:List Pa):List Nat:=G7 [32] (ps.map M4)
theorem a0F(c k:Nat):M4 (.run c k)=c::wt k:=by rw [M4]
theorem K6(k:Nat)(ps:List Pa):M4 (.again k ps)=40::(shL ps++41::dg k):=by rw [M4,b0f];rfl
theorem a4W:∀ls:List (List Nat),(G7 [32] ls).length≤(ls.map fun l=>l.length+1).sum
 |[]=>AW _
 |[x]=>by simp [G7]
 |x::y::r=>by
  have:=a4W (y::r)
  simp only [G7,Aa,AS,Ai,AL,List.sum_cons] at this ⊢
  lia
mutual
theorem a7u:∀{p:Pa},okP p→(M4 p).length+1≤5*(unP p).length
 | .run c k,h=>by
   rw [a0F,a2q,AS]
   have:=b26 k
   have:=h.1
   lia
 | .again k ps,h=>by
   rw [K6,a0f,AS,Aa,AS]
   have h1:=a22 h.2.2.2
   have h2:=a4W (ps.map M4)
   rw [Ax] at h2
   have h3:=(a3h k).2
   have h4:=b0k h.2.2.1 h.2.2.2
   have h5:2*(Q9 ps).length≤k*(Q9 ps).length:=Nat.mul_le_mul_right _ h.1
   show(G7 [32] (ps.map M4)).length+_+1+1≤_
   have h6:(ps.map ((fun l=>l.length+1)∘M4)).sum=(ps.map fun p=>(M4 p).length+1).sum:=rfl
   lia
theorem a22:∀{ps:List Pa},okL ps→(ps.map fun p=>(M4 p).length+1).sum≤5*(Q9 ps).length
 |[],_=>by simp
 |p::ps,h=>by
  have h1:=a7u h.1
  have h2:=a22 h.2
  rw [AL,List.sum_cons,Q9,Aa]
  lia
end
theorem b4o{ps:List Pa}(h:okL ps):(shL ps).length≤5*(Q9 ps).length:=by
 have h1:=a22 h
 have h2:=a4W (ps.map M4)
 rw [Ax] at h2
 have h6:(ps.map ((fun l=>l.length+1)∘M4)).sum=(ps.map fun p=>(M4 p).length+1).sum:=rfl
 unfold shL
 lia
def A3(p:Nat→Bool):List Nat→List Nat×List Nat
 |[]=>([],[])
 |x::r=>if p x=true then(x::(A3 p r).1,(A3 p r).2) else([],x::r)
theorem a0d(p:Nat→Bool):∀s:List Nat,s=(A3 p s).1++(A3 p s).2
 |[]=>rfl
 |x::r=>by
  unfold A3
  split
  ·rw [AO,←a0d p r]
  ·rfl
theorem a0c(p:Nat→Bool):∀(s:List Nat),∀x∈(A3 p s).1,p x=true
 |[],x,h=>by cases h
 |y::r,x,h=>by
  unfold A3 at h
  split at h
  ·rename_i hy
   rcases Ad.mp h with rfl|h
   ·exact hy
   ·exact a0c p r x h
  ·cases h
theorem a0G(p:Nat→Bool):∀(s:List Nat) (y:Nat) (r:List Nat),(A3 p s).2=y::r→p y=false
 |[],y,r,h=>by cases h
 |x::s,y,r,h=>by
  unfold A3 at h
  split at h
  ·exact a0G p s y r h
  ·rename_i hx
   cases h
   simpa using hx
def noF(r:List Nat):Prop:=∀y t,r=y::t→U0 y=false
theorem a8w{ds r:List Nat}(h:∀x∈ds,U0 x=true)(hr:noF r):A3 U0 (ds++r)=(ds,r):=by
 induction ds with
 |nil=>
  cases r with
  |nil=>rfl
  |cons y t=>rw [AR,A3,if_neg (by rw [hr y t rfl];exact Aj)]
 |cons d ds ih=>rw [AO,A3,if_pos (h d Af),ih fun x hx=>h x (Ae _ hx)]
def lt1(c:Nat):Bool:=decide (97≤c)&& decide (c≤122)
theorem a1F{x:Nat}:lt1 x=true↔97≤x∧x≤122:=by unfold lt1;simp
def a7c(ds:List Nat):Option Nat:=if(decide (1≤ds.length)&& decide (ds.length≤4))=true then if(ds.head?==some 48 && decide (1<ds.length))=true then none else if(decide (2≤S8 ds)&& decide (S8 ds≤24))=true then some (S8 ds) else none else none
theorem b7U{k:Nat}(hk:k≤24){x:Nat}(h:x∈dg k):U0 x=true:=by
 rw [p5]
 unfold dg at h
 split at h
 ·simp at h;lia
 ·simp at h;lia
theorem b3X{k:Nat}(h2:2≤k)(hk:k≤24):a7c (dg k)=some k:=by
 unfold a7c dg
 split
 ·rw [dv1,if_pos (by simp),if_neg (by simp),if_pos (by simp;lia)]
  congr 1;lia
 ·rw [dv2,if_pos (by simp),if_neg (by simp;lia),if_pos (by simp;lia)]
  congr 1;lia
theorem a9i{ds:List Nat}{k:Nat}(hd:∀x∈ds,U0 x=true)(h:a7c ds=some k):ds=dg k∧2≤k∧k≤24:=by
 unfold a7c at h
 split at h
 ·rename_i c1
  rw [Bool.and_eq_true,decide_eq_true_eq,decide_eq_true_eq] at c1
  split at h
  ·cases h
  ·rename_i c2
   split at h
   ·rename_i c3
    cases h
    rw [Bool.and_eq_true,decide_eq_true_eq,decide_eq_true_eq] at c3
    refine⟨?_,c3⟩
    have h48:∀a b r,ds=a::b::r→a≠48:=fun a b r e z=>c2 (by rw [e,z];simp)
    unfold dg
    match ds,hd,c1,c3,h48 with
    |[a],hd,_,c3,_=>
     have ha:=p5.mp (hd a (by simp))
     rw [dv1] at c3 ⊢
     rw [if_pos (by lia)]
     congr 1;lia
    |[a,b],hd,_,c3,h48=>
     have ha:=p5.mp (hd a (by simp))
     have hb:=p5.mp (hd b (by simp))
     have:=h48 a b [] rfl
     rw [dv2] at c3 ⊢
     rw [if_neg (by lia)]
     congr 1
     ·lia
     ·congr 1;lia
    |[a,b,c],hd,_,c3,h48=>
     have ha:=p5.mp (hd a (by simp))
     have:=h48 a b [c] rfl
     rw [dv3] at c3
     lia
    |[a,b,c,d],hd,_,c3,h48=>
     have ha:=p5.mp (hd a (by simp))
     have:=h48 a b [c,d] rfl
     have e:S8 [a,b,c,d]=(((a - 48)*10+(b - 48))*10+(c - 48))*10+(d - 48):=by show(((0*10+(a - 48))*10+(b - 48))*10+(c - 48))*10+(d - 48)=_;lia
     rw [e] at c3
     lia
    |[],_,c1,_,_=>simp at c1
    |_::_::_::_::_::_,_,c1,_,_=>simp at c1
   ·cases h
 ·cases h
def O6(s:List Nat):Option (Nat×List Nat):=if(A3 U0 s).1=[] then some (1,s) else(a7c (A3 U0 s).1).map fun k=>(k,(A3 U0 s).2)
theorem a24{s r:List Nat}{k:Nat}(h:O6 s=some (k,r)):s=wt k++r∧1≤k∧k≤24∧noF r:=by
 unfold O6 at h
 have ap:=a0d U0 s
 have st:=a0G U0 s
 split at h
 ·rename_i c
  cases h
  rw [c,AR] at ap
  exact⟨rfl,AW _,by lia,fun y t e=>st y t (by rw [←ap,e])⟩
 ·rename_i c
  cases e:a7c (A3 U0 s).1 with
  |none=>rw [e] at h;cases h
  |some j=>
   rw [e] at h
   cases h
   obtain⟨h1,h2,h3⟩:=a9i (a0c U0 s) e
   refine⟨?_,by lia,h3,fun y t e=>st y t e⟩
   unfold wt
   rw [if_neg (by lia),←h1]
   exact ap
theorem a6C{r:List Nat}{k:Nat}(h1:1≤k)(h2:k≤24)(hr:noF r):O6 (wt k++r)=some (k,r):=by
 unfold O6 wt
 split
 ·rename_i e
  have:=a8w (ds:=[]) (r:=r) (fun _ z=>nomatch z) hr
  rw [AR] at this ⊢
  rw [this,if_pos rfl,e]
 ·have hl:=(a3h k).1
  rw [a8w (fun x hx=>b7U h2 hx) hr,if_neg (fun z=>by have z:dg k=[]:=z;rw [z] at hl;simp at hl),b3X (by lia) h2]
  rfl
def z8(P:List Nat→Option (Pa×List Nat)):Nat→List Nat→Option (List Pa×List Nat)
 |0,_=>none
 |n+1,s=>(P s).bind fun x=>match x.2 with
  |32::r=>(z8 P n r).map fun y=>(x.1::y.1,y.2)
  |r=>some ([x.1],r)
def a3d(P:List Nat→Option (Pa×List Nat))(s:List Nat):Option (Pa×List Nat):=(z8 P 200 s).bind fun x=>match x.2 with
 |41::r=>(O6 r).bind fun y=>if y.1=1 then none else some (.again y.1 x.1,y.2)
 |_=>none
def a2G(ag:List Nat→Option (Pa×List Nat)):List Nat→Option (Pa×List Nat)
 |[]=>none
 |c::r=>if c=40 then ag r else if lt1 c=true then(O6 r).map fun y=>(.run c y.1,y.2) else none
def a1b:Nat→List Nat→Option (Pa×List Nat)
 |0=>a2G fun _=>none
 |n+1=>a2G (a3d (a1b n))
mutual
def gP:Pa→Prop
 | .run c k=>(97≤c∧c≤122)∧1≤k∧k≤24
 | .again k ps=>(2≤k∧k≤24)∧ps≠[]∧gL ps
def gL:List Pa→Prop
 |[]=>True
 |p::ps=>gP p∧gL ps
end
theorem a4w(p:Pa):shL [p]=M4 p:=rfl
theorem a1t(p q:Pa)(ps:List Pa):shL (p::q::ps)=M4 p++32::shL (q::ps):=by
 unfold shL
 rw [AL,AL]
 show M4 p++[32]++G7 [32] (M4 q::ps.map M4)=_
 simp
theorem O4{P:List Nat→Option (Pa×List Nat)}{m:Nat}(hP:∀{s r:List Nat} {p:Pa},P s=some (p,r)→s=M4 p++r∧gP p∧dpP p≤m∧noF r):∀{n:Nat} {s r:List Nat} {ps:List Pa},z8 P n s=some (ps,r)→s=shL ps++r∧gL ps∧ps≠[]∧dpL ps≤m∧noF r∧(∀t,r≠32::t)
 |0,s,r,ps,h=>by cases h
 |n+1,s,r,ps,h=>by
  rw [z8] at h
  cases e:P s with
  |none=>rw [e] at h;cases h
  |some x=>
   obtain⟨p,r0⟩:=x
   rw [e,AE] at h
   obtain⟨a1,a2,a3,a4⟩:=hP e
   dsimp only at h
   split at h
   ·rename_i r1
    cases e2:z8 P n r1 with
    |none=>rw [e2] at h;cases h
    |some y=>
     obtain⟨qs,r2⟩:=y
     rw [e2] at h
     cases h
     obtain⟨b1,b2,b3,b4,b5,b6⟩:=O4 hP e2
     refine⟨?_,⟨a2,b2⟩,by simp,by rw [dpL];exact Nat.max_le.mpr ⟨a3,b4⟩,b5,b6⟩
     cases qs with
     |nil=>exact absurd rfl b3
     |cons q qs=>rw [a1t,a1,b1];simp
   ·rename_i hx
    cases h
    exact⟨by rw [a4w];exact a1,⟨a2,trivial⟩,by simp,by rw [dpL,dpL];exact Nat.max_le.mpr ⟨a3,Nat.zero_le _⟩,a4,fun t z=>hx t z⟩
theorem S3:∀{n:Nat} {s r:List Nat} {p:Pa},a1b n s=some (p,r)→s=M4 p++r∧gP p∧dpP p≤n∧noF r:=by
 have leaf:∀{ag:List Nat→Option (Pa×List Nat)} {n:Nat},(∀{s r:List Nat} {p:Pa},ag s=some (p,r)→40::s=M4 p++r∧gP p∧dpP p≤n∧noF r)→∀{s r:List Nat} {p:Pa},a2G ag s=some (p,r)→s=M4 p++r∧gP p∧dpP p≤n∧noF r:=by
  intro ag n ha s r p h
  cases s with
  |nil=>cases h
  |cons c s=>
   rw [a2G] at h
   split at h
   ·rename_i hc
    rw [hc]
    exact ha h
   ·split at h
    ·rename_i hl
     cases e:O6 s with
     |none=>rw [e] at h;cases h
     |some y=>
      obtain⟨k,r0⟩:=y
      rw [e] at h
      cases h
      obtain⟨t1,t2,t3,t4⟩:=a24 e
      exact⟨by rw [a0F,AO,←t1],⟨a1F.mp hl,t2,t3⟩,by rw [dpP];exact Nat.zero_le _,t4⟩
    ·cases h
 intro n
 induction n with
 |zero=>intro s r p h;exact leaf (fun z=>by cases z) h
 |succ n ih=>
  intro s r p h
  refine leaf (n:=n+1) (fun {s r p} h=> ?_) h
  unfold a3d at h
  cases e:z8 (a1b n) 200 s with
  |none=>rw [e] at h;cases h
  |some x=>
   obtain⟨ps,r0⟩:=x
   rw [e,AE] at h
   obtain⟨b1,b2,b3,b4,b5,b6⟩:=O4 ih e
   dsimp only at h
   split at h
   ·rename_i r1
    cases e2:O6 r1 with
    |none=>rw [e2] at h;cases h
    |some y=>
     obtain⟨k,r2⟩:=y
     rw [e2,AE] at h
     dsimp only at h
     split at h
     ·cases h
     ·rename_i hk
      cases h
      obtain⟨t1,t2,t3,t4⟩:=a24 e2
      have hw:wt k=dg k:=by unfold wt;rw [if_neg hk]
      refine⟨?_,⟨⟨by lia,t3⟩,b3,b2⟩,by rw [dpP];lia,t4⟩
      rw [K6,b1,t1,hw]
      simp
   ·cases h
mutual
def knP:Pa→Nat
 | .run _ k=>k
 | .again k ps=>knL ps*k
def knL:List Pa→Nat
 |[]=>0
 |p::ps=>knP p+knL ps
end
mutual
theorem a9W:∀{p:Pa},gP p→1≤knP p
 | .run c k,v=>by rw [gP] at v;rw [knP];exact v.2.1
 | .again k ps,v=>by
   rw [gP] at v
   rw [knP]
   have:=Nat.mul_le_mul (b3L v.2.1 v.2.2) v.1.1
   lia
theorem b3L:∀{ps:List Pa},ps≠[]→gL ps→1≤knL ps
 |[],h,_=>absurd rfl h
 |p::ps,_,v=>by
  rw [gL] at v
  rw [knL]
  have:=a9W v.1
  lia
end
theorem a65:∀{ps:List Pa},gL ps→ps.length≤knL ps
 |[],_=>AW _
 |p::ps,v=>by
  rw [gL] at v
  have h1:=a9W v.1
  have h2:=a65 v.2
  rw [knL,AS]
  lia
theorem a3z{P:List Nat→Option (Pa×List Nat)}{m:Nat}(hP:∀{r:List Nat} {p:Pa},gP p→dpP p≤m→knP p≤200→noF r→P (M4 p++r)=some (p,r)):∀{n:Nat} {r:List Nat} {ps:List Pa},gL ps→ps≠[]→dpL ps≤m→knL ps≤200→noF r→(∀t,r≠32::t)→ps.length≤n→z8 P n (shL ps++r)=some (ps,r)
 |0,r,ps,_,ne,_,_,_,_,hl=>absurd (List.eq_nil_of_length_eq_zero (by lia)) ne
 |n+1,r,[],_,ne,_,_,_,_,_=>absurd rfl ne
 |n+1,r,[p],g,_,d,k,f,s,_=>by
  rw [dpL] at d
  rw [knL] at k
  rw [a4w,z8,hP g.1 (Nat.le_trans (Nat.le_max_left _ _) d) (by lia) f,AE]
  dsimp only
  split
  ·rename_i t
   exact absurd rfl (s t)
  ·rfl
 |n+1,r,p::q::ps,g,_,d,k,f,s,hl=>by
  rw [dpL] at d
  rw [knL] at k
  rw [AS] at hl
  have ih:=a3z hP (n:=n) (r:=r) (ps:=q::ps) g.2 (by simp) (Nat.le_trans (Nat.le_max_right _ _) d) (by lia) f s (by lia)
  have f32:noF (32::(shL (q::ps)++r)):=fun y t e=>by cases e;rfl
  rw [a1t,List.append_assoc,AO,z8,hP g.1 (Nat.le_trans (Nat.le_max_left _ _) d) (by lia) f32,AE]
  show(z8 P n (shL (q::ps)++r)).map _=_
  rw [ih]
  rfl
theorem b2u:∀{n:Nat} {r:List Nat} {p:Pa},gP p→dpP p≤n→knP p≤200→noF r→a1b n (M4 p++r)=some (p,r):=by
 have leaf:∀{ag:List Nat→Option (Pa×List Nat)} {r:List Nat} {c k:Nat},gP (.run c k)→noF r→a2G ag (M4 (.run c k)++r)=some (.run c k,r):=by
  intro ag r c k g f
  rw [gP] at g
  rw [a0F,AO,a2G,if_neg (by lia),if_pos (a1F.mpr g.1),a6C g.2.1 g.2.2 f]
  rfl
 intro n
 induction n with
 |zero=>
  intro r p g d k f
  cases p with
  |run c j=>exact leaf g f
  |again j ps=>rw [dpP] at d;lia
 |succ n ih=>
  intro r p g d k f
  cases p with
  |run c j=>exact leaf g f
  |again j ps=>
   rw [gP] at g
   rw [dpP] at d
   rw [knP] at k
   have hk:knL ps*1≤knL ps*j:=Nat.mul_le_mul_left _ (by lia)
   have hl:=a65 g.2.2
   have f41:noF (41::(dg j++r)):=fun y t e=>by cases e;rfl
   have e:=a3z ih (n:=200) (r:=41::(dg j++r)) (ps:=ps) g.2.2 g.2.1 (by lia) (by lia) f41 (fun t z=>by cases z) (by lia)
   have hw:wt j=dg j:=by unfold wt;rw [if_neg (by lia)]
   have tk:=a6C (r:=r) (k:=j) (by lia) g.1.2 f
   rw [hw] at tk
   rw [K6,AO,List.append_assoc,AO,a1b,a2G,if_pos rfl]
   unfold a3d
   rw [e,AE]
   show(O6 (dg j++r)).bind _=_
   rw [tk,AE]
   exact if_neg (by show ¬j=1;lia)
def a5r(t:List Nat):Option (List Pa):=(z8 (a1b 12) 200 t).bind fun x=>match x.2 with
 |[]=>if 24<knL x.1 then none else some x.1
 |_=>none
mutual
def toE:Pa→Ea
 | .run c k=> .run c k
 | .again k ps=> .again k (W4 ps)
def W4:List Pa→List Ea
 |[]=>[]
 |p::ps=>toE p::W4 ps
end
theorem b1z{k:Nat}(h:k≤24):dg3 k=dg k:=by
 unfold dg3 dg
 split
 ·rfl
 ·rw [if_pos (by lia)]
theorem b6H{k:Nat}(h:k≤24):wt3 k=wt k:=by unfold wt3 wt;rw [b1z h]
mutual
theorem b2Z:∀{p:Pa},gP p→shE (toE p)=(M4 p).map .inl
 | .run c k,g=>by rw [gP] at g;rw [toE,shE,a0F,b6H g.2.2];rfl
 | .again k ps,g=>by
   rw [gP] at g
   rw [toE,shE,K6,b1z g.1.2,a7y g.2.2]
   simp
theorem a7y:∀{ps:List Pa},gL ps→B0 (W4 ps)=(shL ps).map .inl
 |[],_=>by rw [W4,B0];rfl
 |p::ps,g=>by
  rw [gL] at g
  rw [W4,B0,b2Z g.1,b0j g.2]
  cases ps with
  |nil=>rw [a4w];simp
  |cons q qs=>rw [a1t];simp
theorem b0j:∀{ps:List Pa},gL ps→poT (W4 ps)=if ps=[] then [] else(32::shL ps).map .inl
 |[],_=>by rw [W4,poT];rfl
 |p::ps,g=>by
  rw [gL] at g
  rw [W4,poT,b2Z g.1,b0j g.2,if_neg (c:=p::ps=[]) (by simp)]
  cases ps with
  |nil=>rw [a4w];simp
  |cons q qs=>rw [a1t];simp
end
mutual
theorem b5c:∀{p:Pa},gP p→vE (toE p)∧knE (toE p)=knP p
 | .run c k,g=>by rw [gP] at g;rw [toE,vE,knE,knP];exact⟨⟨g.1,g.2.1,by lia⟩,rfl⟩
 | .again k ps,g=>by
   rw [gP] at g
   obtain⟨h1,h2⟩:=a5J g.2.2
   rw [toE,vE,knE,knP,h2]
   refine⟨⟨⟨g.1.1,by lia⟩,fun z=>g.2.1 ?_,h1⟩,rfl⟩
   cases ps with
   |nil=>rfl
   |cons p ps=>rw [W4] at z;cases z
theorem a5J:∀{ps:List Pa},gL ps→vEL (W4 ps)∧x8 (W4 ps)=knL ps
 |[],_=>by rw [W4,vEL,x8,knL];exact⟨trivial,rfl⟩
 |p::ps,g=>by
  rw [gL] at g
  rw [W4,vEL,x8,knL,(b5c g.1).2,(a5J g.2).2]
  exact⟨⟨(b5c g.1).1,(a5J g.2).1⟩,rfl⟩
end
mutual
theorem ofE:∀{p:Ea},vE p→knE p≤24→(∀N,Sum.inr N∉shE p)→∃q,gP q∧toE q=p∧2 ^ dpP q≤knE p
 | .run c k,v,h,_=>by
   rw [vE] at v
   rw [knE] at h ⊢
   exact⟨.run c k,⟨v.1,v.2.1,h⟩,by rw [toE],by rw [dpP];exact v.2.1⟩
 | .hole N,_,_,n=>absurd (by rw [shE];exact Af) (n N)
 | .again k ps,v,h,n=>by
   rw [vE] at v
   rw [knE] at h ⊢
   have h1:=a2E v.2.1 v.2.2
   have h2:x8 ps*2≤x8 ps*k:=Nat.mul_le_mul_left _ v.1.1
   have h3:1*k≤x8 ps*k:=Nat.mul_le_mul_right _ h1
   obtain⟨qs,g,e,d⟩:=b50 v.2.2 (by lia) (fun N hN=>n N (by rw [shE];exact Ae _ (Ay _ hN)))
   have nq:qs≠[]:=fun z=>v.2.1 (by rw [←e,z,W4])
   refine⟨.again k qs,⟨⟨v.1.1,by lia⟩,nq,g⟩,by rw [toE,e], ?_⟩
   have:=d v.2.1
   rw [dpP,Nat.pow_succ]
   lia
theorem b50:∀{ps:List Ea},vEL ps→x8 ps≤24→(∀N,Sum.inr N∉B0 ps)→∃qs,gL qs∧W4 qs=ps∧(ps≠[]→2 ^ dpL qs≤x8 ps)
 |[],_,_,_=>⟨[],trivial,by rw [W4],fun z=>absurd rfl z⟩
 |p::ps,v,h,n=>by
  rw [vEL] at v
  rw [x8] at h ⊢
  obtain⟨q,g1,e1,d1⟩:=ofE v.1 (by lia) (fun N hN=>n N (by rw [B0];exact Ay _ hN))
  obtain⟨qs,g2,e2,d2⟩:=b50 v.2 (by lia) (fun N hN=>n N (by
   rw [B0]
   refine Au _ ?_
   cases ps with
   |nil=>rw [B0] at hN;cases hN
   |cons r rs=>rw [poT];rw [B0] at hN;exact Ae _ hN))
  refine⟨q::qs,⟨g1,g2⟩,by rw [W4,e1,e2],fun _=> ?_⟩
  rw [dpL]
  by_cases c:ps=[]
  ·have hq:qs=[]:=by
    cases qs with
    |nil=>rfl
    |cons a b=>rw [c,W4] at e2;cases e2
   rw [hq,dpL,Nat.max_eq_left (Nat.zero_le _)]
   lia
  ·have:=d2 c
   rcases Nat.le_total (dpP q) (dpL qs) with z|z
   ·rw [Nat.max_eq_right z];lia
   ·rw [Nat.max_eq_left z];lia
end
abbrev szP(t:List Nat):Option Nat:=szT 200 (t.map .inl)
theorem a6L:∀T:List A5,c40 T≤T.length
 |[]=>AW _
 |t::r=>by
  have:=a6L r
  rw [c40,AS]
  split<;>lia
theorem a46{l:List Nat}{N:Nat}:(Sum.inr N:A5)∉l.map .inl:=fun z=>by
 obtain⟨x,_,e⟩:=BA.mp z
 cases e
theorem a3U:∀{a b:List Nat},a.map (Sum.inl (β:=Nat))=b.map .inl→a=b
 |[],[],_=>rfl
 |[],_::_,h=>by cases h
 |_::_,[],h=>by cases h
 |x::a,y::b,h=>by
  injection h with h1 h2
  rw [Sum.inl.inj h1,a3U h2]
theorem b3W:noF []:=fun _ _ e=>by cases e
theorem b04{t:List Nat}{ps:List Pa}(hl:t.length<200)(h:a5r t=some ps):t=shL ps∧gL ps∧ps≠[]∧dpL ps≤12∧knL ps≤24∧szP t=some (knL ps):=by
 unfold a5r at h
 cases e:z8 (a1b 12) 200 t with
 |none=>rw [e] at h;cases h
 |some x=>
  obtain⟨qs,r⟩:=x
  rw [e,AE] at h
  obtain⟨b1,b2,b3,b4,_,_⟩:=O4 (S3 (n:=12)) e
  dsimp only at h
  split at h
  ·split at h
   ·cases h
   ·rename_i hk
    cases h
    rw [Ag] at b1
    refine⟨b1,b2,b3,b4,by lia, ?_⟩
    have hs:=a7y b2
    obtain⟨hv,hkn⟩:=a5J b2
    have hne:W4 ps≠[]:=fun z=>by
     cases ps with
     |nil=>exact b3 rfl
     |cons p ps=>rw [W4] at z;cases z
    unfold szP
    rw [b1,←hs,b5a hv hne,hkn]
    have:=a6L (B0 (W4 ps))
    have hl2:(B0 (W4 ps)).length=t.length:=by rw [hs,Ak,←b1]
    lia
  ·cases h
theorem b03{t:List Nat}(h:a5r t=none){N:Nat}(hz:szP t=some N):24<N:=by
 apply Classical.byContradiction
 intro hN
 obtain⟨E,v,ne,e,k⟩:=a8C (fun m hm=>absurd hm a46) hz
 obtain⟨ps,g,e1,d⟩:=b50 v (by lia) (fun N hm=>a46 (e▸hm))
 have d:=d ne
 have nps:ps≠[]:=fun z=>ne (by rw [←e1,z,W4])
 have hs:=a7y g
 rw [e1,←e] at hs
 have ht:=a3U hs
 have hkn:=(a5J g).2
 rw [e1,k] at hkn
 have hd:dpL ps≤12:=by
  apply Classical.byContradiction
  intro z
  have:2 ^ 13≤2 ^ dpL ps:=Nat.pow_le_pow_right (by lia) (by lia)
  have:(2:Nat)^ 13=8192:=by decide
  lia
 have hl:=a65 g
 have:=a3z (b2u (n:=12)) (n:=200) (r:=[]) (ps:=ps) g nps hd (by lia) b3W (fun t z=>by cases z) (by lia)
 rw [Ag,←ht] at this
 unfold a5r at h
 rw [this,AE] at h
 have h:(if 24<knL ps then none else some ps)=none:=h
 rw [if_neg (by lia)] at h
 cases h
theorem a9d(a b:Nat):Z8 (.val (row [a])) (.val (row [b]))=some (.val (.bool (decide (a≤b)))):=by
 show some (e8.val (.bool (!decide ((S [b]).cps.toList<(S [a]).cps.toList))))=_
 rw [T8,T8]
 congr 3
 have:([b]<[a])↔b<a:=by rw [List.cons_lt_cons_iff];simp
 by_cases h:a≤b
 ·rw [decide_eq_true h,decide_eq_false (fun z=>by have:=this.mp z;lia)];rfl
 ·rw [decide_eq_false h,decide_eq_true (this.mpr (by lia))];rfl
theorem X1{pre r:List Nat}{x:Nat}(hl:(pre++x::r).length≤10000):v7 (.val (row (pre++x::r))) (.val (.int (pre.length:Nat)))=some (.val (row [x])):=by
 refine b42 (by lia) ?_
 rw [a9x,List.getElem?_append_right (AW _),Nat.sub_self]
 rfl
theorem N9{l:List Nat}(h:l.length≤10000):U6 (.val (row l))=some (.val (.int (l.length:Nat))):=by
 show(if(S l).length≤AQ then some (e8.val (.int ((S l).length:Nat))) else none)=_
 rw [L8,if_pos (by rw [sizeLine_eq];lia)]
theorem a1A(a b:List Nat):Z6 (.val (row a)) (.val (row b))=some (.val (.bool (a==b))):=by
 have h:=b3F a b
 rw [b1R (x:= .val (row a)) (y:= .val (row b)) ⟨rfl,rfl⟩] at h
 rw [b5K (x:= .val (row a)) (y:= .val (row b)) ⟨rfl,rfl⟩]
 have h:=Option.some.inj h
 injection h with h
 injection h with h
 rw [Bool.not_inj h]
theorem a4k{pre ds post:List Nat}:cut (pre++(ds++post)) (some (pre.length:Nat)) (some ((pre.length+ds.length:Nat):Int))=ds:=by
 unfold cut
 have h1:HT.sIx (pre++(ds++post)).length 0 (some (pre.length:Nat))=pre.length:=by rw [HT.sIx_nat];simp
 have h2:HT.sIx (pre++(ds++post)).length (pre++(ds++post)).length (some ((pre.length+ds.length:Nat):Int))=pre.length+ds.length:=by
  rw [HT.sIx_nat];simp
 rw [h1,h2,List.drop_left,Nat.add_sub_cancel_left,List.take_left]
theorem b6x{pre ds post:List Nat}(hT:(pre++(ds++post)).length≤10000):gSl (.val (row (pre++(ds++post)))) (some (pre.length:Nat)) (some ((pre.length+ds.length:Nat):Int))=some (.val (row ds)):=by
 show(if(S (pre++(ds++post))).length≤AQ then some (e8.val (.str ⟨(cut (S (pre++(ds++post))).cps.toList (some (pre.length:Nat)) (some ((pre.length+ds.length:Nat):Int))).toArray⟩)) else none)=_
 rw [L8,if_pos (by rw [sizeLine_eq];lia),T8,a4k]
 rfl
theorem a2n{pre s y:List Nat}:J4 (.val (row (pre++s))) (.val (row y)) (.val (.int (pre.length:Nat)))=some (.val (.bool (y.isPrefixOf s))):=by
 show some (e8.val (.bool _))=_
 congr 3
 have f:fromIndex (S (pre++s)).length (pre.length:Nat)=pre.length:=by
  unfold fromIndex
  rw [if_neg (by lia)]
  lia
 rw [f,L8,L8]
 unfold Builtin.Str.subAt
 rw [L8]
 have e:(S (pre++s)).cps.extract pre.length (pre.length+y.length)=(s.take y.length).toArray:=by
  apply Array.ext'
  rw [Array.toList_extract,T8]
  simp [List.extract]
 rw [e]
 have e2:((s.take y.length).toArray==(S y).cps)=(s.take y.length==y):=by
  show((s.take y.length).toArray==y.toArray)=_
  simp
 rw [e2]
 cases h:y.isPrefixOf s with
 |true=>
  have h:=List.isPrefixOf_iff_prefix.mp h
  obtain⟨t,rfl⟩:=h
  simp
 |false=>
  have h:¬y<+:s:=fun z=>by rw [List.isPrefixOf_iff_prefix.mpr z] at h;cases h
  by_cases hl:pre.length+y.length≤(pre++s).length
  ·rw [decide_eq_true hl,Bool.true_and]
   have:s.take y.length≠y:=fun z=>h (z▸List.take_prefix _ _)
   simpa using this
  ·rw [decide_eq_false hl,Bool.false_and]
theorem a8r{lo hi:Nat}{post:List Nat}(hp:∀y r,post=y::r→¬(lo≤y∧y≤hi)){T:List Nat}(hT:T.length≤10000){q1:Option e8}:∀(ds pre:List Nat) (fuel:Nat),T=pre++(ds++post)→(∀x∈ds,lo≤x∧x≤hi)→ds.length<fuel→
 y0 (W8 (E3 (m2 a2d (b7 4) (m1 U6 (b7 0)))) (E3 (Y0 Z8 Z8 (b7 2) (m2 v7 (b7 0) (b7 4)) (b7 3)))) U7 fuel [some (.val (row T)),q1,some (.val (row [lo])),some (.val (row [hi])),some (.val (.int (pre.length:Nat)))]
  =some (.nx [some (.val (row T)),q1,some (.val (row [lo])),some (.val (row [hi])),some (.val (.int ((pre.length+ds.length:Nat):Int)))])
 |[],pre,fuel,e,_,hf=>by
  obtain⟨fuel,rfl⟩:∃k,fuel=k+1:=⟨fuel - 1,by have:([]:List Nat).length=0:=rfl;lia⟩
  have gl:=N9 hT
  have c:W8 (E3 (m2 a2d (b7 4) (m1 U6 (b7 0)))) (E3 (Y0 Z8 Z8 (b7 2) (m2 v7 (b7 0) (b7 4)) (b7 3))) [some (.val (row T)),q1,some (.val (row [lo])),some (.val (row [hi])),some (.val (.int (pre.length:Nat)))]=some false:=by
   cases post with
   |nil=>
    have hlt:decide ((pre.length:Int)<(T.length:Nat))=false:=decide_eq_false (by rw [e];simp)
    simp (disch:=omega) only [C5,d7,n0,b8,f7,d9,g8,p9,a15,AE,gl,hlt]
   |cons y r=>
    have hlt:decide ((pre.length:Int)<(T.length:Nat))=true:=decide_eq_true (by rw [e];simp;lia)
    have sa:v7 (.val (row T)) (.val (.int (pre.length:Nat)))=some (.val (row [y])):=by rw [e];exact X1 (by rw [e] at hT;exact hT)
    have hy:=hp y r rfl
    by_cases h1:lo≤y
    ·have h2:decide (y≤hi)=false:=decide_eq_false fun z=>hy ⟨h1,z⟩
     simp (disch:=omega) only [C5,j5,a0L,d7,n0,b8,f7,d9,g8,p9,S6,AE,gl,hlt,sa,a9d,decide_eq_true h1,h2]
    ·simp (disch:=omega) only [C5,j5,a7L,d7,n0,b8,f7,d9,g8,p9,S6,AE,gl,hlt,sa,a9d,decide_eq_false h1]
  rw [y0,c,AE,if_neg Aj]
  rfl
 |d::ds,pre,fuel,e,hd,hf=>by
  obtain⟨fuel,rfl⟩:∃k,fuel=k+1:=⟨fuel - 1,by rw [AS] at hf;lia⟩
  rw [AS] at hf
  have gl:=N9 hT
  have e':T=pre++d::(ds++post):=e
  have hlt:decide ((pre.length:Int)<(T.length:Nat))=true:=decide_eq_true (by rw [e'];simp;lia)
  have sa:v7 (.val (row T)) (.val (.int (pre.length:Nat)))=some (.val (row [d])):=by rw [e'];exact X1 (by rw [e'] at hT;exact hT)
  have hd1:=hd d Af
  have c:W8 (E3 (m2 a2d (b7 4) (m1 U6 (b7 0)))) (E3 (Y0 Z8 Z8 (b7 2) (m2 v7 (b7 0) (b7 4)) (b7 3))) [some (.val (row T)),q1,some (.val (row [lo])),some (.val (row [hi])),some (.val (.int (pre.length:Nat)))]=some true:=by
   simp (disch:=omega) only [C5,j5,a0L,d7,n0,b8,f7,d9,g8,p9,S6,AE,gl,hlt,sa,a9d,decide_eq_true hd1.1,decide_eq_true hd1.2]
  have b:U7 [some (.val (row T)),q1,some (.val (row [lo])),some (.val (row [hi])),some (.val (.int (pre.length:Nat)))]=some (.nx [some (.val (row T)),q1,some (.val (row [lo])),some (.val (row [hi])),some (.val (.int ((pre++[d]).length:Nat)))]):=by
   unfold U7 a78
   show some _=_
   rw [Aa,List.length_singleton,Int.natCast_add]
   rfl
  have ih:=a8r hp hT (q1:=q1) ds (pre++[d]) fuel (by rw [e];simp) (fun x hx=>hd x (Ae _ hx)) (by lia)
  rw [y0,c,AE,if_pos rfl,b,AE]
  show y0 _ _ fuel _=_
  rw [ih,Aa,List.length_singleton,AS,show pre.length+1+ds.length=pre.length+(ds.length+1) by lia]
theorem a9F{pre s:List Nat}(hT:(pre++s).length≤190):E6 [row (pre++s),.int (pre.length:Nat)]=some (.val (.int ((pre.length+(A3 U0 s).1.length:Nat):Int))):=by
 have ap:=a0d U0 s
 have hlen:(A3 U0 s).1.length≤s.length:=by have:=congrArg List.length ap;rw [Aa] at this;lia
 rw [Aa] at hT
 have e:=a8r (lo:=48) (hi:=57) (post:=(A3 U0 s).2) (fun y r h z=>by have:=a0G U0 s y r h;rw [p5.mpr z] at this;cases this) (T:=pre++s) (by rw [Aa];lia) (q1:=some (.val (.int (pre.length:Nat)))) (A3 U0 s).1 pre 200 (by rw [←ap]) (fun x hx=>p5.mp (a0c U0 s x hx)) (by lia)
 have s0:AN "0"=S [48]:=rfl
 have s9:AN "9"=S [57]:=rfl
 unfold E6 a1X a3o a55
 rw [s0,s9]
 simp (disch:=omega) only [d8,b8,f7,d5,c8,d4,f9,g5,k4,f6,i8,d0,g0,g6,i5,AE,AL,AT,AZ,AU,Ag,AO,AR,AX,AY,a4s,a4t,e]
theorem a5D{p:Nat→Bool}:∀{w:List Nat},(∀x∈w,p x=true)→A3 p w=(w,[])
 |[],_=>rfl
 |x::r,h=>by
  unfold A3
  rw [if_pos (h x Af),a5D fun y hy=>h y (Ae _ hy)]
theorem b63(a b:List Nat):PyData.eqv (row a) (row b)=(a==b):=by
 show(S a==S b)=_
 rw [Bool.eq_iff_iff,beq_iff_eq,beq_iff_eq]
 exact⟨fun h=>b1k h,fun h=>by rw [h]⟩
def b2r:Option Nat→PV
 |some k=> .int (k:Nat)
 |none=> .none
theorem a9V{ds:List Nat}(hd:∀x∈ds,U0 x=true)(h1:1≤ds.length)(h4:ds.length≤4):a3S (.val (row ds))=some (.val (.int (S8 ds:Nat))):=by
 show(if(S ds).length≤640 then(intText? (S ds)).map (fun n=>e8.val (.int n)) else none)=_
 rw [L8,if_pos (by lia)]
 have:=PySem.intText_digits (x:=S ds) (by rw [T8];exact fun c hc=>p5.mp (hd c hc)) (by rw [T8];intro z;rw [z] at h1;cases h1) (by rw [L8];lia)
 rw [this,T8]
 rfl
theorem b0V{ds:List Nat}(hd:∀x∈ds,U0 x=true)(hl:ds.length≤190):W7 [row ds]=some (.val (if(decide (1≤ds.length)&& decide (ds.length≤4))=true then if(ds.head?==some 48 && decide (1<ds.length))=true then .none else .int (S8 ds:Nat) else .none)):=by
 have fe:=a9F (pre:=[]) (s:=ds) (by simpa using hl)
 rw [a5D hd,AR,Ai,Nat.zero_add] at fe
 have fe:E6 [row ds,.int 0]=some (.val (.int (ds.length:Nat))):=fe
 have gl:=N9 (l:=ds) (by lia)
 have ne:gNe (.val (.int (ds.length:Nat))) (.val (.int (ds.length:Nat)))=some (.val (.bool false)):=by simp (disch:=omega) only [Bool.not_true,beq_self_eq_true,a7Z]
 have c4:O7= .int 4:=rfl
 unfold W7 a3P
 rw [c4]
 by_cases h1:(1:Int)≤(ds.length:Nat)
 ·have d1:decide (1≤ds.length)=true:=decide_eq_true (by lia)
  by_cases h2:((ds.length:Nat):Int)≤4
  ·have d2:decide (ds.length≤4)=true:=decide_eq_true (by lia)
   have it:=a9V hd (by lia) (by lia)
   obtain⟨d,r,e⟩:∃d r,ds=d::r:=by
    cases ds with
    |nil=>exact absurd h1 (by simp)
    |cons d r=>exact⟨d,r,rfl⟩
   have ix:v7 (.val (row ds)) (.val (.int 0))=some (.val (row [d])):=by
    have:=X1 (pre:=[]) (x:=d) (r:=r) (by rw [AR,←e];lia)
    rw [AR,←e] at this
    exact this
   have s0:AN "0"=S [48]:=rfl
   have e0:=a1A [d] [48]
   have hh:(ds.head?==some 48)=([d]==[48]):=by rw [e];simp
   rw [s0,d1,d2,hh]
   by_cases h3:(1:Int)<(ds.length:Nat)
   ·have d3:decide (1<ds.length)=true:=decide_eq_true (by lia)
    rw [d3]
    cases hq:([d]==[48]) with
    |true=>
     rw [hq] at e0
     simp (disch:=omega) only [x9,X9,j5,a0L,d7,n0,d8,b8,d5,c8,d4,f9,f6,i8,d0,g0,j9,c9,n4,m8,g7,g6,i5,d9,g8,l6,j4,p9,A2,S6,AE,Ah,AL,AT,AU,Ag,Bool.not_true,gl,fe,ne,decide_eq_true h1,decide_eq_true h2,ix,e0,decide_eq_true h3,j5]
     try rfl
    |false=>
     rw [hq] at e0
     simp (disch:=omega) only [X9,j5,a0L,d7,n0,d8,b8,d5,c8,d4,f9,f6,i8,d0,g0,c9,m8,g7,g6,i5,d9,g8,l6,j4,p9,A2,a15,AE,Ah,AL,AT,AU,Ag,Bool.not_true,gl,fe,ne,decide_eq_true h1,decide_eq_true h2,ix,e0,it,j5]
     try rfl
   ·have d3:decide (1<ds.length)=false:=decide_eq_false (by lia)
    rw [d3]
    cases hq:([d]==[48]) with
    |true=>
     rw [hq] at e0
     simp (disch:=omega) only [x9,X9,j5,a0L,d7,n0,d8,b8,d5,c8,d4,f9,f6,i8,d0,g0,c9,m8,g7,g6,i5,d9,g8,l6,j4,p9,A2,S6,AE,Ah,AL,AT,AU,Ag,Bool.not_true,gl,fe,ne,decide_eq_true h1,decide_eq_true h2,ix,e0,decide_eq_false h3,it,j5]
     try rfl
    |false=>
     rw [hq] at e0
     simp (disch:=omega) only [X9,j5,a0L,d7,n0,d8,b8,d5,c8,d4,f9,f6,i8,d0,g0,c9,m8,g7,g6,i5,d9,g8,l6,j4,p9,A2,a15,AE,Ah,AL,AT,AU,Ag,Bool.not_true,gl,fe,ne,decide_eq_true h1,decide_eq_true h2,ix,e0,it,j5]
     try rfl
  ·have d2:decide (ds.length≤4)=false:=decide_eq_false (by lia)
   rw [d1,d2]
   simp (disch:=omega) only [X9,j5,a0L,n0,d8,b8,f6,i8,d0,j9,c9,n4,g6,i5,d9,g8,l6,j4,P3,AE,Ah,AL,AT,AU,Ag,Bool.not_false,gl,decide_eq_true h1,decide_eq_false h2,j5]
   try rfl
 ·have d1:decide (1≤ds.length)=false:=decide_eq_false (by lia)
  rw [d1]
  simp (disch:=omega) only [X9,j5,a7L,n0,d8,b8,f6,i8,d0,j9,c9,n4,g6,i5,d9,g8,l6,j4,P3,AE,Ah,AL,AT,AU,Ag,Bool.not_false,gl,decide_eq_false h1,j5]
  try rfl
theorem a0O:S9 false (.val .none) (.val .none)=some (.val (.bool true)):=Eq.trans rfl rfl
theorem a06(i:Int):S9 false (.val (.int i)) (.val .none)=some (.val (.bool false)):=Eq.trans rfl rfl
theorem b1Y(ps:List PV):S9 false (.val (.tuple ps)) (.val .none)=some (.val (.bool false)):=Eq.trans rfl rfl
theorem b3k{ds:List Nat}(hd:∀x∈ds,U0 x=true)(hl:ds.length≤190):A4 [row ds,.int 2,.int 24]=some (.val (b2r (a7c ds))):=by
 have hn:=b0V hd hl
 unfold A4 Z3 a7c
 cases c1:(decide (1≤ds.length)&& decide (ds.length≤4)) with
 |false=>
  rw [c1] at hn
  rw [if_neg Aj] at hn ⊢
  simp (disch:=omega) only [d7,d8,b8,f7,d5,c8,d4,f9,g5,k4,f6,i8,d0,g0,j9,c9,n4,g6,i5,d9,g8,j4,P3,AE,AL,AT,AZ,AU,AO,AR,AX,AY,hn,a0O]
  try rfl
 |true=>
  rw [c1,if_pos rfl] at hn
  rw [if_pos rfl]
  cases c2:(ds.head?==some 48 && decide (1<ds.length)) with
  |true=>
   rw [c2,if_pos rfl] at hn
   rw [if_pos rfl]
   simp (disch:=omega) only [d7,d8,b8,f7,d5,c8,d4,f9,g5,k4,f6,i8,d0,g0,j9,c9,n4,g6,i5,d9,g8,j4,P3,AE,AL,AT,AZ,AU,AO,AR,AX,AY,hn,a0O]
   try rfl
  |false=>
   rw [c2,if_neg Aj] at hn
   rw [if_neg Aj]
   by_cases h1:(2:Int)≤(S8 ds:Nat)
   ·have d1:decide (2≤S8 ds)=true:=decide_eq_true (by lia)
    by_cases h2:((S8 ds:Nat):Int)≤24
    ·have d2:decide (S8 ds≤24)=true:=decide_eq_true (by lia)
     rw [d1,d2]
     simp (disch:=omega) only [X9,j5,a0L,d7,d8,b8,f7,d5,c8,d4,f9,g5,k4,d0,g0,c9,m8,g7,g6,i5,d9,g8,l6,j4,A2,AE,Ah,AL,AT,AZ,AU,AO,AR,AX,AY,Bool.not_true,a4s,a4t,hn,a06,decide_eq_true h1,decide_eq_true h2,j5]
     try rfl
    ·have d2:decide (S8 ds≤24)=false:=decide_eq_false (by lia)
     rw [d1,d2]
     simp (disch:=omega) only [X9,j5,a0L,d7,d8,b8,f7,d5,c8,d4,f9,g5,k4,f6,i8,d0,g0,j9,c9,n4,g6,i5,d9,g8,l6,j4,A2,AE,Ah,AL,AT,AZ,AU,AO,AR,AX,AY,Bool.not_false,hn,a06,decide_eq_true h1,decide_eq_false h2,j5]
     try rfl
   ·have d1:decide (2≤S8 ds)=false:=decide_eq_false (by lia)
    rw [d1]
    simp (disch:=omega) only [X9,j5,a7L,d7,d8,b8,f7,d5,c8,d4,f9,g5,k4,f6,i8,d0,g0,j9,c9,n4,g6,i5,d9,g8,l6,j4,A2,AE,Ah,AL,AT,AZ,AU,AO,AR,AX,AY,Bool.not_false,hn,a06,decide_eq_false h1,j5]
    try rfl
theorem b6k(c:Nat)(s:List Nat):([c].isPrefixOf s)=true↔∃r,s=c::r:=by
 rw [List.isPrefixOf_iff_prefix]
 exact⟨fun⟨r,h⟩=>⟨r,h.symm⟩,fun⟨r,h⟩=>⟨r,h.symm⟩⟩
def b79(T:List Nat):Option (Nat×List Nat)→PV
 |some (k,r)=> .tuple [.int (k:Nat),.int ((T.length - r.length:Nat):Int)]
 |none=> .none
theorem b5J(i j:Nat):Z6 (.val (.int (i:Nat))) (.val (.int (j:Nat)))=some (.val (.bool (decide (i=j)))):=by
 rw [J5]
 congr 3
 by_cases h:i=j
 ·rw [decide_eq_true h,h];simp
 ·rw [decide_eq_false h,beq_eq_false_iff_ne];lia
theorem a8E{pre s:List Nat}(hT:(pre++s).length≤190):A7 [row (pre++s),.int (pre.length:Nat)]=some (.val (b79 (pre++s) (O6 s))):=by
 have fe:=a9F hT
 have ap:=a0d U0 s
 have al:=a0c U0 s
 unfold O6
 generalize hds:(A3 U0 s).1=ds at*
 generalize hpo:(A3 U0 s).2=post at*
 have e0:=b5J (pre.length+ds.length) pre.length
 by_cases c:ds=[]
 ·rw [if_pos c]
  subst c
  rw [decide_eq_true (by simp)] at e0
  have hl:(pre++s).length - s.length=pre.length+([]:List Nat).length:=by rw [Aa];simp
  show _=some (e8.val (.tuple [.int 1,.int (((pre++s).length - s.length:Nat):Int)]))
  rw [Ai,Nat.add_zero] at fe hl
  rw [hl]
  unfold A7 a17
  simp (disch:=omega) only [d7,d8,b8,f7,d5,c8,d4,D9,f9,g5,k4,f6,i8,d0,g0,j9,c9,n4,g6,i5,d9,g8,AE,AL,AT,AZ,AU,AO,AR,AX,AY,AS,Ai,↓reduceIte,sz,Nat.reduceAdd,Aq,beq_self_eq_true,J5,fe]
  try rfl
 ·rw [if_neg c]
  have hp:0<ds.length:=List.length_pos_iff.mpr c
  rw [decide_eq_false (by lia)] at e0
  have sl:=b6x (pre:=pre) (ds:=ds) (post:=post) (by rw [←ap];lia)
  rw [←ap] at sl
  have hlen:ds.length+post.length=s.length:=by have:=congrArg List.length ap;rw [Aa] at this;lia
  rw [Aa] at hT
  have be:=b3k al (by lia)
  have v24:Q4= .int 24:=rfl
  have hr:(pre++s).length - post.length=pre.length+ds.length:=by rw [Aa];lia
  unfold A7 a17
  rw [v24]
  cases hn:a7c ds with
  |none=>
   rw [hn] at be
   have be:A4 [row ds,.int 2,.int 24]=some (.val .none):=be
   simp (disch:=omega) only [d7,d8,b8,f7,d5,c8,d4,f9,g5,k4,f6,i8,d0,g0,j9,c9,n4,m8,g7,g6,i5,d9,g8,AE,AL,AT,AZ,AU,AO,AR,AX,AY,f8,l4,u3,fe,e0,f8,sl,be,a0O]
   try rfl
  |some k=>
   rw [hn] at be
   have be:A4 [row ds,.int 2,.int 24]=some (.val (.int (k:Nat))):=be
   show _=some (e8.val (.tuple [.int (k:Nat),.int (((pre++s).length - post.length:Nat):Int)]))
   rw [hr]
   simp (disch:=omega) only [d7,d8,b8,f7,d5,c8,d4,D9,f9,g5,k4,f6,i8,d0,g0,c9,m8,g7,g6,i5,d9,g8,AE,AL,AT,AZ,AU,AO,AR,AX,AY,AS,Ai,↓reduceIte,f8,l4,u3,sz,Nat.reduceAdd,Aq,fe,e0,f8,sl,be,a06]
   try rfl
theorem a7P{pre s:List Nat}(j:Nat):cut (pre++s) (some (pre.length:Nat)) (some ((pre.length+j:Nat):Int))=s.take j:=by
 unfold cut
 have h1:HT.sIx (pre++s).length 0 (some (pre.length:Nat))=pre.length:=by rw [HT.sIx_nat];simp
 rw [h1,HT.sIx_nat,List.drop_left,Aa]
 by_cases h:j≤s.length
 ·rw [Nat.min_eq_left (by lia),Nat.add_sub_cancel_left]
 ·rw [Nat.min_eq_right (by lia),Nat.add_sub_cancel_left,List.take_of_length_le (AW _),List.take_of_length_le (by lia)]
theorem b4r{pre s:List Nat}(hT:(pre++s).length≤10000)(j:Nat):gSl (.val (row (pre++s))) (some (pre.length:Nat)) (some ((pre.length+j:Nat):Int))=some (.val (row (s.take j))):=by
 show(if(S (pre++s)).length≤AQ then some (e8.val (.str ⟨(cut (S (pre++s)).cps.toList (some (pre.length:Nat)) (some ((pre.length+j:Nat):Int))).toArray⟩)) else none)=_
 rw [L8,if_pos (by rw [sizeLine_eq];lia),T8,a7P]
 rfl
abbrev fnP:PV:=a7W (AN "fold_part_at")
def a8p(T:List Nat):Option (Pa×List Nat)→PV
 |some (p,r)=> .tuple [C7 p,.int ((T.length - r.length:Nat):Int)]
 |none=> .none
def a7s(T:List Nat):Option (List Pa×List Nat)→PV
 |some (ps,r)=> .tuple [.list (z7 ps),.int ((T.length - r.length:Nat):Int)]
 |none=> .none
theorem b7d:Z8 (.val (row [97])) (.val (row []))=some (.val (.bool false)):=by rfl
theorem b40{RA RF RP:List PV→Option e8}{ag:List Nat→Option (Pa×List Nat)}{left:Int}(hA:∀pre r:List Nat,(pre++r).length≤190→RA [row (pre++r),.int (pre.length:Nat),.int left,fnP,row [41]]=some (.val (a8p (pre++r) (ag r)))){pre s:List Nat}(hT:(pre++s).length≤190):
 v6 1 (N1 RA RF RP) [row (pre++s),.int (pre.length:Nat),.int left]=some (.val (a8p (pre++s) (a2G ag s))):=by
 have st:=a2n (pre:=pre) (s:=s) (y:=[40])
 have sl:=b4r (pre:=pre) (s:=s) (by lia) 1
 have e1:(pre.length:Int)+1=((pre.length+1:Nat):Int):=by lia
 have s1:AN "("=S [40]:=rfl
 have s2:AN "a"=S [97]:=rfl
 have s3:AN "z"=S [122]:=rfl
 have s4:AN ")"=S [41]:=rfl
 unfold N1
 rw [s1,s2,s3,s4]
 cases s with
 |nil=>
  have st:J4 (.val (row (pre++[]))) (.val (row [40])) (.val (.int (pre.length:Nat)))=some (.val (.bool false)):=st
  have sl:gSl (.val (row (pre++[]))) (some (pre.length:Nat)) (some ((pre.length+1:Nat):Int))=some (.val (row [])):=sl
  show _=some (e8.val .none)
  generalize pre++[]=T at st sl ⊢
  simp (disch:=omega) only [l9,j5,a7L,d7,d8,b8,f7,f6,i8,d0,g0,j9,c9,n4,m8,g7,g6,i5,z4,d9,g8,M3,l6,AE,Ah,AL,AT,AZ,AU,AO,AR,Bool.not_false,f8,l4,u3,C3,st,e1,f8,sl,j5,b7d]
  try rfl
 |cons c r=>
  have hA:=hA (pre++[c]) r (by rw [List.append_assoc];exact hT)
  have tm:=a8E (pre:=pre++[c]) (s:=r) (by rw [List.append_assoc];exact hT)
  have sg:=X1 (pre:=pre) (r:=r) (x:=c) (by lia)
  rw [List.append_assoc,Aa,List.length_singleton] at hA tm
  have hA:RA [row (pre++c::r),.int ((pre.length+1:Nat):Int),.int left,fnP,row [41]]=_:=hA
  have tm:A7 [row (pre++c::r),.int ((pre.length+1:Nat):Int)]=_:=tm
  have eT:pre++([c]++r)=pre++c::r:=rfl
  rw [eT] at hA tm
  rw [a2G]
  by_cases hc:c=40
  ·rw [if_pos hc]
   have st:J4 (.val (row (pre++c::r))) (.val (row [40])) (.val (.int (pre.length:Nat)))=some (.val (.bool true)):=by rw [st,hc];rfl
   generalize pre++c::r=T at st hA ⊢
   simp (disch:=omega) only [l9,d7,d8,b8,f7,d5,c8,d4,f9,f6,i8,d0,j9,c9,n4,g6,i5,z4,M3,AE,AL,AT,AZ,AU,AO,AR,C3,st,e1,hA]
   try rfl
  ·rw [if_neg hc]
   have st:J4 (.val (row (pre++c::r))) (.val (row [40])) (.val (.int (pre.length:Nat)))=some (.val (.bool false)):=by
    rw [st]
    have:([40].isPrefixOf (c::r))=false:=by
     rw [Bool.eq_false_iff]
     intro z
     obtain⟨t,e⟩:=(b6k 40 (c::r)).mp z
     injection e with e _
     exact hc e
    rw [this]
   have sl:gSl (.val (row (pre++c::r))) (some (pre.length:Nat)) (some ((pre.length+1:Nat):Int))=some (.val (row [c])):=sl
   by_cases hl:lt1 c=true
   ·rw [if_pos hl]
    have hl':=a1F.mp hl
    have g1:decide (97≤c)=true:=decide_eq_true hl'.1
    have g2:decide (c≤122)=true:=decide_eq_true hl'.2
    cases ht:O6 r with
    |none=>
     rw [ht] at tm
     have tm:A7 [row (pre++c::r),.int ((pre.length+1:Nat):Int)]=some (.val .none):=tm
     show _=some (e8.val .none)
     generalize pre++c::r=T at st sl tm ⊢
     simp (disch:=omega) only [l9,j5,a0L,d7,d8,b8,f7,d5,c8,d4,f9,g5,k4,f6,i8,d0,g0,j9,c9,n4,m8,g7,g6,i5,z4,d9,g8,M3,l6,AE,Ah,AL,AT,AZ,AU,AO,AR,AX,AY,Bool.not_true,f8,l4,u3,C3,st,e1,f8,sl,j5,a9d,g1,g2,tm,a0O]
     try rfl
    |some y=>
     obtain⟨k,r2⟩:=y
     rw [ht] at tm
     have tm:A7 [row (pre++c::r),.int ((pre.length+1:Nat):Int)]=some (.val (.tuple [.int (k:Nat),.int (((pre++c::r).length - r2.length:Nat):Int)])):=tm
     show _=some (e8.val (.tuple [C7 (.run c k),.int (((pre++c::r).length - r2.length:Nat):Int)]))
     have ro:a4V [row [c],.int (k:Nat)]=some (.val (C7 (.run c k))):=by rw [C7];rfl
     generalize (pre++c::r).length - r2.length=e at tm ⊢
     generalize pre++c::r=T at st sl tm sg ⊢
     simp (disch:=omega) only [l9,j5,a0L,a2C,K3,d7,d8,b8,f7,d5,c8,d4,D9,f9,g5,k4,f6,i8,d0,g0,c9,m8,g7,g6,i5,z4,d9,g8,M3,l6,AE,Ah,AL,AT,AZ,AU,AO,AR,AX,AY,AS,Ai,↓reduceIte,Bool.not_true,f8,l4,u3,sz,Nat.reduceAdd,Aq,C3,st,e1,f8,sl,j5,a9d,g1,g2,tm,b1Y,sg,ro]
     try rfl
   ·rw [if_neg hl]
    show _=some (e8.val .none)
    by_cases g1:97≤c
    ·have g2:¬c≤122:=fun z=>hl (a1F.mpr ⟨g1,z⟩)
     generalize pre++c::r=T at st sl ⊢
     simp (disch:=omega) only [l9,j5,a0L,d7,d8,b8,f7,f6,i8,d0,g0,j9,c9,n4,m8,g7,g6,i5,z4,d9,g8,M3,l6,AE,Ah,AL,AT,AZ,AU,AO,AR,Bool.not_false,f8,l4,u3,C3,st,e1,f8,sl,j5,a9d,decide_eq_true g1,decide_eq_false g2]
     try rfl
    ·generalize pre++c::r=T at st sl ⊢
     simp (disch:=omega) only [l9,j5,a7L,d7,d8,b8,f7,f6,i8,d0,g0,j9,c9,n4,m8,g7,g6,i5,z4,d9,g8,M3,l6,AE,Ah,AL,AT,AZ,AU,AO,AR,Bool.not_false,f8,l4,u3,C3,st,e1,f8,sl,j5,a9d,decide_eq_false g1]
     try rfl
theorem b4p:∀p:Pa,1≤(M4 p).length
 | .run c k=>by rw [a0F,AS];lia
 | .again k ps=>by rw [K6,AS];lia
theorem a40(ps:List PV)(i:Int):S9 false (.val (.tuple [.list ps,.int i])) (.val .none)=some (.val (.bool false)):=rfl
abbrev Snd(P:List Nat→Option (Pa×List Nat))(m:Nat):Prop:=∀{s r:List Nat} {p:Pa},P s=some (p,r)→s=M4 p++r∧gP p∧dpP p≤m∧noF r
theorem b6U{RA RF RP:List PV→Option e8}{P:List Nat→Option (Pa×List Nat)}{m:Nat}(hP:Snd P m){left:Nat}{pre s:List Nat}(hT:(pre++s).length≤190)(hR:RP [row (pre++s),.int (pre.length:Nat),.int (left:Nat),fnP]=some (.val (a7s (pre++s) (z8 P 200 s)))):
 v6 2 (P7 RA RF RP) [row (pre++s),.int (pre.length:Nat),.int ((left+1:Nat):Int),fnP,row [41]]=some (.val (a8p (pre++s) (a3d P s))):=by
 have c0:(((left+1:Nat):Int)==0)=false:=by rw [beq_eq_false_iff_ne];lia
 have e0:((left+1:Nat):Int) - 1=(left:Nat):=by lia
 unfold a3d
 unfold P7
 cases hw:z8 P 200 s with
 |none=>
  rw [hw] at hR
  have hR:RP [row (pre++s),.int (pre.length:Nat),.int (left:Nat),fnP]=some (.val .none):=hR
  show _=some (e8.val .none)
  generalize pre++s=T at hR ⊢
  simp (disch:=omega) only [x9,d7,d8,b8,f7,d5,c8,d4,f9,g5,k4,f6,i8,d0,g0,j9,c9,n4,m8,g7,g6,i5,d9,g8,j4,P3,AE,AL,AT,AZ,AU,AO,AR,AX,AY,J5,c0,e0,hR,a0O]
  try rfl
 |some x=>
  obtain⟨ps,r⟩:=x
  obtain⟨b1,b2,b3,b4,b5,b6⟩:=O4 hP hw
  rw [hw] at hR
  have hR:RP [row (pre++s),.int (pre.length:Nat),.int (left:Nat),fnP]=some (.val (.tuple [.list (z7 ps),.int (((pre++s).length - r.length:Nat):Int)])):=hR
  have eT:pre++s=(pre++shL ps)++r:=by rw [b1,List.append_assoc]
  have hl:(pre++s).length - r.length=(pre++shL ps).length:=by rw [eT,Aa (as:=pre++shL ps)];lia
  have st:=a2n (pre:=pre++shL ps) (s:=r) (y:=[41])
  rw [←eT,←hl] at st
  rw [AE]
  have i0:∀x:PV,v7 (.val (.tuple [.list (z7 ps),x])) (.val (.int 0))=some (.val (.list (z7 ps))):=fun _=>rfl
  by_cases h41:∃r1,r=41::r1
  ·obtain⟨r1,e1⟩:=h41
   subst e1
   have st:J4 (.val (row (pre++s))) (.val (row [41])) (.val (.int (((pre++s).length - (41::r1).length:Nat):Int)))=some (.val (.bool true)):=st
   have eT2:pre++s=(pre++shL ps++[41])++r1:=by rw [eT];simp
   have tm:=a8E (pre:=pre++shL ps++[41]) (s:=r1) (by rw [←eT2];exact hT)
   have hl2:(pre++shL ps++[41]).length=(pre++s).length - (41::r1).length+1:=by rw [hl,Aa (as:=pre++shL ps)];rfl
   rw [←eT2,hl2] at tm
   have e1:(((pre++s).length - (41::r1).length:Nat):Int)+1=(((pre++s).length - (41::r1).length+1:Nat):Int):=by lia
   show _=some (e8.val (a8p (pre++s) ((O6 r1).bind fun y=>if y.1=1 then none else some (.again y.1 ps,y.2))))
   cases ht:O6 r1 with
   |none=>
    rw [ht] at tm
    have tm:A7 [row (pre++s),.int (((pre++s).length - (41::r1).length+1:Nat):Int)]=some (.val .none):=tm
    show _=some (e8.val .none)
    generalize (pre++s).length - (41::r1).length=e at*
    generalize pre++s=T at*
    simp (disch:=omega) only [l9,x9,K3,d7,d8,b8,f7,d5,c8,d4,f9,g5,k4,f6,i8,d0,g0,j9,c9,n4,m8,g7,g6,i5,z4,d9,g8,M3,l6,j4,P3,A2,AE,Ah,AL,AT,AZ,AU,AO,AR,AX,AY,Bool.not_true,J5,c0,e0,hR,a40,C3,st,e1,tm,a0O]
    try rfl
   |some y=>
    obtain⟨k,r2⟩:=y
    rw [ht] at tm
    have tm:A7 [row (pre++s),.int (((pre++s).length - (41::r1).length+1:Nat):Int)]=some (.val (.tuple [.int (k:Nat),.int (((pre++s).length - r2.length:Nat):Int)])):=tm
    by_cases hk:k=1
    ·have c1:((k:Int)==1)=true:=by rw [hk];rfl
     rw [AE,if_pos hk]
     show _=some (e8.val .none)
     generalize (pre++s).length - (41::r1).length=e at*
     generalize (pre++s).length - r2.length=e2 at*
     generalize pre++s=T at*
     simp (disch:=omega) only [l9,x9,a2C,K3,d7,d8,b8,f7,d5,c8,d4,f9,g5,k4,f6,i8,d0,g0,j9,c9,n4,m8,g7,g6,i5,z4,d9,g8,M3,l6,j4,A2,AE,Ah,AL,AT,AZ,AU,AO,AR,AX,AY,Bool.not_true,J5,c0,e0,hR,a40,C3,st,e1,tm,b1Y,c1]
     try rfl
    ·have c1:((k:Int)==1)=false:=by rw [beq_eq_false_iff_ne];lia
     rw [AE,if_neg hk]
     show _=some (e8.val (.tuple [C7 (.again k ps),.int (((pre++s).length - r2.length:Nat):Int)]))
     have pe:C7 (.again k ps)= .tuple [.str (AN "again"),.int (k:Nat),.list (z7 ps)]:=by rw [C7]
     rw [pe]
     generalize (pre++s).length - (41::r1).length=e at*
     generalize (pre++s).length - r2.length=e2 at*
     generalize pre++s=T at*
     simp (disch:=omega) only [l9,x9,a2C,K3,d7,d8,b8,f7,d5,c8,d4,D9,f9,g5,k4,f6,i8,d0,g0,c9,m8,g7,g6,i5,z4,d9,g8,M3,l6,j4,A2,AE,Ah,AL,AT,AZ,AU,AO,AR,AX,AY,AS,Ai,↓reduceIte,Bool.not_true,sz,Nat.reduceAdd,Aq,J5,c0,e0,hR,a40,C3,st,e1,tm,b1Y,c1,i0]
     try rfl
  ·have hno:([41].isPrefixOf r)=false:=by
    rw [Bool.eq_false_iff]
    exact fun z=>h41 ((b6k 41 r).mp z)
   rw [hno] at st
   refine Eq.trans (b:=some (e8.val .none)) ?_ ?_
   ·generalize (pre++s).length - r.length=e at*
    generalize pre++s=T at*
    simp (disch:=omega) only [x9,K3,d7,d8,b8,f7,d5,c8,d4,f9,g5,k4,f6,i8,d0,g0,j9,c9,n4,m8,g7,g6,i5,z4,d9,g8,M3,l6,j4,A2,AE,Ah,AL,AT,AZ,AU,AO,AR,AX,AY,Bool.not_false,J5,c0,e0,hR,a40,C3,st]
    try rfl
   ·dsimp only
    split
    ·exact absurd ⟨_,rfl⟩ h41
    ·rfl
theorem b3i{RA RF RP:List PV→Option e8}{T:List Nat}{i:Nat}:v6 2 (P7 RA RF RP) [row T,.int (i:Nat),.int 0,fnP,row [41]]=some (.val .none):=by
 unfold P7
 simp (disch:=omega) only [d7,d8,b8,f7,f6,i8,d0,j9,c9,n4,g6,i5,d9,g8,AE,AL,AT,AZ,AU,AO,AR,beq_self_eq_true,J5]
 try rfl
theorem a97:∀(a b:List Pa),z7 (a++b)=z7 a++z7 b
 |[],b=>by rw [z7];rfl
 |p::a,b=>by rw [AO,z7,z7,a97 a b];rfl
theorem fz4(nn:MS)(s0 s1 s2 s3 s5:Option e8)(L:List PV):a5W 4 nn [s0,s1,s2,s3,some (.ow (.lst L)),s5]=nn [s0,s1,s2,s3,some (.val (.list L)),s5]:=rfl
theorem b0v{x:Str}{g:List PV→Option e8}{i:Nat}{m:MA}{ρ:c7}{qs:List PV}{r:e8}{tab:List (Str×(List PV→Option e8))}(h:ρ[i]?=some (some (.val (a7W x))))(hl:tab.lookup x=some g)(hm:m ρ=some qs)(hg:g qs=some r):a08 tab i m ρ=some r:=by
 unfold a08
 rw [h]
 show(tab.lookup x).bind (fun g=>(m ρ).bind g)=_
 rw [hl,AE,hm,AE,hg]
theorem a96{RA RF RP:List PV→Option e8}{P:List Nat→Option (Pa×List Nat)}{m:Nat}(hP:Snd P m){left:Nat}{T:List Nat}(hT:T.length≤190)(hF:∀pre s:List Nat,T=pre++s→RF [row T,.int (pre.length:Nat),.int (left:Nat)]=some (.val (a8p T (P s)))):∀(n:Nat) (pre s:List Nat) (acc:List Pa) (q5:Option e8),T=pre++s→s.length<n→acc.length+s.length≤1000→
 y0 (mtV (mC (.bool true))) (A0 RA RF RP) n [some (.val (row T)),some (.val (.int (pre.length:Nat))),some (.val (.int (left:Nat))),some (.val fnP),some (.own (z7 acc)),q5]=some (.rt (.val (a7s T ((z8 P n s).map fun x=>(acc++x.1,x.2)))))
 |0,_,s,_,_,_,h,_=>by lia
 |n+1,pre,s,acc,q5,e,hn,ha=>by
  have hf:=hF pre s e
  have cv:∀q4 q5,a08 [("fold_part_at",RF)] 3 (b0 (b7 0) (b0 (b7 1) (b0 (b7 2) j1))) [some (.val (row T)),some (.val (.int (pre.length:Nat))),some (.val (.int (left:Nat))),some (.val fnP),q4,q5]=some (.val (a8p T (P s))):=fun q4 q5=>b0v (x:=AN "fold_part_at") (g:=RF) (qs:=[row T,.int (pre.length:Nat),.int (left:Nat)]) rfl rfl (by simp (disch:=omega) only [b8,f7,d5,c8,d4,AE]) hf
  have sp:AN " "=S [32]:=rfl
  have tt:mtV (mC (.bool true)) [some (.val (row T)),some (.val (.int (pre.length:Nat))),some (.val (.int (left:Nat))),some (.val fnP),some (.own (z7 acc)),q5]=some true:=rfl
  rw [y0,tt,AE,if_pos rfl,z8]
  cases hw:P s with
  |none=>
   rw [hw] at cv
   have cv:∀q4 q5,a08 [("fold_part_at",RF)] 3 (b0 (b7 0) (b0 (b7 1) (b0 (b7 2) j1))) [some (.val (row T)),some (.val (.int (pre.length:Nat))),some (.val (.int (left:Nat))),some (.val fnP),q4,q5]=some (.val .none):=cv
   have hb:A0 RA RF RP [some (.val (row T)),some (.val (.int (pre.length:Nat))),some (.val (.int (left:Nat))),some (.val fnP),some (.own (z7 acc)),q5]=some (.rt (.val .none)):=by
    unfold A0
    simp (disch:=omega) only [d7,d8,b8,f7,g5,k4,f6,i8,d0,g0,j9,c9,n4,d9,g8,AE,AX,AY,cv,a0O]
    try rfl
   rw [hb]
   rfl
  |some x=>
   obtain⟨p,r⟩:=x
   rw [hw] at cv
   obtain⟨a1,a2,a3,a4⟩:=hP hw
   have hl1:=b4p p
   have hsl:s.length=(M4 p).length+r.length:=by rw [a1,Aa]
   have eT:T=(pre++M4 p)++r:=by rw [e,a1,List.append_assoc]
   have hl:T.length - r.length=(pre++M4 p).length:=by rw [eT,Aa (as:=pre++M4 p)];lia
   have cv:∀q4 q5,a08 [("fold_part_at",RF)] 3 (b0 (b7 0) (b0 (b7 1) (b0 (b7 2) j1))) [some (.val (row T)),some (.val (.int (pre.length:Nat))),some (.val (.int (left:Nat))),some (.val fnP),q4,q5]=some (.val (.tuple [C7 p,.int ((T.length - r.length:Nat):Int)])):=cv
   have st:=a2n (pre:=pre++M4 p) (s:=r) (y:=[32])
   rw [←eT,←hl] at st
   have is:S9 false (.val (.tuple [C7 p,.int ((T.length - r.length:Nat):Int)])) (.val .none)=some (.val (.bool false)):=rfl
   have i0:∀x:PV,v7 (.val (.tuple [C7 p,x])) (.val (.int 0))=some (.val (C7 p)):=fun _=>rfl
   have hpl:(z7 acc).length=acc.length:=by
    have:∀l:List Pa,(z7 l).length=l.length:=fun l=>by
     induction l with
     |nil=>rw [z7];rfl
     |cons a l ih=>rw [z7,AS,AS,ih]
    exact this acc
   have ap:E9 4 (m2 v7 (b7 5) (mC (.int 0))) [some (.val (row T)),some (.val (.int (pre.length:Nat))),some (.val (.int (left:Nat))),some (.val fnP),some (.own (z7 acc)),some (.val (.tuple [C7 p,.int ((T.length - r.length:Nat):Int)]))]=some (.nx [some (.val (row T)),some (.val (.int (pre.length:Nat))),some (.val (.int (left:Nat))),some (.val fnP),some (.own (z7 (acc++[p]))),some (.val (.tuple [C7 p,.int ((T.length - r.length:Nat):Int)]))]):=by
    rw [S1 (r:= .val (C7 p)) (p:=C7 p) (by simp (disch:=omega) only [d7,d8,b8,f7,AE,i0]) rfl rfl (by lia),a97,z7,z7]
    rfl
   rw [AE]
   by_cases h32:∃r1,r=32::r1
   ·obtain⟨r1,er⟩:=h32
    subst er
    have st:J4 (.val (row T)) (.val (row [32])) (.val (.int ((T.length - (32::r1).length:Nat):Int)))=some (.val (.bool true)):=st
    have eT2:T=(pre++M4 p++[32])++r1:=by rw [eT];simp
    have hl2:(pre++M4 p++[32]).length=T.length - (32::r1).length+1:=by rw [hl,Aa (as:=pre++M4 p)];rfl
    have e1:((T.length - (32::r1).length:Nat):Int)+1=((T.length - (32::r1).length+1:Nat):Int):=by lia
    rw [AS] at hsl
    have ih:=a96 (RA:=RA) (RP:=RP) hP hT hF n (pre++M4 p++[32]) r1 (acc++[p]) (some (.val (.tuple [C7 p,.int ((T.length - (32::r1).length:Nat):Int)]))) eT2 (by lia) (by rw [Aa,List.length_singleton];lia)
    rw [hl2] at ih
    have hb:A0 RA RF RP [some (.val (row T)),some (.val (.int (pre.length:Nat))),some (.val (.int (left:Nat))),some (.val fnP),some (.own (z7 acc)),q5]=some (.nx [some (.val (row T)),some (.val (.int ((T.length - (32::r1).length+1:Nat):Int))),some (.val (.int (left:Nat))),some (.val fnP),some (.own (z7 (acc++[p]))),some (.val (.tuple [C7 p,.int ((T.length - (32::r1).length:Nat):Int)]))]):=by
     unfold A0
     rw [sp]
     generalize T.length - (32::r1).length=e at*
     simp (disch:=omega) only [l9,K3,d7,d8,b8,f7,g5,k4,d0,g0,c9,m8,g7,z4,d9,g8,M3,l6,AE,Ah,AX,AY,Bool.not_true,cv,is,ap,C3,st,e1]
     try rfl
    rw [hb,AE]
    show y0 _ _ n _=some (.rt (.val (a7s T (((z8 P n r1).map fun y=>(p::y.1,y.2)).map fun x=>(acc++x.1,x.2)))))
    rw [ih]
    cases z8 P n r1 with
    |none=>rfl
    |some y=>
     show some (Fl.rt (e8.val (a7s T (some (acc++[p]++y.1,y.2)))))=some (.rt (.val (a7s T (some (acc++p::y.1,y.2)))))
     rw [List.append_assoc]
     rfl
   ·have hno:([32].isPrefixOf r)=false:=by
     rw [Bool.eq_false_iff]
     exact fun z=>h32 ((b6k 32 r).mp z)
    rw [hno] at st
    have hb:A0 RA RF RP [some (.val (row T)),some (.val (.int (pre.length:Nat))),some (.val (.int (left:Nat))),some (.val fnP),some (.own (z7 acc)),q5]=some (.rt (.val (a7s T (some (acc++[p],r))))):=by
     show _=some (Fl.rt (.val (.tuple [.list (z7 (acc++[p])),.int ((T.length - r.length:Nat):Int)])))
     unfold A0
     rw [sp]
     generalize T.length - r.length=e at*
     simp (disch:=omega) only [K3,d7,d8,b8,f7,d5,c8,d4,D9,g5,k4,f6,i8,d0,g0,j9,c9,n4,m8,g7,z4,d9,g8,M3,l6,AE,Ah,AX,AY,AS,Ai,↓reduceIte,Bool.not_false,sz,Nat.reduceAdd,Aq,cv,is,ap,C3,st,fz4]
     try rfl
    rw [hb]
    refine Eq.trans (b:=some (Fl.rt (.val (a7s T (some (acc++[p],r)))))) rfl ?_
    dsimp only
    split
    ·exact absurd ⟨_,rfl⟩ h32
    ·rfl
theorem b48{RA RF RP:List PV→Option e8}{P:List Nat→Option (Pa×List Nat)}{m:Nat}(hP:Snd P m){left:Nat}{pre s:List Nat}(hT:(pre++s).length≤190)(hF:∀pre s:List Nat,(pre++s).length≤190→RF [row (pre++s),.int (pre.length:Nat),.int (left:Nat)]=some (.val (a8p (pre++s) (P s)))):
 v6 2 (a0r RA RF RP) [row (pre++s),.int (pre.length:Nat),.int (left:Nat),fnP]=some (.val (a7s (pre++s) (z8 P 200 s))):=by
 have hl:=hT
 rw [Aa] at hl
 have e:=a96 (RA:=RA) (RF:=RF) (RP:=RP) hP (left:=left) (T:=pre++s) hT (fun a b h=>by rw [h];exact hF a b (by rw [←h];exact hT)) 200 pre s [] none rfl (by lia) (by simp;lia)
 have em:((z8 P 200 s).map fun x=>(([]:List Pa)++x.1,x.2))=z8 P 200 s:=by
  cases z8 P 200 s with
  |none=>rfl
  |some x=>rfl
 rw [em,show z7 []=[] by rw [z7]] at e
 unfold a0r
 simp (disch:=omega) only [d5,S2,g5,a3e,d0,g0,g6,i5,AE,AL,AT,AZ,AU,AO,AR,AX,AY,Ai,↓reduceIte,sz,Aq,e]
theorem a72:∀(left m:Nat),3*left+2≤m→∀pre s:List Nat,(pre++s).length≤190→u0 m [row (pre++s),.int (pre.length:Nat),.int (left:Nat)]=some (.val (a8p (pre++s) (a1b left s)))
 |0,m,hm,pre,s,hT=>by
  obtain⟨m,rfl⟩:∃j,m=j+2:=⟨m - 2,by lia⟩
  exact b40 (ag:=fun _=>none) (left:=0) (RA:=G8 (m+1)) (RF:=u0 (m+1)) (RP:=C9 (m+1)) (fun a b _=>b3i (RA:=G8 m) (RF:=u0 m) (RP:=C9 m) (T:=a++b) (i:=a.length)) hT
 |left+1,m,hm,pre,s,hT=>by
  obtain⟨m,rfl⟩:∃j,m=j+3:=⟨m - 3,by lia⟩
  refine b40 (ag:=a3d (a1b left)) (left:=((left+1:Nat):Int)) (RA:=G8 (m+2)) (RF:=u0 (m+2)) (RP:=C9 (m+2)) (fun a b h=> ?_) hT
  exact b6U (RA:=G8 (m+1)) (RF:=u0 (m+1)) (RP:=C9 (m+1)) (S3 (n:=left)) h (b48 (RA:=G8 m) (RF:=u0 m) (RP:=C9 m) (S3 (n:=left)) h fun a b h=>a72 left m (by lia) a b h)
theorem b2v{t:List Nat}(hT:t.length≤190):W0 [row t,.int 0,.int 12,fnP]=some (.val (a7s t (z8 (a1b 12) 200 t))):=
 b48 (RA:=G8 41) (RF:=u0 41) (RP:=C9 41) (S3 (n:=12)) (left:=12) (pre:=[]) (s:=t) hT fun a b h=>a72 12 41 (by lia) a b h
def b3b(n:MX):FX→Option FX
 | .fl (.nx ρ)=>n ρ
 |f=>some f
def b6J(m n:MX)(ρ:c7)(b:Bool):Option FX:=if b=true then m ρ else n ρ
def b2O:FX→Option (e8 ⊕ XT)
 | .fl (.rt r)=>some (.inl r)
 | .fl (.nx _)=>some (.inl (.val .none))
 | .rz c _=>some (.inr c)
 |_=>none
theorem Z9(m n:MX)(ρ:c7):a8b m n ρ=(m ρ).bind (b3b n):=Eq.trans rfl rfl
theorem a27(n:MX)(ρ:c7):b3b n (.fl (.nx ρ))=n ρ:=Eq.trans rfl rfl
theorem a28(n:MX)(c:XT)(ρ:c7):b3b n (.rz c ρ)=some (.rz c ρ):=Eq.trans rfl rfl
theorem a1a(c:MT)(m n:MX)(ρ:c7):b3V c m n ρ=(c ρ).bind (b6J m n ρ):=Eq.trans rfl rfl
theorem a7D(m n:MX)(ρ:c7):b6J m n ρ true=m ρ:=Eq.trans rfl rfl
theorem a7C(m n:MX)(ρ:c7):b6J m n ρ false=n ρ:=Eq.trans rfl rfl
theorem a2N(m:MS)(ρ:c7):a49 m ρ=(m ρ).map .fl:=Eq.trans rfl rfl
theorem a2M(c:Str)(p:PV)(ρ:c7):b2e c (b0 (mC p) j1) ρ=some (.rz ⟨c,[]⟩ ρ):=by
 unfold b2e
 simp (disch:=omega) only [d8,d5,c8,d4,AE,AS,Ai,↓reduceIte,sz,Nat.reduceAdd,Aq]
theorem a1e(n:Nat)(b:MX)(ps:List PV):b2N n b ps=(b (ps.map (fun p=>some (e8.val p))++Ab n none)).bind b2O:=Eq.trans rfl rfl
theorem b2P(r:e8):b2O (.fl (.rt r))=some (.inl r):=Eq.trans rfl rfl
theorem a2W(c:XT)(ρ:c7):b2O (.rz c ρ)=some (.inr c):=Eq.trans rfl rfl
theorem b3S{i:Nat}{g:List PV→Option (e8 ⊕ XT)}{m:MA}{ρ:c7}{ps:List PV}{p:PV}(h1:m ρ=some ps)(h2:g ps=some (.inl (.val p))):a2L i g m ρ=some (.fl (.nx (ρ.set i (some (.val p))))):=by
 unfold a2L a6a
 rw [h1,AE,h2]
 rfl
theorem b3T{i:Nat}{g:List PV→Option (e8 ⊕ XT)}{m:MA}{ρ:c7}{ps:List PV}{c:XT}(h1:m ρ=some ps)(h2:g ps=some (.inr c)):a2L i g m ρ=some (.rz c ρ):=by
 unfold a2L a6a
 rw [h1,AE,h2]
 rfl
theorem b3U{g:List PV→Option (e8 ⊕ XT)}{m:MA}{ρ:c7}{ps:List PV}{c:XT}(h1:m ρ=some ps)(h2:g ps=some (.inr c)):a6m g m ρ=some (.rz c ρ):=by
 unfold a6m a6a
 rw [h1,AE,h2]
 rfl
theorem b0S{b:MX}{i:Nat}{inm:Str→Bool}{hd:MS}{ρ:c7}{f:Fl}(h:b ρ=some (.fl f)):a0w b i inm hd ρ=some f:=by
 unfold a0w
 rw [h];rfl
theorem b0T{b:MX}{i:Nat}{inm:Str→Bool}{hd:MS}{ρ ρ':c7}{c:XT}(h:b ρ=some (.rz c ρ'))(hc:inm c.cls=true):a0w b i inm hd ρ=(hd (ρ'.set i (some (.val (xcV c))))).map (a4M i):=by
 unfold a0w
 rw [h,AE]
 exact if_pos hc
theorem b3P{b:MX}{inm:Str→Bool}{hd:MS}{ρ ρ':c7}{c:XT}(h:b ρ=some (.rz c ρ'))(hc:inm c.cls=true):b0R b inm hd ρ=hd ρ':=by
 unfold b0R
 rw [h,AE]
 exact if_pos hc
theorem b1Q:∀{ps:List Pa} {p:Pa},gL ps→p∈ps→gP p
 |q::ps,p,h,hp=>by
  rw [gL] at h
  rcases Ad.mp hp with e|hp
  ·rw [e];exact h.1
  ·exact b1Q h.2 hp
theorem a9X{R:List PV→Option e8}{q0:Option e8}:∀(ps:List Pa) (a:Int) (q2:Option e8),gL ps→(∀k qs,Pa.again k qs∈ps→R [.list (z7 qs)]=some (.val (.int (knL qs:Nat))))→
 ∃q2',O9 (K5 R) (u6 2) (z7 ps) [q0,some (.val (.int a)),q2]=some (.nx [q0,some (.val (.int (a+(knL ps:Nat)))),q2'])
 |[],a,q2,_,_=>⟨q2,by rw [z7,knL];show some _=_;simp⟩
 |p::ps,a,q2,g,hR=>by
  rw [gL] at g
  obtain⟨q2',e⟩:=a9X (R:=R) (q0:=q0) ps (a+(knP p:Nat)) (some (.val (C7 p))) g.2 fun k qs h=>hR k qs (Ae _ h)
  refine⟨q2', ?_⟩
  have hb:K5 R [q0,some (.val (.int a)),some (.val (C7 p))]=some (.nx [q0,some (.val (.int (a+(knP p:Nat)))),some (.val (C7 p))]):=by
   have aug:∀(m:M) (y:Int),m [q0,some (.val (.int a)),some (.val (C7 p))]=some (.val (.int y))→a78 1 (gI fun i j=> .int (i+j)) m [q0,some (.val (.int a)),some (.val (C7 p))]=some (.nx [q0,some (.val (.int (a+y))),some (.val (C7 p))]):=fun m y hm=>by
    unfold a78
    show((m [q0,some (.val (.int a)),some (.val (C7 p))]).bind _)=_
    rw [hm]
    rfl
   unfold K5
   rcases a98 p with⟨c,k,rfl,ep⟩|⟨k,qs,rfl,ep⟩
   ·have i0:v7 (.val (C7 (.run c k))) (.val (.int 0))=some (.val a5x):=by rw [ep];rfl
    have i2:v7 (.val (C7 (.run c k))) (.val (.int 2))=some (.val (.int (k:Nat))):=by rw [ep];rfl
    simp (disch:=omega) only [d7,d8,b8,f7,c9,n4,d9,g8,AE,i0,b5z]
    rw [knP]
    exact aug _ _ (by simp (disch:=omega) only [d7,d8,b8,f7,AE,i2])
   ·have i0:v7 (.val (C7 (.again k qs))) (.val (.int 0))=some (.val W1):=by rw [ep];rfl
    have i1:v7 (.val (C7 (.again k qs))) (.val (.int 1))=some (.val (.int (k:Nat))):=by rw [ep];rfl
    have i2:v7 (.val (C7 (.again k qs))) (.val (.int 2))=some (.val (.list (z7 qs))):=by rw [ep];rfl
    have hr:=hR k qs Af
    have mm:a0N (.val (.int (k:Nat))) (.val (.int (knL qs:Nat)))=some (.val (.int ((k:Int)*(knL qs:Nat)))):=a1C (by have g1:=g.1;rw [gP] at g1;lia)
    simp (disch:=omega) only [d7,d8,b8,f7,c9,m8,d9,g8,AE,i0,b5y]
    refine aug _ _ ?_
    simp (disch:=omega) only [d7,d8,b8,f7,d5,c8,d4,f9,AE,i1,i2,hr,mm]
    rw [knP,Nat.mul_comm,Int.natCast_mul]
  rw [z7,O9]
  show(K5 R [q0,some (.val (.int a)),some (.val (C7 p))]).bind _=_
  rw [hb,AE,knL,Int.natCast_add,←Int.add_assoc]
  exact e
theorem a75:∀(n:Nat) (ps:List Pa),gL ps→dpL ps<n→S0 n [.list (z7 ps)]=some (.val (.int (knL ps:Nat)))
 |0,_,_,h=>by lia
 |n+1,ps,g,hd=>by
  obtain⟨q2,e⟩:=a9X (R:=S0 n) (q0:=some (.val (.list (z7 ps)))) ps 0 none g fun k qs hq=>by
   have:=a8Y hq
   rw [dpP] at this
   have gq:=b1Q g hq
   rw [gP] at gq
   exact a75 n qs gq.2.2 (by lia)
  have hit:PyData.items? (.list (z7 ps))=some (z7 ps):=rfl
  rw [Int.zero_add] at e
  show v6 2 (a0p (S0 n)) [.list (z7 ps)]=_
  unfold a0p
  simp (disch:=omega) only [d8,b8,d4,g5,k4,d0,g0,g6,i5,D8,AE,AL,AT,AZ,AU,AO,AR,AX,AY,Q1,a4s,a4t,hit,e]
abbrev nfX:XT:=⟨"NoFold",[]⟩
theorem b4k{p:PV}(h:a84 "str" (.val p)=some (.val (.bool false))):v8 [p]=some (.inr nfX):=by
 unfold v8 a01
 simp (disch:=omega) only [n0,b8,z4,M3,l6,AE,Ah,AL,AT,AZ,AU,AO,AR,Bool.not_false,a1e,Z9,a1a,h,a7D,a2M,a28,a2W]
theorem b4j{t:List Nat}(hT:t.length≤190):v8 [row t]=some (match a5r t with
 |some ps=> .inl (.val (.list (z7 ps)))
 |none=> .inr nfX):=by
 have hs:a84 "str" (.val (row t))=some (.val (.bool true)):=rfl
 have pe:=b2v hT
 have v12:R0= .int 12:=rfl
 have v24:Q4= .int 24:=rfl
 have gl:=N9 (l:=t) (by lia)
 unfold a5r
 unfold v8 a01
 rw [v12,v24]
 cases hw:z8 (a1b 12) 200 t with
 |none=>
  rw [hw] at pe
  have pe:W0 [row t,.int 0,.int 12,fnP]=some (.val .none):=pe
  simp (disch:=omega) only [d7,n0,d8,b8,f7,d5,c8,d4,f9,g5,k4,g7,z4,d9,g8,M3,l6,j4,P3,AE,Ah,AL,AT,AZ,AU,AO,AR,AX,AY,Bool.not_true,a1e,Z9,a1a,hs,a7C,a2N,a27,pe,a0O,a7D,a2M,a28,a2W]
  try rfl
 |some x=>
  obtain⟨ps,r⟩:=x
  obtain⟨b1,b2,b3,b4,_,_⟩:=O4 (S3 (n:=12)) hw
  rw [hw] at pe
  have pe:W0 [row t,.int 0,.int 12,fnP]=some (.val (.tuple [.list (z7 ps),.int ((t.length - r.length:Nat):Int)])):=pe
  have i0:∀x:PV,v7 (.val (.tuple [.list (z7 ps),x])) (.val (.int 0))=some (.val (.list (z7 ps))):=fun _=>rfl
  have kn:=a75 16 ps b2 (by lia)
  have kn:a2e [.list (z7 ps)]=_:=kn
  have hl:r.length≤t.length:=by rw [b1,Aa];lia
  cases r with
  |cons c r=>
   have c1:(((t.length - (c::r).length:Nat):Int)==(t.length:Nat))=false:=by
    rw [beq_eq_false_iff_ne]
    rw [AS] at hl ⊢
    lia
   have ne:gNe (.val (.int ((t.length - (c::r).length:Nat):Int))) (.val (.int (t.length:Nat)))=some (.val (.bool true)):=by rw [a7Z,c1];rfl
   generalize t.length - (c::r).length=e at*
   simp (disch:=omega) only [K3,d7,n0,d8,b8,f7,d5,c8,d4,f9,g5,k4,g7,z4,d9,g8,M3,l6,j4,P3,A2,AE,Ah,AL,AT,AZ,AU,AO,AR,AX,AY,Bool.not_true,Bool.not_false,a7Z,a1e,Z9,a1a,hs,a7C,a2N,a27,pe,a40,gl,c1,a7D,a2M,a28,a2W]
   try rfl
  |nil=>
   have e0:t.length - ([]:List Nat).length=t.length:=rfl
   rw [e0] at pe
   by_cases hk:24<knL ps
   ·have g1:decide ((24:Int)<(knL ps:Nat))=true:=decide_eq_true (by lia)
    show _=some (match(if 24<knL ps then none else some ps) with
     |some ps=>(Sum.inl (.val (.list (z7 ps))):e8 ⊕ XT)
     |none=> .inr nfX)
    rw [if_pos hk]
    simp (disch:=omega) only [x9,K3,d7,n0,d8,b8,f7,d5,c8,d4,f9,g5,k4,g7,z4,d9,g8,M3,l6,j4,A2,AE,Ah,AL,AT,AZ,AU,AO,AR,AX,AY,Bool.not_true,beq_self_eq_true,a7Z,a1e,Z9,a1a,hs,a7C,a2N,a27,pe,a40,gl,i0,kn,g1,a7D,a2M,a28,a2W]
    try rfl
   ·have g1:decide ((24:Int)<(knL ps:Nat))=false:=decide_eq_false (by lia)
    show _=some (match(if 24<knL ps then none else some ps) with
     |some ps=>(Sum.inl (.val (.list (z7 ps))):e8 ⊕ XT)
     |none=> .inr nfX)
    rw [if_neg hk]
    simp (disch:=omega) only [x9,K3,d7,n0,d8,b8,f7,d5,c8,d4,f9,g5,k4,f6,i8,g7,z4,d9,g8,M3,l6,j4,A2,AE,Ah,AL,AT,AZ,AU,AO,AR,AX,AY,Bool.not_true,beq_self_eq_true,a7Z,a1e,Z9,a1a,hs,a7C,a2N,a27,pe,a40,gl,i0,kn,g1,b2P]
    try rfl
theorem a7Q{c:Nat}:∀{a b u v:List Nat},c∉a→c∉b→a++c::u=b++c::v→a=b∧u=v
 |[],[],u,v,_,_,h=>by simpa using h
 |[],y::b,u,v,_,hb,h=>by
  simp only [AR,AO,List.cons.injEq] at h
  exact absurd (by rw [h.1];exact Af) hb
 |x::a,[],u,v,ha,_,h=>by
  simp only [AR,AO,List.cons.injEq] at h
  exact absurd (by rw [h.1];exact Af) ha
 |x::a,y::b,u,v,ha,hb,h=>by
  simp only [AO,List.cons.injEq] at h
  obtain⟨e1,e2⟩:=a7Q (fun z=>ha (Ae _ z)) (fun z=>hb (Ae _ z)) h.2
  exact⟨by rw [h.1,e1],e2⟩
theorem R9(c:Nat)(a b:List Nat)(r:List (List Nat)):G7 [c] (a::b::r)=a++c::G7 [c] (b::r):=by
 show a++[c]++G7 [c] (b::r)=_
 simp
theorem a70{c:Nat}:∀{A B:List (List Nat)},A≠[]→B≠[]→(∀p∈A,c∉p)→(∀p∈B,c∉p)→G7 [c] A=G7 [c] B→A=B
 |[],_,h,_,_,_,_=>absurd rfl h
 |_,[],_,h,_,_,_=>absurd rfl h
 |[a],[b],_,_,_,_,h=>by
  have h:a=b:=h
  rw [h]
 |[a],b::b'::r,_,_,ha,_,h=>by
  rw [R9] at h
  have h:a=b++c::G7 [c] (b'::r):=h
  exact absurd (by rw [h];simp) (ha a Af)
 |a::a'::r,[b],_,_,_,hb,h=>by
  rw [R9] at h
  have h:a++c::G7 [c] (a'::r)=b:=h
  exact absurd (by rw [←h];simp) (hb b Af)
 |a::a'::r,b::b'::t,_,_,ha,hb,h=>by
  rw [R9,R9] at h
  obtain⟨e1,e2⟩:=a7Q (ha a Af) (hb b Af) h
  have:=a70 (A:=a'::r) (B:=b'::t) (by simp) (by simp) (fun p hp=>ha p (Ae _ hp)) (fun p hp=>hb p (Ae _ hp)) e2
  rw [e1,this]
theorem a9p{l:List Nat}{c:Nat}{R:List (List Nat)}(h0:R≠[])(h1:∀p∈R,c∉p)(h2:G7 [c] R=l):Txt.split (S l) (S [c])=R.map S:=by
 have f:=StrLaws.split_free (S l) c
 have j:=StrLaws.join_split (S l) (S [c])
 rw [show(⟨#[c]⟩:Str)=S [c] from rfl] at f
 generalize hT:Txt.split (S l) (S [c])=T at f j
 have e:T=(T.map fun z=>z.cps.toList).map S:=by
  rw [Ax]
  conv=>lhs;rw [←List.map_id T]
  refine List.map_congr_left fun z _=> ?_
  exact(b4N z).symm
 have hT0:T≠[]:=by
  intro z
  rw [←hT] at z
  unfold Txt.split at z
  split at z
  ·cases z
  ·split at z
   ·cases z
   ·rw [StrLaws.partsBetween_eq] at z
    obtain⟨p,r,q⟩:=StrLaws.partsFrom_ne (S l) (S [c]).length 0 (Builtin.Str.occurrences (S l) (S [c]) 0 (S l).length ((S l).length+1))
    rw [q] at z;cases z
 rw [e] at j
 have j2:S (G7 [c] (T.map fun z=>z.cps.toList))=S l:=by
  rw [←b12]
  show Builtin.Str.glued _ _=_
  rw [StrLaws.glued_eq_join]
  exact j
 have j3:=b1k j2
 rw [←h2] at j3
 have:=a70 (c:=c) (A:=T.map fun z=>z.cps.toList) (B:=R) (by simpa using hT0) h0 (fun p hp=>by
  obtain⟨z,hz,rfl⟩:=BA.mp hp
  exact f z hz) h1 j3
 rw [e,this]
theorem b6R:AN "0123456789"=S [48,49,50,51,52,53,54,55,56,57]:=by decide+kernel
theorem a3p(neg:Bool)(c:Nat)(l:List Nat):J7 neg (.val (row [c])) (.val (row l))=some (.val (.bool (if neg=true then !l.contains c else l.contains c))):=by
 have h:=PySem.StrLaws.found_one (S l) c
 show some (e8.val (.bool (if neg=true then !(!(Builtin.Str.occurrences (S l) (S [c]) 0 (S l).length 1).isEmpty) else !(Builtin.Str.occurrences (S l) (S [c]) 0 (S l).length 1).isEmpty)))=_
 rw [b6S] at h
 have hc:decide (c∈l)=l.contains c:=by rw [Bool.eq_iff_iff];simp
 rw [h,T8,hc]
theorem b6Y(c:Nat):([48,49,50,51,52,53,54,55,56,57]:List Nat).contains c=U0 c:=by
 unfold U0
 rw [Bool.eq_iff_iff]
 simp
 omega
theorem a89(neg:Bool)(c:Nat):J7 neg (.val (row [c])) (.val (.str (AN "0123456789")))=some (.val (.bool (if neg=true then !U0 c else U0 c))):=by
 rw [b6R,a3p,b6Y]
theorem a7M{q0 q1:Option e8}:∀(w:List Nat) (q2:Option e8),(w.all U0=true→∃q2',O9 p3 (u6 2) (w.map fun c=> .str (S [c])) [q0,q1,q2]=some (.nx [q0,q1,q2']))∧(w.all U0=false→O9 p3 (u6 2) (w.map fun c=> .str (S [c])) [q0,q1,q2]=some (.rt (.val .none)))
 |[],q2=>⟨fun _=>⟨q2,rfl⟩,fun h=>by cases h⟩
 |c::w,q2=>by
  obtain⟨h1,h2⟩:=a7M (q0:=q0) (q1:=q1) w (some (.val (row [c])))
  have st:O9 p3 (u6 2) ((c::w).map fun c=> .str (S [c])) [q0,q1,q2]=(p3 [q0,q1,some (.val (row [c]))]).bind fun f=>match f with
   | .nx ρ'=>O9 p3 (u6 2) (w.map fun c=> .str (S [c])) ρ'
   | .ct ρ'=>O9 p3 (u6 2) (w.map fun c=> .str (S [c])) ρ'
   | .bk ρ'=>some (.nx ρ')
   | .rt r=>some (.rt r):=rfl
  rw [st,List.all_cons]
  have hd:=a89 true c
  cases hc:U0 c with
  |true=>
   rw [hc] at hd
   have hd:J7 true (.val (row [c])) (.val (.str (AN "0123456789")))=some (.val (.bool false)):=hd
   have hb:p3 [q0,q1,some (.val (row [c]))]=some (.nx [q0,q1,some (.val (row [c]))]):=by
    unfold p3
    simp (disch:=omega) only [d7,d8,b8,f7,c9,m8,g7,d9,g8,AE,hd]
   rw [hb,Bool.true_and]
   exact⟨h1,h2⟩
  |false=>
   rw [hc] at hd
   have hd:J7 true (.val (row [c])) (.val (.str (AN "0123456789")))=some (.val (.bool true)):=hd
   have hb:p3 [q0,q1,some (.val (row [c]))]=some (.rt (.val .none)):=by
    unfold p3
    simp (disch:=omega) only [d7,d8,b8,f7,f6,i8,c9,n4,d9,g8,AE,hd]
    try rfl
   rw [hb,Bool.false_and]
   exact⟨fun z=>(by cases z),fun _=>rfl⟩
theorem a7N{w:List Nat}(hl:w.length≤190):p8 [row w,.int 2]=some (.val (b2r (O8 w))):=by
 have e0:AN ""=S []:=rfl
 have s0:AN "0"=S [48]:=rfl
 have he:=a1A w []
 have gl:=N9 (l:=w) (by lia)
 have sg:∀q1 q2,a45 (b7 0) [some (.val (row w)),q1,q2]=some (w.map fun c=> .str (S [c])):=fun _ _=>b2a rfl
 obtain⟨l1,l2⟩:=a7M (q0:=some (.val (row w))) (q1:=some (.val (.int 2))) w none
 generalize (w.map fun c=>PyData.str (S [c]))=G at sg l1 l2
 unfold O8
 unfold p8 a3N
 rw [e0,s0]
 cases w with
 |nil=>
  have he:Z6 (.val (row [])) (.val (row []))=some (.val (.bool true)):=he
  rw [if_pos rfl]
  simp (disch:=omega) only [d7,d8,b8,f6,i8,d0,j9,c9,n4,g6,i5,d9,g8,AE,AL,AT,AZ,AU,AO,AR,he]
  try rfl
 |cons c r=>
  have he:Z6 (.val (row (c::r))) (.val (row []))=some (.val (.bool false)):=he
  rw [if_neg (by simp)]
  cases ha:(c::r).all U0 with
  |false=>
   have l2:=l2 ha
   rw [Bool.false_and,if_neg Aj]
   simp (disch:=omega) only [d7,d8,b8,d0,g0,j9,c9,m8,g7,g6,i5,d9,g8,D8,AE,AL,AT,AZ,AU,AO,AR,he,sg,l2]
   try rfl
  |true=>
   obtain⟨q2',l1⟩:=l1 ha
   rw [Bool.true_and]
   have ix:v7 (.val (row (c::r))) (.val (.int 0))=some (.val (row [c])):=X1 (pre:=[]) (x:=c) (r:=r) (by rw [AR];lia)
   have e1:=a1A [c] [48]
   have hh:((c::r).head?==some 48)=([c]==[48]):=by simp
   rw [hh]
   cases hq:([c]==[48]) with
   |true=>
    rw [hq] at e1
    simp (disch:=omega) only [d7,d8,b8,f6,i8,d0,g0,j9,c9,n4,m8,g7,g6,i5,d9,g8,j4,P3,D8,AE,AL,AT,AZ,AU,AO,AR,AS,Bool.not_true,Aq,he,sg,l1,ix,e1]
    try rfl
   |false=>
    rw [hq] at e1
    by_cases h3:(c::r).length≤3
    ·have g3:decide ((3:Int)<((r.length+1:Nat):Int))=false:=decide_eq_false (by rw [AS] at h3;lia)
     have it:=a9V (ds:=c::r) (fun x hx=>List.all_eq_true.mp ha x hx) (by simp) (by lia)
     rw [decide_eq_true h3]
     by_cases h2:2≤S8 (c::r)
     ·have g2:decide ((S8 (c::r):Int)<2)=false:=decide_eq_false (by lia)
      rw [decide_eq_true h2]
      simp (disch:=omega) only [x9,C5,d7,n0,d8,b8,f7,f6,i8,d0,g0,c9,m8,g7,g6,i5,d9,g8,j4,A2,D8,AE,AL,AT,AZ,AU,AO,AR,AS,Bool.not_false,he,sg,l1,ix,e1,gl,g3,it,g2]
      try rfl
     ·have g2:decide ((S8 (c::r):Int)<2)=true:=decide_eq_true (by lia)
      rw [decide_eq_false h2]
      simp (disch:=omega) only [x9,C5,d7,n0,d8,b8,f7,f6,i8,d0,g0,j9,c9,n4,m8,g7,g6,i5,d9,g8,j4,A2,D8,AE,AL,AT,AZ,AU,AO,AR,AS,Bool.not_false,he,sg,l1,ix,e1,gl,g3,it,g2]
      try rfl
    ·have g3:decide ((3:Int)<((r.length+1:Nat):Int))=true:=decide_eq_true (by rw [AS] at h3;lia)
     rw [decide_eq_false h3]
     simp (disch:=omega) only [x9,d7,n0,d8,b8,f6,i8,d0,g0,j9,c9,n4,m8,g7,g6,i5,d9,g8,j4,P3,A2,D8,AE,AL,AT,AZ,AU,AO,AR,AS,Bool.not_false,he,sg,l1,ix,e1,gl,g3]
     try rfl
theorem b43:∀ls:List (List Nat),G7 [] ls=ls.flatten
 |[]=>rfl
 |[x]=>by simp [G7]
 |x::y::r=>by
  have:=b43 (y::r)
  simp only [G7,List.flatten_cons] at this ⊢
  rw [this];simp
theorem b44{rows:List (List Nat)}{y:e8}(h:PyData.items? y.rd=some (rows.map row))(hl:rows.flatten.length≤10000):N8 (.val (.str (AN ""))) y=some (.val (row rows.flatten)):=by
 have:=a2c (sep:=[]) h (by
  have e:(rows.map (·.length)).sum=rows.flatten.length:=by rw [List.length_flatten]
  rw [e,Ai,Nat.mul_zero,Nat.add_zero];lia)
 rw [b43] at this
 exact this
theorem a1w:∀ps:List Pa,Q9 ps=(ps.map unP).flatten
 |[]=>by rw [Q9];rfl
 |p::ps=>by rw [Q9,AL,List.flatten_cons,a1w ps]
theorem a77{R:List PV→Option e8}{q0:Option e8}:∀(ps:List Pa) (acc:List (List Nat)) (q2:Option e8),okL ps→(Q9 ps).length≤24→(∀k qs,Pa.again k qs∈ps→R [.list (z7 qs)]=some (.val (row (Q9 qs))))→acc.length+ps.length<10000→
 ∃q2',O9 (y9 R) (u6 2) (z7 ps) [q0,some (.own (acc.map row)),q2]=some (.nx [q0,some (.own ((acc++ps.map unP).map row)),q2'])
 |[],acc,q2,_,_,_,_=>⟨q2,by rw [z7,AT,Ag];rfl⟩
 |p::ps,acc,q2,ok,hl,hR,hn=>by
  rw [AS] at hn
  rw [Q9,Aa] at hl
  obtain⟨q2',e⟩:=a77 (R:=R) (q0:=q0) ps (acc++[unP p]) (some (.val (C7 p))) ok.2 (by lia) (fun k qs h=>hR k qs (Ae _ h)) (by rw [Aa,List.length_singleton];lia)
  refine⟨q2', ?_⟩
  have hb:y9 R [q0,some (.own (acc.map row)),some (.val (C7 p))]=some (.nx [q0,some (.own ((acc++[unP p]).map row)),some (.val (C7 p))]):=by
   have fin:∀m:M,m [q0,some (.own (acc.map row)),some (.val (C7 p))]=some (.val (row (unP p)))→E9 1 m [q0,some (.own (acc.map row)),some (.val (C7 p))]=some (.nx [q0,some (.own ((acc++[unP p]).map row)),some (.val (C7 p))]):=fun m hm=>by
    rw [S1 hm rfl rfl (by rw [Ak];lia),BE]
    rfl
   rcases a98 p with⟨c,k,rfl,ep⟩|⟨k,qs,rfl,ep⟩
   ·have i0:v7 (.val (C7 (.run c k))) (.val (.int 0))=some (.val a5x):=by rw [ep];rfl
    have i1:v7 (.val (C7 (.run c k))) (.val (.int 1))=some (.val (row [c])):=by rw [ep];rfl
    have i2:v7 (.val (C7 (.run c k))) (.val (.int 2))=some (.val (.int (k:Nat))):=by rw [ep];rfl
    rw [a2q] at hl
    have cm:=a3u (ι:=fun j:Nat=>PyData.int (j:Nat)) (f:=fun _=>row [c]) (k:=1) (it:=a2K (b0 (m2 v7 (b7 2) (mC (.int 2))) j1)) (elt:=O1 R) (tg:=u6 3) (ρ:=[q0,some (.own (acc.map row)),some (.val (C7 (.run c k)))]) (Ao k) (a6j (n:=k) (by simp (disch:=omega) only [d7,d8,b8,f7,AE,i2]) (by lia)) (by rw [BG];lia) fun j _=>⟨_,rfl,by unfold O1;simp (disch:=omega) only [d7,d8,b8,f7,d4,AE,AZ,AU,AO,AR,AX,AY,i1]⟩
    have jn:N8 (.val (.str (AN ""))) (.own ((Ao k).map fun _=>row [c]))=some (.val (row (unP (.run c k)))):=by
     have:=a85 (k:=k) (by lia) fun _=>c
     rw [unP]
     exact this
    unfold y9
    simp (disch:=omega) only [d7,d8,b8,f7,c9,n4,d9,g8,AE,i0,b5z]
    exact fin _ (by simp (disch:=omega) only [d7,d8,AE,cm,jn])
   ·have i0:v7 (.val (C7 (.again k qs))) (.val (.int 0))=some (.val W1):=by rw [ep];rfl
    have i1:v7 (.val (C7 (.again k qs))) (.val (.int 1))=some (.val (.int (k:Nat))):=by rw [ep];rfl
    have i2:v7 (.val (C7 (.again k qs))) (.val (.int 2))=some (.val (.list (z7 qs))):=by rw [ep];rfl
    rw [a0f] at hl
    have hk:=ok.1
    obtain⟨k1,k2,_,_⟩:=hk
    have hr:=hR k qs Af
    have cm:=a3u (ι:=fun j:Nat=>PyData.int (j:Nat)) (f:=fun _=>row (Q9 qs)) (k:=1) (it:=a2K (b0 (m2 v7 (b7 2) (mC (.int 1))) j1)) (elt:=O2 R) (tg:=u6 3) (ρ:=[q0,some (.own (acc.map row)),some (.val (C7 (.again k qs)))]) (Ao k) (a6j (n:=k) (by simp (disch:=omega) only [d7,d8,b8,f7,AE,i1]) (by lia)) (by rw [BG];lia) fun j _=>⟨_,rfl,by unfold O2;simp (disch:=omega) only [d7,d8,b8,f7,d5,c8,d4,f9,AE,AZ,AU,AO,AR,AX,AY,i2,hr]⟩
    have jn:N8 (.val (.str (AN ""))) (.own ((Ao k).map fun _=>row (Q9 qs)))=some (.val (row (unP (.again k qs)))):=by
     rw [unP]
     exact b44 (y:= .own ((Ao k).map fun _=>row (Q9 qs))) (by rw [Ax];rfl) (by rw [a2b];lia)
    unfold y9
    simp (disch:=omega) only [d7,d8,b8,f7,c9,m8,d9,g8,AE,i0,b5y]
    exact fin _ (by simp (disch:=omega) only [d7,d8,AE,cm,jn])
  rw [z7,O9]
  show(y9 R [q0,some (.own (acc.map row)),some (.val (C7 p))]).bind _=_
  rw [hb,AE]
  rw [List.append_assoc] at e
  exact e
theorem a9Y:∀(n:Nat) (ps:List Pa),okL ps→(Q9 ps).length≤24→dpL ps<n→D7 n [.list (z7 ps)]=some (.val (row (Q9 ps)))
 |0,_,_,_,h=>by lia
 |n+1,ps,ok,hl,hd=>by
  have hm:=a4x ok
  obtain⟨q2,e⟩:=a77 (R:=D7 n) (q0:=some (.val (.list (z7 ps)))) ps [] none ok hl (fun k qs hq=>by
   obtain⟨h1,h2,h3,h4,h5,h6,h7⟩:=b23 ok hq
   exact a9Y n qs h1 (by lia) (by lia)) (by simp;lia)
  have hit:PyData.items? (.list (z7 ps))=some (z7 ps):=rfl
  rw [AR] at e
  have jn:N8 (.val (.str (AN ""))) (.bo (.lst ((ps.map unP).map row)))=some (.val (row (Q9 ps))):=by
   rw [a1w]
   exact b44 (y:= .bo (.lst ((ps.map unP).map row))) rfl (by rw [←a1w];lia)
  show v6 2 (N2 (D7 n)) [.list (z7 ps)]=_
  unfold N2
  simp (disch:=omega) only [b8,d5,d4,S2,g5,a3e,d0,g0,g6,D8,AE,AL,AT,AZ,AU,AO,AR,AX,AY,Ai,↓reduceIte,Q1,sz,Aq,hit]
  rw [show(some (e8.own []))=some (e8.own (([]:List (List Nat)).map row)) from rfl,e]
  simp (disch:=omega) only [d7,d8,a69,f7,f6,i8,g0,i5,AE,jn]
theorem a2U:∀ps:List Pa,z7 ps=ps.map C7
 |[]=>by rw [z7];rfl
 |p::ps=>by rw [z7,AL,a2U ps]
theorem b4f(ps:List Pa):(z7 ps).length=ps.length:=by rw [a2U,Ak]
theorem a7x{k:Nat}(hk:k<25):a5U (.val (.int (k:Nat)))=some (.val (row (dg k))):=by
 match k,hk with
 |0,_=>rfl
 |1,_=>rfl
 |2,_=>rfl
 |3,_=>rfl
 |4,_=>rfl
 |5,_=>rfl
 |6,_=>rfl
 |7,_=>rfl
 |8,_=>rfl
 |9,_=>rfl
 |10,_=>rfl
 |11,_=>rfl
 |12,_=>rfl
 |13,_=>rfl
 |14,_=>rfl
 |15,_=>rfl
 |16,_=>rfl
 |17,_=>rfl
 |18,_=>rfl
 |19,_=>rfl
 |20,_=>rfl
 |21,_=>rfl
 |22,_=>rfl
 |23,_=>rfl
 |24,_=>rfl
 |k+25,h=>lia
theorem b7M{k:Nat}(hk:k<25):K8 [.int (k:Nat)]=some (.val (row (wt k))):=by
 unfold K8 a0J wt
 by_cases c:k=1
 ·subst c
  rfl
 ·rw [if_neg c]
  have c':((k:Int)==1)=false:=by rw [beq_eq_false_iff_ne];lia
  simp (disch:=omega) only [d7,n0,d8,b8,f6,i8,d0,g0,c9,m8,g7,g6,i5,d9,g8,AE,AL,AT,AU,Ag,J5,c',a7x hk]
theorem b11{ls:List (List Nat)}{y:e8}(h:PyData.items? y.rd=some (ls.map row))(hl:(ls.map fun l=>l.length+1).sum≤10000):N8 (.val (.str (AN " "))) y=some (.val (row (G7 [32] ls))):=by
 refine a2c (sep:=[32]) h ?_
 have e:∀ls:List (List Nat),(ls.map (·.length)).sum+ls.length*[32].length=(ls.map fun l=>l.length+1).sum:=fun ls=>by
  induction ls with
  |nil=>rfl
  |cons x r ih=>
   simp only [AL,List.sum_cons,AS,Ai] at ih ⊢
   lia
 rw [e];lia
theorem b4q{RF RP:List PV→Option e8}{p:Pa}(ok:okP p)(hl:(unP p).length≤24)(hF:∀k qs,p= .again k qs→RF [.list (z7 qs)]=some (.val (row (shL qs)))):v6 0 (U3 RF RP) [C7 p]=some (.val (row (M4 p))):=by
 have hsl:=a7u ok
 unfold U3
 rcases a98 p with⟨c,k,rfl,ep⟩|⟨k,qs,rfl,ep⟩
 ·have i0:v7 (.val (C7 (.run c k))) (.val (.int 0))=some (.val a5x):=by rw [ep];rfl
  have i1:v7 (.val (C7 (.run c k))) (.val (.int 1))=some (.val (row [c])):=by rw [ep];rfl
  have i2:v7 (.val (C7 (.run c k))) (.val (.int 2))=some (.val (.int (k:Nat))):=by rw [ep];rfl
  rw [a2q] at hl
  have w:=b7M (k:=k) (by lia)
  have ad:=J6 (l:=[c]) (k:=wt k) (by have:=b26 k;simp;lia)
  rw [a0F]
  simp (disch:=omega) only [d7,d8,b8,d5,c8,d4,f9,f6,i8,d0,j9,c9,n4,g6,i5,d9,g8,AE,AL,AT,AU,Ag,AO,AR,i0,i1,i2,b5z,w,ad]
 ·have i0:v7 (.val (C7 (.again k qs))) (.val (.int 0))=some (.val W1):=by rw [ep];rfl
  have i1:v7 (.val (C7 (.again k qs))) (.val (.int 1))=some (.val (.int (k:Nat))):=by rw [ep];rfl
  have i2:v7 (.val (C7 (.again k qs))) (.val (.int 2))=some (.val (.list (z7 qs))):=by rw [ep];rfl
  have hr:=hF k qs rfl
  obtain⟨k1,k2,_,okq⟩:=ok
  have d2:=a3h k
  rw [K6,AS,Aa,AS] at hsl
  have a1:=J6 (l:=[40]) (k:=shL qs) (by simp;lia)
  have a2:=J6 (l:=40::shL qs) (k:=[41]) (by simp;lia)
  have a3:=J6 (l:=40::(shL qs++[41])) (k:=dg k) (by simp;lia)
  have e:40::(shL qs++[41])++dg k=M4 (.again k qs):=by rw [K6];simp
  rw [e] at a3
  have s1:AN "("=S [40]:=rfl
  have s2:AN ")"=S [41]:=rfl
  rw [s1,s2]
  simp (disch:=omega) only [d7,n0,d8,b8,d5,c8,d4,f9,f6,i8,d0,g0,c9,m8,g7,g6,i5,d9,g8,AE,AL,AT,AU,Ag,AO,AR,i0,i1,i2,b5y,hr,a1,a2,a7x (k:=k) (by lia),a3]
theorem a8u:∀(n:Nat) (ps:List Pa),okL ps→(Q9 ps).length≤24→2*dpL ps+2≤n→E7 n [.list (z7 ps)]=some (.val (row (shL ps)))
 |0,_,_,_,h=>by lia
 |1,_,_,_,h=>by lia
 |m+2,ps,ok,hl,hd=>by
  have hm:=a4x ok
  have cm:=a3u (ι:=C7) (f:=fun p=>row (M4 p)) (k:=1) (it:=a2I (b7 0)) (elt:=T1 (E7 (m+1)) (K4 (m+1))) (tg:=u6 1) (ρ:=[some (.val (.list (z7 ps)))]) ps
   (a79 (r:= .val (.list (z7 ps))) rfl (by rw [a2U];rfl)) (by lia) fun p hp=>⟨_,rfl,by
    have:=a9u hp
    have e:K4 (m+1) [C7 p]=some (.val (row (M4 p))):=b4q (RF:=E7 m) (RP:=K4 m) (a7d ok hp) (by lia) fun k qs hq=>by
     subst hq
     obtain⟨h1,h2,h3,h4,h5,h6,h7⟩:=b23 ok hp
     exact a8u m qs h1 (by lia) (by lia)
    unfold T1
    simp (disch:=omega) only [b8,f7,d5,c8,d4,f9,AE,AZ,AU,AO,AR,AX,AY,e]⟩
  have hs:=a22 ok
  have jn:N8 (.val (.str (AN " "))) (.own (ps.map fun p=>row (M4 p)))=some (.val (row (shL ps))):=
   b11 (ls:=ps.map M4) (y:= .own (ps.map fun p=>row (M4 p))) (by rw [Ax];rfl) (by
    rw [Ax]
    have h6:(ps.map ((fun l=>l.length+1)∘M4)).sum=(ps.map fun p=>(M4 p).length+1).sum:=rfl
    lia)
  show v6 0 (U2 (E7 (m+1)) (K4 (m+1))) [.list (z7 ps)]=_
  unfold U2
  simp (disch:=omega) only [d7,d8,f6,i8,g6,i5,AE,AL,AT,AU,Ag,cm,jn]
theorem a76{R:List PV→Option e8}{q0:Option e8}:∀(ps:List Pa) (acc:List (List Nat)) (q2:Option e8),okL ps→(Q9 ps).length≤24→(∀k qs,Pa.again k qs∈ps→R [.list (z7 qs)]=some (.val (row (shL qs))))→acc.length+ps.length<10000→
 ∃q2',O9 (G9 R) (u6 2) (z7 ps) [q0,some (.own (acc.map row)),q2]=some (.nx [q0,some (.own ((acc++ps.map M4).map row)),q2'])
 |[],acc,q2,_,_,_,_=>⟨q2,by rw [z7,AT,Ag];rfl⟩
 |p::ps,acc,q2,ok,hl,hR,hn=>by
  rw [AS] at hn
  rw [Q9,Aa] at hl
  obtain⟨q2',e⟩:=a76 (R:=R) (q0:=q0) ps (acc++[M4 p]) (some (.val (C7 p))) ok.2 (by lia) (fun k qs h=>hR k qs (Ae _ h)) (by rw [Aa,List.length_singleton];lia)
  refine⟨q2', ?_⟩
  have hsl:=a7u ok.1
  have hb:G9 R [q0,some (.own (acc.map row)),some (.val (C7 p))]=some (.nx [q0,some (.own ((acc++[M4 p]).map row)),some (.val (C7 p))]):=by
   have fin:∀m:M,m [q0,some (.own (acc.map row)),some (.val (C7 p))]=some (.val (row (M4 p)))→E9 1 m [q0,some (.own (acc.map row)),some (.val (C7 p))]=some (.nx [q0,some (.own ((acc++[M4 p]).map row)),some (.val (C7 p))]):=fun m hm=>by
    rw [S1 hm rfl rfl (by rw [Ak];lia),BE]
    rfl
   unfold G9
   rcases a98 p with⟨c,k,rfl,ep⟩|⟨k,qs,rfl,ep⟩
   ·have i0:v7 (.val (C7 (.run c k))) (.val (.int 0))=some (.val a5x):=by rw [ep];rfl
    have i1:v7 (.val (C7 (.run c k))) (.val (.int 1))=some (.val (row [c])):=by rw [ep];rfl
    have i2:v7 (.val (C7 (.run c k))) (.val (.int 2))=some (.val (.int (k:Nat))):=by rw [ep];rfl
    rw [a2q] at hl
    by_cases ck:k=1
    ·subst ck
     simp (disch:=omega) only [d7,d8,b8,f7,c9,n4,m8,d9,g8,AE,Int.cast_ofNat_Int,beq_self_eq_true,J5,i0,i2,b62]
     exact fin _ (by simp (disch:=omega) only [d7,d8,b8,f7,AE,i1];rw [a0F];rfl)
    ·have c':((k:Int)==1)=false:=by rw [beq_eq_false_iff_ne];lia
     have d2:=a3h k
     have ad:=J6 (l:=[c]) (k:=dg k) (by simp;lia)
     simp (disch:=omega) only [d7,d8,b8,f7,c9,m8,d9,g8,AE,J5,i0,i2,b62,c']
     exact fin _ (by simp (disch:=omega) only [d7,n0,d8,b8,f7,AE,AO,AR,i1,i2,a7x (k:=k) (by lia),ad];rw [a0F];unfold wt;rw [if_neg ck])
   ·have i0:v7 (.val (C7 (.again k qs))) (.val (.int 0))=some (.val W1):=by rw [ep];rfl
    have i1:v7 (.val (C7 (.again k qs))) (.val (.int 1))=some (.val (.int (k:Nat))):=by rw [ep];rfl
    have i2:v7 (.val (C7 (.again k qs))) (.val (.int 2))=some (.val (.list (z7 qs))):=by rw [ep];rfl
    have hr:=hR k qs Af
    have hk:=ok.1
    obtain⟨k1,k2,_,okq⟩:=hk
    have d2:=a3h k
    rw [K6,AS,Aa,AS] at hsl
    have a1:=J6 (l:=[40]) (k:=shL qs) (by simp;lia)
    have a2:=J6 (l:=40::shL qs) (k:=[41]) (by simp;lia)
    have a3:=J6 (l:=40::(shL qs++[41])) (k:=dg k) (by simp;lia)
    have e:40::(shL qs++[41])++dg k=M4 (.again k qs):=by rw [K6];simp
    rw [e] at a3
    have s1:AN "("=S [40]:=rfl
    have s2:AN ")"=S [41]:=rfl
    rw [s1,s2]
    simp (disch:=omega) only [d7,d8,b8,f7,c9,n4,d9,g8,AE,i0,b7V]
    exact fin _ (by simp (disch:=omega) only [d7,n0,d8,b8,f7,d5,c8,d4,f9,AE,AO,AR,i1,i2,hr,a1,a2,a7x (k:=k) (by lia),a3])
  rw [z7,O9]
  show(G9 R [q0,some (.own (acc.map row)),some (.val (C7 p))]).bind _=_
  rw [hb,AE]
  rw [List.append_assoc] at e
  exact e
theorem a3s:∀(n:Nat) (ps:List Pa),okL ps→(Q9 ps).length≤24→dpL ps<n→O0 n [.list (z7 ps)]=some (.val (row (shL ps)))
 |0,_,_,_,h=>by lia
 |n+1,ps,ok,hl,hd=>by
  have hm:=a4x ok
  obtain⟨q2,e⟩:=a76 (R:=O0 n) (q0:=some (.val (.list (z7 ps)))) ps [] none ok hl (fun k qs hq=>by
   obtain⟨h1,h2,h3,h4,h5,h6,h7⟩:=b23 ok hq
   exact a3s n qs h1 (by lia) (by lia)) (by simp;lia)
  have hit:PyData.items? (.list (z7 ps))=some (z7 ps):=rfl
  rw [AR] at e
  have hs:=a22 ok
  have jn:N8 (.val (.str (AN " "))) (.bo (.lst ((ps.map M4).map row)))=some (.val (row (shL ps))):=
   b11 (ls:=ps.map M4) (y:= .bo (.lst ((ps.map M4).map row))) rfl (by
    rw [Ax]
    have h6:(ps.map ((fun l=>l.length+1)∘M4)).sum=(ps.map fun p=>(M4 p).length+1).sum:=rfl
    lia)
  show v6 2 (W5 (O0 n)) [.list (z7 ps)]=_
  unfold W5
  simp (disch:=omega) only [b8,d5,d4,S2,g5,a3e,d0,g0,g6,D8,AE,AL,AT,AZ,AU,AO,AR,AX,AY,Ai,↓reduceIte,Q1,sz,Aq,hit]
  rw [show(some (e8.own []))=some (e8.own (([]:List (List Nat)).map row)) from rfl,e]
  simp (disch:=omega) only [d7,d8,a69,f7,f6,i8,g0,i5,AE,jn]
theorem a1G(c:Int):∃N:Int,0≤N∧D3 [.int c]=some (.val (.int N)):=by
 refine⟨(c % 2147483629+48611)*69621 % 2147483629,by lia, ?_⟩
 unfold D3 a2s
 simp (disch:=omega) only [l9,a1C,B6,d7,d8,b8,f6,i8,g6,i5,AE,AL,AT,AU,Ag]
theorem a9z{cs:List Int}(h:0<cs.length)(a:Int):∃c:Int,v7 (.val (.list (cs.map .int))) (.val (.int (a %(cs.length:Int))))=some (.val (.int c)):=by
 have h0:0≤a %(cs.length:Int):=Int.emod_nonneg _ (by lia)
 have h1:a %(cs.length:Int)<cs.length:=Int.emod_lt_of_pos _ (by lia)
 have hk:(a %(cs.length:Int)).toNat<cs.length:=by lia
 refine⟨cs[(a %(cs.length:Int)).toNat],a4S ?_⟩
 rw [a8T h0,BB,Az hk]
 rfl
theorem b5s{N:Int}(h:0≤N):∃c,(97≤c∧c≤122)∧v7 (.val (.str (AN "abcxz"))) (.val (.int (N / 405 % 5)))=some (.val (row [c])):=by
 have:N / 405 % 5=0∨N / 405 % 5=1∨N / 405 % 5=2∨N / 405 % 5=3∨N / 405 % 5=4:=by lia
 rcases this with e|e|e|e|e<;>rw [e]
 ·exact⟨97,by simp,rfl⟩
 ·exact⟨98,by simp,rfl⟩
 ·exact⟨99,by simp,rfl⟩
 ·exact⟨120,by simp,rfl⟩
 ·exact⟨122,by simp,rfl⟩
theorem b0G{R:List PV→Option e8}{cs:List Int}(hcs:0<cs.length){deep g B:Nat}(hdeep:deep≤3)
 (hR:0<deep→∀a room:Nat,1≤room→room≤24→a≤B→∃(qs:List Pa) (a':Nat),okL qs∧qs≠[]∧(Q9 qs).length≤room∧dpL qs+1≤deep∧a'≤a+g∧R [.list (cs.map .int),.int (a:Nat),.int (room:Nat),.int ((deep:Int) - 1)]=some (.val (.tuple [.list (z7 qs),.int (a':Nat)])))
 {a left:Nat} (ha:a≤40000) (hB:a+2≤B) (hl:0<left) (hl2:left≤24) {acc:List PV} (hacc:acc.length<1000) (q2 q6 q7 q8 q9 q10:Option e8):
 ∃(p:Pa) (a' left':Nat) (q8' q9' q10':Option e8),okP p∧dpP p≤deep∧(unP p).length+left'=left∧a'≤a+2+g∧
  C2 R [some (.val (.list (cs.map .int))),some (.val (.int (a:Nat))),q2,some (.val (.int (deep:Nat))),some (.own acc),some (.val (.int (left:Nat))),q6,q7,q8,q9,q10]
  =some (.nx [some (.val (.list (cs.map .int))),some (.val (.int (a':Nat))),q2,some (.val (.int (deep:Nat))),some (.own (acc++[C7 p])),some (.val (.int (left':Nat))),q6,q7,q8',q9',q10']):=by
 obtain⟨c,hc⟩:=a9z hcs (((a+1:Nat):Int))
 obtain⟨N,hN,eN⟩:=a1G (c+5*((a+1:Nat):Int))
 have gl:U6 (.val (.list (cs.map .int)))=some (.val (.int (cs.length:Nat))):=by rw [a1B,Ak]
 have e1:(a:Int)+1=((a+1:Nat):Int):=by lia
 have p0:decide ((0:Int)<(left:Int))=true:=decide_eq_true (by lia)
 by_cases hb:0<deep∧1<left∧N % 3=0
 ·obtain⟨b1,b2,b3⟩:=hb
  obtain⟨m,hm,ma1,ma2⟩:∃m:Nat,(if(left:Int) - 1<3 then(left:Int) - 1 else 3)=(m:Int)∧1≤m∧m+1≤left∧m≤3:=⟨(if(left:Int) - 1<3 then(left:Int) - 1 else 3).toNat,by split<;>lia,by split<;>lia,by split<;>lia,by split<;>lia⟩
  have r0:0≤N / 3 %(m:Int):=Int.emod_nonneg _ (by lia)
  have r1:N / 3 %(m:Int)<m:=Int.emod_lt_of_pos _ (by lia)
  obtain⟨k,hk,k1,k2,k3⟩:∃k:Nat,2+N / 3 %(m:Int)=(k:Int)∧2≤k∧k≤left∧k≤4:=⟨(2+N / 3 %(m:Int)).toNat,by lia,by lia,by lia,by lia⟩
  have hroom:1≤left / k:=(Nat.le_div_iff_mul_le (by lia)).mpr (by lia)
  have hroom2:left / k≤24:=Nat.le_trans (Nat.div_le_self _ _) hl2
  obtain⟨qs,a',okq,qne,hq,dq,ha',eR⟩:=hR b1 (a+2) (left / k) hroom hroom2 (by lia)
  have hmul:k*(Q9 qs).length≤left:=by
   have:=Nat.mul_le_mul_left k hq
   have:=Nat.mul_div_le left k
   lia
  have hlu:V9 [.list (z7 qs)]=some (.val (row (Q9 qs))):=a9Y 6 qs okq (by lia) (by lia)
  have gl2:=N9 (l:=Q9 qs) (by lia)
  have c1:decide ((0:Int)<(deep:Int))=true:=decide_eq_true (by lia)
  have c2:decide ((1:Int)<(left:Int))=true:=decide_eq_true (by lia)
  have c3:(N % 3==0)=true:=by rw [beq_iff_eq];exact b3
  have e2:((a+1:Nat):Int)+1=((a+2:Nat):Int):=by lia
  have e3:(left:Int)/(k:Int)=((left / k:Nat):Int):=(Int.natCast_ediv left k).symm
  have e4:(left:Int) - (k:Int)*((Q9 qs).length:Int)=((left - k*(Q9 qs).length:Nat):Int):=by rw [Int.ofNat_sub hmul,Int.natCast_mul]
  refine⟨.again k qs,a',left - k*(Q9 qs).length,some (.val (.int N)),some (.val (.int (k:Nat))),some (.val (.list (z7 qs))),⟨k1,by lia,qne,okq⟩,by rw [dpP];lia,by rw [a0f];lia,by lia, ?_⟩
  have ep:C7 (.again k qs)= .tuple [W1,.int (k:Nat),.list (z7 qs)]:=by rw [C7]
  have ap:=S1 (i:=4) (m:=a0R (b0 (mC (.str (AN "again"))) (b0 (b7 9) (b0 (b7 10) j1)))) (ρ:=[some (.val (.list (cs.map .int))),some (.val (.int (a':Nat))),q2,some (.val (.int (deep:Nat))),some (.own acc),some (.val (.int (left:Nat))),q6,q7,some (.val (.int N)),some (.val (.int (k:Nat))),some (.val (.list (z7 qs)))]) (r:= .val (C7 (.again k qs))) (p:=C7 (.again k qs)) (ps:=acc) (by rw [ep];simp (disch:=omega) only [d8,b8,f7,d5,c8,d4,D9,AE,AS,Ai,↓reduceIte,sz,Nat.reduceAdd,Aq]) rfl rfl (by lia)
  unfold C2
  simp (disch:=omega) only [l9,x9,a1C,B6,G4,d7,n0,d8,b8,f7,d5,c8,d4,f9,g5,k4,d0,g0,c9,n4,d9,g8,p9,S6,b2b,b6G,AE,AX,AY,J5,p0,e1,gl,hc,eN,c1,c2,c3,hm,hk,e2,e3,eR,ap,hlu,gl2,e4]
 ·obtain⟨col,hcol,ecol⟩:=b5s hN
  have w0:0≤N / 81 % 5 / 4∧N / 81 % 5 / 4≤1:=by lia
  obtain⟨m,hm,ma1,ma2⟩:∃m:Nat,(if 3+9*(N / 81 % 5 / 4)<(left:Int) then 3+9*(N / 81 % 5 / 4) else(left:Int))=(m:Int)∧1≤m∧m≤left:=⟨(if 3+9*(N / 81 % 5 / 4)<(left:Int) then 3+9*(N / 81 % 5 / 4) else(left:Int)).toNat,by split<;>lia,by split<;>lia,by split<;>lia⟩
  have r0:0≤N / 3 %(m:Int):=Int.emod_nonneg _ (by lia)
  have r1:N / 3 %(m:Int)<m:=Int.emod_lt_of_pos _ (by lia)
  obtain⟨k,hk,k1,k2⟩:∃k:Nat,1+N / 3 %(m:Int)=(k:Int)∧1≤k∧k≤left:=⟨(1+N / 3 %(m:Int)).toNat,by lia,by lia,by lia⟩
  have e4:(left:Int) - (k:Int)=((left - k:Nat):Int):=by lia
  refine⟨.run col k,a+1,left - k,some (.val (.int N)),some (.val (.int (k:Nat))),q10,⟨k1,by lia,hcol⟩,by rw [dpP];lia,by rw [a2q];lia,by lia, ?_⟩
  have ep:C7 (.run col k)= .tuple [a5x,row [col],.int (k:Nat)]:=by rw [C7]
  have ap:=S1 (i:=4) (m:=a0R (b0 (mC (.str (AN "run"))) (b0 (m2 v7 (mC (.str (AN "abcxz"))) (m2 (Z7 (fun _ j=>0<j) fun i j=> .int (i % j)) (m2 (Z7 a0Q fun i j=> .int (i / j)) (b7 8) (mC (.int 405))) (mC (.int 5)))) (b0 (b7 9) j1)))) (ρ:=[some (.val (.list (cs.map .int))),some (.val (.int ((a+1:Nat):Int))),q2,some (.val (.int (deep:Nat))),some (.own acc),some (.val (.int (left:Nat))),q6,q7,some (.val (.int N)),some (.val (.int (k:Nat))),q10]) (r:= .val (C7 (.run col k))) (p:=C7 (.run col k)) (ps:=acc) (by rw [ep];simp (disch:=omega) only [B6,G4,d7,d8,b8,f7,d5,c8,d4,D9,AE,AS,Ai,↓reduceIte,sz,Nat.reduceAdd,Aq,ecol]) rfl rfl (by lia)
  unfold C2
  by_cases b1:0<deep
  ·have c1:decide ((0:Int)<(deep:Int))=true:=decide_eq_true (by lia)
   by_cases b2:1<left
   ·have c2:decide ((1:Int)<(left:Int))=true:=decide_eq_true (by lia)
    have c3:(N % 3==0)=false:=by rw [beq_eq_false_iff_ne];exact fun z=>hb ⟨b1,b2,z⟩
    simp (disch:=omega) only [l9,x9,a1C,B6,G4,d7,n0,d8,b8,f7,d5,c8,d4,f9,g5,k4,d0,g0,c9,n4,m8,d9,g8,p9,S6,AE,AX,AY,J5,p0,e1,gl,hc,eN,c1,c2,c3,hm,hk,ap,e4]
   ·have c2:decide ((1:Int)<(left:Int))=false:=decide_eq_false (by lia)
    simp (disch:=omega) only [l9,x9,a1C,B6,G4,d7,n0,d8,b8,f7,d5,c8,d4,f9,g5,k4,d0,g0,c9,n4,m8,d9,g8,p9,S6,a15,AE,AX,AY,p0,e1,gl,hc,eN,c1,c2,hm,hk,ap,e4]
  ·have c1:decide ((0:Int)<(deep:Int))=false:=decide_eq_false (by lia)
   simp (disch:=omega) only [l9,x9,a1C,B6,G4,d7,n0,d8,b8,f7,d5,c8,d4,f9,g5,k4,d0,g0,c9,n4,m8,d9,g8,p9,a15,AE,AX,AY,p0,e1,gl,hc,eN,c1,hm,hk,ap,e4]
theorem b2H(ps:List Pa)(p:Pa):z7 (ps++[p])=z7 ps++[C7 p]:=by rw [a2U,a2U,BE];rfl
theorem b21(ps:List Pa)(p:Pa):(Q9 (ps++[p])).length=(Q9 ps).length+(unP p).length:=by
 rw [a1w,a1w,BE,List.flatten_append,Aa]
 simp
theorem a8d:∀{ps:List Pa} {p:Pa},okL ps→okP p→okL (ps++[p])
 |[],p,_,h=>⟨h,trivial⟩
 |q::ps,p,h,g=>⟨h.1,a8d h.2 g⟩
theorem a7R:∀{ps:List Pa} {p:Pa} {d:Nat},dpL ps≤d→dpP p≤d→dpL (ps++[p])≤d
 |[],p,d,_,h=>by
  show dpL [p]≤d
  rw [dpL,dpL];lia
 |q::ps,p,d,h,g=>by
  rw [dpL] at h
  rw [AO,dpL]
  have:=a7R (ps:=ps) (p:=p) (d:=d) (by lia) g
  lia
def grw:Nat→Nat
 |0=>8
 |d+1=>4*(2+grw d)
theorem a9M{cs:List Int}(hcs:0<cs.length):∀(n deep a room:Nat),deep<n→deep≤3→1≤room→room≤24→a≤30000 - grw deep→grw deep≤5000→
 ∃(ps:List Pa) (a':Nat),okL ps∧ps≠[]∧(Q9 ps).length≤room∧dpL ps≤deep∧a'≤a+grw deep∧C8 n [.list (cs.map .int),.int (a:Nat),.int (room:Nat),.int (deep:Nat)]=some (.val (.tuple [.list (z7 ps),.int (a':Nat)]))
 |0,deep,a,room,h,_,_,_,_,_=>by lia
 |n+1,deep,a,room,hn,hd,hr1,hr2,ha,hg=>by
  obtain⟨c,hc⟩:=a9z hcs (a:Int)
  obtain⟨N,hN,eN⟩:=a1G (c+(a:Int))
  have gl:U6 (.val (.list (cs.map .int)))=some (.val (.int (cs.length:Nat))):=by rw [a1B,Ak]
  obtain⟨mn,emn,mn1,mn2⟩:∃mn:Nat,1+N % 4=(mn:Int)∧1≤mn∧mn≤4:=⟨(1+N % 4).toNat,by lia,by lia,by lia⟩
  obtain⟨gi,hgi,hgi2,hR⟩:∃gi:Nat,4*(2+gi)≤grw deep∧gi≤5000∧(0<deep→∀b rm:Nat,1≤rm→rm≤24→b≤a+3*(2+gi)+2→∃(qs:List Pa) (a':Nat),okL qs∧qs≠[]∧(Q9 qs).length≤rm∧dpL qs+1≤deep∧a'≤b+gi∧C8 n [.list (cs.map .int),.int (b:Nat),.int (rm:Nat),.int ((deep:Int) - 1)]=some (.val (.tuple [.list (z7 qs),.int (a':Nat)]))):=by
   cases deep with
   |zero=>exact⟨0,by show 4*(2+0)≤8;lia,by lia,fun h=>absurd h (Nat.lt_irrefl 0)⟩
   |succ d=>
    have e:grw (d+1)=4*(2+grw d):=rfl
    refine⟨grw d,by lia,by lia,fun _ b rm h1 h2 h3=> ?_⟩
    obtain⟨qs,a',x1,x2,x3,x4,x5,x6⟩:=a9M hcs n d b rm (by lia) (by lia) h1 h2 (by lia) (by lia)
    exact⟨qs,a',x1,x2,x3,by lia,x5,by rw [show((d+1:Nat):Int) - 1=(d:Int) by lia];exact x6⟩
  obtain⟨ρ1,e1,ps,a',left,q7,q8,q9,q10,x1,x2,x3,x4,x5,x6,rfl⟩:=a6e (body:=C2 (C8 n)) (tg:=u6 7) (fun i ρ=>∃(ps:List Pa) (a' left:Nat) (q7 q8 q9 q10:Option e8),okL ps∧(0<i→ps≠[])∧(Q9 ps).length+left=room∧dpL ps≤deep∧a'≤a+i*(2+gi)∧ps.length≤i∧
   ρ=[some (.val (.list (cs.map .int))),some (.val (.int (a':Nat))),some (.val (.int (room:Nat))),some (.val (.int (deep:Nat))),some (.own (z7 ps)),some (.val (.int (left:Nat))),some (.val (.int (mn:Nat))),q7,q8,q9,q10])
   (ps:=a1S 0 ((mn:Nat):Int)) (ρ:=[some (.val (.list (cs.map .int))),some (.val (.int (a:Nat))),some (.val (.int (room:Nat))),some (.val (.int (deep:Nat))),some (.own []),some (.val (.int (room:Nat))),some (.val (.int (mn:Nat))),none,none,none,none])
   (by
    rintro i p hp ρ ⟨ps,a',left,q7,q8,q9,q10,x1,x2,x3,x4,x5,x6,rfl⟩
    obtain⟨rfl,hi⟩:=b4l hp
    have hi4:i<4:=by lia
    have hb:i*(2+gi)≤3*(2+gi):=Nat.mul_le_mul_right _ (by lia)
    have e5:(i+1)*(2+gi)=i*(2+gi)+(2+gi):=Nat.succ_mul _ _
    by_cases hl:0<left
    ·obtain⟨p,b,left',r8,r9,r10,y1,y2,y3,y4,y5⟩:=b0G (R:=C8 n) hcs (deep:=deep) (g:=gi) (B:=a+3*(2+gi)+2) hd hR (a:=a') (left:=left) (by lia) (by lia) hl (by lia) (acc:=z7 ps) (by rw [b4f];lia) (some (.val (.int (room:Nat)))) (some (.val (.int (mn:Nat)))) (some (.val (.int ((0:Int)+(i:Int))))) q8 q9 q10
     refine a7w rfl y5 ⟨ps++[p],b,left',some (.val (.int ((0:Int)+(i:Int)))),r8,r9,r10,a8d x1 y1,fun _=>by simp,by rw [b21];lia,a7R x4 y2,by lia,by rw [Aa,List.length_singleton];lia,by rw [b2H]⟩
    ·have p0:decide ((0:Int)<(left:Int))=false:=decide_eq_false (by lia)
     refine a7w rfl (ρ2:=[some (.val (.list (cs.map .int))),some (.val (.int (a':Nat))),some (.val (.int (room:Nat))),some (.val (.int (deep:Nat))),some (.own (z7 ps)),some (.val (.int (left:Nat))),some (.val (.int (mn:Nat))),some (.val (.int ((0:Int)+(i:Int)))),q8,q9,q10]) ?_ ⟨ps,a',left,_,q8,q9,q10,x1,fun _ z=>by
      subst z
      rw [Q9] at x3
      simp at x3
      lia,x3,x4,by lia,by lia,rfl⟩
     show C2 (C8 n) [some (.val (.list (cs.map .int))),some (.val (.int (a':Nat))),some (.val (.int (room:Nat))),some (.val (.int (deep:Nat))),some (.own (z7 ps)),some (.val (.int (left:Nat))),some (.val (.int (mn:Nat))),some (.val (.int ((0:Int)+(i:Int)))),q8,q9,q10]=_
     unfold C2
     simp (disch:=omega) only [x9,d7,d8,b8,f7,c9,m8,g7,d9,g8,AE,p0]) ⟨[],a,room,none,none,none,none,trivial,fun h=>absurd h (Nat.lt_irrefl 0),by rw [Q9];simp,by rw [dpL];lia,by simp,AW _,by rw [z7]⟩
  have hlen:(a1S 0 ((mn:Nat):Int)).length=mn:=by rw [b0d,Ak,BG]
  rw [hlen] at x2 x5
  have hb:mn*(2+gi)≤4*(2+gi):=Nat.mul_le_mul_right _ mn2
  refine⟨ps,a',x1,x2 (by lia),by lia,x4,by lia, ?_⟩
  have fz:∀(nn:MS) (s0 s1 s2 s3 s5 s6 s7 s8 s9 s10:Option e8) (L:List PV),a5W 4 nn [s0,s1,s2,s3,some (.ow (.lst L)),s5,s6,s7,s8,s9,s10]=nn [s0,s1,s2,s3,some (.val (.list L)),s5,s6,s7,s8,s9,s10]:=fun _ _ _ _ _ _ _ _ _ _ _ _=>rfl
  show v6 7 (a0q (C8 n)) [.list (cs.map .int),.int (a:Nat),.int (room:Nat),.int (deep:Nat)]=_
  unfold a0q
  simp (disch:=omega) only [l9,B6,d7,n0,d8,b8,f7,d5,c8,d4,D9,S2,f9,g5,k4,a3e,f6,i8,d0,g0,g6,i5,D8,a6i,b0c,AE,AL,AT,AZ,AU,AO,AR,AX,AY,AS,Ai,↓reduceIte,sz,Nat.reduceAdd,Aq,gl,hc,eN,emn,e1,fz]
theorem b0y{ns:List Int}{k:Int}(h0:0≤k):∃c:Int,Q6 [.list (ns.map .int),.int k]=some (.val (.int c)):=by
 unfold Q6 a1Y
 by_cases h:k<ns.length
 ·have hk:k.toNat<ns.length:=by lia
  have e:L2.atI (ns.map PyData.int) k=some (.int ns[k.toNat]):=by
   rw [a8T h0,BB,Az hk];rfl
  refine⟨ns[k.toNat], ?_⟩
  simp (disch:=omega) only [C5,a1B,d7,n0,b8,f7,d0,c9,g6,d9,g8,AE,AL,AT,AU,Ag,Ak,a4S e]
  simp only [h,decide_true]
  simp (disch:=omega) only [d7,b8,f7,f6,i8,j9,n4,i5,AE,a4S e]
 ·refine⟨0, ?_⟩
  simp (disch:=omega) only [C5,a1B,d7,n0,b8,f7,d0,c9,g6,d9,g8,AE,AL,AT,AU,Ag,Ak]
  simp only [h,decide_false]
  simp (disch:=omega) only [d8,f6,i8,g0,m8,g7,i5,AE]
theorem b0g(cs:List Int)(lo hi:Option Int):gSl (.val (.list (cs.map .int))) lo hi=some (.own ((cut cs lo hi).map .int)):=by
 show some _=_
 rw [show cut (cs.map PyData.int) lo hi=(cut cs lo hi).map PyData.int by unfold cut;rw [Ak,List.map_take,List.map_drop]]
theorem b1A(ns:List Int)(hn:ns.length≤63){at_:Nat}(ha:at_≤100):∃ps:List Pa,okL ps∧ps≠[]∧(Q9 ps).length≤24∧dpL ps≤3∧R7 [.list (ns.map .int),.int (at_:Nat),.int 24]=some (.val (.list (z7 ps))):=by
 have gs:=b0g ns (some (at_:Nat)) none
 have hcut:=a6P ns (some ((at_:Nat):Int)) none
 have cat:y8 (.own ((cut ns (some ((at_:Nat):Int)) none).map .int)) (.own [.int 1])=some (.own ((cut ns (some ((at_:Nat):Int)) none++[1]).map .int)):=by
  rw [a9O (by rw [Ak,sizeLine_eq];simp only [AS,Ai];lia),BE]
  rfl
 have hcs:0<(cut ns (some ((at_:Nat):Int)) none++[1]).length:=by rw [Aa,List.length_singleton];lia
 generalize cut ns (some ((at_:Nat):Int)) none++[1]=cs at cat hcs
 obtain⟨c,hc⟩:=b0y (ns:=ns) (k:=(at_:Nat)) (by lia)
 obtain⟨N,hN,eN⟩:=a1G c
 have hx:∃room:Nat,1≤room∧room≤24∧v7 (.own [.int 24,.int 24,.int 12,.int 5]) (.val (.int (N / 4 % 4)))=some (.val (.int (room:Nat))):=by
  have:N / 4 % 4=0∨N / 4 % 4=1∨N / 4 % 4=2∨N / 4 % 4=3:=by lia
  rcases this with e|e|e|e<;>rw [e]
  ·exact⟨24,by lia,by lia,rfl⟩
  ·exact⟨24,by lia,by lia,rfl⟩
  ·exact⟨12,by lia,by lia,rfl⟩
  ·exact⟨5,by lia,by lia,rfl⟩
 obtain⟨room,hr1,hr2,hx⟩:=hx
 obtain⟨ps,a',x1,x2,x3,x4,_,x6⟩:=a9M hcs 6 3 0 room (by lia) (by lia) hr1 hr2 (by decide) (by decide)
 refine⟨ps,x1,x2,by lia,x4, ?_⟩
 have x6:a2f [.list (cs.map .int),.int 0,.int (room:Nat),.int 3]=_:=x6
 have fz:∀(nn:MS) (s0 s1 s2 s4:Option e8) (L:List PV),a5W 3 nn [s0,s1,s2,some (.ow (.lst L)),s4]=nn [s0,s1,s2,some (.val (.list L)),s4]:=fun _ _ _ _ _ _=>rfl
 unfold R7 a3O
 simp (disch:=omega) only [B6,G4,a2C,d7,d8,b8,f7,d5,c8,d4,S2,f9,g5,k4,a3e,f6,i8,d0,g0,g6,i5,AE,AL,AT,AZ,AU,AO,AR,AX,AY,AS,Ai,↓reduceIte,f8,l4,z6,u3,sz,Nat.reduceAdd,Aq,Int.reduceDiv,gs,cat,hc,eN,hx,fz,x6]
def rdN(N:Nat):List Nat:=(Nat.toDigits 10 N).map Char.toNat
def rdT:A5→List Nat
 | .inl c=>[c]
 | .inr N=>35::(rdN N++[33])
def i7(T:List A5):List Nat:=T.flatMap rdT
theorem Y1(A B:List A5):i7 (A++B)=i7 A++i7 B:=by unfold i7;rw [List.flatMap_append]
theorem w8(t:A5)(B:List A5):i7 (t::B)=rdT t++i7 B:=by unfold i7;rw [List.flatMap_cons]
theorem a3B:∀l:List Nat,i7 (l.map .inl)=l
 |[]=>rfl
 |c::l=>by rw [AL,w8,a3B l];rfl
theorem b7y(N:Nat):AN (toString ((N:Nat):Int))=S (rdN N):=by
 have h:=PySem.W.KIN.signs_num N
 rw [←b4N (AN (toString ((N:Nat):Int))),h]
 rfl
theorem a99(N:Nat):∀x∈rdN N,U0 x=true:=by
 intro x hx
 unfold rdN at hx
 obtain⟨ch,hch,e⟩:=BA.mp hx
 have r:=digit_range (Nat.isDigit_of_mem_toDigits (by decide) (by decide) hch)
 rw [←e]
 exact p5.mpr r
theorem b0a(N:Nat):S8 (rdN N)=N:=PySem.W.KIN.val_back N
theorem b6t(N:Nat):rdN N≠[]:=by
 unfold rdN
 intro e
 have h:=toDigits_len_ge 10 N
 rw [List.map_eq_nil_iff.mp e] at h
 exact absurd h (by decide)
theorem b7B{N:Nat}(h:N.log2<1920):a5U (.val (.int (N:Nat)))=some (.val (row (rdN N))):=by
 show(if((N:Nat):Int).natAbs.log2<1920 then some (e8.val (.str (AN (toString ((N:Nat):Int))))) else none)=_
 rw [Int.natAbs_natCast,if_pos h,b7y]
theorem b7b{N:Nat}(h:(rdN N).length≤640):a3S (.val (row (rdN N)))=some (.val (.int (N:Nat))):=by
 show(if(S (rdN N)).length≤640 then(intText? (S (rdN N))).map (fun n=>e8.val (.int n)) else none)=_
 rw [L8,if_pos h]
 have:=PySem.intText_digits (x:=S (rdN N)) (by rw [T8];exact fun c hc=>p5.mp (a99 N c hc)) (by rw [T8];exact b6t N) (by rw [L8];lia)
 rw [this,T8]
 show some (e8.val (.int ((S8 (rdN N):Nat):Int)))=_
 rw [b0a]
theorem a8X(w:List Nat)(j:Nat):cut w none (some (j:Int))=w.take j:=by
 unfold cut
 rw [HT.sIx_none,HT.sIx_nat,List.drop_zero,Nat.sub_zero]
 by_cases h:j≤w.length
 ·rw [Nat.min_eq_left h]
 ·rw [Nat.min_eq_right (by lia),List.take_of_length_le (AW _),List.take_of_length_le (by lia)]
theorem a2u(w:List Nat)(j:Nat):cut w (some (j:Int)) none=w.drop j:=by
 unfold cut
 rw [HT.sIx_none,HT.sIx_nat]
 by_cases h:j≤w.length
 ·rw [Nat.min_eq_left h,List.take_of_length_le (by rw [List.length_drop];exact AW _)]
 ·rw [Nat.min_eq_right (by lia),List.drop_of_length_le (AW _),List.drop_of_length_le (by lia)]
  simp
theorem T7{w v:List Nat}{lo hi:Option Int}(hl:w.length≤10000)(h:cut w lo hi=v):gSl (.val (row w)) lo hi=some (.val (row v)):=by
 show(if(S w).length≤AQ then some (e8.val (.str ⟨(cut (S w).cps.toList lo hi).toArray⟩)) else none)=_
 rw [L8,if_pos (by rw [sizeLine_eq];lia),T8,h]
 rfl
theorem b5u(a b:Nat)(ds:List Nat):cut (a::(ds++[b])) (some 1) (some (-1))=ds:=by
 have h1:HT.sIx (a::(ds++[b])).length 0 (some 1)=1:=by
  have:=HT.sIx_nat (a::(ds++[b])).length 0 1
  rw [show((1:Nat):Int)=1 from rfl] at this
  rw [this];simp
 have h2:HT.sIx (a::(ds++[b])).length (a::(ds++[b])).length (some (-1))=ds.length+1:=by
  unfold HT.sIx
  simp
  lia
 unfold cut
 rw [h1,h2]
 simp
theorem b7P:AN "abcdefghijklmnopqrstuvwxyz"=S [97,98,99,100,101,102,103,104,105,106,107,108,109,110,111,112,113,114,115,116,117,118,119,120,121,122]:=by decide+kernel
theorem b7a(c:Nat):J7 true (.val (row [c])) (.val (.str (AN "abcdefghijklmnopqrstuvwxyz")))=some (.val (.bool (!lt1 c))):=by
 rw [b7P,a3p,if_pos rfl]
 have:([97,98,99,100,101,102,103,104,105,106,107,108,109,110,111,112,113,114,115,116,117,118,119,120,121,122]:List Nat).contains c=lt1 c:=by
  unfold lt1
  rw [Bool.eq_iff_iff]
  simp
  omega
 rw [this]
theorem a8s:∀{r:List A5},a1s r=none→35∈i7 r
 |[],h=>by cases h
 | .inl c::r,h=>by
   rw [a1s] at h
   cases e:a1s r with
   |some l=>rw [e] at h;cases h
   |none=>rw [w8];exact Au _ (a8s e)
 | .inr N::r,_=>by rw [w8];exact Ay _ Af
theorem b5r(r:List A5):O8 (i7 r)=(a1s r).bind O8:=by
 cases e:a1s r with
 |some l=>rw [a1K e,a3B,AE]
 |none=>
  have h:=a8s e
  show _=none
  unfold O8
  rw [if_neg (fun z=>by rw [z] at h;cases h)]
  have:(i7 r).all U0=false:=by
   rw [Bool.eq_false_iff]
   intro z
   have:=List.all_eq_true.mp z 35 h
   cases this
  rw [this,Bool.false_and,if_neg Aj]
def okW(w:List A5):Prop:=(∀N r,w= .inr N::r→r=[])∧∀c,Sum.inl c∈w→c≠35
theorem b1c{w:List A5}(hw:okW w)(hl:(i7 w).length≤190){q0:Option e8}(a:Int)(q3 q4:Option e8):
 (∀s,a0g w=some s→∃q4',m6 [q0,some (.val (.int a)),some (.val (row (i7 w))),q3,q4]=some (.nx [q0,some (.val (.int (a+(s:Nat)))),some (.val (row (i7 w))),some (.val (.int (s:Nat))),q4']))∧(a0g w=none→m6 [q0,some (.val (.int a)),some (.val (row (i7 w))),q3,q4]=some (.rt (.val .none))):=by
 have s1:AN "#"=S [35]:=rfl
 have e0:AN ""=S []:=rfl
 have c1:((1:Nat):Int)=1:=rfl
 have slh:gSl (.val (row (i7 w))) none (some 1)=some (.val (row ((i7 w).take 1))):=T7 (by lia) (by have:=a8X (i7 w) 1;rw [c1] at this;exact this)
 have slt:gSl (.val (row (i7 w))) (some 1) none=some (.val (row ((i7 w).drop 1))):=T7 (by lia) (by have:=a2u (i7 w) 1;rw [c1] at this;exact this)
 have eh:=a1A ((i7 w).take 1) [35]
 have ee:=a1A (i7 w) []
 have ct:=a7N (w:=(i7 w).drop 1) (by rw [List.length_drop];lia)
 match w,hw with
 |[],_=>
  have eh:Z6 (.val (row [])) (.val (row [35]))=some (.val (.bool false)):=eh
  have ee:Z6 (.val (row [])) (.val (row []))=some (.val (.bool true)):=ee
  have slh:gSl (.val (row [])) none (some 1)=some (.val (row [])):=slh
  have slt:gSl (.val (row [])) (some 1) none=some (.val (row [])):=slt
  have ct:p8 [row [],.int 2]=some (.val (.int 1)):=ct
  refine⟨fun s h=>(by cases h),fun _=> ?_⟩
  show m6 [q0,some (.val (.int a)),some (.val (row [])),q3,q4]=_
  unfold m6
  rw [s1,e0]
  simp (disch:=omega) only [d7,d8,b8,f7,d5,c8,d4,f9,g5,k4,f6,i8,d0,g0,j9,c9,n4,m8,d9,g8,j4,P3,AE,AX,AY,f8,l4,z6,u3,f8,slh,slt,eh,ee,ct]
  try rfl
 | .inr N::r,hw=>
   have hr:=hw.1 N r rfl
   subst hr
   have hlN:(rdN N).length≤640:=by
    rw [w8] at hl
    have:(rdT (.inr N)).length=(rdN N).length+2:=by show(35::(rdN N++[33])).length=_;simp
    rw [Aa,this] at hl
    lia
   have er:i7 [.inr N]=35::(rdN N++[33]):=by rw [w8];show(35::(rdN N++[33]))++[]=_;rw [Ag]
   rw [er] at eh slh hl ⊢
   have eh2:Z6 (.val (row [35])) (.val (row [35]))=some (.val (.bool true)):=eh
   have slh2:gSl (.val (row (35::(rdN N++[33])))) none (some 1)=some (.val (row [35])):=slh
   have sli:gSl (.val (row (35::(rdN N++[33])))) (some 1) (some (-1))=some (.val (row (rdN N))):=T7 (by lia) (b5u _ _ _)
   have it:=b7b hlN
   clear eh slh slt ee ct
   refine⟨fun s h=> ?_,fun h=>(by cases h)⟩
   cases h
   refine⟨q4, ?_⟩
   generalize 35::(rdN N++[33])=W at*
   unfold m6
   rw [s1,e0]
   simp (disch:=omega) only [l9,d7,n0,d8,b8,f7,g5,k4,d0,g0,c9,n4,d9,g8,b19,b5Z,AE,AX,AY,f8,l4,z6,u3,Int.reduceNeg,f8,slh2,sli,eh2,it]
   try rfl
 | .inl c::r,hw=>
   have hc:=hw.2 c Af
   have er:i7 (.inl c::r)=c::i7 r:=by rw [w8];rfl
   rw [er] at eh slh slt ee ct hl ⊢
   have h35:([c]==[35])=false:=by rw [beq_eq_false_iff_ne];intro z;injection z with z _;exact hc z
   have eh2:Z6 (.val (row [c])) (.val (row [35]))=some (.val (.bool false)):=by rw [←h35];exact eh
   have ee2:Z6 (.val (row (c::i7 r))) (.val (row []))=some (.val (.bool false)):=ee
   have slh2:gSl (.val (row (c::i7 r))) none (some 1)=some (.val (row [c])):=slh
   have slt2:gSl (.val (row (c::i7 r))) (some 1) none=some (.val (row (i7 r))):=slt
   have ct2:p8 [row (i7 r),.int 2]=some (.val (b2r (O8 (i7 r)))):=ct
   have ix:v7 (.val (row (c::i7 r))) (.val (.int 0))=some (.val (row [c])):=X1 (pre:=[]) (x:=c) (r:=i7 r) (by rw [AR];lia)
   have az:=b7a c
   rw [b5r] at ct2
   clear eh slh slt ee ct
   have ew:a0g (.inl c::r)=if 97≤c∧c≤122 then(a1s r).bind O8 else none:=rfl
   rw [ew]
   generalize (c::i7 r)=W at*
   by_cases hl1:lt1 c=true
   ·rw [if_pos (a1F.mp hl1)]
    rw [hl1] at az
    have az2:J7 true (.val (row [c])) (.val (.str (AN "abcdefghijklmnopqrstuvwxyz")))=some (.val (.bool false)):=az
    cases hk:(a1s r).bind O8 with
    |none=>
     rw [hk] at ct2
     have ct3:p8 [row (i7 r),.int 2]=some (.val .none):=ct2
     refine⟨fun s h=>(by cases h),fun _=> ?_⟩
     unfold m6
     rw [s1,e0]
     simp (disch:=omega) only [d7,d8,b8,f7,d5,c8,d4,f9,g5,k4,f6,i8,d0,g0,j9,c9,n4,m8,d9,g8,j4,A2,AE,AX,AY,f8,l4,z6,u3,f8,slh2,slt2,eh2,ee2,ct3,ix,az2,a0O]
     try rfl
    |some k=>
     rw [hk] at ct2
     have ct3:p8 [row (i7 r),.int 2]=some (.val (.int (k:Nat))):=ct2
     refine⟨fun s h=> ?_,fun h=>(by cases h)⟩
     cases h
     refine⟨some (.val (.int (k:Nat))), ?_⟩
     unfold m6
     rw [s1,e0]
     simp (disch:=omega) only [l9,d7,d8,b8,f7,d5,c8,d4,f9,g5,k4,d0,g0,c9,m8,g7,d9,g8,j4,A2,AE,AX,AY,f8,l4,z6,u3,f8,slh2,slt2,eh2,ee2,ct3,ix,az2,a06]
     try rfl
   ·rw [if_neg (fun z=>hl1 (a1F.mpr z))]
    have hf:lt1 c=false:=by simpa using hl1
    rw [hf] at az
    have az2:J7 true (.val (row [c])) (.val (.str (AN "abcdefghijklmnopqrstuvwxyz")))=some (.val (.bool true)):=az
    refine⟨fun s h=>(by cases h),fun _=> ?_⟩
    unfold m6
    rw [s1,e0]
    simp (disch:=omega) only [d7,d8,b8,f7,d5,c8,d4,f9,g5,k4,f6,i8,d0,g0,j9,c9,n4,m8,d9,g8,j4,P3,A2,AE,AX,AY,f8,l4,z6,u3,f8,slh2,slt2,eh2,ee2,ct2,ix,az2]
    try rfl
theorem a3F:∀X:List A5,G7 [32] ((D5 X).map i7)=i7 X
 |[]=>rfl
 |t::X=>by
  have ih:=a3F X
  have ne:=X2 X
  rw [D5]
  by_cases c:t= .inl 32
  ·rw [if_pos c,AL]
   cases e:D5 X with
   |nil=>exact absurd e ne
   |cons h l=>
    rw [e] at ih
    rw [AL,R9,←AL,ih,w8,c]
    rfl
  ·rw [if_neg c]
   cases e:D5 X with
   |nil=>exact absurd e ne
   |cons h l=>
    rw [e] at ih
    dsimp only
    rw [AL] at ih ⊢
    rw [w8,w8]
    cases l with
    |nil=>
     have ih:i7 h=i7 X:=ih
     show rdT t++i7 h=_
     rw [ih]
    |cons b l=>
     rw [AL,R9] at ih ⊢
     rw [List.append_assoc,ih]
theorem a6A:∀{X g:List A5} {l:List (List A5)},D5 X=g::l→∃B,X=g++B
 |[],g,l,e=>by cases e;exact⟨[],rfl⟩
 |x::X,g,l,e=>by
  rw [D5] at e
  by_cases cx:x= .inl 32
  ·rw [if_pos cx] at e
   injection e with e1 _
   exact⟨x::X,by rw [←e1];rfl⟩
  ·rw [if_neg cx] at e
   cases e2:D5 X with
   |nil=>exact absurd e2 (X2 X)
   |cons g2 l2=>
    rw [e2] at e
    injection e with e1 _
    obtain⟨B,hB⟩:=a6A e2
    exact⟨B,by rw [←e1,hB];rfl⟩
theorem a1u:∀{X:List A5} {w:List A5},w∈D5 X→(∀t∈w,t≠.inl 32)∧∃A B,X=A++(w++B)
 |[],w,h=>by
  have:w=[]:=by simpa [D5] using h
  subst this
  exact⟨(fun _ z=>nomatch z),[],[],rfl⟩
 |t::X,w,h=>by
  rw [D5] at h
  by_cases c:t= .inl 32
  ·rw [if_pos c] at h
   rcases Ad.mp h with e|h
   ·subst e
    exact⟨(fun _ z=>nomatch z),[],t::X,rfl⟩
   ·obtain⟨h1,A,B,h2⟩:=a1u h
    exact⟨h1,t::A,B,by rw [h2];rfl⟩
  ·rw [if_neg c] at h
   cases e:D5 X with
   |nil=>exact absurd e (X2 X)
   |cons g l=>
    rw [e] at h
    rcases Ad.mp h with z|h
    ·subst z
     obtain⟨h1,_⟩:=a1u (X:=X) (w:=g) (by rw [e];exact Af)
     refine⟨fun u hu=> ?_, ?_⟩
     ·rcases Ad.mp hu with z|z
      ·rw [z];exact c
      ·exact h1 u z
     ·have hg:=a6A e
      obtain⟨B,hB⟩:=hg
      exact⟨[],B,by rw [hB];rfl⟩
    ·obtain⟨h1,A,B,h2⟩:=a1u (X:=X) (w:=w) (by rw [e];exact Ae _ h)
     exact⟨h1,t::A,B,by rw [h2];rfl⟩
theorem b4i{w:List A5}(h:∀t∈w,t≠.inl 32):32∉i7 w:=by
 intro z
 unfold i7 at z
 obtain⟨t,ht,z⟩:=List.mem_flatMap.mp z
 cases t with
 |inl c=>
  have:32=c:=by simpa [rdT] using z
  exact h _ ht (by rw [this])
 |inr N=>
  rcases Ad.mp z with z|z
  ·cases z
  ·rcases Am.mp z with z|z
   ·have:=p5.mp (a99 N 32 z)
    lia
   ·simp at z
structure Wf(X:List A5):Prop where
 nb:∀A N B,X=A++ .inr N::B→pvO A∧nxO B
 sg:∀c,Sum.inl c∈X→c≠35
theorem Wf.word{X:List A5}(h:Wf X)(n41:∀t∈X,t≠.inl 41){w:List A5}(hw:w∈D5 X):okW w:=by
 obtain⟨h1,A,B,e⟩:=a1u hw
 refine⟨fun N r er=> ?_,fun c hc=>h.sg c (by rw [e];exact Au _ (Ay _ hc))⟩
 subst er
 have nx:=(h.nb A N (r++B) e).2
 cases r with
 |nil=>rfl
 |cons t r=>
  exfalso
  rcases nx with z|z|z
  ·cases z
  ·exact h1 t (by simp) (Option.some.inj z)
  ·exact n41 t (by rw [e];simp) (Option.some.inj z)
theorem a6d{q0:Option e8}:∀(ws:List (List A5)) (a:Int) (q2 q3 q4:Option e8),(∀w∈ws,okW w∧(i7 w).length≤190)→
 (∀s,a1v ws=some s→∃q2' q3' q4',O9 m6 (u6 2) (ws.map fun w=>row (i7 w)) [q0,some (.val (.int a)),q2,q3,q4]=some (.nx [q0,some (.val (.int (a+(s:Nat)))),q2',q3',q4']))∧(a1v ws=none→O9 m6 (u6 2) (ws.map fun w=>row (i7 w)) [q0,some (.val (.int a)),q2,q3,q4]=some (.rt (.val .none)))
 |[],a,q2,q3,q4,_=>⟨fun s h=>by cases h;exact⟨q2,q3,q4,by show some _=_;simp⟩,fun h=>by cases h⟩
 |w::ws,a,q2,q3,q4,h=>by
  obtain⟨hw1,hw2⟩:=h w Af
  obtain⟨b1,b2⟩:=b1c hw1 hw2 (q0:=q0) a q3 q4
  have st:O9 m6 (u6 2) ((w::ws).map fun w=>row (i7 w)) [q0,some (.val (.int a)),q2,q3,q4]=(m6 [q0,some (.val (.int a)),some (.val (row (i7 w))),q3,q4]).bind fun f=>match f with
   | .nx ρ'=>O9 m6 (u6 2) (ws.map fun w=>row (i7 w)) ρ'
   | .ct ρ'=>O9 m6 (u6 2) (ws.map fun w=>row (i7 w)) ρ'
   | .bk ρ'=>some (.nx ρ')
   | .rt r=>some (.rt r):=rfl
  rw [st,a1v]
  cases e:a0g w with
  |none=>rw [b2 e];exact⟨fun s z=>(by cases z),fun _=>rfl⟩
  |some s=>
   obtain⟨q4',b⟩:=b1 s e
   rw [b,AE]
   obtain⟨i1,i2⟩:=a6d (q0:=q0) ws (a+(s:Nat)) (some (.val (row (i7 w)))) (some (.val (.int (s:Nat)))) q4' fun v hv=>h v (Ae _ hv)
   refine⟨fun r hr=> ?_,fun hr=> ?_⟩
   ·cases e2:a1v ws with
    |none=>rw [e2] at hr;cases hr
    |some y=>
     rw [e2] at hr
     cases hr
     obtain⟨x2,x3,x4,z⟩:=i1 y e2
     refine⟨x2,x3,x4, ?_⟩
     rw [Int.natCast_add,←Int.add_assoc]
     exact z
   ·cases e2:a1v ws with
    |none=>exact i2 e2
    |some y=>rw [e2] at hr;cases hr
theorem b1U{ls:List (List Nat)}:∀{l:List Nat},l∈ls→l.length≤(G7 [32] ls).length:=by
 induction ls with
 |nil=>intro l h;cases h
 |cons a r ih=>
  intro l h
  cases r with
  |nil=>
   have:l=a:=by simpa using h
   rw [this];exact AW _
  |cons b r=>
   rw [R9,Aa,AS]
   rcases Ad.mp h with e|h
   ·rw [e];lia
   ·have:=ih h;lia
theorem a9I{X:List A5}(h:Wf X)(n41:∀t∈X,t≠.inl 41)(hl:(i7 X).length≤190):G5 [row (i7 X)]=some (.val (b2r (K2 X))):=by
 have hg:=a3F X
 have h0:(D5 X).map i7≠[]:=fun z=>X2 X (List.map_eq_nil_iff.mp z)
 have h1:∀p∈(D5 X).map i7,32∉p:=fun p hp=>by
  obtain⟨w,hw,rfl⟩:=BA.mp hp
  exact b4i (a1u hw).1
 have hlen:(D5 X).length≤1000:=by
  have:∀X:List A5,(D5 X).length≤(i7 X).length+1:=fun X=>by
   induction X with
   |nil=>exact AW _
   |cons t X ih=>
    have pos:1≤(rdT t).length:=by
     cases t with
     |inl c=>exact AW _
     |inr N=>show 1≤(35::_).length;rw [AS];lia
    rw [D5,w8,Aa]
    by_cases c:t= .inl 32
    ·rw [if_pos c,AS];lia
    ·rw [if_neg c]
     cases e:D5 X with
     |nil=>exact absurd e (X2 X)
     |cons g l=>
      rw [e,AS] at ih
      show(((t::g)::l).length)≤_
      rw [AS]
      lia
  have:=this X
  lia
 have hs:a3n (.val (row (i7 X))) (.val (.str (S [32])))=some (.own ((D5 X).map fun w=>row (i7 w))):=by
  show(if(((S [32]).length==0)=false∧(S (i7 X)).length≤AQ∧(Txt.split (S (i7 X)) (S [32])).length≤AQ) then some (e8.own ((Txt.split (S (i7 X)) (S [32])).map .str)) else none)=_
  rw [a9p h0 h1 hg,if_pos ⟨rfl,by rw [L8,sizeLine_eq];lia,by rw [Ak,Ak,sizeLine_eq];lia⟩,Ax,Ax]
  rfl
 obtain⟨l1,l2⟩:=a6d (q0:=some (.val (row (i7 X)))) (D5 X) 0 none none none fun w hw=>⟨h.word n41 hw,by
  have:=b1U (ls:=(D5 X).map i7) (BA.mpr ⟨w,hw,rfl⟩)
  rw [hg] at this
  lia⟩
 have sp:AN " "=S [32]:=rfl
 have hit:∀G:List PV,PyData.items? (.list G)=some G:=fun _=>rfl
 unfold K2
 generalize ((D5 X).map fun w=>row (i7 w))=G at hs l1 l2
 unfold G5 a4F
 rw [sp]
 cases e:a1v (D5 X) with
 |none=>
  have l2:=l2 e
  simp (disch:=omega) only [d7,d8,b8,a1L,g5,k4,d0,g0,j9,g6,i5,D8,AE,AL,AT,AZ,AU,AO,AR,AX,AY,Q1,hs,hit,l2]
  try rfl
 |some s=>
  obtain⟨q2,q3,q4,l1⟩:=l1 s e
  rw [Int.zero_add] at l1
  simp (disch:=omega) only [d7,d8,b8,a1L,g5,k4,d0,g0,g6,i5,D8,AE,AL,AT,AZ,AU,AO,AR,AX,AY,Q1,a4s,a4t,hs,hit,l1]
  try rfl
theorem a6Q:∀(n:Nat) (cs:List Nat),cs.length=n→(∀x∈cs,U0 x=true)→S8 cs<10 ^ n
 |0,cs,h,_=>by
  have:cs=[]:=List.eq_nil_of_length_eq_zero h
  rw [this]
  decide
 |n+1,cs,h,hd=>by
  have hne:cs≠[]:=fun z=>by rw [z] at h;cases h
  have e:=List.dropLast_concat_getLast hne
  have hl:cs.dropLast.length=n:=by rw [List.length_dropLast];lia
  have ih:=a6Q n cs.dropLast hl fun x hx=>hd x (List.dropLast_subset cs hx)
  have hg:=p5.mp (hd _ (List.getLast_mem hne))
  have:=PySem.NumText.digitsVal_snoc cs.dropLast (cs.getLast hne)
  rw [e] at this
  show PySem.NumText.digitsVal cs<_
  have ih:PySem.NumText.digitsVal cs.dropLast<10 ^ n:=ih
  rw [this,Nat.pow_succ]
  lia
theorem b6s(N:Nat):N<10 ^(rdN N).length:=by
 have:=a6Q _ (rdN N) rfl (a99 N)
 rw [b0a] at this
 exact this
theorem b2K{N k:Nat}(hk:1≤k)(h:N<10 ^ k):(rdN N).length≤k:=by
 unfold rdN
 rw [Ak]
 have:=digitsCore_len_pow 10 (by lia) k (N+1) N [] hk h
 simpa [Nat.toDigits] using this
theorem a6O{w:List Nat}{k:Nat}(h:O8 w=some k):k<10 ^(w.length+1)∧(w≠[]→k<10 ^ w.length):=by
 unfold O8 at h
 split at h
 ·rename_i e
  cases h
  rw [e]
  exact⟨by decide,fun z=>absurd rfl z⟩
 ·split at h
  ·rename_i c
   cases h
   rw [Bool.and_eq_true] at c
   have:=a6Q _ w rfl fun x hx=>List.all_eq_true.mp c.1 x hx
   refine⟨?_,fun _=>this⟩
   rw [Nat.pow_succ]
   lia
  ·cases h
theorem a8H{w:List A5}{s:Nat}(h:a0g w=some s):s<10 ^(i7 w).length:=by
 unfold a0g at h
 split at h
 ·rename_i N
  cases h
  have:=b6s s
  have e:(i7 [.inr s]).length=(rdN s).length+2:=by rw [w8];show((35::(rdN s++[33]))++[]).length=_;simp
  rw [e,Nat.pow_add]
  lia
 ·rename_i c r
  split at h
  ·cases e:a1s r with
   |none=>rw [e] at h;cases h
   |some l=>
    rw [e,AE] at h
    have h1:=(a6O h).1
    have e2:(i7 (.inl c::r)).length=l.length+1:=by rw [w8,a1K e,a3B];show([c]++l).length=_;simp
    rw [e2];exact h1
  ·cases h
 ·cases h
theorem b0h:∀{ws:List (List A5)} {s:Nat},ws≠[]→a1v ws=some s→s<10 ^(G7 [32] (ws.map i7)).length
 |[],_,h,_=>absurd rfl h
 |[w],s,_,h=>by
  rw [a1v] at h
  cases e:a0g w with
  |none=>rw [e] at h;cases h
  |some a=>
   rw [e] at h
   cases h
   exact a8H e
 |w::v::ws,s,_,h=>by
  rw [a1v] at h
  cases e:a0g w with
  |none=>rw [e] at h;cases h
  |some a=>
   rw [e,AE] at h
   cases e2:a1v (v::ws) with
   |none=>rw [e2] at h;cases h
   |some b=>
    rw [e2] at h
    cases h
    have h1:=a8H e
    have h2:=b0h (by simp) e2
    rw [AL,AL,R9,←AL,Aa,AS]
    generalize (i7 w).length=i at*
    generalize (G7 [32] ((v::ws).map i7)).length=j at*
    have e3:i+(j+1)=i+j+1:=by lia
    have p1:10 ^ i≤10 ^(i+j):=Nat.pow_le_pow_right (by lia) (by lia)
    have p2:10 ^ j≤10 ^(i+j):=Nat.pow_le_pow_right (by lia) (by lia)
    rw [e3,Nat.pow_succ]
    show a+b<_
    lia
theorem a7V{X:List A5}{s:Nat}(h:K2 X=some s):s<10 ^(i7 X).length:=by
 have:=b0h (X2 X) h
 rw [a3F] at this
 exact this
theorem b5W{N k:Nat}(hk:k≤190)(h:N<10 ^ k):N.log2<1920:=by
 by_cases h0:N=0
 ·rw [h0];decide
 ·rw [Nat.log2_lt h0]
  have h1:10 ^ k≤10 ^ 190:=Nat.pow_le_pow_right (by lia) hk
  have h2:10 ^ 190≤2 ^ 1920:=by decide+kernel
  lia
theorem a9H{pre s:List Nat}{c:Nat}:a9G (S (pre++s)) (S [c]) (pre.length:Nat)=if(A3 (· !=c) s).2=[] then -1 else((pre.length+(A3 (· !=c) s).1.length:Nat):Int):=by
 have sp:=PySem.StrLaws.find3_spec (S (pre++s)) c (pre.length:Nat)
 have f:fromIndex (S (pre++s)).length (pre.length:Nat)=pre.length:=by
  unfold fromIndex
  rw [if_neg (by lia)]
  lia
 have gd:∀v,(S (pre++s)).cps.getD v 0=(pre++s).getD v 0:=fun v=>by simp [S,Array.getD,List.getD_eq_getElem?_getD];split<;>simp_all
 rw [f,L8] at sp
 simp only [gd] at sp
 have ap:=a0d (· !=c) s
 have ha:=a0c (· !=c) s
 have hs:=a0G (· !=c) s
 obtain⟨a,hA⟩:∃a,a=(A3 (· !=c) s).1:=⟨_,rfl⟩
 obtain⟨b,hB⟩:∃b,b=(A3 (· !=c) s).2:=⟨_,rfl⟩
 rw [←hA] at ap ha ⊢
 rw [←hB] at ap hs ⊢
 subst ap
 have show_:a9G (S (pre++(a++b))) (S [c]) (pre.length:Nat)=Txt.find3 (S (pre++(a++b))) ⟨#[c]⟩ (pre.length:Nat):=rfl
 rw [show_]
 have inA:∀v,pre.length≤v→v<pre.length+a.length→(pre++(a++b)).getD v 0≠c:=fun v h1 h2=>by
  rw [List.getD_eq_getElem?_getD,List.getElem?_append_right h1,BC (by lia),Az (by lia)]
  have:=ha _ (List.getElem_mem (l:=a) (n:=v - pre.length) (by lia))
  simpa using this
 cases hb:b with
 |nil=>
  rw [if_pos rfl]
  rcases sp with⟨h,_⟩|⟨k,_,h2,h3,h4,_⟩
  ·rw [hb] at h;exact h
  ·exfalso
   rw [hb] at h3
   simp at h3
   exact inA k h2 (by lia) h4
 |cons y r=>
  rw [if_neg (by simp)]
  have hy:y=c:=by have:=hs y r hb;simpa using this
  have aty:(pre++(a++b)).getD (pre.length+a.length) 0=c:=by
   rw [hb,List.getD_eq_getElem?_getD,List.getElem?_append_right (by lia),List.getElem?_append_right (by lia),show pre.length+a.length - pre.length - a.length=0 by lia]
   exact hy
  rcases sp with⟨_,h⟩|⟨k,h1,h2,h3,h4,h5⟩
  ·exact absurd aty (h _ (by lia) (by rw [hb];simp))
  ·rw [hb] at h1
   rw [h1]
   have hk1:¬k<pre.length+a.length:=fun z=>inA k h2 z h4
   have hk2:¬pre.length+a.length<k:=fun z=>h5 _ (by lia) z aty
   have:k=pre.length+a.length:=by lia
   rw [this]
theorem a6K{l:List Nat}{c i:Nat}:StrLaws.At (S l) (S [c]) (S l).length i↔l[i]?=some c:=by
 unfold StrLaws.At Builtin.Str.subAt
 rw [L8,L8]
 have e:(S l).cps.extract i (i+[c].length)=((l.drop i).take 1).toArray:=by
  apply Array.ext'
  rw [Array.toList_extract,T8]
  simp [List.extract]
 rw [e]
 have e2:(((l.drop i).take 1).toArray==(S [c]).cps)=((l.drop i).take 1==[c]):=by
  show(((l.drop i).take 1).toArray==[c].toArray)=_
  simp
 rw [e2,beq_iff_eq]
 by_cases h:i<l.length
 ·rw [List.drop_eq_getElem_cons h,Az h]
  constructor
  ·rintro⟨_,z⟩
   have z:[l[i]]=[c]:=z
   injection z with z _
   rw [z]
  ·intro z
   have z:=Option.some.inj z
   exact⟨by rw [List.length_singleton];lia,by show [l[i]]=[c];rw [z]⟩
 ·rw [List.getElem?_eq_none (by lia),List.drop_of_length_le (by lia)]
  simp
theorem a5u{a b:List Nat}{c:Nat}(h:c∉b):a3C (S (a++c::b)) (S [c])=(a.length:Nat):=by
 unfold a3C
 have hat:(a++c::b)[a.length]?=some c:=by rw [List.getElem?_append_right (AW _),Nat.sub_self];rfl
 rcases StrLaws.last_spec (S (a++c::b)) (S [c]) with⟨h1,h2⟩|⟨i,h1,h2,h3⟩
 ·exact absurd (a6K.mpr hat) (h2 a.length)
 ·rw [h1]
  have hi:=a6K.mp h2
  have n1:¬i<a.length:=fun z=>h3 a.length z (a6K.mpr hat)
  have n2:¬a.length<i:=fun z=>by
   rw [List.getElem?_append_right (by lia)] at hi
   obtain⟨j,hj⟩:∃j,i - a.length=j+1:=⟨i - a.length - 1,by lia⟩
   rw [hj,List.getElem?_cons_succ] at hi
   exact h (BD hi)
  have:i=a.length:=by lia
  rw [this]
theorem a9o{l:List Nat}{c:Nat}(h:c∉l):a3C (S l) (S [c])= -1:=by
 unfold a3C
 rcases StrLaws.last_spec (S l) (S [c]) with⟨h1,h2⟩|⟨i,h1,h2,h3⟩
 ·rw [h1]
 ·exact absurd (BD (a6K.mp h2)) h
theorem a6v{X:List A5}{c:Nat}(hc:c=40∨c=41)(h:∀t∈X,t≠.inl c):c∉i7 X:=by
 intro z
 unfold i7 at z
 obtain⟨t,ht,z⟩:=List.mem_flatMap.mp z
 cases t with
 |inl d=>
  have:c=d:=by simpa [rdT] using z
  exact h _ ht (by rw [this])
 |inr N=>
  rcases Ad.mp z with z|z
  ·lia
  ·rcases Am.mp z with z|z
   ·have:=p5.mp (a99 N c z)
    lia
   ·simp at z;lia
theorem a7S{q1 q2 q4 q5:Option e8}{post:List Nat}(hp:noF post){T:List Nat}(hT:T.length≤10000):∀(ds pre:List Nat) (fuel:Nat),T=pre++(ds++post)→(∀x∈ds,U0 x=true)→ds.length<fuel→
 y0 (W8 (E3 (m2 a2d (b7 3) (m1 U6 (b7 0)))) (E3 (m2 (J7 false) (m2 v7 (b7 0) (b7 3)) (mC (.str "0123456789"))))) Q8 fuel [some (.val (row T)),q1,q2,some (.val (.int (pre.length:Nat))),q4,q5]
  =some (.nx [some (.val (row T)),q1,q2,some (.val (.int ((pre.length+ds.length:Nat):Int))),q4,q5])
 |[],pre,fuel,e,_,hf=>by
  obtain⟨fuel,rfl⟩:∃k,fuel=k+1:=⟨fuel - 1,by have:([]:List Nat).length=0:=rfl;lia⟩
  have gl:=N9 hT
  have c:W8 (E3 (m2 a2d (b7 3) (m1 U6 (b7 0)))) (E3 (m2 (J7 false) (m2 v7 (b7 0) (b7 3)) (mC (.str "0123456789")))) [some (.val (row T)),q1,q2,some (.val (.int (pre.length:Nat))),q4,q5]=some false:=by
   cases post with
   |nil=>
    have hlt:decide ((pre.length:Int)<(T.length:Nat))=false:=decide_eq_false (by rw [e];simp)
    simp (disch:=omega) only [C5,d7,n0,b8,f7,d9,g8,p9,a15,AE,gl,hlt]
   |cons y r=>
    have hlt:decide ((pre.length:Int)<(T.length:Nat))=true:=decide_eq_true (by rw [e];simp;lia)
    have sa:v7 (.val (row T)) (.val (.int (pre.length:Nat)))=some (.val (row [y])):=by rw [e];exact X1 (by rw [e] at hT;exact hT)
    have hy:=a89 false y
    rw [hp y r rfl] at hy
    have hy:J7 false (.val (row [y])) (.val (.str (AN "0123456789")))=some (.val (.bool false)):=hy
    simp (disch:=omega) only [C5,d7,n0,d8,b8,f7,d9,g8,p9,S6,AE,gl,hlt,sa,hy]
  rw [y0,c,AE,if_neg Aj]
  rfl
 |d::ds,pre,fuel,e,hd,hf=>by
  obtain⟨fuel,rfl⟩:∃k,fuel=k+1:=⟨fuel - 1,by rw [AS] at hf;lia⟩
  rw [AS] at hf
  have gl:=N9 hT
  have e':T=pre++d::(ds++post):=e
  have hlt:decide ((pre.length:Int)<(T.length:Nat))=true:=decide_eq_true (by rw [e'];simp;lia)
  have sa:v7 (.val (row T)) (.val (.int (pre.length:Nat)))=some (.val (row [d])):=by rw [e'];exact X1 (by rw [e'] at hT;exact hT)
  have hy:=a89 false d
  rw [hd d Af] at hy
  have hy:J7 false (.val (row [d])) (.val (.str (AN "0123456789")))=some (.val (.bool true)):=hy
  have c:W8 (E3 (m2 a2d (b7 3) (m1 U6 (b7 0)))) (E3 (m2 (J7 false) (m2 v7 (b7 0) (b7 3)) (mC (.str "0123456789")))) [some (.val (row T)),q1,q2,some (.val (.int (pre.length:Nat))),q4,q5]=some true:=by
   simp (disch:=omega) only [C5,d7,n0,d8,b8,f7,d9,g8,p9,S6,AE,gl,hlt,sa,hy]
  have e1:(pre.length:Int)+1=((pre++[d]).length:Nat):=by rw [Aa,List.length_singleton,Int.natCast_add];rfl
  have b:Q8 [some (.val (row T)),q1,q2,some (.val (.int (pre.length:Nat))),q4,q5]=some (.nx [some (.val (row T)),q1,q2,some (.val (.int ((pre++[d]).length:Nat))),q4,q5]):=by
   unfold Q8
   simp (disch:=omega) only [l9,d7,d8,b8,f7,g5,k4,AE,AX,AY,e1]
  have ih:=a7S (q1:=q1) (q2:=q2) (q4:=q4) (q5:=q5) hp hT ds (pre++[d]) fuel (by rw [e];simp) (fun x hx=>hd x (Ae _ hx)) (by lia)
  rw [y0,c,AE,if_pos rfl,b,AE]
  show y0 _ _ fuel _=_
  rw [ih,Aa,List.length_singleton,AS,show pre.length+1+ds.length=pre.length+(ds.length+1) by lia]
theorem a9T(neg:Bool)(w:List Nat)(W:List (List Nat))(hok:N5 (W.map row) 50=true):J7 neg (.val (row w)) (.val (.tuple (W.map row)))=some (.val (.bool (if neg=true then !(W.contains w) else W.contains w))):=by
 have h0:J7 neg (.val (row w)) (.val (.tuple (W.map row)))=gIn neg (.val (row w)) (.val (.tuple (W.map row))):=rfl
 have any:∀l:List (List Nat),((l.map row).any fun p=>PyData.eqv p (row w))=l.contains w:=by
  intro l
  induction l with
  |nil=>rfl
  |cons z l ih=>
   rw [AL,List.any_cons,ih,List.contains_cons,b63]
   congr 1
   rw [Bool.eq_iff_iff,beq_iff_eq,beq_iff_eq];exact⟨fun h=>h.symm,fun h=>h.symm⟩
 rw [h0]
 show(if v5 (row w) 50=true∧N5 (W.map row) 50=true then some (e8.val (.bool (if neg=true then !((W.map row).any fun p=>PyData.eqv p (row w)) else((W.map row).any fun p=>PyData.eqv p (row w))))) else none)=_
 rw [if_pos ⟨rfl,hok⟩,any]
theorem a6X{α:Type}(X:List α)(y:α)(C:List α):(X++y::C).getLast?=(y::C).getLast?:=by
 rw [List.getLast?_append,List.getLast?_cons]
 rfl
def a3t(l:List Nat):List Nat:=match l.getLast? with
 |some x=>[x]
 |none=>[]
theorem b1y(a s:List Nat):cut (a++s) (some ((a.length:Int) - 1)) (some (a.length:Nat))=a3t a:=by
 rcases List.eq_nil_or_concat a with e|⟨b,x,e⟩
 ·subst e
  unfold cut
  have h2:HT.sIx (([]:List Nat)++s).length (([]:List Nat)++s).length (some ((([]:List Nat).length:Nat):Int))=0:=by rw [HT.sIx_nat];simp
  rw [h2]
  simp [a3t]
 ·rw [List.concat_eq_append] at e
  subst e
  have e1:(((b++[x]).length:Nat):Int) - 1=(b.length:Nat):=by rw [Aa,List.length_singleton];lia
  have e2:(((b++[x]).length:Nat):Int)=((b.length+[x].length:Nat):Int):=by rw [Aa]
  rw [e1,e2,List.append_assoc,a4k]
  unfold a3t
  rw [List.getLast?_append]
  rfl
theorem b7u(A:List A5):([[],[32],[40]]:List (List Nat)).contains (a3t (i7 A))=true↔pvO A:=by
 rcases List.eq_nil_or_concat A with e|⟨B,t,e⟩
 ·subst e
  exact⟨fun _=> .inl rfl,fun _=>rfl⟩
 ·rw [List.concat_eq_append] at e
  subst e
  have hg:(B++[t]).getLast?=some t:=by simp
  have hr:i7 (B++[t])=i7 B++rdT t:=by rw [Y1,w8];show _++(rdT t++[])=_;rw [Ag]
  unfold pvO
  rw [hr,hg]
  cases t with
  |inl c=>
   have hl:a3t (i7 B++rdT (.inl c))=[c]:=by unfold a3t;rw [List.getLast?_append];rfl
   rw [hl]
   simp
  |inr N=>
   have hl:a3t (i7 B++rdT (.inr N))=[33]:=by
    unfold a3t
    have:(rdT (.inr N)).getLast?=some 33:=by
     show((35::rdN N)++33::[]).getLast?=_
     rw [a6X]
     rfl
    rw [List.getLast?_append,this]
    rfl
   rw [hl]
   simp
theorem b7g(B:List A5):([[],[32],[41]]:List (List Nat)).contains ((i7 B).take 1)=true↔nxO B:=by
 cases B with
 |nil=>exact⟨fun _=> .inl rfl,fun _=>rfl⟩
 |cons t B=>
  rw [w8]
  unfold nxO
  cases t with
  |inl c=>
   show([[],[32],[41]]:List (List Nat)).contains [c]=true↔_
   simp
  |inr N=>
   show([[],[32],[41]]:List (List Nat)).contains [35]=true↔_
   simp
theorem b2V(Y:List A5):noF (i7 (B2 Y).2)∧∀x∈(B2 Y).1,U0 x=true:=by
 induction Y with
 |nil=>exact⟨fun _ _ e=>(by cases e),fun _ h=>(by cases h)⟩
 |cons t Y ih=>
  cases t with
  |inr N=>exact⟨fun y r e=>by cases e;rfl,fun _ h=>(by cases h)⟩
  |inl c=>
   rw [B2]
   by_cases h:U0 c=true
   ·rw [if_pos h]
    refine⟨ih.1,fun x hx=> ?_⟩
    rcases Ad.mp hx with z|z
    ·rw [z];exact h
    ·exact ih.2 x z
   ·rw [if_neg h]
    refine⟨fun y r e=> ?_,fun _ z=>(by cases z)⟩
    rw [w8] at e
    injection e with e _
    rw [←e]
    simpa using h
theorem Wf.step{A B M:List A5}(h:Wf (A++(.inl 40::(M++B))))(m:Nat)(pv:pvO A)(nx:nxO B):Wf (A++ .inr m::B) where
 sg:=fun c hc=>h.sg c (by
  rcases Am.mp hc with z|z
  ·exact Ay _ z
  ·rcases Ad.mp z with z|z
   ·cases z
   ·exact Au _ (Ae _ (Au _ z)))
 nb:=fun A1 N B1 e=>by
  rcases Z2 e with⟨C,c1,c2⟩|⟨C,c1,c2⟩
  ·have:=h.nb A1 N (C++(.inl 40::(M++B))) (by rw [c1];simp)
   refine⟨this.1, ?_⟩
   rw [c2]
   cases C with
   |nil=>
    rcases this.2 with z|z|z
    ·cases z
    ·cases z
    ·cases z
   |cons x C=>
    rcases this.2 with z|z|z
    ·cases z
    ·exact .inr (.inl z)
    ·exact .inr (.inr z)
  ·cases C with
   |nil=>
    injection c2 with d1 d2
    rw [c1,Ag,←d2]
    exact⟨pv,nx⟩
   |cons x C=>
    injection c2 with d1 d2
    subst d1
    have:=h.nb (A++(.inl 40::(M++C))) N B1 (by rw [d2];simp)
    refine⟨?_,this.2⟩
    rw [c1]
    cases C with
    |nil=>
     rw [d2] at nx
     rcases nx with z|z|z
     ·cases z
     ·cases z
     ·cases z
    |cons y C=>
     have g1:(A++Sum.inr m::y::C).getLast?=(y::C).getLast?:=by
      have:A++Sum.inr m::y::C=(A++[Sum.inr m])++y::C:=by simp
      rw [this,a6X]
     have g2:(A++(.inl 40::(M++y::C))).getLast?=(y::C).getLast?:=by
      have:A++(Sum.inl 40::(M++y::C))=(A++Sum.inl 40::M)++(y::C):=by simp
      rw [this,a6X]
     have tp:=this.1
     unfold pvO at tp
     rw [g2] at tp
     rcases tp with z|z|z
     ·cases A<;>cases z
     ·exact .inr (.inl (by rw [g1];exact z))
     ·exact .inr (.inr (by rw [g1];exact z))
abbrev szR(t:List Nat)(q1 q2 q3 q4 q5:Option e8):c7:=[some (.val (row t)),q1,q2,q3,q4,q5]
theorem b1l:AN "("=S [40]:=rfl
theorem b1m:AN ")"=S [41]:=rfl
theorem b2T(a b:List Nat)(h:41∉a):A3 (· !=41) (a++41::b)=(a,41::b):=by
 induction a with
 |nil=>rfl
 |cons x a ih=>
  have hx:x≠41:=fun z=>h (by rw [z];exact Af)
  rw [AO,A3,if_pos (by simpa using hx),ih fun z=>h (Ae _ z)]
theorem b2U(a:List Nat)(h:41∉a):(A3 (· !=41) a).2=[]:=by
 induction a with
 |nil=>rfl
 |cons x a ih=>
  have hx:x≠41:=fun z=>h (by rw [z];exact Af)
  rw [A3,if_pos (by simpa using hx)]
  exact ih fun z=>h (Ae _ z)
theorem a5G:∀{T:List A5},a0e T=none→∀t∈T,t≠.inl 41
 |[],_,t,ht=>nomatch ht
 |t::r,h,u,hu=>by
  rw [a0e] at h
  by_cases c:t= .inl 41
  ·rw [if_pos c] at h;cases h
  ·rw [if_neg c] at h
   cases e:a0e r with
   |some x=>rw [e] at h;cases h
   |none=>
    rcases Ad.mp hu with z|z
    ·rw [z];exact c
    ·exact a5G e u z
theorem a4R(t:List Nat)(i:Int):a4Q (.val (row t)) (.val (row [41])) (.val (.int i))=some (.val (.int (a9G (S t) (S [41]) i))):=rfl
theorem a86(t:List Nat):a3m (.val (row t)) (.val (row [40]))=some (.val (.int (a3C (S t) (S [40])))):=rfl
theorem b07{t:List Nat}(h:40∉t)(q1 q2 q3 q4 q5:Option e8):o8 (szR t q1 q2 q3 q4 q5)=some (.rt (.val .none)):=by
 have rf:=a86 t
 rw [a9o h] at rf
 have hm:(if(0:Int)> -1 then(0:Int) else -1)=0:=rfl
 have g1:decide ((-1:Int)<0)=true:=rfl
 unfold o8
 rw [b1l,b1m]
 simp (disch:=omega) only [x9,C5,d7,d8,b8,f7,g5,k4,f6,i8,d0,g0,j9,c9,n4,d9,g8,j4,P3,AE,AX,AY,Int.reduceNeg,rf,C3,hm,a4R,g1]
 try rfl
theorem b08{a b:List Nat}(h:40∉b)(h41:41∉b)(q1 q2 q3 q4 q5:Option e8):o8 (szR (a++40::b) q1 q2 q3 q4 q5)=some (.rt (.val .none)):=by
 have rf:=a86 (a++40::b)
 rw [a5u h] at rf
 have fd:=a4R (a++40::b) (a.length:Nat)
 have fe:=a9H (pre:=a) (s:=40::b) (c:=41)
 rw [b2U (40::b) (fun z=>(Ad.mp z).elim (fun z=>by cases z) h41),if_pos rfl] at fe
 rw [fe] at fd
 have hm:(if(0:Int)>(a.length:Int) then(0:Int) else(a.length:Int))=(a.length:Int):=if_neg (by lia)
 have g1:decide ((a.length:Int)<0)=false:=decide_eq_false (by lia)
 have g2:decide ((-1:Int)<0)=true:=rfl
 unfold o8
 rw [b1l,b1m]
 generalize a++40::b=T at*
 simp (disch:=omega) only [x9,C5,d7,d8,b8,f7,g5,k4,f6,i8,d0,g0,j9,c9,n4,d9,g8,j4,A2,AE,AX,AY,Int.reduceNeg,rf,C3,hm,fd,g1,g2]
 try rfl
theorem b71:N5 (([[],[32],[40]]:List (List Nat)).map row) 50=true:=by decide+kernel
theorem b72:N5 (([[],[32],[41]]:List (List Nat)).map row) 50=true:=by decide+kernel
theorem b4A{A X B:List A5}{ds:List Nat}(h:Wf (A++ .inl 40::(X++ .inl 41::(ds.map .inl++B))))(n40:∀t∈X++ .inl 41::(ds.map .inl++B),t≠.inl 40)(n41:∀t∈X,t≠.inl 41)(hd:∀x∈ds,U0 x=true)(hB:noF (i7 B))(hl:(i7 (A++ .inl 40::(X++ .inl 41::(ds.map .inl++B)))).length≤190)(q1 q2 q3 q4 q5:Option e8):
 (∀s k,K2 X=some s→O8 ds=some k→ds≠[]→pvO A→nxO B→∃q1' q2' q3' q4' q5',o8 (szR (i7 (A++ .inl 40::(X++ .inl 41::(ds.map .inl++B)))) q1 q2 q3 q4 q5)=some (.nx (szR (i7 (A++ .inr (s*k)::B)) q1' q2' q3' q4' q5')))∧
 ((K2 X=none∨O8 ds=none∨ds=[]∨¬pvO A∨¬nxO B)→o8 (szR (i7 (A++ .inl 40::(X++ .inl 41::(ds.map .inl++B)))) q1 q2 q3 q4 q5)=some (.rt (.val .none))):=by
 have eR:i7 (X++ .inl 41::(ds.map .inl++B))=i7 X++41::(ds++i7 B):=by rw [Y1,w8,Y1,a3B];rfl
 have eT:i7 (A++ .inl 40::(X++ .inl 41::(ds.map .inl++B)))=i7 A++40::(i7 X++41::(ds++i7 B)):=by rw [Y1,w8,eR];rfl
 have m40:40∉i7 X++41::(ds++i7 B):=by rw [←eR];exact a6v (.inl rfl) n40
 have m41:41∉40::i7 X:=fun z=>by
  rcases Ad.mp z with z|z
  ·cases z
  ·exact a6v (.inr rfl) n41 z
 have wX:Wf X:={
  nb:=fun A1 N B1 e=>by
   have:=h.nb (A++ .inl 40::A1) N (B1++ .inl 41::(ds.map .inl++B)) (by rw [e];simp)
   refine⟨?_, ?_⟩
   ·have tp:=this.1
    unfold pvO at tp ⊢
    cases hA:A1 with
    |nil=>exact .inl rfl
    |cons y C=>
     rw [hA] at tp
     have e1:A++Sum.inl 40::(y::C)=(A++[Sum.inl 40])++y::C:=by simp
     rw [e1,a6X] at tp
     rcases tp with z|z|z
     ·cases A<;>cases z
     ·exact .inr (.inl z)
     ·exact .inr (.inr z)
   ·cases hB1:B1 with
    |nil=>exact .inl rfl
    |cons y C=>
     rw [hB1] at this
     rcases this.2 with z|z|z
     ·cases z
     ·exact .inr (.inl z)
     ·exact .inr (.inr z)
  sg:=fun c hc=>h.sg c (by simp [hc])}
 rw [eT] at hl ⊢
 have hl':=hl
 rw [Aa,AS,Aa,AS,Aa] at hl'
 have fl:=a9I wX n41 (by lia)
 have ct:=a7N (w:=ds) (by lia)
 have rf:=a86 (i7 A++40::(i7 X++41::(ds++i7 B)))
 rw [a5u m40] at rf
 have fd:=a4R (i7 A++40::(i7 X++41::(ds++i7 B))) ((i7 A).length:Nat)
 have fe:=a9H (pre:=i7 A) (s:=(40::i7 X)++41::(ds++i7 B)) (c:=41)
 rw [b2T _ _ m41,if_neg (by simp)] at fe
 have fd:a4Q (.val (row (i7 A++40::(i7 X++41::(ds++i7 B))))) (.val (row [41])) (.val (.int ((i7 A).length:Nat)))=some (.val (.int (((i7 A).length+((i7 X).length+1):Nat):Int))):=by
  rw [fd]
  have:i7 A++40::(i7 X++41::(ds++i7 B))=i7 A++((40::i7 X)++41::(ds++i7 B)):=rfl
  rw [this,fe]
  rfl
 have hm:(if(0:Int)>((i7 A).length:Int) then(0:Int) else((i7 A).length:Int))=((i7 A).length:Int):=if_neg (by lia)
 have g1:decide (((i7 A).length:Int)<0)=false:=decide_eq_false (by lia)
 have g2:decide ((((i7 A).length+((i7 X).length+1):Nat):Int)<0)=false:=decide_eq_false (by lia)
 have e1:(((i7 A).length+((i7 X).length+1):Nat):Int)+1=(((i7 A++40::(i7 X++[41])).length:Nat):Int):=by simp;lia
 have hT1:i7 A++40::(i7 X++41::(ds++i7 B))=(i7 A++40::(i7 X++[41]))++(ds++i7 B):=by simp
 have el:=fun a b c d=>a7S (q1:=a) (q2:=b) (q4:=c) (q5:=d) hB (T:=i7 A++40::(i7 X++41::(ds++i7 B))) (by lia) ds (i7 A++40::(i7 X++[41])) 200 hT1 hd (by lia)
 have sX:gSl (.val (row (i7 A++40::(i7 X++41::(ds++i7 B))))) (some (((i7 A).length:Int)+1)) (some (((i7 A).length+((i7 X).length+1):Nat):Int))=some (.val (row (i7 X))):=by
  refine T7 (by lia) ?_
  have e2:((i7 A).length:Int)+1=(((i7 A++[40]).length:Nat):Int):=by simp
  have e3:(((i7 A).length+((i7 X).length+1):Nat):Int)=(((i7 A++[40]).length+(i7 X).length:Nat):Int):=by simp;lia
  have e4:i7 A++40::(i7 X++41::(ds++i7 B))=(i7 A++[40])++(i7 X++41::(ds++i7 B)):=by simp
  rw [e2,e3,e4]
  exact a4k
 have sD:gSl (.val (row (i7 A++40::(i7 X++41::(ds++i7 B))))) (some (((i7 A++40::(i7 X++[41])).length:Nat):Int)) (some (((i7 A++40::(i7 X++[41])).length+ds.length:Nat):Int))=some (.val (row ds)):=by
  refine T7 (by lia) ?_
  rw [hT1]
  exact a4k
 have sP:gSl (.val (row (i7 A++40::(i7 X++41::(ds++i7 B))))) (some (((i7 A).length:Int) - 1)) (some ((i7 A).length:Nat))=some (.val (row (a3t (i7 A)))):=T7 (by lia) (b1y _ _)
 have hT2:i7 A++40::(i7 X++41::(ds++i7 B))=((i7 A++40::(i7 X++[41]))++ds)++i7 B:=by simp
 have hE:(((i7 A++40::(i7 X++[41])).length+ds.length:Nat):Int)=((((i7 A++40::(i7 X++[41]))++ds).length:Nat):Int):=by rw [Aa (as:=i7 A++40::(i7 X++[41]))]
 have sN:gSl (.val (row (i7 A++40::(i7 X++41::(ds++i7 B))))) (some (((i7 A++40::(i7 X++[41])).length+ds.length:Nat):Int)) (some ((((i7 A++40::(i7 X++[41])).length+ds.length:Nat):Int)+1))=some (.val (row ((i7 B).take 1))):=by
  refine T7 (by lia) ?_
  rw [hE,hT2]
  exact a7P 1
 have sA:gSl (.val (row (i7 A++40::(i7 X++41::(ds++i7 B))))) none (some ((i7 A).length:Nat))=some (.val (row (i7 A))):=by
  refine T7 (by lia) ?_
  rw [a8X,List.take_left]
 have sB:gSl (.val (row (i7 A++40::(i7 X++41::(ds++i7 B))))) (some (((i7 A++40::(i7 X++[41])).length+ds.length:Nat):Int)) none=some (.val (row (i7 B))):=by
  refine T7 (by lia) ?_
  rw [hE,a2u,hT2,List.drop_left]
 have inP:J7 true (.val (row (a3t (i7 A)))) (.val (.tuple [row [],row [32],row [40]]))=some (.val (.bool (!([[],[32],[40]]:List (List Nat)).contains (a3t (i7 A))))):=a9T true (a3t (i7 A)) [[],[32],[40]] b71
 have inN:J7 true (.val (row ((i7 B).take 1))) (.val (.tuple [row [],row [32],row [41]]))=some (.val (.bool (!([[],[32],[41]]:List (List Nat)).contains ((i7 B).take 1)))):=a9T true ((i7 B).take 1) [[],[32],[41]] b72
 have s0:AN ""=S []:=rfl
 have sp:AN " "=S [32]:=rfl
 have sh:AN "#"=S [35]:=rfl
 have sb:AN "!"=S [33]:=rfl
 have hpv:=b7u A
 have hnx:=b7g B
 have bd:∀s k,K2 X=some s→O8 ds=some k→ds≠[]→s*k<10 ^((i7 X).length+ds.length):=fun s k hs hk hne=>by
  rw [Nat.pow_add]
  exact Nat.mul_lt_mul'' (a7V hs) ((a6O hk).2 hne)
 have eL:ds≠[]→(((i7 A++40::(i7 X++[41])).length:Nat):Int)≠(((i7 A++40::(i7 X++[41])).length+ds.length:Nat):Int):=fun z=>by
  have:=List.length_pos_iff.mpr z
  lia
 have eL2:ds=[]→(((i7 A++40::(i7 X++[41])).length:Nat):Int)=(((i7 A++40::(i7 X++[41])).length+ds.length:Nat):Int):=fun z=>by rw [z];rfl
 have go:∀s k,K2 X=some s→O8 ds=some k→ds≠[]→(a5U (.val (.int (((s*k:Nat)):Int))))=some (.val (row (rdN (s*k))))∧(rdN (s*k)).length≤(i7 X).length+ds.length∧a0N (.val (.int (s:Nat))) (.val (.int (k:Nat)))=some (.val (.int ((s*k:Nat):Int))):=fun s k hs hk hne=>by
  have b:=bd s k hs hk hne
  have:=List.length_pos_iff.mpr hne
  obtain⟨_,_,k9,_⟩:=a18 hk
  refine⟨b7B (b5W (k:=(i7 X).length+ds.length) (by lia) b),b2K (by lia) b, ?_⟩
  rw [Int.natCast_mul]
  exact b3E (by lia)
 clear fe hT1 hT2 hE m40 m41 n40 n41 wX eT eR h bd
 generalize hT:i7 A++40::(i7 X++41::(ds++i7 B))=T at*
 generalize hE1:(i7 A++40::(i7 X++[41])).length=E1 at*
 generalize hE2:(i7 A).length+((i7 X).length+1)=E2 at*
 refine⟨fun s k hs hk hne pv nx=> ?_,fun hbad=> ?_⟩
 ·obtain⟨st,ln,mm⟩:=go s k hs hk hne
  rw [hs] at fl
  rw [hk] at ct
  have fl:G5 [row (i7 X)]=some (.val (.int (s:Nat))):=fl
  have ct:p8 [row ds,.int 2]=some (.val (.int (k:Nat))):=ct
  rw [hpv.mpr pv] at inP
  rw [hnx.mpr nx] at inN
  have c1:((E1:Int)==((E1+ds.length:Nat):Int))=false:=beq_eq_false_iff_ne.mpr (eL hne)
  have eO:i7 (A++ .inr (s*k)::B)=i7 A++([35]++(rdN (s*k)++([33]++i7 B))):=by
   rw [Y1,w8]
   show i7 A++((35::(rdN (s*k)++[33]))++i7 B)=_
   simp
  have a1:=J6 (l:=i7 A) (k:=[35]) (by simp;lia)
  have a2:=J6 (l:=i7 A++[35]) (k:=rdN (s*k)) (by simp;lia)
  have a3:=J6 (l:=i7 A++[35]++rdN (s*k)) (k:=[33]) (by simp;lia)
  have a4:=J6 (l:=i7 A++[35]++rdN (s*k)++[33]) (k:=i7 B) (by simp;lia)
  have eO2:i7 (A++ .inr (s*k)::B)=i7 A++[35]++rdN (s*k)++[33]++i7 B:=by rw [eO];simp
  rw [eO2]
  refine⟨some (.val (.int ((i7 A).length:Nat))),some (.val (.int (E2:Nat))),some (.val (.int ((E1+ds.length:Nat):Int))),some (.val (.int (s:Nat))),some (.val (.int (k:Nat))), ?_⟩
  unfold o8 szR
  rw [b1l,b1m,s0,sp,sh,sb]
  simp (disch:=omega) only [l9,x9,C5,d7,n0,d8,b8,f7,d5,c8,d4,D9,f9,g5,k4,d0,g0,c9,m8,g7,d9,g8,j4,A2,AE,AX,AY,AS,Ai,↓reduceIte,Bool.not_true,f8,l4,z6,u3,sz,Nat.reduceAdd,Aq,J5,rf,C3,hm,fd,g1,g2,e1,el,f8,sX,fl,sD,ct,a06,c1,sP,inP,sN,inN,sA,mm,st,sB,a1,a2,a3,a4]
  try rfl
 ·unfold o8 szR
  rw [b1l,b1m,s0,sp,sh,sb]
  cases hs:K2 X with
  |none=>
   rw [hs] at fl
   have fl:G5 [row (i7 X)]=some (.val .none):=fl
   cases hk:O8 ds with
   |none=>
    rw [hk] at ct
    have ct:p8 [row ds,.int 2]=some (.val .none):=ct
    simp (disch:=omega) only [l9,x9,C5,d7,d8,b8,f7,d5,c8,d4,f9,g5,k4,f6,i8,d0,g0,j9,c9,n4,m8,g7,d9,g8,j4,P3,A2,AE,AX,AY,f8,l4,u3,rf,C3,hm,fd,g1,g2,e1,el,f8,sX,fl,sD,ct,a0O]
    try rfl
   |some k=>
    rw [hk] at ct
    have ct:p8 [row ds,.int 2]=some (.val (.int (k:Nat))):=ct
    simp (disch:=omega) only [l9,x9,C5,d7,d8,b8,f7,d5,c8,d4,f9,g5,k4,f6,i8,d0,g0,j9,c9,n4,m8,g7,d9,g8,j4,P3,A2,AE,AX,AY,f8,l4,u3,rf,C3,hm,fd,g1,g2,e1,el,f8,sX,fl,sD,ct,a0O]
    try rfl
  |some s=>
   rw [hs] at fl
   have fl:G5 [row (i7 X)]=some (.val (.int (s:Nat))):=fl
   cases hk:O8 ds with
   |none=>
    rw [hk] at ct
    have ct:p8 [row ds,.int 2]=some (.val .none):=ct
    simp (disch:=omega) only [l9,x9,C5,d7,d8,b8,f7,d5,c8,d4,f9,g5,k4,f6,i8,d0,g0,j9,c9,n4,m8,g7,d9,g8,j4,P3,A2,AE,AX,AY,f8,l4,u3,rf,C3,hm,fd,g1,g2,e1,el,f8,sX,fl,sD,ct,a0O,a06]
    try rfl
   |some k=>
    rw [hk] at ct
    have ct:p8 [row ds,.int 2]=some (.val (.int (k:Nat))):=ct
    by_cases hne:ds=[]
    ·have c1:((E1:Int)==((E1+ds.length:Nat):Int))=true:=beq_iff_eq.mpr (eL2 hne)
     simp (disch:=omega) only [l9,x9,C5,d7,d8,b8,f7,d5,c8,d4,f9,g5,k4,f6,i8,d0,g0,j9,c9,n4,m8,g7,d9,g8,j4,A2,AE,AX,AY,f8,l4,u3,J5,rf,C3,hm,fd,g1,g2,e1,el,f8,sX,fl,sD,ct,a06,c1]
     try rfl
    ·have c1:((E1:Int)==((E1+ds.length:Nat):Int))=false:=beq_eq_false_iff_ne.mpr (eL hne)
     cases cP:([[],[32],[40]]:List (List Nat)).contains (a3t (i7 A)) with
     |false=>
      rw [cP] at inP
      simp (disch:=omega) only [l9,x9,C5,d7,d8,b8,f7,d5,c8,d4,D9,f9,g5,k4,f6,i8,d0,g0,j9,c9,n4,m8,g7,d9,g8,j4,P3,A2,AE,AX,AY,AS,Ai,↓reduceIte,Bool.not_false,f8,l4,u3,sz,Nat.reduceAdd,Aq,J5,rf,C3,hm,fd,g1,g2,e1,el,f8,sX,fl,sD,ct,a06,c1,sP,inP]
      try rfl
     |true=>
      rw [cP] at inP
      have pv:=hpv.mp cP
      have cN:([[],[32],[41]]:List (List Nat)).contains ((i7 B).take 1)=false:=by
       rw [Bool.eq_false_iff]
       intro z
       have nx:=hnx.mp z
       rcases hbad with y|y|y|y|y
       ·rw [hs] at y;cases y
       ·rw [hk] at y;cases y
       ·exact hne y
       ·exact y pv
       ·exact y nx
      rw [cN] at inN
      simp (disch:=omega) only [l9,x9,C5,d7,d8,b8,f7,d5,c8,d4,D9,f9,g5,k4,f6,i8,d0,g0,j9,c9,n4,m8,g7,d9,g8,j4,A2,AE,AX,AY,AS,Ai,↓reduceIte,Bool.not_true,Bool.not_false,f8,l4,u3,sz,Nat.reduceAdd,Aq,J5,rf,C3,hm,fd,g1,g2,e1,el,f8,sX,fl,sD,ct,a06,c1,sP,inP,sN,inN]
      try rfl
theorem b2L{T:List A5}{c:Nat}(hc:c=40∨c=41):(i7 T).contains c=T.any fun t=>decide (t= .inl c):=by
 rw [Bool.eq_iff_iff,List.any_eq_true,List.contains_iff_mem]
 constructor
 ·intro h
  apply Classical.byContradiction
  intro z
  exact a6v hc (fun t ht e=>z ⟨t,ht,decide_eq_true e⟩) h
 ·rintro⟨t,ht,e⟩
  have e:=of_decide_eq_true e
  unfold i7
  exact List.mem_flatMap.mpr ⟨t,ht,by rw [e];exact Af⟩
theorem b3G(T:List A5):a6Y T=((i7 T).contains 40||(i7 T).contains 41):=by
 rw [b2L (.inl rfl),b2L (.inr rfl)]
 unfold a6Y
 induction T with
 |nil=>rfl
 |cons t T ih=>
  rw [List.any_cons,List.any_cons,List.any_cons,ih]
  cases decide (t= .inl 40)<;>cases decide (t= .inl 41)<;>simp
abbrev szC:MT:=U8 (E3 (m2 (J7 false) (mC (.str "(")) (b7 0))) (E3 (m2 (J7 false) (mC (.str ")")) (b7 0)))
theorem b3m(T:List A5)(q1 q2 q3 q4 q5:Option e8):szC (szR (i7 T) q1 q2 q3 q4 q5)=some (a6Y T):=by
 have h1:=a3p false 40 (i7 T)
 have h2:=a3p false 41 (i7 T)
 rw [if_neg Aj] at h1 h2
 rw [b3G]
 unfold szR
 show U8 (E3 (m2 (J7 false) (mC (.str (AN "("))) (b7 0))) (E3 (m2 (J7 false) (mC (.str (AN ")"))) (b7 0))) _=_
 rw [b1l,b1m]
 cases c:(i7 T).contains 40 with
 |true=>
  rw [c] at h1
  simp (disch:=omega) only [d7,d8,b8,d9,g8,j4,P3,AE,h1]
  try rfl
 |false=>
  rw [c] at h1
  simp (disch:=omega) only [d7,d8,b8,d9,g8,j4,A2,AE,h1,h2]
  try rfl
theorem b4D{T:List A5}(h:Wf T)(hl:(i7 T).length≤190)(q1 q2 q3 q4 q5:Option e8):
 (∃T' q1' q2' q3' q4' q5',a14 T=some T'∧o8 (szR (i7 T) q1 q2 q3 q4 q5)=some (.nx (szR (i7 T') q1' q2' q3' q4' q5'))∧Wf T'∧(i7 T').length≤190∧c40 T'<c40 T)∨(a14 T=none∧o8 (szR (i7 T) q1 q2 q3 q4 q5)=some (.rt (.val .none))):=by
 cases e1:W3 T with
 |none=>
  right
  exact⟨by unfold a14;rw [e1];rfl,b07 (a6v (.inl rfl) (a5E e1)) _ _ _ _ _⟩
 |some x=>
  obtain⟨A,R⟩:=x
  obtain⟨t1,n40⟩:=a2l e1
  cases e2:a0e R with
  |none=>
   right
   refine⟨by unfold a14;rw [e1,AE,e2];rfl, ?_⟩
   have eT:i7 T=i7 A++40::i7 R:=by rw [t1,Y1,w8];rfl
   rw [eT]
   exact b08 (a6v (.inl rfl) n40) (a6v (.inr rfl) (a5G e2)) _ _ _ _ _
  |some y=>
   obtain⟨X,Y⟩:=y
   obtain⟨t2,n41⟩:=a2m e2
   have t3:=a3E Y
   obtain⟨hB,hd⟩:=b2V Y
   have hst:a14 T=(K2 X).bind fun s=>(O8 (B2 Y).1).bind fun k=>if(B2 Y).1=[]∨¬pvO A∨¬nxO (B2 Y).2 then none else some (A++ .inr (s*k)::(B2 Y).2):=by unfold a14;rw [e1,AE,e2,AE]
   rw [hst]
   generalize (B2 Y).1=ds at*
   generalize (B2 Y).2=B at*
   have eT:T=A++ .inl 40::(X++ .inl 41::(ds.map .inl++B)):=by rw [t1,t2,t3]
   rw [t2,t3] at n40
   rw [eT] at h hl ⊢
   obtain⟨g1,g2⟩:=b4A h n40 n41 hd hB hl q1 q2 q3 q4 q5
   cases hs:K2 X with
   |none=>exact .inr ⟨rfl,g2 (.inl hs)⟩
   |some s=>
    cases hk:O8 ds with
    |none=>exact .inr ⟨rfl,g2 (.inr (.inl hk))⟩
    |some k=>
     rw [AE,AE]
     by_cases c:ds=[]∨¬pvO A∨¬nxO B
     ·rw [if_pos c]
      exact .inr ⟨rfl,g2 (.inr (.inr c))⟩
     ·rw [if_neg c]
      left
      have hne:ds≠[]:=fun z=>c (.inl z)
      have pv:pvO A:=Classical.byContradiction fun z=>c (.inr (.inl z))
      have nx:nxO B:=Classical.byContradiction fun z=>c (.inr (.inr z))
      obtain⟨a1,a2,a3,a4,a5,e⟩:=g1 s k hs hk hne pv nx
      refine⟨_,a1,a2,a3,a4,a5,rfl,e, ?_, ?_, ?_⟩
      ·have:=Wf.step (A:=A) (B:=B) (M:=X++ .inl 41::ds.map .inl) (by
        have e5:A++(Sum.inl 40::((X++Sum.inl 41::ds.map Sum.inl)++B))=A++Sum.inl 40::(X++Sum.inl 41::(ds.map Sum.inl++B)):=by simp
        rw [e5];exact h) (s*k) pv nx
       exact this
      ·have hb:s*k<10 ^((i7 X).length+ds.length):=by
        rw [Nat.pow_add]
        exact Nat.mul_lt_mul'' (a7V hs) ((a6O hk).2 hne)
       have hp:=List.length_pos_iff.mpr hne
       have ln:=b2K (k:=(i7 X).length+ds.length) (by lia) hb
       have e6:(i7 (A++ .inr (s*k)::B)).length=(i7 A).length+((rdN (s*k)).length+2+(i7 B).length):=by
        rw [Y1,w8]
        show(i7 A++((35::(rdN (s*k)++[33]))++i7 B)).length=_
        simp
        lia
       have e7:(i7 (A++ .inl 40::(X++ .inl 41::(ds.map .inl++B)))).length=(i7 A).length+(1+((i7 X).length+(1+(ds.length+(i7 B).length)))):=by
        rw [Y1,w8,Y1,w8,Y1,a3B]
        show(i7 A++([40]++(i7 X++([41]++(ds++i7 B))))).length=_
        simp
        lia
       lia
      ·rw [U4,U4,c40,c40,if_neg (fun z=>by cases z),if_pos rfl,U4,c40,U4]
       lia
theorem a6z:∀(n:Nat) (T:List A5) (q1 q2 q3 q4 q5:Option e8),Wf T→(i7 T).length≤190→c40 T<n→
 (∃T' q1' q2' q3' q4' q5',y0 szC o8 n (szR (i7 T) q1 q2 q3 q4 q5)=some (.nx (szR (i7 T') q1' q2' q3' q4' q5'))∧Wf T'∧(i7 T').length≤190∧a6Y T'=false∧szT n T=K2 T')∨(y0 szC o8 n (szR (i7 T) q1 q2 q3 q4 q5)=some (.rt (.val .none))∧szT n T=none)
 |0,T,_,_,_,_,_,_,_,h=>by lia
 |n+1,T,q1,q2,q3,q4,q5,h,hl,hc=>by
  have cd:=b3m T q1 q2 q3 q4 q5
  cases hb:a6Y T with
  |false=>
   rw [hb] at cd
   left
   refine⟨T,q1,q2,q3,q4,q5, ?_,h,hl,hb, ?_⟩
   ·rw [y0,cd,AE,if_neg Aj]
   ·rw [szT,hb,if_neg Aj]
  |true=>
   rw [hb] at cd
   rcases b4D h hl q1 q2 q3 q4 q5 with⟨T',a1,a2,a3,a4,a5,e1,e2,w,l,c⟩|⟨e1,e2⟩
   ·rcases a6z n T' a1 a2 a3 a4 a5 w l (by lia) with⟨T2,b1,b2,b3,b4,b5,f1,f2,f3,f4,f5⟩|⟨f1,f2⟩
    ·left
     refine⟨T2,b1,b2,b3,b4,b5, ?_,f2,f3,f4, ?_⟩
     ·rw [y0,cd,AE,if_pos rfl,e2,AE]
      exact f1
     ·rw [szT,hb,if_pos rfl,e1,AE]
      exact f5
    ·right
     refine⟨?_, ?_⟩
     ·rw [y0,cd,AE,if_pos rfl,e2,AE]
      exact f1
     ·rw [szT,hb,if_pos rfl,e1,AE]
      exact f2
   ·right
    refine⟨?_, ?_⟩
    ·rw [y0,cd,AE,if_pos rfl,e2]
     rfl
    ·rw [szT,hb,if_pos rfl,e1]
     rfl
theorem b6v{t:List Nat}(hl:t.length≤190)(h35:35∉t)(h33:33∉t):G6 [row t]=some (.val (b2r (szP t))):=by
 have w:Wf (t.map .inl):={
  nb:=fun A N B e=>(a9f e).elim
  sg:=fun c hc e=>by
   obtain⟨x,hx,z⟩:=BA.mp hc
   rw [Sum.inl.inj z,e] at hx
   exact h35 hx}
 have hr:=a3B t
 have hc:=a6L (t.map (Sum.inl (β:=Nat)))
 rw [Ak] at hc
 have i1:=a3p false 35 t
 have i2:=a3p false 33 t
 have z1:t.contains 35=false:=by rw [Bool.eq_false_iff];intro z;exact h35 (List.contains_iff_mem.mp z)
 have z2:t.contains 33=false:=by rw [Bool.eq_false_iff];intro z;exact h33 (List.contains_iff_mem.mp z)
 rw [if_neg Aj,z1] at i1
 rw [if_neg Aj,z2] at i2
 have sh:AN "#"=S [35]:=rfl
 have sb:AN "!"=S [33]:=rfl
 have hf:∀(nn:MS) (T:List Nat) (a b c d e:Option e8),a5W 0 nn (szR T a b c d e)=nn (szR T a b c d e):=fun _ _ _ _ _ _ _=>rfl
 rcases a6z 200 (t.map .inl) none none none none none w (by rw [hr];exact hl) (by lia) with⟨T',a1,a2,a3,a4,a5,e1,e2,e3,e4,e5⟩|⟨e1,e2⟩
 ·rw [hr] at e1
  have n41:∀u∈T',u≠.inl 41:=fun u hu z=>by
   have:a6Y T'=true:=List.any_eq_true.mpr ⟨u,hu,by rw [z];simp⟩
   rw [e4] at this;cases this
  have fl:=a9I e2 n41 e3
  unfold szP
  rw [e5]
  unfold G6 a16
  rw [sh,sb]
  unfold szC szR at e1
  unfold szR at hf
  simp (disch:=omega) only [d7,d8,b8,d5,c8,d4,f9,f6,i8,d0,g0,c9,m8,g7,g6,i5,d9,g8,j4,A2,AE,AL,AT,AZ,AU,AO,AR,i1,i2,e1,hf,fl]
  try rfl
 ·rw [hr] at e1
  unfold szP
  rw [e2]
  unfold G6 a16
  rw [sh,sb]
  unfold szC szR at e1
  simp (disch:=omega) only [d7,d8,b8,d0,g0,j9,c9,m8,g7,g6,i5,d9,g8,j4,A2,AE,AL,AT,AZ,AU,AO,AR,i1,i2,e1]
  try rfl
mutual
theorem b67:∀{p:Pa},gP p→okP p
 | .run c k,g=>by rw [gP] at g;exact⟨g.2.1,g.2.2,g.1⟩
 | .again k ps,g=>by rw [gP] at g;exact⟨g.1.1,g.1.2,g.2.1,a9Q g.2.2⟩
theorem a9Q:∀{ps:List Pa},gL ps→okL ps
 |[],_=>trivial
 |p::ps,g=>by rw [gL] at g;exact⟨b67 g.1,a9Q g.2⟩
end
mutual
theorem b7J:∀p:Pa,(unP p).length=knP p
 | .run c k=>by rw [a2q,knP]
 | .again k ps=>by rw [a0f,knP,a9t ps,Nat.mul_comm]
theorem a9t:∀ps:List Pa,(Q9 ps).length=knL ps
 |[]=>by rw [Q9,knL];rfl
 |p::ps=>by rw [Q9,knL,Aa,b7J p,a9t ps]
end
theorem a8q{t:List Nat}(hl:t.length≤190)(h35:35∉t)(h33:33∉t):M1 [row t]=some (.val (.bool true)):=by
 have sz:=b6v hl h35 h33
 have i7:=b4j hl
 cases hr:a5r t with
 |some ps=>
  rw [hr] at i7
  obtain⟨e,g,ne,d,k,z⟩:=b04 (by lia) hr
  have i7:v8 [row t]=some (.inl (.val (.list (z7 ps)))):=i7
  rw [z] at sz
  have sz:G6 [row t]=some (.val (.int (knL ps:Nat))):=sz
  have un:=a9t ps
  have s1:=a3s 16 ps (a9Q g) (by lia) (by lia)
  have s2:=a8u 30 ps (a9Q g) (by lia) (by lia)
  rw [←e] at s1 s2
  have s1:R8 [.list (z7 ps)]=_:=s1
  have s2:a0u [.list (z7 ps)]=_:=s2
  have tr:a0w (a2L 2 v8 (b0 (b7 0) j1)) 3 (inL ["NoFold"]) (B3 (U8 (M2 (mtV (m1 (a5T [("NoFold",true)]) (b7 3)))) (M2 (mtV (m1 (a5T [("NoFold",true)]) (b7 3))))) (u5 (mC (.bool false))) u8) [some (.val (row t)),some (.val (.int (knL ps:Nat))),some (.val .none),none]=some (.nx [some (.val (row t)),some (.val (.int (knL ps:Nat))),some (.val (.list (z7 ps))),none]):=by
   rw [b0S (b3S (ps:=[row t]) (by simp (disch:=omega) only [b8,d5,c8,d4,AE]) i7)]
   rfl
  have n1:S9 false (.val (.list (z7 ps))) (.val .none)=some (.val (.bool false)):=rfl
  have n2:S9 true (.val (.int (knL ps:Nat))) (.val .none)=some (.val (.bool true)):=rfl
  have g1:decide ((knL ps:Int)≤24)=true:=decide_eq_true (by lia)
  have eq:Z6 (.val (row t)) (.val (row t))=some (.val (.bool true)):=by rw [a1A];simp
  unfold M1 a00
  simp (disch:=omega) only [X9,d7,d8,b8,f7,d5,c8,d4,f9,g5,k4,f6,i8,d0,g0,c9,m8,g7,g6,i5,d9,g8,b18,b5o,AE,AL,AT,AZ,AU,AO,AR,AX,AY,sz,sz,tr,n1,n2,g1,s1,s2,eq]
  try rfl
 |none=>
  rw [hr] at i7
  have i7:v8 [row t]=some (.inr nfX):=i7
  have i1:a5T [("NoFold",true)] (.val (xcV nfX))=some (.val (.bool true)):=by rfl
  have tr:∀q1,a0w (a2L 2 v8 (b0 (b7 0) j1)) 3 (inL ["NoFold"]) (B3 (U8 (M2 (mtV (m1 (a5T [("NoFold",true)]) (b7 3)))) (M2 (mtV (m1 (a5T [("NoFold",true)]) (b7 3))))) (u5 (mC (.bool false))) u8) [some (.val (row t)),q1,some (.val .none),none]=some (.nx [some (.val (row t)),q1,some (.val .none),none]):=fun q1=>by
   have hb:B3 (U8 (M2 (mtV (m1 (a5T [("NoFold",true)]) (b7 3)))) (M2 (mtV (m1 (a5T [("NoFold",true)]) (b7 3))))) (u5 (mC (.bool false))) u8 [some (.val (row t)),q1,some (.val .none),some (.val (xcV nfX))]=some (.nx [some (.val (row t)),q1,some (.val .none),some (.val (xcV nfX))]):=by
    simp (disch:=omega) only [n0,b8,f7,c9,m8,g7,z4,M3,l6,j4,A2,AE,Ah,Bool.not_true,i1]
   rw [b0T (b3T (ps:=[row t]) (by simp (disch:=omega) only [b8,d5,c8,d4,AE]) i7) (show inL ["NoFold"] "NoFold"=true by decide+kernel)]
   show(B3 _ _ _ [some (.val (row t)),q1,some (.val .none),some (.val (xcV nfX))]).map (a4M 3)=_
   rw [hb]
   rfl
  have n1:S9 false (.val .none) (.val .none)=some (.val (.bool true)):=rfl
  unfold M1 a00
  cases hz:szP t with
  |none=>
   rw [hz] at sz
   have sz:G6 [row t]=some (.val .none):=sz
   simp (disch:=omega) only [d7,d8,b8,f7,d5,c8,d4,f9,g5,k4,f6,i8,d0,g0,j9,c9,n4,g6,i5,d9,g8,a9Z,b7m,AE,AL,AT,AZ,AU,AO,AR,AX,AY,sz,sz,tr,n1]
   try rfl
  |some N=>
   have hN:=b03 hr hz
   rw [hz] at sz
   have sz:G6 [row t]=some (.val (.int (N:Nat))):=sz
   have g1:decide ((24:Int)<(N:Nat))=true:=decide_eq_true (by lia)
   simp (disch:=omega) only [x9,d7,d8,b8,f7,d5,c8,d4,f9,g5,k4,f6,i8,d0,g0,j9,c9,n4,g6,i5,d9,g8,a9Z,b7l,AE,AL,AT,AZ,AU,AO,AR,AX,AY,sz,sz,tr,n1,a06,g1]
   try rfl
theorem a9g{p:PV}(h:a84 "str" (.val p)=some (.val (.bool false))):Q7 [p]=some (.val (.bool true)):=by
 have tr:b0R (a6m v8 (b0 (b7 0) j1)) (inL ["NoFold"]) (u5 (mC (.bool true))) [some (.val p)]=some (.rt (.val (.bool true))):=by
  rw [b3P (ρ':=[some (.val p)]) (c:=nfX) (b3U (ps:=[p]) (by simp (disch:=omega) only [b8,d5,c8,d4,AE]) (b4k h)) (show inL ["NoFold"] "NoFold"=true by decide+kernel)]
  simp (disch:=omega) only [d8,f6,i8,AE]
  try rfl
 unfold Q7 a1Z
 simp (disch:=omega) only [d0,j9,g6,i5,AE,AL,AT,AU,Ag,tr]
 try rfl
theorem a9C(k:Nat):∀x∈dg k,48≤x:=by
 intro x hx
 unfold dg at hx
 split at hx<;>simp at hx<;>lia
theorem b4I(k:Nat):∀x∈wt k,48≤x:=by
 intro x hx
 unfold wt at hx
 split at hx
 ·cases hx
 ·exact a9C k x hx
def frX(x:Nat):Prop:=x≠35∧x≠33
mutual
theorem a8t:∀{p:Pa},okP p→∀x∈M4 p,frX x
 | .run c k,ok,x,hx=>by
   rw [a0F] at hx
   rcases Ad.mp hx with e|h
   ·have h3:=ok.2.2
    constructor<;>lia
   ·have:=b4I k x h
    constructor<;>lia
 | .again k ps,ok,x,hx=>by
   rw [K6] at hx
   rcases Ad.mp hx with e|h
   ·rw [e];constructor<;>decide
   ·rcases Am.mp h with h|h
    ·exact a5A ok.2.2.2 x h
    ·rcases Ad.mp h with e|h
     ·rw [e];constructor<;>decide
     ·have:=a9C k x h
      constructor<;>lia
theorem a5A:∀{ps:List Pa},okL ps→∀x∈shL ps,frX x
 |[],_,x,hx=>by cases hx
 |[p],ok,x,hx=>a8t ok.1 x hx
 |p::q::ps,ok,x,hx=>by
  rw [a1t] at hx
  rcases Am.mp hx with h|h
  ·exact a8t ok.1 x h
  ·rcases Ad.mp h with e|h
   ·rw [e];constructor<;>decide
   ·exact a5A ok.2 x h
end
abbrev sgL:List Nat:=[97,98,49,50,51,48,57,32,40,41,41,32,40,120,65,45,43,93,10]
theorem b7R:AN "ab12309 ()) (xA-+]\n"=S sgL:=by decide+kernel
abbrev a8U:List (List Nat):=[[97,50,52],[97,50,53],[40,97,32,98,41,49,50],[40,97,32,98,41,49,51],[40,97,50,32,98,41,56],[40,97,50,32,98,41,56,32,99],[40,40,97,41,50,41,49,50],[97,57,57],[97,49,48,48],[40,97,49,50,41,50,32,98]]
theorem b7Q:[PyData.str (AN "a24"),.str (AN "a25"),.str (AN "(a b)12"),.str (AN "(a b)13"),.str (AN "(a2 b)8"),.str (AN "(a2 b)8 c"),.str (AN "((a)2)12"),.str (AN "a99"),.str (AN "a100"),.str (AN "(a12)2 b")]=a8U.map row:=by rfl
theorem a9q{t:List Nat}(hl:t.length≤150)(hf:∀x∈t,frX x){N:Int}(hN:0≤N):∃u:List Nat,u.length≤190∧(∀x∈u,frX x)∧z9 [row t,.int N]=some (.val (row u)):=by
 have gl:=N9 (l:=t) (by omega)
 obtain⟨a,ea,ha⟩:∃a:Nat,N / 5 %((t.length:Int)+1)=(a:Int)∧a≤t.length:=⟨(N / 5 %((t.length:Int)+1)).toNat,by
  have:=Int.emod_nonneg (N / 5) (show((t.length:Int)+1)≠0 by omega)
  omega,by
  have h1:=Int.emod_lt_of_pos (N / 5) (show 0<((t.length:Int)+1) by omega)
  have h2:=Int.emod_nonneg (N / 5) (show((t.length:Int)+1)≠0 by omega)
  omega⟩
 obtain⟨j,ej,hj⟩:∃j:Nat,N / 500 % 19=(j:Int)∧j<19:=⟨(N / 500 % 19).toNat,by omega,by omega⟩
 have hjl:j<sgL.length:=hj
 have isg:v7 (.val (.str (AN "ab12309 ()) (xA-+]\n"))) (.val (.int (j:Nat)))=some (.val (row [sgL[j]])):=by
  rw [b7R]
  exact b42 (by decide) (by rw [a9x,Az hjl])
 have fsg:frX sgL[j]:=by
  have:∀x∈sgL,frX x:=by
   intro x hx
   simp at hx
   unfold frX
   omega
  exact this _ (List.getElem_mem hjl)
 generalize sgL[j]=c at isg fsg
 have e1:(a:Int)+1=((a+1:Nat):Int):=by omega
 have sl1:gSl (.val (row t)) none (some (a:Nat))=some (.val (row (t.take a))):=T7 (by omega) (a8X _ _)
 have sl2:gSl (.val (row t)) (some ((a+1:Nat):Int)) none=some (.val (row (t.drop (a+1)))):=T7 (by omega) (a2u _ _)
 have sl3:gSl (.val (row t)) (some (a:Nat)) none=some (.val (row (t.drop a))):=T7 (by omega) (a2u _ _)
 have lt:(t.take a).length≤150:=by rw [List.length_take];omega
 have ld:(t.drop (a+1)).length≤150:=by rw [List.length_drop];omega
 have ld2:(t.drop a).length≤150∧(t.take a).length+(t.drop a).length=t.length:=by rw [List.length_drop,List.length_take];omega
 have ld3:(t.take a).length+(t.drop (a+1)).length≤t.length:=by rw [List.length_drop,List.length_take];omega
 have ft:∀x∈t.take a,frX x:=fun x hx=>hf x (List.mem_of_mem_take hx)
 have fd:∀k,∀x∈t.drop k,frX x:=fun k x hx=>hf x (List.mem_of_mem_drop hx)
 have a1:=J6 (l:=t.take a) (k:=t.drop (a+1)) (by omega)
 have a2:=J6 (l:=t.take a) (k:=[c]) (by simp only [List.length_singleton];omega)
 have a3:=J6 (l:=t.take a++[c]) (k:=t.drop (a+1)) (by simp only [Aa,List.length_singleton];omega)
 have a4:=J6 (l:=t.take a++[c]) (k:=t.drop a) (by simp only [Aa,List.length_singleton];omega)
 have fin:∀k,∀x∈t.take a++[c]++t.drop k,frX x:=fun k x hx=>by
  rcases Am.mp hx with h|h
  ·rcases Am.mp h with h|h
   ·exact ft x h
   ·have:x=c:=by simpa using h
    rw [this];exact fsg
  ·exact fd k x h
 obtain⟨w,ew,hw⟩:∃w:Nat,N % 5=(w:Int)∧w<5:=⟨(N % 5).toNat,by omega,by omega⟩
 by_cases w0:w=0
 ·subst w0
  refine⟨t.take a++t.drop (a+1),by rw [Aa];omega,fun x hx=>(Am.mp hx).elim (ft x) (fd _ x), ?_⟩
  have c0:(N % 5==0)=true:=by rw [ew];rfl
  unfold z9 J9
  simp (disch:=omega) only [l9,B6,G4,d7,n0,d8,b8,f7,g5,k4,f6,i8,d0,g0,j9,c9,n4,g6,i5,d9,g8,AE,AL,AT,AZ,AU,AO,AR,AX,AY,f8,l4,z6,u3,J5,gl,ea,ej,isg,c0,f8,sl1,e1,sl2,a1]
  try rfl
 ·have c0:(N % 5==0)=false:=by rw [ew,beq_eq_false_iff_ne];omega
  by_cases w1:w=1
  ·subst w1
   refine⟨t.take a++[c]++t.drop (a+1),by simp only [Aa,List.length_singleton];omega,fin _, ?_⟩
   have c1:(N % 5==1)=true:=by rw [ew];rfl
   unfold z9 J9
   simp (disch:=omega) only [l9,B6,G4,d7,n0,d8,b8,f7,g5,k4,f6,i8,d0,g0,j9,c9,n4,m8,g7,g6,i5,d9,g8,AE,AL,AT,AZ,AU,AO,AR,AX,AY,f8,l4,z6,u3,J5,gl,ea,ej,isg,c0,c1,f8,sl1,e1,sl2,a2,a3]
   try rfl
  ·have c1:(N % 5==1)=false:=by rw [ew,beq_eq_false_iff_ne];omega
   have last:∀(h:¬((N % 5==2)=true∧(N / 5 % 3==0)=true)),z9 [row t,.int N]=some (.val (row (t.take a++[c]++t.drop a))):=fun h=>by
    unfold z9 J9
    cases c2:(N % 5==2) with
    |false=>
     simp (disch:=omega) only [l9,B6,G4,d7,n0,d8,b8,f7,g5,k4,f6,i8,d0,g0,c9,m8,g7,g6,i5,d9,g8,p9,a15,AE,AL,AT,AZ,AU,AO,AR,AX,AY,f8,l4,z6,u3,J5,gl,ea,ej,isg,c0,c1,c2,f8,sl1,sl3,a2,a4]
     try rfl
    |true=>
     have c3:(N / 5 % 3==0)=false:=by
      cases z:(N / 5 % 3==0) with
      |false=>rfl
      |true=>exact absurd ⟨c2,z⟩ h
     simp (disch:=omega) only [l9,B6,G4,d7,n0,d8,b8,f7,g5,k4,f6,i8,d0,g0,c9,m8,g7,g6,i5,d9,g8,p9,S6,AE,AL,AT,AZ,AU,AO,AR,AX,AY,f8,l4,z6,u3,J5,gl,ea,ej,isg,c0,c1,c2,c3,f8,sl1,sl3,a2,a4]
     try rfl
   by_cases h:(N % 5==2)=true∧(N / 5 % 3==0)=true
   ·obtain⟨c2,c3⟩:=h
    obtain⟨i,ei,hi⟩:∃i:Nat,N / 15 % 10=(i:Int)∧i<10:=⟨(N / 15 % 10).toNat,by omega,by omega⟩
    have hil:i<a8U.length:=hi
    have ib:v7 (.bor (a8U.map row)) (.val (.int (i:Nat)))=some (.val (row a8U[i])):=b3z (by rw [a9x,BB,Az hil];rfl)
    rw [←b7Q] at ib
    refine⟨a8U[i], ?_, ?_, ?_⟩
    ·have:∀l∈a8U,l.length≤190:=by decide
     exact this _ (List.getElem_mem hil)
    ·have:∀l∈a8U,∀x∈l,x≠35∧x≠33:=by decide
     exact this _ (List.getElem_mem hil)
    ·unfold z9 J9
     simp (disch:=omega) only [l9,B6,G4,d7,n0,d8,b8,a69,f7,d5,c8,d4,S2,g5,k4,a3e,f6,i8,d0,g0,j9,c9,n4,m8,g7,g6,i5,d9,g8,p9,S6,AE,AL,AT,AZ,AU,AO,AR,AX,AY,AS,Ai,↓reduceIte,sz,Nat.reduceAdd,Aq,J5,gl,ea,ej,isg,c0,c1,c2,c3,ei,ib]
     try rfl
   ·exact⟨t.take a++[c]++t.drop a,by simp only [Aa,List.length_singleton];omega,fin _,last h⟩
abbrev L6:List PV:=[.none,.int 5,.list [.str (AN "a")],.tuple [.str (AN "run"),.str (AN "a"),.int 1],.list [.tuple [.str (AN "run"),.str (AN "a"),.int 1]],.bool true]
theorem b6N:∀p∈L6,a84 "str" (.val p)=some (.val (.bool false)):=by
 intro p hp
 simp only [L6,Ad,List.not_mem_nil,or_false] at hp
 rcases hp with rfl|rfl|rfl|rfl|rfl|rfl<;>rfl
theorem b15{t:List Nat}(hl:t.length≤150)(hf:∀x∈t,frX x)(c:Int)(q0 q3:Option e8):∃q3',a2F [q0,some (.val (row t)),some (.val (.int c)),q3]=some (.nx [q0,some (.val (row t)),some (.val (.int c)),q3']):=by
 obtain⟨N,hN,en⟩:=a1G c
 obtain⟨u,ul,uf,es⟩:=a9q hl hf hN
 have rt:=a8q ul (fun z=>(uf 35 z).1 rfl) (fun z=>(uf 33 z).2 rfl)
 obtain⟨i,ei,hi⟩:∃i:Nat,N % 6=(i:Int)∧i<6:=⟨(N % 6).toNat,by lia,by lia⟩
 have hil:i<L6.length:=hi
 have ix:v7 (.own L6) (.val (.int (i:Nat)))=some (.val L6[i]):=b3A (by rw [a9x,Az hil])
 have nt:=a9g (b6N _ (List.getElem_mem hil))
 generalize L6[i]=p at ix nt
 refine⟨some (.val (.int N)), ?_⟩
 unfold a2F
 simp (disch:=omega) only [B6,d7,d8,b8,f7,d5,c8,d4,a1L,D9,S2,f9,g5,k4,d0,g0,c9,m8,g7,z4,M3,l6,AE,Ah,AX,AY,AS,Ai,↓reduceIte,Bool.not_true,sz,Nat.reduceAdd,Aq,en,es,rt,ei,ix,nt]
 try rfl
theorem main:∀ns:List Int,ns.length≤63→b1S [.list (ns.map .int)]=some (.val (.bool true)):=by
 intro ns hl
 obtain⟨ps,ok,ne,un,dp,ed⟩:=b1A ns hl (at_:=0) (by lia)
 have ed:R7 [.list (ns.map .int),.int 0,.int 24]=some (.val (.list (z7 ps))):=ed
 have s1:=a3s 16 ps ok un (by lia)
 have s1:R8 [.list (z7 ps)]=some (.val (row (shL ps))):=s1
 have hlen:=b4o ok
 have hf:=a5A ok
 generalize shL ps=t at s1 hlen hf
 have rt:=a8q (t:=t) (by lia) (fun z=>(hf 35 z).1 rfl) (fun z=>(hf 33 z).2 rfl)
 have gs:=b0g ns none (some 60)
 have hc:=a6P ns none (some 60)
 have cat:y8 (.own ((cut ns none (some 60)).map .int)) (.own [.int 2])=some (.own ((cut ns none (some 60)++[2]).map .int)):=by
  rw [a9O (by rw [Ak,sizeLine_eq];simp only [AS,Ai];lia),BE]
  rfl
 generalize cut ns none (some 60)++[2]=cs at cat
 obtain⟨ρ1,e1,q2,q3,rfl⟩:=a6e (body:=a2F) (tg:=u6 2) (fun _ ρ=>∃q2 q3:Option e8,ρ=[some (.val (.list (ns.map .int))),some (.val (row t)),q2,q3])
  (ps:=cs.map .int) (ρ:=[some (.val (.list (ns.map .int))),some (.val (row t)),none,none])
  (by
   rintro i p hp ρ ⟨q2,q3,rfl⟩
   obtain⟨c,_,rfl⟩:=BA.mp (BD hp)
   obtain⟨q3',e⟩:=b15 (t:=t) (by lia) hf c (some (.val (.list (ns.map .int)))) q3
   exact a7w rfl e ⟨_,_,rfl⟩) ⟨none,none,rfl⟩
 have hit:PyData.items? (.list (cs.map .int))=some (cs.map .int):=rfl
 unfold b1S b4O
 simp (disch:=omega) only [d7,d8,b8,f7,d5,c8,d4,a1L,S2,f9,g5,k4,f6,i8,d0,g0,c9,m8,g7,g6,i5,z4,M3,l6,D8,AE,Ah,AL,AT,AZ,AU,AO,AR,AX,AY,AS,Ai,↓reduceIte,Bool.not_true,Q1,f8,l4,z6,u3,sz,Nat.reduceAdd,Aq,ed,s1,rt,gs,cat,hit,e1]
 try rfl
end LW
set_option maxHeartbeats 4000000
namespace LW
open PySem PySem.Spec PyProof.Rows L2 PU
seal L2.PE L2.PS L2.PSs L2.PT L2.PW L2.PA L2.PG L2.PGs L2.PI
def top(i:Nat):Stmt:=PySem.Challenge.pw_carpetkin_k32_texts_of_no_fold.main.body.getD i (.Pass ⟨0,0,0,0⟩)
abbrev W9:Stmt:=top 29
theorem a0E:m5 ["_law_fold_here","_law_words","_law_part"] ["_law_fold_here"] (i4 W9):=mkS
abbrev a0C:Stmt:=top 24
theorem a11:m5 ["_law_cell"] ["_law_cell"] (i4 a0C):=mkS
theorem a2O:List.Nodup (α:=Str) ["_law_fold_here","_law_parts","_law_part","_law_turn"]:=by decide+kernel
theorem a2P:List.Nodup (α:=Str) ["_law_fold_here","_law_parts","_law_part","_law_turn"]:=by decide+kernel
abbrev O5:Stmt:=top 26
theorem T6:m5 ["_law_fold_here","_law_parts","_law_part"] ["_law_fold_here"] (i4 O5):=mkS
abbrev a0B:Stmt:=top 25
theorem a1o:m5 ["_law_cells","_law_at","_law_room","_law_deep","_law_fold_here","_law_left","_law_many","_law_turn","_law_number_here","_law_k","_law_inner"] ["_law_cells","_law_at","_law_room","_law_deep"] (i4 a0B):=mkS
abbrev Y3:Stmt:=top 23
theorem a1n:m5 ["_law_script","_law_k"] ["_law_script","_law_k"] (i4 Y3):=mkS
abbrev a1g:Stmt:=top 28
theorem a2Y:m5 ["_law_script","_law_at","_law_most","_law_cells","_law_room"] ["_law_script","_law_at","_law_most"] (i4 a1g):=mkS
abbrev a1f:Stmt:=top 30
theorem a2X:m5 ["_law_word","_law_least","_law_sign"] ["_law_word","_law_least"] (i4 a1f):=mkS
abbrev a2i:Stmt:=top 31
theorem a30:m5 ["_law_text","_law_total","_law_word","_law_size_here","_law_many"] ["_law_text"] (i4 a2i):=mkS
abbrev a2j:Stmt:=top 32
theorem a31:m5 ["_law_text","_law_first","_law_last","_law_end","_law_size_here","_law_many"] ["_law_text"] (i4 a2j):=mkS
abbrev a3D:Stmt:=top 6
theorem a5z:m5 ["text","at","first","last","end"] ["text","at","first","last"] (i4 a3D):=mkS
abbrev Y2:Stmt:=top 7
theorem a1l:m5 ["text","at"] ["text","at"] (i4 Y2):=mkS
abbrev a1i:Stmt:=top 8
theorem a20:m5 ["word"] ["word"] (i4 a1i):=mkS
abbrev Q2:Stmt:=top 9
theorem X0:m5 ["word","least","most","number"] ["word","least","most"] (i4 Q2):=mkS
abbrev a2k:Stmt:=top 16
theorem a32:m5 ["text","at","end","many"] ["text","at"] (i4 a2k):=mkS
abbrev a5y:Stmt:=top 12
theorem a6y:m5 ["colour","many"] ["colour","many"] (i4 a5y):=mkS
abbrev a0z:Stmt:=top 18
theorem a1k:m5 ["text","at","left","part_at","closing","found","times"] ["text","at","left","part_at","closing"] (i4 a0z):=mkS
abbrev A9:Stmt:=top 19
theorem T5:m5 ["text","at","left","times"] ["text","at","left"] (i4 A9):=mkS
abbrev a0D:Stmt:=top 17
theorem a1r:m5 ["text","at","left","part_at","parts","found"] ["text","at","left","part_at"] (i4 a0D):=mkS
abbrev a0A:Stmt:=top 20
theorem a1m:m5 ["fold","many","part"] ["fold"] (i4 a0A):=mkS
abbrev a1j:Stmt:=top 21
theorem a21:m5 ["text","found"] ["text"] (i4 a1j):=mkS
abbrev T4:Stmt:=top 13
theorem a0b:m5 ["many"] ["many"] (i4 T4):=mkS
theorem a4b:List.Nodup (α:=Str) ["fold","part"]:=by decide+kernel
abbrev V0:Stmt:=top 15
theorem Y6:m5 ["fold"] ["fold"] (i4 V0):=mkS
abbrev V1:Stmt:=top 14
theorem Y7:m5 ["part"] ["part"] (i4 V1):=mkS
abbrev a1h:Stmt:=top 33
theorem a2Z:m5 ["_law_text","_law_size_here","_law_found","e"] ["_law_text"] (i4 a1h):=mkS
abbrev Y4:Stmt:=top 35
theorem a1p:m5 ["_law_thing"] ["_law_thing"] (i4 Y4):=mkS
abbrev Y5:Stmt:=top 34
theorem a1q:m5 ["_law_text","_law_number_here","_law_way","_law_at","_law_sign","_law_some"] ["_law_text","_law_number_here"] (i4 Y5):=mkS
abbrev b2R:Stmt:=top 36
theorem b2S:m5 ["_law_script","_law_text","_law_cell","_law_number_here"] ["_law_script"] (i4 b2R):=mkS
structure MoB(K:AD)(mg:Str→Option AA):Prop where
 z_ValueError:mg "ValueError"=none
 z_int:mg "int"=none
 z_isinstance:mg "isinstance"=none
 z_len:mg "len"=none
 z_max:mg "max"=none
 z_min:mg "min"=none
 z_range:mg "range"=none
 z_str:mg "str"=none
section
variable (P:AK)(w:AI)(K:AD)(mg:Str→Option AA)(base:Heap)
abbrev a3L:Prop:=n6 P w K mg base "_law_shown" ["_law_fold_here"] 17 R8
abbrev M9:Prop:=n6 P w K mg base "_law_number" ["_law_cell"] 1 D3
abbrev a0W:Prop:=n6 P w K mg base "_law_unfolded" ["_law_fold_here"] 7 V9
abbrev a8Q:Prop:=n6 P w K mg base "_law_fold" ["_law_cells","_law_at","_law_room","_law_deep"] 13 a2f
abbrev a1U:Prop:=n6 P w K mg base "_law_cell_at" ["_law_script","_law_k"] 1 Q6
abbrev a3J:Prop:=n6 P w K mg base "_law_drawn" ["_law_script","_law_at","_law_most"] 14 R7
abbrev a0V:Prop:=n6 P w K mg base "_law_count" ["_law_word","_law_least"] 1 p8
abbrev a4B:Prop:=n6 P w K mg base "_law_flat" ["_law_text"] 2 G5
abbrev a4C:Prop:=n6 P w K mg base "_law_size" ["_law_text"] 3 G6
abbrev a54:Prop:=n6 P w K mg base "run_end" ["text","at","first","last"] 1 a3o
abbrev X3:Prop:=n6 P w K mg base "figures_end" ["text","at"] 2 E6
abbrev a3M:Prop:=n6 P w K mg base "number_in" ["word"] 3 W7
abbrev Z1:Prop:=n6 P w K mg base "number_between" ["word","least","most"] 4 A4
abbrev a0n:Prop:=n6 P w K mg base "times_at" ["text","at"] 5 A7
abbrev a4D:Prop:=n6 P w K mg base "run_of" ["colour","many"] 1 a4V
abbrev a4A:Prop:=n6 P w K mg base "fold_part_at" ["text","at","left"] 47 a4U
structure a0l(k:Nat)(R_again_at l5 p6:List PV→Option e8):Prop where
 d_again_at:n6 P w K mg base "again_at" ["text","at","left","part_at","closing"] k R_again_at
 d_fold_part_at:n6 P w K mg base "fold_part_at" ["text","at","left"] k l5
 d_parts_at:n6 P w K mg base "parts_at" ["text","at","left","part_at"] k p6
abbrev a8R:Prop:=n6 P w K mg base "parts_at" ["text","at","left","part_at"] 47 W0
abbrev a8P:Prop:=n6 P w K mg base "knots_in" ["fold"] 17 a2e
abbrev a0X:Prop:=a6G P w K mg base "read_fold" ["text"] 48 v8
abbrev S5:Prop:=n6 P w K mg base "written_times" ["many"] 1 K8
abbrev a6I:Prop:=n6 P w K mg base "shown_fold" ["fold"] 31 a0u
structure a0m(k:Nat)(t8 R_shown_part:List PV→Option e8):Prop where
 d_shown_fold:n6 P w K mg base "shown_fold" ["fold"] k t8
 d_shown_part:n6 P w K mg base "shown_part" ["part"] k R_shown_part
abbrev a3K:Prop:=n6 P w K mg base "_law_right" ["_law_text"] 49 M1
abbrev a1V:Prop:=n6 P w K mg base "_law_no_text" ["_law_thing"] 49 Q7
abbrev a1W:Prop:=n6 P w K mg base "_law_spoiled" ["_law_text","_law_number_here"] 1 z9
end
section
variable (P:AK)(w:AI){K:AD}{mg:Str→Option AA}(base:Heap)
theorem a7k{k:Nat}(hk0:1≤k){L7:List PV→Option e8}(D:Df K mg "_law_shown" W9)(M:MoB K mg)(G1:n6 P w K mg base "_law_shown" ["_law_fold_here"] k L7):n6 P w K mg base "_law_shown" ["_law_fold_here"] (k+1) (v6 2 (W5 L7)):=by
 refine p4 (k:=k) D a0E (fun _ _ _ _ _ _=>el1 (fun _=>rfl)) fun f cdv A outer s H E hr=> ?_
 have S:=a0E
 have hu:=hr.units
 refine e9 ?_ ?_
 ·exact(m4 (i:=1) S.nd (V7 i6))
 refine e9 ?_ ?_
 ·refine a4J PassesOwn.never ?_ ?_ ?_ (Q3 2) ?_
  ·exact rfl
  ·exact(a8 0 (pv 0))
  ·exact(L3 (i:=2) S.nd rfl (Or.inl rfl))
  refine g9 ?_
  refine v3 ?_ ?_ ?_
  ·exact(k7 (B4 hu) (n8 (a8 2 (pv 2)) b9) i9 (by first|rfl|exact j8 _))
  ·exact(g9 (M0 1 (pv 1) (i3 l0 (i3 l0 (i3 l0 i9 (n5 G1 hr (by lia) rfl (d6 l3) (a9 (n8 (a8 2 (pv 2)) b9) i6))) i9) (a2x a4I rfl M.z_str (by rfl) (n8 (a8 2 (pv 2)) b9)))))
  refine g9 ?_
  refine v3 ?_ ?_ ?_
  ·exact(k7 (B4 hu) (n8 (a8 2 (pv 2)) b9) b9 (by first|rfl|exact j8 _))
  ·exact(g9 (M0 1 (pv 1) (n8 (a8 2 (pv 2)) b9)))
  exact(g9 (M0 1 (pv 1) (i3 l0 (n8 (a8 2 (pv 2)) b9) (a2x a4I rfl M.z_str (by rfl) (n8 (a8 2 (pv 2)) b9)))))
 exact(g9 (k6 (a2w i9 (a8 1 (pv 1)))))
theorem a5X(R1:Df K mg "_law_shown" W9)(M:MoB K mg):∀n:Nat,n6 P w K mg base "_law_shown" ["_law_fold_here"] (1+n) (O0 n):=by
 intro n
 induction n with
 |zero=>exact p4 (k:=0) R1 a0E (fun _ _ _ _ _ _=>el1 (fun _=>rfl)) fun f cdv A outer s H E hr=>N6
 |succ n ih=>
  exact a7k P w base (Nat.le_add_right _ _) R1 M ih
theorem a5Y(D:Df K mg "_law_number" a0C):M9 P w K mg base:=by
 refine p4 (k:=0) D a11 (fun _ _ _ _ _ _=>el1 (fun _=>rfl)) fun f cdv A outer s H E hr=> ?_
 have S:=a11
 have hu:=hr.units
 exact(g9 (k6 (i3 B8 (i3 a0a (i3 l0 (i3 B8 (a8 0 (pv 0)) b9) b9) b9) b9)))
theorem a4f{k:Nat}(hk0:1≤k){r6:List PV→Option e8}(D:Df K mg "_law_unfolded" O5)(M:MoB K mg)(A6:n6 P w K mg base "_law_unfolded" ["_law_fold_here"] k r6):n6 P w K mg base "_law_unfolded" ["_law_fold_here"] (k+1) (v6 2 (N2 r6)):=by
 refine p4 (k:=k) D T6 (fun _ _ _ _ _ _=>el1 (fun _=>rfl)) fun f cdv A outer s H E hr=> ?_
 have S:=T6
 have hu:=hr.units
 refine e9 ?_ ?_
 ·exact(m4 (i:=1) S.nd (V7 i6))
 refine e9 ?_ ?_
 ·refine a4J PassesOwn.never ?_ ?_ ?_ (Q3 2) ?_
  ·exact rfl
  ·exact(a8 0 (pv 0))
  ·exact(L3 (i:=2) S.nd rfl (Or.inr rfl))
  refine g9 ?_
  refine v3 ?_ ?_ ?_
  ·exact(k7 (B4 hu) (n8 (a8 2 (pv 2)) b9) i9 (by first|rfl|exact j8 _))
  ·refine g9 ?_
   refine M0 1 (pv 1) ?_
   refine a2w ?_ ?_
   ·exact i9
   refine a6S (ys:=["_law_turn"]) (N0:=["_law_fold_here","_law_parts","_law_part"]) (fun _ _ h=>h) ?_ ⟨by kernel_rfl,rfl,of_decide_eq_true rfl,of_decide_eq_true rfl,of_decide_eq_true rfl⟩ ?_ (fun C fp pins s H=>L3 (i:=3) a2O rfl (Or.inl rfl)) (fun n h=>a2p (i:=3) (Nat.le_of_eq h)) (fun C fp pins s H=>a8Z) ?_
   ·exact rfl
   ·exact(a9E rfl M.z_range (a9 (n8 (a8 2 (pv 2)) b9) i6))
   intro C fp pins s H
   exact(n8 (a8 2 (pv 2)) b9)
  refine g9 ?_
  refine M0 1 (pv 1) ?_
  refine a2w ?_ ?_
  ·exact i9
  refine a6S (ys:=["_law_turn"]) (N0:=["_law_fold_here","_law_parts","_law_part"]) (fun _ _ h=>h) ?_ ⟨by kernel_rfl,rfl,of_decide_eq_true rfl,of_decide_eq_true rfl,of_decide_eq_true rfl⟩ ?_ (fun C fp pins s H=>L3 (i:=3) a2P rfl (Or.inl rfl)) (fun n h=>a2p (i:=3) (Nat.le_of_eq h)) (fun C fp pins s H=>a8Z) ?_
  ·exact rfl
  ·exact(a9E rfl M.z_range (a9 (n8 (a8 2 (pv 2)) b9) i6))
  intro C fp pins s H
  exact(n5 A6 hr (by lia) rfl (d6 l3) (a9 (n8 (a8 2 (pv 2)) b9) i6))
 exact(g9 (k6 (a2w i9 (a8 1 (pv 1)))))
theorem a3x(M6:Df K mg "_law_unfolded" O5)(M:MoB K mg):∀n:Nat,n6 P w K mg base "_law_unfolded" ["_law_fold_here"] (1+n) (D7 n):=by
 intro n
 induction n with
 |zero=>exact p4 (k:=0) M6 T6 (fun _ _ _ _ _ _=>el1 (fun _=>rfl)) fun f cdv A outer s H E hr=>N6
 |succ n ih=>
  exact a4f P w base (Nat.le_add_right _ _) M6 M ih
theorem a8h{k:Nat}(hk0:7≤k){P6:List PV→Option e8}(D:Df K mg "_law_fold" a0B)(M:MoB K mg)(y6:M9 P w K mg base)(A6:a0W P w K mg base)(V6:n6 P w K mg base "_law_fold" ["_law_cells","_law_at","_law_room","_law_deep"] k P6):n6 P w K mg base "_law_fold" ["_law_cells","_law_at","_law_room","_law_deep"] (k+1) (v6 7 (a0q P6)):=by
 refine p4 (k:=k) D a1o (fun _ _ _ _ _ _=>el4 (fun _ _ _ _=>rfl)) fun f cdv A outer s H E hr=> ?_
 have S:=a1o
 have hu:=hr.units
 refine e9 ?_ ?_
 ·exact(m4 (i:=4) S.nd (V7 i6))
 refine e9 ?_ ?_
 ·exact(m4 (i:=5) S.nd (a8 2 (pv 2)))
 refine e9 ?_ ?_
 ·exact(m4 (i:=6) S.nd (i3 l0 b9 (i3 B8 (n5 y6 hr (by lia) rfl (d6 l3) (a9 (i3 l0 (n8 (a8 0 (pv 0)) (i3 B8 (a8 1 (pv 1)) (a0M S7 rfl M.z_len (by rfl) (a8 0 (pv 0))))) (a8 1 (pv 1))) i6)) b9)))
 refine e9 ?_ ?_
 ·refine b1I PassesOwn.never ?_ ?_ M.z_range ?_ ?_ (Q3 7) ?_
  ·exact rfl
  ·exact rfl
  ·exact(a9 (a8 6 (pv 6)) i6)
  ·exact(L3 (i:=7) S.nd rfl (Or.inl rfl))
  refine g9 ?_
  refine v3 ?_ ?_ ?_
  ·exact(k7 a2h (a8 5 (pv 5)) b9 (by first|rfl|exact j8 _))
  ·refine e9 ?_ ?_
   ·exact(m4 (i:=1) S.nd (i3 l0 (a8 1 (pv 1)) b9))
   refine e9 ?_ ?_
   ·exact(m4 (i:=8) S.nd (n5 y6 hr (by lia) rfl (d6 l3) (a9 (i3 l0 (n8 (a8 0 (pv 0)) (i3 B8 (a8 1 (pv 1)) (a0M S7 rfl M.z_len (by rfl) (a8 0 (pv 0))))) (i3 a0a b9 (a8 1 (pv 1)))) i6)))
   refine g9 ?_
   refine v3 (PW.pt (a3k (k7 a2h (a8 3 (pv 3)) b9 (by first|rfl|exact j8 _)) (a3k (k7 a2h (a8 5 (pv 5)) b9 (by first|rfl|exact j8 _)) (a2A (k7 (B4 hu) (i3 B8 (a8 8 (pv 8)) b9) b9 (by first|rfl|exact j8 _)))))) ?_ ?_
   ·refine e9 ?_ ?_
    ·exact(m4 (i:=9) S.nd (i3 l0 b9 (i3 B8 (i3 E4 (a8 8 (pv 8)) b9) (b1B (b1x rfl) rfl M.z_min (by rfl) b9 (i3 a1J (a8 5 (pv 5)) b9)))))
    refine e9 ?_ ?_
    ·refine b5B (is:=[10,1]) ?_ ?_ ?_
     ·exact rfl
     ·exact(n5 V6 hr (by lia) rfl (d6 (d6 (d6 (d6 l3)))) (a9 (a8 0 (pv 0)) (a9 (i3 l0 (a8 1 (pv 1)) b9) (a9 (i3 E4 (a8 5 (pv 5)) (a8 9 (pv 9))) (a9 (i3 a1J (a8 3 (pv 3)) b9) i6)))))
     exact(a8m (L3 (i:=10) S.nd rfl (Or.inl rfl)) (a8m (L3 (i:=1) S.nd rfl (Or.inl rfl)) b39))
    refine e9 ?_ ?_
    ·exact(M0 4 (pv 4) (N4 (a9 i9 (a9 (a8 9 (pv 9)) (a9 (a8 10 (pv 10)) i6)))))
    exact(g9 (m4 (i:=5) S.nd (i3 a1J (a8 5 (pv 5)) (i3 a0a (a8 9 (pv 9)) (a0M S7 rfl M.z_len (by rfl) (n5 A6 hr (by lia) rfl (d6 l3) (a9 (a8 10 (pv 10)) i6)))))))
   refine e9 ?_ ?_
   ·refine m4 (i:=9) ?_ ?_
    ·exact S.nd
    exact(i3 l0 b9 (i3 B8 (i3 E4 (a8 8 (pv 8)) b9) (b1B (b1x rfl) rfl M.z_min (by rfl) (a8 5 (pv 5)) (i3 l0 b9 (i3 a0a b9 (i3 E4 (i3 B8 (i3 E4 (a8 8 (pv 8)) b9) b9) b9))))))
   exact(e9 (M0 4 (pv 4) (N4 (a9 i9 (a9 (n8 i9 (i3 B8 (i3 E4 (a8 8 (pv 8)) b9) b9)) (a9 (a8 9 (pv 9)) i6))))) (g9 (m4 (i:=5) S.nd (i3 a1J (a8 5 (pv 5)) (a8 9 (pv 9))))))
  exact o9
 exact(g9 (a6T 4 (k6 (N4 (a9 (a8 4 (pv 4)) (a9 (a8 1 (pv 1)) i6))))))
theorem a7g(a0i:Df K mg "_law_fold" a0B)(M:MoB K mg)(y6:M9 P w K mg base)(A6:a0W P w K mg base):∀n:Nat,n6 P w K mg base "_law_fold" ["_law_cells","_law_at","_law_room","_law_deep"] (7+n) (C8 n):=by
 intro n
 induction n with
 |zero=>exact p4 (k:=6) a0i a1o (fun _ _ _ _ _ _=>el4 (fun _ _ _ _=>rfl)) fun f cdv A outer s H E hr=>N6
 |succ n ih=>
  exact a8h P w base (Nat.le_add_right _ _) a0i M y6 A6 ih
theorem a5l(D:Df K mg "_law_cell_at" Y3)(M:MoB K mg):a1U P w K mg base:=by
 refine p4 (k:=0) D a1n (fun _ _ _ _ _ _=>el2 (fun _ _=>rfl)) fun f cdv A outer s H E hr=> ?_
 have S:=a1n
 have hu:=hr.units
 exact(e9 (v3 (k7 a1H (a8 1 (pv 1)) (a0M S7 rfl M.z_len (by rfl) (a8 0 (pv 0))) (by first|rfl|exact j8 _)) (g9 (k6 (n8 (a8 0 (pv 0)) (a8 1 (pv 1))))) o9) (g9 (k6 b9)))
theorem a7i(D:Df K mg "_law_drawn" a1g)(V6:a8Q P w K mg base)(y6:M9 P w K mg base)(X5:a1U P w K mg base):a3J P w K mg base:=by
 refine p4 (k:=13) D a2Y (fun _ _ _ _ _ _=>el3 (fun _ _ _=>rfl)) fun f cdv A outer s H E hr=> ?_
 have S:=a2Y
 have hu:=hr.units
 refine e9 ?_ ?_
 ·exact(m4 (i:=3) S.nd (i3 l0 (v0 (a8 0 (pv 0)) (p7 (a8 1 (pv 1))) K7) (V7 (a9 b9 i6))))
 refine e9 ?_ ?_
 ·refine m4 (i:=4) ?_ ?_
  ·exact S.nd
  refine n8 ?_ ?_
  ·exact(V7 (a9 (a8 2 (pv 2)) (a9 (a8 2 (pv 2)) (a9 (i3 E4 (a8 2 (pv 2)) b9) (a9 b9 i6)))))
  exact(i3 B8 (i3 E4 (n5 y6 hr (by decide) rfl (d6 l3) (a9 (n5 X5 hr (by decide) rfl (d6 (d6 l3)) (a9 (a8 0 (pv 0)) (a9 (a8 1 (pv 1)) i6))) i6)) b9) b9)
 exact(g9 (a6T 3 (k6 (n8 (n5 V6 hr (by decide) rfl (d6 (d6 (d6 (d6 l3)))) (a9 (a8 3 (pv 3)) (a9 b9 (a9 (a8 4 (pv 4)) (a9 b9 i6))))) b9))))
theorem a7h(D:Df K mg "_law_count" a1f)(M:MoB K mg):a0V P w K mg base:=by
 refine p4 (k:=0) D a2X (fun _ _ _ _ _ _=>el2 (fun _ _=>rfl)) fun f cdv A outer s H E hr=> ?_
 have S:=a2X
 have hu:=hr.units
 refine e9 ?_ ?_
 ·exact(v3 (k7 (B4 hu) (a8 0 (pv 0)) i9 (by first|rfl|exact j8 _)) (g9 (k6 b9)) o9)
 refine e9 ?_ ?_
 ·exact(b3t PassesOwn.never rfl (b3r (a8 0 (pv 0))) (L3 (i:=2) S.nd rfl (Or.inl rfl)) (Q3 2) (g9 (v3 (k7 (a0y hu) (a8 2 (pv 2)) i9 (by first|rfl|exact j8 _)) (g9 (k6 t6)) o9)))
 refine e9 ?_ ?_
 ·refine v3 (PW.pt (R6 (k7 (B4 hu) (n8 (a8 0 (pv 0)) b9) i9 (by first|rfl|exact j8 _)) (R6 (k7 a2h (a0M S7 rfl M.z_len (by rfl) (a8 0 (pv 0))) b9 (by first|rfl|exact j8 _)) (P9 (k7 a1H (a2x a4j rfl M.z_int (by rfl) (a8 0 (pv 0))) (a8 1 (pv 1)) (by first|rfl|exact j8 _)))))) ?_ ?_
  ·exact(g9 (k6 t6))
  exact o9
 exact(g9 (k6 (a2x a4j rfl M.z_int (by rfl) (a8 0 (pv 0)))))
theorem a8g(D:Df K mg "_law_flat" a2i)(M:MoB K mg)(R4:a0V P w K mg base):a4B P w K mg base:=by
 refine p4 (k:=1) D a30 (fun _ _ _ _ _ _=>el1 (fun _=>rfl)) fun f cdv A outer s H E hr=> ?_
 have S:=a30
 have hu:=hr.units
 refine e9 ?_ ?_
 ·exact(m4 (i:=1) S.nd b9)
 refine e9 ?_ ?_
 ·refine a4J PassesOwn.never ?_ ?_ ?_ (Q3 2) ?_
  ·exact rfl
  ·exact(b1G (a8 0 (pv 0)) i9)
  ·exact(L3 (i:=2) S.nd rfl (Or.inl rfl))
  refine e9 ?_ ?_
  ·refine v3 ?_ ?_ ?_
   ·exact(k7 (B4 hu) (v0 (a8 2 (pv 2)) K7 (p7 b9)) i9 (by first|rfl|exact j8 _))
   ·exact(g9 (m4 (i:=3) S.nd (a2x a4j rfl M.z_int (by rfl) (v0 (a8 2 (pv 2)) (p7 b9) (p7 (b5w b9))))))
   refine e9 ?_ ?_
   ·exact(m4 (i:=4) S.nd (n5 R4 hr (by decide) rfl (d6 (d6 l3)) (a9 (v0 (a8 2 (pv 2)) (p7 b9) K7) (a9 b9 i6))))
   refine e9 ?_ ?_
   ·refine v3 (PW.pt (R6 (k7 (B4 hu) (a8 2 (pv 2)) i9 (by first|rfl|exact j8 _)) (R6 (k7 (a0y hu) (n8 (a8 2 (pv 2)) b9) i9 (by first|rfl|exact j8 _)) (P9 (k7 K9 (a8 4 (pv 4)) t6 (by first|rfl|exact j8 _)))))) ?_ ?_
    ·exact(g9 (k6 t6))
    exact o9
   exact(g9 (m4 (i:=3) S.nd (a8 4 (pv 4))))
  exact(g9 (m4 (i:=1) S.nd (i3 l0 (a8 1 (pv 1)) (a8 3 (pv 3)))))
 exact(g9 (a4m 1 (pv 1)))
theorem a8i(D:Df K mg "_law_size" a2j)(M:MoB K mg)(a0t:a4B P w K mg base)(R4:a0V P w K mg base):a4C P w K mg base:=by
 refine p4 (k:=2) D a31 (fun _ _ _ _ _ _=>el1 (fun _=>rfl)) fun f cdv A outer s H E hr=> ?_
 have S:=a31
 have hu:=hr.units
 refine e9 ?_ ?_
 ·exact(v3 (PW.pt (R6 (k7 (a2S hu) i9 (a8 0 (pv 0)) (by first|rfl|exact j8 _)) (P9 (k7 (a2S hu) i9 (a8 0 (pv 0)) (by first|rfl|exact j8 _))))) (g9 (k6 t6)) o9)
 refine e9 ?_ ?_
 ·refine a2y 200 PassesOwn.never (PW.pt (R6 (k7 (a2S hu) i9 (a8 0 (pv 0)) (by first|rfl|exact j8 _)) (P9 (k7 (a2S hu) i9 (a8 0 (pv 0)) (by first|rfl|exact j8 _))))) ?_
  refine e9 ?_ ?_
  ·exact(m4 (i:=1) S.nd (b1F (a8 0 (pv 0)) i9))
  refine e9 ?_ ?_
  ·exact(m4 (i:=2) S.nd (b3q (a8 0 (pv 0)) i9 (b1B (b5t rfl) rfl M.z_max (by rfl) (a8 1 (pv 1)) b9)))
  refine e9 ?_ ?_
  ·exact(v3 (PW.pt (R6 (k7 a1H (a8 1 (pv 1)) b9 (by first|rfl|exact j8 _)) (P9 (k7 a1H (a8 2 (pv 2)) b9 (by first|rfl|exact j8 _))))) (g9 (k6 t6)) o9)
  refine e9 ?_ ?_
  ·exact(m4 (i:=3) S.nd (i3 l0 (a8 2 (pv 2)) b9))
  refine e9 ?_ ?_
  ·refine a2y 200 PassesOwn.never (PW.pt (a3k (k7 a1H (a8 3 (pv 3)) (a0M S7 rfl M.z_len (by rfl) (a8 0 (pv 0))) (by first|rfl|exact j8 _)) (a2A (k7 (a2S hu) (n8 (a8 0 (pv 0)) (a8 3 (pv 3))) i9 (by first|rfl|exact j8 _))))) ?_
   exact(g9 (m4 (i:=3) S.nd (i3 l0 (a8 3 (pv 3)) b9)))
  refine e9 ?_ ?_
  ·exact(m4 (i:=4) S.nd (n5 a0t hr (by decide) rfl (d6 l3) (a9 (v0 (a8 0 (pv 0)) (p7 (i3 l0 (a8 1 (pv 1)) b9)) (p7 (a8 2 (pv 2)))) i6)))
  refine e9 ?_ ?_
  ·exact(m4 (i:=5) S.nd (n5 R4 hr (by decide) rfl (d6 (d6 l3)) (a9 (v0 (a8 0 (pv 0)) (p7 (i3 l0 (a8 2 (pv 2)) b9)) (p7 (a8 3 (pv 3)))) (a9 b9 i6))))
  refine e9 ?_ ?_
  ·refine v3 (PW.pt (R6 (k7 K9 (a8 4 (pv 4)) t6 (by first|rfl|exact j8 _)) (R6 (k7 K9 (a8 5 (pv 5)) t6 (by first|rfl|exact j8 _)) (P9 (k7 (B4 hu) (i3 l0 (a8 2 (pv 2)) b9) (a8 3 (pv 3)) (by first|rfl|exact j8 _)))))) ?_ ?_
   ·exact(g9 (k6 t6))
   exact o9
  refine e9 ?_ ?_
  ·refine v3 (PW.pt (R6 (k7 (a0y hu) (v0 (a8 0 (pv 0)) (p7 (i3 a1J (a8 1 (pv 1)) b9)) (p7 (a8 1 (pv 1)))) (N4 (a9 i9 (a9 i9 (a9 i9 i6)))) (by first|rfl|exact j8 _)) (P9 (k7 (a0y hu) (v0 (a8 0 (pv 0)) (p7 (a8 3 (pv 3))) (p7 (i3 l0 (a8 3 (pv 3)) b9))) (N4 (a9 i9 (a9 i9 (a9 i9 i6)))) (by first|rfl|exact j8 _))))) ?_ ?_
   ·exact(g9 (k6 t6))
   exact o9
  refine g9 ?_
  refine m4 (i:=0) ?_ ?_
  ·exact S.nd
  refine i3 l0 ?_ ?_
  ·exact(i3 l0 (i3 l0 (i3 l0 (v0 (a8 0 (pv 0)) K7 (p7 (a8 1 (pv 1)))) i9) (a2x a4I rfl M.z_str (by rfl) (i3 a0a (a8 4 (pv 4)) (a8 5 (pv 5))))) i9)
  exact(v0 (a8 0 (pv 0)) (p7 (a8 3 (pv 3))) K7)
 exact(g9 (a6T 0 (k6 (n5 a0t hr (by decide) rfl (d6 l3) (a9 (a8 0 (pv 0)) i6)))))
theorem a9j(D:Df K mg "run_end" a3D)(M:MoB K mg):a54 P w K mg base:=by
 refine p4 (k:=0) D a5z (fun _ _ _ _ _ _=>el4 (fun _ _ _ _=>rfl)) fun f cdv A outer s H E hr=> ?_
 have S:=a5z
 have hu:=hr.units
 refine e9 ?_ ?_
 ·exact(m4 (i:=4) S.nd (a8 1 (pv 1)))
 refine e9 ?_ ?_
 ·refine a2y 200 PassesOwn.never (PW.pt (a3k (k7 a1H (a8 4 (pv 4)) (a0M S7 rfl M.z_len (by rfl) (a8 0 (pv 0))) (by first|rfl|exact j8 _)) (a2A (a2z U9 U9 (a8 2 (pv 2)) (n8 (a8 0 (pv 0)) (a8 4 (pv 4))) (a8 3 (pv 3)))))) ?_
  exact(g9 (a82 (i:=4) S.nd b9 a5o))
 exact(g9 (a4m 4 (pv 4)))
theorem a5k(D:Df K mg "figures_end" Y2)(a3g:a54 P w K mg base):X3 P w K mg base:=by
 refine p4 (k:=1) D a1l (fun _ _ _ _ _ _=>el2 (fun _ _=>rfl)) fun f cdv A outer s H E hr=> ?_
 have S:=a1l
 have hu:=hr.units
 exact(g9 (k6 (n5 a3g hr (by decide) rfl (d6 (d6 (d6 (d6 l3)))) (a9 (a8 0 (pv 0)) (a9 (a8 1 (pv 1)) (a9 i9 (a9 i9 i6)))))))
theorem a7l(D:Df K mg "number_in" a1i)(M:MoB K mg){u_MOST_FIGURES:AA}{n_MOST_FIGURES:Nat}(m_MOST_FIGURES:mg "MOST_FIGURES"=some u_MOST_FIGURES)(c_MOST_FIGURES:a0o K n_MOST_FIGURES u_MOST_FIGURES=some O7)(K0:X3 P w K mg base):a3M P w K mg base:=by
 refine p4 (k:=2) D a20 (fun _ _ _ _ _ _=>el1 (fun _=>rfl)) fun f cdv A outer s H E hr=> ?_
 have S:=a20
 have hu:=hr.units
 refine e9 ?_ ?_
 ·refine v3 (PW.pt (R6 (V8 (a2z U9 U9 b9 (a0M S7 rfl M.z_len (by rfl) (a8 0 (pv 0))) (a4l rfl m_MOST_FIGURES c_MOST_FIGURES))) (P9 (k7 (b2o hu) (n5 K0 hr (by decide) rfl (d6 (d6 l3)) (a9 (a8 0 (pv 0)) (a9 b9 i6))) (a0M S7 rfl M.z_len (by rfl) (a8 0 (pv 0))) (by first|rfl|exact j8 _))))) ?_ ?_
  ·exact(g9 (k6 t6))
  exact o9
 refine e9 ?_ ?_
 ·exact(v3 (PW.pt (a3k (k7 (B4 hu) (n8 (a8 0 (pv 0)) b9) i9 (by first|rfl|exact j8 _)) (a2A (k7 a2h (a0M S7 rfl M.z_len (by rfl) (a8 0 (pv 0))) b9 (by first|rfl|exact j8 _))))) (g9 (k6 t6)) o9)
 exact(g9 (k6 (a2x a4j rfl M.z_int (by rfl) (a8 0 (pv 0)))))
theorem a2R(D:Df K mg "number_between" Q2)(a04:a3M P w K mg base):Z1 P w K mg base:=by
 refine p4 (k:=3) D X0 (fun _ _ _ _ _ _=>el3 (fun _ _ _=>rfl)) fun f cdv A outer s H E hr=> ?_
 have S:=X0
 have hu:=hr.units
 refine e9 ?_ ?_
 ·exact(m4 (i:=3) S.nd (n5 a04 hr (by decide) rfl (d6 l3) (a9 (a8 0 (pv 0)) i6)))
 exact(e9 (v3 (PW.pt (R6 (k7 K9 (a8 3 (pv 3)) t6 (by first|rfl|exact j8 _)) (P9 (V8 (a2z U9 U9 (a8 1 (pv 1)) (a8 3 (pv 3)) (a8 2 (pv 2))))))) (g9 (k6 t6)) o9) (g9 (a4m 3 (pv 3))))
theorem a8k(D:Df K mg "times_at" a2k){u_LONGEST:AA}{n_LONGEST:Nat}(m_LONGEST:mg "LONGEST"=some u_LONGEST)(c_LONGEST:a0o K n_LONGEST u_LONGEST=some Q4)(K0:X3 P w K mg base)(P8:Z1 P w K mg base):a0n P w K mg base:=by
 refine p4 (k:=4) D a32 (fun _ _ _ _ _ _=>el2 (fun _ _=>rfl)) fun f cdv A outer s H E hr=> ?_
 have S:=a32
 have hu:=hr.units
 refine e9 ?_ ?_
 ·exact(m4 (i:=2) S.nd (n5 K0 hr (by decide) rfl (d6 (d6 l3)) (a9 (a8 0 (pv 0)) (a9 (a8 1 (pv 1)) i6))))
 refine e9 ?_ ?_
 ·exact(v3 (k7 (B4 hu) (a8 2 (pv 2)) (a8 1 (pv 1)) (by first|rfl|exact j8 _)) (g9 (k6 (N4 (a9 b9 (a9 (a8 2 (pv 2)) i6))))) o9)
 refine e9 ?_ ?_
 ·exact(m4 (i:=3) S.nd (n5 P8 hr (by decide) rfl (d6 (d6 (d6 l3))) (a9 (v0 (a8 0 (pv 0)) (p7 (a8 1 (pv 1))) (p7 (a8 2 (pv 2)))) (a9 b9 (a9 (a4l rfl m_LONGEST c_LONGEST) i6)))))
 exact(e9 (v3 (k7 K9 (a8 3 (pv 3)) t6 (by first|rfl|exact j8 _)) (g9 (k6 t6)) o9) (g9 (k6 (N4 (a9 (a8 3 (pv 3)) (a9 (a8 2 (pv 2)) i6))))))
theorem b0X(D:Df K mg "run_of" a5y):a4D P w K mg base:=by
 refine p4 (k:=0) D a6y (fun _ _ _ _ _ _=>el2 (fun _ _=>rfl)) fun f cdv A outer s H E hr=> ?_
 have S:=a6y
 have hu:=hr.units
 exact(g9 (k6 (N4 (a9 i9 (a9 (a8 0 (pv 0)) (a9 (a8 1 (pv 1)) i6))))))
theorem a8e{k:Nat}(hk0:5≤k){R_again_at l5 p6:List PV→Option e8}(D:Df K mg "again_at" a0z)(G2:a0n P w K mg base)(g:a0l P w K mg base k R_again_at l5 p6):n6 P w K mg base "again_at" ["text","at","left","part_at","closing"] (k+1) (v6 2 (P7 R_again_at l5 p6)):=by
 refine p4 (k:=k) D a1k (fun _ _ _ _ _ _=>el5 (fun _ _ _ _ _=>rfl)) fun f cdv A outer s H E hr=> ?_
 have S:=a1k
 have hu:=hr.units
 refine e9 ?_ ?_
 ·exact(v3 (k7 (B4 hu) (a8 2 (pv 2)) b9 (by first|rfl|exact j8 _)) (g9 (k6 t6)) o9)
 refine e9 ?_ ?_
 ·exact(m4 (i:=5) S.nd (n5 g.d_parts_at hr (by lia) rfl (d6 (d6 (d6 (d6 l3)))) (a9 (a8 0 (pv 0)) (a9 (a8 1 (pv 1)) (a9 (i3 a1J (a8 2 (pv 2)) b9) (a9 (a8 3 (pv 3)) i6))))))
 refine e9 ?_ ?_
 ·exact(v3 (PW.pt (R6 (k7 K9 (a8 5 (pv 5)) t6 (by first|rfl|exact j8 _)) (P9 (V8 (X8 (a3j (a8 0 (pv 0)) (a8 4 (pv 4)) (n8 (a8 5 (pv 5)) b9))))))) (g9 (k6 t6)) o9)
 refine e9 ?_ ?_
 ·exact(m4 (i:=6) S.nd (n5 G2 hr (by lia) rfl (d6 (d6 l3)) (a9 (a8 0 (pv 0)) (a9 (i3 l0 (n8 (a8 5 (pv 5)) b9) b9) i6))))
 refine e9 ?_ ?_
 ·exact(v3 (PW.pt (R6 (k7 K9 (a8 6 (pv 6)) t6 (by first|rfl|exact j8 _)) (P9 (k7 (B4 hu) (n8 (a8 6 (pv 6)) b9) b9 (by first|rfl|exact j8 _))))) (g9 (k6 t6)) o9)
 exact(g9 (k6 (N4 (a9 (N4 (a9 i9 (a9 (n8 (a8 6 (pv 6)) b9) (a9 (n8 (a8 5 (pv 5)) b9) i6)))) (a9 (n8 (a8 6 (pv 6)) b9) i6)))))
theorem a4e{k:Nat}(hk0:5≤k){R_again_at l5 p6:List PV→Option e8}(D:Df K mg "fold_part_at" A9){z5:AB}(o0:FnV K mg "fold_part_at" z5)(G2:a0n P w K mg base)(a05:a4D P w K mg base)(g:a0l P w K mg base k R_again_at l5 p6):n6 P w K mg base "fold_part_at" ["text","at","left"] (k+1) (v6 1 (N1 R_again_at l5 p6)):=by
 refine p4 (k:=k) D T5 (fun _ _ _ _ _ _=>el3 (fun _ _ _=>rfl)) fun f cdv A outer s H E hr=> ?_
 have S:=T5
 have hu:=hr.units
 refine e9 ?_ ?_
 ·refine v3 ?_ ?_ ?_
  ·exact(X8 (a3j (a8 0 (pv 0)) i9 (a8 1 (pv 1))))
  ·exact(g9 (k6 (n5 g.d_again_at hr (by lia) rfl (d6 (d6 (d6 (d6 (d6 l3))))) (a9 (a8 0 (pv 0)) (a9 (i3 l0 (a8 1 (pv 1)) b9) (a9 (a8 2 (pv 2)) (a9 (b4R o0) (a9 i9 i6))))))))
  exact o9
 refine e9 ?_ ?_
 ·exact(v3 (V8 (a2z U9 U9 i9 (v0 (a8 0 (pv 0)) (p7 (a8 1 (pv 1))) (p7 (i3 l0 (a8 1 (pv 1)) b9))) i9)) (g9 (k6 t6)) o9)
 refine e9 ?_ ?_
 ·exact(m4 (i:=3) S.nd (n5 G2 hr (by lia) rfl (d6 (d6 l3)) (a9 (a8 0 (pv 0)) (a9 (i3 l0 (a8 1 (pv 1)) b9) i6))))
 refine e9 ?_ ?_
 ·exact(v3 (k7 K9 (a8 3 (pv 3)) t6 (by first|rfl|exact j8 _)) (g9 (k6 t6)) o9)
 exact(g9 (k6 (N4 (a9 (n5 a05 hr (by lia) rfl (d6 (d6 l3)) (a9 (n8 (a8 0 (pv 0)) (a8 1 (pv 1))) (a9 (n8 (a8 3 (pv 3)) b9) i6))) (a9 (n8 (a8 3 (pv 3)) b9) i6)))))
theorem a8j{k:Nat}(hk0:5≤k){R_again_at l5 p6:List PV→Option e8}(D:Df K mg "parts_at" a0D){z5:AB}(o0:FnV K mg "fold_part_at" z5)(g:a0l P w K mg base k R_again_at l5 p6):n6 P w K mg base "parts_at" ["text","at","left","part_at"] (k+1) (v6 2 (a0r R_again_at l5 p6)):=by
 refine p4 (k:=k) D a1r (fun _ _ _ _ _ _=>el4 (fun _ _ _ _=>rfl)) fun f cdv A outer s H E hr=> ?_
 have S:=a1r
 have hu:=hr.units
 refine e9 ?_ ?_
 ·exact(m4 (i:=4) S.nd (V7 i6))
 refine g9 ?_
 refine a2y 200 PassesOwn.never ?_ ?_
 ·exact(X8 a2v)
 refine e9 ?_ ?_
 ·exact(m4 (i:=5) S.nd (b1C 3 (a83 g.d_fold_part_at o0 (by lia) rfl b0F) hr (pv 3) (d6 (d6 (d6 l3))) (a9 (a8 0 (pv 0)) (a9 (a8 1 (pv 1)) (a9 (a8 2 (pv 2)) i6)))))
 refine e9 ?_ ?_
 ·exact(v3 (k7 K9 (a8 5 (pv 5)) t6 (by first|rfl|exact j8 _)) (g9 (k6 t6)) o9)
 refine e9 ?_ ?_
 ·exact(M0 4 (pv 4) (n8 (a8 5 (pv 5)) b9))
 refine e9 ?_ ?_
 ·exact(v3 (V8 (X8 (a3j (a8 0 (pv 0)) i9 (n8 (a8 5 (pv 5)) b9)))) (g9 (a6T 4 (k6 (N4 (a9 (a8 4 (pv 4)) (a9 (n8 (a8 5 (pv 5)) b9) i6)))))) o9)
 exact(g9 (m4 (i:=1) S.nd (i3 l0 (n8 (a8 5 (pv 5)) b9) b9)))
theorem a7e(D_again_at:Df K mg "again_at" a0z)(M5:Df K mg "fold_part_at" A9)(a0k:Df K mg "parts_at" a0D){z5:AB}(o0:FnV K mg "fold_part_at" z5)(G2:a0n P w K mg base)(a05:a4D P w K mg base):∀n:Nat,a0l P w K mg base (5+n) (G8 n) (u0 n) (C9 n):=by
 intro n
 induction n with
 |zero=>exact⟨p4 (k:=4) D_again_at a1k (fun _ _ _ _ _ _=>el5 (fun _ _ _ _ _=>rfl)) fun f cdv A outer s H E hr=>N6,p4 (k:=4) M5 T5 (fun _ _ _ _ _ _=>el3 (fun _ _ _=>rfl)) fun f cdv A outer s H E hr=>N6,p4 (k:=4) a0k a1r (fun _ _ _ _ _ _=>el4 (fun _ _ _ _=>rfl)) fun f cdv A outer s H E hr=>N6⟩
 |succ n ih=>
  exact⟨a8e P w base (Nat.le_add_right _ _) D_again_at G2 ih,a4e P w base (Nat.le_add_right _ _) M5 o0 G2 a05 ih,a8j P w base (Nat.le_add_right _ _) a0k o0 ih⟩
theorem a8f{k:Nat}(hk0:1≤k){P5:List PV→Option e8}(D:Df K mg "knots_in" a0A)(V5:n6 P w K mg base "knots_in" ["fold"] k P5):n6 P w K mg base "knots_in" ["fold"] (k+1) (v6 2 (a0p P5)):=by
 refine p4 (k:=k) D a1m (fun _ _ _ _ _ _=>el1 (fun _=>rfl)) fun f cdv A outer s H E hr=> ?_
 have S:=a1m
 have hu:=hr.units
 refine e9 ?_ ?_
 ·exact(m4 (i:=1) S.nd b9)
 refine e9 ?_ ?_
 ·refine a4J PassesOwn.never ?_ ?_ ?_ (Q3 2) ?_
  ·exact rfl
  ·exact(a8 0 (pv 0))
  ·exact(L3 (i:=2) S.nd rfl (Or.inl rfl))
  refine g9 ?_
  refine v3 ?_ ?_ ?_
  ·exact(k7 (B4 hu) (n8 (a8 2 (pv 2)) b9) i9 (by first|rfl|exact j8 _))
  ·exact(g9 (a82 (i:=1) S.nd (n8 (a8 2 (pv 2)) b9) a5o))
  exact(g9 (a82 (i:=1) S.nd (i3 a0a (n8 (a8 2 (pv 2)) b9) (n5 V5 hr (by lia) rfl (d6 l3) (a9 (n8 (a8 2 (pv 2)) b9) i6))) a5o))
 exact(g9 (a4m 1 (pv 1)))
theorem a7f(a0h:Df K mg "knots_in" a0A):∀n:Nat,n6 P w K mg base "knots_in" ["fold"] (1+n) (S0 n):=by
 intro n
 induction n with
 |zero=>exact p4 (k:=0) a0h a1m (fun _ _ _ _ _ _=>el1 (fun _=>rfl)) fun f cdv A outer s H E hr=>N6
 |succ n ih=>
  exact a8f P w base (Nat.le_add_right _ _) a0h ih
theorem a7m(D:Df K mg "read_fold" a1j)(M:MoB K mg)(kb:K.In base){C_NoFold:AB}(x_NoFold:XC K mg "NoFold" C_NoFold){z5:AB}(o0:FnV K mg "fold_part_at" z5)(xe_NoFold:PySem.W.excIn K C_NoFold a7a "ValueError.__new__"=true){u_LONGEST:AA}{n_LONGEST:Nat}(m_LONGEST:mg "LONGEST"=some u_LONGEST)(c_LONGEST:a0o K n_LONGEST u_LONGEST=some Q4){u_MOST_WITHIN:AA}{n_MOST_WITHIN:Nat}(m_MOST_WITHIN:mg "MOST_WITHIN"=some u_MOST_WITHIN)(c_MOST_WITHIN:a0o K n_MOST_WITHIN u_MOST_WITHIN=some R0)(d_parts_at:a8R P w K mg base)(d_fold_part_at:a4A P w K mg base)(V5:a8P P w K mg base):a0X P w K mg base:=by
 refine b3x (k:=47) D a21 (fun _ _ _ _ _ _=>el1 (fun _=>rfl)) fun f cdv A outer s H E hr hx=> ?_
 have S:=a21
 have hu:=hr.units
 refine a4K ?_ ?_
 ·exact(b4T (V8 (X8 (b5v (.inr (.inr (.inl rfl))) rfl M.z_isinstance (a8 0 (pv 0)) (a93 rfl M.z_str (by rfl) rfl)))) (a4n (a7U rfl rfl rfl x_NoFold.mg (b0n kb xe_NoFold) (a9 i9 i6) (fun pins σ H s a I x h0 hn e=>a3T I x h0 hn e))) (a6U o9))
 refine a4K ?_ ?_
 ·exact(b5F (m4 (i:=1) S.nd (n5 d_parts_at hr (by decide) rfl (d6 (d6 (d6 (d6 l3)))) (a9 (a8 0 (pv 0)) (a9 b9 (a9 (a4l rfl m_MOST_WITHIN c_MOST_WITHIN) (a9 (b4R o0) i6)))))))
 refine a4K ?_ ?_
 ·refine b4T (PW.pt (R6 (k7 K9 (a8 1 (pv 1)) t6 (by first|rfl|exact j8 _)) (R6 (k7 (b2o hu) (n8 (a8 1 (pv 1)) b9) (a0M S7 rfl M.z_len (by rfl) (a8 0 (pv 0))) (by first|rfl|exact j8 _)) (P9 (k7 a2h (n5 V5 hr (by decide) rfl (d6 l3) (a9 (n8 (a8 1 (pv 1)) b9) i6)) (a4l rfl m_LONGEST c_LONGEST) (by first|rfl|exact j8 _)))))) ?_ ?_
  ·exact(a4n (a7U rfl rfl rfl x_NoFold.mg (b0n kb xe_NoFold) (a9 i9 i6) (fun pins σ H s a I x h0 hn e=>a3T I x h0 hn e)))
  exact(a6U o9)
 exact(a6U (g9 (k6 (n8 (a8 1 (pv 1)) b9))))
theorem a3y(D:Df K mg "written_times" T4)(M:MoB K mg):S5 P w K mg base:=by
 refine p4 (k:=0) D a0b (fun _ _ _ _ _ _=>el1 (fun _=>rfl)) fun f cdv A outer s H E hr=> ?_
 have S:=a0b
 have hu:=hr.units
 exact(e9 (v3 (k7 (B4 hu) (a8 0 (pv 0)) b9 (by first|rfl|exact j8 _)) (g9 (k6 i9)) o9) (g9 (k6 (a2x a4I rfl M.z_str (by rfl) (a8 0 (pv 0))))))
theorem a5Z{k:Nat}(hk0:1≤k){t8 R_shown_part:List PV→Option e8}(D:Df K mg "shown_fold" V0)(g:a0m P w K mg base k t8 R_shown_part):n6 P w K mg base "shown_fold" ["fold"] (k+1) (v6 0 (U2 t8 R_shown_part)):=by
 refine p4 (k:=k) D Y6 (fun _ _ _ _ _ _=>el1 (fun _=>rfl)) fun f cdv A outer s H E hr=> ?_
 have S:=Y6
 have hu:=hr.units
 refine g9 ?_
 refine k6 ?_
 refine a2w ?_ ?_
 ·exact i9
 refine a6S (ys:=["part"]) (N0:=["fold"]) (fun _ _ h=>h) ?_ ⟨by kernel_rfl,rfl,of_decide_eq_true rfl,of_decide_eq_true rfl,of_decide_eq_true rfl⟩ ?_ (fun C fp pins s H=>L3 (i:=1) a4b rfl (Or.inl rfl)) (fun n h=>a2p (i:=1) (Nat.le_of_eq h)) (fun C fp pins s H=>a8Z) ?_
 ·exact rfl
 ·exact(b5x (a8 0 (pv 0)))
 intro C fp pins s H
 exact(n5 g.d_shown_part hr (by lia) rfl (d6 l3) (a9 (a8 1 (pv 1)) i6))
theorem a50{k:Nat}(hk0:1≤k){t8 R_shown_part:List PV→Option e8}(D:Df K mg "shown_part" V1)(M:MoB K mg)(D6:S5 P w K mg base)(g:a0m P w K mg base k t8 R_shown_part):n6 P w K mg base "shown_part" ["part"] (k+1) (v6 0 (U3 t8 R_shown_part)):=by
 refine p4 (k:=k) D Y7 (fun _ _ _ _ _ _=>el1 (fun _=>rfl)) fun f cdv A outer s H E hr=> ?_
 have S:=Y7
 have hu:=hr.units
 refine e9 ?_ ?_
 ·exact(v3 (k7 (B4 hu) (n8 (a8 0 (pv 0)) b9) i9 (by first|rfl|exact j8 _)) (g9 (k6 (i3 l0 (n8 (a8 0 (pv 0)) b9) (n5 D6 hr (by lia) rfl (d6 l3) (a9 (n8 (a8 0 (pv 0)) b9) i6))))) o9)
 exact(g9 (k6 (i3 l0 (i3 l0 (i3 l0 i9 (n5 g.d_shown_fold hr (by lia) rfl (d6 l3) (a9 (n8 (a8 0 (pv 0)) b9) i6))) i9) (a2x a4I rfl M.z_str (by rfl) (n8 (a8 0 (pv 0)) b9)))))
theorem a5j(U1:Df K mg "shown_fold" V0)(D_shown_part:Df K mg "shown_part" V1)(M:MoB K mg)(D6:S5 P w K mg base):∀n:Nat,a0m P w K mg base (1+n) (E7 n) (K4 n):=by
 intro n
 induction n with
 |zero=>exact⟨p4 (k:=0) U1 Y6 (fun _ _ _ _ _ _=>el1 (fun _=>rfl)) fun f cdv A outer s H E hr=>N6,p4 (k:=0) D_shown_part Y7 (fun _ _ _ _ _ _=>el1 (fun _=>rfl)) fun f cdv A outer s H E hr=>N6⟩
 |succ n ih=>
  exact⟨a5Z P w base (Nat.le_add_right _ _) U1 ih,a50 P w base (Nat.le_add_right _ _) D_shown_part M D6 ih⟩
theorem a7j(D:Df K mg "_law_right" a1h)(M:MoB K mg){C_CarpetError:AB}(x_CarpetError:XC K mg "CarpetError" C_CarpetError){C_NoFold:AB}(x_NoFold:XC K mg "NoFold" C_NoFold)(ks_NoFold_NoFold:PySem.W.kitOne K (.ref C_NoFold) (.ref C_NoFold)=some true)(ks_NoFold_ValueError:PySem.W.kitOne K (.ref C_NoFold) (.type "ValueError")=some true)(xf_NoFold:b27 K C_NoFold=true)(im_NoFold_CarpetError:a4X K C_NoFold C_CarpetError=true)(a2a:a4C P w K mg base)(R5:a0X P w K mg base)(G1:a3L P w K mg base)(d_shown_fold:a6I P w K mg base):a3K P w K mg base:=by
 refine p4 (k:=48) D a2Z (fun _ _ _ _ _ _=>el1 (fun _=>rfl)) fun f cdv A outer s H E hr=> ?_
 have S:=a2Z
 have hu:=hr.units
 refine e9 ?_ ?_
 ·exact(m4 (i:=1) S.nd (n5 a2a hr (by decide) rfl (d6 l3) (a9 (a8 0 (pv 0)) i6)))
 refine e9 ?_ ?_
 ·exact(m4 (i:=2) S.nd t6)
 refine e9 ?_ ?_
 ·refine b0E (i:=3) ?_ x_CarpetError (a73 x_CarpetError x_NoFold im_NoFold_CarpetError a9S) ?_ ?_
  ·exact S.nd
  ·intro Y pn E hx
   exact(a4n (b3v (i:=2) S.nd R5 hr (by decide) rfl hx (d6 l3) (a9 (a8 0 (pv 0)) i6)))
  intro a Y
  refine g9 ?_
  refine v3 (PW.pt (R6 (V8 (X8 (b1D (cV:= .ref _) (a6B x_NoFold xf_NoFold ks_NoFold_NoFold a8D) (fun u h=>h) rfl M.z_isinstance (a8 3 (pv 3)) (a7o rfl x_NoFold.mg rfl)))) (P9 (V8 (X8 (b1D (cV:= .ty "ValueError") (a6B x_NoFold xf_NoFold ks_NoFold_ValueError a8D) (fun u h=>h) rfl M.z_isinstance (a8 3 (pv 3)) (a93 rfl M.z_ValueError (by rfl) rfl))))))) ?_ ?_
  ·exact(g9 (k6 a2v))
  exact o9
 refine e9 ?_ ?_
 ·exact(v3 (k7 K9 (a8 2 (pv 2)) t6 (by first|rfl|exact j8 _)) (g9 (k6 (b60 (a3i K9 (a8 1 (pv 1)) t6 (by first|rfl|exact j8 _)) (b1E (a3i a2h (a8 1 (pv 1)) b9 (by first|rfl|exact j8 _)))))) o9)
 refine g9 ?_
 refine k6 ?_
 refine a80 ?_ ?_
 ·exact(a3i b2p (a8 1 (pv 1)) t6 (by first|rfl|exact j8 _))
 refine a80 ?_ ?_
 ·exact(a3i U9 (a8 1 (pv 1)) b9 (by first|rfl|exact j8 _))
 refine a80 ?_ ?_
 ·exact(a3i (B4 hu) (n5 G1 hr (by decide) rfl (d6 l3) (a9 (a8 2 (pv 2)) i6)) (a8 0 (pv 0)) (by first|rfl|exact j8 _))
 exact(b1E (a3i (B4 hu) (n5 d_shown_fold hr (by decide) rfl (d6 l3) (a9 (a8 2 (pv 2)) i6)) (a8 0 (pv 0)) (by first|rfl|exact j8 _)))
theorem a5m(D:Df K mg "_law_no_text" Y4){C_NoFold:AB}(x_NoFold:XC K mg "NoFold" C_NoFold)(im_NoFold_NoFold:a4X K C_NoFold C_NoFold=true)(R5:a0X P w K mg base):a1V P w K mg base:=by
 refine p4 (k:=48) D a1p (fun _ _ _ _ _ _=>el1 (fun _=>rfl)) fun f cdv A outer s H E hr=> ?_
 have S:=a1p
 have hu:=hr.units
 exact(e9 (b3u x_NoFold (a73 x_NoFold x_NoFold im_NoFold_NoFold a9S) (fun Y pn E hx=>(a4n (b3w R5 hr (by decide) rfl hx (d6 l3) (a9 (a8 0 (pv 0)) i6)))) (fun a Y=>(g9 (k6 a2v)))) (g9 (k6 a2v)))
theorem a5n(D:Df K mg "_law_spoiled" Y5)(M:MoB K mg):a1W P w K mg base:=by
 refine p4 (k:=0) D a1q (fun _ _ _ _ _ _=>el2 (fun _ _=>rfl)) fun f cdv A outer s H E hr=> ?_
 have S:=a1q
 have hu:=hr.units
 refine e9 ?_ ?_
 ·exact(m4 (i:=2) S.nd (i3 B8 (a8 1 (pv 1)) b9))
 refine e9 ?_ ?_
 ·exact(m4 (i:=3) S.nd (i3 B8 (i3 E4 (a8 1 (pv 1)) b9) (i3 l0 (a0M S7 rfl M.z_len (by rfl) (a8 0 (pv 0))) b9)))
 refine e9 ?_ ?_
 ·exact(m4 (i:=4) S.nd (n8 i9 (i3 B8 (i3 E4 (a8 1 (pv 1)) b9) b9)))
 refine e9 ?_ ?_
 ·exact(v3 (k7 (B4 hu) (a8 2 (pv 2)) b9 (by first|rfl|exact j8 _)) (g9 (k6 (i3 l0 (v0 (a8 0 (pv 0)) K7 (p7 (a8 3 (pv 3)))) (v0 (a8 0 (pv 0)) (p7 (i3 l0 (a8 3 (pv 3)) b9)) K7)))) o9)
 refine e9 ?_ ?_
 ·refine v3 ?_ ?_ ?_
  ·exact(k7 (B4 hu) (a8 2 (pv 2)) b9 (by first|rfl|exact j8 _))
  ·exact(g9 (k6 (i3 l0 (i3 l0 (v0 (a8 0 (pv 0)) K7 (p7 (a8 3 (pv 3)))) (a8 4 (pv 4))) (v0 (a8 0 (pv 0)) (p7 (i3 l0 (a8 3 (pv 3)) b9)) K7))))
  exact o9
 refine e9 ?_ ?_
 ·refine v3 (PW.pt (a3k (k7 (B4 hu) (a8 2 (pv 2)) b9 (by first|rfl|exact j8 _)) (a2A (k7 (B4 hu) (i3 B8 (i3 E4 (a8 1 (pv 1)) b9) b9) b9 (by first|rfl|exact j8 _))))) ?_ ?_
  ·refine e9 ?_ ?_
   ·exact(m4 (i:=5) S.nd (V7 (a9 i9 (a9 i9 (a9 i9 (a9 i9 (a9 i9 (a9 i9 (a9 i9 (a9 i9 (a9 i9 (a9 i9 i6))))))))))))
   exact(g9 (k6 (n8 (a8 5 (pv 5)) (i3 B8 (i3 E4 (a8 1 (pv 1)) b9) b9))))
  exact o9
 exact(g9 (k6 (i3 l0 (i3 l0 (v0 (a8 0 (pv 0)) K7 (p7 (a8 3 (pv 3)))) (a8 4 (pv 4))) (v0 (a8 0 (pv 0)) (p7 (a8 3 (pv 3))) K7))))
theorem b51{f:AB}{fd:FuncData}(F:Fun K "law" "law" b2R f fd)(G1:a3L P w K mg base)(a03:a3J P w K mg base)(W6:a3K P w K mg base)(y6:M9 P w K mg base)(X6:a1V P w K mg base)(X7:a1W P w K mg base):R3 P w K mg base CX0 50 f fd ["_law_script"] (spP K 1 b1S):=by
 refine b4Z (k:=49) F b2S fun cdv A outer s H E hr=> ?_
 have S:=b2S
 have hu:=hr.units
 refine e9 ?_ ?_
 ·exact(m4 (i:=1) S.nd (n5 G1 hr (by decide) rfl (d6 l3) (a9 (n5 a03 hr (by decide) rfl (d6 (d6 (d6 l3))) (a9 (a8 0 (pv 0)) (a9 b9 (a9 b9 i6)))) i6)))
 refine e9 ?_ ?_
 ·exact(v3 (V8 (X8 (n5 W6 hr (by decide) rfl (d6 l3) (a9 (a8 1 (pv 1)) i6)))) (g9 (k6 a2v)) o9)
 refine e9 ?_ ?_
 ·refine a4J PassesOwn.never ?_ ?_ ?_ (Q3 2) ?_
  ·exact rfl
  ·exact(i3 l0 (v0 (a8 0 (pv 0)) K7 (p7 b9)) (V7 (a9 b9 i6)))
  ·exact(L3 (i:=2) S.nd rfl (Or.inl rfl))
  refine e9 ?_ ?_
  ·exact(m4 (i:=3) S.nd (n5 y6 hr (by decide) rfl (d6 l3) (a9 (a8 2 (pv 2)) i6)))
  refine e9 ?_ ?_
  ·exact(v3 (V8 (X8 (n5 W6 hr (by decide) rfl (d6 l3) (a9 (n5 X7 hr (by decide) rfl (d6 (d6 l3)) (a9 (a8 1 (pv 1)) (a9 (a8 3 (pv 3)) i6))) i6)))) (g9 (k6 a2v)) o9)
  refine g9 ?_
  refine v3 ?_ ?_ ?_
  ·refine V8 ?_
   refine X8 ?_
   refine n5 X6 hr ?_ ?_ ?_ ?_
   ·decide
   ·exact rfl
   ·exact(d6 l3)
   refine a9 ?_ ?_
   ·refine n8 ?_ ?_
    ·exact(V7 (a9 t6 (a9 b9 (a9 (V7 (a9 i9 i6)) (a9 (N4 (a9 i9 (a9 i9 (a9 b9 i6)))) (a9 (V7 (a9 (N4 (a9 i9 (a9 i9 (a9 b9 i6)))) i6)) (a9 a2v i6)))))))
    exact(i3 B8 (a8 3 (pv 3)) b9)
   exact i6
  ·exact(g9 (k6 a2v))
  exact o9
 exact(g9 (k6 a2v))
end
theorem b5m{l:PySem.W.OpenLaw}{w:AI}{K:AD}{h:Heap}{mg:Str→Option AA}{fa:AB}(X:K.In h)(G:h.Ns mainGlobals mg)(hfa:mg "law"=some (.ref fa))
 {G3:AB} {a4d a35:Option AB} {a4i:Array (Option AA)} {a4c a4a a37 a4g a0K a36:AA}
 {C_CarpetError:AB}
 {C_NoFold:AB}
 {uu_LONGEST:AA}
 {uu_MOST_FIGURES:AA}
 {uu_MOST_WITHIN:AA}
 (G1:Df0 K "_law_shown" W9)
 (y6:Df0 K "_law_number" a0C)
 (A6:Df0 K "_law_unfolded" O5)
 (V6:Df0 K "_law_fold" a0B)
 (X5:Df0 K "_law_cell_at" Y3)
 (a03:Df0 K "_law_drawn" a1g)
 (R4:Df0 K "_law_count" a1f)
 (a0t:Df0 K "_law_flat" a2i)
 (a2a:Df0 K "_law_size" a2j)
 (a3g:Df0 K "run_end" a3D)
 (K0:Df0 K "figures_end" Y2)
 (a04:Df0 K "number_in" a1i)
 (P8:Df0 K "number_between" Q2)
 (G2:Df0 K "times_at" a2k)
 (a05:Df0 K "run_of" a5y)
 (d_again_at:Df0 K "again_at" a0z)
 (a0Y:PySem.W.nsIn K mainGlobals "fold_part_at"=some (some (.ref G3))) (a07:K.lookup G3=some ⟨a4c,a4d,.func (PySem.W.fnOf "fold_part_at" "fold_part_at" (Q5 A9) (D0 A9) (i4 A9) .none a4a a37 a4g a35 a0K a36),a4i⟩) (a4H:PySem.W.codeIn K a0K "fold_part_at"=true) (a41:PySem.W.keepIn K (.ref G3)=true) (a38:b2k K "fold_part_at" G3=true)
 (d_parts_at:Df0 K "parts_at" a0D)
 (V5:Df0 K "knots_in" a0A)
 (R5:Df0 K "read_fold" a1j)
 (D6:Df0 K "written_times" T4)
 (d_shown_fold:Df0 K "shown_fold" V0)
 (d_shown_part:Df0 K "shown_part" V1)
 (W6:Df0 K "_law_right" a1h)
 (X6:Df0 K "_law_no_text" Y4)
 (X7:Df0 K "_law_spoiled" Y5)
 (b6W:Df0 K "law" b2R)
 (xa_CarpetError:PySem.W.nsIn K mainGlobals "CarpetError"=some (some (.ref C_CarpetError))) (xq_CarpetError:(a7b K C_CarpetError "CarpetError" && a5S K C_CarpetError)=true)
 (xa_NoFold:PySem.W.nsIn K mainGlobals "NoFold"=some (some (.ref C_NoFold))) (xq_NoFold:(a7b K C_NoFold "NoFold" && a5S K C_NoFold)=true)
 (xf_NoFold:b27 K C_NoFold=true)
 (xe_NoFold:PySem.W.excIn K C_NoFold a7a "ValueError.__new__"=true)
 (ks_NoFold_NoFold:PySem.W.kitOne K (.ref C_NoFold) (.ref C_NoFold)=some true)
 (ks_NoFold_ValueError:PySem.W.kitOne K (.ref C_NoFold) (.type "ValueError")=some true)
 (im_NoFold_CarpetError:a4X K C_NoFold C_CarpetError=true)
 (im_NoFold_NoFold:a4X K C_NoFold C_NoFold=true)
 (z_ValueError:PySem.W.nsIn K mainGlobals "ValueError"=some none)
 (z_int:PySem.W.nsIn K mainGlobals "int"=some none)
 (z_isinstance:PySem.W.nsIn K mainGlobals "isinstance"=some none)
 (z_len:PySem.W.nsIn K mainGlobals "len"=some none)
 (z_max:PySem.W.nsIn K mainGlobals "max"=some none)
 (z_min:PySem.W.nsIn K mainGlobals "min"=some none)
 (z_range:PySem.W.nsIn K mainGlobals "range"=some none)
 (z_str:PySem.W.nsIn K mainGlobals "str"=some none)
 (e_LONGEST:PySem.W.nsIn K mainGlobals "LONGEST"=some (some uu_LONGEST)) (q_LONGEST:a0o K 40 uu_LONGEST=some Q4)
 (e_MOST_FIGURES:PySem.W.nsIn K mainGlobals "MOST_FIGURES"=some (some uu_MOST_FIGURES)) (q_MOST_FIGURES:a0o K 40 uu_MOST_FIGURES=some O7)
 (e_MOST_WITHIN:PySem.W.nsIn K mainGlobals "MOST_WITHIN"=some (some uu_MOST_WITHIN)) (q_MOST_WITHIN:a0o K 40 uu_MOST_WITHIN=some R0)
 :∃fd:FuncData,(∀(s:AC) (v:AA),BindsTo s fd ⟨[v],[]⟩ [("_law_script",v)])∧∀base:Heap,K.In base→base.Ns mainGlobals mg→R3 l.prog w K mg base CX0 50 fa fd ["_law_script"] (a8v K):=by
 have o0:FnV K mg "fold_part_at" G3:=b5I (PySem.W.mg_of X G a0Y) a07 rfl a38
 have d_fold_part_at:Df0 K "fold_part_at" A9:=b4P a0Y a07 a4H a41
 have x_CarpetError:XC K mg "CarpetError" C_CarpetError:=b5f X G xa_CarpetError xq_CarpetError
 have x_NoFold:XC K mg "NoFold" C_NoFold:=b5f X G xa_NoFold xq_NoFold
 have M:MoB K mg:=⟨PySem.W.mg_none_of X G z_ValueError,PySem.W.mg_none_of X G z_int,PySem.W.mg_none_of X G z_isinstance,PySem.W.mg_none_of X G z_len,PySem.W.mg_none_of X G z_max,PySem.W.mg_none_of X G z_min,PySem.W.mg_none_of X G z_range,PySem.W.mg_none_of X G z_str⟩
 have mm_LONGEST:=PySem.W.mg_of X G e_LONGEST
 have mm_MOST_FIGURES:=PySem.W.mg_of X G e_MOST_FIGURES
 have mm_MOST_WITHIN:=PySem.W.mg_of X G e_MOST_WITHIN
 refine b3M (b6W.to X G) hfa (fun _ _ _ _ _ _ _=>rfl) main fun base f fd kb F=> ?_
 obtain R1:=a5X l.prog w base (G1.to X G) M 16
 have a0j:=a5Y l.prog w base (y6.to X G)
 obtain M6:=a3x l.prog w base (A6.to X G) M 6
 obtain a0i:=a7g l.prog w base (V6.to X G) M a0j M6 6
 have a5N:=a5l l.prog w base (X5.to X G) M
 have a7E:=a7i l.prog w base (a03.to X G) a0i a0j a5N
 have a3H:=a7h l.prog w base (R4.to X G) M
 have a8J:=a8g l.prog w base (a0t.to X G) M a3H
 have a8K:=a8i l.prog w base (a2a.to X G) M a8J a3H
 have b0o:=a9j l.prog w base (a3g.to X G) M
 have a1T:=a5k l.prog w base (K0.to X G) b0o
 have a7G:=a7l l.prog w base (a04.to X G) M mm_MOST_FIGURES q_MOST_FIGURES a1T
 have a3a:=a2R l.prog w base (P8.to X G) a7G
 have a8L:=a8k l.prog w base (G2.to X G) mm_LONGEST q_LONGEST a1T a3a
 have b1d:=b0X l.prog w base (a05.to X G)
 obtain⟨D_again_at,M5,a0k⟩:=a7e l.prog w base (d_again_at.to X G) (d_fold_part_at.to X G) (d_parts_at.to X G) o0 a8L b1d 42
 obtain a0h:=a7f l.prog w base (V5.to X G) 16
 have a3I:=a7m l.prog w base (R5.to X G) M kb x_NoFold o0 xe_NoFold mm_LONGEST q_LONGEST mm_MOST_WITHIN q_MOST_WITHIN a0k M5 a0h
 have a34:=a3y l.prog w base (D6.to X G) M
 obtain⟨U1,D_shown_part⟩:=a5j l.prog w base (d_shown_fold.to X G) (d_shown_part.to X G) M a34 30
 have a7F:=a7j l.prog w base (W6.to X G) M x_CarpetError x_NoFold ks_NoFold_NoFold ks_NoFold_ValueError xf_NoFold im_NoFold_CarpetError a8K a3I R1 U1
 have a5O:=a5m l.prog w base (X6.to X G) x_NoFold im_NoFold_NoFold a3I
 have a5P:=a5n l.prog w base (X7.to X G) M
 exact b51 l.prog w base F R1 a7E a7F a0j a5O a5P
end LW
namespace PySem.W.Fast
def tw6169227989446054239:=()
def tw7012287843296023293:=()
def tw7917028902755085690:=()
def tw8589937228722381973:=()
def tw15874453789584174828:=()
def tw8326858645300620618:=()
def tw50540339973668011:=()
def tw9797718226740932074:=()
def tw15105774686379137737:=()
def tw7695964464396472589:=()
def tw1724258742961751975:=()
def tw14341900146729281239:=()
def tw16878821674106073723:=()
def tw9111658658889153419:=()
def tw3029402892388894611:=()
end PySem.W.Fast
open PySem PySem.W PyProof.Rows
set_option maxRecDepth 100000 in
set_option maxHeartbeats 0 in
theorem PySem.Challenge.cw_carpetkin_k32_texts_of_no_fold_holds : PySem.Challenge.rw_carpetkin_k32_texts_of_no_fold.Holds := by
 w_on;o_law;k_head;(case hw=>w_witness2)
 k_fill
 refine PU.b7L (k:=50) (x:="_law_script") (l:=PySem.Challenge.rw_carpetkin_k32_texts_of_no_fold) (by decide) rfl rfl (fun w h Y=>PySem.W.kIn_of Y) ?F
 case F=>
  intro w mg fa h KX G hmg
  refine' LW.b5m KX G hmg ?_ ?_ ?_ ?_ ?_ ?_ ?_ ?_ ?_ ?_ ?_ ?_ ?_ ?_ ?_ ?_ ?_ ?_ ?_ ?_ ?_ ?_ ?_ ?_ ?_ ?_ ?_ ?_ ?_ ?_ ?_ ?_ ?_ ?_ ?_ ?_ ?_ ?_ ?_ ?_ ?_ ?_ ?_ ?_ ?_ ?_ ?_ ?_ ?_ ?_ ?_ ?_ ?_ ?_ ?_
  all_goals first|(apply PU.b4P<;>k_is)|(apply PU.b6Z<;>first|k_is|kernel_rfl)|k_is|kernel_rfl|skip
