import PyProof.Rows.All
import Wide.All
import OpenK.AllK
import Wide.FinOn
import Lean
import PyProof.EqAt
import PyProof.EqKinds
import PyProof.TupleCall
import PyProof.Rows.SortPure
import PyProof.Rows.SortWalk
import PyProof.AttrMissHeap
import KE.KDictOf
import KE.KIntText
import PyProof.StrBlockH
import PyProof.CallStr
import PyProof.StrLawsIn
import PyProof.StrLawsOcc
import PyProof.StationsW
import PyProof.ExcClass2
import PyProof.ExcBaseAll.ValueError
import PyProof.RulesTry
import PyProof.Rows.CatchBare
import PyProof.Rows.CatchOwn
import OpenK.KOwn
import PyProof.NsDelKeeps
import PyProof.Rows.RuleDivmod
import PyProof.Rows.SumAny
import PySem.Challenge.RW_carpetkin_k33_whole_least_folds
set_option Elab.async false
set_option linter.all false
set_option maxRecDepth 100000
noncomputable section
open PySem renaming Value -> AA
open PySem renaming Addr -> AB
open PySem renaming Shared -> AC
open PySem.W renaming Frag -> AD
open PySem renaming Expr -> AE
open Option renaming bind_some -> AF
open PySem renaming World -> AG
open PySem renaming wpAny -> AH
open PySem renaming Program -> AI
open PySem renaming Around -> AJ
open PySem renaming sizeLine -> AK
open PySem renaming wpAny_bind -> AL
open Nat renaming le_refl -> AM
open PySem renaming starEach -> AN
open List renaming replicate -> AO
open List renaming map_cons -> AQ
open PySem renaming wpAny_pure -> AR
open PySem.Str renaming ofString -> AS
open PySem.Heap renaming lt_size -> AT
open List renaming set_cons_zero -> AU
open List renaming set_cons_succ -> AV
open List renaming length_cons -> AW
open List renaming range -> AX
open List renaming replicate_succ -> AY
open List renaming map_nil -> AZ
open List renaming length_map -> Aa
open List renaming append_nil -> Ab
open List renaming replicate_zero -> Ac
open List renaming length_append -> Ad
open List renaming nil_append -> Ae
open List renaming size_toArray -> Af
open PySem.Heap renaming get?_push_of_some -> Ag
open List renaming cons_append -> Ah
open List renaming mem_cons_self -> Ai
open List renaming length_nil -> Aj
open List renaming mem_cons_of_mem -> Ak
open Nat renaming ne_of_lt -> Al
open List renaming mem_map -> Am
open Nat renaming lt_of_lt_of_le -> An
open PySem.Heap renaming get?_push_size -> Ao
open List renaming mem_cons -> Ap
open List renaming mem_append_right -> Aq
open List renaming getElem?_eq_some_iff -> Ar
open List renaming mem_append -> As
open Nat renaming reduceLeDiff -> At
open List renaming length_range -> Au
open List renaming mem_of_getElem? -> Av
open List renaming map_append -> Aw
open Option renaming map_some -> Ax
open List renaming getElem?_map -> Ay
open Bool renaming false_ne_true -> Az
open List renaming getElem?_eq_getElem -> BA
open List renaming getElem?_append_left -> BB
open List renaming mem_append_left -> BC
open List renaming map_map -> BD
open Nat renaming le_of_lt -> BE
open List renaming getElem?_set_self -> BF
open Bool renaming false_eq_true -> BG
namespace L2
open PySem PySem.Spec PyProof.Rows
abbrev d5:=Sum Int Str
def a3c:d5->AA->Bool
 | .inl k,v=>Value.isInt k v
 | .inr x,v=>Value.isStrOf x v
def b4Y(w:AG):d5->Int
 | .inl k=>hashInt k
 | .inr x=>hashStr w x
theorem u5:∀{k:d5} {v:AA},a3c k v=true->(∃i t,k=Sum.inl i/\v=Value.int i t)\/(∃x t,k=Sum.inr x/\v=Value.str x t)
 | .inl i,v,h=>by
   obtain⟨t,e⟩:=Value.isInt_shape (k:=i) (v:=v) h
   exact .inl ⟨i,t,rfl,e⟩
 | .inr x,v,h=>by
   obtain⟨t,e⟩:=Value.isStrOf_shape (x:=x) (v:=v) h
   exact .inr ⟨x,t,rfl,e⟩
theorem a8s(i:Int)(t:Tok):a3c (.inl i) (.int i t)=true:=by simp [a3c,Value.isInt]
theorem a8t(x:Str)(t:Tok):a3c (.inr x) (.str x t)=true:=by simp [a3c,Value.isStrOf]
theorem b23(a b:Int):decide ((Sum.inl a:d5)=Sum.inl b)=(a==b):=by
 by_cases e:a=b
 ·subst e;simp
 ·have h:¬(Sum.inl a:d5)=Sum.inl b:=fun q=>e (Sum.inl.inj q)
  rw [decide_eq_false h]
  exact(beq_eq_false_iff_ne.mpr e).symm
theorem b26(a b:Str):decide ((Sum.inr a:d5)=Sum.inr b)=decide (a=b):=by
 by_cases e:a=b
 ·subst e;simp
 ·have h:¬(Sum.inr a:d5)=Sum.inr b:=fun q=>e (Sum.inr.inj q)
  rw [decide_eq_false h,decide_eq_false e]
theorem b24(a:Int)(b:Str):decide ((Sum.inl a:d5)=Sum.inr b)=false:=decide_eq_false (fun q=>nomatch q)
theorem b25(a:Str)(b:Int):decide ((Sum.inr a:d5)=Sum.inl b)=false:=decide_eq_false (fun q=>nomatch q)
def z5(prog:AI)(w:AG):PySem.KeyKind prog w d5 where
 is:=a3c
 hash:=b4Y w
 inj:=fun v a b ha hb=>by
  rcases u5 ha with⟨i,t,rfl,rfl⟩|⟨x,t,rfl,rfl⟩
  ·rcases u5 hb with⟨j,u,rfl,e⟩|⟨y,u,rfl,e⟩
   ·injection e with e1 _;rw [e1]
   ·exact nomatch e
  ·rcases u5 hb with⟨j,u,rfl,e⟩|⟨y,u,rfl,e⟩
   ·exact nomatch e
   ·injection e with e1 _;rw [e1]
 byValue:=fun k v h=>by
   rcases u5 h with⟨i,t,rfl,rfl⟩|⟨x,t,rfl,rfl⟩<;>rfl
 pyHash:=fun hv h=>by
  rcases u5 hv with⟨i,t,rfl,rfl⟩|⟨x,t,rfl,rfl⟩
  ·exact wpAny_pyHash_int h
  ·exact wpAny_pyHash_str h
 eqBool:=fun hu hv h=>by
  rcases u5 hu with⟨i,t,rfl,rfl⟩|⟨x,t,rfl,rfl⟩
  ·rcases u5 hv with⟨j,u,rfl,rfl⟩|⟨y,u,rfl,rfl⟩
   ·rw [b23] at h;exact wpAny_eqBool_int h
   ·rw [b24] at h;exact SeqAt.EqAt.int_str i t y u _ _ _ _ h
  ·rcases u5 hv with⟨j,u,rfl,rfl⟩|⟨y,u,rfl,rfl⟩
   ·rw [b25] at h;exact SeqAt.EqAt.str_int x t j u _ _ _ _ h
   ·rw [b26] at h;exact wpAny_eqBool_str h
 «strs»:=fun k x t v h=>by
  rcases u5 h with⟨i,u,rfl,e⟩|⟨y,u,rfl,e⟩
  ·exact nomatch e
  ·injection e with e1 _
   subst e1
   cases v<;>rfl
theorem a53(prog:AI)(w:AG)(i:Int)(t:Tok):(z5 prog w).is (.inl i) (.int i t)=true:=a8s i t
theorem a54(prog:AI)(w:AG)(x:Str)(t:Tok):(z5 prog w).is (.inr x) (.str x t)=true:=a8t x t
inductive V where
 |non|bl (b:Bool)|int (i:Int)|str (x:Str)|byt (b:Array UInt8)|flt (b:UInt64)|ref (a:AB)|ty (n:String)
 deriving DecidableEq
def j6:V->AA->Prop
 | .non,u=>u=Value.none
 | .bl b,u=>u=Value.bool b
 | .int i,u=>∃t,u=Value.int i t
 | .str x,u=>∃t,u=Value.str x t
 | .byt b,u=>∃t,u=Value.bytes b t
 | .flt b,u=>∃t,u=Value.float b t
 | .ref a,u=>u=Value.ref a
 | .ty n,u=>u=Value.type n
abbrev g6:List V->List AA->Prop:=Paired j6
theorem g6.length{xs:List V}{us:List AA}(r:g6 xs us):xs.length=us.length:=Paired.length r
theorem g6.get:∀{xs:List V} {us:List AA} {i:Nat} {x:V},g6 xs us->xs[i]?=some x->∃u,us[i]?=some u/\j6 x u
 |_,_,_,_,.nil,e=>by simp at e
 |_,_,0,_,.cons r _,e=>by simp at e;subst e;exact⟨_,rfl,r⟩
 |_,_,i+1,x,.cons _ t,e=>by
  obtain⟨u,h1,h2⟩:=g6.get (i:=i) (x:=x) t (by simpa using e)
  exact⟨u,by simpa using h1,h2⟩
theorem g6.set{x:V}{u:AA}(r:j6 x u):∀{xs:List V} {us:List AA} (i:Nat),g6 xs us->g6 (xs.set i x) (us.set i u)
 |_,_,_,.nil=> .nil
 |_,_,0,.cons _ t=> .cons r t
 |_,_,i+1,.cons q t=> .cons q (g6.set r i t)
theorem g6.append:∀{xs ys:List V} {us ws:List AA},g6 xs us->g6 ys ws->g6 (xs++ys) (us++ws)
 |_,_,_,_,.nil,s=>s
 |_,_,_,_,.cons r t,s=> .cons r (g6.append t s)
theorem g6.take:∀{xs:List V} {us:List AA} (n:Nat),g6 xs us->g6 (xs.take n) (us.take n)
 |_,_,0,_=> .nil
 |_,_,_+1,.nil=> .nil
 |_,_,n+1,.cons r t=> .cons r (g6.take n t)
theorem g6.drop:∀{xs:List V} {us:List AA} (n:Nat),g6 xs us->g6 (xs.drop n) (us.drop n)
 |_,_,0,r=>r
 |_,_,_+1,.nil=> .nil
 |_,_,n+1,.cons _ t=>g6.drop n t
theorem g6.none_of:∀{xs:List V} {us:List AA} {i:Nat},g6 xs us->xs[i]?=none->us[i]?=none:=fun {xs us i} r e=>by
 have h1:=r.length
 have h2:xs.length<=i:=List.getElem?_eq_none_iff.mp e
 exact List.getElem?_eq_none_iff.mpr (by lia)
def a0Y:Option V->Option AA->Prop
 |some v,some u=>j6 v u
 |none,none=>True
 |_,_=>False
def KV{κ:Type}:List (κ×V)->List (κ×AA)->Prop:=Paired fun(p:κ×V) (q:κ×AA)=>p.1=q.1/\j6 p.2 q.2
def kV:d5->V
 | .inl i=> .int i
 | .inr x=> .str x
inductive HO where
 |lst (xs:List V)
 |tup (xs:List V)
 |dK (kvs:List (d5×V))|dT (kvs:List (List d5×V))
 |set (S:Int->Bool) (n:Nat)
 |ins (C dx:AB) (fs:List (Str×V))
 |own (x:AB)
 |xd (fs:List (Str×V))
 |met (f x:AB)
 |rng (lo hi:Int)
 |frz (o:Obj) (u:HO)
 |tbl (ps:Array AA)
 |ext (φ:Heap->Prop)
abbrev Hp:=AB->Option HO
def upd(H:Hp)(a:AB)(o:HO):Hp:=fun b=>if b=a then some o else H b
theorem f7{H:Hp}{a:AB}{o:HO}:upd H a o a=some o:=by unfold upd;rw [if_pos rfl]
theorem d3{H:Hp}{a b:AB}{o:HO}(h:b≠a):upd H a o b=H b:=by unfold upd;rw [if_neg h]
theorem a7Z{H:Hp}{a:AB}{o u:HO}:upd (upd H a o) a u=upd H a u:=by
 funext b;unfold upd;split<;>rfl
theorem M6{H:Hp}{a b:AB}{o u:HO}(h:H a=some o)(h':H b=some u)(d:o≠u):a≠b:=by
 intro e;subst e;rw [h] at h';exact d (Option.some.inj h')
theorem i3{H:Hp}{a b:AB}{o:HO}(h:H a=some o)(h':H b=none):a≠b:=by
 intro e;subst e;rw [h] at h';cases h'
section
variable (P:AI)(w:AG)
def B5(H:Hp)(h:Heap)(a:AB):HO->Prop
 | .lst xs=>xs.length<=AK/\∃(its:List AA) (n:Nat),g6 xs its/\h.get? a=some {cls:= .type "list",data:= .seq its.toArray n}
 | .tup xs=>xs.length<=AK/\∃its:List AA,g6 xs its/\IsTup h a its.toArray
 | .dK kvs=>kvs.length<=AK/\(a==sysModules)=false/\∃vs,KV kvs vs/\h.DictOf (z5 P w) a vs
 | .dT kvs=>kvs.length<=AK/\(a==sysModules)=false/\∃xs:List (List d5×AB×AA),
  Paired (fun(p:List d5×V) (q:List d5×AB×AA)=>p.1=q.1/\H q.2.1=some (.tup (p.1.map kV))/\j6 p.2 q.2.2) kvs xs/\
  ∃o es ep,h.get? a=some o/\o.ExactDict/\o.data= .dict es ep/\es.toList=xs.map (entryOfKey (tupleKind (z5 P w)))/\(xs.map (·.1)).Nodup
 | .set S n=>h.SetOf (intKind P w) a S n
 | .ins C dx fs=>H dx=some (.own a)/\fs.length<=1000/\dx≠a/\h.get? a=some (PySem.W.instObj C dx)/\
  ∃mA,h.Ns1 dx mA/\(∀f,a0Y (fs.lookup f) (mA f))/\PySem.Within mA (fs.map (·.1))
 | .own _=>∃o,h.get? a=some o
 | .xd fs=>∃mA,h.Ns1 a mA/\∀f,a0Y (fs.lookup f) (mA f)
 | .rng lo hi=>∃t u v,h.get? a=some {cls:= .type "range",data:= .fields #[.int lo t,.int hi u,.int 1 v]}
 | .frz o u=>h.get? a=some o/\B5 H h a u
 | .tbl ps=>h.get? a=some {cls:= .none,data:= .fields ps}
 | .met f x=>h.get? a=some (PySem.W.methodObj (.ref f) (.ref x))
 | .ext φ=>φ h/\(∃o,h.get? a=some o)/\∀h1 h2:Heap,φ h1->(∀o,h1.get? a=some o->h2.get? a=some o)->φ h2
def HOk(H:Hp)(h:Heap):Prop:=∀a o,H a=some o->B5 P w H h a o
end
section
variable {P:AI}{w:AG}{H H':Hp}{h h':Heap}{a:AB}{o:HO}
theorem B5.lt(x:B5 P w H h a o):a<h.objs.size:=by
 cases o with
 |lst xs=>obtain⟨_,_,_,_,e⟩:=x;exact AT e
 |tup xs=>obtain⟨_,_,_,p⟩:=x;exact p.lt
 |dK kvs=>obtain⟨_,_,_,_,o,_,_,e,_⟩:=x;exact AT e
 |dT kvs=>obtain⟨_,_,_,_,o,_,_,e,_⟩:=x;exact AT e
 |set S n=>obtain⟨o,_,_,_,e,_⟩:=x;exact AT e
 |ins C dx fs=>obtain⟨_,_,_,e,_⟩:=x;exact AT e
 |own y=>obtain⟨_,e⟩:=x;exact AT e
 |xd fs=>obtain⟨_,⟨_,_,_,e,_⟩,_⟩:=x;exact AT e
 |rng lo hi=>obtain⟨_,_,_,e⟩:=x;exact AT e
 |frz ob u=>obtain⟨e,_⟩:=x;exact AT e
 |tbl ps=>exact AT (show h.get? a=some _ from x)
 |met f y=>exact AT (show h.get? a=some _ from x)
 |ext φ=>obtain⟨_,⟨_,e⟩,_⟩:=x;exact AT e
theorem Paired.mapP{α β:Type}{F G:α->β->Prop}:∀{l₁:List α} {l₂:List β},Paired F l₁ l₂->(∀a b,F a b->G a b)->Paired G l₁ l₂
 |_,_,.nil,_=> .nil
 |_,_,.cons r t,f=> .cons (f _ _ r) (Paired.mapP t f)
theorem B5.stay(x:B5 P w H h a o)(k:∀b u,(b=a\/H b=some (.own a))->h.get? b=some u->h'.get? b=some u)
 (ho:∀b,H b=some (.own a)->H' b=some (.own a)) (ht:∀b xs,H b=some (.tup xs)->H' b=some (.tup xs)):B5 P w H' h' a o:=by
 induction o with
 |lst xs=>obtain⟨z,its,n,r,e⟩:=x;exact⟨z,its,n,r,k _ _ (.inl rfl) e⟩
 |tup xs=>obtain⟨z,its,r,ob,e,c⟩:=x;exact⟨z,its,r,ob,k _ _ (.inl rfl) e,c⟩
 |dK kvs=>obtain⟨z,y,vs,r,ob,es,ep,e,c⟩:=x;exact⟨z,y,vs,r,ob,es,ep,k _ _ (.inl rfl) e,c⟩
 |dT kvs=>
  obtain⟨z,y,xs,r,ob,es,ep,e,c⟩:=x
  exact⟨z,y,xs,Paired.mapP r fun p q z=>⟨z.1,ht _ _ z.2.1,z.2.2⟩,ob,es,ep,k _ _ (.inl rfl) e,c⟩
 |set S n=>obtain⟨ob,es,ep,t,e,c⟩:=x;exact⟨ob,es,ep,t,k _ _ (.inl rfl) e,c⟩
 |ins C dx fs=>
  obtain⟨d,z,ne,e,mA,⟨od,es,ep,e2,c⟩,r⟩:=x
  exact⟨ho _ d,z,ne,k _ _ (.inl rfl) e,mA,⟨od,es,ep,k _ _ (.inr d) e2,c⟩,r⟩
 |own y=>obtain⟨ob,e⟩:=x;exact⟨ob,k _ _ (.inl rfl) e⟩
 |xd fs=>obtain⟨mA,⟨od,es,ep,e,c⟩,r⟩:=x;exact⟨mA,⟨od,es,ep,k _ _ (.inl rfl) e,c⟩,r⟩
 |rng lo hi=>obtain⟨t,u,v,e⟩:=x;exact⟨t,u,v,k _ _ (.inl rfl) e⟩
 |frz ob u ih=>obtain⟨e,q⟩:=x;exact⟨k _ _ (.inl rfl) e,ih q⟩
 |tbl ps=>
  have e:h.get? a=some {cls:= .none,data:= .fields ps}:=x
  show h'.get? a=some {cls:= .none,data:= .fields ps}
  exact k a _ (.inl rfl) e
 |met f y=>
  have e:h.get? a=some (PySem.W.methodObj (.ref f) (.ref y)):=x
  show h'.get? a=some (PySem.W.methodObj (.ref f) (.ref y))
  exact k a _ (.inl rfl) e
 |ext φ=>obtain⟨p,⟨o,e⟩,st⟩:=x;exact⟨st _ _ p fun o q=>k _ _ (.inl rfl) q,⟨o,k _ _ (.inl rfl) e⟩,st⟩
theorem HOk.lt(x:HOk P w H h)(e:H a=some o):a<h.objs.size:=(x a o e).lt
theorem HOk.fresh(x:HOk P w H h)(e:h.objs.size<=a):H a=none:=by
 cases q:H a with
 |none=>rfl
 |some u=>exact absurd (An (x.lt q) e) (Nat.lt_irrefl _)
theorem HOk.kept(x:HOk P w H h)(k:∀b u,h.get? b=some u->h'.get? b=some u):HOk P w H h':=fun a o e=>
 (x a o e).stay (fun b u _ q=>k b u q) (fun _ q=>q) fun _ _ q=>q
theorem HOk.laid(x:HOk P w H h)(k:∀b u,h.get? b=some u->h'.get? b=some u)(hp:h.objs.size<=a)(new:B5 P w (upd H a o) h' a o):HOk P w (upd H a o) h':=fun b u e=>by
 have hn:=x.fresh hp
 by_cases hb:b=a
 ·subst hb;rw [f7] at e;cases e;exact new
 ·rw [d3 hb] at e
  exact(x b u e).stay (fun c v _ q=>k c v q) (fun c q=>by rw [d3 (i3 q hn)];exact q) fun c xs q=>by rw [d3 (i3 q hn)];exact q
end
def Rd(H:Hp)(a:AB)(u:HO):Prop:=H a=some u\/∃o,H a=some (.frz o u)
theorem Rd.of{H:Hp}{a:AB}{u:HO}(h:H a=some u):Rd H a u:= .inl h
theorem Rd.ok{P:AI}{w:AG}{H:Hp}{h:Heap}{a:AB}{u:HO}(r:Rd H a u)(x:HOk P w H h):B5 P w H h a u:=by
 rcases r with r|⟨o,r⟩
 ·exact x a u r
 ·obtain⟨_,q⟩:=x a _ r
  exact q
def Mut:Option HO->Prop
 |some (.lst _)=>True
 |some (.dK _)=>True
 |some (.dT _)=>True
 |some (.set _ _)=>True
 |some (.ins _ _ _)=>True
 |some (.ext _)=>True
 |_=>False
section
variable {P:AI}{w:AG}{H:Hp}{h h':Heap}{x e:AB}{o':HO}
theorem HOk.write(ok:HOk P w H h)(mu:Mut (H x))(he:e=x\/H e=some (.own x))(k:∀b u,b≠e->h.get? b=some u->h'.get? b=some u)(heo:∃u,h'.get? e=some u)
 (new:B5 P w (upd H x o') h' x o'):HOk P w (upd H x o') h':=fun b u q=>by
 have nown:∀c y,H c=some (.own y)->c≠x:=fun c y r z=>by subst z;rw [r] at mu;exact mu
 have ntup:∀c xs,H c=some (.tup xs)->c≠x:=fun c xs r z=>by subst z;rw [r] at mu;exact mu
 by_cases hb:b=x
 ·subst hb;rw [f7] at q;cases q;exact new
 ·rw [d3 hb] at q
  by_cases hbe:b=e
  ·have q':H b=some (.own x):=by
    rcases he with z|z
    ·exact absurd (hbe.trans z) hb
    ·rw [hbe];exact z
   rw [q] at q';cases q'
   obtain⟨v,hv⟩:=heo
   exact⟨v,by rw [hbe];exact hv⟩
  ·refine(ok b u q).stay (fun c v hc r=>k c v ?_ r) (fun c r=>by rw [d3 (nown c b r)];exact r) fun c xs r=>by rw [d3 (ntup c xs r)];exact r
   rcases hc with rfl|hc
   ·exact hbe
   ·rintro rfl
    rcases he with z|z
    ·exact nown c b hc z
    ·rw [hc] at z;cases z;exact hb rfl
end
structure Un(fs ex:List AB)(H H':Hp)(h h':Heap):Prop where
 keep:∀b o,h.get? b=some o->H b=none->b∉fs->b∉ex->h'.get? b=some o
 slot:∀b o,h.get? b=some o->H b=none->b∈fs->b∉ex->∃sl,h'.get? b=some {o with slots:=sl}
 free:∀b o,h.get? b=some o->H b=none->b∉ex->H' b=none
 there:∀b o,h.get? b=some o->b∉ex->∃o',h'.get? b=some o'
 tups:∀b xs,H b=some (.tup xs)->H' b=some (.tup xs)
 frzs:∀b o u,H b=some (.frz o u)->H' b=some (.frz o u)
 tbls:∀b ps,H b=some (.tbl ps)->∃more,H' b=some (.tbl (ps++more))
section
variable {fs fs' ex ex':List AB}{H H1 H2:Hp}{h h1 h2 h':Heap}{a x e:AB}{o:HO}
theorem Un.any(u:Un fs ex H H1 h h1){b:AB}{ob:Obj}(q:h.get? b=some ob)(n:H b=none)(hx:b∉ex):∃sl,h1.get? b=some {ob with slots:=sl}:=by
 by_cases hb:b∈fs
 ·exact u.slot b ob q n hb hx
 ·exact⟨ob.slots,u.keep b ob q n hb hx⟩
theorem Un.trans(a:Un fs ex H H1 h h1)(b:Un fs ex H1 H2 h1 h2):Un fs ex H H2 h h2 where
 keep:=fun c ob q n hc hx=>b.keep c ob (a.keep c ob q n hc hx) (a.free c ob q n hx) hc hx
 slot:=fun c ob q n hc hx=>by
  obtain⟨sl,e1⟩:=a.slot c ob q n hc hx
  obtain⟨sl',e2⟩:=b.slot c _ e1 (a.free c ob q n hx) hc hx
  exact⟨sl',e2⟩
 free:=fun c ob q n hx=>by
  obtain⟨o',e1⟩:=a.there c ob q hx
  exact b.free c o' e1 (a.free c ob q n hx) hx
 there:=fun c ob q hx=>by
  obtain⟨o',e1⟩:=a.there c ob q hx
  exact b.there c o' e1 hx
 tups:=fun c xs q=>b.tups c xs (a.tups c xs q)
 frzs:=fun c ob xs q=>b.frzs c ob xs (a.frzs c ob xs q)
 tbls:=fun c ps q=>by
  obtain⟨m1,e1⟩:=a.tbls c ps q
  obtain⟨m2,e2⟩:=b.tbls c _ e1
  exact⟨m1++m2,by rw [e2,Array.append_assoc]⟩
theorem Un.kept(k:∀b u,h.get? b=some u->h'.get? b=some u):Un fs ex H H h h':=
 ⟨fun b ob q _ _ _=>k b ob q,fun b ob q _ _ _=>⟨ob.slots,k b ob q⟩,fun _ _ _ n _=>n,fun b ob q _=>⟨ob,k b ob q⟩,fun _ _ q=>q,fun _ _ _ q=>q,fun _ ps q=>⟨#[],by rw [q];simp⟩⟩
theorem Un.refl:Un fs ex H H h h:=Un.kept fun _ _ q=>q
theorem Un.laid(k:∀b u,h.get? b=some u->h'.get? b=some u)(hp:h.objs.size<=a)(hn:H a=none):Un fs ex H (upd H a o) h h' where
 keep:=fun b u q _ _ _=>k b u q
 slot:=fun b u q _ _ _=>⟨u.slots,k b u q⟩
 free:=fun b u q n _=>by rw [d3 (Al (An (AT q) hp))];exact n
 there:=fun b u q _=>⟨u,k b u q⟩
 tups:=fun b xs q=>by rw [d3 (i3 q hn)];exact q
 frzs:=fun b u xs q=>by rw [d3 (i3 q hn)];exact q
 tbls:=fun b ps q=>⟨#[],by rw [d3 (i3 q hn),q];simp⟩
theorem Un.write(mu:Mut (H x))(he:e=x\/H e=some (.own x))(k:∀b u,b≠e->h.get? b=some u->h'.get? b=some u)(heo:∃u,h'.get? e=some u):Un fs ex H (upd H x o) h h':=by
 have hx:∀b,H b=none->b≠x:=fun b n z=>by subst z;rw [n] at mu;exact mu
 have hb:∀b,H b=none->b≠e:=fun b n z=>by
  subst z
  rcases he with r|r
  ·exact hx b n r
  ·rw [n] at r;cases r
 have hm:∀b u,H b=some u->¬Mut (some u)->b≠x:=fun b u q nm z=>by subst z;rw [q] at mu;exact nm mu
 refine⟨fun b u q n _ _=>k b u (hb b n) q,fun b u q n _ _=>⟨u.slots,k b u (hb b n) q⟩,fun b u q n _=>by rw [d3 (hx b n)];exact n,fun b u q _=> ?_,
  fun b xs q=>by rw [d3 (hm b _ q fun z=>z)];exact q,fun b u xs q=>by rw [d3 (hm b _ q fun z=>z)];exact q,fun b ps q=>⟨#[],by rw [d3 (hm b _ q fun z=>z),q];simp⟩⟩
 by_cases hbe:b=e
 ·subst hbe;exact heo
 ·exact⟨u,k b u hbe q⟩
theorem Un.mono(u:Un fs ex H H1 h h1)(hs:∀b∈fs,b∈fs')(hx:∀b∈ex,b∈ex'):Un fs' ex' H H1 h h1:=
 ⟨fun b ob q n hb he=>u.keep b ob q n (fun z=>hb (hs b z)) fun z=>he (hx b z),fun _ _ q n _ he=>u.any q n fun z=>he (hx _ z),fun b ob q n he=>u.free b ob q n fun z=>he (hx b z),fun b ob q he=>u.there b ob q fun z=>he (hx b z),u.tups,u.frzs,u.tbls⟩
end
def trk(h:Heap)(H:Hp):List AB:=(AX h.objs.size).filter fun a=>(H a).isSome
def a4W(h:Heap)(H:Hp):Heap:=PySem.W.hideAll h (trk h H)
theorem a8p(h:Heap)(H:Hp):(a4W h H).objs.size=h.objs.size:=PySem.W.hideAll_size _ _
theorem a9L{h:Heap}{H:Hp}{b:AB}{o:Obj}(e:h.get? b=some o)(n:H b=none):(a4W h H).get? b=some o:=
 PySem.W.hideAll_get _ e fun hm=>by
  have q:(H b).isSome=true:=(List.mem_filter.mp hm).2
  rw [n] at q;simp at q
theorem b1t{h:Heap}{H:Hp}{b:AB}{o:Obj}(e:(a4W h H).get? b=some o):h.get? b=some o/\H b=none:=by
 have e':h.get? b=some o:=PySem.W.of_hideAll (trk h H) e
 refine⟨e', ?_⟩
 cases q:H b with
 |none=>rfl
 |some x=>
  have hm:b∈trk h H:=List.mem_filter.mpr ⟨List.mem_range.mpr (AT e'),by simp [q]⟩
  have z:(a4W h H).get? b=none:=PySem.W.hideAll_none (trk h H) hm
  rw [z] at e;cases e
def b0T(g h:Heap)(L:AB):List (AB×Obj):=(AX h.objs.size).filterMap fun a=>if a=L\/(g.get? a).isSome=true then none else(h.get? a).map fun o=>(a,o)
def k4(g h:Heap)(L d:AB):List (AB×Obj):=(b0T g h L).filter fun p=>decide (p.1≠d)
structure Mod(K:AD)(mg:Str->Option AA)(base:Heap):Prop where
 kin:K.In base
 glob:base.Ns mainGlobals mg
 blt:∃mb,base.Ns builtinsNs mb/\∀x:Str,x≠"__name__"->mb x=bootBuiltins x
 nolimit:base.NoLimit
structure Cx where
 prog:AI
 w:AG
 K:AD
 mg:Str->Option AA
 base:Heap
 A:AJ
 N:List Str
 s₀:AC
 H₀:Hp
 env:Env
 outer:List Env
 stack:List Env
 ex:List AB
 fn:Str->Bool
 calm:Bool
 pn:List (AB×Obj)
 xe:AA->AC->Prop
def frs(l:List Env):List AB:=l.filterMap (·.frame)
abbrev Cx.fs(X:Cx):List AB:=frs X.outer
def Vis(sc:Scope)(x:Str):Prop:=sc.names.lookup x=some .local\/sc.names.lookup x=some .cell\/sc.names.lookup x=some .free
def Loc(sc:Scope)(x:Str):Prop:=sc.names.lookup x=some .local\/sc.names.lookup x=some .cell
def b4O(env:Env)(h:Heap)(m:Str->Option AA)(x:Str)(u:AA):Prop:=
 (env.kindOf x=some .local/\m x=some u)\/((env.kindOf x=some .cell\/env.kindOf x=some .free)/\∃c,env.cells.lookup x=some c/\h.IsCell c (some u))
structure Cx.Ok(X:Cx):Prop where
 mod:Mod X.K X.mg X.base
 kind:X.env.scope.kind= .function
 glob:X.env.globals=mainGlobals
 blt:X.env.builtins=builtinsNs
 above:X.s₀.heap.objs.size<=X.env.locals
 inj:∀x y c,X.env.cells.lookup x=some c->X.env.cells.lookup y=some c->x=y
 has:∀x,(X.env.kindOf x=some .cell\/X.env.kindOf x=some .free)->∃c,X.env.cells.lookup x=some c
 cab:∀x c,X.fn x=true->X.env.cells.lookup x=some c->X.s₀.heap.objs.size<=c
 hd:X.calm=true->X.A.handled=none
 frames:X.A.frames=some X.stack
 stk:X.stack=X.outer\/(X.stack=X.env::X.outer/\X.env.frame=some X.env.locals)
 exf:∀b∈X.ex,b≠X.env.locals/\∀x c,X.env.cells.lookup x=some c->c≠b
 bs:∀b o,X.base.get? b=some o->X.s₀.heap.get? b=some o/\X.H₀ b=none
 bsz:X.base.objs.size<=X.s₀.heap.objs.size
 noex:∀b o,X.base.get? b=some o->b∉X.ex
 exfs:∀b∈X.ex,b∉X.fs
 funs:X.s₀.heap.FunFrames X.base X.outer
 frf:∀b∈X.fs,X.H₀ b=none
structure d9(X:Cx)(pins:List (AB×Obj))(σ:List (Option V))(H:Hp)(s:AC):Prop where
 ok:X.Ok
 os:s.os=X.s₀.os
 bare:AllBare s.gens
 base:Un X.fs X.ex X.H₀ H X.s₀.heap s.heap
 loc:∃m,s.heap.Ns X.env.locals m/\∀(i:Nat) (x:Str) (v:V),X.N[i]?=some x->σ[i]?=some (some v)->Vis X.env.scope x->∃u,j6 v u/\b4O X.env s.heap m x u
 cell:∀x c,X.env.cells.lookup x=some c->∃v,s.heap.IsCell c v
 free:H X.env.locals=none
 freeC:∀x c,X.env.cells.lookup x=some c->H c=none
 pin:∀p∈X.pn++pins,s.heap.get? p.1=some p.2/\H p.1=none/\p.1≠X.env.locals/\p.1∉X.fs/\∀v,p.2.data≠.cell v
 hok:HOk X.prog X.w H s.heap
 len:σ.length=X.N.length
section
variable {X:Cx}{pins:List (AB×Obj)}{σ:List (Option V)}{H H':Hp}{s:AC}{h':Heap}
theorem Cx.Ok.nofr(ok:X.Ok){b:AB}{o:Obj}(e:X.base.get? b=some o):b∉X.fs:=fun hb=>by
 have:=(ok.funs.mem hb).1
 rw [e] at this;cases this
theorem d9.bs(I:d9 X pins σ H s):∀b o,X.base.get? b=some o->s.heap.get? b=some o/\H b=none:=fun b o e=>
 ⟨I.base.keep b o (I.ok.bs b o e).1 (I.ok.bs b o e).2 (I.ok.nofr e) (I.ok.noex b o e),I.base.free b o (I.ok.bs b o e).1 (I.ok.bs b o e).2 (I.ok.noex b o e)⟩
theorem d9.bk(I:d9 X pins σ H s):∀b o,X.base.get? b=some o->s.heap.get? b=some o:=fun b o e=>(I.bs b o e).1
theorem d9.mod(I:d9 X pins σ H s):Mod X.K X.mg X.base:=I.ok.mod
theorem d9.kIn(I:d9 X pins σ H s):X.K.In s.heap:=I.ok.mod.kin.keeps I.bk
theorem d9.nolimit(I:d9 X pins σ H s):s.heap.NoLimit:=I.ok.mod.nolimit.keeps I.bk
theorem d9.fr(I:d9 X pins σ H s):∃m,Fr X.base X.env.locals s.heap m:=
 let ⟨m,hn,_⟩:=I.loc
 ⟨m,hn,I.bk,Nat.le_trans I.ok.bsz I.ok.above⟩
theorem d9.lt(I:d9 X pins σ H s):X.env.locals<s.heap.objs.size:=let ⟨_,hn,_⟩:=I.loc;hn.lt
theorem d9.sz(I:d9 X pins σ H s):X.s₀.heap.objs.size<=s.heap.objs.size:=Nat.le_trans I.ok.above (BE I.lt)
theorem d9.nofs(I:d9 X pins σ H s){a:AB}(h:s.heap.objs.size<=a):a∉X.fs:=fun hb=>by
 obtain⟨_,o,ho,_⟩:=I.ok.funs.mem hb
 exact absurd (An (AT ho) (Nat.le_trans I.sz h)) (Nat.lt_irrefl _)
theorem d9.cne(I:d9 X pins σ H s):∀x c,X.env.cells.lookup x=some c->c≠X.env.locals:=fun x c e z=>by
 obtain⟨v,o,ho,hd⟩:=I.cell x c e
 obtain⟨m,⟨o',es,ep,ho',hd',_⟩,_⟩:=I.loc
 rw [z,ho'] at ho;cases ho;rw [hd'] at hd;cases hd
theorem d9.funs(I:d9 X pins σ H s):s.heap.FunFrames X.base X.outer:=by
 have all:∀(l:List Env),(∀b∈frs l,b∈X.fs)->X.s₀.heap.FunFrames X.base l->s.heap.FunFrames X.base l:=by
  intro l
  induction l with
  |nil=>intro _ _;trivial
  |cons env r ih=>
   intro hs hl
   obtain⟨hk,⟨L,o,hf,hn,ho,hd⟩,hr⟩:=hl
   have hL:L∈X.fs:=hs L (by unfold frs;rw [List.filterMap_cons,hf];exact Ai)
   obtain⟨sl,e⟩:=I.base.slot L o ho (I.ok.frf L hL) hL fun z=>I.ok.exfs L z hL
   exact⟨hk,⟨L,_,hf,hn,e,hd⟩,ih (fun b hb=>hs b (by unfold frs;rw [List.filterMap_cons,hf];exact Ak _ hb)) hr⟩
 exact all X.outer (fun _ hb=>hb) I.ok.funs
theorem d9.stack(I:d9 X pins σ H s):s.heap.FunFrames X.base X.stack:=by
 rcases I.ok.stk with e|⟨e,hf⟩
 ·rw [e];exact I.funs
 ·rw [e]
  obtain⟨m,hn,_⟩:=I.loc
  refine .cons (by rw [I.ok.kind];decide) hf hn ?_ I.funs
  exact Heap.get?_none_of_le (Nat.le_trans I.ok.bsz I.ok.above)
theorem d9.stkSub(I:d9 X pins σ H s):∀b∈frs X.stack,b∈X.env.locals::X.fs:=fun b hb=>by
 rcases I.ok.stk with e|⟨e,hf⟩
 ·rw [e] at hb;exact Ak _ hb
 ·rw [e] at hb
  unfold frs at hb
  rw [List.filterMap_cons,hf] at hb
  exact hb
theorem d9.stkFree(I:d9 X pins σ H s):∀b∈frs X.stack,H b=none:=fun b hb=>by
 rcases Ap.mp (I.stkSub b hb) with e|hb
 ·rw [e];exact I.free
 ·obtain⟨_,o,ho,_⟩:=I.ok.funs.mem hb
  exact I.base.free b o ho (I.ok.frf b hb) fun z=>I.ok.exfs b z hb
theorem d9.step{g':Array GenState}{t':Nat}{d':Drawn}{ch:List AB}(I:d9 X pins σ H s)
 (hch:∀b∈ch,(b∈X.ex\/X.s₀.heap.objs.size<=b)/\b≠X.env.locals/\(∀x c,X.env.cells.lookup x=some c->c≠b)/\∀p∈X.pn++pins,p.1≠b)
 (keep:∀b o,b≠X.env.locals->b∉X.fs->b∉ch->s.heap.get? b=some o->H b=none->h'.get? b=some o)
 (slot:∀b o,b≠X.env.locals->b∈X.fs->b∉ch->s.heap.get? b=some o->H b=none->∃sl,h'.get? b=some {o with slots:=sl}) (free:∀b o,b∉ch->s.heap.get? b=some o->H b=none->H' b=none)
 (there:∀b o,b∉ch->s.heap.get? b=some o->∃o',h'.get? b=some o')
 (tups:∀b xs,H b=some (.tup xs)->H' b=some (.tup xs)) (frzs:∀b o u,H b=some (.frz o u)->H' b=some (.frz o u)) (tbls:∀b ps,H b=some (.tbl ps)->∃more,H' b=some (.tbl (ps++more)))
 (ns:∀m,s.heap.Ns X.env.locals m->h'.Ns X.env.locals m) (hok:HOk X.prog X.w H' h') (hg:AllBare g'):
 d9 X pins σ H' {s with heap:=h',gens:=g',drawn:=d',toks:=t'}:=by
 have neL:∀b o,X.s₀.heap.get? b=some o->b≠X.env.locals:=fun b o e=>Al (An (AT e) I.ok.above)
 have neC:∀b o,X.s₀.heap.get? b=some o->b∉X.ex->b∉ch:=fun b o e hx hb=>by
  rcases(hch b hb).1 with z|z
  ·exact hx z
  ·exact absurd (An (AT e) z) (Nat.lt_irrefl _)
 have cellK:∀x c,X.env.cells.lookup x=some c->∀v,s.heap.IsCell c v->h'.IsCell c v:=fun x c e v ⟨o,ho,hd⟩=>by
  have nch:c∉ch:=fun z=>(hch c z).2.2.1 x c e rfl
  by_cases hc:c∈X.fs
  ·obtain⟨sl,q⟩:=slot c o (I.cne x c e) hc nch ho (I.freeC x c e)
   exact⟨_,q,hd⟩
  ·exact⟨o,keep c o (I.cne x c e) hc nch ho (I.freeC x c e),hd⟩
 refine⟨I.ok,I.os,hg,⟨fun b o e n hb hx=> ?_,fun b o e n hb hx=> ?_,fun b o e n hx=> ?_,fun b o e hx=> ?_,fun b xs e=>tups b xs (I.base.tups b xs e),fun b o xs e=>frzs b o xs (I.base.frzs b o xs e),fun b ps e=> ?_⟩, ?_,fun x c e=> ?_, ?_,fun x c e=> ?_,fun p hp=> ?_,hok,I.len⟩
 ·exact keep b o (neL b o e) hb (neC b o e hx) (I.base.keep b o e n hb hx) (I.base.free b o e n hx)
 ·obtain⟨sl,e1⟩:=I.base.slot b o e n hb hx
  obtain⟨sl',e2⟩:=slot b _ (neL b o e) hb (neC b o e hx) e1 (I.base.free b o e n hx)
  exact⟨sl',e2⟩
 ·obtain⟨o',e1⟩:=I.base.there b o e hx
  exact free b o' (neC b o e hx) e1 (I.base.free b o e n hx)
 ·obtain⟨o',e1⟩:=I.base.there b o e hx
  exact there b o' (neC b o e hx) e1
 ·obtain⟨m1,e1⟩:=I.base.tbls b ps e
  obtain⟨m2,e2⟩:=tbls b _ e1
  exact⟨m1++m2,by rw [e2,Array.append_assoc]⟩
 ·obtain⟨m,hn,hl⟩:=I.loc
  refine⟨m,ns m hn,fun i x v e1 e2 e3=> ?_⟩
  obtain⟨u,r,l⟩:=hl i x v e1 e2 e3
  refine⟨u,r, ?_⟩
  rcases l with l|⟨k,c,e,z⟩
  ·exact .inl l
  ·exact .inr ⟨k,c,e,cellK x c e _ z⟩
 ·obtain⟨v,z⟩:=I.cell x c e
  exact⟨v,cellK x c e v z⟩
 ·obtain⟨m,⟨o,_,_,ho,_⟩,_⟩:=I.loc
  exact free _ o (fun z=>(hch _ z).2.1 rfl) ho I.free
 ·obtain⟨v,o,ho,hd⟩:=I.cell x c e
  exact free c o (fun z=>(hch c z).2.2.1 x c e rfl) ho (I.freeC x c e)
 ·obtain⟨e,n,ne,nf,d⟩:=I.pin p hp
  have nch:p.1∉ch:=fun z=>(hch p.1 z).2.2.2 p hp rfl
  exact⟨keep p.1 p.2 ne nf nch e n,free p.1 p.2 nch e n,ne,nf,d⟩
theorem d9.un{t':Nat}(I:d9 X pins σ H s)(u:Un X.fs [] H H' s.heap h')(hok:HOk X.prog X.w H' h'):d9 X pins σ H' {s with heap:=h',toks:=t'}:=by
 obtain⟨m,⟨o,es,ep,ho,r⟩,_⟩:=id I.loc
 obtain⟨sl,hL⟩:=u.any ho I.free (by simp)
 exact I.step (g':=s.gens) (d':=s.drawn) (ch:=[]) (fun _ z=>nomatch z) (fun b o _ hb _ e n=>u.keep b o e n hb (by simp)) (fun b o _ hb _ e n=>u.slot b o e n hb (by simp)) (fun b o _ e n=>u.free b o e n (by simp)) (fun b o _ e=>u.there b o e (by simp)) u.tups u.frzs u.tbls (fun m' hm=>by
  obtain⟨o',es',ep',ho',r'⟩:=hm
  rw [ho] at ho';cases ho'
  exact⟨_,es',ep',hL,r'⟩) hok I.bare
theorem d9.call{g':Array GenState}{t':Nat}{d':Drawn}{ch:List AB}(I:d9 X pins σ H s)(u:Un (frs X.stack) ch H H' s.heap h')(hok:HOk X.prog X.w H' h')(hg:AllBare g')
 (hch:∀b∈ch,(b∈X.ex\/X.s₀.heap.objs.size<=b)/\b≠X.env.locals/\(∀x c,X.env.cells.lookup x=some c->c≠b)/\∀p∈X.pn++pins,p.1≠b):
 d9 X pins σ H' {s with heap:=h',gens:=g',drawn:=d',toks:=t'}:=by
 obtain⟨m,⟨o,es,ep,ho,r⟩,_⟩:=id I.loc
 obtain⟨sl,hL⟩:=u.any ho I.free fun z=>(hch _ z).2.1 rfl
 exact I.step (ch:=ch) hch (fun b o hL hb hc e n=>u.keep b o e n (fun z=>(Ap.mp (I.stkSub b z)).elim hL hb) hc) (fun b o _ _ hc e n=>u.any e n hc) (fun b o hc e n=>u.free b o e n hc) (fun b o hc e=>u.there b o e hc) u.tups u.frzs u.tbls (fun m' hm=>by
  obtain⟨o',es',ep',ho',r'⟩:=hm
  rw [ho] at ho';cases ho'
  exact⟨_,es',ep',hL,r'⟩) hok hg
theorem d9.turned{t':Nat}{it:AB}(I:d9 X pins σ H s)(k:∀b o,b≠it->s.heap.get? b=some o->h'.get? b=some o)(hn:H it=none)(hL:it≠X.env.locals)
 (h1:it∈X.ex\/X.s₀.heap.objs.size<=it) (h2:∀x c,X.env.cells.lookup x=some c->c≠it) (h3:∀p∈X.pn++pins,p.1≠it):d9 X pins σ H {s with heap:=h',toks:=t'}:=by
 have nit:∀b u,H b=some u->b≠it:=fun b u e z=>by rw [z,hn] at e;cases e
 refine I.step (g':=s.gens) (d':=s.drawn) (ch:=[it]) (fun b hb=> ?_) (fun b o _ _ hc e _=>k b o (fun z=>hc (by simp [z])) e) (fun b o _ _ hc e _=>⟨o.slots,k b o (fun z=>hc (by simp [z])) e⟩) (fun _ _ _ _ n=>n)
  (fun b o hc e=>⟨o,k b o (fun z=>hc (by simp [z])) e⟩) (fun _ _ e=>e) (fun _ _ _ e=>e) (fun b ps e=>⟨#[],by rw [e];simp⟩) (fun m hm=> ?_) (fun b u e=> ?_) I.bare
 ·have e:b=it:=by simpa using hb
  subst e
  exact⟨h1,hL,h2,h3⟩
 ·obtain⟨o,es,ep,ho,r⟩:=hm
  exact⟨o,es,ep,k _ o (Ne.symm hL) ho,r⟩
 ·refine(I.hok b u e).stay (fun c v hc q=>k c v ?_ q) (fun _ q=>q) fun _ _ q=>q
  rcases hc with z|z
  ·rw [z];exact nit b u e
  ·exact nit c _ z
theorem d9.tok(I:d9 X pins σ H s)(t:Nat):d9 X pins σ H {s with toks:=t}:=I.un (h':=s.heap) (t':=t) Un.refl I.hok
theorem d9.kept{t':Nat}(I:d9 X pins σ H s)(k:∀b u,s.heap.get? b=some u->h'.get? b=some u):d9 X pins σ H {s with heap:=h',toks:=t'}:=I.un (Un.kept k) (I.hok.kept k)
theorem d9.laid{a:AB}{o:HO}{t':Nat}(I:d9 X pins σ H s)(k:∀b u,s.heap.get? b=some u->h'.get? b=some u)(hp:s.heap.objs.size<=a)(new:B5 X.prog X.w (upd H a o) h' a o):
 d9 X pins σ (upd H a o) {s with heap:=h',toks:=t'}:=I.un (Un.laid k hp (I.hok.fresh hp)) (I.hok.laid k hp new)
theorem d9.write{x e:AB}{o:HO}{t':Nat}(I:d9 X pins σ H s)(mu:Mut (H x))(he:e=x\/H e=some (.own x))(k:∀b u,b≠e->s.heap.get? b=some u->h'.get? b=some u)(heo:∃u,h'.get? e=some u)
 (new:B5 X.prog X.w (upd H x o) h' x o):d9 X pins σ (upd H x o) {s with heap:=h',toks:=t'}:=I.un (Un.write mu he k heo) (I.hok.write mu he k heo new)
theorem d9.weak{σ':List (Option V)}(I:d9 X pins σ H s)(hl:σ'.length=σ.length)(w:∀(i:Nat) v,σ'[i]?=some (some v)->σ[i]?=some (some v)):d9 X pins σ' H s:=
 ⟨I.ok,I.os,I.bare,I.base,let ⟨m,hn,hl'⟩:=I.loc;⟨m,hn,fun i x v e1 e2 e3=>hl' i x v e1 (w i v e2) e3⟩,I.cell,I.free,I.freeC,I.pin,I.hok,hl.trans I.len⟩
theorem d9.pins_of{pins':List (AB×Obj)}(I:d9 X pins σ H s)(h:∀p∈pins',s.heap.get? p.1=some p.2/\H p.1=none/\p.1≠X.env.locals/\p.1∉X.fs/\∀v,p.2.data≠.cell v):d9 X pins' σ H s:=
 ⟨I.ok,I.os,I.bare,I.base,I.loc,I.cell,I.free,I.freeC,fun p hp=>(As.mp hp).elim (fun z=>I.pin p (BC _ z)) (h p),I.hok,I.len⟩
theorem a57{N:List Str}(hN:N.Nodup){i j:Nat}{x:Str}(a:N[i]?=some x)(b:N[j]?=some x):i=j:=by
 obtain⟨h1,e1⟩:=Ar.mp a
 obtain⟨h2,e2⟩:=Ar.mp b
 exact(List.getElem_inj hN).mp (e1.trans e2.symm)
theorem a8Z{M:Model}{A:AJ}{E:AA->AC->Prop}{i:Nat}{x:Str}{v:V}{u:AA}{Q:Unit->AC->Prop}(I:d9 X pins σ H s)(hN:X.N.Nodup)(hi:X.N[i]?=some x)(hx:Loc X.env.scope x)(r:j6 v u)
 (h:∀s',d9 X pins (σ.set i (some v)) H s'->(∃a,Heap.SameBut a s.heap s'.heap/\(a=X.env.locals\/X.env.cells.lookup x=some a))->Q () s') (hf:X.fn x=true\/X.env.scope.names.lookup x=some .local:=by first|exact .inl rfl|exact .inr rfl|assumption):AH M A (storeName X.env x u) Q E s:=by
 obtain⟨m,hn,hl⟩:=id I.loc
 have hcls:(X.env.scope.kind== .class||(X.env.scope.kind== .module && X.env.locals !=X.env.globals))=false:=by rw [I.ok.kind];rfl
 have hiσ:i<σ.length:=by rw [I.len];exact(Ar.mp hi).1
 have cne:=I.cne
 have tracked:∀{a:AB} {h':Heap},(∃o,s.heap.get? a=some o/\H a=none)->Heap.SameBut a s.heap h'->HOk X.prog X.w H h':=fun {a h'} ha hs b ob e=>by
  obtain⟨_,_,hfree⟩:=ha
  refine(I.hok b ob e).stay (fun c w' hc q=>(hs.2 c ?_).trans q) (fun _ q=>q) fun _ _ q=>q
  rintro rfl
  rcases hc with rfl|hc
  ·rw [hfree] at e;cases e
  ·rw [hfree] at hc;cases hc
 rcases hx with hk|hk
 ·refine wpAny_storeName_local hk hn (fun h' hn' hs=> ?_) hcls
  obtain⟨oL,_,_,hoL,_⟩:=id hn
  refine h _ ⟨I.ok,I.os,I.bare,⟨fun b o e n hb hx=> ?_,fun b o e n hb hx=> ?_,I.base.free,fun b o e hx=> ?_,I.base.tups,I.base.frzs,I.base.tbls⟩,⟨_,hn',fun j y v' e1 e2 e3=> ?_⟩,fun y c e=> ?_,I.free,I.freeC,fun p hp=> ?_,tracked ⟨oL,hoL,I.free⟩ hs,by simpa using I.len⟩ ⟨_,hs,.inl rfl⟩
  ·exact(hs.2 b (Al (An (AT e) I.ok.above))).trans (I.base.keep b o e n hb hx)
  ·obtain⟨sl,e1⟩:=I.base.slot b o e n hb hx
   exact⟨sl,(hs.2 b (Al (An (AT e) I.ok.above))).trans e1⟩
  ·obtain⟨o',e1⟩:=I.base.there b o e hx
   exact⟨o',(hs.2 b (Al (An (AT e) I.ok.above))).trans e1⟩
  ·by_cases hj:j=i
   ·subst hj
    rw [hi] at e1;cases e1
    rw [BF hiσ] at e2
    cases e2
    exact⟨u,r,.inl ⟨hk,by simp⟩⟩
   ·rw [List.getElem?_set_ne (Ne.symm hj)] at e2
    obtain⟨u',r',q⟩:=hl j y v' e1 e2 e3
    refine⟨u',r', ?_⟩
    rcases q with⟨k,e⟩|⟨k,c,e,z⟩
    ·refine .inl ⟨k, ?_⟩
     have:y≠x:=fun e=>hj (a57 hN e1 (e▸hi))
     simp [this,e]
    ·exact .inr ⟨k,c,e,z.sameBut hs (cne y c e)⟩
  ·obtain⟨w',z⟩:=I.cell y c e
   exact⟨w',z.sameBut hs (cne y c e)⟩
  ·obtain⟨e,n,ne,nf,d⟩:=I.pin p hp
   exact⟨(hs.2 p.1 ne).trans e,n,ne,nf,d⟩
 ·have hfn:X.fn x=true:=by
   rcases hf with z|z
   ·exact z
   ·rw [z] at hk;cases hk
  obtain⟨c,hc⟩:=I.ok.has x (.inl hk)
  obtain⟨w',z⟩:=I.cell x c hc
  refine wpAny_storeName_cell I.ok.kind hk hc z (fun h' hc' hs=> ?_)
  obtain⟨oc,hoc,hocd⟩:=id z
  refine h {s with heap:=h'} ⟨I.ok,I.os,I.bare,⟨fun b o e n hb hx=> ?_,fun b o e n hb hx=> ?_,I.base.free,fun b o e hx=> ?_,I.base.tups,I.base.frzs,I.base.tbls⟩,⟨m,hn.sameBut hs (Ne.symm (cne x c hc)),fun j y v' e1 e2 e3=> ?_⟩,fun y c' e=> ?_,I.free,I.freeC,fun p hp=> ?_,tracked ⟨oc,hoc,I.freeC x c hc⟩ hs,by simpa using I.len⟩ ⟨c,hs,.inr hc⟩
  ·exact(hs.2 b (Al (An (AT e) (I.ok.cab x c hfn hc)))).trans (I.base.keep b o e n hb hx)
  ·obtain⟨sl,e1⟩:=I.base.slot b o e n hb hx
   exact⟨sl,(hs.2 b (Al (An (AT e) (I.ok.cab x c hfn hc)))).trans e1⟩
  ·obtain⟨o',e1⟩:=I.base.there b o e hx
   exact⟨o',(hs.2 b (Al (An (AT e) (I.ok.cab x c hfn hc)))).trans e1⟩
  ·by_cases hj:j=i
   ·subst hj
    rw [hi] at e1;cases e1
    rw [BF hiσ] at e2
    cases e2
    exact⟨u,r,.inr ⟨.inl hk,c,hc,hc'⟩⟩
   ·rw [List.getElem?_set_ne (Ne.symm hj)] at e2
    obtain⟨u',r',q⟩:=hl j y v' e1 e2 e3
    refine⟨u',r', ?_⟩
    rcases q with q|⟨k,c',e,z'⟩
    ·exact .inl q
    ·refine .inr ⟨k,c',e,z'.sameBut hs ?_⟩
     rintro rfl
     exact hj (a57 hN e1 (I.ok.inj _ _ _ e hc▸hi))
  ·by_cases hcc:c'=c
   ·subst hcc;exact⟨_,hc'⟩
   ·obtain⟨w2,z2⟩:=I.cell y c' e
    exact⟨w2,z2.sameBut hs hcc⟩
  ·obtain⟨e,n,ne,nf,d⟩:=I.pin p hp
   refine⟨(hs.2 p.1 ?_).trans e,n,ne,nf,d⟩
   intro q
   rw [q,hoc] at e
   have q':oc=p.2:=Option.some.inj e
   exact d w' (by rw [<-q'];exact hocd)
theorem a3L{M:Model}{A:AJ}{E:AA->AC->Prop}{i:Nat}{x:Str}{v:V}{u:AA}{Q:Unit->AC->Prop}(I:d9 X pins σ H s)(hN:X.N.Nodup)(hi:X.N[i]?=some x)(hx:Loc X.env.scope x)(r:j6 v u)
 (h:∀s',d9 X pins (σ.set i (some v)) H s'->Q () s') (hf:X.fn x=true\/X.env.scope.names.lookup x=some .local:=by first|exact .inl rfl|exact .inr rfl|assumption):AH M A (storeName X.env x u) Q E s:=
 a8Z I hN hi hx r (fun s' I' _=>h s' I') hf
theorem d9.call'{s':AC}{ch:List AB}(I:d9 X pins σ H s)(ho:s'.os=s.os)(u:Un (frs X.stack) ch H H' s.heap s'.heap)(hok:HOk X.prog X.w H' s'.heap)(hg:AllBare s'.gens)
 (hch:∀b∈ch,(b∈X.ex\/X.s₀.heap.objs.size<=b)/\b≠X.env.locals/\(∀x c,X.env.cells.lookup x=some c->c≠b)/\∀p∈X.pn++pins,p.1≠b):d9 X pins σ H' s':=by
 obtain⟨h',g',d',t',o'⟩:=s'
 have e:o'=s.os:=ho
 subst e
 exact I.call (g':=g') (t':=t') (d':=d') u hok hg hch
end
abbrev XK:=AA->Option AB->Hp->Prop
abbrev St:=List (Option V)
abbrev VK:=V->Hp->Prop
abbrev TE:=St->Hp->VK->Prop
abbrev TT:=St->Hp->(Bool->Hp->Prop)->Prop
abbrev TA:=St->Hp->(List V->Hp->Prop)->Prop
structure Q6 where
 nx:St->Hp->Prop
 rt:VK
 bk:St->Hp->Prop:=fun _ _=>False
 ct:St->Hp->Prop:=fun _ _=>False
abbrev TS:=Q6->St->Hp->Prop
def EP(X:Cx)(pins:List (AB×Obj))(σ:St)(Q:VK)(u:AA)(s':AC):Prop:=∃v H',d9 X pins σ H' s'/\j6 v u/\Q v H'
def TP(X:Cx)(pins:List (AB×Obj))(σ:St)(Q:Bool->Hp->Prop)(b:Bool)(s':AC):Prop:=∃H',d9 X pins σ H' s'/\Q b H'
def AP(X:Cx)(pins:List (AB×Obj))(σ:St)(Q:List V->Hp->Prop)(us:List AA)(s':AC):Prop:=∃vs H',d9 X pins σ H' s'/\g6 vs us/\Q vs H'
def SP(X:Cx)(pins:List (AB×Obj))(D:Q6)(f:Flow)(s':AC):Prop:=
 match f with
 | .next=>∃σ' H',d9 X pins σ' H' s'/\D.nx σ' H'
 | .brk=>∃σ' H',d9 X pins σ' H' s'/\D.bk σ' H'
 | .cont=>∃σ' H',d9 X pins σ' H' s'/\D.ct σ' H'
 | .ret u=>∃v σ' H',d9 X pins σ' H' s'/\j6 v u/\D.rt v H'
def PE(X:Cx)(e:AE)(t:TE):Prop:=
 ∀(pins:List (AB×Obj)) (s:AC) (σ:St) (H:Hp) (Q:VK),d9 X pins σ H s->t σ H Q->AH (model X.prog X.w) X.A (eval e X.env) (EP X pins σ Q) X.xe s
def PT(X:Cx)(e:AE)(t:TT):Prop:=
 ∀(pins:List (AB×Obj)) (s:AC) (σ:St) (H:Hp) (Q:Bool->Hp->Prop),d9 X pins σ H s->t σ H Q->AH (model X.prog X.w) X.A (isTrue e X.env (eval e X.env)) (TP X pins σ Q) X.xe s
def PW(X:Cx)(e:AE)(t:TT):Prop:=
 ∀(whole:Sem AA) (pins:List (AB×Obj)) (s:AC) (σ:St) (H:Hp) (Q:Bool->Hp->Prop),d9 X pins σ H s->t σ H Q->AH (model X.prog X.w) X.A (isTrue e X.env whole) (TP X pins σ Q) X.xe s
theorem PW.pt{X:Cx}{e:AE}{t:TT}(h:PW X e t):PT X e t:=h _
def PA(X:Cx)(es:List AE)(t:TA):Prop:=
 ∀(pos:Pos) (pins:List (AB×Obj)) (s:AC) (σ:St) (H:Hp) (Q:List V->Hp->Prop),d9 X pins σ H s->t σ H Q->AH (model X.prog X.w) X.A (spliced (backTo pos (AN es X.env))) (AP X pins σ Q) X.xe s
def PS(X:Cx)(st:Stmt)(t:TS):Prop:=
 ∀(pins:List (AB×Obj)) (s:AC) (σ:St) (H:Hp) (D:Q6),d9 X pins σ H s->t D σ H->AH (model X.prog X.w) X.A (exec st X.env) (SP X pins D) X.xe s
def PSs(X:Cx)(st:List Stmt)(t:TS):Prop:=
 ∀(pins:List (AB×Obj)) (s:AC) (σ:St) (H:Hp) (D:Q6),d9 X pins σ H s->t D σ H->AH (model X.prog X.w) X.A (execs st X.env) (SP X pins D) X.xe s
theorem E5{α:Type}{t:Sem α}{Q Q':α->AC->Prop}{M:Model}{A:AJ}{E:AA->AC->Prop}{s:AC}(h:AH M A t Q E s)(hQ:∀a s,Q a s->Q' a s):AH M A t Q' E s:=wpAny_mono h hQ fun _ _ x=>x
section
variable {X:Cx}
def a0w(i:Nat):TE:=fun σ H Q=>∃v,σ[i]?=some (some v)/\Q v H
def tC(v:V):TE:=fun _ H Q=>Q v H
theorem b3y{i:Nat}{x:Str}{pos:Pos}(hN:X.N[i]?=some x)(hv:Vis X.env.scope x)(hd:(x==("__debug__":Str))=false:=by decide)(hcd:(x==("__classdict__":Str))=false:=by decide):PE X (.Name x pos) (a0w i):=by
 intro pins s σ H Q I h
 obtain⟨v,e,h⟩:=h
 obtain⟨m,hn,hl⟩:=I.loc
 obtain⟨u,r,l⟩:=hl i x v hN e hv
 have fin:EP X pins σ Q u s:=⟨v,H,I,r,h⟩
 rcases l with⟨hk,hm⟩|⟨hk,c,hc,hcell⟩
 ·exact wpAny_Name (wpAny_loadName_local I.ok.kind hk hn hm fin) hd
 ·rcases hk with hk|hk
  ·exact wpAny_Name (wpAny_loadName_cell I.ok.kind hk hc hcell fin) hd
  ·exact wpAny_Name (wpAny_loadName_free I.ok.kind hk hc hcell fin hcd) hd
theorem b3t{i j pos}:PE X (.Constant (.int i) j pos) (tC (.int i)):=fun _ _ _ H _ I h=>wpAny_Constant_int ⟨.int i,H,I.tok _,⟨_,rfl⟩,h⟩
theorem b4p{b j pos}:PE X (.Constant (.bool b) j pos) (tC (.bl b)):=fun _ _ _ H _ I h=>Constant_bool ⟨.bl b,H,I,rfl,h⟩
theorem b3x{x j pos}:PE X (.Constant (.str x) j pos) (tC (.str x)):=fun _ _ _ H _ I h=>Calls.Constant_str ⟨.str x,H,I.tok _,⟨_,rfl⟩,h⟩
def Gl(X:Cx)(x:Str):Prop:=X.env.kindOf x=some .globalImplicit
theorem a7F{E:AA->AC->Prop}{pins:List (AB×Obj)}{s:AC}{σ:St}{H:Hp}{x:Str}{u:AA}{pos:Pos}{Q:AA->AC->Prop}(I:d9 X pins σ H s)(hg:Gl X x)(hm:X.mg x=some u)(h:Q u s)
 (hd:(x==("__debug__":Str))=false:=by decide):AH (model X.prog X.w) X.A (eval (.Name x pos) X.env) Q E s:=
 Calls.Name_function_global I.ok.kind hg (Calls.loadGlobal_global (by rw [I.ok.glob];exact I.mod.glob.keeps I.bk) hm h) hd
theorem a3e{E:AA->AC->Prop}{pins:List (AB×Obj)}{s:AC}{σ:St}{H:Hp}{x:Str}{u:AA}{pos:Pos}{Q:AA->AC->Prop}(I:d9 X pins σ H s)(hg:Gl X x)(hm:X.mg x=none)(hv:bootBuiltins x=some u)(h:Q u s)
 (hn:x≠"__name__":=by decide) (hd:(x==("__debug__":Str))=false:=by decide):AH (model X.prog X.w) X.A (eval (.Name x pos) X.env) Q E s:=by
 obtain⟨mb,h1,h2⟩:=I.mod.blt
 exact Calls.Name_function_global I.ok.kind hg (Calls.loadGlobal_builtin (by rw [I.ok.glob];exact I.mod.glob.keeps I.bk) hm (by rw [I.ok.blt];exact h1.keeps I.bk) ((h2 x hn).trans hv) h) hd
theorem b1F{x:Str}{v:V}{u:AA}{pos:Pos}(hg:Gl X x)(hm:X.mg x=some u)(r:j6 v u)(hd:(x==("__debug__":Str))=false:=by decide):PE X (.Name x pos) (tC v):=
 fun _ _ _ H _ I h=>a7F I hg hm ⟨v,H,I,r,h⟩ hd
theorem a1o{x:Str}{v:V}{u:AA}{pos:Pos}(hg:Gl X x)(hm:X.mg x=none)(hv:bootBuiltins x=some u)(r:j6 v u)(hn:x≠"__name__":=by decide)(hd:(x==("__debug__":Str))=false:=by decide):PE X (.Name x pos) (tC v):=
 fun _ _ _ H _ I h=>a3e I hg hm hv ⟨v,H,I,r,h⟩ hn hd
variable {a b:AE}{ta tb:TE}{pos:Pos}
def PC(X:Cx)(op:CmpOp)(a b:AE)(t:TE):Prop:=
 ∀(pins:List (AB×Obj)) (s:AC) (σ:St) (H:Hp) (Q:VK),d9 X pins σ H s->t σ H Q->
  AH (model X.prog X.w) X.A (eval a X.env) (fun v s₁=>AH (model X.prog X.w) X.A (eval b X.env) (fun u s₂=>AH (model X.prog X.w) X.A (compareOp op v u) (EP X pins σ Q) X.xe s₂) X.xe s₁) X.xe s
theorem b0a(b:AE){op:CmpOp}(h:op≠.In)(h2:op≠.NotIn):behindInMarks op b=false:=by
 have e1:(op==CmpOp.In)=false:=by cases op<;>first|rfl|exact absurd rfl h
 have e2:(op==CmpOp.NotIn)=false:=by cases op<;>first|rfl|exact absurd rfl h2
 cases b<;>simp [behindInMarks,e1,e2]
def tB(t:TE):TT:=fun σ H Q=>t σ H fun x H1=>∃c,x= .bl c/\Q c H1
theorem b3D{op:CmpOp}{t:TE}(h:PC X op a b t)(h1:behindInMarks op b=false:=by first|exact b0a _ (by decide) (by decide)|rfl):PT X (.Compare a [op] [b] pos) (tB t):=by
 intro pins s σ H Q I hw
 refine wpAny_isTrue_Compare1 (E5 (h pins s σ H _ I hw) fun v s1 h1=>E5 h1 fun u s2 h2=>E5 h2 fun c s3 ⟨x,H1,I1,r1,q1⟩=> ?_) h1
 obtain⟨d,rfl,q⟩:=q1
 cases r1
 exact wpAny_truthy_bool ⟨H1,I1,q⟩
variable {tA tB':TT}{k4:List AE}
def b45(t u:TT):TT:=fun σ H Q=>t σ H fun c H1=>if c=true then u σ H1 Q else Q false H1
def tOr(t u:TT):TT:=fun σ H Q=>t σ H fun c H1=>if c=true then Q true H1 else u σ H1 Q
def b5b(t:TT):TT:=fun σ H Q=>t σ H fun c H1=>Q (!c) H1
theorem b1M(ha:PT X a tA):PW X (.BoolOp .And [a] pos) tA:=by
 intro wh pins s σ H Q I h
 refine isTrue_and (E5 (ha pins s σ H Q I h) fun c s1 e=> ?_)
 cases c with
 |true=>exact isTrue_and_nil e
 |false=>exact e
theorem b3G(ha:PT X a tA):PW X (.BoolOp .Or [a] pos) tA:=by
 intro wh pins s σ H Q I h
 refine isTrue_or (E5 (ha pins s σ H Q I h) fun c s1 e=> ?_)
 cases c with
 |false=>exact isTrue_or_nil e
 |true=>exact e
theorem b3F(ha:PT X a tA)(hb:PW X (.BoolOp .And (b::k4) pos) tB'):PW X (.BoolOp .And (a::b::k4) pos) (b45 tA tB'):=by
 intro wh pins s σ H Q I h
 refine isTrue_and (E5 (ha pins s σ H _ I h) fun c s1 ⟨H1,I1,q1⟩=> ?_)
 cases c with
 |true=>exact hb wh pins s1 σ H1 Q I1 q1
 |false=>exact⟨H1,I1,q1⟩
theorem b4s(ha:PT X a tA)(hb:PW X (.BoolOp .Or (b::k4) pos) tB'):PW X (.BoolOp .Or (a::b::k4) pos) (tOr tA tB'):=by
 intro wh pins s σ H Q I h
 refine isTrue_or (E5 (ha pins s σ H _ I h) fun c s1 ⟨H1,I1,q1⟩=> ?_)
 cases c with
 |true=>exact⟨H1,I1,q1⟩
 |false=>exact hb wh pins s1 σ H1 Q I1 q1
theorem b3E(ha:PT X a tA):PT X (.UnaryOp .Not a pos) (b5b tA):=by
 intro pins s σ H Q I h
 exact isTrue_not (ha pins s σ H (fun c H1=>Q (!c) H1) I h)
def b4x(ta tb:TE):TE:=fun σ H Q=>ta σ H fun x H1=>∃c,x= .bl c/\if c=true then tb σ H1 Q else Q (.bl false) H1
def b4G(ta:TE):TE:=fun σ H Q=>ta σ H fun x H1=>∃c,x= .bl c/\Q (.bl (!c)) H1
theorem b3w{op}{t:TE}(h:PE X a t):PE X (.BoolOp op [a] pos) t:=fun pins s σ H Q I hw=>BoolOp_one (h pins s σ H Q I hw)
theorem b3r(ha:PE X a ta)(hb:PE X (.BoolOp .And (b::k4) pos) tb):PE X (.BoolOp .And (a::b::k4) pos) (b4x ta tb):=by
 intro pins s σ H Q I h
 refine BoolOp_and (E5 (ha pins s σ H _ I h) fun v s1 ⟨x,H1,I1,r1,q1⟩=> ?_)
 obtain⟨c,rfl,q1⟩:=q1
 cases r1
 refine wpAny_truthy_bool ?_
 cases c with
 |true=>exact hb pins s1 σ H1 Q I1 q1
 |false=>exact⟨.bl false,H1,I1,rfl,q1⟩
theorem b3v(ha:PE X a ta):PE X (.UnaryOp .Not a pos) (b4G ta):=by
 intro pins s σ H Q I h
 refine UnaryOp_ (E5 (ha pins s σ H _ I h) fun v s1 ⟨x,H1,I1,r1,q1⟩=> ?_)
 obtain⟨c,rfl,q1⟩:=q1
 cases r1
 exact not_of (wpAny_truthy_bool ⟨.bl (!c),H1,I1,rfl,q1⟩)
end
def J2(K:AD)(H:Hp)(a:AB)(xs:List V):Prop:=
 Rd H a (.lst xs)\/
  ∃(o:Obj) (its:Array AA) (n:Nat),K.lookup a=some o/\o.cls= .type "list"/\o.dict=none/\o.data= .seq its n/\its.size<=AK/\g6 xs its.toList
def W4(K:AD)(H:Hp)(a:AB)(xs:List V):Prop:=
 Rd H a (.tup xs)\/
  ∃(o:Obj) (its:Array AA) (n:Nat),K.lookup a=some o/\o.cls= .type "tuple"/\o.data= .seq its n/\its.size<=AK/\g6 xs its.toList
def b4R:AA->Option V
 | .none=>some .non
 | .bool b=>some (.bl b)
 | .int i _=>some (.int i)
 | .str x _=>some (.str x)
 | .bytes b _=>some (.byt b)
 | .float b _=>some (.flt b)
 | .ref a=>some (.ref a)
 | .type n=>some (.ty n)
 |_=>none
theorem j6.abs{x:V}{u:AA}(r:j6 x u):b4R u=some x:=by
 cases x with
 |non=>cases r;rfl
 |bl _=>cases r;rfl
 |int _=>obtain⟨t,rfl⟩:=r;rfl
 |str _=>obtain⟨t,rfl⟩:=r;rfl
 |byt _=>obtain⟨t,rfl⟩:=r;rfl
 |flt _=>obtain⟨t,rfl⟩:=r;rfl
 |ref _=>cases r;rfl
 |ty _=>cases r;rfl
theorem j6.inj{x y:V}{u:AA}(r:j6 x u)(q:j6 y u):x=y:=Option.some.inj (r.abs.symm.trans q.abs)
theorem g6.inj:∀{xs ys:List V} {us:List AA},g6 xs us->g6 ys us->xs=ys
 |_,_,_,.nil,.nil=>rfl
 |_,_,_,.cons r t,.cons r' t'=>by rw [r.inj r',g6.inj t t']
section
variable {X:Cx}{pins:List (AB×Obj)}{σ:St}{H:Hp}{s:AC}{a:AB}{xs ys:List V}
theorem J2.of{K:AD}(h:H a=some (.lst xs)):J2 K H a xs:= .inl (.inl h)
theorem W4.of{K:AD}(h:H a=some (.tup xs)):W4 K H a xs:= .inl (.inl h)
theorem d9.list(I:d9 X pins σ H s)(h:J2 X.K H a xs):∃its:List AA,g6 xs its/\PlainL s.heap a its.toArray/\xs.length<=AK:=by
 rcases h with h|⟨o,its,n,hk,hc,hd,hs,hz,r⟩
 ·obtain⟨z,its,n,r,e⟩:=h.ok I.hok
  exact⟨its,r,⟨_,n,e,rfl,rfl,rfl⟩,z⟩
 ·refine⟨its.toList,r,⟨o,n,I.kIn a o hk,hc,hd,by simpa using hs⟩, ?_⟩
  have e:=r.length
  simp only [Array.length_toList] at e
  lia
theorem d9.tuple(I:d9 X pins σ H s)(h:W4 X.K H a xs):∃its:List AA,g6 xs its/\IsTup s.heap a its.toArray/\xs.length<=AK:=by
 rcases h with h|⟨o,its,n,hk,hc,hs,hz,r⟩
 ·obtain⟨z,its,r,p⟩:=h.ok I.hok
  exact⟨its,r,p,z⟩
 ·refine⟨its.toList,r,⟨o,I.kIn a o hk,hc,n,by simpa using hs⟩, ?_⟩
  have e:=r.length
  simp only [Array.length_toList] at e
  lia
theorem d9.list_inj(I:d9 X pins σ H s)(h:J2 X.K H a xs)(h':J2 X.K H a ys):xs=ys:=by
 obtain⟨its,r,⟨o,n,e,_,_,d⟩,_⟩:=I.list h
 obtain⟨its',r',⟨o',n',e',_,_,d'⟩,_⟩:=I.list h'
 rw [e] at e';cases e'
 rw [d] at d'
 injection d' with d1 _
 have:its=its':=by simpa using congrArg Array.toList d1
 subst this
 exact r.inj r'
theorem d9.tuple_inj(I:d9 X pins σ H s)(h:W4 X.K H a xs)(h':W4 X.K H a ys):xs=ys:=by
 obtain⟨its,r,⟨o,e,_,n,d⟩,_⟩:=I.tuple h
 obtain⟨its',r',⟨o',e',_,n',d'⟩,_⟩:=I.tuple h'
 rw [e] at e';cases e'
 rw [d] at d'
 injection d' with d1 _
 have:its=its':=by simpa using congrArg Array.toList d1
 subst this
 exact r.inj r'
end
abbrev Cx.wish(X:Cx)(E:AA->AC->Prop):Cx:={X with xe:=E}
abbrev Cx.nox(X:Cx):Cx:=X.wish fun _ _=>False
theorem Cx.Ok.wish{X:Cx}(ok:X.Ok)(E:AA->AC->Prop):(X.wish E).Ok:=
 ⟨ok.mod,ok.kind,ok.glob,ok.blt,ok.above,ok.inj,ok.has,ok.cab,ok.hd,ok.frames,ok.stk,ok.exf,ok.bs,ok.bsz,ok.noex,ok.exfs,ok.funs,ok.frf⟩
theorem Cx.Ok.unwish{X:Cx}{E:AA->AC->Prop}(ok:(X.wish E).Ok):X.Ok:=
 ⟨ok.mod,ok.kind,ok.glob,ok.blt,ok.above,ok.inj,ok.has,ok.cab,ok.hd,ok.frames,ok.stk,ok.exf,ok.bs,ok.bsz,ok.noex,ok.exfs,ok.funs,ok.frf⟩
section
variable {X:Cx}{pins:List (AB×Obj)}{σ:St}{H:Hp}{s:AC}{E:AA->AC->Prop}
theorem d9.wish(I:d9 X pins σ H s)(E:AA->AC->Prop):d9 (X.wish E) pins σ H s:=⟨I.ok.wish E,I.os,I.bare,I.base,I.loc,I.cell,I.free,I.freeC,I.pin,I.hok,I.len⟩
theorem d9.unwish(I:d9 (X.wish E) pins σ H s):d9 X pins σ H s:=⟨I.ok.unwish,I.os,I.bare,I.base,I.loc,I.cell,I.free,I.freeC,I.pin,I.hok,I.len⟩
theorem SP.unwish{D:Q6}{f:Flow}{s':AC}(h:SP (X.wish E) pins D f s'):SP X pins D f s':=by
 cases f with
 |next=>obtain⟨σ',H',I,q⟩:=h;exact⟨σ',H',I.unwish,q⟩
 |brk=>obtain⟨σ',H',I,q⟩:=h;exact⟨σ',H',I.unwish,q⟩
 |cont=>obtain⟨σ',H',I,q⟩:=h;exact⟨σ',H',I.unwish,q⟩
 |ret u=>obtain⟨v,σ',H',I,r,q⟩:=h;exact⟨v,σ',H',I.unwish,r,q⟩
theorem PE.nox{e:AE}{t:TE}(h:PE X.nox e t):PE X e t:=fun pins s σ H Q I hw=>
 wpAny_mono (h pins s σ H Q (I.wish _) hw) (fun _ _ ⟨v,H',I',r,q⟩=>⟨v,H',I'.unwish,r,q⟩) fun _ _ z=>False.elim z
theorem PT.nox{e:AE}{t:TT}(h:PT X.nox e t):PT X e t:=fun pins s σ H Q I hw=>
 wpAny_mono (h pins s σ H Q (I.wish _) hw) (fun _ _ ⟨H',I',q⟩=>⟨H',I'.unwish,q⟩) fun _ _ z=>False.elim z
theorem PSs.nox{st:List Stmt}{t:TS}(h:PSs X.nox st t):PSs X st t:=fun pins s σ H D I hw=>
 wpAny_mono (h pins s σ H D (I.wish _) hw) (fun _ _ q=>q.unwish) fun _ _ z=>False.elim z
end
section
variable {X:Cx}{st:Stmt}{k4:List Stmt}{t u:TS}{e:AE}{te:TE}{pos:Pos}
def b4F:TS:=fun D σ H=>D.nx σ H
def b5d(t u:TS):TS:=fun D σ H=>t {D with nx:=u D} σ H
theorem a5b:PSs X [] b4F:=fun _ _ σ H _ I h=>wpAny_execs_nil ⟨σ,H,I,h⟩
theorem Z6(h1:PS X st t)(h2:PSs X k4 u):PSs X (st::k4) (b5d t u):=by
 intro pins s σ H D I h
 refine wpAny_execs_cons (E5 (h1 pins s σ H {D with nx:=u D} I h) fun f s1 q=> ?_)
 cases f with
 |next=>
  obtain⟨σ',H',I',q⟩:=q
  exact h2 pins s1 σ' H' D I' q
 |ret v=>exact q
 |brk=>exact q
 |cont=>exact q
theorem a1p(h1:PS X st t):PSs X [st] t:=by
 intro pins s σ H D I h
 refine wpAny_execs_cons (E5 (h1 pins s σ H D I h) fun f s1 q=> ?_)
 cases f with
 |next=>exact wpAny_execs_nil q
 |ret v=>exact q
 |brk=>exact q
 |cont=>exact q
theorem d9.quiet{pins:List (AB×Obj)}{σ:St}{H:Hp}{s:AC}(I:d9 X pins σ H s):interactive X.env=false:=by simp [interactive,I.ok.kind]
def b4C(te:TE):TS:=fun D σ H=>te σ H fun _ H1=>D.nx σ H1
theorem a2I(he:PE X e te)(hs:swapsWith e none pos.line X.env=pure false:=by rfl):PS X (.Expr e pos) (b4C te):=by
 intro pins s σ H D I h
 exact wpAny_Expr_any (E5 (he pins s σ H _ I h) fun v s1 ⟨x,H1,I1,r1,q1⟩=>⟨σ,H1,I1,q1⟩) I.quiet hs
def b5c(te:TE):TS:=fun D σ H=>te σ H D.rt
theorem a64(he:PE X e te):PS X (.Return (some e) pos) (b5c te):=by
 intro pins s σ H D I h
 exact wpAny_Return_some (E5 (he pins s σ H _ I h) fun v s1 ⟨x,H1,I1,r1,q1⟩=>⟨x,σ,H1,I1,r1,q1⟩)
def b49(c:TT)(t u:TS):TS:=fun D σ H=>c σ H fun b H1=>if b=true then t D σ H1 else u D σ H1
theorem b0p{c:AE}{a b:List Stmt}{tc:TT}(hc:PT X c tc)(ha:PSs X a t)(hb:PSs X b u):PS X (.If c a b pos) (b49 tc t u):=by
 intro pins s σ H D I h
 refine wpAny_If (E5 (hc pins s σ H _ I h) fun d s1 ⟨H1,I1,q1⟩=> ?_)
 cases d with
 |true=>exact ha pins s1 σ H1 D I1 q1
 |false=>exact hb pins s1 σ H1 D I1 q1
end
abbrev TG:=V->St->Hp->(St->Hp->Prop)->Prop
abbrev TGs:=List V->St->Hp->(St->Hp->Prop)->Prop
def PG(X:Cx)(target:AE)(t:TG):Prop:=
 ∀(pins:List (AB×Obj)) (s:AC) (σ:St) (H:Hp) (v:V) (u:AA) (Q:St->Hp->Prop),d9 X pins σ H s->j6 v u->t v σ H Q->
  AH (model X.prog X.w) X.A (assign target X.env u) (fun _ s'=>∃σ' H',d9 X pins σ' H' s'/\Q σ' H') X.xe s
def PGs(X:Cx)(ts:List AE)(t:TGs):Prop:=
 ∀(pins:List (AB×Obj)) (s:AC) (σ:St) (H:Hp) (vs:List V) (us:List AA) (Q:St->Hp->Prop),d9 X pins σ H s->g6 vs us->t vs σ H Q->
  AH (model X.prog X.w) X.A (assignInOrder ((assignEach ts X.env).map (·.2)) us) (fun _ s'=>∃σ' H',d9 X pins σ' H' s'/\Q σ' H') X.xe s
abbrev TIp:=V->V->Hp->VK->Prop
def PIp(X:Cx)(op:Operator)(t:TIp):Prop:=
 ∀(pins:List (AB×Obj)) (s:AC) (σ:St) (H:Hp) (x y:V) (v u:AA) (Q:VK),d9 X pins σ H s->j6 x v->j6 y u->t x y H Q->
  AH (model X.prog X.w) X.A (inplaceOp op v u) (EP X pins σ Q) X.xe s
section
variable {X:Cx}{pos:Pos}
def a4c(i:Nat):TG:=fun v σ H Q=>Q (σ.set i (some v)) H
theorem m7{i:Nat}{x:Str}(hN:X.N.Nodup)(hi:X.N[i]?=some x)(hx:Loc X.env.scope x)(hf:X.fn x=true\/X.env.scope.names.lookup x=some .local:=by first|exact .inl rfl|exact .inr rfl|assumption):PG X (.Name x pos) (a4c i):=by
 intro pins s σ H v u Q I r h
 exact wpAny_assign_Name (a3L I hN hi hx r (fun s' I'=>⟨_,H,I',h⟩) hf)
def b4f:TGs:=fun vs σ H Q=>vs=[]/\Q σ H
def b2m(t:TG)(u:TGs):TGs:=fun vs σ H Q=>∃v r,vs=v::r/\t v σ H fun σ' H'=>u r σ' H' Q
theorem b1G:PGs X [] b4f:=by
 intro pins s σ H vs us Q I r h
 obtain⟨e,h⟩:=h
 subst e
 cases r
 exact assignInOrder_nil ⟨σ,H,I,h⟩
theorem a6g{e:AE}{es:List AE}{t:TG}{u:TGs}(h1:PG X e t)(h2:PGs X es u)
 (hs:(assignEach (e::es) X.env).map (·.2)=assign e X.env::(assignEach es X.env).map (·.2):=by rfl):PGs X (e::es) (b2m t u):=by
 intro pins s σ H vs us Q I r h
 obtain⟨v,vr,e1,h⟩:=h
 subst e1
 cases r with
 |cons r rr=>
  rw [hs]
  refine assignInOrder_cons (E5 (h1 pins s σ H _ _ _ I r h) fun _ s1 ⟨σ1,H1,I1,q1⟩=> ?_)
  exact h2 pins s1 σ1 H1 _ _ Q I1 rr q1
def b4S(K:AD)(n:Nat)(t:TGs):TG:=fun v σ H Q=>∃a xs,v= .ref a/\W4 K H a xs/\xs.length=n/\t xs σ H Q
theorem b3z{es:List AE}{k:Nat}{t:TGs}{n:Nat}(hc:X.calm=true)(h:PGs X es t)
 (hn:(assignEach es X.env).length=n:=by rfl) (hst:(assignEach es X.env).findIdx? (·.1)=none:=by rfl):PG X (.Tuple es k pos) (b4S X.K n t):=by
 intro pins s σ H v u Q I r hw
 obtain⟨a,xs,e1,hq,hl,hw⟩:=hw
 subst e1
 cases r
 obtain⟨its,rv,ht,hz⟩:=I.tuple hq
 refine assign_Tuple_tuple (I.ok.hd hc) ht (by simp [hn,<-hl,rv.length]) hst fun h' hx=> ?_
 have I1:d9 X pins σ H {s with heap:=h'}:=I.kept (t':=s.toks) fun b o e=>hx b o (Al (AT e)) e
 exact h pins _ σ H xs _ Q I1 (by simpa using rv) hw
def b4y(te:TE)(g:TG):TS:=fun D σ H=>te σ H fun x H1=>g x σ H1 D.nx
theorem b3B{tg e:AE}{te:TE}{g:TG}(he:PE X e te)(hg:PG X tg g)(hs:swapsWithSole [tg] e pos.line X.env=pure false:=by rfl)(hw:swappedStores [tg] e X.env=pure none:=by rfl)
 (h1:(assignEach [tg] X.env).map (·.2)=[assign tg X.env]:=by rfl):PS X (.Assign [tg] e pos) (b4y te g):=by
 intro pins s σ H D I h
 refine wpAny_Assign_stores (E5 (he pins s σ H _ I h) fun v s1 ⟨x,H1,I1,r1,q1⟩=> ?_) hs hw
 rw [h1]
 exact E5 (hg pins s1 σ H1 x v _ I1 r1 q1) fun _ s2 q=>q
theorem a65{i:Nat}{x:Str}{e:AE}{te:TE}{pos':Pos}(hN:X.N.Nodup)(hi:X.N[i]?=some x)(hx:Loc X.env.scope x)(he:PE X e te)(hs:swapsWith e (some (.Name x pos')) pos.line X.env=pure false:=by rfl)(hf:X.fn x=true\/X.env.scope.names.lookup x=some .local:=by first|exact .inl rfl|exact .inr rfl|assumption):
 PS X (.Assign [.Name x pos'] e pos) (b4y te (a4c i)):=by
 intro pins s σ H D I h
 refine wpAny_Assign_Name (E5 (he pins s σ H _ I h) fun v s1 ⟨y,H1,I1,r1,q1⟩=> ?_) hs
 exact a3L I1 hN hi hx r1 (fun s2 I2=>⟨_,H1,I2,q1⟩) hf
def b46(i:Nat)(te:TE)(ti:TIp):TS:=fun D σ H=>∃x,σ[i]?=some (some x)/\te σ H fun y H1=>ti x y H1 fun z H2=>D.nx (σ.set i (some z)) H2
theorem b3C{i:Nat}{x:Str}{e:AE}{te:TE}{op:Operator}{ti:TIp}{pos':Pos}(hN:X.N.Nodup)(hi:X.N[i]?=some x)(hx:Loc X.env.scope x)(he:PE X e te)(ho:PIp X op ti)(hf:X.fn x=true\/X.env.scope.names.lookup x=some .local:=by first|exact .inl rfl|exact .inr rfl|assumption):
 PS X (.AugAssign (.Name x pos') op e pos) (b46 i te ti):=by
 intro pins s σ H D I h
 obtain⟨v,e1,h⟩:=h
 obtain⟨m,hn,hl⟩:=I.loc
 have vis:Vis X.env.scope x:=by rcases hx with k|k;exact .inl k;exact .inr (.inl k)
 obtain⟨u,r,l⟩:=hl i x v hi e1 vis
 refine wpAny_AugAssign_Name ?_
 have go:AH (model X.prog X.w) X.A (eval e X.env) (fun w s₂=>AH (model X.prog X.w) X.A (inplaceOp op u w) (fun r s₃=>AH (model X.prog X.w) X.A (storeName X.env x r) (fun _=>SP X pins D .next) X.xe s₃) X.xe s₂) X.xe s:=by
  refine E5 (he pins s σ H _ I h) fun w s1 ⟨y,H1,I1,r1,q1⟩=> ?_
  refine E5 (ho pins s1 σ H1 v y u w _ I1 r r1 q1) fun z s2 ⟨zv,H2,I2,r2,q2⟩=> ?_
  exact a3L I2 hN hi hx r2 (fun s3 I3=>⟨_,H2,I3,q2⟩) hf
 rcases l with⟨hk,hm⟩|⟨hk,c,hc,hcell⟩
 ·exact wpAny_loadName_local I.ok.kind hk hn hm go
 ·rcases hk with hk|hk
  ·exact wpAny_loadName_cell I.ok.kind hk hc hcell go
  ·rcases hx with k|k
   ·have:X.env.scope.names.lookup x=some .free:=hk
    rw [k] at this;cases this
   ·have:X.env.scope.names.lookup x=some .free:=hk
    rw [k] at this;cases this
end
section
variable {X:Cx}{pos:Pos}
end
structure It where
 go:Nat->Hp->Prop
 yld:Nat->Hp->V->Hp->Prop
 stop:Nat->Hp->Prop
def a3T(X:Cx)(pins:List (AB×Obj))(H:Hp)(b:AB):Prop:=
 H b=none/\b≠X.env.locals/\b∉X.fs/\(b∈X.ex\/X.s₀.heap.objs.size<=b)/\(∀x c,X.env.cells.lookup x=some c->c≠b)/\∀p∈X.pn++pins,p.1≠b
theorem d9.fpOk{X:Cx}{pins:List (AB×Obj)}{σ:St}{H H':Hp}{s:AC}{b:AB}(I:d9 X pins σ H s)(hb:s.heap.objs.size<=b)(hn:H' b=none):a3T X pins H' b:=by
 refine⟨hn,Nat.ne_of_gt (An I.lt hb),I.nofs hb,.inr (Nat.le_trans I.sz hb),fun x c e z=> ?_,fun p hp z=> ?_⟩
 ·obtain⟨v,q⟩:=I.cell x c e
  exact absurd (An q.lt (by rw [z];exact hb)) (Nat.lt_irrefl _)
 ·exact absurd (An (AT (I.pin p hp).1) (by rw [z];exact hb)) (Nat.lt_irrefl _)
structure a74(P:AI)(w:AG)(K:AD)(tg:AE)(J:It)(fp:List AB)(it:AB)(tn:Nat->Heap->Prop):Prop where
 mem:it∈fp
 obj:∀i h,tn i h->∀b∈fp,∃o,h.get? b=some o/\∀v,o.data≠.cell v
 keep:∀i h h',tn i h->(∀b∈fp,∀o,h.get? b=some o->h'.get? b=some o)->tn i h'
 item:∀(X:Cx),X.prog=P->X.w=w->X.K=K->X.calm=true->∀(i:Nat) (pins:List (AB×Obj)) (s:AC) (σ:St) (H:Hp) (E:AA->AC->Prop),d9 X pins σ H s->(∀b∈fp,a3T X pins H b)->tn i s.heap->J.go i H->
  AH (model P w) X.A (pyNext (.ref it)) (fun r s1=>∃u,r=some u/\
   AH (model P w) X.A (letOwnedTupleGo tg (.ref it) u) (fun _ s2=>∃x H',d9 X pins σ H' s2/\j6 x u/\J.yld i H x H'/\tn (i+1) s2.heap/\∀b∈fp,H' b=none) E s1) E s
 done:∀(X:Cx),X.prog=P->X.w=w->X.K=K->X.calm=true->∀(i:Nat) (pins:List (AB×Obj)) (s:AC) (σ:St) (H:Hp) (E:AA->AC->Prop),d9 X pins σ H s->(∀b∈fp,a3T X pins H b)->tn i s.heap->J.stop i H->
   AH (model P w) X.A (pyNext (.ref it)) (fun r s1=>r=none/\d9 X pins σ H s1) E s
 self:∀(A:AJ) (i:Nat) (s:AC) (Q:AA->AC->Prop) (E:AA->AC->Prop),tn i s.heap->Q (.ref it) s->AH (model P w) A (pyIter (.ref it)) Q E s
abbrev TI:=St->Hp->(It->Hp->Prop)->Prop
def PIE(X:Cx)(pins:List (AB×Obj))(σ:St)(tg:AE)(R:It->Hp->Prop)(itv:AA)(s2:AC):Prop:=
 ∃(it:AB) (fp:List AB) (tn:Nat->Heap->Prop) (J:It) (H':Hp),itv= .ref it/\d9 X pins σ H' s2/\a74 X.prog X.w X.K tg J fp it tn/\tn 0 s2.heap/\(∀b∈fp,a3T X pins H' b)/\R J H'
def PI(X:Cx)(tg iter:AE)(wi:TI):Prop:=
 ∀(pins:List (AB×Obj)) (s:AC) (σ:St) (H:Hp) (R:It->Hp->Prop),d9 X pins σ H s->wi σ H R->
  AH (model X.prog X.w) X.A (eval iter X.env) (fun v s1=>AH (model X.prog X.w) X.A (pyIter v) (PIE X pins σ tg R) X.xe s1) X.xe s
theorem a7D{M:Model}{A:AJ}{E:AA->AC->Prop}{s:AC}{tg:AE}{it:AB}{u:AA}{o:Obj}{n:String}{vs:Array AA}{Q:Unit->AC->Prop}(ho:s.heap.get? it=some o)(hc:o.cls= .type n)(hd:o.data= .fields vs)
 (hn:["enumerate","zip","dict_itemiterator","dict_reverseitemiterator","odict_iterator","itertools.zip_longest","itertools.pairwise"].contains n=false) (hQ:Q () s):AH M A (letOwnedTupleGo tg (.ref it) u) Q E s:=by
 unfold letOwnedTupleGo
 cases tg<;>first
  |exact AR hQ
  |(cases u<;>first
   |exact AR hQ
   |(refine AL (wpAny_load ho ?_)
     rw [hc,hd]
     show AH M A (if(["enumerate","zip","dict_itemiterator","dict_reverseitemiterator","odict_iterator","itertools.zip_longest","itertools.pairwise"].contains n && vs[0]?==some (rawInt _))=true then _ else _) Q E s
     rw [if_neg (by intro h;rw [hn,Bool.false_and] at h;cases h)]
     exact AR hQ))
def Itl(K:AD)(a:AB):It:=
 ⟨fun i H=>∃xs x,J2 K H a xs/\xs[i]?=some x,fun i H x H'=>H'=H/\∀xs,J2 K H a xs->xs[i]?=some x,fun i H=>∃xs,J2 K H a xs/\xs.length<=i⟩
def Itt(K:AD)(a:AB):It:=
 ⟨fun i H=>∃xs x,W4 K H a xs/\xs[i]?=some x,fun i H x H'=>H'=H/\∀xs,W4 K H a xs->xs[i]?=some x,fun i H=>∃xs,W4 K H a xs/\xs.length<=i⟩
def Itr(lo:Int)(n:Nat):It:=⟨fun i _=>i<n,fun i H x H'=>H'=H/\x= .int (lo+i),fun i _=>n<=i⟩
theorem a80{P:AI}{w:AG}{K:AD}{tg:AE}(a it:AB):a74 P w K tg (Itl K a) [it] it (fun i h=>h.IsListIter it a i) where
 mem:=by simp
 obj:=fun i h st b hb=>by
  have e:b=it:=by simpa using hb
  subst e
  obtain⟨o,e,c,d⟩:=st
  exact⟨o,e,fun v z=>by rw [d] at z;cases z⟩
 keep:=fun i h h' st k=>st.at fun o e=>k it (by simp) o e
 item:=by
  intro X hP hw hK hc i pins s σ H E I hf st hg
  subst hP hw hK
  obtain⟨xs,x,hq,hx⟩:=hg
  obtain⟨its,rv,p,hz⟩:=I.list hq
  obtain⟨u,hu,ru⟩:=rv.get hx
  obtain⟨f0,f1,f2,f3,f4,f5⟩:=hf it (by simp)
  refine wpAny_pyNext_list_item st p.isList (x:=u) (by simpa using hu) fun h' st' sb=> ?_
  have I1:d9 X pins σ H {s with heap:=h'}:=I.turned (t':=s.toks) (fun b o hb e=>(sb.2 b hb).trans e) f0 f1 f3 f4 f5
  obtain⟨o,e,c,d⟩:=id st'
  exact⟨u,rfl,a7D (s:={s with heap:=h'}) e c d (by decide) ⟨x,H,I1,ru,⟨rfl,fun ys hy=>by rw [I.list_inj hy hq];exact hx⟩,st',fun b hb=>(hf b hb).1⟩⟩
 done:=by
   intro X hP hw hK hc i pins s σ H E I hf st hg
   subst hP hw hK
   obtain⟨xs,hq,hx⟩:=hg
   obtain⟨its,rv,p,hz⟩:=I.list hq
   obtain⟨f0,f1,f2,f3,f4,f5⟩:=hf it (by simp)
   have hl:=rv.length
   exact wpAny_pyNext_list_end (I.ok.hd hc) st p.isList (by simp;lia) fun h' eb=>⟨rfl,I.turned (t':=s.toks) (fun b o hb e=>eb b o hb e) f0 f1 f3 f4 f5⟩
 self:=fun _ _ _ _ _ st h=>wpAny_pyIter_listiter st h
theorem a7a{P:AI}{w:AG}{K:AD}{tg:AE}(a it:AB):a74 P w K tg (Itt K a) [it] it (fun i h=>h.IsTupleIter it a i) where
 mem:=by simp
 obj:=fun i h st b hb=>by
  have e:b=it:=by simpa using hb
  subst e
  obtain⟨o,e,c,d⟩:=st
  exact⟨o,e,fun v z=>by rw [d] at z;cases z⟩
 keep:=fun i h h' st k=>st.at fun o e=>k it (by simp) o e
 item:=by
  intro X hP hw hK hc i pins s σ H E I hf st hg
  subst hP hw hK
  obtain⟨xs,x,hq,hx⟩:=hg
  obtain⟨its,rv,p,hz⟩:=I.tuple hq
  obtain⟨u,hu,ru⟩:=rv.get hx
  obtain⟨f0,f1,f2,f3,f4,f5⟩:=hf it (by simp)
  refine wpAny_pyNext_tuple_item st (show s.heap.IsTuple a its.toArray from p) (x:=u) (by simpa using hu) fun h' st' sb=> ?_
  have I1:d9 X pins σ H {s with heap:=h'}:=I.turned (t':=s.toks) (fun b o hb e=>(sb.2 b hb).trans e) f0 f1 f3 f4 f5
  obtain⟨o,e,c,d⟩:=id st'
  exact⟨u,rfl,a7D (s:={s with heap:=h'}) e c d (by decide) ⟨x,H,I1,ru,⟨rfl,fun ys hy=>by rw [I.tuple_inj hy hq];exact hx⟩,st',fun b hb=>(hf b hb).1⟩⟩
 done:=by
   intro X hP hw hK hc i pins s σ H E I hf st hg
   subst hP hw hK
   obtain⟨xs,hq,hx⟩:=hg
   obtain⟨its,rv,p,hz⟩:=I.tuple hq
   obtain⟨f0,f1,f2,f3,f4,f5⟩:=hf it (by simp)
   have hl:=rv.length
   exact wpAny_pyNext_tuple_end (I.ok.hd hc) st (show s.heap.IsTuple a its.toArray from p) (by simp;lia) fun h' eb=>⟨rfl,I.turned (t':=s.toks) (fun b o hb e=>eb b o hb e) f0 f1 f3 f4 f5⟩
 self:=fun _ _ _ _ _ st h=>wpAny_pyIter_tupleiter st h
theorem a69{P:AI}{w:AG}{K:AD}{tg:AE}(it:AB)(lo:Int)(n:Nat):a74 P w K tg (Itr lo n) [it] it (fun i h=>IsRangeIter h it (lo+(i:Nat)*1) ((n:Int) - (i:Nat)) 1) where
 mem:=by simp
 obj:=fun i h st b hb=>by
  have e:b=it:=by simpa using hb
  subst e
  exact⟨_,st,fun v z=>by
   have z':Data.fields _=Data.cell v:=z
   cases z'⟩
 keep:=fun i h h' st k=>k it (by simp) _ st
 item:=by
  intro X hP hw hK hc i pins s σ H E I hf st hg
  subst hP hw hK
  obtain⟨f0,f1,f2,f3,f4,f5⟩:=hf it (by simp)
  have W:=Walks.range (prog:=X.prog) (w:=X.w) (I.ok.hd hc) it lo 1 n
  refine W.item i s _ _ hg st fun v h' tk hv st' kk=> ?_
  obtain⟨t,rfl⟩:=hv
  have I1:d9 X pins σ H {s with heap:=h',toks:=tk}:=I.turned (fun b o hb e=>kk b o (by simpa using hb) e) f0 f1 f3 f4 f5
  refine⟨_,rfl,a7D (s:={s with heap:=h',toks:=tk}) (n:="range_iterator") st' rfl rfl (by decide) ⟨.int (lo+i),H,I1,⟨t, ?_⟩,⟨rfl,rfl⟩,st',fun b hb=>(hf b hb).1⟩⟩
  rw [Int.mul_one]
 done:=by
   intro X hP hw hK hc i pins s σ H E I hf st hg
   subst hP hw hK
   obtain⟨f0,f1,f2,f3,f4,f5⟩:=hf it (by simp)
   exact wpAny_pyNext_range_end (I.ok.hd hc) st (by have:n<=i:=hg;lia) fun h' eb=>⟨rfl,I.turned (t':=s.toks) (fun b o hb e=>eb b o hb e) f0 f1 f3 f4 f5⟩
 self:=fun _ _ _ _ _ st h=>wpAny_pyIter_rangeiter st h
section
variable {X:Cx}{tg:AE}
theorem a6k{pins:List (AB×Obj)}{σ:St}{H:Hp}{s:AC}{R:It->Hp->Prop}{E:AA->AC->Prop}{lo hi:Int}{t u v:Tok}{tk:Nat}(I:d9 X pins σ H s)(h1: -(2 ^ 62)<=lo)(h2:lo<2 ^ 62)(h3: -(2 ^ 62)<=hi)(h4:hi<2 ^ 62)
 (q:R (Itr lo (hi - lo).toNat) H):AH (model X.prog X.w) X.A (pyIter (.ref s.heap.objs.size)) (PIE X pins σ tg R) E {s with heap:=s.heap.push {cls:= .type "range",data:= .fields #[.int lo t,.int hi u,.int 1 v]},toks:=tk}:=by
 refine wpAny_pyIter_range (IsRange.new ..) (small_one h1 h2 h3 h4) ?_
 have I1:d9 X pins σ H {s with heap:=s.heap.push {cls:= .type "range",data:= .fields #[.int lo t,.int hi u,.int 1 v]},toks:=tk}:=I.kept fun b o e=>Ag _ e
 refine⟨(s.heap.push {cls:= .type "range",data:= .fields #[.int lo t,.int hi u,.int 1 v]}).objs.size,[(s.heap.push {cls:= .type "range",data:= .fields #[.int lo t,.int hi u,.int 1 v]}).objs.size],_,_,H,rfl,
  I1.kept (t':=tk) fun b o e=>Ag _ e,a69 _ lo (hi - lo).toNat, ?_,fun b hb=> ?_,q⟩
 ·have e1:lo+((0:Nat):Int)*1=lo:=by simp
  have e2:(((hi - lo).toNat:Nat):Int) - ((0:Nat):Int)=Builtin.Range.rangeSize lo hi 1:=by rw [rangeSize_one];split<;>lia
  show IsRangeIter _ _ (lo+((0:Nat):Int)*1) ((((hi - lo).toNat:Nat):Int) - ((0:Nat):Int)) 1
  rw [e1,e2]
  exact Ao _ rfl
 ·have e:b=(s.heap.push {cls:= .type "range",data:= .fields #[.int lo t,.int hi u,.int 1 v]}).objs.size:=by simpa using hb
  subst e
  exact I1.fpOk (AM _) (I1.hok.fresh (AM _))
def b4g(ta:TA):TI:=fun σ H R=>ta σ H fun vs H1=>∃j:Int,vs=[.int j]/\ -(2 ^ 62)<=j/\j<2 ^ 62/\R (Itr 0 j.toNat) H1
def b4h(ta:TA):TI:=fun σ H R=>ta σ H fun vs H1=>∃i j:Int,vs=[.int i,.int j]/\(-(2 ^ 62)<=i/\i<2 ^ 62/\ -(2 ^ 62)<=j/\j<2 ^ 62)/\R (Itr i (j - i).toNat) H1
theorem a4n{a:AE}{ta:TA}{p pos:Pos}(hg:Gl X "range")(hm:X.mg "range"=none)(ha:PA X [a] ta)(hs:AN [a] X.env=[(false,eval a X.env)]:=by rfl):PI X tg (.Call (.Name "range" p) [a] [] pos) (b4g ta):=by
 intro pins s σ H R I h
 refine Call_ (a3e I hg hm boot_range (PyProof.Rows.callWith_type1 (E5 (ha pos pins s σ H _ I h) fun us s1 ⟨vs,H1,I1,r1,q1⟩=> ?_) hs rfl))
 obtain⟨j,e,q1,q2,q⟩:=q1
 subst e
 cases r1 with
 |cons r rr=>
  cases rr
  obtain⟨t,rfl⟩:=r
  exact call_range_1 (a6k I1 (by lia) (by lia) q1 q2 (by simpa using q))
theorem a8O{a b:AE}{ta:TA}{p pos:Pos}(hg:Gl X "range")(hm:X.mg "range"=none)(ha:PA X [a,b] ta)(hs:AN [a,b] X.env=[(false,eval a X.env),(false,eval b X.env)]:=by rfl)(hs2:AN [b] X.env=[(false,eval b X.env)]:=by rfl):
 PI X tg (.Call (.Name "range" p) [a,b] [] pos) (b4h ta):=by
 intro pins s σ H R I h
 refine Call_ (a3e I hg hm boot_range (PyProof.Rows.callWith_type1 (E5 (ha pos pins s σ H _ I h) fun us s1 ⟨vs,H1,I1,r1,q1⟩=> ?_) (by rw [hs,hs2]) (by rw [hs2];rfl)))
 obtain⟨i,j,e,⟨q1,q2,q3,q4⟩,q⟩:=q1
 subst e
 cases r1 with
 |cons r rr=>
  cases rr with
  |cons r' rr=>
   cases rr
   obtain⟨t,rfl⟩:=r
   obtain⟨t',rfl⟩:=r'
   exact call_range_2 (a6k I1 q1 q2 q3 q4 q)
def b48(wi:TI)(g:TG)(tb:TS):TS:=fun D σ H=>wi σ H fun J H1=>∃W:Nat->Nat->St->Hp->Prop,(∃m,W 0 m σ H1)/\∀i m σ H,W i m σ H->
 (J.stop i H/\D.nx σ H)\/(J.go i H/\∃N:St->Hp->Prop,(∀σ' H',N σ' H'->∃m',m'<m/\W (i+1) m' σ' H')/\∀x H',J.yld i H x H'->g x σ H' fun σ2 H2=>tb {D with nx:=N,ct:=N,bk:=D.nx} σ2 H2)
def a3z(fp:List AB)(h:Heap):List (AB×Obj):=fp.filterMap fun b=>(h.get? b).map fun o=>(b,o)
theorem P3{fp:List AB}{h:Heap}{b:AB}{o:Obj}(hb:b∈fp)(e:h.get? b=some o):(b,o)∈a3z fp h:=List.mem_filterMap.mpr ⟨b,hb,by rw [e];rfl⟩
theorem a8I{fp:List AB}{h:Heap}{p:AB×Obj}(hp:p∈a3z fp h):p.1∈fp/\h.get? p.1=some p.2:=by
 obtain⟨b,hb,e⟩:=List.mem_filterMap.mp hp
 cases q:h.get? b with
 |none=>rw [q] at e;cases e
 |some o=>
  rw [q] at e
  have e':(b,o)=p:=Option.some.inj e
  subst e'
  exact⟨hb,q⟩
theorem d9.pinned{pins:List (AB×Obj)}{σ:St}{H:Hp}{s:AC}{fp:List AB}(I:d9 X pins σ H s)(hf:∀b∈fp,a3T X pins H b)(ho:∀b∈fp,∃o,s.heap.get? b=some o/\∀v,o.data≠.cell v):d9 X (pins++a3z fp s.heap) σ H s:=
 I.pins_of fun p hp=>(As.mp hp).elim (fun z=>I.pin p (Aq _ z)) fun z=>by
  obtain⟨hb,e⟩:=a8I z
  obtain⟨f0,f1,f2,_⟩:=hf p.1 hb
  obtain⟨o,e',d⟩:=ho p.1 hb
  rw [e] at e';cases e'
  exact⟨e,f0,f1,f2,d⟩
theorem d9.unpinned{pins pl:List (AB×Obj)}{σ:St}{H:Hp}{s:AC}(I:d9 X (pins++pl) σ H s):d9 X pins σ H s:=I.pins_of fun p hp=>I.pin p (Aq _ (BC _ hp))
theorem a5a{iter:AE}{body:List Stmt}{wi:TI}{g:TG}{tb:TS}{pos:Pos}(hp:PassesOwn (model X.prog X.w) X.A X.env X.xe)(hc:X.calm=true)(hi:PI X tg iter wi)(hg:PG X tg g)(hb:PSs X body tb)
 (hs:∀x,foldedSetIterable iter X.env x=pure x:=by intro _;rfl):PS X (.For tg iter body [] pos) (b48 wi g tb):=by
 intro pins s σ H D I h
 refine wpAny_For (E5 (hi pins s σ H _ I h) fun v s1 h1=>E5 h1 fun itv s2 h2=> ?_) hs
 obtain⟨it,fp,tn,J,H2,e,I2,T,st2,f2,W,⟨m0,w0⟩,turn⟩:=h2
 subst e
 have stat:∀{H':Hp},(∀b∈fp,H' b=none)->∀b∈fp,a3T X pins H' b:=fun hn b hb=>⟨hn b hb,(f2 b hb).2⟩
 refine codeAny_forLoop_any (fun n s'=>∃i σ' H',d9 X pins σ' H' s'/\tn i s'.heap/\(∀b∈fp,H' b=none)/\W i n σ' H') ?_ m0 ⟨0,σ,H2,I2,st2,fun b hb=>(f2 b hb).1,w0⟩
 rintro n s3 ⟨i,σ3,H3,I3,st3,fr3,w3⟩
 rcases turn i n σ3 H3 w3 with⟨stop,qn⟩|⟨go,N,hN,step⟩
 ·refine wpAny_passesOwn hp (E5 (T.done X rfl rfl rfl hc i pins s3 σ3 H3 X.xe I3 (stat fr3) st3 stop) fun r s4 ⟨hr,I4⟩=> ?_)
  subst hr
  exact wpAny_execs_nil ⟨σ3,H3,I4,qn⟩
 ·refine wpAny_passesOwn hp (E5 (T.item X rfl rfl rfl hc i pins s3 σ3 H3 X.xe I3 (stat fr3) st3 go) fun r s4 ⟨u,hr,h4⟩=> ?_)
  subst hr
  refine wpAny_passesOwn hp (E5 h4 fun _ s5 ⟨x,H5,I5,r5,y5,st5,fr5⟩=> ?_)
  have I5':=I5.pinned (stat fr5) (T.obj _ _ st5)
  refine wpAny_passesOwn hp (E5 (hg _ s5 σ3 H5 x u _ I5' r5 (step x H5 y5)) fun _ s6 ⟨σ6,H6,I6,q6⟩=> ?_)
  refine wpAny_passesOwn hp (E5 (hb _ s6 σ6 H6 _ I6 q6) fun f s7 q7=> ?_)
  have again:∀{σ7:St} {H7:Hp},d9 X (pins++a3z fp s5.heap) σ7 H7 s7->N σ7 H7->∃m,m<n/\∃i σ' H',d9 X pins σ' H' s7/\tn i s7.heap/\(∀b∈fp,H' b=none)/\W i m σ' H':=fun {σ7 H7} I7 n7=>by
   obtain⟨m',hm,w7⟩:=hN σ7 H7 n7
   refine⟨m',hm,i+1,σ7,H7,I7.unpinned,T.keep _ _ _ st5 fun b hb o e=>(I7.pin (b,o) (Aq _ (Aq _ (P3 hb e)))).1,fun b hb=> ?_,w7⟩
   obtain⟨o,e,d⟩:=T.obj _ _ st5 b hb
   exact(I7.pin (b,o) (Aq _ (Aq _ (P3 hb e)))).2.1
  cases f with
  |next=>obtain⟨σ7,H7,I7,n7⟩:=q7;exact again I7 n7
  |cont=>obtain⟨σ7,H7,I7,n7⟩:=q7;exact again I7 n7
  |brk=>obtain⟨σ7,H7,I7,q7⟩:=q7;exact⟨σ7,H7,I7.unpinned,q7⟩
  |ret v=>obtain⟨x7,σ7,H7,I7,r7,q7⟩:=q7;exact⟨x7,σ7,H7,I7.unpinned,r7,q7⟩
end
theorem a5N{K:AD}{a:AB}{xs:List V}{g:TG}{tb:TS}{D:Q6}{σ:St}{H:Hp}(Pv:Nat->St->Hp->Prop)(h0:Pv 0 σ H)(hl:∀i σ H,i<=xs.length->Pv i σ H->J2 K H a xs)
 (hs:∀i x σ H,xs[i]?=some x->Pv i σ H->g x σ H fun σ2 H2=>tb {D with nx:=Pv (i+1),ct:=Pv (i+1),bk:=D.nx} σ2 H2) (hd:∀σ H,Pv xs.length σ H->D.nx σ H):
 ∃W:Nat->Nat->St->Hp->Prop,(∃m,W 0 m σ H)/\∀i m σ H,W i m σ H->
  ((Itl K a).stop i H/\D.nx σ H)\/((Itl K a).go i H/\∃N:St->Hp->Prop,(∀σ' H',N σ' H'->∃m',m'<m/\W (i+1) m' σ' H')/\∀x H',(Itl K a).yld i H x H'->g x σ H' fun σ2 H2=>tb {D with nx:=N,ct:=N,bk:=D.nx} σ2 H2):=by
 refine⟨fun i m σ H=>m=xs.length - i/\i<=xs.length/\Pv i σ H,⟨xs.length,by simp,Nat.zero_le _,h0⟩, ?_⟩
 rintro i m σ H ⟨rfl,hi,p⟩
 have q:=hl i σ H hi p
 by_cases hlt:i<xs.length
 ·refine .inr ⟨⟨xs,xs[i],q,by simp [hlt]⟩,Pv (i+1),fun σ' H' p'=>⟨xs.length - (i+1),by lia,rfl,hlt,p'⟩,fun x H' y=> ?_⟩
  obtain⟨e,y⟩:=y
  subst e
  exact hs i x σ _ (y xs q) p
 ·have e:i=xs.length:=by lia
  subst e
  exact .inl ⟨⟨xs,q,AM _⟩,hd σ H p⟩
theorem b1e{K:AD}{a:AB}{xs:List V}{g:TG}{tb:TS}{D:Q6}{σ:St}{H:Hp}(Pv:Nat->St->Hp->Prop)(h0:Pv 0 σ H)(hl:∀i σ H,i<=xs.length->Pv i σ H->W4 K H a xs)
 (hs:∀i x σ H,xs[i]?=some x->Pv i σ H->g x σ H fun σ2 H2=>tb {D with nx:=Pv (i+1),ct:=Pv (i+1),bk:=D.nx} σ2 H2) (hd:∀σ H,Pv xs.length σ H->D.nx σ H):
 ∃W:Nat->Nat->St->Hp->Prop,(∃m,W 0 m σ H)/\∀i m σ H,W i m σ H->
  ((Itt K a).stop i H/\D.nx σ H)\/((Itt K a).go i H/\∃N:St->Hp->Prop,(∀σ' H',N σ' H'->∃m',m'<m/\W (i+1) m' σ' H')/\∀x H',(Itt K a).yld i H x H'->g x σ H' fun σ2 H2=>tb {D with nx:=N,ct:=N,bk:=D.nx} σ2 H2):=by
 refine⟨fun i m σ H=>m=xs.length - i/\i<=xs.length/\Pv i σ H,⟨xs.length,by simp,Nat.zero_le _,h0⟩, ?_⟩
 rintro i m σ H ⟨rfl,hi,p⟩
 have q:=hl i σ H hi p
 by_cases hlt:i<xs.length
 ·refine .inr ⟨⟨xs,xs[i],q,by simp [hlt]⟩,Pv (i+1),fun σ' H' p'=>⟨xs.length - (i+1),by lia,rfl,hlt,p'⟩,fun x H' y=> ?_⟩
  obtain⟨e,y⟩:=y
  subst e
  exact hs i x σ _ (y xs q) p
 ·have e:i=xs.length:=by lia
  subst e
  exact .inl ⟨⟨xs,q,AM _⟩,hd σ H p⟩
theorem a4b{lo:Int}{n:Nat}{g:TG}{tb:TS}{D:Q6}{σ:St}{H:Hp}(Pv:Nat->St->Hp->Prop)(h0:Pv 0 σ H)
 (hs:∀i σ H,i<n->Pv i σ H->g (.int (lo+i)) σ H fun σ2 H2=>tb {D with nx:=Pv (i+1),ct:=Pv (i+1),bk:=D.nx} σ2 H2) (hd:∀σ H,Pv n σ H->D.nx σ H):
 ∃W:Nat->Nat->St->Hp->Prop,(∃m,W 0 m σ H)/\∀i m σ H,W i m σ H->
  ((Itr lo n).stop i H/\D.nx σ H)\/((Itr lo n).go i H/\∃N:St->Hp->Prop,(∀σ' H',N σ' H'->∃m',m'<m/\W (i+1) m' σ' H')/\∀x H',(Itr lo n).yld i H x H'->g x σ H' fun σ2 H2=>tb {D with nx:=N,ct:=N,bk:=D.nx} σ2 H2):=by
 refine⟨fun i m σ H=>m=n - i/\i<=n/\Pv i σ H,⟨n,by simp,Nat.zero_le _,h0⟩, ?_⟩
 rintro i m σ H ⟨rfl,hi,p⟩
 by_cases hlt:i<n
 ·refine .inr ⟨hlt,Pv (i+1),fun σ' H' p'=>⟨n - (i+1),by lia,rfl,hlt,p'⟩,fun x H' y=> ?_⟩
  obtain⟨e,y⟩:=y
  subst e y
  exact hs i σ _ hlt p
 ·have e:i=n:=by lia
  subst e
  exact .inl ⟨AM _,hd σ H p⟩
abbrev R2:=V->V->Hp->VK->Prop
def OpR(X:Cx)(f:AA->AA->Sem AA)(r:R2):Prop:=
 ∀(pins:List (AB×Obj)) (s:AC) (σ:St) (H:Hp) (x y:V) (v u:AA) (Q:VK),d9 X pins σ H s->j6 x v->j6 y u->r x y H Q->
  AH (model X.prog X.w) X.A (f v u) (EP X pins σ Q) X.xe s
def C5(X:Cx)(f:AA)(r:List V->Hp->VK->Prop):Prop:=
 ∀(pins:List (AB×Obj)) (s:AC) (σ:St) (H:Hp) (xs:List V) (us:List AA) (Q:VK),d9 X pins σ H s->g6 xs us->r xs H Q->
  AH (model X.prog X.w) X.A (call f us) (EP X pins σ Q) X.xe s
def b4Q(X:Cx)(r:V->Hp->(Bool->Hp->Prop)->Prop):Prop:=
 ∀(pins:List (AB×Obj)) (s:AC) (σ:St) (H:Hp) (x:V) (v:AA) (Q:Bool->Hp->Prop),d9 X pins σ H s->j6 x v->r x H Q->
  AH (model X.prog X.w) X.A (truthy v) (TP X pins σ Q) X.xe s
def tOp(r:R2)(ta tb:TE):TE:=fun σ H Q=>ta σ H fun x H1=>tb σ H1 fun y H2=>r x y H2 Q
def rI(C:Int->Int->Prop)(g:Int->Int->V):R2:=fun x y H Q=>∃i j,x= .int i/\y= .int j/\C i j/\Q (g i j) H
def rI0(g:Int->Int->V):R2:=fun x y H Q=>∃i j,x= .int i/\y= .int j/\Q (g i j) H
section
variable {X:Cx}{a b c:AE}{ta tb tc:TE}{pos:Pos}
theorem b2H(ha:PE X a ta)(hb:PE X b tb){pins:List (AB×Obj)}{s:AC}{σ:St}{H:Hp}{R:V->V->Hp->Prop}(I:d9 X pins σ H s)
 (h:ta σ H fun x H1=>tb σ H1 fun y H2=>R x y H2) {Q:AA->AC->Prop} {f:AA->AA->Sem AA}
 (hf:∀v u s2 x y H2,d9 X pins σ H2 s2->j6 x v->j6 y u->R x y H2->AH (model X.prog X.w) X.A (f v u) Q X.xe s2):
 AH (model X.prog X.w) X.A (eval a X.env) (fun v s₁=>AH (model X.prog X.w) X.A (eval b X.env) (fun u s₂=>AH (model X.prog X.w) X.A (f v u) Q X.xe s₂) X.xe s₁) X.xe s:=by
 refine E5 (ha pins s σ H _ I h) fun v s1 ⟨x,H1,I1,r1,q1⟩=> ?_
 refine E5 (hb pins s1 σ H1 _ I1 q1) fun u s2 ⟨y,H2,I2,r2,q2⟩=> ?_
 exact hf v u s2 x y H2 I2 r1 r2 q2
theorem b4r{op:Operator}{r:R2}(ho:OpR X (binaryOp op) r)(ha:PE X a ta)(hb:PE X b tb):PE X (.BinOp a op b pos) (tOp r ta tb):=by
 intro pins s σ H Q I h
 exact wpAny_BinOp (b2H ha hb I h fun v u s2 x y H2 I2 rx ry q=>ho pins s2 σ H2 x y v u Q I2 rx ry q)
theorem opI{f:AA->AA->Sem AA}{C:Int->Int->Prop}{g:Int->Int->Int}
 (rule:∀(i j:Int) (t u:Tok) (s:AC) (Q:AA->AC->Prop) (E:AA->AC->Prop),C i j->Q (.int (g i j) s.toks) {s with toks:=s.toks+1}->AH (model X.prog X.w) X.A (f (.int i t) (.int j u)) Q E s):
 OpR X f (rI C fun i j=> .int (g i j)):=by
 intro pins s σ H x y v u Q I rx ry h
 obtain⟨i,j,rfl,rfl,hc,q⟩:=h
 obtain⟨t,rfl⟩:=rx
 obtain⟨t',rfl⟩:=ry
 exact rule i j t t' s _ _ hc ⟨.int (g i j),H,I.tok _,⟨_,rfl⟩,q⟩
theorem b3j{f:AA->AA->Sem AA}{g:Int->Int->Int}
 (rule:∀(i j:Int) (t u:Tok) (s:AC) (Q:AA->AC->Prop) (E:AA->AC->Prop),Q (.int (g i j) s.toks) {s with toks:=s.toks+1}->AH (model X.prog X.w) X.A (f (.int i t) (.int j u)) Q E s):
 OpR X f (rI0 fun i j=> .int (g i j)):=by
 intro pins s σ H x y v u Q I rx ry h
 obtain⟨i,j,rfl,rfl,q⟩:=h
 obtain⟨t,rfl⟩:=rx
 obtain⟨t',rfl⟩:=ry
 exact rule i j t t' s _ _ ⟨.int (g i j),H,I.tok _,⟨_,rfl⟩,q⟩
theorem b1v{f:AA->AA->Sem AA}{g:Int->Int->Bool}
 (rule:∀(i j:Int) (t u:Tok) (s:AC) (Q:AA->AC->Prop) (E:AA->AC->Prop),Q (.bool (g i j)) s->AH (model X.prog X.w) X.A (f (.int i t) (.int j u)) Q E s):
 OpR X f (rI0 fun i j=> .bl (g i j)):=by
 intro pins s σ H x y v u Q I rx ry h
 obtain⟨i,j,rfl,rfl,q⟩:=h
 obtain⟨t,rfl⟩:=rx
 obtain⟨t',rfl⟩:=ry
 exact rule i j t t' s _ _ ⟨.bl (g i j),H,I,rfl,q⟩
def X0(i j:Int):Prop:=0<j/\j<1073741824
def b3X(i j:Int):Prop:=0<=j/\j<=1000000/\i.natAbs<2 ^ 64
def a4A(i j:Int):Prop:=(-(2 ^ 64)<i/\i<2 ^ 64)\/(-(2 ^ 64)<j/\j<2 ^ 64)
theorem a4A.ok{i j:Int}(h:a4A i j):IntMulOk i j:=by
 rcases h with⟨h1,h2⟩|⟨h1,h2⟩
 ·exact .of_left (intBits_le_64 h1 h2)
 ·exact .of_right (intBits_le_64 h1 h2)
theorem b3k:OpR X (binaryOp .Add) (rI0 fun i j=> .int (i+j)):=b3j fun _ _ _ _ _ _ _ q=>add_int q
theorem b3p:OpR X (binaryOp .Sub) (rI0 fun i j=> .int (i - j)):=b3j fun _ _ _ _ _ _ _ q=>sub_int q
theorem b3n:OpR X (binaryOp .Mult) (rI a4A fun i j=> .int (i*j)):=opI fun _ _ _ _ _ _ _ hc q=>mul_int q hc.ok
theorem b1x:OpR X (binaryOp .FloorDiv) (rI X0 fun i j=> .int (i / j)):=opI fun i j _ _ _ _ _ hc q=>by
 have h1:(0:Int)<j:=hc.1
 have h2:j<1073741824:=hc.2
 exact floordiv_int (by lia) (by rw [Int.fdiv_eq_ediv_of_nonneg i (by lia)];exact q) (.inl (PyProof.noPylong_small (by lia)))
theorem b3m:OpR X (binaryOp .Mod) (rI (fun _ j=>0<j) fun i j=> .int (i % j)):=opI fun i j _ _ _ _ _ hc q=>by
 have h1:(0:Int)<j:=hc
 exact mod_int' (by lia) (by rw [Int.fmod_eq_emod_of_nonneg i (by lia)];exact q)
theorem b1k:OpR X (inplaceOp .Add) (rI0 fun i j=> .int (i+j)):=b3j fun _ _ _ _ _ _ _ q=>iadd_int q
end
section
variable {X:Cx}{a b c:AE}{ta tb tc:TE}{pos:Pos}
theorem b2S{pins:List (AB×Obj)}{σ:St}{H:Hp}{s:AC}{Q:VK}{k k':Bool}(I:d9 X pins σ H s)(q:Q (.bl k) H)(e:k=k'):EP X pins σ Q (.bool k') s:=by
 subst e
 exact⟨.bl k,H,I,rfl,q⟩
theorem b4o:OpR X (compareOp .Lt) (rI0 fun i j=> .bl (decide (i<j))):=b1v fun _ _ _ _ _ _ _ q=>lt_int q
theorem b4n:OpR X (compareOp .LtE) (rI0 fun i j=> .bl (decide (i<=j))):=b1v fun _ _ _ _ _ _ _ q=>le_int q
theorem b4m:OpR X (compareOp .Gt) (rI0 fun i j=> .bl (decide (j<i))):=b1v fun _ _ _ _ _ _ _ q=>gt_int q
theorem b4l:OpR X (compareOp .GtE) (rI0 fun i j=> .bl (decide (j<=i))):=b1v fun _ _ _ _ _ _ _ q=>ge_int q
theorem a8L:OpR X (compareOp .Lt) (fun x y H Q=>∃i j,x= .str i/\y= .str j/\Q (.bl (decide (i.cps.toList<j.cps.toList))) H):=by
 intro pins s σ H x y v u Q I rx ry h
 obtain⟨i,j,rfl,rfl,q⟩:=h
 obtain⟨t,rfl⟩:=rx
 obtain⟨t',rfl⟩:=ry
 exact lt_str (b2S I q rfl)
theorem OpR.or{f:AA->AA->Sem AA}{r r':R2}(h:OpR X f r)(h':OpR X f r'):OpR X f (fun x y H Q=>r x y H Q\/r' x y H Q):=by
 intro pins s σ H x y v u Q I rx ry q
 rcases q with q|q
 ·exact h pins s σ H x y v u Q I rx ry q
 ·exact h' pins s σ H x y v u Q I rx ry q
theorem j7(b:AE){op:CmpOp}(h:op≠.In:=by decide)(h2:op≠.NotIn:=by decide):behindInMarks op b=false:=by
 have e1:(op==CmpOp.In)=false:=by cases op<;>first|rfl|exact absurd rfl h
 have e2:(op==CmpOp.NotIn)=false:=by cases op<;>first|rfl|exact absurd rfl h2
 cases b<;>simp [behindInMarks,e1,e2]
theorem b1D{op:CmpOp}{r:R2}(ho:OpR X (compareOp op) r)(ha:PE X a ta)(hb:PE X b tb)(hm:behindInMarks op b=false):PE X (.Compare a [op] [b] pos) (tOp r ta tb):=by
 intro pins s σ H Q I h
 exact wpAny_Compare1 (b2H ha hb I h fun v u s2 x y H2 I2 rx ry q=>ho pins s2 σ H2 x y v u Q I2 rx ry q) hm
def b4I(t:TE):TT:=fun σ H Q=>t σ H fun x H'=>∃k,x= .bl k/\Q k H'
theorem b1K{op:CmpOp}{r:R2}(ho:OpR X (compareOp op) r)(ha:PE X a ta)(hb:PE X b tb)(hm:behindInMarks op b=false):PT X (.Compare a [op] [b] pos) (b4I (tOp r ta tb)):=by
 intro pins s σ H Q I h
 refine wpAny_isTrue_Compare1 (E5 (ha pins s σ H _ I h) fun v s1 ⟨x,H1,I1,r1,q1⟩=>E5 (hb pins s1 σ H1 _ I1 q1) fun u s2 ⟨y,H2,I2,r2,q2⟩=>
  E5 (ho pins s2 σ H2 x y v u _ I2 r1 r2 q2) fun c s3 ⟨z,H3,I3,r3,k,e,q3⟩=> ?_) hm
 subst e
 cases r3
 exact wpAny_truthy_bool ⟨H3,I3,q3⟩
def b2y(K:AD)(x:V)(H:Hp)(k:Bool):Prop:=
 match x with
 | .non=>k=false
 | .bl b=>k=b
 | .int i=>k=(i !=0)
 | .str y=>y.length<=AK/\k=((y.length:Int) !=0)
 | .byt y=>y.size<=AK/\k=((y.size:Int) !=0)
 | .ref p=>(∃xs,J2 K H p xs/\k= !xs.isEmpty)\/(∃xs,W4 K H p xs/\k= !xs.isEmpty)\/∃kvs,H p=some (.dK kvs)/\k= !kvs.isEmpty
 |_=>False
theorem a6Q{κ:Type}{kvs:List (κ×V)}{vs:List (κ×AA)}(r:KV kvs vs):(!vs.isEmpty)= !kvs.isEmpty:=by
 cases r<;>rfl
theorem a3b{xs:List V}{its:List AA}(r:g6 xs its):(!its.toArray.isEmpty)= !xs.isEmpty:=by
 cases r<;>simp
theorem a1O:(AK:Nat)<2 ^ 63:=by rw [sizeLine_eq];decide
theorem b3T:b4Q X (fun x H Q=>∃k,b2y X.K x H k/\Q k H):=by
 intro pins s σ H x v Q I rx h
 obtain⟨k,e,q⟩:=h
 have hl:=a1O
 have hs:AK=16777216:=sizeLine_eq
 cases x with
 |non=>
  cases rx
  have e':k=false:=e
  subst e'
  exact truthy_none ⟨H,I,q⟩
 |bl b=>
  cases rx
  have e':k=b:=e
  subst e'
  exact wpAny_truthy_bool ⟨H,I,q⟩
 |int i=>
  obtain⟨t,rfl⟩:=rx
  have e':k=(i !=0):=e
  subst e'
  exact PySem.P.truthy_int ⟨H,I,q⟩
 |str y=>
  obtain⟨t,rfl⟩:=rx
  obtain⟨hy,e'⟩:y.length<=AK/\k=((y.length:Int) !=0):=e
  subst e'
  exact PySem.P.truthy_str (by lia) ⟨H,I.tok _,q⟩
 |byt y=>
  obtain⟨t,rfl⟩:=rx
  obtain⟨hy,e'⟩:y.size<=AK/\k=((y.size:Int) !=0):=e
  subst e'
  exact PySem.W.truthy_bytes (by lia) ⟨H,I.tok _,q⟩
 |ref p=>
  cases rx
  have e':(∃xs,J2 X.K H p xs/\k= !xs.isEmpty)\/(∃xs,W4 X.K H p xs/\k= !xs.isEmpty)\/∃kvs,H p=some (.dK kvs)/\k= !kvs.isEmpty:=e
  rcases e' with⟨xs,hx,e'⟩|⟨xs,hx,e'⟩|⟨kvs,hx,e'⟩
  ·subst e'
   obtain⟨its,r,pl,hz⟩:=I.list hx
   have hlen:=r.length
   exact wpAny_truthy_list pl.isList (by simp only [Af];lia) ⟨H,I.tok _,by rw [a3b r];exact q⟩
  ·subst e'
   obtain⟨its,r,pl,hz⟩:=I.tuple hx
   have hlen:=r.length
   exact truthy_tuple pl (by simp only [Af];lia) ⟨H,I.tok _,by rw [a3b r];exact q⟩
  ·subst e'
   obtain⟨hz,hS,vs,r,m⟩:kvs.length<=AK/\(p==sysModules)=false/\∃vs,KV kvs vs/\s.heap.DictOf (z5 X.prog X.w) p vs:=I.hok p _ hx
   have hlen:kvs.length=vs.length:=Paired.length r
   exact wpAny_truthy_dict hS m (by lia) ⟨H,I.tok _,by rw [a6Q r];exact q⟩
 |_=>exact(show False from e).elim
theorem b0r(ha:PE X a ta)(he:∀whole,isTrue a X.env whole=(do let v<-whole;standAt a.pos;holding [v] (truthy v))):
 PT X a (fun σ H Q=>ta σ H fun x H'=>∃k,b2y X.K x H' k/\Q k H'):=by
 intro pins s σ H Q I h
 exact isTrue_plain (E5 (ha pins s σ H _ I h) fun v s1 ⟨x,H1,I1,r1,q1⟩=>b3T pins s1 σ H1 x v Q I1 r1 q1) (he _)
theorem a60:OpR X (binaryOp .Add) (fun x y H Q=>∃i j,x= .str i/\y= .str j/\i.length+j.length<=AK/\Q (.str (i++j)) H):=by
 intro pins s σ H x y v u Q I rx ry h
 obtain⟨i,j,rfl,rfl,hz,q⟩:=h
 obtain⟨t,rfl⟩:=rx
 obtain⟨t',rfl⟩:=ry
 exact add_str (fun t' tk=>⟨.str (i++j),H,I.tok _,⟨_,rfl⟩,q⟩) hz
theorem a3R{x:V}{us:List AA}(r:g6 [x] us):∃u,us=[u]/\j6 x u:=by
 cases r with
 |cons r1 r2=>cases r2;exact⟨_,rfl,r1⟩
theorem b4N{x y:V}{us:List AA}(r:g6 [x,y] us):∃u w',us=[u,w']/\j6 x u/\j6 y w':=by
 cases r with
 |cons r1 r2=>
  cases r2 with
  |cons r3 r4=>cases r4;exact⟨_,_,rfl,r1,r3⟩
theorem a76(hc:X.calm=true):C5 X (.builtin "min") (fun xs H Q=>∃i j,xs=[.int i,.int j]/\Q (.int (if j<i then j else i)) H):=by
 intro pins s σ H xs us Q I r h
 obtain⟨i,j,rfl,q⟩:=h
 obtain⟨u,w',rfl,⟨t,rfl⟩,⟨t',rfl⟩⟩:=b4N r
 refine min_two_ints (I.ok.hd hc) fun h' tk k=>⟨_,H,I.kept k, ?_,q⟩
 by_cases hj:j<i
 ·rw [if_pos hj,if_pos hj];exact⟨_,rfl⟩
 ·rw [if_neg hj,if_neg hj];exact⟨_,rfl⟩
end
structure b3Y(h:Heap)(x dx C:AB)(mA:Str->Option AA):Prop where
 obj:h.get? x=some (PySem.W.instObj C dx)
 ns:h.Ns1 dx mA
 ne:dx≠x
theorem a8x{h:Heap}{dx:AB}{mA:Str->Option AA}(n:h.Ns1 dx mA):∃od,h.get? dx=some od/\∀name,PySem.W.lookIn name od=some (mA name):=by
 obtain⟨o,es,ep,ho,hd,hk,_,hm⟩:=n
 refine⟨o,ho,fun name=> ?_⟩
 have e:=hm name
 unfold nsFind findBy at e
 rw [<-Array.find?_toList] at e
 unfold PySem.W.lookIn
 rw [hd]
 dsimp only
 split
 ·rename_i y q
  rw [q] at e
  exact congrArg some e
 ·rename_i q
  rw [q] at e
  have a:es.toList.any (·.refKey)=false:=by
   rw [List.any_eq_false]
   intro y hy
   obtain⟨z,t,hkey⟩:=hk y (Array.mem_toList_iff.mp hy)
   simp [DictEntry.refKey,hkey]
  have a':¬es.toList.any (·.refKey)=true:=by rw [a];exact Az
  rw [if_neg a']
  exact congrArg some e
theorem b3Y.look{h:Heap}{x dx C:AB}{mA:Str->Option AA}(I:b3Y h x dx C mA):∃od,PySem.W.InstAt h x (PySem.W.instObj C dx) C (some od)/\∀name,PySem.W.lookIn name od=some (mA name):=
 let ⟨od,ho,hl⟩:=a8x I.ns
 ⟨od,⟨I.obj,rfl,rfl,ho⟩,hl⟩
section
variable {prog:AI}{w:AG}{A:AJ}{E:AA->AC->Prop}{s:AC}{K:AD}{x dx C f:AB}{mA:Str->Option AA}{name:Str}{v:AA}
end
theorem a0Y.some_of{v:V}{o:Option AA}(r:a0Y (some v) o):∃u,o=some u/\j6 v u:=by
 cases o with
 |none=>exact(show False from r).elim
 |some u=>exact⟨u,rfl,r⟩
theorem a0Y.none_of{o:Option AA}(r:a0Y none o):o=none:=by
 cases o with
 |none=>rfl
 |some u=>exact(show False from r).elim
section
variable {P:AI}{w:AG}{H H':Hp}{h h':Heap}{a C dx:AB}{fs fs':List (Str×V)}
end
structure Cls(K:AD)(C:AB):Prop where
 pg:PySem.W.plainGet K C Str.empty=true
 hd:PySem.W.hasDictIn K C=true
 po:PySem.W.plainOver K C=true
 sa:PySem.W.findIn K (.ref C) "__setattr__"=some (some (.builtin "object.__setattr__"))
theorem Cls.get{K:AD}{C:AB}(c:Cls K C)(f:Str):PySem.W.plainGet K C f=true:=c.pg
section
variable {X:Cx}{pins:List (AB×Obj)}{σ:St}{H:Hp}{s:AC}{a C dx:AB}{fs:List (Str×V)}{f:Str}{v:V}{A:AJ}{E:AA->AC->Prop}
end
section
variable {X:Cx}{o e value:AE}{f:Str}{pos pos' tpos:Pos}{ta tv:TE}
end
section
variable {X:Cx}{pins:List (AB×Obj)}{σ:St}{H:Hp}{s:AC}{A:AJ}{E:AA->AC->Prop}{Q:AA->AC->Prop}{c:AA}{b:Bool}
inductive a2U (K:AD) (H:Hp):V->AA->Prop where
 |non:a2U K H .non (.type "NoneType")
 |bl (x:Bool):a2U K H (.bl x) (.type "bool")
 |int (i:Int):a2U K H (.int i) (.type "int")
 |str (x:Str):a2U K H (.str x) (.type "str")
 |flt (x:UInt64):a2U K H (.flt x) (.type "float")
 |lst {a:AB} {xs:List V} (e:H a=some (.lst xs)):a2U K H (.ref a) (.type "list")
 |frz {a:AB} {o:Obj} {xs:List V} (e:H a=some (.frz o (.lst xs))):a2U K H (.ref a) (.type "list")
 |tup {a:AB} {xs:List V} (e:H a=some (.tup xs)):a2U K H (.ref a) (.type "tuple")
 |dK {a:AB} {kvs:List (d5×V)} (e:H a=some (.dK kvs)):a2U K H (.ref a) (.type "dict")
 |dT {a:AB} {kvs:List (List d5×V)} (e:H a=some (.dT kvs)):a2U K H (.ref a) (.type "dict")
 |ins {a C dx:AB} {fs:List (Str×V)} (e:H a=some (.ins C dx fs)) (cl:Cls K C) (ha:PySem.W.findIn K (.ref C) "__class__"=some (some (.builtin "object.__class__")))
  (hn:PySem.W.specialIn K (.builtin "object.__class__") "__get__"=some (some (.builtin "getset_descriptor.__get__"))) (htk:PySem.W.takesIn K (.builtin "object.__class__")=some true)
  (hm:PySem.W.mroIn K C (.type "object")=some true):a2U K H (.ref a) (.ref C)
end
structure E7(k:Nat)(A:AJ):Prop where
 hd:A.handled=none
 dp:A.depth+3*k+5<recursionLimit
 un:A.units+16*k+200<cLine
theorem E7.mono{j k:Nat}{A:AJ}(r:E7 k A)(h:j<=k):E7 j A:=⟨r.hd,by have:=r.dp;lia,by have:=r.un;lia⟩
theorem E7.deeper{k:Nat}{A:AJ}(r:E7 (k+1) A)(env:Env):E7 k (A.deeper env):=
 ⟨r.hd,by have:=r.dp;show A.depth+1+3*k+5<_;lia,by have:=r.un;show A.units+3+16*k+200<_;lia⟩
theorem E7.in1{k:Nat}{A:AJ}(r:E7 (k+1) A):E7 k A.in1:=
 ⟨r.hd,by have:=r.dp;show A.depth+3*k+5<_;lia,by have:=r.un;show A.units+1+16*k+200<_;lia⟩
theorem E7.depth{k:Nat}{A:AJ}(r:E7 k A):A.depth<recursionLimit:=by have:=r.dp;lia
theorem E7.units{k:Nat}{A:AJ}(r:E7 k A):A.units+64<cLine:=by have:=r.un;lia
def b3R:TA:=fun _ H Q=>Q [] H
def a7X(ta:TE)(tr:TA):TA:=fun σ H Q=>ta σ H fun x H1=>tr σ H1 fun xs H2=>Q (x::xs) H2
section
variable {X:Cx}{e:AE}{es:List AE}{te:TE}{t:TA}{pos:Pos}
theorem R4:PA X [] b3R:=fun _ _ _ _ H Q I h=>Calls.spliced_nil ⟨[],H,I,.nil,h⟩
theorem C2(ha:PE X e te)(hr:PA X es t)(hs:AN (e::es) X.env=(false,eval e X.env)::AN es X.env:=by rfl):PA X (e::es) (a7X te t):=by
 intro pos pins s σ H Q I h
 rw [hs]
 show AH _ _ (spliced ((false,eval e X.env)::backTo pos (AN es X.env))) _ _ s
 refine Calls.spliced_cons (E5 (ha pins s σ H _ I h) fun u s1 ⟨x,H1,I1,r1,q1⟩=> ?_)
 exact E5 (hr pos pins s1 σ H1 _ I1 q1) fun us s2 ⟨xs,H2,I2,r2,q2⟩=>⟨x::xs,H2,I2,.cons r1 r2,q2⟩
def b5e(t:TA):TE:=fun σ H Q=>t σ H fun xs H1=>xs.length<=AK/\∀p,H1 p=none->Q (.ref p) (upd H1 p (.tup xs))
def b5a(t:TA):TE:=fun σ H Q=>t σ H fun xs H1=>xs.length<=AK/\∀p,H1 p=none->Q (.ref p) (upd H1 p (.lst xs))
theorem a62{x1}(h:PA X es t):PE X (.Tuple es x1 pos) (b5e t):=by
 intro pins s σ H Q I hq
 refine wpAny_Tuple_spliced (E5 (h pos pins s σ H _ I hq) fun us s1 ⟨xs,H1,I1,r,z,q⟩=>⟨by rw [<-r.length];exact z, ?_⟩)
 have hf:H1 s1.heap.objs.size=none:=I1.hok.fresh (AM _)
 refine⟨.ref s1.heap.objs.size,upd H1 s1.heap.objs.size (.tup xs),I1.laid (t':=s1.toks) (fun b u e=>Ag _ e) (AM _) ?_,rfl,q _ hf⟩
 exact⟨z,us,r,⟨_,Ao _ rfl,rfl,_,rfl⟩⟩
theorem b3u(h:PA X es t):PE X (.List es pos) (b5a t):=by
 intro pins s σ H Q I hq
 refine wpAny_List_spliced (E5 (h pos pins s σ H _ I hq) fun us s1 ⟨xs,H1,I1,r,z,q⟩=>⟨by rw [<-r.length];exact z, ?_⟩)
 have hf:H1 s1.heap.objs.size=none:=I1.hok.fresh (AM _)
 refine⟨.ref s1.heap.objs.size,upd H1 s1.heap.objs.size (.lst xs),I1.laid (t':=s1.toks) (fun b u e=>Ag _ e) (AM _) ?_,rfl,q _ hf⟩
 exact⟨z,us,0,r,Ao _ rfl⟩
end
abbrev Sp:=List V->Hp->VK->XK->Prop
abbrev CXT:=List Env->Hp->AC->XK->AA->AC->Prop
structure a6v(P:AI)(w:AG)(K:AD)(mg:Str->Option AA)(base:Heap)(A:AJ)(outer:List Env)(s:AC)(H:Hp):Prop where
 frames:A.frames=some outer
 mod:Mod K mg base
 bs:∀b o,base.get? b=some o->s.heap.get? b=some o/\H b=none
 bsz:base.objs.size<=s.heap.objs.size
 funs:s.heap.FunFrames base outer
 frf:∀b∈frs outer,H b=none
 hok:HOk P w H s.heap
 bare:AllBare s.gens
def CE(outer:List Env)(P:AI)(w:AG)(H:Hp)(s:AC)(Q:VK)(u:AA)(s':AC):Prop:=
 ∃v H',s'.os=s.os/\AllBare s'.gens/\Un (frs outer) [] H H' s.heap s'.heap/\HOk P w H' s'.heap/\j6 v u/\Q v H'
def CR(CX:CXT)(outer:List Env)(P:AI)(w:AG)(H:Hp)(s:AC)(Q:VK)(E:XK)(r:Result)(s':AC):Prop:=
 match r with
 | .ok (.ret u)=>CE outer P w H s Q u s'
 | .ok _=>False
 | .error e=>CX outer H s E e s'
structure N6(P:AI)(w:AG)(K:AD)(mg:Str->Option AA)(base:Heap)(CX:CXT)(k:Nat)(f:AB)(fd:FuncData)(ps:List Str)(sp:Sp):Prop where
 len:∀vs H Q E,sp vs H Q E->vs.length=ps.length
 run:∀(A:AJ) (outer:List Env) (s:AC) (H:Hp) (args:Args) (us:List AA) (vs:List V) (Q:VK) (E:XK),E7 k A->a6v P w K mg base A outer s H->BindsTo s fd args (ps.zip us)->g6 vs us->sp vs H Q E->
  codeAny (model P w) A (.call (.ref f) args) (CR CX outer P w H s Q E) s
theorem N6.mono{P:AI}{w:AG}{K:AD}{mg:Str->Option AA}{base:Heap}{CX:CXT}{j k:Nat}{f:AB}{fd:FuncData}{ps:List Str}{sp:Sp}(F:N6 P w K mg base CX j f fd ps sp)(h:j<=k):
 N6 P w K mg base CX k f fd ps sp:=⟨F.len,fun A outer s H args us vs Q E hr=>F.run A outer s H args us vs Q E (hr.mono h)⟩
theorem N6.imp{P:AI}{w:AG}{K:AD}{mg:Str->Option AA}{base:Heap}{CX:CXT}{k:Nat}{f:AB}{fd:FuncData}{ps:List Str}{sp sp':Sp}(F:N6 P w K mg base CX k f fd ps sp)
 (h:∀vs H Q E,sp' vs H Q E->sp vs H Q E):N6 P w K mg base CX k f fd ps sp':=
 ⟨fun vs H Q E q=>F.len vs H Q E (h _ _ _ _ q),fun A outer s H args us vs Q E hr he hb hv hs=>F.run A outer s H args us vs Q E hr he hb hv (h _ _ _ _ hs)⟩
theorem a6v.in1{P:AI}{w:AG}{K:AD}{mg:Str->Option AA}{base:Heap}{A:AJ}{outer:List Env}{s:AC}{H:Hp}(e:a6v P w K mg base A outer s H):
 a6v P w K mg base A.in1 outer s H:=⟨e.frames,e.mod,e.bs,e.bsz,e.funs,e.frf,e.hok,e.bare⟩
section
variable {X:Cx}{pins:List (AB×Obj)}{σ:St}{H:Hp}{s s':AC}
theorem d9.env0(I:d9 X pins σ H s):a6v X.prog X.w X.K X.mg X.base X.A X.stack s H:=
 ⟨I.ok.frames,I.ok.mod,I.bs,Nat.le_trans I.ok.bsz I.sz,I.stack,I.stkFree,I.hok,I.bare⟩
theorem d9.after{Q:VK}{u:AA}(I:d9 X pins σ H s)(h:CE X.stack X.prog X.w H s Q u s'):EP X pins σ Q u s':=by
 obtain⟨v,H',os,bare,un,hok,r,q⟩:=h
 obtain⟨hh,g,d,t,os'⟩:=s'
 obtain rfl:os'=s.os:=os
 exact⟨v,H',I.call (h':=hh) (g':=g) (d':=d) (t':=t) (ch:=[]) un hok bare (fun b z=>absurd z (by simp)),r,q⟩
end
def b4A(sp:Sp)(dvs:List V)(E:XK)(t:TA):TE:=fun σ H Q=>t σ H fun vs H1=>sp (vs++dvs) H1 Q E
def a0x(K:AD)(fd:FuncData)(ps:List Str)(ds:List AA):Prop:=
 ∀(s:AC) (us:List AA),K.In s.heap->(us++ds).length=ps.length->BindsTo s fd ⟨us,[]⟩ (ps.zip (us++ds))
theorem a0x.all{K:AD}{fd:FuncData}{ps:List Str}(h:∀us:List AA,us.length=ps.length->bindArgs fd ⟨us,[]⟩=pure (ps.zip us)):a0x K fd ps []:=fun s us _ hl=>by
 rw [Ab] at hl ⊢
 exact .of_eq (h us hl)
def a6x(CX:CXT)(X:Cx)(E:XK):Prop:=∀(pins:List (AB×Obj)) (σ:St) (H:Hp) (s:AC) (e:AA) (s':AC),d9 X pins σ H s->CX X.stack H s E e s'->X.xe e s'
section
variable {X:Cx}{CX:CXT}{k:Nat}{f C:AB}{fd:FuncData}{ps:List Str}{sp:Sp}{dvs:List V}{ds:List AA}{E:XK}{x m:Str}{p pos apos:Pos}{e o:AE}{es:List AE}{ta:TE}{t:TA}
theorem b0w{pins:List (AB×Obj)}{σ:St}{H:Hp}{s:AC}{Q:VK}{us:List AA}{vs:List V}(F:N6 X.prog X.w X.K X.mg X.base CX k f fd ps sp)(hr:E7 k X.A)(hb:a0x X.K fd ps ds)(hd:g6 dvs ds)(hx:a6x CX X E)
 (I:d9 X pins σ H s) (r:g6 vs us) (h:sp (vs++dvs) H Q E):AH (model X.prog X.w) X.A (call (.ref f) us) (EP X pins σ Q) X.xe s:=by
 have r2:g6 (vs++dvs) (us++ds):=r.append hd
 have hl:(us++ds).length=ps.length:=by rw [<-r2.length];exact F.len _ _ _ _ h
 refine wpAny_call (codeAny_mono (F.run X.A X.stack s H ⟨us,[]⟩ (us++ds) (vs++dvs) Q E hr I.env0 (hb s us I.kIn hl) r2 h) fun r s' hq=> ?_)
 cases r with
 |error e=>exact hx pins σ H s e s' I hq
 |ok fl=>
  cases fl with
  |ret u=>exact I.after hq
  |next=>exact False.elim hq
  |brk=>exact False.elim hq
  |cont=>exact False.elim hq
theorem a2H(F:N6 X.prog X.w X.K X.mg X.base CX k f fd ps sp)(hr:E7 k X.A)(hg:Gl X x)(hm:X.mg x=some (.ref f))(hk:PySem.W.keepIn X.K (.ref f)=true)(hb:a0x X.K fd ps ds)(hd:g6 dvs ds)(hx:a6x CX X E)
 (ha:PA X (e::es) t) (hdb:(x==("__debug__":Str))=false:=by decide) (he:AN (e::es) X.env=(false,eval e X.env)::AN es X.env:=by rfl) (hpl:(backTo pos (AN es X.env)).any (·.1)=false:=by rfl):
 PE X (.Call (.Name x p) (e::es) [] pos) (b4A sp dvs E t):=by
 intro pins s σ H Q I h
 refine wpAny_Call_Name_kw (a7F I hg hm ?_ hdb)
 refine PySem.W.callWith_K (h₀:=X.base) I.ok.mod.kin hk (E5 (ha pos pins s σ H _ I h) fun us s1 ⟨vs,H1,I1,r,q⟩=>⟨I1.kIn, ?_⟩) he hpl
 exact b0w F hr hb hd hx I1 r q
end
section
variable {X:Cx}{CX:CXT}{k:Nat}{f C:AB}{fd:FuncData}{ps ks:List Str}{sp:Sp}{E:XK}{x m:Str}{p pos apos kpos:Pos}{e o:AE}{es:List AE}{kws:List Keyword}{te ta:TE}{t tk:TA}{nm:Option Str}
variable {g:List AA->List AA->List AA}{gV:List V->List V->List V}
end
structure i8(N P:List Str)(sc:Scope):Prop where
 kind:sc.kind= .function
 co:sc.isCoroutine=false
 gen:sc.isGenerator=false
 nd:N.Nodup
 pre:N.take P.length=P
 par:∀x∈P,sc.names.lookup x=some .local\/sc.names.lookup x=some .cell
 nofree:∀y∈sc.names,y.2≠.free
theorem a38{kindOf:Str->Option NameKind}{x:Str}:∀{binds:List (Str×AA)} {m:Str->Option AA},(∀v,(x,v)∉binds)->bindL kindOf binds m x=m x
 |[],_,_=>rfl
 |(n,v)::r,m,h=>by
  unfold bindL
  rw [a38 fun w hw=>h w (Ak _ hw)]
  split
  ·have:x≠n:=by rintro rfl;exact h v Ai
   simp [this]
  ·rfl
theorem a36{kindOf:Str->Option NameKind}{x:Str}:∀{binds:List (Str×AA)} {m:Str->Option AA},(∀v,(x,v)∉binds)->bindC kindOf binds m x=m x
 |[],_,_=>rfl
 |(n,v)::r,m,h=>by
  unfold bindC
  rw [a36 fun w hw=>h w (Ak _ hw)]
  split
  ·rfl
  ·have:x≠n:=by rintro rfl;exact h v Ai
   simp [this]
theorem a37{kindOf:Str->Option NameKind}{x:Str}{v:AA}:∀{P:List Str} {vs:List AA} {i:Nat} {m:Str->Option AA},P.Nodup->P[i]?=some x->vs[i]?=some v->kindOf x=some .local->
 bindL kindOf (P.zip vs) m x=some v
 |[],_,_,_,_,h,_,_=>by simp at h
 |_::_,[],_,_,_,_,h,_=>by simp at h
 |p::P,w::vs,0,m,nd,h1,h2,hk=>by
  simp at h1 h2;subst h1;subst h2
  show bindL kindOf ((p,w)::P.zip vs) m p=_
  unfold bindL
  rw [a38 fun v hv=>(List.nodup_cons.mp nd).1 (List.of_mem_zip hv).1,if_pos hk]
  simp
 |p::P,w::vs,i+1,m,nd,h1,h2,hk=>by
  show bindL kindOf ((p,w)::P.zip vs) m x=_
  unfold bindL
  exact a37 (i:=i) (List.nodup_cons.mp nd).2 (by simpa using h1) (by simpa using h2) hk
theorem a35{kindOf:Str->Option NameKind}{x:Str}{v:AA}:∀{P:List Str} {vs:List AA} {i:Nat} {m:Str->Option AA},P.Nodup->P[i]?=some x->vs[i]?=some v->kindOf x≠some .local->
 bindC kindOf (P.zip vs) m x=some v
 |[],_,_,_,_,h,_,_=>by simp at h
 |_::_,[],_,_,_,_,h,_=>by simp at h
 |p::P,w::vs,0,m,nd,h1,h2,hk=>by
  simp at h1 h2;subst h1;subst h2
  show bindC kindOf ((p,w)::P.zip vs) m p=_
  unfold bindC
  rw [a36 fun v hv=>(List.nodup_cons.mp nd).1 (List.of_mem_zip hv).1,if_neg hk]
  simp
 |p::P,w::vs,i+1,m,nd,h1,h2,hk=>by
  show bindC kindOf ((p,w)::P.zip vs) m x=_
  unfold bindC
  exact a35 (i:=i) (List.nodup_cons.mp nd).2 (by simpa using h1) (by simpa using h2) hk
def U0(N:List Str)(vs:List V):St:=vs.map some++AO (N.length - vs.length) none
def a4J(CX:CXT)(P:AI)(w:AG)(K:AD)(mg:Str->Option AA)(base:Heap)(N:List Str)(qual:Str)(scope:Scope)(f:AB)(cd:AA)(A:AJ)(outer:List Env)(s:AC)(H:Hp)(E:XK):Cx where
 prog:=P
 w:=w
 K:=K
 mg:=mg
 base:=base
 A:=A.deeper (envOfC qual scope s.heap.objs.size f cd)
 N:=N
 s₀:=s
 H₀:=H
 env:=envOfC qual scope s.heap.objs.size f cd
 outer:=outer
 stack:=envOfC qual scope s.heap.objs.size f cd::outer
 ex:=[]
 calm:=true
 fn:=fun _=>true
 pn:=[]
 xe:=fun e s'=>AH (model P w) (A.deeper (envOfC qual scope s.heap.objs.size f cd)) (leaving (envOfC qual scope s.heap.objs.size f cd) e) (fun _ s''=>CX outer H s E e s'') (fun e' s''=>CX outer H s E e' s'') s'
theorem a5y{sc:Scope}{n:Nat}{x:Str}(h:sc.names.lookup x=some .cell):∃c,(cellsFrom n sc.names []).lookup x=some c:=by
 have q:=PySem.W.cellsFrom_some sc.names n [] (.inl h)
 exact Option.isSome_iff_exists.mp q
theorem a8q{CX:CXT}{P:AI}{w:AG}{K:AD}{mg:Str->Option AA}{base:Heap}{N ps:List Str}{qual:Str}{scope:Scope}{f:AB}{cd:AA}{A:AJ}{outer:List Env}{s s1:AC}{H:Hp}{E:XK}{us:List AA}{vs:List V}
 (S:i8 N ps scope) (hd:A.handled=none) (e0:a6v P w K mg base A outer s H) (hl:vs.length=ps.length) (r:g6 vs us)
 (x:InCallC s s.heap.objs.size (bindL (envOfC qual scope s.heap.objs.size f cd).kindOf (ps.zip us) fun _=>none) (cellsFrom (s.heap.objs.size+1) scope.names []) (bindC (envOfC qual scope s.heap.objs.size f cd).kindOf (ps.zip us) fun _=>none) s1):
 d9 (a4J CX P w K mg base N qual scope f cd A outer s H E) [] (U0 N vs) H s1:=by
 have hpl:ps.length<=N.length:=by have:=congrArg List.length S.pre;rw [List.length_take] at this;lia
 obtain⟨h1,tk,rfl,hk⟩:=x.done
 have noA:∀b:AB,b∉(a4J CX P w K mg base N qual scope f cd A outer s H E).ex:=fun b z=>absurd (show b∈([]:List AB) from z) (by simp)
 refine⟨⟨e0.mod,S.kind,rfl,rfl,AM _,fun y z c h1 h2=> ?_,fun y hy=> ?_,fun y c _ h=> ?_,fun _=>hd,Around.frames_deeper e0.frames,.inr ⟨rfl,rfl⟩,fun b z=>absurd z (noA b),e0.bs,e0.bsz,fun b _ _=>noA b,fun b z=>absurd z (noA b),e0.funs,e0.frf⟩,
  rfl,e0.bare,Un.kept hk,⟨_,x.toInCall.ns,fun i y v h1 h2 h3=> ?_⟩,fun y c h=>⟨_,x.cell y c h⟩,e0.hok.fresh (AM _),fun y c h=> ?_,fun p hp=>absurd (show p∈([]:List (AB×Obj)) from hp) (by simp),e0.hok.kept hk, ?_⟩
 ·exact name_of_addr x.apart (PySem.mem_of_lookup h1) (PySem.mem_of_lookup h2)
 ·have hy:scope.names.lookup y=some .cell\/scope.names.lookup y=some .free:=hy
  rcases hy with hy|hy
  ·exact a5y hy
  ·exact absurd rfl (S.nofree _ (PySem.mem_of_lookup hy))
 ·exact BE (x.above y c (PySem.mem_of_lookup h))
 ·have hi:i<vs.length:=by
   unfold U0 at h2
   by_cases hi:i<vs.length
   ·exact hi
   ·rw [List.getElem?_append_right (by simpa using hi)] at h2
    rw [List.getElem?_replicate] at h2
    split at h2<;>cases h2
  have ha:vs[i]?=some v:=by
   unfold U0 at h2
   rw [BB (by simpa using hi),Ay] at h2
   cases e:vs[i]? with
   |none=>rw [e] at h2;cases h2
   |some a=>rw [e] at h2;cases h2;rfl
  obtain⟨u,hu,rv⟩:=r.get ha
  have hp:ps[i]?=some y:=by
   rw [<-S.pre,List.getElem?_take_of_lt (by lia)];exact h1
  have ndP:ps.Nodup:=by rw [<-S.pre];exact S.nd.sublist (List.take_sublist _ _)
  refine⟨u,rv, ?_⟩
  rcases S.par y (Av hp) with k|k
  ·exact .inl ⟨k,a37 ndP hp hu k⟩
  ·obtain⟨c,e⟩:=a5y (n:=s.heap.objs.size+1) k
   refine .inr ⟨.inl k,c,e, ?_⟩
   have q:=x.cell y c e
   rw [a35 ndP hp hu (by show scope.names.lookup y≠_;rw [k];decide)] at q
   exact q
 ·exact e0.hok.fresh (BE (x.above y c (PySem.mem_of_lookup h)))
 ·unfold U0
  show _=N.length
  rw [Ad,Aa,List.length_replicate]
  lia
theorem b4c{CX:CXT}{P:AI}{w:AG}{K:AD}{mg:Str->Option AA}{base:Heap}{k:Nat}{f:AB}{name qual:Str}{params:Arguments}{body:List Stmt}{scope:Scope}{dV kV doc pm cdv ct oc:AA}{an od:Option AB}
 {osl:Array (Option AA)} {N ps:List Str} {sp:Sp} (lk:K.lookup f=some ⟨oc,od,.func (PySem.W.fnOf name qual params body scope dV kV doc pm an cdv ct),osl⟩) (hcd:PySem.W.codeIn K cdv qual=true) (S:i8 N ps scope)
 (len:∀vs H Q E,sp vs H Q E->vs.length=ps.length)
 (hbody:∀(A:AJ) (outer:List Env) (s:AC) (H:Hp) (vs:List V) (Q:VK) (E:XK),E7 k (A.deeper (envOfC qual scope s.heap.objs.size f cdv))->sp vs H Q E->
  ∃t,PSs (a4J CX P w K mg base N qual scope f cdv A outer s H E) body t/\t {nx:=fun _ H'=>Q .non H',rt:=Q} (U0 N vs) H):
 N6 P w K mg base CX (k+1) f (PySem.W.fnOf name qual params body scope dV kV doc pm an cdv ct) ps sp:=by
 refine⟨len,fun A outer s H args us vs Q E hr e0 hb r hsp=> ?_⟩
 have hl:=len _ _ _ _ hsp
 have KX:K.In s.heap:=e0.mod.kin.keeps fun b o e=>(e0.bs b o e).1
 have lim:s.heap.NoLimit:=e0.mod.nolimit.keeps fun b o e=>(e0.bs b o e).1
 have hkind:∀y∈ps.zip us,scope.names.lookup y.1=some .local\/(scope.names.lookup y.1=some .cell/\((cellsFrom (s.heap.objs.size+1) scope.names []).lookup y.1).isSome=true):=fun⟨n,v⟩ hy=>by
  rcases S.par n (List.of_mem_zip hy).1 with q|q
  ·exact .inl q
  ·exact .inr ⟨q,PySem.W.cellsFrom_some _ _ _ (.inl q)⟩
 refine codeAny_call_function hr.depth (KX _ _ lk) rfl S.co S.gen rfl (PySem.W.codeRec_of KX hcd) (hb _ _ _ _ ?_)
 refine wpAny_newFunctionEnv_cells S.kind hkind fun env he s1 x=> ?_
 subst he
 refine⟨lim.keeps x.toInCall.keep,codeAny_func ?_⟩
 obtain⟨t,ht,hq⟩:=hbody A outer s H vs Q E (hr.deeper _) hsp
 have I:d9 (a4J CX P w K mg base N qual scope f cdv A outer s H E) [] (U0 N vs) H s1:=a8q S hr.hd e0 hl r x
 refine wpAny_mono (ht [] s1 (U0 N vs) H _ I hq) (fun fl s' hs=> ?_) fun e s' hs=>hs
 have fin:∀{σ':St} {H':Hp} {v:V} {u:AA},d9 (a4J CX P w K mg base N qual scope f cdv A outer s H E) [] σ' H' s'->j6 v u->Q v H'->CE outer P w H s Q u s':=
  fun {σ' H' v u} J rv q=>⟨v,H',J.os,J.bare,J.base,J.hok,rv,q⟩
 cases fl with
 |ret u=>
  obtain⟨v,σ',H',J,rv,q⟩:=hs
  exact fin J rv q
 |next=>
  obtain⟨σ',H',J,q⟩:=hs
  exact fin (v:=V.non) (u:=Value.none) J rfl q
 |brk=>
  obtain⟨_,_,_,q⟩:=hs
  exact False.elim q
 |cont=>
  obtain⟨_,_,_,q⟩:=hs
  exact False.elim q
section
variable {X:Cx}{x:Str}{p pos:Pos}{e:AE}{es:List AE}{t:TA}{id T:String}{r:List V->Hp->VK->Prop}
def tCB(r:List V->Hp->VK->Prop)(t:TA):TE:=fun σ H Q=>t σ H fun vs H1=>r vs H1 Q
theorem a3y(hc:C5 X (.builtin id) r)(hg:Gl X x)(hm:X.mg x=none)(hv:bootBuiltins x=some (.builtin id))(ha:PA X (e::es) t)(hn:x≠"__name__":=by decide)(hdb:(x==("__debug__":Str))=false:=by decide)
 (he:AN (e::es) X.env=(false,eval e X.env)::AN es X.env:=by rfl) (hpl:(backTo pos (AN es X.env)).any (·.1)=false:=by rfl):PE X (.Call (.Name x p) (e::es) [] pos) (tCB r t):=by
 intro pins s σ H Q I h
 refine wpAny_Call_Name_kw (a3e I hg hm hv ?_ hn hdb)
 exact PyProof.Rows.callWith_builtin1 (E5 (ha pos pins s σ H _ I h) fun us s1 ⟨vs,H1,I1,r1,q1⟩=>hc pins s1 σ H1 vs us Q I1 r1 q1) he hpl
theorem a8N(hc:C5 X (.type T) r)(hg:Gl X x)(hm:X.mg x=none)(hv:bootBuiltins x=some (.type T))(ha:PA X (e::es) t)(hn:x≠"__name__":=by decide)(hdb:(x==("__debug__":Str))=false:=by decide)
 (he:AN (e::es) X.env=(false,eval e X.env)::AN es X.env:=by rfl) (hpl:(backTo pos (AN es X.env)).any (·.1)=false:=by rfl):PE X (.Call (.Name x p) (e::es) [] pos) (tCB r t):=by
 intro pins s σ H Q I h
 refine wpAny_Call_Name_kw (a3e I hg hm hv ?_ hn hdb)
 exact PyProof.Rows.callWith_type1 (E5 (ha pos pins s σ H _ I h) fun us s1 ⟨vs,H1,I1,r1,q1⟩=>hc pins s1 σ H1 vs us Q I1 r1 q1) he hpl
end
end L2
namespace HT
open PySem PyProof.Rows
section
open PySem.SeqAt
open PySem.AutoSeq1 (wpAny_loadPart')
open PySem.MeetsSeq PySem.MeetsSeq2 PySem.MeetsSeq3
end
section
variable {prog:AI}{w:AG}{A:AJ}{E:AA->AC->Prop}{s:AC}
theorem cat_tup{t b:AB}{vs ws:List AA}{Q:AA->AC->Prop}(ht:IsTup s.heap t vs.toArray)(hb:IsTup s.heap b ws.toArray)(hv:vs≠[])
 (h1:ws=[]->Q (.ref t) s) (h2:ws≠[]->Q (.ref s.heap.objs.size) {s with heap:=s.heap.push {cls:= .type "tuple",data:= .seq (vs++ws).toArray}})
 (hsz:vs.length+ws.length<=AK):AH (model prog w) A (binaryOp .Add (.ref t) (.ref b)) Q E s:=by
 obtain⟨⟨cls,dd,data,sl⟩,ho,hc,n,hd⟩:=id ht
 obtain⟨⟨cls2,dd2,data2,sl2⟩,ho2,hc2,n2,hd2⟩:=id hb
 simp only at hc hd hc2 hd2
 subst hc hd hc2 hd2
 have e:vs.toArray++ws.toArray=(vs++ws).toArray:=by simp
 by_cases hw:ws=[]
 ·exact concat_meets ⟨_,ho,rfl⟩ ⟨_,ho2,rfl⟩ noFill_tuple_add seq_tuple_add PySem.F.slot_tuple_add PySem.F.entry_tuple_add (PySem.F.args_tuple_add_2 _ _)
   (tuple_addW1 t b vs.toArray ws.toArray n n2 dd dd2 sl sl2 (by simpa using hv) (by simp [hw])) ⟨ho,ho2,h1 hw⟩
 ·refine concat_meets ⟨_,ho,rfl⟩ ⟨_,ho2,rfl⟩ noFill_tuple_add seq_tuple_add PySem.F.slot_tuple_add PySem.F.entry_tuple_add (PySem.F.args_tuple_add_2 _ _)
   (tuple_addW2 t b vs.toArray ws.toArray n n2 dd dd2 sl sl2 (by simpa using hv) (by simpa using hw) (by rw [Af,Af];exact hsz)) ⟨ho,ho2, ?_⟩
  rw [e]
  exact h2 hw
def sIx(n d:Nat):Option Int->Nat
 |none=>d
 |some v=>if v<0 then(v+(n:Int)).toNat else min v.toNat n
theorem sIx_none(n d:Nat):sIx n d none=d:=rfl
theorem sIx_nat(n d k:Nat):sIx n d (some (k:Int))=min k n:=by
 show(if(k:Int)<0 then((k:Int)+(n:Int)).toNat else min (k:Int).toNat n)=min k n
 rw [if_neg (by lia),Int.toNat_natCast]
theorem sIx_le(n d:Nat)(hd:d<=n)(o:Option Int):sIx n d o<=n:=by
 cases o with
 |none=>exact hd
 |some v=>
  show(if v<0 then(v+(n:Int)).toNat else min v.toNat n)<=n
  by_cases hv:v<0
  ·rw [if_pos hv];lia
  ·rw [if_neg hv];exact Nat.min_le_right _ _
theorem a7j(v:Int)(n d:Nat):(if v<0 then max (v+(n:Int)) 0 else min v (n:Int))=((sIx n d (some v):Nat):Int):=by
 show(if v<0 then max (v+(n:Int)) 0 else min v (n:Int))=(((if v<0 then(v+(n:Int)).toNat else min v.toNat n):Nat):Int)
 by_cases hv:v<0
 ·simp only [if_pos hv];lia
 ·simp only [if_neg hv];lia
theorem a6A(lo hi:Option Int)(n:Nat):Builtin.Slice.sliceAdjust lo hi 1 (n:Int)=(((sIx n 0 lo:Nat):Int),((sIx n n hi:Nat):Int)):=by
 have h1:¬((1:Int)<0):=by lia
 unfold Builtin.Slice.sliceAdjust
 simp only [h1,if_false]
 refine Prod.ext ?_ ?_
 ·cases lo with
  |none=>rfl
  |some v=>exact a7j v n 0
 ·cases hi with
  |none=>rfl
  |some v=>exact a7j v n n
theorem a63(i j:Nat):Builtin.Slice.slicePlaces (i:Int) (j:Int) 1=j - i:=by
 unfold Builtin.Slice.slicePlaces
 have h1:(1:Int)>0:=by lia
 simp only [h1,if_true,Int.ediv_one]
 split<;>lia
theorem a3K{v:AA}{o:Option Int}{Q:Option Int->AC->Prop}(p:IsPart v o)(h:Q o s):AH (model prog w) A (Builtin.Slice.slicePartIndex v) Q E s:=by
 cases p with
 |none=>exact slicePart_none h
 |int i t=>exact slicePart_int h
theorem sliceApplied_gen{sl:AB}{vl vu:AA}{lo hi:Option Int}{n:Nat}{Q:Int×Int×Nat->AC->Prop}(hs:s.heap.IsSliceOf sl vl vu .none)(pl:IsPart vl lo)(pu:IsPart vu hi)
 (h:Q (((sIx n 0 lo:Nat):Int),1,sIx n n hi - sIx n 0 lo) s):AH (model prog w) A (Builtin.Slice.sliceApplied (.ref sl) (pure (n:Int))) Q E s:=by
 obtain⟨os,hos,hcs,hds⟩:=id hs
 unfold Builtin.Slice.sliceApplied Builtin.Slice.sliceFields
 refine AL (AL (wpAny_field hos hds (x:=vl) rfl (AL (wpAny_field hos hds (x:=vu) rfl (AL (wpAny_field hos hds (x:= .none) rfl (AR ?_)))))))
 refine AL (slicePart_none ?_)
 show AH _ _ (if((1:Int)==0)=true then _ else _) _ _ s
 rw [if_neg (by decide)]
 refine AL (a3K pl (AL (a3K pu (AL (AR ?_)))))
 show AH _ _ (match Builtin.Slice.sliceAdjust lo hi 1 (n:Int) with|(lo,hi)=>pure (lo,(1:Int),Builtin.Slice.slicePlaces lo hi 1)) _ _ s
 rw [a6A lo hi n]
 show AH _ _ (pure (((sIx n 0 lo:Nat):Int),(1:Int),Builtin.Slice.slicePlaces ((sIx n 0 lo:Nat):Int) ((sIx n n hi:Nat):Int) 1)) _ _ s
 rw [a63]
 exact AR h
theorem b0o(xs:Array AA)(i k:Nat):((AX k).filterMap fun(m:Nat)=>xs[((i:Int)+(m:Int)*1).toNat]?).toArray=((xs.toList.drop i).take k).toArray:=by
 have e:(fun(m:Nat)=>xs[((i:Int)+(m:Int)*1).toNat]?)=fun m=>xs[i+m]?:=by
  funext m
  have:((i:Int)+(m:Int)*1).toNat=i+m:=by lia
  rw [this]
 rw [e]
 have:=pick_run xs i k
 rw [List.filterMap_map] at this
 have e2:((fun x=>xs[x]?)∘fun x=>i+x)=fun m=>xs[i+m]?:=rfl
 rw [e2] at this
 rw [this]
theorem getItem_tuple_cut{t sl:AB}{items:Array AA}{vl vu:AA}{lo hi:Option Int}{Q:AA->AC->Prop}(ht:IsTup s.heap t items)(hs:s.heap.IsSliceOf sl vl vu .none)(pl:IsPart vl lo)(pu:IsPart vu hi)
 (hw:¬(sIx items.size 0 lo=0/\sIx items.size items.size hi=items.size))
 (h:Q (.ref s.heap.objs.size) {s with heap:=s.heap.push {cls:= .type "tuple",data:= .seq ((items.toList.drop (sIx items.size 0 lo)).take (sIx items.size items.size hi - sIx items.size 0 lo)).toArray}})
 (hsz:items.size<=AK):AH (model prog w) A (getItem (.ref t) (.ref sl)) Q E s:=by
 have htake:sizeOk (.seq ((items.toList.drop (sIx items.size 0 lo)).take (sIx items.size items.size hi - sIx items.size 0 lo)).toArray):=by
  show((items.toList.drop (sIx items.size 0 lo)).take (sIx items.size items.size hi - sIx items.size 0 lo)).toArray.size<=AK
  rw [Af,List.length_take,List.length_drop,Array.length_toList]
  lia
 have hj:sIx items.size items.size hi<=items.size:=sIx_le _ _ (AM _) hi
 obtain⟨os,hos,hcs,hds⟩:=id hs
 have hTs:s.TypeIs (.ref sl) "slice":=⟨os,hos,hcs⟩
 unfold getItem
 try with_reducible refine wpAny_holding ?_
 first|refine AL (AR ?_)|skip
 refine AL (wpAny_sequenceKey ht.typeIs (by decide) ?_)
 refine AL (wpAny_callSpecial?_slot (name:=AS "__getitem__") ht.typeIs PyProof.Rows.slot_tuple_getitem
  (wpAny_call_entry PyProof.Rows.slot_tuple_getitem ht.typeIs entry_tuple_getitem ?_ (args_tuple_getitem _ _)))
 show AH _ _ (Builtin.Tuple.tupleItemsOf (.ref t)>>=_) _ _ s
 refine AL (tupleItemsOf_ ht ?_)
 refine AL (wpAny_typeOf hTs ?_)
 rw [if_pos (by decide)]
 refine AL (sliceApplied_gen hs pl pu ?_)
 have hno:¬((((sIx items.size 0 lo:Nat):Int)==0 &&(1:Int)==1 &&(sIx items.size items.size hi - sIx items.size 0 lo)==items.size)=true):=by
  intro q
  rw [Bool.and_eq_true,Bool.and_eq_true] at q
  have q1:((sIx items.size 0 lo:Nat):Int)=0:=eq_of_beq q.1.1
  have q2:sIx items.size items.size hi - sIx items.size 0 lo=items.size:=eq_of_beq q.2
  exact hw ⟨by lia,by lia⟩
 show AH _ _ (if(((sIx items.size 0 lo:Nat):Int)==0 &&(1:Int)==1 &&(sIx items.size items.size hi - sIx items.size 0 lo)==items.size)=true then _ else _) _ _ s
 rw [if_neg hno,b0o]
 first
  |exact AL (m:=Builtin.Tuple.tupleExact _) (wpAny_newObj_type (AR ⟨_,rfl,AR h⟩) htake)
  |exact AL (m:=Builtin.Tuple.tupleExact _) (wpAny_newObj_type (AL (AR (AR ⟨_,rfl,AR h⟩))) htake)
  |exact AL (AL (m:=Builtin.Tuple.tupleExact _) (wpAny_newObj_type (AR (AR ⟨_,rfl,AR h⟩)) htake))
  |exact AL (AL (m:=Builtin.Tuple.tupleExact _) (wpAny_newObj_type (AR ⟨_,rfl,AR h⟩) htake))
end
end HT
namespace L2
open PySem PySem.Spec PyProof.Rows
abbrev TO:=St->Hp->(Option Int->Hp->Prop)->Prop
def PO(X:Cx)(e:Option AE)(t:TO):Prop:=
 ∀(pins:List (AB×Obj)) (s:AC) (σ:St) (H:Hp) (Q:Option Int->Hp->Prop),d9 X pins σ H s->t σ H Q->
  AH (model X.prog X.w) X.A (evalPart e X.env) (fun u s'=>∃o H',d9 X pins σ H' s'/\IsPart u o/\Q o H') X.xe s
def b15:TO:=fun _ H Q=>Q none H
def b4H(t:TE):TO:=fun σ H Q=>t σ H fun x H1=>∃i,x= .int i/\Q (some i) H1
section
variable {X:Cx}{e:AE}{te:TE}{lo hi:Option AE}{tl th:TO}{pos p2:Pos}
theorem b1I:PO X none b15:=by
 intro pins s σ H Q I h
 rw [evalPart_none]
 exact AR ⟨none,H,I,.none,h⟩
theorem b1J(h:PE X e te):PO X (some e) (b4H te):=by
 intro pins s σ H Q I hw
 rw [evalPart_some]
 refine E5 (h pins s σ H _ I hw) fun u s1 ⟨x,H1,I1,r1,q1⟩=> ?_
 obtain⟨i,rfl,q⟩:=q1
 obtain⟨t,rfl⟩:=r1
 exact⟨some i,H1,I1,.int i t,q⟩
def SlR(X:Cx)(r:V->Option Int->Option Int->Hp->VK->Prop):Prop:=
 ∀(pins:List (AB×Obj)) (s:AC) (σ:St) (H:Hp) (x:V) (v vl vu:AA) (lo hi:Option Int) (sl:AB) (Q:VK),d9 X pins σ H s->j6 x v->s.heap.IsSliceOf sl vl vu .none->IsPart vl lo->IsPart vu hi->r x lo hi H Q->
  ∃T id,typeLookup (.type T) "__getitem__"=pure (some (.builtin id))/\s.TypeIs v T/\AH (model X.prog X.w) X.A (getItem v (.ref sl)) (EP X pins σ Q) X.xe s
theorem SlR.or{r r':V->Option Int->Option Int->Hp->VK->Prop}(h:SlR X r)(h':SlR X r'):SlR X (fun x lo hi H Q=>r x lo hi H Q\/r' x lo hi H Q):=by
 intro pins s σ H x v vl vu lo hi sl Q I rx hs pl pu q
 rcases q with q|q
 ·exact h pins s σ H x v vl vu lo hi sl Q I rx hs pl pu q
 ·exact h' pins s σ H x v vl vu lo hi sl Q I rx hs pl pu q
def tSl(r:V->Option Int->Option Int->Hp->VK->Prop)(te:TE)(tl th:TO):TE:=fun σ H Q=>te σ H fun x H1=>tl σ H1 fun l H2=>th σ H2 fun u H3=>r x l u H3 Q
theorem b0m{r:V->Option Int->Option Int->Hp->VK->Prop}(hr:SlR X r)(he:PE X e te)(hl:PO X lo tl)(hu:PO X hi th):PE X (.Subscript e (.Slice lo hi none p2) pos) (tSl r te tl th):=by
 intro pins s σ H Q I h
 refine Subscript_ (E5 (he pins s σ H _ I h) fun v s1 ⟨x,H1,I1,r1,q1⟩=> ?_)
 refine wpAny_Slice (E5 (hl pins s1 σ H1 _ I1 q1) fun vl s2 ⟨l,H2,I2,pl,q2⟩=>E5 (hu pins s2 σ H2 _ I2 q2) fun vu s3 ⟨u,H3,I3,pu,q3⟩=> ?_)
 rw [evalPart_none]
 refine AR ?_
 have I4:d9 X pins σ H3 {s3 with heap:=s3.heap.push {cls:= .type "slice",data:= .fields #[vl,vu,.none]}}:=I3.kept (t':=s3.toks) fun b ob q=>Ag _ q
 obtain⟨T,id,hT,ht,hg⟩:=hr pins {s3 with heap:=s3.heap.push {cls:= .type "slice",data:= .fields #[vl,vu,.none]}} σ H3 x v vl vu l u s3.heap.objs.size Q I4 r1 (Heap.IsSliceOf.new ..) pl pu q3
 show AH (model X.prog X.w) X.A (subscriptTail e (.Slice lo hi none p2) v (.ref s3.heap.objs.size)) (EP X pins σ Q) X.xe {s3 with heap:=s3.heap.push {cls:= .type "slice",data:= .fields #[vl,vu,.none]}}
 exact tail_any (ops:=[.ref s3.heap.objs.size,v]) ht hT hg (by with_unfolding_all rfl)
def b02(xs:List V)(lo hi:Option Int):List V:=(xs.drop (HT.sIx xs.length 0 lo)).take (HT.sIx xs.length xs.length hi - HT.sIx xs.length 0 lo)
theorem a5B(xs:List V)(lo hi:Option Int):(b02 xs lo hi).length<=xs.length:=by
 unfold b02
 rw [List.length_take,List.length_drop]
 lia
def b44(K:AD):V->Option Int->Option Int->Hp->VK->Prop:=fun x lo hi H Q=>∃a xs,x= .ref a/\W4 K H a xs/\
 ¬(HT.sIx xs.length 0 lo=0/\HT.sIx xs.length xs.length hi=xs.length)/\∀p,H p=none->Q (.ref p) (upd H p (.tup (b02 xs lo hi)))
theorem b3N:SlR X (b44 X.K):=by
 intro pins s σ H x v vl vu lo hi sl Q I rx hs pl pu h
 obtain⟨a,xs,rfl,hx,hw,q⟩:=h
 cases rx
 obtain⟨its,r,ht,hz⟩:=I.tuple hx
 have hlen:its.toArray.size=xs.length:=by rw [Af];exact r.length.symm
 refine⟨"tuple",_,PyProof.Rows.slot_tuple_getitem.lookup,ht.typeIs, ?_⟩
 refine HT.getItem_tuple_cut ht hs pl pu (by rw [hlen];exact hw) ?_ (by rw [hlen];exact hz)
 rw [hlen]
 refine⟨.ref s.heap.objs.size,_,I.laid (t':=s.toks) (o:= .tup (b02 xs lo hi)) (fun b ob q=>Ag _ q) (AM _) ?_,rfl,q _ (I.hok.fresh (AM _))⟩
 exact⟨Nat.le_trans (a5B xs lo hi) hz,_,(r.drop (HT.sIx xs.length 0 lo)).take (HT.sIx xs.length xs.length hi - HT.sIx xs.length 0 lo),IsTup.new _ _⟩
def b4t(K:AD):R2:=fun x y H Q=>∃a b xs ys,x= .ref a/\y= .ref b/\W4 K H a xs/\W4 K H b ys/\xs≠[]/\xs.length+ys.length<=AK/\
 (ys=[]->Q (.ref a) H)/\(ys≠[]->∀p,H p=none->Q (.ref p) (upd H p (.tup (xs++ys))))
theorem g6.nil_iff{xs:List V}{us:List AA}(r:g6 xs us):us=[]↔xs=[]:=by
 cases r with
 |nil=>simp
 |cons _ _=>simp
theorem b1w:OpR X (binaryOp .Add) (b4t X.K):=by
 intro pins s σ H x y v u Q I rx ry h
 obtain⟨a,b,xs,ys,rfl,rfl,ha,hb,hx,hz,q1,q2⟩:=h
 cases rx
 cases ry
 obtain⟨its,r1,p1,_⟩:=I.tuple ha
 obtain⟨its2,r2,p2,_⟩:=I.tuple hb
 refine HT.cat_tup p1 p2 (fun z=>hx (r1.nil_iff.mp z)) (fun z=>⟨.ref a,H,I,rfl,q1 (r2.nil_iff.mp z)⟩) (fun z=> ?_) (by rw [<-r1.length,<-r2.length];exact hz)
 refine⟨.ref s.heap.objs.size,_,I.laid (t':=s.toks) (o:= .tup (xs++ys)) (fun b ob q=>Ag _ q) (AM _) ?_,rfl,q2 (fun w=>z (r2.nil_iff.mpr w)) _ (I.hok.fresh (AM _))⟩
 exact⟨by rw [Ad];exact hz,_,r1.append r2,IsTup.new _ _⟩
end
def ixN(n:Nat)(i:Int):Option Nat:=if 0<=i then(if i<n then some i.toNat else none) else if -(n:Int)<=i then some (i+n).toNat else none
def atI{α:Type}(xs:List α)(i:Int):Option α:=(ixN xs.length i).bind fun j=>xs[j]?
theorem b1l{n:Nat}{i:Int}{j:Nat}(h:ixN n i=some j):seqIndex? i n=some j/\j<n/\ -(n:Int)<=i/\i<n:=by
 unfold ixN at h
 by_cases h0:0<=i
 ·rw [if_pos h0] at h
  by_cases h1:i<n
  ·rw [if_pos h1] at h
   have e:i.toNat=j:=Option.some.inj h
   exact⟨by rw [seqIndex_of h0 h1,e],by lia,by lia,h1⟩
  ·rw [if_neg h1] at h;cases h
 ·rw [if_neg h0] at h
  by_cases h1: -(n:Int)<=i
  ·rw [if_pos h1] at h
   have e:(i+n).toNat=j:=Option.some.inj h
   exact⟨by rw [seqIndex_neg (by lia) h1,e],by lia,h1,by lia⟩
  ·rw [if_neg h1] at h;cases h
theorem a4D{α:Type}{xs:List α}{i:Int}{v:α}(h:atI xs i=some v):∃j,seqIndex? i xs.length=some j/\xs[j]?=some v/\j<xs.length/\ -(xs.length:Int)<=i/\i<xs.length:=by
 unfold atI at h
 cases e:ixN xs.length i with
 |none=>rw [e] at h;cases h
 |some j=>
  rw [e] at h
  obtain⟨h1,h2,h3,h4⟩:=b1l e
  exact⟨j,h1,h,h2,h3,h4⟩
def a7f(b:AE):Prop:=∀o i,subscripted b false o i=operate [o,i] (getItem o i)
def IxR(X:Cx)(r:R2):Prop:=
 ∀(value slice:AE) (pins:List (AB×Obj)) (s:AC) (σ:St) (H:Hp) (x y:V) (v u:AA) (Q:VK),d9 X pins σ H s->j6 x v->j6 y u->r x y H Q->
  subscripted slice false v u=operate [v,u] (getItem v u)->AH (model X.prog X.w) X.A (subscriptTail value slice v u) (EP X pins σ Q) X.xe s
def MtR(X:Cx)(id:String)(r:V->List V->Hp->VK->Prop):Prop:=
 ∀(pins:List (AB×Obj)) (s:AC) (σ:St) (H:Hp) (x:V) (xs:List V) (v:AA) (us:List AA) (Q:VK),d9 X pins σ H s->j6 x v->g6 xs us->r x xs H Q->
  AH (model X.prog X.w) X.A (call (.builtin id) (v::us)) (EP X pins σ Q) X.xe s
section
variable {X:Cx}{a b:AE}{ta tb:TE}{pos:Pos}
theorem IxR.or{r r':R2}(h:IxR X r)(h':IxR X r'):IxR X (fun x y H Q=>r x y H Q\/r' x y H Q):=by
 intro value slice pins s σ H x y v u Q I rx ry q hs
 rcases q with q|q
 ·exact h value slice pins s σ H x y v u Q I rx ry q hs
 ·exact h' value slice pins s σ H x y v u Q I rx ry q hs
theorem MtR.or{id:String}{r r':V->List V->Hp->VK->Prop}(h:MtR X id r)(h':MtR X id r'):MtR X id (fun x xs H Q=>r x xs H Q\/r' x xs H Q):=by
 intro pins s σ H x xs v us Q I rx rs q
 rcases q with q|q
 ·exact h pins s σ H x xs v us Q I rx rs q
 ·exact h' pins s σ H x xs v us Q I rx rs q
theorem b4q{r:R2}(hr:IxR X r)(ha:PE X a ta)(hb:PE X b tb)(hs:a7f b):PE X (.Subscript a b pos) (tOp r ta tb):=by
 intro pins s σ H Q I h
 exact Subscript_ (b2H ha hb I h fun v u s2 x y H2 I2 rx ry q=>hr a b pins s2 σ H2 x y v u Q I2 rx ry q (hs _ _))
def b40(K:AD):R2:=fun x y H Q=>∃p xs i v,x= .ref p/\y= .int i/\J2 K H p xs/\atI xs i=some v/\Q v H
def b42(K:AD):R2:=fun x y H Q=>∃p xs i v,x= .ref p/\y= .int i/\W4 K H p xs/\atI xs i=some v/\Q v H
def b41:R2:=fun x y H Q=>∃z i c,x= .str z/\y= .int i/\z.length<=AK/\atI z.cps.toList i=some c/\Q (.str ⟨#[c]⟩) H
theorem b1m:IxR X (b40 X.K):=by
 intro value slice pins s σ H x y v u Q I rx ry h hs
 obtain⟨p,xs,i,z,rfl,rfl,hq,he,q⟩:=h
 cases rx
 obtain⟨t,rfl⟩:=ry
 obtain⟨its,r,pl,hz⟩:=I.list hq
 obtain⟨j,h1,h2,h3,h4,h5⟩:=a4D he
 obtain⟨w,ew,rw'⟩:=r.get h2
 have hl:=r.length
 have hn:=a1O
 have fin:EP X pins σ Q w s:=⟨z,H,I,rw',q⟩
 by_cases h0:0<=i
 ·have hj:i.toNat=j:=by
   rw [seqIndex_of h0 h5] at h1
   exact Option.some.inj h1
  exact item_listR pl.isList h0 (by lia) (by rw [hj];simpa using ew) fin hs
 ·have hj:(i+(its.toArray.size:Int)).toNat=j:=by
   rw [seqIndex_neg (by lia) h4] at h1
   rw [Af,<-hl]
   exact Option.some.inj h1
  exact subscriptTail_builtinR (x:=w) pl.isList.typeIs slot_list_getitem.lookup
   (wpAny_getItem_list_neg (Q:=fun r s'=>r=w/\EP X pins σ Q r s') pl.isList (by lia) (by rw [Af]<;>lia) (by lia) (by rw [hj];simpa using ew) ⟨rfl,fin⟩) hs
theorem b21:IxR X (b42 X.K):=by
 intro value slice pins s σ H x y v u Q I rx ry h hs
 obtain⟨p,xs,i,z,rfl,rfl,hq,he,q⟩:=h
 cases rx
 obtain⟨t,rfl⟩:=ry
 obtain⟨its,r,pl,hz⟩:=I.tuple hq
 obtain⟨j,h1,h2,h3,h4,h5⟩:=a4D he
 obtain⟨w,ew,rw'⟩:=r.get h2
 have hl:=r.length
 have hn:=a1O
 have fin:EP X pins σ Q w s:=⟨z,H,I,rw',q⟩
 exact subscriptTail_builtinR (x:=w) pl.typeIs slot_tuple_getitem.lookup
  (getItem_tuple (j:=j) (Q:=fun r s'=>r=w/\EP X pins σ Q r s') pl (by lia) (by lia) (by rw [Af,<-hl];exact h1) (by simpa using ew) ⟨rfl,fin⟩) hs
theorem b20:IxR X b41:=by
 intro value slice pins s σ H x y v u Q I rx ry h hs
 obtain⟨z,i,c,rfl,rfl,hz,he,q⟩:=h
 obtain⟨t,rfl⟩:=rx
 obtain⟨t',rfl⟩:=ry
 obtain⟨j,h1,h2,h3,h4,h5⟩:=a4D he
 have hl:z.cps.toList.length=z.length:=by simp [Str.length]
 rw [hl] at h1 h4 h5
 have hn:=a1O
 exact tail_any (typeIs_str s z t) slot_str_getitem.lookup (getItem_str (c:=c) (by
  have e1:decide (i< -(2 ^ 63:Int))=false:=decide_eq_false (by lia)
  have e2:decide (i>=2 ^ 63)=false:=decide_eq_false (by lia)
  rw [e1,e2,Bool.or_false]) (by rw [h1];simpa using h2) ⟨.str ⟨#[c]⟩,H,I.tok _,⟨_,rfl⟩,q⟩) hs
theorem d9.lst{pins:List (AB×Obj)}{σ:St}{H:Hp}{s:AC}{p:AB}{xs:List V}(I:d9 X pins σ H s)(h:H p=some (.lst xs)):
 ∃(its:List AA) (n:Nat),g6 xs its/\s.heap.get? p=some {cls:= .type "list",data:= .seq its.toArray n}/\xs.length<=AK:=by
 obtain⟨z,its,n,r,e⟩:=I.hok p _ h
 exact⟨its,n,r,e,z⟩
def b4u:V->V->V->Hp->(Hp->Prop)->Prop:=fun o i v H Q=>∃p xs k j,o= .ref p/\i= .int k/\H p=some (.lst xs)/\ixN xs.length k=some j/\Q (upd H p (.lst (xs.set j v)))
theorem a5i(lo hi:Option Int)(n:Nat):(sliceBounds lo hi none n).1=((HT.sIx n 0 lo:Nat):Int)/\(sliceBounds lo hi none n).2.1=((HT.sIx n n hi:Nat):Int)/\(sliceBounds lo hi none n).2.2=1:=by
 refine⟨?_, ?_,rfl⟩
 ·cases lo with
  |none=>simp [sliceBounds,HT.sIx]
  |some i=>
   simp only [sliceBounds,HT.sIx,Option.getD_none,show(1:Int)>0 by decide,if_true]
   by_cases h:i<0
   ·simp only [h,if_true]<;>lia
   ·simp only [h,if_false]<;>lia
 ·cases hi with
  |none=>simp [sliceBounds,HT.sIx]
  |some i=>
   simp only [sliceBounds,HT.sIx,Option.getD_none,show(1:Int)>0 by decide,if_true]
   by_cases h:i<0
   ·simp only [h,if_true]<;>lia
   ·simp only [h,if_false]<;>lia
theorem a0F(its:List AA)(lo hi:Option Int):slicePick its.toArray lo hi none=((its.drop (HT.sIx its.length 0 lo)).take (HT.sIx its.length its.length hi - HT.sIx its.length 0 lo)).toArray:=by
 obtain⟨h1,h2,h3⟩:=a5i lo hi its.toArray.size
 unfold slicePick
 rw [h1,h2,h3]
 simp only [sliceRange_one,pick_run,Af]<;>rfl
theorem a4F:C5 X (.builtin "len") (fun xs H Q=>∃p ys,xs=[.ref p]/\(J2 X.K H p ys\/W4 X.K H p ys)/\Q (.int ys.length) H):=by
 intro pins s σ H xs us Q I r h
 obtain⟨p,ys,rfl,hq,q⟩:=h
 obtain⟨u,rfl,rx⟩:=a3R r
 cases rx
 have hn:=a1O
 rcases hq with hq|hq
 ·obtain⟨its,r',pl,hz⟩:=I.list hq
  have hlen:=r'.length
  exact Calls.call_len_list pl.isList (by simp only [Af]<;>lia) ⟨.int ys.length,H,I.tok _,⟨s.toks+1,by rw [Af,hlen]⟩,q⟩
 ·obtain⟨its,r',pl,hz⟩:=I.tuple hq
  have hlen:=r'.length
  exact len_tuple pl (by simp only [Af]<;>lia) ⟨.int ys.length,H,I.tok _,⟨s.toks+1,by rw [Af,hlen]⟩,q⟩
theorem a4G:C5 X (.builtin "len") (fun xs H Q=>∃z,xs=[.str z]/\z.length<=AK/\Q (.int z.length) H):=by
 intro pins s σ H xs us Q I r h
 obtain⟨z,rfl,hz,q⟩:=h
 obtain⟨u,rfl,t,rfl⟩:=a3R r
 have hn:=a1O
 exact len_str (by lia) ⟨.int z.length,H,I.tok _,⟨_,rfl⟩,q⟩
theorem C5.or{f:AA}{r r':List V->Hp->VK->Prop}(h:C5 X f r)(h':C5 X f r'):C5 X f (fun xs H Q=>r xs H Q\/r' xs H Q):=by
 intro pins s σ H xs us Q I rs q
 rcases q with q|q
 ·exact h pins s σ H xs us Q I rs q
 ·exact h' pins s σ H xs us Q I rs q
theorem a4H:C5 X (.type "list") (fun xs H Q=>∃p ys,xs=[.ref p]/\(J2 X.K H p ys\/W4 X.K H p ys)/\∀l,H l=none->Q (.ref l) (upd H l (.lst ys))):=by
 intro pins s σ H xs us Q I r h
 obtain⟨p,ys,rfl,hq,q⟩:=h
 obtain⟨u,rfl,rx⟩:=a3R r
 cases rx
 have fin:∀(its:List AA),g6 ys its->ys.length<=AK->∀(h':Heap) (c':Nat),(∀b o',s.heap.get? b=some o'->h'.get? b=some o')->
  h'.get? s.heap.objs.size=some {cls:= .type "list",dict:=none,data:= .seq its.toArray c',slots:= #[]}->EP X pins σ Q (.ref s.heap.objs.size) {s with heap:=h'}:=fun its r' hz h' c' kp e=>
  ⟨.ref s.heap.objs.size,_,I.laid (t':=s.toks) kp (AM _) (show B5 X.prog X.w _ h' _ (.lst ys) from⟨hz,its,c',r',e⟩),rfl,q _ (I.hok.fresh (AM _))⟩
 rcases hq with hq|hq
 ·obtain⟨its,r',pl,hz⟩:=I.list hq
  have hlen:=r'.length
  obtain⟨o,ho,hc,n,hd⟩:=pl.isList
  exact call_list_seq p (.inl rfl) ho hc hd (fun h' c' kp e=>fin its r' hz h' c' kp e) (by simp only [Af]<;>lia)
 ·obtain⟨its,r',pl,hz⟩:=I.tuple hq
  have hlen:=r'.length
  obtain⟨o,ho,hc,n,hd⟩:=pl
  exact call_list_seq p (.inr rfl) ho hc hd (fun h' c' kp e=>fin its r' hz h' c' kp e) (by simp only [Af]<;>lia)
def tyV(K:AD)(T:String)(x:V)(H:Hp):Prop:=match x with
 | .str _=>T="str"
 | .int _=>T="int"
 | .ref p=>(T="list"/\∃xs,J2 K H p xs)\/(T="tuple"/\∃o,K.lookup p=some o/\o.cls= .type "tuple"/\o.dict=none)\/
  (T="dict"/\((∃kvs,H p=some (.dK kvs))\/∃kvs,H p=some (.dT kvs)))\/(T="set"/\∃S n,H p=some (.set S n))
 |_=>False
theorem b0J{pins:List (AB×Obj)}{σ:St}{H:Hp}{s:AC}{T:String}{x:V}{v:AA}(I:d9 X pins σ H s)(r:j6 x v)(ty:tyV X.K T x H):
 s.TypeIs v T/\∀a,v= .ref a->∃ob,s.heap.get? a=some ob/\ob.dict=none:=by
 cases x with
 |str z=>
  obtain⟨t,rfl⟩:=r
  cases(show T="str" from ty)
  exact⟨typeIs_str s z t,fun _ e=>nomatch e⟩
 |int i=>
  obtain⟨t,rfl⟩:=r
  cases(show T="int" from ty)
  exact⟨typeIs_int s i t,fun _ e=>nomatch e⟩
 |ref p=>
  cases r
  rcases ty with⟨rfl,xs,hq⟩|⟨rfl,o,hk,hc,hd⟩|⟨rfl,hk⟩|⟨rfl,S,n,hk⟩
  ·obtain⟨its,_,pl,_⟩:=I.list hq
   refine⟨pl.isList.typeIs,fun a e=> ?_⟩
   cases e
   obtain⟨o,n,e,c,hd,_⟩:=pl
   exact⟨o,e,hd⟩
  ·refine⟨⟨o,I.kIn p o hk,hc⟩,fun a e=> ?_⟩
   cases e
   exact⟨o,I.kIn _ o hk,hd⟩
  ·have z:∃o,s.heap.get? p=some o/\o.ExactDict:=by
    rcases hk with⟨kvs,hk⟩|⟨kvs,hk⟩
    ·obtain⟨_,_,_,_,o,_,_,e,ex,_⟩:=I.hok p _ hk
     exact⟨o,e,ex⟩
    ·obtain⟨_,_,_,_,o,_,_,e,ex,_⟩:=I.hok p _ hk
     exact⟨o,e,ex⟩
   obtain⟨o,e,ex⟩:=z
   refine⟨⟨o,e,ex.1⟩,fun a e2=> ?_⟩
   cases e2
   exact⟨o,e,ex.2.1⟩
  ·obtain⟨o,_,_,_,e,ex,_⟩:=I.hok p _ hk
   refine⟨⟨o,e,ex.1⟩,fun a e2=> ?_⟩
   cases e2
   exact⟨o,e,ex.2.1⟩
 |_=>exact False.elim ty
def b47(K:AD)(T:String)(r:V->List V->Hp->VK->Prop)(to:TE):TE:=fun σ H Q=>to σ H fun x H1=>tyV K T x H1/\r x [] H1 Q
def tBM(K:AD)(T:String)(r:V->List V->Hp->VK->Prop)(to:TE)(t:TA):TE:=fun σ H Q=>to σ H fun x H1=>tyV K T x H1/\t σ H1 fun xs H2=>r x xs H2 Q
variable {o e:AE}{es:List AE}{to:TE}{t:TA}{name:Str}{apos cpos:Pos}{T id:String}{r:V->List V->Hp->VK->Prop}
theorem b3s(pa:PlainAttrs T)(slot:Slot T name id)(hty:typeOf (.builtin id)=pure (.type "method_descriptor"))(hm:MtR X id r)(ho:PE X o to)
 (hbase:attributeBase o name X.env (eval o X.env)=eval o X.env:=by rfl) (hline:(apos.endLine==cpos.line)=true:=by rfl):PE X (.Call (.Attribute o name apos) [] [] cpos) (b47 X.K T r to):=by
 intro pins s σ H Q I h
 refine wpAny_Call_method0_late hbase hline (E5 (ho pins s σ H _ I h) fun v s1 ⟨x,H1,I1,r1,ty,q1⟩=> ?_)
 obtain⟨h1,h2⟩:=b0J I1 r1 ty
 exact⟨T,id,pa,slot,hty,h1,h2,Calls.callWith_builtin rfl (PySem.evalArgs_none (hm pins s1 σ H1 x [] v [] Q I1 r1 .nil q1))⟩
theorem b2s(pa:PlainAttrs T)(slot:Slot T name id)(hty:typeOf (.builtin id)=pure (.type "method_descriptor"))(hm:MtR X id r)(ho:PE X o to)(ha:PA X (e::es) t)
 (hbase:attributeBase o name X.env (eval o X.env)=eval o X.env:=by rfl)
 (hfew:((backTo cpos (AN (e::es) X.env)).all (fun x=> !x.1)&&(backToKw cpos (keywordEach [] X.env)).all (fun x=>x.1.isSome)
  && decide ((e::es).length+([]:List Keyword).length+(if([]:List Keyword).isEmpty then 0 else 1)<30))=true:=by rfl)
 (hline:(apos.endLine==cpos.line)=true:=by rfl) (hs:AN (e::es) X.env=(false,eval e X.env)::AN es X.env:=by rfl) (hplain:(backTo cpos (AN es X.env)).any (·.1)=false:=by rfl):
 PE X (.Call (.Attribute o name apos) (e::es) [] cpos) (tBM X.K T r to t):=by
 intro pins s σ H Q I h
 refine wpAny_Call_method_late hbase hfew hline rfl (E5 (ho pins s σ H _ I h) fun v s1 ⟨x,H1,I1,r1,ty,q1⟩=> ?_)
 obtain⟨h1,h2⟩:=b0J I1 r1 ty
 refine⟨T,id,pa,slot,hty,h1,h2, ?_⟩
 have hA:=ha cpos pins s1 σ H1 _ I1 q1
 rw [hs] at hA ⊢
 refine Calls.callWith_builtin (by show(false||(backTo cpos (AN es X.env)).any (·.1))=false;rw [hplain]<;>rfl) (Calls.evalArgs_plain ?_)
 exact E5 hA fun us s2 ⟨vs,H2,I2,r2,q2⟩=>hm pins s2 σ H2 x vs v us Q I2 r1 r2 q2
end
def MtM(X:Cx)(id:String)(r:V->List V->Hp->VK->Prop):Prop:=
 ∀(pins:List (AB×Obj)) (s:AC) (σ:St) (H:Hp) (x:V) (xs:List V) (v:AA) (us:List AA) (Q:VK),d9 X pins σ H s->j6 x v->g6 xs us->r x xs H Q->
  AH (model X.prog X.w) X.A (call (.builtin id) (v::us)) (EP X pins σ Q) X.xe s
theorem g6.one:∀{x:V} {us:List AA},g6 [x] us->∃u,us=[u]/\j6 x u
 |_,_,.cons r .nil=>⟨_,rfl,r⟩
theorem g6.zero:∀{us:List AA},g6 [] us->us=[]
 |_,.nil=>rfl
theorem g6.dropLast{xs:List V}{us:List AA}(h:g6 xs us):g6 xs.dropLast us.dropLast:=by
 induction h with
 |nil=>exact .nil
 |cons r t ih=>
  cases t with
  |nil=>exact .nil
  |cons q t'=>exact .cons r ih
theorem g6.reverse{xs:List V}{us:List AA}(h:g6 xs us):g6 xs.reverse us.reverse:=by
 induction h with
 |nil=>exact .nil
 |cons r t ih=>rw [List.reverse_cons,List.reverse_cons];exact g6.append ih (.cons r .nil)
theorem g6.rep{xs:List V}{us:List AA}(h:g6 xs us):∀k:Nat,g6 (AO k xs).flatten (AO k us).flatten
 |0=> .nil
 |k+1=>by
  rw [AY,AY,List.flatten_cons,List.flatten_cons]
  exact g6.append h (g6.rep h k)
theorem a1K(its:List AA):∀(k:Nat) (acc:List AA),
 List.foldl (fun x1 x2=>x1++x2) acc.toArray (AO k its.toArray)=(acc++(AO k its).flatten).toArray
 |0,acc=>by simp
 |k+1,acc=>by
  have e:acc.toArray++its.toArray=(acc++its).toArray:=by simp
  have e2:(acc++its)++(AO k its).flatten=acc++(AO (k+1) its).flatten:=by
   rw [AY,List.flatten_cons,List.append_assoc]
  rw [<-e2,<-a1K its k (acc++its),<-e,AY,List.foldl_cons]
section
variable {X:Cx}{pins:List (AB×Obj)}{σ:St}{H:Hp}{s:AC}{l b:AB}{xs ys zs:List V}
theorem d9.lset{its its':List AA}{n:Nat}{f:Array AA->Array AA}{t':Nat}(I:d9 X pins σ H s)(hH:H l=some (.lst xs))
 (e:s.heap.get? l=some {cls:= .type "list",data:= .seq its.toArray n}) (hf:f its.toArray=its'.toArray) (hv:g6 ys its') (hz:ys.length<=AK):
 d9 X pins σ (upd H l (.lst ys)) {s with heap:=s.heap.update l (Obj.mapSeq f),toks:=t'}:=by
 have q:=PySem.IsL.update e f
 rw [hf] at q
 refine I.write (x:=l) (e:=l) (by rw [hH];exact trivial) (.inl rfl) (fun b' u hb hu=>(Heap.get?_update_other s.heap (Obj.mapSeq f) (Ne.symm hb)).trans hu) ⟨_,q⟩ ?_
 exact⟨hz,its',_,hv,q⟩
theorem d9.lnew{its:List AA}{t':Nat}(I:d9 X pins σ H s)(hv:g6 ys its)(hz:ys.length<=AK):
 d9 X pins σ (upd H s.heap.objs.size (.lst ys)) {s with heap:=s.heap.push {cls:= .type "list",data:= .seq its.toArray},toks:=t'}:=
 I.laid (fun _ _ q=>Ag _ q) (AM _) ⟨hz,its,0,hv,Ao _ rfl⟩
theorem d9.fresh(I:d9 X pins σ H s):H s.heap.objs.size=none:=I.hok.fresh (AM _)
theorem d9.lstM(I:d9 X pins σ H s)(hH:H l=some (.lst xs)):xs.length<=AK/\∃(its:List AA) (n:Nat),g6 xs its/\xs.length=its.length/\s.heap.get? l=some {cls:= .type "list",data:= .seq its.toArray n}:=by
 obtain⟨z,its,n,r,e⟩:=I.hok l _ hH
 exact⟨z,its,n,r,r.length,e⟩
theorem b0b{n:Nat}(h:n<=AK):Builtin.List.listTooLong n=false:=by
 unfold Builtin.List.listTooLong
 exact decide_eq_false (by lia)
end
section
variable {X:Cx}
def b1N:V->List V->Hp->VK->Prop:=fun x vs H Q=>∃l xs y,x= .ref l/\vs=[y]/\H l=some (.lst xs)/\xs.length<AK/\Q .non (upd H l (.lst (xs++[y])))
theorem a4i:MtM X "list.append" b1N:=by
 intro pins s σ H x vs v us Q I rx rv h
 obtain⟨l,xs,y,rfl,rfl,hH,hz,q⟩:=h
 cases rx
 obtain⟨u,rfl,ru⟩:=rv.one
 obtain⟨z,its,n,r,hl,e⟩:=I.lstM hH
 refine call_meets F.slot_list_append ⟨_,e,rfl⟩ F.entry_list_append (F.args_list_append_2 _ _) (PySem.list_append l its.toArray n u (by rw [Af];lia)) ⟨e, ?_⟩
 refine⟨.non,_,I.lset (its':=its++[u]) hH e (by simp) (r.append (.cons ru .nil)) ?_,rfl,q⟩
 rw [Ad,List.length_singleton]
 lia
def b3H:V->List V->Hp->VK->Prop:=fun x vs H Q=>∃l xs,x= .ref l/\vs=[]/\H l=some (.lst xs)/\Q .non (upd H l (.lst []))
theorem a98:MtM X "list.clear" b3H:=by
 intro pins s σ H x vs v us Q I rx rv h
 obtain⟨l,xs,rfl,rfl,hH,q⟩:=h
 cases rx
 have hus:=rv.zero
 subst hus
 obtain⟨z,its,n,r,hl,e⟩:=I.lstM hH
 refine call_meets F.slot_list_clear ⟨_,e,rfl⟩ F.entry_list_clear (F.args_list_clear_1 _) (AutoSeq1.list_clear_list_0 l its.toArray n (by rw [Af];lia)) ⟨e, ?_⟩
 exact⟨.non,_,I.lset (its':=[]) (ys:=[]) hH e rfl .nil (Nat.zero_le _),rfl,q⟩
def b4Z:R2:=fun x y H Q=>∃l b xs zs,x= .ref l/\y= .ref b/\H l=some (.lst xs)/\H b=some (.lst zs)/\xs.length+zs.length<=AK/\∀p,H p=none->Q (.ref p) (upd H p (.lst (xs++zs)))
theorem b3l:OpR X (binaryOp .Add) b4Z:=by
 intro pins s σ H x y v u Q I rx ry h
 obtain⟨l,b,xs,zs,rfl,rfl,hH,hB,hz,q⟩:=h
 cases rx
 cases ry
 obtain⟨z,its,n,r,hl,e⟩:=I.lstM hH
 obtain⟨z2,its2,n2,r2,hl2,e2⟩:=I.lstM hB
 refine PySem.P.add_list e e2 ?_ (by rw [Af,Af];lia)
 have ea:its.toArray++its2.toArray=(its++its2).toArray:=by simp
 rw [ea]
 exact⟨.ref _,_,I.lnew (t':=s.toks) (r.append r2) (by rw [Ad];lia),rfl,q _ I.fresh⟩
def b43:R2:=fun x y H Q=>∃l k xs,x= .ref l/\y= .int k/\H l=some (.lst xs)/\ -(2 ^ 63)<=k/\k<2 ^ 63/\xs.length*k.toNat<=AK/\
 ∀p,H p=none->Q (.ref p) (upd H p (.lst (AO k.toNat xs).flatten))
theorem a4Z{α:Type}(xs:List α)(k:Nat):(AO k xs).flatten.length=k*xs.length:=by
 induction k with
 |zero=>simp
 |succ k ih=>rw [AY,List.flatten_cons,Ad,ih,Nat.succ_mul,Nat.add_comm]
theorem b3o:OpR X (binaryOp .Mult) b43:=by
 intro pins s σ H x y v u Q I rx ry h
 obtain⟨l,k,xs,rfl,rfl,hH,h1,h2,hz,q⟩:=h
 cases rx
 obtain⟨t,rfl⟩:=ry
 obtain⟨z,its,n,r,hl,e⟩:=I.lstM hH
 have hlen:its.toArray.size*k.toNat<=AK:=by rw [Af,<-hl];exact hz
 have hcap:¬its.toArray.size*k.toNat>(2 ^ 63 - 1)/ 8:=by
  have:(AK:Nat)<=(2 ^ 63 - 1)/ 8:=by decide
  lia
 have hfit:¬(!Builtin.List.listFitsIndex k)=true:=by
  rw [fitsIndex_both h1 h2]
  exact Az
 have hlong:¬Builtin.List.listTooLong (its.toArray.size*k.toNat)=true:=by
  rw [b0b hlen]
  exact Az
 have hnew:List.foldl (fun x1 x2=>x1++x2) #[] (AO (if its.toArray.isEmpty=true then 0 else k.toNat) its.toArray)=(AO k.toNat its).flatten.toArray:=by
  have f0:∀m:Nat,List.foldl (fun x1 x2=>x1++x2) #[] (AO m its.toArray)=(AO m its).flatten.toArray:=fun m=>by
   have:=a1K its m []
   rw [Ae] at this
   exact this
  rw [f0]
  cases its with
  |nil=>simp
  |cons a r'=>rw [if_neg (by simp)]
 refine wpAny_binaryOp_repeat_ref (T:="list") (U:="int") (by decide) ⟨_,e,rfl⟩ (fun s'=>typeIs_int s' k t) noFill_list_mul F.fills_int_mul F.slot_int_rmul repeat_list F.slot_int_index.lookup
  (call_meets F.slot_int_rmul (typeIs_int s k t) F.entry_int_rmul (F.args_int_rmul_2 _ _) (int___rmul___int_list k t l its.toArray n)
   ⟨e,rfl,⟨_,e,rfl⟩,call_meets F.slot_list_mul ⟨_,e,rfl⟩ F.entry_list_mul (F.args_list_mul_2 _ _) (AutoListH.list___mul___list_int_3 l its.toArray n k t hfit hcap hlong) ⟨e, ?_⟩⟩)
 rw [hnew]
 exact⟨.ref _,_,I.lnew (t':=s.toks) (r.rep k.toNat) (by rw [a4Z,Nat.mul_comm];exact hz),rfl,q _ I.fresh⟩
end
section
variable {prog:AI}{w:AG}{A:AJ}{E:AA->AC->Prop}{s:AC}
end
section
variable {X:Cx}
end
end L2
namespace Att
open PySem PySem.W PySem.Calls PyProof.Rows
theorem a2t{P:Params}{h:Heap}:∀(ns:List Int) (vs:List AA),WellAll P h vs (ns.map WData.int)->IntsAre vs ns:=by
 intro ns
 induction ns with
 |nil=>
  intro vs w
  rw [AZ] at w
  cases w
  exact .nil
 |cons n ns ih=>
  intro vs w
  rw [AQ] at w
  cases w with
  |cons a b=>
   cases a
   exact .cons _ _ (ih _ b)
theorem a8X{l:OpenLaw}{n:Nat}(hn:l.most=some n){P:Params}{h:Heap}{args:List WData}{vals:List AA}
 (hpre:l.row.toRowW.claim.pre args=true) (hwl:WellAll P h vals args):
 ∃a vs ns,vals=[Value.ref a]/\args=[WData.list (ns.map WData.int)]/\h.get? a=some {cls:= .type "list",data:= .seq vs.toArray}/\IntsAre vs ns/\ns.length<=n:=by
 have hsh:WShape.hasAll [] args [.list .int]=true:=(pre_splitW hpre).1
 have hc:l.pre.holds [] {args:=args}=true:=(pre_splitW hpre).2
 obtain⟨d,r,rfl,h1,h2⟩:=hasAllW_cons hsh
 obtain rfl:=hasAllW_nil h2
 obtain⟨xs,rfl,h3⟩:=hasW_list h1
 obtain⟨ns,rfl⟩:=items_int h3
 have hlen:ns.length<=n:=by
  unfold OpenLaw.pre at hc
  have h4:(WTm.not (.lt (.lit (.int (n:Int))) (.len (.arg 0)))).holds [] {args:=[.list (ns.map .int)]}=true:=by
   have h4:=(holds_andW hc).1
   rw [hn] at h4
   exact h4
  have h5:=condW_of h4 (w_not (w_lt w_lit (w_len_list (w_arg rfl))))
  rw [Aa] at h5
  refine Nat.le_of_not_lt fun q=> ?_
  have q':(n:Int)<((ns.length:Nat):Int):=by lia
  first
   |(rw [decide_eq_true q'] at h5;exact absurd h5 (by decide))
   |(simp at h5;lia)
 cases hwl with
 |cons w1 w2=>
  cases w2
  cases w1 with
  |list ho hall=>exact⟨_,_,ns,rfl,rfl,ho,a2t ns _ hall,hlen⟩
theorem a8Q(l:OpenLaw)(args:List WData):l.row.toRowW.claim.post args (.bool true) args=true:=
 postW_of (r:=l.row.toRowW) (X:=(true==true))
  (show WShape.has [] (.bool true) .bool=true by first|rfl|decide|simp [WShape.has,WShape.arms,WShape.armsAll])
  (show(WTm.eq .res (.lit (.bool true))).value [] {args:=args,res:=some (.bool true),after:=args}=some (.bool (true==true)) from w_eq_bool (w_res rfl) w_lit) rfl
theorem attach_call{l:OpenLaw}{n:Nat}{q:AI}{loose:List Str}{XP:(Str->Option AA)->Heap->Prop}{YP:AG->Heap->Prop}{d:DefRec}
 (hn:l.most=some n) (hdf:d.params.defaults=[])
 (call:∀(w:AG) (s₀ s₁:AC) (mg mb:Str->Option AA) (fa:AB) (o:Obj) (pm cd doc:AA) (a:AB) (vs:List AA) (ns:List Int),
  Ground q loose [] XP w s₀ mg mb s₁.heap->YP w s₁.heap->
  s₁.heap.get? fa=some o->o.data= .func (docDef d.name d.params d.body d.scope pm cd doc)->s₁.heap.CodeRec cd d.name->mg d.name=some (.ref fa)->
  s₁.heap.get? a=some {cls:= .type "list",data:= .seq vs.toArray}->IntsAre vs ns->ns.length<=n->s₁.gens= #[]->
  codeAny (model l.prog w) callerA (.call (.ref fa) ⟨[.ref a],[]⟩) (fun r s'=>r= .ok (.ret (.bool true))/\OldK s₁.heap s'.heap/\s'.os=s₁.os/\AllBare s'.gens) s₁):
 WalkO q loose XP YP l.row.toRowW d [] (fun f vs=>PySem.call f vs):=by
 intro w s₀ s₁ mg mb G Y fa o pm cd doc dV kV ho hd hcd hD hmg hg args vals as hpre hlay hrd hwl hlo
 obtain rfl:dV= .none:=Dflts.none hD hdf
 obtain rfl:kV= .none:=Dflts.noKw hD
 obtain⟨a,vs,ns,rfl,rfl,hobj,hints,hlen⟩:=a8X hn hpre hwl
 refine enter_call (codeAny_mono (call w s₀ s₁ mg mb fa o pm cd doc a vs ns G Y ho (fd_plain hd) hcd hmg hobj hints hlen hg) fun r s' hq=> ?_)
 obtain⟨rfl,h2,h3,h4⟩:=hq
 exact⟨.inl ⟨.bool true,.bool true,[],rfl,fun _=>rfl,.bool true,a8Q l _,fun _=>⟨List.Pairwise.nil,fun _ hm=>(nomatch hm)⟩⟩,h2,h3,h4⟩
section
variable {prog:AI}{w:AG}{A:AJ}{E:AA->AC->Prop}{s:AC}{K:Frag}
end
end Att
namespace L2
open PySem PySem.Spec PyProof.Rows
theorem a4z:∀{vs:List AA} {ns:List Int},IntsAre vs ns->g6 (ns.map V.int) vs
 |_,_,.nil=> .nil
 |_,_,.cons n t h=> .cons ⟨t,rfl⟩ (a4z h)
def b2v(H:Hp):Prop:=∀b,H b=none\/∃o xs,H b=some (.frz o (.lst xs))
theorem a9T{P:AI}{w:AG}{K:AD}{mg mb:Str->Option AA}{CX:CXT}{k:Nat}{fa a:AB}{fd:FuncData}{x:Str}{sp:Sp}{s₁:AC}{vs:List AA}{ns:List Int}
 (KX:K.In s₁.heap) (hns:s₁.heap.Ns mainGlobals mg) (hb:s₁.heap.Ns builtinsNs mb) (hbb:∀x:Str,x≠"__name__"->mb x=bootBuiltins x) (hlim:s₁.heap.NoLimit) (hg:s₁.gens= #[])
 (ha:s₁.heap.get? a=some {cls:= .type "list",data:= .seq vs.toArray}) (hi:IntsAre vs ns) (hl:ns.length<=AK) (hr:E7 k callerA)
 (F:∀base:Heap,K.In base->base.Ns mainGlobals mg->N6 P w K mg base CX k fa fd [x] sp) (hbind:∀(s:AC) (u:AA),BindsTo s fd ⟨[u],[]⟩ [(x,u)])
 (hsp:∀H:Hp,b2v H->J2 K H a (ns.map V.int)->sp [.ref a] H (fun v _=>v= .bl true) fun _ _ _=>False)
 (hCX:∀H e s',CX [] H s₁ (fun _ _ _=>False) e s'->False):
 codeAny (model P w) callerA (.call (.ref fa) ⟨[.ref a],[]⟩) (fun r s'=>r= .ok (.ret (.bool true))/\OldK s₁.heap s'.heap/\s'.os=s₁.os/\AllBare s'.gens) s₁:=by
 have rv:=a4z hi
 have lenV:=hi.length
 have core:∀H:Hp,b2v H->J2 K H a (ns.map V.int)->HOk P w H s₁.heap->(∀b,H b≠none->b=a)->(H a≠none->K.lookup a=none)->
  codeAny (model P w) callerA (.call (.ref fa) ⟨[.ref a],[]⟩) (fun r s'=>r= .ok (.ret (.bool true))/\OldK s₁.heap s'.heap/\s'.os=s₁.os/\AllBare s'.gens) s₁:=by
  intro H hO hS hok hA hK
  have base_of:∀{b:AB} {o:Obj},s₁.heap.get? b=some o->H b=none->(a4W s₁.heap H).get? b=some o:=fun e n=>a9L e n
  have noA:∀{b:AB} {o:Obj} {es:Array DictEntry} {ep:Nat},s₁.heap.get? b=some o->o.data= .dict es ep->H b=none:=fun {b o es ep} e d=>by
   cases q:H b with
   |none=>rfl
   |some u=>
    have e':b=a:=hA b (by rw [q];simp)
    subst e'
    rw [ha] at e;cases e
    have d':Data.seq vs.toArray _=Data.dict es ep:=d
    cases d'
  have nsK:∀{b:AB} {m:Str->Option AA},s₁.heap.Ns b m->(a4W s₁.heap H).Ns b m:=fun {b m} ⟨o,es,ep,e,d,r⟩=>⟨o,es,ep,base_of e (noA e d),d,r⟩
  have hKb:K.In (a4W s₁.heap H):=fun b o e=>base_of (KX b o e) (by
   cases q:H b with
   |none=>rfl
   |some u=>
    have e':b=a:=hA b (by rw [q];simp)
    subst e'
    rw [hK (by rw [q];simp)] at e;cases e)
  have hM:Mod K mg (a4W s₁.heap H):=⟨hKb,nsK hns,⟨mb,nsK hb,hbb⟩,let ⟨mc,h1,h2⟩:=hlim;⟨mc,nsK h1,h2⟩⟩
  have e0:a6v P w K mg (a4W s₁.heap H) callerA [] s₁ H:=⟨rfl,hM,fun b o e=>b1t e,Nat.le_of_eq (a8p _ _),trivial,fun b hb=>absurd (show b∈([]:List AB) from hb) (by simp),hok,.of_eq hg⟩
  refine codeAny_mono ((F _ hKb (nsK hns)).run callerA [] s₁ H ⟨[.ref a],[]⟩ [.ref a] [.ref a] _ _ hr e0 (hbind s₁ (.ref a)) (.cons rfl .nil) (hsp H hO hS)) fun r s' h=> ?_
  cases r with
  |error e=>exact(hCX H e s' h).elim
  |ok fl=>
   cases fl with
   |next=>exact False.elim h
   |brk=>exact False.elim h
   |cont=>exact False.elim h
   |ret u=>
    obtain⟨v,H',os,bare,un,hok',r',q⟩:=h
    have q':v= .bl true:=q
    subst q'
    obtain rfl:u=Value.bool true:=r'
    refine⟨rfl,OldK.of_keep fun b o e=> ?_,os,bare⟩
    cases q:H b with
    |none=>exact un.keep b o e q (by intro z;exact absurd (show b∈([]:List AB) from z) (by simp)) (by simp)
    |some u=>
     rcases hO b with z|⟨ob,xs,z⟩
     ·rw [q] at z;cases z
     ·have z2:=un.frzs b ob _ z
      obtain⟨e1,_⟩:=hok b _ z
      obtain⟨e2,_⟩:=hok' b _ z2
      rw [e] at e1;cases e1
      exact e2
 cases hk:K.lookup a with
 |some o=>
  have e:=KX a o hk
  rw [ha] at e
  cases e
  refine core (fun _=>none) (fun _=> .inl rfl) (.inr ⟨_,vs.toArray,_,hk,rfl,rfl,rfl,by rw [Af,lenV];exact hl,by simpa using rv⟩) (fun b u z=>by have z':(none:Option HO)=some u:=z;cases z') (fun b z=>absurd rfl z) fun z=>absurd rfl z
 |none=>
  refine core (fun b=>if b=a then some (.frz {cls:= .type "list",data:= .seq vs.toArray} (.lst (ns.map V.int))) else none) (fun b=> ?_) (.inl (.inr ⟨{cls:= .type "list",data:= .seq vs.toArray},if_pos rfl⟩)) (fun b u z=> ?_) (fun b z=> ?_) fun _=>hk
  ·by_cases hb:b=a
   ·exact .inr ⟨_,_,if_pos hb⟩
   ·exact .inl (if_neg hb)
  ·by_cases hb:b=a
   ·have z':=(if_pos hb).symm.trans z
    cases z'
    subst hb
    exact⟨ha,by rw [Aa];exact hl,vs,_,rv,ha⟩
   ·have z':=(if_neg hb).symm.trans z
    cases z'
  ·by_cases hb:b=a
   ·exact hb
   ·exact absurd (if_neg hb) z
theorem b2b{l:PySem.W.OpenLaw}{n k:Nat}{q:AI}{loose:List Str}{XP:(Str->Option AA)->Heap->Prop}{YP:AG->Heap->Prop}{d:DefRec}{K:Params->AD}{CX:AG->CXT}{sp:AG->Sp}{x:Str}
 (hn:l.most=some n) (hn2:n<=AK) (hdf:d.params.defaults=[]) (hr:E7 k callerA)
 (hY:∀(w:AG) (h:Heap),YP w h->(K w.params).In h)
 (F:∀(w:AG) (mg:Str->Option AA) (fa:AB) (h:Heap),(K w.params).In h->h.Ns mainGlobals mg->mg d.name=some (.ref fa)->
  ∃fd:FuncData,(∀(s:AC) (u:AA),BindsTo s fd ⟨[u],[]⟩ [(x,u)])/\
   ∀base:Heap,(K w.params).In base->base.Ns mainGlobals mg->N6 l.prog w (K w.params) mg base (CX w) k fa fd [x] (sp w))
 (hsp:∀(w:AG) (H:Hp) (a:AB) (ns:List Int),ns.length<=n->b2v H->J2 (K w.params) H a (ns.map V.int)->sp w [.ref a] H (fun v _=>v= .bl true) fun _ _ _=>False)
 (hCX:∀(w:AG) (H:Hp) (s:AC) (e:AA) (s':AC),CX w [] H s (fun _ _ _=>False) e s'->False):
 PySem.W.WalkO q loose XP YP l.row.toRowW d [] (fun f vs=>PySem.call f vs):=by
 refine Att.attach_call hn hdf fun w s₀ s₁ mg mb fa o pm cd doc a vs ns G Y ho hd hcd hmg hobj hints hlen hg=> ?_
 have KX:=hY w _ Y
 obtain⟨fd,hb,hF⟩:=F w mg fa _ KX G.T.g hmg
 exact a9T KX G.T.g G.T.b G.T.builtins G.T.nolimit hg hobj hints (Nat.le_trans hlen hn2) hr hF hb (fun H hO hS=>hsp w H a ns hlen hO hS) fun H e s'=>hCX w H s₁ e s'
def L0(s:Stmt):Arguments:=match s with
 | .FunctionDef _ a _ _ _ _ _ _ _ _=>a
 |_=>{posonlyargs:=[],args:=[],vararg:=none,kwonlyargs:=[],kw_defaults:=[],kwarg:=none,defaults:=[]}
def A8(s:Stmt):List Stmt:=match s with
 | .FunctionDef _ _ b _ _ _ _ _ _ _=>b
 |_=>[]
def c9(s:Stmt):Scope:=match s with
 | .FunctionDef _ _ _ _ _ _ sc _ _ _=>sc
 |_=>{kind:= .function,names:=[],isGenerator:=false,isCoroutine:=false}
abbrev CX0:CXT:=fun _ _ _ _ _ _=>False
abbrev E0:XK:=fun _ _ _=>False
theorem a6f{X:Cx}:a6x CX0 X E0:=fun _ _ _ _ _ _ _ h=>h.elim
structure Fun(K:AD)(x qual:Str)(st:Stmt)(f:AB)(fd:FuncData):Prop where
 ex:∃(oc:AA) (od:Option AB) (kV doc pm:AA) (an:Option AB) (cdv ct:AA) (osl:Array (Option AA)),
  fd=PySem.W.fnOf x qual (L0 st) (A8 st) (c9 st) .none kV doc pm an cdv ct/\K.lookup f=some ⟨oc,od,.func fd,osl⟩/\PySem.W.codeIn K cdv qual=true
 kp:PySem.W.keepIn K (.ref f)=true
section
variable {P:AI}{w:AG}{K:AD}{mg:Str->Option AA}{base:Heap}
theorem Fun.ok{x qual:Str}{st:Stmt}{f:AB}{fd:FuncData}{N ps:List Str}{k:Nat}{sp:Sp}(F:Fun K x qual st f fd)(S:i8 N ps (c9 st))(len:∀vs H Q E,sp vs H Q E->vs.length=ps.length)
 (hbody:∀(cdv:AA) (A:AJ) (outer:List Env) (s:AC) (H:Hp) (vs:List V) (Q:VK) (E:XK),E7 k (A.deeper (envOfC qual (c9 st) s.heap.objs.size f cdv))->sp vs H Q E->
  ∃t,PSs (a4J CX0 P w K mg base N qual (c9 st) f cdv A outer s H E).nox (A8 st) t/\t {nx:=fun _ H'=>Q .non H',rt:=Q} (U0 N vs) H):N6 P w K mg base CX0 (k+1) f fd ps sp:=by
 obtain⟨oc,od,kV,doc,pm,an,cdv,ct,osl,rfl,lk,hcd⟩:=F.ex
 refine b4c lk hcd S len fun A outer s H vs Q E hr hsp=> ?_
 obtain⟨t,h,q⟩:=hbody cdv A outer s H vs Q E hr hsp
 exact⟨t,h.nox,q⟩
theorem Fun.binds{x qual:Str}{st:Stmt}{f:AB}{fd:FuncData}{ps:List Str}(F:Fun K x qual st f fd)
 (h:∀(kV doc pm:AA) (an:Option AB) (cdv ct:AA) (us:List AA),us.length=ps.length->bindArgs (PySem.W.fnOf x qual (L0 st) (A8 st) (c9 st) .none kV doc pm an cdv ct) ⟨us,[]⟩=pure (ps.zip us)):a0x K fd ps []:=by
 obtain⟨oc,od,kV,doc,pm,an,cdv,ct,osl,rfl,lk,hcd⟩:=F.ex
 exact .all (h kV doc pm an cdv ct)
theorem b2V{x qual:Str}{st:Stmt}{f:AB}{oc:AA}{od an:Option AB}{osl:Array (Option AA)}{kV doc pm cdv ct:AA}(l:K.lookup f=some ⟨oc,od,.func (PySem.W.fnOf x qual (L0 st) (A8 st) (c9 st) .none kV doc pm an cdv ct),osl⟩)
 (c:PySem.W.codeIn K cdv qual=true) (k:PySem.W.keepIn K (.ref f)=true):Fun K x qual st f (PySem.W.fnOf x qual (L0 st) (A8 st) (c9 st) .none kV doc pm an cdv ct):=⟨⟨oc,od,kV,doc,pm,an,cdv,ct,osl,rfl,l,c⟩,k⟩
end
section
variable {X:Cx}
theorem pv(i:Nat){x:Str}{pos:Pos}(hN:X.N[i]?=some x:=by rfl)(hv:Vis X.env.scope x:=by first|exact Or.inl rfl|exact Or.inr (Or.inl rfl)|exact Or.inr (Or.inr rfl))(hd:(x==("__debug__":Str))=false:=by decide)
 (hcd:(x==("__classdict__":Str))=false:=by decide):PE X (.Name x pos) (a0w i):=b3y hN hv hd hcd
end
theorem a6S{A B:Prop}(h:B):if false=true then A else B:=by
 rw [if_neg Az]
 exact h
theorem a6T{A B:Prop}(h:A):if true=true then A else B:=by
 rw [if_pos rfl]
 exact h
def d6(H H':Hp):Prop:=∀b o,H b=some o->H' b=some o
theorem d6.refl(H:Hp):d6 H H:=fun _ _ h=>h
theorem d6.trans{H H1 H2:Hp}(a:d6 H H1)(b:d6 H1 H2):d6 H H2:=fun c o h=>b c o (a c o h)
theorem d6.free{H H':Hp}(e:d6 H H'){l:AB}(h:H' l=Option.none):H l=Option.none:=by
 cases q:H l with
 |none=>rfl
 |some o=>
  rw [e l o q] at h
  cases h
theorem d6.seq{K:AD}{H H':Hp}{a:AB}{xs:List V}(e:d6 H H')(h:J2 K H a xs):J2 K H' a xs:=by
 rcases h with(h|⟨o,h⟩)|h
 ·exact .inl (.inl (e _ _ h))
 ·exact .inl (.inr ⟨o,e _ _ h⟩)
 ·exact .inr h
section
variable (P:AI)(w:AG)
end
section
variable {P:AI}{w:AG}{H H':Hp}{h h':Heap}{a:AB}{o:HO}
end
section
variable {P:AI}{w:AG}{H:Hp}{h h':Heap}{x e:AB}{o':HO}
end
section
variable {fs fs' ex ex':List AB}{H H1 H2:Hp}{h h1 h2 h':Heap}{a x e:AB}{o:HO}
end
section
variable {X:Cx}{pins:List (AB×Obj)}{σ:List (Option V)}{H H':Hp}{s:AC}{h':Heap}
end
section
variable {X:Cx}
variable {a b:AE}{ta tb:TE}{pos:Pos}
variable {tA tB':TT}{k4:List AE}
end
section
variable {X:Cx}{pins:List (AB×Obj)}{σ:St}{H:Hp}{s:AC}{a:AB}{xs ys:List V}
end
section
variable {X:Cx}{pins:List (AB×Obj)}{σ:St}{H:Hp}{s:AC}{E:AA->AC->Prop}
end
section
variable {X:Cx}{st:Stmt}{k4:List Stmt}{t u:TS}{e:AE}{te:TE}{pos:Pos}
end
section
variable {X:Cx}{pos:Pos}
end
section
variable {X:Cx}{pos:Pos}
end
section
variable {X:Cx}{tg:AE}
end
section
variable {X:Cx}{a b c:AE}{ta tb tc:TE}{pos:Pos}
end
section
variable {X:Cx}{a b c:AE}{ta tb tc:TE}{pos:Pos}
end
section
variable {prog:AI}{w:AG}{A:AJ}{E:AA->AC->Prop}{s:AC}{K:AD}{x dx C f:AB}{mA:Str->Option AA}{name:Str}{v:AA}
end
section
variable {P:AI}{w:AG}{H H':Hp}{h h':Heap}{a C dx:AB}{fs fs':List (Str×V)}
end
section
variable {X:Cx}{pins:List (AB×Obj)}{σ:St}{H:Hp}{s:AC}{a C dx:AB}{fs:List (Str×V)}{f:Str}{v:V}{A:AJ}{E:AA->AC->Prop}
end
section
variable {X:Cx}{o e value:AE}{f:Str}{pos pos' tpos:Pos}{ta tv:TE}
end
section
variable {X:Cx}{pins:List (AB×Obj)}{σ:St}{H:Hp}{s:AC}{A:AJ}{E:AA->AC->Prop}{Q:AA->AC->Prop}{c:AA}{b:Bool}
end
section
variable {X:Cx}{e:AE}{es:List AE}{te:TE}{t:TA}{pos:Pos}
end
section
variable {X:Cx}{pins:List (AB×Obj)}{σ:St}{H:Hp}{s s':AC}
end
section
variable {X:Cx}{CX:CXT}{k:Nat}{f C:AB}{fd:FuncData}{ps:List Str}{sp:Sp}{dvs:List V}{ds:List AA}{E:XK}{x m:Str}{p pos apos:Pos}{e o:AE}{es:List AE}{ta:TE}{t:TA}
end
section
variable {X:Cx}{CX:CXT}{k:Nat}{f C:AB}{fd:FuncData}{ps ks:List Str}{sp:Sp}{E:XK}{x m:Str}{p pos apos kpos:Pos}{e o:AE}{es:List AE}{kws:List Keyword}{te ta:TE}{t tk:TA}{nm:Option Str}
variable {g:List AA->List AA->List AA}{gV:List V->List V->List V}
end
section
variable {X:Cx}{x:Str}{p pos:Pos}{e:AE}{es:List AE}{t:TA}{id T:String}{r:List V->Hp->VK->Prop}
end
section
variable {κ:Type}[DecidableEq κ]
def R7(kvs:List (κ×V))(k:κ):Option V:=(kvs.find? fun kv=>decide (kv.1=k)).map (·.2)
def K5(kvs:List (κ×V))(k:κ)(v:V):List (κ×V):=
 if(kvs.any fun kv=>decide (kv.1=k))=true then kvs.map (fun kv=>if kv.1=k then(kv.1,v) else kv) else kvs++[(k,v)]
def b2g(kvs:List (κ×V))(k:κ):List (κ×V):=kvs.filter fun kv=>decide (kv.1≠k)
theorem U2{p:κ×V}{r:List (κ×V)}{k:κ}(e:p.1=k):R7 (p::r) k=some p.2:=by simp [R7,List.find?_cons,e]
theorem U1{p:κ×V}{r:List (κ×V)}{k:κ}(e:¬p.1=k):R7 (p::r) k=R7 r k:=by simp [R7,List.find?_cons,e]
theorem a6s(k:κ):∀kvs:List (κ×V),(kvs.any fun kv=>decide (kv.1=k))=(R7 kvs k).isSome
 |[]=>rfl
 |p::r=>by
  rw [List.any_cons]
  by_cases e:p.1=k
  ·simp only [U2 e,decide_eq_true e,Bool.true_or,Option.isSome_some]
  ·rw [U1 e,decide_eq_false e,Bool.false_or];exact a6s k r
theorem Q3(kvs:List (κ×V))(k:κ)(v:V):(K5 kvs k v).length<=kvs.length+1:=by
 unfold K5
 split
 ·rw [Aa];lia
 ·rw [Ad,AW,Aj];lia
theorem a0Y.isSome_eq{o:Option V}{u:Option AA}(r:a0Y o u):o.isSome=u.isSome:=by
 cases o with
 |none=>cases u with
  |none=>rfl
  |some _=>exact(show False from r).elim
 |some _=>cases u with
  |none=>exact(show False from r).elim
  |some _=>rfl
theorem a0Y.getD{o:Option V}{u:Option AA}{d:V}{d':AA}(r:a0Y o u)(rd:j6 d d'):j6 (o.getD d) (u.getD d'):=by
 cases o with
 |none=>cases u with
  |none=>exact rd
  |some _=>exact(show False from r).elim
 |some _=>cases u with
  |none=>exact(show False from r).elim
  |some _=>exact r
theorem KV.val{kvs:List (κ×V)}{vs:List (κ×AA)}(r:KV kvs vs)(k:κ):a0Y (R7 kvs k) (valueAt vs k):=by
 unfold KV at r
 induction r with
 |nil=>exact True.intro
 | @cons p q ps qs h t ih=>
   obtain⟨h1,h2⟩:=h
   by_cases e:p.1=k
   ·have e':q.1=k:=h1.symm.trans e
    have b:valueAt (q::qs) k=some q.2:=by simp [valueAt,List.find?_cons,e']
    rw [U2 e,b];exact h2
   ·have e':¬q.1=k:=fun z=>e (h1.trans z)
    have b:valueAt (q::qs) k=valueAt qs k:=by simp [valueAt,List.find?_cons,e']
    rw [U1 e,b];exact ih
theorem KV.any{kvs:List (κ×V)}{vs:List (κ×AA)}(r:KV kvs vs)(k:κ):(kvs.any fun kv=>decide (kv.1=k))=vs.any fun kv=>decide (kv.1=k):=by
 unfold KV at r
 induction r with
 |nil=>rfl
 |cons h t ih=>rw [List.any_cons,List.any_cons,ih,h.1]
theorem KV.repl{kvs:List (κ×V)}{vs:List (κ×AA)}(r:KV kvs vs)(k:κ){y:V}{u:AA}(ry:j6 y u):
 KV (kvs.map fun kv=>if kv.1=k then(kv.1,y) else kv) (vs.map fun kv=>if kv.1=k then(kv.1,u) else kv):=by
 unfold KV at r ⊢
 induction r with
 |nil=>exact .nil
 | @cons p q ps qs h t ih=>
   rw [AQ,AQ]
   refine .cons ?_ ih
   obtain⟨h1,h2⟩:=h
   by_cases e:p.1=k
   ·rw [if_pos e,if_pos (h1.symm.trans e)];exact⟨h1,ry⟩
   ·rw [if_neg e,if_neg (fun z=>e (h1.trans z))];exact⟨h1,h2⟩
theorem KV.put{kvs:List (κ×V)}{vs:List (κ×AA)}(r:KV kvs vs)(k:κ){y:V}{u:AA}(ry:j6 y u):KV (K5 kvs k y) (stored vs k u):=by
 unfold K5 stored
 rw [r.any k]
 by_cases e:(vs.any fun kv=>decide (kv.1=k))=true
 ·rw [if_pos e,if_pos e];exact r.repl k ry
 ·rw [if_neg e,if_neg e];exact Paired.snoc r ⟨rfl,ry⟩
theorem KV.drop{kvs:List (κ×V)}{vs:List (κ×AA)}(r:KV kvs vs)(k:κ):KV (b2g kvs k) (without vs k):=by
 unfold KV at r ⊢
 unfold b2g without
 induction r with
 |nil=>exact .nil
 | @cons p q ps qs h t ih=>
   obtain⟨h1,h2⟩:=h
   rw [List.filter_cons,List.filter_cons]
   by_cases e:p.1=k
   ·have a:¬decide (p.1≠k)=true:=by simp [e]
    have b:¬decide (q.1≠k)=true:=by simp [h1.symm.trans e]
    rw [if_neg a,if_neg b];exact ih
   ·have e':¬q.1=k:=fun z=>e (h1.trans z)
    have a:decide (p.1≠k)=true:=by simp [e]
    have b:decide (q.1≠k)=true:=by simp [e']
    rw [if_pos a,if_pos b];exact .cons ⟨h1,h2⟩ ih
theorem KV.keys{kvs:List (κ×V)}{vs:List (κ×AA)}(r:KV kvs vs):kvs.map (·.1)=vs.map (·.1):=by
 unfold KV at r
 induction r with
 |nil=>rfl
 |cons h t ih=>rw [AQ,AQ,ih,h.1]
theorem KV.length{kvs:List (κ×V)}{vs:List (κ×AA)}(r:KV kvs vs):kvs.length=vs.length:=Paired.length r
end
theorem a5U{P:AI}{w:AG}{k:d5}{u:AA}(r:j6 (kV k) u):(z5 P w).is k u=true:=by
 cases k with
 |inl i=>obtain⟨t,e⟩:=(show ∃t,u=Value.int i t from r);subst e;exact a53 P w i t
 |inr x=>obtain⟨t,e⟩:=(show ∃t,u=Value.str x t from r);subst e;exact a54 P w x t
theorem a6U{a b:d5}(e:kV a=kV b):a=b:=by
 cases a with
 |inl i=>cases b with
  |inl j=>have e':V.int i=V.int j:=e;injection e' with e';rw [e']
  |inr y=>exact nomatch (show V.int i=V.str y from e)
 |inr x=>cases b with
  |inl j=>exact nomatch (show V.str x=V.int j from e)
  |inr y=>have e':V.str x=V.str y:=e;injection e' with e';rw [e']
theorem a2F:∀{a b:List d5},a.map kV=b.map kV->a=b
 |[],[],_=>rfl
 |[],_::_,e=>by simp at e
 |_::_,[],e=>by simp at e
 |x::xs,y::ys,e=>by
  rw [AQ,AQ] at e
  injection e with e1 e2
  rw [a6U e1,a2F e2]
theorem a4f{P:AI}{w:AG}:∀{ks:List d5} {us:List AA},g6 (ks.map kV) us->ItemsAre (z5 P w) ks us
 |[],_,r=>by rw [AZ] at r;cases r;exact .nil
 |k::ks,_,r=>by
  rw [AQ] at r
  cases r with
  |cons h t=>exact .cons (a5U h) (a4f t)
abbrev KT(H:Hp):List (List d5×V)->List (List d5×AB×AA)->Prop:=Paired fun p q=>p.1=q.1/\H q.2.1=some (.tup (p.1.map kV))/\j6 p.2 q.2.2
theorem KT.val{H:Hp}{kvs:List (List d5×V)}{xs:List (List d5×AB×AA)}(r:KT H kvs xs)(k:List d5):a0Y (R7 kvs k) ((atKey xs k).map (·.2)):=by
 induction r with
 |nil=>exact True.intro
 | @cons p q ps qs h t ih=>
   obtain⟨h1,_,h2⟩:=h
   by_cases e:p.1=k
   ·have e':q.1=k:=h1.symm.trans e
    have b:atKey (q::qs) k=some q.2:=by simp [atKey,List.find?_cons,e']
    rw [U2 e,b];exact h2
   ·have e':¬q.1=k:=fun z=>e (h1.trans z)
    have b:atKey (q::qs) k=atKey qs k:=by simp [atKey,List.find?_cons,e']
    rw [U1 e,b];exact ih
theorem KT.repl{H:Hp}{kvs:List (List d5×V)}{xs:List (List d5×AB×AA)}(r:KT H kvs xs)(k:List d5){y:V}{u:AA}(ry:j6 y u):
 KT H (kvs.map fun kv=>if kv.1=k then(kv.1,y) else kv) (xs.map (putAt k u)):=by
 induction r with
 |nil=>exact .nil
 | @cons p q ps qs h t ih=>
   rw [AQ,AQ]
   refine .cons ?_ ih
   obtain⟨h1,h2,h3⟩:=h
   unfold putAt
   by_cases e:p.1=k
   ·rw [if_pos e,if_pos (h1.symm.trans e)];exact⟨h1,h2,ry⟩
   ·rw [if_neg e,if_neg (fun z=>e (h1.trans z))];exact⟨h1,h2,h3⟩
theorem KT.put{H:Hp}{kvs:List (List d5×V)}{xs:List (List d5×AB×AA)}(r:KT H kvs xs)(k:List d5){b:AB}{y:V}{u:AA}(hb:H b=some (.tup (k.map kV)))(ry:j6 y u):
 KT H (K5 kvs k y) (storedH xs k b u):=by
 have e:(kvs.any fun kv=>decide (kv.1=k))=(atKey xs k).isSome:=by
  rw [a6s,(r.val k).isSome_eq,Option.isSome_map]
 unfold K5 storedH
 rw [e]
 by_cases q:(atKey xs k).isSome=true
 ·rw [if_pos q,if_pos q];exact r.repl k ry
 ·rw [if_neg q,if_neg q];exact Paired.snoc r ⟨rfl,hb,ry⟩
theorem KT.keeps{H H':Hp}{kvs:List (List d5×V)}{xs:List (List d5×AB×AA)}(r:KT H kvs xs)(ht:∀b ys,H b=some (.tup ys)->H' b=some (.tup ys)):KT H' kvs xs:=
 Paired.mapP r fun _ _ z=>⟨z.1,ht _ _ z.2.1,z.2.2⟩
section
variable {P:AI}{w:AG}{H:Hp}{h:Heap}{a:AB}
theorem b2t{u:HO}(ok:HOk P w H h)(e:Rd H a u):B5 P w H h a u:=e.ok ok
theorem a7q{kvs:List (d5×V)}(ok:HOk P w H h)(e:Rd H a (.dK kvs)):kvs.length<=AK/\(a==sysModules)=false/\∃vs,KV kvs vs/\h.DictOf (z5 P w) a vs:=
 show B5 P w H h a (.dK kvs) from b2t ok e
theorem b2f{kvs:List (d5×V)}(ok:HOk P w H h)(e:H a=some (.dK kvs)):kvs.length<=AK/\(a==sysModules)=false/\∃vs,KV kvs vs/\h.DictOf (z5 P w) a vs:=a7q ok (.inl e)
theorem a4Y{ks:List d5}(ok:HOk P w H h)(e:H a=some (.tup (ks.map kV))):(tupleKind (z5 P w)).is h ks a:=by
 obtain⟨_,its,r,o,h1,h2,n,h3⟩:=(show B5 P w H h a (.tup (ks.map kV)) from ok a _ e)
 exact⟨o,its.toArray,n,h1,h2,h3,by simpa using a4f r⟩
theorem a7t{kvs:List (List d5×V)}(ok:HOk P w H h)(e:Rd H a (.dT kvs)):kvs.length<=AK/\(a==sysModules)=false/\
 ∃xs,KT H kvs xs/\h.DictOfH (tupleKind (z5 P w)) a xs:=by
 obtain⟨z,y,xs,r,o,es,ep,h1,h2,h3,h4,h5⟩:=(show B5 P w H h a (.dT kvs) from b2t ok e)
 refine⟨z,y,xs,r,o,es,ep,h1,h2,h3,h4,fun x hx=> ?_,h5⟩
 have all:∀{l:List (List d5×V)} {m:List (List d5×AB×AA)},KT H l m->∀x∈m,(tupleKind (z5 P w)).is h x.1 x.2.1:=by
  intro l m q
  induction q with
  |nil=>intro x hx;exact nomatch hx
  | @cons p q ps qs hq t ih=>
    intro x hx
    rcases Ap.mp hx with e|hx
    ·subst e
     exact a4Y ok (by rw [<-hq.1];exact hq.2.1)
    ·exact ih x hx
 exact all r x hx
theorem b34{kvs:List (List d5×V)}(ok:HOk P w H h)(e:H a=some (.dT kvs)):kvs.length<=AK/\(a==sysModules)=false/\
 ∃xs,KT H kvs xs/\h.DictOfH (tupleKind (z5 P w)) a xs:=a7t ok (.inl e)
end
def a0V(H:Hp)(a:AB)(y:V)(r:Option V):Prop:=
 (∃kvs k,Rd H a (.dK kvs)/\y=kV k/\r=R7 kvs k)\/∃kvs k b,Rd H a (.dT kvs)/\y= .ref b/\H b=some (.tup (k.map kV))/\r=R7 kvs k
def a5n(H:Hp)(a:AB)(y v:V)(H':Hp):Prop:=
 (∃kvs k,H a=some (.dK kvs)/\y=kV k/\kvs.length<AK/\H'=upd H a (.dK (K5 kvs k v)))\/
 ∃kvs k b,H a=some (.dT kvs)/\y= .ref b/\H b=some (.tup (k.map kV))/\kvs.length<AK/\H'=upd H a (.dT (K5 kvs k v))
theorem a0V.k{H:Hp}{a:AB}{kvs:List (d5×V)}{k:d5}(e:H a=some (.dK kvs)):a0V H a (kV k) (R7 kvs k):= .inl ⟨kvs,k,.inl e,rfl,rfl⟩
theorem a0V.t{H:Hp}{a b:AB}{kvs:List (List d5×V)}{k:List d5}(e:H a=some (.dT kvs))(eb:H b=some (.tup (k.map kV))):a0V H a (.ref b) (R7 kvs k):= .inr ⟨kvs,k,b,.inl e,rfl,eb,rfl⟩
theorem a5n.k{H:Hp}{a:AB}{kvs:List (d5×V)}{k:d5}{v:V}(e:H a=some (.dK kvs))(hl:kvs.length<AK):a5n H a (kV k) v (upd H a (.dK (K5 kvs k v))):= .inl ⟨kvs,k,e,rfl,hl,rfl⟩
theorem a5n.t{H:Hp}{a b:AB}{kvs:List (List d5×V)}{k:List d5}{v:V}(e:H a=some (.dT kvs))(eb:H b=some (.tup (k.map kV)))(hl:kvs.length<AK):
 a5n H a (.ref b) v (upd H a (.dT (K5 kvs k v))):= .inr ⟨kvs,k,b,e,rfl,eb,hl,rfl⟩
section
variable {X:Cx}{pins:List (AB×Obj)}{σ:St}{H:Hp}{s:AC}{a:AB}{y v:V}{u r:AA}{o:Option V}{A:AJ}{E:AA->AC->Prop}
theorem d9.big(I:d9 X pins σ H s):sysModules<s.heap.objs.size:=by
 have h:mainGlobals<s.heap.objs.size:=(I.mod.glob.keeps I.bk).lt
 exact Nat.lt_trans (by decide) h
theorem a8e{Q:AA->AC->Prop}(hu:A.units+1<cLine)(I:d9 X pins σ H s)(g:a0V H a y (some v))(ry:j6 y u)(h:∀w' s',d9 X pins σ H s'->j6 v w'->Q w' s'):
 AH (model X.prog X.w) A (getItem (.ref a) u) Q E s:=by
 rcases g with⟨kvs,k,e,ey,l⟩|⟨kvs,k,b,e,ey,eb,l⟩
 ·subst ey
  obtain⟨z,hd,vs,rel,dd⟩:=a7q I.hok e
  obtain⟨w',hw,rw'⟩:=a0Y.some_of (v:=v) (o:=valueAt vs k) (by rw [l];exact rel.val k)
  exact wpAny_getItem_of (a5U ry) dd.mapOf hw (h w' _ (I.tok _) rw')
 ·subst ey
  cases(show u=Value.ref b from ry)
  obtain⟨z,hd,xs,rel,dd⟩:=a7t I.hok e
  obtain⟨w',hw,rw'⟩:=a0Y.some_of (v:=v) (o:=(atKey xs k).map (·.2)) (by rw [l];exact rel.val k)
  obtain⟨p,hp,hp2⟩:=Option.map_eq_some_iff.mp hw
  refine wpAny_getItem_heap (tupleKind_room_in1 hu) (a4Y I.hok eb) dd hp ?_
  rw [hp2]
  exact h w' _ (I.tok _) rw'
theorem b04{Q:AA->AC->Prop}(hu:A.units+1<cLine)(I:d9 X pins σ H s)(g:a0V H a y o)(ry:j6 y u)(h:∀s',d9 X pins σ H s'->Q (.bool (!o.isSome)) s'):
 AH (model X.prog X.w) A (compareOp .NotIn u (.ref a)) Q E s:=by
 rcases g with⟨kvs,k,e,ey,l⟩|⟨kvs,k,b,e,ey,eb,l⟩
 ·subst ey
  obtain⟨z,hd,vs,rel,dd⟩:=a7q I.hok e
  refine wpAny_notIn_of (a5U ry) hd dd.mapOf ?_
  rw [<-(rel.val k).isSome_eq,<-l]
  exact h _ (I.tok _)
 ·subst ey
  cases(show u=Value.ref b from ry)
  obtain⟨z,hd,xs,rel,dd⟩:=a7t I.hok e
  refine wpAny_notIn_heap (tupleKind_room_in1 hu) (a4Y I.hok eb) hd dd ?_
  have q:=(rel.val k).isSome_eq
  rw [Option.isSome_map] at q
  rw [<-q,<-l]
  exact h _ (I.tok _)
theorem a4K{h':Heap}{t':Nat}{ob:HO}(I:d9 X pins σ H s)(mu:Mut (H a))(hs:Heap.SameBut a s.heap h')(he:∃q,h'.get? a=some q)(new:B5 X.prog X.w (upd H a ob) h' a ob):
 d9 X pins σ (upd H a ob) {s with heap:=h',toks:=t'}:=
 I.write (x:=a) (e:=a) mu (.inl rfl) (fun b q hb z=>(hs.2 b hb).trans z) he new
theorem a9o{P:AI}{w:AG}{H':Hp}{h':Heap}{kvs:List (d5×V)}{vs:List (d5×AA)}(z:kvs.length<=AK)(hd:(a==sysModules)=false)(rel:KV kvs vs)(dd:h'.DictOf (z5 P w) a vs):
 B5 P w H' h' a (.dK kvs):=⟨z,hd,vs,rel,dd⟩
theorem a8f{H':Hp}{Q:Unit->AC->Prop}(hu:A.units+1<cLine)(I:d9 X pins σ H s)(g:a5n H a y v H')(ry:j6 y u)(rv:j6 v r)(h:∀s',d9 X pins σ H' s'->Q () s'):
 AH (model X.prog X.w) A (setItem (.ref a) u r) Q E s:=by
 rcases g with⟨kvs,k,e,ey,l,eH⟩|⟨kvs,k,b,e,ey,eb,l,eH⟩
 ·subst ey eH
  obtain⟨z,hd,vs,rel,dd⟩:=b2f I.hok e
  have hz:vs.length<=AK:=by rw [<-rel.length];exact z
  have hl:(K5 kvs k v).length<=AK:=by have:=Q3 kvs k v;lia
  refine wpAny_setItem_pairs (hsz:=hz) (a5U ry) dd fun h' dd' hs=>h _ ?_
  have he:∃q,h'.get? a=some q:=let ⟨q,_,_,hq,_⟩:=dd';⟨q,hq⟩
  exact a4K I (by rw [e];exact True.intro) hs he (a9o hl hd (rel.put k rv) dd')
 ·subst ey eH
  cases(show u=Value.ref b from ry)
  obtain⟨z,hd,xs,rel,dd⟩:=b34 I.hok e
  have hz:xs.length<=AK:=by rw [<-Paired.length rel];exact z
  have hl:(K5 kvs k v).length<=AK:=by have:=Q3 kvs k v;lia
  refine wpAny_setItem_heap (hsz:=hz) (tupleKind_room_in1 hu) (a4Y I.hok eb) dd fun h' dd' hs=>h _ ?_
  obtain⟨q,es,ep,hq,h2,h3,h4,_,h5⟩:=dd'
  refine a4K I (by rw [e];exact True.intro) hs ⟨q,hq⟩ ⟨hl,hd,_,(rel.put k eb rv).keeps fun c ys ec=> ?_,q,es,ep,hq,h2,h3,h4,h5⟩
  rw [d3 (M6 ec e (fun z=>nomatch z))]
  exact ec
end
section
variable {X:Cx}{pins:List (AB×Obj)}{σ:St}{H:Hp}{s:AC}{a:AB}{kvs:List (d5×V)}{k:d5}{u:AA}{A:AJ}{E:AA->AC->Prop}
end
def a87(i:AE):Prop:=∀ov iv,subscripted i false ov iv=operate [ov,iv] (getItem ov iv)
theorem b13{prog:AI}{w:AG}{A:AJ}{E:AA->AC->Prop}{s:AC}{env:Env}{value slice:AE}{pos:Pos}{T id:String}{Q:AA->AC->Prop}
 (hl:typeLookup (.type T) "__getitem__"=pure (some (.builtin id))) (hs:a87 slice)
 (h:AH (model prog w) A (eval value env) (fun o s₁=>AH (model prog w) A (eval slice env) (fun i s₂=>s₂.TypeIs o T/\AH (model prog w) A (getItem o i) Q E s₂) E s₁) E s):
 AH (model prog w) A (eval (.Subscript value slice pos) env) Q E s:=by
 refine Subscript_ (wpAny_mono h (fun o s₁ h₁=>wpAny_mono h₁ (fun i s₂ h₂=> ?_) fun _ _ x=>x) fun _ _ x=>x)
 obtain⟨hT,h₂⟩:=h₂
 unfold subscriptTail
 refine AL ?_
 rw [getitemInPython_of_ne hT.not_modules]
 refine AL (wpAny_specialOf hT hl ?_)
 have fin:AH (model prog w) A (subscripted slice false o i) (fun r s₃=>AH (model prog w) A (letTemporaryGo value o r>>=fun _=>pure r) Q E s₃) E s₂:=by
  rw [hs o i]
  exact wpAny_operating (wpAny_mono h₂ (fun r s₃ h₃=>AL (wpAny_letTemporaryGo (AR h₃))) fun _ _ x=>x)
 first
  |exact AR (AL fin)
  |exact AL (AR (AL fin))
  |exact AL fin
theorem a5D{X:Cx}{pins:List (AB×Obj)}{σ:St}{H:Hp}{s:AC}{a:AB}{y:V}{o:Option V}(I:d9 X pins σ H s)(g:a0V H a y o):s.TypeIs (.ref a) "dict":=by
 rcases g with⟨kvs,k,e,_,_⟩|⟨kvs,k,b,e,_,_,_⟩
 ·obtain⟨_,_,vs,_,dd⟩:=a7q I.hok e
  exact dd.typeIs
 ·obtain⟨_,_,xs,_,dd⟩:=a7t I.hok e
  exact dd.typeIs
def b4B(td ty:TE):TE:=fun σ H Q=>td σ H fun x H1=>ty σ H1 fun y H2=>∃a v,x= .ref a/\a0V H2 a y (some v)/\Q v H2
def b14(ty td:TE):TE:=fun σ H Q=>ty σ H fun y H1=>td σ H1 fun x H2=>∃a o,x= .ref a/\a0V H2 a y o/\Q (.bl (!o.isSome)) H2
def b4w(td ty tv:TE):TS:=fun D σ H=>tv σ H fun v H1=>td σ H1 fun x H2=>ty σ H2 fun y H3=>∃a H4,x= .ref a/\a5n H3 a y v H4/\D.nx σ H4
section
variable {X:Cx}{o i e value:AE}{pos pos' tpos:Pos}{td ty tv:TE}
theorem a49(hu:X.A.units+1<cLine)(ho:PE X o td)(hi:PE X i ty)(hs:a87 i):PE X (.Subscript o i pos) (b4B td ty):=by
 intro pins s σ H Q I h
 refine b13 PySem.F.slot_dict_getitem.lookup hs (E5 (ho pins s σ H _ I h) fun u s1 ⟨x,H1,I1,rx,q1⟩=>E5 (hi pins s1 σ H1 _ I1 q1) fun iv s2 ⟨y,H2,I2,ry,a,v,ex,g,q2⟩=> ?_)
 subst ex
 obtain rfl:u=Value.ref a:=rx
 exact⟨a5D I2 g,a8e hu I2 g ry fun w' s3 I3 rw'=>⟨v,H2,I3,rw',q2⟩⟩
theorem a8M(hu:X.A.units+1<cLine)(hi:PE X i ty)(ho:PE X o td):PC X .NotIn i o (b14 ty td):=by
 intro pins s σ H Q I h
 refine E5 (hi pins s σ H _ I h) fun iv s1 ⟨y,H1,I1,ry,q1⟩=>E5 (ho pins s1 σ H1 _ I1 q1) fun u s2 ⟨x,H2,I2,rx,a,ov,ex,g,q2⟩=> ?_
 subst ex
 obtain rfl:u=Value.ref a:=rx
 exact b04 hu I2 g ry fun s3 I3=>⟨.bl (!ov.isSome),H2,I3,rfl,q2⟩
theorem a7M(hu:X.A.units+1<cLine)(ho:PE X o td)(hi:PE X i ty)(hv:PE X value tv)(hs:swapsWith value (some (.Subscript o i pos')) pos.line X.env=pure false):
 PS X (.Assign [.Subscript o i pos'] value pos) (b4w td ty tv):=by
 intro pins s σ H D I h
 refine wpAny_Assign_Subscript (E5 (hv pins s σ H _ I h) fun r s1 ⟨v,H1,I1,rv,q1⟩=>E5 (ho pins s1 σ H1 _ I1 q1) fun u s2 ⟨x,H2,I2,rx,q2⟩=>E5 (hi pins s2 σ H2 _ I2 q2) fun iv s3 ⟨y,H3,I3,ry,a,H4,ex,g,q3⟩=> ?_) hs
 subst ex
 obtain rfl:u=Value.ref a:=rx
 exact a8f hu I3 g ry rv fun s4 I4=>⟨σ,H4,I4,q3⟩
end
theorem a5E{P:AI}{w:AG}{H:Hp}(h:Heap)(hb:sysModules<h.objs.size):B5 P w H (h.push {cls:= .type "dict",data:= .dict #[]}) h.objs.size (.dK []):=
 ⟨Nat.zero_le _,beq_eq_false_iff_ne.mpr (Ne.symm (Al hb)),[],.nil,Heap.DictOf.new h⟩
theorem a9r{P:AI}{w:AG}{H:Hp}(h:Heap)(hb:sysModules<h.objs.size):B5 P w H (h.push {cls:= .type "dict",data:= .dict #[]}) h.objs.size (.dT []):=
 ⟨Nat.zero_le _,beq_eq_false_iff_ne.mpr (Ne.symm (Al hb)),[],.nil,_, #[],0,Ao _ rfl,⟨rfl,rfl,rfl⟩,rfl,rfl,List.nodup_nil⟩
def b3P:TE:=fun _ H Q=>∀p,H p=none->Q (.ref p) (upd H p (.dK []))
def b3Q:TE:=fun _ H Q=>∀p,H p=none->Q (.ref p) (upd H p (.dT []))
section
variable {X:Cx}{pos:Pos}
theorem b0k:PE X (.Dict [] [] pos) b3P:=fun pins s σ H Q I h=>
 wpAny_Dict_empty ⟨.ref s.heap.objs.size,_,I.laid (a:=s.heap.objs.size) (o:= .dK []) (t':=s.toks) (fun _ _ q=>Ag _ q) (AM _) (a5E s.heap I.big),rfl,h _ (I.hok.fresh (AM _))⟩
theorem b0l:PE X (.Dict [] [] pos) b3Q:=fun pins s σ H Q I h=>
 wpAny_Dict_empty ⟨.ref s.heap.objs.size,_,I.laid (a:=s.heap.objs.size) (o:= .dT []) (t':=s.toks) (fun _ _ q=>Ag _ q) (AM _) (a9r s.heap I.big),rfl,h _ (I.hok.fresh (AM _))⟩
end
def b3S:List (TE×TE)->St->Hp->(List (V×V)->Hp->Prop)->Prop
 |[],_,H,Q=>Q [] H
 |(tk,tv)::r,σ,H,Q=>tk σ H fun x H1=>tv σ H1 fun y H2=>b3S r σ H2 fun ps H3=>Q ((x,y)::ps) H3
section
variable {X:Cx}{pins:List (AB×Obj)}{σ:St}{H:Hp}{s:AC}{a:AB}{y d:V}{u r:AA}{o:Option V}{A:AJ}{E:AA->AC->Prop}
end
section
variable {X:Cx}{o e f:AE}{apos cpos:Pos}{td ty tx:TE}
end
section
variable {X:Cx}{pins:List (AB×Obj)}{σ:St}{H:Hp}{s:AC}{a:AB}{kvs:List (d5×V)}{A:AJ}{E:AA->AC->Prop}
end
section
variable {X:Cx}{pins:List (AB×Obj)}{σ:St}{H:Hp}{s:AC}{a:AB}{y:V}{u:AA}{A:AJ}{E:AA->AC->Prop}
end
end L2
namespace Att
open PySem PySem.W PySem.Calls PyProof.Rows
section
variable {prog:AI}{w:AG}{A:AJ}{E:AA->AC->Prop}{s:AC}{K:Frag}
end
end Att
namespace L2
open PySem PySem.Spec PyProof.Rows
section
variable {P:AI}{w:AG}{K:AD}{mg:Str->Option AA}{base:Heap}
end
section
variable {X:Cx}
end
section
variable {κ:Type}[DecidableEq κ]
end
end L2
set_option maxHeartbeats 4000000
namespace PU
open PySem PySem.Spec PyProof.Rows L2
abbrev PV:=PyData
def TqT(K:AD)(H:Hp)(a:AB)(xs:List V):Prop:=
 H a=some (.tup xs)\/∃(o:Obj) (its:Array AA) (n:Nat),K.lookup a=some o/\o.cls= .type "tuple"/\o.data= .seq its n/\its.size<=AK/\g6 xs its.toList
theorem TqT.of{K:AD}{H:Hp}{a:AB}{xs:List V}(h:H a=some (.tup xs)):TqT K H a xs:= .inl h
theorem TqT.sq{K:AD}{H:Hp}{a:AB}{xs:List V}(h:TqT K H a xs):W4 K H a xs:=h.elim (fun h=> .inl (.inl h)) .inr
instance {K:AD} {H:Hp} {a:AB} {xs:List V}:Coe (TqT K H a xs) (W4 K H a xs):=⟨TqT.sq⟩
theorem b1U{K:AD}{H H':Hp}{a:AB}{xs:List V}(s:d6 H H')(h:TqT K H a xs):TqT K H' a xs:=h.elim (fun h=> .inl (s _ _ h)) .inr
def a31(K:AD)(x:Str)(v:V):Prop:=∃(a:AB) (oc:AA) (od:Option AB) (fd:FuncData) (osl:Array (Option AA)),v= .ref a/\K.lookup a=some ⟨oc,od,.func fd,osl⟩/\fd.name=x
def a12(K:AD)(x:Str)(C:AB):Prop:=PySem.W.nsIn K mainGlobals x=some (some (.ref C))/\∃(oc:AA) (od:Option AB) (cd:ClassData) (osl:Array (Option AA)),K.lookup C=some ⟨oc,od,.cls cd,osl⟩/\cd.name=x
theorem a12.inj{K:AD}{x y:Str}{C:AB}(h:a12 K x C)(h':a12 K y C):x=y:=by
 obtain⟨_,_,_,_,_,k,n⟩:=h
 obtain⟨_,_,_,_,_,k',n'⟩:=h'
 rw [k] at k';cases k'
 rw [<-n,n']
theorem a12.uniq{K:AD}{x:Str}{C D:AB}(h:a12 K x C)(h':a12 K x D):C=D:=by
 have:=h.1.symm.trans h'.1
 cases this;rfl
def b2z(K:AD)(H:Hp)(x:Str)(v:V):Prop:=∃(a C:AB) (φ:Heap->Prop),v= .ref a/\H a=some (.ext φ)/\
 (∀h:Heap,φ h->∃oe vs,h.get? a=some oe/\oe.cls= .ref C/\oe.data= .fields vs/\oe.dict=none)/\a12 K x C
def a2q(K:AD)(H:Hp)(x:Str)(t:PV)(v:V):Prop:=(t= .none/\a31 K x v)\/(t= .bool true/\b2z K H x v)
theorem a2q.ref{K:AD}{H:Hp}{x:Str}{t:PV}{v:V}(h:a2q K H x t v):∃a,v= .ref a:=by
 rcases h with⟨_,a,_,_,_,_,e,_⟩|⟨_,a,_,_,e,_⟩<;>exact⟨a,e⟩
theorem a2q.mono{K:AD}{H H':Hp}{x:Str}{t:PV}{v:V}(s:d6 H H')(h:a2q K H x t v):a2q K H' x t v:=by
 rcases h with h|⟨z,a,C,φ,e,q,r⟩
 ·exact .inl h
 ·exact .inr ⟨z,a,C,φ,e,s _ _ q,r⟩
def kP:d5->PV
 | .inl i=> .int i
 | .inr x=> .str x
def s1{α:Type}(kv:d5×α):List d5×α:=([kv.1],kv.2)
mutual
def p8(K:AD)(H:Hp):PV->V->Prop
 | .none,v=>v= .non
 | .bool b,v=>v= .bl b
 | .int i,v=>v= .int i
 | .str x,v=>v= .str x
 | .tuple ps,v=>∃a xs,v= .ref a/\TqT K H a xs/\d8 K H ps xs
 | .list ps,v=>∃a xs,v= .ref a/\J2 K H a xs/\d8 K H ps xs
 | .dict kvs,v=>(∃a ys,v= .ref a/\H a=some (.dK ys)/\N7 K H kvs (ys.map s1))\/(∃a xs,v= .ref a/\H a=some (.dT xs)/\N7 K H kvs (([],.non)::xs))\/(∃x t,kvs=[(.str x,t)]/\a2q K H x t v)
def d8(K:AD)(H:Hp):List PV->List V->Prop
 |[],vs=>vs=[]
 |p::ps,vs=>∃v r,vs=v::r/\p8 K H p v/\d8 K H ps r
def N7(K:AD)(H:Hp):List (PV×PV)->List (List d5×V)->Prop
 |[],ys=>ys=[]
 |(k,p)::r,ys=>∃kk v t,ys=(kk,v)::t/\k= .tuple (kk.map kP)/\p8 K H p v/\N7 K H r t
end
theorem A0{K:AD}{H H':Hp}{a:AB}{xs:List V}(s:d6 H H')(h:W4 K H a xs):W4 K H' a xs:=by
 rcases h with(h|⟨o,h⟩)|h
 ·exact .inl (.inl (s _ _ h))
 ·exact .inl (.inr ⟨o,s _ _ h⟩)
 ·exact .inr h
theorem T9{K:AD}{H H':Hp}{a:AB}{xs:List V}(s:d6 H H')(h:J2 K H a xs):J2 K H' a xs:=by
 rcases h with(h|⟨o,h⟩)|h
 ·exact .inl (.inl (s _ _ h))
 ·exact .inl (.inr ⟨o,s _ _ h⟩)
 ·exact .inr h
mutual
theorem p8.mono{K:AD}{H H':Hp}(s:d6 H H'):∀(p:PV) {v:V},p8 K H p v->p8 K H' p v
 | .none,_,h=>h
 | .bool _,_,h=>h
 | .int _,_,h=>h
 | .str _,_,h=>h
 | .dict kvs,_,.inl ⟨a,ys,q,h,r⟩=> .inl ⟨a,ys,q,s _ _ h,N7.mono s kvs r⟩
 | .dict kvs,_,.inr (.inl ⟨a,xs,q,h,r⟩)=> .inr (.inl ⟨a,xs,q,s _ _ h,N7.mono s kvs r⟩)
 | .dict _,_,.inr (.inr ⟨x,t,e,h⟩)=> .inr (.inr ⟨x,t,e,h.mono s⟩)
 | .tuple ps,_,⟨a,xs,e,q,r⟩=>⟨a,xs,e,b1U s q,d8.mono s ps r⟩
 | .list ps,_,⟨a,xs,e,q,r⟩=>⟨a,xs,e,T9 s q,d8.mono s ps r⟩
theorem d8.mono{K:AD}{H H':Hp}(s:d6 H H'):∀(ps:List PV) {vs:List V},d8 K H ps vs->d8 K H' ps vs
 |[],_,h=>h
 |p::ps,_,⟨v,r,e,q,t⟩=>⟨v,r,e,p8.mono s p q,d8.mono s ps t⟩
theorem N7.mono{K:AD}{H H':Hp}(s:d6 H H'):∀(es:List (PV×PV)) {ys:List (List d5×V)},N7 K H es ys->N7 K H' es ys
 |[],_,h=>h
 |(k,p)::es,_,⟨kk,v,r,e,z,q,t⟩=>⟨kk,v,r,e,z,p8.mono s p q,N7.mono s es t⟩
end
theorem d8.length{K:AD}{H:Hp}:∀{ps:List PV} {vs:List V},d8 K H ps vs->vs.length=ps.length
 |[],_,h=>by cases h;rfl
 |_::ps,_,⟨v,r,e,_,t⟩=>by subst e;rw [AW,AW,d8.length t]
theorem d8.get{K:AD}{H:Hp}:∀{ps:List PV} {vs:List V} {i:Nat} {p:PV},d8 K H ps vs->ps[i]?=some p->∃v,vs[i]?=some v/\p8 K H p v
 |[],_,_,_,_,h=>by simp at h
 |q::ps,_,0,p,⟨v,r,e,a,t⟩,h=>by subst e;simp at h;subst h;exact⟨v,rfl,a⟩
 |q::ps,_,i+1,p,⟨v,r,e,a,t⟩,h=>by subst e;exact d8.get (i:=i) t (by simpa using h)
theorem d8.getV{K:AD}{H:Hp}:∀{ps:List PV} {vs:List V} {i:Nat} {v:V},d8 K H ps vs->vs[i]?=some v->∃p,ps[i]?=some p/\p8 K H p v
 |[],_,_,_,h,e=>by cases h;simp at e
 |q::ps,_,0,v,⟨w,r,e,a,t⟩,h=>by subst e;simp at h;subst h;exact⟨q,rfl,a⟩
 |q::ps,_,i+1,v,⟨w,r,e,a,t⟩,h=>by subst e;exact d8.getV (i:=i) t (by simpa using h)
theorem d8.append{K:AD}{H:Hp}:∀{ps qs:List PV} {vs ws:List V},d8 K H ps vs->d8 K H qs ws->d8 K H (ps++qs) (vs++ws)
 |[],_,_,_,h,t=>by cases h;exact t
 |_::ps,_,_,_,⟨v,r,e,a,t⟩,s=>by subst e;exact⟨v,_,rfl,a,d8.append t s⟩
theorem d8.drop{K:AD}{H:Hp}:∀{ps:List PV} {vs:List V} (n:Nat),d8 K H ps vs->d8 K H (ps.drop n) (vs.drop n)
 |_,_,0,h=>h
 |[],_,n+1,h=>by cases h;rfl
 |_::ps,_,n+1,⟨v,r,e,a,t⟩=>by subst e;exact d8.drop n t
theorem d8.take{K:AD}{H:Hp}:∀{ps:List PV} {vs:List V} (n:Nat),d8 K H ps vs->d8 K H (ps.take n) (vs.take n)
 |_,_,0,h=>rfl
 |[],_,n+1,h=>by cases h;rfl
 |_::ps,_,n+1,⟨v,r,e,a,t⟩=>by subst e;exact⟨v,_,rfl,a,d8.take n t⟩
def m6(K:AD)(H:Hp):List (List d5×PV)->List (List d5×V)->Prop
 |[],ys=>ys=[]
 |(k,p)::r,ys=>∃v t,ys=(k,v)::t/\p8 K H p v/\m6 K H r t
theorem m6.mono{K:AD}{H H':Hp}(s:d6 H H'):∀(kvs:List (List d5×PV)) {ys:List (List d5×V)},m6 K H kvs ys->m6 K H' kvs ys
 |[],_,h=>h
 |(k,p)::r,_,⟨v,t,e,q,h⟩=>⟨v,t,e,p8.mono s p q,m6.mono s r h⟩
inductive P8 where
 |lst (ps:List PV)|dct (kvs:List (List d5×PV))|txt (kvs:List (List d5×PV))
inductive b9 where
 |val (p:PV)|ow (c:P8)|bo (c:P8)
abbrev b9.own(ps:List PV):b9:= .ow (.lst ps)
abbrev b9.bor(ps:List PV):b9:= .bo (.lst ps)
abbrev b9.dct(kvs:List (List d5×PV)):b9:= .ow (.dct kvs)
def J5(K:AD)(F H:Hp)(v:V):P8->Prop
 | .lst ps=>∃a xs,v= .ref a/\F a=none/\H a=some (.lst xs)/\d8 K F ps xs
 | .dct kvs=>∃a xs,v= .ref a/\F a=none/\H a=some (.dT xs)/\m6 K F kvs xs
 | .txt kvs=>∃a xs,v= .ref a/\F a=none/\H a=some (.dK xs)/\m6 K F kvs (xs.map s1)
def J6(K:AD)(F H:Hp)(v:V):b9->Prop
 | .val p=>p8 K F p v
 | .ow c=>J5 K F H v c
 | .bo c=>J5 K F H v c
theorem J5.at_{K:AD}{F H:Hp}{v:V}:∀{c:P8},J5 K F H v c->∃a o,v= .ref a/\F a=none/\H a=some o
 | .lst _,⟨a,_,e,n,q,_⟩=>⟨a,_,e,n,q⟩
 | .dct _,⟨a,_,e,n,q,_⟩=>⟨a,_,e,n,q⟩
 | .txt _,⟨a,_,e,n,q,_⟩=>⟨a,_,e,n,q⟩
def NT(o:HO):Prop:=∀xs,o≠.tup xs
structure S0(F H F' H':Hp):Prop where
 f:d6 F F'
 h:d6 H H'
 fh:d6 F' H'
 nw:∀b o,F b=none->H b=some o->NT o->F' b=none
 nf:∀b o u,F' b=some (.frz o u)->F b=some (.frz o u)
theorem d6.refl(H:Hp):d6 H H:=fun _ _ e=>e
theorem S0.refl{F H:Hp}(s:d6 F H):S0 F H F H:=⟨d6.refl F,d6.refl H,s,fun _ _ e _ _=>e,fun _ _ _ e=>e⟩
theorem S0.trans{F H F1 H1 F2 H2:Hp}(a:S0 F H F1 H1)(b:S0 F1 H1 F2 H2):S0 F H F2 H2:=
 ⟨a.f.trans b.f,a.h.trans b.h,b.fh,fun c o e q t=>b.nw c o (a.nw c o e q t) (a.h c o q) t,fun c o u e=>a.nf c o u (b.nf c o u e)⟩
theorem a99{F0 F:Hp}{a:AB}{xs:List V}(h:∀b o u,F b=some (.frz o u)->F0 b=some (.frz o u)):∀b o u,upd F a (.lst xs) b=some (.frz o u)->F0 b=some (.frz o u):=fun b o u z=>by
 by_cases hb:b=a
 ·subst hb;rw [f7] at z;cases z
 ·rw [d3 hb] at z;exact h _ _ _ z
theorem J5.ext{K:AD}{F H F' H':Hp}{v:V}(x:S0 F H F' H'):∀{c:P8},J5 K F H v c->J5 K F' H' v c
 | .lst _,⟨a,xs,e,n,q,r⟩=>⟨a,xs,e,x.nw _ _ n q (fun _ h=>nomatch h),x.h _ _ q,d8.mono x.f _ r⟩
 | .dct _,⟨a,xs,e,n,q,r⟩=>⟨a,xs,e,x.nw _ _ n q (fun _ h=>nomatch h),x.h _ _ q,m6.mono x.f _ r⟩
 | .txt _,⟨a,xs,e,n,q,r⟩=>⟨a,xs,e,x.nw _ _ n q (fun _ h=>nomatch h),x.h _ _ q,m6.mono x.f _ r⟩
theorem J6.ext{K:AD}{F H F' H':Hp}{v:V}(x:S0 F H F' H'):∀{r:b9},J6 K F H v r->J6 K F' H' v r
 | .val p,h=>p8.mono x.f p h
 | .ow _,h=>J5.ext x h
 | .bo _,h=>J5.ext x h
def P8.rd:P8->PV
 | .lst ps=> .list ps
 | .dct kvs=> .dict ((.tuple [],.none)::kvs.map fun kv=>(.tuple (kv.1.map kP),kv.2))
 | .txt kvs=> .dict (kvs.map fun kv=>(.tuple (kv.1.map kP),kv.2))
def b9.rd:b9->PV
 | .val p=>p
 | .ow c=>c.rd
 | .bo c=>c.rd
def b9.toVal:b9->Option PV
 | .val p=>some p
 | .ow (.lst ps)=>some (.list ps)
 | .ow (.dct _)=>none
 | .ow (.txt _)=>none
 | .bo _=>none
theorem N7.of{K:AD}{F H:Hp}(s:d6 F H):∀{kvs:List (List d5×PV)} {xs:List (List d5×V)},m6 K F kvs xs->N7 K H (kvs.map fun kv=>(PyData.tuple (kv.1.map kP),kv.2)) xs
 |[],_,h=>h
 |(k,p)::r,_,⟨v,t,e,q,h⟩=>⟨k,v,t,e,rfl,p8.mono s p q,N7.of s h⟩
theorem J5.rd{K:AD}{F H:Hp}{v:V}(s:d6 F H):∀{c:P8},J5 K F H v c->p8 K H c.rd v
 | .lst ps,⟨a,xs,e,n,q,r⟩=>⟨a,xs,e,J2.of q,d8.mono s _ r⟩
 | .dct kvs,⟨a,xs,e,n,q,r⟩=> .inr (.inl ⟨a,xs,e,q,[],.non,xs,rfl,rfl,rfl,N7.of s r⟩)
 | .txt kvs,⟨a,xs,e,n,q,r⟩=> .inl ⟨a,xs,e,q,N7.of s r⟩
theorem J6.rd{K:AD}{F H:Hp}{v:V}(s:d6 F H):∀{r:b9},J6 K F H v r->p8 K H r.rd v
 | .val p,h=>p8.mono s p h
 | .ow _,h=>J5.rd s h
 | .bo _,h=>J5.rd s h
structure o9(K:AD)(F H F' H':Hp)(v:V)(r:b9):Prop where
 x:S0 F H F' H'
 rep:J6 K F' H' v r
 fr:∀c a,r= .ow c->v= .ref a->H a=none
theorem o9.val{K:AD}{F H F' H':Hp}{v:V}{p:PV}(x:S0 F H F' H')(r:p8 K F' p v):o9 K F H F' H' v (.val p):=⟨x,r,fun _ _ e=>nomatch e⟩
theorem o9.here{K:AD}{F H:Hp}{v:V}{p:PV}(s:d6 F H)(r:p8 K F p v):o9 K F H F H v (.val p):=o9.val (S0.refl s) r
theorem o9.trans{K:AD}{F H F1 H1 F2 H2:Hp}{v:V}{r:b9}(a:S0 F H F1 H1)(b:o9 K F1 H1 F2 H2 v r):o9 K F H F2 H2 v r:=
 ⟨a.trans b.x,b.rep,fun ps c e q=>a.h.free (b.fr ps c e q)⟩
theorem o9.toVal{K:AD}{F H F' H':Hp}{v:V}{p:PV}:∀{r:b9},o9 K F H F' H' v r->r.toVal=some p->∃F2,o9 K F H F2 H' v (.val p)
 | .val q,o,e=>by cases e;exact⟨F',o⟩
 | .bo _,_,e=>nomatch e
 | .ow (.dct _),_,e=>nomatch e
 | .ow (.txt _),_,e=>nomatch e
 | .ow (.lst ps),o,e=>by
   cases e
   obtain⟨a,xs,rfl,n,q,r⟩:=o.rep
   have fr:=o.fr _ a rfl rfl
   have up:d6 F' (upd F' a (.lst xs)):=fun b u z=>by rw [d3 (i3 z n)];exact z
   refine⟨upd F' a (.lst xs),o9.val ⟨o.x.f.trans up,o.x.h,fun b u z=> ?_,fun b u z y t=> ?_,a99 o.x.nf⟩ ⟨a,xs,rfl,J2.of f7,d8.mono up _ r⟩⟩
   ·by_cases hb:b=a
    ·subst hb;rw [f7] at z;cases z;exact q
    ·rw [d3 hb] at z;exact o.x.fh _ _ z
   ·rw [d3 (i3 y fr)];exact o.x.nw b u z y t
theorem x9{H:Hp}{a:AB}{o:HO}(n:H a=none):d6 H (upd H a o):=fun b u z=>by rw [d3 (i3 z n)];exact z
theorem S0.lay{F H:Hp}{a:AB}{o:HO}(s:d6 F H)(n:H a=none)(hf:∀x u,o≠.frz x u:=by intro _ _ h;cases h):S0 F H (upd F a o) (upd H a o):=
 ⟨x9 (s.free n),x9 n,fun b u z=>by
  by_cases hb:b=a
  ·subst hb;rw [f7] at z ⊢;exact z
  ·rw [d3 hb] at z ⊢;exact s _ _ z,fun b u z y _=>by rw [d3 (i3 y n)];exact z,fun b w u z=>by
  by_cases hb:b=a
  ·subst hb;rw [f7] at z;exact absurd (Option.some.inj z) (hf w u)
  ·rw [d3 hb] at z;exact z⟩
theorem S0.layH{F H:Hp}{a:AB}{o:HO}(s:d6 F H)(n:H a=none):S0 F H F (upd H a o):=
 ⟨d6.refl F,x9 n,fun b u z=>by rw [d3 (i3 (s _ _ z) n)];exact s _ _ z,fun b u z y _=>z,fun _ _ _ z=>z⟩
theorem o9.tup{K:AD}{F H:Hp}{a:AB}{xs:List V}{ps:List PV}(s:d6 F H)(n:H a=none)(r:d8 K F ps xs):o9 K F H (upd F a (.tup xs)) (upd H a (.tup xs)) (.ref a) (.val (.tuple ps)):=
 o9.val (S0.lay s n) ⟨a,xs,rfl,TqT.of f7,d8.mono (x9 (s.free n)) _ r⟩
theorem o9.lst{K:AD}{F H:Hp}{a:AB}{xs:List V}{ps:List PV}(s:d6 F H)(n:H a=none)(r:d8 K F ps xs):o9 K F H F (upd H a (.lst xs)) (.ref a) (.own ps):=
 ⟨S0.layH s n,⟨a,xs,rfl,s.free n,f7,r⟩,fun _ _ _ e=>by cases e;exact n⟩
abbrev a9:=List (Option b9)
structure n8(K:AD)(F H:Hp)(σ:L2.St)(ρ:a9):Prop where
 fh:d6 F H
 len:σ.length=ρ.length
 at_:∀(i:Nat) (r:b9),ρ[i]?=some (some r)->∃v,σ[i]?=some (some v)/\J6 K F H v r
 nb:∀(i:Nat) (c:P8),ρ[i]?≠some (some (.bo c))
 ap:∀(i j:Nat) (c d:P8) (a:AB),i≠j->ρ[i]?=some (some (.ow c))->ρ[j]?=some (some (.ow d))->σ[i]?=some (some (.ref a))->σ[j]?≠some (some (.ref a))
theorem n8.ext{K:AD}{F H F' H':Hp}{σ:L2.St}{ρ:a9}(e:n8 K F H σ ρ)(x:S0 F H F' H'):n8 K F' H' σ ρ:=
 ⟨x.fh,e.len,fun i r q=>let ⟨v,a,b⟩:=e.at_ i r q;⟨v,a,b.ext x⟩,e.nb,e.ap⟩
abbrev M:=a9->Option b9
def tM(K:AD)(m:M):TE:=fun σ H Q=>∃F ρ r,n8 K F H σ ρ/\m ρ=some r/\∀v F' H',o9 K F H F' H' v r->Q v H'
abbrev EE(X:Cx)(e:AE)(m:M):Prop:=PE X e (tM X.K m)
theorem o8{X:Cx}{e:AE}{t t':TE}(h:PE X e t)(i:∀σ H Q,t' σ H Q->t σ H Q):PE X e t':=fun pins s σ H Q I q=>h pins s σ H Q I (i σ H Q q)
theorem a5c{X:Cx}{e:AE}{t t':TT}(h:PT X e t)(i:∀σ H Q,t' σ H Q->t σ H Q):PT X e t':=fun pins s σ H Q I q=>h pins s σ H Q I (i σ H Q q)
theorem b0u{X:Cx}{e:AE}{t t':TT}(h:PW X e t)(i:∀σ H Q,t' σ H Q->t σ H Q):PW X e t':=fun wh pins s σ H Q I q=>h wh pins s σ H Q I (i σ H Q q)
theorem b0i{X:Cx}{e:List AE}{t t':TA}(h:PA X e t)(i:∀σ H Q,t' σ H Q->t σ H Q):PA X e t':=fun pos pins s σ H Q I q=>h pos pins s σ H Q I (i σ H Q q)
theorem D0{X:Cx}{e:Stmt}{t t':TS}(h:PS X e t)(i:∀D σ H,t' D σ H->t D σ H):PS X e t':=fun pins s σ H D I q=>h pins s σ H D I (i D σ H q)
theorem N2{X:Cx}{e:List Stmt}{t t':TS}(h:PSs X e t)(i:∀D σ H,t' D σ H->t D σ H):PSs X e t':=fun pins s σ H D I q=>h pins s σ H D I (i D σ H q)
def mC(p:PV):M:=fun _=>some (.val p)
def a7(i:Nat):M:=fun ρ=>match ρ[i]? with
 |some (some (.ow c))=>some (.bo c)
 |some (some r)=>some r
 |_=>none
section
variable {X:Cx}{a b c:AE}{ma mb mc:M}{pos:Pos}
theorem a02{e:AE}{v:V}{p:PV}(h:PE X e (tC v))(r:∀H,p8 X.K H p v):EE X e (mC p):=
 o8 h fun σ H Q ⟨F,ρ,q,he,hm,k⟩=>by
  cases hm
  exact k v F H (o9.here he.fh (r F))
theorem b7{i j pos}:EE X (.Constant (.int i) j pos) (mC (.int i)):=a02 b3t fun _=>rfl
theorem W5{b j pos}:EE X (.Constant (.bool b) j pos) (mC (.bool b)):=a02 b4p fun _=>rfl
theorem v8{x j pos}:EE X (.Constant (.str x) j pos) (mC (.str x)):=a02 b3x fun _=>rfl
theorem a5(i:Nat){x:Str}{pos:Pos}(h:PE X (.Name x pos) (a0w i)):EE X (.Name x pos) (a7 i):=
 o8 h fun σ H Q ⟨F,ρ,r,he,hm,k⟩=>by
  unfold a7 at hm
  split at hm
  ·rename_i ps e
   cases hm
   obtain⟨v,e1,rr⟩:=he.at_ i _ e
   exact⟨v,e1,k v F H ⟨S0.refl he.fh,rr,fun _ _ z=>nomatch z⟩⟩
  ·rename_i r' nn e
   cases hm
   obtain⟨v,e1,rr⟩:=he.at_ i _ e
   exact⟨v,e1,k v F H ⟨S0.refl he.fh,rr,fun ps _ z=>absurd z (nn ps)⟩⟩
  ·cases hm
def rM2(K:AD)(g:b9->b9->Option b9):R2:=fun x y H Q=>∃F rx ry rz,d6 F H/\J6 K F H x rx/\J6 K F H y ry/\g rx ry=some rz/\∀v F' H',o9 K F H F' H' v rz->Q v H'
abbrev OpM(X:Cx)(f:AA->AA->Sem AA)(g:b9->b9->Option b9):Prop:=OpR X f (rM2 X.K g)
def m2(g:b9->b9->Option b9)(ma mb:M):M:=fun ρ=>(ma ρ).bind fun x=>(mb ρ).bind fun y=>g x y
theorem bind_some{α β:Type}{o:Option α}{f:α->Option β}{b:β}(h:o.bind f=some b):∃a,o=some a/\f a=some b:=by
 cases o with
 |none=>cases h
 |some a=>exact⟨a,rfl,h⟩
theorem a5k{K:AD}{g:b9->b9->Option b9}{σ:L2.St}{H:Hp}{Q:VK}(h:tM K (m2 g ma mb) σ H Q):tOp (rM2 K g) (tM K ma) (tM K mb) σ H Q:=by
 obtain⟨F,ρ,r,he,hm,k⟩:=h
 obtain⟨rx,e1,hm⟩:=bind_some hm
 obtain⟨ry,e2,hm⟩:=bind_some hm
 exact⟨F,ρ,rx,he,e1,fun v F1 H1 o1=>⟨F1,ρ,ry,he.ext o1.x,e2,fun u F2 H2 o2=>⟨F2,rx,ry,r,o2.x.fh,o1.rep.ext o2.x,o2.rep,hm,fun z F3 H3 o3=>k z F3 H3 (o9.trans (o1.x.trans o2.x) o3)⟩⟩⟩
theorem c7{op:Operator}{g:b9->b9->Option b9}(ho:OpM X (binaryOp op) g)(ha:EE X a ma)(hb:EE X b mb):EE X (.BinOp a op b pos) (m2 g ma mb):=
 o8 (b4r ho ha hb) fun _ _ _ h=>a5k h
theorem a4M{op:CmpOp}{g:b9->b9->Option b9}(ho:OpM X (compareOp op) g)(ha:EE X a ma)(hb:EE X b mb)(hm:behindInMarks op b=false):EE X (.Compare a [op] [b] pos) (m2 g ma mb):=
 o8 (b1D ho ha hb hm) fun _ _ _ h=>a5k h
theorem a4l{f:AA->AA->Sem AA}{r:R2}{g:b9->b9->Option b9}(h:OpR X f r)
 (i:∀F H x y rx ry rz,d6 F H->J6 X.K F H x rx->J6 X.K F H y ry->g rx ry=some rz->∀Q:VK,(∀v F' H',o9 X.K F H F' H' v rz->Q v H')->r x y H Q):OpM X f g:=
 fun pins s σ H x y v u Q I rx ry ⟨F,ra,rb,rz,s0,h1,h2,h3,k⟩=>h pins s σ H x y v u Q I rx ry (i F H x y ra rb rz s0 h1 h2 h3 Q k)
end
def gI(f:Int->Int->PV):b9->b9->Option b9
 | .val (.int i),.val (.int j)=>some (.val (f i j))
 |_,_=>none
theorem b0c:∃f:(Int->Int->Prop)->Int->Int->Bool,∀C i j,f C i j=true↔C i j:=⟨fun C i j=> @decide (C i j) (Classical.propDecidable _),fun C i j=> @decide_eq_true_iff (C i j) (Classical.propDecidable _)⟩
def okC:(Int->Int->Prop)->Int->Int->Bool:=b0c.choose
theorem a0o{C:Int->Int->Prop}{i j:Int}:okC C i j=true↔C i j:=b0c.choose_spec C i j
def X3(C:Int->Int->Prop)[∀i j,Decidable (C i j)](f:Int->Int->PV):b9->b9->Option b9
 | .val (.int i),.val (.int j)=>if okC C i j=true then some (.val (f i j)) else none
 |_,_=>none
theorem a7B{f:Int->Int->PV}{rx ry rz:b9}(h:gI f rx ry=some rz):∃i j,rx= .val (.int i)/\ry= .val (.int j)/\rz= .val (f i j):=by
 unfold gI at h
 split at h
 ·cases h;exact⟨_,_,rfl,rfl,rfl⟩
 ·cases h
theorem a9E{C:Int->Int->Prop}[∀i j,Decidable (C i j)]{f:Int->Int->PV}{rx ry rz:b9}(h:X3 C f rx ry=some rz):∃i j,rx= .val (.int i)/\ry= .val (.int j)/\C i j/\rz= .val (f i j):=by
 unfold X3 at h
 split at h
 ·split at h
  ·rename_i c;cases h;exact⟨_,_,rfl,rfl,a0o.mp c,rfl⟩
  ·cases h
 ·cases h
section
variable {X:Cx}
theorem a7L{f:AA->AA->Sem AA}{g:Int->Int->V}{g':Int->Int->PV}(h:OpR X f (rI0 g))(e:∀i j H,p8 X.K H (g' i j) (g i j)):OpM X f (gI g'):=
 a4l h fun F H x y rx ry rz s h1 h2 h3 Q k=>by
  obtain⟨i,j,rfl,rfl,rfl⟩:=a7B h3
  exact⟨i,j,h1,h2,k _ F H (o9.here s (e i j F))⟩
theorem a61{f:AA->AA->Sem AA}{C:Int->Int->Prop}[∀i j,Decidable (C i j)]{g:Int->Int->V}{g':Int->Int->PV}(h:OpR X f (rI C g))(e:∀i j H,p8 X.K H (g' i j) (g i j)):OpM X f (X3 C g'):=
 a4l h fun F H x y rx ry rz s h1 h2 h3 Q k=>by
  obtain⟨i,j,rfl,rfl,c,rfl⟩:=a9E h3
  exact⟨i,j,h1,h2,c,k _ F H (o9.here s (e i j F))⟩
end
section
variable {X:Cx}{pins:List (AB×Obj)}{σ:L2.St}{H:Hp}{s:AC}
theorem Z4(I:d9 X pins σ H s){a:AB}{xs ys:List V}(h:J2 X.K H a xs)(h':W4 X.K H a ys):False:=by
 obtain⟨its,r,p,_⟩:=I.list h
 obtain⟨its',r',p',_⟩:=I.tuple h'
 exact SeqAt.ne_of_list_tuple p.isList (show s.heap.IsTuple a its'.toArray from p') rfl
theorem a2i(I:d9 X pins σ H s){a:AB}{xs:List V}{ys:List (d5×V)}(h:H a=some (.dK ys))(h':J2 X.K H a xs):False:=by
 obtain⟨its,r,⟨o,n,e,c,_⟩,_⟩:=I.list h'
 obtain⟨_,_,_,_,o',_,_,e',ex,_⟩:=I.hok a _ h
 rw [e] at e';cases e'
 have:=ex.1
 rw [c] at this;exact absurd this (by simp)
theorem a2j(I:d9 X pins σ H s){a:AB}{xs:List V}{ys:List (d5×V)}(h:H a=some (.dK ys))(h':W4 X.K H a xs):False:=by
 obtain⟨its,r,⟨o,e,c,_⟩,_⟩:=I.tuple h'
 obtain⟨_,_,_,_,o',_,_,e',ex,_⟩:=I.hok a _ h
 rw [e] at e';cases e'
 have:=ex.1
 rw [c] at this;exact absurd this (by simp)
theorem a3q(I:d9 X pins σ H s){a:AB}{ys:List (List d5×V)}{xs:List V}(h:H a=some (.dT ys))(h':J2 X.K H a xs):False:=by
 obtain⟨its,r,⟨o,n,e,c,_⟩,_⟩:=I.list h'
 obtain⟨_,_,_,_,o',_,_,e',ex,_⟩:=I.hok a _ h
 rw [e] at e';cases e'
 have:=ex.1
 rw [c] at this;exact absurd this (by simp)
theorem a3r(I:d9 X pins σ H s){a:AB}{ys:List (List d5×V)}{xs:List V}(h:H a=some (.dT ys))(h':W4 X.K H a xs):False:=by
 obtain⟨its,r,⟨o,e,c,_⟩,_⟩:=I.tuple h'
 obtain⟨_,_,_,_,o',_,_,e',ex,_⟩:=I.hok a _ h
 rw [e] at e';cases e'
 have:=ex.1
 rw [c] at this;exact absurd this (by simp)
theorem a7x(I:d9 X pins σ H s){x:Str}{v:V}(h:a31 X.K x v):∃(a:AB) (o:Obj) (fd:FuncData),v= .ref a/\s.heap.get? a=some o/\o.data= .func fd/\fd.name=x:=by
 obtain⟨a,oc,od,fd,osl,e,k,n⟩:=h
 exact⟨a,_,fd,e,I.kIn a _ k,rfl,n⟩
theorem a2O(I:d9 X pins σ H s){x:Str}{v:V}(h:b2z X.K H x v):∃(a C:AB) (o:Obj) (vs:Array AA),v= .ref a/\s.heap.get? a=some o/\o.cls= .ref C/\o.data= .fields vs/\a12 X.K x C/\o.dict=none:=by
 obtain⟨a,C,φ,e,q,k,n⟩:=h
 obtain⟨oe,vs,h1,h2,h3,h4⟩:=k _ (I.hok a _ q).1
 exact⟨a,C,oe,vs,e,h1,h2,h3,n,h4⟩
theorem a3u(I:d9 X pins σ H s){x:Str}{a:AB}{xs:List V}{t:PV}(h:a2q X.K H x t (.ref a))(h':W4 X.K H a xs):False:=by
 obtain⟨its,r,⟨o',e',c',n',d'⟩,_⟩:=I.tuple h'
 rcases h with⟨_,h⟩|⟨_,h⟩
 ·obtain⟨b,o,fd,e,g,d,_⟩:=a7x I h
  cases e
  rw [g] at e';cases e'
  rw [d] at d';cases d'
 ·obtain⟨b,C,o,vs,e,g,c,d,_⟩:=a2O I h
  cases e
  rw [g] at e';cases e'
  rw [d] at d';cases d'
theorem a3t(I:d9 X pins σ H s){x:Str}{a:AB}{xs:List V}{t:PV}(h:a2q X.K H x t (.ref a))(h':J2 X.K H a xs):False:=by
 obtain⟨its,r,pl,_⟩:=I.list h'
 obtain⟨o',e',c',n',d'⟩:=pl.isList
 rcases h with⟨_,h⟩|⟨_,h⟩
 ·obtain⟨b,o,fd,e,g,d,_⟩:=a7x I h
  cases e
  rw [g] at e';cases e'
  rw [d] at d';cases d'
 ·obtain⟨b,C,o,vs,e,g,c,d,_⟩:=a2O I h
  cases e
  rw [g] at e';cases e'
  rw [d] at d';cases d'
theorem a3s(I:d9 X pins σ H s){x:Str}{a:AB}{ys:List (d5×V)}{t:PV}(h:a2q X.K H x t (.ref a))(h':H a=some (.dK ys)):False:=by
 rcases h with⟨_,b,oc,od,fd,osl,e,k,_⟩|⟨_,b,C,φ,e,q,_⟩
 ·cases e
  have:=(I.bs a _ (I.ok.mod.kin a _ k)).2
  rw [this] at h';cases h'
 ·cases e
  rw [q] at h';cases h'
theorem a4j(I:d9 X pins σ H s){x:Str}{a:AB}{ys:List (List d5×V)}{t:PV}(h:a2q X.K H x t (.ref a))(h':H a=some (.dT ys)):False:=by
 rcases h with⟨_,b,oc,od,fd,osl,e,k,_⟩|⟨_,b,C,φ,e,q,_⟩
 ·cases e
  have:=(I.bs a _ (I.ok.mod.kin a _ k)).2
  rw [this] at h';cases h'
 ·cases e
  rw [q] at h';cases h'
theorem a4k(I:d9 X pins σ H s){x y:Str}{v:V}(h:a31 X.K x v)(h':b2z X.K H y v):False:=by
 obtain⟨b,oc,od,fd,osl,e,k,_⟩:=h
 obtain⟨b',C,φ,e',q,_⟩:=h'
 rw [e] at e';cases e'
 have:=(I.bs b _ (I.ok.mod.kin b _ k)).2
 rw [this] at q;cases q
theorem b4b(I:d9 X pins σ H s){x y:Str}{t u:PV}{v:V}(h:a2q X.K H x t v)(h':a2q X.K H y u v):x=y/\t=u:=by
 rcases h with⟨rfl,h⟩|⟨rfl,h⟩<;>rcases h' with⟨rfl,h'⟩|⟨rfl,h'⟩
 all_goals first|refine⟨?_,rfl⟩|skip
 ·obtain⟨b,oc,od,fd,osl,e,k,n⟩:=h
  obtain⟨b',oc',od',fd',osl',e',k',n'⟩:=h'
  rw [e] at e';cases e'
  rw [k] at k';cases k'
  rw [<-n,n']
 ·exact(a4k I h h').elim
 ·exact(a4k I h' h).elim
 ·obtain⟨b,C,o,vs,e,g,c,d,n,_⟩:=a2O I h
  obtain⟨b',C',o',vs',e',g',c',d',n',_⟩:=a2O I h'
  rw [e] at e';cases e'
  rw [g] at g';cases g'
  rw [c] at c';cases c'
  exact n.inj n'
mutual
theorem p8.inj(I:d9 X pins σ H s):∀(p q:PV) {v:V},p8 X.K H p v->p8 X.K H q v->p=q
 | .tuple ps,q,v,⟨a,xs,e,h,r⟩,h'=>by
   subst e
   cases q with
   |tuple qs=>
    obtain⟨a',xs',e',h',r'⟩:=h'
    cases e'
    cases I.tuple_inj h.sq h'.sq
    rw [d8.inj I ps qs r r']
   |list qs=>obtain⟨a',xs',e',h',r'⟩:=h';cases e';exact(Z4 I h' h.sq).elim
   |dict qs=>
    rcases h' with⟨a',_,e',h',_⟩|⟨a',_,e',h',_⟩|⟨x,t,_,h'⟩
    ·cases e';exact(a2j I h' h.sq).elim
    ·cases e';exact(a3r I h' h.sq).elim
    ·exact(a3u I h' h.sq).elim
   |_=>cases h'
 | .list ps,q,v,⟨a,xs,e,h,r⟩,h'=>by
   subst e
   cases q with
   |list qs=>
    obtain⟨a',xs',e',h',r'⟩:=h'
    cases e'
    cases I.list_inj h h'
    rw [d8.inj I ps qs r r']
   |tuple qs=>obtain⟨a',xs',e',h',r'⟩:=h';cases e';exact(Z4 I h h'.sq).elim
   |dict qs=>
    rcases h' with⟨a',_,e',h',_⟩|⟨a',_,e',h',_⟩|⟨x,t,_,h'⟩
    ·cases e';exact(a2i I h' h).elim
    ·cases e';exact(a3q I h' h).elim
    ·exact(a3t I h' h).elim
   |_=>cases h'
 | .dict ps,q,v,.inl ⟨a,ys,e,h,hr⟩,h'=>by
   subst e
   cases q with
   |tuple qs=>obtain⟨a',xs',e',h',r'⟩:=h';cases e';exact(a2j I h h'.sq).elim
   |list qs=>obtain⟨a',xs',e',h',r'⟩:=h';cases e';exact(a2i I h h').elim
   |dict qs=>
    rcases h' with⟨a',_,e',h',r'⟩|⟨a',_,e',h',_⟩|⟨x,t,_,h'⟩
    ·cases e';rw [h] at h';cases h';rw [N7.inj I ps qs hr r']
    ·cases e';rw [h] at h';cases h'
    ·exact(a3s I h' h).elim
   |_=>cases h'
 | .dict ps,q,v,.inr (.inl ⟨a,ys,e,h,hr⟩),h'=>by
   subst e
   cases q with
   |tuple qs=>obtain⟨a',xs',e',h',r'⟩:=h';cases e';exact(a3r I h h'.sq).elim
   |list qs=>obtain⟨a',xs',e',h',r'⟩:=h';cases e';exact(a3q I h h').elim
   |dict qs=>
    rcases h' with⟨a',_,e',h',_⟩|⟨a',_,e',h',r'⟩|⟨x,t,_,h'⟩
    ·cases e';rw [h] at h';cases h'
    ·cases e';rw [h] at h';cases h';rw [N7.inj I ps qs hr r']
    ·exact(a4j I h' h).elim
   |_=>cases h'
 | .dict ps,q,v,.inr (.inr ⟨x,t,e0,h⟩),h'=>by
   subst e0
   cases q with
   |tuple qs=>obtain⟨a',xs',e',h',r'⟩:=h';subst e';exact(a3u I h h'.sq).elim
   |list qs=>obtain⟨a',xs',e',h',r'⟩:=h';subst e';exact(a3t I h h').elim
   |dict qs=>
    rcases h' with⟨a',_,e',h',_⟩|⟨a',_,e',h',_⟩|⟨y,u,e1,h'⟩
    ·subst e';exact(a3s I h h').elim
    ·subst e';exact(a4j I h h').elim
    ·obtain⟨z1,z2⟩:=b4b I h h';rw [e1,z1,z2]
   |none=>obtain⟨_,e⟩:=h.ref;rw [e] at h';cases h'
   |bool _=>obtain⟨_,e⟩:=h.ref;rw [e] at h';cases h'
   |int _=>obtain⟨_,e⟩:=h.ref;rw [e] at h';cases h'
   |str _=>obtain⟨_,e⟩:=h.ref;rw [e] at h';cases h'
 | .none,q,v,h,h'=>by
   cases h
   cases q with
   |none=>rfl
   |tuple _=>obtain⟨_,_,e,_⟩:=h';cases e
   |list _=>obtain⟨_,_,e,_⟩:=h';cases e
   |dict _=>
    rcases h' with⟨_,_,e,_,_⟩|⟨_,_,e,_⟩|⟨_,_,_,h'⟩
    ·cases e
    ·cases e
    ·obtain⟨_,e⟩:=h'.ref;cases e
   |_=>cases h'
 | .bool _,q,v,h,h'=>by
   cases h
   cases q with
   |bool _=>cases h';rfl
   |tuple _=>obtain⟨_,_,e,_⟩:=h';cases e
   |list _=>obtain⟨_,_,e,_⟩:=h';cases e
   |dict _=>
    rcases h' with⟨_,_,e,_,_⟩|⟨_,_,e,_⟩|⟨_,_,_,h'⟩
    ·cases e
    ·cases e
    ·obtain⟨_,e⟩:=h'.ref;cases e
   |_=>cases h'
 | .int _,q,v,h,h'=>by
   cases h
   cases q with
   |int _=>cases h';rfl
   |tuple _=>obtain⟨_,_,e,_⟩:=h';cases e
   |list _=>obtain⟨_,_,e,_⟩:=h';cases e
   |dict _=>
    rcases h' with⟨_,_,e,_,_⟩|⟨_,_,e,_⟩|⟨_,_,_,h'⟩
    ·cases e
    ·cases e
    ·obtain⟨_,e⟩:=h'.ref;cases e
   |_=>cases h'
 | .str _,q,v,h,h'=>by
   cases h
   cases q with
   |str _=>cases h';rfl
   |tuple _=>obtain⟨_,_,e,_⟩:=h';cases e
   |list _=>obtain⟨_,_,e,_⟩:=h';cases e
   |dict _=>
    rcases h' with⟨_,_,e,_,_⟩|⟨_,_,e,_⟩|⟨_,_,_,h'⟩
    ·cases e
    ·cases e
    ·obtain⟨_,e⟩:=h'.ref;cases e
   |_=>cases h'
theorem d8.inj(I:d9 X pins σ H s):∀(ps qs:List PV) {vs:List V},d8 X.K H ps vs->d8 X.K H qs vs->ps=qs
 |[],qs,vs,h,h'=>by
  cases h
  cases qs with
  |nil=>rfl
  |cons q qs=>obtain⟨_,_,e,_⟩:=h';cases e
 |p::ps,qs,vs,⟨v,r,e,h,t⟩,h'=>by
  subst e
  cases qs with
  |nil=>cases h'
  |cons q qs=>
   obtain⟨v',r',e',h',t'⟩:=h'
   cases e'
   rw [p8.inj I p q h h',d8.inj I ps qs t t']
theorem N7.inj(I:d9 X pins σ H s):∀(es fs:List (PV×PV)) {ys:List (List d5×V)},N7 X.K H es ys->N7 X.K H fs ys->es=fs
 |[],fs,ys,h,h'=>by
  cases h
  cases fs with
  |nil=>rfl
  |cons f fs=>obtain⟨k,p⟩:=f;obtain⟨_,_,_,e,_⟩:=h';cases e
 |(k,p)::es,fs,ys,⟨kk,v,r,e,z,q,t⟩,h'=>by
  subst e
  cases fs with
  |nil=>cases h'
  |cons f fs=>
   obtain⟨k',p'⟩:=f
   obtain⟨kk',v',r',e',z',q',t'⟩:=h'
   cases e'
   rw [z,z',p8.inj I p p' q q',N7.inj I es fs t t']
end
end
mutual
def l4:PV->Nat->Bool
 | .list xs,n+1=>C6 xs n
 | .tuple xs,n+1=>C6 xs n
 | .list _,0=>false
 | .tuple _,0=>false
 | .dict _,_=>false
 | .none,_=>true
 | .bool _,_=>true
 | .int _,_=>true
 | .str _,_=>true
def C6:List PV->Nat->Bool
 |[],_=>true
 |x::xs,n=>l4 x n && C6 xs n
end
mutual
theorem a5J:∀(p:PV) (n:Nat),l4 p n=true->PyData.eqv p p=true
 | .none,_,_=>by simp [PyData.eqv]
 | .bool _,_,_=>by simp [PyData.eqv]
 | .int _,_,_=>by simp [PyData.eqv]
 | .str _,_,_=>by simp [PyData.eqv]
 | .list xs,n+1,h=>by simp only [PyData.eqv];exact S6 xs n (by simpa [l4] using h)
 | .tuple xs,n+1,h=>by simp only [PyData.eqv];exact S6 xs n (by simpa [l4] using h)
 | .list xs,0,h=>by simp [l4] at h
 | .tuple xs,0,h=>by simp [l4] at h
 | .dict _,_,h=>by simp [l4] at h
theorem S6:∀(ps:List PV) (n:Nat),C6 ps n=true->PyData.eqvAll ps ps=true
 |[],_,_=>by simp [PyData.eqvAll]
 |x::xs,n,h=>by
  have h':l4 x n=true/\C6 xs n=true:=by simpa [C6] using h
  simp only [PyData.eqvAll,a5J x n h'.1,S6 xs n h'.2,Bool.and_self]
end
def eAt(ps qs:List PV)(j:Nat):Bool:=match ps[j]?,qs[j]? with
 |some p,some q=>PyData.eqv p q
 |_,_=>false
theorem M8:∀(ps qs:List PV),PyData.eqvAll ps qs=((AX (min ps.length qs.length)).all (eAt ps qs)&& ps.length==qs.length)
 |[],[]=>by simp [PyData.eqvAll]
 |[],_::_=>by simp [PyData.eqvAll]
 |_::_,[]=>by simp [PyData.eqvAll]
 |p::ps,q::qs=>by
  have e:min (p::ps).length (q::qs).length=min ps.length qs.length+1:=by simp only [AW];lia
  rw [e,List.range_succ_eq_map,List.all_cons,List.all_map]
  have h0:eAt (p::ps) (q::qs) 0=PyData.eqv p q:=rfl
  have h1:(eAt (p::ps) (q::qs)∘Nat.succ)=eAt ps qs:=by funext j;simp [eAt,Function.comp]
  rw [h0,h1]
  simp only [PyData.eqvAll,M8 ps qs,AW,Bool.and_assoc]
  have e2:(ps.length+1==qs.length+1)=(ps.length==qs.length):=by
   rw [Bool.eq_iff_iff];simp
  rw [e2]
section
variable {X:Cx}{pins:List (AB×Obj)}{σ:L2.St}{H:Hp}{s:AC}
structure a83(A:AJ)(s:AC)(u w:AA)(b:Bool):Prop where
 rc:SeqAt.RcAt A s u w b
 ne:SeqAt.RcNeAt A s u w (!b)
 eq:SeqAt.EqAt A s u w b
theorem a1M(A:AJ):A.in1.units=A.units+1:=rfl
theorem a1B{xs:List V}{its:List AA}{j:Nat}(r:g6 xs its)(h:j<its.length):∃x,xs[j]?=some x/\j6 x its[j]:=by
 have hx:j<xs.length:=by rw [r.length];exact h
 obtain⟨u,h1,h2⟩:=r.get (i:=j) (x:=xs[j]) (by simp [hx])
 rw [BA h] at h1
 cases h1
 exact⟨xs[j],by simp [hx],h2⟩
theorem a3Q{A:AJ}{ps qs:List PV}{xs ys:List V}{its its2:List AA}(r:d8 X.K H ps xs)(r':d8 X.K H qs ys)(rv:g6 xs its)(rv':g6 ys its2)
 (ih:∀p q x y u w,p∈ps->q∈qs->p8 X.K H p x->p8 X.K H q y->j6 x u->j6 y w->a83 A s u w (PyData.eqv p q)):
 ∀j (h1:j<its.toArray.size) (h2:j<its2.toArray.size),SeqAt.EqAt A s its.toArray[j] its2.toArray[j] (eAt ps qs j):=by
 intro j h1 h2
 have h1':j<its.length:=by simpa using h1
 have h2':j<its2.length:=by simpa using h2
 obtain⟨x,ex,rx⟩:=a1B rv h1'
 obtain⟨y,ey,ry⟩:=a1B rv' h2'
 obtain⟨p,ep,hp⟩:=r.getV ex
 obtain⟨q,eq,hq⟩:=r'.getV ey
 have:eAt ps qs j=PyData.eqv p q:=by simp [eAt,ep,eq]
 rw [this]
 have z:=(ih p q x y _ _ (Av ep) (Av eq) hp hq rx ry).eq
 simpa using z
theorem v9:∀{ps:List PV} {n:Nat} {p:PV},C6 ps n=true->p∈ps->l4 p n=true
 |[],_,_,_,h=>by cases h
 |x::xs,n,p,h,hp=>by
  have h':l4 x n=true/\C6 xs n=true:=by simpa [C6] using h
  rcases Ap.mp hp with rfl|hp
  ·exact h'.1
  ·exact v9 h'.2 hp
theorem a6I(I:d9 X pins σ H s):∀(n:Nat) (A:AJ) (p q:PV) (x y:V) (u w:AA),A.units+n<cLine->l4 p n=true->l4 q n=true->p8 X.K H p x->p8 X.K H q y->j6 x u->j6 y w->a83 A s u w (PyData.eqv p q):=by
 intro n
 induction n with
 |zero=>
  intro A p q x y u w hu hp hq rp rq rx ry
  cases p with
  |none=>
   cases rp;cases rx
   cases q with
   |none=>cases rq;cases ry;simp only [PyData.eqv];exact⟨.none_none,.none_none,.same _⟩
   |bool j=>cases rq;cases ry;simp only [PyData.eqv];exact⟨.none_bool _,.none_bool _,.none_bool _⟩
   |int j=>cases rq;obtain⟨ty,rfl⟩:=ry;simp only [PyData.eqv];exact⟨.none_int _ _,.none_int _ _,.none_int _ _⟩
   |str j=>cases rq;obtain⟨ty,rfl⟩:=ry;simp only [PyData.eqv];exact⟨.none_str _ _,.none_str _ _,.none_str _ _⟩
   |dict _=>simp [l4] at hq
   |list _=>simp [l4] at hq
   |tuple _=>simp [l4] at hq
  |bool i=>
   cases rp;cases rx
   cases q with
   |none=>cases rq;cases ry;simp only [PyData.eqv];exact⟨.bool_none _,.bool_none _,.bool_none _⟩
   |bool j=>cases rq;cases ry;simp only [PyData.eqv];exact⟨.bool_bool _ _,.bool_bool _ _,.bool_bool _ _⟩
   |int j=>cases rq;obtain⟨ty,rfl⟩:=ry;simp only [PyData.eqv];exact⟨.bool_int _ _ _,.bool_int _ _ _,.bool_int _ _ _⟩
   |str j=>cases rq;obtain⟨ty,rfl⟩:=ry;simp only [PyData.eqv];exact⟨.bool_str _ _ _,.bool_str _ _ _,.bool_str _ _ _⟩
   |dict _=>simp [l4] at hq
   |list _=>simp [l4] at hq
   |tuple _=>simp [l4] at hq
  |int i=>
   cases rp;obtain⟨tx,rfl⟩:=rx
   cases q with
   |none=>cases rq;cases ry;simp only [PyData.eqv];exact⟨.int_none _ _,.int_none _ _,.int_none _ _⟩
   |bool j=>cases rq;cases ry;simp only [PyData.eqv];exact⟨.int_bool _ _ _,.int_bool _ _ _,.int_bool _ _ _⟩
   |int j=>cases rq;obtain⟨ty,rfl⟩:=ry;simp only [PyData.eqv];exact⟨.int_int _ _ _ _,.int_int _ _ _ _,.int_int _ _ _ _⟩
   |str j=>cases rq;obtain⟨ty,rfl⟩:=ry;simp only [PyData.eqv];exact⟨.int_str _ _ _ _,.int_str _ _ _ _,.int_str _ _ _ _⟩
   |dict _=>simp [l4] at hq
   |list _=>simp [l4] at hq
   |tuple _=>simp [l4] at hq
  |str i=>
   cases rp;obtain⟨tx,rfl⟩:=rx
   cases q with
   |none=>cases rq;cases ry;simp only [PyData.eqv];exact⟨.str_none _ _,.str_none _ _,.str_none _ _⟩
   |bool j=>cases rq;cases ry;simp only [PyData.eqv];exact⟨.str_bool _ _ _,.str_bool _ _ _,.str_bool _ _ _⟩
   |int j=>cases rq;obtain⟨ty,rfl⟩:=ry;simp only [PyData.eqv];exact⟨.str_int _ _ _ _,.str_int _ _ _ _,.str_int _ _ _ _⟩
   |str j=>cases rq;obtain⟨ty,rfl⟩:=ry;simp only [PyData.eqv];exact⟨.str_str _ _ _ _,.str_str _ _ _ _,.str_str _ _ _ _⟩
   |dict _=>simp [l4] at hq
   |list _=>simp [l4] at hq
   |tuple _=>simp [l4] at hq
  |dict _=>simp [l4] at hp
  |list _=>simp [l4] at hp
  |tuple _=>simp [l4] at hp
 |succ n ih=>
  intro A p q x y u w hu hp hq rp rq rx ry
  have hu0:A.units<cLine:=by lia
  have hu1:A.in1.units+n<cLine:=by rw [a1M];lia
  cases p with
  |dict _=>simp [l4] at hp
  |list ps=>
   obtain⟨a,xs,rfl,hs,r⟩:=rp
   cases rx
   obtain⟨its,rv,pl,hz⟩:=I.list hs
   have okp:C6 ps n=true:=by simpa [l4] using hp
   cases q with
   |dict _=>simp [l4] at hq
   |list qs=>
    obtain⟨b,ys,rfl,hs',r'⟩:=rq
    cases ry
    obtain⟨its2,rv',pl',hz'⟩:=I.list hs'
    have okq:C6 qs n=true:=by simpa [l4] using hq
    have hle:its.toArray.size=ps.length:=by rw [<-r.length,rv.length];simp
    have hle':its2.toArray.size=qs.length:=by rw [<-r'.length,rv'.length];simp
    have he:=a3Q (A:=A.in1) (s:=s) r r' rv rv' fun p q x y u w hp' hq' rp' rq' rx' ry'=>ih A.in1 p q x y u w hu1 (v9 okp hp') (v9 okq hq') rp' rq' rx' ry'
    simp only [PyData.eqv]
    have main:SeqAt.RcAt A s (.ref a) (.ref b) (PyData.eqvAll ps qs)/\SeqAt.RcNeAt A s (.ref a) (.ref b) (!PyData.eqvAll ps qs):=by
     by_cases e:its.toArray.size=its2.toArray.size
     ·have el:ps.length=qs.length:=by rw [<-hle,<-hle',e]
      have e3:PyData.eqvAll ps qs=(AX its.toArray.size).all (eAt ps qs):=by
       rw [M8,el,Nat.min_self,hle,el];simp
      rw [e3]
      exact⟨.lists pl.isList pl'.isList e hu0 he,.lists pl.isList pl'.isList e hu0 he⟩
     ·have e3:PyData.eqvAll ps qs=false:=by
       rw [M8]
       have:(ps.length==qs.length)=false:=by
        rw [beq_eq_false_iff_ne];intro z;exact e (by rw [hle,hle',z])
       rw [this,Bool.and_false]
      have e4:(its.toArray.size !=its2.toArray.size)=true:=by simpa using e
      rw [e3]
      exact⟨.lists_lengths pl.isList pl'.isList e4 hu0,.lists_lengths pl.isList pl'.isList e4 hu0⟩
    refine⟨main.1,main.2, ?_⟩
    by_cases hab:a=b
    ·subst hab
     cases I.list_inj hs hs'
     cases d8.inj I ps qs r r'
     rw [S6 ps n okp]
     exact .same _
    ·exact .of_refs hab main.1
   |tuple qs=>
    obtain⟨b,ys,rfl,hs',r'⟩:=rq
    cases ry
    obtain⟨its2,rv',pl',hz'⟩:=I.tuple hs'.sq
    simp only [PyData.eqv]
    exact⟨.list_tuple pl.isList pl' hu0,.list_tuple pl.isList pl' hu0,.list_tuple pl.isList pl' hu0⟩
   |none=>cases rq;cases ry;simp only [PyData.eqv];exact⟨.list_none pl.isList hu0,.list_none pl.isList hu0,.list_none pl.isList hu0⟩
   |bool k=>cases rq;cases ry;simp only [PyData.eqv];exact⟨.list_bool _ pl.isList hu0,.list_bool _ pl.isList hu0,.list_bool _ pl.isList hu0⟩
   |int k=>cases rq;obtain⟨t,rfl⟩:=ry;simp only [PyData.eqv];exact⟨.list_int _ _ pl.isList hu0,.list_int _ _ pl.isList hu0,.list_int _ _ pl.isList hu0⟩
   |str k=>cases rq;obtain⟨t,rfl⟩:=ry;simp only [PyData.eqv];exact⟨.list_str _ _ pl.isList hu0,.list_str _ _ pl.isList hu0,.list_str _ _ pl.isList hu0⟩
  |tuple ps=>
   obtain⟨a,xs,rfl,hs,r⟩:=rp
   cases rx
   obtain⟨its,rv,pl,hz⟩:=I.tuple hs.sq
   have okp:C6 ps n=true:=by simpa [l4] using hp
   cases q with
   |dict _=>simp [l4] at hq
   |tuple qs=>
    obtain⟨b,ys,rfl,hs',r'⟩:=rq
    cases ry
    obtain⟨its2,rv',pl',hz'⟩:=I.tuple hs'.sq
    have okq:C6 qs n=true:=by simpa [l4] using hq
    have hle:its.toArray.size=ps.length:=by rw [<-r.length,rv.length];simp
    have hle':its2.toArray.size=qs.length:=by rw [<-r'.length,rv'.length];simp
    have he:=a3Q (A:=A.in1) (s:=s) r r' rv rv' fun p q x y u w hp' hq' rp' rq' rx' ry'=>ih A.in1 p q x y u w hu1 (v9 okp hp') (v9 okq hq') rp' rq' rx' ry'
    simp only [PyData.eqv]
    have e3:PyData.eqvAll ps qs=((AX (min its.toArray.size its2.toArray.size)).all (eAt ps qs)&& its.toArray.size==its2.toArray.size):=by
     rw [M8,hle,hle']
    have main:SeqAt.RcAt A s (.ref a) (.ref b) (PyData.eqvAll ps qs)/\SeqAt.RcNeAt A s (.ref a) (.ref b) (!PyData.eqvAll ps qs):=by
     rw [e3]
     exact⟨.tuples pl pl' hu0 he,.tuples pl pl' hu0 he⟩
    refine⟨main.1,main.2, ?_⟩
    by_cases hab:a=b
    ·subst hab
     cases I.tuple_inj hs.sq hs'.sq
     cases d8.inj I ps qs r r'
     rw [S6 ps n okp]
     exact .same _
    ·exact .of_refs hab main.1
   |list qs=>
    obtain⟨b,ys,rfl,hs',r'⟩:=rq
    cases ry
    obtain⟨its2,rv',pl',hz'⟩:=I.list hs'
    simp only [PyData.eqv]
    exact⟨.tuple_list pl pl'.isList hu0,.tuple_list pl pl'.isList hu0,.tuple_list pl pl'.isList hu0⟩
   |none=>cases rq;cases ry;simp only [PyData.eqv];exact⟨.tuple_none pl hu0,.tuple_none pl hu0,.tuple_none pl hu0⟩
   |bool k=>cases rq;cases ry;simp only [PyData.eqv];exact⟨.tuple_bool _ pl hu0,.tuple_bool _ pl hu0,.tuple_bool _ pl hu0⟩
   |int k=>cases rq;obtain⟨t,rfl⟩:=ry;simp only [PyData.eqv];exact⟨.tuple_int _ _ pl hu0,.tuple_int _ _ pl hu0,.tuple_int _ _ pl hu0⟩
   |str k=>cases rq;obtain⟨t,rfl⟩:=ry;simp only [PyData.eqv];exact⟨.tuple_str _ _ pl hu0,.tuple_str _ _ pl hu0,.tuple_str _ _ pl hu0⟩
  |none=>
   cases q with
   |list qs=>
    obtain⟨b,ys,rfl,hs',r'⟩:=rq;cases ry;obtain⟨its2,rv',pl',hz'⟩:=I.list hs';cases rp;cases rx;simp only [PyData.eqv]
    exact⟨.none_list pl'.isList hu0,.none_list pl'.isList hu0,.none_list pl'.isList hu0⟩
   |tuple qs=>
    obtain⟨b,ys,rfl,hs',r'⟩:=rq;cases ry;obtain⟨its2,rv',pl',hz'⟩:=I.tuple hs'.sq;cases rp;cases rx;simp only [PyData.eqv]
    exact⟨.none_tuple pl' hu0,.none_tuple pl' hu0,.none_tuple pl' hu0⟩
   |dict _=>simp [l4] at hq
   |_=>exact ih A _ _ x y u w (by lia) (by simp [l4]) (by simp [l4]) rp rq rx ry
  |bool k=>
   cases q with
   |list qs=>
    obtain⟨b,ys,rfl,hs',r'⟩:=rq;cases ry;obtain⟨its2,rv',pl',hz'⟩:=I.list hs';cases rp;cases rx;simp only [PyData.eqv]
    exact⟨.bool_list _ pl'.isList hu0,.bool_list _ pl'.isList hu0,.bool_list _ pl'.isList hu0⟩
   |tuple qs=>
    obtain⟨b,ys,rfl,hs',r'⟩:=rq;cases ry;obtain⟨its2,rv',pl',hz'⟩:=I.tuple hs'.sq;cases rp;cases rx;simp only [PyData.eqv]
    exact⟨.bool_tuple _ pl' hu0,.bool_tuple _ pl' hu0,.bool_tuple _ pl' hu0⟩
   |dict _=>simp [l4] at hq
   |_=>exact ih A _ _ x y u w (by lia) (by simp [l4]) (by simp [l4]) rp rq rx ry
  |int k=>
   cases q with
   |list qs=>
    obtain⟨b,ys,rfl,hs',r'⟩:=rq;cases ry;obtain⟨its2,rv',pl',hz'⟩:=I.list hs';cases rp;obtain⟨t,rfl⟩:=rx;simp only [PyData.eqv]
    exact⟨.int_list _ _ pl'.isList hu0,.int_list _ _ pl'.isList hu0,.int_list _ _ pl'.isList hu0⟩
   |tuple qs=>
    obtain⟨b,ys,rfl,hs',r'⟩:=rq;cases ry;obtain⟨its2,rv',pl',hz'⟩:=I.tuple hs'.sq;cases rp;obtain⟨t,rfl⟩:=rx;simp only [PyData.eqv]
    exact⟨.int_tuple _ _ pl' hu0,.int_tuple _ _ pl' hu0,.int_tuple _ _ pl' hu0⟩
   |dict _=>simp [l4] at hq
   |_=>exact ih A _ _ x y u w (by lia) (by simp [l4]) (by simp [l4]) rp rq rx ry
  |str k=>
   cases q with
   |list qs=>
    obtain⟨b,ys,rfl,hs',r'⟩:=rq;cases ry;obtain⟨its2,rv',pl',hz'⟩:=I.list hs';cases rp;obtain⟨t,rfl⟩:=rx;simp only [PyData.eqv]
    exact⟨.str_list _ _ pl'.isList hu0,.str_list _ _ pl'.isList hu0,.str_list _ _ pl'.isList hu0⟩
   |tuple qs=>
    obtain⟨b,ys,rfl,hs',r'⟩:=rq;cases ry;obtain⟨its2,rv',pl',hz'⟩:=I.tuple hs'.sq;cases rp;obtain⟨t,rfl⟩:=rx;simp only [PyData.eqv]
    exact⟨.str_tuple _ _ pl' hu0,.str_tuple _ _ pl' hu0,.str_tuple _ _ pl' hu0⟩
   |dict _=>simp [l4] at hq
   |_=>exact ih A _ _ x y u w (by lia) (by simp [l4]) (by simp [l4]) rp rq rx ry
end
end PU
set_option maxHeartbeats 1000000
namespace PU
open PySem PySem.Spec PyProof.Rows L2
instance:DecidableRel (fun(i j:Int)=>a4A i j):=fun i j=>by unfold a4A;infer_instance
instance (i j:Int):Decidable (a4A i j):=by unfold a4A;infer_instance
instance (i j:Int):Decidable (X0 i j):=by unfold X0;infer_instance
instance (i j:Int):Decidable (b3X i j):=by unfold b3X;infer_instance
def b9.mine:b9->Option (List PV)
 | .ow (.lst ps)=>some ps
 | .bo (.lst ps)=>some ps
 |_=>none
theorem a52{K:AD}{F H:Hp}{v:V}{r:b9}{ps:List PV}(h:J6 K F H v r)(e:r.mine=some ps):∃a xs,v= .ref a/\F a=none/\H a=some (.lst xs)/\d8 K F ps xs:=by
 cases r with
 |val _=>cases e
 |ow c=>cases c<;>cases e;exact h
 |bo c=>cases c<;>cases e;exact h
def t7(x y:b9):Option b9:=match x,y with
 | .val (.int i),.val (.int j)=>some (.val (.int (i+j)))
 | .val (.str i),.val (.str j)=>if i.length+j.length<=AK then some (.val (.str (i++j))) else none
 | .val (.tuple ps),.val (.tuple qs)=>if(ps.length≠0/\qs.length≠0)/\ps.length+qs.length<=AK then some (.val (.tuple (ps++qs))) else none
 |x,y=>match x.mine,y.mine with
  |some ps,some qs=>if ps.length+qs.length<=AK then some (.own (ps++qs)) else none
  |_,_=>none
section
variable {X:Cx}
theorem i4:OpM X (binaryOp .Add) t7:=by
 intro pins s σ H x y v u Q I rx ry h
 obtain⟨F,ra,rb,rz,s0,h1,h2,h3,k⟩:=h
 unfold t7 at h3
 split at h3
 ·cases h3
  cases h1;cases h2
  exact b3k pins s σ H _ _ v u Q I rx ry ⟨_,_,rfl,rfl,k _ F H (o9.here s0 rfl)⟩
 ·rename_i i j
  split at h3
  ·rename_i c
   cases h3
   cases h1;cases h2
   exact a60 pins s σ H _ _ v u Q I rx ry ⟨i,j,rfl,rfl,c,k _ F H (o9.here s0 rfl)⟩
  ·cases h3
 ·rename_i ps qs
  split at h3
  ·rename_i c
   cases h3
   obtain⟨a,xs,rfl,hq,r⟩:=h1
   obtain⟨b,ys,rfl,hq',r'⟩:=h2
   refine b1w pins s σ H _ _ v u Q I rx ry ⟨a,b,xs,ys,rfl,rfl,A0 s0 hq.sq,A0 s0 hq'.sq, ?_,by rw [r.length,r'.length];exact c.2, ?_⟩
   ·intro z
    subst z
    exact c.1.1 r.length.symm
   ·refine⟨fun z=> ?_,fun _ p hp=>k _ _ _ (o9.tup s0 hp (r.append r'))⟩
    subst z
    exact absurd r'.length.symm c.1.2
  ·cases h3
 ·split at h3
  ·rename_i ps qs e1 e2
   split at h3
   ·rename_i c
    cases h3
    obtain⟨a,xs,rfl,_,hq,r⟩:=a52 h1 e1
    obtain⟨b,ys,rfl,_,hq',r'⟩:=a52 h2 e2
    refine b3l pins s σ H _ _ v u Q I rx ry ⟨a,b,xs,ys,rfl,rfl,hq,hq',by rw [r.length,r'.length];exact c,fun p hp=> ?_⟩
    exact k _ _ _ (o9.lst s0 hp (r.append r'))
   ·cases h3
  ·cases h3
theorem L6:OpM X (binaryOp .Sub) (gI fun i j=> .int (i - j)):=a7L b3p fun _ _ _=>rfl
theorem b1A:OpM X (binaryOp .Mult) (X3 a4A fun i j=> .int (i*j)):=a61 b3n fun _ _ _=>rfl
theorem D7:OpM X (binaryOp .Mod) (X3 (fun _ j=>0<j) fun i j=> .int (i % j)):=a61 b3m fun _ _ _=>rfl
theorem z8:OpM X (binaryOp .FloorDiv) (X3 X0 fun i j=> .int (i / j)):=a61 b1x fun _ _ _=>rfl
theorem a1V:OpM X (compareOp .Gt) (gI fun i j=> .bool (decide (j<i))):=a7L b4m fun _ _ _=>rfl
theorem b3q:OpM X (compareOp .GtE) (gI fun i j=> .bool (decide (j<=i))):=a7L b4l fun _ _ _=>rfl
def gEq(x y:b9):Option b9:=if l4 x.rd 50=true/\l4 y.rd 50=true then some (.val (.bool (PyData.eqv x.rd y.rd))) else none
def gNe(x y:b9):Option b9:=if l4 x.rd 50=true/\l4 y.rd 50=true then some (.val (.bool (!PyData.eqv x.rd y.rd))) else none
theorem J0(hu:X.A.units+64<cLine):OpM X (compareOp .Eq) gEq:=by
 intro pins s σ H x y v u Q I rx ry h
 obtain⟨F,ra,rb,rz,s0,h1,h2,h3,k⟩:=h
 unfold gEq at h3
 split at h3
 ·rename_i c
  cases h3
  have z:=a6I I 50 X.A _ _ x y v u (by lia) c.1 c.2 (h1.rd s0) (h2.rd s0) rx ry
  exact z.rc _ _ _ _ ⟨.bl _,H,I,rfl,k _ F H (o9.here s0 rfl)⟩
 ·cases h3
theorem Z5(hu:X.A.units+64<cLine):OpM X (compareOp .NotEq) gNe:=by
 intro pins s σ H x y v u Q I rx ry h
 obtain⟨F,ra,rb,rz,s0,h1,h2,h3,k⟩:=h
 unfold gNe at h3
 split at h3
 ·rename_i c
  cases h3
  have z:=a6I I 50 X.A _ _ x y v u (by lia) c.1 c.2 (h1.rd s0) (h2.rd s0) rx ry
  exact z.ne _ _ _ _ ⟨.bl _,H,I,rfl,k _ F H (o9.here s0 rfl)⟩
 ·cases h3
def PyData.items?:PV->Option (List PV)
 | .list ps=>some ps
 | .tuple ps=>some ps
 |_=>none
theorem K3{F H:Hp}{v:V}{r:b9}{ps:List PV}(s0:d6 F H)(h:J6 X.K F H v r)(e:PyData.items? r.rd=some ps):∃a xs,v= .ref a/\(J2 X.K H a xs\/W4 X.K H a xs)/\d8 X.K F ps xs:=by
 cases r with
 |val p=>
  cases p with
  |list qs=>cases e;obtain⟨a,xs,rfl,hq,r⟩:=h;exact⟨a,xs,rfl,.inl (T9 s0 hq),r⟩
  |tuple qs=>cases e;obtain⟨a,xs,rfl,hq,r⟩:=h;exact⟨a,xs,rfl,.inr (A0 s0 hq.sq),r⟩
  |_=>cases e
 |ow c=>cases c<;>cases e;obtain⟨a,xs,rfl,_,hq,r⟩:=h;exact⟨a,xs,rfl,.inl (J2.of hq),r⟩
 |bo c=>cases c<;>cases e;obtain⟨a,xs,rfl,_,hq,r⟩:=h;exact⟨a,xs,rfl,.inl (J2.of hq),r⟩
def PyData.isNone:PV->Bool
 | .none=>true
 |_=>false
def y0(x y:b9):Option b9:=match y with
 | .val (.int i)=>(match x.rd with
   | .str z=>if z.length<=AK then(atI z.cps.toList i).map fun c=> .val (.str ⟨#[c]⟩) else none
   |p=>match PyData.items? p with
    |some ps=>(atI ps i).map .val
    |none=>none)
 |_=>none
theorem d8.atI{K:AD}{H:Hp}{ps:List PV}{xs:List V}{i:Int}{p:PV}(r:d8 K H ps xs)(e:L2.atI ps i=some p):∃v,L2.atI xs i=some v/\p8 K H p v:=by
 unfold L2.atI at e ⊢
 rw [r.length]
 obtain⟨j,e1,e2⟩:=bind_some e
 rw [e1]
 exact r.get e2
theorem ixm:IxR X (rM2 X.K y0):=by
 intro value slice pins s σ H x y v u Q I rx ry h hs
 obtain⟨F,ra,rb,rz,s0,h1,h2,h3,k⟩:=h
 unfold y0 at h3
 split at h3
 ·rename_i i
  cases h2
  split at h3
  ·rename_i z ez
   split at h3
   ·rename_i c
    have rr:=h1.rd s0
    rw [ez] at rr
    cases rr
    cases ea:L2.atI z.cps.toList i with
    |none=>rw [ea] at h3;cases h3
    |some ch=>
     rw [ea] at h3;cases h3
     exact b20 value slice pins s σ H _ _ v u Q I rx ry ⟨z,i,ch,rfl,rfl,c,ea,k _ F H (o9.here s0 rfl)⟩ hs
   ·cases h3
  ·split at h3
   ·rename_i ps e
    cases ea:L2.atI ps i with
    |none=>rw [ea] at h3;cases h3
    |some p=>
     rw [ea] at h3;cases h3
     obtain⟨a,xs,rfl,hq,r⟩:=K3 s0 h1 e
     obtain⟨z,ez,rp⟩:=r.atI ea
     rcases hq with hq|hq
     ·exact b1m value slice pins s σ H _ _ v u Q I rx ry ⟨a,xs,i,z,rfl,rfl,hq,ez,k _ F H (o9.here s0 rp)⟩ hs
     ·exact b21 value slice pins s σ H _ _ v u Q I rx ry ⟨a,xs,i,z,rfl,rfl,hq,ez,k _ F H (o9.here s0 rp)⟩ hs
   ·cases h3
 ·cases h3
theorem m4{a b:AE}{ma mb:M}{pos:Pos}(ha:EE X a ma)(hb:EE X b mb)(hs:a7f b:=by intro _ _;rfl):EE X (.Subscript a b pos) (m2 y0 ma mb):=
 o8 (b4q ixm ha hb hs) fun _ _ _ h=>a5k h
abbrev MA:=a9->Option (List PV)
def tMA(K:AD)(m:MA):TA:=fun σ H Q=>∃F ρ ps,n8 K F H σ ρ/\m ρ=some ps/\∀vs F' H',S0 F H F' H'->d8 K F' ps vs->Q vs H'
abbrev EA(X:Cx)(es:List AE)(m:MA):Prop:=PA X es (tMA X.K m)
def c4:MA:=fun _=>some []
def a6(m:M)(r:MA):MA:=fun ρ=>((m ρ).bind b9.toVal).bind fun p=>(r ρ).bind fun ps=>some (p::ps)
theorem c6:EA X [] c4:=b0i R4 fun σ H Q ⟨F,ρ,ps,he,hm,k⟩=>by
 cases hm
 exact k [] F H (S0.refl he.fh) rfl
theorem a8{e:AE}{es:List AE}{m:M}{r:MA}(ha:EE X e m)(hr:EA X es r)(hs:AN (e::es) X.env=(false,eval e X.env)::AN es X.env:=by rfl):EA X (e::es) (a6 m r):=
 b0i (C2 ha hr hs) fun σ H Q ⟨F,ρ,ps,he,hm,k⟩=>by
  obtain⟨p,e1,hm⟩:=bind_some hm
  obtain⟨r1,e1,e2⟩:=bind_some e1
  obtain⟨qs,e3,hm⟩:=bind_some hm
  cases hm
  refine⟨F,ρ,r1,he,e1,fun v F1 H1 o1=> ?_⟩
  obtain⟨F2,o2⟩:=o1.toVal e2
  exact⟨F2,ρ,qs,he.ext o2.x,e3,fun vs F3 H3 x3 rl=>k _ F3 H3 (o2.x.trans x3) ⟨v,vs,rfl,p8.mono x3.f _ o2.rep,rl⟩⟩
def a1j(m:MA):M:=fun ρ=>(m ρ).bind fun ps=>if ps.length<=AK then some (.val (.tuple ps)) else none
def a3Y(m:MA):M:=fun ρ=>(m ρ).bind fun ps=>if ps.length<=AK then some (.own ps) else none
theorem V0{es:List AE}{m:MA}{x1:Nat}{pos:Pos}(h:EA X es m):EE X (.Tuple es x1 pos) (a1j m):=
 o8 (a62 h) fun σ H Q ⟨F,ρ,r,he,hm,k⟩=>by
  obtain⟨ps,e1,hm⟩:=bind_some hm
  split at hm
  ·rename_i c
   cases hm
   exact⟨F,ρ,ps,he,e1,fun vs F1 H1 x rl=>⟨by rw [rl.length];exact c,fun p hp=>k _ _ _ (o9.trans x (o9.tup x.fh hp rl))⟩⟩
  ·cases hm
theorem Y3{es:List AE}{m:MA}{pos:Pos}(h:EA X es m):EE X (.List es pos) (a3Y m):=
 o8 (b3u h) fun σ H Q ⟨F,ρ,r,he,hm,k⟩=>by
  obtain⟨ps,e1,hm⟩:=bind_some hm
  split at hm
  ·rename_i c
   cases hm
   exact⟨F,ρ,ps,he,e1,fun vs F1 H1 x rl=>⟨by rw [rl.length];exact c,fun p hp=>k _ _ _ (o9.trans x (o9.lst x.fh hp rl))⟩⟩
  ·cases hm
def spP(K:AD)(n:Nat)(g:List PV->Option b9):Sp:=fun vs H Q _=>∃F ps r,d6 F H/\d8 K F ps vs/\ps.length=n/\g ps=some r/\∀v F' H',o9 K F H F' H' v r->Q v H'
def g0(g:List PV->Option b9)(m:MA):M:=fun ρ=>(m ρ).bind g
theorem b06{k n:Nat}{f:AB}{fd:FuncData}{ps:List Str}{g:List PV->Option b9}{x:Str}{p pos:Pos}{e:AE}{es:List AE}{m:MA}
 (G:N6 X.prog X.w X.K X.mg X.base CX0 k f fd ps (spP X.K n g)) (hr:E7 k X.A) (hg:Gl X x) (hm:X.mg x=some (.ref f)) (hk:PySem.W.keepIn X.K (.ref f)=true) (hb:a0x X.K fd ps []) (hn:∀ρ ps,m ρ=some ps->ps.length=n) (ha:EA X (e::es) m)
 (hdb:(x==("__debug__":Str))=false:=by decide) (he:AN (e::es) X.env=(false,eval e X.env)::AN es X.env:=by rfl) (hpl:(backTo pos (AN es X.env)).any (·.1)=false:=by rfl):
 EE X (.Call (.Name x p) (e::es) [] pos) (g0 g m):=
 o8 (a2H G hr hg hm hk hb .nil a6f ha hdb he hpl) fun σ H Q ⟨F,ρ,r,he,hm,k⟩=>by
  obtain⟨qs,e1,hm⟩:=bind_some hm
  refine⟨F,ρ,qs,he,e1,fun vs F1 H1 x rl=> ?_⟩
  show spP X.K n g (vs++[]) H1 Q E0
  rw [Ab]
  exact⟨F1,qs,r,x.fh,rl,hn _ _ e1,hm,fun v F2 H2 o=>k v F2 H2 (o9.trans x o)⟩
theorem f6:∀ρ ps,c4 ρ=some ps->ps.length=0:=fun _ _ h=>by cases h;rfl
theorem b0{m:M}{r:MA}{n:Nat}(h:∀ρ ps,r ρ=some ps->ps.length=n):∀ρ ps,a6 m r ρ=some ps->ps.length=n+1:=fun ρ ps e=>by
 obtain⟨p,e1,e⟩:=bind_some e
 obtain⟨qs,e3,e⟩:=bind_some e
 cases e
 rw [AW,h ρ qs e3]
end
mutual
def b2A(K:AD):Nat->AA->Option PV
 |0,_=>none
 |_+1,.none=>some .none
 |_+1,.bool b=>some (.bool b)
 |_+1,.int i _=>some (.int i)
 |_+1,.str x _=>some (.str x)
 |n+1,.ref a=>match K.lookup a with
  |some ⟨.type "tuple",_,.seq its _,_⟩=>if its.size<=1000 then(a89 K n its.toList).map .tuple else none
  |some ⟨.type "list",none,.seq its _,_⟩=>if its.size<=1000 then(a89 K n its.toList).map .list else none
  |_=>none
 |_+1,_=>none
def a89(K:AD):Nat->List AA->Option (List PV)
 |0,_=>none
 |_+1,[]=>some []
 |n+1,u::us=>(b2A K n u).bind fun p=>(a89 K n us).bind fun ps=>some (p::ps)
end
section
variable {X:Cx}
def b2q:PV->Option d5
 | .int i=>some (.inl i)
 | .str x=>some (.inr x)
 |_=>none
theorem a8u{K:AD}{H:Hp}{p:PV}{k:d5}{v:V}(e:b2q p=some k)(r:p8 K H p v):v=kV k:=by
 cases p with
 |int i=>cases e;cases r;rfl
 |str x=>cases e;cases r;rfl
 |_=>cases e
def b2j:List DictEntry->Option (List (d5×AA))
 |[]=>some []
 |e::es=>match e.key with
  | .int i _=>(b2j es).map fun r=>(.inl i,e.val)::r
  | .str x _=>(b2j es).map fun r=>(.inr x,e.val)::r
  |_=>none
def b0Q{κ:Type}(K:AD)(n:Nat):List (κ×AA)->Option (List (κ×PV))
 |[]=>some []
 |(k,u)::r=>(b2A K n u).bind fun p=>(b0Q K n r).bind fun t=>some ((k,p)::t)
def b4i{κ:Type}[DecidableEq κ](tbl:List (κ×PV))(k:κ):Option PV:=match tbl with
 |[]=>none
 |(k',p)::r=>if k'=k then some p else b4i r k
def R0:List PV->Option (List d5)
 |[]=>some []
 |p::ps=>(b2q p).bind fun k=>(R0 ps).bind fun ks=>some (k::ks)
theorem a0P{K:AD}{H:Hp}:∀{ps:List PV} {ks:List d5} {vs:List V},R0 ps=some ks->d8 K H ps vs->vs=ks.map kV
 |[],_,_,h,r=>by cases h;cases r;rfl
 |p::ps,_,_,h,⟨v,t,e,rp,rl⟩=>by
  obtain⟨k,e1,h⟩:=bind_some h
  obtain⟨ks,e2,h⟩:=bind_some h
  cases h
  subst e
  rw [a8u e1 rp,a0P e2 rl]
  rfl
def a1N:List AA->Option (List d5)
 |[]=>some []
 | .int i _::r=>(a1N r).map fun t=> .inl i::t
 | .str x _::r=>(a1N r).map fun t=> .inr x::t
 |_::_=>none
end
def b36(K:AD):List DictEntry->Option (List (List d5×AB×AA))
 |[]=>some []
 |e::es=>match e.key with
  | .ref b=>(match K.lookup b with
    |some ⟨.type "tuple",_,.seq its _,_⟩=>(a1N its.toList).bind fun ks=>(b36 K es).bind fun r=>some ((ks,b,e.val)::r)
    |_=>none)
  |_=>none
def a9a(K:AD)(n:Nat):List (List d5×AB×AA)->Option (List (List d5×PV))
 |[]=>some []
 |(k,_,u)::r=>(b2A K n u).bind fun p=>(a9a K n r).bind fun t=>some ((k,p)::t)
section
variable {X:Cx}
abbrev MT:=a9->Option Bool
def tMT(K:AD)(c:MT):TT:=fun σ H Q=>∃F ρ b,n8 K F H σ ρ/\c ρ=some b/\∀F' H',S0 F H F' H'->Q b H'
abbrev ET(X:Cx)(e:AE)(c:MT):Prop:=PT X e (tMT X.K c)
abbrev EW(X:Cx)(e:AE)(c:MT):Prop:=PW X e (tMT X.K c)
def a5f:b9->Option Bool
 | .val (.bool b)=>some b
 |_=>none
def tru(r:b9):Option Bool:=match r.rd with
 | .none=>some false
 | .bool b=>some b
 | .int i=>some (i !=0)
 | .str z=>if z.length<=AK then some ((z.length:Int) !=0) else none
 | .list ps=>some (!ps.isEmpty)
 | .tuple ps=>some (!ps.isEmpty)
 | .dict _=>none
def mtV(m:M):MT:=fun ρ=>(m ρ).bind tru
def U3(m:M):MT:=fun ρ=>(m ρ).bind a5f
theorem d8.empty{K:AD}{H:Hp}{ps:List PV}{vs:List V}(r:d8 K H ps vs):vs.isEmpty=ps.isEmpty:=by
 cases ps with
 |nil=>cases r;rfl
 |cons p ps=>obtain⟨_,_,e,_⟩:=r;subst e;rfl
theorem b18{H:Hp}{r:b9}{v:V}{b:Bool}(h:p8 X.K H r.rd v)(e:tru r=some b):b2y X.K v H b:=by
 unfold tru at e
 cases hp:r.rd with
 |none=>rw [hp] at h e;cases h;cases e;exact rfl
 |bool k=>rw [hp] at h e;cases h;cases e;exact rfl
 |int i=>rw [hp] at h e;cases h;cases e;exact rfl
 |str z=>
  rw [hp] at h e;cases h
  dsimp only at e
  split at e
  ·rename_i c;cases e;exact⟨c,rfl⟩
  ·cases e
 |list ps=>rw [hp] at h e;obtain⟨a,xs,rfl,hq,rl⟩:=h;cases e;exact .inl ⟨xs,hq,by rw [rl.empty]⟩
 |tuple ps=>rw [hp] at h e;obtain⟨a,xs,rfl,hq,rl⟩:=h;cases e;exact .inr (.inl ⟨xs,hq.sq,by rw [rl.empty]⟩)
 |dict _=>rw [hp] at e;cases e
theorem Q9{e:AE}{m:M}(h:EE X e m)(he:∀whole,isTrue e X.env whole=(do let v<-whole;standAt e.pos;holding [v] (truthy v)):=by intro _;rfl):ET X e (mtV m):=
 a5c (b0r h he) fun σ H Q ⟨F,ρ,b,h1,h2,k⟩=>by
  obtain⟨r,e1,e2⟩:=bind_some h2
  exact⟨F,ρ,r,h1,e1,fun v F1 H1 o=>⟨b,b18 (o.rep.rd o.x.fh) e2,k F1 H1 o.x⟩⟩
theorem a1r{K:AD}{F H:Hp}{r:b9}{v:V}{b:Bool}(h:J6 K F H v r)(e:a5f r=some b):v= .bl b:=by
 unfold a5f at e
 split at e
 ·cases e;exact h
 ·cases e
theorem l7{a b:AE}{ma mb:M}{pos:Pos}{op:CmpOp}{g:b9->b9->Option b9}(ho:OpM X (compareOp op) g)(ha:EE X a ma)(hb:EE X b mb)(hm:behindInMarks op b=false):ET X (.Compare a [op] [b] pos) (U3 (m2 g ma mb)):=
 a5c (b1K ho ha hb hm) fun σ H Q ⟨F,ρ,k,h1,h2,q⟩=>by
  obtain⟨r,e1,e2⟩:=bind_some h2
  exact a5k ⟨F,ρ,r,h1,e1,fun v F1 H1 o=>⟨k,a1r o.rep e2,q F1 H1 o.x⟩⟩
def Z3(c:MT):MT:=fun ρ=>(c ρ).map not
theorem Y4{a:AE}{c:MT}{pos:Pos}(ha:ET X a c):ET X (.UnaryOp .Not a pos) (Z3 c):=
 a5c (b3E ha) fun σ H Q ⟨F,ρ,k,h1,h2,q⟩=>by
  unfold Z3 at h2
  cases e:c ρ with
  |none=>rw [e] at h2;cases h2
  |some b=>rw [e] at h2;cases h2;exact⟨F,ρ,b,h1,e,q⟩
def a0D(c d:MT):MT:=fun ρ=>(c ρ).bind fun b=>if b=true then d ρ else some false
def a2u(c d:MT):MT:=fun ρ=>(c ρ).bind fun b=>if b=true then some true else d ρ
theorem a2C{a:AE}{c:MT}{pos:Pos}(ha:ET X a c):EW X (.BoolOp .And [a] pos) c:=b1M ha
theorem a0M{a:AE}{c:MT}{pos:Pos}(ha:ET X a c):EW X (.BoolOp .Or [a] pos) c:=b3G ha
theorem a23{a b:AE}{k4:List AE}{c d:MT}{pos:Pos}(ha:ET X a c)(hb:EW X (.BoolOp .And (b::k4) pos) d):EW X (.BoolOp .And (a::b::k4) pos) (a0D c d):=
 b0u (b3F ha hb) fun σ H Q ⟨F,ρ,k,h1,h2,q⟩=>by
  obtain⟨b,e1,e2⟩:=bind_some h2
  refine⟨F,ρ,b,h1,e1,fun F1 H1 x=> ?_⟩
  cases b with
  |true=>exact a6T ⟨F1,ρ,k,h1.ext x,e2,fun F2 H2 y=>q F2 H2 (x.trans y)⟩
  |false=>cases e2;exact a6S (q F1 H1 x)
theorem a0A{a b:AE}{k4:List AE}{c d:MT}{pos:Pos}(ha:ET X a c)(hb:EW X (.BoolOp .Or (b::k4) pos) d):EW X (.BoolOp .Or (a::b::k4) pos) (a2u c d):=
 b0u (b4s ha hb) fun σ H Q ⟨F,ρ,k,h1,h2,q⟩=>by
  obtain⟨b,e1,e2⟩:=bind_some h2
  refine⟨F,ρ,b,h1,e1,fun F1 H1 x=> ?_⟩
  cases b with
  |false=>exact a6S ⟨F1,ρ,k,h1.ext x,e2,fun F2 H2 y=>q F2 H2 (x.trans y)⟩
  |true=>cases e2;exact a6T (q F1 H1 x)
def a92(m n:M):M:=fun ρ=>(m ρ).bind fun r=>(a5f r).bind fun b=>if b=true then n ρ else some (.val (.bool false))
def b3a(m:M):M:=fun ρ=>(m ρ).bind fun r=>(a5f r).bind fun b=>some (.val (.bool (!b)))
theorem a9v{op:BoolOp}{a:AE}{m:M}{pos:Pos}(h:EE X a m):EE X (.BoolOp op [a] pos) m:=b3w h
theorem a6H{a b:AE}{k4:List AE}{m n:M}{pos:Pos}(ha:EE X a m)(hb:EE X (.BoolOp .And (b::k4) pos) n):EE X (.BoolOp .And (a::b::k4) pos) (a92 m n):=
 o8 (b3r ha hb) fun σ H Q ⟨F,ρ,r,h1,h2,q⟩=>by
  obtain⟨r1,e1,h2⟩:=bind_some h2
  obtain⟨b,e2,h2⟩:=bind_some h2
  refine⟨F,ρ,r1,h1,e1,fun v F1 H1 o=>⟨b,a1r o.rep e2, ?_⟩⟩
  cases b with
  |true=>exact a6T ⟨F1,ρ,r,h1.ext o.x,h2,fun w F2 H2 y=>q w F2 H2 (o9.trans o.x y)⟩
  |false=>cases h2;exact a6S (q _ F1 H1 (o9.val o.x rfl))
theorem b2N{a:AE}{m:M}{pos:Pos}(ha:EE X a m):EE X (.UnaryOp .Not a pos) (b3a m):=
 o8 (b3v ha) fun σ H Q ⟨F,ρ,r,h1,h2,q⟩=>by
  obtain⟨r1,e1,h2⟩:=bind_some h2
  obtain⟨b,e2,h2⟩:=bind_some h2
  cases h2
  exact⟨F,ρ,r1,h1,e1,fun v F1 H1 o=>⟨b,a1r o.rep e2,q _ F1 H1 (o9.val o.x rfl)⟩⟩
end
inductive Fl where
 |nx (ρ:a9)|rt (r:b9)|bk (ρ:a9)|ct (ρ:a9)
abbrev MS:=a9->Option Fl
structure R8(K:AD)(F0 H0 F H:Hp)(σ:L2.St)(ρ:a9):Prop where
 x:S0 F0 H0 F H
 e:n8 K F H σ ρ
 nw:∀(i:Nat) (c:P8) (a:AB),ρ[i]?=some (some (.ow c))->σ[i]?=some (some (.ref a))->H0 a=none
def Fin(K:AD)(F0 H0 F:Hp)(D:Q6):Fl->Prop
 | .nx ρ=>∀σ' F' H',d6 F F'->R8 K F0 H0 F' H' σ' ρ->D.nx σ' H'
 | .rt r=>∀v F' H',o9 K F0 H0 F' H' v r->D.rt v H'
 | .bk ρ=>∀σ' F' H',d6 F F'->R8 K F0 H0 F' H' σ' ρ->D.bk σ' H'
 | .ct ρ=>∀σ' F' H',d6 F F'->R8 K F0 H0 F' H' σ' ρ->D.ct σ' H'
theorem Fin.later{K:AD}{F0 H0 F F1:Hp}{D:Q6}(s:d6 F F1):∀{fl:Fl},Fin K F0 H0 F D fl->Fin K F0 H0 F1 D fl
 | .nx _,h=>fun σ' F' H' s' so=>h σ' F' H' (s.trans s') so
 | .rt _,h=>h
 | .bk _,h=>fun σ' F' H' s' so=>h σ' F' H' (s.trans s') so
 | .ct _,h=>fun σ' F' H' s' so=>h σ' F' H' (s.trans s') so
def tMS(K:AD)(m:MS):TS:=fun D σ H=>∃F0 H0 F ρ fl,R8 K F0 H0 F H σ ρ/\m ρ=some fl/\Fin K F0 H0 F D fl
abbrev ES(X:Cx)(st:Stmt)(m:MS):Prop:=PS X st (tMS X.K m)
abbrev ESs(X:Cx)(st:List Stmt)(m:MS):Prop:=PSs X st (tMS X.K m)
theorem R8.ext{K:AD}{F0 H0 F H F' H':Hp}{σ:L2.St}{ρ:a9}(s:R8 K F0 H0 F H σ ρ)(x:S0 F H F' H'):R8 K F0 H0 F' H' σ ρ:=⟨s.x.trans x,s.e.ext x,s.nw⟩
def b9.nb:b9->Bool
 | .bo _=>false
 |_=>true
theorem R8.set{K:AD}{F0 H0 F H F' H':Hp}{σ:L2.St}{ρ:a9}{v:V}{r:b9}(s:R8 K F0 H0 F H σ ρ)(o:o9 K F H F' H' v r)(hb:r.nb=true)(i:Nat):R8 K F0 H0 F' H' (σ.set i (some v)) (ρ.set i (some r)):=by
 have s1:=s.ext o.x
 have le:=s.e.len
 refine⟨s1.x,⟨s1.e.fh,by simp [le],fun j q e=> ?_,fun j ps e=> ?_,fun j k ps qs a hjk e1 e2 e3 e4=> ?_⟩,fun j ps a e1 e2=> ?_⟩
 ·rw [List.getElem?_set] at e ⊢
  by_cases hij:i=j
  ·subst hij
   rw [if_pos rfl] at e ⊢
   rw [le]
   split at e
   ·rename_i c;cases e;rw [if_pos c];exact⟨v,rfl,o.rep⟩
   ·cases e
  ·rw [if_neg hij] at e ⊢
   exact s1.e.at_ j q e
 ·rw [List.getElem?_set] at e
  by_cases hij:i=j
  ·subst hij
   rw [if_pos rfl] at e
   split at e
   ·cases e;cases hb
   ·cases e
  ·rw [if_neg hij] at e
   exact s1.e.nb j ps e
 ·rw [List.getElem?_set] at e1 e2 e3 e4
  by_cases hij:i=j
  ·subst hij
   rw [if_pos rfl] at e1 e3
   rw [if_neg hjk] at e2 e4
   split at e1
   ·cases e1
    split at e3
    ·cases e3
     have fr:=o.fr ps a rfl rfl
     obtain⟨w,h1,rr⟩:=s.e.at_ k _ e2
     obtain⟨a',xs,h2,_,h3⟩:=J5.at_ rr
     rw [e4] at h1;cases h1
     cases h2
     rw [fr] at h3;cases h3
    ·cases e3
   ·cases e1
  ·rw [if_neg hij] at e1 e3
   by_cases hik:i=k
   ·subst hik
    rw [if_pos rfl] at e2 e4
    split at e2
    ·cases e2
     split at e4
     ·cases e4
      have fr:=o.fr qs a rfl rfl
      obtain⟨w,h1,rr⟩:=s.e.at_ j _ e1
      obtain⟨a',xs,h2,_,h3⟩:=J5.at_ rr
      rw [e3] at h1;cases h1
      cases h2
      rw [fr] at h3;cases h3
     ·cases e4
    ·cases e2
   ·rw [if_neg hik] at e2 e4
    exact s1.e.ap j k ps qs a hjk e1 e2 e3 e4
 ·rw [List.getElem?_set] at e1 e2
  by_cases hij:i=j
  ·subst hij
   rw [if_pos rfl] at e1 e2
   split at e1
   ·cases e1
    split at e2
    ·cases e2;exact s.x.h.free (o.fr ps a rfl rfl)
    ·cases e2
   ·cases e1
  ·rw [if_neg hij] at e1 e2
   exact s.nw j ps a e1 e2
section
variable {X:Cx}
def v5:MS:=fun ρ=>some (.nx ρ)
def k0(m n:MS):MS:=fun ρ=>(m ρ).bind fun fl=>match fl with
 | .nx ρ'=>n ρ'
 |f=>some f
theorem C8:ESs X [] v5:=N2 a5b fun D σ H ⟨F0,H0,F,ρ,fl,so,e,fin⟩=>by
 cases e
 exact fin σ F H (PU.d6.refl F) so
theorem c8{st:Stmt}{k4:List Stmt}{m n:MS}(h1:ES X st m)(h2:ESs X k4 n):ESs X (st::k4) (k0 m n):=
 N2 (Z6 h1 h2) fun D σ H ⟨F0,H0,F,ρ,fl,so,e,fin⟩=>by
  obtain⟨f1,e1,e⟩:=bind_some e
  cases f1 with
  |nx ρ'=>exact⟨F0,H0,F,ρ,.nx ρ',so,e1,fun σ' F' H' s so'=>⟨F0,H0,F',ρ',fl,so',e,fin.later s⟩⟩
  |rt r=>cases e;exact⟨F0,H0,F,ρ,_,so,e1,fin⟩
  |bk r=>cases e;exact⟨F0,H0,F,ρ,_,so,e1,fin⟩
  |ct r=>cases e;exact⟨F0,H0,F,ρ,_,so,e1,fin⟩
theorem d7{st:Stmt}{m:MS}(h1:ES X st m):ESs X [st] m:=a1p h1
def u6(i:Nat)(m:M):MS:=fun ρ=>(m ρ).bind fun r=>if r.nb=true then some (.nx (ρ.set i (some r))) else none
theorem i5{i:Nat}{x:Str}{e:AE}{m:M}{pos pos':Pos}(hN:X.N.Nodup)(he:EE X e m)(hi:X.N[i]?=some x:=by rfl)(hx:Loc X.env.scope x:=by exact Or.inl rfl)(hs:swapsWith e (some (.Name x pos')) pos.line X.env=pure false:=by rfl)(hf:X.fn x=true\/X.env.scope.names.lookup x=some .local:=by first|exact .inl rfl|exact .inr rfl|assumption):
 ES X (.Assign [.Name x pos'] e pos) (u6 i m):=
 D0 (a65 hN hi hx he hs hf) fun D σ H ⟨F0,H0,F,ρ,fl,so,e,fin⟩=>by
  obtain⟨r,e1,e⟩:=bind_some e
  split at e
  ·rename_i c
   cases e
   exact⟨F,ρ,r,so.e,e1,fun v F' H' o=>fin _ F' H' o.x.f (so.set o c i)⟩
  ·cases e
def D4(m:M):MS:=fun ρ=>(m ρ).bind fun r=>if r.nb=true then some (.rt r) else none
theorem o0{e:AE}{m:M}{pos:Pos}(he:EE X e m):ES X (.Return (some e) pos) (D4 m):=
 D0 (a64 he) fun D σ H ⟨F0,H0,F,ρ,fl,so,e,fin⟩=>by
  obtain⟨r,e1,e⟩:=bind_some e
  split at e
  ·rename_i c
   cases e
   exact⟨F,ρ,r,so.e,e1,fun v F' H' o=>fin v F' H' (o9.trans so.x o)⟩
  ·cases e
def a0C(i:Nat):MS:=fun ρ=>match ρ[i]? with
 |some (some r)=>some (.rt r)
 |_=>none
theorem a08(i:Nat){x:Str}{p pos:Pos}(h:PE X (.Name x p) (a0w i)):ES X (.Return (some (.Name x p)) pos) (a0C i):=
 D0 (a64 h) fun D σ H ⟨F0,H0,F,ρ,fl,so,e,fin⟩=>by
  unfold a0C at e
  split at e
  ·rename_i r er
   cases e
   obtain⟨v,e1,rr⟩:=so.e.at_ i _ er
   exact⟨v,e1,fin v F H ⟨so.x,rr,fun ps a z1 z2=>by subst z1;subst z2;exact so.nw i ps a er e1⟩⟩
  ·cases e
def G8(c:MT)(m n:MS):MS:=fun ρ=>(c ρ).bind fun b=>if b=true then m ρ else n ρ
theorem F9{c:AE}{a b:List Stmt}{mc:MT}{m n:MS}{pos:Pos}(hc:ET X c mc)(ha:ESs X a m)(hb:ESs X b n):ES X (.If c a b pos) (G8 mc m n):=
 D0 (b0p hc ha hb) fun D σ H ⟨F0,H0,F,ρ,fl,so,e,fin⟩=>by
  obtain⟨b,e1,e⟩:=bind_some e
  refine⟨F,ρ,b,so.e,e1,fun F1 H1 x=> ?_⟩
  cases b with
  |true=>exact a6T ⟨F0,H0,F1,ρ,fl,so.ext x,e,fin.later x.f⟩
  |false=>exact a6S ⟨F0,H0,F1,ρ,fl,so.ext x,e,fin.later x.f⟩
def setAll{α:Type}:List (Option α)->List Nat->List α->List (Option α)
 |σ,i::is,x::xs=>setAll (σ.set i (some x)) is xs
 |σ,_,_=>σ
def a6O:List Nat->TGs
 |[]=>b4f
 |i::is=>b2m (a4c i) (a6O is)
theorem a4d:∀{is:List Nat} {xs:List V} {σ:L2.St} {H:Hp} {Q:L2.St->Hp->Prop},xs.length=is.length->Q (setAll σ is xs) H->a6O is xs σ H Q
 |[],[],_,_,_,_,q=>⟨rfl,q⟩
 |[],_::_,_,_,_,h,_=>by cases h
 |_::_,[],_,_,_,h,_=>by cases h
 |i::is,x::xs,σ,H,Q,h,q=>⟨x,xs,rfl,a4d (is:=is) (xs:=xs) (by simpa using h) q⟩
theorem R8.setAll{K:AD}{F0 H0 F H:Hp}:∀{is:List Nat} {xs:List V} {ps:List PV} {σ:L2.St} {ρ:a9},R8 K F0 H0 F H σ ρ->d8 K F ps xs->R8 K F0 H0 F H (PU.setAll σ is xs) (PU.setAll ρ is (ps.map .val))
 |[],xs,ps,σ,ρ,s,r=>by
  have e1:PU.setAll σ [] xs=σ:=by cases xs<;>rfl
  have e2:PU.setAll ρ [] (ps.map b9.val)=ρ:=by cases ps<;>rfl
  rw [e1,e2];exact s
 |i::is,xs,[],σ,ρ,s,r=>by cases r;exact s
 |i::is,xs,p::ps,σ,ρ,s,⟨v,t,e,rp,rl⟩=>by
  subst e
  exact R8.setAll (is:=is) (s.set (o9.here s.e.fh rp) rfl i) rl
def b3c(is:List Nat)(m:M):MS:=fun ρ=>(m ρ).bind fun r=>match r with
 | .val (.tuple ps)=>if ps.length=is.length then some (.nx (setAll ρ is (ps.map .val))) else none
 |_=>none
theorem b2R{is:List Nat}{es:List AE}{k:Nat}{e:AE}{m:M}{pos tpos:Pos}(hc:X.calm=true)(he:EE X e m)(hg:PGs X es (a6O is))
 (hn:(assignEach es X.env).length=is.length:=by rfl) (hst:(assignEach es X.env).findIdx? (·.1)=none:=by rfl)
 (hs:swapsWithSole [.Tuple es k tpos] e pos.line X.env=pure false:=by rfl) (hw:swappedStores [.Tuple es k tpos] e X.env=pure none:=by rfl)
 (h1:(assignEach [.Tuple es k tpos] X.env).map (·.2)=[assign (.Tuple es k tpos) X.env]:=by rfl):ES X (.Assign [.Tuple es k tpos] e pos) (b3c is m):=
 D0 (b3B he (b3z hc hg hn hst) hs hw h1) fun D σ H ⟨F0,H0,F,ρ,fl,so,e,fin⟩=>by
  obtain⟨r,e1,e⟩:=bind_some e
  split at e
  ·rename_i ps
   split at e
   ·rename_i c
    cases e
    refine⟨F,ρ,_,so.e,e1,fun v F' H' o=> ?_⟩
    obtain⟨a,xs,rfl,hq,rl⟩:=o.rep
    have hl:xs.length=is.length:=by rw [rl.length];exact c
    exact⟨a,xs,rfl,A0 o.x.fh hq.sq,hl,a4d hl (fin _ F' H' o.x.f ((so.ext o.x).setAll rl))⟩
   ·cases e
  ·cases e
def O5(body:MS)(tg:PV->a9->Option a9):List PV->a9->Option Fl
 |[],ρ=>some (.nx ρ)
 |p::ps,ρ=>(tg p ρ).bind fun ρ1=>(body ρ1).bind fun fl=>match fl with
  | .nx ρ'=>O5 body tg ps ρ'
  | .ct ρ'=>O5 body tg ps ρ'
  | .bk ρ'=>some (.nx ρ')
  | .rt r=>some (.rt r)
def g8(i:Nat):PV->a9->Option a9:=fun p ρ=>some (ρ.set i (some (.val p)))
def a88(K:AD)(g:TG)(tg:PV->a9->Option a9):Prop:=
 ∀F0 H0 F H σ ρ ρ1 p x (Q:L2.St->Hp->Prop),R8 K F0 H0 F H σ ρ->p8 K F p x->tg p ρ=some ρ1->(∀σ',R8 K F0 H0 F H σ' ρ1->Q σ' H)->g x σ H Q
theorem m9{K:AD}(i:Nat):a88 K (a4c i) (g8 i):=fun F0 H0 F H σ ρ ρ1 p x Q so r e k=>by
 cases e
 exact k _ (so.set (o9.here so.e.fh r) rfl i)
theorem a8l{body:MS}{tg:PV->a9->Option a9}{ps:List PV}{p:PV}{ρ:a9}{fl:Fl}(h:O5 body tg (p::ps) ρ=some fl):∃ρ1 f1,tg p ρ=some ρ1/\body ρ1=some f1/\(match f1 with
 | .nx ρ'=>O5 body tg ps ρ'
 | .ct ρ'=>O5 body tg ps ρ'
 | .bk ρ'=>some (.nx ρ')
 | .rt r=>some (.rt r))=some fl:=by
 unfold O5 at h
 obtain⟨ρ1,e1,h⟩:=bind_some h
 obtain⟨f1,e2,h⟩:=bind_some h
 exact⟨ρ1,f1,e1,e2,h⟩
def PvL(K:AD)(F0 H0 F1:Hp)(body:MS)(tg:PV->a9->Option a9)(ps:List PV)(fl:Fl)(k:Nat)(σ:L2.St)(H:Hp):Prop:=
 ∃F ρ,d6 F1 F/\R8 K F0 H0 F H σ ρ/\O5 body tg (ps.drop k) ρ=some fl
theorem a0l{K:AD}{F0 H0 F1:Hp}{body:MS}{tg:PV->a9->Option a9}{g:TG}{ps:List PV}{fl:Fl}{D:Q6}{k:Nat}{p:PV}{x:V}{σ:L2.St}{H:Hp}(T:a88 K g tg)(fin:Fin K F0 H0 F1 D fl)(ep:ps[k]?=some p)
 (hp:PvL K F0 H0 F1 body tg ps fl k σ H) (rx:∀F,d6 F1 F->p8 K F p x):
 g x σ H fun σ2 H2=>tMS K body {D with nx:=PvL K F0 H0 F1 body tg ps fl (k+1),ct:=PvL K F0 H0 F1 body tg ps fl (k+1),bk:=D.nx} σ2 H2:=by
 obtain⟨F,ρ,s,so,e⟩:=hp
 have hk:k<ps.length:=(Ar.mp ep).1
 have hd:ps.drop k=p::ps.drop (k+1):=by
  rw [List.drop_eq_getElem_cons hk]
  congr 1
  exact(Ar.mp ep).2
 rw [hd] at e
 obtain⟨ρ1,f1,e1,e2,e3⟩:=a8l e
 refine T F0 H0 F H σ ρ ρ1 p x _ so (rx F s) e1 fun σ' so'=>⟨F0,H0,F,ρ1,f1,so',e2, ?_⟩
 cases f1 with
 |nx ρ'=>exact fun σ2 F2 H2 s2 so2=>⟨F2,ρ',s.trans s2,so2,e3⟩
 |ct ρ'=>exact fun σ2 F2 H2 s2 so2=>⟨F2,ρ',s.trans s2,so2,e3⟩
 |bk ρ'=>cases e3;exact fun σ2 F2 H2 s2 so2=>fin σ2 F2 H2 (s.trans s2) so2
 |rt r=>cases e3;exact fin
theorem a1d{K:AD}{F0 H0 F1:Hp}{body:MS}{tg:PV->a9->Option a9}{ps:List PV}{fl:Fl}{D:Q6}{σ:L2.St}{H:Hp}(fin:Fin K F0 H0 F1 D fl)
 (hp:PvL K F0 H0 F1 body tg ps fl ps.length σ H):D.nx σ H:=by
 obtain⟨F,ρ,s,so,e⟩:=hp
 rw [List.drop_length] at e
 cases e
 exact fin σ F H s so
abbrev MI:=a9->Option (List PV)
def a1P(m:M):MI:=fun ρ=>((m ρ).bind b9.toVal).bind PyData.items?
def b4U(K:AD)(tl:TE):TI:=fun σ H R=>tl σ H fun x H1=>∃a,x= .ref a/\(((∃xs,J2 K H1 a xs)/\R (Itl K a) H1)\/((∃xs,W4 K H1 a xs)/\R (Itt K a) H1))
theorem b0n{tg l:AE}{tl:TE}(hl:PE X l tl):PI X tg l (b4U X.K tl):=by
 intro pins s σ H R I h
 refine E5 (hl pins s σ H _ I h) fun v s1 ⟨x,H1,I1,r1,q1⟩=> ?_
 obtain⟨a,e,q⟩:=q1
 subst e
 cases r1
 rcases q with⟨⟨xs,hq⟩,q⟩|⟨⟨xs,hq⟩,q⟩
 ·obtain⟨its,rv,p,hz⟩:=I1.list hq
  refine wpAny_pyIter_list p.isList ?_
  refine⟨s1.heap.objs.size,[s1.heap.objs.size],_,_,H1,rfl,I1.kept (t':=s1.toks) fun b o e=>Ag _ e,a80 a _,⟨_,Ao _ rfl,rfl,rfl⟩,fun b hb=> ?_,q⟩
  have e:b=s1.heap.objs.size:=by simpa using hb
  subst e
  exact I1.fpOk (AM _) (I1.hok.fresh (AM _))
 ·obtain⟨its,rv,p,hz⟩:=I1.tuple hq
  refine wpAny_pyIter_tuple (show s1.heap.IsTuple a its.toArray from p) ?_
  refine⟨s1.heap.objs.size,[s1.heap.objs.size],_,_,H1,rfl,I1.kept (t':=s1.toks) fun b o e=>Ag _ e,a7a a _,⟨_,Ao _ rfl,rfl,rfl⟩,fun b hb=> ?_,q⟩
  have e:b=s1.heap.objs.size:=by simpa using hb
  subst e
  exact I1.fpOk (AM _) (I1.hok.fresh (AM _))
def X2(it:MI)(tg:PV->a9->Option a9)(body:MS):MS:=fun ρ=>(it ρ).bind fun ps=>O5 body tg ps ρ
theorem a4P{tg iter:AE}{body:List Stmt}{m:M}{g:TG}{t:PV->a9->Option a9}{b:MS}{pos:Pos}(hp:PassesOwn (model X.prog X.w) X.A X.env X.xe)(hc:X.calm=true)(hi:EE X iter m)(hg:PG X tg g)(T:a88 X.K g t)(hb:ESs X body b)
 (hs:∀x,foldedSetIterable iter X.env x=pure x:=by intro _;rfl):ES X (.For tg iter body [] pos) (X2 (a1P m) t b):=
 D0 (a5a hp hc (b0n hi) hg hb hs) fun D σ H ⟨F0,H0,F,ρ,fl,so,e,fin⟩=>by
  obtain⟨ps,e1,e⟩:=bind_some e
  obtain⟨q,e1,e2⟩:=bind_some e1
  obtain⟨r,e1,e3⟩:=bind_some e1
  refine⟨F,ρ,r,so.e,e1,fun v F' H' o=> ?_⟩
  obtain⟨F1,o1⟩:=o.toVal e3
  have fin1:=fin.later o1.x.f
  have so1:=so.ext o1.x
  obtain⟨a,xs,rfl,hq,rl⟩:=K3 (F:=F1) (H:=F1) (PU.d6.refl F1) (show J6 X.K F1 F1 v (.val q) from o1.rep) e2
  have hlen:=rl.length
  have get:∀k x,xs[k]?=some x->∃p,ps[k]?=some p/\∀F,d6 F1 F->p8 X.K F p x:=fun k x ex=>by
   obtain⟨p,ep,rp⟩:=rl.getV ex
   exact⟨p,ep,fun F s=>p8.mono s _ rp⟩
  rcases hq with hq|hq
  ·refine⟨a,rfl,.inl ⟨⟨xs,T9 o1.x.fh hq⟩,a5N (K:=X.K) (a:=a) (xs:=xs) (PvL X.K F0 H0 F1 b t ps fl) ⟨F1,ρ,PU.d6.refl F1,so1,e⟩ (fun k σ H _ ⟨F,_,s,so2,_⟩=>T9 (s.trans so2.e.fh) hq) (fun k x σ H ex hp=> ?_) (fun σ H hp=> ?_)⟩⟩
   ·obtain⟨p,ep,rp⟩:=get k x ex
    exact a0l T fin1 ep hp rp
   ·rw [hlen] at hp
    exact a1d fin1 hp
  ·refine⟨a,rfl,.inr ⟨⟨xs,A0 o1.x.fh hq⟩,b1e (K:=X.K) (a:=a) (xs:=xs) (PvL X.K F0 H0 F1 b t ps fl) ⟨F1,ρ,PU.d6.refl F1,so1,e⟩ (fun k σ H _ ⟨F,_,s,so2,_⟩=>A0 (s.trans so2.e.fh) hq) (fun k x σ H ex hp=> ?_) (fun σ H hp=> ?_)⟩⟩
   ·obtain⟨p,ep,rp⟩:=get k x ex
    exact a0l T fin1 ep hp rp
   ·rw [hlen] at hp
    exact a1d fin1 hp
def y6(lo hi:Int):List PV:=(AX (hi - lo).toNat).map fun k=> .int (lo+(k:Nat))
theorem a9N:∃f:Int->Bool,∀j,f j=decide (-(2 ^ 62)<=j/\j<2 ^ 62):=⟨_,fun _=>rfl⟩
def inR:Int->Bool:=a9N.choose
theorem b2Z(j:Int):inR j=decide (-(2 ^ 62)<=j/\j<2 ^ 62):=a9N.choose_spec j
theorem V3{j:Int}:inR j=true↔(-(2 ^ 62)<=j/\j<2 ^ 62):=by rw [b2Z,decide_eq_true_iff]
def W6(m:MA):MI:=fun ρ=>(m ρ).bind fun ps=>match ps with
 |[.int j]=>if inR j=true then some (y6 0 j) else none
 |_=>none
def a2g(m:MA):MI:=fun ρ=>(m ρ).bind fun ps=>match ps with
 |[.int i,.int j]=>if inR i=true/\inR j=true then some (y6 i j) else none
 |_=>none
theorem a1t{lo hi:Int}{k:Nat}(h:k<(hi - lo).toNat):(y6 lo hi)[k]?=some (.int (lo+k)):=by
 simp [y6,h]
theorem z9(lo hi:Int):(y6 lo hi).length=(hi - lo).toNat:=by simp [y6]
theorem a07{tg a:AE}{body:List Stmt}{m:MA}{g:TG}{t:PV->a9->Option a9}{b:MS}{p rp pos:Pos}(hp:PassesOwn (model X.prog X.w) X.A X.env X.xe)(hc:X.calm=true)(hgl:Gl X "range")(hm:X.mg "range"=none)(ha:EA X [a] m)(hg:PG X tg g)(T:a88 X.K g t)(hb:ESs X body b)
 (hst:AN [a] X.env=[(false,eval a X.env)]:=by rfl) (hs:∀x,foldedSetIterable (.Call (.Name "range" p) [a] [] rp) X.env x=pure x:=by intro _;rfl):ES X (.For tg (.Call (.Name "range" p) [a] [] rp) body [] pos) (X2 (W6 m) t b):=
 D0 (a5a hp hc (a4n hgl hm ha hst) hg hb hs) fun D σ H ⟨F0,H0,F,ρ,fl,so,e,fin⟩=>by
  obtain⟨ps,e1,e⟩:=bind_some e
  obtain⟨qs,e1,e2⟩:=bind_some e1
  refine⟨F,ρ,qs,so.e,e1,fun vs F1 H1 x rl=> ?_⟩
  split at e2
  ·rename_i j
   split at e2
   ·rename_i c
    have c:=V3.mp c
    cases e2
    obtain⟨v,r,rfl,rv,rr⟩:=rl
    cases rv
    cases rr
    have fin1:=fin.later x.f
    have hz:(j - 0).toNat=j.toNat:=by lia
    refine⟨j,rfl,c.1,c.2,a4b (lo:=0) (n:=j.toNat) (PvL X.K F0 H0 F1 b t (y6 0 j) fl) ⟨F1,ρ,PU.d6.refl F1,so.ext x,e⟩ (fun k σ H hk hp=> ?_) (fun σ H hp=> ?_)⟩
    ·exact a0l T fin1 (a1t (by lia)) hp fun _ _=>rfl
    ·have:j.toNat=(y6 0 j).length:=by rw [z9,hz]
     rw [this] at hp
     exact a1d fin1 hp
   ·cases e2
  ·cases e2
theorem S7{tg a a2:AE}{body:List Stmt}{m:MA}{g:TG}{t:PV->a9->Option a9}{b:MS}{p rp pos:Pos}(hp:PassesOwn (model X.prog X.w) X.A X.env X.xe)(hc:X.calm=true)(hgl:Gl X "range")(hm:X.mg "range"=none)(ha:EA X [a,a2] m)(hg:PG X tg g)(T:a88 X.K g t)(hb:ESs X body b)
 (hst:AN [a,a2] X.env=[(false,eval a X.env),(false,eval a2 X.env)]:=by rfl) (hst2:AN [a2] X.env=[(false,eval a2 X.env)]:=by rfl) (hs:∀x,foldedSetIterable (.Call (.Name "range" p) [a,a2] [] rp) X.env x=pure x:=by intro _;rfl):
 ES X (.For tg (.Call (.Name "range" p) [a,a2] [] rp) body [] pos) (X2 (a2g m) t b):=
 D0 (a5a hp hc (a8O hgl hm ha hst hst2) hg hb hs) fun D σ H ⟨F0,H0,F,ρ,fl,so,e,fin⟩=>by
  obtain⟨ps,e1,e⟩:=bind_some e
  obtain⟨qs,e1,e2⟩:=bind_some e1
  refine⟨F,ρ,qs,so.e,e1,fun vs F1 H1 x rl=> ?_⟩
  split at e2
  ·rename_i i j
   split at e2
   ·rename_i c
    have c:(-(2 ^ 62)<=i/\i<2 ^ 62)/\ -(2 ^ 62)<=j/\j<2 ^ 62:=⟨V3.mp c.1,V3.mp c.2⟩
    cases e2
    obtain⟨v,r,rfl,rv,v2,r2,rfl,rv2,rr⟩:=rl
    cases rv
    cases rv2
    cases rr
    have fin1:=fin.later x.f
    refine⟨i,j,rfl,⟨c.1.1,c.1.2,c.2.1,c.2.2⟩,a4b (lo:=i) (n:=(j - i).toNat) (PvL X.K F0 H0 F1 b t (y6 i j) fl) ⟨F1,ρ,PU.d6.refl F1,so.ext x,e⟩ (fun k σ H hk hp=> ?_) (fun σ H hp=> ?_)⟩
    ·exact a0l T fin1 (a1t hk) hp fun _ _=>rfl
    ·rw [<-z9 i j] at hp
     exact a1d fin1 hp
   ·cases e2
  ·cases e2
def t8(n:Nat)(body:MS)(ps:List PV):Option b9:=(body (ps.map (fun p=>some (b9.val p))++AO n none)).bind fun fl=>match fl with
 | .rt r=>some r
 | .nx _=>some (.val .none)
 |_=>none
end
theorem b0C{K:AD}{F H:Hp}{ps:List PV}{vs:List V}(n:Nat)(s:d6 F H)(r:d8 K F ps vs):R8 K F H F H (vs.map some++AO n none) (ps.map (fun p=>some (b9.val p))++AO n none):=by
 have hl:=r.length
 have key:∀(i:Nat) (q:b9),(ps.map (fun p=>some (b9.val p))++AO n none)[i]?=some (some q)->∃p v,q= .val p/\(vs.map some++AO n none)[i]?=some (some v)/\p8 K F p v:=by
  intro i q e
  by_cases h:i<ps.length
  ·rw [BB (by simpa using h),Ay] at e
   rw [BB (by rw [Aa,hl];exact h),Ay]
   cases q':ps[i]? with
   |none=>rw [q'] at e;cases e
   |some p=>
    rw [q'] at e
    cases e
    obtain⟨v,h1,h2⟩:=r.get q'
    exact⟨p,v,rfl,by rw [h1];rfl,h2⟩
  ·rw [List.getElem?_append_right (by simpa using h),List.getElem?_replicate] at e
   split at e<;>cases e
 refine⟨S0.refl s,⟨s,by simp [hl],fun i q e=> ?_,fun i qs e=> ?_,fun i j qs _ a _ e=> ?_⟩,fun i qs a e=> ?_⟩
 ·obtain⟨p,v,rfl,h1,h2⟩:=key i q e;exact⟨v,h1,h2⟩
 ·obtain⟨p,v,z,_⟩:=key i _ e;cases z
 ·obtain⟨p,v,z,_⟩:=key i _ e;cases z
 ·obtain⟨p,v,z,_⟩:=key i _ e;cases z
theorem b2l{P:AI}{w:AG}{K:AD}{mg:Str->Option AA}{base:Heap}{x qual:Str}{st:Stmt}{f:AB}{fd:FuncData}{N ps:List Str}{k:Nat}{m:MS}(F:Fun K x qual st f fd)(S:i8 N ps (c9 st))
 (hb:∀(cdv:AA) (A:AJ) (outer:List Env) (s:AC) (H:Hp) (E:XK),E7 k (A.deeper (envOfC qual (c9 st) s.heap.objs.size f cdv))->ESs (a4J CX0 P w K mg base N qual (c9 st) f cdv A outer s H E).nox (A8 st) m):
 N6 P w K mg base CX0 (k+1) f fd ps (spP K ps.length (t8 (N.length - ps.length) m)):=by
 refine F.ok S (fun vs H Q E h=> ?_) (fun cdv A outer s H vs Q E hr h=> ?_)
 ·obtain⟨_,qs,_,_,r,h2,_⟩:=h
  rw [r.length,h2]
 ·obtain⟨F1,qs,r,s1,rl,hl,e,k⟩:=h
  refine⟨_,hb cdv A outer s H E hr, ?_⟩
  unfold t8 at e
  obtain⟨fl,e1,e2⟩:=bind_some e
  have hv:vs.length=ps.length:=by rw [rl.length,hl]
  refine⟨F1,H,F1,_,fl, ?_,e1, ?_⟩
  ·have:=b0C (N.length - ps.length) s1 rl
   unfold L2.U0
   rw [hv]
   exact this
  ·cases fl with
   |rt q=>cases e2;exact fun v F' H' o=>k v F' H' o
   |nx ρ=>cases e2;exact fun σ' F' H' _ so=>k .non F' H' (o9.val so.x rfl)
   |bk ρ=>cases e2
   |ct ρ=>cases e2
section
variable {X:Cx}
def rC1(K:AD)(g:b9->Option b9):List V->Hp->VK->Prop:=fun xs H Q=>∃F x rx rz,xs=[x]/\d6 F H/\J6 K F H x rx/\g rx=some rz/\∀v F' H',o9 K F H F' H' v rz->Q v H'
def rC2(K:AD)(g:b9->b9->Option b9):List V->Hp->VK->Prop:=fun xs H Q=>∃F x y rx ry rz,xs=[x,y]/\d6 F H/\J6 K F H x rx/\J6 K F H y ry/\g rx ry=some rz/\∀v F' H',o9 K F H F' H' v rz->Q v H'
def m1(g:b9->Option b9)(m:M):M:=fun ρ=>(m ρ).bind g
theorem b0e{m:M}{g:b9->Option b9}{σ:L2.St}{H:Hp}{Q:VK}(h:tM X.K (m1 g m) σ H Q):tCB (rC1 X.K g) (a7X (tM X.K m) b3R) σ H Q:=by
 obtain⟨F,ρ,r,he,hm,k⟩:=h
 obtain⟨rx,e1,hm⟩:=bind_some hm
 exact⟨F,ρ,rx,he,e1,fun v F1 H1 o1=>⟨F1,v,rx,r,rfl,o1.x.fh,o1.rep,hm,fun z F2 H2 o2=>k z F2 H2 (o9.trans o1.x o2)⟩⟩
theorem b19{m n:M}{g:b9->b9->Option b9}{σ:L2.St}{H:Hp}{Q:VK}(h:tM X.K (m2 g m n) σ H Q):tCB (rC2 X.K g) (a7X (tM X.K m) (a7X (tM X.K n) b3R)) σ H Q:=by
 obtain⟨F,ρ,r,he,hm,k⟩:=h
 obtain⟨rx,e1,hm⟩:=bind_some hm
 obtain⟨ry,e2,hm⟩:=bind_some hm
 exact⟨F,ρ,rx,he,e1,fun v F1 H1 o1=>⟨F1,ρ,ry,he.ext o1.x,e2,fun u F2 H2 o2=>⟨F2,v,u,rx,ry,r,rfl,o2.x.fh,o1.rep.ext o2.x,o2.rep,hm,fun z F3 H3 o3=>k z F3 H3 (o9.trans (o1.x.trans o2.x) o3)⟩⟩⟩
theorem A9{id:String}{x:Str}{p pos:Pos}{e:AE}{g:b9->Option b9}{m:M}(hc:C5 X (.builtin id) (rC1 X.K g))(hg:Gl X x)(hm:X.mg x=none)(hv:bootBuiltins x=some (.builtin id))(ha:EE X e m)(hn:x≠"__name__":=by decide)(hdb:(x==("__debug__":Str))=false:=by decide)
 (he:AN [e] X.env=(false,eval e X.env)::AN [] X.env:=by rfl) (hpl:(backTo pos (AN [] X.env)).any (·.1)=false:=by rfl):EE X (.Call (.Name x p) [e] [] pos) (m1 g m):=
 o8 (a3y hc hg hm hv (C2 ha R4 he) hn hdb he hpl) fun _ _ _ h=>b0e h
theorem a7u{id:String}{x:Str}{p pos:Pos}{e e2:AE}{g:b9->b9->Option b9}{m n:M}(hc:C5 X (.builtin id) (rC2 X.K g))(hg:Gl X x)(hm:X.mg x=none)(hv:bootBuiltins x=some (.builtin id))(ha:EE X e m)(hb:EE X e2 n)(hn:x≠"__name__":=by decide)(hdb:(x==("__debug__":Str))=false:=by decide)
 (he:AN [e,e2] X.env=(false,eval e X.env)::AN [e2] X.env:=by rfl) (he2:AN [e2] X.env=(false,eval e2 X.env)::AN [] X.env:=by rfl) (hpl:(backTo pos (AN [e2] X.env)).any (·.1)=false:=by rfl):EE X (.Call (.Name x p) [e,e2] [] pos) (m2 g m n):=
 o8 (a3y hc hg hm hv (C2 ha (C2 hb R4 he2) he) hn hdb he hpl) fun _ _ _ h=>b19 h
theorem b2h{T:String}{x:Str}{p pos:Pos}{e:AE}{g:b9->Option b9}{m:M}(hc:C5 X (.type T) (rC1 X.K g))(hg:Gl X x)(hm:X.mg x=none)(hv:bootBuiltins x=some (.type T))(ha:EE X e m)(hn:x≠"__name__":=by decide)(hdb:(x==("__debug__":Str))=false:=by decide)
 (he:AN [e] X.env=(false,eval e X.env)::AN [] X.env:=by rfl) (hpl:(backTo pos (AN [] X.env)).any (·.1)=false:=by rfl):EE X (.Call (.Name x p) [e] [] pos) (m1 g m):=
 o8 (a8N hc hg hm hv (C2 ha R4 he) hn hdb he hpl) fun _ _ _ h=>b0e h
def A6(x:b9):Option b9:=match x.rd with
 | .str z=>if z.length<=AK then some (.val (.int z.length)) else none
 |p=>match PyData.items? p with
  |some ps=>some (.val (.int ps.length))
  |none=>none
theorem r6:C5 X (.builtin "len") (rC1 X.K A6):=by
 intro pins s σ H xs us Q I rv h
 obtain⟨F,x,rx,rz,rfl,s0,h1,h2,k⟩:=h
 unfold A6 at h2
 split at h2
 ·rename_i z ez
  split at h2
  ·rename_i c
   cases h2
   have rr:=h1.rd s0
   rw [ez] at rr
   cases rr
   exact a4G pins s σ H _ us Q I rv ⟨z,rfl,c,k _ F H (o9.here s0 rfl)⟩
  ·cases h2
 ·split at h2
  ·rename_i ps e
   cases h2
   obtain⟨a,xs,rfl,hq,r⟩:=K3 s0 h1 e
   refine a4F pins s σ H _ us Q I rv ⟨a,xs,rfl,hq, ?_⟩
   rw [r.length]
   exact k _ F H (o9.here s0 rfl)
  ·cases h2
theorem a4I(hc:X.calm=true):C5 X (.builtin "min") (rC2 X.K (gI fun i j=> .int (if j<i then j else i))):=by
 intro pins s σ H xs us Q I rv h
 obtain⟨F,x,y,rx,ry,rz,rfl,s0,h1,h2,h3,k⟩:=h
 obtain⟨i,j,rfl,rfl,rfl⟩:=a7B h3
 cases h1;cases h2
 exact a76 hc pins s σ H _ us Q I rv ⟨i,j,rfl,k _ F H (o9.here s0 rfl)⟩
def a9H(x:b9):Option b9:=match PyData.items? x.rd with
 |some ps=>some (.own ps)
 |none=>none
theorem b00:C5 X (.type "list") (rC1 X.K a9H):=by
 intro pins s σ H xs us Q I rv h
 obtain⟨F,x,rx,rz,rfl,s0,h1,h2,k⟩:=h
 unfold a9H at h2
 split at h2
 ·rename_i ps e
  cases h2
  obtain⟨a,xs,rfl,hq,r⟩:=K3 s0 h1 e
  exact a4H pins s σ H _ us Q I rv ⟨a,xs,rfl,hq,fun l hl=>k _ _ _ (o9.lst s0 hl r)⟩
 ·cases h2
def kindOf:PV->String
 | .none=>"NoneType"
 | .bool _=>"bool"
 | .int _=>"int"
 | .str _=>"str"
 | .list _=>"list"
 | .tuple _=>"tuple"
 | .dict _=>"dict"
def a0O(T:String)(p:PV):Bool:=kindOf p==T||(kindOf p=="bool" && T=="int")
def a9O:PV->Bool
 | .dict [(.str _,_)]=>true
 |_=>false
def a2s(T:String)(x:b9):Option b9:=bif a9O x.rd then none else some (.val (.bool (a0O T x.rd)))
def a86(T:String):Prop:=T="int"\/T="bool"\/T="str"\/T="list"\/T="tuple"\/T="dict"
theorem a8v{K:AD}{T:String}(h:a86 T):∀p:PV,PySem.W.kitOne K (.type (kindOf p)) (.type T)=some (a0O T p):=by
 intro p
 rcases h with rfl|rfl|rfl|rfl|rfl|rfl<;>cases p<;>kernel_rfl
theorem a20{T:String}{e:AE}{m:M}{p p2 pos:Pos}(kt:a86 T)(hg:Gl X "isinstance")(hm:X.mg "isinstance"=none)(ha:EE X e m)(hT:PE X (.Name (AS T) p2) (tC (.ty T)))
 (he:AN [e,.Name (AS T) p2] X.env=(false,eval e X.env)::AN [.Name (AS T) p2] X.env:=by rfl) (he2:AN [.Name (AS T) p2] X.env=(false,eval (.Name (AS T) p2) X.env)::AN [] X.env:=by rfl) (hpl:(backTo pos (AN [.Name (AS T) p2] X.env)).any (·.1)=false:=by rfl)
 (hv:bootBuiltins "isinstance"=some (.builtin "isinstance"):=by rfl):
 EE X (.Call (.Name "isinstance" p) [e,.Name (AS T) p2] [] pos) (m1 (a2s T) m):=by
 have hc:C5 X (.builtin "isinstance") (fun xs H Q=>∃F x rx,xs=[x,.ty T]/\d6 F H/\J6 X.K F H x rx/\a9O rx.rd=false/\Q (.bl (a0O T rx.rd)) H):=by
  intro pins s σ H xs us Q I rv h
  obtain⟨F,x,rx,rfl,s0,h1,nf,q⟩:=h
  obtain⟨u,u2,rfl,ru,ru2⟩:∃u1 u2,us=[u1,u2]/\j6 x u1/\j6 (.ty T) u2:=by
   cases rv with
   |cons p q=>
    cases q with
    |cons p' q'=>
     cases q'
     exact⟨_,_,rfl,p,p'⟩
  cases ru2
  have rr:=h1.rd s0
  have kk:=a8v (K:=X.K) kt rx.rd
  have fin:∀tk,EP X pins σ Q (.bool (a0O T rx.rd)) {s with toks:=tk}:=fun tk=>⟨.bl _,H,I.tok tk,rfl,q⟩
  cases hp:rx.rd with
  |none=>rw [hp] at rr kk fin;cases rr;cases ru;exact PySem.W.kia_one PySem.W.kitx_none I.kIn True.intro kk (fun z=>nomatch z) fin
  |bool b=>rw [hp] at rr kk fin;cases rr;cases ru;exact PySem.W.kia_one PySem.W.kitx_bool I.kIn True.intro kk (fun z=>nomatch z) fin
  |int b=>rw [hp] at rr kk fin;cases rr;obtain⟨t,rfl⟩:=ru;exact PySem.W.kia_one PySem.W.kitx_int I.kIn True.intro kk (fun z=>nomatch z) fin
  |str b=>rw [hp] at rr kk fin;cases rr;obtain⟨t,rfl⟩:=ru;exact PySem.W.kia_one PySem.W.kitx_str I.kIn True.intro kk (fun z=>nomatch z) fin
  |list ps=>
   rw [hp] at rr kk fin
   obtain⟨a,ys,rfl,hq,_⟩:=rr
   cases ru
   obtain⟨its,_,⟨o,n,e1,e2,_⟩,_⟩:=I.list hq
   exact PySem.W.kia_one PySem.W.kitx_list I.kIn ⟨o,e1,e2⟩ kk (fun z=>nomatch z) fin
  |tuple ps=>
   rw [hp] at rr kk fin
   obtain⟨a,ys,rfl,hq,_⟩:=rr
   cases ru
   obtain⟨its,_,⟨o,e1,e2,_⟩,_⟩:=I.tuple hq.sq
   exact PySem.W.kia_one PySem.W.kitx_tuple I.kIn ⟨o,e1,e2⟩ kk (fun z=>nomatch z) fin
  |dict ps=>
   rw [hp] at rr kk fin nf
   rcases rr with⟨a,_,rfl,hq,_⟩|⟨a,_,rfl,hq,_⟩|⟨x,_,rfl,_⟩
   ·cases ru
    obtain⟨_,_,_,_,o,_,_,e1,e2,_⟩:=I.hok a _ hq
    exact PySem.W.kia_one PySem.W.kitx_dict I.kIn ⟨o,e1,e2.1⟩ kk (fun z=>nomatch z) fin
   ·cases ru
    obtain⟨_,_,_,_,o,_,_,e1,e2,_⟩:=I.hok a _ hq
    exact PySem.W.kia_one PySem.W.kitx_dict I.kIn ⟨o,e1,e2.1⟩ kk (fun z=>nomatch z) fin
   ·cases nf
 exact o8 (a3y hc hg hm hv (C2 ha (C2 hT R4 he2) he) (by decide) (by decide) he hpl) fun σ H Q ⟨F,ρ,r,h1,h2,k⟩=>by
  obtain⟨rx,e1,h2⟩:=bind_some h2
  unfold a2s at h2
  cases nf:a9O rx.rd with
  |true=>rw [nf] at h2;cases h2
  |false=>
   rw [nf] at h2
   cases h2
   exact⟨F,ρ,rx,h1,e1,fun v F1 H1 o=>⟨F1,v,rx,rfl,o.x.fh,o.rep,nf,k _ F1 H1 (o9.val o.x rfl)⟩⟩
theorem R8.putC{K:AD}{F0 H0 F H:Hp}{σ:L2.St}{ρ:a9}{i:Nat}{c d:P8}{a:AB}{o:HO}(s:R8 K F0 H0 F H σ ρ)(e:ρ[i]?=some (some (.ow c)))(ea:σ[i]?=some (some (.ref a)))(r:F a=none->J5 K F (upd H a o) (.ref a) d):
 R8 K F0 H0 F (upd H a o) σ (ρ.set i (some (.ow d))):=by
 obtain⟨v,h1,rr0⟩:=s.e.at_ i _ e
 obtain⟨a',xs,rfl,fa,ha⟩:=J5.at_ rr0
 rw [ea] at h1;cases h1
 have na:H0 a=none:=s.nw i c a e ea
 have hi:i<ρ.length:=(Ar.mp e).1
 refine⟨⟨s.x.f,fun b o z=>by rw [d3 (i3 z na)];exact s.x.h _ _ z,fun b o z=>by rw [d3 (i3 z fa)];exact s.x.fh _ _ z,s.x.nw,s.x.nf⟩,⟨fun b o z=>by rw [d3 (i3 z fa)];exact s.e.fh _ _ z,by simp [s.e.len],fun j q ej=> ?_,fun j z ej=> ?_,fun j k z1 z2 c' hjk e1 e2 e3 e4=> ?_⟩,fun j z c' e1 e2=> ?_⟩
 ·rw [List.getElem?_set] at ej
  by_cases hij:i=j
  ·subst hij
   rw [if_pos rfl,if_pos hi] at ej
   cases ej
   exact⟨.ref a,ea,r fa⟩
  ·rw [if_neg hij] at ej
   obtain⟨v,h1,rr⟩:=s.e.at_ j q ej
   refine⟨v,h1, ?_⟩
   cases q with
   |val p=>exact rr
   |bo z=>exact absurd ej (s.e.nb j z)
   |ow z=>
    have key:∀b,v= .ref b->b≠a:=fun b hb hab=>by subst hab;subst hb;exact s.e.ap i j c z b hij e ej ea h1
    cases z with
    |lst z=>
     obtain⟨b,zs,rfl,fb,hb,rz⟩:=rr
     exact⟨b,zs,rfl,fb,by rw [d3 (key b rfl)];exact hb,rz⟩
    |dct z=>
     obtain⟨b,zs,rfl,fb,hb,rz⟩:=rr
     exact⟨b,zs,rfl,fb,by rw [d3 (key b rfl)];exact hb,rz⟩
    |txt z=>
     obtain⟨b,zs,rfl,fb,hb,rz⟩:=rr
     exact⟨b,zs,rfl,fb,by rw [d3 (key b rfl)];exact hb,rz⟩
 ·rw [List.getElem?_set] at ej
  by_cases hij:i=j
  ·subst hij;rw [if_pos rfl,if_pos hi] at ej;cases ej
  ·rw [if_neg hij] at ej;exact s.e.nb j z ej
 ·have own_at:∀(j:Nat) (z:P8),(ρ.set i (some (b9.ow d)))[j]?=some (some (b9.ow z))->∃z':P8,ρ[j]?=some (some (b9.ow z')):=fun j z h=>by
   rw [List.getElem?_set] at h
   by_cases hij:i=j
   ·subst hij;exact⟨c,e⟩
   ·rw [if_neg hij] at h;exact⟨z,h⟩
  obtain⟨y1,h1⟩:=own_at j z1 e1
  obtain⟨y2,h2⟩:=own_at k z2 e2
  exact s.e.ap j k y1 y2 c' hjk h1 h2 e3 e4
 ·rw [List.getElem?_set] at e1
  by_cases hij:i=j
  ·subst hij;rw [ea] at e2;cases e2;exact na
  ·rw [if_neg hij] at e1;exact s.nw j z c' e1 e2
theorem R8.put{K:AD}{F0 H0 F H:Hp}{σ:L2.St}{ρ:a9}{i:Nat}{ps qs:List PV}{a:AB}{ys:List V}(s:R8 K F0 H0 F H σ ρ)(e:ρ[i]?=some (some (.own ps)))(ea:σ[i]?=some (some (.ref a)))(r:d8 K F qs ys):
 R8 K F0 H0 F (upd H a (.lst ys)) σ (ρ.set i (some (.own qs))):=s.putC e ea fun fa=>⟨a,ys,rfl,fa,f7,r⟩
theorem R8.putT{K:AD}{F0 H0 F H:Hp}{σ:L2.St}{ρ:a9}{i:Nat}{ps qs:List (List d5×PV)}{a:AB}{ys:List (d5×V)}(s:R8 K F0 H0 F H σ ρ)(e:ρ[i]?=some (some (.ow (.txt ps))))(ea:σ[i]?=some (some (.ref a)))(r:m6 K F qs (ys.map s1)):
 R8 K F0 H0 F (upd H a (.dK ys)) σ (ρ.set i (some (.ow (.txt qs)))):=s.putC e ea fun fa=>⟨a,ys,rfl,fa,f7,r⟩
theorem R8.putD{K:AD}{F0 H0 F H:Hp}{σ:L2.St}{ρ:a9}{i:Nat}{ps qs:List (List d5×PV)}{a:AB}{ys:List (List d5×V)}(s:R8 K F0 H0 F H σ ρ)(e:ρ[i]?=some (some (.dct ps)))(ea:σ[i]?=some (some (.ref a)))(r:m6 K F qs ys):
 R8 K F0 H0 F (upd H a (.dT ys)) σ (ρ.set i (some (.dct qs))):=s.putC e ea fun fa=>⟨a,ys,rfl,fa,f7,r⟩
def D6(i:Nat)(m:M):MS:=fun ρ=>(m ρ).bind fun r=>r.toVal.bind fun p=>match ρ[i]? with
 |some (some (.ow (.lst ps)))=>if ps.length<AK then some (.nx (ρ.set i (some (.own (ps++[p]))))) else none
 |_=>none
theorem J9(i:Nat){x:Str}{p apos cpos pos:Pos}{e:AE}{m:M}(hx:PE X (.Name x p) (a0w i))(ha:EE X e m)
 (hbase:attributeBase (.Name x p) "append" X.env (eval (.Name x p) X.env)=eval (.Name x p) X.env:=by rfl)
 (hfew:((backTo cpos (AN [e] X.env)).all (fun x=> !x.1)&&(backToKw cpos (keywordEach [] X.env)).all (fun x=>x.1.isSome)
  && decide ([e].length+([]:List Keyword).length+(if([]:List Keyword).isEmpty then 0 else 1)<30))=true:=by rfl)
 (hline:(apos.endLine==cpos.line)=true:=by rfl) (hs:AN [e] X.env=(false,eval e X.env)::AN [] X.env:=by rfl) (hplain:(backTo cpos (AN [] X.env)).any (·.1)=false:=by rfl)
 (hsw:swapsWith (.Call (.Attribute (.Name x p) "append" apos) [e] [] cpos) none pos.line X.env=pure false:=by rfl):
 ES X (.Expr (.Call (.Attribute (.Name x p) "append" apos) [e] [] cpos) pos) (D6 i m):=
 D0 (a2I (b2s PySem.F.plainAttrs_list PySem.F.slot_list_append PySem.F.type_list_append a4i hx (C2 ha R4 hs) hbase hfew hline hs hplain) hsw) fun D σ H ⟨F0,H0,F,ρ,fl,so,e,fin⟩=>by
  obtain⟨r,e1,e⟩:=bind_some e
  obtain⟨q,e2,e⟩:=bind_some e
  split at e
  ·rename_i ps eo
   split at e
   ·rename_i c
    cases e
    obtain⟨v,h1,a,xs,rfl,fa,ha',rl⟩:=so.e.at_ i _ eo
    refine⟨.ref a,h1,.inl ⟨rfl,xs,J2.of ha'⟩,F,ρ,r,so.e,e1,fun w F1 H1 o=> ?_⟩
    obtain⟨F2,o2⟩:=o.toVal e2
    have so2:=so.ext o2.x
    refine⟨a,xs,w,rfl,rfl,o.x.h _ _ ha',by rw [rl.length];exact c, ?_⟩
    exact fin σ F2 _ o2.x.f (so2.put eo h1 ((d8.mono o2.x.f _ rl).append ⟨w,[],rfl,o2.rep,rfl⟩))
   ·cases e
  ·cases e
def a8z(i:Nat)(g:b9->b9->Option b9)(m:M):MS:=fun ρ=>match ρ[i]? with
 |some (some (.val x))=>(m ρ).bind fun y=>(g (.val x) y).bind fun z=>if z.nb=true then some (.nx (ρ.set i (some z))) else none
 |_=>none
theorem a9y{i:Nat}{x:Str}{e:AE}{m:M}{g:b9->b9->Option b9}{op:Operator}{pos pos':Pos}(hN:X.N.Nodup)(he:EE X e m)(ho:OpM X (inplaceOp op) g)(hi:X.N[i]?=some x:=by rfl)(hx:Loc X.env.scope x:=by exact Or.inl rfl)(hf:X.fn x=true\/X.env.scope.names.lookup x=some .local:=by first|exact .inl rfl|exact .inr rfl|assumption):
 ES X (.AugAssign (.Name x pos') op e pos) (a8z i g m):=
 D0 (b3C hN hi hx he (ti:=rM2 X.K g) ho hf) fun D σ H ⟨F0,H0,F,ρ,fl,so,e,fin⟩=>by
  unfold a8z at e
  split at e
  ·rename_i p ep
   obtain⟨y,e1,e⟩:=bind_some e
   obtain⟨z,e2,e⟩:=bind_some e
   split at e
   ·rename_i c
    cases e
    obtain⟨v,h1,rv⟩:=so.e.at_ i _ ep
    exact⟨v,h1,F,ρ,y,so.e,e1,fun u F1 H1 o=>⟨F1,.val p,y,z,o.x.fh,rv.ext o.x,o.rep,e2,fun t F2 H2 o2=>fin _ F2 H2 (o.x.f.trans o2.x.f) ((so.ext o.x).set o2 c i)⟩⟩
   ·cases e
  ·cases e
theorem a6d:OpM X (inplaceOp .Add) (gI fun i j=> .int (i+j)):=a7L b1k fun _ _ _=>rfl
def R3(i:Nat)(n:MS):MS:=fun ρ=>match ρ[i]? with
 |some (some (.ow (.lst ps)))=>n (ρ.set i (some (.val (.list ps))))
 |_=>n ρ
theorem R8.frz{K:AD}{F0 H0 F H:Hp}{σ:L2.St}{ρ:a9}{i:Nat}{ps:List PV}(s:R8 K F0 H0 F H σ ρ)(e:ρ[i]?=some (some (.own ps))):∃F',d6 F F'/\R8 K F0 H0 F' H σ (ρ.set i (some (.val (.list ps)))):=by
 obtain⟨v,h1,a,xs,rfl,fa,ha,rl⟩:=s.e.at_ i _ e
 have na:H0 a=none:=s.nw i _ a e h1
 have hi:i<ρ.length:=(Ar.mp e).1
 have up:d6 F (upd F a (.lst xs)):=x9 fa
 have fh:d6 (upd F a (.lst xs)) H:=fun b o z=>by
  by_cases hb:b=a
  ·subst hb;rw [f7] at z;cases z;exact ha
  ·rw [d3 hb] at z;exact s.e.fh _ _ z
 refine⟨upd F a (.lst xs),up,⟨⟨s.x.f.trans up,s.x.h,fh,fun b o z y t=>by rw [d3 (i3 y na)];exact s.x.nw b o z y t,a99 s.x.nf⟩,⟨fh,by simp [s.e.len],fun j q ej=> ?_,fun j z ej=> ?_,fun j k z1 z2 c hjk e1 e2 e3 e4=> ?_⟩,fun j z c e1 e2=> ?_⟩⟩
 ·rw [List.getElem?_set] at ej
  by_cases hij:i=j
  ·subst hij
   rw [if_pos rfl,if_pos hi] at ej
   cases ej
   exact⟨.ref a,h1,a,xs,rfl,J2.of f7,d8.mono up _ rl⟩
  ·rw [if_neg hij] at ej
   obtain⟨v,h2,rr⟩:=s.e.at_ j q ej
   refine⟨v,h2, ?_⟩
   cases q with
   |val p=>exact p8.mono up p rr
   |bo z=>exact absurd ej (s.e.nb j z)
   |ow z=>
    have key:∀b,v= .ref b->b≠a:=fun b hb hab=>by subst hab;subst hb;exact s.e.ap i j _ z b hij e ej h1 h2
    cases z with
    |lst z=>
     obtain⟨b,zs,rfl,fb,hb,rz⟩:=rr
     exact⟨b,zs,rfl,by rw [d3 (key b rfl)];exact fb,hb,d8.mono up _ rz⟩
    |dct z=>
     obtain⟨b,zs,rfl,fb,hb,rz⟩:=rr
     exact⟨b,zs,rfl,by rw [d3 (key b rfl)];exact fb,hb,m6.mono up _ rz⟩
    |txt z=>
     obtain⟨b,zs,rfl,fb,hb,rz⟩:=rr
     exact⟨b,zs,rfl,by rw [d3 (key b rfl)];exact fb,hb,m6.mono up _ rz⟩
 ·rw [List.getElem?_set] at ej
  by_cases hij:i=j
  ·subst hij;rw [if_pos rfl,if_pos hi] at ej;cases ej
  ·rw [if_neg hij] at ej;exact s.e.nb j z ej
 ·have own_at:∀(j:Nat) (z:P8),(ρ.set i (some (b9.val (.list ps))))[j]?=some (some (b9.ow z))->ρ[j]?=some (some (b9.ow z)):=fun j z h=>by
   rw [List.getElem?_set] at h
   by_cases hij:i=j
   ·subst hij;rw [if_pos rfl,if_pos hi] at h;cases h
   ·rw [if_neg hij] at h;exact h
  exact s.e.ap j k z1 z2 c hjk (own_at j z1 e1) (own_at k z2 e2) e3 e4
 ·rw [List.getElem?_set] at e1
  by_cases hij:i=j
  ·subst hij;rw [if_pos rfl,if_pos hi] at e1;cases e1
  ·rw [if_neg hij] at e1;exact s.nw j z c e1 e2
theorem a0L(i:Nat){st:Stmt}{n:MS}(h:ES X st n):ES X st (R3 i n):=D0 h fun D σ H ⟨F0,H0,F,ρ,fl,so,e,fin⟩=>by
 unfold R3 at e
 split at e
 ·rename_i ps eo
  obtain⟨F',s,so'⟩:=so.frz eo
  exact⟨F0,H0,F',_,fl,so',e,fin.later s⟩
 ·exact⟨F0,H0,F,ρ,fl,so,e,fin⟩
end
def j9(P:AI)(w:AG)(K:AD)(mg:Str->Option AA)(base:Heap)(x:Str)(ps:List Str)(k:Nat)(g:List PV->Option b9):Prop:=
 ∃f fd,N6 P w K mg base CX0 k f fd ps (spP K ps.length g)/\mg x=some (.ref f)/\PySem.W.keepIn K (.ref f)=true/\a0x K fd ps []
theorem b1Z{K:AD}{n:Nat}{g g':List PV->Option b9}(h:∀ps r,g' ps=some r->g ps=some r):∀vs H Q E,spP K n g' vs H Q E->spP K n g vs H Q E:=
 fun vs H Q E ⟨F,ps,r,s,rl,hl,e,k⟩=>⟨F,ps,r,s,rl,hl,h _ _ e,k⟩
theorem j9.imp{P:AI}{w:AG}{K:AD}{mg:Str->Option AA}{base:Heap}{x:Str}{ps:List Str}{k:Nat}{g g':List PV->Option b9}(d:j9 P w K mg base x ps k g)(h:∀qs r,g' qs=some r->g qs=some r):j9 P w K mg base x ps k g':=by
 obtain⟨f,fd,G,r⟩:=d
 exact⟨f,fd,G.imp (b1Z h),r⟩
section
variable {X:Cx}
theorem h9{k k':Nat}{ps:List Str}{g:List PV->Option b9}{x:Str}{p pos:Pos}{e:AE}{es:List AE}{m:MA}
 (d:j9 X.prog X.w X.K X.mg X.base x ps k g) (hr:E7 k' X.A) (hk:k<=k') (hg:Gl X x) (hn:∀ρ qs,m ρ=some qs->qs.length=ps.length) (ha:EA X (e::es) m)
 (hdb:(x==("__debug__":Str))=false:=by decide) (he:AN (e::es) X.env=(false,eval e X.env)::AN es X.env:=by rfl) (hpl:(backTo pos (AN es X.env)).any (·.1)=false:=by rfl):
 EE X (.Call (.Name x p) (e::es) [] pos) (g0 g m):=by
 obtain⟨f,fd,G,h1,h2,h3⟩:=d
 exact b06 G (hr.mono hk) hg h1 h2 h3 hn ha hdb he hpl
end
def a6m(K:AD):Sp:=fun vs H Q _=>∃(a:AB) (ns:List Int),vs=[.ref a]/\J2 K H a (ns.map V.int)/\ns.length<=63/\∀H',Q (.bl true) H'
theorem a4u{K:AD}{H:Hp}:∀ns:List Int,d8 K H (ns.map PyData.int) (ns.map V.int)
 |[]=>rfl
 |n::ns=>⟨.int n,_,rfl,rfl,a4u ns⟩
theorem b1p{K:AD}{g:List PV->Option b9}(h:∀ns:List Int,ns.length<=63->g [.list (ns.map .int)]=some (.val (.bool true))):∀vs H Q E,a6m K vs H Q E->spP K 1 g vs H Q E:=
 fun vs H Q E ⟨a,ns,e,hs,hl,k⟩=>by
  subst e
  exact⟨H,[.list (ns.map .int)],_,PU.d6.refl H,⟨.ref a,[],rfl,⟨a,_,rfl,hs,a4u ns⟩,rfl⟩,rfl,h ns hl,fun v F' H' o=>by
   have:v= .bl true:=o.rep
   subst this
   exact k H'⟩
theorem b5h{l:PySem.W.OpenLaw}{q:AI}{loose:List Str}{XP:(Str->Option AA)->Heap->Prop}{YP:AG->Heap->Prop}{d:DefRec}{K:Params->AD}{x:Str}{k:Nat}(hk:k<=40)(hn:l.most=some 63)(hdf:d.params.defaults=[])
 (hY:∀(w:AG) (h:Heap),YP w h->(K w.params).In h)
 (F:∀(w:AG) (mg:Str->Option AA) (fa:AB) (h:Heap),(K w.params).In h->h.Ns mainGlobals mg->mg d.name=some (.ref fa)->
  ∃fd:FuncData,(∀(s:AC) (u:AA),BindsTo s fd ⟨[u],[]⟩ [(x,u)])/\∀base:Heap,(K w.params).In base->base.Ns mainGlobals mg->N6 l.prog w (K w.params) mg base CX0 k fa fd [x] (a6m (K w.params))):
 PySem.W.WalkO q loose XP YP l.row.toRowW d [] (fun f vs=>PySem.call f vs):=
 L2.b2b (n:=63) (k:=40) (x:=x) (CX:=fun _=>CX0) (sp:=fun w=>a6m (K w.params)) hn (by decide) hdf ⟨rfl,by decide,by decide⟩ hY (fun w mg fa h a b c=>let ⟨fd,h1,h2⟩:=F w mg fa h a b c;⟨fd,h1,fun base x y=>(h2 base x y).mono hk⟩) (fun _ _ a ns hl _ hS=>⟨a,ns,rfl,hS,hl,fun _=>rfl⟩) fun _ _ _ _ _ z=>z
def b2W(x y:b9):Option b9:=X3 a4A (fun i j=> .int (i*j)) x y
theorem b0g{X:Cx}:OpM X (binaryOp .Mult) b2W:=b1A
theorem i9(i j:Int):t7 (.val (.int i)) (.val (.int j))=some (.val (.int (i+j))):=Eq.trans rfl rfl
theorem b1f{ps qs:List PV}(h:ps.length+qs.length<=AK):t7 (.own ps) (.own qs)=some (.own (ps++qs)):=by simp [t7,b9.mine,h]
theorem B7(f:Int->Int->PV)(i j:Int):gI f (.val (.int i)) (.val (.int j))=some (.val (f i j)):=Eq.trans rfl rfl
theorem a4S{C:Int->Int->Prop}[∀i j,Decidable (C i j)](f:Int->Int->PV){i j:Int}(h:C i j):X3 C f (.val (.int i)) (.val (.int j))=some (.val (f i j)):=by
 show(if okC C i j=true then some (b9.val (f i j)) else none)=_
 rw [if_pos (a0o.mpr h)]
theorem b2X{i j:Int}(h: -18446744073709551616<i/\i<18446744073709551616):b2W (.val (.int i)) (.val (.int j))=some (.val (.int (i*j))):=a4S _ (.inl (by lia))
theorem D3{f:Int->Int->PV}{i j:Int}(h:0<j):X3 (fun _ j=>0<j) f (.val (.int i)) (.val (.int j))=some (.val (f i j)):=a4S _ h
theorem B6{f:Int->Int->PV}{i j:Int}(h:0<j/\j<1073741824):X3 X0 f (.val (.int i)) (.val (.int j))=some (.val (f i j)):=a4S _ h
theorem a27{x y:b9}(h:l4 x.rd 50=true/\l4 y.rd 50=true):gEq x y=some (.val (.bool (PyData.eqv x.rd y.rd))):=by simp [gEq,h]
theorem a6N{x y:b9}(h:l4 x.rd 50=true/\l4 y.rd 50=true):gNe x y=some (.val (.bool (!PyData.eqv x.rd y.rd))):=by simp [gNe,h]
theorem T0(ps:List PV):A6 (.val (.list ps))=some (.val (.int ps.length)):=Eq.trans rfl rfl
theorem a28{ps:List PV}{i:Int}{p:PV}(h:L2.atI ps i=some p):y0 (.val (.list ps)) (.val (.int i))=some (.val p):=by simp [y0,b9.rd,P8.rd,PyData.items?,h]
theorem b1g{ps:List PV}{i:Int}{p:PV}(h:L2.atI ps i=some p):y0 (.val (.tuple ps)) (.val (.int i))=some (.val p):=by simp [y0,b9.rd,P8.rd,PyData.items?,h]
theorem a9G(p:PV)(ps:List PV):y0 (.val (.tuple (p::ps))) (.val (.int 0))=some (.val p):=by
 refine b1g ?_
 have h:(0:Int)<(((p::ps).length:Nat):Int):=by simp only [AW];lia
 unfold L2.atI L2.ixN
 rw [if_pos (by decide),if_pos h]
 rfl
theorem d0(g:b9->b9->Option b9)(ma mb:M)(ρ:a9):m2 g ma mb ρ=(ma ρ).bind fun x=>(mb ρ).bind fun y=>g x y:=Eq.trans rfl rfl
theorem k9(g:b9->Option b9)(ma:M)(ρ:a9):m1 g ma ρ=(ma ρ).bind g:=Eq.trans rfl rfl
theorem d4(p:PV)(ρ:a9):mC p ρ=some (.val p):=Eq.trans rfl rfl
theorem b4(p:PV)(ρ:a9):a7 0 (some (.val p)::ρ)=some (.val p):=Eq.trans rfl rfl
theorem a7J(p:List PV)(ρ:a9):a7 0 (some (.own p)::ρ)=some (.bor p):=Eq.trans rfl rfl
theorem c5(n:Nat)(r:Option b9)(ρ:a9):a7 (n+1) (r::ρ)=a7 n ρ:=Eq.trans rfl rfl
theorem b8(ρ:a9):c4 ρ=some []:=Eq.trans rfl rfl
theorem b5(m:M)(r:MA)(ρ:a9):a6 m r ρ=((m ρ).bind b9.toVal).bind fun p=>(r ρ).bind fun ps=>some (p::ps):=Eq.trans rfl rfl
theorem b6(p:PV):(b9.val p).toVal=some p:=Eq.trans rfl rfl
theorem a4x(p:List PV):(b9.own p).toVal=some (.list p):=Eq.trans rfl rfl
theorem G9(m:MA)(ρ:a9):a1j m ρ=(m ρ).bind fun ps=>if ps.length<=AK then some (.val (.tuple ps)) else none:=Eq.trans rfl rfl
theorem P0(m:MA)(ρ:a9):a3Y m ρ=(m ρ).bind fun ps=>if ps.length<=AK then some (.own ps) else none:=Eq.trans rfl rfl
theorem e9(g:List PV->Option b9)(m:MA)(ρ:a9):g0 g m ρ=(m ρ).bind g:=Eq.trans rfl rfl
def b0V(i:Nat)(ρ:a9)(r:b9):Option Fl:=if r.nb=true then some (.nx (ρ.set i (some r))) else none
theorem g7(i:Nat)(m:M)(ρ:a9):u6 i m ρ=(m ρ).bind (b0V i ρ):=Eq.trans rfl rfl
theorem u8(i:Nat)(ρ:a9)(p:PV):b0V i ρ (.val p)=some (.nx (ρ.set i (some (.val p)))):=Eq.trans rfl rfl
theorem a0H(i:Nat)(ρ:a9)(p:List PV):b0V i ρ (.own p)=some (.nx (ρ.set i (some (.own p)))):=Eq.trans rfl rfl
def b3I(r:b9):Option Fl:=if r.nb=true then some (.rt r) else none
theorem l5(m:M)(ρ:a9):D4 m ρ=(m ρ).bind b3I:=Eq.trans rfl rfl
theorem E1(p:PV):b3I (.val p)=some (.rt (.val p)):=Eq.trans rfl rfl
theorem a3F(p:List PV):b3I (.own p)=some (.rt (.own p)):=Eq.trans rfl rfl
def b3J(n:MS):Fl->Option Fl
 | .nx ρ=>n ρ
 |f=>some f
theorem e8(m n:MS)(ρ:a9):k0 m n ρ=(m ρ).bind (b3J n):=Eq.trans rfl rfl
theorem g9(n:MS)(ρ:a9):b3J n (.nx ρ)=n ρ:=Eq.trans rfl rfl
theorem a2L(n:MS)(r:b9):b3J n (.rt r)=some (.rt r):=Eq.trans rfl rfl
def ifK(m n:MS)(ρ:a9)(b:Bool):Option Fl:=if b=true then m ρ else n ρ
theorem f9(c:MT)(m n:MS)(ρ:a9):G8 c m n ρ=(c ρ).bind (ifK m n ρ):=Eq.trans rfl rfl
theorem M5(m n:MS)(ρ:a9):ifK m n ρ true=m ρ:=Eq.trans rfl rfl
theorem G3(m n:MS)(ρ:a9):ifK m n ρ false=n ρ:=Eq.trans rfl rfl
theorem m5(ρ:a9):v5 ρ=some (.nx ρ):=Eq.trans rfl rfl
def b1T:Fl->Option b9
 | .rt r=>some r
 | .nx _=>some (.val .none)
 |_=>none
theorem k6(n:Nat)(b:MS)(ps:List PV):t8 n b ps=(b (ps.map (fun p=>some (b9.val p))++AO n none)).bind b1T:=Eq.trans rfl rfl
theorem l0(r:b9):b1T (.rt r)=some r:=Eq.trans rfl rfl
theorem N1(m:M)(ρ:a9):mtV m ρ=(m ρ).bind tru:=Eq.trans rfl rfl
theorem g5(m:M)(ρ:a9):U3 m ρ=(m ρ).bind a5f:=Eq.trans rfl rfl
theorem j8(b:Bool):a5f (.val (.bool b))=some b:=Eq.trans rfl rfl
theorem a1y(b:Bool):tru (.val (.bool b))=some b:=Eq.trans rfl rfl
theorem T6(c:MT)(ρ:a9):Z3 c ρ=(c ρ).map not:=Eq.trans rfl rfl
def orK(d:MT)(ρ:a9)(b:Bool):Option Bool:=if b=true then some true else d ρ
def b2D(d:MT)(ρ:a9)(b:Bool):Option Bool:=if b=true then d ρ else some false
theorem T7(c d:MT)(ρ:a9):a2u c d ρ=(c ρ).bind (orK d ρ):=Eq.trans rfl rfl
theorem A5(c d:MT)(ρ:a9):a0D c d ρ=(c ρ).bind (b2D d ρ):=Eq.trans rfl rfl
theorem a4m(d:MT)(ρ:a9):orK d ρ false=d ρ:=Eq.trans rfl rfl
theorem a1G(d:MT)(ρ:a9):b2D d ρ true=d ρ:=Eq.trans rfl rfl
theorem a2V(d:MT)(ρ:a9):b2D d ρ false=some false:=Eq.trans rfl rfl
def b2E(n:M)(ρ:a9)(r:b9):Option b9:=(a5f r).bind fun b=>if b=true then n ρ else some (.val (.bool false))
def b4k(r:b9):Option b9:=(a5f r).bind fun b=>some (.val (.bool (!b)))
theorem a3j(m n:M)(ρ:a9):a92 m n ρ=(m ρ).bind (b2E n ρ):=Eq.trans rfl rfl
theorem a94(m:M)(ρ:a9):b3a m ρ=(m ρ).bind b4k:=Eq.trans rfl rfl
theorem a9d(n:M)(ρ:a9):b2E n ρ (.val (.bool true))=n ρ:=Eq.trans rfl rfl
theorem b2F(n:M)(ρ:a9):b2E n ρ (.val (.bool false))=some (.val (.bool false)):=Eq.trans rfl rfl
theorem b3h(b:Bool):b4k (.val (.bool b))=some (.val (.bool (!b))):=Eq.trans rfl rfl
theorem a9F(T:String)(p:PV):a2s T (.val p)=bif a9O p then none else some (.val (.bool (a0O T p))):=Eq.trans rfl rfl
theorem a9P(i:Int):a9O (.int i)=false:=Eq.trans rfl rfl
theorem b32{α:Type}(a b:α):(bif false then a else b)=b:=Eq.trans rfl rfl
theorem a67(p:PV):(b9.val p).rd=p:=Eq.trans rfl rfl
def b4M(is:List Nat)(ρ:a9):b9->Option Fl
 | .val (.tuple ps)=>if ps.length=is.length then some (.nx (setAll ρ is (ps.map .val))) else none
 |_=>none
theorem a97(is:List Nat)(m:M)(ρ:a9):b3c is m ρ=(m ρ).bind (b4M is ρ):=Eq.trans rfl rfl
theorem b3W(i j:Nat)(ρ:a9)(p q:PV):b4M [i,j] ρ (.val (.tuple [p,q]))=some (.nx ((ρ.set i (some (.val p))).set j (some (.val q)))):=Eq.trans rfl rfl
theorem x8(it:MI)(tg:PV->a9->Option a9)(body:MS)(ρ:a9):X2 it tg body ρ=(it ρ).bind fun ps=>O5 body tg ps ρ:=Eq.trans rfl rfl
def a7Q:List PV->Option (List PV)
 |[.int j]=>if inR j=true then some (y6 0 j) else none
 |_=>none
theorem K4(m:MA)(ρ:a9):W6 m ρ=(m ρ).bind a7Q:=Eq.trans rfl rfl
theorem a1s{j:Int}(h: -4611686018427387904<=j/\j<4611686018427387904):a7Q [.int j]=some (y6 0 j):=by
 show(if inR j=true then some (y6 0 j) else none)=_
 rw [if_pos (V3.mpr (by lia))]
def a2n:List PV->Option (List PV)
 |[.int i,.int j]=>if inR i=true/\inR j=true then some (y6 i j) else none
 |_=>none
theorem T5(m:MA)(ρ:a9):a2g m ρ=(m ρ).bind a2n:=Eq.trans rfl rfl
theorem a0r{i j:Int}(h:(-4611686018427387904<=i/\i<4611686018427387904)/\ -4611686018427387904<=j/\j<4611686018427387904):a2n [.int i,.int j]=some (y6 i j):=by
 show(if inR i=true/\inR j=true then some (y6 i j) else none)=_
 rw [if_pos ⟨V3.mpr (by lia),V3.mpr (by lia)⟩]
theorem b4e(i j:Int):gNe (.val (.int i)) (.val (.int j))=some (.val (.bool (!(i==j)))):=Eq.trans rfl rfl
theorem b2n(i j:Int):gEq (.val (.int i)) (.val (.int j))=some (.val (.bool (i==j))):=Eq.trans rfl rfl
theorem Y6{p:PV}(h:l4 p 50=true):gNe (.val p) (.val p)=some (.val (.bool false)):=by
 rw [a6N (x:= .val p) (y:= .val p) ⟨h,h⟩,a67,a5J p 50 h]
 rfl
theorem sz(n:Nat):(n<=AK)=(n<=16777216):=by rw [sizeLine_eq]
end PU
namespace L2
open PySem PySem.Spec PyProof.Rows
theorem A2:∀(names:List (Str×NameKind)) (n:Nat) (acc:List (Str×AB)),cellsFrom n names acc=cellsFrom n names []++acc
 |[],_,_=>rfl
 |(x,k)::r,n,acc=>by
  unfold cellsFrom
  split
  ·rw [A2 r (n+1) ((x,n)::acc),A2 r (n+1) [(x,n)],List.append_assoc];rfl
  ·exact A2 r n acc
theorem F8:∀{names:List (Str×NameKind)} {n:Nat} {x:Str} {c:AB},(x,c)∈cellsFrom n names []->n<=c/\(x,NameKind.cell)∈names
 |[],_,_,_,h=>nomatch h
 |(y,k)::r,n,x,c,h=>by
  unfold cellsFrom at h
  split at h
  ·rename_i hk
   rw [A2] at h
   rcases As.mp h with h|h
   ·obtain⟨a,b⟩:=F8 h
    exact⟨by lia,Ak _ b⟩
   ·have e:(x,c)=(y,n):=by simpa using h
    cases e
    have:k= .cell:=by simpa using hk
    subst this
    exact⟨AM _,Ai⟩
  ·obtain⟨a,b⟩:=F8 h
   exact⟨a,Ak _ b⟩
theorem a3g{α:Type}:∀{l:List (Str×α)} {x:Str},(∀c,(x,c)∉l)->l.lookup x=none:=fun {l x} h=>by
 cases e:l.lookup x with
 |none=>rfl
 |some c=>exact absurd (PySem.mem_of_lookup e) (h c)
theorem a0B{α:Type}:∀{l r:List (Str×α)} {x:Str},l.lookup x=none->(l++r).lookup x=r.lookup x
 |[],_,_,_=>rfl
 |(y,v)::l,r,x,h=>by
  rw [Ah,List.lookup_cons]
  rw [List.lookup_cons] at h
  cases e:x==y with
  |true=>rw [e] at h;cases h
  |false=>rw [e] at h;exact a0B h
def M4(cells:List (Str×AB)):List (Str×NameKind)->List (Str×AB)->List (Str×AB)
 |[],acc=>acc
 |(x,k)::r,acc=>if k== .free then M4 cells r ((x,(cells.lookup x).getD 0)::acc) else M4 cells r acc
theorem a1H{cells:List (Str×AB)}:∀{names:List (Str×NameKind)} {acc:List (Str×AB)} {x:Str} {c:AB},(x,c)∈M4 cells names acc->(x,c)∈acc\/((x,NameKind.free)∈names/\c=(cells.lookup x).getD 0)
 |[],_,_,_,h=> .inl h
 |(y,k)::r,acc,x,c,h=>by
  unfold M4 at h
  split at h
  ·rename_i hk
   rcases a1H h with h|⟨h1,h2⟩
   ·rcases Ap.mp h with e|h
    ·cases e
     have:k= .free:=by simpa using hk
     subst this
     exact .inr ⟨Ai,rfl⟩
    ·exact .inl h
   ·exact .inr ⟨Ak _ h1,h2⟩
  ·rcases a1H h with h|⟨h1,h2⟩
   ·exact .inl h
   ·exact .inr ⟨Ak _ h1,h2⟩
theorem X9{cells:List (Str×AB)}:∀{names:List (Str×NameKind)} {acc:List (Str×AB)} {x:Str},x∉names.map (·.1)->(M4 cells names acc).lookup x=acc.lookup x
 |[],_,_,_=>rfl
 |(y,k)::r,acc,x,h=>by
  have h':¬(x=y)/\x∉r.map (·.1):=by simpa using h
  unfold M4
  split
  ·rw [X9 h'.2,List.lookup_cons]
   have e:(x==y)=false:=by simpa using h'.1
   rw [e]
  ·exact X9 h'.2
theorem U8{cells:List (Str×AB)}:∀{names:List (Str×NameKind)} {acc:List (Str×AB)} {x:Str},(names.map (·.1)).Nodup->names.lookup x=some .free->(M4 cells names acc).lookup x=some ((cells.lookup x).getD 0)
 |[],_,_,_,h=>by cases h
 |(y,k)::r,acc,x,nd,h=>by
  have nd':y∉r.map (·.1)/\(r.map (·.1)).Nodup:=List.nodup_cons.mp nd
  rw [List.lookup_cons] at h
  unfold M4
  cases e:x==y with
  |true=>
   rw [e] at h
   have hk:k= .free:=by simpa using h
   subst hk
   have exy:x=y:=by simpa using e
   subst exy
   rw [if_pos (show(NameKind.free==NameKind.free)=true from rfl),X9 nd'.1,List.lookup_cons,e]
  |false=>
   rw [e] at h
   split
   ·exact U8 nd'.2 h
   ·exact U8 nd'.2 h
theorem Q7{env:Env}(f:Str×NameKind->List (Str×AB)->Sem (ForInStep (List (Str×AB))))(hf:∀x k cs,f (x,k) cs=if k== .free then(do let c<-cellOf env x;pure (.yield ((x,c)::cs))) else pure (.yield cs)):
 ∀(names:List (Str×NameKind)) (acc:List (Str×AB)),(∀x∈names,x.2= .free->(env.cells.lookup x.1).isSome=true)->forIn names acc f=pure (M4 env.cells names acc)
 |[],acc,_=>rfl
 |(x,k)::r,acc,h=>by
  rw [List.forIn_cons,hf]
  unfold M4
  have hr:=fun y hy=>h y (Ak _ hy)
  split
  ·rename_i hk
   have:=h (x,k) Ai (by simpa using hk)
   obtain⟨c,hc⟩:=Option.isSome_iff_exists.mp this
   unfold cellOf
   rw [hc]
   show forIn r ((x,c)::acc) f=_
   exact Q7 f hf r _ hr
  ·exact Q7 f hf r acc hr
theorem a3W{scope:Scope}{env:Env}(h:∀x∈scope.names,x.2= .free->(env.cells.lookup x.1).isSome=true):closureFor scope env=pure (M4 env.cells scope.names []):=by
 unfold closureFor
 have e:=Q7 (env:=env) (fun(x:Str×NameKind) (cs:List (Str×AB))=>if x.2== .free then(do let c<-cellOf env x.1;pure (.yield ((x.1,c)::cs))) else pure (.yield cs)) (fun _ _ _=>rfl) scope.names [] h
 show(forIn scope.names [] _>>=fun r=>pure r)=_
 refine Eq.trans (congrArg (· >>=fun r=>pure r) (Eq.trans (congrArg (forIn scope.names []) ?_) e)) rfl
 funext x cs
 cases x with
 |mk n k=>cases k<;>rfl
theorem Z8{env:Env}{x:Str}:∀{names:List (Str×NameKind)},(names.map fun(p:Str×NameKind)=>if(p.2==NameKind.free && env.scope.kind== .function && env.kindOf p.1==some .cell) then(p.1,NameKind.cell) else(p.1,p.2)).lookup x
 =(names.lookup x).map fun k=>if(k==NameKind.free && env.scope.kind== .function && env.kindOf x==some .cell) then NameKind.cell else k
 |[]=>rfl
 |(n,k)::r=>by
  rw [AQ]
  have ih:= @Z8 env x r
  show List.lookup x ((if(k==NameKind.free && env.scope.kind== .function && env.kindOf n==some .cell)=true then(n,NameKind.cell) else(n,k))::_)=_
  cases hx:x==n with
  |true=>
   have e:x=n:=by simpa using hx
   subst e
   by_cases c:(k==NameKind.free && env.scope.kind== .function && env.kindOf x==some .cell)=true
   ·rw [if_pos c,List.lookup_cons,hx,List.lookup_cons,hx];exact congrArg some (if_pos c).symm
   ·rw [if_neg c,List.lookup_cons,hx,List.lookup_cons,hx];exact congrArg some (if_neg c).symm
  |false=>
   by_cases c:(k==NameKind.free && env.scope.kind== .function && env.kindOf n==some .cell)=true
   ·rw [if_pos c,List.lookup_cons,hx,List.lookup_cons,hx];exact ih
   ·rw [if_neg c,List.lookup_cons,hx,List.lookup_cons,hx];exact ih
def E2(scope:Scope)(C:AB)(env:Env):Env:=
 {scope:=relabel scope env,locals:=C,globals:=env.globals,cells:=cellsFrom (C+1) scope.names (M4 env.cells scope.names []),qual:=env.qual,func:=none,code:=env.code,frame:=env.frame,builtins:=env.builtins}
def hid(ys:List Str)(x:Str):Str:=if ys.contains x=true then AS "0"++x else x
def O0(X:Cx)(N0:List Str)(scope:Scope)(ys:List Str)(C:AB)(fp:List AB)(pins:List (AB×Obj))(s₃:AC)(H₃:Hp):Cx:=
 {X with N:=N0++ys,s₀:=s₃,H₀:=H₃,env:=E2 scope C X.env,outer:=X.stack,ex:=fp,fn:=fun x=>scope.names.lookup x==some .cell,pn:=X.pn++pins}
theorem O1{scope:Scope}{C:AB}{env:Env}{x:Str}:(E2 scope C env).kindOf x=(scope.names.lookup x).map fun k=>if(k==NameKind.free && env.scope.kind== .function && env.kindOf x==some .cell) then NameKind.cell else k:=
 Z8
structure R9(N N0 ys:List Str)(env:Env)(scope:Scope):Prop where
 eq:N0=N.map (hid ys)
 kind:scope.kind= .function
 nd:(scope.names.map (·.1)).Nodup
 fr:∀x∈scope.names,x.2= .free->env.kindOf x.1=some .cell\/env.kindOf x.1=some .free
 ou:∀x∈N,(ys.contains x=true->scope.names.lookup (hid ys x)=none)/\(ys.contains x=false->scope.names.lookup x=none\/scope.names.lookup x=some .free\/scope.names.lookup x=some .globalImplicit)
theorem w8{α:Type}:∀{l:List (Str×α)} {x:Str} {v:α},(l.map (·.1)).Nodup->(x,v)∈l->l.lookup x=some v
 |[],_,_,_,h=>nomatch h
 |(y,w)::r,x,v,nd,h=>by
  have nd':y∉r.map (·.1)/\(r.map (·.1)).Nodup:=List.nodup_cons.mp nd
  rw [List.lookup_cons]
  rcases Ap.mp h with e|h
  ·cases e;simp
  ·have:x≠y:=fun e=>nd'.1 (by rw [<-e];exact Am.mpr ⟨_,h,rfl⟩)
   have e:(x==y)=false:=by simpa using this
   rw [e]
   exact w8 nd'.2 h
section
variable {M:Model}{A:AJ}{E:AA->AC->Prop}{s:AC}
theorem a0v{scope:Scope}{globals:AB}{cl:List (Str×AB)}{qual:Str}{env:Env}{builtins:AB}{Q:Env->AC->Prop}
 (h:Q (newEnv scope s.heap.objs.size globals (cellsFrom (s.heap.objs.size+1) scope.names cl) qual none .none (some env) builtins) {s with heap:=pushCells (s.heap.push {cls:= .type "dict",data:= .dict #[]}) scope.names}):
 AH M A (newFunctionEnv scope globals cl [] qual none .none (some env) builtins) Q E s:=by
 simp only [newFunctionEnv,Option.isSome_some,if_true]
 refine AL (wpAny_alloc ?_)
 refine AL (wpAny_layCells _ (fun name kind cells=>by cases hkc:kind==NameKind.cell<;>simp [hkc]) _ _ _ _ ?_)
 rw [show({s with heap:=s.heap.push {cls:= .type "dict",data:= .dict #[]}}:AC).heap.objs.size=s.heap.objs.size+1 from Heap.size_push ..]
 exact AL (AR (AR h))
end
section
variable {prog:AI}{w:AG}{A:AJ}{R:Result->AC->Prop}{s:AC}
theorem a0t{elt target iter:AE}{ifs:List AE}{scope:Scope}{pos:Pos}{it acc:AA}{env:Env}(I:Nat->AC->Prop)
 (turn:∀n s,I n s->AH (model prog w) A (pyNext it) (fun r s₁=>match r with
  |none=>R (.ok .next) s₁
  |some v=>AH (model prog w) A (letOwnedTupleGo target it v) (fun _ s₁'=>AH (model prog w) A (assign target env v) (fun _ s₂=>
   AH (model prog w) A (forIn ifs true fun c r=>if r=true then do let ok<-isTrue c env (eval c env);pure (ForInStep.yield ok) else pure (ForInStep.yield r)) (fun ok s₃=>
    if ok=true then AH (model prog w) A (eval elt env) (fun x s₄=>
     AH (model prog w) A (call (.builtin "list.append") [acc,x]) (fun _ s₅=>∃m,m<n/\I m s₅) (fun _ _=>False) s₄) (fun _ _=>False) s₃
    else ∃m,m<n/\I m s₃) (fun _ _=>False) s₂) (fun _ _=>False) s₁') (fun _ _=>False) s₁) (fun _ _=>False) s)
 (n:Nat) (h:I n s):
 codeAny (model prog w) A (.compLoop (.ListComp elt [⟨target,iter,ifs,0⟩] scope pos) 0 it acc env) R s:=by
 refine codeAny_loop rfl I (fun n s hI=> ?_) n h
 show AH _ A ((compTurn (.ListComp elt [⟨target,iter,ifs,0⟩] scope pos) 0 it acc env).onRaise (fun x=>do noteFrame x env;theTreesLotGoes x)) _ _ s
 refine wpAny_noted ?_
 rw [compTurn_list]
 refine AL (wpAny_standAt (AL (wpAny_mono (turn n s hI) (fun r s₁ h₁=> ?_) fun _ _ h'=>h'.elim)))
 cases r with
 |none=>exact AR h₁
 |some v=>
  refine AL (wpAny_mono h₁ (fun _ s₁' h₁'=> ?_) fun _ _ h'=>h'.elim)
  refine AL (wpAny_mono h₁' (fun _ s₂ h₂=>AL (wpAny_mono h₂ (fun ok s₃ h₃=> ?_) fun _ _ h'=>h'.elim)) fun _ _ h'=>h'.elim)
  cases ok with
  |false=>exact AR ⟨rfl,h₃⟩
  |true=>
   exact AL (AL (wpAny_mono h₃ (fun x s₄ h₄=>AL (wpAny_mono h₄ (fun _ s₅ h₅=>AR (AR ⟨rfl,h₅⟩)) fun _ _ h'=>h'.elim)) fun _ _ h'=>h'.elim))
end
def PCs(X:Cx)(ifs:List AE)(t:TT):Prop:=
 ∀(pins:List (AB×Obj)) (s:AC) (σ:St) (H:Hp) (Q:Bool->Hp->Prop),d9 X pins σ H s->t σ H Q->
  AH (model X.prog X.w) X.A (forIn ifs true fun c r=>if r=true then do let ok<-isTrue c X.env (eval c X.env);pure (ForInStep.yield ok) else pure (ForInStep.yield r)) (TP X pins σ Q) X.xe s
def b4J:TT:=fun _ H Q=>Q true H
theorem b1C{X:Cx}:PCs X [] b4J:=fun pins s σ H Q I h=>wpAny_tests_nil ⟨H,I,h⟩
def b0D(wi:TI)(g:TG)(tc:TT)(te:TE)(k:Nat):TE:=fun σ H Q=>wi σ H fun J H1=>∀D,H1 D=none->∃W:Nat->Nat->List V->Hp->Prop,(∃m,W 0 m [] (upd H1 D (.lst [])))/\∀i m xs H2,W i m xs H2->H2 D=some (.lst xs)->
 (J.stop i H2/\Q (.ref D) H2)\/(J.go i H2/\∀x H3,J.yld i H2 x H3->g x (σ++AO k none) H3 fun σ4 H4=>(∀(j:Nat) v,(σ++AO k none)[j]?=some (some v)->σ4[j]?=some (some v))/\tc σ4 H4 fun b H5=>if b=true then te σ4 H5 fun v H6=>H6 D=some (.lst xs)/\xs.length<AK/\∃m',m'<m/\W (i+1) m' (xs++[v]) (upd H6 D (.lst (xs++[v])))
  else H5 D=some (.lst xs)/\∃m',m'<m/\W (i+1) m' xs H5)
section
variable {X:Cx}{elt iter tg:AE}{ifs:List AE}{scope:Scope}{N0 ys:List Str}{wi:TI}{g:TG}{tc:TT}{te:TE}{pos:Pos}
theorem V2{pins:List (AB×Obj)}{σ:St}{H:Hp}{s:AC}(I:d9 X pins σ H s)(S:R9 X.N N0 ys X.env scope){x:Str}(h:(x,NameKind.free)∈scope.names):∃c,X.env.cells.lookup x=some c:=I.ok.has x (S.fr _ h rfl)
theorem a6G{pins:List (AB×Obj)}{σ:St}{H:Hp}{s:AC}{fp:List AB}(S:R9 X.N N0 ys X.env scope)(I:d9 X pins σ H s)(hf:∀b∈fp,a3T X pins H b)(ho:∀b∈fp,∃o,s.heap.get? b=some o/\∀v,o.data≠.cell v):
 d9 (O0 X N0 scope ys s.heap.objs.size fp pins s H) [] (σ++AO ys.length none) H {s with heap:=pushCells (s.heap.push {cls:= .type "dict",data:= .dict #[]}) scope.names}:=by
 have up:∀b o,s.heap.get? b=some o->(pushCells (s.heap.push {cls:= .type "dict",data:= .dict #[]}) scope.names).get? b=some o:=fun b o e=>pushCells_keeps _ _ b o (Ag _ e)
 have okc:=cellsFrom_ok scope.names (s.heap.push {cls:= .type "dict",data:= .dict #[]}) (s.heap.objs.size+1) [] ⟨fun _ _ hm=>(nomatch hm),List.Pairwise.nil⟩ (by rw [Heap.size_push];exact AM _)
 rw [Heap.size_push] at okc
 have cel:∀x c,(E2 scope s.heap.objs.size X.env).cells.lookup x=some c->((x,c)∈cellsFrom (s.heap.objs.size+1) scope.names []/\(x,NameKind.cell)∈scope.names/\s.heap.objs.size<c)\/(X.env.cells.lookup x=some c/\(x,NameKind.free)∈scope.names):=fun x c e=>by
  have m:=PySem.mem_of_lookup e
  have m:(x,c)∈cellsFrom (s.heap.objs.size+1) scope.names (M4 X.env.cells scope.names []):=m
  rw [A2] at m
  rcases As.mp m with m|m
  ·obtain⟨h1,h2⟩:=F8 m
   exact .inl ⟨m,h2,h1⟩
  ·rcases a1H m with m|⟨m,e⟩
   ·exact nomatch m
   ·obtain⟨c',hc'⟩:=V2 I S m
    rw [hc'] at e
    exact .inr ⟨by rw [hc',e];rfl,m⟩
 have celLt:∀x c,X.env.cells.lookup x=some c->c<s.heap.objs.size:=fun x c e=>let ⟨_,h⟩:=I.cell x c e;h.lt
 have fpLt:∀b∈fp,b<s.heap.objs.size:=fun b hb=>let ⟨_,e,_⟩:=ho b hb;AT e
 have cellNo:∀x,(x,NameKind.cell)∉scope.names->(cellsFrom (s.heap.objs.size+1) scope.names []).lookup x=none:=fun x hx=>a3g fun c m=>hx (F8 m).2
 have look:∀x,(x,NameKind.free)∈scope.names->(E2 scope s.heap.objs.size X.env).cells.lookup x=X.env.cells.lookup x:=fun x m=>by
  have hl:=w8 S.nd m
  have hn:(x,NameKind.cell)∉scope.names:=fun z=>by
   have:=w8 S.nd z
   rw [hl] at this;cases this
  show(cellsFrom (s.heap.objs.size+1) scope.names (M4 X.env.cells scope.names [])).lookup x=_
  rw [A2,a0B (cellNo x hn),U8 S.nd hl]
  obtain⟨c,hc⟩:=V2 I S m
  rw [hc];rfl
 have kindF:∀x,scope.names.lookup x=some .free->X.env.kindOf x=some .cell\/X.env.kindOf x=some .free:=fun x h=>S.fr _ (PySem.mem_of_lookup h) rfl
 refine⟨⟨I.mod,S.kind,I.ok.glob,I.ok.blt,AM _,fun x y c h1 h2=> ?_,fun x h=> ?_,fun x c h1 h2=> ?_,I.ok.hd,I.ok.frames,.inl rfl,fun b hb=> ?_,I.bs,Nat.le_trans I.ok.bsz I.sz,fun b o e hb=> ?_,fun b hb hz=> ?_,I.stack,I.stkFree⟩,
  rfl,I.bare,Un.kept up,⟨fun _=>none, ?_,fun i x v h1 h2 h3=> ?_⟩,fun x c e=> ?_,I.hok.fresh (AM _),fun x c e=> ?_,fun p hp=> ?_,I.hok.kept up, ?_⟩
 ·rcases cel x c h1 with⟨a1,b1,c1⟩|⟨a1,b1⟩
  ·rcases cel y c h2 with⟨a2,b2,c2⟩|⟨a2,b2⟩
   ·exact name_of_addr okc.apart a1 a2
   ·exact absurd (Nat.lt_trans c1 (celLt y c a2)) (Nat.lt_irrefl _)
  ·rcases cel y c h2 with⟨a2,b2,c2⟩|⟨a2,b2⟩
   ·exact absurd (Nat.lt_trans c2 (celLt x c a1)) (Nat.lt_irrefl _)
   ·exact I.ok.inj x y c a1 a2
 ·have hk:(E2 scope s.heap.objs.size X.env).kindOf x=some .cell\/(E2 scope s.heap.objs.size X.env).kindOf x=some .free:=h
  rw [O1] at hk
  cases e:scope.names.lookup x with
  |none=>rw [e] at hk;rcases hk with z|z<;>cases z
  |some k=>
   rw [e] at hk
   have hk':k= .cell\/k= .free:=by
    by_cases c:(k==NameKind.free && X.env.scope.kind== .function && X.env.kindOf x==some .cell)=true
    ·have:(k==NameKind.free)=true:=by
      rw [Bool.and_eq_true,Bool.and_eq_true] at c;exact c.1.1
     exact .inr (by simpa using this)
    ·simp only [Ax] at hk
     rw [if_neg c] at hk
     rcases hk with z|z
     ·cases z;exact .inl rfl
     ·cases z;exact .inr rfl
   rcases hk' with rfl|rfl
   ·have q:=PySem.W.cellsFrom_some (x:=x) scope.names (s.heap.objs.size+1) (M4 X.env.cells scope.names []) (.inl e)
    exact Option.isSome_iff_exists.mp q
   ·obtain⟨c,hc⟩:=V2 I S (PySem.mem_of_lookup e)
    exact⟨c,by show(E2 scope s.heap.objs.size X.env).cells.lookup x=_;rw [look x (PySem.mem_of_lookup e)];exact hc⟩
 ·rcases cel x c h2 with⟨_,_,c1⟩|⟨_,b1⟩
  ·exact BE c1
  ·have h1':(scope.names.lookup x==some .cell)=true:=h1
   rw [w8 S.nd b1] at h1'
   cases h1'
 ·refine⟨Al (fpLt b hb),fun x c e z=> ?_⟩
  rcases cel x c e with⟨_,_,c1⟩|⟨a1,_⟩
  ·rw [z] at c1;exact absurd (Nat.lt_trans c1 (fpLt b hb)) (Nat.lt_irrefl _)
  ·exact(hf b hb).2.2.2.2.1 x c a1 z
 ·have hb:b∈fp:=hb
  rcases(hf b hb).2.2.2.1 with z|z
  ·exact I.ok.noex b o e z
  ·have h1:=(I.ok.bs b o e).1
   have:=AT h1
   exact absurd (An this z) (Nat.lt_irrefl _)
 ·have hb:b∈fp:=hb
  have hz:b∈frs X.stack:=hz
  rcases Ap.mp (I.stkSub b hz) with z|z
  ·exact(hf b hb).2.1 z
  ·exact(hf b hb).2.2.1 z
 ·exact(Heap.Ns.new s.heap (.type "dict")).keeps (pushCells_keeps _ _)
 ·have h1:(N0++ys)[i]?=some x:=h1
  rw [S.eq] at h1
  have hi:i<σ.length:=by
   by_cases hi:i<σ.length
   ·exact hi
   ·rw [List.getElem?_append_right (by lia),List.getElem?_replicate] at h2
    split at h2<;>cases h2
  rw [BB hi] at h2
  rw [BB (by rw [Aa,<-I.len];exact hi),Ay] at h1
  have hvis:Vis (E2 scope s.heap.objs.size X.env).scope x:=h3
  have hkn:scope.names.lookup x=none->False:=fun z=>by
   have hk:∀k,(E2 scope s.heap.objs.size X.env).kindOf x=some k->scope.names.lookup x≠none:=fun k z e=>by
    rw [O1,e] at z;cases z
   rcases hvis with e|e|e<;>exact absurd z (hk _ e)
  have h1:X.N[i]?=some x/\ys.contains x=false:=by
   cases e0:X.N[i]? with
   |none=>rw [e0] at h1;cases h1
   |some x0=>
    rw [e0] at h1
    have h1:hid ys x0=x:=Option.some.inj h1
    have ho:=S.ou x0 (Av e0)
    cases hc:ys.contains x0 with
    |true=>exact(hkn (by rw [<-h1];exact ho.1 hc)).elim
    |false=>
     have hx:x0=x:=by rw [<-h1];unfold hid;rw [if_neg (by rw [hc];exact Az)]
     subst hx
     exact⟨rfl,hc⟩
  obtain⟨h1,hys⟩:=h1
  have hfree:scope.names.lookup x=some .free:=by
   have hk:∀k,(E2 scope s.heap.objs.size X.env).kindOf x=some k->scope.names.lookup x≠none:=fun k z e=>by
    rw [O1,e] at z;cases z
   rcases(S.ou x (Av h1)).2 hys with z|z|z
   ·rcases hvis with e|e|e<;>exact absurd z (hk _ e)
   ·exact z
   ·have hg:(E2 scope s.heap.objs.size X.env).kindOf x=some .globalImplicit:=by
     rw [O1,z];rfl
    rcases hvis with e|e|e
    ·have e:(E2 scope s.heap.objs.size X.env).kindOf x=some .local:=e
     rw [hg] at e;cases e
    ·have e:(E2 scope s.heap.objs.size X.env).kindOf x=some .cell:=e
     rw [hg] at e;cases e
    ·have e:(E2 scope s.heap.objs.size X.env).kindOf x=some .free:=e
     rw [hg] at e;cases e
  obtain⟨m,hn,hl⟩:=I.loc
  have hv:Vis X.env.scope x:=by
   rcases kindF x hfree with z|z
   ·exact .inr (.inl z)
   ·exact .inr (.inr z)
  obtain⟨u,r,l⟩:=hl i x v h1 h2 hv
  refine⟨u,r, ?_⟩
  rcases l with⟨k,_⟩|⟨k,c,e,z⟩
  ·rcases kindF x hfree with q|q<;>rw [q] at k<;>cases k
  ·refine .inr ⟨?_,c,by show(E2 scope s.heap.objs.size X.env).cells.lookup x=_;rw [look x (PySem.mem_of_lookup hfree)];exact e,z.keeps up⟩
   show(E2 scope s.heap.objs.size X.env).kindOf x=some .cell\/(E2 scope s.heap.objs.size X.env).kindOf x=some .free
   rw [O1,hfree]
   by_cases cc:((NameKind.free==NameKind.free)&& X.env.scope.kind== .function && X.env.kindOf x==some .cell)=true
   ·exact .inl (congrArg some (if_pos cc))
   ·exact .inr (congrArg some (if_neg cc))
 ·rcases cel x c e with⟨a1,_,_⟩|⟨a1,_⟩
  ·exact⟨none,(okc.empty x c a1).1⟩
  ·obtain⟨v,z⟩:=I.cell x c a1
   exact⟨v,z.keeps up⟩
 ·rcases cel x c e with⟨_,_,c1⟩|⟨a1,_⟩
  ·exact I.hok.fresh (BE c1)
  ·exact I.freeC x c a1
 ·have hp:p∈(X.pn++pins)++[]:=hp
  rw [Ab] at hp
  obtain⟨e,n,ne,nf,d⟩:=I.pin p hp
  refine⟨up _ _ e,n,Al (AT e),fun hz=> ?_,d⟩
  have hz:p.1∈frs X.stack:=hz
  rcases Ap.mp (I.stkSub p.1 hz) with z|z
  ·exact ne z
  ·exact nf z
 ·show(σ++AO ys.length none).length=(N0++ys).length
  rw [Ad,List.length_replicate,Ad,S.eq,Aa,I.len]
end
section
variable {X:Cx}{elt iter tg:AE}{ifs:List AE}{scope:Scope}{N0 ys:List Str}{wi:TI}{g:TG}{tc:TT}{te:TE}{pos:Pos}
def a84(X:Cx)(pins:List (AB×Obj))(C:AB):Prop:=C≠X.env.locals/\X.s₀.heap.objs.size<=C/\(∀x c,X.env.cells.lookup x=some c->c≠C)/\∀p∈X.pn++pins,p.1≠C
theorem a78{pos':Pos}{use:Option (AA->Sem Unit)}{QQ:AA->AC->Prop}(hx:∀e s,X.xe e s->False)(hc:X.calm=true)(S:R9 X.N N0 ys X.env scope)(hi:PI X tg iter wi)
 (hg:∀C fp pins s H,PG (O0 X N0 scope ys C fp pins s H) tg g) (ht:∀C fp pins s H,PCs (O0 X N0 scope ys C fp pins s H) ifs tc) (he:∀C fp pins s H,PE (O0 X N0 scope ys C fp pins s H) elt te)
 (hs:∀x,foldedSetIterable iter X.env x=pure x) {pins:List (AB×Obj)} {s:AC} {σ:St} {H:Hp} {Q:VK} (I:d9 X pins σ H s) (h:b0D wi g tc te ys.length σ H Q)
 (fin:∀D C s' H' m,d9 X pins σ H' s'->s'.heap.Ns C m->H' C=none->a84 X pins C->Q (.ref D) H'->compPost (model X.prog X.w) X.A X.xe use QQ (.ref D) C (.ok .next) s'):
 AH (model X.prog X.w) X.A (comprehension (.ListComp elt [⟨tg,iter,ifs,0⟩] scope pos) scope X.env pos' (newList []) false (eval iter X.env) use) QQ X.xe s:=by
 have hcl:closureFor scope X.env=pure (M4 X.env.cells scope.names []):=a3W fun x hx' hk=>by
  obtain⟨c,e⟩:=V2 (ys:=ys) I S (x:=x.1) (by rw [<-hk];exact hx')
  rw [e];rfl
 refine wpAny_comprehension_free (use:=use) rfl hs hcl S.kind (fun x hx' hk=>w8 S.nd (by rw [<-hk];exact hx')) (E5 (hi pins s σ H _ I h) fun v s1 h1=>E5 h1 fun itv s2 h2=> ?_)
 obtain⟨it,fp,tn,J,H2,e,I2,T,st2,f2,hW⟩:=h2
 subst e
 have hfr:=I2.hok.fresh (AM _)
 obtain⟨W,⟨m0,w0⟩,turn⟩:=hW s2.heap.objs.size hfr
 have fpLt:∀b∈fp,b<s2.heap.objs.size:=fun b hb=>let ⟨_,e,_⟩:=T.obj _ _ st2 b hb;AT e
 refine wpAny_newObj_type ?_
 have I3:d9 X pins σ (upd H2 s2.heap.objs.size (.lst [])) {s2 with heap:=s2.heap.push {cls:= .type "list",data:= .seq ([]:List AA).toArray}}:=
  I2.laid (t':=s2.toks) (fun b o e=>Ag _ e) (AM _) ⟨by decide,[],0,.nil,Ao _ rfl⟩
 have up3:∀b o,s2.heap.get? b=some o->(s2.heap.push {cls:= .type "list",data:= .seq ([]:List AA).toArray}).get? b=some o:=fun b o e=>Ag _ e
 have st3:tn 0 (s2.heap.push {cls:= .type "list",data:= .seq ([]:List AA).toArray}):=T.keep _ _ _ st2 fun b _ o e=>up3 b o e
 have f3:∀b∈fp,a3T X pins (upd H2 s2.heap.objs.size (.lst [])) b:=fun b hb=>⟨by rw [d3 (Al (fpLt b hb))];exact(f2 b hb).1,(f2 b hb).2⟩
 generalize hs3:({s2 with heap:=s2.heap.push {cls:= .type "list",data:= .seq ([]:List AA).toArray}}:AC)=s3 at I3
 have hs3h:s3.heap=s2.heap.push {cls:= .type "list",data:= .seq ([]:List AA).toArray}:=by rw [<-hs3]
 rw [<-hs3h] at st3 up3
 refine a0v ?_
 have I4:=a6G S I3 f3 (T.obj _ _ st3)
 generalize hs4:({s3 with heap:=pushCells (s3.heap.push {cls:= .type "dict",data:= .dict #[]}) scope.names}:AC)=s4 at I4 ⊢
 have hs4h:s4.heap=pushCells (s3.heap.push {cls:= .type "dict",data:= .dict #[]}) scope.names:=by rw [<-hs4]
 have st4:tn 0 s4.heap:=T.keep _ _ _ st3 fun b _ o e=>by rw [hs4h];exact pushCells_keeps _ _ b o (Ag _ e)
 generalize hX:O0 X N0 scope ys s3.heap.objs.size fp pins s3 (upd H2 s2.heap.objs.size (.lst []))=Y at I4
 have Yp:Y.prog=X.prog:=by rw [<-hX];rfl
 have Yw:Y.w=X.w:=by rw [<-hX];rfl
 have YK:Y.K=X.K:=by rw [<-hX];rfl
 have YA:Y.A=X.A:=by rw [<-hX];rfl
 have Yc:Y.calm=true:=by rw [<-hX];exact hc
 have Yx:Y.xe=X.xe:=by rw [<-hX];rfl
 have YL:Y.env.locals=s3.heap.objs.size:=by rw [<-hX];rfl
 have Yf:Y.fs=frs X.stack:=by rw [<-hX];rfl
 have Ye:Y.ex=fp:=by rw [<-hX];rfl
 have Yn:Y.pn=X.pn++pins:=by rw [<-hX];rfl
 have Ys:Y.s₀=s3:=by rw [<-hX];rfl
 have YH:Y.H₀=upd H2 s2.heap.objs.size (.lst []):=by rw [<-hX];rfl
 have YE:Y.env=E2 scope s3.heap.objs.size X.env:=by rw [<-hX];rfl
 have hgY:PG Y tg g:=by rw [<-hX];exact hg _ _ _ _ _
 have htY:PCs Y ifs tc:=by rw [<-hX];exact ht _ _ _ _ _
 have heY:PE Y elt te:=by rw [<-hX];exact he _ _ _ _ _
 have nlen:(σ++AO ys.length none).length=Y.N.length:=I4.len
 have exf:=I4.ok.exf
 have exfs:=I4.ok.exfs
 have stat:∀{H':Hp},(∀b∈fp,H' b=none)->∀b∈fp,a3T Y [] H' b:=fun {H'} hn b hb=>by
  have hb':b∈Y.ex:=by rw [Ye];exact hb
  refine⟨hn b hb,(exf b hb').1,exfs b hb',.inl hb',(exf b hb').2,fun p hp=> ?_⟩
  rw [Ab,Yn] at hp
  exact(f2 b hb).2.2.2.2.2 p hp
 have TY:a74 Y.prog Y.w Y.K tg J fp it tn:=by rw [Yp,Yw,YK];exact T
 have noX:∀e s,Y.xe e s->False:=fun e s h=>hx e s (by rw [<-Yx];exact h)
 have loop:∀R:Result->AC->Prop,(∀s' H' m,d9 X pins σ H' s'->s'.heap.Ns s3.heap.objs.size m->H' s3.heap.objs.size=none->a84 X pins s3.heap.objs.size->Q (.ref s2.heap.objs.size) H'->R (.ok .next) s')->
  codeAny (model X.prog X.w) X.A (.compLoop (.ListComp elt [⟨tg,iter,ifs,0⟩] scope pos) 0 (.ref it) (.ref s2.heap.objs.size) (E2 scope s3.heap.objs.size X.env)) R s4:=by
  intro R hR
  refine a0t (fun n s'=>∃i xs H' σ',d9 Y [] σ' H' s'/\(∀(j:Nat) v,(σ++AO ys.length none)[j]?=some (some v)->σ'[j]?=some (some v))/\tn i s'.heap/\(∀b∈fp,H' b=none)/\H' s2.heap.objs.size=some (.lst xs)/\W i n xs H') ?_ m0
   ⟨0,[],_,_,I4,fun _ _ e=>e,st4,fun b hb=>(f3 b hb).1,f7,w0⟩
  rintro n s5 ⟨i,xs,H5,σ5,I5,k5,st5,fr5,hD5,w5⟩
  have I5:d9 Y [] (σ++AO ys.length none) H5 s5:=I5.weak (by rw [nlen,I5.len]) k5
  rw [<-Yp,<-Yw,<-YA]
  rcases turn i n xs H5 w5 hD5 with⟨stop,q⟩|⟨go,step⟩
  ·refine wpAny_mono (TY.done Y rfl rfl rfl Yc i [] s5 _ H5 (fun _ _=>False) I5 (stat fr5) st5 stop) (fun r s6 ⟨hr,I6⟩=> ?_) fun _ _ z=>z
   subst hr
   obtain⟨m,hn,_⟩:=I6.loc
   have un:=I6.base
   rw [Yf,Ye,Ys,YH] at un
   rw [YL] at hn
   have hfC:=I6.free
   rw [YL] at hfC
   refine hR s6 H5 m (I3.call' (ch:=fp) (by rw [I6.os,Ys]) un (by have z:=I6.hok;rw [Yp,Yw] at z;exact z) I6.bare fun b hb=>⟨(f3 b hb).2.2.2.1,(f3 b hb).2.1,(f3 b hb).2.2.2.2.1,(f3 b hb).2.2.2.2.2⟩) hn hfC ⟨Nat.ne_of_gt I3.lt,I3.sz,fun x c e=> ?_,fun p hp=> ?_⟩ q
   ·obtain⟨v,z⟩:=I3.cell x c e
    exact Al z.lt
   ·exact Al (AT (I3.pin p hp).1)
  ·refine wpAny_mono (TY.item Y rfl rfl rfl Yc i [] s5 _ H5 (fun _ _=>False) I5 (stat fr5) st5 go) (fun r s6 ⟨u,hr,h6⟩=> ?_) fun _ _ z=>z
   subst hr
   dsimp only
   refine wpAny_mono h6 (fun _ s7 ⟨x,H7,I7,r7,y7,st7,fr7⟩=> ?_) fun _ _ z=>z
   have I7':=I7.pinned (stat fr7) (T.obj _ _ st7)
   rw [<-YE]
   have keepT:∀{σ8:St} {H8:Hp} {s8:AC},d9 Y ([]++a3z fp s7.heap) σ8 H8 s8->tn (i+1) s8.heap/\∀b∈fp,H8 b=none:=fun {σ8 H8 s8} I8=>by
    refine⟨T.keep _ _ _ st7 fun b hb o e=>(I8.pin (b,o) (Aq _ (Aq _ (P3 hb e)))).1,fun b hb=> ?_⟩
    obtain⟨o,e,d⟩:=T.obj _ _ st7 b hb
    exact(I8.pin (b,o) (Aq _ (Aq _ (P3 hb e)))).2.1
   refine wpAny_mono (hgY _ s7 _ H7 x u _ I7' r7 (step x H7 y7)) (fun _ s8 ⟨σ8,H8,I8,k8,q8⟩=> ?_) fun e s z=>noX e s z
   refine wpAny_mono (htY _ s8 σ8 H8 _ I8 q8) (fun b s9 ⟨H9,I9,q9⟩=> ?_) fun e s z=>noX e s z
   cases b with
   |false=>
    rw [if_neg Az] at q9 ⊢
    obtain⟨hD9,m',lt,w9⟩:=q9
    obtain⟨t9,n9⟩:=keepT I9
    exact⟨m',lt,i+1,xs,H9,σ8,I9.pins_of (fun p hp=>nomatch hp),k8,t9,n9,hD9,w9⟩
   |true=>
    rw [if_pos rfl] at q9 ⊢
    refine wpAny_mono (heY _ s9 σ8 H9 _ I9 q9) (fun y s10 ⟨v,H10,I10,r10,hD10,hz,m',lt,w10⟩=> ?_) fun e s z=>noX e s z
    refine wpAny_mono (a4i _ s10 σ8 H10 (.ref s2.heap.objs.size) [v] (.ref s2.heap.objs.size) [y] (fun _ H'=>H'=upd H10 s2.heap.objs.size (.lst (xs++[v]))) I10 rfl (.cons r10 .nil) ⟨_,xs,v,rfl,rfl,hD10,hz,rfl⟩) (fun _ s11 ⟨_,H11,I11,_,e11⟩=> ?_) fun e s z=>noX e s z
    subst e11
    obtain⟨t11,n11⟩:=keepT I11
    exact⟨m',lt,i+1,xs++[v],_,σ8,I11.pins_of (fun p hp=>nomatch hp),k8,t11,n11,f7,w10⟩
 show codeAny _ _ (.compStart _ 0 _ _ (E2 scope s3.heap.objs.size X.env)) _ _
 refine codeAny_compStart_list (loop _ fun s' H' m a b c d e=>fin _ _ s' H' m a b c d e) (T.self _ 0 _ _ _ st4 (loop _ fun s' H' m a b c d e=>fin _ _ s' H' m a b c d e))
end
section
variable {X:Cx}{elt iter tg:AE}{ifs:List AE}{scope:Scope}{N0 ys:List Str}{wi:TI}{g:TG}{tc:TT}{te:TE}{pos:Pos}
theorem b1E(hx:∀e s,X.xe e s->False)(hc:X.calm=true)(S:R9 X.N N0 ys X.env scope)(hi:PI X tg iter wi)
 (hg:∀C fp pins s H,PG (O0 X N0 scope ys C fp pins s H) tg g) (ht:∀C fp pins s H,PCs (O0 X N0 scope ys C fp pins s H) ifs tc) (he:∀C fp pins s H,PE (O0 X N0 scope ys C fp pins s H) elt te)
 (hs:∀x,foldedSetIterable iter X.env x=pure x:=by intro _;rfl):PE X (.ListComp elt [⟨tg,iter,ifs,0⟩] scope pos) (b0D wi g tc te ys.length):=by
 intro pins s σ H Q I h
 rw [eval_ListComp]
 refine a78 hx hc S hi hg ht he hs I h fun D C s' H' m I' hn hC gone q=>⟨m,hn,fun h' hs'=>⟨.ref D,H', ?_,rfl,q⟩⟩
 obtain⟨g1,g2,g3,g4⟩:=gone
 exact I'.turned (t':=s'.toks) (fun b o hb e=>hs'.extBut b o hb e) hC g1 (.inr g2) g3 g4
end
end L2
namespace PU
open PySem PySem.Spec PyProof.Rows L2
def a2c(c:MT)(elt:M)(tg:PV->a9->Option a9)(ρ:a9):List PV->Option (List PV)
 |[]=>some []
 |p::ps=>(tg p ρ).bind fun ρ1=>(c ρ1).bind fun b=>if b=true then((elt ρ1).bind b9.toVal).bind fun q=>(a2c c elt tg ρ ps).bind fun r=>some (q::r) else a2c c elt tg ρ ps
def a3n:MT:=fun _=>some true
def a2f(k:Nat)(it:MI)(tg:PV->a9->Option a9)(c:MT)(elt:M):M:=fun ρ=>(it ρ).bind fun ps=>if ps.length<=AK then(a2c c elt tg (ρ++AO k none) ps).bind fun r=>some (.own r) else none
def a5u(K:AD)(n:Nat)(g:TG)(tg:PV->a9->Option a9):Prop:=
 ∀F H σ ρ ρ1 p x (Q:L2.St->Hp->Prop),n8 K F H σ ρ->p8 K F p x->tg p ρ=some ρ1->(∀σ',n8 K F H σ' ρ1->(∀(j:Nat),j<n->σ'[j]?=σ[j]?)->Q σ' H)->g x σ H Q
theorem n8.set{K:AD}{F H:Hp}{σ:L2.St}{ρ:a9}{p:PV}{x:V}(e:n8 K F H σ ρ)(r:p8 K F p x)(i:Nat):n8 K F H (σ.set i (some x)) (ρ.set i (some (.val p))):=by
 refine⟨e.fh,by simp [e.len],fun j q h=> ?_,fun j ps h=> ?_,fun j k ps qs a hjk h1 h2 h3 h4=> ?_⟩
 ·rw [List.getElem?_set] at h ⊢
  by_cases hij:i=j
  ·subst hij
   rw [if_pos rfl] at h ⊢
   rw [e.len]
   split at h
   ·rename_i c;cases h;rw [if_pos c];exact⟨x,rfl,r⟩
   ·cases h
  ·rw [if_neg hij] at h ⊢;exact e.at_ j q h
 ·rw [List.getElem?_set] at h
  by_cases hij:i=j
  ·subst hij
   rw [if_pos rfl] at h
   split at h<;>cases h
  ·rw [if_neg hij] at h;exact e.nb j ps h
 ·have get:∀(j:Nat) (ps:P8),(ρ.set i (some (b9.val p)))[j]?=some (some (b9.ow ps))->i≠j/\ρ[j]?=some (some (b9.ow ps)):=fun j ps h=>by
   rw [List.getElem?_set] at h
   by_cases hij:i=j
   ·subst hij
    rw [if_pos rfl] at h
    split at h<;>cases h
   ·rw [if_neg hij] at h;exact⟨hij,h⟩
  obtain⟨n1,h1⟩:=get j ps h1
  obtain⟨n2,h2⟩:=get k qs h2
  rw [List.getElem?_set_ne n1] at h3
  rw [List.getElem?_set_ne n2] at h4
  exact e.ap j k ps qs a hjk h1 h2 h3 h4
theorem W3{K:AD}{n i:Nat}(h:n<=i):a5u K n (a4c i) (g8 i):=fun F H σ ρ ρ1 p x Q e r q k=>by
 cases q
 exact k _ (e.set r i) fun j hj=>by rw [List.getElem?_set_ne (by lia)]
theorem n8.setAll{K:AD}{F H:Hp}{n:Nat}:∀{is:List Nat} {xs:List V} {ps:List PV} {σ:L2.St} {ρ:a9},(∀i∈is,n<=i)->n8 K F H σ ρ->d8 K F ps xs->n8 K F H (PU.setAll σ is xs) (PU.setAll ρ is (ps.map .val))/\∀(j:Nat),j<n->(PU.setAll σ is xs)[j]?=σ[j]?
 |[],xs,ps,σ,ρ,_,s,r=>by
  have e1:PU.setAll σ [] xs=σ:=by cases xs<;>rfl
  have e2:PU.setAll ρ [] (ps.map b9.val)=ρ:=by cases ps<;>rfl
  rw [e1,e2];exact⟨s,fun _ _=>rfl⟩
 |i::is,xs,[],σ,ρ,_,s,r=>by cases r;exact⟨s,fun _ _=>rfl⟩
 |i::is,xs,p::ps,σ,ρ,h,s,⟨v,t,e,rp,rl⟩=>by
  subst e
  obtain⟨h1,h2⟩:=n8.setAll (is:=is) (n:=n) (fun j hj=>h j (Ak _ hj)) (s.set rp i) rl
  refine⟨h1,fun j hj=> ?_⟩
  have hi:=h i Ai
  show(PU.setAll (σ.set i (some v)) is t)[j]?=_
  rw [h2 j hj,List.getElem?_set_ne (by lia)]
theorem n8.more{K:AD}{F H:Hp}{σ:L2.St}{ρ:a9}(e:n8 K F H σ ρ)(k:Nat):n8 K F H (σ++AO k none) (ρ++AO k none):=by
 have key:∀(j:Nat) (q:b9),(ρ++AO k none)[j]?=some (some q)->ρ[j]?=some (some q)/\(σ++AO k none)[j]?=σ[j]?:=fun j q h=>by
  by_cases hj:j<ρ.length
  ·rw [BB hj] at h
   rw [BB (by rw [e.len];exact hj)]
   exact⟨h,rfl⟩
  ·rw [List.getElem?_append_right (by lia),List.getElem?_replicate] at h
   split at h<;>cases h
 refine⟨e.fh,by simp [e.len],fun j q h=> ?_,fun j ps h=>e.nb j ps (key j _ h).1,fun j k' ps qs a hjk h1 h2 h3 h4=> ?_⟩
 ·obtain⟨h1,h2⟩:=key j q h
  rw [h2];exact e.at_ j q h1
 ·obtain⟨a1,b1⟩:=key j _ h1
  obtain⟨a2,b2⟩:=key k' _ h2
  rw [b1] at h3
  rw [b2] at h4
  exact e.ap j k' ps qs a hjk a1 a2 h3 h4
def WC(K:AD)(F H:Hp)(D:AB)(c:MT)(elt:M)(tg:PV->a9->Option a9)(ρ:a9)(ps r:List PV)(i m:Nat)(xs:List V)(H':Hp):Prop:=
 ∃F' done k4,i<=ps.length/\m=ps.length - i/\S0 F H F' H'/\F' D=none/\d8 K F' done xs/\done.length<=i/\a2c c elt tg ρ (ps.drop i)=some k4/\done++k4=r
theorem a8a{K:AD}{F H:Hp}{D:AB}{c:MT}{elt:M}{tg:PV->a9->Option a9}{g:TG}{σ:L2.St}{ρ:a9}{k:Nat}{ps r:List PV}{i m:Nat}{xs:List V}{H':Hp}{p:PV}{x:V}
 (T:a5u K ρ.length g tg) (en:n8 K F H σ ρ) (hD:H D=none) (hsz:ps.length<=AK) (W:WC K F H D c elt tg (ρ++AO k none) ps r i m xs H') (hx:H' D=some (.lst xs)) (ep:ps[i]?=some p) (rx:p8 K F p x):
 g x (σ++AO k none) H' fun σ4 H4=>(∀(j:Nat) v,(σ++AO k none)[j]?=some (some v)->σ4[j]?=some (some v))/\tMT K c σ4 H4 fun b H5=>if b=true then tM K elt σ4 H5 fun v H6=>H6 D=some (.lst xs)/\xs.length<AK/\∃m',m'<m/\WC K F H D c elt tg (ρ++AO k none) ps r (i+1) m' (xs++[v]) (upd H6 D (.lst (xs++[v])))
  else H5 D=some (.lst xs)/\∃m',m'<m/\WC K F H D c elt tg (ρ++AO k none) ps r (i+1) m' xs H5:=by
 obtain⟨F',done,k4,hi,hm,ex,fD,rl,dl,hc,hr⟩:=W
 have hk:i<ps.length:=(Ar.mp ep).1
 have hd:ps.drop i=p::ps.drop (i+1):=by
  rw [List.drop_eq_getElem_cons hk]
  congr 1
  exact(Ar.mp ep).2
 rw [hd] at hc
 unfold a2c at hc
 obtain⟨ρ1,e1,hc⟩:=bind_some hc
 obtain⟨b,e2,hc⟩:=bind_some hc
 have en':=(en.ext ex).more k
 refine T F' H' _ _ ρ1 p x _ en' (p8.mono ex.f _ rx) e1 fun σ4 en4 keep=>⟨fun j v e=> ?_, ?_⟩
 ·by_cases hj:j<ρ.length
  ·rw [keep j hj];exact e
  ·rw [List.getElem?_append_right (by rw [en.len];lia),List.getElem?_replicate] at e
   split at e<;>cases e
 refine⟨F',ρ1,b,en4,e2,fun F5 H5 x5=> ?_⟩
 have ex5:=ex.trans x5
 have fD5:F5 D=none:=x5.nw D _ fD hx (fun _ h=>nomatch h)
 cases b with
 |false=>
  rw [if_neg Az] at hc
  refine a6S ⟨x5.h _ _ hx,ps.length - (i+1),by lia,F5,done,k4,by lia,rfl,ex5,fD5,d8.mono x5.f _ rl,by lia,hc,hr⟩
 |true=>
  rw [if_pos rfl] at hc
  obtain⟨q,e3,hc⟩:=bind_some hc
  obtain⟨rt,e4,hc⟩:=bind_some hc
  cases hc
  obtain⟨re,e5,e6⟩:=bind_some e3
  refine a6T ⟨F5,ρ1,re,en4.ext x5,e5,fun v F6 H6 o6=> ?_⟩
  obtain⟨F7,o7⟩:=o6.toVal e6
  have hx6:H6 D=some (.lst xs):=o6.x.h _ _ (x5.h _ _ hx)
  have fD7:F7 D=none:=o7.x.nw D _ fD5 (x5.h _ _ hx) (fun _ h=>nomatch h)
  have ex7:=ex5.trans o7.x
  have hlen:=rl.length
  refine⟨hx6,by lia,ps.length - (i+1),by lia,F7,done++[q],rt,by lia,rfl,⟨ex7.f,fun a o z=> ?_,fun a o z=> ?_,ex7.nw,ex7.nf⟩,fD7,d8.append (d8.mono (x5.f.trans o7.x.f) _ rl) ⟨v,[],rfl,o7.rep,rfl⟩,by simp;lia,e4,by rw [List.append_assoc];exact hr⟩
  ·rw [d3 (i3 z hD)];exact ex7.h _ _ z
  ·rw [d3 (i3 z fD7)];exact ex7.fh _ _ z
theorem a9i{K:AD}{F H:Hp}{D:AB}{c:MT}{elt:M}{tg:PV->a9->Option a9}{ρ:a9}{ps r:List PV}{m:Nat}{xs:List V}{H':Hp}(hD:H D=none)(W:WC K F H D c elt tg ρ ps r ps.length m xs H')(hx:H' D=some (.lst xs)):∃F',o9 K F H F' H' (.ref D) (.own r):=by
 obtain⟨F',done,k4,hi,hm,ex,fD,rl,dl,hc,hr⟩:=W
 rw [List.drop_length] at hc
 cases hc
 rw [Ab] at hr
 subst hr
 exact⟨F',ex,⟨D,xs,rfl,fD,hx,rl⟩,fun _ _ _ e=>by cases e;exact hD⟩
structure Src(K:AD)(F0 F H:Hp)(J:It)(ps:List PV):Prop where
 st:∀i H',d6 H H'->ps.length<=i->J.stop i H'
 go:∀i p H',d6 H H'->ps[i]?=some p->J.go i H'
 yd:∀i p x H' H'',d6 H H'->ps[i]?=some p->J.yld i H' x H''->H''=H'/\p8 K F p x
def SI(K:AD)(mi:MI)(wi:TI):Prop:=∀F H σ ρ ps (R:It->Hp->Prop),n8 K F H σ ρ->mi ρ=some ps->(∀F1 H1 J,S0 F H F1 H1->Src K F F1 H1 J ps->R J H1)->wi σ H R
abbrev EI(X:Cx)(tg iter:AE)(mi:MI):Prop:=∃wi,PI X tg iter wi/\SI X.K mi wi
section
variable {X:Cx}{tg:AE}
theorem b1R{K:AD}{F0 F H:Hp}{lo hi:Int}:Src K F0 F H (Itr lo (hi - lo).toNat) (y6 lo hi):=by
 have hl:=z9 lo hi
 refine⟨fun i H2 s h=> ?_,fun i p H2 s h=> ?_,fun i p x H2 H3 s h y=> ?_⟩
 ·show(hi - lo).toNat<=i;lia
 ·have:=(Ar.mp h).1
  show i<(hi - lo).toNat;lia
 ·have hi':=(Ar.mp h).1
  rw [a1t (by lia)] at h
  cases h
  obtain⟨e,y⟩:=y
  exact⟨e,y⟩
theorem a7v{a:AE}{m:MA}{p rp:Pos}(hgl:Gl X "range")(hm:X.mg "range"=none)(ha:EA X [a] m)(hst:AN [a] X.env=[(false,eval a X.env)]:=by rfl):EI X tg (.Call (.Name "range" p) [a] [] rp) (W6 m):=⟨_,a4n hgl hm ha hst,fun F H σ ρ ps R en e k=>by
 obtain⟨qs,e1,e2⟩:=bind_some e
 refine⟨F,ρ,qs,en,e1,fun vs F1 H1 x rl=> ?_⟩
 split at e2
 ·rename_i j
  split at e2
  ·rename_i c
   have c:=V3.mp c
   cases e2
   obtain⟨v,r,rfl,rv,rr⟩:=rl
   cases rv
   cases rr
   have hz:(j - 0).toNat=j.toNat:=by lia
   refine⟨j,rfl,c.1,c.2,k F1 H1 _ x ?_⟩
   have z:=b1R (K:=X.K) (F0:=F) (F:=F1) (H:=H1) (lo:=0) (hi:=j)
   rw [hz] at z
   exact z
  ·cases e2
 ·cases e2⟩
abbrev EC(X:Cx)(ifs:List AE)(c:MT):Prop:=PCs X ifs (tMT X.K c)
theorem a4L:EC X [] a3n:=fun pins s σ H Q I ⟨F,ρ,b,en,e,k⟩=>by
 cases e
 exact b1C pins s σ H Q I (k F H (S0.refl en.fh))
theorem a79{mi:MI}{wi:TI}{g:TG}{c:MT}{elt:M}{t:PV->a9->Option a9}{N:List Str}{k:Nat}(hi:SI X.K mi wi)(T:∀n,n=N.length->a5u X.K n g t){σ:L2.St}{H:Hp}{Q:VK}(hl:σ.length=N.length)(h:tM X.K (a2f k mi t c elt) σ H Q):b0D wi g (tMT X.K c) (tM X.K elt) k σ H Q:=by
 obtain⟨F,ρ,r,en,e,kk⟩:=h
 obtain⟨ps,e1,e⟩:=bind_some e
 split at e
 ·rename_i hsz
  obtain⟨rs,e2,e⟩:=bind_some e
  cases e
  refine hi F H σ ρ ps _ en e1 fun F1 H1 J x1 S D hD=> ?_
  have en1:=en.ext x1
  have T':a5u X.K ρ.length g t:=T _ (by rw [<-en.len,hl])
  refine⟨WC X.K F1 H1 D c elt t (ρ++AO k none) ps rs,⟨ps.length,F1,[],rs,Nat.zero_le _,rfl,S0.layH x1.fh hD,x1.fh.free hD,rfl,AM _,e2,rfl⟩,fun i m xs H2 W hx=> ?_⟩
  have W':=W
  obtain⟨F',done,k4,hi',hm,ex,fD,rl,dl,hc,hr⟩:=W'
  have sF:d6 H1 H2:=ex.h
  by_cases hlt:i<ps.length
  ·refine .inr ⟨S.go i ps[i] H2 sF (by simp [hlt]),fun x H3 y=> ?_⟩
   obtain⟨e3,rx⟩:=S.yd i ps[i] x H2 H3 sF (by simp [hlt]) y
   subst e3
   exact a8a T' en1 hD hsz W hx (by simp [hlt]) rx
  ·have e3:i=ps.length:=by lia
   subst e3
   refine .inl ⟨S.st _ H2 sF (AM _), ?_⟩
   obtain⟨F2,o⟩:=a9i hD W hx
   exact kk _ F2 H2 (o9.trans x1 o)
 ·cases e
theorem a2B{elt iter:AE}{ifs:List AE}{scope:Scope}{N0 ys:List Str}{mi:MI}{g:TG}{c:MT}{m:M}{t:PV->a9->Option a9}{pos:Pos}(hx:∀e s,X.xe e s->False)(hc:X.calm=true)(S:R9 X.N N0 ys X.env scope)(hi:EI X tg iter mi)
 (hg:∀C fp pins s H,PG (O0 X N0 scope ys C fp pins s H) tg g) (T:∀n,n=X.N.length->a5u X.K n g t) (ht:∀C fp pins s H,EC (O0 X N0 scope ys C fp pins s H) ifs c) (he:∀C fp pins s H,EE (O0 X N0 scope ys C fp pins s H) elt m)
 (hs:∀x,foldedSetIterable iter X.env x=pure x:=by intro _;rfl):EE X (.ListComp elt [⟨tg,iter,ifs,0⟩] scope pos) (a2f ys.length mi t c m):=by
 obtain⟨wi,h1,h2⟩:=hi
 intro pins s σ H Q I h
 exact b1E hx hc S h1 hg ht he hs pins s σ H Q I (a79 (N:=X.N) h2 T I.len h)
end
def W2:List PV->Option (List Str)
 |[]=>some []
 | .str x::r=>(W2 r).map (x::·)
 |_=>none
theorem a3M:∀xs:List Str,W2 (xs.map .str)=some xs
 |[]=>rfl
 |x::xs=>by rw [AQ];simp only [W2,a3M xs,Ax]
theorem a0U{K:AD}{H:Hp}:∀{ps:List PV} {ys:List Str} {xs:List V} {us:List AA},W2 ps=some ys->d8 K H ps xs->g6 xs us->StrsAre us ys
 |[],_,_,_,h,r,v=>by cases h;cases r;cases v;exact .nil
 |p::ps,ys,_,_,h,⟨x,r,e,hp,t⟩,v=>by
  subst e
  cases p with
  |str z=>
   simp only [W2] at h
   cases q:W2 ps with
   |none=>rw [q] at h;cases h
   |some zs=>
    rw [q] at h;cases h
    cases hp
    cases v with
    |cons a b=>
     obtain⟨tk,rfl⟩:=a
     exact .cons z tk (a0U q t b)
  |_=>simp [W2] at h
def P9(x y:b9):Option b9:=match x with
 | .val (.str z)=>(match PyData.items? y.rd with
   |some ps=>(W2 ps).bind fun ys=>if(ys.map (·.length)).sum+ys.length*z.length<=16777216 then some (.val (.str (Txt.join z ys))) else none
   |none=>none)
 |_=>none
section
variable {X:Cx}
theorem b1s:MtR X "str.join" (fun x xs H Q=>∃F y rx ry rz,xs=[y]/\d6 F H/\J6 X.K F H x rx/\J6 X.K F H y ry/\P9 rx ry=some rz/\∀v F' H',o9 X.K F H F' H' v rz->Q v H'):=by
 intro pins s σ H x xs v us Q I rx rv h
 obtain⟨F,y,ra,rb,rz,rfl,s0,h1,h2,h3,k⟩:=h
 obtain⟨u,rfl,ru⟩:=a3R rv
 unfold P9 at h3
 split at h3
 ·rename_i z
  split at h3
  ·rename_i ps e
   obtain⟨ys,e2,h3⟩:=bind_some h3
   split at h3
   ·rename_i c
    cases h3
    cases h1
    obtain⟨t,rfl⟩:=rx
    obtain⟨a,xs,rfl,hq,r⟩:=K3 s0 h2 e
    cases ru
    rcases hq with hq|hq
    ·obtain⟨its,rv,pl,hz⟩:=I.list hq
     exact join_list pl.isList (by simpa using a0U e2 r rv) c fun t' k'=>⟨.str _,H,I.tok _,⟨_,rfl⟩,k _ F H (o9.here s0 rfl)⟩
    ·obtain⟨its,rv,pl,hz⟩:=I.tuple hq
     exact join_tuple pl (by simpa using a0U e2 r rv) c fun t' k'=>⟨.str _,H,I.tok _,⟨_,rfl⟩,k _ F H (o9.here s0 rfl)⟩
   ·cases h3
  ·cases h3
 ·cases h3
theorem a4N{o e:AE}{m n:M}{apos cpos:Pos}(ho:EE X o m)(ha:EE X e n)
 (hbase:attributeBase o "join" X.env (eval o X.env)=eval o X.env:=by rfl)
 (hfew:((backTo cpos (AN [e] X.env)).all (fun x=> !x.1)&&(backToKw cpos (keywordEach [] X.env)).all (fun x=>x.1.isSome)
  && decide ([e].length+([]:List Keyword).length+(if([]:List Keyword).isEmpty then 0 else 1)<30))=true:=by rfl)
 (hline:(apos.endLine==cpos.line)=true:=by rfl) (hs:AN [e] X.env=(false,eval e X.env)::AN [] X.env:=by rfl) (hplain:(backTo cpos (AN [] X.env)).any (·.1)=false:=by rfl):
 EE X (.Call (.Attribute o "join" apos) [e] [] cpos) (m2 P9 m n):=
 o8 (b2s PySem.F.plainAttrs_str PySem.F.slot_str_join PySem.F.type_str_join b1s ho (C2 ha R4 hs) hbase hfew hline hs hplain) fun σ H Q ⟨F,ρ,r,he,hm,k⟩=>by
  obtain⟨rx,e1,hm⟩:=bind_some hm
  obtain⟨ry,e2,hm⟩:=bind_some hm
  refine⟨F,ρ,rx,he,e1,fun v F1 H1 o1=>⟨?_,⟨F1,ρ,ry,he.ext o1.x,e2,fun u F2 H2 o2=>⟨F2,u,rx,ry,r,rfl,o2.x.fh,o1.rep.ext o2.x,o2.rep,hm,fun z F3 H3 o3=>k z F3 H3 (o9.trans (o1.x.trans o2.x) o3)⟩⟩⟩⟩
  unfold P9 at hm
  split at hm
  ·cases o1.rep;rfl
  ·cases hm
end
def cut{α:Type}(xs:List α)(lo hi:Option Int):List α:=(xs.drop (HT.sIx xs.length 0 lo)).take (HT.sIx xs.length xs.length hi - HT.sIx xs.length 0 lo)
theorem a01(n d:Nat)(hd:d<=n)(o:Option Int):(match o with|none=>(d:Int)|some i=>max 0 (min (if i<0 then i+n else i) n))=((HT.sIx n d o:Nat):Int):=by
 cases o with
 |none=>rfl
 |some i=>unfold HT.sIx;dsimp only;split<;>lia
theorem b03(n:Nat)(lo hi:Option Int):Builtin.Str.strSliceIndices lo hi 1 n=(AX (HT.sIx n n hi - HT.sIx n 0 lo)).map (HT.sIx n 0 lo+·):=by
 have h1:=a01 n 0 (Nat.zero_le _) lo
 have h2:=a01 n n (AM _) hi
 have key:∀a b:Int,a=((HT.sIx n 0 lo:Nat):Int)->b=((HT.sIx n n hi:Nat):Int)->sliceRange a b 1=(AX (HT.sIx n n hi - HT.sIx n 0 lo)).map (HT.sIx n 0 lo+·):=fun a b ha hb=>by rw [ha,hb,sliceRange_one]
 refine key _ _ ?_ ?_
 ·cases lo with
  |none=>rfl
  |some i=>exact h1
 ·cases hi with
  |none=>rfl
  |some i=>exact h2
theorem b1Y(z:Str)(lo hi:Option Int):Txt.slice z lo hi=⟨(cut z.cps.toList lo hi).toArray⟩:=by
 have hz:z.cps.toList.length=z.length:=by simp [Str.length]
 unfold Txt.slice
 rw [b03,pick_run z.cps]
 split
 ·rename_i c
  have c':HT.sIx z.length z.length hi - HT.sIx z.length 0 lo=z.length:=by
   simpa using c
  have hle:=HT.sIx_le z.length z.length (AM _) hi
  unfold cut
  rw [hz,c']
  have:HT.sIx z.length 0 lo=0\/z.length=0:=by lia
  cases z with
  |mk a=>
   congr 1
   rcases this with h|h
   ·rw [h,List.drop_zero]
    have:a.toList.length=(⟨a⟩:Str).length:=hz
    rw [<-this,List.take_length]
   ·have h0:a.toList=[]:=List.length_eq_zero_iff.mp (by rw [<-h];exact hz)
    have:a= #[]:=by
     apply Array.ext'
     rw [h0]
    subst this
    simp
 ·unfold cut
  rw [hz]
theorem a0F(items:Array AA)(lo hi:Option Int):slicePick items lo hi none=(cut items.toList lo hi).toArray:=by
 have hz:items.toList.length=items.size:=by simp
 unfold slicePick cut
 rw [hz]
 have key:∀a b:Int,a=((HT.sIx items.size 0 lo:Nat):Int)->b=((HT.sIx items.size items.size hi:Nat):Int)->(List.filterMap (items[·]?) (sliceRange a b 1)).toArray=((items.toList.drop (HT.sIx items.size 0 lo)).take (HT.sIx items.size items.size hi - HT.sIx items.size 0 lo)).toArray:=fun a b ha hb=>by rw [ha,hb,sliceRange_one,pick_run]
 refine key _ _ ?_ ?_
 ·cases lo with
  |none=>rfl
  |some i=>exact a01 items.size 0 (Nat.zero_le _) (some i)
 ·cases hi with
  |none=>rfl
  |some i=>exact a01 items.size items.size (AM _) (some i)
theorem d8.cut{K:AD}{H:Hp}{ps:List PV}{xs:List V}(r:d8 K H ps xs)(lo hi:Option Int):d8 K H (PU.cut ps lo hi) (PU.cut xs lo hi):=by
 unfold PU.cut
 rw [r.length]
 exact(r.drop _).take _
theorem a7o{α:Type}(xs:List α)(lo hi:Option Int):(cut xs lo hi).length<=xs.length:=by
 unfold cut
 rw [List.length_take,List.length_drop];lia
theorem a0u{prog:AI}{w:AG}{A:AJ}{E:AA->AC->Prop}{s:AC}{t sl:AB}{items:Array AA}{vl vu:AA}{lo hi:Option Int}{Q:AA->AC->Prop}(ht:IsTup s.heap t items)(hs:s.heap.IsSliceOf sl vl vu .none)(pl:IsPart vl lo)(pu:IsPart vu hi)
 (hw:HT.sIx items.size 0 lo=0/\HT.sIx items.size items.size hi=items.size)
 (h:Q (.ref t) s):AH (model prog w) A (getItem (.ref t) (.ref sl)) Q E s:=by
 obtain⟨os,hos,hcs,hds⟩:=id hs
 have hTs:s.TypeIs (.ref sl) "slice":=⟨os,hos,hcs⟩
 unfold getItem
 try with_reducible refine wpAny_holding ?_
 first|refine AL (AR ?_)|skip
 refine AL (wpAny_sequenceKey ht.typeIs (by decide) ?_)
 refine AL (wpAny_callSpecial?_slot (name:=AS "__getitem__") ht.typeIs PyProof.Rows.slot_tuple_getitem
  (wpAny_call_entry PyProof.Rows.slot_tuple_getitem ht.typeIs entry_tuple_getitem ?_ (args_tuple_getitem _ _)))
 show AH _ _ (Builtin.Tuple.tupleItemsOf (.ref t)>>=_) _ _ s
 refine AL (tupleItemsOf_ ht ?_)
 refine AL (wpAny_typeOf hTs ?_)
 rw [if_pos (by decide)]
 refine AL (HT.sliceApplied_gen hs pl pu ?_)
 have hno:(((HT.sIx items.size 0 lo:Nat):Int)==0 &&(1:Int)==1 &&(HT.sIx items.size items.size hi - HT.sIx items.size 0 lo)==items.size)=true:=by
  rw [hw.1,hw.2];simp
 show AH _ _ (if(((HT.sIx items.size 0 lo:Nat):Int)==0 &&(1:Int)==1 &&(HT.sIx items.size items.size hi - HT.sIx items.size 0 lo)==items.size)=true then _ else _) _ _ s
 rw [if_pos hno]
 refine AL (AL (m:=typeOf (.ref t)) (wpAny_typeOf ht.typeIs (AR ?_)))
 rw [if_pos (by decide)]
 wp_walk
 exact⟨_,rfl,AR h⟩
theorem b1X{X:Cx}:SlR X (fun x lo hi H Q=>∃a xs,x= .ref a/\W4 X.K H a xs/\(HT.sIx xs.length 0 lo=0/\HT.sIx xs.length xs.length hi=xs.length)/\Q (.ref a) H):=by
 intro pins s σ H x v vl vu lo hi sl Q I rx hs pl pu h
 obtain⟨a,xs,rfl,hx,hw,q⟩:=h
 cases rx
 obtain⟨its,r,ht,hz⟩:=I.tuple hx
 have hlen:its.toArray.size=xs.length:=by rw [Af];exact r.length.symm
 refine⟨"tuple",_,PyProof.Rows.slot_tuple_getitem.lookup,ht.typeIs, ?_⟩
 exact a0u ht hs pl pu (by rw [hlen];exact hw) ⟨.ref a,H,I,rfl,q⟩
theorem a8d{α:Type}{xs:List α}{lo hi:Option Int}(h:HT.sIx xs.length 0 lo=0/\HT.sIx xs.length xs.length hi=xs.length):cut xs lo hi=xs:=by
 unfold cut
 rw [h.1,h.2,List.drop_zero,Nat.sub_zero,List.take_length]
section
variable {X:Cx}
theorem a6R{h:Heap}{sl:AB}{vl vu:AA}{lo hi:Option Int}(hs:h.IsSliceOf sl vl vu .none)(pl:IsPart vl lo)(pu:IsPart vu hi):∃l u:Option (Int×Tok),h.IsSlice sl l u none/\l.map (·.1)=lo/\u.map (·.1)=hi:=by
 obtain⟨o,ho,hc,hd⟩:=hs
 cases pl with
 |none=>
  cases pu with
  |none=>exact⟨none,none,⟨o,ho,hc,hd⟩,rfl,rfl⟩
  |int j t=>exact⟨none,some (j,t),⟨o,ho,hc,hd⟩,rfl,rfl⟩
 |int i t=>
  cases pu with
  |none=>exact⟨some (i,t),none,⟨o,ho,hc,hd⟩,rfl,rfl⟩
  |int j t'=>exact⟨some (i,t),some (j,t'),⟨o,ho,hc,hd⟩,rfl,rfl⟩
theorem b3L:SlR X (fun x lo hi H Q=>∃z,x= .str z/\z.length<=AK/\Q (.str (Txt.slice z lo hi)) H):=by
 intro pins s σ H x v vl vu lo hi sl Q I rx hs pl pu h
 obtain⟨z,rfl,hz,q⟩:=h
 obtain⟨t,rfl⟩:=rx
 obtain⟨l,u,hs',e1,e2⟩:=a6R hs pl pu
 subst e1 e2
 exact⟨"str",_,PySem.F.slot_str_getitem.lookup,typeIs_str _ _ _,wpAny_getItem_str_slice hs' rfl (post_val_or_str ⟨Nat.le_trans (Txt.slice_le z _ _) hz,fun t' k=>⟨.str _,H,I.tok _,⟨_,rfl⟩,q⟩⟩)⟩
theorem b3K:SlR X (fun x lo hi H Q=>∃a xs,x= .ref a/\J2 X.K H a xs/\∀p,H p=none->Q (.ref p) (upd H p (.lst (PU.cut xs lo hi)))):=by
 intro pins s σ H x v vl vu lo hi sl Q I rx hs pl pu h
 obtain⟨a,xs,rfl,hx,q⟩:=h
 cases rx
 obtain⟨its,r,pl',hz⟩:=I.list hx
 have hlen:=r.length
 refine⟨"list",_,list_getitem_lookup,pl'.isList.typeIs, ?_⟩
 refine wpAny_getItem_list_slice pl'.isList hs pl pu .none (by simp) ?_ (by rw [Af];lia)
 rw [a0F]
 refine⟨.ref s.heap.objs.size,_,I.laid (t':=s.toks) (o:= .lst (PU.cut xs lo hi)) (fun b ob q=>Ag _ q) (AM _) ?_,rfl,q _ (I.hok.fresh (AM _))⟩
 refine⟨Nat.le_trans (a7o xs lo hi) hz,PU.cut its lo hi,0, ?_,Ao _ rfl⟩
 unfold PU.cut
 rw [hlen]
 exact(r.drop _).take _
def gSl(x:b9)(lo hi:Option Int):Option b9:=match x with
 | .val (.str z)=>if z.length<=AK then some (.val (.str ⟨(cut z.cps.toList lo hi).toArray⟩)) else none
 | .val (.tuple ps)=>some (.val (.tuple (cut ps lo hi)))
 | .val (.list ps)=>some (.own (cut ps lo hi))
 | .ow (.lst ps)=>some (.own (cut ps lo hi))
 | .bo (.lst ps)=>some (.own (cut ps lo hi))
 |_=>none
def rSl(K:AD):V->Option Int->Option Int->Hp->VK->Prop:=fun x lo hi H Q=>∃F rx rz,d6 F H/\J6 K F H x rx/\gSl rx lo hi=some rz/\∀v F' H',o9 K F H F' H' v rz->Q v H'
theorem slm:SlR X (rSl X.K):=by
 intro pins s σ H x v vl vu lo hi sl Q I rx hs pl pu h
 obtain⟨F,ra,rz,s0,h1,h2,k⟩:=h
 have lst:∀ps,PyData.items? ra.rd=some ps->(∃a xs,x= .ref a/\J2 X.K H a xs/\d8 X.K F ps xs)->rz= .own (cut ps lo hi)->∃T id,typeLookup (.type T) "__getitem__"=pure (some (.builtin id))/\s.TypeIs v T/\AH (model X.prog X.w) X.A (getItem v (.ref sl)) (EP X pins σ Q) X.xe s:=fun ps e ⟨a,xs,e1,hq,rl⟩ e2=>by
  subst e2
  exact b3K pins s σ H x v vl vu lo hi sl Q I rx hs pl pu ⟨a,xs,e1,hq,fun p hp=>k _ _ _ (o9.lst s0 hp (rl.cut lo hi))⟩
 unfold gSl at h2
 split at h2
 ·rename_i z
  split at h2
  ·rename_i c
   cases h2
   cases h1
   refine b3L pins s σ H _ v vl vu lo hi sl Q I rx hs pl pu ⟨z,rfl,c, ?_⟩
   rw [b1Y]
   exact k _ F H (o9.here s0 rfl)
  ·cases h2
 ·rename_i ps
  cases h2
  by_cases c:HT.sIx ps.length 0 lo=0/\HT.sIx ps.length ps.length hi=ps.length
  ·obtain⟨a,xs,rfl,hq,rl⟩:=h1
   have hlen:=rl.length
   refine b1X pins s σ H _ v vl vu lo hi sl Q I rx hs pl pu ⟨a,xs,rfl,A0 s0 hq.sq,by rw [hlen];exact c, ?_⟩
   rw [a8d c] at k
   exact k _ F H (o9.here s0 ⟨a,xs,rfl,hq,rl⟩)
  ·obtain⟨a,xs,rfl,hq,rl⟩:=h1
   have hlen:=rl.length
   refine b3N pins s σ H _ v vl vu lo hi sl Q I rx hs pl pu ⟨a,xs,rfl,A0 s0 hq.sq,by rw [hlen];exact c,fun p hp=> ?_⟩
   exact k _ _ _ (o9.tup s0 hp (rl.cut lo hi))
 ·rename_i ps
  cases h2
  obtain⟨a,xs,e1,hq,rl⟩:=h1
  exact lst ps rfl ⟨a,xs,e1,T9 s0 hq,rl⟩ rfl
 ·rename_i ps
  cases h2
  obtain⟨a,xs,e1,_,hq,rl⟩:=h1
  exact lst ps rfl ⟨a,xs,e1,J2.of hq,rl⟩ rfl
 ·rename_i ps
  cases h2
  obtain⟨a,xs,e1,_,hq,rl⟩:=h1
  exact lst ps rfl ⟨a,xs,e1,J2.of hq,rl⟩ rfl
 ·cases h2
abbrev MO:=a9->Option (Option Int)
def tMO(K:AD)(m:MO):TO:=fun σ H Q=>∃F ρ o,n8 K F H σ ρ/\m ρ=some o/\∀F' H',S0 F H F' H'->Q o H'
abbrev EO(X:Cx)(e:Option AE)(m:MO):Prop:=PO X e (tMO X.K m)
def I0:MO:=fun _=>some none
def a7E:b9->Option (Option Int)
 | .val (.int i)=>some (some i)
 |_=>none
def A7(m:M):MO:=fun ρ=>(m ρ).bind a7E
theorem a0j:EO X none I0:=fun pins s σ H Q I ⟨F,ρ,o,en,e,k⟩=>by
 cases e
 exact b1I pins s σ H Q I (k F H (S0.refl en.fh))
theorem L1{e:AE}{m:M}(h:EE X e m):EO X (some e) (A7 m):=fun pins s σ H Q I ⟨F,ρ,o,en,e1,k⟩=>by
 obtain⟨r,e2,e3⟩:=bind_some e1
 refine b1J h pins s σ H Q I ⟨F,ρ,r,en,e2,fun v F1 H1 o1=> ?_⟩
 unfold a7E at e3
 split at e3
 ·cases e3
  exact⟨_,o1.rep,k F1 H1 o1.x⟩
 ·cases e3
def C9(m:M)(lo hi:MO):M:=fun ρ=>(m ρ).bind fun r=>(lo ρ).bind fun l=>(hi ρ).bind fun h=>gSl r l h
theorem L9{e:AE}{lo hi:Option AE}{m:M}{ml mh:MO}{pos p2:Pos}(he:EE X e m)(hl:EO X lo ml)(hh:EO X hi mh):EE X (.Subscript e (.Slice lo hi none p2) pos) (C9 m ml mh):=
 o8 (b0m slm he hl hh) fun σ H Q ⟨F,ρ,r,en,e,k⟩=>by
  obtain⟨ra,e1,e⟩:=bind_some e
  obtain⟨l,e2,e⟩:=bind_some e
  obtain⟨h,e3,e⟩:=bind_some e
  exact⟨F,ρ,ra,en,e1,fun v F1 H1 o1=>⟨F1,ρ,l,en.ext o1.x,e2,fun F2 H2 x2=>⟨F2,ρ,h,(en.ext o1.x).ext x2,e3,fun F3 H3 x3=>⟨F3,ra,r,x3.fh,(o1.rep.ext x2).ext x3,e,fun z F4 H4 o4=>k z F4 H4 (o9.trans ((o1.x.trans x2).trans x3) o4)⟩⟩⟩⟩
end
def Its(x:Str):It:=⟨fun i _=>i<x.cps.size,fun i H v H'=>H'=H/\∃c,x.cps[i]?=some c/\v= .str ⟨#[c]⟩,fun i _=>x.cps.size<=i⟩
theorem b0H{P:AI}{w:AG}{K:AD}{tg:AE}(b:Bool)(it:AB)(x:Str)(t:Tok):a74 P w K tg (Its x) [it] it (fun i h=>h.IsStrIter it (if b then "str_ascii_iterator" else "str_iterator") x t i) where
 mem:=by simp
 obj:=fun i h st c hb=>by
  have e:c=it:=by simpa using hb
  subst e
  obtain⟨o,e,c,d⟩:=st
  exact⟨o,e,fun v z=>by rw [d] at z;cases z⟩
 keep:=fun i h h' st k=>let ⟨o,e,r⟩:=st;⟨o,k it (by simp) o e,r⟩
 item:=by
  intro X hP hw hK hc i pins s σ H E I hf st hg
  subst hP hw hK
  obtain⟨f0,f1,f2,f3,f4,f5⟩:=hf it (by simp)
  have hg:i<x.cps.size:=hg
  have hx:x.cps[i]?=some x.cps[i]:=by simp [hg]
  have fin:∀h':Heap,h'.IsStrIter it (if b then "str_ascii_iterator" else "str_iterator") x t (i+1)->Heap.SameBut it s.heap h'->∃u,some (Value.str ⟨#[x.cps[i]]⟩ s.toks)=some u/\
   AH (model X.prog X.w) X.A (letOwnedTupleGo tg (.ref it) u) (fun _ s2=>∃y H',d9 X pins σ H' s2/\j6 y u/\(Its x).yld i H y H'/\s2.heap.IsStrIter it (if b then "str_ascii_iterator" else "str_iterator") x t (i+1)/\∀b∈[it],H' b=none) E {s with heap:=h',toks:=s.toks+1}:=fun h' st' sb=>by
   have I1:d9 X pins σ H {s with heap:=h',toks:=s.toks+1}:=I.turned (fun b o hb e=>(sb.2 b hb).trans e) f0 f1 f3 f4 f5
   obtain⟨o,e,c,d⟩:=id st'
   refine⟨_,rfl,a7D (s:={s with heap:=h',toks:=s.toks+1}) (n:=if b then "str_ascii_iterator" else "str_iterator") e c d (by cases b<;>decide) ⟨.str ⟨#[x.cps[i]]⟩,H,I1,⟨_,rfl⟩,⟨rfl,_,hx,rfl⟩,st',fun b hb=>(hf b hb).1⟩⟩
  cases b with
  |true=>exact wpAny_pyNext_ascii_item st hx fun h' a b=>fin h' a b
  |false=>exact wpAny_pyNext_wide_item st hx fun h' a b=>fin h' a b
 done:=by
   intro X hP hw hK hc i pins s σ H E I hf st hg
   subst hP hw hK
   obtain⟨f0,f1,f2,f3,f4,f5⟩:=hf it (by simp)
   have hg:x.cps.size<=i:=hg
   have hx:x.cps[i]?=none:=by simp [hg]
   cases b with
   |true=>exact wpAny_pyNext_ascii_end (I.ok.hd hc) st hx fun h' eb=>⟨rfl,I.turned (t':=s.toks) (fun b o hb e=>eb b o hb e) f0 f1 f3 f4 f5⟩
   |false=>exact wpAny_pyNext_wide_end (I.ok.hd hc) st hx fun h' eb=>⟨rfl,I.turned (t':=s.toks) (fun b o hb e=>eb b o hb e) f0 f1 f3 f4 f5⟩
 self:=fun _ _ _ _ _ st h=>by
  cases b with
  |true=>exact wpAny_pyIter_striter_ascii st h
  |false=>exact wpAny_pyIter_striter_wide st h
section
variable {X:Cx}{tg:AE}
def b4V(tl:TE):TI:=fun σ H R=>tl σ H fun x H1=>∃z,x= .str z/\R (Its z) H1
theorem b3A{l:AE}{tl:TE}(hl:PE X l tl):PI X tg l (b4V tl):=by
 intro pins s σ H R I h
 refine E5 (hl pins s σ H _ I h) fun v s1 ⟨x,H1,I1,r1,q1⟩=> ?_
 obtain⟨z,e,q⟩:=q1
 subst e
 obtain⟨t,rfl⟩:=r1
 have fin:∀b:Bool,PIE X pins σ tg R (.ref s1.heap.objs.size) {s1 with heap:=s1.heap.push {cls:= .type (if b then "str_ascii_iterator" else "str_iterator"),data:= .fields #[.str z t,.int 0 0]}}:=fun b=>by
  refine⟨s1.heap.objs.size,[s1.heap.objs.size],_,_,H1,rfl,I1.kept (t':=s1.toks) fun b o e=>Ag _ e,b0H b _ z t,⟨_,Ao _ rfl,rfl,rfl⟩,fun c hb=> ?_,q⟩
  have e:c=s1.heap.objs.size:=by simpa using hb
  subst e
  exact I1.fpOk (AM _) (I1.hok.fresh (AM _))
 cases ha:z.cps.all (· <128)
 ·exact wpAny_pyIter_wide ha (fin false)
 ·exact wpAny_pyIter_ascii ha (fin true)
structure b4P(K:AD)(F:Hp)(J:It)(ps:List PV):Prop where
 st:∀i H',d6 F H'->ps.length<=i->J.stop i H'
 go:∀i p H',d6 F H'->ps[i]?=some p->J.go i H'
 yd:∀i p x H' H'',d6 F H'->ps[i]?=some p->J.yld i H' x H''->H''=H'/\p8 K F p x
def SIF(K:AD)(mi:MI)(wi:TI):Prop:=∀F H σ ρ ps (R:It->Hp->Prop),n8 K F H σ ρ->mi ρ=some ps->(∀F1 H1 J,S0 F H F1 H1->b4P K F1 J ps->R J H1)->wi σ H R
abbrev EIF(X:Cx)(tg iter:AE)(mi:MI):Prop:=∃wi,PI X tg iter wi/\SIF X.K mi wi
theorem EIF.ei{iter:AE}{mi:MI}(h:EIF X tg iter mi):EI X tg iter mi:=by
 obtain⟨wi,h1,h2⟩:=h
 exact⟨wi,h1,fun F H σ ρ ps R en e k=>h2 F H σ ρ ps R en e fun F1 H1 J x S=>k F1 H1 J x ⟨fun i H' s=>S.st i H' (x.fh.trans s),fun i p H' s=>S.go i p H' (x.fh.trans s),fun i p y H' H'' s=>S.yd i p y H' H'' (x.fh.trans s)⟩⟩
def a0Q(m:M):MI:=fun ρ=>(m ρ).bind fun r=>match r with
 | .val (.str z)=>some (z.cps.toList.map fun c=> .str ⟨#[c]⟩)
 |_=>none
theorem a7w{l:AE}{m:M}(h:EE X l m):EIF X tg l (a0Q m):=⟨_,b3A h,fun F H σ ρ ps R en e k=>by
 obtain⟨r,e1,e2⟩:=bind_some e
 refine⟨F,ρ,r,en,e1,fun v F1 H1 o1=> ?_⟩
 split at e2
 ·rename_i z
  cases e2
  cases o1.rep
  refine⟨z,rfl,k F1 H1 _ o1.x ⟨fun i H2 s h=> ?_,fun i p H2 s h=> ?_,fun i p x H2 H3 s h y=> ?_⟩⟩
  ·have h:z.cps.size<=i:=by simpa using h
   exact h
  ·have:=(Ar.mp h).1
   have h:i<z.cps.size:=by simpa using this
   exact h
  ·obtain⟨e,c,hc,rfl⟩:=y
   refine⟨e, ?_⟩
   rw [Ay,Array.getElem?_toList,hc] at h
   cases h
   rfl
 ·cases e2⟩
def E9:List PV->Option (List Bool)
 |[]=>some []
 | .bool b::r=>(E9 r).map (b::·)
 |_=>none
theorem a2a:∀bs:List Bool,E9 (bs.map .bool)=some bs
 |[]=>rfl
 |b::bs=>by rw [AQ];simp only [E9,a2a bs,Ax]
theorem a2b{K:AD}{H:Hp}:∀{ps:List PV} {bs:List Bool} {xs:List V} {us:List AA},E9 ps=some bs->d8 K H ps xs->g6 xs us->us=bs.map Value.bool
 |[],_,_,_,h,r,v=>by cases h;cases r;cases v;rfl
 |p::ps,bs,_,_,h,⟨x,r,e,hp,t⟩,v=>by
  subst e
  cases p with
  |bool z=>
   simp only [E9] at h
   cases q:E9 ps with
   |none=>rw [q] at h;cases h
   |some zs=>
    rw [q] at h;cases h
    cases hp
    cases v with
    |cons a b=>rw [a2b q t b,show _=_ from a];rfl
  |_=>simp [E9] at h
def a9D(x:b9):Option b9:=match x.rd with
 | .list ps=>(E9 ps).map fun bs=> .val (.bool (bs.all id))
 |_=>none
theorem a8S(bs:List Bool):(AX bs.length).all (fun i=>bs.getD i false)=bs.all id:=by
 rw [Bool.eq_iff_iff,List.all_eq_true,List.all_eq_true]
 constructor
 ·intro h b hb
  obtain⟨i,hi,rfl⟩:=List.getElem_of_mem hb
  have:=h i (List.mem_range.mpr hi)
  simpa [List.getD,hi] using this
 ·intro h i hi
  have hi:=List.mem_range.mp hi
  have:=h bs[i] (List.getElem_mem _)
  simpa [List.getD,hi] using this
theorem a8T(bs:List Bool):(AX bs.length).any (fun i=>bs.getD i false)=bs.any id:=by
 rw [Bool.eq_iff_iff,List.any_eq_true,List.any_eq_true]
 constructor
 ·rintro⟨i,hi,h⟩
  have hi:=List.mem_range.mp hi
  exact⟨bs[i],List.getElem_mem _,by simpa [List.getD,hi] using h⟩
 ·rintro⟨b,hb,h⟩
  obtain⟨i,hi,rfl⟩:=List.getElem_of_mem hb
  exact⟨i,List.mem_range.mpr hi,by simpa [List.getD,hi] using h⟩
theorem a6C{pins:List (AB×Obj)}{σ:L2.St}{H:Hp}{s:AC}{a:AB}{xs:List V}{ps:List PV}{bs:List Bool}{F:Hp}(hc:X.calm=true)(I:d9 X pins σ H s)(hq:J2 X.K H a xs)(r:d8 X.K F ps xs)(e:E9 ps=some bs){E:AA->AC->Prop}{Q:AA->AC->Prop}(c:Bool)
 (h:∀h' tk,(∀b o,b∉[s.heap.objs.size]->(s.heap.push {cls:= .type "list_iterator",data:= .fields #[.ref a,.int 0 0]}).get? b=some o->h'.get? b=some o)->Q (.bool (if c then bs.all id else bs.any id)) {s with heap:=h',toks:=tk}):
 AH (model X.prog X.w) X.A.in1 (pyIter (.ref a)) (fun it s₂=>∃I fp wr n P St tr,it= .ref I/\Walks X.prog X.w X.A.in1 I fp wr n P St/\St 0 s₂.heap/\TruthOf X.prog X.w X.A.in1 P tr/\
  ∀h' tk,(∀b o,b∉wr->s₂.heap.get? b=some o->h'.get? b=some o)->Q (.bool (if c then(AX n).all tr else(AX n).any tr)) {s₂ with heap:=h',toks:=tk}) E s:=by
 obtain⟨its,rv,pl,hz⟩:=I.list hq
 have eb:=a2b e r rv
 have hlt:a<s.heap.objs.size:=by obtain⟨_,e,_⟩:=pl.isList;exact AT e
 refine wpAny_pyIter_list pl.isList ?_
 refine⟨s.heap.objs.size,[s.heap.objs.size,a],[s.heap.objs.size],its.toArray.size,_,_,fun i=>bs.getD i false,rfl,Walks.list (by show X.A.handled=none;exact I.ok.hd hc) s.heap.objs.size a (Al hlt) its.toArray,⟨⟨_,Ao _ rfl,rfl,rfl⟩,pl.isList.push _⟩,fun i v s' Q E hv hQ=> ?_,fun h' tk hk=> ?_⟩
 ·rw [eb] at hv
  have hv:(bs.map Value.bool)[i]?=some v:=by simpa using hv
  rw [Ay] at hv
  cases q:bs[i]? with
  |none=>rw [q] at hv;cases hv
  |some z=>
   rw [q] at hv;cases hv
   have:bs.getD i false=z:=by simp [List.getD,q]
   have hQ:Q (bs.getD i false) s':=hQ
   rw [this] at hQ
   exact AR hQ
 ·have hn:its.toArray.size=bs.length:=by rw [eb];simp
  rw [hn,a8S,a8T]
  exact h h' tk hk
theorem b2K(hc:X.calm=true):C5 X (.builtin "all") (rC1 X.K a9D):=by
 intro pins s σ H xs us Q I rv h
 obtain⟨F,x,rx,rz,rfl,s0,h1,h2,k⟩:=h
 obtain⟨u,rfl,ru⟩:=a3R rv
 unfold a9D at h2
 split at h2
 ·rename_i ps ep
  cases e:E9 ps with
  |none=>rw [e] at h2;cases h2
  |some bs=>
   rw [e] at h2;cases h2
   obtain⟨a,xs,rfl,hq,r⟩:=K3 (ps:=ps) s0 h1 (by rw [ep];rfl)
   have hq:J2 X.K H a xs:=by
    have rr:=h1.rd s0
    rw [ep] at rr
    obtain⟨a',xs',e1,hq',rl⟩:=rr
    cases e1
    rcases hq with hq|hq
    ·exact hq
    ·exact(Z4 I hq' hq).elim
   cases ru
   exact call_all_walk (a6C hc I hq r e true fun h' tk hk=>⟨.bl _,H,I.turned (it:=s.heap.objs.size) (fun b o hb e=>hk b o (by simpa using hb) (Ag _ e)) (I.hok.fresh (AM _)) (Nat.ne_of_gt I.lt) (.inr I.sz) (fun x c e=>by obtain⟨v,z⟩:=I.cell x c e;exact Al z.lt) (fun p hp=>Al (AT (I.pin p hp).1)),rfl,k _ F H (o9.here s0 rfl)⟩)
 ·cases h2
end
def b1h:b9->b9->Option b9
 | .val (.int i),.val (.int j)=>some (.val (.bool (decide (i<j))))
 | .val (.str i),.val (.str j)=>some (.val (.bool (decide (i.cps.toList<j.cps.toList))))
 |_,_=>none
def a4T:b9->b9->Option b9
 | .val (.int i),.val (.int j)=>some (.val (.bool (decide (i<=j))))
 | .val (.str i),.val (.str j)=>some (.val (.bool (!decide (j.cps.toList<i.cps.toList))))
 |_,_=>none
section
variable {X:Cx}
theorem b1z:OpM X (compareOp .Lt) b1h:=by
 intro pins s σ H x y v u Q I rx ry h
 obtain⟨F,ra,rb,rz,s0,h1,h2,h3,k⟩:=h
 unfold b1h at h3
 split at h3
 ·cases h3;cases h1;cases h2
  exact b4o pins s σ H _ _ v u Q I rx ry ⟨_,_,rfl,rfl,k _ F H (o9.here s0 rfl)⟩
 ·cases h3;cases h1;cases h2
  exact a8L pins s σ H _ _ v u Q I rx ry ⟨_,_,rfl,rfl,k _ F H (o9.here s0 rfl)⟩
 ·cases h3
theorem a47:OpM X (compareOp .LtE) a4T:=by
 intro pins s σ H x y v u Q I rx ry h
 obtain⟨F,ra,rb,rz,s0,h1,h2,h3,k⟩:=h
 unfold a4T at h3
 split at h3
 ·cases h3;cases h1;cases h2
  exact b4n pins s σ H _ _ v u Q I rx ry ⟨_,_,rfl,rfl,k _ F H (o9.here s0 rfl)⟩
 ·cases h3;cases h1;cases h2
  obtain⟨t,rfl⟩:=rx
  obtain⟨t',rfl⟩:=ry
  exact PySem.P.le_str ⟨.bl _,H,I,rfl,k _ F H (o9.here s0 rfl)⟩
 ·cases h3
def a5Q:b9->b9->Option b9
 | .val (.str z),.val (.int k)=>if okC (fun k n=>0<=k/\k<=1000000/\n*k<=16777216) k z.length=true then some (.val (.str ⟨(AO k.toNat z.cps.toList).flatten.toArray⟩)) else none
 | .ow (.lst ps),.val (.int k)=>if okC (fun k n=>0<=k/\k<=1000000/\n*k<=16777216) k ps.length=true then some (.own (AO k.toNat ps).flatten) else none
 |x,y=>b2W x y
theorem a25(xs:List Nat):∀(m:Nat) (acc:Array Nat),(AO m xs.toArray).foldl (· ++·) acc=acc++(AO m xs).flatten.toArray
 |0,acc=>by simp
 |m+1,acc=>by
  rw [AY,List.foldl_cons,a25 xs m,AY,List.flatten_cons]
  apply Array.ext'
  simp
theorem b2a{z:Str}{k:Int}(h0:0<=k):Txt.mul z k=⟨(AO k.toNat z.cps.toList).flatten.toArray⟩:=by
 unfold Txt.mul
 by_cases h1:k<1
 ·have:k=0:=by lia
  subst this
  rfl
 ·rw [if_neg h1]
  by_cases h2:(k==1||z.length==0)=true
  ·rw [if_pos h2]
   rw [Bool.or_eq_true] at h2
   cases z with
   |mk a=>
    rcases h2 with h2|h2
    ·have:k=1:=by simpa using h2
     subst this
     show(⟨a⟩:Str)=_
     congr 1
     apply Array.ext'
     simp
    ·have ha:a.size=0:=by simpa [Str.length] using h2
     have:a= #[]:=Array.eq_empty_of_size_eq_zero ha
     subst this
     congr 1
     apply Array.ext'
     simp
  ·rw [if_neg h2]
   have e:z.cps=z.cps.toList.toArray:=by simp
   congr 1
   rw [e,a25]
   simp
theorem a3B{K:AD}{H:Hp}{ps:List PV}{xs:List V}(r:d8 K H ps xs):∀m:Nat,d8 K H (AO m ps).flatten (AO m xs).flatten
 |0=>rfl
 |m+1=>by
  rw [AY,AY,List.flatten_cons,List.flatten_cons]
  exact r.append (a3B r m)
theorem b0h:OpM X (binaryOp .Mult) a5Q:=by
 intro pins s σ H x y v u Q I rx ry h
 obtain⟨F,ra,rb,rz,s0,h1,h2,h3,k⟩:=h
 unfold a5Q at h3
 split at h3
 ·rename_i z n
  split at h3
  ·rename_i c
   obtain⟨c0,c1,c2⟩:=a0o.mp c
   cases h3;cases h1;cases h2
   obtain⟨t,rfl⟩:=rx
   obtain⟨t',rfl⟩:=ry
   have hz:z.length*n.toNat<=AK:=by
    rw [sizeLine_eq]
    have:((z.length*n.toNat:Nat):Int)=z.length*n:=by rw [Int.natCast_mul,Int.toNat_of_nonneg c0]
    lia
   refine SB.mul ⟨?_,fun h4 h5 h6=> ?_,fun h4 h5=> ?_⟩ fun t' k'=>⟨.str _,H,I.tok _,⟨_,rfl⟩, ?_⟩
   ·have e1:¬n< -(2 ^ 63:Int):=by lia
    have e2:¬n>=2 ^ 63:=by lia
    simp [e1,e2]
    lia
   ·have h7:(2 ^ 63 - 1:Int)/ n<z.length:=h6
    have h8:(2 ^ 63 - 1:Int)<(z.length:Int)*n:=by
     have:=Int.lt_mul_of_ediv_lt (a:=(2 ^ 63 - 1:Int)) (b:=(z.length:Int)) (c:=n) (by lia) h7
     exact this
    lia
   ·unfold Builtin.Str.tooLong
    rw [decide_eq_false (by lia)]
   ·rw [b2a c0]
    exact k _ F H (o9.here s0 rfl)
  ·cases h3
 ·rename_i ps n
  split at h3
  ·rename_i c
   obtain⟨c0,c1,c2⟩:=a0o.mp c
   cases h3;cases h2
   obtain⟨a,xs,rfl,fa,hq,rl⟩:=h1
   have hlen:=rl.length
   have hz:xs.length*n.toNat<=AK:=by
    rw [sizeLine_eq,hlen]
    have:((ps.length*n.toNat:Nat):Int)=ps.length*n:=by rw [Int.natCast_mul,Int.toNat_of_nonneg c0]
    lia
   exact b3o pins s σ H _ _ v u Q I rx ry ⟨a,n,xs,rfl,rfl,hq,by lia,by lia,hz,fun p hp=>k _ _ _ (o9.lst s0 hp (a3B rl _))⟩
  ·cases h3
 ·exact b0g pins s σ H x y v u Q I rx ry ⟨F,_,_,rz,s0,h1,h2,h3,k⟩
def a6M(x:b9):Option b9:=match x with
 | .val (.str z)=>if z.length<=AK then some (.own (z.cps.toList.map fun c=> .str ⟨#[c]⟩)) else none
 |x=>a9H x
theorem a9k(hc:X.calm=true):C5 X (.type "list") (rC1 X.K a6M):=by
 intro pins s σ H xs us Q I rv h
 obtain⟨F,x,rx,rz,e0,s0,h1,h2,k⟩:=h
 unfold a6M at h2
 split at h2
 ·rename_i z
  split at h2
  ·rename_i c
   cases h2
   cases h1
   subst e0
   obtain⟨u,rfl,t,rfl⟩:=a3R rv
   refine call_list_str (I.ok.hd hc) z t (fun h' tk acc' c' kp e ia=> ?_) (by exact c)
   obtain⟨ia1,ia2⟩:=ia
   have hv:g6 (z.cps.toList.map fun c=>V.str ⟨#[c]⟩) acc'.toList:=by
    have key:∀(cs:List Nat) (us:List AA),us.length=cs.length->(∀(i:Nat) v,us[i]?=some v->∃c u,cs[i]?=some c/\v= .str ⟨#[c]⟩ u)->g6 (cs.map fun c=>V.str ⟨#[c]⟩) us:=by
     intro cs
     induction cs with
     |nil=>
      intro us h1 h2
      have:us=[]:=List.length_eq_zero_iff.mp h1
      subst this;exact .nil
     |cons c cs ih=>
      intro us h1 h2
      cases us with
      |nil=>cases h1
      |cons w us=>
       obtain⟨c',u,e1,e2⟩:=h2 0 w rfl
       simp at e1
       subst e1
       exact .cons ⟨u,e2⟩ (ih us (by simpa using h1) fun i v hv=>by simpa using h2 (i+1) v (by simpa using hv))
    refine key _ _ (by simpa using ia1) fun i v hv=> ?_
    have hv':acc'[i]?=some v:=by simpa using hv
    obtain⟨c,u,e1,e2⟩:=ia2 i v hv'
    exact⟨c,u,by simpa using e1,e2⟩
   have hlen:(z.cps.toList.map fun c=>V.str ⟨#[c]⟩).length<=AK:=by rw [Aa];simpa [Str.length] using c
   refine⟨.ref s.heap.objs.size,_,I.laid (t':=tk) kp (AM _) (show B5 X.prog X.w _ h' _ (.lst (z.cps.toList.map fun c=>V.str ⟨#[c]⟩)) from⟨hlen,acc'.toList,c',hv,by rw [e]⟩),rfl,k _ _ _ (o9.lst s0 (I.hok.fresh (AM _)) ?_)⟩
   have:∀cs:List Nat,d8 X.K F (cs.map fun c=>PyData.str ⟨#[c]⟩) (cs.map fun c=>V.str ⟨#[c]⟩):=by
    intro cs
    induction cs with
    |nil=>rfl
    |cons c cs ih=>exact⟨_,_,rfl,rfl,ih⟩
   exact this _
  ·cases h2
 ·exact b00 pins s σ H xs us Q I rv ⟨F,x,_,rz,e0,s0,h1,h2,k⟩
theorem d8.set{K:AD}{H:Hp}{p:PV}{v:V}(h:p8 K H p v):∀{ps:List PV} {xs:List V} (j:Nat),d8 K H ps xs->d8 K H (ps.set j p) (xs.set j v)
 |[],_,_,r=>by cases r;exact rfl
 |_::ps,_,0,⟨w,t,e,_,rl⟩=>by subst e;exact⟨v,t,rfl,h,rl⟩
 |q::ps,_,j+1,⟨w,t,e,hq,rl⟩=>by subst e;exact⟨w,_,rfl,hq,d8.set h j rl⟩
end
theorem a1R:fillsNumberSlot (.type "tuple") "mul"=pure false:=
 PySem.fillsNumberSlot_seq (id:="tuple.__mul__") (r:=some (.builtin "tuple.__rmul__")) PySem.F.slot_tuple_mul.lookup (by decide+kernel) PySem.F.slot_tuple_rmul.lookup (by decide+kernel)
theorem a5e:seqRepeat? (.type "tuple")=pure (some (.builtin "tuple.__mul__")):=by
 unfold seqRepeat?
 rw [PySem.seqSlot_of (T:="tuple") (name:="__mul__") (id:="tuple.__mul__") PySem.F.slot_tuple_mul.lookup (by decide+kernel),PySem.seqSlot_of (T:="tuple") (name:="__rmul__") (id:="tuple.__rmul__") PySem.F.slot_tuple_rmul.lookup (by decide+kernel)]
 rfl
theorem a3a(a:Int)(t:Tok)(l:AB)(items:Array AA)(n:Nat)(dd:Option AB)(sl:Array (Option AA)):Meets (Builtin.«int.__rmul__» ⟨[.int a t,.ref l],[]⟩) (fun _ R s=>s.heap.get? l=some {cls:= .type "tuple",dict:=dd,data:= .seq items n,slots:=sl}/\R (.ok (.ret Value.notImplemented)) s):=
 .of_wp fun prog w A R s h=>by obtain⟨hp,g,d,tk,os⟩:=s;obtain⟨hl,h⟩:=h;wp_walk;exact⟨_,rfl,h⟩
theorem a3P(l:AB)(items:Array AA)(n:Nat)(dd:Option AB)(sl:Array (Option AA))(x:Int)(u:Tok)(hc0:(decide (x< -(2 ^ 63))||decide (x>=2 ^ 63))=false)(hc1:(items.isEmpty||x==1)=false)(hc2:(decide (x<=0)||items.isEmpty)=false)(hc3:¬(items.size:Int)*x>(2 ^ 63 - 1)/ 8)(hc4:Builtin.Tuple.tupleTooMany ((items.size:Int)*x)=false)(hz:((AO x.toNat items).foldl (· ++·) #[]).size<=AK):
 Meets (Builtin.«tuple.__mul__» ⟨[.ref l,.int x u],[]⟩) (fun _ R s=>s.heap.get? l=some {cls:= .type "tuple",dict:=dd,data:= .seq items n,slots:=sl}/\R (.ok (.ret (Value.ref s.heap.objs.size))) {s with heap:=s.heap.push {cls:=Value.type "tuple",data:=Data.seq ((AO x.toNat items).foldl (· ++·) #[])},toks:=s.toks}):=
 .of_wp fun prog w A R s h=>by
  obtain⟨hp,g,d,tk,os⟩:=s;obtain⟨hl,h⟩:=h
  wp_walk
  have ht:IsTup hp l items:=⟨_,hl,rfl,n,rfl⟩
  rw [if_neg (by rw [hc0];exact Az)]
  wp_walk
  rw [if_neg hc3]
  wp_walk
  exact⟨_,rfl,h⟩
section
variable {X:Cx}
theorem b1y:OpR X (binaryOp .Mult) (fun x y H Q=>∃a xs n,x= .ref a/\y= .int n/\W4 X.K H a xs/\xs≠[]/\2<=n/\n<=1000000/\xs.length*n.toNat<=AK/\∀p,H p=none->Q (.ref p) (upd H p (.tup (AO n.toNat xs).flatten))):=by
 intro pins s σ H x y v u Q I rx ry h
 obtain⟨a,xs,n,rfl,rfl,hx,hne,h1,h2,hz,q⟩:=h
 cases rx
 obtain⟨t,rfl⟩:=ry
 obtain⟨its,r,ht,_⟩:=I.tuple hx
 have hlen:its.toArray.size=xs.length:=by rw [Af];exact r.length.symm
 have hie:its.toArray.isEmpty=false:=by
  cases its with
  |nil=>exact absurd (r.nil_iff.mp rfl) hne
  |cons _ _=>rfl
 have hnew:List.foldl (fun x1 x2=>x1++x2) #[] (AO n.toNat its.toArray)=(AO n.toNat its).flatten.toArray:=by
  have:=a1K its n.toNat []
  rw [Ae] at this
  exact this
 have hc:((xs.length*n.toNat:Nat):Int)=(xs.length:Int)*n:=by rw [Int.natCast_mul,Int.toNat_of_nonneg (by lia)]
 have hsl:=sizeLine_eq
 obtain⟨⟨cls,dd,data,sl⟩,ho,hc',m,hd⟩:=id ht
 simp only at hc' hd
 subst hc' hd
 have hzz:(List.foldl (fun x1 x2=>x1++x2) #[] (AO n.toNat its.toArray)).size<=AK:=by
  rw [hnew,Af,a4Z,Nat.mul_comm,<-r.length];exact hz
 refine wpAny_binaryOp_repeat_ref (T:="tuple") (U:="int") (by decide) ht.typeIs (fun s'=>typeIs_int s' n t) a1R F.fills_int_mul F.slot_int_rmul a5e F.slot_int_index.lookup
  (call_meets F.slot_int_rmul (typeIs_int s n t) F.entry_int_rmul (F.args_int_rmul_2 _ _) (a3a n t a its.toArray m dd sl)
   ⟨ho,rfl,ht.typeIs,call_meets PySem.F.slot_tuple_mul ht.typeIs PySem.F.entry_tuple_mul (PySem.F.args_tuple_mul_2 _ _) (a3P a its.toArray m dd sl n t ?_ ?_ ?_ ?_ ?_ hzz) ⟨ho, ?_⟩⟩)
 ·have e1:¬n< -(2 ^ 63:Int):=by lia
  have e2:¬n>=2 ^ 63:=by lia
  simp [e1,e2]
  lia
 ·rw [hie]
  have:n≠1:=by lia
  simp [this]
 ·rw [hie]
  have:¬n<=0:=by lia
  simp [this]
 ·rw [hlen,<-hc]
  lia
 ·rw [hlen,<-hc]
  unfold Builtin.Tuple.tupleTooMany
  rw [decide_eq_false (by lia)]
 ·rw [hnew]
  refine⟨.ref s.heap.objs.size,_,I.laid (t':=s.toks) (o:= .tup (AO n.toNat xs).flatten) (fun b ob q=>Ag _ q) (AM _) ?_,rfl,q _ (I.hok.fresh (AM _))⟩
  exact⟨by rw [a4Z,Nat.mul_comm];exact hz,_,r.rep n.toNat,IsTup.new _ _⟩
def O6:b9->b9->Option b9
 | .val (.tuple ps),.val (.int k)=>if okC (fun k n=>2<=k/\k<=1000000/\1<=n/\n*k<=16777216) k ps.length=true then some (.val (.tuple (AO k.toNat ps).flatten)) else none
 |x,y=>a5Q x y
theorem M2:OpM X (binaryOp .Mult) O6:=by
 intro pins s σ H x y v u Q I rx ry h
 obtain⟨F,ra,rb,rz,s0,h1,h2,h3,k⟩:=h
 unfold O6 at h3
 split at h3
 ·rename_i ps n
  split at h3
  ·rename_i c
   obtain⟨c0,c1,c2,c3⟩:=a0o.mp c
   cases h3;cases h2
   obtain⟨a,xs,rfl,hq,rl⟩:=h1
   have hlen:=rl.length
   have hz:xs.length*n.toNat<=AK:=by
    rw [sizeLine_eq,hlen]
    have:((ps.length*n.toNat:Nat):Int)=ps.length*n:=by rw [Int.natCast_mul,Int.toNat_of_nonneg (by lia)]
    lia
   refine b1y pins s σ H _ _ v u Q I rx ry ⟨a,xs,n,rfl,rfl,A0 s0 hq.sq, ?_,by lia,by lia,hz,fun p hp=>k _ _ _ (o9.tup s0 hp (a3B rl _))⟩
   intro e
   rw [e] at hlen
   simp at hlen
   lia
  ·cases h3
 ·exact b0h pins s σ H x y v u Q I rx ry ⟨F,_,_,rz,s0,h1,h2,h3,k⟩
end
section
variable {prog:AI}{w:AG}{A:AJ}{E:AA->AC->Prop}{s:AC}
end
def a85(h:Heap)(it:AB)(v:AA)(i:Int):Prop:=∃o,h.get? it=some o/\o.cls= .type "reversed"/\o.data= .fields #[v,rawInt i]
theorem a85.typeIs{s:AC}{it:AB}{v:AA}{i:Int}(x:a85 s.heap it v i):s.TypeIs (.ref it) "reversed":=let ⟨o,ho,hc,_⟩:=x;⟨o,ho,hc⟩
theorem a85.at{h h':Heap}{it:AB}{v:AA}{i:Int}(x:a85 h it v i)(e:∀o,h.get? it=some o->h'.get? it=some o):a85 h' it v i:=let ⟨o,ho,r⟩:=x;⟨o,e _ ho,r⟩
section
variable {prog:AI}{w:AG}{A:AJ}{E:AA->AC->Prop}{s:AC}{u:AA}{T gid:String}{fp:List AB}{n:Nat}{P:Nat->AA->Prop}{Sq:Heap->Prop}
end
section
variable {prog:AI}{w:AG}{A:AJ}{E:AA->AC->Prop}{s:AC}{u:AA}{T gid:String}{fp:List AB}{n:Nat}{P:Nat->AA->Prop}{Sq:Heap->Prop}
end
section
variable {prog:AI}{w:AG}{A:AJ}{E:AA->AC->Prop}{s:AC}
end
section
variable {X:Cx}
theorem d8.reverse{K:AD}{H:Hp}:∀{ps:List PV} {xs:List V},d8 K H ps xs->d8 K H ps.reverse xs.reverse
 |[],_,r=>by cases r;exact rfl
 |p::ps,_,⟨x,r,e,hp,t⟩=>by
  subst e
  rw [List.reverse_cons,List.reverse_cons]
  exact(d8.reverse t).append ⟨x,[],rfl,hp,rfl⟩
theorem g6.reverse:∀{xs:List V} {us:List AA},g6 xs us->g6 xs.reverse us.reverse
 |_,_,.nil=> .nil
 |_,_,.cons a b=>by
  rw [List.reverse_cons,List.reverse_cons]
  exact(g6.reverse b).append (.cons a .nil)
end
section
variable {X:Cx}
theorem d8.last{K:AD}{H:Hp}{ps:List PV}{xs:List V}{p:PV}(r:d8 K H ps xs)(h:ps.getLast?=some p):∃v,xs.getLast?=some v/\p8 K H p v:=by
 rw [List.getLast?_eq_getElem?] at h
 obtain⟨v,e,q⟩:=r.get h
 exact⟨v,by rw [List.getLast?_eq_getElem?,r.length];exact e,q⟩
theorem d8.dropLast{K:AD}{H:Hp}{ps:List PV}{xs:List V}(r:d8 K H ps xs):d8 K H ps.dropLast xs.dropLast:=by
 rw [List.dropLast_eq_take,List.dropLast_eq_take,r.length]
 exact r.take _
end
def l9(kvs:List (List d5×PV))(k:List d5):Option PV:=(kvs.find? fun kv=>decide (kv.1=k)).map (·.2)
def V7(kvs:List (List d5×PV))(k:List d5)(v:PV):List (List d5×PV):=
 if(kvs.any fun kv=>decide (kv.1=k))=true then kvs.map (fun kv=>if kv.1=k then(kv.1,v) else kv) else kvs++[(k,v)]
theorem m6.length{K:AD}{H:Hp}:∀{kvs:List (List d5×PV)} {ys:List (List d5×V)},m6 K H kvs ys->ys.length=kvs.length
 |[],_,h=>by cases h;rfl
 |(k,p)::r,_,⟨v,t,e,q,h⟩=>by subst e;rw [AW,AW,m6.length h]
theorem m6.any{K:AD}{H:Hp}{k:List d5}:∀{kvs:List (List d5×PV)} {ys:List (List d5×V)},m6 K H kvs ys->(ys.any fun kv=>decide (kv.1=k))=(kvs.any fun kv=>decide (kv.1=k))
 |[],_,h=>by cases h;rfl
 |(k',p)::r,_,⟨v,t,e,q,h⟩=>by subst e;rw [List.any_cons,List.any_cons,m6.any h]
theorem m6.val{K:AD}{H:Hp}{k:List d5}:∀{kvs:List (List d5×PV)} {ys:List (List d5×V)},m6 K H kvs ys->(∀p,l9 kvs k=some p->∃v,R7 ys k=some v/\p8 K H p v)/\(l9 kvs k=none->R7 ys k=none)
 |[],_,h=>by cases h;exact⟨fun p e=>(nomatch e),fun _=>rfl⟩
 |(k',p)::r,_,⟨v,t,e,q,h⟩=>by
  subst e
  by_cases c:k'=k
  ·have e1:l9 ((k',p)::r) k=some p:=by simp [l9,List.find?_cons,c]
   have e2:R7 ((k',v)::t) k=some v:=U2 c
   rw [e1,e2]
   exact⟨fun p' e'=>(by cases e';exact⟨v,rfl,q⟩),fun e'=>(nomatch e')⟩
  ·have e1:l9 ((k',p)::r) k=l9 r k:=by simp [l9,List.find?_cons,c]
   have e2:R7 ((k',v)::t) k=R7 t k:=U1 c
   rw [e1,e2]
   exact m6.val h
theorem m6.repl{K:AD}{H:Hp}{k:List d5}{p:PV}{v:V}(hp:p8 K H p v):∀{kvs:List (List d5×PV)} {ys:List (List d5×V)},m6 K H kvs ys->m6 K H (kvs.map fun kv=>if kv.1=k then(kv.1,p) else kv) (ys.map fun kv=>if kv.1=k then(kv.1,v) else kv)
 |[],_,h=>by cases h;exact rfl
 |(k',p')::r,_,⟨v',t,e,q,h⟩=>by
  subst e
  by_cases c:k'=k
  ·rw [AQ,AQ]
   simp only [if_pos c]
   exact⟨v,_,rfl,hp,m6.repl hp h⟩
  ·rw [AQ,AQ]
   simp only [if_neg c]
   exact⟨v',_,rfl,q,m6.repl hp h⟩
theorem m6.snoc{K:AD}{H:Hp}{k:List d5}{p:PV}{v:V}(hp:p8 K H p v):∀{kvs:List (List d5×PV)} {ys:List (List d5×V)},m6 K H kvs ys->m6 K H (kvs++[(k,p)]) (ys++[(k,v)])
 |[],_,h=>by cases h;exact⟨v,[],rfl,hp,rfl⟩
 |(k',p')::r,_,⟨v',t,e,q,h⟩=>by subst e;exact⟨v',_,rfl,q,m6.snoc hp h⟩
theorem m6.put{K:AD}{H:Hp}{k:List d5}{p:PV}{v:V}{kvs:List (List d5×PV)}{ys:List (List d5×V)}(r:m6 K H kvs ys)(hp:p8 K H p v):m6 K H (V7 kvs k p) (K5 ys k v):=by
 unfold V7 K5
 rw [r.any]
 split
 ·exact r.repl hp
 ·exact r.snoc hp
theorem o9.dct{K:AD}{F H:Hp}{a:AB}(s:d6 F H)(n:H a=none):o9 K F H F (upd H a (.dT [])) (.ref a) (.dct []):=
 ⟨S0.layH s n,⟨a,[],rfl,s.free n,f7,rfl⟩,fun _ _ _ e=>by cases e;exact n⟩
section
variable {X:Cx}
def a93:M:=fun _=>some (.dct [])
theorem b07{pos:Pos}:EE X (.Dict [] [] pos) a93:=
 o8 b0l fun σ H Q ⟨F,ρ,r,en,e,k⟩=>by
  cases e
  exact fun d hd=>k _ _ _ (o9.dct en.fh hd)
def a7s(i:Nat)(ρ:a9)(p:PV)(k:List d5):Option Fl:=match ρ[i]? with
 |some (some (.ow (.dct kvs)))=>if kvs.length<AK then some (.nx (ρ.set i (some (.dct (V7 kvs k p))))) else none
 |_=>none
def a7H(i:Nat)(mk:MA)(mv:M):MS:=fun ρ=>((mv ρ).bind b9.toVal).bind fun p=>(mk ρ).bind fun ks=>if ks.length<=AK then(R0 ks).bind (a7s i ρ p) else none
theorem b1a(i:Nat){x:Str}{p tp tp2 pos:Pos}{es:List AE}{e:AE}{x1}{mk:MA}{mv:M}(hu:X.A.units+64<cLine)(hx:PE X (.Name x p) (a0w i))(hi:EA X es mk)(he:EE X e mv)
 (hs:swapsWith e (some (.Subscript (.Name x p) (.Tuple es x1 tp) tp2)) pos.line X.env=pure false:=by rfl):ES X (.Assign [.Subscript (.Name x p) (.Tuple es x1 tp) tp2] e pos) (a7H i mk mv):=
 D0 (a7M (by lia) hx (a62 hi) he hs) fun D σ H ⟨F0,H0,F,ρ,fl,so,e,fin⟩=>by
  obtain⟨q,e1,e⟩:=bind_some e
  obtain⟨r,e2,e3⟩:=bind_some e1
  obtain⟨ks,e4,e⟩:=bind_some e
  split at e
  ·rename_i hz
   obtain⟨k,e5,e⟩:=bind_some e
   refine⟨F,ρ,r,so.e,e2,fun v F1 H1 o=> ?_⟩
   obtain⟨F2,o2⟩:=o.toVal e3
   have so2:=so.ext o2.x
   unfold a7s at e
   split at e
   ·rename_i kvs eo
    split at e
    ·rename_i hl
     cases e
     obtain⟨w,hw1,a,xs,rfl,fa,ha',rl⟩:=so2.e.at_ i _ eo
     refine⟨.ref a,hw1,F2,ρ,ks,so2.e,e4,fun vs F3 H3 x3 rl3=>⟨by rw [rl3.length];exact hz,fun b hb=> ?_⟩⟩
     have ev:=a0P e5 rl3
     have so3:=(so2.ext x3).ext (S0.lay (o:= .tup vs) x3.fh hb)
     have ha3:=x3.h _ _ ha'
     have hne:a≠b:=fun h=>by subst h;rw [hb] at ha3;cases ha3
     have ha4:upd H3 b (.tup vs) a=some (.dT xs):=by rw [d3 hne];exact ha3
     refine⟨a,_,rfl,a5n.t (k:=k) ha4 (by rw [f7,ev]) (by rw [rl.length];exact hl), ?_⟩
     have up:d6 F2 (upd F3 b (.tup vs)):=x3.f.trans (x9 (x3.fh.free hb))
     exact fin σ _ _ (o2.x.f.trans up) (so3.putD eo hw1 ((m6.mono up _ rl).put (p8.mono up _ o2.rep)))
    ·cases e
   ·cases e
  ·cases e
end
section
variable {prog:AI}{w:AG}{A:AJ}{E:AA->AC->Prop}{s:AC}
end
section
variable {X:Cx}{pins:List (AB×Obj)}{σ:L2.St}{H:Hp}{s:AC}{a:AB}{A:AJ}{E:AA->AC->Prop}
end
section
variable {X:Cx}
end
theorem a6V{K:AD}{a:AB}{o:Obj}:K.lookup a=some o->∃b,(b,o)∈K:=by
 induction K with
 |nil=>intro h;cases h
 |cons p r ih=>
  intro h
  obtain⟨b,u⟩:=p
  rw [List.lookup_cons] at h
  split at h
  ·cases h;exact⟨b,Ai ..⟩
  ·obtain⟨c,hc⟩:=ih h
   exact⟨c,Ak _ hc⟩
theorem m6.isSome{K:AD}{H:Hp}{k:List d5}{kvs:List (List d5×PV)}{ys:List (List d5×V)}(r:m6 K H kvs ys):(R7 ys k).isSome=(l9 kvs k).isSome:=by
 cases hv:l9 kvs k with
 |none=>rw [(r.val (k:=k)).2 hv];rfl
 |some p=>
  obtain⟨v,e,_⟩:=(r.val (k:=k)).1 p hv
  rw [e];rfl
section
variable {X:Cx}
theorem b4z{t:TE}{m:M}(i:∀σ H Q,tM X.K m σ H Q->t σ H Q){σ:L2.St}{H:Hp}{Q:Bool->Hp->Prop}(h:tMT X.K (U3 m) σ H Q):tB t σ H Q:=by
 obtain⟨F,ρ,b,h1,h2,k⟩:=h
 obtain⟨r,e1,e2⟩:=bind_some h2
 exact i _ _ _ ⟨F,ρ,r,h1,e1,fun v F1 H1 o=>⟨b,a1r o.rep e2,k F1 H1 o.x⟩⟩
def Y7(r:b9):Option Str:=match r with
 | .val (.str x)=>some x
 |_=>none
end
section
variable {prog:AI}{w:AG}{A:AJ}{E:AA->AC->Prop}{s:AC}
end
section
variable {X:Cx}
end
section
variable {X:Cx}
end
section
variable {prog:AI}{w:AG}{A:AJ}{E:AA->AC->Prop}{s:AC}
end
section
variable {prog:AI}{w:AG}{A:AJ}{E:AA->AC->Prop}{s:AC}
end
section
variable {X:Cx}
end
def X4(A:AJ)(s:AC)(u v:AA)(b:Bool):Prop:=∀(prog:AI) (w:AG) (E:AA->AC->Prop) (Q:AA->AC->Prop),Q (.bool b) s->AH (model prog w) A (richCompare .Lt u v) Q E s
section
open AutoSeq1 (wpAny_loadPart')
theorem a5j(l b:AB)(xs ys:Array AA)(n n2:Nat)(dd dd2:Option AB)(sl sl2:Array (Option AA))(e:Nat->Bool)(c:Bool):
 Meets (Builtin.«tuple.__lt__» ⟨[.ref l,.ref b],[]⟩)
  (fun A R s=>(s.heap.get? l=some {cls:= .type "tuple",dict:=dd,data:= .seq xs n,slots:=sl}/\s.heap.get? b=some {cls:= .type "tuple",dict:=dd2,data:= .seq ys n2,slots:=sl2})/\
   (∀j (h1:j<xs.size) (h2:j<ys.size),SeqAt.EqAt A.in1 s xs[j] ys[j] (e j))/\(∀j (h1:j<xs.size) (h2:j<ys.size),(∀k,k<j->e k=true)->e j=false->X4 A.in1 s xs[j] ys[j] c)/\
   ((∀k,k<min xs.size ys.size->e k=true)->c=decide (xs.size<ys.size))/\R (.ok (.ret (.bool c))) s):=
 .of_wp fun prog w A R s h=>by
  obtain⟨hp,g,d,tk,os⟩:=s
  obtain⟨⟨hl,hb⟩,he,hlt,hce,h⟩:=h
  have f2:=AutoSeq1.sub_tuple_tuple
  have hZ:(xs.toList.zip ys.toList).length=min xs.size ys.size:=by simp
  wp_walk using wpAny_loadPart' hl,wpAny_loadPart' hb,wpAny_forIn_list _ (fun k4 b s'=>b.1=none/\s'=⟨hp,g,d,tk,os⟩/\∃i,i<=min xs.size ys.size/\k4=(xs.toList.zip ys.toList).drop i/\∀k,k<i->e k=true) _
  case turn=>
   rintro⟨y,x⟩ k4 b s' ⟨hb',rfl,i,hi,hz,hR⟩
   have hlt':i<(xs.toList.zip ys.toList).length:=by
    rcases Nat.lt_or_ge i (xs.toList.zip ys.toList).length with h'|h'
    ·exact h'
    ·rw [List.drop_of_length_le h'] at hz;cases hz
   have hm:i<min xs.size ys.size:=by lia
   have h1:i<xs.size:=by lia
   have h2:i<ys.size:=by lia
   rw [List.drop_eq_getElem_cons hlt'] at hz
   injection hz with hyx hrest
   have hy:y=xs[i]:=by simpa using congrArg Prod.fst hyx
   have hx:x=ys[i]:=by simpa using congrArg Prod.snd hyx
   subst hy hx
   refine AL (he i h1 h2 prog w _ _ ?_)
   cases hq:e i with
   |true=>
    wp_walk
    exact⟨rfl,rfl,i+1,by lia,hrest,fun k hk=>by
     rcases Nat.lt_or_ge k i with h'|h'
     ·exact hR k h'
     ·rw [show k=i by lia];exact hq⟩
   |false=>
    have hl3:=hlt i h1 h2 hR hq
    show AH _ A.in1 (rule _>>=fun _=>richCompare .Lt xs[i] ys[i]>>=fun v=>ret v>>=fun q=>pure (ForInStep.done (some q,()))) _ _ _
    refine AL (wpAny_rule ?_)
    refine AL (hl3 prog w _ _ ?_)
    refine AL (AR ?_)
    refine AR ?_
    exact AR ⟨_,rfl,h⟩
  case fin=>
   rintro⟨b1,b2⟩ s' ⟨hb',rfl,i,hi,hz,hR⟩
   simp only at hb'
   subst hb'
   have hge:min xs.size ys.size<=i:=by
    rcases Nat.lt_or_ge i (xs.toList.zip ys.toList).length with h'|h'
    ·rw [List.drop_eq_getElem_cons h'] at hz;cases hz
    ·lia
   wp_walk
   refine⟨_,rfl, ?_⟩
   rw [hce fun k hk=>hR k (by lia)] at h
   exact h
  case h=>
   exact⟨rfl,rfl,0,by lia,rfl,fun k hk=>by lia⟩
variable {A:AJ}{s:AC}
theorem X4.tuples{l b:AB}{xs ys:Array AA}{e:Nat->Bool}{c:Bool}(hl:s.heap.IsTuple l xs)(hb:s.heap.IsTuple b ys)(hu:A.units<cLine)
 (he:∀j (h1:j<xs.size) (h2:j<ys.size),SeqAt.EqAt A.in1 s xs[j] ys[j] (e j)) (hlt:∀j (h1:j<xs.size) (h2:j<ys.size),(∀k,k<j->e k=true)->e j=false->X4 A.in1 s xs[j] ys[j] c)
 (hce:(∀k,k<min xs.size ys.size->e k=true)->c=decide (xs.size<ys.size)):X4 A s (.ref l) (.ref b) c:=fun prog w E Q h=>by
 obtain⟨⟨c1,d1,t1,s1⟩,o1,e1,n1,k1⟩:=id hl
 obtain⟨⟨c2,d2,t2,s2⟩,o2,e2,n2,k2⟩:=id hb
 simp only at e1 k1 e2 k2
 subst e1 k1 e2 k2
 exact richCompare_meets_room (op:= .Lt) ⟨_,o1,rfl⟩ ⟨_,o2,rfl⟩ F.slot_tuple_lt F.entry_tuple_lt (F.args_tuple_lt_2 _ _) (a5j l b xs ys n1 n2 d1 d2 s1 s2 e c)
  ⟨⟨o1,o2⟩,he,hlt,hce,show Value.bool c≠Value.notImplemented/\Q (.bool c) s from⟨(fun x=>nomatch x),h⟩⟩ hu
theorem X4.ints(a b:Int)(t u:Tok):X4 A s (.int a t) (.int b u) (decide (a<b)):=fun prog w E Q h=>wpAny_lt_int h
theorem X4.strs(a b:Str)(t u:Tok):X4 A s (.str a t) (.str b u) (decide (a.cps.toList<b.cps.toList)):=fun prog w E Q h=>lt_str h
end
mutual
def ltv:PV->PV->Option Bool
 | .int i,.int j=>some (decide (i<j))
 | .str i,.str j=>some (decide (i.cps.toList<j.cps.toList))
 | .tuple ps,.tuple qs=>a1f ps qs
 |_,_=>none
def a1f:List PV->List PV->Option Bool
 |[],[]=>some false
 |[],_::_=>some true
 |_::_,[]=>some false
 |p::ps,q::qs=>if PyData.eqv p q=true then a1f ps qs else ltv p q
end
theorem a7G:∀{ps qs:List PV} {c:Bool},a1f ps qs=some c->∀j (p q:PV),ps[j]?=some p->qs[j]?=some q->(∀k,k<j->eAt ps qs k=true)->eAt ps qs j=false->ltv p q=some c
 |[],_,_,_,j,p,q,h1,_,_,_=>by simp at h1
 |_::_,[],_,_,j,p,q,_,h2,_,_=>by simp at h2
 |p'::ps,q'::qs,c,h,0,p,q,h1,h2,_,he=>by
  simp only [List.getElem?_cons_zero,Option.some.injEq] at h1 h2
  subst h1 h2
  rw [a1f] at h
  have:PyData.eqv p' q'=false:=by simpa [eAt] using he
  rw [this] at h
  simpa using h
 |p'::ps,q'::qs,c,h,j+1,p,q,h1,h2,hk,he=>by
  simp only [List.getElem?_cons_succ] at h1 h2
  have h0:PyData.eqv p' q'=true:=by simpa [eAt] using hk 0 (by lia)
  rw [a1f,if_pos h0] at h
  refine a7G h j p q h1 h2 (fun k hk'=> ?_) ?_
  ·simpa [eAt] using hk (k+1) (by lia)
  ·simpa [eAt] using he
theorem a5X:∀{ps qs:List PV} {c:Bool},a1f ps qs=some c->(∀k,k<min ps.length qs.length->eAt ps qs k=true)->c=decide (ps.length<qs.length)
 |[],[],c,h,_=>by simp [a1f] at h;simp [h]
 |[],_::_,c,h,_=>by simp [a1f] at h;simp [h]
 |_::_,[],c,h,_=>by simp [a1f] at h;simp [h]
 |p::ps,q::qs,c,h,hk=>by
  have h0:PyData.eqv p q=true:=by simpa [eAt] using hk 0 (by simp)
  rw [a1f,if_pos h0] at h
  have:=a5X h fun k hk'=>by simpa [eAt] using hk (k+1) (by simp at hk' ⊢;lia)
  simpa using this
section
variable {X:Cx}{pins:List (AB×Obj)}{σ:L2.St}{H:Hp}{s:AC}
theorem b28(I:d9 X pins σ H s):∀(n:Nat) (A:AJ) (p q:PV) (x y:V) (u w:AA) (c:Bool),A.units+n<cLine->l4 p n=true->l4 q n=true->ltv p q=some c->p8 X.K H p x->p8 X.K H q y->j6 x u->j6 y w->X4 A s u w c:=by
 intro n
 induction n with
 |zero=>
  intro A p q x y u w c hu hp hq hc rp rq rx ry
  unfold ltv at hc
  split at hc
  ·cases hc;cases rp;cases rq
   obtain⟨tx,rfl⟩:=rx
   obtain⟨ty,rfl⟩:=ry
   exact .ints _ _ _ _
  ·cases hc;cases rp;cases rq
   obtain⟨tx,rfl⟩:=rx
   obtain⟨ty,rfl⟩:=ry
   exact .strs _ _ _ _
  ·simp [l4] at hp
  ·cases hc
 |succ n ih=>
  intro A p q x y u w c hu hp hq hc rp rq rx ry
  have hu0:A.units<cLine:=by lia
  have hu1:A.in1.units+n<cLine:=by rw [a1M];lia
  unfold ltv at hc
  split at hc
  ·cases hc;cases rp;cases rq
   obtain⟨tx,rfl⟩:=rx
   obtain⟨ty,rfl⟩:=ry
   exact .ints _ _ _ _
  ·cases hc;cases rp;cases rq
   obtain⟨tx,rfl⟩:=rx
   obtain⟨ty,rfl⟩:=ry
   exact .strs _ _ _ _
  ·rename_i ps qs
   obtain⟨a,xs,rfl,hs,r⟩:=rp
   cases rx
   obtain⟨its,rv,pl,hz⟩:=I.tuple hs.sq
   have okp:C6 ps n=true:=by simpa [l4] using hp
   obtain⟨b,ys,rfl,hs',r'⟩:=rq
   cases ry
   obtain⟨its2,rv',pl',hz'⟩:=I.tuple hs'.sq
   have okq:C6 qs n=true:=by simpa [l4] using hq
   have hle:its.toArray.size=ps.length:=by rw [<-r.length,rv.length];simp
   have hle':its2.toArray.size=qs.length:=by rw [<-r'.length,rv'.length];simp
   have he:=a3Q (A:=A.in1) (s:=s) r r' rv rv' fun p q x y u w hp' hq' rp' rq' rx' ry'=>a6I I n A.in1 p q x y u w hu1 (v9 okp hp') (v9 okq hq') rp' rq' rx' ry'
   refine .tuples pl pl' hu0 he (fun j h1 h2 hk hj=> ?_) fun hk=> ?_
   ·have h1':j<its.length:=by simpa using h1
    have h2':j<its2.length:=by simpa using h2
    obtain⟨x,ex,rx⟩:=a1B rv h1'
    obtain⟨y,ey,ry⟩:=a1B rv' h2'
    obtain⟨p,ep,hp⟩:=r.getV ex
    obtain⟨q,eq,hq⟩:=r'.getV ey
    have:=ih A.in1 p q x y _ _ c hu1 (v9 okp (Av ep)) (v9 okq (Av eq)) (a7G hc j p q ep eq hk hj) hp hq rx ry
    simpa using this
   ·rw [hle,hle']
    exact a5X hc fun k hk'=>hk k (by rw [hle,hle'];exact hk')
  ·cases hc
end
section
variable {X:Cx}
end
section
variable {prog:AI}{w:AG}{A:AJ}{R:Result->AC->Prop}{I:AB}{fp wr:List AB}{n:Nat}{P:Nat->AA->Prop}{St:Nat->Heap->Prop}
def Kpt(h₀ h:Heap):Prop:=∀b o,h₀.get? b=some o->h.get? b=some o
theorem a8E(s₀:AC)(h₀:Heap)(W:Walks prog w A.in1 I fp wr n P St)(bt:Nat->Nat->Bool)(hwr:∀b∈wr,h₀.get? b=none)
 (hcmp:∀h tk,Kpt h₀ h->∀i j vi vj,P i vi->P j vj->X4 A.in1 {s₀ with heap:=h,toks:=tk} vi vj (bt i j)) (S:AB) (hSf:S∉fp) (hS0:h₀.get? S=none):
 ∀(k j:Nat) (h:Heap) (tk:Tok) (vb:AA) (c:Nat),n - (j+1)=k->j+1<=n->Kpt h₀ h->St (j+1) h->P (argBest bt j) vb->
  h.get? S=some {cls:= .type "list",dict:=none,data:= .seq #[vb,vb] c,slots:= #[]}->(∀v h' tk',P (argBest bt (n - 1)) v->Kpt h₀ h'->R (.ok (.ret v)) {s₀ with heap:=h',toks:=tk'})->
  codeAny (model prog w) A (.builtin "min.loop" ⟨[.ref I,.none,.ref S],[]⟩) R {s₀ with heap:=h,toks:=tk}:=by
 have hSw:S∉wr:=fun z=>hSf (W.sub _ z)
 have nm:(toString "min"++toString ".loop":String)="min.loop":=by decide
 have kp:∀{h h':Heap},Kpt h₀ h->(∀b o,b∉wr->h.get? b=some o->h'.get? b=some o)->Kpt h₀ h':=fun a b' b o e=>b' b o (fun z=>by rw [hwr b z] at e;cases e) (a b o e)
 have ku:∀{h:Heap} {f:Obj->Obj},Kpt h₀ h->Kpt h₀ (h.update S f):=fun a b o e=>(Heap.get?_update_other _ _ (fun z:S=b=>by rw [<-z,hS0] at e;cases e)).trans (a b o e)
 intro k
 induction k with
 |zero=>
  intro j h tk vb c hk hj hK hst hPb hS hR
  have hin:j+1=n:=by lia
  refine codeAny_builtin PySem.F.entry_min_loop ?_
  rw [Around.under_plainId PySem.F.plain_min_loop _]
  show AH _ A.in1 (seqItems? (.ref S)>>=_) _ _ {s₀ with heap:=h,toks:=tk}
  refine AL (wpAny_seqItems hS rfl ?_)
  show AH _ A.in1 (tryCatch (pyNext (.ref I)) _>>=_) _ _ {s₀ with heap:=h,toks:=tk}
  refine AL (wpAny_tryCatch (W.done {s₀ with heap:=h,toks:=tk} _ _ (hin▸hst) fun h' tk' hk'=> ?_))
  have hS':=hk' S _ hSw hS
  show AH _ A.in1 (updateSeq S (fun _=> #[])>>=_) _ _ {s₀ with heap:=h',toks:=tk'}
  refine AL (wpAny_updateSeq hS' rfl (AL (wpAny_letGo (AR ?_))))
  exact hR vb _ tk' (by rw [<-hin];exact hPb) (ku (kp hK hk'))
 |succ k ih=>
  intro j h tk vb c hk hj hK hst hPb hS hR
  have hlt:j+1<n:=by lia
  refine codeAny_builtin PySem.F.entry_min_loop ?_
  rw [Around.under_plainId PySem.F.plain_min_loop _]
  show AH _ A.in1 (seqItems? (.ref S)>>=_) _ _ {s₀ with heap:=h,toks:=tk}
  refine AL (wpAny_seqItems hS rfl ?_)
  show AH _ A.in1 (tryCatch (pyNext (.ref I)) _>>=_) _ _ {s₀ with heap:=h,toks:=tk}
  refine AL (wpAny_tryCatch (W.item (j+1) {s₀ with heap:=h,toks:=tk} _ _ hlt hst fun v h' tk' hP hst' hk'=> ?_))
  have hS':=hk' S _ hSw hS
  have hK':=kp hK hk'
  show AH _ A.in1 (tryCatch (holding [v,v] (richCompare .Lt v vb>>=_)) _>>=_) _ _ {s₀ with heap:=h',toks:=tk'}
  refine AL (wpAny_tryCatch (wpAny_holding (AL (hcmp h' tk' hK' (j+1) (argBest bt j) v vb hP hPb prog w _ _ ?_))))
  refine AL (wpAny_holding (wpAny_truthy_bool (AL (wpAny_letGo (AR ?_)))))
  cases hb:bt (j+1) (argBest bt j) with
  |true=>
   simp only [if_true]
   refine AL (wpAny_updateSeq hS' rfl (AL (wpAny_letGo ?_)))
   rw [nm]
   refine AR ⟨plainId_quiet PySem.F.plain_min_loop _,ih (j+1) _ tk' v _ (by lia) hlt (ku hK') (W.frame _ _ _ hst' fun b hbf o e=> ?_) (by simp only [argBest,hb,if_true];exact hP) (Heap.get?_update_self _ hS' rfl) hR⟩
   exact(Heap.get?_update_other _ _ (fun z:S=b=>hSf (by rw [z];exact hbf))).trans e
  |false=>
   simp only [BG,if_false]
   refine AL (wpAny_letGo ?_)
   rw [nm]
   exact AR ⟨plainId_quiet PySem.F.plain_min_loop _,ih (j+1) _ tk' vb c (by lia) hlt hK' hst' (by simp only [argBest,hb,BG,if_false];exact hPb) hS' hR⟩
theorem a6X(s₀:AC)(h₀:Heap)(W:Walks prog w A.in1 I fp wr n P St)(bt:Nat->Nat->Bool)(hwr:∀b∈wr,h₀.get? b=none)
 (hcmp:∀h tk,Kpt h₀ h->∀i j vi vj,P i vi->P j vj->X4 A.in1 {s₀ with heap:=h,toks:=tk} vi vj (bt i j)) (S:AB) (hSf:S∉fp) (hS0:h₀.get? S=none) (hn:0<n)
 {h:Heap} {tk:Tok} {c:Nat} (hK:Kpt h₀ h) (hst:St 0 h) (hS:h.get? S=some {cls:= .type "list",dict:=none,data:= .seq #[] c,slots:= #[]})
 (hR:∀v h' tk',P (argBest bt (n - 1)) v->Kpt h₀ h'->R (.ok (.ret v)) {s₀ with heap:=h',toks:=tk'}):codeAny (model prog w) A (.builtin "min.loop" ⟨[.ref I,.none,.ref S],[]⟩) R {s₀ with heap:=h,toks:=tk}:=by
 have hSw:S∉wr:=fun z=>hSf (W.sub _ z)
 have nm:(toString "min"++toString ".loop":String)="min.loop":=by decide
 refine codeAny_builtin PySem.F.entry_min_loop ?_
 rw [Around.under_plainId PySem.F.plain_min_loop _]
 show AH _ A.in1 (seqItems? (.ref S)>>=_) _ _ {s₀ with heap:=h,toks:=tk}
 refine AL (wpAny_seqItems hS rfl ?_)
 show AH _ A.in1 (tryCatch (pyNext (.ref I)) _>>=_) _ _ {s₀ with heap:=h,toks:=tk}
 refine AL (wpAny_tryCatch (W.item 0 {s₀ with heap:=h,toks:=tk} _ _ hn hst fun v h' tk' hP hst' hk'=> ?_))
 have hS':=hk' S _ hSw hS
 have hK':Kpt h₀ h':=fun b o e=>hk' b o (fun z=>by rw [hwr b z] at e;cases e) (hK b o e)
 show AH _ A.in1 (updateSeq S (fun _=> #[v,v])>>=_) _ _ {s₀ with heap:=h',toks:=tk'}
 refine AL (wpAny_updateSeq hS' rfl ?_)
 rw [nm]
 refine AR ⟨plainId_quiet PySem.F.plain_min_loop _,a8E s₀ h₀ W bt hwr hcmp S hSf hS0 _ 0 _ tk' v _ rfl hn (fun b o e=>(Heap.get?_update_other _ _ (fun z:S=b=>by rw [<-z,hS0] at e;cases e)).trans (hK' b o e)) (W.frame _ _ _ hst' fun b hbf o e=> ?_) hP (Heap.get?_update_self _ hS' rfl) hR⟩
 exact(Heap.get?_update_other _ _ (fun z:S=b=>hSf (by rw [z];exact hbf))).trans e
end
section
variable {prog:AI}{w:AG}{A:AJ}{E:AA->AC->Prop}{s:AC}
theorem a8D{l:AB}{vs:Array AA}{Q:AA->AC->Prop}(hh:A.handled=none)(hl:s.heap.IsList l vs)(hn:0<vs.size)(bt:Nat->Nat->Bool)
 (hcmp:∀h tk,Kpt s.heap h->∀(i j:Nat) (vi vj:AA),vs[i]?=some vi->vs[j]?=some vj->X4 A.in1 {s with heap:=h,toks:=tk} vi vj (bt i j))
 (h:∀v h' tk,vs[argBest bt (vs.size - 1)]?=some v->Kpt s.heap h'->Q v {s with heap:=h',toks:=tk}):AH (model prog w) A (call (.builtin "min") [.ref l]) Q E s:=by
 have nm:(toString "min"++toString ".loop":String)="min.loop":=by decide
 have hlt:l<s.heap.objs.size:=by obtain⟨_,e,_⟩:=hl;exact AT e
 refine call_function_tree PySem.F.kind_min PySem.F.plain_min PySem.F.entry_min (PySem.F.args_min1 _) ?_
 show AH _ A.in1 (Builtin.Builtins.bindParams "min" ["key","default"] 0 ⟨[],[]⟩>>=_) _ _ s
 refine AL (wpAny_of_eq (show Builtin.Builtins.bindParams "min" ["key","default"] 0 ⟨[],[]⟩=pure [none,none] from rfl) (AL (AR ?_)))
 refine AL (wpAny_pyIter_list hl ?_)
 refine AL (wpAny_newObj_type ?_)
 rw [nm]
 have no:∀b,s.heap.objs.size<=b->s.heap.get? b=none:=fun b hb=>by
  cases q:s.heap.get? b with
  |none=>rfl
  |some o=>exact absurd (An (AT q) hb) (Nat.lt_irrefl _)
 have sz:∀o,(s.heap.push o).objs.size=s.heap.objs.size+1:=fun o=>Heap.size_push _ _
 refine AR ⟨plainId_quiet PySem.F.plain_min_loop _,a6X s s.heap (Walks.list (A:=A.in1) hh s.heap.objs.size l (Al hlt) vs) bt (fun b hb=>no b (by rw [List.mem_singleton.mp hb];exact AM _)) hcmp _ (fun z=> ?_) (no _ (by show _<=(s.heap.push _).objs.size;rw [sz];lia)) hn (fun b o e=>Ag _ (Ag _ e))
  ⟨⟨_,Ag _ (Ao _ rfl),rfl,rfl⟩,(hl.push _).push _⟩ (Ao _ rfl) fun v h' tk' hP hK=>h v h' tk' hP hK⟩
 have z':(s.heap.push {cls:= .type "list_iterator",data:= .fields #[.ref l,.int 0 0]}).objs.size∈[s.heap.objs.size,l]:=z
 rw [sz] at z'
 simp only [Ap,List.not_mem_nil,or_false] at z'
 rcases z' with z'|z'
 ·exact Nat.succ_ne_self _ z'
 ·rw [<-z'] at hlt
  exact absurd hlt (Nat.not_lt.mpr (Nat.le_succ _))
end
def btV(ps:List PV)(i j:Nat):Bool:=match ps[i]?,ps[j]? with
 |some p,some q=>(ltv p q).getD false
 |_,_=>false
def a5P(x:b9):Option b9:=match x.rd with
 | .list ps=>if C6 ps 50=true/\0<ps.length/\(ps.all fun p=>ps.all fun q=>(ltv p q).isSome)=true then(ps[argBest (btV ps) (ps.length - 1)]?).map .val else none
 |_=>none
section
variable {X:Cx}
theorem b01(hu:X.A.units+64<cLine)(hc:X.calm=true):C5 X (.builtin "min") (rC1 X.K a5P):=by
 intro pins s σ H xs us Q I rv h
 obtain⟨F,x,rx,rz,rfl,s0,h1,h2,k⟩:=h
 have hh:X.A.handled=none:=I.ok.hd hc
 unfold a5P at h2
 split at h2
 ·rename_i ps e
  split at h2
  ·rename_i c
   obtain⟨c1,c2,c3⟩:=c
   cases hq:ps[argBest (btV ps) (ps.length - 1)]? with
   |none=>rw [hq] at h2;cases h2
   |some p=>
    rw [hq] at h2;cases h2
    have rr:=h1.rd s0
    rw [e] at rr
    obtain⟨a,xs,rfl,hs,r⟩:=rr
    obtain⟨u,rfl,ru⟩:=a3R rv
    cases ru
    obtain⟨its,rvv,pl,hz⟩:=I.list hs
    obtain⟨a',xs',ea,hs',rF⟩:=K3 s0 h1 (show PyData.items? rx.rd=some ps by rw [e];rfl)
    cases ea
    have ex':xs=xs':=by
     rcases hs' with hs'|hs'
     ·exact I.list_inj hs hs'
     ·exfalso
      obtain⟨_,_,⟨o',ho',hc',_⟩,_⟩:=I.tuple hs'
      obtain⟨o,ho,hc,_⟩:=pl.isList
      rw [ho] at ho';cases ho'
      rw [hc] at hc'
      exact absurd hc' (by decide)
    subst ex'
    have hle:its.length=ps.length:=by rw [<-r.length,rvv.length]
    have at_:∀(i:Nat) (vi:AA),its.toArray[i]?=some vi->∃(p:PV) (x:V),ps[i]?=some p/\p8 X.K H p x/\j6 x vi/\p8 X.K F p x:=fun i vi hi=>by
     have hi':its[i]?=some vi:=by simpa using hi
     obtain⟨hlt,e1⟩:=Ar.mp hi'
     obtain⟨x,ex,rx⟩:=a1B rvv hlt
     obtain⟨p,ep,hp⟩:=r.getV ex
     obtain⟨p',ep',hp'⟩:=rF.getV ex
     rw [ep] at ep';cases ep'
     rw [e1] at rx
     exact⟨p,x,ep,hp,rx,hp'⟩
    refine a8D hh pl.isList (by simp;lia) (btV ps) (fun h tk hK i j vi vj hi hj=> ?_) fun v h' tk hv hK=> ?_
    ·obtain⟨p,x,ep,hp,rx,_⟩:=at_ i vi hi
     obtain⟨q,y,eq,hq,ry,_⟩:=at_ j vj hj
     have h3:=List.all_eq_true.mp (List.all_eq_true.mp c3 p (Av ep)) q (Av eq)
     obtain⟨b,hb⟩:=Option.isSome_iff_exists.mp h3
     have:btV ps i j=b:=by simp [btV,ep,eq,hb]
     rw [this]
     exact b28 (I.kept (t':=tk) hK) 50 X.A.in1 p q x y _ _ b (by rw [a1M];lia) (v9 c1 (Av ep)) (v9 c1 (Av eq)) hb hp hq rx ry
    ·obtain⟨q,y,eq,_,ry,hq'⟩:=at_ _ v hv
     have:its.toArray.size=ps.length:=by simp [hle]
     rw [this,hq] at eq
     cases eq
     exact⟨y,H,I.kept (t':=tk) hK,ry,k _ F H (o9.here s0 hq')⟩
  ·cases h2
 ·cases h2
end
end PU
namespace TS
open PySem PyProof.Rows
abbrev SM(α:Type):=StateT SortSt Sem α
def g(a:Array Keyed)(i:Nat):Keyed:=(a[i]?).getD (Value.none,Value.none)
theorem b2Y{a:Array Keyed}{i:Nat}(h:i<a.size):a[i]?=some (g a i):=by
 unfold g;rw [getElem?_pos a i h];rfl
theorem a6P{a:Array Keyed}{i:Nat}(h:i<a.size):a.toList[i]?=some (g a i):=by
 rw [Array.getElem?_toList];exact b2Y h
section
variable {prog:AI}{w:AG}{A:AJ}{E:AA->AC->Prop}{s:AC}
structure Cmp(prog:AI)(w:AG)(A:AJ)(E:AA->AC->Prop)(s:AC)(κ:SortKind)(S:Keyed->Prop)(R:Keyed->Keyed->Bool):Prop where
 lt:∀x y,S x->S y->∀(st:SortSt) (Q:Option Bool->SortSt->Prop),kindOf st=κ->Q (some (R x y)) st->wpS (model prog w) A E s (lt' x y) Q st
 tr:∀x y z,S x->S y->S z->R y x=false->R z y=false->R z x=false
 as:∀x y,S x->S y->R x y=true->R y x=false
variable {κ:SortKind}{S:Keyed->Prop}{R:Keyed->Keyed->Bool}
end
def Seg(R:Keyed->Keyed->Bool)(a:Array Keyed)(lo hi:Nat):Prop:=∀i j,lo<=i->i<=j->j<hi->R (g a j) (g a i)=false
def Fix(lo:Nat)(a b:Array Keyed):Prop:=∀i,i<lo->g b i=g a i
theorem Fix.refl{lo:Nat}{a:Array Keyed}:Fix lo a a:=fun _ _=>rfl
theorem Fix.trans{lo:Nat}{a b c:Array Keyed}(h:Fix lo a b)(k:Fix lo b c):Fix lo a c:=fun i hi=>(k i hi).trans (h i hi)
structure B(κ:SortKind)(a₀:Array Keyed)(st:SortSt):Prop where
 perm:(arrOf st).Perm a₀
 kind:kindOf st=κ
 failed:failedOf st=none
section
variable {prog:AI}{w:AG}{A:AJ}{E:AA->AC->Prop}{s:AC}
variable {κ:SortKind}{S:Keyed->Prop}{R:Keyed->Keyed->Bool}{a₀:Array Keyed}
theorem B.size{st:SortSt}(h:B κ a₀ st):(arrOf st).size=a₀.size:=h.perm.size_eq
theorem B.set{st:SortSt}(h:B κ a₀ st){xs:Array Keyed}(hp:xs.Perm (arrOf st)):B κ a₀ (setArr st xs):=⟨hp.trans h.perm,h.kind,h.failed⟩
def up(lo a nrem:Nat):SM (Option (Option Nat)×Nat):=
 forIn [a:nrem] ((none,a):Option (Option Nat)×Nat) fun _ c=>do
  let t<-ltAt' (lo+c.2) (lo+c.2 - 1)
  match t with
  |some b=>if b=true then pure (.done (none,c.2)) else pure (.yield (none,c.2+1))
  |_=>pure (.done (some none,c.2))
end
def le(R:Keyed->Keyed->Bool)(x y:Keyed):Prop:=R y x=false
def Mg(R:Keyed->Keyed->Bool)(W out la lb:List Keyed):Prop:=(out++la).Pairwise (le R)/\(out++lb).Pairwise (le R)/\(out++(la++lb)).Perm W
section
variable {R:Keyed->Keyed->Bool}{W out la lb xs:List Keyed}
theorem Mg.takeA(h:Mg R W out (xs++la) lb)(k:∀x∈xs,∀y∈lb,le R x y):Mg R W (out++xs) la lb:=by
 obtain⟨h1,h2,h3⟩:=h
 have e1:=List.pairwise_append.mp (show((out++xs)++la).Pairwise (le R) by rw [List.append_assoc];exact h1)
 have e2:=List.pairwise_append.mp h2
 refine⟨by rw [List.append_assoc];exact h1,List.pairwise_append.mpr ⟨e1.1,e2.2.1,fun x hx y hy=> ?_⟩,by rw [List.append_assoc,<-List.append_assoc xs];exact h3⟩
 rcases As.mp hx with hx|hx
 ·exact e2.2.2 x hx y hy
 ·exact k x hx y hy
theorem Mg.swap(h:Mg R W out la lb):Mg R W out lb la:=⟨h.2.1,h.1,(List.Perm.append_left out List.perm_append_comm).trans h.2.2⟩
theorem Mg.takeB(h:Mg R W out la (xs++lb))(k:∀x∈xs,∀y∈la,le R x y):Mg R W (out++xs) la lb:=(h.swap.takeA k).swap
def a0G(R:Keyed->Keyed->Bool)(W r:List Keyed):Prop:=r.Pairwise (le R)/\r.Perm W
theorem Mg.doneB(h:Mg R W out la []):a0G R W (out++la):=⟨h.1,by have:=h.2.2;rwa [Ab] at this⟩
theorem Mg.doneA(h:Mg R W out [] lb):a0G R W (out++lb):=⟨h.2.1,h.2.2⟩
theorem Mg.last{x:Keyed}(h:Mg R W out [x] lb)(k:∀y∈lb,le R y x):a0G R W ((out++lb)++[x]):=by
 obtain⟨h1,h2,h3⟩:=h
 have e1:=List.pairwise_append.mp h1
 refine⟨List.pairwise_append.mpr ⟨h2,e1.2.1,fun y hy z hz=> ?_⟩, ?_⟩
 ·cases List.mem_singleton.mp hz
  rcases As.mp hy with hy|hy
  ·exact e1.2.2 y hy x (List.mem_singleton.mpr rfl)
  ·exact k y hy
 ·rw [List.append_assoc]
  exact(List.Perm.append_left out List.perm_append_comm).trans h3
end
theorem a0i{a:Array Keyed}{i:Nat}(h:i<a.size):a.toList.drop i=g a i::a.toList.drop (i+1):=by
 have h':i<a.toList.length:=h
 rw [List.drop_eq_getElem_cons h']
 congr 1
 have:=a6P h
 rw [BA h'] at this
 exact Option.some.inj this
theorem a3o{a:Array Keyed}{i:Nat}{x:Keyed}(h:x∈a.toList.drop i):∃j,i<=j/\j<a.size/\x=g a j:=by
 obtain⟨k,hk,e⟩:=List.mem_iff_getElem.mp h
 have hk':i+k<a.size:=by rw [List.length_drop] at hk;have:a.toList.length=a.size:=rfl;lia
 refine⟨i+k,by lia,hk', ?_⟩
 have e2:=a6P hk'
 rw [List.getElem_drop] at e
 rw [BA (show i+k<a.toList.length from hk')] at e2
 exact e.symm.trans (Option.some.inj e2)
theorem Z2{a:Array Keyed}{i k:Nat}{x:Keyed}(h:x∈(a.toList.drop i).take k)(hk:i+k<=a.size):∃j,j<k/\x=g a (i+j):=by
 obtain⟨q,hq,e⟩:=List.mem_iff_getElem.mp h
 rw [List.length_take,List.length_drop] at hq
 rw [List.getElem_take,List.getElem_drop] at e
 refine⟨q,by lia, ?_⟩
 have hk':i+q<a.size:=by lia
 have e2:=a6P hk'
 rw [BA (show i+q<a.toList.length from hk')] at e2
 exact e.symm.trans (Option.some.inj e2)
theorem G0(a:Array Keyed)(i j:Nat):(a.extract i j).toList=(a.toList.drop i).take (j - i):=by
 rw [Array.toList_extract,List.extract_eq_take_drop]
theorem a2D{a:Array Keyed}{i:Nat}:(a.extract i a.size).toList=a.toList.drop i:=by
 rw [G0,List.take_of_length_le]
 rw [List.length_drop];exact AM _
section
variable {prog:AI}{w:AG}{A:AJ}{E:AA->AC->Prop}{s:AC}
variable {κ:SortKind}{S:Keyed->Prop}{R:Keyed->Keyed->Bool}
structure Sm(st st':SortSt):Prop where
 k:kindOf st'=kindOf st
 a:arrOf st'=arrOf st
 p:pendingOf st'=pendingOf st
 f:failedOf st'=failedOf st
theorem Sm.refl{st:SortSt}:Sm st st:=⟨rfl,rfl,rfl,rfl⟩
def rs(a b o:Array Keyed)(i j:Nat):Array Keyed:=o++a.extract i a.size++b.extract j b.size
def D(R:Keyed->Keyed->Bool)(a b o:Array Keyed)(i j:Nat):Prop:=Mg R (a.toList++b.toList) o.toList (a.toList.drop i) (b.toList.drop j)
structure Two(S:Keyed->Prop)(R:Keyed->Keyed->Bool)(a b:Array Keyed):Prop where
 Sa:∀i,i<a.size->S (g a i)
 Sb:∀i,i<b.size->S (g b i)
 sa:Seg R a 0 a.size
 sb:Seg R b 0 b.size
 pa:0<a.size
 pb:0<b.size
 lo:∀i,i<a.size->le R (g b 0) (g a i)
 hi:∀j,j<b.size->le R (g b j) (g a (a.size - 1))
theorem D.takeAk(C:Cmp prog w A E s κ S R){a b o:Array Keyed}{i j k:Nat}(T:Two S R a b)(h:D R a b o i j)(hk:i+k<=a.size)(hj:j<b.size)(q:∀l,l<k->le R (g a (i+l)) (g b j)):
 D R a b (o++a.extract i (i+k)) (i+k) j:=by
 unfold D at h ⊢
 rw [Array.toList_append,G0,show i+k - i=k by lia]
 refine Mg.takeA (by rw [<-List.drop_drop,List.take_append_drop];exact h) fun x hx y hy=> ?_
 obtain⟨l,hl,rfl⟩:=Z2 hx hk
 obtain⟨m,hm,hm2,rfl⟩:=a3o hy
 exact C.tr _ (g b j) _ (T.Sa _ (by lia)) (T.Sb _ hj) (T.Sb _ hm2) (q l hl) (T.sb j m (by lia) hm hm2)
theorem D.takeBk(C:Cmp prog w A E s κ S R){a b o:Array Keyed}{i j k:Nat}(T:Two S R a b)(h:D R a b o i j)(hk:j+k<=b.size)(hi:i<a.size)(q:∀l,l<k->le R (g b (j+l)) (g a i)):
 D R a b (o++b.extract j (j+k)) i (j+k):=by
 unfold D at h ⊢
 rw [Array.toList_append,G0,show j+k - j=k by lia]
 refine Mg.takeB (by rw [<-List.drop_drop,List.take_append_drop];exact h) fun x hx y hy=> ?_
 obtain⟨l,hl,rfl⟩:=Z2 hx hk
 obtain⟨m,hm,hm2,rfl⟩:=a3o hy
 exact C.tr _ (g a i) _ (T.Sb _ (by lia)) (T.Sa _ hi) (T.Sa _ hm2) (q l hl) (T.sa i m (by lia) hm hm2)
theorem a3A{o a:Array Keyed}{i:Nat}(h:i<a.size):o.push (g a i)=o++a.extract i (i+1):=by
 apply Array.toList_inj.mp
 rw [Array.toList_push,Array.toList_append,G0,a0i h,show i+1 - i=1 by lia]
 rfl
theorem D.takeA(C:Cmp prog w A E s κ S R){a b o:Array Keyed}{i j:Nat}(T:Two S R a b)(h:D R a b o i j)(hi:i<a.size)(hj:j<b.size)(q:le R (g a i) (g b j)):D R a b (o.push (g a i)) (i+1) j:=by
 rw [a3A hi]
 exact h.takeAk C T (by lia) hj fun l hl=>by rw [show i+l=i by lia];exact q
theorem D.takeB(C:Cmp prog w A E s κ S R){a b o:Array Keyed}{i j:Nat}(T:Two S R a b)(h:D R a b o i j)(hi:i<a.size)(hj:j<b.size)(q:le R (g b j) (g a i)):D R a b (o.push (g b j)) i (j+1):=by
 rw [a3A hj]
 exact h.takeBk C T (by lia) hi fun l hl=>by rw [show j+l=j by lia];exact q
theorem D.done{a b o:Array Keyed}{i j:Nat}(h:D R a b o i j)(e:i=a.size\/j=b.size):a0G R (a.toList++b.toList) (rs a b o i j).toList:=by
 unfold rs
 rw [Array.toList_append,Array.toList_append,a2D,a2D]
 unfold D at h
 have nil:∀c:Array Keyed,c.toList.drop c.size=[]:=fun c=>List.drop_eq_nil_of_le (AM _)
 rcases e with rfl|rfl
 ·rw [nil] at h ⊢;rw [Ab];exact h.doneA
 ·rw [nil] at h ⊢;rw [Ab];exact h.doneB
theorem D.last{a b o:Array Keyed}{i j:Nat}(T:Two S R a b)(h:D R a b o i j)(e:i+1=a.size):a0G R (a.toList++b.toList) (rs b a o j i).toList:=by
 unfold rs
 rw [Array.toList_append,Array.toList_append,a2D,a2D]
 unfold D at h
 have e1:a.toList.drop i=[g a (a.size - 1)]:=by
  rw [a0i (by lia),e,show i=a.size - 1 by lia]
  congr 1
  exact List.drop_eq_nil_of_le (AM _)
 rw [e1] at h ⊢
 exact h.last fun y hy=>by
  obtain⟨m,hm,hm2,rfl⟩:=a3o hy
  exact T.hi m hm2
section
variable {a b o:Array Keyed}{st st':SortSt}{i j mg u v x₀ x:Nat}
end
section
variable {a b:Array Keyed}{st st':SortSt}{x₀ x mg:Nat}
end
end
def Mh(R:Keyed->Keyed->Bool)(W out la lb:List Keyed):Prop:=(la++out).Pairwise (le R)/\(lb++out).Pairwise (le R)/\((la++lb)++out).Perm W
section
variable {R:Keyed->Keyed->Bool}{W out la lb xs:List Keyed}
theorem Mh.swap(h:Mh R W out la lb):Mh R W out lb la:=⟨h.2.1,h.1,(List.Perm.append_right out List.perm_append_comm).trans h.2.2⟩
theorem Mh.takeA(h:Mh R W out (la++xs) lb)(k:∀x∈xs,∀y∈lb,le R y x):Mh R W (xs++out) la lb:=by
 obtain⟨h1,h2,h3⟩:=h
 have e1:=List.pairwise_append.mp (show(la++(xs++out)).Pairwise (le R) by rw [<-List.append_assoc];exact h1)
 have e2:=List.pairwise_append.mp h2
 refine⟨by rw [<-List.append_assoc];exact h1,List.pairwise_append.mpr ⟨e2.1,e1.2.1,fun y hy x hx=> ?_⟩, ?_⟩
 ·rcases As.mp hx with hx|hx
  ·exact k x hx y hy
  ·exact e2.2.2 y hy x hx
 ·refine List.Perm.trans ?_ h3
  rw [<-List.append_assoc]
  refine List.Perm.append_right out ?_
  rw [List.append_assoc,List.append_assoc]
  exact List.Perm.append_left la List.perm_append_comm
theorem Mh.takeB(h:Mh R W out la (lb++xs))(k:∀x∈xs,∀y∈la,le R y x):Mh R W (xs++out) la lb:=(h.swap.takeA k).swap
theorem Mh.doneB(h:Mh R W out la []):a0G R W (la++out):=⟨h.1,by have:=h.2.2;rwa [Ab] at this⟩
theorem Mh.doneA(h:Mh R W out [] lb):a0G R W (lb++out):=⟨h.2.1,h.2.2⟩
theorem Mh.first{x:Keyed}(h:Mh R W out la [x])(k:∀y∈la,le R x y):a0G R W ([x]++(la++out)):=by
 obtain⟨h1,h2,h3⟩:=h
 have e2:=List.pairwise_append.mp h2
 refine⟨List.pairwise_append.mpr ⟨e2.1,h1,fun y hy z hz=> ?_⟩, ?_⟩
 ·cases List.mem_singleton.mp hy
  rcases As.mp hz with hz|hz
  ·exact k z hz
  ·exact e2.2.2 x (List.mem_singleton.mpr rfl) z hz
 ·rw [<-List.append_assoc]
  exact(List.Perm.append_right out List.perm_append_comm).trans h3
end
theorem a3p{a:Array Keyed}{n:Nat}{x:Keyed}(hn:n<=a.size)(h:x∈a.toList.take n):∃j,j<n/\x=g a j:=by
 obtain⟨j,hj,e⟩:=Z2 (i:=0) (k:=n) (a:=a) (x:=x) (by rwa [List.drop_zero]) (by lia)
 exact⟨j,hj,by rwa [Nat.zero_add] at e⟩
theorem a3N{a:Array Keyed}{m n:Nat}(h:m<=n):a.toList.take n=a.toList.take m++(a.extract m n).toList:=by
 rw [G0,<-List.take_add,show m+(n - m)=n by lia]
theorem a09(a:Array Keyed)(n:Nat):(a.extract 0 n).toList=a.toList.take n:=by
 rw [G0,List.drop_zero,Nat.sub_zero]
section
variable {prog:AI}{w:AG}{A:AJ}{E:AA->AC->Prop}{s:AC}
variable {κ:SortKind}{S:Keyed->Prop}{R:Keyed->Keyed->Bool}
def rh(a b o:Array Keyed)(i j:Nat):Array Keyed:=a.extract 0 i++b.extract 0 j++o.reverse
def H(R:Keyed->Keyed->Bool)(a b o:Array Keyed)(i j:Nat):Prop:=Mh R (a.toList++b.toList) o.toList.reverse (a.toList.take i) (b.toList.take j)
theorem H.takeAk(C:Cmp prog w A E s κ S R){a b o:Array Keyed}{i j m:Nat}(T:Two S R a b)(h:H R a b o i j)(hi:i<=a.size)(hm:m<=i)(hj:j<=b.size)(h0:0<j)(q:∀l,m<=l->l<i->le R (g b (j - 1)) (g a l)):
 H R a b (o++(a.extract m i).reverse) m j:=by
 unfold H at h ⊢
 rw [a3N hm] at h
 rw [Array.toList_append,Array.toList_reverse,List.reverse_append,List.reverse_reverse]
 refine Mh.takeA h fun x hx y hy=> ?_
 rw [G0] at hx
 obtain⟨l,hl,rfl⟩:=Z2 hx (by lia)
 obtain⟨k,hk,rfl⟩:=a3p hj hy
 exact C.tr _ (g b (j - 1)) _ (T.Sb _ (by lia)) (T.Sb _ (by lia)) (T.Sa _ (by lia)) (T.sb k (j - 1) (by lia) (by lia) (by lia)) (q _ (by lia) (by lia))
theorem H.takeBk(C:Cmp prog w A E s κ S R){a b o:Array Keyed}{i j m:Nat}(T:Two S R a b)(h:H R a b o i j)(hj:j<=b.size)(hm:m<=j)(hi:i<=a.size)(h0:0<i)(q:∀l,m<=l->l<j->le R (g a (i - 1)) (g b l)):
 H R a b (o++(b.extract m j).reverse) i m:=by
 unfold H at h ⊢
 rw [a3N hm] at h
 rw [Array.toList_append,Array.toList_reverse,List.reverse_append,List.reverse_reverse]
 refine Mh.takeB h fun x hx y hy=> ?_
 rw [G0] at hx
 obtain⟨l,hl,rfl⟩:=Z2 hx (by lia)
 obtain⟨k,hk,rfl⟩:=a3p hi hy
 exact C.tr _ (g a (i - 1)) _ (T.Sa _ (by lia)) (T.Sa _ (by lia)) (T.Sb _ (by lia)) (T.sa k (i - 1) (by lia) (by lia) (by lia)) (q _ (by lia) (by lia))
theorem a6h{o a:Array Keyed}{i:Nat}(h:i<a.size):o.push (g a i)=o++(a.extract i (i+1)).reverse:=by
 rw [a3A h]
 congr 1
 apply Array.toList_inj.mp
 rw [Array.toList_reverse,G0,a0i h,show i+1 - i=1 by lia]
 rfl
theorem H.takeA(C:Cmp prog w A E s κ S R){a b o:Array Keyed}{i j:Nat}(T:Two S R a b)(h:H R a b o i j)(hi:i<=a.size)(hi0:0<i)(hj:j<=b.size)(h0:0<j)(q:le R (g b (j - 1)) (g a (i - 1))):H R a b (o.push (g a (i - 1))) (i - 1) j:=by
 rw [a6h (by lia),show i - 1+1=i by lia]
 exact h.takeAk C T hi (by lia) hj h0 fun l h1 h2=>by rw [show l=i - 1 by lia];exact q
theorem H.takeB(C:Cmp prog w A E s κ S R){a b o:Array Keyed}{i j:Nat}(T:Two S R a b)(h:H R a b o i j)(hj:j<=b.size)(hj0:0<j)(hi:i<=a.size)(h0:0<i)(q:le R (g a (i - 1)) (g b (j - 1))):H R a b (o.push (g b (j - 1))) i (j - 1):=by
 rw [a6h (by lia),show j - 1+1=j by lia]
 exact h.takeBk C T hj (by lia) hi h0 fun l h1 h2=>by rw [show l=j - 1 by lia];exact q
theorem H.done{a b o:Array Keyed}{i j:Nat}(h:H R a b o i j)(e:i=0\/j=0):a0G R (a.toList++b.toList) (rh a b o i j).toList:=by
 unfold rh
 rw [Array.toList_append,Array.toList_append,a09,a09,Array.toList_reverse]
 unfold H at h
 rcases e with rfl|rfl
 ·rw [List.take_zero] at h ⊢;exact h.doneA
 ·rw [List.take_zero] at h ⊢;rw [Ab];exact h.doneB
theorem H.first{a b o:Array Keyed}{i j:Nat}(T:Two S R a b)(h:H R a b o i j)(hi:i<=a.size)(e:j=1):a0G R (a.toList++b.toList) (rh b a o j i).toList:=by
 unfold rh
 rw [Array.toList_append,Array.toList_append,a09,a09,Array.toList_reverse]
 unfold H at h
 subst e
 have e1:b.toList.take 1=[g b 0]:=by
  have:=a0i (a:=b) T.pb
  rw [List.drop_zero] at this
  rw [this];rfl
 rw [e1] at h ⊢
 rw [List.append_assoc]
 exact h.first fun y hy=>by
  obtain⟨m,hm,rfl⟩:=a3p hi hy
  exact T.lo m (by lia)
section
variable {a b o:Array Keyed}{st st':SortSt}{i j mg u v x₀ x:Nat}
end
section
variable {a b:Array Keyed}{st st':SortSt}{x₀ x mg:Nat}
end
end
def sp(r:Array Keyed)(d:Nat)(a:Array Keyed):Array Keyed:=r.toList.zipIdx.foldl (fun a (p,j)=>a.setIfInBounds (d+j) p) a
section
variable {prog:AI}{w:AG}{A:AJ}{E:AA->AC->Prop}{s:AC}
variable {κ:SortKind}{S:Keyed->Prop}{R:Keyed->Keyed->Bool}{a₀:Array Keyed}
end
def Cov(R:Keyed->Keyed->Bool)(a:Array Keyed):List (Nat×Nat×Nat)->Nat->Nat->Prop
 |[],f,t=>f=t
 |(p,n,_)::r,f,t=>p=f/\1<=n/\Seg R a p (p+n)/\Cov R a r (p+n) t
section
variable {R:Keyed->Keyed->Bool}{a b:Array Keyed}
theorem Cov.le:∀{l:List (Nat×Nat×Nat)} {f t:Nat},Cov R a l f t->f+l.length<=t
 |[],f,t,h=>by have:f=t:=h;rw [Aj];lia
 |(p,n,e)::r,f,t,h=>by
  obtain⟨h1,h2,_,h4⟩:=h
  have:=h4.le
  rw [AW];lia
theorem Cov.same:∀{l:List (Nat×Nat×Nat)} {f t:Nat},Cov R a l f t->(∀j,f<=j->j<t->g b j=g a j)->Cov R b l f t
 |[],f,t,h,_=>h
 |(p,n,e)::r,f,t,h,k=>by
  obtain⟨h1,h2,h3,h4⟩:=h
  have:=h4.le
  refine⟨h1,h2,fun i j hi hij hj=> ?_,h4.same fun j h5 h6=>k j (by lia) h6⟩
  rw [k i (by lia) (by lia),k j (by lia) (by lia)]
  exact h3 i j hi hij hj
theorem Cov.split:∀{l m:List (Nat×Nat×Nat)} {f t:Nat},Cov R a (l++m) f t->∃u,Cov R a l f u/\Cov R a m u t
 |[],m,f,t,h=>⟨f,rfl,h⟩
 |(p,n,e)::r,m,f,t,h=>by
  obtain⟨h1,h2,h3,h4⟩:=h
  obtain⟨u,h5,h6⟩:=h4.split
  exact⟨u,⟨h1,h2,h3,h5⟩,h6⟩
theorem Cov.join:∀{l m:List (Nat×Nat×Nat)} {f u t:Nat},Cov R a l f u->Cov R a m u t->Cov R a (l++m) f t
 |[],m,f,u,t,h,k=>by have:f=u:=h;subst this;exact k
 |(p,n,e)::r,m,f,u,t,h,k=>⟨h.1,h.2.1,h.2.2.1,h.2.2.2.join k⟩
end
section
variable {prog:AI}{w:AG}{A:AJ}{E:AA->AC->Prop}{s:AC}
variable {κ:SortKind}{S:Keyed->Prop}{R:Keyed->Keyed->Bool}{a₀:Array Keyed}
end
open PySem PySem.Spec PyProof.Rows
section
variable {prog:AI}{w:AG}{A:AJ}{E:AA->AC->Prop}{s:AC}
variable {κ:SortKind}{S:Keyed->Prop}{R:Keyed->Keyed->Bool}
end
open PySem PySem.Spec PyProof.Rows L2 PU
section
variable {prog:AI}{w:AG}{A:AJ}{E:AA->AC->Prop}{s:AC}
variable {κ:SortKind}{S:Keyed->Prop}{R:Keyed->Keyed->Bool}
end
end TS
namespace PU
open PySem PySem.Spec PyProof.Rows L2
section
variable {α:Type}{lt:α->α->Bool}
end
def kT(k:List d5):PV:= .tuple (k.map kP)
open PySem PySem.Spec PyProof.Rows L2 PySem.W
theorem a6U:∀{a b:d5},kV a=kV b->a=b
 | .inl _,.inl _,h=>by cases h;rfl
 | .inr _,.inr _,h=>by cases h;rfl
 | .inl _,.inr _,h=>nomatch h
 | .inr _,.inl _,h=>nomatch h
theorem a2F:∀{a b:List d5},a.map kV=b.map kV->a=b
 |[],[],_=>rfl
 |[],_::_,h=>nomatch h
 |_::_,[],h=>nomatch h
 |x::a,y::b,h=>by
  rw [AQ,AQ] at h
  obtain⟨h1,h2⟩:=List.cons.inj h
  rw [a6U h1,a2F h2]
def a73(h:Heap)(u:AA)(k:List d5):Prop:=∃(a:AB) (o:Obj) (xs:Array AA) (n:Nat),u= .ref a/\h.get? a=some o/\o.cls= .type "tuple"/\o.data= .seq xs n/\g6 (k.map kV) xs.toList
theorem a73.inj{h:Heap}{u:AA}{k j:List d5}(a:a73 h u k)(b:a73 h u j):k=j:=by
 obtain⟨a1,o1,x1,n1,rfl,g1,_,d1,v1⟩:=a
 obtain⟨a2,o2,x2,n2,e2,g2,_,d2,v2⟩:=b
 cases e2
 rw [g1] at g2;cases g2
 rw [d1] at d2;cases d2
 exact a2F (v1.inj v2)
theorem a73.keep{h h':Heap}{u:AA}{k:List d5}(a:a73 h u k)(kp:∀b o,h.get? b=some o->h'.get? b=some o):a73 h' u k:=
 let ⟨a1,o1,x1,n1,e,g1,c,d1,v1⟩:=a;⟨a1,o1,x1,n1,e,kp _ _ g1,c,d1,v1⟩
section
variable {prog:AI}{w:AG}{A:AJ}{E:AA->AC->Prop}{s:AC}
end
section
variable {prog:AI}{w:AG}{A:AJ}{E:AA->AC->Prop}{s:AC}
end
section
variable {X:Cx}{pins:List (AB×Obj)}{σ:L2.St}{F H:Hp}{s:AC}
end
section
variable {X:Cx}
end
section
variable {X:Cx}
end
section
variable {X:Cx}
end
def a5s(h:Heap)(d:AB)(es:Array DictEntry)(ep:Nat):Prop:=∃o,h.get? d=some o/\o.ExactDict/\o.data= .dict es ep
section
variable {prog:AI}{w:AG}{A:AJ}{E:AA->AC->Prop}{s:AC}{it d:AB}{i ep:Nat}{es:Array DictEntry}
theorem a5s.type(h:a5s s.heap d es ep):s.TypeIs (.ref d) "dict":=let ⟨o,ho,hc,_⟩:=h;⟨o,ho,hc.1⟩
theorem a5s.at{h h':Heap}(x:a5s h d es ep)(e:∀o,h.get? d=some o->h'.get? d=some o):a5s h' d es ep:=let ⟨o,ho,r⟩:=x;⟨o,e _ ho,r⟩
end
end PU
namespace TS
open PySem PySem.Spec PyProof.Rows L2 PU
section
variable {prog:AI}{w:AG}{A:AJ}{E:AA->AC->Prop}{s:AC}
variable {κ:SortKind}{S:Keyed->Prop}{R:Keyed->Keyed->Bool}
end
end TS
namespace PU
open PySem PySem.Spec PyProof.Rows L2 PySem.W
section
variable {prog:AI}{w:AG}{A:AJ}{E:AA->AC->Prop}{s:AC}
end
section
variable {X:Cx}
end
open PySem PySem.Spec PyProof.Rows L2
section
variable {X:Cx}{pins:List (AB×Obj)}{σ:L2.St}{H:Hp}{s:AC}{a b:AB}{kvs:List (List d5×V)}{k:List d5}{v:V}{r:AA}{A:AJ}{E:AA->AC->Prop}
end
section
variable {X:Cx}
end
mutual
def nl:PV->Bool
 | .list _=>false
 | .tuple ps=>nlL ps
 | .dict ((.tuple _,_)::_)=>false
 |_=>true
def nlL:List PV->Bool
 |[]=>true
 |p::ps=>nl p && nlL ps
end
def drp(F:Hp)(a:AB):Hp:=fun b=>if b=a then none else F b
theorem C7{F:Hp}{a b:AB}(h:b≠a):drp F a b=F b:=by unfold drp;rw [if_neg h]
theorem S4{F:Hp}{a:AB}:drp F a a=none:=by unfold drp;rw [if_pos rfl]
section
variable {K:AD}{F:Hp}{a:AB}{xs:List V}
theorem S3{b:AB}(h:F b=none):drp F a b=none:=by
 unfold drp
 split
 ·rfl
 ·exact h
end
section
variable {X:Cx}
end
section
variable {X:Cx}
end
section
variable {X:Cx}
end
section
variable {X:Cx}{tg:AE}
end
theorem a40:typeLookup (.type "list") "keys"=pure none:=am_miss_of_fast (by decide+kernel)
section
variable {prog:AI}{w:AG}{A:AJ}{E:AA->AC->Prop}{s:AC}
theorem a0Z{a:AB}{o:Obj}{xs:Array AA}{k:Nat}{name:Str}{Q:Option AA->AC->Prop}
 (hx:s.heap.get? a=some o) (hc:o.cls= .type "list") (hdat:o.data= .seq xs k) (hd:o.dict=none) (hmiss:typeLookup (.type "list") name=pure none) (hname:(["__module__","__name__","__qualname__","__doc__","__annotations__"]:List Str).contains name=false) (hA:A.handled=none)
 (h:∀h' tk,(∀b ob,s.heap.get? b=some ob->h'.get? b=some ob)->Q none {s with heap:=h',toks:=tk}) (hsz:name.length+100<=AK:=by size_fits):
 AH (model prog w) A (getAttr? (.ref a) name) Q E s:=by
 obtain⟨c,dct,dat,sl⟩:=o
 simp only at hc hdat hd
 subst hc hdat hd
 obtain⟨hp,g,d,tk,os⟩:=s
 have hT:∀tk',(⟨hp,g,d,tk',os⟩:AC).TypeIs (.ref a) "list":=fun _=>⟨_,hx,rfl⟩
 have f1:=sub_AttributeError
 have f3:=F.slot_list_getattribute.lookup
 have f4:=F.slot_list_getattribute.bind (.ref a)
 have f5:=am_list_getattr_none
 unfold getAttr? getAttrBy? getAttrBy
 repeat (any_goals (first|assumption|exact hT _|((with_reducible show AH _ _ (call (Value.builtin "list.__getattribute__") _ _) _ _ _);refine call_meets F.slot_list_getattribute (hT _) am_entry_list_getattribute (F.args_list_getattribute_2 _ _) (meets_getattribute_miss_list a xs k sl name _ hmiss hname hsz) ⟨hx,hA,fun h' tk' e hx'=> ?_⟩)|wp_step))
 obtain⟨t',u',he⟩:=hx'.there
 show AH _ _ (getattributeRaised _ _ _ _ _ _ _) _ _ _
 unfold getattributeRaised
 repeat (any_goals (first|assumption|wp_step))
 exact h _ _ hx'.keeps
end
theorem S5:entryFor table "dict.update.loop"=some Builtin.«dict.update.loop»:=entryFor_of_tree (by kernel_rfl)
theorem C3:plainId "dict.update.loop"=true:=by decide+kernel
theorem b12{K:AD}{H:Hp}{a D:AB}{xs:List V}{kvs kvs':List (List d5×V)}(e:H D=some (.dT kvs))(h:W4 K H a xs):W4 K (upd H D (.dT kvs')) a xs:=by
 rcases h with(h|⟨o,h⟩)|h
 ·exact .inl (.inl (by rw [d3 (M6 h e (fun z=>nomatch z))];exact h))
 ·exact .inl (.inr ⟨o,by rw [d3 (M6 h e (fun z=>nomatch z))];exact h⟩)
 ·exact .inr h
def b2w(K:AD)(H:Hp)(p:List d5×V)(x:V):Prop:=∃a b,x= .ref a/\W4 K H a [.ref b,p.2]/\H b=some (.tup (p.1.map kV))
theorem b2w.upd{K:AD}{H:Hp}{D:AB}{kvs kvs':List (List d5×V)}(e:H D=some (.dT kvs)){p:List d5×V}{x:V}(h:b2w K H p x):b2w K (upd H D (.dT kvs')) p x:=
 let ⟨a,b,h1,h2,h3⟩:=h
 ⟨a,b,h1,b12 e h2,by rw [d3 (M6 h3 e (fun z=>nomatch z))];exact h3⟩
def a66(kvs k4:List (List d5×V)):List (List d5×V):=k4.foldl (fun d p=>K5 d p.1 p.2) kvs
section
variable {X:Cx}{pins:List (AB×Obj)}{σ:L2.St}{A:AJ}{R:Result->AC->Prop}
end
section
variable {X:Cx}
end
def a4p(kvs k4:List (List d5×PV)):List (List d5×PV):=k4.foldl (fun d p=>V7 d p.1 p.2) kvs
theorem a4s{K:AD}{F:Hp}:∀{k4:List (List d5×PV)} {ws:List (List d5×V)} {kvs:List (List d5×PV)} {ys:List (List d5×V)},m6 K F kvs ys->m6 K F k4 ws->m6 K F (a4p kvs k4) (a66 ys ws)
 |[],_,_,_,h,e=>by cases e;exact h
 |(k,p)::r,_,_,_,h,⟨v,t,e,q,z⟩=>by
  subst e
  have g:=a4s (h.put (k:=k) q) z
  exact g
section
variable {X:Cx}
end
section
variable {X:Cx}
end
open Builtin Builtin.Str
section
variable {prog:AI}{w:AG}{A:AJ}{E:AA->AC->Prop}{s:AC}{x y:Str}{t u:Tok}{Q:AA->AC->Prop}
end
section
variable {X:Cx}
end
structure Chg(fs ex:List AB)(h h':Heap):Prop where
 keep:∀b o,h.get? b=some o->b∉fs->b∉ex->h'.get? b=some o
 slot:∀b o,h.get? b=some o->b∈fs->b∉ex->∃sl,h'.get? b=some {o with slots:=sl}
 size:h.objs.size<=h'.objs.size
section
variable {M:Model}{A:AJ}{E:AA->AC->Prop}{s:AC}{base:Heap}{env:Env}{outer:List Env}{L e C:AB}
theorem Chg.trans{fs ex ex':List AB}{h h1 h2:Heap}(x:Chg fs ex h h1)(y:Chg fs ex' h1 h2):Chg fs (ex++ex') h h2 where
 keep:=fun b o e hf hx=>y.keep b o (x.keep b o e hf fun z=>hx (BC _ z)) hf fun z=>hx (Aq _ z)
 slot:=fun b o e hf hx=>by
  obtain⟨sl,e1⟩:=x.slot b o e hf fun z=>hx (BC _ z)
  obtain⟨sl2,e2⟩:=y.slot b {o with slots:=sl} e1 hf fun z=>hx (Aq _ z)
  exact⟨sl2,e2⟩
 size:=Nat.le_trans x.size y.size
theorem Chg.more{fs fs' ex ex':List AB}{h h':Heap}(x:Chg fs ex h h')(hf:∀b∈fs,b∈fs')(he:∀b∈ex,b∈ex'):Chg fs' ex' h h' where
 keep:=fun b o e h1 h2=>x.keep b o e (fun z=>h1 (hf b z)) fun z=>h2 (he b z)
 slot:=fun b o e h1 h2=>by
  by_cases hb:b∈fs
  ·exact x.slot b o e hb fun z=>h2 (he b z)
  ·exact⟨o.slots,x.keep b o e hb fun z=>h2 (he b z)⟩
 size:=x.size
theorem Chg.funs{fs ex:List AB}{h h':Heap}{l:List Env}(x:Chg fs ex h h')(hl:h.FunFrames base l)(hx:∀b∈ex,∀o,h.get? b=some o->∃vs,o.data= .fields vs):h'.FunFrames base l:=
 hl.of_keeps fun b o hb hnf=>by
  have hbx:b∉ex:=fun z=>by
   obtain⟨vs,hd⟩:=hx b z o hb
   exact hnf vs hd
  by_cases hbf:b∈fs
  ·obtain⟨sl,e⟩:=x.slot b o hb hbf hbx
   exact⟨_,e,rfl⟩
  ·exact⟨o,x.keep b o hb hbf hbx,rfl⟩
end
section
variable {P:AI}{w:AG}{K:AD}{mg:Str->Option AA}{base:Heap}{N:List Str}{qual:Str}{scope:Scope}{f:AB}{cd:AA}{A:AJ}{outer:List Env}{s:AC}{H:Hp}{E:XK}
end
section
variable {X:Cx}{x:Str}{C:AB}{np cpos pos:Pos}{e₀:AE}{k4:List AE}{t:TA}{W:AB->Hp->Prop}
end
theorem Chg.any{fs ex:List AB}{h h':Heap}(c:Chg fs ex h h'){b:AB}{o:Obj}(e:h.get? b=some o)(hb:b∉ex):∃sl,h'.get? b=some {o with slots:=sl}:=by
 by_cases hf:b∈fs
 ·exact c.slot b o e hf hb
 ·exact⟨o.slots,c.keep b o e hf hb⟩
section
variable {X:Cx}{pins:List (AB×Obj)}{σ:L2.St}{H:Hp}{s:AC}
end
inductive FX where
 |fl (f:Fl)|rz (c:Str) (ρ:a9)
def b2u(K:AD)(mg:Str->Option AA)(E:L2.St->XK)(F0 H0 F:Hp)(σ0:L2.St)(D:Q6):FX->Prop
 | .fl f=>Fin K F0 H0 F D f
 | .rz c ρ=>∃C,mg c=some (.ref C)/\∀σ a F' H',d6 F F'->R8 K F0 H0 F' H' σ ρ->H' a=none->E σ (.ref a) (some C) H'
theorem b2u.later{K:AD}{mg:Str->Option AA}{E:L2.St->XK}{F0 H0 F F1:Hp}{σ0 σ1:L2.St}{D:Q6}(s:d6 F F1):∀{fx:FX},b2u K mg E F0 H0 F σ0 D fx->b2u K mg E F0 H0 F1 σ1 D fx
 | .fl _,h=>Fin.later s h
 | .rz _ _,⟨C,h1,h2⟩=>⟨C,h1,fun σ a F' H' s' so hn=>h2 σ a F' H' (s.trans s') so hn⟩
section
variable {X:Cx}{E:L2.St->XK}
end
section
variable {X:Cx}{E:L2.St->XK}{CX:CXT}
end
def left(g:List PV->Option (b9 ⊕ Str))(ps:List PV):Option b9:=(g ps).bind fun r=>match r with
 | .inl r=>some r
 | .inr _=>none
section
variable {X:Cx}
end
section
variable {X:Cx}
theorem apart{pins:List (AB×Obj)}{σ:L2.St}{H:Hp}{s:AC}{b:AB}(I:d9 X pins σ H s)(hx0:X.ex=[])(h:s.heap.get? b=none):X.s₀.heap.get? b=none/\b≠X.env.locals/\(∀x z,X.env.cells.lookup x=some z->z≠b)/\∀p∈X.pn++pins,p.1≠b:=by
 refine⟨?_,fun e=> ?_,fun x z hz e=> ?_,fun p hp e=> ?_⟩
 ·cases h0:X.s₀.heap.get? b with
  |none=>rfl
  |some o=>
   obtain⟨o',e⟩:=I.base.there b o h0 (fun z=>by rw [hx0] at z;cases z)
   rw [h] at e;cases e
 ·obtain⟨m,⟨o,_,_,ho,_⟩,_⟩:=I.loc
  rw [<-e,h] at ho;cases ho
 ·obtain⟨v,o,ho,_⟩:=I.cell x z hz
  rw [e,h] at ho;cases ho
 ·have:=(I.pin p hp).1
  rw [e,h] at this;cases this
end
section
variable {X:Cx}
end
section
variable {X:Cx}
end
section
variable {X:Cx}{pins:List (AB×Obj)}{σ:L2.St}{H:Hp}{s:AC}
end
def Q6.drop(D:Q6)(i:Nat):Q6:=⟨fun σ H=>D.nx (σ.set i none) H,D.rt,fun σ H=>D.bk (σ.set i none) H,fun σ H=>D.ct (σ.set i none) H⟩
section
variable {X:Cx}
end
def b2T(i:Nat):Fl->Fl
 | .nx ρ=> .nx (ρ.set i none)
 | .rt r=> .rt r
 | .bk ρ=> .bk (ρ.set i none)
 | .ct ρ=> .ct (ρ.set i none)
theorem u7{α:Type}{l:List (Option α)}{i j:Nat}{r:α}(h:(l.set i none)[j]?=some (some r)):i≠j/\l[j]?=some (some r):=by
 rw [List.getElem?_set] at h
 by_cases hij:i=j
 ·rw [if_pos hij] at h
  split at h
  ·cases h
  ·cases h
 ·rw [if_neg hij] at h;exact⟨hij,h⟩
theorem R8.drop{K:AD}{F0 H0 F H:Hp}{σ:L2.St}{ρ:a9}(s:R8 K F0 H0 F H σ ρ)(i:Nat):R8 K F0 H0 F H (σ.set i none) (ρ.set i none):=by
 refine⟨s.x,⟨s.e.fh,by simp [s.e.len],fun j q e=> ?_,fun j ps e=> ?_,fun j k ps qs a hjk e1 e2 e3 e4=> ?_⟩,fun j ps a e1 e2=> ?_⟩
 ·obtain⟨n,e⟩:=u7 e
  rw [List.getElem?_set_ne n]
  exact s.e.at_ j q e
 ·exact s.e.nb j ps (u7 e).2
 ·exact s.e.ap j k ps qs a hjk (u7 e1).2 (u7 e2).2 (u7 e3).2 (u7 e4).2
 ·exact s.nw j ps a (u7 e1).2 (u7 e2).2
theorem Fin.drop{K:AD}{F0 H0 F:Hp}{D:Q6}{i:Nat}:∀{fl:Fl},Fin K F0 H0 F D (b2T i fl)->Fin K F0 H0 F (Q6.drop D i) fl
 | .nx _,h=>fun σ' F' H' s' so=>h _ F' H' s' (so.drop i)
 | .rt _,h=>h
 | .bk _,h=>fun σ' F' H' s' so=>h _ F' H' s' (so.drop i)
 | .ct _,h=>fun σ' F' H' s' so=>h _ F' H' s' (so.drop i)
section
variable {X:Cx}
end
section
variable {X:Cx}
end
section
variable {X:Cx}
end
section
variable {X:Cx}
end
section
variable {X:Cx}
end
section
variable {X:Cx}
end
structure FnV(K:AD)(mg:Str->Option AA)(x:Str)(f:AB):Prop where
 mg:mg x=some (.ref f)
 at_:a31 K x (.ref f)
 one:∀a,a31 K x (.ref a)->a=f
def b0f(K:AD)(x:Str)(f:AB):Bool:=K.all fun p=>match p.2.data with
 | .func fd=> !(fd.name==x)||p.1==f
 |_=>true
theorem a9Y{K:AD}{a:AB}{o:Obj}:K.lookup a=some o->(a,o)∈K:=by
 induction K with
 |nil=>intro h;cases h
 |cons p r ih=>
  intro h
  obtain⟨b,u⟩:=p
  rw [List.lookup_cons] at h
  split at h
  ·rename_i z
   cases h
   rw [beq_iff_eq.mp z]
   exact Ai
  ·exact Ak _ (ih h)
theorem b2U{K:AD}{mg:Str->Option AA}{x:Str}{f:AB}{oc:AA}{od:Option AB}{fd:FuncData}{sl:Array (Option AA)}(hm:mg x=some (.ref f))(l:K.lookup f=some ⟨oc,od,.func fd,sl⟩)(hn:fd.name=x)(q:b0f K x f=true):FnV K mg x f:=by
 refine⟨hm,⟨f,oc,od,fd,sl,rfl,l,hn⟩,fun a h=> ?_⟩
 obtain⟨b,oc',od',fd',sl',e,l',hn'⟩:=h
 cases e
 have:=List.all_eq_true.mp q _ (a9Y l')
 simp only [hn',beq_self_eq_true,Bool.not_true,Bool.false_or] at this
 exact beq_iff_eq.mp this
abbrev a24(x:Str):PV:= .dict [(.str x,.none)]
section
variable {X:Cx}
theorem b35{x:Str}{f:AB}{pos:Pos}(v:FnV X.K X.mg x f)(hg:Gl X x:=by rfl)(hd:(x==("__debug__":Str))=false:=by decide):EE X (.Name x pos) (mC (a24 x)):=
 a02 (v:= .ref f) (b1F hg v.mg rfl hd) fun H=>Or.inr (Or.inr ⟨x,_,rfl,.inl ⟨rfl,v.at_⟩⟩)
def a7e(X:Cx)(n k':Nat)(tab:List (Str×(List PV->Option b9))):Prop:=∀x g,tab.lookup x=some g->∃f fd ps k,N6 X.prog X.w X.K X.mg X.base CX0 k f fd ps (spP X.K ps.length g)/\k<=k'/\PySem.W.keepIn X.K (.ref f)=true/\a0x X.K fd ps []/\ps.length=n/\∀a,a31 X.K x (.ref a)->a=f
theorem a8j{n k':Nat}:a7e X n k' []:=fun _ _ h=>nomatch h
theorem a6J{n k k':Nat}{x:Str}{f:AB}{ps:List Str}{g:List PV->Option b9}{t:List (Str×(List PV->Option b9))}(d:j9 X.prog X.w X.K X.mg X.base x ps k g)(v:FnV X.K X.mg x f)(hk:k<=k')(hn:ps.length=n)(h:a7e X n k' t):a7e X n k' ((x,g)::t):=fun y g' q=>by
 rw [List.lookup_cons] at q
 split at q
 ·rename_i z
  cases q
  obtain⟨f',fd,G,h1,h2,h3⟩:=d
  have e:=v.mg.symm.trans h1
  cases e
  refine⟨f,fd,ps,k,G,hk,h2,h3,hn, ?_⟩
  rw [beq_iff_eq.mp z]
  exact v.one
 ·exact h y g' q
def a3k(tab:List (Str×(List PV->Option b9)))(i:Nat)(m:MA):M:=fun ρ=>match ρ[i]? with
 |some (some (.val (.dict [(.str x,.none)])))=>(tab.lookup x).bind fun g=>(m ρ).bind g
 |_=>none
theorem a9s(i:Nat){n k':Nat}{y:Str}{p pos:Pos}{tab:List (Str×(List PV->Option b9))}{e:AE}{es:List AE}{m:MA}(T:a7e X n k' tab)(hr:E7 k' X.A)(hv:PE X (.Name y p) (a0w i))(hn:∀ρ qs,m ρ=some qs->qs.length=n)(ha:EA X (e::es) m)
 (he:AN (e::es) X.env=(false,eval e X.env)::AN es X.env:=by rfl) (hpl:(backTo pos (AN es X.env)).any (·.1)=false:=by rfl):
 EE X (.Call (.Name y p) (e::es) [] pos) (a3k tab i m):=by
 intro pins s σ H Q I ⟨F,ρ,r,env,hm,k⟩
 unfold a3k at hm
 split at hm
 ·rename_i x hρ
  cases hl:tab.lookup x with
  |none=>rw [hl] at hm;cases hm
  |some g=>
   rw [hl,AF] at hm
   obtain⟨f,fd,ps,kk,G,hk,h2,h3,h4,one⟩:=T x g hl
   obtain⟨v,hσ,hrep⟩:=env.at_ i _ hρ
   have hvf:v= .ref f:=by
    rcases hrep with⟨_,_,_,_,kk1,w1,t1,_,zz,_⟩|⟨_,_,_,_,kk1,w1,t1,_,zz,_⟩|⟨z,t,e,hz⟩
    ·cases zz
    ·cases zz
    ·cases e
     rcases hz with⟨_,hz⟩|⟨e,_⟩
     ·obtain⟨a,_,_,_,_,ea,_⟩:=id hz
      subst ea
      rw [one a hz]
     ·cases e
   subst hvf
   refine wpAny_Call_Name_kw (E5 (hv pins s σ H (fun v H1=>v= .ref f/\H1=H) I ⟨.ref f,hσ,rfl,rfl⟩) fun u s1 ⟨v,H1,I1,rv,hv1,hH⟩=> ?_)
   subst hv1 hH
   cases(show u=Value.ref f from rv)
   obtain⟨qs,e1,e2⟩:=bind_some hm
   refine PySem.W.callWith_K (h₀:=X.base) I1.ok.mod.kin h2 (E5 (ha pos pins s1 σ H1 (fun vs H2=>∃F2,S0 F H1 F2 H2/\d8 X.K F2 qs vs) I1 ⟨F,ρ,qs,env,e1,fun vs F2 H2 x rl=>⟨F2,x,rl⟩⟩) fun us s2 ⟨vs,H2,I2,rr,F2,x2,rl⟩=>⟨I2.kIn, ?_⟩) he hpl
   refine b0w (dvs:=[]) (ds:=[]) (sp:=spP X.K ps.length g) (E:=E0) G (hr.mono hk) h3 .nil a6f I2 rr ?_
   show spP X.K ps.length g (vs++[]) H2 Q E0
   rw [Ab]
   exact⟨F2,qs,r,x2.fh,rl,(hn _ _ e1).trans h4.symm,e2,fun v F3 H3 o=>k v F3 H3 (o9.trans x2 o)⟩
 ·cases hm
end
section
variable {X:Cx}
end
section
variable {X:Cx}
end
section
variable {X:Cx}
end
section
variable {X:Cx}
structure a72(Φ:L2.St->Hp->Prop)(I:List Nat):Prop where
 grow:∀σ H H',Φ σ H->d6 H H'->Φ σ H'
 set:∀i∈I,∀σ H v,Φ σ H->Φ (σ.set i v) H
def b0O(Φ:L2.St->Hp->Prop)(K:AD)(F0 H0 F:Hp)(D:Q6):Fl->Prop
 | .nx ρ=>∀σ' F' H',d6 F F'->R8 K F0 H0 F' H' σ' ρ->Φ σ' H'->D.nx σ' H'
 | .rt r=>∀v F' H',o9 K F0 H0 F' H' v r->D.rt v H'
 | .bk ρ=>∀σ' F' H',d6 F F'->R8 K F0 H0 F' H' σ' ρ->Φ σ' H'->D.bk σ' H'
 | .ct ρ=>∀σ' F' H',d6 F F'->R8 K F0 H0 F' H' σ' ρ->Φ σ' H'->D.ct σ' H'
theorem b0O.later{Φ:L2.St->Hp->Prop}{K:AD}{F0 H0 F F1:Hp}{D:Q6}(s:d6 F F1):∀{fl:Fl},b0O Φ K F0 H0 F D fl->b0O Φ K F0 H0 F1 D fl
 | .nx _,h=>fun σ' F' H' s' so=>h σ' F' H' (s.trans s') so
 | .rt _,h=>h
 | .bk _,h=>fun σ' F' H' s' so=>h σ' F' H' (s.trans s') so
 | .ct _,h=>fun σ' F' H' s' so=>h σ' F' H' (s.trans s') so
def tMP(K:AD)(Φ:L2.St->Hp->Prop)(m:MS):TS:=fun D σ H=>∃F0 H0 F ρ fl,Φ σ H/\R8 K F0 H0 F H σ ρ/\m ρ=some fl/\b0O Φ K F0 H0 F D fl
abbrev ESP(X:Cx)(Φ:L2.St->Hp->Prop)(st:Stmt)(m:MS):Prop:=PS X st (tMP X.K Φ m)
abbrev b0N(X:Cx)(Φ:L2.St->Hp->Prop)(st:List Stmt)(m:MS):Prop:=PSs X st (tMP X.K Φ m)
variable {Φ:L2.St->Hp->Prop}{I:List Nat}
theorem a04:b0N X Φ [] v5:=N2 a5b fun D σ H ⟨F0,H0,F,ρ,fl,φ,so,e,fin⟩=>by
 cases e
 exact fin σ F H (PU.d6.refl F) so φ
theorem a05{st:Stmt}{m:MS}(h1:ESP X Φ st m):b0N X Φ [st] m:=a1p h1
theorem a06{e:AE}{m:M}{pos:Pos}(he:EE X e m):ESP X Φ (.Return (some e) pos) (D4 m):=
 D0 (a64 he) fun D σ H ⟨F0,H0,F,ρ,fl,φ,so,e,fin⟩=>by
  obtain⟨r,e1,e⟩:=bind_some e
  split at e
  ·rename_i c
   cases e
   exact⟨F,ρ,r,so.e,e1,fun v F' H' o=>fin v F' H' (o9.trans so.x o)⟩
  ·cases e
theorem a22(hS:a72 Φ I){c:AE}{a b:List Stmt}{mc:MT}{m n:MS}{pos:Pos}(hc:ET X c mc)(ha:b0N X Φ a m)(hb:b0N X Φ b n):ESP X Φ (.If c a b pos) (G8 mc m n):=
 D0 (b0p hc ha hb) fun D σ H ⟨F0,H0,F,ρ,fl,φ,so,e,fin⟩=>by
  obtain⟨b,e1,e⟩:=bind_some e
  refine⟨F,ρ,b,so.e,e1,fun F1 H1 x=> ?_⟩
  cases b with
  |true=>exact a6T ⟨F0,H0,F1,ρ,fl,hS.grow _ _ _ φ x.h,so.ext x,e,fin.later x.f⟩
  |false=>exact a6S ⟨F0,H0,F1,ρ,fl,hS.grow _ _ _ φ x.h,so.ext x,e,fin.later x.f⟩
end
mutual
def X1:PV->Bool
 | .none=>true
 | .bool _=>true
 | .int _=>true
 | .str _=>true
 | .tuple ps=>a5L ps
 |_=>false
def a5L:List PV->Bool
 |[]=>true
 |p::ps=>X1 p && a5L ps
end
mutual
theorem a3E{K:AD}{F G:Hp}(h:∀c ys,F c=some (.tup ys)->G c=some (.tup ys)):∀(p:PV) {v:V},X1 p=true->p8 K F p v->p8 K G p v
 | .none,_,_,r=>r
 | .bool _,_,_,r=>r
 | .int _,_,_,r=>r
 | .str _,_,_,r=>r
 | .tuple ps,_,f,⟨a,xs,e,q,r⟩=>⟨a,xs,e,q.elim (fun z=> .inl (h _ _ z)) .inr,a4t h ps (by simpa [X1] using f) r⟩
 | .list _,_,f,_=>by simp [X1] at f
 | .dict _,_,f,_=>by simp [X1] at f
theorem a4t{K:AD}{F G:Hp}(h:∀c ys,F c=some (.tup ys)->G c=some (.tup ys)):∀(ps:List PV) {vs:List V},a5L ps=true->d8 K F ps vs->d8 K G ps vs
 |[],_,_,r=>r
 |p::ps,_,f,⟨v,t,e,q,r⟩=>by
  have f:X1 p=true/\a5L ps=true:=by simpa [a5L] using f
  exact⟨v,t,e,a3E h p f.1 q,a4t h ps f.2 r⟩
end
def keep(A:List Nat)(ρ:a9):a9:=ρ.zipIdx.map fun p=>if p.2∈A then p.1 else none
theorem a9S(A:List Nat)(ρ:a9):(keep A ρ).length=ρ.length:=by unfold keep;simp
theorem b1n{A:List Nat}{ρ:a9}{j:Nat}{r:b9}(h:(keep A ρ)[j]?=some (some r)):j∈A/\ρ[j]?=some (some r):=by
 unfold keep at h
 rw [Ay,List.getElem?_zipIdx] at h
 cases e:ρ[j]? with
 |none=>rw [e] at h;simp at h
 |some q=>
  rw [e] at h
  simp only [Ax,Nat.zero_add,Option.some.injEq] at h
  split at h
  ·rename_i hj;exact⟨hj,by rw [h]⟩
  ·cases h
def a8F(K:AD):Bool:=K.all fun p=>match p.2.cls with
 | .type x=> !(x=="list")
 |_=>true
theorem a56{K:AD}(nk:a8F K=true){a:AB}{o:Obj}(e:K.lookup a=some o)(hc:o.cls= .type "list"):False:=by
 obtain⟨b,hb⟩:=a6V e
 have h:=List.all_eq_true.mp nk _ hb
 simp only [hc] at h
 simp at h
theorem a48{K:AD}{F H:Hp}{v:V}:∀{c:P8},J5 K F H v c->∃a o,v= .ref a/\F a=none/\H a=some o/\NT o
 | .lst _,⟨a,_,e,n,q,_⟩=>⟨a,_,e,n,q,fun _ h=>nomatch h⟩
 | .dct _,⟨a,_,e,n,q,_⟩=>⟨a,_,e,n,q,fun _ h=>nomatch h⟩
 | .txt _,⟨a,_,e,n,q,_⟩=>⟨a,_,e,n,q,fun _ h=>nomatch h⟩
theorem a5d{K:AD}{F H F' H':Hp}{a:AB}:∀{c:P8},J5 K F H (.ref a) c->d6 F F'->F' a=none->(∀o,H a=some o->H' a=some o)->J5 K F' H' (.ref a) c
 | .lst _,⟨a',xs,e,n,q,r⟩,s,f,h=>by cases e;exact⟨_,xs,rfl,f,h _ q,d8.mono s _ r⟩
 | .dct _,⟨a',xs,e,n,q,r⟩,s,f,h=>by cases e;exact⟨_,xs,rfl,f,h _ q,m6.mono s _ r⟩
 | .txt _,⟨a',xs,e,n,q,r⟩,s,f,h=>by cases e;exact⟨_,xs,rfl,f,h _ q,m6.mono s _ r⟩
theorem b0z{ρ:a9}{i j:Nat}{r:Option b9}{q:b9}(h:(ρ.set i r)[j]?=some (some q)):(j=i/\r=some q)\/(j≠i/\ρ[j]?=some (some q)):=by
 rw [List.getElem?_set] at h
 split at h
 ·rename_i z
  split at h
  ·exact .inl ⟨z.symm,Option.some.inj h⟩
  ·cases h
 ·rename_i z;exact .inr ⟨fun y=>z y.symm,h⟩
def unE:List (PV×PV)->Option (List (List d5×PV))
 |[]=>some []
 |(.tuple ks,p)::r=>(R0 ks).bind fun k=>(unE r).map fun t=>(k,p)::t
 |_::_=>none
theorem Q2:∀k:List d5,R0 (k.map kP)=some k
 |[]=>rfl
 | .inl i::k=>by
   rw [AQ]
   unfold R0
   rw [Q2 k]
   rfl
 | .inr x::k=>by
   rw [AQ]
   unfold R0
   rw [Q2 k]
   rfl
theorem a2M{K:AD}{F:Hp}:∀{es:List (PV×PV)} {xs:List (List d5×V)},N7 K F es xs->∃kvs,unE es=some kvs/\m6 K F kvs xs
 |[],_,h=>by cases h;exact⟨[],rfl,rfl⟩
 |(k,p)::es,_,⟨kk,v,t,e,z,q,h⟩=>by
  subst e
  subst z
  obtain⟨kvs,h1,h2⟩:=a2M h
  refine⟨(kk,p)::kvs, ?_,v,t,rfl,q,h2⟩
  unfold unE
  rw [Q2,h1]
  rfl
abbrev dv(kvs:List (List d5×PV)):PV:= .dict ((.tuple [],.none)::kvs.map fun kv=>(PyData.tuple (kv.1.map kP),kv.2))
theorem a7b:∀kvs:List (List d5×PV),unE (kvs.map fun kv=>(PyData.tuple (kv.1.map kP),kv.2))=some kvs
 |[]=>rfl
 |(k,p)::r=>by
  rw [AQ]
  unfold unE
  rw [Q2,a7b r]
  rfl
def dvw(i:Nat)(ρ:a9):Option (List (List d5×PV)):=match ρ[i]? with
 |some (some (.val (.dict ((.tuple [],.none)::es))))=>unE es
 |_=>none
theorem b2M{i:Nat}{ρ:a9}{kvs:List (List d5×PV)}(h:ρ[i]?=some (some (.val (dv kvs)))):dvw i ρ=some kvs:=by
 unfold dvw
 rw [h]
 exact a7b kvs
theorem b2L{K:AD}{F H:Hp}{σ:L2.St}{ρ:a9}(en:n8 K F H σ ρ){i:Nat}{kvs:List (List d5×PV)}(h:dvw i ρ=some kvs):∃a xs,σ[i]?=some (some (.ref a))/\F a=some (.dT xs)/\m6 K F kvs xs:=by
 unfold dvw at h
 split at h
 ·rename_i es eo
  obtain⟨v,hv,hr⟩:=en.at_ i _ eo
  rcases hr with⟨a,ys,rfl,ha,kk,w,t,e,z,_,hr⟩|⟨a,xs,rfl,ha,kk,w,t,e,_,_,hr⟩|⟨x,t,e,_⟩
  ·cases ys with
   |nil=>cases e
   |cons y ys=>
    cases e
    cases z
  ·cases e
   obtain⟨kvs',h1,h2⟩:=a2M hr
   rw [h] at h1
   cases h1
   exact⟨a,_,hv,ha,h2⟩
  ·cases e
 ·cases h
section
variable {X:Cx}
def V4(i:Nat)(mk:MA):M:=fun ρ=>(mk ρ).bind fun ks=>if ks.length<=AK then(R0 ks).bind fun k=>(dvw i ρ).bind fun kvs=>(l9 kvs k).map .val else none
theorem a03(i:Nat){x:Str}{p tp pos:Pos}{es:List AE}{x1}{mk:MA}(hu:X.A.units+64<cLine)(hx:PE X (.Name x p) (a0w i))(hi:EA X es mk)(hs:a87 (.Tuple es x1 tp):=by intro _ _;rfl):EE X (.Subscript (.Name x p) (.Tuple es x1 tp) pos) (V4 i mk):=
 o8 (a49 (by lia) hx (a62 hi) hs) fun σ H Q ⟨F,ρ,r,en,e,k⟩=>by
  obtain⟨ks,e1,e⟩:=bind_some e
  split at e
  ·rename_i hl
   obtain⟨kk,e2,e⟩:=bind_some e
   obtain⟨kvs,e3,e⟩:=bind_some e
   cases hv:l9 kvs kk with
   |none=>rw [hv] at e;cases e
   |some q=>
    rw [hv] at e;cases e
    obtain⟨a,xs,hw1,ha',rl⟩:=b2L en e3
    obtain⟨y,hy,ry⟩:=(rl.val (k:=kk)).1 q hv
    refine⟨.ref a,hw1,F,ρ,ks,en,e1,fun vs F3 H3 x3 rl3=>⟨by rw [rl3.length];exact hl,fun b hb=> ?_⟩⟩
    have ev:=a0P e2 rl3
    have ha3:=x3.h _ _ (en.fh _ _ ha')
    have hne:a≠b:=fun h=>by subst h;rw [hb] at ha3;cases ha3
    have ha4:upd H3 b (.tup vs) a=some (.dT xs):=by rw [d3 hne];exact ha3
    have xx:=x3.trans (S0.lay (o:= .tup vs) x3.fh hb)
    exact⟨a,y,rfl,by rw [<-hy];exact a0V.t ha4 (by rw [f7,ev]),k _ _ _ (o9.val xx (p8.mono xx.f _ ry))⟩
  ·cases e
end
mutual
def nd:PV->Bool
 | .list ps=>ndL ps
 | .tuple ps=>ndL ps
 | .dict ((.tuple _,_)::_)=>false
 |_=>true
def ndL:List PV->Bool
 |[]=>true
 |p::ps=>nd p && ndL ps
end
def ndD:List (List d5×PV)->Bool
 |[]=>true
 |(_,p)::r=>nd p && ndD r
def b9.noD:b9->Bool
 | .val p=>nd p
 | .ow (.lst ps)=>ndL ps
 | .ow (.dct kvs)=>ndD kvs
 | .ow (.txt kvs)=>ndD kvs
 | .bo _=>false
section
variable {K:AD}{F:Hp}{a:AB}{xs:List (List d5×V)}
mutual
theorem a3C(ha:F a=some (.dT xs)):∀(p:PV) {v:V},p8 K F p v->nd p=true->p8 K (drp F a) p v
 | .none,_,h,_=>h
 | .bool _,_,h,_=>h
 | .int _,_,h,_=>h
 | .str _,_,h,_=>h
 | .list ps,_,⟨b,ys,e,q,r⟩,n=>⟨b,ys,e,(by
  rcases q with(q|⟨o,q⟩)|q
  ·exact .inl (.inl (by rw [C7 (M6 q ha (fun z=>nomatch z))];exact q))
  ·exact .inl (.inr ⟨o,by rw [C7 (M6 q ha (fun z=>nomatch z))];exact q⟩)
  ·exact .inr q),a0p ha ps r (by simpa [nd] using n)⟩
 | .tuple ps,_,⟨b,ys,e,q,r⟩,n=>⟨b,ys,e,(by
  rcases q with q|q
  ·exact .inl (by rw [C7 (M6 q ha (fun z=>nomatch z))];exact q)
  ·exact .inr q),a0p ha ps r (by simpa [nd] using n)⟩
 | .dict kvs,_,h,n=>by
   rcases h with⟨b,ys,q,h,hr⟩|⟨b,ys,q,h,hr⟩|⟨x,t,e,h|⟨z,b,C,φ,q,h,r⟩⟩
   ·cases kvs with
    |nil=>
     have e0:ys=[]:=List.map_eq_nil_iff.mp hr
     subst e0
     exact .inl ⟨b,[],q,by rw [C7 (M6 h ha (fun z=>nomatch z))];exact h,rfl⟩
    |cons f fs=>
     exfalso
     obtain⟨k,p⟩:=f
     obtain⟨kk,w,t,e,z,_⟩:=hr
     subst z
     simp [nd] at n
   ·exfalso
    cases kvs with
    |nil=>cases hr
    |cons f fs=>
     obtain⟨k,p⟩:=f
     obtain⟨kk,w,t,e,z,_⟩:=hr
     subst z
     simp [nd] at n
   ·exact .inr (.inr ⟨x,t,e,.inl h⟩)
   ·exact .inr (.inr ⟨x,t,e,.inr ⟨z,b,C,φ,q,by rw [C7 (M6 h ha (fun z=>nomatch z))];exact h,r⟩⟩)
theorem a0p(ha:F a=some (.dT xs)):∀(ps:List PV) {vs:List V},d8 K F ps vs->ndL ps=true->d8 K (drp F a) ps vs
 |[],_,h,_=>h
 |p::ps,_,⟨v,r,e,q,t⟩,n=>by
  simp only [ndL,Bool.and_eq_true] at n
  exact⟨v,r,e,a3C ha p q n.1,a0p ha ps t n.2⟩
end
theorem a1W(ha:F a=some (.dT xs)):∀(kvs:List (List d5×PV)) {ys:List (List d5×V)},m6 K F kvs ys->ndD kvs=true->m6 K (drp F a) kvs ys
 |[],_,h,_=>h
 |(k,p)::r,_,⟨v,t,e,q,h⟩,n=>by
  simp only [ndD,Bool.and_eq_true] at n
  exact⟨v,t,e,a3C ha p q n.1,a1W ha r h n.2⟩
theorem a8U{H:Hp}{v:V}(ha:F a=some (.dT xs)):∀{r:b9},J6 K F H v r->r.noD=true->J6 K (drp F a) H v r
 | .val p,h,n=>a3C ha p h n
 | .ow (.lst ps),⟨b,ys,e,f,q,r⟩,n=>⟨b,ys,e,S3 f,q,a0p ha ps r n⟩
 | .ow (.dct kvs),⟨b,ys,e,f,q,r⟩,n=>⟨b,ys,e,S3 f,q,a1W ha kvs r n⟩
 | .ow (.txt kvs),⟨b,ys,e,f,q,r⟩,n=>⟨b,ys,e,S3 f,q,a1W ha kvs r n⟩
 | .bo _,_,n=>nomatch n
end
section
variable {X:Cx}
theorem a8w{K:AD}{F2 H1 F3 H3:Hp}{a:AB}{xs:List (List d5×V)}{u:V}{r:b9}(fa:F2 a=none)(o3:o9 K (upd F2 a (.dT xs)) H1 F3 H3 u r)(c:r.noD=true):o9 K F2 H1 (drp F3 a) H3 u r:=by
 have up:d6 F2 (upd F2 a (.dT xs)):=x9 fa
 refine⟨⟨fun b o z=> ?_,o3.x.h,fun b o z=> ?_,fun b o z y t=> ?_,fun b w u z=> ?_⟩,a8U (o3.x.f _ _ f7) o3.rep c,o3.fr⟩
 ·have hb:b≠a:=i3 z fa
  rw [C7 hb];exact o3.x.f _ _ (up _ _ z)
 ·by_cases hb:b=a
  ·subst hb;rw [S4] at z;cases z
  ·rw [C7 hb] at z;exact o3.x.fh _ _ z
 ·by_cases hb:b=a
  ·subst hb;exact S4
  ·rw [C7 hb];exact o3.x.nw b o (by rw [d3 hb];exact z) y t
 ·by_cases hb:b=a
  ·subst hb;rw [S4] at z;cases z
  ·rw [C7 hb] at z
   have:=o3.x.nf _ _ _ z
   rw [d3 hb] at this;exact this
theorem a9W{K:AD}{F2:Hp}{a:AB}{xs:List (List d5×V)}{kvs:List (List d5×PV)}(fa:F2 a=none)(rl:m6 K F2 kvs xs):p8 K (upd F2 a (.dT xs)) (dv kvs) (.ref a):=Or.inr (Or.inl ⟨a,xs,rfl,f7,[],.non,xs,rfl,rfl,rfl,N7.of (x9 fa) rl⟩)
end
section
variable {prog:AI}{w:AG}{K:Type}[DecidableEq K]{kd:KeyKind prog w K}{A:AJ}{E:AA->AC->Prop}{s:AC}
end
section
variable {X:Cx}{pins:List (AB×Obj)}{σ:L2.St}{H:Hp}{s:AC}{a:AB}{kvs:List (List d5×V)}{A:AJ}{E:AA->AC->Prop}
end
section
variable {X:Cx}{o i:AE}{td ty:TE}
end
section
variable {X:Cx}
end
def byT(w:AG):Bool:=w.params.followText "set-order"
def a71(prog:AI)(w:AG)(h:Heap)(a:AB)(es:Array (Int×AA))(ep:Nat):Prop:=
 ∃o t,h.get? a=some o/\o.ExactSet/\o.data= .set es ep t/\ElemsOf (z5 prog w) es.toList/\es.size<scanBound/\t.fits es.size=true/\t.led= !byT w/\(es.size≠0->t.plain=false)
def sOf:AA->Str
 | .str x _=>x
 |_=>⟨#[]⟩
abbrev b2r(es:Array (Int×AA)):List Str:=es.toList.map fun e=>sOf e.2
structure TxE(es:Array (Int×AA))(zs:List Str):Prop where
 all:∀e∈es.toList,∃x t,e.2= .str x t
 nd:(b2r es).Nodup
 mem:∀x,x∈b2r es↔x∈zs
theorem a71.at'{prog:AI}{w:AG}{h h':Heap}{a:AB}{es:Array (Int×AA)}{ep:Nat}(x:a71 prog w h a es ep)(e:∀o,h.get? a=some o->h'.get? a=some o):a71 prog w h' a es ep:=
 let ⟨o,t,ho,r⟩:=x;⟨o,t,e _ ho,r⟩
section
variable {prog:AI}{w:AG}{A:AJ}{E:AA->AC->Prop}{s:AC}
theorem TxE.perm{es es':Array (Int×AA)}{zs:List Str}(p:es'.toList.Perm es.toList)(T:TxE es zs):TxE es' zs where
 all:=fun e he=>T.all e (p.mem_iff.mp he)
 nd:=((p.map _).nodup_iff).mpr T.nd
 mem:=fun x=>((p.map _).mem_iff).trans (T.mem x)
end
end PU
set_option maxHeartbeats 3200000
namespace PU
open PySem PySem.Spec PyProof.Rows L2 PySem.W
section
variable {prog:AI}{w:AG}{A:AJ}{E:AA->AC->Prop}{s:AC}
end
end PU
set_option maxHeartbeats 1000000
namespace PU
open PySem PySem.Spec PyProof.Rows L2 PySem.W
def a5r(h:Heap)(it:AB)(first:AA)(i:Nat)(a:AB)(n ep:Nat):Prop:=∃o,h.get? it=some o/\o.cls= .type "set_iterator"/\o.data= .fields #[first,.int i 0,.ref a,.int n 0,.int ep 0]
theorem a5r.typeIs{s:AC}{it:AB}{first:AA}{i:Nat}{a:AB}{n ep:Nat}(x:a5r s.heap it first i a n ep):s.TypeIs (.ref it) "set_iterator":=let ⟨o,ho,hc,_⟩:=x;⟨o,ho,hc⟩
theorem a5r.at'{h h':Heap}{it:AB}{first:AA}{i:Nat}{a:AB}{n ep:Nat}(x:a5r h it first i a n ep)(e:∀o,h.get? it=some o->h'.get? it=some o):a5r h' it first i a n ep:=let ⟨o,ho,r⟩:=x;⟨o,e _ ho,r⟩
section
variable {prog:AI}{w:AG}{A:AJ}{E:AA->AC->Prop}{s:AC}{it a:AB}{i ep:Nat}{es:Array (Int×AA)}
theorem a71.typeIs(x:a71 prog w s.heap a es ep):s.TypeIs (.ref a) "set":=let ⟨o,_,ho,hc,_⟩:=x;⟨o,ho,hc.1⟩
end
section
variable {prog:AI}{w:AG}{A:AJ}{E:AA->AC->Prop}{s:AC}{it a:AB}{i ep:Nat}{es:Array (Int×AA)}
end
section
variable {prog:AI}{w:AG}{A:AJ}{E:AA->AC->Prop}{s:AC}{a:AB}{ep:Nat}{es:Array (Int×AA)}
end
section
variable {prog:AI}{w:AG}{A:AJ}{E:AA->AC->Prop}{s:AC}{a:AB}{ep:Nat}{es:Array (Int×AA)}
end
section
variable {X:Cx}{pins:List (AB×Obj)}{σ:L2.St}{H:Hp}{s:AC}
end
open PySem PySem.Spec PyProof.Rows L2
theorem a5m(k:d5):∀xs:List (d5×V),R7 (xs.map s1) [k]=R7 xs k
 |[]=>rfl
 |x::r=>by
  rw [AQ]
  by_cases c:x.1=k
  ·rw [U2 (p:=x) c,U2 (p:=s1 x) (by show [x.1]=[k];rw [c])];rfl
  ·rw [U1 (p:=x) c,U1 (p:=s1 x) (by show ¬[x.1]=[k];intro h;exact c (List.cons.inj h).1),a5m k r]
theorem a9e(k:d5):∀xs:List (d5×V),((xs.map s1).any fun kv=>decide (kv.1=[k]))=(xs.any fun kv=>decide (kv.1=k))
 |[]=>rfl
 |x::r=>by
  rw [AQ,List.any_cons,List.any_cons,a9e k r]
  congr 1
  show decide ([x.1]=[k])=decide (x.1=k)
  simp
theorem a7P(k:d5)(v:V):∀xs:List (d5×V),(xs.map fun kv=>if kv.1=k then(kv.1,v) else kv).map s1=(xs.map s1).map fun kv=>if kv.1=[k] then(kv.1,v) else kv
 |[]=>rfl
 |x::r=>by
  rw [AQ,AQ,AQ,AQ,a7P k v r]
  congr 1
  by_cases c:x.1=k
  ·rw [if_pos c,if_pos (show(s1 x).1=[k] by show [x.1]=[k];rw [c])];rfl
  ·rw [if_neg c,if_neg (show ¬(s1 x).1=[k] by show ¬[x.1]=[k];intro h;exact c (List.cons.inj h).1)]
theorem b0s(k:d5)(v:V)(xs:List (d5×V)):(K5 xs k v).map s1=K5 (xs.map s1) [k] v:=by
 unfold K5
 rw [a9e]
 split
 ·exact a7P k v xs
 ·rw [Aw];rfl
theorem o9.txt{K:AD}{F H:Hp}{a:AB}(s:d6 F H)(n:H a=none):o9 K F H F (upd H a (.dK [])) (.ref a) (.ow (.txt [])):=
 ⟨S0.layH s n,⟨a,[],rfl,s.free n,f7,rfl⟩,fun _ _ _ e=>by cases e;exact n⟩
theorem a1c{K:AD}{F H:Hp}{r:b9}{x:Str}{v:V}(e:Y7 r=some x)(h:J6 K F H v r):v=kV (.inr x):=by
 unfold Y7 at e
 split at e
 ·cases e;exact h
 ·cases e
section
variable {X:Cx}
def b3b:M:=fun _=>some (.ow (.txt []))
theorem b2O{pos:Pos}:EE X (.Dict [] [] pos) b3b:=
 o8 b0k fun σ H Q ⟨F,ρ,r,en,e,k⟩=>by
  cases e
  exact fun d hd=>k _ _ _ (o9.txt en.fh hd)
def a6q(i:Nat)(ρ:a9)(p:PV)(x:Str):Option Fl:=match ρ[i]? with
 |some (some (.ow (.txt kvs)))=>if kvs.length<AK then some (.nx (ρ.set i (some (.ow (.txt (V7 kvs [.inr x] p)))))) else none
 |_=>none
def a7I(i:Nat)(mk mv:M):MS:=fun ρ=>((mv ρ).bind b9.toVal).bind fun p=>((mk ρ).bind Y7).bind (a6q i ρ p)
theorem b1c(i:Nat){x:Str}{p tp2 pos:Pos}{ek e:AE}{mk mv:M}(hu:X.A.units+64<cLine)(hx:PE X (.Name x p) (a0w i))(hi:EE X ek mk)(he:EE X e mv)
 (hs:swapsWith e (some (.Subscript (.Name x p) ek tp2)) pos.line X.env=pure false:=by rfl):ES X (.Assign [.Subscript (.Name x p) ek tp2] e pos) (a7I i mk mv):=
 D0 (a7M (by lia) hx hi he hs) fun D σ H ⟨F0,H0,F,ρ,fl,so,e,fin⟩=>by
  obtain⟨q,e1,e⟩:=bind_some e
  obtain⟨r,e2,e3⟩:=bind_some e1
  obtain⟨k,e4,e⟩:=bind_some e
  obtain⟨rk,e4,e5⟩:=bind_some e4
  refine⟨F,ρ,r,so.e,e2,fun v F1 H1 o=> ?_⟩
  obtain⟨F2,o2⟩:=o.toVal e3
  have so2:=so.ext o2.x
  unfold a6q at e
  split at e
  ·rename_i kvs eo
   split at e
   ·rename_i hl
    cases e
    obtain⟨w,hw1,a,xs,rfl,fa,ha',rl⟩:=so2.e.at_ i _ eo
    refine⟨.ref a,hw1,F2,ρ,rk,so2.e,e4,fun y F3 H3 o3=> ?_⟩
    cases a1c e5 o3.rep
    have ha3:=o3.x.h _ _ ha'
    have so3:=so2.ext o3.x
    have hlen:xs.length=kvs.length:=by have:=rl.length;rwa [Aa] at this
    refine⟨a,_,rfl,a5n.k (k:= .inr k) ha3 (by rw [hlen];exact hl), ?_⟩
    refine fin σ _ _ (o2.x.f.trans o3.x.f) (so3.putT eo hw1 ?_)
    rw [b0s]
    exact(m6.mono o3.x.f _ rl).put (p8.mono o3.x.f _ o2.rep)
   ·cases e
  ·cases e
def a6p(i:Nat)(ρ:a9)(x:Str):Option b9:=match ρ[i]? with
 |some (some (.ow (.txt kvs)))=>(l9 kvs [.inr x]).map .val
 |_=>none
def a2h(i:Nat)(mk:M):M:=fun ρ=>((mk ρ).bind Y7).bind (a6p i ρ)
theorem a4O(i:Nat){x:Str}{p pos:Pos}{ek:AE}{mk:M}(hu:X.A.units+64<cLine)(hx:PE X (.Name x p) (a0w i))(hi:EE X ek mk)(hs:a87 ek:=by intro _ _;rfl):EE X (.Subscript (.Name x p) ek pos) (a2h i mk):=
 o8 (a49 (by lia) hx hi hs) fun σ H Q ⟨F,ρ,r,en,e,k⟩=>by
  obtain⟨kk,e4,e⟩:=bind_some e
  obtain⟨rk,e4,e5⟩:=bind_some e4
  unfold a6p at e
  split at e
  ·rename_i kvs eo
   cases hv:l9 kvs [.inr kk] with
   |none=>rw [hv] at e;cases e
   |some q=>
    rw [hv] at e;cases e
    obtain⟨w,hw1,a,xs,rfl,fa,ha',rl⟩:=en.at_ i _ eo
    obtain⟨y,hy,ry⟩:=(rl.val (k:=[.inr kk])).1 q hv
    rw [a5m] at hy
    refine⟨.ref a,hw1,F,ρ,rk,en,e4,fun z F3 H3 o3=> ?_⟩
    cases a1c e5 o3.rep
    exact⟨a,y,rfl,by rw [<-hy];exact a0V.k (o3.x.h _ _ ha'),k _ _ _ (o9.val o3.x (p8.mono o3.x.f _ ry))⟩
  ·cases e
def b0E(neg:Bool)(i:Nat)(ρ:a9)(x:Str):Option b9:=match ρ[i]? with
 |some (some (.ow (.txt kvs)))=>some (.val (.bool (if neg then !(l9 kvs [.inr x]).isSome else(l9 kvs [.inr x]).isSome)))
 |_=>none
def a95(neg:Bool)(i:Nat)(mk:M):M:=fun ρ=>((mk ρ).bind Y7).bind (b0E neg i ρ)
theorem b17{i:Nat}{mk:M}{neg:Bool}{σ:L2.St}{H:Hp}{Q:VK}(h:tM X.K (a95 neg i mk) σ H Q):
 tM X.K mk σ H fun y H1=>a0w i σ H1 fun x H2=>∃a o,x= .ref a/\a0V H2 a y o/\Q (.bl (if neg then !o.isSome else o.isSome)) H2:=by
 obtain⟨F,ρ,r,en,e,k⟩:=h
 obtain⟨kk,e4,e⟩:=bind_some e
 obtain⟨rk,e4,e5⟩:=bind_some e4
 unfold b0E at e
 split at e
 ·rename_i kvs eo
  cases e
  refine⟨F,ρ,rk,en,e4,fun y F3 H3 o3=> ?_⟩
  cases a1c e5 o3.rep
  obtain⟨w,hw1,a,xs,rfl,fa,ha',rl⟩:=(en.ext o3.x).at_ i _ eo
  refine⟨.ref a,hw1,a,R7 xs (.inr kk),rfl,a0V.k ha', ?_⟩
  have:=rl.isSome (k:=[.inr kk])
  rw [a5m] at this
  rw [this]
  exact k _ _ _ (o9.val o3.x rfl)
 ·cases e
theorem a8h(i:Nat){x:Str}{p pos:Pos}{ek:AE}{mk:M}(hu:X.A.units+64<cLine)(hx:PE X (.Name x p) (a0w i))(hi:EE X ek mk)(hm:behindInMarks .NotIn (.Name x p)=false):ET X (.Compare ek [.NotIn] [.Name x p] pos) (U3 (a95 true i mk)):=
 a5c (b3D (a8M (by lia) hi hx) hm) fun σ H Q h=>b4z (fun _ _ _ h=>b17 h) h
end
theorem a8C(i:Nat)(mk mv:M)(ρ:a9):a7I i mk mv ρ=((mv ρ).bind b9.toVal).bind fun p=>((mk ρ).bind Y7).bind (a6q i ρ p):=Eq.trans rfl rfl
theorem a1Q(i:Nat)(mk:M)(ρ:a9):a2h i mk ρ=((mk ρ).bind Y7).bind (a6p i ρ):=Eq.trans rfl rfl
theorem a96(neg:Bool)(i:Nat)(mk:M)(ρ:a9):a95 neg i mk ρ=((mk ρ).bind Y7).bind (b0E neg i ρ):=Eq.trans rfl rfl
abbrev ItO(f0:AA)(f1:Bool)(d:AB)(i n ep:Nat)(ok ov:AA):Obj:={cls:= .type "dict_itemiterator",dict:=none,data:= .fields #[f0,.bool f1,.ref d,.int i 0,.int n 0,.int ep 0,ok,ov],slots:= #[]}
def ItA(h:Heap)(it d:AB)(i n ep:Nat):Prop:=∃f0 f1 ok ov,h.get? it=some (ItO f0 f1 d i n ep ok ov)/\((f0= .none/\f1=false)\/∃a o,f0=rawInt (a:Nat)/\h.get? a=some o/\a≠it)
theorem ItA.at'{h h':Heap}{it d:AB}{i n ep:Nat}(x:ItA h it d i n ep)(e:∀b o,h.get? b=some o->h'.get? b=some o):ItA h' it d i n ep:=by
 obtain⟨f0,f1,ok,ov,h1,h2⟩:=x
 refine⟨f0,f1,ok,ov,e _ _ h1, ?_⟩
 rcases h2 with h2|⟨a,o,h2,h3,h4⟩
 ·exact .inl h2
 ·exact .inr ⟨a,o,h2,e _ _ h3,h4⟩
section
variable {prog:AI}{w:AG}{K:Type}[DecidableEq K]{knd:KeyKind prog w K}{A:AJ}{E:AA->AC->Prop}{s:AC}
end
section
variable {prog:AI}{w:AG}{A:AJ}{E:AA->AC->Prop}{s:AC}
def a6w(h:Heap)(lo:Nat)(v:AA)(kv:d5×AA):Prop:=∃a key,v= .ref a/\lo<=a/\a3c kv.1 key=true/\h.get? a=some {cls:= .type "tuple",data:= .seq #[key,kv.2]}
theorem a6w.keep{h h':Heap}{lo:Nat}{v:AA}{kv:d5×AA}(x:a6w h lo v kv)(e:∀b o,lo<=b->(∀xs n,o.data= .seq xs n->o.cls= .type "tuple"->h.get? b=some o->h'.get? b=some o)):a6w h' lo v kv:=
 let ⟨a,key,r,l,k,g⟩:=x;⟨a,key,r,l,k,e a _ l _ _ rfl rfl g⟩
end
end PU
namespace TS
open PySem PySem.Spec PyProof.Rows L2 PU
section
variable {prog:AI}{w:AG}{A:AJ}{E:AA->AC->Prop}{s:AC}
variable {κ:SortKind}{S:Heap->Keyed->Prop}{R:Heap->Keyed->Keyed->Bool}
end
end TS
namespace PU
open PySem PySem.Spec PyProof.Rows L2 PySem.W
section
variable {X:Cx}{pins:List (AB×Obj)}{σ:L2.St}{H H':Hp}{s:AC}{h':Heap}
theorem d9.many{t':Nat}(I:d9 X pins σ H s)(k:∀b u,s.heap.get? b=some u->h'.get? b=some u)(old:∀b,b<s.heap.objs.size->H' b=H b)(new:∀b o,s.heap.objs.size<=b->H' b=some o->B5 X.prog X.w H' h' b o):
 d9 X pins σ H' {s with heap:=h',toks:=t'}:=by
 have tr:∀b o,H b=some o->H' b=some o:=fun b o e=>by rw [old b (I.hok.lt e)];exact e
 refine I.un ⟨fun b u q _ _ _=>k b u q,fun b u q _ _ _=>⟨u.slots,k b u q⟩,fun b u q n _=>by rw [old b (AT q)];exact n,fun b u q _=>⟨u,k b u q⟩,fun b xs q=>tr b _ q,fun b u xs q=>tr b _ q,fun b ps q=>⟨#[],by rw [tr b _ q];simp⟩⟩ fun b o e=> ?_
 rcases Nat.lt_or_ge b s.heap.objs.size with hb|hb
 ·rw [old b hb] at e
  exact(I.hok b o e).stay (fun c v _ q=>k c v q) (fun c q=>tr c _ q) fun c xs q=>tr c _ q
 ·exact new b o hb e
end
section
variable {X:Cx}
end
section
variable {X:Cx}
end
open PySem PySem.Spec PyProof.Rows L2
section
variable {X:Cx}{pins:List (AB×Obj)}{σ:L2.St}{H:Hp}{s:AC}{a:AB}{kvs:List (d5×V)}{k:d5}{v:V}{u r:AA}{A:AJ}{E:AA->AC->Prop}
theorem a9n{Q:Unit->AC->Prop}(I:d9 X pins σ H s)(e:H a=some (.dK kvs))(ry:j6 (kV k) u)(l:kvs.length<AK)(rv:j6 v r)(h:∀s',d9 X pins σ (upd H a (.dK (K5 kvs k v))) s'->Q () s'):
 AH (model X.prog X.w) A (dictSet a u r) Q E s:=by
 obtain⟨z,hd,vs,rel,dd⟩:=b2f I.hok e
 have hz:vs.length<=AK:=by rw [<-rel.length];exact z
 have hl:(K5 kvs k v).length<=AK:=by have:=Q3 kvs k v;lia
 refine wpAny_dictSet_pairs (hsz:=hz) (a5U ry) dd fun h' dd' hs=>h _ ?_
 have he:∃q,h'.get? a=some q:=let ⟨q,_,_,hq,_⟩:=dd';⟨q,hq⟩
 exact a4K I (by rw [e];exact True.intro) hs he (a9o hl hd (rel.put k rv) dd')
end
theorem b0B{K:AD}{H:Hp}{a D:AB}{xs:List V}{kvs kvs':List (d5×V)}(e:H D=some (.dK kvs))(h:W4 K H a xs):W4 K (upd H D (.dK kvs')) a xs:=by
 rcases h with(h|⟨o,h⟩)|h
 ·exact .inl (.inl (by rw [d3 (M6 h e (fun z=>nomatch z))];exact h))
 ·exact .inl (.inr ⟨o,by rw [d3 (M6 h e (fun z=>nomatch z))];exact h⟩)
 ·exact .inr h
theorem b0A{K:AD}{H:Hp}{a D:AB}{xs:List V}{kvs kvs':List (d5×V)}(e:H D=some (.dK kvs))(h:J2 K H a xs):J2 K (upd H D (.dK kvs')) a xs:=by
 rcases h with(h|⟨o,h⟩)|h
 ·exact .inl (.inl (by rw [d3 (M6 h e (fun z=>nomatch z))];exact h))
 ·exact .inl (.inr ⟨o,by rw [d3 (M6 h e (fun z=>nomatch z))];exact h⟩)
 ·exact .inr h
def a0X(K:AD)(H:Hp)(p:d5×V)(x:V):Prop:=∃a,x= .ref a/\W4 K H a [kV p.1,p.2]
theorem a0X.upd{K:AD}{H:Hp}{D:AB}{kvs kvs':List (d5×V)}(e:H D=some (.dK kvs)){p:d5×V}{x:V}(h:a0X K H p x):a0X K (upd H D (.dK kvs')) p x:=
 let ⟨a,h1,h2⟩:=h
 ⟨a,h1,b0B e h2⟩
def a1q(kvs k4:List (d5×V)):List (d5×V):=k4.foldl (fun d p=>K5 d p.1 p.2) kvs
section
variable {X:Cx}{pins:List (AB×Obj)}{σ:L2.St}{A:AJ}{R:Result->AC->Prop}
theorem a6e(hu:A.units+8<cLine)(hh:A.handled=none){D it l:AB}{xs:List V}:∀(k4:List (d5×V)) (i:Nat) (s:AC) (kvs:List (d5×V)) (H:Hp) (n:Int) (tk:Tok),d9 X pins σ H s->H D=some (.dK kvs)->J2 X.K H l xs->Paired (a0X X.K H) k4 (xs.drop i)->s.heap.IsListIter it l i->
 a3T X pins H it->kvs.length+k4.length<=AK->(∀s',d9 X pins σ (upd H D (.dK (a1q kvs k4))) s'->R (.ok (.ret .none)) s')->
 codeAny (model X.prog X.w) A (.builtin "dict.update.loop" ⟨[.ref D,.ref it,.int n tk,.none],[]⟩) R s:=by
 intro k4
 induction k4 with
 |nil=>
  intro i s kvs H n tk I hD hl hp hi hf hz hR
  refine codeAny_builtin S5 ?_
  rw [Around.under_plainId C3 _]
  obtain⟨its,rv,p,_⟩:=I.list hl
  obtain⟨f0,f1,f2,f3,f4,f5⟩:=hf
  have hlen:=rv.length
  have hp':(xs.drop i).length=0:=(Paired.length hp).symm
  rw [List.length_drop] at hp'
  show AH _ A.in1 (pyNext (.ref it)>>=_) _ _ s
  refine AL (wpAny_pyNext_list_end (show A.in1.handled=none from hh) hi p.isList (by simp;lia) fun h' eb=> ?_)
  have I1:d9 X pins σ H {s with heap:=h'}:=I.turned (t':=s.toks) (fun b o hb e=>eb b o hb e) f0 f1 f3 f4 f5
  have e:upd H D (.dK (a1q kvs []))=H:=by
   funext b
   show(if b=D then some (HO.dK kvs) else H b)=H b
   split
   ·rename_i h;rw [h,hD]
   ·rfl
  rw [e] at hR
  show AH _ A.in1 (Builtin.Dict.addKeywords D []>>=_) _ _ _
  exact AL (AR (AR (hR _ I1)))
 |cons pr k4 ih=>
  intro i s kvs H n tk I hD hl hp hi hf hz hR
  obtain⟨x,r,hx,h1,h2⟩:∃x r,xs.drop i=x::r/\a0X X.K H pr x/\Paired (a0X X.K H) k4 r:=by
   generalize xs.drop i=ys at hp
   cases hp with
   |cons a b=>exact⟨_,_,rfl,a,b⟩
  have hxi:xs[i]?=some x:=by
   have:(xs.drop i)[0]?=some x:=by rw [hx];rfl
   rw [List.getElem?_drop] at this
   exact this
  have hr:xs.drop (i+1)=r:=by
   rw [<-List.drop_drop,hx];rfl
  refine codeAny_builtin S5 ?_
  rw [Around.under_plainId C3 _]
  obtain⟨its,rv,p,_⟩:=I.list hl
  obtain⟨f0,f1,f2,f3,f4,f5⟩:=hf
  obtain⟨u,hu,ru⟩:=rv.get hxi
  show AH _ A.in1 (pyNext (.ref it)>>=_) _ _ s
  refine AL (wpAny_pyNext_list_item hi p.isList (x:=u) (by simpa using hu) fun h' st' sb=> ?_)
  have I1:d9 X pins σ H {s with heap:=h'}:=I.turned (t':=s.toks) (fun b o hb e=>(sb.2 b hb).trans e) f0 f1 f3 f4 f5
  obtain⟨a,rfl,hq⟩:=h1
  cases(show u=Value.ref a from ru)
  obtain⟨its2,rv2,⟨o,ho,hoc,n2,hod⟩,_⟩:=I1.tuple hq
  obtain⟨u1,u2,rfl,ru1,ru2⟩:∃u1 u2,its2=[u1,u2]/\j6 (kV pr.1) u1/\j6 pr.2 u2:=by
   cases rv2 with
   |cons a1 t1=>cases t1 with
    |cons a2 t2=>cases t2;exact⟨_,_,rfl,a1,a2⟩
  have hT:Shared.TypeIs {s with heap:=h'} (.ref a) "tuple":=⟨o,ho,hoc⟩
  obtain⟨oi,hoi,hci,hdi⟩:=id st'
  have I1':=I1.pinned (fp:=[it]) (fun b hb=>by
   have e:b=it:=by simpa using hb
   subst e
   exact⟨f0,f1,f2,f3,f4,f5⟩) (fun b hb=>by
   have e:b=it:=by simpa using hb
   subst e
   exact⟨oi,hoi,fun v z=>by rw [hdi] at z;cases z⟩)
  refine AL (wpAny_holding ?_)
  refine AL (wpAny_tryCatch ?_)
  unfold Builtin.Dict.pairItems
  refine AL (wpAny_typeOf hT ?_)
  rw [if_pos (by decide)]
  unfold seqItems?
  refine AL (AL (wpAny_load ho ?_))
  rw [hod]
  refine AR (AR ?_)
  show AH _ A.in1 (holding [u1,u2] (dictSet D u1 u2)) _ _ _
  refine wpAny_holding (a9n I1' hD ru1 (by rw [AW] at hz;lia) ru2 fun s2 I2'=> ?_)
  have I2:=I2'.unpinned
  have hl2:=Q3 kvs pr.1 pr.2
  have hD2:upd H D (.dK (K5 kvs pr.1 pr.2)) D=some (.dK (K5 kvs pr.1 pr.2)):=f7
  have hit:it≠D:=fun z=>by rw [z,hD] at f0;cases f0
  refine AR ⟨plainId_quiet C3 _, ?_⟩
  refine ih (i+1) s2 (K5 kvs pr.1 pr.2) (upd H D (.dK (K5 kvs pr.1 pr.2))) _ _ I2 hD2 (b0A hD hl) (by rw [hr];exact Paired.mapP h2 fun p q z=>z.upd hD) ?_ ⟨by rw [d3 hit];exact f0,f1,f2,f3,f4,f5⟩ (by rw [AW] at hz;lia) fun s' I'=>hR s' (by rw [a7Z] at I';exact I')
  exact st'.at fun o e=>(I2'.pin (it,o) (Aq _ (Aq _ (P3 (by simp) e)))).1
end
def b1O(K:AD):List V->Hp->VK->Prop:=fun vs H Q=>∃l xs kvs,vs=[.ref l]/\J2 K H l xs/\Paired (a0X K H) kvs xs/\∀a,H a=none->Q (.ref a) (upd H a (.dK (a1q [] kvs)))
section
variable {X:Cx}
theorem a8b(hc:X.calm=true)(hu:X.A.units+64<cLine):C5 X (.type "dict") (b1O X.K):=by
 intro pins s σ H vs us Q I rv h
 obtain⟨l,xs,kvs,rfl,hl,hp,k⟩:=h
 obtain⟨us1,rfl⟩:∃u,us=[u]:=by
  cases rv with
  |cons a t=>cases t;exact⟨_,rfl⟩
 cases rv with
 |cons ru _=>
 cases(show us1=Value.ref l from ru)
 have hn:=I.hok.fresh (AM s.heap.objs.size)
 have I1:=I.laid (a:=s.heap.objs.size) (o:= .dK []) (h':=s.heap.push {cls:= .type "dict",data:= .dict #[]}) (t':=s.toks) (fun _ _ q=>Ag _ q) (AM _) (a5E s.heap I.big)
 have hD:upd H s.heap.objs.size (.dK []) s.heap.objs.size=some (.dK []):=f7
 have dsame:∀b u,H b=some u->upd H s.heap.objs.size (.dK []) b=some u:=fun b u e=>by rw [d3 (i3 e hn)];exact e
 have hl1:J2 X.K (upd H s.heap.objs.size (.dK [])) l xs:=by
  rcases hl with(h|⟨o,h⟩)|h
  ·exact .inl (.inl (dsame _ _ h))
  ·exact .inl (.inr ⟨o,dsame _ _ h⟩)
  ·exact .inr h
 have hp1:Paired (a0X X.K (upd H s.heap.objs.size (.dK []))) kvs xs:=Paired.mapP hp fun p x ⟨a,e1,e2⟩=>⟨a,e1,(by
  rcases e2 with(h|⟨o,h⟩)|h
  ·exact .inl (.inl (dsame _ _ h))
  ·exact .inl (.inr ⟨o,dsame _ _ h⟩)
  ·exact .inr h)⟩
 have hh:=I.ok.hd hc
 refine callType_codes (Q₁:=fun obj s₁=>obj= .ref s.heap.objs.size/\s₁={s with heap:=s.heap.push {cls:= .type "dict",data:= .dict #[]}}) F.kt_called_dict (F.kt_typeCall_dict_1 _) F.entry_dict_init (kt_code_dict_new _ ⟨rfl,rfl⟩) ?_
 rintro obj s₁ ⟨rfl,rfl⟩
 have hT:Shared.TypeIs {s with heap:=s.heap.push {cls:= .type "dict",data:= .dict #[]}} (.ref s.heap.objs.size) "dict":=⟨_,Ao _ rfl,rfl⟩
 refine⟨hT,F.args_dict_init_2 _ _, ?_⟩
 obtain⟨its,rvl,⟨ol,n,hol,hcl,hdl,hdatl⟩,hz⟩:=I1.list hl1
 unfold Builtin.«dict.__init__»
 refine AL ?_
 unfold Builtin.Dict.selfAndRest
 refine AL (wpAny_notOrdered_dict hT ?_)
 show AH _ _ (pure (s.heap.objs.size,[Value.ref l])) _ _ _
 refine AR ?_
 show AH _ _ (Builtin.Dict.updateFrom "dict.__init__" s.heap.objs.size (.ref l) [] .none) _ _ _
 unfold Builtin.Dict.updateFrom
 refine AL (wpAny_typeOf (T:="list") ⟨_,hol,hcl⟩ ?_)
 rw [if_pos (by decide)]
 refine AL (a0Z (A:=X.A.in1.in1) hol hcl hdatl hdl a40 (by decide+kernel) hh (fun h' tk kp=> ?_) (by rw [sizeLine_eq];decide+kernel))
 have I2:d9 X pins σ _ {s with heap:=h',toks:=tk}:=I1.kept (t':=tk) kp
 rw [if_pos (show(none:Option AA).isNone=true from rfl)]
 refine AL (wpAny_rule ?_)
 obtain⟨its3,rv3,p3,_⟩:=I2.list hl1
 refine AL (wpAny_pyIter_list p3.isList ?_)
 have I3:=I2.kept (h':=h'.push {cls:= .type "list_iterator",data:= .fields #[.ref l,.int 0 0]}) (t':=tk) fun b o e=>Ag _ e
 have hit:=I2.hok.fresh (AM h'.objs.size)
 have hlen:=Paired.length hp
 refine AR ⟨plainId_quiet C3 _, ?_⟩
 refine a6e (X:=X) (pins:=pins) (σ:=σ) (A:=X.A.in1) (xs:=xs) (show X.A.units+1+8<cLine by lia) hh kvs 0 _ [] _ _ _ I3 hD hl1 hp1 ⟨_,Ao _ rfl,rfl,rfl⟩ (I2.fpOk (AM _) hit) (by rw [Aj,Nat.zero_add,hlen];exact hz) fun s' I'=> ?_
 refine⟨rfl,.ref s.heap.objs.size,_,I',rfl, ?_⟩
 rw [a7Z]
 exact k _ hn
end
def b0j(p:PV):Option (List d5×PV):=match p with
 | .tuple [.str x,v]=>some ([.inr x],v)
 |_=>none
def Q4:List PV->Option (List (List d5×PV))
 |[]=>some []
 |p::ps=>(b0j p).bind fun a=>(Q4 ps).map fun r=>a::r
def a4R(x:b9):Option b9:=match x.rd with
 | .list ps=>(Q4 ps).map fun kvs=> .ow (.txt (a4p [] kvs))
 |_=>none
theorem a2k{K:AD}{F H:Hp}(s:d6 F H):∀{ps:List PV} {xs:List V} {kvs:List (List d5×PV)},Q4 ps=some kvs->d8 K F ps xs->∃ys:List (d5×V),Paired (a0X K H) ys xs/\m6 K F kvs (ys.map s1)
 |[],_,_,e,h=>by cases e;cases h;exact⟨[],.nil,rfl⟩
 |p::ps,_,_,e,⟨x,r,hx,h1,h2⟩=>by
  subst hx
  obtain⟨a,e1,e⟩:=bind_some e
  cases hq:Q4 ps with
  |none=>rw [hq] at e;cases e
  |some kvs=>
   rw [hq] at e
   cases e
   obtain⟨ys,pr,rd⟩:=a2k s hq h2
   unfold b0j at e1
   split at e1
   ·rename_i k v
    cases e1
    obtain⟨t,zs,rfl,ht,y1,_,rfl,r1,y2,_,rfl,r2,hnil⟩:=h1
    cases hnil
    cases(show y1=V.str k from r1)
    exact⟨(.inr k,y2)::ys,.cons ⟨t,rfl,A0 s ht.sq⟩ pr,y2,_,rfl,r2,rd⟩
   ·cases e1
theorem a7N:∀(ws ys:List (d5×V)),(a1q ys ws).map s1=a66 (ys.map s1) (ws.map s1)
 |[],ys=>rfl
 |(k,v)::r,ys=>by
  show(a1q (K5 ys k v) r).map s1=a66 (K5 (ys.map s1) [k] v) (r.map s1)
  rw [a7N r,b0s]
section
variable {X:Cx}
theorem a9j(hc:X.calm=true)(hu:X.A.units+64<cLine):C5 X (.type "dict") (rC1 X.K a4R):=by
 intro pins s σ H xs us Q I rv h
 obtain⟨F,x,rx,rz,rfl,s0,h1,h2,k⟩:=h
 unfold a4R at h2
 split at h2
 ·rename_i ps e
  cases hq:Q4 ps with
  |none=>rw [hq] at h2;cases h2
  |some kvs=>
   rw [hq] at h2
   cases h2
   obtain⟨a,ys,rfl,hs,r⟩:∃a ys,x= .ref a/\J2 X.K H a ys/\d8 X.K F ps ys:=by
    cases rx with
    |val p=>
     have e:p= .list ps:=e
     subst e
     obtain⟨a,ys,e1,e2,e3⟩:=h1
     exact⟨a,ys,e1,T9 s0 e2,e3⟩
    |ow z=>cases z<;>cases e;obtain⟨a,ys,e1,_,e2,e3⟩:=h1;exact⟨a,ys,e1,J2.of e2,e3⟩
    |bo z=>cases z<;>cases e;obtain⟨a,ys,e1,_,e2,e3⟩:=h1;exact⟨a,ys,e1,J2.of e2,e3⟩
   obtain⟨zs,pr,rd⟩:=a2k s0 hq r
   refine a8b hc hu pins s σ H _ us Q I rv ⟨a,ys,zs,rfl,hs,pr,fun d hd=>k _ F _ ⟨S0.layH s0 hd,⟨d,_,rfl,s0.free hd,f7, ?_⟩,fun _ _ _ e=>by cases e;exact hd⟩⟩
   rw [a7N]
   exact a4s (ys:=[]) rfl rd
 ·cases h2
end
abbrev tv(kvs:List (List d5×PV)):PV:= .dict (kvs.map fun kv=>(PyData.tuple (kv.1.map kP),kv.2))
def ones(kvs:List (List d5×PV)):Bool:=kvs.all fun kv=>kv.1.length==1
def tvw(i:Nat)(ρ:a9):Option (List (List d5×PV)):=match ρ[i]? with
 |some (some (.val (.dict es)))=>(unE es).bind fun kvs=>if ones kvs=true then some kvs else none
 |_=>none
theorem b0I{i:Nat}{ρ:a9}{kvs:List (List d5×PV)}(h:ρ[i]?=some (some (.val (tv kvs))))(ho:ones kvs=true):tvw i ρ=some kvs:=by
 unfold tvw
 rw [h]
 show(unE _).bind _=_
 rw [a7b,AF,if_pos ho]
theorem b3U{K:AD}{F H:Hp}{σ:L2.St}{ρ:a9}(en:n8 K F H σ ρ){i:Nat}{kvs:List (List d5×PV)}(h:tvw i ρ=some kvs):∃a xs,σ[i]?=some (some (.ref a))/\F a=some (.dK xs)/\m6 K F kvs (xs.map s1):=by
 unfold tvw at h
 split at h
 ·rename_i es eo
  obtain⟨kvs',e1,h⟩:=bind_some h
  split at h
  ·rename_i ho
   cases h
   obtain⟨v,hv,hr⟩:=en.at_ i _ eo
   rcases hr with⟨a,ys,rfl,ha,hr⟩|⟨a,xs,rfl,ha,hr⟩|⟨x,t,e,_⟩
   ·obtain⟨kvs',h1,h2⟩:=a2M hr
    rw [e1] at h1
    cases h1
    exact⟨a,ys,hv,ha,h2⟩
   ·exfalso
    obtain⟨kvs',h1,h2⟩:=a2M hr
    rw [e1] at h1
    cases h1
    cases kvs with
    |nil=>cases h2
    |cons f fs=>
     obtain⟨k,p⟩:=f
     obtain⟨v,t,e,_⟩:=h2
     cases e
     simp [ones] at ho
   ·subst e
    simp [unE] at e1
  ·cases h
 ·cases h
section
variable {X:Cx}
def a0R(i:Nat)(mk:M):M:=fun ρ=>((mk ρ).bind Y7).bind fun x=>(tvw i ρ).bind fun kvs=>(l9 kvs [.inr x]).map .val
theorem a5H(i:Nat){x:Str}{p pos:Pos}{ek:AE}{mk:M}(hu:X.A.units+64<cLine)(hx:PE X (.Name x p) (a0w i))(hi:EE X ek mk)(hs:a87 ek:=by intro _ _;rfl):EE X (.Subscript (.Name x p) ek pos) (a0R i mk):=
 o8 (a49 (by lia) hx hi hs) fun σ H Q ⟨F,ρ,r,en,e,k⟩=>by
  obtain⟨kk,e4,e⟩:=bind_some e
  obtain⟨rk,e4,e5⟩:=bind_some e4
  obtain⟨kvs,e3,e⟩:=bind_some e
  cases hv:l9 kvs [.inr kk] with
  |none=>rw [hv] at e;cases e
  |some q=>
   rw [hv] at e;cases e
   obtain⟨a,xs,hw1,ha',rl⟩:=b3U en e3
   obtain⟨y,hy,ry⟩:=(rl.val (k:=[.inr kk])).1 q hv
   rw [a5m] at hy
   refine⟨.ref a,hw1,F,ρ,rk,en,e4,fun z F3 H3 o3=> ?_⟩
   cases a1c e5 o3.rep
   exact⟨a,y,rfl,by rw [<-hy];exact a0V.k (o3.x.h _ _ (en.fh _ _ ha')),k _ _ _ (o9.val o3.x (p8.mono o3.x.f _ ry))⟩
end
mutual
def nk:PV->Bool
 | .list ps=>nkL ps
 | .tuple ps=>nkL ps
 | .dict _=>false
 |_=>true
def nkL:List PV->Bool
 |[]=>true
 |p::ps=>nk p && nkL ps
end
def nkD:List (List d5×PV)->Bool
 |[]=>true
 |(_,p)::r=>nk p && nkD r
def b9.noK:b9->Bool
 | .val p=>nk p
 | .ow (.lst ps)=>nkL ps
 | .ow (.dct kvs)=>nkD kvs
 | .ow (.txt kvs)=>nkD kvs
 | .bo _=>false
section
variable {K:AD}{F:Hp}{a:AB}{xs:List (d5×V)}
mutual
theorem a3D(ha:F a=some (.dK xs)):∀(p:PV) {v:V},p8 K F p v->nk p=true->p8 K (drp F a) p v
 | .none,_,h,_=>h
 | .bool _,_,h,_=>h
 | .int _,_,h,_=>h
 | .str _,_,h,_=>h
 | .list ps,_,⟨b,ys,e,q,r⟩,n=>⟨b,ys,e,(by
  rcases q with(q|⟨o,q⟩)|q
  ·exact .inl (.inl (by rw [C7 (M6 q ha (fun z=>nomatch z))];exact q))
  ·exact .inl (.inr ⟨o,by rw [C7 (M6 q ha (fun z=>nomatch z))];exact q⟩)
  ·exact .inr q),a0q ha ps r (by simpa [nk] using n)⟩
 | .tuple ps,_,⟨b,ys,e,q,r⟩,n=>⟨b,ys,e,(by
  rcases q with q|q
  ·exact .inl (by rw [C7 (M6 q ha (fun z=>nomatch z))];exact q)
  ·exact .inr q),a0q ha ps r (by simpa [nk] using n)⟩
 | .dict kvs,_,h,n=>by simp [nk] at n
theorem a0q(ha:F a=some (.dK xs)):∀(ps:List PV) {vs:List V},d8 K F ps vs->nkL ps=true->d8 K (drp F a) ps vs
 |[],_,h,_=>h
 |p::ps,_,⟨v,r,e,q,t⟩,n=>by
  simp only [nkL,Bool.and_eq_true] at n
  exact⟨v,r,e,a3D ha p q n.1,a0q ha ps t n.2⟩
end
theorem a1X(ha:F a=some (.dK xs)):∀(kvs:List (List d5×PV)) {ys:List (List d5×V)},m6 K F kvs ys->nkD kvs=true->m6 K (drp F a) kvs ys
 |[],_,h,_=>h
 |(k,p)::r,_,⟨v,t,e,q,h⟩,n=>by
  simp only [nkD,Bool.and_eq_true] at n
  exact⟨v,t,e,a3D ha p q n.1,a1X ha r h n.2⟩
theorem a8V{H:Hp}{v:V}(ha:F a=some (.dK xs)):∀{r:b9},J6 K F H v r->r.noK=true->J6 K (drp F a) H v r
 | .val p,h,n=>a3D ha p h n
 | .ow (.lst ps),⟨b,ys,e,f,q,r⟩,n=>⟨b,ys,e,S3 f,q,a0q ha ps r n⟩
 | .ow (.dct kvs),⟨b,ys,e,f,q,r⟩,n=>⟨b,ys,e,S3 f,q,a1X ha kvs r n⟩
 | .ow (.txt kvs),⟨b,ys,e,f,q,r⟩,n=>⟨b,ys,e,S3 f,q,a1X ha kvs r n⟩
 | .bo _,_,n=>nomatch n
end
theorem a3f{K:AD}{F2 H1 F3 H3:Hp}{a:AB}{xs:List (d5×V)}{u:V}{r:b9}(fa:F2 a=none)(o3:o9 K (upd F2 a (.dK xs)) H1 F3 H3 u r)(c:r.noK=true):o9 K F2 H1 (drp F3 a) H3 u r:=by
 have up:d6 F2 (upd F2 a (.dK xs)):=x9 fa
 refine⟨⟨fun b o z=> ?_,o3.x.h,fun b o z=> ?_,fun b o z y t=> ?_,fun b w u z=> ?_⟩,a8V (o3.x.f _ _ f7) o3.rep c,o3.fr⟩
 ·have hb:b≠a:=i3 z fa
  rw [C7 hb];exact o3.x.f _ _ (up _ _ z)
 ·by_cases hb:b=a
  ·subst hb;rw [S4] at z;cases z
  ·rw [C7 hb] at z;exact o3.x.fh _ _ z
 ·by_cases hb:b=a
  ·subst hb;exact S4
  ·rw [C7 hb];exact o3.x.nw b o (by rw [d3 hb];exact z) y t
 ·by_cases hb:b=a
  ·subst hb;rw [S4] at z;cases z
  ·rw [C7 hb] at z
   have:=o3.x.nf _ _ _ z
   rw [d3 hb] at this;exact this
theorem a9X{F2 H1:Hp}{a:AB}{xs:List (d5×V)}(fh:d6 F2 H1)(ha:H1 a=some (.dK xs)):d6 (upd F2 a (.dK xs)) H1:=fun b o z=>by
 by_cases hb:b=a
 ·subst hb;rw [f7] at z;cases z;exact ha
 ·rw [d3 hb] at z;exact fh _ _ z
theorem a4g{K:AD}{F2:Hp}{a:AB}{xs:List (d5×V)}{kvs:List (List d5×PV)}(fa:F2 a=none)(rl:m6 K F2 kvs (xs.map s1)):p8 K (upd F2 a (.dK xs)) (tv kvs) (.ref a):=Or.inl ⟨a,xs,rfl,f7,N7.of (x9 fa) rl⟩
def a1g(g:List PV->Option b9)(i:Nat)(m:M):M:=fun ρ=>((m ρ).bind b9.toVal).bind fun p=>match ρ[i]? with
 |some (some (.ow (.txt kvs)))=>(g [p,tv kvs]).bind fun r=>if r.noK=true then some r else none
 |_=>none
section
variable {X:Cx}
theorem a9t(i:Nat){k k':Nat}{pa pb:Str}{g:List PV->Option b9}{x y:Str}{p py pos:Pos}{e:AE}{m:M}
 (d:j9 X.prog X.w X.K X.mg X.base x [pa,pb] k g) (hr:E7 k' X.A) (hk:k<=k') (hg:Gl X x) (ha:EE X e m) (hy:PE X (.Name y py) (a0w i))
 (hdb:(x==("__debug__":Str))=false:=by decide) (he:AN [e,.Name y py] X.env=(false,eval e X.env)::AN [.Name y py] X.env:=by rfl) (he2:AN [.Name y py] X.env=(false,eval (.Name y py) X.env)::AN [] X.env:=by rfl)
 (hpl:(backTo pos (AN [.Name y py] X.env)).any (·.1)=false:=by rfl):
 EE X (.Call (.Name x p) [e,.Name y py] [] pos) (a1g g i m):=by
 obtain⟨f,fd,G,h1,h2,h3⟩:=d
 refine o8 (a2H G (hr.mono hk) hg h1 h2 h3 .nil a6f (C2 ha (C2 hy R4 he2) he) hdb he hpl) fun σ H Q ⟨F,ρ,r,en,hm,kq⟩=> ?_
 obtain⟨q,e1,hm⟩:=bind_some hm
 obtain⟨rq,e2,e3'⟩:=bind_some e1
 split at hm
 ·rename_i kvs eo
  obtain⟨r',e7,hm⟩:=bind_some hm
  split at hm
  ·rename_i c
   cases hm
   refine⟨F,ρ,rq,en,e2,fun v F1 H1 o1=> ?_⟩
   obtain⟨F2,o2⟩:=o1.toVal e3'
   have en2:=en.ext o2.x
   obtain⟨w,hw,a,xs,rfl,fa,ha',rl⟩:=en2.at_ i _ eo
   refine⟨.ref a,hw, ?_⟩
   show spP X.K 2 g ([v,.ref a]++[]) H1 Q E0
   rw [Ab]
   have up:d6 F2 (upd F2 a (.dK xs)):=x9 fa
   exact⟨upd F2 a (.dK xs),[q,tv kvs],_,a9X o2.x.fh ha',⟨v,[.ref a],rfl,p8.mono up _ o2.rep,.ref a,[],rfl,a4g fa rl,rfl⟩,rfl,e7,fun u F5 H5 o5=>kq u (drp F5 a) H5 (o9.trans o2.x (a3f fa o5 c))⟩
  ·cases hm
 ·cases hm
end
theorem a3m(i:Nat)(mk:M)(ρ:a9):a0R i mk ρ=((mk ρ).bind Y7).bind fun x=>(tvw i ρ).bind fun kvs=>(l9 kvs [.inr x]).map .val:=Eq.trans rfl rfl
theorem a5Z(g:List PV->Option b9)(i:Nat)(m:M)(ρ:a9)(kvs:List (List d5×PV))(h:ρ[i]?=some (some (.ow (.txt kvs)))):a1g g i m ρ=((m ρ).bind b9.toVal).bind fun p=>(g [p,tv kvs]).bind fun r=>if r.noK=true then some r else none:=by unfold a1g;rw [h]
def a1E(F:Hp):Hp:=fun c=>match F c with
 |some (.tup ys)=>some (.tup ys)
 |_=>none
theorem a9C{F:Hp}:∀c ys,F c=some (.tup ys)->a1E F c=some (.tup ys):=fun c ys e=>by unfold a1E;rw [e]
theorem a26{F:Hp}{c:AB}{o:HO}(e:a1E F c=some o):F c=some o/\∃ys,o= .tup ys:=by
 unfold a1E at e
 split at e
 ·rename_i ys z;cases e;exact⟨z,ys,rfl⟩
 ·cases e
theorem a8n{F:Hp}{c:AB}(f:F c=none):a1E F c=none:=by unfold a1E;rw [f]
theorem a9B{F:Hp}{c:AB}{xs:List V}(H:Hp)(s:d6 F H)(h:H c=some (.lst xs)):a1E F c=none:=by
 cases e:a1E F c with
 |none=>rfl
 |some o=>
  obtain⟨e1,ys,rfl⟩:=a26 e
  rw [s _ _ e1] at h;cases h
def b2k(A:List Nat)(ρ:a9):Bool:=A.all fun j=>match ρ[j]? with
 |some (some (.val p))=>X1 p
 |_=>false
theorem a8i{K:AD}{F H H':Hp}{σ σ':L2.St}{ρ:a9}{A:List Nat}(en:n8 K F H σ ρ)(fa:b2k A ρ=true)(hs:d6 (a1E F) H')(hl:σ'.length=σ.length)(hσ:∀j∈A,σ'[j]?=σ[j]?):n8 K (a1E F) H' σ' (keep A ρ):=by
 have at_:∀(j:Nat) (q:b9),(keep A ρ)[j]?=some (some q)->∃p v,q= .val p/\σ'[j]?=some (some v)/\p8 K (a1E F) p v:=fun j q z=>by
  obtain⟨z1,z2⟩:=b1n z
  have f1:=List.all_eq_true.mp fa j z1
  rw [z2] at f1
  cases q with
  |val p=>
   obtain⟨v,v1,v2⟩:=en.at_ j _ z2
   exact⟨p,v,rfl,by rw [hσ j z1];exact v1,a3E a9C p f1 v2⟩
  |ow c=>cases f1
  |bo c=>cases f1
 refine⟨hs,by rw [a9S,hl];exact en.len,fun j q z=> ?_,fun j c z=> ?_,fun j k c d a _ z=> ?_⟩
 ·obtain⟨p,v,rfl,h1,h2⟩:=at_ j q z
  exact⟨v,h1,h2⟩
 ·obtain⟨p,v,e,_⟩:=at_ j _ z;cases e
 ·obtain⟨p,v,e,_⟩:=at_ j _ z;cases e
section
variable {X:Cx}
end
section
variable {prog:AI}{w:AG}{A:AJ}{E:AA->AC->Prop}{s:AC}{z TI TO i1 i2:AB}{n1 n2 i:Nat}{P1 P2:Nat->AA->Prop}{St1 St2:Nat->Heap->Prop}{a b:AA}
end
section
variable {X:Cx}
end
section
variable {prog:AI}{w:AG}{K:Type}[DecidableEq K]{knd:KeyKind prog w K}{A:AJ}{E:AA->AC->Prop}{s:AC}
end
section
variable {X:Cx}
end
section
variable {X:Cx}{tg:AE}
end
end PU
set_option maxHeartbeats 3200000
namespace PU
open PySem PySem.Spec PyProof.Rows L2 PySem.W
section
variable {prog:AI}{w:AG}{A:AJ}{E:AA->AC->Prop}{s:AC}
end
end PU
set_option maxHeartbeats 1000000
namespace PU
open PySem PySem.Spec PyProof.Rows L2
section
variable {X:Cx}
def b4u(X:Cx):List V->Hp->VK->Prop:=fun xs H Q=>∃(a:AB) (zs:List Str),xs=[.ref a]/\H a=some (.lst (zs.map V.str))/\zs.length+1<4096/\∀p es ep,H p=none->TxE es zs->es.size<=zs.length->Q (.ref p) (upd H p (.ext fun h=>a71 X.prog X.w h p es ep))
end
section
variable {X:Cx}
end
section
variable {X:Cx}
end
section
open AutoSeq1 (wpAny_loadPart')
open PySem.MeetsSeq3 (plain_eq_loop entry_eq_loop)
theorem a8y(l b:AB)(xs ys:Array AA)(n n2:Nat)(dd dd2:Option AB)(sl sl2:Array (Option AA))(e:Nat->Bool)(c:Bool)(k:Nat):
 ∀i:Nat,min xs.size ys.size - i=k->i<=min xs.size ys.size->(∀j,j<i->e j=true)->Meets (Builtin.«list.__eq__.loop» ⟨[.ref l,.ref b,rawInt i,rawInt 0],[]⟩)
  (fun A R s=>s.heap.get? l=some {cls:= .type "list",dict:=dd,data:= .seq xs n,slots:=sl}/\s.heap.get? b=some {cls:= .type "list",dict:=dd2,data:= .seq ys n2,slots:=sl2}/\
   (∀j (h1:j<xs.size) (h2:j<ys.size),SeqAt.EqAt A.in1 s xs[j] ys[j] (e j))/\(∀j (h1:j<xs.size) (h2:j<ys.size),(∀k,k<j->e k=true)->e j=false->X4 A.in1 s xs[j] ys[j] c)/\
   ((∀k,k<min xs.size ys.size->e k=true)->c=decide (xs.size<ys.size))/\R (.ok (.ret (.bool c))) s):=by
 induction k with
 |zero=>
  intro i hk hi hb4 prog w A R s h
  obtain⟨hp,g,d,tk,os⟩:=s;obtain⟨hl,hb,he,hlt,hce,h⟩:=h
  have hce':=hce fun k hk'=>hb4 k (by lia)
  wp_walk using wpAny_loadPart' hl,wpAny_loadPart' hb
  rcases Nat.lt_or_ge i xs.size with h1|h1
  ·have h2:ys.size<=i:=by lia
   have hi1:xs[((i:Nat):Int).toNat]?=some xs[i]:=by simp [h1]
   have hi2:ys[((i:Nat):Int).toNat]?=none:=by simp;lia
   rw [hi1,hi2]
   wp_walk using wpAny_loadPart' hl,wpAny_loadPart' hb
   show R (.ok (.ret (.bool (decide (xs.size<ys.size))))) _
   rw [<-hce'];exact h
  ·have hi1:xs[((i:Nat):Int).toNat]?=none:=by simp;lia
   rw [hi1]
   wp_walk using wpAny_loadPart' hl,wpAny_loadPart' hb
   show R (.ok (.ret (.bool (decide (xs.size<ys.size))))) _
   rw [<-hce'];exact h
 |succ k ih=>
  intro i hk hi hb4 prog w A R s h
  obtain⟨hp,g,d,tk,os⟩:=s;obtain⟨hl,hb,he,hlt,hce,h⟩:=h
  wp_walk using wpAny_loadPart' hl,wpAny_loadPart' hb
  have h1:i<xs.size:=by lia
  have h2:i<ys.size:=by lia
  have hi1:xs[((i:Nat):Int).toNat]?=some xs[i]:=by simp [h1]
  have hi2:ys[((i:Nat):Int).toNat]?=some ys[i]:=by simp [h2]
  have hc:((i:Int)+1)=((i+1:Nat):Int):=by push_cast;rfl
  rw [hi1,hi2]
  refine AL (he i h1 h2 prog w _ _ ?_)
  cases hq:e i with
  |true=>
   wp_walk
   rw [hc]
   exact⟨plainId_quiet plain_eq_loop _,codeAny_builtin entry_eq_loop (by
    rw [Around.under_plainId plain_eq_loop _]
    exact ih (i+1) (by lia) (by lia) (fun j hj=>by
     rcases Nat.lt_or_ge j i with h'|h'
     ·exact hb4 j h'
     ·rw [show j=i by lia];exact hq) prog w A R _ ⟨hl,hb,he,hlt,hce,h⟩)⟩
  |false=>
   have hl3:=hlt i h1 h2 hb4 hq
   wp_walk using wpAny_loadPart' hl,wpAny_loadPart' hb
   rw [hi1,hi2]
   show AH _ A.in1 (richCompare .Lt xs[i] ys[i]>>=fun v=>ret v) _ _ _
   refine AL (hl3 prog w _ _ ?_)
   exact AR h
theorem a3X(l b:AB)(xs ys:Array AA)(n n2:Nat)(dd dd2:Option AB)(sl sl2:Array (Option AA))(e:Nat->Bool)(c:Bool):
 Meets (Builtin.«list.__lt__» ⟨[.ref l,.ref b],[]⟩)
  (fun A R s=>s.heap.get? l=some {cls:= .type "list",dict:=dd,data:= .seq xs n,slots:=sl}/\s.heap.get? b=some {cls:= .type "list",dict:=dd2,data:= .seq ys n2,slots:=sl2}/\
   (∀j (h1:j<xs.size) (h2:j<ys.size),SeqAt.EqAt A.in1 s xs[j] ys[j] (e j))/\(∀j (h1:j<xs.size) (h2:j<ys.size),(∀k,k<j->e k=true)->e j=false->X4 A.in1 s xs[j] ys[j] c)/\
   ((∀k,k<min xs.size ys.size->e k=true)->c=decide (xs.size<ys.size))/\R (.ok (.ret (.bool c))) s):=by
 intro prog w A R s h
 obtain⟨hp,g,d,tk,os⟩:=s;obtain⟨hl,hb,he,hlt,hce,h⟩:=h
 have f3:=AutoSeq1.sub_list_list
 wp_walk using wpAny_loadPart' hl,wpAny_loadPart' hb
 exact⟨plainId_quiet plain_eq_loop _,codeAny_builtin entry_eq_loop (by
  rw [Around.under_plainId plain_eq_loop _]
  exact a8y l b xs ys n n2 dd dd2 sl sl2 e c _ 0 rfl (Nat.zero_le _) (fun j hj=>by lia) prog w A R _ ⟨hl,hb,he,hlt,hce,h⟩)⟩
variable {A:AJ}{s:AC}
theorem X4.lists{l b:AB}{xs ys:Array AA}{e:Nat->Bool}{c:Bool}(hl:s.heap.IsList l xs)(hb:s.heap.IsList b ys)(hu:A.units<cLine)
 (he:∀j (h1:j<xs.size) (h2:j<ys.size),SeqAt.EqAt A.in1 s xs[j] ys[j] (e j)) (hlt:∀j (h1:j<xs.size) (h2:j<ys.size),(∀k,k<j->e k=true)->e j=false->X4 A.in1 s xs[j] ys[j] c)
 (hce:(∀k,k<min xs.size ys.size->e k=true)->c=decide (xs.size<ys.size)):X4 A s (.ref l) (.ref b) c:=fun prog w E Q h=>by
 obtain⟨⟨c1,d1,t1,s1⟩,o1,e1,n1,k1⟩:=id hl
 obtain⟨⟨c2,d2,t2,s2⟩,o2,e2,n2,k2⟩:=id hb
 simp only at e1 k1 e2 k2
 subst e1 k1 e2 k2
 exact richCompare_meets_room (op:= .Lt) ⟨_,o1,rfl⟩ ⟨_,o2,rfl⟩ PySem.F.slot_list_lt PySem.F.entry_list_lt (PySem.F.args_list_lt_2 _ _) (a3X l b xs ys n1 n2 d1 d2 s1 s2 e c)
  ⟨o1,o2,he,hlt,hce,show Value.bool c≠Value.notImplemented/\Q (.bool c) s from⟨(fun x=>nomatch x),h⟩⟩ hu
end
open PySem PySem.Spec PyProof.Rows L2 PySem.W
abbrev PtL:=List (Int×Int)
def plv(p:Int×Int):PV:= .tuple [.int p.1,.int p.2]
def llv(L:PtL):PV:= .list (L.map plv)
section
variable {X:Cx}{pins:List (AB×Obj)}{σ:L2.St}{H:Hp}{s:AC}
def Gd(X:Cx)(H:Hp)(v:AA)(L:PtL):Prop:=∃x,j6 x v/\p8 X.K H (llv L) x
theorem b1H{p q:Int×Int}(h:plv p=plv q):p=q:=by
 unfold plv at h
 injection h with h
 injection h with h1 h
 injection h with h2 _
 injection h1 with h1
 injection h2 with h2
 exact Prod.ext h1 h2
theorem b1q{L M:PtL}(h:llv L=llv M):L=M:=by
 unfold llv at h
 injection h with h
 exact List.map_inj_right (fun _ _=>b1H)|>.mp h
theorem Gd.uniq(I:d9 X pins σ H s){v:AA}{L M:PtL}(h:Gd X H v L)(g:Gd X H v M):L=M:=by
 obtain⟨x,r,h⟩:=h
 obtain⟨y,t,g⟩:=g
 obtain⟨a,xs,rfl,h1,h2⟩:=id h
 obtain⟨b,ys,rfl,g1,g2⟩:=id g
 cases r
 cases t
 exact b1q (p8.inj I _ _ h g)
end
section
variable {X:Cx}
end
section
variable {X:Cx}
end
def a32(H:Hp)(b:AB)(xs:List V)(n:Nat):Prop:=∃e:List V,e.length<=n/\H b=some (.lst (xs++e))
theorem a32.same{H H':Hp}{b:AB}{xs:List V}{n:Nat}(g:a32 H b xs n)(s:d6 H H'):a32 H' b xs n:=let ⟨e,l,h⟩:=g;⟨e,l,s _ _ h⟩
structure Pk(K:AD)(H:Hp)(ah a0 a3 b1 b2 b3:AB)(z0 z3 y1 y2 y3:List V)(J:Hp)(n:Nat):Prop where
 t0:W4 K J a0 z0
 t3:W4 K J a3 z3
 g1:a32 J b1 y1 n
 g2:a32 J b2 y2 n
 g3:a32 J b3 y3 n
 o:∀c u,c≠ah->H c=some u->J c=some u
section
variable {K:AD}{H J J':Hp}{ah a0 a3 b1 b2 b3 c:AB}{z0 z3 y1 y2 y3:List V}{n:Nat}
theorem Pk.same(p:Pk K H ah a0 a3 b1 b2 b3 z0 z3 y1 y2 y3 J n)(s:d6 J J'):Pk K H ah a0 a3 b1 b2 b3 z0 z3 y1 y2 y3 J' n:=
 ⟨A0 s p.t0,A0 s p.t3,p.g1.same s,p.g2.same s,p.g3.same s,fun c u h q=>s _ _ (p.o c u h q)⟩
end
section
variable {X:Cx}
theorem b1d(i:Nat){st:List Stmt}{n:MS}(h:ESs X st n):ESs X st (R3 i n):=N2 h fun D σ H ⟨F0,H0,F,ρ,fl,so,e,fin⟩=>by
 unfold R3 at e
 split at e
 ·rename_i ps eo
  obtain⟨F',s,so'⟩:=so.frz eo
  exact⟨F0,H0,F',_,fl,so',e,fin.later s⟩
 ·exact⟨F0,H0,F,ρ,fl,so,e,fin⟩
end
section
variable {X:Cx}
end
def Df0(K:AD)(x:Str)(st:Stmt):Prop:=∃f fd,PySem.W.nsIn K mainGlobals x=some (some (.ref f))/\Fun K x x st f fd
def Df(K:AD)(mg:Str->Option AA)(x:Str)(st:Stmt):Prop:=∃f fd,Fun K x x st f fd/\mg x=some (.ref f)
theorem b2e{K:AD}{x:Str}{st:Stmt}{f:AB}{oc:AA}{od an:Option AB}{osl:Array (Option AA)}{kV doc pm cdv ct:AA}(a:PySem.W.nsIn K mainGlobals x=some (some (.ref f)))
 (l:K.lookup f=some ⟨oc,od,.func (PySem.W.fnOf x x (L0 st) (A8 st) (c9 st) .none kV doc pm an cdv ct),osl⟩) (c:PySem.W.codeIn K cdv x=true) (k:PySem.W.keepIn K (.ref f)=true):Df0 K x st:=⟨_,_,a,b2V l c k⟩
theorem Df0.to{K:AD}{h:Heap}{mg:Str->Option AA}{x:Str}{st:Stmt}(d:Df0 K x st)(X:K.In h)(G:h.Ns mainGlobals mg):Df K mg x st:=let ⟨f,fd,a,F⟩:=d;⟨f,fd,F,PySem.W.mg_of X G a⟩
theorem mkS{N P:List Str}{sc:Scope}(h1:sc.kind= .function:=by rfl)(h2:sc.isCoroutine=false:=by rfl)(h3:sc.isGenerator=false:=by rfl)(h4:N.Nodup:=by decide+kernel)(h5:N.take P.length=P:=by rfl)
 (h6:∀x∈P,sc.names.lookup x=some .local\/sc.names.lookup x=some .cell:=by decide+kernel) (h7:∀y∈sc.names,y.2≠.free:=by decide+kernel):i8 N P sc:=⟨h1,h2,h3,h4,h5,h6,h7⟩
section
variable {P:AI}{w:AG}{K:AD}{mg:Str->Option AA}{base:Heap}
theorem n4{x:Str}{st:Stmt}{N ps:List Str}{k:Nat}{m:MS}(D:Df K mg x st)(S:i8 N ps (c9 st))
 (hi:∀(kV doc pm:AA) (an:Option AB) (cdv ct:AA) (us:List AA),us.length=ps.length->bindArgs (PySem.W.fnOf x x (L0 st) (A8 st) (c9 st) .none kV doc pm an cdv ct) ⟨us,[]⟩=pure (ps.zip us))
 (hb:∀(f:AB) (cdv:AA) (A:AJ) (outer:List Env) (s:AC) (H:Hp) (E:XK),E7 k (A.deeper (envOfC x (c9 st) s.heap.objs.size f cdv))->ESs (a4J CX0 P w K mg base N x (c9 st) f cdv A outer s H E).nox (A8 st) m):
 j9 P w K mg base x ps (k+1) (t8 (N.length - ps.length) m):=
 let ⟨f,fd,F,hm⟩:=D
 ⟨f,fd,b2l F S (hb f),hm,F.kp,F.binds hi⟩
theorem b1o{fa:AB}{st:Stmt}{x:Str}{k:Nat}{g:List PV->Option b9}(D:Df K mg "law" st)(hfa:mg "law"=some (.ref fa))
 (hi:∀(kV doc pm:AA) (an:Option AB) (cdv ct v:AA),bindArgs (PySem.W.fnOf "law" "law" (L0 st) (A8 st) (c9 st) .none kV doc pm an cdv ct) ⟨[v],[]⟩=pure [(x,v)])
 (main:∀ns:List Int,ns.length<=63->g [.list (ns.map .int)]=some (.val (.bool true)))
 (H:∀(base:Heap) (f:AB) (fd:FuncData),K.In base->Fun K "law" "law" st f fd->N6 P w K mg base CX0 k f fd [x] (spP K 1 g)):
 ∃fd:FuncData,(∀(s:AC) (v:AA),BindsTo s fd ⟨[v],[]⟩ [(x,v)])/\∀base:Heap,K.In base->base.Ns mainGlobals mg->N6 P w K mg base CX0 k fa fd [x] (a6m K):=by
 obtain⟨f,fd,F,hm⟩:=D
 have e:=hfa.symm.trans hm
 cases e
 refine⟨fd,fun s v=> ?_,fun base kb _=>(H base _ fd kb F).imp (b1p main)⟩
 obtain⟨oc,od,kV,doc,pm,an,cdv,ct,osl,rfl,lk,hcd⟩:=F.ex
 exact .of_eq (hi kV doc pm an cdv ct v)
end
theorem el1{C:List AA->Prop}(h:∀a,C [a])(us:List AA)(e:us.length=1):C us:=by
 obtain⟨a,rfl⟩:=List.length_eq_one_iff.mp e
 exact h a
theorem elS{n:Nat}{us:List AA}(e:us.length=n+1):∃a t,us=a::t/\t.length=n:=by
 cases us with
 |nil=>cases e
 |cons a t=>exact⟨a,t,rfl,Nat.succ.inj e⟩
theorem el2{C:List AA->Prop}(h:∀a b,C [a,b])(us:List AA)(e:us.length=2):C us:=by
 obtain⟨a,t,rfl,z⟩:=elS e
 exact el1 (C:=fun t=>C (a::t)) (h a) t z
theorem el3{C:List AA->Prop}(h:∀a b c,C [a,b,c])(us:List AA)(e:us.length=3):C us:=by
 obtain⟨a,t,rfl,z⟩:=elS e
 exact el2 (C:=fun t=>C (a::t)) (h a) t z
theorem el4{C:List AA->Prop}(h:∀a b c d,C [a,b,c,d])(us:List AA)(e:us.length=4):C us:=by
 obtain⟨a,t,rfl,z⟩:=elS e
 exact el3 (C:=fun t=>C (a::t)) (h a) t z
section
variable {X:Cx}
theorem S8{st:List Stmt}:ESs X st (fun _=>none):=fun pins s σ H D I h=>by
 obtain⟨F0,H0,F,ρ,fl,so,e,fin⟩:=h
 cases e
end
theorem el5{C:List AA->Prop}(h:∀a b c d e,C [a,b,c,d,e])(us:List AA)(e:us.length=5):C us:=by
 obtain⟨a,t,rfl,z⟩:=elS e
 exact el4 (C:=fun t=>C (a::t)) (h a) t z
def b0P(K:AD)(F:Hp)(v:V)(r:b9):Prop:=∃ps a xs,r= .val (.tuple ps)/\v= .ref a/\F a=some (.tup xs)/\d8 K F ps xs
theorem b0P.mono{K:AD}{F F':Hp}{v:V}{r:b9}(l:b0P K F v r)(s:d6 F F'):b0P K F' v r:=let ⟨ps,a,xs,e1,e,h,rl⟩:=l;⟨ps,a,xs,e1,e,s _ _ h,d8.mono s _ rl⟩
section
variable {X:Cx}
end
def spL(K:AD)(n:Nat)(g:List PV->Option b9):Sp:=fun vs H Q _=>∃F ps r,d6 F H/\d8 K F ps vs/\ps.length=n/\g ps=some r/\∀v F' H',o9 K F H F' H' v r->b0P K F' v r->Q v H'
def a82(P:AI)(w:AG)(K:AD)(mg:Str->Option AA)(base:Heap)(x:Str)(ps:List Str)(k:Nat)(g:List PV->Option b9):Prop:=
 ∃f fd,N6 P w K mg base CX0 k f fd ps (spL K ps.length g)/\mg x=some (.ref f)/\PySem.W.keepIn K (.ref f)=true/\a0x K fd ps []
theorem a82.ok{P:AI}{w:AG}{K:AD}{mg:Str->Option AA}{base:Heap}{x:Str}{ps:List Str}{k:Nat}{g:List PV->Option b9}(d:a82 P w K mg base x ps k g):j9 P w K mg base x ps k g:=by
 obtain⟨f,fd,G,r⟩:=d
 exact⟨f,fd,G.imp fun vs H Q E ⟨F,ps,r,s,rl,hl,e,k⟩=>⟨F,ps,r,s,rl,hl,e,fun v F' H' o _=>k v F' H' o⟩,r⟩
section
variable {X:Cx}
end
section
variable {X:Cx}
end
section
variable {X:Cx}
end
section
variable {X:Cx}
end
section
variable {X:Cx}
end
section
variable {X:Cx}
variable {Φ:L2.St->Hp->Prop}{I:List Nat}
theorem b09(hS:a72 Φ I){i:Nat}(hI:i∈I){x:Str}{e:AE}{m:M}{pos pos':Pos}(hN:X.N.Nodup)(he:EE X e m)(hi:X.N[i]?=some x:=by rfl)(hx:Loc X.env.scope x:=by exact Or.inl rfl)(hs:swapsWith e (some (.Name x pos')) pos.line X.env=pure false:=by rfl)(hf:X.fn x=true\/X.env.scope.names.lookup x=some .local:=by first|exact .inl rfl|exact .inr rfl|assumption):
 ESP X Φ (.Assign [.Name x pos'] e pos) (u6 i m):=
 D0 (a65 hN hi hx he hs hf) fun D σ H ⟨F0,H0,F,ρ,fl,φ,so,e,fin⟩=>by
  obtain⟨r,e1,e⟩:=bind_some e
  split at e
  ·rename_i c
   cases e
   exact⟨F,ρ,r,so.e,e1,fun v F' H' o=>fin _ F' H' o.x.f (so.set o c i) (hS.set i hI _ _ _ (hS.grow _ _ _ φ o.x.h))⟩
  ·cases e
end
theorem n8.lend{K:AD}{F H:Hp}{σ:L2.St}{ρ:a9}{i:Nat}{c:P8}{a:AB}{o:HO}{p:PV}(en:n8 K F H σ ρ)(e:ρ[i]?=some (some (.ow c)))(ea:σ[i]?=some (some (.ref a)))(fa:F a=none)(ha:H a=some o)(rp:p8 K (upd F a o) p (.ref a)):
 n8 K (upd F a o) H σ (ρ.set i (some (.val p))):=by
 have up:d6 F (upd F a o):=x9 fa
 have cl:∀(j:Nat) (q:b9),(ρ.set i (some (.val p)))[j]?=some (some q)->(j=i/\q= .val p)\/(j≠i/\ρ[j]?=some (some q)):=fun j q z=>by
  rcases b0z z with⟨y,y'⟩|y
  ·exact .inl ⟨y,(Option.some.inj y').symm⟩
  ·exact .inr y
 refine⟨fun b u z=> ?_,by rw [List.length_set];exact en.len,fun j q z=> ?_,fun j d z=> ?_,fun j k d d' b hne z1 z2=> ?_⟩
 ·by_cases hb:b=a
  ·subst hb;rw [f7] at z;cases z;exact ha
  ·rw [d3 hb] at z;exact en.fh _ _ z
 ·rcases cl j q z with⟨rfl,rfl⟩|⟨hj,w⟩
  ·exact⟨.ref a,ea,rp⟩
  ·obtain⟨v,v1,v2⟩:=en.at_ j q w
   refine⟨v,v1, ?_⟩
   cases q with
   |val r=>exact p8.mono up _ v2
   |ow d=>
    have v2:J5 K F H v d:=v2
    obtain⟨a',u,rfl,f1,h1,nt⟩:=a48 v2
    have hne:a'≠a:=fun y=>by subst y;exact en.ap j i d c a' hj w e v1 ea
    exact(show J5 K (upd F a o) H (.ref a') d from a5d v2 up (by rw [d3 hne];exact f1) fun _ h=>h)
   |bo d=>exact absurd w (en.nb j d)
 ·rcases cl j _ z with⟨_,y⟩|⟨_,w⟩
  ·cases y
  ·exact en.nb j d w
 ·rcases cl j _ z1 with⟨_,y⟩|⟨_,w⟩
  ·cases y
  ·rcases cl k _ z2 with⟨_,y⟩|⟨_,w'⟩
   ·cases y
   ·exact en.ap j k d d' b hne w w'
def Z1(i:Nat)(m:M):M:=fun ρ=>match ρ[i]? with
 |some (some (.ow (.dct kvs)))=>(m (ρ.set i (some (.val (dv kvs))))).bind fun r=>if r.noD=true then some r else none
 |_=>none
def a3l(i:Nat)(m:M):M:=fun ρ=>match ρ[i]? with
 |some (some (.ow (.txt kvs)))=>(m (ρ.set i (some (.val (tv kvs))))).bind fun r=>if r.noK=true then some r else none
 |_=>none
section
variable {X:Cx}
theorem a5G(i:Nat){e:AE}{m:M}(he:EE X e m):EE X e (Z1 i m):=
 o8 he fun σ H Q ⟨F,ρ,r,en,hm,kq⟩=>by
  unfold Z1 at hm
  split at hm
  ·rename_i kvs eo
   obtain⟨r',e1,hm⟩:=bind_some hm
   split at hm
   ·rename_i c
    cases hm
    obtain⟨w,hw,a,xs,rfl,fa,ha,rl⟩:=en.at_ i _ eo
    exact⟨upd F a (.dT xs),_,_,en.lend eo hw fa ha (a9W fa rl),e1,fun u F5 H5 o5=>kq u (drp F5 a) H5 (a8w fa o5 c)⟩
   ·cases hm
  ·cases hm
theorem a9u(i:Nat){e:AE}{m:M}(he:EE X e m):EE X e (a3l i m):=
 o8 he fun σ H Q ⟨F,ρ,r,en,hm,kq⟩=>by
  unfold a3l at hm
  split at hm
  ·rename_i kvs eo
   obtain⟨r',e1,hm⟩:=bind_some hm
   split at hm
   ·rename_i c
    cases hm
    obtain⟨w,hw,a,xs,rfl,fa,ha,rl⟩:=en.at_ i _ eo
    exact⟨upd F a (.dK xs),_,_,en.lend eo hw fa ha (a4g fa rl),e1,fun u F5 H5 o5=>kq u (drp F5 a) H5 (a3f fa o5 c)⟩
   ·cases hm
  ·cases hm
end
def shT(cond:Str->Bool)(f:PV->Bool):PV->Bool
 | .tuple [.str x,y,z]=>X1 y &&(f z||(X1 z && !cond x))
 |_=>false
def shB(cond:Str->Bool):Nat->PV->Bool
 |0,_=>false
 |n+1,.list ps=>ps.all (shT cond (shB cond n))
 |_+1,_=>false
theorem a3J{cond:Str->Bool}{n:Nat}{p:PV}(h:shB cond (n+1) p=true):∃ps,p= .list ps/\∀q∈ps,shT cond (shB cond n) q=true:=by
 cases p with
 |list ps=>exact⟨ps,rfl,fun q hq=>List.all_eq_true.mp h q hq⟩
 |none=>cases h
 |bool _=>cases h
 |int _=>cases h
 |str _=>cases h
 |tuple _=>cases h
 |dict _=>cases h
theorem a7T{cond:Str->Bool}{f:PV->Bool}{p:PV}(h:shT cond f p=true):∃x y z,p= .tuple [.str x,y,z]/\X1 y=true/\(f z=true\/(X1 z=true/\cond x=false)):=by
 unfold shT at h
 split at h
 ·rename_i x y z
  simp only [Bool.and_eq_true,Bool.or_eq_true,Bool.not_eq_true'] at h
  exact⟨x,y,z,rfl,h.1,h.2⟩
 ·cases h
structure Wk(F H H':Hp):Prop where
 out:∀c o,F c=none->H c=some o->H' c=some o
 inn:∀c o,F c=some o->H' c=some o\/∃ys,o= .lst ys/\H' c=some (.lst [])
def Rs(F H:Hp):Hp:=fun c=>if(F c).isSome=true then H c else none
theorem b1S(F H:Hp):d6 (Rs F H) H:=fun c o e=>by
 unfold Rs at e
 split at e
 ·exact e
 ·cases e
theorem a7S{F H:Hp}{c:AB}(h:F c=none):Rs F H c=none:=by unfold Rs;rw [h];rfl
theorem V8{F H:Hp}{c:AB}{o:HO}(h:F c=some o):Rs F H c=H c:=by unfold Rs;rw [h];rfl
theorem Wk.refl{F H:Hp}(s:d6 F H):Wk F H H:=⟨fun _ _ _ h=>h,fun c o e=> .inl (s c o e)⟩
theorem Wk.trans{F H H1 H2:Hp}(a:Wk F H H1)(b:Wk (Rs F H1) H1 H2):Wk F H H2:=by
 refine⟨fun c o e h=>b.out c o (a7S e) (a.out c o e h),fun c o e=> ?_⟩
 rcases a.inn c o e with h|⟨ys,rfl,h⟩
 ·exact b.inn c o (by rw [V8 e,h])
 ·rcases b.inn c (.lst []) (by rw [V8 e,h]) with h2|⟨zs,z,h2⟩
  ·exact .inr ⟨ys,rfl,h2⟩
  ·exact .inr ⟨ys,rfl,h2⟩
theorem Wk.nfz{F H H1:Hp}(a:Wk F H H1)(h:∀c o u,F c≠some (.frz o u)):∀c o u,Rs F H1 c≠some (.frz o u):=fun c o u e=>by
 cases hf:F c with
 |none=>rw [a7S hf] at e;cases e
 |some w=>
  rw [V8 hf] at e
  rcases a.inn c w hf with z|⟨ys,rfl,z⟩
  ·rw [e] at z;cases z;exact h c o u hf
  ·rw [e] at z;cases z
section
variable {K:AD}{F H H':Hp}
theorem a5A(a:Wk F H H'){p:PV}{v:V}(f:X1 p=true)(r:p8 K F p v):p8 K (Rs F H') p v:=a3E (fun c ys e=>by
 rw [V8 e]
 rcases a.inn c _ e with h|⟨zs,z,_⟩
 ·exact h
 ·cases z) p f r
theorem a7n{cond:Str->Bool}(a:Wk F H H'){n:Nat}(ih:∀{p:PV} {v:V},shB cond n p=true->p8 K F p v->∃p',shB cond n p'=true/\p8 K (Rs F H') p' v){p:PV}{v:V}(h:shT cond (shB cond n) p=true)(r:p8 K F p v):∃p',shT cond (shB cond n) p'=true/\p8 K (Rs F H') p' v:=by
 obtain⟨x,y,z,rfl,fy,hz⟩:=a7T h
 obtain⟨b,xs,rfl,hq,v1,t1,e1,r1,v2,t2,e2,r2,v3,t3,e3,r3,e4⟩:=r
 subst e1 e2 e3 e4
 have hq':TqT K (Rs F H') b [v1,v2,v3]:=hq.elim (fun e=> .inl (by
  rw [V8 e]
  rcases a.inn b _ e with h|⟨zs,z,_⟩
  ·exact h
  ·cases z)) .inr
 have r1':p8 K (Rs F H') (.str x) v1:=r1
 have r2':=a5A a fy r2
 rcases hz with hz|⟨hz,hc⟩
 ·obtain⟨z',h1,h2⟩:=ih hz r3
  refine⟨.tuple [.str x,y,z'], ?_,b,_,rfl,hq',v1,_,rfl,r1',v2,_,rfl,r2',v3,_,rfl,h2,rfl⟩
  show(X1 y &&(shB cond n z'||_))=true
  rw [fy,h1];rfl
 ·refine⟨.tuple [.str x,y,z], ?_,b,_,rfl,hq',v1,_,rfl,r1',v2,_,rfl,r2',v3,_,rfl,a5A a hz r3,rfl⟩
  show(X1 y &&(_||(X1 z && !cond x)))=true
  rw [fy,hz,hc]
  simp
theorem a9l{cond:Str->Bool}(nl:a8F K=true)(nfz:∀c o u,F c≠some (.frz o u))(a:Wk F H H'):∀(n:Nat) {p:PV} {v:V},shB cond n p=true->p8 K F p v->∃p',shB cond n p'=true/\p8 K (Rs F H') p' v
 |0,_,_,h,_=>nomatch h
 |n+1,p,v,h,r=>by
  obtain⟨ps,rfl,hps⟩:=a3J h
  obtain⟨b,xs,rfl,hq,rl⟩:=r
  have hb:F b=some (.lst xs):=by
   rcases hq with(h|⟨w,h⟩)|⟨w,its,k,h1,h2,_⟩
   ·exact h
   ·exact absurd h (nfz _ _ _)
   ·exact(a56 nl h1 h2).elim
  rcases a.inn b _ hb with e|⟨ys,_,e⟩
  ·have go:∀{qs:List PV} {vs:List V},(∀q∈qs,shT cond (shB cond n) q=true)->d8 K F qs vs->∃qs',(∀q∈qs',shT cond (shB cond n) q=true)/\d8 K (Rs F H') qs' vs:=by
    intro qs
    induction qs with
    |nil=>intro vs _ r;exact⟨[],fun q hq=>(nomatch hq),r⟩
    |cons q qs ih=>
     intro vs hqs r
     obtain⟨v,t,rfl,r1,r2⟩:=r
     obtain⟨qs',h1,h2⟩:=ih (fun q hq=>hqs q (Ak _ hq)) r2
     obtain⟨q',h3,h4⟩:=a7n a (fun {p v}=>a9l nl nfz a n) (hqs q Ai) r1
     exact⟨q'::qs',fun z hz=>(Ap.mp hz).elim (fun e=>e▸h3) (h1 z),v,t,rfl,h4,h2⟩
   obtain⟨ps',h1,h2⟩:=go hps rl
   exact⟨.list ps',List.all_eq_true.mpr h1,b,xs,rfl,J2.of (by rw [V8 hb];exact e),h2⟩
  ·exact⟨.list [],rfl,b,[],rfl,J2.of (by rw [V8 hb];exact e),rfl⟩
end
theorem Wk.back{F H F1 H1 H2:Hp}(x:S0 F H F1 H1)(w:Wk F1 H1 H2):Wk F H H2:=by
 refine⟨fun c o e h=> ?_,fun c o e=>w.inn c o (x.f _ _ e)⟩
 cases h1:F1 c with
 |none=>exact w.out c o h1 (x.h _ _ h)
 |some o'=>
  have ho:o'=o:=by
   have a1:=x.fh _ _ h1
   rw [x.h _ _ h] at a1
   exact(Option.some.inj a1).symm
  subst ho
  rcases w.inn c _ h1 with z|⟨ys,rfl,z⟩
  ·exact z
  ·rw [x.nw c _ e h (fun _ q=>nomatch q)] at h1;cases h1
def spE(K:AD)(cond:Str->Bool)(n:Nat):Sp:=fun vs H Q _=>∃F p v,vs=[v]/\d6 F H/\(∀c o u,F c≠some (.frz o u))/\p8 K F p v/\shB cond n p=true/\∀H',Wk F H H'->Q .non H'
def a1D(P:AI)(w:AG)(K:AD)(mg:Str->Option AA)(base:Heap)(x:Str)(ps:List Str)(k:Nat)(cond:Str->Bool)(n:Nat):Prop:=
 ∃f fd,N6 P w K mg base CX0 k f fd ps (spE K cond n)/\mg x=some (.ref f)/\PySem.W.keepIn K (.ref f)=true/\a0x K fd ps []
def b4D(K:AD)(cond:Str->Bool)(n:Nat):TS:=fun D σ H=>∃F p a,σ.length=2/\σ[0]?=some (some (.ref a))/\d6 F H/\(∀c o u,F c≠some (.frz o u))/\p8 K F p (.ref a)/\shB cond (n+1) p=true/\∀σ' H',Wk F H H'->D.nx σ' H'
section
variable {X:Cx}
theorem b2Q{cond:Str->Bool}{n k k':Nat}{tg iter test e3:AE}{x y pa:Str}{fp py ap cp p1 p2 p3 p4 p5:Pos}{mc:MT}
 (nl:a8F X.K=true) (d:a1D X.prog X.w X.K X.mg X.base x [pa] k cond n) (hr:E7 k' X.A) (hk:k<=k') (hgl:Gl X x)
 (hp:PassesOwn (model X.prog X.w) X.A X.env X.xe) (hc:X.calm=true)
 (hl:EE X iter (m1 a6M (a7 0))) (hg:PG X tg (a4c 1)) (ht:ET X test mc) (hmc:∀(z:Str) (q r:PV),mc [none,some (.val (.tuple [.str z,q,r]))]=some (cond z))
 (h3:EE X e3 (m2 y0 (a7 1) (mC (.int 2)))) (hy:PE X (.Name y py) (a0w 0))
 (hs:∀x,foldedSetIterable iter X.env x=pure x:=by intro _;rfl)
 (hdb:(x==("__debug__":Str))=false:=by decide) (he:AN [e3] X.env=(false,eval e3 X.env)::AN [] X.env:=by rfl) (hpl:(backTo p1 (AN [] X.env)).any (·.1)=false:=by rfl)
 (hsw1:swapsWith (.Call (.Name x fp) [e3] [] p1) none p2.line X.env=pure false:=by rfl)
 (hbase:attributeBase (.Name y py) "clear" X.env (eval (.Name y py) X.env)=eval (.Name y py) X.env:=by rfl) (hline:(ap.endLine==cp.line)=true:=by rfl)
 (hsw2:swapsWith (.Call (.Attribute (.Name y py) "clear" ap) [] [] cp) none p5.line X.env=pure false:=by rfl):
 PSs X [.For tg iter [.If test [.Expr (.Call (.Name x fp) [e3] [] p1) p2] [] p3] [] p4,.Expr (.Call (.Attribute (.Name y py) "clear" ap) [] [] cp) p5] (b4D X.K cond n):=by
 obtain⟨f,fd,G,g1,g2,g3⟩:=d
 refine N2 (Z6 (a5a hp hc (b0n hl) hg (a1p (b0p ht (a1p (a2I (a2H G (hr.mono hk) hgl g1 g2 g3 .nil a6f (C2 h3 R4 he) hdb he hpl) hsw1)) a5b)) hs) (a1p (a2I (b3s PySem.F.plainAttrs_list PySem.F.slot_list_clear PySem.F.type_list_clear a98 hy hbase hline) hsw2))) fun D σ H ⟨F,q,a,hlen,h0,sFH,nfz,rq,sh,fin⟩=> ?_
 obtain⟨ps,rfl,hps⟩:=a3J sh
 have en0:n8 X.K F H σ [some (.val (.list ps)),none]:=by
  have at_:∀(j:Nat) (r:b9),([some (.val (.list ps)),none]:a9)[j]?=some (some r)->j=0/\r= .val (.list ps):=fun j r z=>by
   match j,z with
   |0,z=>cases z;exact⟨rfl,rfl⟩
   |1,z=>cases z
   |j+2,z=>cases z
  refine⟨sFH,hlen,fun j r z=> ?_,fun j c z=> ?_,fun i j c d b _ z=> ?_⟩
  ·obtain⟨rfl,rfl⟩:=at_ j r z
   exact⟨.ref a,h0,rq⟩
  ·cases(at_ j _ z).2
  ·cases(at_ i _ z).2
 refine⟨F,_,.own ps,en0,rfl,fun v F1 H1 o=> ?_⟩
 obtain⟨b,xs,rfl,fb,hb,rl⟩:=o.rep
 have nfz1:∀c o u,F1 c≠some (.frz o u):=fun c w u z=>nfz c w u (o.x.nf _ _ _ z)
 have rq1:=p8.mono o.x.f _ rq
 obtain⟨a',xs0,e',hq,rl0⟩:=rq1
 cases e'
 have fa:F1 a=some (.lst xs0):=by
  rcases hq with(h|⟨w,h⟩)|⟨w,its,k,h1,h2,_⟩
  ·exact h
  ·exact absurd h (nfz1 _ _ _)
  ·exact(a56 nl h1 h2).elim
 let Pv:Nat->L2.St->Hp->Prop:=fun _ σ' H'=>Wk F1 H1 H'/\σ'.length=2/\σ'[0]?=some (some (.ref a))
 refine⟨b,rfl,.inl ⟨⟨xs,J2.of hb⟩,a5N (K:=X.K) (a:=b) (xs:=xs) Pv ⟨Wk.refl o.x.fh,hlen,h0⟩ (fun k σ' H' _ hp=>J2.of (hp.1.out b _ fb hb)) (fun k u σ' H' ex hp=> ?_) (fun σ' H' hp=> ?_)⟩⟩
 ·obtain⟨w,hl2,hz⟩:=hp
  obtain⟨q0,eq,rq0⟩:=rl.getV ex
  obtain⟨q1,hsh,rq1⟩:=a7n (cond:=cond) w (fun {p v}=>a9l nl nfz1 w n) (hps q0 (Av eq)) rq0
  obtain⟨z,y1,z1,rfl,_,hz1⟩:=a7T hsh
  have nfz2:=w.nfz nfz1
  have en1:n8 X.K (Rs F1 H') H' (σ'.set 1 (some u)) [none,some (.val (.tuple [.str z,y1,z1]))]:=by
   have at_:∀(j:Nat) (r:b9),([none,some (.val (.tuple [.str z,y1,z1]))]:a9)[j]?=some (some r)->j=1/\r= .val (.tuple [.str z,y1,z1]):=fun j r z=>by
    match j,z with
    |0,z=>cases z
    |1,z=>cases z;exact⟨rfl,rfl⟩
    |j+2,z=>cases z
   refine⟨b1S _ _,by rw [List.length_set];exact hl2,fun j r z=> ?_,fun j c z=> ?_,fun i j c d b _ z=> ?_⟩
   ·obtain⟨rfl,rfl⟩:=at_ j r z
    exact⟨u,by rw [BF (by lia)],rq1⟩
   ·cases(at_ j _ z).2
   ·cases(at_ i _ z).2
  have hz2:(σ'.set 1 (some u))[0]?=some (some (.ref a)):=by rw [List.getElem?_set_ne (by decide)];exact hz
  refine⟨Rs F1 H',_,cond z,en1,hmc z y1 z1,fun F2 H2 x2=> ?_⟩
  have w2:Wk (Rs F1 H') H' H2:=Wk.back x2 (Wk.refl x2.fh)
  cases hcz:cond z with
  |false=>exact a6S ⟨w.trans w2,by rw [List.length_set];exact hl2,hz2⟩
  |true=>
   refine a6T ?_
   have hsz:shB cond n z1=true:=hz1.elim id fun h=>by rw [hcz] at h;cases h.2
   have ix:(m2 y0 (a7 1) (mC (.int 2))) [none,some (.val (.tuple [.str z,y1,z1]))]=some (.val z1):=rfl
   refine⟨F2,_,_,en1.ext x2,ix,fun v3 F3 H3 o3=> ?_⟩
   refine⟨F3,z1,v3,rfl,o3.x.fh,fun c w u y=>nfz2 c w u (x2.nf _ _ _ (o3.x.nf _ _ _ y)),o3.rep,hsz,fun H4 w4=> ?_⟩
   exact⟨w.trans (Wk.back (x2.trans o3.x) w4),by rw [List.length_set];exact hl2,hz2⟩
 ·obtain⟨w,hl2,hz⟩:=hp
  have fin':∀σ' H',Wk F1 H1 H'->D.nx σ' H':=fun σ' H' w=>fin σ' H' (Wk.back o.x w)
  have done:∀ys,H' a=some (.lst ys)->Wk F1 H1 (upd H' a (.lst [])):=fun ys _=>by
   refine⟨fun c u e h=> ?_,fun c u e=> ?_⟩
   ·rw [d3 (fun y=>by rw [y,fa] at e;cases e)];exact w.out c u e h
   ·by_cases hca:c=a
    ·subst hca
     rw [fa] at e
     cases e
     exact .inr ⟨xs0,rfl,f7⟩
    ·rw [d3 hca];exact w.inn c u e
  have⟨ys,hys⟩:∃ys,H' a=some (.lst ys):=(w.inn a _ fa).elim (fun h=>⟨_,h⟩) fun⟨_,_,h⟩=>⟨_,h⟩
  exact⟨.ref a,hz,.inl ⟨rfl,ys,J2.of hys⟩,a,ys,rfl,rfl,hys,fin' _ _ (done ys hys)⟩
end
section
variable {P:AI}{w:AG}{K:AD}{mg:Str->Option AA}{base:Heap}
theorem a9x{x:Str}{st:Stmt}{pa pb:Str}{k:Nat}{cond:Str->Bool}(D:Df K mg x st)(S:i8 [pa,pb] [pa] (c9 st))
 (hi:∀(kV doc pm:AA) (an:Option AB) (cdv ct:AA) (us:List AA),us.length=1->bindArgs (PySem.W.fnOf x x (L0 st) (A8 st) (c9 st) .none kV doc pm an cdv ct) ⟨us,[]⟩=pure ([pa].zip us)):
 a1D P w K mg base x [pa] (k+1) cond 0:=
 let ⟨f,fd,F,hm⟩:=D
 ⟨f,fd,F.ok S (fun vs H Q E ⟨_,_,v,e,_⟩=>by rw [e];rfl) (fun cdv A outer s H vs Q E hr ⟨_,_,_,_,_,_,_,h,_⟩=>nomatch h),hm,F.kp,F.binds hi⟩
theorem a9w{x:Str}{st:Stmt}{pa pb:Str}{k n:Nat}{cond:Str->Bool}(nl:a8F K=true)(D:Df K mg x st)(S:i8 [pa,pb] [pa] (c9 st))
 (hi:∀(kV doc pm:AA) (an:Option AB) (cdv ct:AA) (us:List AA),us.length=1->bindArgs (PySem.W.fnOf x x (L0 st) (A8 st) (c9 st) .none kV doc pm an cdv ct) ⟨us,[]⟩=pure ([pa].zip us))
 (hb:∀(f:AB) (cdv:AA) (A:AJ) (outer:List Env) (s:AC) (H:Hp) (E:XK),E7 k (A.deeper (envOfC x (c9 st) s.heap.objs.size f cdv))->PSs (a4J CX0 P w K mg base [pa,pb] x (c9 st) f cdv A outer s H E).nox (A8 st) (b4D K cond n)):
 a1D P w K mg base x [pa] (k+1) cond (n+1):=by
 obtain⟨f,fd,F,hm⟩:=D
 refine⟨f,fd,F.ok S (fun vs H Q E ⟨_,_,v,e,_⟩=>by rw [e];rfl) (fun cdv A outer s H vs Q E hr h=>⟨_,hb f cdv A outer s H E hr, ?_⟩),hm,F.kp,F.binds hi⟩
 obtain⟨F1,p,v,rfl,sF,nfz,rp,sh,kq⟩:=h
 obtain⟨ps,rfl,_⟩:=a3J sh
 have⟨a,xs,e,_⟩:=rp
 subst e
 exact⟨F1,_,a,rfl,rfl,sF,nfz,rp,sh,fun _ H' w=>kq H' w⟩
end
def b2G:PV->Bool
 | .none=>true
 | .bool _=>true
 | .int _=>true
 | .str _=>true
 |_=>false
theorem b0v{K:AD}{F G:Hp}:∀{p:PV} {v:V},b2G p=true->p8 K F p v->p8 K G p v
 | .none,_,_,r=>r
 | .bool _,_,_,r=>r
 | .int _,_,_,r=>r
 | .str _,_,_,r=>r
 | .tuple _,_,h,_=>nomatch h
 | .list _,_,h,_=>nomatch h
 | .dict _,_,h,_=>nomatch h
def a9f:Option (Option b9)->Option b9
 |some (some (.val p))=>if b2G p=true then some (.val p) else none
 |_=>none
def a6F(C B:List Nat)(ρ ρ5:a9):a9:=ρ.zipIdx.map fun q=>if q.2∈C then q.1 else if q.2∈B then a9f ρ5[q.2]? else none
theorem a9h(C B:List Nat)(ρ ρ5:a9):(a6F C B ρ ρ5).length=ρ.length:=by unfold a6F;simp
theorem a7l{C B:List Nat}{ρ ρ5:a9}{j:Nat}{r:b9}(h:(a6F C B ρ ρ5)[j]?=some (some r)):(j∈C/\ρ[j]?=some (some r))\/(j∈B/\∃p,r= .val p/\b2G p=true/\ρ5[j]?=some (some (.val p))):=by
 unfold a6F at h
 rw [Ay,List.getElem?_zipIdx] at h
 cases e:ρ[j]? with
 |none=>rw [e] at h;simp at h
 |some q=>
  rw [e] at h
  simp only [Ax,Nat.zero_add,Option.some.injEq] at h
  split at h
  ·rename_i hj;exact .inl ⟨hj,by rw [h]⟩
  ·split at h
   ·rename_i hj
    unfold a9f at h
    split at h
    ·rename_i p ep
     split at h
     ·rename_i ha
      cases h
      exact .inr ⟨hj,p,rfl,ha,ep⟩
     ·cases h
    ·cases h
   ·cases h
def a51(cond:Str->Bool)(nE x:Nat)(A C B:List Nat)(m2:M)(mm n:MS):MS:=fun ρ=>
 if b2k A ρ=true/\x<ρ.length then match m2 (keep A ρ) with
  |some (.ow (.lst T))=>match mm (ρ.set x (some (.val (.list T)))) with
   |some (.nx ρ5)=>if shB cond nE (.list T)=true then n (a6F C B ρ ρ5) else none
   |_=>none
  |_=>none
 else none
def tK(K:AD)(I:List Nat)(m:MS)(T:TS):TS:=fun D σ H=>∃Φ,a72 Φ I/\tMP K Φ m {D with nx:=T D} σ H
def b4E(K:AD)(cond:Str->Bool)(nE x:Nat)(n:MS):TS:=fun D σ H=>∃F p a,σ[x]?=some (some (.ref a))/\d6 F H/\(∀c o u,F c≠some (.frz o u))/\p8 K F p (.ref a)/\shB cond nE p=true/\∀H',Wk F H H'->tMS K n D σ H'
section
variable {X:Cx}
theorem b0q{I:List Nat}{T:TS}{k4:List Stmt}(h:PSs X k4 T):PSs X k4 (tK X.K I v5 T):=N2 h fun D σ H ⟨Φ,st,F0,H0,F,ρ,fl,φ,so,e,fin⟩=>by
 cases e
 exact fin σ F H (PU.d6.refl F) so φ
theorem N5{I:List Nat}{T:TS}{st:Stmt}{k4:List Stmt}{m n:MS}(h1:∀Φ,a72 Φ I->ESP X Φ st m)(h2:PSs X k4 (tK X.K I n T)):PSs X (st::k4) (tK X.K I (k0 m n) T):=by
 have t1:PS X st (fun D σ H=>∃Φ,a72 Φ I/\tMP X.K Φ m D σ H):=fun pins s σ H D J ⟨Φ,st,h⟩=>h1 Φ st pins s σ H D J h
 refine N2 (Z6 t1 h2) fun D σ H ⟨Φ,st,F0,H0,F,ρ,fl,φ,so,e,fin⟩=> ?_
 obtain⟨f1,e1,e⟩:=bind_some e
 cases f1 with
 |nx ρ'=>exact⟨Φ,st,F0,H0,F,ρ,.nx ρ',φ,so,e1,fun σ' F' H' s so' φ'=>⟨Φ,st,F0,H0,F',ρ',fl,φ',so',e,fin.later s⟩⟩
 |rt r=>cases e;exact⟨Φ,st,F0,H0,F,ρ,_,φ,so,e1,fin⟩
 |bk r=>cases e;exact⟨Φ,st,F0,H0,F,ρ,_,φ,so,e1,fin⟩
 |ct r=>cases e;exact⟨Φ,st,F0,H0,F,ρ,_,φ,so,e1,fin⟩
theorem b0F{cond:Str->Bool}{nE x k k':Nat}{fx nx pa:Str}{fp q1 cp p6:Pos}{k4:List Stmt}{n:MS}(d:a1D X.prog X.w X.K X.mg X.base fx [pa] k cond nE)(hr:E7 k' X.A)(hk:k<=k')(hgl:Gl X fx)(hv:PE X (.Name nx q1) (a0w x))(hrest:ESs X k4 n)
 (hdb:(fx==("__debug__":Str))=false:=by decide) (he:AN [.Name nx q1] X.env=(false,eval (.Name nx q1) X.env)::AN [] X.env:=by rfl) (hpl:(backTo cp (AN [] X.env)).any (·.1)=false:=by rfl)
 (hsw:swapsWith (.Call (.Name fx fp) [.Name nx q1] [] cp) none p6.line X.env=pure false:=by rfl):
 PSs X (.Expr (.Call (.Name fx fp) [.Name nx q1] [] cp) p6::k4) (b4E X.K cond nE x n):=by
 obtain⟨f,fd,G,g1,g2,g3⟩:=d
 refine N2 (Z6 (a2I (a2H G (hr.mono hk) hgl g1 g2 g3 .nil a6f (C2 hv R4 he) hdb he hpl) hsw) hrest) fun D σ H ⟨F,p,a,hx,sF,nfz,rp,sh,kq⟩=> ?_
 exact⟨.ref a,hx,F,p,.ref a,rfl,sF,nfz,rp,sh,kq⟩
theorem b1b{cond:Str->Bool}{nE x:Nat}{A C B I:List Nat}{nx:Str}{e2:AE}{body:List Stmt}{m2:M}{mm n:MS}{p2 p2':Pos}
 (hN:X.N.Nodup) (hC:C.all (fun j=> !(I.contains j)&&(j !=x))=true) (hB:B.all (fun j=> !(C.contains j))=true) (hxI:I.contains x=false)
 (h2:EE X e2 m2) (hb:PSs X body (tK X.K I mm (b4E X.K cond nE x n)))
 (hi:X.N[x]?=some nx:=by rfl) (hx:Loc X.env.scope nx:=by exact Or.inl rfl) (hs:swapsWith e2 (some (.Name nx p2')) p2.line X.env=pure false:=by rfl) (hf:X.fn nx=true\/X.env.scope.names.lookup nx=some .local:=by first|exact .inl rfl|exact .inr rfl):
 ESs X (.Assign [.Name nx p2'] e2 p2::body) (a51 cond nE x A C B m2 mm n):=by
 refine N2 (Z6 (a65 hN hi hx h2 hs hf) hb) fun D σ H ⟨F0,H0,F,ρ,fl,so,e,fin⟩=> ?_
 have hxI':x∉I:=by simpa using hxI
 have hC':∀j∈C,j∉I/\j≠x:=fun j hj=>by
  have:=List.all_eq_true.mp hC j hj
  simpa using this
 unfold a51 at e
 split at e
 case isFalse=>cases e
 rename_i cnd
 obtain⟨fA,hxl⟩:=cnd
 split at e
 case h_2=>cases e
 rename_i T e2'
 have sFH:=so.e.fh
 have hlen:=so.e.len
 have sT:d6 (a1E F) H:=fun c o z=>sFH _ _ (a26 z).1
 refine⟨a1E F,_,_,a8i so.e fA sT rfl fun _ _=>rfl,e2',fun v F' H' o=> ?_⟩
 obtain⟨a,xs,rfl,fa',ha',rl⟩:=o.rep
 have fra:H a=none:=o.fr _ a rfl rfl
 have Fa:F a=none:=sFH.free fra
 have sHH':d6 H H':=o.x.h
 have NTl:∀zs,NT (.lst zs):=fun zs _ h=>nomatch h
 have nfz':∀b o u,F' b≠some (.frz o u):=fun b w u z=>by
  obtain⟨_,ys,e⟩:=a26 (o.x.nf _ _ _ z)
  cases e
 obtain⟨G,hG⟩:∃G:Hp,G=upd F' a (.lst xs):=⟨_,rfl⟩
 have F'G:d6 F' G:=by rw [hG];exact x9 fa'
 have Ga:G a=some (.lst xs):=by rw [hG,f7]
 have GH:d6 G H':=fun c u z=>by
  rw [hG] at z
  by_cases hc:c=a
  ·subst hc;rw [f7] at z;cases z;exact ha'
  ·rw [d3 hc] at z;exact o.x.fh _ _ z
 have Gnfz:∀b o u,G b≠some (.frz o u):=fun b w u z=>by
  rw [hG] at z
  by_cases hb:b=a
  ·subst hb;rw [f7] at z;cases z
  ·rw [d3 hb] at z;exact nfz' b w u z
 have Gnew:∀b ys,G b=some (.lst ys)->H b=none:=fun b ys hb=>by
  cases hHb:H b with
  |none=>rfl
  |some w=>
   have h1:=sHH' _ _ hHb
   rw [GH _ _ hb] at h1
   cases h1
   have hne:b≠a:=fun z=>by rw [z,fra] at hHb;cases hHb
   rw [hG,d3 hne,o.x.nw b _ (a9B H sFH hHb) hHb (NTl _)] at hb
   cases hb
 obtain⟨U,hU⟩:∃U:Hp,U=fun c=>match F c with|some u=>some u|none=>G c:=⟨_,rfl⟩
 have UF:d6 F U:=fun c u z=>by rw [hU];simp only [z]
 have Un:∀c,F c=none->U c=G c:=fun c z=>by rw [hU];simp only [z]
 have UH:d6 U H':=fun c u z=>by
  cases hc:F c with
  |some w=>rw [UF _ _ hc] at z;cases z;exact sHH' _ _ (sFH _ _ hc)
  |none=>rw [Un c hc] at z;exact GH _ _ z
 have GU:d6 G U:=fun c u z=>by
  cases hc:F c with
  |some w=>
   have h1:=sHH' _ _ (sFH _ _ hc)
   have h2:=GH _ _ z
   rw [h1] at h2
   rw [UF _ _ hc];exact h2
  |none=>rw [Un c hc];exact z
 have ownU:∀c v,J5 X.K F H v c->∃a',v= .ref a'/\a'≠a/\U a'=none:=fun c v rc=>by
  obtain⟨a',u,rfl,f1,h1,nt⟩:=a48 rc
  have n2:a'≠a:=fun y=>by rw [y,fra] at h1;cases h1
  have n3:F' a'=none:=o.x.nw a' u (a8n f1) h1 nt
  exact⟨a',rfl,n2,by rw [Un a' f1,hG,d3 n2];exact n3⟩
 have hxs:∀j,j≠x->(σ.set x (some (V.ref a)))[j]?=σ[j]?:=fun j hj=>List.getElem?_set_ne (fun z=>hj z.symm)
 have len2:(σ.set x (some (V.ref a))).length=σ.length:=List.length_set
 have cl2:∀(j:Nat) (q:b9),(ρ.set x (some (.val (.list T))))[j]?=some (some q)->(j=x/\q= .val (.list T))\/(j≠x/\ρ[j]?=some (some q)):=fun j q z=>by
  rcases b0z z with⟨y,y'⟩|y
  ·exact .inl ⟨y,(Option.some.inj y').symm⟩
  ·exact .inr y
 have rT:p8 X.K G (.list T) (.ref a):=⟨a,xs,rfl,J2.of Ga,d8.mono F'G _ rl⟩
 have env2:n8 X.K U H' (σ.set x (some (.ref a))) (ρ.set x (some (.val (.list T)))):=by
  refine⟨UH,by rw [List.length_set,List.length_set];exact hlen,fun j q z=> ?_,fun j c z=> ?_,fun j k c d b hjk z1 z2 z3 z4=> ?_⟩
  ·rcases cl2 j q z with⟨rfl,rfl⟩|⟨y1,w⟩
   ·exact⟨.ref a,by rw [BF (by lia)],p8.mono GU _ rT⟩
   ·obtain⟨v,v1,v2⟩:=so.e.at_ j q w
    refine⟨v,by rw [hxs _ y1];exact v1, ?_⟩
    cases q with
    |val p=>exact p8.mono UF _ v2
    |ow c=>
     obtain⟨a',rfl,_,n5⟩:=ownU c v v2
     exact(show J5 X.K U H' (.ref a') c from a5d v2 UF n5 fun u hu=>sHH' _ _ hu)
    |bo c=>exact absurd w (so.e.nb j c)
  ·rcases cl2 j _ z with⟨_,y⟩|⟨_,w⟩
   ·cases y
   ·exact so.e.nb j c w
  ·rcases cl2 j _ z1 with⟨_,y⟩|⟨y1,w⟩
   ·cases y
   ·rcases cl2 k _ z2 with⟨_,y⟩|⟨y2,w'⟩
    ·cases y
    ·rw [hxs _ y1] at z3
     rw [hxs _ y2] at z4
     exact so.e.ap j k c d b hjk w w' z3 z4
 have so2:R8 X.K U U U H' (σ.set x (some (.ref a))) (ρ.set x (some (.val (.list T)))):=by
  refine⟨⟨PU.d6.refl _,UH,UH,fun b u z y _=>z,fun _ _ _ z=>z⟩,env2,fun j c b z1 z2=> ?_⟩
  obtain⟨v,v1,v2⟩:=env2.at_ j _ z1
  obtain⟨a',u,e',f',_,_⟩:=a48 (show J5 X.K U H' v c from v2)
  rw [z2] at v1
  cases v1
  cases e'
  exact f'
 obtain⟨Φ,hΦ⟩:∃Φ:L2.St->Hp->Prop,Φ=fun σ' H''=>d6 H' H''/\σ'.length=σ.length/\∀j,j∉I->σ'[j]?=(σ.set x (some (.ref a)))[j]?:=⟨_,rfl⟩
 have st:a72 Φ I:=by
  rw [hΦ]
  exact⟨fun σ' H1 H2 ⟨h1,h2,h3⟩ s=>⟨h1.trans s,h2,h3⟩,fun i hi σ' H1 v ⟨h1,h2,h3⟩=>⟨h1,by rw [List.length_set];exact h2,fun j hj=>by
   rw [List.getElem?_set_ne (fun z:i=j=>hj (by rw [<-z];exact hi))];exact h3 j hj⟩⟩
 have φ0:Φ (σ.set x (some (.ref a))) H':=by rw [hΦ];exact⟨PU.d6.refl _,len2,fun _ _=>rfl⟩
 split at e
 ·rename_i ρ5 e5
  split at e
  case isFalse=>cases e
  rename_i sh
  refine⟨Φ,st,U,U,U,_,_,φ0,so2,e5,fun σ4 F4 H4 s4 so4 φ4=> ?_⟩
  rw [hΦ] at φ4
  obtain⟨g1,g2,g3⟩:=φ4
  refine⟨G,.list T,a,by rw [g3 x hxI',BF (by lia)],GH.trans g1,Gnfz,rT,sh,fun H5 w=> ?_⟩
  have sH5:d6 H H5:=fun c u z=>by
   have h4:=g1 _ _ (sHH' _ _ z)
   cases hc:G c with
   |none=>exact w.out c u hc h4
   |some o'=>
    have ho:o'=u:=by
     have a1:=g1 _ _ (GH _ _ hc)
     rw [h4] at a1
     exact(Option.some.inj a1).symm
    subst ho
    rcases w.inn c _ hc with y|⟨ys,rfl,_⟩
    ·exact y
    ·rw [Gnew c ys hc] at z;cases z
  have σ4at:∀j∈C,σ4[j]?=σ[j]?:=fun j hj=>by
   obtain⟨c1,c2⟩:=hC' j hj
   rw [g3 j c1,hxs j c2]
  have cl:∀{j:Nat} {r:b9},(a6F C B ρ ρ5)[j]?=some (some r)->(∃c,r= .ow c)\/(∃c,r= .bo c)->j∈C/\ρ[j]?=some (some r):=fun {j r} z hr=>by
   rcases a7l z with h|⟨_,p,rfl,_⟩
   ·exact h
   ·rcases hr with⟨c,y⟩|⟨c,y⟩<;>cases y
  refine⟨F0,H0,F,a6F C B ρ ρ5,_,⟨⟨so.x.f,so.x.h.trans sH5,so.x.fh.trans sH5,so.x.nw,so.x.nf⟩,⟨sFH.trans sH5,by rw [a9h,g2];exact hlen,fun j q z=> ?_,fun j c z=> ?_,fun j k c d b hjk z1 z2 z3 z4=> ?_⟩,fun j c b z1 z2=> ?_⟩,e,fin⟩
  ·rcases a7l z with⟨z1,z2⟩|⟨z1,p,rfl,ap,z2⟩
   ·obtain⟨v,v1,v2⟩:=so.e.at_ j q z2
    rw [σ4at j z1]
    refine⟨v,v1, ?_⟩
    cases q with
    |val p=>exact v2
    |ow c=>
     obtain⟨a',u,rfl,f',h',_⟩:=a48 (show J5 X.K F H v c from v2)
     exact(show J5 X.K F _ (.ref a') c from a5d v2 (PU.d6.refl F) f' fun w hw=>sH5 _ _ hw)
    |bo c=>exact absurd z2 (so.e.nb j c)
   ·obtain⟨v,v1,v2⟩:=so4.e.at_ j _ z2
    exact⟨v,v1,b0v ap v2⟩
  ·exact so.e.nb j c (cl z (.inr ⟨c,rfl⟩)).2
  ·obtain⟨y1,y2⟩:=cl z1 (.inl ⟨c,rfl⟩)
   obtain⟨y3,y4⟩:=cl z2 (.inl ⟨d,rfl⟩)
   rw [σ4at j y1] at z3
   rw [σ4at k y3] at z4
   exact so.e.ap j k c d b hjk y2 y4 z3 z4
  ·obtain⟨y1,y2⟩:=cl z1 (.inl ⟨c,rfl⟩)
   rw [σ4at j y1] at z2
   exact so.nw j c b y2 z2
 ·cases e
end
theorem b4T(w:Str)(z:Str)(q r:PV):(U3 (m2 gEq (m2 y0 (a7 1) (mC (.int 0))) (mC (.str w)))) [none,some (.val (.tuple [.str z,q,r]))]=some (decide (z=w)):=by
 have h:gEq (.val (.str z)) (.val (.str w))=some (.val (.bool (decide (z=w)))):=by
  rw [a27 (x:= .val (.str z)) (y:= .val (.str w)) ⟨rfl,rfl⟩]
  congr 3
 show((gEq (.val (.str z)) (.val (.str w))).bind _)=_
 rw [h]
 rfl
def S(l:List Nat):Str:=⟨l.toArray⟩
theorem b3Z(a b:List Nat):S a++S b=S (a++b):=by
 show Str.append (S a) (S b)=_
 simp [Str.append,S]
theorem a13(a:List Nat):(S a).length=a.length:=by simp [S,Str.length]
theorem a7g(a:List Nat):(S a).cps.toList=a:=by simp [S]
theorem b2c{a b:List Nat}(h:S a=S b):a=b:=by
 have:=congrArg (fun z:Str=>z.cps.toList) h
 simpa [S] using this
theorem b30(a b:List Nat):(S a==S b)=(a==b):=by
 rw [Bool.eq_iff_iff]
 simp only [beq_iff_eq]
 exact⟨b2c,fun h=>by rw [h]⟩
def a1a(sep:List Nat):List (List Nat)->List Nat
 |[]=>[]
 |[x]=>x
 |x::y::r=>x++sep++a1a sep (y::r)
theorem a4e(sep:List Nat):∀(ls:List (List Nat)) (acc:List Nat),(ls.foldl (fun a p=>a++sep++p) acc)=if ls=[] then acc else acc++sep++a1a sep ls
 |[],acc=>rfl
 |[x],acc=>by simp [a1a]
 |x::y::r,acc=>by
  rw [List.foldl_cons,a4e sep (y::r)]
  simp [a1a]
theorem a7A(sep:List Nat):∀(ls:List (List Nat)) (acc:List Nat),(ls.map S).foldl (fun a (p:Str)=>a++(S sep).cps++p.cps) acc.toArray=(ls.foldl (fun a p=>a++sep++p) acc).toArray
 |[],acc=>rfl
 |x::r,acc=>by
  rw [AQ,List.foldl_cons,List.foldl_cons]
  have:acc.toArray++(S sep).cps++(S x).cps=(acc++sep++x).toArray:=by simp [S]
  rw [this]
  exact a7A sep r (acc++sep++x)
theorem b22(sep:List Nat)(ls:List (List Nat)):Txt.join (S sep) (ls.map S)=S (a1a sep ls):=by
 unfold Txt.join Builtin.Str.glued
 cases ls with
 |nil=>rfl
 |cons x r=>
  show(⟨((r.map S).foldl (fun acc (p:Str)=>acc++(S sep).cps++p.cps) (S x).cps)⟩:Str)=_
  rw [show(S x).cps=x.toArray from rfl,a7A,a4e]
  cases r with
  |nil=>rfl
  |cons y r=>rw [if_neg (by simp)];simp [S,a1a]
theorem a5S:∀ls:List (List Nat),a1a [] ls=ls.flatten
 |[]=>rfl
 |[x]=>by simp [a1a]
 |x::y::r=>by simp [a1a,a5S (y::r)]
theorem a2d:∀cs:List Nat,(cs.map fun c=>[c]).flatten=cs
 |[]=>rfl
 |c::cs=>by simp [a2d cs]
theorem a6B{α:Type}{xs:List α}{i:Int}(h:0<=i):L2.atI xs i=xs[i.toNat]?:=by
 unfold L2.atI L2.ixN
 rw [if_pos h]
 by_cases c:i<xs.length
 ·rw [if_pos c];rfl
 ·rw [if_neg c]
  have:xs.length<=i.toNat:=by lia
  rw [List.getElem?_eq_none_iff.mpr this];rfl
theorem b31{α:Type}{xs:List α}{k:Nat}:L2.atI xs (k:Int)=xs[k]?:=by
 rw [a6B (by lia)];simp
theorem b4d{l:List Nat}{i:Int}{c:Nat}(hl:l.length<=16777216)(h:L2.atI l i=some c):y0 (.val (.str (S l))) (.val (.int i))=some (.val (.str (S [c]))):=by
 have hs:(S l).length<=AK:=by rw [a13,sizeLine_eq];exact hl
 unfold y0
 simp only [b9.rd,a7g,h,Ax,if_pos hs]
 rfl
theorem b1i{i j:Int}(h: -18446744073709551616<i/\i<18446744073709551616):a5Q (.val (.int i)) (.val (.int j))=some (.val (.int (i*j))):=b2X h
theorem a9I(i j:Int):b1h (.val (.int i)) (.val (.int j))=some (.val (.bool (decide (i<j)))):=Eq.trans rfl rfl
theorem a1L(i j:Int):a4T (.val (.int i)) (.val (.int j))=some (.val (.bool (decide (i<=j)))):=Eq.trans rfl rfl
theorem a0k{i j:Int}(h: -18446744073709551616<i/\i<18446744073709551616):O6 (.val (.int i)) (.val (.int j))=some (.val (.int (i*j))):=(show _=a5Q (.val (.int i)) (.val (.int j)) from rfl).trans (b1i h)
theorem a6K(bs:List Bool):a9D (.own (bs.map .bool))=some (.val (.bool (bs.all id))):=by
 show(E9 _).map _=_
 rw [a2a];rfl
theorem a50{m:M}{ρ:a9}{l:List Nat}(h:m ρ=some (.val (.str (S l)))):a0Q m ρ=some (l.map fun c=> .str (S [c])):=by
 unfold a0Q
 rw [h,AF]
 show some ((S l).cps.toList.map _)=_
 rw [a7g]
 rfl
theorem a5R{l:List Nat}{lo hi:Option Int}(h:l.length<=16777216):gSl (.val (.str (S l))) lo hi=some (.val (.str (S (cut l lo hi)))):=by
 show(if(S l).length<=AK then some (b9.val (.str ⟨(cut (S l).cps.toList lo hi).toArray⟩)) else none)=_
 rw [if_pos (by rw [a13,sizeLine_eq];exact h),a7g]
 rfl
abbrev row(l:List Nat):PV:= .str (S l)
theorem b08(a b:List Nat):PyData.eqv (row a) (row b)=(a==b):=by
 show PyData.eqv (.str (S a)) (.str (S b))=_
 rw [show PyData.eqv (.str (S a)) (.str (S b))=(S a==S b) by simp only [PyData.eqv],b30]
theorem a5I(a:List Nat)(n:Nat):l4 (row a) n=true:=by cases n<;>rfl
theorem a5M{body:MS}{tg:PV->a9->Option a9}{I:Nat->a9->Prop}:∀{ps:List PV} {ρ:a9} (k:Nat),(∀(i:Nat) p,ps[i]?=some p->∀ρ,I (k+i) ρ->∃ρ1 ρ2,tg p ρ=some ρ1/\(body ρ1=some (.nx ρ2)\/body ρ1=some (.ct ρ2))/\I (k+i+1) ρ2)->I k ρ->∃ρ',O5 body tg ps ρ=some (.nx ρ')/\I (k+ps.length) ρ'
 |[],ρ,k,_,h=>⟨ρ,rfl,h⟩
 |p::ps,ρ,k,s,h=>by
  obtain⟨ρ1,ρ2,h1,h2,h3⟩:=s 0 p rfl ρ h
  obtain⟨ρ',h4,h5⟩:=a5M (ps:=ps) (ρ:=ρ2) (k+1) (fun i q hq ρ hi=>by
   have e:k+1+i=k+(i+1):=by lia
   rw [e] at hi ⊢
   exact s (i+1) q (by simpa using hq) ρ hi) h3
  refine⟨ρ', ?_,by rw [AW];have e:k+(ps.length+1)=k+1+ps.length:=by lia
                   rw [e];exact h5⟩
  unfold O5
  rw [h1]
  show(body ρ1).bind _=_
  rcases h2 with h2|h2<;>rw [h2]<;>exact h4
theorem A4{body:MS}{tg:PV->a9->Option a9}(I:Nat->a9->Prop){ps:List PV}{ρ:a9}(s:∀(i:Nat) p,ps[i]?=some p->∀ρ,I i ρ->∃ρ1 ρ2,tg p ρ=some ρ1/\(body ρ1=some (.nx ρ2)\/body ρ1=some (.ct ρ2))/\I (i+1) ρ2)(h:I 0 ρ):∃ρ',O5 body tg ps ρ=some (.nx ρ')/\I ps.length ρ':=by
 obtain⟨ρ',a,b⟩:=a5M (I:=I) 0 (fun i p hp ρ hi=>by rw [Nat.zero_add] at hi ⊢;exact s i p hp ρ hi) h
 rw [Nat.zero_add] at b
 exact⟨ρ',a,b⟩
theorem C4{body:MS}{tg:PV->a9->Option a9}{I:a9->Prop}{p:PV}{ρ ρ1 ρ2:a9}(h1:tg p ρ=some ρ1)(h2:body ρ1=some (.nx ρ2))(h3:I ρ2):∃ρ1 ρ2,tg p ρ=some ρ1/\(body ρ1=some (.nx ρ2)\/body ρ1=some (.ct ρ2))/\I ρ2:=⟨ρ1,ρ2,h1,.inl h2,h3⟩
theorem L7{lo hi:Int}{i:Nat}{p:PV}(h:(y6 lo hi)[i]?=some p):p= .int (lo+i)/\lo+i<hi:=by
 have hi':=(Ar.mp h).1
 rw [z9] at hi'
 rw [a1t hi'] at h
 cases h
 exact⟨rfl,by lia⟩
theorem a7R(n:Nat):y6 0 (n:Int)=(AX n).map fun k=> .int (k:Nat):=by
 unfold y6
 have e:((n:Int) - 0).toNat=n:=by lia
 rw [e]
 exact List.map_congr_left fun k _=>by simp
theorem a8A(k:Nat)(it:MI)(tg:PV->a9->Option a9)(c:MT)(elt:M)(ρ:a9):a2f k it tg c elt ρ=(it ρ).bind fun ps=>if ps.length<=AK then(a2c c elt tg (ρ++AO k none) ps).bind fun r=>some (.own r) else none:=Eq.trans rfl rfl
theorem a4a{α:Type}{ι f:α->PV}{elt:M}{tg:PV->a9->Option a9}{ρ:a9}:∀{xs:List α},(∀x∈xs,∃ρ1,tg (ι x) ρ=some ρ1/\(elt ρ1).bind b9.toVal=some (f x))->a2c a3n elt tg ρ (xs.map ι)=some (xs.map f)
 |[],_=>rfl
 |x::xs,h=>by
  obtain⟨ρ1,h1,h2⟩:=h x Ai
  rw [AQ,AQ]
  unfold a2c
  rw [h1,AF]
  show((elt ρ1).bind b9.toVal).bind _=_
  rw [h2,AF,a4a fun y hy=>h y (Ak _ hy),AF]
theorem a0n{α:Type}{ι f:α->PV}{k:Nat}{it:MI}{elt:M}{tg:PV->a9->Option a9}{ρ:a9}(xs:List α)(h1:it ρ=some (xs.map ι))(h2:xs.length<=16777216)
 (h:∀x∈xs,∃ρ1,tg (ι x) (ρ++AO k none)=some ρ1/\(elt ρ1).bind b9.toVal=some (f x)):a2f k it tg a3n elt ρ=some (.own (xs.map f)):=by
 rw [a8A,h1,AF,if_pos (by rw [Aa,sizeLine_eq];exact h2),a4a h,AF]
theorem V5(m:M)(ρ:a9):a1P m ρ=((m ρ).bind b9.toVal).bind PyData.items?:=Eq.trans rfl rfl
theorem i6(m:M)(lo hi:MO)(ρ:a9):C9 m lo hi ρ=(m ρ).bind fun r=>(lo ρ).bind fun l=>(hi ρ).bind fun h=>gSl r l h:=Eq.trans rfl rfl
theorem i7(m:M)(ρ:a9):A7 m ρ=(m ρ).bind a7E:=Eq.trans rfl rfl
theorem n6(ρ:a9):I0 ρ=some none:=Eq.trans rfl rfl
theorem p9(i:Int):a7E (.val (.int i))=some (some i):=Eq.trans rfl rfl
theorem a4h{m:M}{ρ:a9}{n:Nat}(h:m ρ=some (.val (.int n)))(hn:n<4611686018427387904):W6 (a6 m c4) ρ=some ((AX n).map fun k=> .int (k:Nat)):=by
 have e:a6 m c4 ρ=some [.int n]:=by rw [b5,h];rfl
 rw [K4,e,AF,a1s (j:=(n:Int)) ⟨by lia,by lia⟩,a7R]
theorem a29{sep:List Nat}{rows:List (List Nat)}{y:b9}(h:PyData.items? y.rd=some (rows.map row))(hl:(rows.map (·.length)).sum+rows.length*sep.length<=16777216):P9 (.val (.str (S sep))) y=some (.val (row (a1a sep rows))):=by
 have e1:W2 (rows.map row)=some (rows.map S):=by
  have:rows.map row=(rows.map S).map PyData.str:=by rw [BD];rfl
  rw [this,a3M]
 have e2:((rows.map S).map (·.length))=rows.map (·.length):=by rw [BD];exact List.map_congr_left fun a _=>a13 a
 unfold P9
 simp only [h,e1,AF,e2,Aa,a13,if_pos hl,b22]
theorem E4{i:Nat}{m:M}{ρ:a9}{r:b9}{p:PV}{ps:List PV}(h1:m ρ=some r)(h2:r.toVal=some p)(h3:ρ[i]?=some (some (.own ps)))(h:ps.length<16777216):D6 i m ρ=some (.nx (ρ.set i (some (.own (ps++[p]))))):=by
 unfold D6
 rw [h1,AF,h2,AF,h3]
 simp only [sizeLine_eq,if_pos h]
theorem a1h(p:b9)(ρ:a9):a0C 0 (some p::ρ)=some (.rt p):=Eq.trans rfl rfl
theorem a1i(n:Nat)(r:Option b9)(ρ:a9):a0C (n+1) (r::ρ)=a0C n ρ:=Eq.trans rfl rfl
theorem E6(k:List d5)(v:PV)(D:List (List d5×PV))(k':List d5):l9 ((k,v)::D) k'=if k=k' then some v else l9 D k':=by
 unfold l9
 rw [List.find?_cons]
 by_cases h:k=k'
 ·simp [h]
 ·simp [h]
theorem a6r(k:List d5)(v:PV)(k':List d5):∀D:List (List d5×PV),l9 (D++[(k,v)]) k'=if(l9 D k').isSome=true then l9 D k' else if k=k' then some v else none
 |[]=>by rw [Ae,E6];rfl
 |(a,b)::D=>by
  rw [Ah,E6,E6,a6r k v k' D]
  by_cases h:a=k'
  ·simp [h]
  ·simp [h]
theorem a7h(k:List d5):∀D:List (List d5×PV),(D.any fun kv=>decide (kv.1=k))=(l9 D k).isSome
 |[]=>rfl
 |(a,b)::D=>by
  rw [List.any_cons,a7h k D,E6]
  by_cases h:a=k
  ·simp [h]
  ·simp [h]
theorem a4y(k:List d5)(v:PV)(k':List d5):∀D:List (List d5×PV),l9 (D.map fun kv=>if kv.1=k then(kv.1,v) else kv) k'=if k=k' then(l9 D k').map (fun _=>v) else l9 D k'
 |[]=>by simp [l9]
 |(a,b)::D=>by
  rw [AQ]
  have ih:=a4y k v k' D
  by_cases h:a=k
  ·simp only [h,if_true]
   rw [E6,E6,ih]
   by_cases h2:k=k'
   ·simp [h2]
   ·simp [h2]
  ·simp only [h,if_false]
   rw [E6,E6,ih]
   by_cases h2:a=k'
   ·have:¬k=k':=fun z=>h (h2.trans z.symm)
    simp [h2,this]
   ·simp [h2]
theorem a0h(D:List (List d5×PV))(k:List d5)(v:PV)(k':List d5):l9 (V7 D k v) k'=if k=k' then some v else l9 D k':=by
 unfold V7
 rw [a7h]
 cases h:(l9 D k).isSome with
 |true=>
  rw [if_pos rfl,a4y]
  by_cases h2:k=k'
  ·subst h2
   rw [if_pos rfl,if_pos rfl]
   obtain⟨x,hx⟩:=Option.isSome_iff_exists.mp h
   rw [hx];rfl
  ·rw [if_neg h2,if_neg h2]
 |false=>
  rw [if_neg Az,a6r]
  by_cases h2:k=k'
  ·subst h2;rw [h];simp
  ·simp only [if_neg h2]
   cases h3:l9 D k'<;>simp
theorem a6i(D:List (List d5×PV))(k:List d5)(v:PV):(V7 D k v).length<=D.length+1:=by
 unfold V7
 split
 ·rw [Aa];lia
 ·rw [Ad,List.length_singleton];lia
theorem a9p{i:Nat}{ρ:a9}{p:PV}{k:List d5}{D:List (List d5×PV)}(h:ρ[i]?=some (some (.ow (.dct D))))(hl:D.length<16777216):a7s i ρ p k=some (.nx (ρ.set i (some (.ow (.dct (V7 D k p)))))):=by
 unfold a7s
 rw [h]
 show(if D.length<AK then _ else none)=_
 rw [if_pos (by rw [sizeLine_eq];exact hl)]
theorem b1r{i:Nat}{ma:MA}{mv:M}{ρ:a9}{a b:Int}{r:b9}{p:PV}{D:List (List d5×PV)}(h1:mv ρ=some r)(h2:r.toVal=some p)(h3:ma ρ=some [.int a,.int b])(h:ρ[i]?=some (some (.ow (.dct D))))(hl:D.length<16777216):
 a7H i ma mv ρ=some (.nx (ρ.set i (some (.ow (.dct (V7 D [.inl a,.inl b] p)))))):=by
 unfold a7H
 rw [h1,AF,h2,AF,h3,AF,if_pos (by rw [sizeLine_eq];simp),show R0 [.int a,.int b]=some [.inl a,.inl b] from rfl,AF,a9p h hl]
theorem a8B(ρ:a9):a93 ρ=some (.ow (.dct [])):=Eq.trans rfl rfl
theorem a4C(i:Nat)(ρ:a9)(c:P8):b0V i ρ (.ow c)=some (.nx (ρ.set i (some (.ow c)))):=Eq.trans rfl rfl
theorem a21{ps:List PV}{n:Nat}(h:∀p∈ps,l4 p n=true):C6 ps n=true:=by
 induction ps with
 |nil=>rfl
 |cons p ps ih=>simp [C6,h p Ai,ih fun q hq=>h q (Ak _ hq)]
theorem a7C(a b:List Nat):gNe (.val (row a)) (.val (row b))=some (.val (.bool (!(a==b)))):=by
 rw [a6N (x:= .val (row a)) (y:= .val (row b)) ⟨a5I a 50,a5I b 50⟩,a67,a67,b08]
end PU
set_option maxHeartbeats 4000000
namespace LW
open PySem PySem.Spec PyProof.Rows L2 PU
def a00:MS:=
 (D4 (m2 (X3 (fun _ j=>0<j) fun i j=> .int (i % j)) (m2 O6 (m2 t7 (m2 (X3 (fun _ j=>0<j) fun i j=> .int (i % j)) (a7 0) (mC (.int 2147483629))) (mC (.int 48611))) (mC (.int 69621))) (mC (.int 2147483629))))
def C1:List PV->Option b9:=t8 0 a00
def G6(k7:List PV->Option b9):M:=
 (m2 y0 (a7 2) (mC (.int 1)))
def G7(k7:List PV->Option b9):M:=
 (g0 k7 (a6 (m2 y0 (a7 2) (mC (.int 2))) c4))
def m8(k7:List PV->Option b9):MS:=
 (G8 (U3 (m2 gEq (m2 y0 (a7 2) (mC (.int 0))) (mC (.str "run")))) (D6 1 (m2 P9 (mC (.str "")) (a2f 1 (W6 (a6 (m2 y0 (a7 2) (mC (.int 2))) c4)) (g8 3) a3n (G6 k7)))) (D6 1 (m2 P9 (mC (.str "")) (a2f 1 (W6 (a6 (m2 y0 (a7 2) (mC (.int 1))) c4)) (g8 3) a3n (G7 k7)))))
def E8(k7:List PV->Option b9):MS:=
 (k0 (u6 1 (a3Y c4))
 (k0 (X2 (a1P (a7 0)) (g8 2) (m8 k7))
 (D4 (m2 P9 (mC (.str "")) (a7 1)))))
def W7:Nat->(List PV->Option b9)
 |0=>(t8 2 (fun _=>none))
 |n+1=>(t8 2 (E8 ((W7 n))))
def z7(n:Nat):List PV->Option b9:=(W7 n)
def l8:List PV->Option b9:=z7 26
def v4(J4:List PV->Option b9):MS:=
 (G8 (U3 (m2 (gI fun i j=> .bool (decide (j<i))) (a7 5) (mC (.int 0)))) (k0 (u6 1 (m2 t7 (a7 1) (mC (.int 1))))
 (k0 (u6 8 (g0 C1 (a6 (m2 t7 (m2 y0 (a7 0) (m2 (X3 (fun _ j=>0<j) fun i j=> .int (i % j)) (a7 1) (m1 A6 (a7 0)))) (m2 O6 (mC (.int 5)) (a7 1))) c4)))
 (G8 (a0D (U3 (m2 (gI fun i j=> .bool (decide (j<i))) (a7 3) (mC (.int 0)))) (a0D (U3 (m2 (gI fun i j=> .bool (decide (j<i))) (a7 5) (mC (.int 1)))) (U3 (m2 gEq (m2 (X3 (fun _ j=>0<j) fun i j=> .int (i % j)) (a7 8) (mC (.int 3))) (mC (.int 0)))))) (k0 (u6 9 (m2 t7 (mC (.int 2)) (m2 (X3 (fun _ j=>0<j) fun i j=> .int (i % j)) (m2 (X3 X0 fun i j=> .int (i / j)) (a7 8) (mC (.int 3))) (m2 (gI fun i j=> .int (if j<i then j else i)) (mC (.int 3)) (m2 (gI fun i j=> .int (i - j)) (a7 5) (mC (.int 1)))))))
 (k0 (b3c [10,1] (g0 J4 (a6 (a7 0) (a6 (m2 t7 (a7 1) (mC (.int 1))) (a6 (m2 (X3 X0 fun i j=> .int (i / j)) (a7 5) (a7 9)) (a6 (m2 (gI fun i j=> .int (i - j)) (a7 3) (mC (.int 1))) c4))))))
 (k0 (D6 4 (a1j (a6 (mC (.str "again")) (a6 (a7 9) (a6 (a7 10) c4)))))
 (u6 5 (m2 (gI fun i j=> .int (i - j)) (a7 5) (m2 O6 (a7 9) (m1 A6 (g0 l8 (a6 (a7 10) c4))))))))) (k0 (u6 9 (m2 t7 (mC (.int 1)) (m2 (X3 (fun _ j=>0<j) fun i j=> .int (i % j)) (m2 (X3 X0 fun i j=> .int (i / j)) (a7 8) (mC (.int 3))) (m2 (gI fun i j=> .int (if j<i then j else i)) (a7 5) (m2 t7 (mC (.int 3)) (m2 O6 (mC (.int 9)) (m2 (X3 X0 fun i j=> .int (i / j)) (m2 (X3 (fun _ j=>0<j) fun i j=> .int (i % j)) (m2 (X3 X0 fun i j=> .int (i / j)) (a7 8) (mC (.int 81))) (mC (.int 5))) (mC (.int 4)))))))))
 (k0 (D6 4 (a1j (a6 (mC (.str "run")) (a6 (m2 y0 (mC (.str "abcxz")) (m2 (X3 (fun _ j=>0<j) fun i j=> .int (i % j)) (m2 (X3 X0 fun i j=> .int (i / j)) (a7 8) (mC (.int 405))) (mC (.int 5)))) (a6 (a7 9) c4)))))
 (u6 5 (m2 (gI fun i j=> .int (i - j)) (a7 5) (a7 9)))))))) v5)
def U7(J4:List PV->Option b9):MS:=
 (k0 (u6 4 (a3Y c4))
 (k0 (u6 5 (a7 2))
 (k0 (u6 6 (m2 t7 (mC (.int 1)) (m2 (X3 (fun _ j=>0<j) fun i j=> .int (i % j)) (g0 C1 (a6 (m2 t7 (m2 y0 (a7 0) (m2 (X3 (fun _ j=>0<j) fun i j=> .int (i % j)) (a7 1) (m1 A6 (a7 0)))) (a7 1)) c4)) (mC (.int 4)))))
 (k0 (X2 (W6 (a6 (a7 6) c4)) (g8 7) (v4 J4))
 (R3 4 (D4 (a1j (a6 (a7 4) (a6 (a7 1) c4)))))))))
def a2m:Nat->(List PV->Option b9)
 |0=>(t8 7 (fun _=>none))
 |n+1=>(t8 7 (U7 ((a2m n))))
def y8(n:Nat):List PV->Option b9:=(a2m n)
def a0N:List PV->Option b9:=y8 5
def a0z:MS:=
 (k0 (G8 (U3 (m2 b1h (a7 1) (m1 A6 (a7 0)))) (D4 (m2 y0 (a7 0) (a7 1))) v5)
 (D4 (mC (.int 0))))
def L3:List PV->Option b9:=t8 0 a0z
def a18:MS:=
 (k0 (u6 3 (m2 t7 (C9 (a7 0) (A7 (a7 1)) I0) (a3Y (a6 (mC (.int 1)) c4))))
 (k0 (u6 4 (m2 y0 (a3Y (a6 (a7 2) (a6 (a7 2) (a6 (m2 (X3 X0 fun i j=> .int (i / j)) (a7 2) (mC (.int 2))) (a6 (mC (.int 5)) c4))))) (m2 (X3 (fun _ j=>0<j) fun i j=> .int (i % j)) (m2 (X3 X0 fun i j=> .int (i / j)) (g0 C1 (a6 (g0 L3 (a6 (a7 0) (a6 (a7 1) c4))) c4)) (mC (.int 4))) (mC (.int 4)))))
 (R3 3 (D4 (m2 y0 (g0 a0N (a6 (a7 3) (a6 (mC (.int 0)) (a6 (a7 4) (a6 (mC (.int 3)) c4))))) (mC (.int 0)))))))
def Q1:List PV->Option b9:=t8 2 a18
def R1:M:=
 (m2 gEq (a7 1) (m2 y0 (a7 0) (mC (.int 0))))
def a2X:MS:=
 (D4 (m1 a9D (a2f 1 (a0Q (a7 0)) (g8 1) a3n R1)))
def O7:List PV->Option b9:=t8 0 a2X
def a17:MS:=
 (D4 (a92 (m2 gEq (m2 (X3 (fun _ j=>0<j) fun i j=> .int (i % j)) (m1 A6 (a7 0)) (a7 1)) (mC (.int 0))) (m2 gEq (a7 0) (m2 O6 (C9 (a7 0) I0 (A7 (a7 1))) (m2 (X3 X0 fun i j=> .int (i / j)) (m1 A6 (a7 0)) (a7 1))))))
def Q0:List PV->Option b9:=t8 0 a17
def G5:MS:=
 (R3 5 (G8 (mtV (g0 Q0 (a6 (a7 5) (a6 (a7 7) c4)))) (D6 6 (a1j (a6 (m2 t7 (mC (.int 1)) (m2 y0 (V4 2 (a6 (a7 3) (a6 (m2 t7 (a7 3) (a7 7)) c4))) (mC (.int 0)))) (a6 (mC (.str "again")) (a6 (a7 7) c4))))) v5))
def M9:MS:=
 (D6 6 (a1j (a6 (m2 t7 (m2 y0 (V4 2 (a6 (a7 3) (a6 (a7 8) c4))) (mC (.int 0))) (m2 y0 (V4 2 (a6 (a7 8) (a6 (a7 4) c4))) (mC (.int 0)))) (a6 (mC (.str "split")) (a6 (a7 8) c4)))))
def a34:MS:=
 (k0 (u6 5 (C9 (a7 0) (A7 (a7 3)) (A7 (a7 4))))
 (k0 (u6 6 (a3Y c4))
 (k0 (R3 5 (G8 (mtV (g0 O7 (a6 (a7 5) c4))) (D6 6 (a1j (a6 (a0R 1 (m2 y0 (a7 5) (mC (.int 0)))) (a6 (mC (.str "alike")) (a6 (m2 (gI fun i j=> .int (i - j)) (a7 4) (a7 3)) c4))))) v5))
 (k0 (X2 (a2g (a6 (mC (.int 1)) (a6 (m2 t7 (m2 (X3 X0 fun i j=> .int (i / j)) (m2 (gI fun i j=> .int (i - j)) (a7 4) (a7 3)) (mC (.int 2))) (mC (.int 1))) c4))) (g8 7) G5)
 (k0 (X2 (a2g (a6 (m2 t7 (a7 3) (mC (.int 1))) (a6 (a7 4) c4))) (g8 8) M9)
 (a0C 6))))))
def K0:List PV->Option b9:=t8 4 a34
def B0:MS:=
 (k0 (u6 5 (m2 t7 (a7 4) (a7 3)))
 (a7H 2 (a6 (a7 4) (a6 (a7 5) c4)) (m1 a5P (Z1 2 (g0 K0 (a6 (a7 0) (a6 (a7 1) (a6 (a7 2) (a6 (a7 4) (a6 (a7 5) c4))))))))))
def G4:MS:=
 (X2 (W6 (a6 (m2 t7 (m2 (gI fun i j=> .int (i - j)) (m1 A6 (a7 0)) (a7 3)) (mC (.int 1))) c4)) (g8 4) B0)
def X7:MS:=
 (k0 (u6 2 a93)
 (k0 (X2 (a2g (a6 (mC (.int 1)) (a6 (m2 t7 (m1 A6 (a7 0)) (mC (.int 1))) c4))) (g8 3) G4)
 (a0C 2)))
def G2:List PV->Option b9:=t8 4 X7
def a5x:MS:=
 (D4 (a1j (a6 (mC (.str "run")) (a6 (a7 0) (a6 (a7 1) c4)))))
def T3:List PV->Option b9:=t8 0 a5x
def m3(u0:List PV->Option b9):MS:=
 (k0 (u6 5 (V4 1 (a6 (a7 3) (a6 (a7 4) c4))))
 (k0 (G8 (U3 (m2 gEq (m2 y0 (a7 5) (mC (.int 1))) (mC (.str "alike")))) (D4 (a3Y (a6 (a3k [("run_of",T3)] 2 (a6 (m2 y0 (a7 0) (a7 3)) (a6 (m2 (gI fun i j=> .int (i - j)) (a7 4) (a7 3)) c4))) c4))) v5)
 (k0 (G8 (U3 (m2 gEq (m2 y0 (a7 5) (mC (.int 1))) (mC (.str "again")))) (k0 (u6 6 (g0 u0 (a6 (a7 0) (a6 (a7 1) (a6 (a7 2) (a6 (a7 3) (a6 (m2 t7 (a7 3) (m2 y0 (a7 5) (mC (.int 2)))) c4)))))))
 (R3 6 (D4 (a3Y (a6 (a1j (a6 (mC (.str "again")) (a6 (m2 (X3 X0 fun i j=> .int (i / j)) (m2 (gI fun i j=> .int (i - j)) (a7 4) (a7 3)) (m2 y0 (a7 5) (mC (.int 2)))) (a6 (a7 6) c4)))) c4))))) v5)
 (k0 (u6 7 (g0 u0 (a6 (a7 0) (a6 (a7 1) (a6 (a7 2) (a6 (a7 3) (a6 (m2 y0 (a7 5) (mC (.int 2))) c4)))))))
 (D4 (m2 t7 (a7 7) (g0 u0 (a6 (a7 0) (a6 (a7 1) (a6 (a7 2) (a6 (m2 y0 (a7 5) (mC (.int 2))) (a6 (a7 4) c4))))))))))))
def l6:Nat->(List PV->Option b9)
 |0=>(t8 3 (fun _=>none))
 |n+1=>(t8 3 (m3 ((l6 n))))
def K1(n:Nat):List PV->Option b9:=(l6 n)
def u3:List PV->Option b9:=K1 26
def a2W:MS:=
 (k0 (u6 3 (g0 G2 (a6 (a7 0) (a6 (a7 1) c4))))
 (D4 (Z1 3 (g0 u3 (a6 (a7 0) (a6 (a7 3) (a6 (a7 2) (a6 (mC (.int 0)) (a6 (m1 A6 (a7 0)) c4)))))))))
def D9:List PV->Option b9:=t8 1 a2W
def Z0:M:=
 (a1j (a6 (a7 2) (a6 (mC (.int 1)) c4)))
def a5w:MS:=
 (k0 (u6 1 (m1 a4R (a2f 1 (a0Q (a7 0)) (g8 2) a3n Z0)))
 (D4 (a3l 1 (g0 D9 (a6 (a7 0) (a6 (a7 1) (a6 (mC (a24 "run_of")) c4)))))))
def z6:List PV->Option b9:=t8 1 a5w
def u9(J3:List PV->Option b9):MS:=
 (G8 (U3 (m2 gEq (m2 y0 (a7 2) (mC (.int 0))) (mC (.str "again")))) (u6 1 (m2 t7 (a7 1) (g0 J3 (a6 (m2 y0 (a7 2) (mC (.int 2))) c4)))) v5)
def U6(J3:List PV->Option b9):MS:=
 (k0 (u6 1 (m1 A6 (a7 0)))
 (k0 (X2 (a1P (a7 0)) (g8 2) (u9 J3))
 (a0C 1)))
def a2l:Nat->(List PV->Option b9)
 |0=>(t8 2 (fun _=>none))
 |n+1=>(t8 2 (U6 ((a2l n))))
def M1(n:Nat):List PV->Option b9:=(a2l n)
def l3:List PV->Option b9:=M1 26
def f8:Str->Bool:=fun z=>decide (z="again")
def X8:MS:=
 (D4 (a92 (m1 (a2s "int") (a7 0)) (a92 (b3a (m1 (a2s "bool") (a7 0))) (m2 (gI fun i j=> .bool (decide (j<=i))) (a7 0) (a7 1)))))
def B8:List PV->Option b9:=t8 0 X8
def w6(A1:List PV->Option b9):MS:=
 (k0 (G8 (a2u (Z3 (mtV (m1 (a2s "tuple") (a7 1)))) (U3 (m2 gNe (m1 A6 (a7 1)) (mC (.int 3))))) (D4 (mC (.bool false))) v5)
 (G8 (U3 (m2 gEq (m2 y0 (a7 1) (mC (.int 0))) (mC (.str "run")))) (G8 (a2u (Z3 (mtV (m1 (a2s "str") (m2 y0 (a7 1) (mC (.int 1)))))) (a2u (U3 (m2 gNe (m1 A6 (m2 y0 (a7 1) (mC (.int 1)))) (mC (.int 1)))) (Z3 (mtV (g0 B8 (a6 (m2 y0 (a7 1) (mC (.int 2))) (a6 (mC (.int 1)) c4))))))) (D4 (mC (.bool false))) v5) (G8 (a2u (U3 (m2 gNe (m2 y0 (a7 1) (mC (.int 0))) (mC (.str "again")))) (a2u (Z3 (mtV (g0 B8 (a6 (m2 y0 (a7 1) (mC (.int 1))) (a6 (mC (.int 2)) c4))))) (Z3 (mtV (g0 A1 (a6 (m2 y0 (a7 1) (mC (.int 2))) c4)))))) (D4 (mC (.bool false))) v5)))
def K9(A1:List PV->Option b9):MS:=
 (k0 (G8 (a2u (Z3 (mtV (m1 (a2s "list") (a7 0)))) (U3 (m2 gEq (a7 0) (a3Y c4)))) (D4 (mC (.bool false))) v5)
 (k0 (X2 (a1P (a7 0)) (g8 1) (w6 A1))
 (D4 (mC (.bool true)))))
def Z7:Nat->(List PV->Option b9)
 |0=>(t8 1 (fun _=>none))
 |n+1=>(t8 1 (K9 ((Z7 n))))
def B9(n:Nat):List PV->Option b9:=(Z7 n)
def L4:List PV->Option b9:=B9 26
def T4(a1F:List PV->Option b9):MS:=
 (k0 (a8z 1 (gI fun i j=> .int (i+j)) (mC (.int 1)))
 (G8 (U3 (m2 gEq (m2 y0 (a7 2) (mC (.int 0))) (mC (.str "again")))) (a8z 1 (gI fun i j=> .int (i+j)) (g0 a1F (a6 (m2 y0 (a7 2) (mC (.int 2))) c4))) v5))
def a4E(a1F:List PV->Option b9):MS:=
 (k0 (u6 1 (mC (.int 0)))
 (k0 (X2 (a1P (a7 0)) (g8 2) (T4 a1F))
 (a0C 1)))
def a7O:Nat->(List PV->Option b9)
 |0=>(t8 2 (fun _=>none))
 |n+1=>(t8 2 (a4E ((a7O n))))
def a1b(n:Nat):List PV->Option b9:=(a7O n)
def a4U:List PV->Option b9:=a1b 26
def v6:MS:=
 (k0 (u6 4 (m2 (X3 X0 fun i j=> .int (i / j)) (m1 A6 (a7 0)) (a7 3)))
 (G8 (U3 (m2 gEq (a7 0) (m2 O6 (C9 (a7 0) I0 (A7 (a7 3))) (a7 4)))) (u6 2 (m2 (gI fun i j=> .int (if j<i then j else i)) (a7 2) (m2 t7 (mC (.int 1)) (a0R 1 (C9 (a7 0) I0 (A7 (a7 3))))))) v5))
def J7:MS:=
 (k0 (G8 (U3 (m2 gEq (a7 0) (m2 O6 (m2 y0 (a7 0) (mC (.int 0))) (m1 A6 (a7 0))))) (D4 (mC (.int 1))) v5)
 (k0 (u6 2 (m1 A6 (a7 0)))
 (k0 (X2 (a2g (a6 (mC (.int 1)) (a6 (m1 A6 (a7 0)) c4))) (g8 3) v6)
 (a0C 2))))
def p7:List PV->Option b9:=t8 3 J7
def O8:MS:=
 (u6 5 (m2 (gI fun i j=> .int (if j<i then j else i)) (a7 5) (m2 t7 (a2h 1 (C9 (a7 4) I0 (A7 (a7 6)))) (a2h 1 (C9 (a7 4) (A7 (a7 6)) I0)))))
def C0:MS:=
 (k0 (u6 4 (C9 (a7 0) (A7 (a7 3)) (A7 (m2 t7 (a7 3) (a7 2)))))
 (G8 (U3 (a95 true 1 (a7 4))) (k0 (R3 4 (u6 5 (a1g p7 1 (a7 4))))
 (k0 (X2 (a2g (a6 (mC (.int 1)) (a6 (a7 2) c4))) (g8 6) O8)
 (a7I 1 (a7 4) (a7 5)))) v5))
def O9:MS:=
 (X2 (W6 (a6 (m2 t7 (m2 (gI fun i j=> .int (i - j)) (m1 A6 (a7 0)) (a7 2)) (mC (.int 1))) c4)) (g8 3) C0)
def a19:MS:=
 (k0 (u6 1 b3b)
 (k0 (X2 (a2g (a6 (mC (.int 1)) (a6 (m2 t7 (m1 A6 (a7 0)) (mC (.int 1))) c4))) (g8 2) O9)
 (D4 (a2h 1 (a7 0)))))
def M0:List PV->Option b9:=t8 6 a19
def Y8:MS:=
 (k0 (G8 (a2u (Z3 (mtV (g0 L4 (a6 (a7 6) c4)))) (U3 (m2 gNe (g0 l8 (a6 (a7 6) c4)) (a7 5)))) (D4 (mC (.bool false))) v5)
 (k0 (u6 7 (g0 l3 (a6 (a7 6) c4)))
 (k0 (G8 (a2u (U3 (m2 (gI fun i j=> .bool (decide (j<i))) (a7 7) (g0 l3 (a6 (a7 4) c4)))) (U3 (m2 gNe (g0 a4U (a6 (a7 6) c4)) (a7 7)))) (D4 (mC (.bool false))) v5)
 (k0 (G8 (a0D (U3 (m2 a4T (m1 A6 (a7 5)) (mC (.int 14)))) (U3 (m2 gNe (a7 7) (g0 M0 (a6 (a7 5) c4))))) (D4 (mC (.bool false))) v5)
 (k0 (G8 (a0D (U3 (m2 a4T (m1 A6 (a7 5)) (mC (.int 12)))) (U3 (m2 (gI fun i j=> .bool (decide (j<i))) (g0 l3 (a6 (g0 z6 (a6 (m2 t7 (a7 5) (a7 5)) c4)) c4)) (m2 t7 (a7 7) (mC (.int 1)))))) (D4 (mC (.bool false))) v5)
 (k0 (G8 (a0D (U3 (m2 a4T (m2 t7 (m1 A6 (a7 1)) (m1 A6 (a7 5))) (mC (.int 24)))) (U3 (m2 (gI fun i j=> .bool (decide (j<i))) (g0 l3 (a6 (g0 z6 (a6 (m2 t7 (a7 1) (a7 5)) c4)) c4)) (m2 t7 (a7 2) (a7 7))))) (D4 (mC (.bool false))) v5)
 v5))))))
def a3d:MS:=
 (k0 (u6 4 (g0 Q1 (a6 (a7 0) (a6 (m2 O6 (mC (.int 17)) (a7 3)) (a6 (mC (.int 24)) c4)))))
 (k0 (u6 5 (g0 l8 (a6 (a7 4) c4)))
 (R3 4 (a51 f8 26 6 [5] [0,1,2,3,4,5,8] [7] (g0 z6 (a6 (a7 5) c4)) Y8
 (k0 (u6 8 (g0 z6 (a6 (a7 5) c4)))
 (k0 (R3 8 (G8 (a2u (Z3 (mtV (g0 L4 (a6 (a7 8) c4)))) (a2u (U3 (m2 gNe (g0 l8 (a6 (a7 8) c4)) (a7 5))) (U3 (m2 gNe (g0 l3 (a6 (a7 8) c4)) (a7 7))))) (D4 (mC (.bool false))) v5))
 (k0 (u6 1 (a7 5))
 (u6 2 (a7 7)))))))))
def b2d:MS:=
 (k0 (u6 1 (mC (.str "a")))
 (k0 (u6 2 (mC (.int 1)))
 (k0 (X2 (W6 (a6 (mC (.int 4)) c4)) (g8 3) a3d)
 (D4 (mC (.bool true))))))
def a9J:List PV->Option b9:=t8 8 b2d
end LW
set_option maxHeartbeats 1000000
namespace LW
open PySem PySem.Spec PyProof.Rows L2 PU
theorem a6o:∀(l:List Nat) (g:Nat->Nat),((l.map fun c=>[g c]).map (·.length)).sum=l.length
 |[],_=>rfl
 |a::l,g=>by
  have:=a6o l g
  simp only [AQ,AW,Aj,List.sum_cons] at this ⊢
  lia
theorem a8o(l:List Nat)(g:Nat->Nat):a1a [] (l.map fun c=>[g c])=l.map g:=by
 rw [a5S]
 have:(l.map fun c=>[g c])=((l.map g).map fun c=>[c]):=by rw [BD];rfl
 rw [this,a2d]
theorem a6L{k:Nat}(hk:k<=10000)(g:Nat->Nat):P9 (.val (.str (S []))) (.own ((AX k).map fun j=>row [g j]))=some (.val (row ((AX k).map g))):=by
 rw [a29 (rows:=(AX k).map fun j=>[g j]),a8o]
 ·show some _=some _
  rw [BD];rfl
 ·rw [a6o,Au,Aa,Au];simp only [Aj];lia
inductive Pa where
 |run (c k:Nat)
 |again (k:Nat) (ps:List Pa)
abbrev a3G:PV:= .str (AS "run")
abbrev D1:PV:= .str (AS "again")
mutual
def B3:Pa->PV
 | .run c k=> .tuple [a3G,row [c],.int (k:Nat)]
 | .again k ps=> .tuple [D1,.int (k:Nat),.list (j0 ps)]
def j0:List Pa->List PV
 |[]=>[]
 |p::ps=>B3 p::j0 ps
end
mutual
def unP:Pa->List Nat
 | .run c k=>(AX k).map fun _=>c
 | .again k ps=>((AX k).map fun _=>B2 ps).flatten
def B2:List Pa->List Nat
 |[]=>[]
 |p::ps=>unP p++B2 ps
end
mutual
def dpP:Pa->Nat
 | .run _ _=>0
 | .again _ ps=>U9 ps+1
def U9:List Pa->Nat
 |[]=>0
 |p::ps=>max (dpP p) (U9 ps)
end
mutual
def okP:Pa->Prop
 | .run c k=>1<=k/\k<=24/\c∈[97,98,99,120,122]
 | .again k ps=>2<=k/\k<=24/\ps≠[]/\okL ps
def okL:List Pa->Prop
 |[]=>True
 |p::ps=>okP p/\okL ps
end
theorem a41:∀{ps:List Pa} {p:Pa},okL ps->p∈ps->okP p
 |q::ps,p,h,hp=>by
  rcases Ap.mp hp with e|hp
  ·rw [e];exact h.1
  ·exact a41 h.2 hp
theorem a0K:∀{ps:List Pa} {p:Pa},p∈ps->dpP p<=U9 ps
 |q::ps,p,hp=>by
  rw [U9]
  rcases Ap.mp hp with e|hp
  ·rw [e];exact Nat.le_max_left _ _
  ·exact Nat.le_trans (a0K hp) (Nat.le_max_right _ _)
theorem b0L:∀{ps:List Pa} {p:Pa},p∈ps->(unP p).length<=(B2 ps).length
 |q::ps,p,hp=>by
  rw [B2,Ad]
  rcases Ap.mp hp with e|hp
  ·rw [e];lia
  ·have:=b0L hp
   lia
theorem V1{α:Type}(l:List α):∀k:Nat,(((AX k).map fun _=>l).flatten).length=k*l.length
 |0=>by simp
 |k+1=>by
  rw [List.range_succ,Aw,List.flatten_append,Ad,V1 l k,Nat.succ_mul]
  simp
theorem a1A(k:Nat)(ps:List Pa):(unP (.again k ps)).length=k*(B2 ps).length:=by rw [unP,V1]
theorem a7d(c k:Nat):(unP (.run c k)).length=k:=by rw [unP];simp
theorem b4L{k:Nat}{qs ps:List Pa}(h:okL ps)(hp:Pa.again k qs∈ps):okL qs/\qs≠[]/\2<=k/\k<=24/\k*(B2 qs).length<=(B2 ps).length/\(B2 qs).length<=(B2 ps).length/\U9 qs<U9 ps:=by
 obtain⟨h1,h2,h3,h4⟩:=a41 h hp
 have e:=b0L hp
 rw [a1A] at e
 have d:=a0K hp
 rw [dpP] at d
 refine⟨h4,h3,h1,h2,e, ?_,by lia⟩
 have:1*(B2 qs).length<=k*(B2 qs).length:=Nat.mul_le_mul_right _ (by lia)
 lia
mutual
theorem b0M:∀{p:Pa},okP p->0<(unP p).length
 | .run c k,h=>by rw [a7d];exact h.1
 | .again k ps,h=>by
   rw [a1A]
   exact Nat.mul_pos (by have:=h.1;lia) (a1z h.2.2.1 h.2.2.2)
theorem a1z:∀{ps:List Pa},ps≠[]->okL ps->0<(B2 ps).length
 |[],h,_=>absurd rfl h
 |p::ps,_,h=>by
  rw [B2,Ad]
  have:=b0M h.1
  lia
end
theorem a2N:∀{ps:List Pa},okL ps->ps.length<=(B2 ps).length
 |[],_=>AM _
 |p::ps,h=>by
  have:=b0M h.1
  have:=a2N h.2
  rw [B2,Ad,AW]
  lia
theorem a4r(p:Pa):(∃c k,p= .run c k/\B3 p= .tuple [a3G,row [c],.int (k:Nat)])\/∃k qs,p= .again k qs/\B3 p= .tuple [D1,.int (k:Nat),.list (j0 qs)]:=by
 cases p with
 |run c k=>exact .inl ⟨c,k,rfl,by rw [B3]⟩
 |again k qs=>exact .inr ⟨k,qs,rfl,by rw [B3]⟩
theorem b4a:gEq (.val a3G) (.val a3G)=some (.val (.bool true)):=by rfl
theorem b38:gEq (.val D1) (.val a3G)=some (.val (.bool false)):=by rfl
theorem b37:gEq (.val D1) (.val D1)=some (.val (.bool true)):=by rfl
theorem b39:gEq (.val a3G) (.val D1)=some (.val (.bool false)):=by rfl
theorem b2o:∀ls:List (List Nat),a1a [] ls=ls.flatten
 |[]=>rfl
 |[x]=>by simp [a1a]
 |x::y::r=>by
  have:=b2o (y::r)
  simp only [a1a,List.flatten_cons] at this ⊢
  rw [this];simp
theorem b2p{rows:List (List Nat)}{y:b9}(h:PyData.items? y.rd=some (rows.map row))(hl:rows.flatten.length<=10000):P9 (.val (.str (AS ""))) y=some (.val (row rows.flatten)):=by
 have:=a29 (sep:=[]) h (by
  have e:(rows.map (·.length)).sum=rows.flatten.length:=by rw [List.length_flatten]
  rw [e,Aj,Nat.mul_zero,Nat.add_zero];lia)
 rw [b2o] at this
 exact this
theorem a0g:∀ps:List Pa,B2 ps=(ps.map unP).flatten
 |[]=>by rw [B2];rfl
 |p::ps=>by rw [B2,AQ,List.flatten_cons,a0g ps]
theorem a5Y{R:List PV->Option b9}{q0:Option b9}:∀(ps:List Pa) (acc:List (List Nat)) (q2:Option b9),okL ps->(B2 ps).length<=24->(∀k qs,Pa.again k qs∈ps->R [.list (j0 qs)]=some (.val (row (B2 qs))))->acc.length+ps.length<10000->
 ∃q2',O5 (m8 R) (g8 2) (j0 ps) [q0,some (.own (acc.map row)),q2]=some (.nx [q0,some (.own ((acc++ps.map unP).map row)),q2'])
 |[],acc,q2,_,_,_,_=>⟨q2,by rw [j0,AZ,Ab];rfl⟩
 |p::ps,acc,q2,ok,hl,hR,hn=>by
  rw [AW] at hn
  rw [B2,Ad] at hl
  obtain⟨q2',e⟩:=a5Y (R:=R) (q0:=q0) ps (acc++[unP p]) (some (.val (B3 p))) ok.2 (by lia) (fun k qs h=>hR k qs (Ak _ h)) (by rw [Ad,List.length_singleton];lia)
  refine⟨q2', ?_⟩
  have hb:m8 R [q0,some (.own (acc.map row)),some (.val (B3 p))]=some (.nx [q0,some (.own ((acc++[unP p]).map row)),some (.val (B3 p))]):=by
   have fin:∀m:M,m [q0,some (.own (acc.map row)),some (.val (B3 p))]=some (.val (row (unP p)))->D6 1 m [q0,some (.own (acc.map row)),some (.val (B3 p))]=some (.nx [q0,some (.own ((acc++[unP p]).map row)),some (.val (B3 p))]):=fun m hm=>by
    rw [E4 hm rfl rfl (by rw [Aa];lia),Aw]
    rfl
   rcases a4r p with⟨c,k,rfl,ep⟩|⟨k,qs,rfl,ep⟩
   ·have i0:y0 (.val (B3 (.run c k))) (.val (.int 0))=some (.val a3G):=by rw [ep];rfl
    have i1:y0 (.val (B3 (.run c k))) (.val (.int 1))=some (.val (row [c])):=by rw [ep];rfl
    have i2:y0 (.val (B3 (.run c k))) (.val (.int 2))=some (.val (.int (k:Nat))):=by rw [ep];rfl
    rw [a7d] at hl
    have cm:=a0n (ι:=fun j:Nat=>PyData.int (j:Nat)) (f:=fun _=>row [c]) (k:=1) (it:=W6 (a6 (m2 y0 (a7 2) (mC (.int 2))) c4)) (elt:=G6 R) (tg:=g8 3) (ρ:=[q0,some (.own (acc.map row)),some (.val (B3 (.run c k)))]) (AX k) (a4h (n:=k) (by simp (disch:=omega) only [d0,d4,b4,c5,AF,i2]) (by lia)) (by rw [Au];lia) fun j _=>⟨_,rfl,by unfold G6;simp (disch:=omega) only [d0,d4,b4,c5,b6,AF,AY,Ac,Ah,Ae,AU,AV,i1]⟩
    have jn:P9 (.val (.str (AS ""))) (.own ((AX k).map fun _=>row [c]))=some (.val (row (unP (.run c k)))):=by
     have:=a6L (k:=k) (by lia) fun _=>c
     rw [unP]
     exact this
    unfold m8
    simp (disch:=omega) only [d0,d4,b4,c5,f9,M5,g5,j8,AF,i0,b4a]
    exact fin _ (by simp (disch:=omega) only [d0,d4,AF,cm,jn])
   ·have i0:y0 (.val (B3 (.again k qs))) (.val (.int 0))=some (.val D1):=by rw [ep];rfl
    have i1:y0 (.val (B3 (.again k qs))) (.val (.int 1))=some (.val (.int (k:Nat))):=by rw [ep];rfl
    have i2:y0 (.val (B3 (.again k qs))) (.val (.int 2))=some (.val (.list (j0 qs))):=by rw [ep];rfl
    rw [a1A] at hl
    have hk:=ok.1
    obtain⟨k1,k2,_,_⟩:=hk
    have hr:=hR k qs Ai
    have cm:=a0n (ι:=fun j:Nat=>PyData.int (j:Nat)) (f:=fun _=>row (B2 qs)) (k:=1) (it:=W6 (a6 (m2 y0 (a7 2) (mC (.int 1))) c4)) (elt:=G7 R) (tg:=g8 3) (ρ:=[q0,some (.own (acc.map row)),some (.val (B3 (.again k qs)))]) (AX k) (a4h (n:=k) (by simp (disch:=omega) only [d0,d4,b4,c5,AF,i1]) (by lia)) (by rw [Au];lia) fun j _=>⟨_,rfl,by unfold G7;simp (disch:=omega) only [d0,d4,b4,c5,b8,b5,b6,e9,AF,AY,Ac,Ah,Ae,AU,AV,i2,hr]⟩
    have jn:P9 (.val (.str (AS ""))) (.own ((AX k).map fun _=>row (B2 qs)))=some (.val (row (unP (.again k qs)))):=by
     rw [unP]
     exact b2p (y:= .own ((AX k).map fun _=>row (B2 qs))) (by rw [BD];rfl) (by rw [V1];lia)
    unfold m8
    simp (disch:=omega) only [d0,d4,b4,c5,f9,G3,g5,j8,AF,i0,b38]
    exact fin _ (by simp (disch:=omega) only [d0,d4,AF,cm,jn])
  rw [j0,O5]
  show(m8 R [q0,some (.own (acc.map row)),some (.val (B3 p))]).bind _=_
  rw [hb,AF]
  rw [List.append_assoc] at e
  exact e
theorem a2G:∀(n:Nat) (ps:List Pa),okL ps->(B2 ps).length<=24->U9 ps<n->z7 n [.list (j0 ps)]=some (.val (row (B2 ps)))
 |0,_,_,_,h=>by lia
 |n+1,ps,ok,hl,hd=>by
  have hm:=a2N ok
  obtain⟨q2,e⟩:=a5Y (R:=z7 n) (q0:=some (.val (.list (j0 ps)))) ps [] none ok hl (fun k qs hq=>by
   obtain⟨h1,h2,h3,h4,h5,h6,h7⟩:=b4L ok hq
   exact a2G n qs h1 (by lia) (by lia)) (by simp;lia)
  have hit:PyData.items? (.list (j0 ps))=some (j0 ps):=rfl
  rw [Ae] at e
  have jn:P9 (.val (.str (AS ""))) (.bo (.lst ((ps.map unP).map row)))=some (.val (row (B2 ps))):=by
   rw [a0g]
   exact b2p (y:= .bo (.lst ((ps.map unP).map row))) rfl (by rw [<-a0g];lia)
  show t8 2 (E8 (z7 n)) [.list (j0 ps)]=_
  unfold E8
  simp (disch:=omega) only [b4,b8,b6,P0,g7,a0H,e8,g9,k6,x8,AF,AQ,AZ,AY,Ac,Ah,Ae,AU,AV,Aj,↓reduceIte,V5,sz,At,hit]
  rw [show(some (b9.own []))=some (b9.own (([]:List (List Nat)).map row)) from rfl,e]
  simp (disch:=omega) only [d0,d4,a7J,c5,l5,E1,g9,l0,AF,jn]
theorem N3:∀ps:List Pa,j0 ps=ps.map B3
 |[]=>by rw [j0];rfl
 |p::ps=>by rw [j0,AQ,N3 ps]
theorem b3f{l:List Nat}{k:Nat}(h:l.length*k<=10000)(hk:k<=10000):O6 (.val (row l)) (.val (.int (k:Nat)))=some (.val (row (((AX k).map fun _=>l).flatten))):=by
 show(if okC (fun k n=>0<=k/\k<=1000000/\n*k<=16777216) (k:Int) (S l).length=true then some (b9.val (.str ⟨(AO (k:Int).toNat (S l).cps.toList).flatten.toArray⟩)) else none)=_
 have e:((AX k).map fun _=>l)=AO k l:=by rw [List.map_const',Au]
 rw [if_pos (a0o.mpr ⟨by lia,by lia,by
  rw [a13,<-Int.natCast_mul]
  lia⟩),e,a7g,Int.toNat_natCast]
 rfl
mutual
def coP:Pa->Nat
 | .run _ _=>1
 | .again _ ps=>1+N4 ps
def N4:List Pa->Nat
 |[]=>0
 |p::ps=>coP p+N4 ps
end
theorem a7k{R:List PV->Option b9}{q0:Option b9}:∀(ps:List Pa) (a:Int) (q2:Option b9),(∀k qs,Pa.again k qs∈ps->R [.list (j0 qs)]=some (.val (.int (N4 qs:Nat))))->
 ∃q2',O5 (T4 R) (g8 2) (j0 ps) [q0,some (.val (.int a)),q2]=some (.nx [q0,some (.val (.int (a+(N4 ps:Nat)))),q2'])
 |[],a,q2,_=>⟨q2,by rw [j0,N4];show some _=_;rw [Int.natCast_zero,Int.add_zero]⟩
 |p::ps,a,q2,hR=>by
  obtain⟨q2',e⟩:=a7k (R:=R) (q0:=q0) ps (a+(coP p:Nat)) (some (.val (B3 p))) fun k qs h=>hR k qs (Ak _ h)
  refine⟨q2', ?_⟩
  have hb:T4 R [q0,some (.val (.int a)),some (.val (B3 p))]=some (.nx [q0,some (.val (.int (a+(coP p:Nat)))),some (.val (B3 p))]):=by
   have aug:∀(x:Int) (m:M) (y:Int),m [q0,some (.val (.int x)),some (.val (B3 p))]=some (.val (.int y))->a8z 1 (gI fun i j=> .int (i+j)) m [q0,some (.val (.int x)),some (.val (B3 p))]=some (.nx [q0,some (.val (.int (x+y))),some (.val (B3 p))]):=fun x m y hm=>by
    unfold a8z
    show((m [q0,some (.val (.int x)),some (.val (B3 p))]).bind _)=_
    rw [hm]
    rfl
   unfold T4
   rcases a4r p with⟨c,k,rfl,ep⟩|⟨k,qs,rfl,ep⟩
   ·have i0:y0 (.val (B3 (.run c k))) (.val (.int 0))=some (.val a3G):=by rw [ep];rfl
    rw [coP]
    simp (disch:=omega) only [d0,d4,b4,c5,e8,g9,f9,G3,m5,g5,j8,AF,Int.cast_ofNat_Int,aug a (mC (.int 1)) 1 rfl,i0,b39]
   ·have i0:y0 (.val (B3 (.again k qs))) (.val (.int 0))=some (.val D1):=by rw [ep];rfl
    have i2:y0 (.val (B3 (.again k qs))) (.val (.int 2))=some (.val (.list (j0 qs))):=by rw [ep];rfl
    have hr:=hR k qs Ai
    rw [coP]
    simp (disch:=omega) only [d0,d4,b4,c5,e8,g9,f9,M5,g5,j8,AF,aug a (mC (.int 1)) 1 rfl,i0,b37]
    rw [aug (a+1) _ (N4 qs:Nat) (by simp (disch:=omega) only [d0,d4,b4,c5,b8,b5,b6,e9,AF,i2,hr])]
    rw [Int.natCast_add,Int.add_assoc]
    rfl
  rw [j0,O5]
  show(T4 R [q0,some (.val (.int a)),some (.val (B3 p))]).bind _=_
  rw [hb,AF,N4,Int.natCast_add,<-Int.add_assoc]
  exact e
theorem a7m:∀(n:Nat) (ps:List Pa),U9 ps<n->a1b n [.list (j0 ps)]=some (.val (.int (N4 ps:Nat)))
 |0,_,h=>by lia
 |n+1,ps,hd=>by
  obtain⟨q2,e⟩:=a7k (R:=a1b n) (q0:=some (.val (.list (j0 ps)))) ps 0 none fun k qs hq=>by
   have d:=a0K hq
   rw [dpP] at d
   exact a7m n qs (by lia)
  have hit:PyData.items? (.list (j0 ps))=some (j0 ps):=rfl
  rw [Int.zero_add] at e
  show t8 2 (a4E (a1b n)) [.list (j0 ps)]=_
  unfold a4E
  simp (disch:=omega) only [d4,b4,b6,g7,u8,e8,g9,k6,l0,x8,AF,AQ,AZ,AY,Ac,Ah,Ae,AU,AV,V5,a1h,a1i,hit,e]
theorem a5W{R:List PV->Option b9}{q0:Option b9}:∀(ps:List Pa) (a:Int) (q2:Option b9),(∀k qs,Pa.again k qs∈ps->R [.list (j0 qs)]=some (.val (.int (N4 qs:Nat))))->
 ∃q2',O5 (u9 R) (g8 2) (j0 ps) [q0,some (.val (.int a)),q2]=some (.nx [q0,some (.val (.int (a+(N4 ps:Nat) - (ps.length:Nat)))),q2'])
 |[],a,q2,_=>⟨q2,by rw [j0,N4];show some _=_;simp⟩
 |p::ps,a,q2,hR=>by
  have key:∀b:Int,b=a+(coP p:Nat) - 1->u9 R [q0,some (.val (.int a)),some (.val (B3 p))]=some (.nx [q0,some (.val (.int b)),some (.val (B3 p))])->∃q2',O5 (u9 R) (g8 2) (j0 (p::ps)) [q0,some (.val (.int a)),q2]=some (.nx [q0,some (.val (.int (a+(N4 (p::ps):Nat) - ((p::ps).length:Nat)))),q2']):=fun b eb hb=>by
   obtain⟨q2',e⟩:=a5W (R:=R) (q0:=q0) ps b (some (.val (B3 p))) fun k qs h=>hR k qs (Ak _ h)
   refine⟨q2', ?_⟩
   rw [j0,O5]
   show(u9 R [q0,some (.val (.int a)),some (.val (B3 p))]).bind _=_
   rw [hb,AF,N4,AW]
   have:b+(N4 ps:Nat) - (ps.length:Nat)=a+((coP p+N4 ps:Nat):Int) - ((ps.length+1:Nat):Int):=by lia
   rw [<-this]
   exact e
  rcases a4r p with⟨c,k,rfl,ep⟩|⟨k,qs,rfl,ep⟩
  ·have i0:y0 (.val (B3 (.run c k))) (.val (.int 0))=some (.val a3G):=by rw [ep];rfl
   refine key a (by rw [coP];lia) ?_
   unfold u9
   simp (disch:=omega) only [d0,d4,b4,c5,f9,G3,m5,g5,j8,AF,i0,b39]
  ·have i0:y0 (.val (B3 (.again k qs))) (.val (.int 0))=some (.val D1):=by rw [ep];rfl
   have i2:y0 (.val (B3 (.again k qs))) (.val (.int 2))=some (.val (.list (j0 qs))):=by rw [ep];rfl
   have hr:=hR k qs Ai
   refine key (a+(N4 qs:Nat)) (by rw [coP];lia) ?_
   unfold u9
   simp (disch:=omega) only [i9,d0,d4,b4,c5,b8,b5,b6,e9,g7,u8,f9,M5,g5,j8,AF,AU,AV,i0,i2,b37,hr]
theorem a2J(ps:List Pa):(j0 ps).length=ps.length:=by rw [N3,Aa]
theorem Y9:∀(n:Nat) (ps:List Pa),U9 ps<n->M1 n [.list (j0 ps)]=some (.val (.int (N4 ps:Nat)))
 |0,_,h=>by lia
 |n+1,ps,hd=>by
  obtain⟨q2,e⟩:=a5W (R:=M1 n) (q0:=some (.val (.list (j0 ps)))) ps (ps.length:Nat) none fun k qs hq=>by
   have d:=a0K hq
   rw [dpP] at d
   exact Y9 n qs (by lia)
  have hit:PyData.items? (.list (j0 ps))=some (j0 ps):=rfl
  have e1:(ps.length:Int)+(N4 ps:Nat) - (ps.length:Nat)=(N4 ps:Nat):=by lia
  rw [e1] at e
  show t8 2 (U6 (M1 n)) [.list (j0 ps)]=_
  unfold U6
  simp (disch:=omega) only [T0,k9,b4,b6,g7,u8,e8,g9,k6,l0,x8,AF,AQ,AZ,AY,Ac,Ah,Ae,AU,AV,V5,a1h,a1i,a2J,hit,e]
def L5:List Nat:=[97,98,99,120,122]
structure LV(s:List Nat):Prop where
 ne:s≠[]
 len:s.length<=24
 ch:∀c∈s,c∈L5
structure FD(T:List Pa)(s:List Nat):Prop where
 ok:okL T
 ne:T≠[]
 un:B2 T=s
def rep(k:Nat)(p:List Nat):List Nat:=((AX k).map fun _=>p).flatten
theorem a2K(k:Nat)(p:List Nat):(rep k p).length=k*p.length:=V1 p k
theorem a68(k:Nat)(p:List Nat):rep k p=(AO k p).flatten:=by
 unfold rep
 rw [List.map_const',Au]
theorem Z9(k:Nat)(p:List Nat):rep (k+1) p=p++rep k p:=by
 rw [a68,a68,AY,List.flatten_cons]
theorem a7K:∀{a b:List Pa},okL a->okL b->okL (a++b)
 |[],_,_,h=>h
 |_::_,_,h,g=>⟨h.1,a7K h.2 g⟩
theorem a5l:∀a b:List Pa,B2 (a++b)=B2 a++B2 b
 |[],b=>by rw [Ae];show _=B2 []++_;rw [B2,Ae]
 |p::a,b=>by rw [Ah,B2,B2,a5l a b,List.append_assoc]
theorem a2A:∀a b:List Pa,N4 (a++b)=N4 a+N4 b
 |[],b=>by rw [Ae];show _=N4 []+_;rw [N4,Nat.zero_add]
 |p::a,b=>by rw [Ah,N4,N4,a2A a b,Nat.add_assoc]
theorem a7r:∀a b:List Pa,U9 (a++b)=max (U9 a) (U9 b)
 |[],b=>by rw [Ae];show _=max (U9 []) _;rw [U9,Nat.zero_max]
 |p::a,b=>by rw [Ah,U9,U9,a7r a b,Nat.max_assoc]
theorem b0Z(p:Pa):1<=coP p:=by
 cases p with
 |run c k=>rw [coP];exact AM _
 |again k ps=>rw [coP];lia
theorem b0Y{T:List Pa}(h:T≠[]):1<=N4 T:=by
 cases T with
 |nil=>exact absurd rfl h
 |cons p T=>rw [N4];have:=b0Z p;lia
theorem a9z{A B:List Pa}{s t:List Nat}(h:FD A s)(g:FD B t):FD (A++B) (s++t):=
 ⟨a7K h.ok g.ok,by simp [h.ne],by rw [a5l,h.un,g.un]⟩
theorem a5K{A:List Pa}{s:List Nat}{k:Nat}(h:FD A s)(h2:2<=k)(hk:k<=24):FD [.again k A] (rep k s):=
 ⟨⟨⟨h2,hk,h.ne,h.ok⟩,trivial⟩,by simp,by rw [B2,unP,h.un,B2,Ab];rfl⟩
theorem a2Y(k:Nat)(A:List Pa):N4 [.again k A]=1+N4 A:=by rw [N4,coP,N4,Nat.add_zero]
theorem a9A{c k:Nat}(h1:1<=k)(hk:k<=24)(hc:c∈L5):FD [.run c k] (AO k c):=
 ⟨⟨⟨h1,hk,hc⟩,trivial⟩,by simp,by rw [B2,unP,B2,Ab,List.map_const',Au]⟩
theorem a6E(c k:Nat):N4 [.run c k]=1:=by rw [N4,coP,N4]
theorem a4Q:∀{s:List Nat},(∀c∈s,c∈L5)->okL (s.map fun c=> .run c 1)/\B2 (s.map fun c=> .run c 1)=s/\N4 (s.map fun c=> .run c 1)=s.length
 |[],_=>⟨trivial,by rw [AZ,B2],by rw [AZ,N4];rfl⟩
 |c::s,h=>by
  obtain⟨h1,h2,h3⟩:=a4Q fun d hd=>h d (Ak _ hd)
  rw [AQ]
  refine⟨⟨⟨AM _,by decide,h c Ai⟩,h1⟩, ?_, ?_⟩
  ·rw [B2,unP,h2];rfl
  ·rw [N4,coP,h3,AW];lia
def Lst(s:List Nat)(v:Nat):Prop:=(∃T,FD T s/\N4 T=v)/\∀T,FD T s->v<=N4 T
open Classical in
theorem a91{s:List Nat}:∀n:Nat,(∃T,FD T s/\N4 T<=n)->∃v,Lst s v
 |0,⟨T,h,e⟩=>⟨0,⟨T,h,by lia⟩,fun _ _=>Nat.zero_le _⟩
 |n+1,⟨T,h,e⟩=>by
  by_cases c:∃T,FD T s/\N4 T<=n
  ·exact a91 n c
  ·refine⟨n+1,⟨T,h, ?_⟩,fun A hA=> ?_⟩
   ·have:¬N4 T<=n:=fun q=>c ⟨T,h,q⟩
    lia
   ·have:¬N4 A<=n:=fun q=>c ⟨A,hA,q⟩
    lia
theorem b27{s:List Nat}(h:LV s):∃v,Lst s v:=by
 obtain⟨h1,h2,h3⟩:=a4Q h.ch
 exact a91 s.length ⟨_,⟨h1,by simp [h.ne],h2⟩,by lia⟩
open Classical in
def lp(s:List Nat):Nat:=if h:∃v,Lst s v then h.choose else 0
theorem a0m{s:List Nat}(h:LV s):Lst s (lp s):=by
 have e:=b27 h
 unfold lp
 rw [dif_pos e]
 exact e.choose_spec
theorem a2e{s:List Nat}(h:LV s){T:List Pa}(g:FD T s):lp s<=N4 T:=(a0m h).2 T g
theorem a90{s:List Nat}(h:LV s):1<=lp s:=by
 obtain⟨T,g,e⟩:=(a0m h).1
 rw [<-e];exact b0Y g.ne
theorem a1e{k c:Nat}(h1:1<=k)(hk:k<=24)(hc:c∈L5):lp (AO k c)=1:=by
 have h:LV (AO k c):=⟨fun e=>by
  have:=congrArg List.length e
  rw [List.length_replicate] at this
  simp at this
  lia,by rw [List.length_replicate];exact hk,fun d hd=>by rw [(List.mem_replicate.mp hd).2];exact hc⟩
 have h2:=a2e h (a9A h1 hk hc)
 rw [a6E] at h2
 have:=a90 h
 lia
theorem a3h{p:List Nat}{k:Nat}(h:LV p)(h2:2<=k)(hk:k*p.length<=24)(hs:LV (rep k p)):lp (rep k p)<=1+lp p:=by
 obtain⟨T,g,e⟩:=(a0m h).1
 have hp:0<p.length:=List.length_pos_iff.mpr h.ne
 have:k*1<=k*p.length:=Nat.mul_le_mul_left _ hp
 have h3:=a2e hs (a5K g h2 (by lia))
 rw [a2Y,e] at h3
 exact h3
theorem a3i{s t:List Nat}(hs:LV s)(ht:LV t)(h:LV (s++t)):lp (s++t)<=lp s+lp t:=by
 obtain⟨A,a1,a2⟩:=(a0m hs).1
 obtain⟨B,b1,b2⟩:=(a0m ht).1
 have:=a2e h (a9z a1 b1)
 rw [a2A,a2,b2] at this
 exact this
theorem a9Z{s:List Nat}(h:LV s):(∃c k,1<=k/\c∈L5/\s=AO k c/\lp s=1)\/(∃k p,2<=k/\LV p/\s=rep k p/\1+lp p<=lp s)\/∃a b,LV a/\LV b/\s=a++b/\lp a+lp b<=lp s:=by
 obtain⟨T,g,e⟩:=(a0m h).1
 have sub:∀{a b:List Nat},s=a++b->a≠[]->b≠[]->LV a/\LV b:=fun {a b} q ha hb=>by
  have hl:=h.len
  rw [q,Ad] at hl
  exact⟨⟨ha,by lia,fun c hc=>h.ch c (by rw [q];exact BC _ hc)⟩,⟨hb,by lia,fun c hc=>h.ch c (by rw [q];exact Aq _ hc)⟩⟩
 obtain⟨ok,ne,un⟩:=g
 match T,ok,ne,un,e with
 |[.run c k],ok,_,un,e=>
  obtain⟨⟨h1,h2,h3⟩,_⟩:=ok
  refine .inl ⟨c,k,h1,h3, ?_, ?_⟩
  ·rw [<-un,B2,unP,B2,Ab,List.map_const',Au]
  ·rw [<-e,a6E]
 |[.again k A],ok,_,un,e=>
  obtain⟨⟨h1,h2,h3,h4⟩,_⟩:=ok
  have es:s=rep k (B2 A):=by rw [<-un,B2,unP,B2,Ab];rfl
  have hp:=a1z h3 h4
  have hL:LV (B2 A):=by
   have hl:=h.len
   rw [es,a2K] at hl
   have:1*(B2 A).length<=k*(B2 A).length:=Nat.mul_le_mul_right _ (by lia)
   refine⟨fun q=>(by rw [q] at hp;cases hp),by lia,fun c hc=>h.ch c ?_⟩
   obtain⟨m,rfl⟩:∃m,k=m+1:=⟨k - 1,by lia⟩
   rw [es,Z9]
   exact BC _ hc
  refine .inr (.inl ⟨k,B2 A,h1,hL,es, ?_⟩)
  have:=a2e hL ⟨h4,h3,rfl⟩
  rw [<-e,a2Y]
  lia
 |p::q::r,ok,_,un,e=>
  have e1:s=B2 [p]++B2 (q::r):=by rw [<-un,<-a5l];rfl
  have p1:=a1z (ps:=[p]) (by simp) ⟨ok.1,trivial⟩
  have p2:=a1z (ps:=q::r) (by simp) ok.2
  obtain⟨l1,l2⟩:=sub e1 (fun z=>(by rw [z] at p1;cases p1)) (fun z=>(by rw [z] at p2;cases p2))
  refine .inr (.inr ⟨_,_,l1,l2,e1, ?_⟩)
  have h1:=a2e l1 (T:=[p]) ⟨⟨ok.1,trivial⟩,by simp,rfl⟩
  have h2:=a2e l2 (T:=q::r) ⟨ok.2,by simp,rfl⟩
  rw [<-e,show p::q::r=[p]++(q::r) from rfl,a2A]
  lia
def sub(l:List Nat)(i j:Nat):List Nat:=(l.drop i).take (j - i)
theorem B1{l:List Nat}{i j:Nat}(hj:j<=l.length):(sub l i j).length=j - i:=by
 unfold sub
 rw [List.length_take,List.length_drop];lia
theorem a10{l:List Nat}(h:LV l){i j:Nat}(hi:i<j)(hj:j<=l.length):LV (sub l i j):=by
 refine⟨fun e=> ?_, ?_,fun c hc=>h.ch c (List.mem_of_mem_drop (List.mem_of_mem_take hc))⟩
 ·have:=B1 (i:=i) hj
  rw [e] at this
  simp at this
  lia
 ·rw [B1 hj];have:=h.len;lia
theorem a11{l:List Nat}{i m j:Nat}(h1:i<=m)(h2:m<=j):sub l i m++sub l m j=sub l i j:=by
 unfold sub
 rw [show j - i=(m - i)+(j - m) by lia,List.take_add,List.drop_drop,show i+(m - i)=m by lia]
theorem a1x{l:List Nat}{i j w:Nat}(h:w<=j - i):(sub l i j).take w=sub l i (i+w):=by
 unfold sub
 rw [List.take_take,Nat.min_eq_left h,show i+w - i=w by lia]
theorem a6n{l:List Nat}{i j w:Nat}(h:w<=j - i):(sub l i j).drop w=sub l (i+w) j:=by
 unfold sub
 rw [List.drop_take,List.drop_drop,show j - i - w=j - (i+w) by lia]
theorem a7W(l:List Nat):sub l 0 l.length=l:=by
 unfold sub
 rw [List.drop_zero,Nat.sub_zero,List.take_length]
theorem b0U{l:List Nat}{i j:Nat}{a b:List Nat}(hj:j<=l.length)(h:sub l i j=a++b):a=sub l i (i+a.length)/\b=sub l (i+a.length) j/\a.length+b.length=j - i:=by
 have hl:=congrArg List.length h
 rw [B1 hj,Ad] at hl
 refine⟨?_, ?_,hl.symm⟩
 ·rw [<-a1x (j:=j) (by lia),h,List.take_left]
 ·rw [<-a6n (j:=j) (by lia),h,List.drop_left]
theorem b1Q{l:List Nat}{i j k:Nat}{p:List Nat}(hj:j<=l.length)(hk:2<=k)(hp:p≠[])(h:sub l i j=rep k p):1<=p.length/\2*p.length<=j - i/\(j - i) % p.length=0/\(j - i)/ p.length=k/\p=sub l i (i+p.length):=by
 have hl:=congrArg List.length h
 rw [B1 hj,a2K] at hl
 have hp':0<p.length:=List.length_pos_iff.mpr hp
 have h2:2*p.length<=k*p.length:=Nat.mul_le_mul_right _ hk
 refine⟨hp',by lia,by rw [hl];exact Nat.mul_mod_left _ _,by rw [hl];exact Nat.mul_div_cancel _ hp', ?_⟩
 rw [<-a1x (j:=j) (by lia),h]
 obtain⟨m,rfl⟩:∃m,k=m+1:=⟨k - 1,by lia⟩
 rw [Z9,List.take_left]
theorem G1{l:List Nat}(h:l.length<=10000):A6 (.val (row l))=some (.val (.int (l.length:Nat))):=by
 show(if(S l).length<=AK then some (b9.val (.int ((S l).length:Nat))) else none)=_
 rw [a13,if_pos (by rw [sizeLine_eq];lia)]
theorem a2E(a b:List Nat):gEq (.val (row a)) (.val (row b))=some (.val (.bool (a==b))):=by
 have h:=a7C a b
 rw [a6N (x:= .val (row a)) (y:= .val (row b)) ⟨rfl,rfl⟩] at h
 rw [a27 (x:= .val (row a)) (y:= .val (row b)) ⟨rfl,rfl⟩]
 have h:=Option.some.inj h
 injection h with h
 injection h with h
 rw [Bool.not_inj h]
theorem a6l{pre r:List Nat}{x:Nat}(hl:(pre++x::r).length<=10000):y0 (.val (row (pre++x::r))) (.val (.int (pre.length:Nat)))=some (.val (row [x])):=by
 refine b4d (by lia) ?_
 rw [b31,List.getElem?_append_right (AM _),Nat.sub_self]
 rfl
theorem a5C{α:Type}{l:List α}{b:Nat}(h:b<=l.length):cut l none (some (b:Int))=l.take b:=by
 unfold cut
 rw [HT.sIx_none,HT.sIx_nat,Nat.min_eq_left h]
 simp
theorem a4V{s:List Nat}{c:Nat}{t:List Nat}(e:s=c::t)(h:s.length<=10000):y0 (.val (row s)) (.val (.int 0))=some (.val (row [c])):=by
 subst e
 have:=a6l (pre:=[]) (r:=t) (x:=c) h
 exact this
def uni(s:List Nat):Bool:=s.all fun c=>c==s.headD 0
theorem a0s{s:List Nat}(hs:s≠[]):uni s=true↔∃c,s=AO s.length c:=by
 unfold uni
 constructor
 ·intro h
  refine⟨s.headD 0,List.eq_replicate_iff.mpr ⟨rfl,fun c hc=> ?_⟩⟩
  have:=List.all_eq_true.mp h c hc
  simpa using this
 ·rintro⟨c,e⟩
  refine List.all_eq_true.mpr fun d hd=> ?_
  have h1:∀x∈s,x=c:=fun x hx=>by
   rw [e] at hx
   exact(List.mem_replicate.mp hx).2
  have h2:s.headD 0=c:=by
   cases s with
   |nil=>exact absurd rfl hs
   |cons a t=>exact h1 a Ai
  rw [h2,h1 d hd];simp
theorem a9c{s:List Nat}(hs:s≠[])(hl:s.length<=10000):O7 [row s]=some (.val (.bool (uni s))):=by
 obtain⟨c0,t,e⟩:∃c t,s=c::t:=by
  cases s with
  |nil=>exact absurd rfl hs
  |cons a t=>exact⟨a,t,rfl⟩
 have h0:=a4V e hl
 have cm:=a0n (ι:=fun c:Nat=>PyData.str (S [c])) (f:=fun c=>PyData.bool (c==c0)) (k:=1) (it:=a0Q (a7 0)) (elt:=R1) (tg:=g8 1) (ρ:=[some (.val (row s))]) s (a50 rfl) (by lia) fun c _=>⟨_,rfl,by
  have hq:=a2E [c] [c0]
  have hq':gEq (.val (.str (S [c]))) (.val (row [c0]))=some (.val (.bool ([c]==[c0]))):=hq
  unfold R1
  simp (disch:=omega) only [d0,d4,b4,c5,b6,AF,AY,Ac,Ah,Ae,AU,AV,h0,hq']
  have:([c]==[c0])=(c==c0):=by
   rw [Bool.eq_iff_iff]
   simp
  rw [this]⟩
 have ga:=a6K (s.map fun c=>c==c0)
 rw [BD,List.all_map] at ga
 have hu:uni s=s.all (id∘fun c=>c==c0):=by
  unfold uni
  rw [e];rfl
 rw [<-hu] at ga
 have ga':a9D (.own (s.map fun c=>PyData.bool (c==c0)))=some (.val (.bool (uni s))):=ga
 unfold O7 a2X
 simp (disch:=omega) only [k9,l5,E1,k6,l0,AF,AQ,AZ,Ac,Ab,cm,ga']
def isr(s:List Nat)(w:Nat):Bool:=decide (s.length % w=0)&&(s==rep (s.length / w) (s.take w))
theorem a8W{s:List Nat}{w:Nat}(hw:0<w)(hws:w<=s.length)(hl:s.length<=1000):Q0 [row s,.int (w:Nat)]=some (.val (.bool (isr s w))):=by
 have hln:=G1 (l:=s) (by lia)
 have hm:((s.length:Nat):Int) %((w:Nat):Int)=((s.length % w:Nat):Int):=rfl
 have hd:((s.length:Nat):Int)/((w:Nat):Int)=((s.length / w:Nat):Int):=rfl
 have c0:(0:Int)<((w:Nat):Int):=by lia
 have hsl:gSl (.val (row s)) none (some ((w:Nat):Int))=some (.val (row (s.take w))):=by
  have:=a5R (l:=s) (lo:=none) (hi:=some ((w:Nat):Int)) (by lia)
  rw [a5C hws] at this
  exact this
 have hle:(s.take w).length*(s.length / w)<=1000:=by
  rw [List.length_take,Nat.min_eq_left hws]
  have:=Nat.mul_div_le s.length w
  lia
 have hdl:s.length / w<=s.length:=Nat.div_le_self _ _
 have hmu:=b3f (l:=s.take w) (k:=s.length / w) (by lia) (by lia)
 have hmu':O6 (.val (row (s.take w))) (.val (.int ((s.length / w:Nat):Int)))=some (.val (row (rep (s.length / w) (s.take w)))):=hmu
 have hq:=a2E s (rep (s.length / w) (s.take w))
 have hz:gEq (.val (.int ((s.length % w:Nat):Int))) (.val (.int 0))=some (.val (.bool (decide (s.length % w=0)))):=by
  rw [a27 (x:= .val (.int ((s.length % w:Nat):Int))) (y:= .val (.int 0)) ⟨rfl,rfl⟩]
  congr 3
  show PyData.eqv (.int ((s.length % w:Nat):Int)) (.int 0)=_
  simp only [PyData.eqv]
  exact decide_eq_decide.mpr (by lia)
 unfold Q0 a17 isr
 cases hb:decide (s.length % w=0) with
 |true=>
  rw [hb] at hz
  simp (disch:=omega) only [D3,B6,d0,k9,d4,b4,c5,l5,E1,k6,l0,a3j,a9d,AF,AQ,AZ,Ac,Ab,i6,i7,n6,p9,hln,hm,c0,hz,hsl,hd,hmu',hq]
  rfl
 |false=>
  rw [hb] at hz
  simp (disch:=omega) only [D3,d0,k9,d4,b4,c5,l5,E1,k6,l0,a3j,b2F,AF,AQ,AZ,Ac,Ab,hln,hm,c0,hz]
  rfl
abbrev CH:=Nat×Str×Nat
def tc(c:CH):PV:= .tuple [.int (c.1:Nat),.str c.2.1,.int (c.2.2:Nat)]
def sAl:Str:=AS "alike"
def sAg:Str:=AS "again"
def sSp:Str:=AS "split"
def ag(l:List Nat)(st en:Nat)(k:Nat):List CH:=(((AX k).map (· +1)).filter (isr (sub l st en))).map fun w=>(1+lp (sub l st (st+w)),sAg,w)
def sp(l:List Nat)(st en:Nat)(k:Nat):List CH:=(AX k).map fun i=>(lp (sub l st (st+1+i))+lp (sub l (st+1+i) en),sSp,st+1+i)
def al(l:List Nat)(st en:Nat):List CH:=if uni (sub l st en)=true then [(1,sAl,en - st)] else []
def chs(l:List Nat)(st en:Nat):List CH:=al l st en++ag l st en ((en - st)/ 2)++sp l st en (en - st - 1)
def Tb(l:List Nat)(D:List (List d5×PV))(st en:Nat):Prop:=∀i j,st<=i->i<j->j<=en->j - i<en - st->∃kd a,l9 D [.inl (i:Nat),.inl (j:Nat)]=some (tc (lp (sub l i j),kd,a))
theorem b1j{i:Nat}{mk:MA}{ρ:a9}{a b:Nat}{p:PV}{D:List (List d5×PV)}(h1:mk ρ=some [.int (a:Nat),.int (b:Nat)])(h2:ρ[i]?=some (some (.val (dv D))))(h3:l9 D [.inl (a:Nat),.inl (b:Nat)]=some p):V4 i mk ρ=some (.val p):=by
 unfold V4
 rw [h1,AF,if_pos (by rw [sizeLine_eq];simp),show R0 [.int (a:Nat),.int (b:Nat)]=some [.inl (a:Nat),.inl (b:Nat)] from rfl,AF,b2M h2,AF,h3]
 rfl
theorem b4K(c:CH):y0 (.val (tc c)) (.val (.int 0))=some (.val (.int (c.1:Nat))):=rfl
theorem b5f(c:CH):y0 (.val (tc c)) (.val (.int 1))=some (.val (.str c.2.1)):=rfl
theorem b5g(c:CH):y0 (.val (tc c)) (.val (.int 2))=some (.val (.int (c.2.2:Nat))):=rfl
theorem b0S(l:List Nat)(st en k:Nat):ag l st en (k+1)=ag l st en k++(if isr (sub l st en) (k+1)=true then [(1+lp (sub l st (st+(k+1))),sAg,k+1)] else []):=by
 unfold ag
 rw [List.range_succ,Aw,List.filter_append,Aw]
 congr 1
 by_cases h:isr (sub l st en) (k+1)=true
 ·rw [if_pos h];simp [h]
 ·rw [if_neg h];simp [h]
theorem b11(l:List Nat)(st en k:Nat):sp l st en (k+1)=sp l st en k++[(lp (sub l st (st+1+k))+lp (sub l (st+1+k) en),sSp,st+1+k)]:=by
 unfold sp
 rw [List.range_succ,Aw];rfl
theorem a9b(l:List Nat)(st en k:Nat):(ag l st en k).length<=k:=by
 unfold ag
 rw [Aa]
 refine Nat.le_trans (List.length_filter_le _ _) ?_
 rw [Aa,Au];exact AM _
theorem b3O(l:List Nat)(st en k:Nat):(sp l st en k).length=k:=by unfold sp;rw [Aa,Au]
theorem b2B(l:List Nat)(st en:Nat):(al l st en).length<=1:=by unfold al;split<;>simp
section
variable {l:List Nat}(hl:l.length<=24){D:List (List d5×PV)}{st en:Nat}(h1:st<en)(h2:en<=l.length)(hT:Tb l D st en)
include hl h1 h2 hT
theorem b0R(s1:Option b9)(A:List CH)(hA:A.length<=10)(q7 q8:Option b9):∀k,k<=(en - st)/ 2->∃q7',O5 G5 (g8 7) (y6 1 ((k:Nat)+1)) [some (.val (row l)),s1,some (.val (dv D)),some (.val (.int (st:Nat))),some (.val (.int (en:Nat))),some (.val (row (sub l st en))),some (.own (A.map tc)),q7,q8]
 =some (.nx [some (.val (row l)),s1,some (.val (dv D)),some (.val (.int (st:Nat))),some (.val (.int (en:Nat))),some (.val (row (sub l st en))),some (.own ((A++ag l st en k).map tc)),q7',q8]):=by
 intro k hk
 have sl:=B1 (l:=l) (i:=st) h2
 obtain⟨ρ1,e1,q7',rfl⟩:=A4 (body:=G5) (tg:=g8 7) (fun j ρ=>∃q7:Option b9,ρ=[some (.val (row l)),s1,some (.val (dv D)),some (.val (.int (st:Nat))),some (.val (.int (en:Nat))),some (.val (row (sub l st en))),some (.own ((A++ag l st en j).map tc)),q7,q8])
  (ps:=y6 1 ((k:Nat)+1)) (ρ:=[some (.val (row l)),s1,some (.val (dv D)),some (.val (.int (st:Nat))),some (.val (.int (en:Nat))),some (.val (row (sub l st en))),some (.own (A.map tc)),q7,q8])
  (by
   rintro j p hp ρ ⟨q7,rfl⟩
   obtain⟨rfl,hj⟩:=L7 hp
   have hjk:j<k:=by lia
   have hal:=a9b l st en j
   rw [show(1:Int)+(j:Int)=((j+1:Nat):Int) by lia] at hj ⊢
   have hr:=a8W (s:=sub l st en) (w:=j+1) (by lia) (by lia) (by lia)
   rw [b0S]
   have fz:∀nn:MS,R3 5 nn [some (.val (row l)),s1,some (.val (dv D)),some (.val (.int (st:Nat))),some (.val (.int (en:Nat))),some (.val (row (sub l st en))),some (.own ((A++ag l st en j).map tc)),some (.val (.int ((j+1:Nat):Int))),q8]=nn [some (.val (row l)),s1,some (.val (dv D)),some (.val (.int (st:Nat))),some (.val (.int (en:Nat))),some (.val (row (sub l st en))),some (.own ((A++ag l st en j).map tc)),some (.val (.int ((j+1:Nat):Int))),q8]:=fun _=>rfl
   cases hb:isr (sub l st en) (j+1) with
   |false=>
    rw [hb] at hr
    rw [if_neg Az,Ab]
    refine C4 (ρ1:=[some (.val (row l)),s1,some (.val (dv D)),some (.val (.int (st:Nat))),some (.val (.int (en:Nat))),some (.val (row (sub l st en))),some (.own ((A++ag l st en j).map tc)),some (.val (.int ((j+1:Nat):Int))),q8]) rfl (ρ2:=[some (.val (row l)),s1,some (.val (dv D)),some (.val (.int (st:Nat))),some (.val (.int (en:Nat))),some (.val (row (sub l st en))),some (.own ((A++ag l st en j).map tc)),some (.val (.int ((j+1:Nat):Int))),q8]) ?_ ⟨_,rfl⟩
    unfold G5
    rw [fz]
    simp (disch:=omega) only [b4,c5,b8,b5,b6,e9,f9,G3,m5,N1,a1y,AF,hr]
   |true=>
    rw [hb] at hr
    rw [if_pos rfl]
    obtain⟨kd,a,hv⟩:=hT st (st+(j+1)) (AM _) (by lia) (by lia) (by lia)
    have hv':l9 D [.inl ((st:Nat):Int),.inl ((st+(j+1):Nat):Int)]=_:=hv
    have hg:=b1j (i:=2) (mk:=a6 (a7 3) (a6 (m2 t7 (a7 3) (a7 7)) c4)) (ρ:=[some (.val (row l)),s1,some (.val (dv D)),some (.val (.int (st:Nat))),some (.val (.int (en:Nat))),some (.val (row (sub l st en))),some (.own ((A++ag l st en j).map tc)),some (.val (.int ((j+1:Nat):Int))),q8]) (by simp (disch:=omega) only [i9,d0,b4,c5,b8,b5,b6,AF];rfl) rfl hv'
    refine C4 (ρ1:=[some (.val (row l)),s1,some (.val (dv D)),some (.val (.int (st:Nat))),some (.val (.int (en:Nat))),some (.val (row (sub l st en))),some (.own ((A++ag l st en j).map tc)),some (.val (.int ((j+1:Nat):Int))),q8]) rfl (ρ2:=[some (.val (row l)),s1,some (.val (dv D)),some (.val (.int (st:Nat))),some (.val (.int (en:Nat))),some (.val (row (sub l st en))),some (.own ((A++(ag l st en j++[(1+lp (sub l st (st+(j+1))),sAg,j+1)])).map tc)),some (.val (.int ((j+1:Nat):Int))),q8]) ?_ ⟨_,rfl⟩
    unfold G5
    rw [fz]
    simp (disch:=omega) only [b4,c5,b8,b5,b6,e9,f9,M5,N1,a1y,AF,hr]
    rw [E4 (i:=6) (r:= .val (tc (1+lp (sub l st (st+(j+1))),sAg,j+1))) (ps:=(A++ag l st en j).map tc) (by
     simp (disch:=omega) only [i9,d0,d4,b4,c5,b8,b5,b6,G9,AF,AW,Aj,↓reduceIte,sz,Nat.reduceAdd,At,hg,b4K]
     rfl) rfl rfl (by rw [Aa,Ad];lia),<-List.append_assoc,Aw (l₂:=[(1+lp (sub l st (st+(j+1))),sAg,j+1)])]
    rfl) ⟨q7,by
     have:ag l st en 0=[]:=rfl
     rw [this,Ab]⟩
 rw [z9,show(((k:Nat):Int)+1 - 1).toNat=k by lia] at e1
 exact⟨q7',e1⟩
theorem b10(s1:Option b9)(A:List CH)(hA:A.length<=50)(q7 q8:Option b9):∃q8',O5 M9 (g8 8) (y6 ((st:Nat)+1) (en:Nat)) [some (.val (row l)),s1,some (.val (dv D)),some (.val (.int (st:Nat))),some (.val (.int (en:Nat))),some (.val (row (sub l st en))),some (.own (A.map tc)),q7,q8]
 =some (.nx [some (.val (row l)),s1,some (.val (dv D)),some (.val (.int (st:Nat))),some (.val (.int (en:Nat))),some (.val (row (sub l st en))),some (.own ((A++sp l st en (en - st - 1)).map tc)),q7,q8']):=by
 obtain⟨ρ1,e1,q8',rfl⟩:=A4 (body:=M9) (tg:=g8 8) (fun j ρ=>∃q8:Option b9,ρ=[some (.val (row l)),s1,some (.val (dv D)),some (.val (.int (st:Nat))),some (.val (.int (en:Nat))),some (.val (row (sub l st en))),some (.own ((A++sp l st en j).map tc)),q7,q8])
  (ps:=y6 ((st:Nat)+1) (en:Nat)) (ρ:=[some (.val (row l)),s1,some (.val (dv D)),some (.val (.int (st:Nat))),some (.val (.int (en:Nat))),some (.val (row (sub l st en))),some (.own (A.map tc)),q7,q8])
  (by
   rintro j p hp ρ ⟨q8,rfl⟩
   obtain⟨rfl,hj⟩:=L7 hp
   have hjk:st+1+j<en:=by lia
   have hal:=b3O l st en j
   rw [show((st:Nat):Int)+1+(j:Int)=((st+1+j:Nat):Int) by lia] at hj ⊢
   rw [b11]
   obtain⟨kd,a,hv⟩:=hT st (st+1+j) (AM _) (by lia) (by lia) (by lia)
   obtain⟨kd2,a2,hv2⟩:=hT (st+1+j) en (by lia) (by lia) (AM _) (by lia)
   have hg:=b1j (i:=2) (mk:=a6 (a7 3) (a6 (a7 8) c4)) (ρ:=[some (.val (row l)),s1,some (.val (dv D)),some (.val (.int (st:Nat))),some (.val (.int (en:Nat))),some (.val (row (sub l st en))),some (.own ((A++sp l st en j).map tc)),q7,some (.val (.int ((st+1+j:Nat):Int)))]) (by simp (disch:=omega) only [b4,c5,b8,b5,b6,AF]) rfl hv
   have hg2:=b1j (i:=2) (mk:=a6 (a7 8) (a6 (a7 4) c4)) (ρ:=[some (.val (row l)),s1,some (.val (dv D)),some (.val (.int (st:Nat))),some (.val (.int (en:Nat))),some (.val (row (sub l st en))),some (.own ((A++sp l st en j).map tc)),q7,some (.val (.int ((st+1+j:Nat):Int)))]) (by simp (disch:=omega) only [b4,c5,b8,b5,b6,AF]) rfl hv2
   refine C4 (ρ1:=[some (.val (row l)),s1,some (.val (dv D)),some (.val (.int (st:Nat))),some (.val (.int (en:Nat))),some (.val (row (sub l st en))),some (.own ((A++sp l st en j).map tc)),q7,some (.val (.int ((st+1+j:Nat):Int)))]) rfl (ρ2:=[some (.val (row l)),s1,some (.val (dv D)),some (.val (.int (st:Nat))),some (.val (.int (en:Nat))),some (.val (row (sub l st en))),some (.own ((A++(sp l st en j++[(lp (sub l st (st+1+j))+lp (sub l (st+1+j) en),sSp,st+1+j)])).map tc)),q7,some (.val (.int ((st+1+j:Nat):Int)))]) ?_ ⟨_,rfl⟩
   unfold M9
   rw [E4 (i:=6) (r:= .val (tc (lp (sub l st (st+1+j))+lp (sub l (st+1+j) en),sSp,st+1+j))) (ps:=(A++sp l st en j).map tc) (by
    simp (disch:=omega) only [i9,d0,d4,b4,c5,b8,b5,b6,G9,AF,AW,Aj,↓reduceIte,sz,Nat.reduceAdd,At,hg,hg2,b4K]
    rfl) rfl rfl (by rw [Aa,Ad];lia),<-List.append_assoc,Aw (l₂:=[(lp (sub l st (st+1+j))+lp (sub l (st+1+j) en),sSp,st+1+j)])]
   rfl) ⟨q8,by
    have:sp l st en 0=[]:=rfl
    rw [this,Ab]⟩
 rw [z9,show(((en:Nat):Int) - (((st:Nat):Int)+1)).toNat=en - st - 1 by lia] at e1
 exact⟨q8',e1⟩
end
theorem a7p{l:List Nat}{i j:Nat}(hi:i<=j)(hj:j<=l.length):cut l (some (i:Int)) (some (j:Int))=sub l i j:=by
 unfold cut sub
 rw [HT.sIx_nat,HT.sIx_nat,Nat.min_eq_left hj,Nat.min_eq_left (show i<=l.length by lia)]
structure PrT(l:List Nat)(P:List (List d5×PV)):Prop where
 ones:ones P=true
 val:∀c∈l,l9 P [.inr (S [c])]=some (.int 1)
theorem a6D{l:List Nat}(hl:l.length<=24){P D:List (List d5×PV)}(hP:PrT l P){st en:Nat}(h1:st<en)(h2:en<=l.length)(hT:Tb l D st en):K0 [row l,tv P,dv D,.int (st:Nat),.int (en:Nat)]=some (.own ((chs l st en).map tc)):=by
 have sl:=B1 (l:=l) (i:=st) h2
 have hne:sub l st en≠[]:=fun e=>by
  rw [e] at sl
  simp at sl
  lia
 obtain⟨c0,t,ec⟩:∃c t,sub l st en=c::t:=by
  cases h:sub l st en with
  |nil=>exact absurd h hne
  |cons a t=>exact⟨a,t,rfl⟩
 have hc0:c0∈l:=by
  have:c0∈sub l st en:=by rw [ec];exact Ai
  exact List.mem_of_mem_drop (List.mem_of_mem_take this)
 have hsl:gSl (.val (row l)) (some ((st:Nat):Int)) (some ((en:Nat):Int))=some (.val (row (sub l st en))):=by
  have:=a5R (l:=l) (lo:=some ((st:Nat):Int)) (hi:=some ((en:Nat):Int)) (by lia)
  rw [a7p (by lia) h2] at this
  exact this
 have hal:=a9c hne (by lia)
 have hix:=a4V ec (by lia)
 have hA:(al l st en).length<=1:=b2B l st en
 have e0:R3 5 (G8 (mtV (g0 O7 (a6 (a7 5) c4))) (D6 6 (a1j (a6 (a0R 1 (m2 y0 (a7 5) (mC (.int 0)))) (a6 (mC (.str (AS "alike"))) (a6 (m2 (gI fun i j=> .int (i - j)) (a7 4) (a7 3)) c4))))) v5) [some (.val (row l)),some (.val (tv P)),some (.val (dv D)),some (.val (.int (st:Nat))),some (.val (.int (en:Nat))),some (.val (row (sub l st en))),some (.own []),none,none]
  =some (.nx [some (.val (row l)),some (.val (tv P)),some (.val (dv D)),some (.val (.int (st:Nat))),some (.val (.int (en:Nat))),some (.val (row (sub l st en))),some (.own ((al l st en).map tc)),none,none]):=by
  have fz:∀nn:MS,R3 5 nn [some (.val (row l)),some (.val (tv P)),some (.val (dv D)),some (.val (.int (st:Nat))),some (.val (.int (en:Nat))),some (.val (row (sub l st en))),some (.own []),none,none]=nn [some (.val (row l)),some (.val (tv P)),some (.val (dv D)),some (.val (.int (st:Nat))),some (.val (.int (en:Nat))),some (.val (row (sub l st en))),some (.own []),none,none]:=fun _=>rfl
  rw [fz]
  unfold al
  cases hu:uni (sub l st en) with
  |false=>
   rw [hu] at hal
   simp (disch:=omega) only [b4,c5,b8,b5,b6,e9,f9,G3,m5,N1,a1y,AF,AZ,↓reduceIte,BG,hal]
  |true=>
   rw [hu] at hal
   have hg:a0R 1 (m2 y0 (a7 5) (mC (.int 0))) [some (.val (row l)),some (.val (tv P)),some (.val (dv D)),some (.val (.int (st:Nat))),some (.val (.int (en:Nat))),some (.val (row (sub l st en))),some (.own []),none,none]=some (.val (.int 1)):=by
    have hv:tvw 1 [some (.val (row l)),some (.val (tv P)),some (.val (dv D)),some (.val (.int (st:Nat))),some (.val (.int (en:Nat))),some (.val (row (sub l st en))),some (.own []),none,none]=some P:=b0I rfl hP.ones
    have hk:(m2 y0 (a7 5) (mC (.int 0))) [some (.val (row l)),some (.val (tv P)),some (.val (dv D)),some (.val (.int (st:Nat))),some (.val (.int (en:Nat))),some (.val (row (sub l st en))),some (.own []),none,none]=some (.val (row [c0])):=by simp (disch:=omega) only [d0,d4,b4,c5,AF,hix]
    have hks:Y7 (.val (row [c0]))=some (S [c0]):=rfl
    rw [a3m,hk,AF,hks,AF,hv,AF,hP.val c0 hc0]
    rfl
   have hd:((en:Nat):Int) - ((st:Nat):Int)=((en - st:Nat):Int):=by lia
   simp (disch:=omega) only [b4,c5,b8,b5,b6,e9,f9,M5,N1,a1y,AF,AQ,AZ,↓reduceIte,hal]
   rw [E4 (i:=6) (r:= .val (tc (1,sAl,en - st))) (ps:=[]) (by
    simp (disch:=omega) only [B7,d0,d4,b4,c5,b8,b5,b6,G9,AF,AW,Aj,↓reduceIte,sz,Nat.reduceAdd,At,hg,hd]
    rfl) rfl rfl (by simp)]
   rfl
 obtain⟨q7,e1⟩:=b0R hl h1 h2 hT (some (.val (tv P))) (al l st en) (by lia) none none ((en - st)/ 2) (AM _)
 have hag:=a9b l st en ((en - st)/ 2)
 obtain⟨q8,e2⟩:=b10 hl h1 h2 hT (some (.val (tv P))) (al l st en++ag l st en ((en - st)/ 2)) (by rw [Ad];lia) q7 none
 have hd2:(((en:Nat):Int) - ((st:Nat):Int))/ 2=(((en - st)/ 2:Nat):Int):=by lia
 have r1:a2n [.int 1,.int ((((en - st)/ 2:Nat):Int)+1)]=some (y6 1 ((((en - st)/ 2:Nat):Int)+1)):=a0r ⟨by lia,by lia,by lia⟩
 have r2:a2n [.int (((st:Nat):Int)+1),.int ((en:Nat):Int)]=some (y6 (((st:Nat):Int)+1) ((en:Nat):Int)):=a0r ⟨by lia,by lia,by lia⟩
 unfold K0 a34
 simp (disch:=omega) only [i9,B7,B6,d0,d4,b4,c5,b8,b5,b6,P0,g7,u8,a0H,e8,g9,k6,l0,x8,AF,AQ,AZ,AY,Ac,Ah,Ae,AU,AV,Aj,↓reduceIte,i6,i7,p9,a1h,a1i,sz,At,i6,i7,p9,hsl,e0,T5,hd2,r1,e1,r2,e2]
 rfl
theorem b3d{ps:List PV}{pr:PV->Int}(h:∀p∈ps,∀q∈ps,∃b,ltv p q=some b/\(b=true->pr p<=pr q)/\(b=false->pr q<=pr p))(ok:C6 ps 50=true)(h0:0<ps.length):∃p∈ps,a5P (.own ps)=some (.val p)/\∀q∈ps,pr p<=pr q:=by
 have best:∀m,m<ps.length->argBest (btV ps) m<=m/\∀j,j<=m->pr (ps.getD (argBest (btV ps) m) .none)<=pr (ps.getD j .none):=by
  intro m
  induction m with
  |zero=>
   intro hm
   refine⟨AM _,fun j hj=> ?_⟩
   have:j=0:=by lia
   subst this
   exact Int.le_refl _
  |succ m ih=>
   intro hm
   obtain⟨h1,h2⟩:=ih (by lia)
   have hlt:argBest (btV ps) m<ps.length:=by lia
   have e1:ps[m+1]?=some ps[m+1]:=BA hm
   have e2:ps[argBest (btV ps) m]?=some ps[argBest (btV ps) m]:=BA hlt
   have d1:ps.getD (m+1) .none=ps[m+1]:=by rw [List.getD_eq_getElem?_getD,e1];rfl
   have d2:ps.getD (argBest (btV ps) m) .none=ps[argBest (btV ps) m]:=by rw [List.getD_eq_getElem?_getD,e2];rfl
   obtain⟨b,hb,ht,hf⟩:=h _ (List.getElem_mem hm) _ (List.getElem_mem hlt)
   have hbt:btV ps (m+1) (argBest (btV ps) m)=b:=by
    simp only [btV,e1,e2]
    rw [hb];rfl
   simp only [argBest]
   rw [hbt]
   cases b with
   |true=>
    simp only [if_true]
    refine⟨AM _,fun j hj=> ?_⟩
    rcases Nat.lt_or_ge j (m+1) with hj'|hj'
    ·have:=h2 j (by lia)
     have:=ht rfl
     rw [d1]
     rw [d2] at*
     lia
    ·have:j=m+1:=by lia
     subst this
     exact Int.le_refl _
   |false=>
    simp only [BG,if_false]
    refine⟨by lia,fun j hj=> ?_⟩
    rcases Nat.lt_or_ge j (m+1) with hj'|hj'
    ·exact h2 j (by lia)
    ·have:j=m+1:=by lia
     subst this
     have:=hf rfl
     rw [d1,d2]
     exact this
 obtain⟨g1,g2⟩:=best (ps.length - 1) (by lia)
 have hlt:argBest (btV ps) (ps.length - 1)<ps.length:=by lia
 refine⟨ps[argBest (btV ps) (ps.length - 1)],List.getElem_mem hlt, ?_,fun q hq=> ?_⟩
 ·show(if _ then _ else _)=_
  rw [if_pos ⟨ok,h0,List.all_eq_true.mpr fun p hp=>List.all_eq_true.mpr fun q hq=>by
   obtain⟨b,hb,_⟩:=h p hp q hq
   rw [hb];rfl⟩,BA hlt]
  rfl
 ·obtain⟨j,hj,rfl⟩:=List.getElem_of_mem hq
  have:=g2 j (by lia)
  simpa [List.getD,hj,hlt] using this
theorem b29(c d:CH):∃b,ltv (tc c) (tc d)=some b/\(b=true->c.1<=d.1)/\(b=false->d.1<=c.1):=by
 obtain⟨p,k,a⟩:=c
 obtain⟨q,k',a'⟩:=d
 show ∃b,ltv (.tuple [.int (p:Nat),.str k,.int (a:Nat)]) (.tuple [.int (q:Nat),.str k',.int (a':Nat)])=some b/\_
 rw [ltv,a1f]
 by_cases e:PyData.eqv (.int (p:Nat)) (.int (q:Nat))=true
 ·rw [if_pos e]
  have e':p=q:=by
   have:((p:Nat):Int)=(q:Nat):=by simpa [PyData.eqv] using e
   lia
  have some_:∃b,a1f [.str k,.int (a:Nat)] [.str k',.int (a':Nat)]=some b:=by
   rw [a1f]
   split
   ·rw [a1f]
    split
    ·exact⟨_,rfl⟩
    ·exact⟨_,rfl⟩
   ·exact⟨_,rfl⟩
  obtain⟨b,hb⟩:=some_
  exact⟨b,hb,fun _=>by show p<=q;lia,fun _=>by show q<=p;lia⟩
 ·rw [if_neg e]
  refine⟨decide (((p:Nat):Int)<(q:Nat)),rfl,fun h=> ?_,fun h=> ?_⟩
  ·have:=of_decide_eq_true h
   show p<=q
   lia
  ·have:=of_decide_eq_false h
   show q<=p
   lia
def prc:PV->Int
 | .tuple (.int p::_)=>p
 |_=>0
theorem b3e{cs:List CH}(h:cs≠[]):∃c∈cs,a5P (.own (cs.map tc))=some (.val (tc c))/\∀d∈cs,c.1<=d.1:=by
 obtain⟨p,hp,e,hm⟩:=b3d (ps:=cs.map tc) (pr:=prc) (fun p hp q hq=>by
  obtain⟨c,_,rfl⟩:=Am.mp hp
  obtain⟨d,_,rfl⟩:=Am.mp hq
  obtain⟨b,h1,h2,h3⟩:=b29 c d
  exact⟨b,h1,fun z=>Int.ofNat_le.mpr (h2 z),fun z=>Int.ofNat_le.mpr (h3 z)⟩) (a21 fun p hp=>by
   obtain⟨c,_,rfl⟩:=Am.mp hp
   rfl) (by
   rw [Aa]
   exact List.length_pos_iff.mpr h)
 obtain⟨c,hc,rfl⟩:=Am.mp hp
 exact⟨c,hc,e,fun d hd=>Int.ofNat_le.mp (hm (tc d) (Am.mpr ⟨d,hd,rfl⟩))⟩
structure a0G(l:List Nat)(st en:Nat)(c:CH):Prop where
 pr:c.1=lp (sub l st en)
 kd:(c.2.1=sAl/\uni (sub l st en)=true)\/(c.2.1=sAg/\1<=c.2.2/\2*c.2.2<=en - st/\isr (sub l st en) c.2.2=true/\c.1=1+lp (sub l st (st+c.2.2)))\/(c.2.1=sSp/\st<c.2.2/\c.2.2<en/\c.1=lp (sub l st c.2.2)+lp (sub l c.2.2 en))
theorem V6{l:List Nat}{st en:Nat}{c:CH}:c∈chs l st en↔(uni (sub l st en)=true/\c=(1,sAl,en - st))\/(∃w,1<=w/\w<=(en - st)/ 2/\isr (sub l st en) w=true/\c=(1+lp (sub l st (st+w)),sAg,w))\/∃m,st<m/\m<en/\c=(lp (sub l st m)+lp (sub l m en),sSp,m):=by
 unfold chs
 rw [As,As]
 have ha:c∈al l st en↔uni (sub l st en)=true/\c=(1,sAl,en - st):=by
  unfold al
  split
  ·rename_i h
   simp [h]
  ·rename_i h
   constructor
   ·intro z;cases z
   ·intro z;exact absurd z.1 h
 have hg:c∈ag l st en ((en - st)/ 2)↔∃w,1<=w/\w<=(en - st)/ 2/\isr (sub l st en) w=true/\c=(1+lp (sub l st (st+w)),sAg,w):=by
  unfold ag
  constructor
  ·intro h
   obtain⟨w,hw,rfl⟩:=Am.mp h
   obtain⟨hw1,hw2⟩:=List.mem_filter.mp hw
   obtain⟨k,hk,rfl⟩:=Am.mp hw1
   have:=List.mem_range.mp hk
   exact⟨k+1,by lia,by lia,hw2,rfl⟩
  ·rintro⟨w,h1,h2,h3,rfl⟩
   exact Am.mpr ⟨w,List.mem_filter.mpr ⟨Am.mpr ⟨w - 1,List.mem_range.mpr (by lia),by lia⟩,h3⟩,rfl⟩
 have hs:c∈sp l st en (en - st - 1)↔∃m,st<m/\m<en/\c=(lp (sub l st m)+lp (sub l m en),sSp,m):=by
  unfold sp
  constructor
  ·intro h
   obtain⟨k,hk,rfl⟩:=Am.mp h
   have:=List.mem_range.mp hk
   exact⟨st+1+k,by lia,by lia,rfl⟩
  ·rintro⟨m,h1,h2,rfl⟩
   exact Am.mpr ⟨m - st - 1,List.mem_range.mpr (by lia),by rw [show st+1+(m - st - 1)=m by lia]⟩
 rw [ha,hg,hs,or_assoc]
theorem a4X{l:List Nat}{st en w:Nat}(h2:en<=l.length)(hw:1<=w)(hw2:w<=en - st):isr (sub l st en) w=true↔(en - st) % w=0/\sub l st en=rep ((en - st)/ w) (sub l st (st+w)):=by
 unfold isr
 rw [B1 h2,a1x hw2,Bool.and_eq_true,decide_eq_true_iff,beq_iff_eq]
theorem a9K{l:List Nat}(hl:LV l){st en:Nat}(h1:st<en)(h2:en<=l.length){c:CH}(hc:c∈chs l st en)(hm:∀d∈chs l st en,c.1<=d.1):a0G l st en c:=by
 have hL:=a10 hl h1 h2
 have sl:=B1 (l:=l) (i:=st) h2
 have h24:=hl.len
 have lo:lp (sub l st en)<=c.1:=by
  rcases V6.mp hc with⟨hu,rfl⟩|⟨w,w1,w2,w3,rfl⟩|⟨m,m1,m2,rfl⟩
  ·obtain⟨x,e⟩:=(a0s hL.ne).mp hu
   have hx:x∈L5:=hL.ch x (by rw [e,sl];exact List.mem_replicate.mpr ⟨by lia,rfl⟩)
   rw [e,sl,a1e (by lia) (by lia) hx]
   exact AM _
  ·obtain⟨e1,e2⟩:=(a4X h2 w1 (by lia)).mp w3
   have hp:=a10 hl (i:=st) (j:=st+w) (by lia) (by lia)
   have sw:=B1 (l:=l) (i:=st) (j:=st+w) (by lia)
   have hk:2<=(en - st)/ w:=(Nat.le_div_iff_mul_le (by lia)).mpr (by lia)
   have hmul:=Nat.div_mul_cancel (Nat.dvd_of_mod_eq_zero e1)
   show lp (sub l st en)<=1+lp (sub l st (st+w))
   have:=a3h hp hk (by rw [sw,show st+w - st=w by lia,hmul];lia) (by rw [<-e2];exact hL)
   rwa [<-e2] at this
  ·show lp (sub l st en)<=lp (sub l st m)+lp (sub l m en)
   have:=a3i (a10 hl m1 (by lia)) (a10 hl m2 h2) (by rw [a11 (by lia) (by lia)];exact hL)
   rwa [a11 (by lia) (by lia)] at this
 have hi:c.1<=lp (sub l st en):=by
  rcases a9Z hL with⟨x,k,hk,hx,e,e1⟩|⟨k,p,hk,hp,e,e1⟩|⟨a,b,ha,hb,e,e1⟩
  ·have hu:uni (sub l st en)=true:=(a0s hL.ne).mpr ⟨x,by rw [e,List.length_replicate]⟩
   have:=hm _ (V6.mpr (.inl ⟨hu,rfl⟩))
   rw [e1]
   exact this
  ·obtain⟨r1,r2,r3,r4,r5⟩:=b1Q h2 hk hp.ne e
   have hw:isr (sub l st en) p.length=true:=(a4X h2 r1 (by lia)).mpr ⟨r3,by rw [r4,<-r5];exact e⟩
   have:=hm _ (V6.mpr (.inr (.inl ⟨p.length,r1,by lia,hw,rfl⟩)))
   have this:c.1<=1+lp (sub l st (st+p.length)):=this
   rw [<-r5] at this
   lia
  ·obtain⟨r1,r2,r3⟩:=b0U h2 e
   have la:0<a.length:=List.length_pos_iff.mpr ha.ne
   have lb:0<b.length:=List.length_pos_iff.mpr hb.ne
   have:=hm _ (V6.mpr (.inr (.inr ⟨st+a.length,by lia,by lia,rfl⟩)))
   have this:c.1<=lp (sub l st (st+a.length))+lp (sub l (st+a.length) en):=this
   rw [<-r1,<-r2] at this
   lia
 refine⟨by lia, ?_⟩
 rcases V6.mp hc with⟨hu,rfl⟩|⟨w,w1,w2,w3,rfl⟩|⟨m,m1,m2,rfl⟩
 ·exact .inl ⟨rfl,hu⟩
 ·exact .inr (.inl ⟨rfl,w1,by show 2*w<=en - st;lia,w3,rfl⟩)
 ·exact .inr (.inr ⟨rfl,m1,m2,rfl⟩)
theorem b2I{l:List Nat}{st en:Nat}(h1:st<en)(h2:en<=l.length):chs l st en≠[]:=by
 intro e
 by_cases h:en - st=1
 ·have sl:=B1 (l:=l) (i:=st) h2
  rw [h] at sl
  obtain⟨x,hx⟩:=List.length_eq_one_iff.mp sl
  have:(1,sAl,en - st)∈chs l st en:=V6.mpr (.inl ⟨by rw [hx];simp [uni],rfl⟩)
  rw [e] at this;cases this
 ·have:(lp (sub l st (st+1))+lp (sub l (st+1) en),sSp,st+1)∈chs l st en:=V6.mpr (.inr (.inr ⟨st+1,by lia,by lia,rfl⟩))
  rw [e] at this;cases this
def TB(l:List Nat)(D:List (List d5×PV))(w s:Nat):Prop:=∀i j,i<j->j<=l.length->(j - i<w\/(j - i=w/\i<s))->∃c,l9 D [.inl (i:Nat),.inl (j:Nat)]=some (tc c)/\a0G l i j c
theorem b4j(cs:List CH):ndL (cs.map tc)=true:=by
 induction cs with
 |nil=>rfl
 |cons c cs ih=>show(nd (tc c)&& ndL (cs.map tc))=true;rw [ih];rfl
theorem b0X{l:List Nat}(hl:LV l){P D:List (List d5×PV)}(hP:PrT l P){w s:Nat}(hw:1<=w)(hs:s+w<=l.length)(hT:TB l D w s)(hD:D.length<=1000)(q5:Option b9):
 ∃D',B0 [some (.val (row l)),some (.val (tv P)),some (.ow (.dct D)),some (.val (.int (w:Nat))),some (.val (.int (s:Nat))),q5]=some (.nx [some (.val (row l)),some (.val (tv P)),some (.ow (.dct D')),some (.val (.int (w:Nat))),some (.val (.int (s:Nat))),some (.val (.int ((s+w:Nat):Int)))])/\TB l D' w (s+1)/\D'.length<=D.length+1:=by
 have hTb:Tb l D s (s+w):=fun i j h1 h2 h3 h4=>by
  obtain⟨c,hv,g⟩:=hT i j h2 (by lia) (.inl (by lia))
  obtain⟨p,kd,a⟩:=c
  have:p=lp (sub l i j):=g.pr
  subst this
  exact⟨kd,a,hv⟩
 have hc:=a6D hl.len hP (st:=s) (en:=s+w) (by lia) hs hTb
 obtain⟨c,hcm,hmin,hle⟩:=b3e (b2I (l:=l) (st:=s) (en:=s+w) (by lia) hs)
 have hg:=a9K hl (st:=s) (en:=s+w) (by lia) hs hcm hle
 have hlend:Z1 2 (g0 K0 (a6 (a7 0) (a6 (a7 1) (a6 (a7 2) (a6 (a7 4) (a6 (a7 5) c4)))))) [some (.val (row l)),some (.val (tv P)),some (.ow (.dct D)),some (.val (.int (w:Nat))),some (.val (.int (s:Nat))),some (.val (.int ((s+w:Nat):Int)))]=some (.own ((chs l s (s+w)).map tc)):=by
  unfold Z1
  show((g0 K0 (a6 (a7 0) (a6 (a7 1) (a6 (a7 2) (a6 (a7 4) (a6 (a7 5) c4)))))) [some (.val (row l)),some (.val (tv P)),some (.val (dv D)),some (.val (.int (w:Nat))),some (.val (.int (s:Nat))),some (.val (.int ((s+w:Nat):Int)))]).bind _=_
  have:(g0 K0 (a6 (a7 0) (a6 (a7 1) (a6 (a7 2) (a6 (a7 4) (a6 (a7 5) c4)))))) [some (.val (row l)),some (.val (tv P)),some (.val (dv D)),some (.val (.int (w:Nat))),some (.val (.int (s:Nat))),some (.val (.int ((s+w:Nat):Int)))]=some (.own ((chs l s (s+w)).map tc)):=by simp (disch:=omega) only [b4,c5,b8,b5,b6,e9,AF,hc]
  rw [this,AF]
  exact if_pos (b4j _)
 have hpl:=a6i D [.inl ((s:Nat):Int),.inl ((s+w:Nat):Int)] (tc c)
 refine⟨V7 D [.inl ((s:Nat):Int),.inl ((s+w:Nat):Int)] (tc c), ?_,fun i j h1 h2 h3=> ?_,by lia⟩
 ·unfold B0
  have hsw:((s:Nat):Int)+((w:Nat):Int)=((s+w:Nat):Int):=by lia
  simp (disch:=omega) only [i9,d0,b4,c5,g7,u8,e8,g9,AF,AU,AV,hsw]
  rw [b1r (a:=((s:Nat):Int)) (b:=((s+w:Nat):Int)) (r:= .val (tc c)) (D:=D) (by simp (disch:=omega) only [k9,AF,hlend,hmin]) rfl (by simp (disch:=omega) only [b4,c5,b8,b5,b6,AF]) rfl (by lia)]
  rfl
 ·rw [a0h]
  split
  ·rename_i e
   injection e with e1 e2
   injection e2 with e2 _
   have e1:=Sum.inl.inj e1
   have e2:=Sum.inl.inj e2
   have:s=i:=by lia
   have:s+w=j:=by lia
   subst i j
   exact⟨c,rfl,hg⟩
  ·rename_i e
   refine hT i j h1 h2 ?_
   rcases h3 with h3|⟨h3,h4⟩
   ·exact .inl h3
   ·refine .inr ⟨h3, ?_⟩
    rcases Nat.lt_or_ge i s with h5|h5
    ·exact h5
    ·exfalso
     have e1:i=s:=by lia
     have e2:j=s+w:=by lia
     exact e (by rw [e1,e2])
theorem b0W{l:List Nat}(hl:LV l){P:List (List d5×PV)}(hP:PrT l P):∃D,(∀i j,i<j->j<=l.length->∃c,l9 D [.inl (i:Nat),.inl (j:Nat)]=some (tc c)/\a0G l i j c)/\G2 [row l,tv P]=some (.ow (.dct D)):=by
 have h24:=hl.len
 have hln:=G1 (l:=l) (by lia)
 obtain⟨ρ1,e1,D,q3,q4,q5,rfl,hT,hD⟩:=A4 (body:=G4) (tg:=g8 3) (fun k ρ=>∃(D:List (List d5×PV)) (q3 q4 q5:Option b9),ρ=[some (.val (row l)),some (.val (tv P)),some (.ow (.dct D)),q3,q4,q5]/\TB l D (k+1) 0/\D.length<=25*k)
  (ps:=y6 1 ((l.length:Nat)+1)) (ρ:=[some (.val (row l)),some (.val (tv P)),some (.ow (.dct [])),none,none,none])
  (by
   rintro k p hp ρ ⟨D,q3,q4,q5,rfl,hT,hD⟩
   obtain⟨rfl,hk⟩:=L7 hp
   rw [show(1:Int)+(k:Int)=((k+1:Nat):Int) by lia] at hk ⊢
   obtain⟨ρ2,e2,D2,q4',q5',rfl,hT2,hD2⟩:=A4 (body:=B0) (tg:=g8 4) (fun s ρ=>∃(D:List (List d5×PV)) (q4 q5:Option b9),ρ=[some (.val (row l)),some (.val (tv P)),some (.ow (.dct D)),some (.val (.int ((k+1:Nat):Int))),q4,q5]/\TB l D (k+1) s/\D.length<=25*k+s)
    (ps:=y6 0 ((l.length - k:Nat):Int)) (ρ:=[some (.val (row l)),some (.val (tv P)),some (.ow (.dct D)),some (.val (.int ((k+1:Nat):Int))),q4,q5])
    (by
     rintro s p hp ρ ⟨D,q4,q5,rfl,hT,hD⟩
     obtain⟨rfl,hs⟩:=L7 hp
     rw [show(0:Int)+(s:Int)=(s:Int) by lia] at hs ⊢
     obtain⟨D',e,hT',hD'⟩:=b0X hl hP (w:=k+1) (s:=s) (by lia) (by lia) hT (by lia) q5
     exact C4 (ρ1:=[some (.val (row l)),some (.val (tv P)),some (.ow (.dct D)),some (.val (.int ((k+1:Nat):Int))),some (.val (.int (s:Nat))),q5]) rfl e ⟨D',_,_,rfl,hT',by lia⟩) ⟨D,q4,q5,rfl,hT,by lia⟩
   rw [z9,show(((l.length - k:Nat):Int) - 0).toNat=l.length - k by lia] at hT2 hD2
   have hr:((l.length:Nat):Int) - ((k+1:Nat):Int)+1=((l.length - k:Nat):Int):=by lia
   have r1:a7Q [.int ((l.length - k:Nat):Int)]=some (y6 0 ((l.length - k:Nat):Int)):=a1s ⟨by lia,by lia⟩
   refine C4 (ρ1:=[some (.val (row l)),some (.val (tv P)),some (.ow (.dct D)),some (.val (.int ((k+1:Nat):Int))),q4,q5]) rfl (ρ2:=[some (.val (row l)),some (.val (tv P)),some (.ow (.dct D2)),some (.val (.int ((k+1:Nat):Int))),q4',q5']) ?_ ⟨D2,_,_,_,rfl,fun i j h1 h2 h3=>hT2 i j h1 h2 (by lia),by lia⟩
   unfold G4
   simp (disch:=omega) only [i9,B7,d0,k9,d4,b4,c5,b8,b5,b6,x8,K4,AF,hln,hr,K4,r1,e2]) ⟨[],none,none,none,rfl,fun i j h1 h2 h3=>by lia,by simp⟩
 rw [z9,show(((l.length:Nat):Int)+1 - 1).toNat=l.length by lia] at hT
 refine⟨D,fun i j h1 h2=>hT i j h1 h2 (by lia), ?_⟩
 have r1:a2n [.int 1,.int (((l.length:Nat):Int)+1)]=some (y6 1 (((l.length:Nat):Int)+1)):=a0r ⟨by lia,by lia,by lia⟩
 unfold G2 X7
 simp (disch:=omega) only [i9,d0,k9,d4,b4,b8,b5,b6,g7,e8,g9,k6,l0,x8,AF,AQ,AZ,AY,Ac,Ah,Ae,AU,AV,a1h,a1i,a8B,a4C,hln,T5,r1,e1]
theorem a6j{k:List d5}{v:PV}:∀(k4 kvs:List (List d5×PV)),(∀e∈k4,e.1=k->e.2=v)->(l9 kvs k=some v\/∃e∈k4,e.1=k)->l9 (a4p kvs k4) k=some v
 |[],kvs,_,h=>h.elim id fun⟨e,he,_⟩=>nomatch he
 |(k',v')::r,kvs,hv,h=>by
  show l9 (a4p (V7 kvs k' v') r) k=some v
  refine a6j r _ (fun e he=>hv e (Ak _ he)) ?_
  rw [a0h]
  by_cases c:k'=k
  ·rw [if_pos c]
   exact .inl (congrArg some (hv (k',v') Ai c))
  ·rw [if_neg c]
   rcases h with h|⟨e,he,hk⟩
   ·exact .inl h
   ·rcases Ap.mp he with rfl|he
    ·exact absurd hk c
    ·exact .inr ⟨e,he,hk⟩
theorem a4o{kvs:List (List d5×PV)}{k:List d5}{v:PV}(h:ones kvs=true)(hk:k.length=1):ones (V7 kvs k v)=true:=by
 unfold ones at h ⊢
 rw [List.all_eq_true] at h ⊢
 intro e he
 unfold V7 at he
 split at he
 ·obtain⟨e',he',rfl⟩:=Am.mp he
  split
  ·exact h e' he'
  ·exact h e' he'
 ·rcases As.mp he with he|he
  ·exact h e he
  ·rw [List.mem_singleton] at he
   subst he
   simpa using hk
theorem a4q:∀(k4 kvs:List (List d5×PV)),ones kvs=true->(∀e∈k4,e.1.length=1)->ones (a4p kvs k4)=true
 |[],kvs,h,_=>h
 |(k,v)::r,kvs,h,g=>a4q r (V7 kvs k v) (a4o h (g _ Ai)) fun e he=>g e (Ak _ he)
theorem a6W{x:Str}{g:List PV->Option b9}{i:Nat}{m:MA}{ρ:a9}{qs:List PV}{r:b9}{tab:List (Str×(List PV->Option b9))}(h:ρ[i]?=some (some (.val (a24 x))))(hl:tab.lookup x=some g)(hm:m ρ=some qs)(hg:g qs=some r):a3k tab i m ρ=some r:=by
 unfold a3k
 rw [h]
 show(tab.lookup x).bind (fun g=>(m ρ).bind g)=_
 rw [hl,AF,hm,AF,hg]
abbrev fnR:PV:=a24 (AS "run_of")
mutual
theorem b3g:∀p:Pa,nd (B3 p)=true/\PU.nk (B3 p)=true
 | .run c k=>by rw [B3];exact⟨rfl,rfl⟩
 | .again k ps=>by
   have h:=a6Y ps
   rw [B3]
   constructor
   ·show(nd D1 &&(nd (.int (k:Nat))&&(ndL (j0 ps)&& true)))=true
    rw [h.1];rfl
   ·show(PU.nk D1 &&(PU.nk (.int (k:Nat))&&(nkL (j0 ps)&& true)))=true
    rw [h.2];rfl
theorem a6Y:∀ps:List Pa,ndL (j0 ps)=true/\nkL (j0 ps)=true
 |[]=>by rw [j0];exact⟨rfl,rfl⟩
 |p::ps=>by
  have h1:=b3g p
  have h2:=a6Y ps
  rw [j0]
  constructor
  ·show(nd (B3 p)&& ndL (j0 ps))=true
   rw [h1.1,h2.1];rfl
  ·show(PU.nk (B3 p)&& nkL (j0 ps))=true
   rw [h1.2,h2.2];rfl
end
theorem b1L(a b:List Pa):j0 (a++b)=j0 a++j0 b:=by rw [N3,N3,N3,Aw]
theorem a2z{l:List Nat}(hl:LV l){D:List (List d5×PV)}(hD:∀i j,i<j->j<=l.length->∃c,l9 D [.inl (i:Nat),.inl (j:Nat)]=some (tc c)/\a0G l i j c):∀(f st en:Nat),st<en->en<=l.length->en - st<=f->
 ∃T,FD T (sub l st en)/\N4 T=lp (sub l st en)/\U9 T<en - st/\K1 f [row l,dv D,fnR,.int (st:Nat),.int (en:Nat)]=some (.own (j0 T))
 |0,st,en,h1,h2,h3=>by lia
 |f+1,st,en,h1,h2,h3=>by
  have h24:=hl.len
  have hL:=a10 hl h1 h2
  have sl:=B1 (l:=l) (i:=st) h2
  obtain⟨c,hv,g⟩:=hD st en h1 h2
  have hg:=b1j (i:=1) (mk:=a6 (a7 3) (a6 (a7 4) c4)) (ρ:=[some (.val (row l)),some (.val (dv D)),some (.val fnR),some (.val (.int (st:Nat))),some (.val (.int (en:Nat))),none,none,none]) (by simp (disch:=omega) only [b4,c5,b8,b5,b6,AF]) rfl hv
  obtain⟨p,kd,a⟩:=c
  have hpr:p=lp (sub l st en):=g.pr
  have eqs:∀x y:Str,gEq (.val (.str x)) (.val (.str y))=some (.val (.bool (decide (x=y)))):=fun x y=>by
   rw [a27 (x:= .val (.str x)) (y:= .val (.str y)) ⟨rfl,rfl⟩]
   congr 3
  have t1:=b5f (p,kd,a)
  have t2:=b5g (p,kd,a)
  simp only at t1 t2
  have U0:∀b:MS,t8 3 (k0 (u6 5 (V4 1 (a6 (a7 3) (a6 (a7 4) c4)))) b) [row l,dv D,fnR,.int (st:Nat),.int (en:Nat)]=(b [some (.val (row l)),some (.val (dv D)),some (.val fnR),some (.val (.int (st:Nat))),some (.val (.int (en:Nat))),some (.val (tc (p,kd,a))),none,none]).bind b1T:=fun b=>by
   show((k0 (u6 5 (V4 1 (a6 (a7 3) (a6 (a7 4) c4)))) b) [some (.val (row l)),some (.val (dv D)),some (.val fnR),some (.val (.int (st:Nat))),some (.val (.int (en:Nat))),none,none,none]).bind b1T=_
   simp (disch:=omega) only [g7,u8,e8,g9,AF,AU,AV,hg]
  have hd:((en:Nat):Int) - ((st:Nat):Int)=((en - st:Nat):Int):=by lia
  rcases g.kd with⟨k1,hu⟩|⟨k1,a1,a2,a3,a4⟩|⟨k1,a1,a2,a4⟩
  ·have k1:kd=sAl:=k1
   subst k1
   obtain⟨x,e⟩:=(a0s hL.ne).mp hu
   rw [sl] at e
   have hx:x∈L5:=hL.ch x (by rw [e];exact List.mem_replicate.mpr ⟨by lia,rfl⟩)
   refine⟨[.run x (en - st)],by rw [e];exact a9A (by lia) (by lia) hx,by rw [a6E,e,a1e (by lia) (by lia) hx],by rw [U9,dpP,U9];simp;lia, ?_⟩
   have hix:y0 (.val (row l)) (.val (.int (st:Nat)))=some (.val (row [x])):=by
    have hlt:st<l.length:=by lia
    have:l[st]=x:=by
     have hm:l[st]∈sub l st en:=by
      unfold sub
      rw [List.drop_eq_getElem_cons hlt]
      obtain⟨m,hm⟩:∃m,en - st=m+1:=⟨en - st - 1,by lia⟩
      rw [hm,List.take_succ_cons]
      exact Ai
     rw [e] at hm
     exact(List.mem_replicate.mp hm).2
    have e2:l=l.take st++x::l.drop (st+1):=by
     rw [<-this,<-List.drop_eq_getElem_cons hlt,List.take_append_drop]
    have h:=a6l (pre:=l.take st) (r:=l.drop (st+1)) (x:=x) (by rw [<-e2];lia)
    rw [<-e2,List.length_take,Nat.min_eq_left (by lia)] at h
    exact h
   have hrun:T3 [row [x],.int ((en - st:Nat):Int)]=some (.val (B3 (.run x (en - st)))):=by
    rw [B3]
    unfold T3 a5x
    simp (disch:=omega) only [d4,b4,c5,b8,b5,b6,G9,l5,E1,k6,l0,AF,AQ,AZ,Ac,Ab,AW,Aj,↓reduceIte,sz,Nat.reduceAdd,At]
   have hcv:=a6W (x:=AS "run_of") (g:=T3) (i:=2) (m:=a6 (m2 y0 (a7 0) (a7 3)) (a6 (m2 (gI fun i j=> .int (i - j)) (a7 4) (a7 3)) c4)) (ρ:=[some (.val (row l)),some (.val (dv D)),some (.val fnR),some (.val (.int (st:Nat))),some (.val (.int (en:Nat))),some (.val (tc (p,sAl,a))),none,none]) (qs:=[row [x],.int ((en - st:Nat):Int)]) (tab:=[(AS "run_of",T3)]) rfl rfl (by simp (disch:=omega) only [B7,d0,b4,c5,b8,b5,b6,AF,hix,hd]) hrun
   have q1:=eqs sAl (AS "alike")
   rw [decide_eq_true (show sAl=AS "alike" from rfl)] at q1
   show t8 3 (m3 (l6 f)) _=_
   unfold m3
   rw [U0]
   simp (disch:=omega) only [d0,d4,b4,c5,b8,b5,b6,P0,l5,a3F,e8,a2L,f9,M5,l0,g5,j8,AF,AW,Aj,↓reduceIte,sz,Nat.reduceAdd,At,t1,q1,hcv]
   rw [j0,j0]
  ·have k1:kd=sAg:=k1
   subst k1
   have a1:1<=a:=a1
   have a2:2*a<=en - st:=a2
   have a3:isr (sub l st en) a=true:=a3
   have a4:p=1+lp (sub l st (st+a)):=a4
   obtain⟨e1,e2⟩:=(a4X h2 a1 (by lia)).mp a3
   obtain⟨T,g1,g2,g3,g4⟩:=a2z hl hD f st (st+a) (by lia) (by lia) (by lia)
   have hk:2<=(en - st)/ a:=(Nat.le_div_iff_mul_le (by lia)).mpr (by lia)
   have hk2:(en - st)/ a<=en - st:=Nat.div_le_self _ _
   refine⟨[.again ((en - st)/ a) T],by rw [e2];exact a5K g1 hk (by lia),by rw [a2Y,g2,<-a4,hpr],by rw [U9,dpP,U9];simp;lia, ?_⟩
   have hsa:((st:Nat):Int)+((a:Nat):Int)=((st+a:Nat):Int):=by lia
   have hda:((en - st:Nat):Int)/((a:Nat):Int)=(((en - st)/ a:Nat):Int):=rfl
   have ca:((a:Nat):Int)≠0:=by lia
   have q1:=eqs sAg (AS "alike")
   rw [decide_eq_false (by decide)] at q1
   have q2:=eqs sAg (AS "again")
   rw [decide_eq_true (show sAg=AS "again" from rfl)] at q2
   have g4':l6 f [row l,dv D,fnR,.int (st:Nat),.int ((st+a:Nat):Int)]=some (.own (j0 T)):=g4
   have fz:∀nn:MS,R3 6 nn [some (.val (row l)),some (.val (dv D)),some (.val fnR),some (.val (.int (st:Nat))),some (.val (.int (en:Nat))),some (.val (tc (p,sAg,a))),some (.own (j0 T)),none]=nn [some (.val (row l)),some (.val (dv D)),some (.val fnR),some (.val (.int (st:Nat))),some (.val (.int (en:Nat))),some (.val (tc (p,sAg,a))),some (.val (.list (j0 T))),none]:=fun _=>rfl
   show t8 3 (m3 (l6 f)) _=_
   unfold m3
   rw [U0]
   simp (disch:=omega) only [i9,B7,B6,d0,d4,b4,c5,b8,b5,b6,G9,P0,e9,g7,a0H,l5,a3F,e8,g9,a2L,f9,M5,G3,m5,l0,g5,j8,AF,AU,AV,AW,Aj,↓reduceIte,sz,Nat.reduceAdd,At,t1,t2,q1,q2,hsa,g4',fz,hd,hda,ca]
   rw [j0,j0,B3]
   try rfl
  ·have k1:kd=sSp:=k1
   subst k1
   have a1:st<a:=a1
   have a2:a<en:=a2
   have a4:p=lp (sub l st a)+lp (sub l a en):=a4
   obtain⟨T1,g1,g2,g3,g4⟩:=a2z hl hD f st a a1 (by lia) (by lia)
   obtain⟨T2,j1,j2,j3,j4⟩:=a2z hl hD f a en a2 h2 (by lia)
   refine⟨T1++T2, ?_,by rw [a2A,g2,j2,<-a4,hpr],by rw [a7r];lia, ?_⟩
   ·have:=a9z g1 j1
    rwa [a11 (by lia) (by lia)] at this
   have q1:=eqs sSp (AS "alike")
   rw [decide_eq_false (by decide)] at q1
   have q2:=eqs sSp (AS "again")
   rw [decide_eq_false (by decide)] at q2
   have m1:=a2N g1.ok
   have m2':=a2N j1.ok
   rw [g1.un,B1 (by lia)] at m1
   rw [j1.un,B1 (by lia)] at m2'
   have g4':l6 f [row l,dv D,fnR,.int (st:Nat),.int (a:Nat)]=some (.own (j0 T1)):=g4
   have j4':l6 f [row l,dv D,fnR,.int (a:Nat),.int (en:Nat)]=some (.own (j0 T2)):=j4
   have ha:t7 (.bo (.lst (j0 T1))) (.ow (.lst (j0 T2)))=some (.own (j0 (T1++T2))):=by
    rw [b1L]
    show(if(j0 T1).length+(j0 T2).length<=AK then some (b9.own (j0 T1++j0 T2)) else none)=_
    rw [if_pos (by rw [sizeLine_eq,a2J,a2J];lia)]
   show t8 3 (m3 (l6 f)) _=_
   unfold m3
   rw [U0]
   simp (disch:=omega) only [d0,d4,b4,a7J,c5,b8,b5,b6,e9,g7,a0H,l5,a3F,e8,g9,f9,G3,m5,l0,g5,j8,AF,AU,AV,t1,t2,q1,q2,g4',j4',ha]
theorem a7z:∀(n:Nat) (ps:List Pa),2*U9 ps+3<=n->C6 (j0 ps) n=true
 |0,_,h=>by lia
 |1,_,h=>by lia
 |2,_,h=>by lia
 |m+3,ps,h=>by
  rw [N3]
  refine a21 fun p hp=> ?_
  obtain⟨p,hp1,rfl⟩:=Am.mp hp
  have d:=a0K hp1
  rcases a4r p with⟨c,k,rfl,ep⟩|⟨k,qs,rfl,ep⟩
  ·rw [ep];rfl
  ·rw [ep]
   rw [dpP] at d
   show C6 [D1,.int (k:Nat),.list (j0 qs)] (m+2)=true
   refine a21 fun q hq=> ?_
   simp only [Ap,List.not_mem_nil,or_false] at hq
   rcases hq with rfl|rfl|rfl
   ·rfl
   ·rfl
   ·exact a7z (m+1) qs (by lia)
theorem a8R(l:List Nat)(hl:l.length<=10000):∃P,PrT l P/\a4R (.own (l.map fun c=> .tuple [row [c],.int 1]))=some (.ow (.txt P)):=by
 have hp:∀s:List Nat,Q4 (s.map fun c=> .tuple [row [c],.int 1])=some (s.map fun c=>([Sum.inr (S [c])],PyData.int 1)):=by
  intro s
  induction s with
  |nil=>rfl
  |cons c s ih=>
   rw [AQ,AQ]
   unfold Q4
   rw [ih]
   rfl
 refine⟨a4p [] (l.map fun c=>([Sum.inr (S [c])],PyData.int 1)),⟨a4q _ _ rfl fun e he=> ?_,fun c hc=>a6j _ _ (fun e he _=> ?_) (.inr ⟨([Sum.inr (S [c])],PyData.int 1),Am.mpr ⟨c,hc,rfl⟩,rfl⟩)⟩, ?_⟩
 ·obtain⟨c,_,rfl⟩:=Am.mp he;rfl
 ·obtain⟨c,_,rfl⟩:=Am.mp he;rfl
 ·show(Q4 (l.map fun c=> .tuple [row [c],.int 1])).map _=_
  rw [hp]
  rfl
theorem a1J{l:List Nat}(hl:LV l):∃T,FD T l/\N4 T=lp l/\U9 T<24/\z6 [row l]=some (.own (j0 T)):=by
 have h24:=hl.len
 have hpos:0<l.length:=List.length_pos_iff.mpr hl.ne
 obtain⟨P,hP,eP⟩:=a8R l (by lia)
 obtain⟨D,hD,eD⟩:=b0W hl hP
 obtain⟨T,g1,g2,g3,g4⟩:=a2z hl hD 26 0 l.length hpos (AM _) (by lia)
 rw [a7W] at g1 g2
 have hln:=G1 (l:=l) (by lia)
 have nds:=a6Y T
 have lend:Z1 3 (g0 u3 (a6 (a7 0) (a6 (a7 3) (a6 (a7 2) (a6 (mC (.int 0)) (a6 (m1 A6 (a7 0)) c4)))))) [some (.val (row l)),some (.val (tv P)),some (.val fnR),some (.ow (.dct D))]=some (.own (j0 T)):=by
  unfold Z1
  show((g0 u3 (a6 (a7 0) (a6 (a7 3) (a6 (a7 2) (a6 (mC (.int 0)) (a6 (m1 A6 (a7 0)) c4)))))) [some (.val (row l)),some (.val (tv P)),some (.val fnR),some (.val (dv D))]).bind _=_
  have g4':u3 [row l,dv D,fnR,.int 0,.int (l.length:Nat)]=some (.own (j0 T)):=g4
  have:(g0 u3 (a6 (a7 0) (a6 (a7 3) (a6 (a7 2) (a6 (mC (.int 0)) (a6 (m1 A6 (a7 0)) c4)))))) [some (.val (row l)),some (.val (tv P)),some (.val fnR),some (.val (dv D))]=some (.own (j0 T)):=by simp (disch:=omega) only [k9,d4,b4,c5,b8,b5,b6,e9,AF,hln,g4']
  rw [this,AF]
  exact if_pos nds.1
 have ech:D9 [row l,tv P,fnR]=some (.own (j0 T)):=by
  unfold D9 a2W
  simp (disch:=omega) only [b4,c5,b8,b5,b6,e9,g7,l5,a3F,e8,g9,k6,l0,AF,AQ,AZ,AY,Ac,Ah,Ae,AU,AV,eD,a4C,lend]
 have cm:=a0n (ι:=fun c:Nat=>PyData.str (S [c])) (f:=fun c=>PyData.tuple [row [c],.int 1]) (k:=1) (it:=a0Q (a7 0)) (elt:=Z0) (tg:=g8 2) (ρ:=[some (.val (row l)),none]) l (a50 rfl) (by lia) fun c _=>⟨_,rfl,by
  unfold Z0
  simp (disch:=omega) only [d4,b4,c5,b8,b5,b6,G9,AF,AY,Ac,Ah,Ae,AU,AV,AW,Aj,↓reduceIte,sz,Nat.reduceAdd,At]
  try rfl⟩
 have lend2:a3l 1 (g0 D9 (a6 (a7 0) (a6 (a7 1) (a6 (mC (a24 (AS "run_of"))) c4)))) [some (.val (row l)),some (.ow (.txt P))]=some (.own (j0 T)):=by
  unfold a3l
  show((g0 D9 (a6 (a7 0) (a6 (a7 1) (a6 (mC (a24 (AS "run_of"))) c4)))) [some (.val (row l)),some (.val (tv P))]).bind _=_
  have:(g0 D9 (a6 (a7 0) (a6 (a7 1) (a6 (mC (a24 (AS "run_of"))) c4)))) [some (.val (row l)),some (.val (tv P))]=some (.own (j0 T)):=by simp (disch:=omega) only [d4,b4,c5,b8,b5,b6,e9,AF,ech]
  rw [this,AF]
  exact if_pos nds.2
 refine⟨T,g1,g2,by lia, ?_⟩
 unfold z6 a5w
 simp (disch:=omega) only [k9,g7,l5,a3F,e8,g9,k6,l0,AF,AQ,AZ,AY,Ac,Ah,Ae,AU,AV,cm,eP,a4C,lend2]
theorem b4X(i:Int):a0O "int" (.int i)=true:=rfl
theorem b4W(i:Int):a0O "bool" (.int i)=false:=rfl
theorem a5z{i j:Int}(h:j<=i):B8 [.int i,.int j]=some (.val (.bool true)):=by
 unfold B8 X8
 simp (disch:=omega) only [B7,d0,k9,b4,c5,l5,E1,k6,l0,a3j,a94,a9d,b3h,a9F,AF,AQ,AZ,Ac,Ab,Bool.not_false,a9P,b32,b4X,b4W,decide_eq_true h]
theorem a5T{R:List PV->Option b9}{q0:Option b9}:∀(ps:List Pa) (q1:Option b9),okL ps->(∀k qs,Pa.again k qs∈ps->R [.list (j0 qs)]=some (.val (.bool true)))->∃q1',O5 (w6 R) (g8 1) (j0 ps) [q0,q1]=some (.nx [q0,q1'])
 |[],q1,_,_=>⟨q1,by rw [j0];rfl⟩
 |p::ps,q1,ok,hR=>by
  obtain⟨q1',e⟩:=a5T (R:=R) (q0:=q0) ps (some (.val (B3 p))) ok.2 fun k qs h=>hR k qs (Ak _ h)
  refine⟨q1', ?_⟩
  have hb:w6 R [q0,some (.val (B3 p))]=some (.nx [q0,some (.val (B3 p))]):=by
   unfold w6
   rcases a4r p with⟨c,k,rfl,ep⟩|⟨k,qs,rfl,ep⟩
   ·have i0:y0 (.val (B3 (.run c k))) (.val (.int 0))=some (.val a3G):=by rw [ep];rfl
    have i1:y0 (.val (B3 (.run c k))) (.val (.int 1))=some (.val (row [c])):=by rw [ep];rfl
    have i2:y0 (.val (B3 (.run c k))) (.val (.int 2))=some (.val (.int (k:Nat))):=by rw [ep];rfl
    have it:a2s "tuple" (.val (B3 (.run c k)))=some (.val (.bool true)):=by rw [ep];rfl
    have is_:a2s "str" (.val (row [c]))=some (.val (.bool true)):=rfl
    have il:A6 (.val (B3 (.run c k)))=some (.val (.int 3)):=by rw [ep];rfl
    have ic:=G1 (l:=[c]) (by simp)
    have n3:gNe (.val (.int 3)) (.val (.int 3))=some (.val (.bool false)):=Y6 rfl
    have n1:gNe (.val (.int (([c].length:Nat):Int))) (.val (.int 1))=some (.val (.bool false)):=Y6 rfl
    obtain⟨⟨k1,_,_⟩,_⟩:=ok
    have hc:=a5z (i:=(k:Nat)) (j:=1) (by lia)
    simp (disch:=omega) only [d0,k9,d4,b4,c5,b8,b5,b6,e9,e8,g9,f9,M5,G3,m5,N1,g5,j8,a1y,T6,T7,a4m,AF,Ax,AW,Aj,Bool.not_true,Nat.reduceAdd,Int.cast_ofNat_Int,beq_self_eq_true,b4e,it,il,n3,i0,b4a,i1,is_,ic,n1,i2,hc]
   ·have i0:y0 (.val (B3 (.again k qs))) (.val (.int 0))=some (.val D1):=by rw [ep];rfl
    have i1:y0 (.val (B3 (.again k qs))) (.val (.int 1))=some (.val (.int (k:Nat))):=by rw [ep];rfl
    have i2:y0 (.val (B3 (.again k qs))) (.val (.int 2))=some (.val (.list (j0 qs))):=by rw [ep];rfl
    have it:a2s "tuple" (.val (B3 (.again k qs)))=some (.val (.bool true)):=by rw [ep];rfl
    have il:A6 (.val (B3 (.again k qs)))=some (.val (.int 3)):=by rw [ep];rfl
    have n3:gNe (.val (.int 3)) (.val (.int 3))=some (.val (.bool false)):=Y6 rfl
    have na:gNe (.val D1) (.val D1)=some (.val (.bool false)):=Y6 rfl
    obtain⟨⟨k1,_,_,_⟩,_⟩:=ok
    have hc:=a5z (i:=(k:Nat)) (j:=2) (by lia)
    have hr:=hR k qs Ai
    simp (disch:=omega) only [d0,k9,d4,b4,c5,b8,b5,b6,e9,e8,g9,f9,G3,m5,N1,g5,j8,a1y,T6,T7,a4m,AF,Ax,Bool.not_true,it,il,n3,i0,b38,na,i1,hc,i2,hr]
  rw [j0,O5]
  show(w6 R [q0,some (.val (B3 p))]).bind _=_
  rw [hb,AF]
  exact e
theorem a9Q:∀(n:Nat) (ps:List Pa),okL ps->ps≠[]->U9 ps<=23->U9 ps<n->B9 n [.list (j0 ps)]=some (.val (.bool true))
 |0,_,_,_,_,h=>by lia
 |n+1,ps,ok,hne,h23,hd=>by
  obtain⟨q1,e⟩:=a5T (R:=B9 n) (q0:=some (.val (.list (j0 ps)))) ps none ok fun k qs hq=>by
   have d:=a0K hq
   rw [dpP] at d
   obtain⟨_,_,h3,h4⟩:=a41 ok hq
   exact a9Q n qs h4 h3 (by lia) (by lia)
  have hit:PyData.items? (.list (j0 ps))=some (j0 ps):=rfl
  have il:a2s "list" (.val (.list (j0 ps)))=some (.val (.bool true)):=rfl
  have hq:gEq (.val (.list (j0 ps))) (.ow (.lst []))=some (.val (.bool false)):=by
   rw [a27 (x:= .val (.list (j0 ps))) (y:= .ow (.lst [])) ⟨by show C6 (j0 ps) 49=true;exact a7z 49 ps (by lia),rfl⟩]
   congr 3
   show PyData.eqv (.list (j0 ps)) (.list [])=false
   cases ps with
   |nil=>exact absurd rfl hne
   |cons p ps=>rw [j0];simp [PyData.eqv,PyData.eqvAll]
  show t8 1 (K9 (B9 n)) [.list (j0 ps)]=_
  unfold K9
  simp (disch:=omega) only [d0,k9,d4,b4,b8,b6,P0,l5,E1,e8,g9,f9,G3,m5,k6,l0,N1,g5,j8,a1y,T6,T7,a4m,x8,AF,Ax,AQ,AZ,AY,Ac,Ah,Ae,Aj,↓reduceIte,Bool.not_true,V5,sz,At,il,hq,hit,e]
theorem a7U:∀(n:Nat) (ps:List Pa),U9 ps<n->shB f8 n (.list (j0 ps))=true
 |0,_,h=>by lia
 |n+1,ps,h=>by
  show(j0 ps).all (shT f8 (shB f8 n))=true
  rw [N3,List.all_map]
  refine List.all_eq_true.mpr fun p hp=> ?_
  have d:=a0K hp
  show shT f8 (shB f8 n) (B3 p)=true
  rcases a4r p with⟨c,k,rfl,ep⟩|⟨k,qs,rfl,ep⟩
  ·rw [ep]
   have hc:f8 (AS "run")=false:=by decide+kernel
   show(X1 (row [c])&&(shB f8 n (.int (k:Nat))||(X1 (.int (k:Nat))&& !f8 (AS "run"))))=true
   rw [hc]
   show(true &&(shB f8 n (.int (k:Nat))||(true && !false)))=true
   simp
  ·rw [dpP] at d
   have:=a7U n qs (by lia)
   rw [ep]
   show(X1 (.int (k:Nat))&&(shB f8 n (.list (j0 qs))||_))=true
   rw [this];rfl
theorem b0G{i:Nat}{ρ:a9}{p:PV}{x:Str}{D:List (List d5×PV)}(h:ρ[i]?=some (some (.ow (.txt D))))(hl:D.length<16777216):a6q i ρ p x=some (.nx (ρ.set i (some (.ow (.txt (V7 D [.inr x] p)))))):=by
 unfold a6q;rw [h];exact if_pos (by rw [sizeLine_eq];exact hl)
theorem a3O{i:Nat}{ρ:a9}{x:Str}{p:PV}{D:List (List d5×PV)}(h:ρ[i]?=some (some (.ow (.txt D))))(hv:l9 D [.inr x]=some p):a6p i ρ x=some (.val p):=by
 unfold a6p;rw [h];show(l9 D [.inr x]).map b9.val=_;rw [hv];rfl
theorem b16{neg:Bool}{i:Nat}{ρ:a9}{x:Str}{D:List (List d5×PV)}(h:ρ[i]?=some (some (.ow (.txt D)))):b0E neg i ρ x=some (.val (.bool (if neg then !(l9 D [.inr x]).isSome else(l9 D [.inr x]).isSome))):=by
 unfold b0E;rw [h]
theorem a9m{α:Type}{l:List α}{b:Nat}(h:b<=l.length):cut l (some (b:Int)) none=l.drop b:=by
 unfold cut
 rw [HT.sIx_none,HT.sIx_nat,Nat.min_eq_left h]
 rw [List.take_of_length_le (by rw [List.length_drop];lia)]
theorem b1P(k c:Nat):rep k [c]=AO k c:=by
 rw [a68]
 induction k with
 |zero=>rfl
 |succ k ih=>rw [AY,List.flatten_cons,ih,AY];rfl
theorem a7V{s:List Nat}{w:Nat}(h:w<=s.length)(hl:s.length<=1000):gSl (.val (row s)) none (some ((w:Nat):Int))=some (.val (row (s.take w))):=by
 have:=a5R (l:=s) (lo:=none) (hi:=some ((w:Nat):Int)) (by lia)
 rw [a5C h] at this
 exact this
theorem b1V{s:List Nat}{w:Nat}(h:w<=s.length)(hl:s.length<=1000):gSl (.val (row s)) (some ((w:Nat):Int)) none=some (.val (row (s.drop w))):=by
 have:=a5R (l:=s) (lo:=some ((w:Nat):Int)) (hi:=none) (by lia)
 rw [a9m h] at this
 exact this
theorem b3M{l:List Nat}{i j:Nat}(hi:i<=j)(hj:j<=l.length)(hl:l.length<=1000):gSl (.val (row l)) (some ((i:Nat):Int)) (some ((j:Nat):Int))=some (.val (row (sub l i j))):=by
 have:=a5R (l:=l) (lo:=some ((i:Nat):Int)) (hi:=some ((j:Nat):Int)) (by lia)
 rw [a7p hi hj] at this
 exact this
theorem a7Y{s:List Nat}(h:LV s){w:Nat}(h1:1<=w):LV (s.take w):=by
 have hp:0<s.length:=List.length_pos_iff.mpr h.ne
 refine⟨fun e=> ?_, ?_,fun c hc=>h.ch c (List.mem_of_mem_take hc)⟩
 ·have:=congrArg List.length e
  rw [List.length_take,Aj] at this
  lia
 ·rw [List.length_take];have:=h.len;lia
theorem b05{s:List Nat}(h:LV s){w:Nat}(h1:w<s.length):LV (s.drop w):=by
 refine⟨fun e=> ?_, ?_,fun c hc=>h.ch c (List.mem_of_mem_drop hc)⟩
 ·have:=congrArg List.length e
  rw [List.length_drop] at this
  simp at this
  lia
 ·rw [List.length_drop];have:=h.len;lia
def eqr(s:List Nat)(w:Nat):Bool:=s==rep (s.length / w) (s.take w)
theorem b2P{s:List Nat}(h:LV s){w:Nat}(h1:1<=w)(h2:w<s.length)(e:eqr s w=true):lp s<=1+lp (s.take w):=by
 have e':s=rep (s.length / w) (s.take w):=by simpa [eqr] using e
 have hl:=congrArg List.length e'
 rw [a2K,List.length_take,Nat.min_eq_left (by lia)] at hl
 have hk:2<=s.length / w:=by
  rcases Nat.lt_or_ge (s.length / w) 2 with h3|h3
  ·have:s.length / w*w<=1*w:=Nat.mul_le_mul_right _ (by lia)
   lia
  ·exact h3
 have h24:=h.len
 have:=a3h (a7Y h h1) hk (by rw [List.length_take,Nat.min_eq_left (by lia)];lia) (by rw [<-e'];exact h)
 rwa [<-e'] at this
def Vr(K:List (List d5×PV)):Prop:=∀s p,l9 K [.inr (S s)]=some p->p= .int (lp s:Nat)
theorem b1B{s:List Nat}(h:LV s){K:List (List d5×PV)}(ho:ones K=true)(hK:∀w,1<=w->w<s.length->l9 K [.inr (S (s.take w))]=some (.int (lp (s.take w):Nat))):∃v:Nat,p7 [row s,tv K]=some (.val (.int (v:Nat)))/\lp s<=v/\(uni s=true->v=1)/\(uni s=false->∀w,1<=w->w<s.length->eqr s w=true->v<=1+lp (s.take w)):=by
 have h24:=h.len
 have hp:0<s.length:=List.length_pos_iff.mpr h.ne
 obtain⟨c0,t,ec⟩:∃c t,s=c::t:=by
  cases s with
  |nil=>exact absurd rfl h.ne
  |cons a t=>exact⟨a,t,rfl⟩
 have hix:=a4V ec (by lia)
 have hln:=G1 (l:=s) (by lia)
 have hmu:=b3f (l:=[c0]) (k:=s.length) (by simp;lia) (by lia)
 have hmu':O6 (.val (row [c0])) (.val (.int (s.length:Nat)))=some (.val (row (AO s.length c0))):=by
  rw [<-b1P];exact hmu
 have hu:(s==AO s.length c0)=uni s:=by
  rw [Bool.eq_iff_iff,beq_iff_eq,a0s h.ne]
  constructor
  ·exact fun e=>⟨c0,e⟩
  ·rintro⟨c,e⟩
   have:c0∈s:=by rw [ec];exact Ai
   rw [e] at this
   rw [(List.mem_replicate.mp this).2]
   exact e
 have hq:=a2E s (AO s.length c0)
 rw [hu] at hq
 cases hb:uni s with
 |true=>
  rw [hb] at hq
  refine⟨1, ?_, ?_,fun _=>rfl,fun z=>by cases z⟩
  ·unfold p7 J7
   simp (disch:=omega) only [d0,k9,d4,b4,l5,E1,e8,a2L,f9,M5,k6,l0,g5,j8,AF,AQ,AZ,AY,Ac,Ah,Ae,Int.cast_ofNat_Int,hix,hln,hmu',hq]
  ·obtain⟨c,e⟩:=(a0s h.ne).mp hb
   have hc:c∈L5:=h.ch c (by rw [e];exact List.mem_replicate.mpr ⟨by lia,rfl⟩)
   rw [e,a1e (by lia) h24 hc]
   exact AM _
 |false=>
  rw [hb] at hq
  obtain⟨ρ1,e1,v,q3,q4,rfl,hlo,hup⟩:=A4 (body:=v6) (tg:=g8 3) (fun k ρ=>∃(v:Nat) (q3 q4:Option b9),ρ=[some (.val (row s)),some (.val (tv K)),some (.val (.int (v:Nat))),q3,q4]/\lp s<=v/\∀w,1<=w->w<=k->w<s.length->eqr s w=true->v<=1+lp (s.take w))
   (ps:=y6 1 (s.length:Nat)) (ρ:=[some (.val (row s)),some (.val (tv K)),some (.val (.int (s.length:Nat))),none,none])
   (by
    rintro k p hp ρ ⟨v,q3,q4,rfl,hlo,hup⟩
    obtain⟨rfl,hk⟩:=L7 hp
    rw [show(1:Int)+(k:Int)=((k+1:Nat):Int) by lia] at hk ⊢
    have hkl:k+1<s.length:=by lia
    have hd:((s.length:Nat):Int)/((k+1:Nat):Int)=((s.length /(k+1):Nat):Int):=rfl
    have c0:((k+1:Nat):Int)≠0:=by lia
    have hsl:=a7V (s:=s) (w:=k+1) (by lia) (by lia)
    have hle:(s.take (k+1)).length*(s.length /(k+1))<=1000:=by
     rw [List.length_take,Nat.min_eq_left (by lia)]
     have:=Nat.mul_div_le s.length (k+1)
     lia
    have hdl:s.length /(k+1)<=s.length:=Nat.div_le_self _ _
    have hm:=b3f (l:=s.take (k+1)) (k:=s.length /(k+1)) (by lia) (by lia)
    have hm':O6 (.val (row (s.take (k+1)))) (.val (.int ((s.length /(k+1):Nat):Int)))=some (.val (row (rep (s.length /(k+1)) (s.take (k+1))))):=hm
    have hqq:=a2E s (rep (s.length /(k+1)) (s.take (k+1)))
    have hqq':gEq (.val (row s)) (.val (row (rep (s.length /(k+1)) (s.take (k+1)))))=some (.val (.bool (eqr s (k+1)))):=hqq
    cases hr:eqr s (k+1) with
    |false=>
     rw [hr] at hqq'
     refine C4 (ρ1:=[some (.val (row s)),some (.val (tv K)),some (.val (.int (v:Nat))),some (.val (.int ((k+1:Nat):Int))),q4]) rfl (ρ2:=[some (.val (row s)),some (.val (tv K)),some (.val (.int (v:Nat))),some (.val (.int ((k+1:Nat):Int))),some (.val (.int ((s.length /(k+1):Nat):Int)))]) ?_ ⟨v,_,_,rfl,hlo,fun w h1 h2 h3 h4=> ?_⟩
     ·unfold v6
      simp (disch:=omega) only [B6,d0,k9,b4,c5,g7,u8,e8,g9,f9,G3,m5,g5,j8,AF,AU,AV,i6,i7,n6,p9,hln,c0,hd,i6,n6,i7,p9,hsl,hm',hqq']
     ·rcases Nat.lt_or_ge k w with h5|h5
      ·have:w=k+1:=by lia
       subst this
       rw [hr] at h4;cases h4
      ·exact hup w h1 h5 h3 h4
    |true=>
     rw [hr] at hqq'
     have hv:=hK (k+1) (by lia) hkl
     have hlo2:=b2P h (by lia) hkl hr
     have hg:a0R 1 (C9 (a7 0) I0 (A7 (a7 3))) [some (.val (row s)),some (.val (tv K)),some (.val (.int (v:Nat))),some (.val (.int ((k+1:Nat):Int))),some (.val (.int ((s.length /(k+1):Nat):Int)))]=some (.val (.int (lp (s.take (k+1)):Nat))):=by
      have hw:tvw 1 [some (.val (row s)),some (.val (tv K)),some (.val (.int (v:Nat))),some (.val (.int ((k+1:Nat):Int))),some (.val (.int ((s.length /(k+1):Nat):Int)))]=some K:=b0I rfl ho
      have hk':C9 (a7 0) I0 (A7 (a7 3)) [some (.val (row s)),some (.val (tv K)),some (.val (.int (v:Nat))),some (.val (.int ((k+1:Nat):Int))),some (.val (.int ((s.length /(k+1):Nat):Int)))]=some (.val (row (s.take (k+1)))):=by simp (disch:=omega) only [b4,c5,AF,i6,i7,n6,p9,i6,n6,i7,p9,hsl]
      have hks:Y7 (.val (row (s.take (k+1))))=some (S (s.take (k+1))):=rfl
      rw [a3m,hk',AF,hks,AF,hw,AF,hv]
      rfl
     obtain⟨v',hv',hv1,hv2,hv3⟩:∃v':Nat,(if(1:Int)+(lp (s.take (k+1)):Nat)<(v:Nat) then(1:Int)+(lp (s.take (k+1)):Nat) else(v:Nat))=(v':Nat)/\v'<=v/\v'<=1+lp (s.take (k+1))/\lp s<=v':=by
      by_cases hc:(1:Int)+(lp (s.take (k+1)):Nat)<(v:Nat)
      ·exact⟨1+lp (s.take (k+1)),by rw [if_pos hc];lia,by lia,by lia,hlo2⟩
      ·exact⟨v,by rw [if_neg hc],AM _,by lia,hlo⟩
     refine C4 (ρ1:=[some (.val (row s)),some (.val (tv K)),some (.val (.int (v:Nat))),some (.val (.int ((k+1:Nat):Int))),q4]) rfl (ρ2:=[some (.val (row s)),some (.val (tv K)),some (.val (.int (v':Nat))),some (.val (.int ((k+1:Nat):Int))),some (.val (.int ((s.length /(k+1):Nat):Int)))]) ?_ ⟨v',_,_,rfl,hv3,fun w h1 h2 h3 h4=> ?_⟩
     ·unfold v6
      simp (disch:=omega) only [i9,B7,B6,d0,k9,d4,b4,c5,g7,u8,e8,g9,f9,M5,g5,j8,AF,AU,AV,i6,i7,n6,p9,hln,c0,hd,i6,n6,i7,p9,hsl,hm',hqq',hg,hv']
     ·rcases Nat.lt_or_ge k w with h5|h5
      ·have:w=k+1:=by lia
       subst this
       exact hv2
      ·exact Nat.le_trans hv1 (hup w h1 h5 h3 h4)) ⟨s.length,none,none,rfl,by
     obtain⟨f1,f2,f3⟩:=a4Q h.ch
     have:=a2e h (T:=s.map fun c=> .run c 1) ⟨f1,by simp [h.ne],f2⟩
     lia,fun w h1 h2=>by lia⟩
  rw [z9] at hup
  have r1:a2n [.int 1,.int (s.length:Nat)]=some (y6 1 (s.length:Nat)):=a0r ⟨by lia,by lia,by lia⟩
  refine⟨v, ?_,hlo,fun z=>(by cases z),fun _ w h1 h2 h3=>hup w h1 (by lia) h2 h3⟩
  unfold p7 J7
  simp (disch:=omega) only [d0,k9,d4,b4,b8,b5,b6,g7,u8,e8,g9,f9,G3,m5,k6,l0,g5,j8,x8,AF,AQ,AZ,AY,Ac,Ah,Ae,AU,AV,a1h,a1i,hix,hln,hmu',hq,T5,r1,e1]
  try rfl
structure KB(l:List Nat)(K:List (List d5×PV))(w s:Nat):Prop where
 on:ones K=true
 vr:Vr K
 has:∀i j,i<j->j<=l.length->(j - i<w\/(j - i=w/\i<s))->(l9 K [.inr (S (sub l i j))]).isSome=true
theorem KB.val{l:List Nat}{K:List (List d5×PV)}{w s:Nat}(k:KB l K w s){i j:Nat}(h1:i<j)(h2:j<=l.length)(h3:j - i<w\/(j - i=w/\i<s)):l9 K [.inr (S (sub l i j))]=some (.int (lp (sub l i j):Nat)):=by
 obtain⟨p,hp⟩:=Option.isSome_iff_exists.mp (k.has i j h1 h2 h3)
 rw [hp,k.vr _ _ hp]
theorem a9V{l:List Nat}(hl:LV l){K:List (List d5×PV)}{w s:Nat}(hw:1<=w)(hs:s+w<=l.length)(hK:KB l K w s)(hKl:K.length<=1000)(q4 q5 q6:Option b9):
 ∃K' q4' q5' q6',C0 [some (.val (row l)),some (.ow (.txt K)),some (.val (.int (w:Nat))),some (.val (.int (s:Nat))),q4,q5,q6]=some (.nx [some (.val (row l)),some (.ow (.txt K')),some (.val (.int (w:Nat))),some (.val (.int (s:Nat))),q4',q5',q6'])/\KB l K' w (s+1)/\K'.length<=K.length+1:=by
 have h24:=hl.len
 have hsl:=b3M (l:=l) (i:=s) (j:=s+w) (by lia) hs (by lia)
 have hsw:((s:Nat):Int)+((w:Nat):Int)=((s+w:Nat):Int):=by lia
 have hL:=a10 hl (i:=s) (j:=s+w) (by lia) hs
 have sl:=B1 (l:=l) (i:=s) hs
 have slw:(sub l s (s+w)).length=w:=by lia
 generalize hx:sub l s (s+w)=x at*
 have hin:a95 true 1 (a7 4) [some (.val (row l)),some (.ow (.txt K)),some (.val (.int (w:Nat))),some (.val (.int (s:Nat))),some (.val (row x)),q5,q6]=some (.val (.bool (!(l9 K [.inr (S x)]).isSome))):=by
  have hk:a7 4 [some (.val (row l)),some (.ow (.txt K)),some (.val (.int (w:Nat))),some (.val (.int (s:Nat))),some (.val (row x)),q5,q6]=some (.val (row x)):=by simp (disch:=omega) only [b4,c5]
  have hks:Y7 (.val (row x))=some (S x):=rfl
  rw [a96,hk,AF,hks,AF,b16 rfl]
  rfl
 have hasS:∀{K':List (List d5×PV)},(l9 K' [.inr (S x)]).isSome=true->(∀i j,i<j->j<=l.length->(j - i<w\/(j - i=w/\i<s))->(l9 K' [.inr (S (sub l i j))]).isSome=true)->∀i j,i<j->j<=l.length->(j - i<w\/(j - i=w/\i<s+1))->(l9 K' [.inr (S (sub l i j))]).isSome=true:=fun {K'} h1 h2 i j h3 h4 h5=>by
  rcases h5 with h5|⟨h5,h6⟩
  ·exact h2 i j h3 h4 (.inl h5)
  ·rcases Nat.lt_or_ge i s with h7|h7
   ·exact h2 i j h3 h4 (.inr ⟨h5,h7⟩)
   ·have e1:i=s:=by lia
    have e2:j=s+w:=by lia
    rw [e1,e2,hx];exact h1
 cases hb:(l9 K [.inr (S x)]).isSome with
 |true=>
  rw [hb] at hin
  refine⟨K,some (.val (row x)),q5,q6, ?_,⟨hK.on,hK.vr,hasS hb hK.has⟩,by lia⟩
  unfold C0
  simp (disch:=omega) only [i9,d0,b4,c5,g7,u8,e8,g9,f9,G3,m5,g5,j8,AF,AU,AV,Bool.not_true,i6,i7,p9,i6,i7,p9,hsw,hsl,hin]
 |false=>
  rw [hb] at hin
  have tk:∀a,1<=a->a<w->l9 K [.inr (S (x.take a))]=some (.int (lp (x.take a):Nat)):=fun a h1 h2=>by
   rw [<-hx,a1x (by lia)]
   exact hK.val (by lia) (by lia) (.inl (by lia))
  have dk:∀a,1<=a->a<w->l9 K [.inr (S (x.drop a))]=some (.int (lp (x.drop a):Nat)):=fun a h1 h2=>by
   rw [<-hx,a6n (by lia)]
   exact hK.val (by lia) (by lia) (.inl (by lia))
  obtain⟨v0,ep,lo0,u1,u2⟩:=b1B hL hK.on (fun a h1 h2=>tk a h1 (by lia))
  have ecall:a1g p7 1 (a7 4) [some (.val (row l)),some (.ow (.txt K)),some (.val (.int (w:Nat))),some (.val (.int (s:Nat))),some (.val (row x)),q5,q6]=some (.val (.int (v0:Nat))):=by
   rw [a5Z (h:=rfl)]
   have hk:a7 4 [some (.val (row l)),some (.ow (.txt K)),some (.val (.int (w:Nat))),some (.val (.int (s:Nat))),some (.val (row x)),q5,q6]=some (.val (row x)):=by simp (disch:=omega) only [b4,c5]
   have hks:b9.toVal (.val (row x))=some (row x):=rfl
   rw [hk,AF,hks,AF,ep,AF]
   rfl
  obtain⟨ρ1,e1,v,q6',rfl,lo,up0,up⟩:=A4 (body:=O8) (tg:=g8 6) (fun k ρ=>∃(v:Nat) (q6:Option b9),ρ=[some (.val (row l)),some (.ow (.txt K)),some (.val (.int (w:Nat))),some (.val (.int (s:Nat))),some (.val (row x)),some (.val (.int (v:Nat))),q6]/\lp x<=v/\v<=v0/\∀a,1<=a->a<=k->a<w->v<=lp (x.take a)+lp (x.drop a))
   (ps:=y6 1 (w:Nat)) (ρ:=[some (.val (row l)),some (.ow (.txt K)),some (.val (.int (w:Nat))),some (.val (.int (s:Nat))),some (.val (row x)),some (.val (.int (v0:Nat))),q6])
   (by
    rintro k p hp ρ ⟨v,q6,rfl,lo,up0,up⟩
    obtain⟨rfl,hk⟩:=L7 hp
    rw [show(1:Int)+(k:Int)=((k+1:Nat):Int) by lia] at hk ⊢
    have hkw:k+1<w:=by lia
    have s1':=a7V (s:=x) (w:=k+1) (by lia) (by lia)
    have s2':=b1V (s:=x) (w:=k+1) (by lia) (by lia)
    have g1:a2h 1 (C9 (a7 4) I0 (A7 (a7 6))) [some (.val (row l)),some (.ow (.txt K)),some (.val (.int (w:Nat))),some (.val (.int (s:Nat))),some (.val (row x)),some (.val (.int (v:Nat))),some (.val (.int ((k+1:Nat):Int)))]=some (.val (.int (lp (x.take (k+1)):Nat))):=by
     have hk':C9 (a7 4) I0 (A7 (a7 6)) [some (.val (row l)),some (.ow (.txt K)),some (.val (.int (w:Nat))),some (.val (.int (s:Nat))),some (.val (row x)),some (.val (.int (v:Nat))),some (.val (.int ((k+1:Nat):Int)))]=some (.val (row (x.take (k+1)))):=by simp (disch:=omega) only [b4,c5,AF,i6,i7,n6,p9,i6,n6,i7,p9,s1']
     have hks:Y7 (.val (row (x.take (k+1))))=some (S (x.take (k+1))):=rfl
     rw [a1Q,hk',AF,hks,AF,a3O rfl (tk (k+1) (by lia) hkw)]
    have g2:a2h 1 (C9 (a7 4) (A7 (a7 6)) I0) [some (.val (row l)),some (.ow (.txt K)),some (.val (.int (w:Nat))),some (.val (.int (s:Nat))),some (.val (row x)),some (.val (.int (v:Nat))),some (.val (.int ((k+1:Nat):Int)))]=some (.val (.int (lp (x.drop (k+1)):Nat))):=by
     have hk':C9 (a7 4) (A7 (a7 6)) I0 [some (.val (row l)),some (.ow (.txt K)),some (.val (.int (w:Nat))),some (.val (.int (s:Nat))),some (.val (row x)),some (.val (.int (v:Nat))),some (.val (.int ((k+1:Nat):Int)))]=some (.val (row (x.drop (k+1)))):=by simp (disch:=omega) only [b4,c5,AF,i6,i7,n6,p9,i6,n6,i7,p9,s2']
     have hks:Y7 (.val (row (x.drop (k+1))))=some (S (x.drop (k+1))):=rfl
     rw [a1Q,hk',AF,hks,AF,a3O rfl (dk (k+1) (by lia) hkw)]
    have hlo2:lp x<=lp (x.take (k+1))+lp (x.drop (k+1)):=by
     have:=a3i (a7Y hL (w:=k+1) (by lia)) (b05 hL (w:=k+1) (by lia)) (by rw [List.take_append_drop];exact hL)
     rwa [List.take_append_drop] at this
    obtain⟨v',hv',hv1,hv2,hv3⟩:∃v':Nat,(if((lp (x.take (k+1)):Nat):Int)+(lp (x.drop (k+1)):Nat)<(v:Nat) then((lp (x.take (k+1)):Nat):Int)+(lp (x.drop (k+1)):Nat) else(v:Nat))=(v':Nat)/\v'<=v/\v'<=lp (x.take (k+1))+lp (x.drop (k+1))/\lp x<=v':=by
     by_cases hc:((lp (x.take (k+1)):Nat):Int)+(lp (x.drop (k+1)):Nat)<(v:Nat)
     ·exact⟨lp (x.take (k+1))+lp (x.drop (k+1)),by rw [if_pos hc];lia,by lia,AM _,hlo2⟩
     ·exact⟨v,by rw [if_neg hc],AM _,by lia,lo⟩
    refine C4 (ρ1:=[some (.val (row l)),some (.ow (.txt K)),some (.val (.int (w:Nat))),some (.val (.int (s:Nat))),some (.val (row x)),some (.val (.int (v:Nat))),some (.val (.int ((k+1:Nat):Int)))]) rfl (ρ2:=[some (.val (row l)),some (.ow (.txt K)),some (.val (.int (w:Nat))),some (.val (.int (s:Nat))),some (.val (row x)),some (.val (.int (v':Nat))),some (.val (.int ((k+1:Nat):Int)))]) ?_ ⟨v',_,rfl,hv3,by lia,fun a h1 h2 h3=> ?_⟩
    ·unfold O8
     simp (disch:=omega) only [i9,B7,d0,b4,c5,g7,u8,AF,AU,AV,g1,g2,hv']
    ·rcases Nat.lt_or_ge k a with h5|h5
     ·have:a=k+1:=by lia
      subst this
      exact hv2
     ·exact Nat.le_trans hv1 (up a h1 h5 h3)) ⟨v0,q6,rfl,lo0,AM _,fun a h1 h2=>by lia⟩
  rw [z9] at up
  have hv:v=lp x:=by
   refine Nat.le_antisymm ?_ lo
   rcases a9Z hL with⟨c,k,hk,hc,e,e1⟩|⟨k,p,hk,hp,e,e1⟩|⟨a,b,ha,hb',e,e1⟩
   ·have hu:uni x=true:=(a0s hL.ne).mpr ⟨c,by rw [e,List.length_replicate]⟩
    have:=u1 hu
    lia
   ·cases hu:uni x with
    |true=>have:=u1 hu;have:=a90 hL;lia
    |false=>
     have hp':0<p.length:=List.length_pos_iff.mpr hp.ne
     have hxl:x.length=k*p.length:=by rw [e,a2K]
     have h2:2*p.length<=k*p.length:=Nat.mul_le_mul_right _ hk
     have ht:x.take p.length=p:=by
      obtain⟨m,rfl⟩:∃m,k=m+1:=⟨k - 1,by lia⟩
      rw [e,Z9,List.take_left]
     have hq:eqr x p.length=true:=by
      unfold eqr
      rw [ht,hxl,Nat.mul_div_cancel _ hp',beq_iff_eq]
      exact e
     have:=u2 hu p.length hp' (by lia) hq
     rw [ht] at this
     lia
   ·have la:0<a.length:=List.length_pos_iff.mpr ha.ne
    have lb:0<b.length:=List.length_pos_iff.mpr hb'.ne
    have hxl:x.length=a.length+b.length:=by rw [e,Ad]
    have:=up a.length la (by lia) (by lia)
    rw [e,List.take_left,List.drop_left] at this
    lia
  subst hv
  have hpl:=a6i K [.inr (S x)] (.int (lp x:Nat))
  have r1:a2n [.int 1,.int (w:Nat)]=some (y6 1 (w:Nat)):=a0r ⟨by lia,by lia,by lia⟩
  have eput:a7I 1 (a7 4) (a7 5) [some (.val (row l)),some (.ow (.txt K)),some (.val (.int (w:Nat))),some (.val (.int (s:Nat))),some (.val (row x)),some (.val (.int (lp x:Nat))),q6']=some (.nx [some (.val (row l)),some (.ow (.txt (V7 K [.inr (S x)] (.int (lp x:Nat))))),some (.val (.int (w:Nat))),some (.val (.int (s:Nat))),some (.val (row x)),some (.val (.int (lp x:Nat))),q6']):=by
   have h4:a7 4 [some (.val (row l)),some (.ow (.txt K)),some (.val (.int (w:Nat))),some (.val (.int (s:Nat))),some (.val (row x)),some (.val (.int (lp x:Nat))),q6']=some (.val (row x)):=by simp (disch:=omega) only [b4,c5]
   have h5:a7 5 [some (.val (row l)),some (.ow (.txt K)),some (.val (.int (w:Nat))),some (.val (.int (s:Nat))),some (.val (row x)),some (.val (.int (lp x:Nat))),q6']=some (.val (.int (lp x:Nat))):=by simp (disch:=omega) only [b4,c5]
   have hks:Y7 (.val (row x))=some (S x):=rfl
   have htv:b9.toVal (.val (.int (lp x:Nat)))=some (.int (lp x:Nat)):=rfl
   rw [a8C,h5,AF,htv,AF,h4,AF,hks,AF,b0G rfl (by lia)]
   rfl
  have fz:∀nn:MS,R3 4 nn [some (.val (row l)),some (.ow (.txt K)),some (.val (.int (w:Nat))),some (.val (.int (s:Nat))),some (.val (row x)),q5,q6]=nn [some (.val (row l)),some (.ow (.txt K)),some (.val (.int (w:Nat))),some (.val (.int (s:Nat))),some (.val (row x)),q5,q6]:=fun _=>rfl
  refine⟨V7 K [.inr (S x)] (.int (lp x:Nat)),some (.val (row x)),some (.val (.int (lp x:Nat))),q6', ?_,⟨a4o hK.on rfl,fun s' p hp=> ?_,hasS (by rw [a0h,if_pos rfl];rfl) fun i j h1 h2 h3=> ?_⟩,by lia⟩
  ·unfold C0
   simp (disch:=omega) only [i9,d0,d4,b4,c5,b8,b5,b6,g7,u8,e8,g9,f9,M5,g5,j8,x8,AF,AU,AV,Bool.not_false,i6,i7,p9,i6,i7,p9,hsw,hsl,hin,fz,ecall,T5,r1,e1,eput]
  ·rw [a0h] at hp
   split at hp
   ·rename_i he
    injection he with he _
    have:=b2c (Sum.inr.inj he)
    subst this
    cases hp;rfl
   ·exact hK.vr s' p hp
  ·rw [a0h]
   split
   ·rfl
   ·exact hK.has i j h1 h2 h3
theorem a9U{l:List Nat}(hl:LV l):M0 [row l]=some (.val (.int (lp l:Nat))):=by
 have h24:=hl.len
 have hpos:0<l.length:=List.length_pos_iff.mpr hl.ne
 have hln:=G1 (l:=l) (by lia)
 obtain⟨ρ1,e1,K,q2,q3,q4,q5,q6,rfl,hK,hKl⟩:=A4 (body:=O9) (tg:=g8 2) (fun k ρ=>∃(K:List (List d5×PV)) (q2 q3 q4 q5 q6:Option b9),ρ=[some (.val (row l)),some (.ow (.txt K)),q2,q3,q4,q5,q6]/\KB l K (k+1) 0/\K.length<=25*k)
  (ps:=y6 1 ((l.length:Nat)+1)) (ρ:=[some (.val (row l)),some (.ow (.txt [])),none,none,none,none,none])
  (by
   rintro k p hp ρ ⟨K,q2,q3,q4,q5,q6,rfl,hK,hKl⟩
   obtain⟨rfl,hk⟩:=L7 hp
   rw [show(1:Int)+(k:Int)=((k+1:Nat):Int) by lia] at hk ⊢
   obtain⟨ρ2,e2,K2,q3',q4',q5',q6',rfl,hK2,hKl2⟩:=A4 (body:=C0) (tg:=g8 3) (fun s ρ=>∃(K:List (List d5×PV)) (q3 q4 q5 q6:Option b9),ρ=[some (.val (row l)),some (.ow (.txt K)),some (.val (.int ((k+1:Nat):Int))),q3,q4,q5,q6]/\KB l K (k+1) s/\K.length<=25*k+s)
    (ps:=y6 0 ((l.length - k:Nat):Int)) (ρ:=[some (.val (row l)),some (.ow (.txt K)),some (.val (.int ((k+1:Nat):Int))),q3,q4,q5,q6])
    (by
     rintro s p hp ρ ⟨K,q3,q4,q5,q6,rfl,hK,hKl⟩
     obtain⟨rfl,hs⟩:=L7 hp
     rw [show(0:Int)+(s:Int)=(s:Int) by lia] at hs ⊢
     obtain⟨K',q4',q5',q6',e,hK',hKl'⟩:=a9V hl (w:=k+1) (s:=s) (by lia) (by lia) hK (by lia) q4 q5 q6
     exact C4 (ρ1:=[some (.val (row l)),some (.ow (.txt K)),some (.val (.int ((k+1:Nat):Int))),some (.val (.int (s:Nat))),q4,q5,q6]) rfl e ⟨K',_,_,_,_,rfl,hK',by lia⟩) ⟨K,q3,q4,q5,q6,rfl,hK,by lia⟩
   rw [z9,show(((l.length - k:Nat):Int) - 0).toNat=l.length - k by lia] at hK2 hKl2
   have hr:((l.length:Nat):Int) - ((k+1:Nat):Int)+1=((l.length - k:Nat):Int):=by lia
   have r1:a7Q [.int ((l.length - k:Nat):Int)]=some (y6 0 ((l.length - k:Nat):Int)):=a1s ⟨by lia,by lia⟩
   refine C4 (ρ1:=[some (.val (row l)),some (.ow (.txt K)),some (.val (.int ((k+1:Nat):Int))),q3,q4,q5,q6]) rfl (ρ2:=[some (.val (row l)),some (.ow (.txt K2)),some (.val (.int ((k+1:Nat):Int))),q3',q4',q5',q6']) ?_ ⟨K2,_,_,_,_,_,rfl,⟨hK2.on,hK2.vr,fun i j h1 h2 h3=>hK2.has i j h1 h2 (by lia)⟩,by lia⟩
   unfold O9
   simp (disch:=omega) only [i9,B7,d0,k9,d4,b4,c5,b8,b5,b6,x8,K4,AF,hln,hr,K4,r1,e2]) ⟨[],none,none,none,none,none,rfl,⟨rfl,fun s p h=>(by simp [l9] at h),fun i j h1 h2 h3=>by lia⟩,by simp⟩
 rw [z9,show(((l.length:Nat):Int)+1 - 1).toNat=l.length by lia] at hK
 have hv:=hK.val (i:=0) (j:=l.length) hpos (AM _) (.inl (by lia))
 rw [a7W] at hv
 have r1:a2n [.int 1,.int (((l.length:Nat):Int)+1)]=some (y6 1 (((l.length:Nat):Int)+1)):=a0r ⟨by lia,by lia,by lia⟩
 have hg:a2h 1 (a7 0) [some (.val (row l)),some (.ow (.txt K)),q2,q3,q4,q5,q6]=some (.val (.int (lp l:Nat))):=by
  have h0:a7 0 [some (.val (row l)),some (.ow (.txt K)),q2,q3,q4,q5,q6]=some (.val (row l)):=by simp (disch:=omega) only [b4]
  have hks:Y7 (.val (row l))=some (S l):=rfl
  rw [a1Q,h0,AF,hks,AF,a3O rfl hv]
 have t0:b3b [some (.val (row l)),none,none,none,none,none,none]=some (.ow (.txt [])):=rfl
 unfold M0 a19
 simp (disch:=omega) only [i9,d0,k9,d4,b4,b8,b5,b6,g7,l5,E1,e8,g9,k6,l0,x8,AF,AQ,AZ,AY,Ac,Ah,Ae,AU,AV,t0,a4C,hln,T5,r1,e1,hg]
theorem a1S(c:Int):∃N:Int,0<=N/\C1 [.int c]=some (.val (.int N)):=by
 refine⟨(c % 2147483629+48611)*69621 % 2147483629,by lia, ?_⟩
 unfold C1 a00
 simp (disch:=omega) only [i9,a0k,D3,d0,d4,b4,l5,E1,k6,l0,AF,AQ,AZ,Ac,Ab]
theorem a7i{cs:List Int}(h:0<cs.length)(a:Int):∃c:Int,y0 (.val (.list (cs.map .int))) (.val (.int (a %(cs.length:Int))))=some (.val (.int c)):=by
 have h0:0<=a %(cs.length:Int):=Int.emod_nonneg _ (by lia)
 have h1:a %(cs.length:Int)<cs.length:=Int.emod_lt_of_pos _ (by lia)
 have hk:(a %(cs.length:Int)).toNat<cs.length:=by lia
 refine⟨cs[(a %(cs.length:Int)).toNat],a28 ?_⟩
 rw [a6B h0,Ay,BA hk]
 rfl
theorem b2J{N:Int}(h:0<=N):∃c∈[97,98,99,120,122],y0 (.val (.str (AS "abcxz"))) (.val (.int (N / 405 % 5)))=some (.val (row [c])):=by
 have:N / 405 % 5=0\/N / 405 % 5=1\/N / 405 % 5=2\/N / 405 % 5=3\/N / 405 % 5=4:=by lia
 rcases this with e|e|e|e|e<;>rw [e]
 ·exact⟨97,by simp,rfl⟩
 ·exact⟨98,by simp,rfl⟩
 ·exact⟨99,by simp,rfl⟩
 ·exact⟨120,by simp,rfl⟩
 ·exact⟨122,by simp,rfl⟩
theorem a8k{R:List PV->Option b9}{cs:List Int}(hcs:0<cs.length){deep g B:Nat}(hdeep:deep<=3)
 (hR:0<deep->∀a room:Nat,1<=room->room<=24->a<=B->∃(qs:List Pa) (a':Nat),okL qs/\qs≠[]/\(B2 qs).length<=room/\U9 qs+1<=deep/\a'<=a+g/\R [.list (cs.map .int),.int (a:Nat),.int (room:Nat),.int ((deep:Int) - 1)]=some (.val (.tuple [.list (j0 qs),.int (a':Nat)])))
 {a left:Nat} (ha:a<=40000) (hB:a+2<=B) (hl:0<left) (hl2:left<=24) {acc:List PV} (hacc:acc.length<1000) (q2 q6 q7 q8 q9 q10:Option b9):
 ∃(p:Pa) (a' left':Nat) (q8' q9' q10':Option b9),okP p/\dpP p<=deep/\(unP p).length+left'=left/\a'<=a+2+g/\
  v4 R [some (.val (.list (cs.map .int))),some (.val (.int (a:Nat))),q2,some (.val (.int (deep:Nat))),some (.own acc),some (.val (.int (left:Nat))),q6,q7,q8,q9,q10]
  =some (.nx [some (.val (.list (cs.map .int))),some (.val (.int (a':Nat))),q2,some (.val (.int (deep:Nat))),some (.own (acc++[B3 p])),some (.val (.int (left':Nat))),q6,q7,q8',q9',q10']):=by
 obtain⟨c,hc⟩:=a7i hcs (((a+1:Nat):Int))
 obtain⟨N,hN,eN⟩:=a1S (c+5*((a+1:Nat):Int))
 have gl:A6 (.val (.list (cs.map .int)))=some (.val (.int (cs.length:Nat))):=by rw [T0,Aa]
 have e1:(a:Int)+1=((a+1:Nat):Int):=by lia
 have p0:decide ((0:Int)<(left:Int))=true:=decide_eq_true (by lia)
 by_cases hb:0<deep/\1<left/\N % 3=0
 ·obtain⟨b1,b2,b3⟩:=hb
  obtain⟨m,hm,ma1,ma2⟩:∃m:Nat,(if(left:Int) - 1<3 then(left:Int) - 1 else 3)=(m:Int)/\1<=m/\m+1<=left/\m<=3:=⟨(if(left:Int) - 1<3 then(left:Int) - 1 else 3).toNat,by split<;>lia,by split<;>lia,by split<;>lia,by split<;>lia⟩
  have r0:0<=N / 3 %(m:Int):=Int.emod_nonneg _ (by lia)
  have r1:N / 3 %(m:Int)<m:=Int.emod_lt_of_pos _ (by lia)
  obtain⟨k,hk,k1,k2,k3⟩:∃k:Nat,2+N / 3 %(m:Int)=(k:Int)/\2<=k/\k<=left/\k<=4:=⟨(2+N / 3 %(m:Int)).toNat,by lia,by lia,by lia,by lia⟩
  have hroom:1<=left / k:=(Nat.le_div_iff_mul_le (by lia)).mpr (by lia)
  have hroom2:left / k<=24:=Nat.le_trans (Nat.div_le_self _ _) hl2
  obtain⟨qs,a',okq,qne,hq,dq,ha',eR⟩:=hR b1 (a+2) (left / k) hroom hroom2 (by lia)
  have hmul:k*(B2 qs).length<=left:=by
   have:=Nat.mul_le_mul_left k hq
   have:=Nat.mul_div_le left k
   lia
  have hlu:l8 [.list (j0 qs)]=some (.val (row (B2 qs))):=a2G 26 qs okq (by lia) (by lia)
  have gl2:=G1 (l:=B2 qs) (by lia)
  have c1:decide ((0:Int)<(deep:Int))=true:=decide_eq_true (by lia)
  have c2:decide ((1:Int)<(left:Int))=true:=decide_eq_true (by lia)
  have c3:(N % 3==0)=true:=by rw [beq_iff_eq];exact b3
  have e2:((a+1:Nat):Int)+1=((a+2:Nat):Int):=by lia
  have e3:(left:Int)/(k:Int)=((left / k:Nat):Int):=(Int.natCast_ediv left k).symm
  have e4:(left:Int) - (k:Int)*((B2 qs).length:Int)=((left - k*(B2 qs).length:Nat):Int):=by rw [Int.ofNat_sub hmul,Int.natCast_mul]
  refine⟨.again k qs,a',left - k*(B2 qs).length,some (.val (.int N)),some (.val (.int (k:Nat))),some (.val (.list (j0 qs))),⟨k1,by lia,qne,okq⟩,by rw [dpP];lia,by rw [a1A];lia,by lia, ?_⟩
  have ep:B3 (.again k qs)= .tuple [D1,.int (k:Nat),.list (j0 qs)]:=by rw [B3]
  have ap:=E4 (i:=4) (m:=a1j (a6 (mC (.str (AS "again"))) (a6 (a7 9) (a6 (a7 10) c4)))) (ρ:=[some (.val (.list (cs.map .int))),some (.val (.int (a':Nat))),q2,some (.val (.int (deep:Nat))),some (.own acc),some (.val (.int (left:Nat))),q6,q7,some (.val (.int N)),some (.val (.int (k:Nat))),some (.val (.list (j0 qs)))]) (r:= .val (B3 (.again k qs))) (p:=B3 (.again k qs)) (ps:=acc) (by rw [ep];simp (disch:=omega) only [d4,b4,c5,b8,b5,b6,G9,AF,AW,Aj,↓reduceIte,sz,Nat.reduceAdd,At]) rfl rfl (by lia)
  unfold v4
  simp (disch:=omega) only [i9,B7,a0k,D3,B6,d0,k9,d4,b4,c5,b8,b5,b6,e9,g7,u8,e8,g9,f9,M5,g5,j8,A5,a1G,a97,b3W,AF,AU,AV,b2n,p0,e1,gl,hc,eN,c1,c2,c3,hm,hk,e2,e3,eR,ap,hlu,gl2,e4]
 ·obtain⟨col,hcol,ecol⟩:=b2J hN
  have w0:0<=N / 81 % 5 / 4/\N / 81 % 5 / 4<=1:=by lia
  obtain⟨m,hm,ma1,ma2⟩:∃m:Nat,(if 3+9*(N / 81 % 5 / 4)<(left:Int) then 3+9*(N / 81 % 5 / 4) else(left:Int))=(m:Int)/\1<=m/\m<=left:=⟨(if 3+9*(N / 81 % 5 / 4)<(left:Int) then 3+9*(N / 81 % 5 / 4) else(left:Int)).toNat,by split<;>lia,by split<;>lia,by split<;>lia⟩
  have r0:0<=N / 3 %(m:Int):=Int.emod_nonneg _ (by lia)
  have r1:N / 3 %(m:Int)<m:=Int.emod_lt_of_pos _ (by lia)
  obtain⟨k,hk,k1,k2⟩:∃k:Nat,1+N / 3 %(m:Int)=(k:Int)/\1<=k/\k<=left:=⟨(1+N / 3 %(m:Int)).toNat,by lia,by lia,by lia⟩
  have e4:(left:Int) - (k:Int)=((left - k:Nat):Int):=by lia
  refine⟨.run col k,a+1,left - k,some (.val (.int N)),some (.val (.int (k:Nat))),q10,⟨k1,by lia,hcol⟩,by rw [dpP];lia,by rw [a7d];lia,by lia, ?_⟩
  have ep:B3 (.run col k)= .tuple [a3G,row [col],.int (k:Nat)]:=by rw [B3]
  have ap:=E4 (i:=4) (m:=a1j (a6 (mC (.str (AS "run"))) (a6 (m2 y0 (mC (.str (AS "abcxz"))) (m2 (X3 (fun _ j=>0<j) fun i j=> .int (i % j)) (m2 (X3 X0 fun i j=> .int (i / j)) (a7 8) (mC (.int 405))) (mC (.int 5)))) (a6 (a7 9) c4)))) (ρ:=[some (.val (.list (cs.map .int))),some (.val (.int ((a+1:Nat):Int))),q2,some (.val (.int (deep:Nat))),some (.own acc),some (.val (.int (left:Nat))),q6,q7,some (.val (.int N)),some (.val (.int (k:Nat))),q10]) (r:= .val (B3 (.run col k))) (p:=B3 (.run col k)) (ps:=acc) (by rw [ep];simp (disch:=omega) only [D3,B6,d0,d4,b4,c5,b8,b5,b6,G9,AF,AW,Aj,↓reduceIte,sz,Nat.reduceAdd,At,ecol]) rfl rfl (by lia)
  unfold v4
  by_cases b1:0<deep
  ·have c1:decide ((0:Int)<(deep:Int))=true:=decide_eq_true (by lia)
   by_cases b2:1<left
   ·have c2:decide ((1:Int)<(left:Int))=true:=decide_eq_true (by lia)
    have c3:(N % 3==0)=false:=by rw [beq_eq_false_iff_ne];exact fun z=>hb ⟨b1,b2,z⟩
    simp (disch:=omega) only [i9,B7,a0k,D3,B6,d0,k9,d4,b4,c5,b8,b5,b6,e9,g7,u8,e8,g9,f9,M5,G3,g5,j8,A5,a1G,AF,AU,AV,b2n,p0,e1,gl,hc,eN,c1,c2,c3,hm,hk,ap,e4]
   ·have c2:decide ((1:Int)<(left:Int))=false:=decide_eq_false (by lia)
    simp (disch:=omega) only [i9,B7,a0k,D3,B6,d0,k9,d4,b4,c5,b8,b5,b6,e9,g7,u8,e8,g9,f9,M5,G3,g5,j8,A5,a1G,a2V,AF,AU,AV,p0,e1,gl,hc,eN,c1,c2,hm,hk,ap,e4]
  ·have c1:decide ((0:Int)<(deep:Int))=false:=decide_eq_false (by lia)
   simp (disch:=omega) only [i9,B7,a0k,D3,B6,d0,k9,d4,b4,c5,b8,b5,b6,e9,g7,u8,e8,g9,f9,M5,G3,g5,j8,A5,a2V,AF,AU,AV,p0,e1,gl,hc,eN,c1,hm,hk,ap,e4]
theorem b0t(ps:List Pa)(p:Pa):j0 (ps++[p])=j0 ps++[B3 p]:=by rw [N3,N3,Aw];rfl
theorem b0K(ps:List Pa)(p:Pa):(B2 (ps++[p])).length=(B2 ps).length+(unP p).length:=by
 rw [a0g,a0g,Aw,List.flatten_append,Ad]
 simp
theorem a58:∀{ps:List Pa} {p:Pa},okL ps->okP p->okL (ps++[p])
 |[],p,_,h=>⟨h,trivial⟩
 |q::ps,p,h,g=>⟨h.1,a58 h.2 g⟩
theorem a5F:∀{ps:List Pa} {p:Pa} {d:Nat},U9 ps<=d->dpP p<=d->U9 (ps++[p])<=d
 |[],p,d,_,h=>by
  show U9 [p]<=d
  rw [U9,U9];lia
 |q::ps,p,d,h,g=>by
  rw [U9] at h
  rw [Ah,U9]
  have:=a5F (ps:=ps) (p:=p) (d:=d) (by lia) g
  lia
def grw:Nat->Nat
 |0=>8
 |d+1=>4*(2+grw d)
theorem a7y{cs:List Int}(hcs:0<cs.length):∀(n deep a room:Nat),deep<n->deep<=3->1<=room->room<=24->a<=30000 - grw deep->grw deep<=5000->
 ∃(ps:List Pa) (a':Nat),okL ps/\ps≠[]/\(B2 ps).length<=room/\U9 ps<=deep/\a'<=a+grw deep/\y8 n [.list (cs.map .int),.int (a:Nat),.int (room:Nat),.int (deep:Nat)]=some (.val (.tuple [.list (j0 ps),.int (a':Nat)]))
 |0,deep,a,room,h,_,_,_,_,_=>by lia
 |n+1,deep,a,room,hn,hd,hr1,hr2,ha,hg=>by
  obtain⟨c,hc⟩:=a7i hcs (a:Int)
  obtain⟨N,hN,eN⟩:=a1S (c+(a:Int))
  have gl:A6 (.val (.list (cs.map .int)))=some (.val (.int (cs.length:Nat))):=by rw [T0,Aa]
  obtain⟨mn,emn,mn1,mn2⟩:∃mn:Nat,1+N % 4=(mn:Int)/\1<=mn/\mn<=4:=⟨(1+N % 4).toNat,by lia,by lia,by lia⟩
  obtain⟨gi,hgi,hgi2,hR⟩:∃gi:Nat,4*(2+gi)<=grw deep/\gi<=5000/\(0<deep->∀b rm:Nat,1<=rm->rm<=24->b<=a+3*(2+gi)+2->∃(qs:List Pa) (a':Nat),okL qs/\qs≠[]/\(B2 qs).length<=rm/\U9 qs+1<=deep/\a'<=b+gi/\y8 n [.list (cs.map .int),.int (b:Nat),.int (rm:Nat),.int ((deep:Int) - 1)]=some (.val (.tuple [.list (j0 qs),.int (a':Nat)]))):=by
   cases deep with
   |zero=>exact⟨0,by show 4*(2+0)<=8;lia,by lia,fun h=>absurd h (Nat.lt_irrefl 0)⟩
   |succ d=>
    have e:grw (d+1)=4*(2+grw d):=rfl
    refine⟨grw d,by lia,by lia,fun _ b rm h1 h2 h3=> ?_⟩
    obtain⟨qs,a',x1,x2,x3,x4,x5,x6⟩:=a7y hcs n d b rm (by lia) (by lia) h1 h2 (by lia) (by lia)
    exact⟨qs,a',x1,x2,x3,by lia,x5,by rw [show((d+1:Nat):Int) - 1=(d:Int) by lia];exact x6⟩
  obtain⟨ρ1,e1,ps,a',left,q7,q8,q9,q10,x1,x2,x3,x4,x5,x6,rfl⟩:=A4 (body:=v4 (y8 n)) (tg:=g8 7) (fun i ρ=>∃(ps:List Pa) (a' left:Nat) (q7 q8 q9 q10:Option b9),okL ps/\(0<i->ps≠[])/\(B2 ps).length+left=room/\U9 ps<=deep/\a'<=a+i*(2+gi)/\ps.length<=i/\
   ρ=[some (.val (.list (cs.map .int))),some (.val (.int (a':Nat))),some (.val (.int (room:Nat))),some (.val (.int (deep:Nat))),some (.own (j0 ps)),some (.val (.int (left:Nat))),some (.val (.int (mn:Nat))),q7,q8,q9,q10])
   (ps:=y6 0 ((mn:Nat):Int)) (ρ:=[some (.val (.list (cs.map .int))),some (.val (.int (a:Nat))),some (.val (.int (room:Nat))),some (.val (.int (deep:Nat))),some (.own []),some (.val (.int (room:Nat))),some (.val (.int (mn:Nat))),none,none,none,none])
   (by
    rintro i p hp ρ ⟨ps,a',left,q7,q8,q9,q10,x1,x2,x3,x4,x5,x6,rfl⟩
    obtain⟨rfl,hi⟩:=L7 hp
    have hi4:i<4:=by lia
    have hb:i*(2+gi)<=3*(2+gi):=Nat.mul_le_mul_right _ (by lia)
    have e5:(i+1)*(2+gi)=i*(2+gi)+(2+gi):=Nat.succ_mul _ _
    by_cases hl:0<left
    ·obtain⟨p,b,left',r8,r9,r10,y1,y2,y3,y4,y5⟩:=a8k (R:=y8 n) hcs (deep:=deep) (g:=gi) (B:=a+3*(2+gi)+2) hd hR (a:=a') (left:=left) (by lia) (by lia) hl (by lia) (acc:=j0 ps) (by rw [a2J];lia) (some (.val (.int (room:Nat)))) (some (.val (.int (mn:Nat)))) (some (.val (.int ((0:Int)+(i:Int))))) q8 q9 q10
     refine C4 rfl y5 ⟨ps++[p],b,left',some (.val (.int ((0:Int)+(i:Int)))),r8,r9,r10,a58 x1 y1,fun _=>by simp,by rw [b0K];lia,a5F x4 y2,by lia,by rw [Ad,List.length_singleton];lia,by rw [b0t]⟩
    ·have p0:decide ((0:Int)<(left:Int))=false:=decide_eq_false (by lia)
     refine C4 rfl (ρ2:=[some (.val (.list (cs.map .int))),some (.val (.int (a':Nat))),some (.val (.int (room:Nat))),some (.val (.int (deep:Nat))),some (.own (j0 ps)),some (.val (.int (left:Nat))),some (.val (.int (mn:Nat))),some (.val (.int ((0:Int)+(i:Int)))),q8,q9,q10]) ?_ ⟨ps,a',left,_,q8,q9,q10,x1,fun _ z=>by
      subst z
      rw [B2] at x3
      simp at x3
      lia,x3,x4,by lia,by lia,rfl⟩
     show v4 (y8 n) [some (.val (.list (cs.map .int))),some (.val (.int (a':Nat))),some (.val (.int (room:Nat))),some (.val (.int (deep:Nat))),some (.own (j0 ps)),some (.val (.int (left:Nat))),some (.val (.int (mn:Nat))),some (.val (.int ((0:Int)+(i:Int)))),q8,q9,q10]=_
     unfold v4
     simp (disch:=omega) only [B7,d0,d4,b4,c5,f9,G3,m5,g5,j8,AF,p0]) ⟨[],a,room,none,none,none,none,trivial,fun h=>absurd h (Nat.lt_irrefl 0),by rw [B2];simp,by rw [U9];lia,by simp,AM _,by rw [j0]⟩
  have hlen:(y6 0 ((mn:Nat):Int)).length=mn:=by rw [a7R,Aa,Au]
  rw [hlen] at x2 x5
  have hb:mn*(2+gi)<=4*(2+gi):=Nat.mul_le_mul_right _ mn2
  refine⟨ps,a',x1,x2 (by lia),by lia,x4,by lia, ?_⟩
  have fz:∀(nn:MS) (s0 s1 s2 s3 s5 s6 s7 s8 s9 s10:Option b9) (L:List PV),R3 4 nn [s0,s1,s2,s3,some (.ow (.lst L)),s5,s6,s7,s8,s9,s10]=nn [s0,s1,s2,s3,some (.val (.list L)),s5,s6,s7,s8,s9,s10]:=fun _ _ _ _ _ _ _ _ _ _ _ _=>rfl
  show t8 7 (U7 (y8 n)) [.list (cs.map .int),.int (a:Nat),.int (room:Nat),.int (deep:Nat)]=_
  unfold U7
  simp (disch:=omega) only [i9,D3,d0,k9,d4,b4,c5,b8,b5,b6,G9,P0,e9,g7,u8,a0H,l5,E1,e8,g9,k6,l0,x8,K4,a1s,AF,AQ,AZ,AY,Ac,Ah,Ae,AU,AV,AW,Aj,↓reduceIte,sz,Nat.reduceAdd,At,gl,hc,eN,emn,e1,fz]
theorem a77{ns:List Int}{k:Int}(h0:0<=k):∃c:Int,L3 [.list (ns.map .int),.int k]=some (.val (.int c)):=by
 unfold L3 a0z
 by_cases h:k<ns.length
 ·have hk:k.toNat<ns.length:=by lia
  have e:L2.atI (ns.map PyData.int) k=some (.int ns[k.toNat]):=by
   rw [a6B h0,Ay,BA hk];rfl
  refine⟨ns[k.toNat], ?_⟩
  simp (disch:=omega) only [a9I,T0,d0,k9,b4,c5,e8,f9,k6,g5,j8,AF,AQ,AZ,Ac,Ab,Aa,a28 e]
  simp only [h,decide_true]
  simp (disch:=omega) only [d0,b4,c5,l5,E1,a2L,M5,l0,AF,a28 e]
 ·refine⟨0, ?_⟩
  simp (disch:=omega) only [a9I,T0,d0,k9,b4,c5,e8,f9,k6,g5,j8,AF,AQ,AZ,Ac,Ab,Aa]
  simp only [h,decide_false]
  simp (disch:=omega) only [d4,l5,E1,g9,G3,m5,l0,AF]
theorem b1W(cs:List Int)(lo hi:Option Int):gSl (.val (.list (cs.map .int))) lo hi=some (.own ((cut cs lo hi).map .int)):=by
 show some _=_
 rw [show cut (cs.map PyData.int) lo hi=(cut cs lo hi).map PyData.int by unfold cut;rw [Aa,List.map_take,List.map_drop]]
theorem a9q(ns:List Int)(hn:ns.length<=63){at_:Nat}(ha:at_<=100):∃ps:List Pa,okL ps/\ps≠[]/\(B2 ps).length<=24/\U9 ps<=3/\Q1 [.list (ns.map .int),.int (at_:Nat),.int 24]=some (.val (.list (j0 ps))):=by
 have gs:=b1W ns (some (at_:Nat)) none
 have hcut:=a7o ns (some ((at_:Nat):Int)) none
 have cat:t7 (.own ((cut ns (some ((at_:Nat):Int)) none).map .int)) (.own [.int 1])=some (.own ((cut ns (some ((at_:Nat):Int)) none++[1]).map .int)):=by
  rw [b1f (by rw [Aa,sizeLine_eq];simp only [AW,Aj];lia),Aw]
  rfl
 have hcs:0<(cut ns (some ((at_:Nat):Int)) none++[1]).length:=by rw [Ad,List.length_singleton];lia
 generalize cut ns (some ((at_:Nat):Int)) none++[1]=cs at cat hcs
 obtain⟨c,hc⟩:=a77 (ns:=ns) (k:=(at_:Nat)) (by lia)
 obtain⟨N,hN,eN⟩:=a1S c
 have hx:∃room:Nat,1<=room/\room<=24/\y0 (.own [.int 24,.int 24,.int 12,.int 5]) (.val (.int (N / 4 % 4)))=some (.val (.int (room:Nat))):=by
  have:N / 4 % 4=0\/N / 4 % 4=1\/N / 4 % 4=2\/N / 4 % 4=3:=by lia
  rcases this with e|e|e|e<;>rw [e]
  ·exact⟨24,by lia,by lia,rfl⟩
  ·exact⟨24,by lia,by lia,rfl⟩
  ·exact⟨12,by lia,by lia,rfl⟩
  ·exact⟨5,by lia,by lia,rfl⟩
 obtain⟨room,hr1,hr2,hx⟩:=hx
 obtain⟨ps,a',x1,x2,x3,x4,_,x6⟩:=a7y hcs 5 3 0 room (by lia) (by lia) hr1 hr2 (by decide) (by decide)
 refine⟨ps,x1,x2,by lia,x4, ?_⟩
 have x6:a0N [.list (cs.map .int),.int 0,.int (room:Nat),.int 3]=_:=x6
 have fz:∀(nn:MS) (s0 s1 s2 s4:Option b9) (L:List PV),R3 3 nn [s0,s1,s2,some (.ow (.lst L)),s4]=nn [s0,s1,s2,some (.val (.list L)),s4]:=fun _ _ _ _ _ _=>rfl
 unfold Q1 a18
 simp (disch:=omega) only [D3,B6,a9G,d0,d4,b4,c5,b8,b5,b6,P0,e9,g7,u8,a0H,l5,E1,e8,g9,k6,l0,AF,AQ,AZ,AY,Ac,Ah,Ae,AU,AV,AW,Aj,↓reduceIte,i6,i7,n6,p9,sz,Nat.reduceAdd,At,Int.reduceDiv,gs,cat,hc,eN,hx,fz,x6]
mutual
theorem b3V:∀{p:Pa},okP p->∀c∈unP p,c∈L5
 | .run c k,h=>fun d hd=>by
   rw [unP,List.map_const',Au] at hd
   rw [(List.mem_replicate.mp hd).2]
   exact h.2.2
 | .again k ps,h=>fun d hd=>by
   rw [unP,List.map_const',Au] at hd
   obtain⟨l,hl,hd⟩:=List.mem_flatten.mp hd
   rw [(List.mem_replicate.mp hl).2] at hd
   exact a7c h.2.2.2 d hd
theorem a7c:∀{ps:List Pa},okL ps->∀c∈B2 ps,c∈L5
 |[],_=>fun d hd=>by rw [B2] at hd;cases hd
 |p::ps,h=>fun d hd=>by
  rw [B2] at hd
  rcases As.mp hd with q|q
  ·exact b3V h.1 d q
  ·exact a7c h.2 d q
end
theorem a5O{a b:List Nat}(h:a.length+b.length<=10000):t7 (.val (row a)) (.val (row b))=some (.val (row (a++b))):=by
 show(if(S a).length+(S b).length<=AK then some (b9.val (.str (S a++S b))) else none)=_
 rw [if_pos (by rw [a13,a13,sizeLine_eq];lia)]
 congr 2
 exact congrArg PyData.str (b3Z a b)
theorem a1Z{m n:MS}{ρ ρ':a9}(h:m ρ=some (.nx ρ')):k0 m n ρ=n ρ':=by
 rw [e8,h];rfl
theorem a9M{c:MT}{a:MS}{ρ:a9}(h:c ρ=some false):G8 c a v5 ρ=some (.nx ρ):=by
 show(c ρ).bind _=_
 rw [h];rfl
theorem b4v:PyData.str (AS "a")=row [97]:=by rfl
theorem main:∀ns:List Int,ns.length<=63->a9J [.list (ns.map .int)]=some (.val (.bool true)):=by
 intro ns hl
 obtain⟨ρ1,e1,a,q3,q4,q5,q6,q7,q8,rfl,ha⟩:=A4 (body:=a3d) (tg:=g8 3) (fun _ ρ=>∃(a:List Nat) (q3 q4 q5 q6 q7 q8:Option b9),ρ=[some (.val (.list (ns.map .int))),some (.val (row a)),some (.val (.int (lp a:Nat))),q3,q4,q5,q6,q7,q8]/\LV a)
  (ps:=y6 0 4) (ρ:=[some (.val (.list (ns.map .int))),some (.val (row [97])),some (.val (.int 1)),none,none,none,none,none,none])
  (by
   rintro i p hp ρ ⟨a,q3,q4,q5,q6,q7,q8,rfl,ha⟩
   obtain⟨rfl,hi⟩:=L7 hp
   rw [Int.zero_add] at hi ⊢
   obtain⟨ps,ok,hne,hul,hdp,ed⟩:=a9q ns hl (at_:=17*i) (by lia)
   have e17:(17:Int)*(i:Int)=((17*i:Nat):Int):=by lia
   have lu:l8 [.list (j0 ps)]=_:=a2G 26 ps ok hul (by lia)
   have lct:l3 [.list (j0 ps)]=_:=Y9 26 ps (by lia)
   have hL:LV (B2 ps):=⟨fun e=>(by
    have:=a1z hne ok
    rw [e] at this;cases this),hul,a7c ok⟩
   have fdp:FD ps (B2 ps):=⟨ok,hne,rfl⟩
   have hct:=a2e hL fdp
   generalize hl5:B2 ps=l at*
   have h24:=hL.len
   have hpos:0<l.length:=List.length_pos_iff.mpr hL.ne
   obtain⟨T,fT,cT,dT,eT⟩:=a1J hL
   have uT:l8 [.list (j0 T)]=some (.val (row l)):=by
    have:l8 [.list (j0 T)]=_:=a2G 26 T fT.ok (by rw [fT.un];lia) (by lia)
    rw [fT.un] at this;exact this
   have kT:l3 [.list (j0 T)]=some (.val (.int (lp l:Nat))):=by
    have:l3 [.list (j0 T)]=_:=Y9 26 T (by lia)
    rw [cT] at this;exact this
   have kT2:a4U [.list (j0 T)]=some (.val (.int (lp l:Nat))):=by
    have:a4U [.list (j0 T)]=_:=a7m 26 T (by lia)
    rw [cT] at this;exact this
   have iT:L4 [.list (j0 T)]=some (.val (.bool true)):=a9Q 26 T fT.ok fT.ne (by lia) (by lia)
   have hln:=G1 (l:=l) (by lia)
   have hla:=G1 (l:=a) (by have:=ha.len;lia)
   have n1:gNe (.val (row l)) (.val (row l))=some (.val (.bool false)):=by rw [a7C];simp
   have n2:gNe (.val (.int (lp l:Nat))) (.val (.int (lp l:Nat)))=some (.val (.bool false)):=Y6 rfl
   have d1:decide (((N4 ps:Nat):Int)<(lp l:Nat))=false:=decide_eq_false (by lia)
   have hle:=a9U hL
   have t4:a0D (U3 (m2 a4T (m1 A6 (a7 5)) (mC (.int 14)))) (U3 (m2 gNe (a7 7) (g0 M0 (a6 (a7 5) c4)))) [some (.val (.list (ns.map .int))),some (.val (row a)),some (.val (.int (lp a:Nat))),some (.val (.int (i:Nat))),some (.val (.list (j0 ps))),some (.val (row l)),some (.val (.list (j0 T))),some (.val (.int (lp l:Nat))),q8]=some false:=by
    cases hb:decide (((l.length:Nat):Int)<=14) with
    |true=>simp (disch:=omega) only [a1L,d0,k9,d4,b4,c5,b8,b5,b6,e9,g5,j8,A5,a1G,AF,hln,hb,hle,n2]
    |false=>simp (disch:=omega) only [a1L,d0,k9,d4,b4,c5,g5,j8,A5,a2V,AF,hln,hb]
   have t5:a0D (U3 (m2 a4T (m1 A6 (a7 5)) (mC (.int 12)))) (U3 (m2 (gI fun i j=> .bool (decide (j<i))) (g0 l3 (a6 (g0 z6 (a6 (m2 t7 (a7 5) (a7 5)) c4)) c4)) (m2 t7 (a7 7) (mC (.int 1))))) [some (.val (.list (ns.map .int))),some (.val (row a)),some (.val (.int (lp a:Nat))),some (.val (.int (i:Nat))),some (.val (.list (j0 ps))),some (.val (row l)),some (.val (.list (j0 T))),some (.val (.int (lp l:Nat))),q8]=some false:=by
    cases hb:decide (((l.length:Nat):Int)<=12) with
    |true=>
     have hb':=of_decide_eq_true hb
     have hLL:LV (l++l):=⟨by simp [hL.ne],by rw [Ad];lia,fun c hc=>(As.mp hc).elim (hL.ch c) (hL.ch c)⟩
     obtain⟨T2,f2,c2,d2,e2⟩:=a1J hLL
     have k2:l3 [.list (j0 T2)]=some (.val (.int (lp (l++l):Nat))):=by
      have:l3 [.list (j0 T2)]=_:=Y9 26 T2 (by lia)
      rw [c2] at this;exact this
     have er:rep 2 l=l++l:=by rw [Z9,Z9];simp [rep]
     have hb2:lp (l++l)<=1+lp l:=by
      rw [<-er]
      exact a3h hL (AM _) (by lia) (by rw [er];exact hLL)
     have ad:=a5O (a:=l) (b:=l) (by lia)
     have dd:decide (((lp l:Nat):Int)+1<(lp (l++l):Nat))=false:=decide_eq_false (by lia)
     simp (disch:=omega) only [i9,B7,a1L,d0,k9,d4,b4,c5,b8,b5,b6,a4x,e9,g5,j8,A5,a1G,AF,hln,hb,ad,e2,k2,dd]
    |false=>simp (disch:=omega) only [a1L,d0,k9,d4,b4,c5,g5,j8,A5,a2V,AF,hln,hb]
   have t6:a0D (U3 (m2 a4T (m2 t7 (m1 A6 (a7 1)) (m1 A6 (a7 5))) (mC (.int 24)))) (U3 (m2 (gI fun i j=> .bool (decide (j<i))) (g0 l3 (a6 (g0 z6 (a6 (m2 t7 (a7 1) (a7 5)) c4)) c4)) (m2 t7 (a7 2) (a7 7)))) [some (.val (.list (ns.map .int))),some (.val (row a)),some (.val (.int (lp a:Nat))),some (.val (.int (i:Nat))),some (.val (.list (j0 ps))),some (.val (row l)),some (.val (.list (j0 T))),some (.val (.int (lp l:Nat))),q8]=some false:=by
    cases hb:decide (((a.length:Nat):Int)+(l.length:Nat)<=24) with
    |true=>
     have hb':=of_decide_eq_true hb
     have hLL:LV (a++l):=⟨by simp [hL.ne],by rw [Ad];lia,fun c hc=>(As.mp hc).elim (ha.ch c) (hL.ch c)⟩
     obtain⟨T2,f2,c2,d2,e2⟩:=a1J hLL
     have k2:l3 [.list (j0 T2)]=some (.val (.int (lp (a++l):Nat))):=by
      have:l3 [.list (j0 T2)]=_:=Y9 26 T2 (by lia)
      rw [c2] at this;exact this
     have hb2:=a3i ha hL hLL
     have ad:=a5O (a:=a) (b:=l) (by lia)
     have dd:decide (((lp a:Nat):Int)+(lp l:Nat)<(lp (a++l):Nat))=false:=decide_eq_false (by lia)
     simp (disch:=omega) only [i9,B7,a1L,d0,k9,d4,b4,c5,b8,b5,b6,a4x,e9,g5,j8,A5,a1G,AF,hla,hln,hb,ad,e2,k2,dd]
    |false=>simp (disch:=omega) only [i9,a1L,d0,k9,d4,b4,c5,g5,j8,A5,a2V,AF,hla,hln,hb]
   have emid:Y8 [some (.val (.list (ns.map .int))),some (.val (row a)),some (.val (.int (lp a:Nat))),some (.val (.int (i:Nat))),some (.val (.list (j0 ps))),some (.val (row l)),some (.val (.list (j0 T))),q7,q8]=some (.nx [some (.val (.list (ns.map .int))),some (.val (row a)),some (.val (.int (lp a:Nat))),some (.val (.int (i:Nat))),some (.val (.list (j0 ps))),some (.val (row l)),some (.val (.list (j0 T))),some (.val (.int (lp l:Nat))),q8]):=by
    unfold Y8
    rw [a1Z (a9M (by simp (disch:=omega) only [d0,b4,c5,b8,b5,b6,e9,N1,g5,j8,a1y,T6,T7,a4m,AF,Ax,Bool.not_true,iT,uT,n1])),a1Z (ρ':=[some (.val (.list (ns.map .int))),some (.val (row a)),some (.val (.int (lp a:Nat))),some (.val (.int (i:Nat))),some (.val (.list (j0 ps))),some (.val (row l)),some (.val (.list (j0 T))),some (.val (.int (lp l:Nat))),q8]) (by simp (disch:=omega) only [b4,c5,b8,b5,b6,e9,g7,u8,AF,AU,AV,kT]),a1Z (a9M (by simp (disch:=omega) only [B7,d0,b4,c5,b8,b5,b6,e9,g5,j8,T7,a4m,AF,kT,lct,d1,kT2,n2])),a1Z (a9M t4),a1Z (a9M t5),a1Z (a9M t6)]
    rfl
   have told:∀nn:MS,a51 f8 26 6 [5] [0,1,2,3,4,5,8] [7] (g0 z6 (a6 (a7 5) c4)) Y8 nn [some (.val (.list (ns.map .int))),some (.val (row a)),some (.val (.int (lp a:Nat))),some (.val (.int (i:Nat))),some (.val (.list (j0 ps))),some (.val (row l)),q6,q7,q8]=nn [some (.val (.list (ns.map .int))),some (.val (row a)),some (.val (.int (lp a:Nat))),some (.val (.int (i:Nat))),some (.val (.list (j0 ps))),some (.val (row l)),none,some (.val (.int (lp l:Nat))),q8]:=fun nn=>by
    unfold a51
    show(if True/\6<9 then _ else none)=_
    rw [if_pos ⟨trivial,by lia⟩]
    have em:g0 z6 (a6 (a7 5) c4) [none,none,none,none,none,some (.val (row l)),none,none,none]=some (.own (j0 T)):=by simp (disch:=omega) only [b4,c5,b8,b5,b6,e9,AF,eT]
    show(match g0 z6 (a6 (a7 5) c4) [none,none,none,none,none,some (.val (row l)),none,none,none] with|some (.ow (.lst T))=>_|_=>none)=_
    rw [em]
    show(match Y8 [some (.val (.list (ns.map .int))),some (.val (row a)),some (.val (.int (lp a:Nat))),some (.val (.int (i:Nat))),some (.val (.list (j0 ps))),some (.val (row l)),some (.val (.list (j0 T))),q7,q8] with|some (.nx ρ5)=>_|_=>none)=_
    rw [emid]
    show(if shB f8 26 (.list (j0 T))=true then _ else none)=_
    rw [if_pos (a7U 26 T (by lia))]
    rfl
   have fz4:∀nn:MS,R3 4 nn [some (.val (.list (ns.map .int))),some (.val (row a)),some (.val (.int (lp a:Nat))),some (.val (.int (i:Nat))),some (.val (.list (j0 ps))),some (.val (row l)),q6,q7,q8]=nn [some (.val (.list (ns.map .int))),some (.val (row a)),some (.val (.int (lp a:Nat))),some (.val (.int (i:Nat))),some (.val (.list (j0 ps))),some (.val (row l)),q6,q7,q8]:=fun _=>rfl
   have fz8:∀nn:MS,R3 8 nn [some (.val (.list (ns.map .int))),some (.val (row a)),some (.val (.int (lp a:Nat))),some (.val (.int (i:Nat))),some (.val (.list (j0 ps))),some (.val (row l)),none,some (.val (.int (lp l:Nat))),some (.own (j0 T))]=nn [some (.val (.list (ns.map .int))),some (.val (row a)),some (.val (.int (lp a:Nat))),some (.val (.int (i:Nat))),some (.val (.list (j0 ps))),some (.val (row l)),none,some (.val (.int (lp l:Nat))),some (.val (.list (j0 T)))]:=fun _=>rfl
   refine C4 (ρ1:=[some (.val (.list (ns.map .int))),some (.val (row a)),some (.val (.int (lp a:Nat))),some (.val (.int (i:Nat))),q4,q5,q6,q7,q8]) rfl (ρ2:=[some (.val (.list (ns.map .int))),some (.val (row l)),some (.val (.int (lp l:Nat))),some (.val (.int (i:Nat))),some (.val (.list (j0 ps))),some (.val (row l)),none,some (.val (.int (lp l:Nat))),some (.val (.list (j0 T)))]) ?_ ⟨l,_,_,_,_,_,_,rfl,hL⟩
   unfold a3d
   simp (disch:=omega) only [a0k,d0,d4,b4,c5,b8,b5,b6,e9,g7,u8,a0H,e8,g9,f9,G3,m5,N1,g5,j8,a1y,T6,T7,a4m,AF,Ax,AU,AV,Bool.not_true,e17,ed,lu,fz4,told,eT,fz8,iT,uT,n1,kT,n2]) ⟨[97],none,none,none,none,none,none,by
    have:lp [97]=1:=a1e (k:=1) (c:=97) (AM _) (by decide) (by decide)
    rw [this];rfl,⟨by simp,by decide,fun c hc=>by rw [List.mem_singleton.mp hc];decide⟩⟩
 rw [<-b4v] at e1
 unfold a9J b2d
 simp (disch:=omega) only [d4,b8,b5,b6,g7,u8,l5,E1,e8,g9,k6,l0,x8,K4,a1s,AF,AQ,AZ,AY,Ac,Ah,Ae,AU,AV,e1]
end LW
set_option maxHeartbeats 4000000
namespace LW
open PySem PySem.Spec PyProof.Rows L2 PU
def top(i:Nat):Stmt:=PySem.Challenge.pw_carpetkin_k33_whole_least_folds.main.body.getD i (.Pass ⟨0,0,0,0⟩)
abbrev W1:Stmt:=top 12
theorem a0E:i8 ["_law_cell"] ["_law_cell"] (c9 W1):=mkS
theorem a1k:List.Nodup (α:=Str) ["_law_fold_here","_law_parts","_law_part","_law_turn"]:=by decide+kernel
theorem a1l:List.Nodup (α:=Str) ["_law_fold_here","_law_parts","_law_part","_law_turn"]:=by decide+kernel
abbrev J1:Stmt:=top 14
theorem M3:i8 ["_law_fold_here","_law_parts","_law_part"] ["_law_fold_here"] (c9 J1):=mkS
abbrev W0:Stmt:=top 13
theorem a0f:i8 ["_law_cells","_law_at","_law_room","_law_deep","_law_fold_here","_law_left","_law_many","_law_turn","_law_number_here","_law_k","_law_inner"] ["_law_cells","_law_at","_law_room","_law_deep"] (c9 W0):=mkS
abbrev R5:Stmt:=top 11
theorem a0d:i8 ["_law_script","_law_k"] ["_law_script","_law_k"] (c9 R5):=mkS
abbrev a0b:Stmt:=top 16
theorem a1v:i8 ["_law_script","_law_at","_law_most","_law_cells","_law_room"] ["_law_script","_law_at","_law_most"] (c9 a0b):=mkS
theorem a3Z:List.Nodup (α:=Str) ["things","thing"]:=by decide+kernel
abbrev a0T:Stmt:=top 2
theorem a2p:i8 ["things"] ["things"] (c9 a0T):=mkS
abbrev a0a:Stmt:=top 3
theorem a1u:i8 ["things","width"] ["things","width"] (c9 a0a):=mkS
abbrev a1Y:Stmt:=top 4
theorem a3I:i8 ["things","prices","best","start","end","stretch","found","width","middle"] ["things","prices","best","start","end"] (c9 a1Y):=mkS
abbrev P4:Stmt:=top 5
theorem W8:i8 ["things","prices","best","width","start","end"] ["things","prices"] (c9 P4):=mkS
abbrev T8:Stmt:=top 8
theorem a4w:i8 ["colour","many"] ["colour","many"] (c9 T8):=mkS
abbrev D8:Stmt:=top 6
theorem K7:i8 ["things","best","part_of","start","end","choice","inner","left"] ["things","best","part_of","start","end"] (c9 D8):=mkS
abbrev a0S:Stmt:=top 7
theorem a2o:i8 ["things","prices","part_of","best"] ["things","prices","part_of"] (c9 a0S):=mkS
theorem a55:List.Nodup (α:=Str) ["line","prices","colour"]:=by decide+kernel
abbrev a3H:Stmt:=top 9
theorem a4v:i8 ["line","prices"] ["line"] (c9 a3H):=mkS
abbrev V9:Stmt:=top 15
theorem a0e:i8 ["_law_fold_here","_law_found","_law_part"] ["_law_fold_here"] (c9 V9):=mkS
abbrev R6:Stmt:=top 21
theorem P6:i8 ["_law_fold_here","_law_part"] ["_law_fold_here"] (c9 R6):=mkS
abbrev P5:Stmt:=top 17
theorem W9:i8 ["_law_found","_law_least_here"] ["_law_found","_law_least_here"] (c9 P5):=mkS
abbrev L8:Stmt:=top 18
theorem P7:i8 ["_law_fold_here","_law_part"] ["_law_fold_here"] (c9 L8):=mkS
abbrev a5g:Stmt:=top 1
theorem a5h:i8 ["fold","many","part"] ["fold"] (c9 a5g):=mkS
abbrev K6:Stmt:=top 19
theorem Q5:i8 ["_law_line","_law_known","_law_found","_law_size","_law_many"] ["_law_line","_law_known"] (c9 K6):=mkS
abbrev a0c:Stmt:=top 20
theorem a1w:i8 ["_law_line","_law_known","_law_size","_law_low","_law_some","_law_best","_law_at"] ["_law_line"] (c9 a0c):=mkS
abbrev b0x:Stmt:=top 22
theorem b0y:i8 ["_law_script","_law_ahead","_law_price","_law_k","_law_told","_law_line","_law_found","_law_own","_law_again"] ["_law_script"] (c9 b0x):=mkS
structure Mo(K:AD)(mg:Str->Option AA):Prop where
 z_all:mg "all"=none
 z_bool:mg "bool"=none
 z_dict:mg "dict"=none
 z_int:mg "int"=none
 z_isinstance:mg "isinstance"=none
 z_len:mg "len"=none
 z_list:mg "list"=none
 z_min:mg "min"=none
 z_range:mg "range"=none
 z_str:mg "str"=none
 z_tuple:mg "tuple"=none
 nl:a8F K=true
section
variable (P:AI)(w:AG)(K:AD)(mg:Str->Option AA)(base:Heap)
abbrev M7:Prop:=j9 P w K mg base "_law_number" ["_law_cell"] 1 C1
abbrev N9:Prop:=j9 P w K mg base "_law_unfolded" ["_law_fold_here"] 27 l8
abbrev a6z:Prop:=j9 P w K mg base "_law_fold" ["_law_cells","_law_at","_law_room","_law_deep"] 32 a0N
abbrev a0y:Prop:=j9 P w K mg base "_law_cell_at" ["_law_script","_law_k"] 1 L3
abbrev a15:Prop:=j9 P w K mg base "_law_drawn" ["_law_script","_law_at","_law_most"] 33 Q1
abbrev a2T:Prop:=j9 P w K mg base "is_alike" ["things"] 1 O7
abbrev a14:Prop:=j9 P w K mg base "is_repeat" ["things","width"] 1 Q0
abbrev a33:Prop:=j9 P w K mg base "choices" ["things","prices","best","start","end"] 2 K0
abbrev X5:Prop:=j9 P w K mg base "best_choices" ["things","prices"] 3 G2
abbrev X6:Prop:=j9 P w K mg base "run_of" ["colour","many"] 1 T3
abbrev a2r:Prop:=j9 P w K mg base "parts_between" ["things","best","part_of","start","end"] 27 u3
abbrev a2S:Prop:=j9 P w K mg base "cheapest" ["things","prices","part_of"] 28 D9
abbrev a5t:Prop:=j9 P w K mg base "folded" ["line"] 29 z6
abbrev a6y:Prop:=j9 P w K mg base "_law_cost" ["_law_fold_here"] 27 l3
abbrev a3U:Prop:=a1D P w K mg base "_law_emptied" ["_law_fold_here"] 27 f8 26
abbrev N8:Prop:=j9 P w K mg base "_law_is_count" ["_law_found","_law_least_here"] 1 B8
abbrev a3V:Prop:=j9 P w K mg base "_law_is_fold" ["_law_fold_here"] 27 L4
abbrev b2x:Prop:=j9 P w K mg base "cost" ["fold"] 27 a4U
abbrev S1:Prop:=j9 P w K mg base "_law_least_part" ["_law_line","_law_known"] 1 p7
abbrev a16:Prop:=j9 P w K mg base "_law_least" ["_law_line"] 2 M0
end
section
variable (P:AI)(w:AG){K:AD}{mg:Str->Option AA}(base:Heap)
theorem a30(D:Df K mg "_law_number" W1):M7 P w K mg base:=by
 refine n4 (k:=0) D a0E (fun _ _ _ _ _ _=>el1 (fun _=>rfl)) fun f cdv A outer s H E hr=> ?_
 have S:=a0E
 have hu:=hr.units
 exact(d7 (o0 (c7 D7 (c7 M2 (c7 i4 (c7 D7 (a5 0 (pv 0)) b7) b7) b7) b7)))
theorem a2y{k:Nat}(hk0:1<=k){k7:List PV->Option b9}(D:Df K mg "_law_unfolded" J1)(M:Mo K mg)(j5:j9 P w K mg base "_law_unfolded" ["_law_fold_here"] k k7):j9 P w K mg base "_law_unfolded" ["_law_fold_here"] (k+1) (t8 2 (E8 k7)):=by
 refine n4 (k:=k) D M3 (fun _ _ _ _ _ _=>el1 (fun _=>rfl)) fun f cdv A outer s H E hr=> ?_
 have S:=M3
 have hu:=hr.units
 refine c8 ?_ ?_
 ·exact(i5 (i:=1) S.nd (Y3 c6))
 refine c8 ?_ ?_
 ·refine a4P PassesOwn.never ?_ ?_ ?_ (m9 2) ?_
  ·exact rfl
  ·exact(a5 0 (pv 0))
  ·exact(m7 (i:=2) S.nd rfl (Or.inr rfl))
  refine d7 ?_
  refine F9 ?_ ?_ ?_
  ·exact(l7 (J0 hu) (m4 (a5 2 (pv 2)) b7) v8 (by first|rfl|exact j7 _))
  ·refine d7 ?_
   refine J9 1 (pv 1) ?_
   refine a4N ?_ ?_
   ·exact v8
   refine a2B (ys:=["_law_turn"]) (N0:=["_law_fold_here","_law_parts","_law_part"]) (fun _ _ h=>h) ?_ ⟨by kernel_rfl,rfl,of_decide_eq_true rfl,of_decide_eq_true rfl,of_decide_eq_true rfl⟩ ?_ (fun C fp pins s H=>m7 (i:=3) a1k rfl (Or.inl rfl)) (fun n h=>W3 (i:=3) (Nat.le_of_eq h)) (fun C fp pins s H=>a4L) ?_
   ·exact rfl
   ·exact(a7v rfl M.z_range (a8 (m4 (a5 2 (pv 2)) b7) c6))
   intro C fp pins s H
   exact(m4 (a5 2 (pv 2)) b7)
  refine d7 ?_
  refine J9 1 (pv 1) ?_
  refine a4N ?_ ?_
  ·exact v8
  refine a2B (ys:=["_law_turn"]) (N0:=["_law_fold_here","_law_parts","_law_part"]) (fun _ _ h=>h) ?_ ⟨by kernel_rfl,rfl,of_decide_eq_true rfl,of_decide_eq_true rfl,of_decide_eq_true rfl⟩ ?_ (fun C fp pins s H=>m7 (i:=3) a1l rfl (Or.inl rfl)) (fun n h=>W3 (i:=3) (Nat.le_of_eq h)) (fun C fp pins s H=>a4L) ?_
  ·exact rfl
  ·exact(a7v rfl M.z_range (a8 (m4 (a5 2 (pv 2)) b7) c6))
  intro C fp pins s H
  exact(h9 j5 hr (by lia) rfl (b0 f6) (a8 (m4 (a5 2 (pv 2)) b7) c6))
 exact(d7 (o0 (a4N v8 (a5 1 (pv 1)))))
theorem a1T(B4:Df K mg "_law_unfolded" J1)(M:Mo K mg):∀n:Nat,j9 P w K mg base "_law_unfolded" ["_law_fold_here"] (1+n) (z7 n):=by
 intro n
 induction n with
 |zero=>exact n4 (k:=0) B4 M3 (fun _ _ _ _ _ _=>el1 (fun _=>rfl)) fun f cdv A outer s H E hr=>S8
 |succ n ih=>
  skip
  exact a2y P w base (Nat.le_add_right _ _) B4 M ih
theorem a6c{k:Nat}(hk0:27<=k){J4:List PV->Option b9}(D:Df K mg "_law_fold" W0)(M:Mo K mg)(u4:M7 P w K mg base)(j5:N9 P w K mg base)(O3:j9 P w K mg base "_law_fold" ["_law_cells","_law_at","_law_room","_law_deep"] k J4):j9 P w K mg base "_law_fold" ["_law_cells","_law_at","_law_room","_law_deep"] (k+1) (t8 7 (U7 J4)):=by
 refine n4 (k:=k) D a0f (fun _ _ _ _ _ _=>el4 (fun _ _ _ _=>rfl)) fun f cdv A outer s H E hr=> ?_
 have S:=a0f
 have hu:=hr.units
 refine c8 ?_ ?_
 ·exact(i5 (i:=4) S.nd (Y3 c6))
 refine c8 ?_ ?_
 ·exact(i5 (i:=5) S.nd (a5 2 (pv 2)))
 refine c8 ?_ ?_
 ·refine i5 (i:=6) ?_ ?_
  ·exact S.nd
  refine c7 i4 ?_ ?_
  ·exact b7
  refine c7 D7 ?_ ?_
  ·refine h9 u4 hr ?_ ?_ ?_ ?_
   ·lia
   ·exact rfl
   ·exact(b0 f6)
   refine a8 ?_ ?_
   ·exact(c7 i4 (m4 (a5 0 (pv 0)) (c7 D7 (a5 1 (pv 1)) (A9 r6 rfl M.z_len (by rfl) (a5 0 (pv 0))))) (a5 1 (pv 1)))
   exact c6
  exact b7
 refine c8 ?_ ?_
 ·refine a07 PassesOwn.never ?_ ?_ M.z_range ?_ ?_ (m9 7) ?_
  ·exact rfl
  ·exact rfl
  ·exact(a8 (a5 6 (pv 6)) c6)
  ·exact(m7 (i:=7) S.nd rfl (Or.inl rfl))
  refine d7 ?_
  refine F9 ?_ ?_ ?_
  ·exact(l7 a1V (a5 5 (pv 5)) b7 (by first|rfl|exact j7 _))
  ·refine c8 ?_ ?_
   ·exact(i5 (i:=1) S.nd (c7 i4 (a5 1 (pv 1)) b7))
   refine c8 ?_ ?_
   ·refine i5 (i:=8) ?_ ?_
    ·exact S.nd
    refine h9 u4 hr ?_ ?_ ?_ ?_
    ·lia
    ·exact rfl
    ·exact(b0 f6)
    refine a8 ?_ ?_
    ·refine c7 i4 ?_ ?_
     ·exact(m4 (a5 0 (pv 0)) (c7 D7 (a5 1 (pv 1)) (A9 r6 rfl M.z_len (by rfl) (a5 0 (pv 0)))))
     exact(c7 M2 b7 (a5 1 (pv 1)))
    exact c6
   refine d7 ?_
   refine F9 (PW.pt (a23 (l7 a1V (a5 3 (pv 3)) b7 (by first|rfl|exact j7 _)) (a23 (l7 a1V (a5 5 (pv 5)) b7 (by first|rfl|exact j7 _)) (a2C (l7 (J0 hu) (c7 D7 (a5 8 (pv 8)) b7) b7 (by first|rfl|exact j7 _)))))) ?_ ?_
   ·refine c8 ?_ ?_
    ·refine i5 (i:=9) ?_ ?_
     ·exact S.nd
     refine c7 i4 ?_ ?_
     ·exact b7
     refine c7 D7 ?_ ?_
     ·exact(c7 z8 (a5 8 (pv 8)) b7)
     exact(a7u (a4I rfl) rfl M.z_min (by rfl) b7 (c7 L6 (a5 5 (pv 5)) b7))
    refine c8 ?_ ?_
    ·refine b2R (is:=[10,1]) ?_ ?_ ?_
     ·exact rfl
     ·refine h9 O3 hr ?_ ?_ ?_ ?_
      ·lia
      ·exact rfl
      ·exact(b0 (b0 (b0 (b0 f6))))
      refine a8 ?_ ?_
      ·exact(a5 0 (pv 0))
      refine a8 ?_ ?_
      ·exact(c7 i4 (a5 1 (pv 1)) b7)
      exact(a8 (c7 z8 (a5 5 (pv 5)) (a5 9 (pv 9))) (a8 (c7 L6 (a5 3 (pv 3)) b7) c6))
     exact(a6g (m7 (i:=10) S.nd rfl (Or.inl rfl)) (a6g (m7 (i:=1) S.nd rfl (Or.inl rfl)) b1G))
    refine c8 ?_ ?_
    ·exact(J9 4 (pv 4) (V0 (a8 v8 (a8 (a5 9 (pv 9)) (a8 (a5 10 (pv 10)) c6)))))
    refine d7 ?_
    refine i5 (i:=5) ?_ ?_
    ·exact S.nd
    refine c7 L6 ?_ ?_
    ·exact(a5 5 (pv 5))
    refine c7 M2 ?_ ?_
    ·exact(a5 9 (pv 9))
    exact(A9 r6 rfl M.z_len (by rfl) (h9 j5 hr (by lia) rfl (b0 f6) (a8 (a5 10 (pv 10)) c6)))
   refine c8 ?_ ?_
   ·refine i5 (i:=9) ?_ ?_
    ·exact S.nd
    refine c7 i4 ?_ ?_
    ·exact b7
    refine c7 D7 ?_ ?_
    ·exact(c7 z8 (a5 8 (pv 8)) b7)
    refine a7u (a4I rfl) ?_ M.z_min ?_ ?_ ?_
    ·exact rfl
    ·rfl
    ·exact(a5 5 (pv 5))
    exact(c7 i4 b7 (c7 M2 b7 (c7 z8 (c7 D7 (c7 z8 (a5 8 (pv 8)) b7) b7) b7)))
   refine c8 ?_ ?_
   ·refine J9 4 (pv 4) ?_
    refine V0 ?_
    exact(a8 v8 (a8 (m4 v8 (c7 D7 (c7 z8 (a5 8 (pv 8)) b7) b7)) (a8 (a5 9 (pv 9)) c6)))
   exact(d7 (i5 (i:=5) S.nd (c7 L6 (a5 5 (pv 5)) (a5 9 (pv 9)))))
  exact C8
 exact(d7 (a0L 4 (o0 (V0 (a8 (a5 4 (pv 4)) (a8 (a5 1 (pv 1)) c6))))))
theorem a43(U5:Df K mg "_law_fold" W0)(M:Mo K mg)(u4:M7 P w K mg base)(j5:N9 P w K mg base):∀n:Nat,j9 P w K mg base "_law_fold" ["_law_cells","_law_at","_law_room","_law_deep"] (27+n) (y8 n):=by
 intro n
 induction n with
 |zero=>exact n4 (k:=26) U5 a0f (fun _ _ _ _ _ _=>el4 (fun _ _ _ _=>rfl)) fun f cdv A outer s H E hr=>S8
 |succ n ih=>
  skip
  exact a6c P w base (Nat.le_add_right _ _) U5 M u4 j5 ih
theorem a3v(D:Df K mg "_law_cell_at" R5)(M:Mo K mg):a0y P w K mg base:=by
 refine n4 (k:=0) D a0d (fun _ _ _ _ _ _=>el2 (fun _ _=>rfl)) fun f cdv A outer s H E hr=> ?_
 have S:=a0d
 have hu:=hr.units
 refine c8 ?_ ?_
 ·refine F9 ?_ ?_ ?_
  ·exact(l7 b1z (a5 1 (pv 1)) (A9 r6 rfl M.z_len (by rfl) (a5 0 (pv 0))) (by first|rfl|exact j7 _))
  ·exact(d7 (o0 (m4 (a5 0 (pv 0)) (a5 1 (pv 1)))))
  exact C8
 exact(d7 (o0 b7))
theorem a45(D:Df K mg "_law_drawn" a0b)(O3:a6z P w K mg base)(u4:M7 P w K mg base)(Q8:a0y P w K mg base):a15 P w K mg base:=by
 refine n4 (k:=32) D a1v (fun _ _ _ _ _ _=>el3 (fun _ _ _=>rfl)) fun f cdv A outer s H E hr=> ?_
 have S:=a1v
 have hu:=hr.units
 refine c8 ?_ ?_
 ·exact(i5 (i:=3) S.nd (c7 i4 (L9 (a5 0 (pv 0)) (L1 (a5 1 (pv 1))) a0j) (Y3 (a8 b7 c6))))
 refine c8 ?_ ?_
 ·refine i5 (i:=4) ?_ ?_
  ·exact S.nd
  refine m4 ?_ ?_
  ·exact(Y3 (a8 (a5 2 (pv 2)) (a8 (a5 2 (pv 2)) (a8 (c7 z8 (a5 2 (pv 2)) b7) (a8 b7 c6)))))
  refine c7 D7 ?_ ?_
  ·refine c7 z8 ?_ ?_
   ·refine h9 u4 hr ?_ ?_ ?_ ?_
    ·decide
    ·exact rfl
    ·exact(b0 f6)
    refine a8 ?_ ?_
    ·exact(h9 Q8 hr (by decide) rfl (b0 (b0 f6)) (a8 (a5 0 (pv 0)) (a8 (a5 1 (pv 1)) c6)))
    exact c6
   exact b7
  exact b7
 refine d7 ?_
 refine a0L 3 ?_
 refine o0 ?_
 refine m4 ?_ ?_
 ·refine h9 O3 hr ?_ ?_ ?_ ?_
  ·decide
  ·exact rfl
  ·exact(b0 (b0 (b0 (b0 f6))))
  exact(a8 (a5 3 (pv 3)) (a8 b7 (a8 (a5 4 (pv 4)) (a8 b7 c6))))
 exact b7
theorem a6a(D:Df K mg "is_alike" a0T)(M:Mo K mg):a2T P w K mg base:=by
 refine n4 (k:=0) D a2p (fun _ _ _ _ _ _=>el1 (fun _=>rfl)) fun f cdv A outer s H E hr=> ?_
 have S:=a2p
 have hu:=hr.units
 refine d7 ?_
 refine o0 ?_
 refine A9 (b2K rfl) ?_ M.z_all ?_ ?_
 ·exact rfl
 ·rfl
 refine a2B (ys:=["thing"]) (N0:=["things"]) (fun _ _ h=>h) ?_ ⟨by kernel_rfl,rfl,of_decide_eq_true rfl,of_decide_eq_true rfl,of_decide_eq_true rfl⟩ (EIF.ei (a7w (a5 0 (pv 0)))) (fun C fp pins s H=>m7 (i:=1) a3Z rfl (Or.inl rfl)) (fun n h=>W3 (i:=1) (Nat.le_of_eq h)) (fun C fp pins s H=>a4L) ?_
 ·exact rfl
 intro C fp pins s H
 exact(a4M (J0 hu) (a5 1 (pv 1)) (m4 (a5 0 (pv 0)) b7) (by first|rfl|exact j7 _))
theorem a44(D:Df K mg "is_repeat" a0a)(M:Mo K mg):a14 P w K mg base:=by
 refine n4 (k:=0) D a1u (fun _ _ _ _ _ _=>el2 (fun _ _=>rfl)) fun f cdv A outer s H E hr=> ?_
 have S:=a1u
 have hu:=hr.units
 refine d7 ?_
 refine o0 ?_
 refine a6H ?_ ?_
 ·refine a4M (J0 hu) ?_ ?_ ?_
  ·exact(c7 D7 (A9 r6 rfl M.z_len (by rfl) (a5 0 (pv 0))) (a5 1 (pv 1)))
  ·exact b7
  first|rfl|exact j7 _
 refine a9v ?_
 refine a4M (J0 hu) ?_ ?_ ?_
 ·exact(a5 0 (pv 0))
 ·refine c7 M2 ?_ ?_
  ·exact(L9 (a5 0 (pv 0)) a0j (L1 (a5 1 (pv 1))))
  exact(c7 z8 (A9 r6 rfl M.z_len (by rfl) (a5 0 (pv 0))) (a5 1 (pv 1)))
 first|rfl|exact j7 _
theorem a6Z(D:Df K mg "choices" a1Y)(M:Mo K mg)(a0J:a2T P w K mg base)(Y0:a14 P w K mg base):a33 P w K mg base:=by
 refine n4 (k:=1) D a3I (fun _ _ _ _ _ _=>el5 (fun _ _ _ _ _=>rfl)) fun f cdv A outer s H E hr=> ?_
 have S:=a3I
 have hu:=hr.units
 refine c8 ?_ ?_
 ·exact(i5 (i:=5) S.nd (L9 (a5 0 (pv 0)) (L1 (a5 3 (pv 3))) (L1 (a5 4 (pv 4)))))
 refine c8 ?_ ?_
 ·exact(i5 (i:=6) S.nd (Y3 c6))
 refine c8 ?_ ?_
 ·refine a0L 5 ?_
  refine F9 ?_ ?_ ?_
  ·exact(Q9 (h9 a0J hr (by decide) rfl (b0 f6) (a8 (a5 5 (pv 5)) c6)))
  ·refine d7 ?_
   refine J9 6 (pv 6) ?_
   refine V0 ?_
   refine a8 ?_ ?_
   ·exact(a5H 1 hu (pv 1) (m4 (a5 5 (pv 5)) b7))
   exact(a8 v8 (a8 (c7 L6 (a5 4 (pv 4)) (a5 3 (pv 3))) c6))
  exact C8
 refine c8 ?_ ?_
 ·refine S7 PassesOwn.never ?_ ?_ M.z_range ?_ ?_ (m9 7) ?_
  ·exact rfl
  ·exact rfl
  ·exact(a8 b7 (a8 (c7 i4 (c7 z8 (c7 L6 (a5 4 (pv 4)) (a5 3 (pv 3))) b7) b7) c6))
  ·exact(m7 (i:=7) S.nd rfl (Or.inl rfl))
  refine d7 ?_
  refine a0L 5 ?_
  refine F9 ?_ ?_ ?_
  ·exact(Q9 (h9 Y0 hr (by decide) rfl (b0 (b0 f6)) (a8 (a5 5 (pv 5)) (a8 (a5 7 (pv 7)) c6))))
  ·refine d7 ?_
   refine J9 6 (pv 6) ?_
   refine V0 ?_
   refine a8 ?_ ?_
   ·refine c7 i4 ?_ ?_
    ·exact b7
    exact(m4 (a03 2 hu (pv 2) (a8 (a5 3 (pv 3)) (a8 (c7 i4 (a5 3 (pv 3)) (a5 7 (pv 7))) c6))) b7)
   exact(a8 v8 (a8 (a5 7 (pv 7)) c6))
  exact C8
 refine c8 ?_ ?_
 ·refine S7 PassesOwn.never ?_ ?_ M.z_range ?_ ?_ (m9 8) ?_
  ·exact rfl
  ·exact rfl
  ·exact(a8 (c7 i4 (a5 3 (pv 3)) b7) (a8 (a5 4 (pv 4)) c6))
  ·exact(m7 (i:=8) S.nd rfl (Or.inl rfl))
  refine d7 ?_
  refine J9 6 (pv 6) ?_
  refine V0 ?_
  refine a8 ?_ ?_
  ·refine c7 i4 ?_ ?_
   ·exact(m4 (a03 2 hu (pv 2) (a8 (a5 3 (pv 3)) (a8 (a5 8 (pv 8)) c6))) b7)
   exact(m4 (a03 2 hu (pv 2) (a8 (a5 8 (pv 8)) (a8 (a5 4 (pv 4)) c6))) b7)
  exact(a8 v8 (a8 (a5 8 (pv 8)) c6))
 exact(d7 (a08 6 (pv 6)))
theorem a2w(D:Df K mg "best_choices" P4)(M:Mo K mg)(a1I:a33 P w K mg base):X5 P w K mg base:=by
 refine n4 (k:=2) D W8 (fun _ _ _ _ _ _=>el2 (fun _ _=>rfl)) fun f cdv A outer s H E hr=> ?_
 have S:=W8
 have hu:=hr.units
 refine c8 ?_ ?_
 ·exact(i5 (i:=2) S.nd b07)
 refine c8 ?_ ?_
 ·refine S7 PassesOwn.never ?_ ?_ M.z_range ?_ ?_ (m9 3) ?_
  ·exact rfl
  ·exact rfl
  ·exact(a8 b7 (a8 (c7 i4 (A9 r6 rfl M.z_len (by rfl) (a5 0 (pv 0))) b7) c6))
  ·exact(m7 (i:=3) S.nd rfl (Or.inl rfl))
  refine d7 ?_
  refine a07 PassesOwn.never ?_ ?_ M.z_range ?_ ?_ (m9 4) ?_
  ·exact rfl
  ·exact rfl
  ·exact(a8 (c7 i4 (c7 L6 (A9 r6 rfl M.z_len (by rfl) (a5 0 (pv 0))) (a5 3 (pv 3))) b7) c6)
  ·exact(m7 (i:=4) S.nd rfl (Or.inl rfl))
  refine c8 ?_ ?_
  ·exact(i5 (i:=5) S.nd (c7 i4 (a5 4 (pv 4)) (a5 3 (pv 3))))
  refine d7 ?_
  refine b1a 2 ?_ (pv 2) ?_ ?_
  ·exact hu
  ·exact(a8 (a5 4 (pv 4)) (a8 (a5 5 (pv 5)) c6))
  refine A9 (b01 hu rfl) ?_ M.z_min ?_ ?_
  ·exact rfl
  ·rfl
  refine a5G 2 ?_
  refine h9 a1I hr ?_ ?_ ?_ ?_
  ·decide
  ·exact rfl
  ·exact(b0 (b0 (b0 (b0 (b0 f6)))))
  exact(a8 (a5 0 (pv 0)) (a8 (a5 1 (pv 1)) (a8 (a5 2 (pv 2)) (a8 (a5 4 (pv 4)) (a8 (a5 5 (pv 5)) c6)))))
 exact(d7 (a08 2 (pv 2)))
theorem a8K(D:Df K mg "run_of" T8):X6 P w K mg base:=by
 refine n4 (k:=0) D a4w (fun _ _ _ _ _ _=>el2 (fun _ _=>rfl)) fun f cdv A outer s H E hr=> ?_
 have S:=a4w
 have hu:=hr.units
 exact(d7 (o0 (V0 (a8 v8 (a8 (a5 0 (pv 0)) (a8 (a5 1 (pv 1)) c6))))))
theorem a1U{k:Nat}(hk0:1<=k){u0:List PV->Option b9}(D:Df K mg "parts_between" D8){S9:AB}(E3:FnV K mg "run_of" S9)(O4:X6 P w K mg base)(n0:j9 P w K mg base "parts_between" ["things","best","part_of","start","end"] k u0):j9 P w K mg base "parts_between" ["things","best","part_of","start","end"] (k+1) (t8 3 (m3 u0)):=by
 refine n4 (k:=k) D K7 (fun _ _ _ _ _ _=>el5 (fun _ _ _ _ _=>rfl)) fun f cdv A outer s H E hr=> ?_
 have S:=K7
 have hu:=hr.units
 refine c8 ?_ ?_
 ·exact(i5 (i:=5) S.nd (a03 1 hu (pv 1) (a8 (a5 3 (pv 3)) (a8 (a5 4 (pv 4)) c6))))
 refine c8 ?_ ?_
 ·refine F9 ?_ ?_ ?_
  ·exact(l7 (J0 hu) (m4 (a5 5 (pv 5)) b7) v8 (by first|rfl|exact j7 _))
  ·refine d7 ?_
   refine o0 ?_
   refine Y3 ?_
   refine a8 ?_ ?_
   ·refine a9s 2 (a6J O4 E3 (by lia) rfl a8j) hr (pv 2) ?_ ?_
    ·exact(b0 (b0 f6))
    exact(a8 (m4 (a5 0 (pv 0)) (a5 3 (pv 3))) (a8 (c7 L6 (a5 4 (pv 4)) (a5 3 (pv 3))) c6))
   exact c6
  exact C8
 refine c8 ?_ ?_
 ·refine F9 ?_ ?_ ?_
  ·exact(l7 (J0 hu) (m4 (a5 5 (pv 5)) b7) v8 (by first|rfl|exact j7 _))
  ·refine c8 ?_ ?_
   ·refine i5 (i:=6) ?_ ?_
    ·exact S.nd
    refine h9 n0 hr ?_ ?_ ?_ ?_
    ·lia
    ·exact rfl
    ·exact(b0 (b0 (b0 (b0 (b0 f6)))))
    refine a8 ?_ ?_
    ·exact(a5 0 (pv 0))
    refine a8 ?_ ?_
    ·exact(a5 1 (pv 1))
    exact(a8 (a5 2 (pv 2)) (a8 (a5 3 (pv 3)) (a8 (c7 i4 (a5 3 (pv 3)) (m4 (a5 5 (pv 5)) b7)) c6)))
   refine d7 ?_
   refine a0L 6 ?_
   refine o0 ?_
   refine Y3 ?_
   refine a8 ?_ ?_
   ·refine V0 ?_
    refine a8 ?_ ?_
    ·exact v8
    exact(a8 (c7 z8 (c7 L6 (a5 4 (pv 4)) (a5 3 (pv 3))) (m4 (a5 5 (pv 5)) b7)) (a8 (a5 6 (pv 6)) c6))
   exact c6
  exact C8
 refine c8 ?_ ?_
 ·refine i5 (i:=7) ?_ ?_
  ·exact S.nd
  refine h9 n0 hr ?_ ?_ ?_ ?_
  ·lia
  ·exact rfl
  ·exact(b0 (b0 (b0 (b0 (b0 f6)))))
  refine a8 ?_ ?_
  ·exact(a5 0 (pv 0))
  exact(a8 (a5 1 (pv 1)) (a8 (a5 2 (pv 2)) (a8 (a5 3 (pv 3)) (a8 (m4 (a5 5 (pv 5)) b7) c6))))
 refine d7 ?_
 refine o0 ?_
 refine c7 i4 ?_ ?_
 ·exact(a5 7 (pv 7))
 refine h9 n0 hr ?_ ?_ ?_ ?_
 ·lia
 ·exact rfl
 ·exact(b0 (b0 (b0 (b0 (b0 f6)))))
 refine a8 ?_ ?_
 ·exact(a5 0 (pv 0))
 exact(a8 (a5 1 (pv 1)) (a8 (a5 2 (pv 2)) (a8 (m4 (a5 5 (pv 5)) b7) (a8 (a5 4 (pv 4)) c6))))
theorem a1m(D5:Df K mg "parts_between" D8){S9:AB}(E3:FnV K mg "run_of" S9)(O4:X6 P w K mg base):∀n:Nat,j9 P w K mg base "parts_between" ["things","best","part_of","start","end"] (1+n) (K1 n):=by
 intro n
 induction n with
 |zero=>exact n4 (k:=0) D5 K7 (fun _ _ _ _ _ _=>el5 (fun _ _ _ _ _=>rfl)) fun f cdv A outer s H E hr=>S8
 |succ n ih=>
  skip
  exact a1U P w base (Nat.le_add_right _ _) D5 E3 O4 ih
theorem a59(D:Df K mg "cheapest" a0S)(M:Mo K mg)(O2:X5 P w K mg base)(n0:a2r P w K mg base)(O4:X6 P w K mg base):a2S P w K mg base:=by
 refine n4 (k:=27) D a2o (fun _ _ _ _ _ _=>el3 (fun _ _ _=>rfl)) fun f cdv A outer s H E hr=> ?_
 have S:=a2o
 have hu:=hr.units
 refine c8 ?_ ?_
 ·refine i5 (i:=3) ?_ ?_
  ·exact S.nd
  exact(h9 O2 hr (by decide) rfl (b0 (b0 f6)) (a8 (a5 0 (pv 0)) (a8 (a5 1 (pv 1)) c6)))
 refine d7 ?_
 refine o0 ?_
 refine a5G 3 ?_
 refine h9 n0 hr ?_ ?_ ?_ ?_
 ·decide
 ·exact rfl
 ·exact(b0 (b0 (b0 (b0 (b0 f6)))))
 refine a8 ?_ ?_
 ·exact(a5 0 (pv 0))
 exact(a8 (a5 3 (pv 3)) (a8 (a5 2 (pv 2)) (a8 b7 (a8 (A9 r6 rfl M.z_len (by rfl) (a5 0 (pv 0))) c6))))
theorem a8J(D:Df K mg "folded" a3H)(M:Mo K mg){S9:AB}(E3:FnV K mg "run_of" S9)(a0I:a2S P w K mg base)(O4:X6 P w K mg base):a5t P w K mg base:=by
 refine n4 (k:=28) D a4v (fun _ _ _ _ _ _=>el1 (fun _=>rfl)) fun f cdv A outer s H E hr=> ?_
 have S:=a4v
 have hu:=hr.units
 refine c8 ?_ ?_
 ·refine i5 (i:=1) ?_ ?_
  ·exact S.nd
  refine b2h (a9j rfl hu) ?_ M.z_dict ?_ ?_
  ·exact rfl
  ·rfl
  refine a2B (ys:=["colour"]) (N0:=["line","prices"]) (fun _ _ h=>h) ?_ ⟨by kernel_rfl,rfl,of_decide_eq_true rfl,of_decide_eq_true rfl,of_decide_eq_true rfl⟩ (EIF.ei (a7w (a5 0 (pv 0)))) (fun C fp pins s H=>m7 (i:=2) a55 rfl (Or.inl rfl)) (fun n h=>W3 (i:=2) (Nat.le_of_eq h)) (fun C fp pins s H=>a4L) ?_
  ·exact rfl
  intro C fp pins s H
  exact(V0 (a8 (a5 2 (pv 2)) (a8 b7 c6)))
 refine d7 ?_
 refine o0 ?_
 refine a9u 1 ?_
 refine h9 a0I hr ?_ ?_ ?_ ?_
 ·decide
 ·exact rfl
 ·exact(b0 (b0 (b0 f6)))
 exact(a8 (a5 0 (pv 0)) (a8 (a5 1 (pv 1)) (a8 (b35 E3) c6)))
theorem a6b{k:Nat}(hk0:1<=k){J3:List PV->Option b9}(D:Df K mg "_law_cost" V9)(M:Mo K mg)(y9:j9 P w K mg base "_law_cost" ["_law_fold_here"] k J3):j9 P w K mg base "_law_cost" ["_law_fold_here"] (k+1) (t8 2 (U6 J3)):=by
 refine n4 (k:=k) D a0e (fun _ _ _ _ _ _=>el1 (fun _=>rfl)) fun f cdv A outer s H E hr=> ?_
 have S:=a0e
 have hu:=hr.units
 refine c8 ?_ ?_
 ·exact(i5 (i:=1) S.nd (A9 r6 rfl M.z_len (by rfl) (a5 0 (pv 0))))
 refine c8 ?_ ?_
 ·refine a4P PassesOwn.never ?_ ?_ ?_ (m9 2) ?_
  ·exact rfl
  ·exact(a5 0 (pv 0))
  ·exact(m7 (i:=2) S.nd rfl (Or.inl rfl))
  refine d7 ?_
  refine F9 ?_ ?_ ?_
  ·exact(l7 (J0 hu) (m4 (a5 2 (pv 2)) b7) v8 (by first|rfl|exact j7 _))
  ·refine d7 ?_
   refine i5 (i:=1) ?_ ?_
   ·exact S.nd
   exact(c7 i4 (a5 1 (pv 1)) (h9 y9 hr (by lia) rfl (b0 f6) (a8 (m4 (a5 2 (pv 2)) b7) c6)))
  exact C8
 exact(d7 (a08 1 (pv 1)))
theorem a42(U4:Df K mg "_law_cost" V9)(M:Mo K mg):∀n:Nat,j9 P w K mg base "_law_cost" ["_law_fold_here"] (1+n) (M1 n):=by
 intro n
 induction n with
 |zero=>exact n4 (k:=0) U4 a0e (fun _ _ _ _ _ _=>el1 (fun _=>rfl)) fun f cdv A outer s H E hr=>S8
 |succ n ih=>
  skip
  exact a6b P w base (Nat.le_add_right _ _) U4 M ih
theorem a3w(D:Df K mg "_law_emptied" R6)(M:Mo K mg):∀n:Nat,a1D P w K mg base "_law_emptied" ["_law_fold_here"] (1+n) f8 n:=by
 intro n
 induction n with
 |zero=>exact a9x (k:=0) D P6 (fun _ _ _ _ _ _=>el1 (fun _=>rfl))
 |succ n d=>
  refine a9w (k:=1+n) M.nl D P6 (fun _ _ _ _ _ _=>el1 (fun _=>rfl)) fun f cdv A outer s H E hr=> ?_
  have S:=P6
  have hu:=hr.units
  exact(b2Q M.nl d hr (by lia) rfl PassesOwn.never rfl (b2h (a9k rfl) rfl M.z_list (by rfl) (a5 0 (pv 0))) (m7 (i:=1) S.nd rfl (Or.inl rfl)) (l7 (J0 hu) (m4 (a5 1 (pv 1)) b7) v8 (by first|rfl|exact j7 _)) (b4T "again") (m4 (a5 1 (pv 1)) b7) (pv 0))
theorem a2x(D:Df K mg "_law_is_count" P5)(M:Mo K mg):N8 P w K mg base:=by
 refine n4 (k:=0) D W9 (fun _ _ _ _ _ _=>el2 (fun _ _=>rfl)) fun f cdv A outer s H E hr=> ?_
 have S:=W9
 have hu:=hr.units
 refine d7 ?_
 refine o0 ?_
 refine a6H ?_ ?_
 ·exact(a20 (.inl rfl) rfl M.z_isinstance (a5 0 (pv 0)) (a1o rfl M.z_int (by rfl) rfl))
 refine a6H ?_ ?_
 ·exact(b2N (a20 (.inr (.inl rfl)) rfl M.z_isinstance (a5 0 (pv 0)) (a1o rfl M.z_bool (by rfl) rfl)))
 exact(a9v (a4M b3q (a5 0 (pv 0)) (a5 1 (pv 1)) (by first|rfl|exact j7 _)))
theorem a3x{k:Nat}(hk0:1<=k){A1:List PV->Option b9}(D:Df K mg "_law_is_fold" L8)(M:Mo K mg)(v7:N8 P w K mg base)(A3:j9 P w K mg base "_law_is_fold" ["_law_fold_here"] k A1):j9 P w K mg base "_law_is_fold" ["_law_fold_here"] (k+1) (t8 1 (K9 A1)):=by
 refine n4 (k:=k) D P7 (fun _ _ _ _ _ _=>el1 (fun _=>rfl)) fun f cdv A outer s H E hr=> ?_
 have S:=P7
 have hu:=hr.units
 refine c8 ?_ ?_
 ·refine F9 (PW.pt (a0A (Y4 (Q9 (a20 (.inr (.inr (.inr (.inl rfl)))) rfl M.z_isinstance (a5 0 (pv 0)) (a1o rfl M.z_list (by rfl) rfl)))) (a0M (l7 (J0 hu) (a5 0 (pv 0)) (Y3 c6) (by first|rfl|exact j7 _))))) ?_ ?_
  ·exact(d7 (o0 W5))
  exact C8
 refine c8 ?_ ?_
 ·refine a4P PassesOwn.never ?_ ?_ ?_ (m9 1) ?_
  ·exact rfl
  ·exact(a5 0 (pv 0))
  ·exact(m7 (i:=1) S.nd rfl (Or.inl rfl))
  refine c8 ?_ ?_
  ·refine F9 (PW.pt (a0A (Y4 (Q9 (a20 (.inr (.inr (.inr (.inr (.inl rfl))))) rfl M.z_isinstance (a5 1 (pv 1)) (a1o rfl M.z_tuple (by rfl) rfl)))) (a0M (l7 (Z5 hu) (A9 r6 rfl M.z_len (by rfl) (a5 1 (pv 1))) b7 (by first|rfl|exact j7 _))))) ?_ ?_
   ·exact(d7 (o0 W5))
   exact C8
  refine d7 ?_
  refine F9 ?_ ?_ ?_
  ·exact(l7 (J0 hu) (m4 (a5 1 (pv 1)) b7) v8 (by first|rfl|exact j7 _))
  ·refine d7 ?_
   refine F9 (PW.pt (a0A (Y4 (Q9 (a20 (.inr (.inr (.inl rfl))) rfl M.z_isinstance (m4 (a5 1 (pv 1)) b7) (a1o rfl M.z_str (by rfl) rfl)))) (a0A (l7 (Z5 hu) (A9 r6 rfl M.z_len (by rfl) (m4 (a5 1 (pv 1)) b7)) b7 (by first|rfl|exact j7 _)) (a0M (Y4 (Q9 (h9 v7 hr (by lia) rfl (b0 (b0 f6)) (a8 (m4 (a5 1 (pv 1)) b7) (a8 b7 c6))))))))) ?_ ?_
   ·exact(d7 (o0 W5))
   exact C8
  refine d7 ?_
  refine F9 (PW.pt (a0A (l7 (Z5 hu) (m4 (a5 1 (pv 1)) b7) v8 (by first|rfl|exact j7 _)) (a0A (Y4 (Q9 (h9 v7 hr (by lia) rfl (b0 (b0 f6)) (a8 (m4 (a5 1 (pv 1)) b7) (a8 b7 c6))))) (a0M (Y4 (Q9 (h9 A3 hr (by lia) rfl (b0 f6) (a8 (m4 (a5 1 (pv 1)) b7) c6)))))))) ?_ ?_
  ·exact(d7 (o0 W5))
  exact C8
 exact(d7 (o0 W5))
theorem a2v(K8:Df K mg "_law_is_fold" L8)(M:Mo K mg)(v7:N8 P w K mg base):∀n:Nat,j9 P w K mg base "_law_is_fold" ["_law_fold_here"] (1+n) (B9 n):=by
 intro n
 induction n with
 |zero=>exact n4 (k:=0) K8 P7 (fun _ _ _ _ _ _=>el1 (fun _=>rfl)) fun f cdv A outer s H E hr=>S8
 |succ n ih=>
  skip
  exact a3x P w base (Nat.le_add_right _ _) K8 M v7 ih
theorem b1u{k:Nat}(hk0:1<=k){a1F:List PV->Option b9}(D:Df K mg "cost" a5g)(a2Z:j9 P w K mg base "cost" ["fold"] k a1F):j9 P w K mg base "cost" ["fold"] (k+1) (t8 2 (a4E a1F)):=by
 refine n4 (k:=k) D a5h (fun _ _ _ _ _ _=>el1 (fun _=>rfl)) fun f cdv A outer s H E hr=> ?_
 have S:=a5h
 have hu:=hr.units
 refine c8 ?_ ?_
 ·exact(i5 (i:=1) S.nd b7)
 refine c8 ?_ ?_
 ·refine a4P PassesOwn.never ?_ ?_ ?_ (m9 2) ?_
  ·exact rfl
  ·exact(a5 0 (pv 0))
  ·exact(m7 (i:=2) S.nd rfl (Or.inl rfl))
  refine c8 ?_ ?_
  ·exact(a9y (i:=1) S.nd b7 a6d)
  refine d7 ?_
  refine F9 ?_ ?_ ?_
  ·exact(l7 (J0 hu) (m4 (a5 2 (pv 2)) b7) v8 (by first|rfl|exact j7 _))
  ·exact(d7 (a9y (i:=1) S.nd (h9 a2Z hr (by lia) rfl (b0 f6) (a8 (m4 (a5 2 (pv 2)) b7) c6)) a6d))
  exact C8
 exact(d7 (a08 1 (pv 1)))
theorem b0d(a4B:Df K mg "cost" a5g):∀n:Nat,j9 P w K mg base "cost" ["fold"] (1+n) (a1b n):=by
 intro n
 induction n with
 |zero=>exact n4 (k:=0) a4B a5h (fun _ _ _ _ _ _=>el1 (fun _=>rfl)) fun f cdv A outer s H E hr=>S8
 |succ n ih=>
  skip
  exact b1u P w base (Nat.le_add_right _ _) a4B ih
theorem a1n(D:Df K mg "_law_least_part" K6)(M:Mo K mg):S1 P w K mg base:=by
 refine n4 (k:=0) D Q5 (fun _ _ _ _ _ _=>el2 (fun _ _=>rfl)) fun f cdv A outer s H E hr=> ?_
 have S:=Q5
 have hu:=hr.units
 refine c8 ?_ ?_
 ·refine F9 ?_ ?_ ?_
  ·refine l7 (J0 hu) ?_ ?_ ?_
   ·exact(a5 0 (pv 0))
   ·exact(c7 M2 (m4 (a5 0 (pv 0)) b7) (A9 r6 rfl M.z_len (by rfl) (a5 0 (pv 0))))
   first|rfl|exact j7 _
  ·exact(d7 (o0 b7))
  exact C8
 refine c8 ?_ ?_
 ·exact(i5 (i:=2) S.nd (A9 r6 rfl M.z_len (by rfl) (a5 0 (pv 0))))
 refine c8 ?_ ?_
 ·refine S7 PassesOwn.never ?_ ?_ M.z_range ?_ ?_ (m9 3) ?_
  ·exact rfl
  ·exact rfl
  ·exact(a8 b7 (a8 (A9 r6 rfl M.z_len (by rfl) (a5 0 (pv 0))) c6))
  ·exact(m7 (i:=3) S.nd rfl (Or.inl rfl))
  refine c8 ?_ ?_
  ·exact(i5 (i:=4) S.nd (c7 z8 (A9 r6 rfl M.z_len (by rfl) (a5 0 (pv 0))) (a5 3 (pv 3))))
  refine d7 ?_
  refine F9 ?_ ?_ ?_
  ·refine l7 (J0 hu) ?_ ?_ ?_
   ·exact(a5 0 (pv 0))
   ·exact(c7 M2 (L9 (a5 0 (pv 0)) a0j (L1 (a5 3 (pv 3)))) (a5 4 (pv 4)))
   first|rfl|exact j7 _
  ·refine d7 ?_
   refine i5 (i:=2) ?_ ?_
   ·exact S.nd
   refine a7u (a4I rfl) ?_ M.z_min ?_ ?_ ?_
   ·exact rfl
   ·rfl
   ·exact(a5 2 (pv 2))
   exact(c7 i4 b7 (a5H 1 hu (pv 1) (L9 (a5 0 (pv 0)) a0j (L1 (a5 3 (pv 3))))))
  exact C8
 exact(d7 (a08 2 (pv 2)))
theorem a46(D:Df K mg "_law_least" a0c)(M:Mo K mg)(J8:S1 P w K mg base):a16 P w K mg base:=by
 refine n4 (k:=1) D a1w (fun _ _ _ _ _ _=>el1 (fun _=>rfl)) fun f cdv A outer s H E hr=> ?_
 have S:=a1w
 have hu:=hr.units
 refine c8 ?_ ?_
 ·exact(i5 (i:=1) S.nd b2O)
 refine c8 ?_ ?_
 ·refine S7 PassesOwn.never ?_ ?_ M.z_range ?_ ?_ (m9 2) ?_
  ·exact rfl
  ·exact rfl
  ·exact(a8 b7 (a8 (c7 i4 (A9 r6 rfl M.z_len (by rfl) (a5 0 (pv 0))) b7) c6))
  ·exact(m7 (i:=2) S.nd rfl (Or.inl rfl))
  refine d7 ?_
  refine a07 PassesOwn.never ?_ ?_ M.z_range ?_ ?_ (m9 3) ?_
  ·exact rfl
  ·exact rfl
  ·exact(a8 (c7 i4 (c7 L6 (A9 r6 rfl M.z_len (by rfl) (a5 0 (pv 0))) (a5 2 (pv 2))) b7) c6)
  ·exact(m7 (i:=3) S.nd rfl (Or.inl rfl))
  refine c8 ?_ ?_
  ·exact(i5 (i:=4) S.nd (L9 (a5 0 (pv 0)) (L1 (a5 3 (pv 3))) (L1 (c7 i4 (a5 3 (pv 3)) (a5 2 (pv 2))))))
  refine d7 ?_
  refine F9 ?_ ?_ ?_
  ·exact(a8h 1 hu (pv 1) (a5 4 (pv 4)) (by first|rfl|exact j7 _))
  ·refine c8 ?_ ?_
   ·exact(a0L 4 (i5 (i:=5) S.nd (a9t 1 J8 hr (by decide) rfl (a5 4 (pv 4)) (pv 1))))
   refine c8 ?_ ?_
   ·refine S7 PassesOwn.never ?_ ?_ M.z_range ?_ ?_ (m9 6) ?_
    ·exact rfl
    ·exact rfl
    ·exact(a8 b7 (a8 (a5 2 (pv 2)) c6))
    ·exact(m7 (i:=6) S.nd rfl (Or.inl rfl))
    refine d7 ?_
    refine i5 (i:=5) ?_ ?_
    ·exact S.nd
    refine a7u (a4I rfl) ?_ M.z_min ?_ ?_ ?_
    ·exact rfl
    ·rfl
    ·exact(a5 5 (pv 5))
    refine c7 i4 ?_ ?_
    ·exact(a4O 1 hu (pv 1) (L9 (a5 4 (pv 4)) a0j (L1 (a5 6 (pv 6)))))
    exact(a4O 1 hu (pv 1) (L9 (a5 4 (pv 4)) (L1 (a5 6 (pv 6))) a0j))
   exact(d7 (b1c 1 hu (pv 1) (a5 4 (pv 4)) (a5 5 (pv 5))))
  exact C8
 exact(d7 (o0 (a4O 1 hu (pv 1) (a5 0 (pv 0)))))
theorem b3i{f:AB}{fd:FuncData}(F:Fun K "law" "law" b0x f fd)(M:Mo K mg)(Y1:a15 P w K mg base)(j5:N9 P w K mg base)(S2:a5t P w K mg base)(y9:a6y P w K mg base)(d_law_emptied:a3U P w K mg base)(A3:a3V P w K mg base)(a2Z:b2x P w K mg base)(Y2:a16 P w K mg base):N6 P w K mg base CX0 34 f fd ["_law_script"] (spP K 1 a9J):=by
 refine b2l (k:=33) F b0y fun cdv A outer s H E hr=> ?_
 have S:=b0y
 have hu:=hr.units
 refine c8 ?_ ?_
 ·exact(i5 (i:=1) S.nd v8)
 refine c8 ?_ ?_
 ·exact(i5 (i:=2) S.nd b7)
 refine c8 ?_ ?_
 ·refine a07 PassesOwn.never ?_ ?_ M.z_range ?_ ?_ (m9 3) ?_
  ·exact rfl
  ·exact rfl
  ·exact(a8 b7 c6)
  ·exact(m7 (i:=3) S.nd rfl (Or.inl rfl))
  refine c8 ?_ ?_
  ·refine i5 (i:=4) ?_ ?_
   ·exact S.nd
   refine h9 Y1 hr ?_ ?_ ?_ ?_
   ·decide
   ·exact rfl
   ·exact(b0 (b0 (b0 f6)))
   exact(a8 (a5 0 (pv 0)) (a8 (c7 M2 b7 (a5 3 (pv 3))) (a8 b7 c6)))
  refine c8 ?_ (b1d 4 (b1b (x:=6) (A:=[5]) (C:=[0,1,2,3,4,5,8]) (B:=[7]) (I:=[7]) S.nd rfl rfl rfl (h9 S2 hr (by decide) rfl (b0 f6) (a8 (a5 5 (pv 5)) c6)) (N5 (fun Φ hS=>(a22 hS (PW.pt (a0A (Y4 (Q9 (h9 A3 hr (by decide) rfl (b0 f6) (a8 (a5 6 (pv 6)) c6)))) (a0M (l7 (Z5 hu) (h9 j5 hr (by decide) rfl (b0 f6) (a8 (a5 6 (pv 6)) c6)) (a5 5 (pv 5)) (by first|rfl|exact j7 _))))) (a05 (a06 W5)) a04)) (N5 (fun Φ hS=>(b09 hS (i:=7) (by decide) S.nd (h9 y9 hr (by decide) rfl (b0 f6) (a8 (a5 6 (pv 6)) c6)))) (N5 (fun Φ hS=>(a22 hS (PW.pt (a0A (l7 a1V (a5 7 (pv 7)) (h9 y9 hr (by decide) rfl (b0 f6) (a8 (a5 4 (pv 4)) c6)) (by first|rfl|exact j7 _)) (a0M (l7 (Z5 hu) (h9 a2Z hr (by decide) rfl (b0 f6) (a8 (a5 6 (pv 6)) c6)) (a5 7 (pv 7)) (by first|rfl|exact j7 _))))) (a05 (a06 W5)) a04)) (N5 (fun Φ hS=>(a22 hS (PW.pt (a23 (l7 a47 (A9 r6 rfl M.z_len (by rfl) (a5 5 (pv 5))) b7 (by first|rfl|exact j7 _)) (a2C (l7 (Z5 hu) (a5 7 (pv 7)) (h9 Y2 hr (by decide) rfl (b0 f6) (a8 (a5 5 (pv 5)) c6)) (by first|rfl|exact j7 _))))) (a05 (a06 W5)) a04)) (N5 (fun Φ hS=>(a22 hS (PW.pt (a23 (l7 a47 (A9 r6 rfl M.z_len (by rfl) (a5 5 (pv 5))) b7 (by first|rfl|exact j7 _)) (a2C (l7 a1V (h9 y9 hr (by decide) rfl (b0 f6) (a8 (h9 S2 hr (by decide) rfl (b0 f6) (a8 (c7 i4 (a5 5 (pv 5)) (a5 5 (pv 5))) c6)) c6)) (c7 i4 (a5 7 (pv 7)) b7) (by first|rfl|exact j7 _))))) (a05 (a06 W5)) a04)) (N5 (fun Φ hS=>(a22 hS (PW.pt (a23 (l7 a47 (c7 i4 (A9 r6 rfl M.z_len (by rfl) (a5 1 (pv 1))) (A9 r6 rfl M.z_len (by rfl) (a5 5 (pv 5)))) b7 (by first|rfl|exact j7 _)) (a2C (l7 a1V (h9 y9 hr (by decide) rfl (b0 f6) (a8 (h9 S2 hr (by decide) rfl (b0 f6) (a8 (c7 i4 (a5 1 (pv 1)) (a5 5 (pv 5))) c6)) c6)) (c7 i4 (a5 2 (pv 2)) (a5 7 (pv 7))) (by first|rfl|exact j7 _))))) (a05 (a06 W5)) a04)) (b0q (b0F d_law_emptied hr (by decide) rfl (pv 6) (c8 (i5 (i:=8) S.nd (h9 S2 hr (by decide) rfl (b0 f6) (a8 (a5 5 (pv 5)) c6))) (c8 (a0L 8 (F9 (PW.pt (a0A (Y4 (Q9 (h9 A3 hr (by decide) rfl (b0 f6) (a8 (a5 8 (pv 8)) c6)))) (a0A (l7 (Z5 hu) (h9 j5 hr (by decide) rfl (b0 f6) (a8 (a5 8 (pv 8)) c6)) (a5 5 (pv 5)) (by first|rfl|exact j7 _)) (a0M (l7 (Z5 hu) (h9 y9 hr (by decide) rfl (b0 f6) (a8 (a5 8 (pv 8)) c6)) (a5 7 (pv 7)) (by first|rfl|exact j7 _)))))) (d7 (o0 W5)) C8)) (c8 (i5 (i:=1) S.nd (a5 5 (pv 5))) (d7 (i5 (i:=2) S.nd (a5 7 (pv 7)))))))))))))))))
  exact(i5 (i:=5) S.nd (h9 j5 hr (by decide) rfl (b0 f6) (a8 (a5 4 (pv 4)) c6)))
 exact(d7 (o0 W5))
end
theorem b2C{l:PySem.W.OpenLaw}{w:AG}{K:AD}{h:Heap}{mg:Str->Option AA}{fa:AB}(X:K.In h)(G:h.Ns mainGlobals mg)(hfa:mg "law"=some (.ref fa))
 {Y5:AB} {a8H a75:Option AB} {a8Y:Array (Option AA)} {a8G a8r a8g a8P a39 a8c:AA}
 (u4:Df0 K "_law_number" W1)
 (j5:Df0 K "_law_unfolded" J1)
 (O3:Df0 K "_law_fold" W0)
 (Q8:Df0 K "_law_cell_at" R5)
 (Y1:Df0 K "_law_drawn" a0b)
 (a0J:Df0 K "is_alike" a0T)
 (Y0:Df0 K "is_repeat" a0a)
 (a1I:Df0 K "choices" a1Y)
 (O2:Df0 K "best_choices" P4)
 (a5v:PySem.W.nsIn K mainGlobals "run_of"=some (some (.ref Y5))) (a5V:K.lookup Y5=some ⟨a8G,a8H,.func (PySem.W.fnOf "run_of" "run_of" (L0 T8) (A8 T8) (c9 T8) .none a8r a8g a8P a75 a39 a8c),a8Y⟩) (a9g:PySem.W.codeIn K a39 "run_of"=true) (a9R:PySem.W.keepIn K (.ref Y5)=true) (a8m:b0f K "run_of" Y5=true)
 (n0:Df0 K "parts_between" D8)
 (a0I:Df0 K "cheapest" a0S)
 (S2:Df0 K "folded" a3H)
 (y9:Df0 K "_law_cost" V9)
 (d_law_emptied:Df0 K "_law_emptied" R6)
 (v7:Df0 K "_law_is_count" P5)
 (A3:Df0 K "_law_is_fold" L8)
 (a2Z:Df0 K "cost" a5g)
 (J8:Df0 K "_law_least_part" K6)
 (Y2:Df0 K "_law_least" a0c)
 (b33:Df0 K "law" b0x)
 (nl:a8F K=true)
 (z_all:PySem.W.nsIn K mainGlobals "all"=some none)
 (z_bool:PySem.W.nsIn K mainGlobals "bool"=some none)
 (z_dict:PySem.W.nsIn K mainGlobals "dict"=some none)
 (z_int:PySem.W.nsIn K mainGlobals "int"=some none)
 (z_isinstance:PySem.W.nsIn K mainGlobals "isinstance"=some none)
 (z_len:PySem.W.nsIn K mainGlobals "len"=some none)
 (z_list:PySem.W.nsIn K mainGlobals "list"=some none)
 (z_min:PySem.W.nsIn K mainGlobals "min"=some none)
 (z_range:PySem.W.nsIn K mainGlobals "range"=some none)
 (z_str:PySem.W.nsIn K mainGlobals "str"=some none)
 (z_tuple:PySem.W.nsIn K mainGlobals "tuple"=some none)
 :∃fd:FuncData,(∀(s:AC) (v:AA),BindsTo s fd ⟨[v],[]⟩ [("_law_script",v)])/\∀base:Heap,K.In base->base.Ns mainGlobals mg->N6 l.prog w K mg base CX0 34 fa fd ["_law_script"] (a6m K):=by
 have E3:FnV K mg "run_of" Y5:=b2U (PySem.W.mg_of X G a5v) a5V rfl a8m
 have O4:Df0 K "run_of" T8:=b2e a5v a5V a9g a9R
 have M:Mo K mg:=⟨PySem.W.mg_none_of X G z_all,PySem.W.mg_none_of X G z_bool,PySem.W.mg_none_of X G z_dict,PySem.W.mg_none_of X G z_int,PySem.W.mg_none_of X G z_isinstance,PySem.W.mg_none_of X G z_len,PySem.W.mg_none_of X G z_list,PySem.W.mg_none_of X G z_min,PySem.W.mg_none_of X G z_range,PySem.W.mg_none_of X G z_str,PySem.W.mg_none_of X G z_tuple,nl⟩
 refine b1o (b33.to X G) hfa (fun _ _ _ _ _ _ _=>rfl) main fun base f fd kb F=> ?_
 have a0W:=a30 l.prog w base (u4.to X G)
 obtain B4:=a1T l.prog w base (j5.to X G) M 26
 obtain U5:=a43 l.prog w base (O3.to X G) M a0W B4 5
 have a3S:=a3v l.prog w base (Q8.to X G) M
 have a5p:=a45 l.prog w base (Y1.to X G) U5 a0W a3S
 have a6u:=a6a l.prog w base (a0J.to X G) M
 have a5o:=a44 l.prog w base (Y0.to X G) M
 have a70:=a6Z l.prog w base (a1I.to X G) M a6u a5o
 have a2P:=a2w l.prog w base (O2.to X G) M a70
 have a2R:=a8K l.prog w base (O4.to X G)
 obtain D5:=a1m l.prog w base (n0.to X G) E3 a2R 26
 have a6t:=a59 l.prog w base (a0I.to X G) M a2P D5 a2R
 have a81:=a8J l.prog w base (S2.to X G) M E3 a6t a2R
 obtain U4:=a42 l.prog w base (y9.to X G) M 26
 have D_law_emptied:=a3w l.prog w base (d_law_emptied.to X G) M 26
 have a2Q:=a2x l.prog w base (v7.to X G) M
 obtain K8:=a2v l.prog w base (A3.to X G) M a2Q 26
 obtain a4B:=b0d l.prog w base (a2Z.to X G) 26
 have a1C:=a1n l.prog w base (J8.to X G) M
 have a5q:=a46 l.prog w base (Y2.to X G) M a1C
 exact b3i l.prog w base F M a5p B4 a81 U4 D_law_emptied K8 a4B a5q
end LW
namespace PySem.W.Fast
def tw986540626204912835:=()
def tw9493070166332653549:=()
def tw3739500559152169334:=()
def tw17331463437165850174:=()
def tw14155748937222546837:=()
def tw4478587377153377754:=()
def tw548748309989081715:=()
def tw866783982065023283:=()
def tw15899163267643314968:=()
def tw18255744051837293774:=()
def tw4706422065050644321:=()
def tw7056991937778878213:=()
end PySem.W.Fast
open PySem PySem.W PyProof.Rows
set_option maxRecDepth 100000 in
set_option maxHeartbeats 0 in
theorem PySem.Challenge.cw_carpetkin_k33_whole_least_folds_holds : PySem.Challenge.rw_carpetkin_k33_whole_least_folds.Holds := by
 w_on;o_law;k_head;(case hw=>w_witness2)
 k_fill
 refine PU.b5h (k:=34) (x:="_law_script") (l:=PySem.Challenge.rw_carpetkin_k33_whole_least_folds) (by decide) rfl rfl (fun w h Y=>PySem.W.kIn_of Y) ?F
 case F=>
  intro w mg fa h KX G hmg
  refine' LW.b2C KX G hmg ?_ ?_ ?_ ?_ ?_ ?_ ?_ ?_ ?_ ?_ ?_ ?_ ?_ ?_ ?_ ?_ ?_ ?_ ?_ ?_ ?_ ?_ ?_ ?_ ?_ ?_ ?_ ?_ ?_ ?_ ?_ ?_ ?_ ?_ ?_ ?_ ?_
  all_goals first|(apply PU.b2e<;>k_is)|k_is|kernel_rfl|skip
