import PyProof.Rows.All
import Wide.All
import OpenK.AllK
import Wide.FinOn
import Lean
import PyProof.EqAt
import PyProof.EqKinds
import PyProof.TupleCall
import PyProof.Rows.SortPure
import PyProof.Rows.SortWalk
import PyProof.AttrMissHeap
import KE.KDictOf
import KE.KIntText
import PyProof.StrBlockH
import PyProof.CallStr
import PyProof.StrLawsIn
import PyProof.StrLawsOcc
import PyProof.StationsW
import PyProof.ExcClass2
import PyProof.ExcBaseAll.ValueError
import PyProof.RulesTry
import PyProof.Rows.CatchBare
import PyProof.Rows.CatchOwn
import OpenK.KOwn
import PyProof.NsDelKeeps
import PyProof.Rows.RuleDivmod
import PyProof.Rows.SumAny
import PySem.Challenge.RW_carpetkin_k44_rows_of_movements
set_option Elab.async false
set_option linter.all false
set_option maxRecDepth 100000
noncomputable section
open PySem renaming Value -> AA
open PySem renaming Addr -> AB
open PySem renaming Shared -> AC
open PySem.W renaming Frag -> AD
open PySem renaming Expr -> AE
open PySem renaming World -> AF
open PySem renaming Program -> AG
open PySem renaming wpAny -> AH
open PySem renaming Around -> AI
open PySem.Str renaming ofString -> AJ
open PySem renaming wpAny_bind -> AK
open PySem renaming sizeLine -> AL
open List renaming map_cons -> AM
open PySem renaming starEach -> AN
open Nat renaming le_refl -> AO
open Option renaming bind_some -> AQ
open List renaming length_map -> AR
open PySem renaming wpAny_pure -> AS
open List renaming replicate -> AT
open List renaming length_cons -> AU
open PySem.Heap renaming lt_size -> AV
open List renaming set_cons_zero -> AW
open List renaming set_cons_succ -> AX
open List renaming size_toArray -> AY
open List renaming append_nil -> AZ
open List renaming length_append -> Aa
open PySem.Heap renaming get?_push_of_some -> Ab
open List renaming mem_cons_of_mem -> Ac
open List renaming getElem?_eq_some_iff -> Ad
open List renaming map_nil -> Ae
open List renaming replicate_succ -> Af
open List renaming mem_map -> Ag
open List renaming mem_cons_self -> Ah
open List renaming mem_cons -> Ai
open List renaming length_nil -> Aj
open List renaming replicate_zero -> Ak
open Nat renaming ne_of_lt -> Al
open List renaming mem_append -> Am
open Bool renaming false_eq_true -> An
open List renaming getElem?_map -> Ao
open List renaming nil_append -> Ap
open List renaming mem_of_getElem? -> Aq
open List renaming map_append -> Ar
open Nat renaming reduceLeDiff -> As
open PySem.Heap renaming get?_push_size -> At
open List renaming getElem?_eq_getElem -> Au
open Bool renaming false_ne_true -> Av
open List renaming getElem?_append_left -> Aw
open List renaming mem_append_right -> Ax
open Nat renaming lt_of_lt_of_le -> Ay
open List renaming range -> Az
open List renaming cons_append -> BA
open List renaming mem_append_left -> BB
open List renaming map_map -> BC
open Option renaming map_some -> BD
open List renaming getElem?_set_self -> BE
open Nat renaming le_of_lt -> BF
open Int renaming toNat_natCast -> BG
open List renaming length_range -> BH
namespace L2
open PySem PySem.Spec PyProof.Rows
abbrev c9:=Sum Int Str
def a1Z:c9->AA->Bool
 | .inl k,v=>Value.isInt k v
 | .inr x,v=>Value.isStrOf x v
def a6Y(w:AF):c9->Int
 | .inl k=>hashInt k
 | .inr x=>hashStr w x
theorem o6:∀{k:c9} {v:AA},a1Z k v=true->(∃i t,k=Sum.inl i/\v=Value.int i t)\/(∃x t,k=Sum.inr x/\v=Value.str x t)
 | .inl i,v,h=>by
   obtain⟨t,e⟩:=Value.isInt_shape (k:=i) (v:=v) h
   exact .inl ⟨i,t,rfl,e⟩
 | .inr x,v,h=>by
   obtain⟨t,e⟩:=Value.isStrOf_shape (x:=x) (v:=v) h
   exact .inr ⟨x,t,rfl,e⟩
theorem a6Z(i:Int)(t:Tok):a1Z (.inl i) (.int i t)=true:=by simp [a1Z,Value.isInt]
theorem a60(x:Str)(t:Tok):a1Z (.inr x) (.str x t)=true:=by simp [a1Z,Value.isStrOf]
theorem a8o(a b:Int):decide ((Sum.inl a:c9)=Sum.inl b)=(a==b):=by
 by_cases e:a=b
 ·subst e;simp
 ·have h:¬(Sum.inl a:c9)=Sum.inl b:=fun q=>e (Sum.inl.inj q)
  rw [decide_eq_false h]
  exact(beq_eq_false_iff_ne.mpr e).symm
theorem a8p(a b:Str):decide ((Sum.inr a:c9)=Sum.inr b)=decide (a=b):=by
 by_cases e:a=b
 ·subst e;simp
 ·have h:¬(Sum.inr a:c9)=Sum.inr b:=fun q=>e (Sum.inr.inj q)
  rw [decide_eq_false h,decide_eq_false e]
theorem b1Q(a:Int)(b:Str):decide ((Sum.inl a:c9)=Sum.inr b)=false:=decide_eq_false (fun q=>nomatch q)
theorem b1R(a:Str)(b:Int):decide ((Sum.inr a:c9)=Sum.inl b)=false:=decide_eq_false (fun q=>nomatch q)
def g9(prog:AG)(w:AF):PySem.KeyKind prog w c9 where
 is:=a1Z
 hash:=a6Y w
 inj:=fun v a b ha hb=>by
  rcases o6 ha with⟨i,t,rfl,rfl⟩|⟨x,t,rfl,rfl⟩
  ·rcases o6 hb with⟨j,u,rfl,e⟩|⟨y,u,rfl,e⟩
   ·injection e with e1 _;rw [e1]
   ·exact nomatch e
  ·rcases o6 hb with⟨j,u,rfl,e⟩|⟨y,u,rfl,e⟩
   ·exact nomatch e
   ·injection e with e1 _;rw [e1]
 byValue:=fun k v h=>by
   rcases o6 h with⟨i,t,rfl,rfl⟩|⟨x,t,rfl,rfl⟩<;>rfl
 pyHash:=fun hv h=>by
  rcases o6 hv with⟨i,t,rfl,rfl⟩|⟨x,t,rfl,rfl⟩
  ·exact wpAny_pyHash_int h
  ·exact wpAny_pyHash_str h
 eqBool:=fun hu hv h=>by
  rcases o6 hu with⟨i,t,rfl,rfl⟩|⟨x,t,rfl,rfl⟩
  ·rcases o6 hv with⟨j,u,rfl,rfl⟩|⟨y,u,rfl,rfl⟩
   ·rw [a8o] at h;exact wpAny_eqBool_int h
   ·rw [b1Q] at h;exact SeqAt.EqAt.int_str i t y u _ _ _ _ h
  ·rcases o6 hv with⟨j,u,rfl,rfl⟩|⟨y,u,rfl,rfl⟩
   ·rw [b1R] at h;exact SeqAt.EqAt.str_int x t j u _ _ _ _ h
   ·rw [a8p] at h;exact wpAny_eqBool_str h
 «strs»:=fun k x t v h=>by
  rcases o6 h with⟨i,u,rfl,e⟩|⟨y,u,rfl,e⟩
  ·exact nomatch e
  ·injection e with e1 _
   subst e1
   cases v<;>rfl
theorem R4(prog:AG)(w:AF)(i:Int)(t:Tok):(g9 prog w).is (.inl i) (.int i t)=true:=a6Z i t
theorem R5(prog:AG)(w:AF)(x:Str)(t:Tok):(g9 prog w).is (.inr x) (.str x t)=true:=a60 x t
inductive V where
 |non|bl (b:Bool)|int (i:Int)|str (x:Str)|byt (b:Array UInt8)|flt (b:UInt64)|ref (a:AB)|ty (n:String)
 deriving DecidableEq
def i6:V->AA->Prop
 | .non,u=>u=Value.none
 | .bl b,u=>u=Value.bool b
 | .int i,u=>∃t,u=Value.int i t
 | .str x,u=>∃t,u=Value.str x t
 | .byt b,u=>∃t,u=Value.bytes b t
 | .flt b,u=>∃t,u=Value.float b t
 | .ref a,u=>u=Value.ref a
 | .ty n,u=>u=Value.type n
abbrev g6:List V->List AA->Prop:=Paired i6
theorem g6.length{xs:List V}{us:List AA}(r:g6 xs us):xs.length=us.length:=Paired.length r
theorem g6.get:∀{xs:List V} {us:List AA} {i:Nat} {x:V},g6 xs us->xs[i]?=some x->∃u,us[i]?=some u/\i6 x u
 |_,_,_,_,.nil,e=>by simp at e
 |_,_,0,_,.cons r _,e=>by simp at e;subst e;exact⟨_,rfl,r⟩
 |_,_,i+1,x,.cons _ t,e=>by
  obtain⟨u,h1,h2⟩:=g6.get (i:=i) (x:=x) t (by simpa using e)
  exact⟨u,by simpa using h1,h2⟩
theorem g6.set{x:V}{u:AA}(r:i6 x u):∀{xs:List V} {us:List AA} (i:Nat),g6 xs us->g6 (xs.set i x) (us.set i u)
 |_,_,_,.nil=> .nil
 |_,_,0,.cons _ t=> .cons r t
 |_,_,i+1,.cons q t=> .cons q (g6.set r i t)
theorem g6.append:∀{xs ys:List V} {us ws:List AA},g6 xs us->g6 ys ws->g6 (xs++ys) (us++ws)
 |_,_,_,_,.nil,s=>s
 |_,_,_,_,.cons r t,s=> .cons r (g6.append t s)
theorem g6.take:∀{xs:List V} {us:List AA} (n:Nat),g6 xs us->g6 (xs.take n) (us.take n)
 |_,_,0,_=> .nil
 |_,_,_+1,.nil=> .nil
 |_,_,n+1,.cons r t=> .cons r (g6.take n t)
theorem g6.drop:∀{xs:List V} {us:List AA} (n:Nat),g6 xs us->g6 (xs.drop n) (us.drop n)
 |_,_,0,r=>r
 |_,_,_+1,.nil=> .nil
 |_,_,n+1,.cons _ t=>g6.drop n t
theorem g6.none_of:∀{xs:List V} {us:List AA} {i:Nat},g6 xs us->xs[i]?=none->us[i]?=none:=fun {xs us i} r e=>by
 have h1:=r.length
 have h2:xs.length<=i:=List.getElem?_eq_none_iff.mp e
 exact List.getElem?_eq_none_iff.mpr (by lia)
def X9:Option V->Option AA->Prop
 |some v,some u=>i6 v u
 |none,none=>True
 |_,_=>False
def KV{κ:Type}:List (κ×V)->List (κ×AA)->Prop:=Paired fun(p:κ×V) (q:κ×AA)=>p.1=q.1/\i6 p.2 q.2
def kV:c9->V
 | .inl i=> .int i
 | .inr x=> .str x
inductive HO where
 |lst (xs:List V)
 |tup (xs:List V)
 |dK (kvs:List (c9×V))|dT (kvs:List (List c9×V))
 |set (S:Int->Bool) (n:Nat)
 |ins (C dx:AB) (fs:List (Str×V))
 |own (x:AB)
 |xd (fs:List (Str×V))
 |met (f x:AB)
 |rng (lo hi:Int)
 |frz (o:Obj) (u:HO)
 |tbl (ps:Array AA)
 |ext (φ:Heap->Prop)
abbrev Hp:=AB->Option HO
def upd(H:Hp)(a:AB)(o:HO):Hp:=fun b=>if b=a then some o else H b
theorem g5{H:Hp}{a:AB}{o:HO}:upd H a o a=some o:=by unfold upd;rw [if_pos rfl]
theorem d6{H:Hp}{a b:AB}{o:HO}(h:b≠a):upd H a o b=H b:=by unfold upd;rw [if_neg h]
theorem V2{H:Hp}{a b:AB}{o u:HO}(h:H a=some o)(h':H b=some u)(d:o≠u):a≠b:=by
 intro e;subst e;rw [h] at h';exact d (Option.some.inj h')
theorem f7{H:Hp}{a b:AB}{o:HO}(h:H a=some o)(h':H b=none):a≠b:=by
 intro e;subst e;rw [h] at h';cases h'
section
variable (P:AG)(w:AF)
def s9(H:Hp)(h:Heap)(a:AB):HO->Prop
 | .lst xs=>xs.length<=AL/\∃(its:List AA) (n:Nat),g6 xs its/\h.get? a=some {cls:= .type "list",data:= .seq its.toArray n}
 | .tup xs=>xs.length<=AL/\∃its:List AA,g6 xs its/\IsTup h a its.toArray
 | .dK kvs=>kvs.length<=AL/\(a==sysModules)=false/\∃vs,KV kvs vs/\h.DictOf (g9 P w) a vs
 | .dT kvs=>kvs.length<=AL/\(a==sysModules)=false/\∃xs:List (List c9×AB×AA),
  Paired (fun(p:List c9×V) (q:List c9×AB×AA)=>p.1=q.1/\H q.2.1=some (.tup (p.1.map kV))/\i6 p.2 q.2.2) kvs xs/\
  ∃o es ep,h.get? a=some o/\o.ExactDict/\o.data= .dict es ep/\es.toList=xs.map (entryOfKey (tupleKind (g9 P w)))/\(xs.map (·.1)).Nodup
 | .set S n=>h.SetOf (intKind P w) a S n
 | .ins C dx fs=>H dx=some (.own a)/\fs.length<=1000/\dx≠a/\h.get? a=some (PySem.W.instObj C dx)/\
  ∃mA,h.Ns1 dx mA/\(∀f,X9 (fs.lookup f) (mA f))/\PySem.Within mA (fs.map (·.1))
 | .own _=>∃o,h.get? a=some o
 | .xd fs=>∃mA,h.Ns1 a mA/\∀f,X9 (fs.lookup f) (mA f)
 | .rng lo hi=>∃t u v,h.get? a=some {cls:= .type "range",data:= .fields #[.int lo t,.int hi u,.int 1 v]}
 | .frz o u=>h.get? a=some o/\s9 H h a u
 | .tbl ps=>h.get? a=some {cls:= .none,data:= .fields ps}
 | .met f x=>h.get? a=some (PySem.W.methodObj (.ref f) (.ref x))
 | .ext φ=>φ h/\(∃o,h.get? a=some o)/\∀h1 h2:Heap,φ h1->(∀o,h1.get? a=some o->h2.get? a=some o)->φ h2
def HOk(H:Hp)(h:Heap):Prop:=∀a o,H a=some o->s9 P w H h a o
end
section
variable {P:AG}{w:AF}{H H':Hp}{h h':Heap}{a:AB}{o:HO}
theorem s9.lt(x:s9 P w H h a o):a<h.objs.size:=by
 cases o with
 |lst xs=>obtain⟨_,_,_,_,e⟩:=x;exact AV e
 |tup xs=>obtain⟨_,_,_,p⟩:=x;exact p.lt
 |dK kvs=>obtain⟨_,_,_,_,o,_,_,e,_⟩:=x;exact AV e
 |dT kvs=>obtain⟨_,_,_,_,o,_,_,e,_⟩:=x;exact AV e
 |set S n=>obtain⟨o,_,_,_,e,_⟩:=x;exact AV e
 |ins C dx fs=>obtain⟨_,_,_,e,_⟩:=x;exact AV e
 |own y=>obtain⟨_,e⟩:=x;exact AV e
 |xd fs=>obtain⟨_,⟨_,_,_,e,_⟩,_⟩:=x;exact AV e
 |rng lo hi=>obtain⟨_,_,_,e⟩:=x;exact AV e
 |frz ob u=>obtain⟨e,_⟩:=x;exact AV e
 |tbl ps=>exact AV (show h.get? a=some _ from x)
 |met f y=>exact AV (show h.get? a=some _ from x)
 |ext φ=>obtain⟨_,⟨_,e⟩,_⟩:=x;exact AV e
theorem Paired.mapP{α β:Type}{F G:α->β->Prop}:∀{l₁:List α} {l₂:List β},Paired F l₁ l₂->(∀a b,F a b->G a b)->Paired G l₁ l₂
 |_,_,.nil,_=> .nil
 |_,_,.cons r t,f=> .cons (f _ _ r) (Paired.mapP t f)
theorem s9.stay(x:s9 P w H h a o)(k:∀b u,(b=a\/H b=some (.own a))->h.get? b=some u->h'.get? b=some u)
 (ho:∀b,H b=some (.own a)->H' b=some (.own a)) (ht:∀b xs,H b=some (.tup xs)->H' b=some (.tup xs)):s9 P w H' h' a o:=by
 induction o with
 |lst xs=>obtain⟨z,its,n,r,e⟩:=x;exact⟨z,its,n,r,k _ _ (.inl rfl) e⟩
 |tup xs=>obtain⟨z,its,r,ob,e,c⟩:=x;exact⟨z,its,r,ob,k _ _ (.inl rfl) e,c⟩
 |dK kvs=>obtain⟨z,y,vs,r,ob,es,ep,e,c⟩:=x;exact⟨z,y,vs,r,ob,es,ep,k _ _ (.inl rfl) e,c⟩
 |dT kvs=>
  obtain⟨z,y,xs,r,ob,es,ep,e,c⟩:=x
  exact⟨z,y,xs,Paired.mapP r fun p q z=>⟨z.1,ht _ _ z.2.1,z.2.2⟩,ob,es,ep,k _ _ (.inl rfl) e,c⟩
 |set S n=>obtain⟨ob,es,ep,t,e,c⟩:=x;exact⟨ob,es,ep,t,k _ _ (.inl rfl) e,c⟩
 |ins C dx fs=>
  obtain⟨d,z,ne,e,mA,⟨od,es,ep,e2,c⟩,r⟩:=x
  exact⟨ho _ d,z,ne,k _ _ (.inl rfl) e,mA,⟨od,es,ep,k _ _ (.inr d) e2,c⟩,r⟩
 |own y=>obtain⟨ob,e⟩:=x;exact⟨ob,k _ _ (.inl rfl) e⟩
 |xd fs=>obtain⟨mA,⟨od,es,ep,e,c⟩,r⟩:=x;exact⟨mA,⟨od,es,ep,k _ _ (.inl rfl) e,c⟩,r⟩
 |rng lo hi=>obtain⟨t,u,v,e⟩:=x;exact⟨t,u,v,k _ _ (.inl rfl) e⟩
 |frz ob u ih=>obtain⟨e,q⟩:=x;exact⟨k _ _ (.inl rfl) e,ih q⟩
 |tbl ps=>
  have e:h.get? a=some {cls:= .none,data:= .fields ps}:=x
  show h'.get? a=some {cls:= .none,data:= .fields ps}
  exact k a _ (.inl rfl) e
 |met f y=>
  have e:h.get? a=some (PySem.W.methodObj (.ref f) (.ref y)):=x
  show h'.get? a=some (PySem.W.methodObj (.ref f) (.ref y))
  exact k a _ (.inl rfl) e
 |ext φ=>obtain⟨p,⟨o,e⟩,st⟩:=x;exact⟨st _ _ p fun o q=>k _ _ (.inl rfl) q,⟨o,k _ _ (.inl rfl) e⟩,st⟩
theorem HOk.lt(x:HOk P w H h)(e:H a=some o):a<h.objs.size:=(x a o e).lt
theorem HOk.fresh(x:HOk P w H h)(e:h.objs.size<=a):H a=none:=by
 cases q:H a with
 |none=>rfl
 |some u=>exact absurd (Ay (x.lt q) e) (Nat.lt_irrefl _)
theorem HOk.kept(x:HOk P w H h)(k:∀b u,h.get? b=some u->h'.get? b=some u):HOk P w H h':=fun a o e=>
 (x a o e).stay (fun b u _ q=>k b u q) (fun _ q=>q) fun _ _ q=>q
theorem HOk.laid(x:HOk P w H h)(k:∀b u,h.get? b=some u->h'.get? b=some u)(hp:h.objs.size<=a)(new:s9 P w (upd H a o) h' a o):HOk P w (upd H a o) h':=fun b u e=>by
 have hn:=x.fresh hp
 by_cases hb:b=a
 ·subst hb;rw [g5] at e;cases e;exact new
 ·rw [d6 hb] at e
  exact(x b u e).stay (fun c v _ q=>k c v q) (fun c q=>by rw [d6 (f7 q hn)];exact q) fun c xs q=>by rw [d6 (f7 q hn)];exact q
end
def Rd(H:Hp)(a:AB)(u:HO):Prop:=H a=some u\/∃o,H a=some (.frz o u)
theorem Rd.of{H:Hp}{a:AB}{u:HO}(h:H a=some u):Rd H a u:= .inl h
theorem Rd.ok{P:AG}{w:AF}{H:Hp}{h:Heap}{a:AB}{u:HO}(r:Rd H a u)(x:HOk P w H h):s9 P w H h a u:=by
 rcases r with r|⟨o,r⟩
 ·exact x a u r
 ·obtain⟨_,q⟩:=x a _ r
  exact q
def Mut:Option HO->Prop
 |some (.lst _)=>True
 |some (.dK _)=>True
 |some (.dT _)=>True
 |some (.set _ _)=>True
 |some (.ins _ _ _)=>True
 |some (.ext _)=>True
 |_=>False
section
variable {P:AG}{w:AF}{H:Hp}{h h':Heap}{x e:AB}{o':HO}
theorem HOk.write(ok:HOk P w H h)(mu:Mut (H x))(he:e=x\/H e=some (.own x))(k:∀b u,b≠e->h.get? b=some u->h'.get? b=some u)(heo:∃u,h'.get? e=some u)
 (new:s9 P w (upd H x o') h' x o'):HOk P w (upd H x o') h':=fun b u q=>by
 have nown:∀c y,H c=some (.own y)->c≠x:=fun c y r z=>by subst z;rw [r] at mu;exact mu
 have ntup:∀c xs,H c=some (.tup xs)->c≠x:=fun c xs r z=>by subst z;rw [r] at mu;exact mu
 by_cases hb:b=x
 ·subst hb;rw [g5] at q;cases q;exact new
 ·rw [d6 hb] at q
  by_cases hbe:b=e
  ·have q':H b=some (.own x):=by
    rcases he with z|z
    ·exact absurd (hbe.trans z) hb
    ·rw [hbe];exact z
   rw [q] at q';cases q'
   obtain⟨v,hv⟩:=heo
   exact⟨v,by rw [hbe];exact hv⟩
  ·refine(ok b u q).stay (fun c v hc r=>k c v ?_ r) (fun c r=>by rw [d6 (nown c b r)];exact r) fun c xs r=>by rw [d6 (ntup c xs r)];exact r
   rcases hc with rfl|hc
   ·exact hbe
   ·rintro rfl
    rcases he with z|z
    ·exact nown c b hc z
    ·rw [hc] at z;cases z;exact hb rfl
end
structure Un(fs ex:List AB)(H H':Hp)(h h':Heap):Prop where
 keep:∀b o,h.get? b=some o->H b=none->b∉fs->b∉ex->h'.get? b=some o
 slot:∀b o,h.get? b=some o->H b=none->b∈fs->b∉ex->∃sl,h'.get? b=some {o with slots:=sl}
 free:∀b o,h.get? b=some o->H b=none->b∉ex->H' b=none
 there:∀b o,h.get? b=some o->b∉ex->∃o',h'.get? b=some o'
 tups:∀b xs,H b=some (.tup xs)->H' b=some (.tup xs)
 frzs:∀b o u,H b=some (.frz o u)->H' b=some (.frz o u)
 tbls:∀b ps,H b=some (.tbl ps)->∃more,H' b=some (.tbl (ps++more))
section
variable {fs fs' ex ex':List AB}{H H1 H2:Hp}{h h1 h2 h':Heap}{a x e:AB}{o:HO}
theorem Un.any(u:Un fs ex H H1 h h1){b:AB}{ob:Obj}(q:h.get? b=some ob)(n:H b=none)(hx:b∉ex):∃sl,h1.get? b=some {ob with slots:=sl}:=by
 by_cases hb:b∈fs
 ·exact u.slot b ob q n hb hx
 ·exact⟨ob.slots,u.keep b ob q n hb hx⟩
theorem Un.trans(a:Un fs ex H H1 h h1)(b:Un fs ex H1 H2 h1 h2):Un fs ex H H2 h h2 where
 keep:=fun c ob q n hc hx=>b.keep c ob (a.keep c ob q n hc hx) (a.free c ob q n hx) hc hx
 slot:=fun c ob q n hc hx=>by
  obtain⟨sl,e1⟩:=a.slot c ob q n hc hx
  obtain⟨sl',e2⟩:=b.slot c _ e1 (a.free c ob q n hx) hc hx
  exact⟨sl',e2⟩
 free:=fun c ob q n hx=>by
  obtain⟨o',e1⟩:=a.there c ob q hx
  exact b.free c o' e1 (a.free c ob q n hx) hx
 there:=fun c ob q hx=>by
  obtain⟨o',e1⟩:=a.there c ob q hx
  exact b.there c o' e1 hx
 tups:=fun c xs q=>b.tups c xs (a.tups c xs q)
 frzs:=fun c ob xs q=>b.frzs c ob xs (a.frzs c ob xs q)
 tbls:=fun c ps q=>by
  obtain⟨m1,e1⟩:=a.tbls c ps q
  obtain⟨m2,e2⟩:=b.tbls c _ e1
  exact⟨m1++m2,by rw [e2,Array.append_assoc]⟩
theorem Un.kept(k:∀b u,h.get? b=some u->h'.get? b=some u):Un fs ex H H h h':=
 ⟨fun b ob q _ _ _=>k b ob q,fun b ob q _ _ _=>⟨ob.slots,k b ob q⟩,fun _ _ _ n _=>n,fun b ob q _=>⟨ob,k b ob q⟩,fun _ _ q=>q,fun _ _ _ q=>q,fun _ ps q=>⟨#[],by rw [q];simp⟩⟩
theorem Un.refl:Un fs ex H H h h:=Un.kept fun _ _ q=>q
theorem Un.laid(k:∀b u,h.get? b=some u->h'.get? b=some u)(hp:h.objs.size<=a)(hn:H a=none):Un fs ex H (upd H a o) h h' where
 keep:=fun b u q _ _ _=>k b u q
 slot:=fun b u q _ _ _=>⟨u.slots,k b u q⟩
 free:=fun b u q n _=>by rw [d6 (Al (Ay (AV q) hp))];exact n
 there:=fun b u q _=>⟨u,k b u q⟩
 tups:=fun b xs q=>by rw [d6 (f7 q hn)];exact q
 frzs:=fun b u xs q=>by rw [d6 (f7 q hn)];exact q
 tbls:=fun b ps q=>⟨#[],by rw [d6 (f7 q hn),q];simp⟩
theorem Un.write(mu:Mut (H x))(he:e=x\/H e=some (.own x))(k:∀b u,b≠e->h.get? b=some u->h'.get? b=some u)(heo:∃u,h'.get? e=some u):Un fs ex H (upd H x o) h h':=by
 have hx:∀b,H b=none->b≠x:=fun b n z=>by subst z;rw [n] at mu;exact mu
 have hb:∀b,H b=none->b≠e:=fun b n z=>by
  subst z
  rcases he with r|r
  ·exact hx b n r
  ·rw [n] at r;cases r
 have hm:∀b u,H b=some u->¬Mut (some u)->b≠x:=fun b u q nm z=>by subst z;rw [q] at mu;exact nm mu
 refine⟨fun b u q n _ _=>k b u (hb b n) q,fun b u q n _ _=>⟨u.slots,k b u (hb b n) q⟩,fun b u q n _=>by rw [d6 (hx b n)];exact n,fun b u q _=> ?_,
  fun b xs q=>by rw [d6 (hm b _ q fun z=>z)];exact q,fun b u xs q=>by rw [d6 (hm b _ q fun z=>z)];exact q,fun b ps q=>⟨#[],by rw [d6 (hm b _ q fun z=>z),q];simp⟩⟩
 by_cases hbe:b=e
 ·subst hbe;exact heo
 ·exact⟨u,k b u hbe q⟩
theorem Un.mono(u:Un fs ex H H1 h h1)(hs:∀b∈fs,b∈fs')(hx:∀b∈ex,b∈ex'):Un fs' ex' H H1 h h1:=
 ⟨fun b ob q n hb he=>u.keep b ob q n (fun z=>hb (hs b z)) fun z=>he (hx b z),fun _ _ q n _ he=>u.any q n fun z=>he (hx _ z),fun b ob q n he=>u.free b ob q n fun z=>he (hx b z),fun b ob q he=>u.there b ob q fun z=>he (hx b z),u.tups,u.frzs,u.tbls⟩
end
def trk(h:Heap)(H:Hp):List AB:=(Az h.objs.size).filter fun a=>(H a).isSome
def a3R(h:Heap)(H:Hp):Heap:=PySem.W.hideAll h (trk h H)
theorem a6S(h:Heap)(H:Hp):(a3R h H).objs.size=h.objs.size:=PySem.W.hideAll_size _ _
theorem a8h{h:Heap}{H:Hp}{b:AB}{o:Obj}(e:h.get? b=some o)(n:H b=none):(a3R h H).get? b=some o:=
 PySem.W.hideAll_get _ e fun hm=>by
  have q:(H b).isSome=true:=(List.mem_filter.mp hm).2
  rw [n] at q;simp at q
theorem b0l{h:Heap}{H:Hp}{b:AB}{o:Obj}(e:(a3R h H).get? b=some o):h.get? b=some o/\H b=none:=by
 have e':h.get? b=some o:=PySem.W.of_hideAll (trk h H) e
 refine⟨e', ?_⟩
 cases q:H b with
 |none=>rfl
 |some x=>
  have hm:b∈trk h H:=List.mem_filter.mpr ⟨List.mem_range.mpr (AV e'),by simp [q]⟩
  have z:(a3R h H).get? b=none:=PySem.W.hideAll_none (trk h H) hm
  rw [z] at e;cases e
def a9E(g h:Heap)(L:AB):List (AB×Obj):=(Az h.objs.size).filterMap fun a=>if a=L\/(g.get? a).isSome=true then none else(h.get? a).map fun o=>(a,o)
def u5(g h:Heap)(L d:AB):List (AB×Obj):=(a9E g h L).filter fun p=>decide (p.1≠d)
structure Mod(K:AD)(mg:Str->Option AA)(base:Heap):Prop where
 kin:K.In base
 glob:base.Ns mainGlobals mg
 blt:∃mb,base.Ns builtinsNs mb/\∀x:Str,x≠"__name__"->mb x=bootBuiltins x
 nolimit:base.NoLimit
structure Cx where
 prog:AG
 w:AF
 K:AD
 mg:Str->Option AA
 base:Heap
 A:AI
 N:List Str
 s₀:AC
 H₀:Hp
 env:Env
 outer:List Env
 stack:List Env
 ex:List AB
 fn:Str->Bool
 calm:Bool
 pn:List (AB×Obj)
 xe:AA->AC->Prop
def frs(l:List Env):List AB:=l.filterMap (·.frame)
abbrev Cx.fs(X:Cx):List AB:=frs X.outer
def Vis(sc:Scope)(x:Str):Prop:=sc.names.lookup x=some .local\/sc.names.lookup x=some .cell\/sc.names.lookup x=some .free
def Loc(sc:Scope)(x:Str):Prop:=sc.names.lookup x=some .local\/sc.names.lookup x=some .cell
def b3E(env:Env)(h:Heap)(m:Str->Option AA)(x:Str)(u:AA):Prop:=
 (env.kindOf x=some .local/\m x=some u)\/((env.kindOf x=some .cell\/env.kindOf x=some .free)/\∃c,env.cells.lookup x=some c/\h.IsCell c (some u))
structure Cx.Ok(X:Cx):Prop where
 mod:Mod X.K X.mg X.base
 kind:X.env.scope.kind= .function
 glob:X.env.globals=mainGlobals
 blt:X.env.builtins=builtinsNs
 above:X.s₀.heap.objs.size<=X.env.locals
 inj:∀x y c,X.env.cells.lookup x=some c->X.env.cells.lookup y=some c->x=y
 has:∀x,(X.env.kindOf x=some .cell\/X.env.kindOf x=some .free)->∃c,X.env.cells.lookup x=some c
 cab:∀x c,X.fn x=true->X.env.cells.lookup x=some c->X.s₀.heap.objs.size<=c
 hd:X.calm=true->X.A.handled=none
 frames:X.A.frames=some X.stack
 stk:X.stack=X.outer\/(X.stack=X.env::X.outer/\X.env.frame=some X.env.locals)
 exf:∀b∈X.ex,b≠X.env.locals/\∀x c,X.env.cells.lookup x=some c->c≠b
 bs:∀b o,X.base.get? b=some o->X.s₀.heap.get? b=some o/\X.H₀ b=none
 bsz:X.base.objs.size<=X.s₀.heap.objs.size
 noex:∀b o,X.base.get? b=some o->b∉X.ex
 exfs:∀b∈X.ex,b∉X.fs
 funs:X.s₀.heap.FunFrames X.base X.outer
 frf:∀b∈X.fs,X.H₀ b=none
structure g4(X:Cx)(pins:List (AB×Obj))(σ:List (Option V))(H:Hp)(s:AC):Prop where
 ok:X.Ok
 os:s.os=X.s₀.os
 bare:AllBare s.gens
 base:Un X.fs X.ex X.H₀ H X.s₀.heap s.heap
 loc:∃m,s.heap.Ns X.env.locals m/\∀(i:Nat) (x:Str) (v:V),X.N[i]?=some x->σ[i]?=some (some v)->Vis X.env.scope x->∃u,i6 v u/\b3E X.env s.heap m x u
 cell:∀x c,X.env.cells.lookup x=some c->∃v,s.heap.IsCell c v
 free:H X.env.locals=none
 freeC:∀x c,X.env.cells.lookup x=some c->H c=none
 pin:∀p∈X.pn++pins,s.heap.get? p.1=some p.2/\H p.1=none/\p.1≠X.env.locals/\p.1∉X.fs/\∀v,p.2.data≠.cell v
 hok:HOk X.prog X.w H s.heap
 len:σ.length=X.N.length
section
variable {X:Cx}{pins:List (AB×Obj)}{σ:List (Option V)}{H H':Hp}{s:AC}{h':Heap}
theorem Cx.Ok.nofr(ok:X.Ok){b:AB}{o:Obj}(e:X.base.get? b=some o):b∉X.fs:=fun hb=>by
 have:=(ok.funs.mem hb).1
 rw [e] at this;cases this
theorem g4.bs(I:g4 X pins σ H s):∀b o,X.base.get? b=some o->s.heap.get? b=some o/\H b=none:=fun b o e=>
 ⟨I.base.keep b o (I.ok.bs b o e).1 (I.ok.bs b o e).2 (I.ok.nofr e) (I.ok.noex b o e),I.base.free b o (I.ok.bs b o e).1 (I.ok.bs b o e).2 (I.ok.noex b o e)⟩
theorem g4.bk(I:g4 X pins σ H s):∀b o,X.base.get? b=some o->s.heap.get? b=some o:=fun b o e=>(I.bs b o e).1
theorem g4.mod(I:g4 X pins σ H s):Mod X.K X.mg X.base:=I.ok.mod
theorem g4.kIn(I:g4 X pins σ H s):X.K.In s.heap:=I.ok.mod.kin.keeps I.bk
theorem g4.nolimit(I:g4 X pins σ H s):s.heap.NoLimit:=I.ok.mod.nolimit.keeps I.bk
theorem g4.fr(I:g4 X pins σ H s):∃m,Fr X.base X.env.locals s.heap m:=
 let ⟨m,hn,_⟩:=I.loc
 ⟨m,hn,I.bk,Nat.le_trans I.ok.bsz I.ok.above⟩
theorem g4.lt(I:g4 X pins σ H s):X.env.locals<s.heap.objs.size:=let ⟨_,hn,_⟩:=I.loc;hn.lt
theorem g4.sz(I:g4 X pins σ H s):X.s₀.heap.objs.size<=s.heap.objs.size:=Nat.le_trans I.ok.above (BF I.lt)
theorem g4.nofs(I:g4 X pins σ H s){a:AB}(h:s.heap.objs.size<=a):a∉X.fs:=fun hb=>by
 obtain⟨_,o,ho,_⟩:=I.ok.funs.mem hb
 exact absurd (Ay (AV ho) (Nat.le_trans I.sz h)) (Nat.lt_irrefl _)
theorem g4.cne(I:g4 X pins σ H s):∀x c,X.env.cells.lookup x=some c->c≠X.env.locals:=fun x c e z=>by
 obtain⟨v,o,ho,hd⟩:=I.cell x c e
 obtain⟨m,⟨o',es,ep,ho',hd',_⟩,_⟩:=I.loc
 rw [z,ho'] at ho;cases ho;rw [hd'] at hd;cases hd
theorem g4.funs(I:g4 X pins σ H s):s.heap.FunFrames X.base X.outer:=by
 have all:∀(l:List Env),(∀b∈frs l,b∈X.fs)->X.s₀.heap.FunFrames X.base l->s.heap.FunFrames X.base l:=by
  intro l
  induction l with
  |nil=>intro _ _;trivial
  |cons env r ih=>
   intro hs hl
   obtain⟨hk,⟨L,o,hf,hn,ho,hd⟩,hr⟩:=hl
   have hL:L∈X.fs:=hs L (by unfold frs;rw [List.filterMap_cons,hf];exact Ah)
   obtain⟨sl,e⟩:=I.base.slot L o ho (I.ok.frf L hL) hL fun z=>I.ok.exfs L z hL
   exact⟨hk,⟨L,_,hf,hn,e,hd⟩,ih (fun b hb=>hs b (by unfold frs;rw [List.filterMap_cons,hf];exact Ac _ hb)) hr⟩
 exact all X.outer (fun _ hb=>hb) I.ok.funs
theorem g4.stack(I:g4 X pins σ H s):s.heap.FunFrames X.base X.stack:=by
 rcases I.ok.stk with e|⟨e,hf⟩
 ·rw [e];exact I.funs
 ·rw [e]
  obtain⟨m,hn,_⟩:=I.loc
  refine .cons (by rw [I.ok.kind];decide) hf hn ?_ I.funs
  exact Heap.get?_none_of_le (Nat.le_trans I.ok.bsz I.ok.above)
theorem g4.stkSub(I:g4 X pins σ H s):∀b∈frs X.stack,b∈X.env.locals::X.fs:=fun b hb=>by
 rcases I.ok.stk with e|⟨e,hf⟩
 ·rw [e] at hb;exact Ac _ hb
 ·rw [e] at hb
  unfold frs at hb
  rw [List.filterMap_cons,hf] at hb
  exact hb
theorem g4.stkFree(I:g4 X pins σ H s):∀b∈frs X.stack,H b=none:=fun b hb=>by
 rcases Ai.mp (I.stkSub b hb) with e|hb
 ·rw [e];exact I.free
 ·obtain⟨_,o,ho,_⟩:=I.ok.funs.mem hb
  exact I.base.free b o ho (I.ok.frf b hb) fun z=>I.ok.exfs b z hb
theorem g4.step{g':Array GenState}{t':Nat}{d':Drawn}{ch:List AB}(I:g4 X pins σ H s)
 (hch:∀b∈ch,(b∈X.ex\/X.s₀.heap.objs.size<=b)/\b≠X.env.locals/\(∀x c,X.env.cells.lookup x=some c->c≠b)/\∀p∈X.pn++pins,p.1≠b)
 (keep:∀b o,b≠X.env.locals->b∉X.fs->b∉ch->s.heap.get? b=some o->H b=none->h'.get? b=some o)
 (slot:∀b o,b≠X.env.locals->b∈X.fs->b∉ch->s.heap.get? b=some o->H b=none->∃sl,h'.get? b=some {o with slots:=sl}) (free:∀b o,b∉ch->s.heap.get? b=some o->H b=none->H' b=none)
 (there:∀b o,b∉ch->s.heap.get? b=some o->∃o',h'.get? b=some o')
 (tups:∀b xs,H b=some (.tup xs)->H' b=some (.tup xs)) (frzs:∀b o u,H b=some (.frz o u)->H' b=some (.frz o u)) (tbls:∀b ps,H b=some (.tbl ps)->∃more,H' b=some (.tbl (ps++more)))
 (ns:∀m,s.heap.Ns X.env.locals m->h'.Ns X.env.locals m) (hok:HOk X.prog X.w H' h') (hg:AllBare g'):
 g4 X pins σ H' {s with heap:=h',gens:=g',drawn:=d',toks:=t'}:=by
 have neL:∀b o,X.s₀.heap.get? b=some o->b≠X.env.locals:=fun b o e=>Al (Ay (AV e) I.ok.above)
 have neC:∀b o,X.s₀.heap.get? b=some o->b∉X.ex->b∉ch:=fun b o e hx hb=>by
  rcases(hch b hb).1 with z|z
  ·exact hx z
  ·exact absurd (Ay (AV e) z) (Nat.lt_irrefl _)
 have cellK:∀x c,X.env.cells.lookup x=some c->∀v,s.heap.IsCell c v->h'.IsCell c v:=fun x c e v ⟨o,ho,hd⟩=>by
  have nch:c∉ch:=fun z=>(hch c z).2.2.1 x c e rfl
  by_cases hc:c∈X.fs
  ·obtain⟨sl,q⟩:=slot c o (I.cne x c e) hc nch ho (I.freeC x c e)
   exact⟨_,q,hd⟩
  ·exact⟨o,keep c o (I.cne x c e) hc nch ho (I.freeC x c e),hd⟩
 refine⟨I.ok,I.os,hg,⟨fun b o e n hb hx=> ?_,fun b o e n hb hx=> ?_,fun b o e n hx=> ?_,fun b o e hx=> ?_,fun b xs e=>tups b xs (I.base.tups b xs e),fun b o xs e=>frzs b o xs (I.base.frzs b o xs e),fun b ps e=> ?_⟩, ?_,fun x c e=> ?_, ?_,fun x c e=> ?_,fun p hp=> ?_,hok,I.len⟩
 ·exact keep b o (neL b o e) hb (neC b o e hx) (I.base.keep b o e n hb hx) (I.base.free b o e n hx)
 ·obtain⟨sl,e1⟩:=I.base.slot b o e n hb hx
  obtain⟨sl',e2⟩:=slot b _ (neL b o e) hb (neC b o e hx) e1 (I.base.free b o e n hx)
  exact⟨sl',e2⟩
 ·obtain⟨o',e1⟩:=I.base.there b o e hx
  exact free b o' (neC b o e hx) e1 (I.base.free b o e n hx)
 ·obtain⟨o',e1⟩:=I.base.there b o e hx
  exact there b o' (neC b o e hx) e1
 ·obtain⟨m1,e1⟩:=I.base.tbls b ps e
  obtain⟨m2,e2⟩:=tbls b _ e1
  exact⟨m1++m2,by rw [e2,Array.append_assoc]⟩
 ·obtain⟨m,hn,hl⟩:=I.loc
  refine⟨m,ns m hn,fun i x v e1 e2 e3=> ?_⟩
  obtain⟨u,r,l⟩:=hl i x v e1 e2 e3
  refine⟨u,r, ?_⟩
  rcases l with l|⟨k,c,e,z⟩
  ·exact .inl l
  ·exact .inr ⟨k,c,e,cellK x c e _ z⟩
 ·obtain⟨v,z⟩:=I.cell x c e
  exact⟨v,cellK x c e v z⟩
 ·obtain⟨m,⟨o,_,_,ho,_⟩,_⟩:=I.loc
  exact free _ o (fun z=>(hch _ z).2.1 rfl) ho I.free
 ·obtain⟨v,o,ho,hd⟩:=I.cell x c e
  exact free c o (fun z=>(hch c z).2.2.1 x c e rfl) ho (I.freeC x c e)
 ·obtain⟨e,n,ne,nf,d⟩:=I.pin p hp
  have nch:p.1∉ch:=fun z=>(hch p.1 z).2.2.2 p hp rfl
  exact⟨keep p.1 p.2 ne nf nch e n,free p.1 p.2 nch e n,ne,nf,d⟩
theorem g4.un{t':Nat}(I:g4 X pins σ H s)(u:Un X.fs [] H H' s.heap h')(hok:HOk X.prog X.w H' h'):g4 X pins σ H' {s with heap:=h',toks:=t'}:=by
 obtain⟨m,⟨o,es,ep,ho,r⟩,_⟩:=id I.loc
 obtain⟨sl,hL⟩:=u.any ho I.free (by simp)
 exact I.step (g':=s.gens) (d':=s.drawn) (ch:=[]) (fun _ z=>nomatch z) (fun b o _ hb _ e n=>u.keep b o e n hb (by simp)) (fun b o _ hb _ e n=>u.slot b o e n hb (by simp)) (fun b o _ e n=>u.free b o e n (by simp)) (fun b o _ e=>u.there b o e (by simp)) u.tups u.frzs u.tbls (fun m' hm=>by
  obtain⟨o',es',ep',ho',r'⟩:=hm
  rw [ho] at ho';cases ho'
  exact⟨_,es',ep',hL,r'⟩) hok I.bare
theorem g4.call{g':Array GenState}{t':Nat}{d':Drawn}{ch:List AB}(I:g4 X pins σ H s)(u:Un (frs X.stack) ch H H' s.heap h')(hok:HOk X.prog X.w H' h')(hg:AllBare g')
 (hch:∀b∈ch,(b∈X.ex\/X.s₀.heap.objs.size<=b)/\b≠X.env.locals/\(∀x c,X.env.cells.lookup x=some c->c≠b)/\∀p∈X.pn++pins,p.1≠b):
 g4 X pins σ H' {s with heap:=h',gens:=g',drawn:=d',toks:=t'}:=by
 obtain⟨m,⟨o,es,ep,ho,r⟩,_⟩:=id I.loc
 obtain⟨sl,hL⟩:=u.any ho I.free fun z=>(hch _ z).2.1 rfl
 exact I.step (ch:=ch) hch (fun b o hL hb hc e n=>u.keep b o e n (fun z=>(Ai.mp (I.stkSub b z)).elim hL hb) hc) (fun b o _ _ hc e n=>u.any e n hc) (fun b o hc e n=>u.free b o e n hc) (fun b o hc e=>u.there b o e hc) u.tups u.frzs u.tbls (fun m' hm=>by
  obtain⟨o',es',ep',ho',r'⟩:=hm
  rw [ho] at ho';cases ho'
  exact⟨_,es',ep',hL,r'⟩) hok hg
theorem g4.turned{t':Nat}{it:AB}(I:g4 X pins σ H s)(k:∀b o,b≠it->s.heap.get? b=some o->h'.get? b=some o)(hn:H it=none)(hL:it≠X.env.locals)
 (h1:it∈X.ex\/X.s₀.heap.objs.size<=it) (h2:∀x c,X.env.cells.lookup x=some c->c≠it) (h3:∀p∈X.pn++pins,p.1≠it):g4 X pins σ H {s with heap:=h',toks:=t'}:=by
 have nit:∀b u,H b=some u->b≠it:=fun b u e z=>by rw [z,hn] at e;cases e
 refine I.step (g':=s.gens) (d':=s.drawn) (ch:=[it]) (fun b hb=> ?_) (fun b o _ _ hc e _=>k b o (fun z=>hc (by simp [z])) e) (fun b o _ _ hc e _=>⟨o.slots,k b o (fun z=>hc (by simp [z])) e⟩) (fun _ _ _ _ n=>n)
  (fun b o hc e=>⟨o,k b o (fun z=>hc (by simp [z])) e⟩) (fun _ _ e=>e) (fun _ _ _ e=>e) (fun b ps e=>⟨#[],by rw [e];simp⟩) (fun m hm=> ?_) (fun b u e=> ?_) I.bare
 ·have e:b=it:=by simpa using hb
  subst e
  exact⟨h1,hL,h2,h3⟩
 ·obtain⟨o,es,ep,ho,r⟩:=hm
  exact⟨o,es,ep,k _ o (Ne.symm hL) ho,r⟩
 ·refine(I.hok b u e).stay (fun c v hc q=>k c v ?_ q) (fun _ q=>q) fun _ _ q=>q
  rcases hc with z|z
  ·rw [z];exact nit b u e
  ·exact nit c _ z
theorem g4.tok(I:g4 X pins σ H s)(t:Nat):g4 X pins σ H {s with toks:=t}:=I.un (h':=s.heap) (t':=t) Un.refl I.hok
theorem g4.kept{t':Nat}(I:g4 X pins σ H s)(k:∀b u,s.heap.get? b=some u->h'.get? b=some u):g4 X pins σ H {s with heap:=h',toks:=t'}:=I.un (Un.kept k) (I.hok.kept k)
theorem g4.laid{a:AB}{o:HO}{t':Nat}(I:g4 X pins σ H s)(k:∀b u,s.heap.get? b=some u->h'.get? b=some u)(hp:s.heap.objs.size<=a)(new:s9 X.prog X.w (upd H a o) h' a o):
 g4 X pins σ (upd H a o) {s with heap:=h',toks:=t'}:=I.un (Un.laid k hp (I.hok.fresh hp)) (I.hok.laid k hp new)
theorem g4.write{x e:AB}{o:HO}{t':Nat}(I:g4 X pins σ H s)(mu:Mut (H x))(he:e=x\/H e=some (.own x))(k:∀b u,b≠e->s.heap.get? b=some u->h'.get? b=some u)(heo:∃u,h'.get? e=some u)
 (new:s9 X.prog X.w (upd H x o) h' x o):g4 X pins σ (upd H x o) {s with heap:=h',toks:=t'}:=I.un (Un.write mu he k heo) (I.hok.write mu he k heo new)
theorem g4.pins_of{pins':List (AB×Obj)}(I:g4 X pins σ H s)(h:∀p∈pins',s.heap.get? p.1=some p.2/\H p.1=none/\p.1≠X.env.locals/\p.1∉X.fs/\∀v,p.2.data≠.cell v):g4 X pins' σ H s:=
 ⟨I.ok,I.os,I.bare,I.base,I.loc,I.cell,I.free,I.freeC,fun p hp=>(Am.mp hp).elim (fun z=>I.pin p (BB _ z)) (h p),I.hok,I.len⟩
theorem a40{N:List Str}(hN:N.Nodup){i j:Nat}{x:Str}(a:N[i]?=some x)(b:N[j]?=some x):i=j:=by
 obtain⟨h1,e1⟩:=Ad.mp a
 obtain⟨h2,e2⟩:=Ad.mp b
 exact(List.getElem_inj hN).mp (e1.trans e2.symm)
theorem a7p{M:Model}{A:AI}{E:AA->AC->Prop}{i:Nat}{x:Str}{v:V}{u:AA}{Q:Unit->AC->Prop}(I:g4 X pins σ H s)(hN:X.N.Nodup)(hi:X.N[i]?=some x)(hx:Loc X.env.scope x)(r:i6 v u)
 (h:∀s',g4 X pins (σ.set i (some v)) H s'->(∃a,Heap.SameBut a s.heap s'.heap/\(a=X.env.locals\/X.env.cells.lookup x=some a))->Q () s') (hf:X.fn x=true\/X.env.scope.names.lookup x=some .local:=by first|exact .inl rfl|exact .inr rfl|assumption):AH M A (storeName X.env x u) Q E s:=by
 obtain⟨m,hn,hl⟩:=id I.loc
 have hcls:(X.env.scope.kind== .class||(X.env.scope.kind== .module && X.env.locals !=X.env.globals))=false:=by rw [I.ok.kind];rfl
 have hiσ:i<σ.length:=by rw [I.len];exact(Ad.mp hi).1
 have cne:=I.cne
 have tracked:∀{a:AB} {h':Heap},(∃o,s.heap.get? a=some o/\H a=none)->Heap.SameBut a s.heap h'->HOk X.prog X.w H h':=fun {a h'} ha hs b ob e=>by
  obtain⟨_,_,hfree⟩:=ha
  refine(I.hok b ob e).stay (fun c w' hc q=>(hs.2 c ?_).trans q) (fun _ q=>q) fun _ _ q=>q
  rintro rfl
  rcases hc with rfl|hc
  ·rw [hfree] at e;cases e
  ·rw [hfree] at hc;cases hc
 rcases hx with hk|hk
 ·refine wpAny_storeName_local hk hn (fun h' hn' hs=> ?_) hcls
  obtain⟨oL,_,_,hoL,_⟩:=id hn
  refine h _ ⟨I.ok,I.os,I.bare,⟨fun b o e n hb hx=> ?_,fun b o e n hb hx=> ?_,I.base.free,fun b o e hx=> ?_,I.base.tups,I.base.frzs,I.base.tbls⟩,⟨_,hn',fun j y v' e1 e2 e3=> ?_⟩,fun y c e=> ?_,I.free,I.freeC,fun p hp=> ?_,tracked ⟨oL,hoL,I.free⟩ hs,by simpa using I.len⟩ ⟨_,hs,.inl rfl⟩
  ·exact(hs.2 b (Al (Ay (AV e) I.ok.above))).trans (I.base.keep b o e n hb hx)
  ·obtain⟨sl,e1⟩:=I.base.slot b o e n hb hx
   exact⟨sl,(hs.2 b (Al (Ay (AV e) I.ok.above))).trans e1⟩
  ·obtain⟨o',e1⟩:=I.base.there b o e hx
   exact⟨o',(hs.2 b (Al (Ay (AV e) I.ok.above))).trans e1⟩
  ·by_cases hj:j=i
   ·subst hj
    rw [hi] at e1;cases e1
    rw [BE hiσ] at e2
    cases e2
    exact⟨u,r,.inl ⟨hk,by simp⟩⟩
   ·rw [List.getElem?_set_ne (Ne.symm hj)] at e2
    obtain⟨u',r',q⟩:=hl j y v' e1 e2 e3
    refine⟨u',r', ?_⟩
    rcases q with⟨k,e⟩|⟨k,c,e,z⟩
    ·refine .inl ⟨k, ?_⟩
     have:y≠x:=fun e=>hj (a40 hN e1 (e▸hi))
     simp [this,e]
    ·exact .inr ⟨k,c,e,z.sameBut hs (cne y c e)⟩
  ·obtain⟨w',z⟩:=I.cell y c e
   exact⟨w',z.sameBut hs (cne y c e)⟩
  ·obtain⟨e,n,ne,nf,d⟩:=I.pin p hp
   exact⟨(hs.2 p.1 ne).trans e,n,ne,nf,d⟩
 ·have hfn:X.fn x=true:=by
   rcases hf with z|z
   ·exact z
   ·rw [z] at hk;cases hk
  obtain⟨c,hc⟩:=I.ok.has x (.inl hk)
  obtain⟨w',z⟩:=I.cell x c hc
  refine wpAny_storeName_cell I.ok.kind hk hc z (fun h' hc' hs=> ?_)
  obtain⟨oc,hoc,hocd⟩:=id z
  refine h {s with heap:=h'} ⟨I.ok,I.os,I.bare,⟨fun b o e n hb hx=> ?_,fun b o e n hb hx=> ?_,I.base.free,fun b o e hx=> ?_,I.base.tups,I.base.frzs,I.base.tbls⟩,⟨m,hn.sameBut hs (Ne.symm (cne x c hc)),fun j y v' e1 e2 e3=> ?_⟩,fun y c' e=> ?_,I.free,I.freeC,fun p hp=> ?_,tracked ⟨oc,hoc,I.freeC x c hc⟩ hs,by simpa using I.len⟩ ⟨c,hs,.inr hc⟩
  ·exact(hs.2 b (Al (Ay (AV e) (I.ok.cab x c hfn hc)))).trans (I.base.keep b o e n hb hx)
  ·obtain⟨sl,e1⟩:=I.base.slot b o e n hb hx
   exact⟨sl,(hs.2 b (Al (Ay (AV e) (I.ok.cab x c hfn hc)))).trans e1⟩
  ·obtain⟨o',e1⟩:=I.base.there b o e hx
   exact⟨o',(hs.2 b (Al (Ay (AV e) (I.ok.cab x c hfn hc)))).trans e1⟩
  ·by_cases hj:j=i
   ·subst hj
    rw [hi] at e1;cases e1
    rw [BE hiσ] at e2
    cases e2
    exact⟨u,r,.inr ⟨.inl hk,c,hc,hc'⟩⟩
   ·rw [List.getElem?_set_ne (Ne.symm hj)] at e2
    obtain⟨u',r',q⟩:=hl j y v' e1 e2 e3
    refine⟨u',r', ?_⟩
    rcases q with q|⟨k,c',e,z'⟩
    ·exact .inl q
    ·refine .inr ⟨k,c',e,z'.sameBut hs ?_⟩
     rintro rfl
     exact hj (a40 hN e1 (I.ok.inj _ _ _ e hc▸hi))
  ·by_cases hcc:c'=c
   ·subst hcc;exact⟨_,hc'⟩
   ·obtain⟨w2,z2⟩:=I.cell y c' e
    exact⟨w2,z2.sameBut hs hcc⟩
  ·obtain⟨e,n,ne,nf,d⟩:=I.pin p hp
   refine⟨(hs.2 p.1 ?_).trans e,n,ne,nf,d⟩
   intro q
   rw [q,hoc] at e
   have q':oc=p.2:=Option.some.inj e
   exact d w' (by rw [<-q'];exact hocd)
theorem a2I{M:Model}{A:AI}{E:AA->AC->Prop}{i:Nat}{x:Str}{v:V}{u:AA}{Q:Unit->AC->Prop}(I:g4 X pins σ H s)(hN:X.N.Nodup)(hi:X.N[i]?=some x)(hx:Loc X.env.scope x)(r:i6 v u)
 (h:∀s',g4 X pins (σ.set i (some v)) H s'->Q () s') (hf:X.fn x=true\/X.env.scope.names.lookup x=some .local:=by first|exact .inl rfl|exact .inr rfl|assumption):AH M A (storeName X.env x u) Q E s:=
 a7p I hN hi hx r (fun s' I' _=>h s' I') hf
end
abbrev XK:=AA->Option AB->Hp->Prop
abbrev St:=List (Option V)
abbrev VK:=V->Hp->Prop
abbrev TE:=St->Hp->VK->Prop
abbrev TT:=St->Hp->(Bool->Hp->Prop)->Prop
abbrev TA:=St->Hp->(List V->Hp->Prop)->Prop
structure C8 where
 nx:St->Hp->Prop
 rt:VK
 bk:St->Hp->Prop:=fun _ _=>False
 ct:St->Hp->Prop:=fun _ _=>False
abbrev TS:=C8->St->Hp->Prop
def EP(X:Cx)(pins:List (AB×Obj))(σ:St)(Q:VK)(u:AA)(s':AC):Prop:=∃v H',g4 X pins σ H' s'/\i6 v u/\Q v H'
def TP(X:Cx)(pins:List (AB×Obj))(σ:St)(Q:Bool->Hp->Prop)(b:Bool)(s':AC):Prop:=∃H',g4 X pins σ H' s'/\Q b H'
def AP(X:Cx)(pins:List (AB×Obj))(σ:St)(Q:List V->Hp->Prop)(us:List AA)(s':AC):Prop:=∃vs H',g4 X pins σ H' s'/\g6 vs us/\Q vs H'
def SP(X:Cx)(pins:List (AB×Obj))(D:C8)(f:Flow)(s':AC):Prop:=
 match f with
 | .next=>∃σ' H',g4 X pins σ' H' s'/\D.nx σ' H'
 | .brk=>∃σ' H',g4 X pins σ' H' s'/\D.bk σ' H'
 | .cont=>∃σ' H',g4 X pins σ' H' s'/\D.ct σ' H'
 | .ret u=>∃v σ' H',g4 X pins σ' H' s'/\i6 v u/\D.rt v H'
def PE(X:Cx)(e:AE)(t:TE):Prop:=
 ∀(pins:List (AB×Obj)) (s:AC) (σ:St) (H:Hp) (Q:VK),g4 X pins σ H s->t σ H Q->AH (model X.prog X.w) X.A (eval e X.env) (EP X pins σ Q) X.xe s
def PT(X:Cx)(e:AE)(t:TT):Prop:=
 ∀(pins:List (AB×Obj)) (s:AC) (σ:St) (H:Hp) (Q:Bool->Hp->Prop),g4 X pins σ H s->t σ H Q->AH (model X.prog X.w) X.A (isTrue e X.env (eval e X.env)) (TP X pins σ Q) X.xe s
def PW(X:Cx)(e:AE)(t:TT):Prop:=
 ∀(whole:Sem AA) (pins:List (AB×Obj)) (s:AC) (σ:St) (H:Hp) (Q:Bool->Hp->Prop),g4 X pins σ H s->t σ H Q->AH (model X.prog X.w) X.A (isTrue e X.env whole) (TP X pins σ Q) X.xe s
theorem PW.pt{X:Cx}{e:AE}{t:TT}(h:PW X e t):PT X e t:=h _
def PA(X:Cx)(es:List AE)(t:TA):Prop:=
 ∀(pos:Pos) (pins:List (AB×Obj)) (s:AC) (σ:St) (H:Hp) (Q:List V->Hp->Prop),g4 X pins σ H s->t σ H Q->AH (model X.prog X.w) X.A (spliced (backTo pos (AN es X.env))) (AP X pins σ Q) X.xe s
def PS(X:Cx)(st:Stmt)(t:TS):Prop:=
 ∀(pins:List (AB×Obj)) (s:AC) (σ:St) (H:Hp) (D:C8),g4 X pins σ H s->t D σ H->AH (model X.prog X.w) X.A (exec st X.env) (SP X pins D) X.xe s
def PSs(X:Cx)(st:List Stmt)(t:TS):Prop:=
 ∀(pins:List (AB×Obj)) (s:AC) (σ:St) (H:Hp) (D:C8),g4 X pins σ H s->t D σ H->AH (model X.prog X.w) X.A (execs st X.env) (SP X pins D) X.xe s
theorem w9{α:Type}{t:Sem α}{Q Q':α->AC->Prop}{M:Model}{A:AI}{E:AA->AC->Prop}{s:AC}(h:AH M A t Q E s)(hQ:∀a s,Q a s->Q' a s):AH M A t Q' E s:=wpAny_mono h hQ fun _ _ x=>x
section
variable {X:Cx}
def a0I(i:Nat):TE:=fun σ H Q=>∃v,σ[i]?=some (some v)/\Q v H
def tC(v:V):TE:=fun _ H Q=>Q v H
theorem b2m{i:Nat}{x:Str}{pos:Pos}(hN:X.N[i]?=some x)(hv:Vis X.env.scope x)(hd:(x==("__debug__":Str))=false:=by decide)(hcd:(x==("__classdict__":Str))=false:=by decide):PE X (.Name x pos) (a0I i):=by
 intro pins s σ H Q I h
 obtain⟨v,e,h⟩:=h
 obtain⟨m,hn,hl⟩:=I.loc
 obtain⟨u,r,l⟩:=hl i x v hN e hv
 have fin:EP X pins σ Q u s:=⟨v,H,I,r,h⟩
 rcases l with⟨hk,hm⟩|⟨hk,c,hc,hcell⟩
 ·exact wpAny_Name (wpAny_loadName_local I.ok.kind hk hn hm fin) hd
 ·rcases hk with hk|hk
  ·exact wpAny_Name (wpAny_loadName_cell I.ok.kind hk hc hcell fin) hd
  ·exact wpAny_Name (wpAny_loadName_free I.ok.kind hk hc hcell fin hcd) hd
theorem b2g{i j pos}:PE X (.Constant (.int i) j pos) (tC (.int i)):=fun _ _ _ H _ I h=>wpAny_Constant_int ⟨.int i,H,I.tok _,⟨_,rfl⟩,h⟩
theorem b3i{b j pos}:PE X (.Constant (.bool b) j pos) (tC (.bl b)):=fun _ _ _ H _ I h=>Constant_bool ⟨.bl b,H,I,rfl,h⟩
theorem b2j{j pos}:PE X (.Constant .none j pos) (tC .non):=fun _ _ _ H _ I h=>Constant_none ⟨.non,H,I,rfl,h⟩
theorem a8R{x j pos}:PE X (.Constant (.str x) j pos) (tC (.str x)):=fun _ _ _ H _ I h=>Calls.Constant_str ⟨.str x,H,I.tok _,⟨_,rfl⟩,h⟩
def Gl(X:Cx)(x:Str):Prop:=X.env.kindOf x=some .globalImplicit
theorem a1j{E:AA->AC->Prop}{pins:List (AB×Obj)}{s:AC}{σ:St}{H:Hp}{x:Str}{u:AA}{pos:Pos}{Q:AA->AC->Prop}(I:g4 X pins σ H s)(hg:Gl X x)(hm:X.mg x=some u)(h:Q u s)
 (hd:(x==("__debug__":Str))=false:=by decide):AH (model X.prog X.w) X.A (eval (.Name x pos) X.env) Q E s:=
 Calls.Name_function_global I.ok.kind hg (Calls.loadGlobal_global (by rw [I.ok.glob];exact I.mod.glob.keeps I.bk) hm h) hd
theorem a14{E:AA->AC->Prop}{pins:List (AB×Obj)}{s:AC}{σ:St}{H:Hp}{x:Str}{u:AA}{pos:Pos}{Q:AA->AC->Prop}(I:g4 X pins σ H s)(hg:Gl X x)(hm:X.mg x=none)(hv:bootBuiltins x=some u)(h:Q u s)
 (hn:x≠"__name__":=by decide) (hd:(x==("__debug__":Str))=false:=by decide):AH (model X.prog X.w) X.A (eval (.Name x pos) X.env) Q E s:=by
 obtain⟨mb,h1,h2⟩:=I.mod.blt
 exact Calls.Name_function_global I.ok.kind hg (Calls.loadGlobal_builtin (by rw [I.ok.glob];exact I.mod.glob.keeps I.bk) hm (by rw [I.ok.blt];exact h1.keeps I.bk) ((h2 x hn).trans hv) h) hd
theorem b0u{x:Str}{v:V}{u:AA}{pos:Pos}(hg:Gl X x)(hm:X.mg x=some u)(r:i6 v u)(hd:(x==("__debug__":Str))=false:=by decide):PE X (.Name x pos) (tC v):=
 fun _ _ _ H _ I h=>a1j I hg hm ⟨v,H,I,r,h⟩ hd
theorem a1m{x:Str}{v:V}{u:AA}{pos:Pos}(hg:Gl X x)(hm:X.mg x=none)(hv:bootBuiltins x=some u)(r:i6 v u)(hn:x≠"__name__":=by decide)(hd:(x==("__debug__":Str))=false:=by decide):PE X (.Name x pos) (tC v):=
 fun _ _ _ H _ I h=>a14 I hg hm hv ⟨v,H,I,r,h⟩ hn hd
variable {a b:AE}{ta tb:TE}{pos:Pos}
def PC(X:Cx)(op:CmpOp)(a b:AE)(t:TE):Prop:=
 ∀(pins:List (AB×Obj)) (s:AC) (σ:St) (H:Hp) (Q:VK),g4 X pins σ H s->t σ H Q->
  AH (model X.prog X.w) X.A (eval a X.env) (fun v s₁=>AH (model X.prog X.w) X.A (eval b X.env) (fun u s₂=>AH (model X.prog X.w) X.A (compareOp op v u) (EP X pins σ Q) X.xe s₂) X.xe s₁) X.xe s
theorem a8E(b:AE){op:CmpOp}(h:op≠.In)(h2:op≠.NotIn):behindInMarks op b=false:=by
 have e1:(op==CmpOp.In)=false:=by cases op<;>first|rfl|exact absurd rfl h
 have e2:(op==CmpOp.NotIn)=false:=by cases op<;>first|rfl|exact absurd rfl h2
 cases b<;>simp [behindInMarks,e1,e2]
def tB(t:TE):TT:=fun σ H Q=>t σ H fun x H1=>∃c,x= .bl c/\Q c H1
theorem b2q{op:CmpOp}{t:TE}(h:PC X op a b t)(h1:behindInMarks op b=false:=by first|exact a8E _ (by decide) (by decide)|rfl):PT X (.Compare a [op] [b] pos) (tB t):=by
 intro pins s σ H Q I hw
 refine wpAny_isTrue_Compare1 (w9 (h pins s σ H _ I hw) fun v s1 h1=>w9 h1 fun u s2 h2=>w9 h2 fun c s3 ⟨x,H1,I1,r1,q1⟩=> ?_) h1
 obtain⟨d,rfl,q⟩:=q1
 cases r1
 exact wpAny_truthy_bool ⟨H1,I1,q⟩
variable {tA tB':TT}{u5:List AE}
def tOr(t u:TT):TT:=fun σ H Q=>t σ H fun c H1=>if c=true then Q true H1 else u σ H1 Q
def b33(t:TT):TT:=fun σ H Q=>t σ H fun c H1=>Q (!c) H1
theorem b2t(ha:PT X a tA):PW X (.BoolOp .Or [a] pos) tA:=by
 intro wh pins s σ H Q I h
 refine isTrue_or (w9 (ha pins s σ H Q I h) fun c s1 e=> ?_)
 cases c with
 |false=>exact isTrue_or_nil e
 |true=>exact e
theorem b3m(ha:PT X a tA)(hb:PW X (.BoolOp .Or (b::u5) pos) tB'):PW X (.BoolOp .Or (a::b::u5) pos) (tOr tA tB'):=by
 intro wh pins s σ H Q I h
 refine isTrue_or (w9 (ha pins s σ H _ I h) fun c s1 ⟨H1,I1,q1⟩=> ?_)
 cases c with
 |true=>exact⟨H1,I1,q1⟩
 |false=>exact hb wh pins s1 σ H1 Q I1 q1
theorem b2r(ha:PT X a tA):PT X (.UnaryOp .Not a pos) (b33 tA):=by
 intro pins s σ H Q I h
 exact isTrue_not (ha pins s σ H (fun c H1=>Q (!c) H1) I h)
def b3r(ta tb:TE):TE:=fun σ H Q=>ta σ H fun x H1=>∃c,x= .bl c/\if c=true then tb σ H1 Q else Q (.bl false) H1
def b34(ta tb:TE):TE:=fun σ H Q=>ta σ H fun x H1=>∃c,x= .bl c/\if c=true then Q (.bl true) H1 else tb σ H1 Q
def b3A(ta:TE):TE:=fun σ H Q=>ta σ H fun x H1=>∃c,x= .bl c/\Q (.bl (!c)) H1
theorem b2l{op}{t:TE}(h:PE X a t):PE X (.BoolOp op [a] pos) t:=fun pins s σ H Q I hw=>BoolOp_one (h pins s σ H Q I hw)
theorem b2e(ha:PE X a ta)(hb:PE X (.BoolOp .And (b::u5) pos) tb):PE X (.BoolOp .And (a::b::u5) pos) (b3r ta tb):=by
 intro pins s σ H Q I h
 refine BoolOp_and (w9 (ha pins s σ H _ I h) fun v s1 ⟨x,H1,I1,r1,q1⟩=> ?_)
 obtain⟨c,rfl,q1⟩:=q1
 cases r1
 refine wpAny_truthy_bool ?_
 cases c with
 |true=>exact hb pins s1 σ H1 Q I1 q1
 |false=>exact⟨.bl false,H1,I1,rfl,q1⟩
theorem b08(ha:PE X a ta)(hb:PE X (.BoolOp .Or (b::u5) pos) tb):PE X (.BoolOp .Or (a::b::u5) pos) (b34 ta tb):=by
 intro pins s σ H Q I h
 refine BoolOp_or (w9 (ha pins s σ H _ I h) fun v s1 ⟨x,H1,I1,r1,q1⟩=> ?_)
 obtain⟨c,rfl,q1⟩:=q1
 cases r1
 refine wpAny_truthy_bool ?_
 cases c with
 |false=>exact hb pins s1 σ H1 Q I1 q1
 |true=>exact⟨.bl true,H1,I1,rfl,q1⟩
theorem b2k(ha:PE X a ta):PE X (.UnaryOp .Not a pos) (b3A ta):=by
 intro pins s σ H Q I h
 refine UnaryOp_ (w9 (ha pins s σ H _ I h) fun v s1 ⟨x,H1,I1,r1,q1⟩=> ?_)
 obtain⟨c,rfl,q1⟩:=q1
 cases r1
 exact not_of (wpAny_truthy_bool ⟨.bl (!c),H1,I1,rfl,q1⟩)
end
def H9(K:AD)(H:Hp)(a:AB)(xs:List V):Prop:=
 Rd H a (.lst xs)\/
  ∃(o:Obj) (its:Array AA) (n:Nat),K.lookup a=some o/\o.cls= .type "list"/\o.dict=none/\o.data= .seq its n/\its.size<=AL/\g6 xs its.toList
def M5(K:AD)(H:Hp)(a:AB)(xs:List V):Prop:=
 Rd H a (.tup xs)\/
  ∃(o:Obj) (its:Array AA) (n:Nat),K.lookup a=some o/\o.cls= .type "tuple"/\o.data= .seq its n/\its.size<=AL/\g6 xs its.toList
def b3H:AA->Option V
 | .none=>some .non
 | .bool b=>some (.bl b)
 | .int i _=>some (.int i)
 | .str x _=>some (.str x)
 | .bytes b _=>some (.byt b)
 | .float b _=>some (.flt b)
 | .ref a=>some (.ref a)
 | .type n=>some (.ty n)
 |_=>none
theorem i6.abs{x:V}{u:AA}(r:i6 x u):b3H u=some x:=by
 cases x with
 |non=>cases r;rfl
 |bl _=>cases r;rfl
 |int _=>obtain⟨t,rfl⟩:=r;rfl
 |str _=>obtain⟨t,rfl⟩:=r;rfl
 |byt _=>obtain⟨t,rfl⟩:=r;rfl
 |flt _=>obtain⟨t,rfl⟩:=r;rfl
 |ref _=>cases r;rfl
 |ty _=>cases r;rfl
theorem i6.inj{x y:V}{u:AA}(r:i6 x u)(q:i6 y u):x=y:=Option.some.inj (r.abs.symm.trans q.abs)
theorem g6.inj:∀{xs ys:List V} {us:List AA},g6 xs us->g6 ys us->xs=ys
 |_,_,_,.nil,.nil=>rfl
 |_,_,_,.cons r t,.cons r' t'=>by rw [r.inj r',g6.inj t t']
section
variable {X:Cx}{pins:List (AB×Obj)}{σ:St}{H:Hp}{s:AC}{a:AB}{xs ys:List V}
theorem H9.of{K:AD}(h:H a=some (.lst xs)):H9 K H a xs:= .inl (.inl h)
theorem M5.of{K:AD}(h:H a=some (.tup xs)):M5 K H a xs:= .inl (.inl h)
theorem g4.list(I:g4 X pins σ H s)(h:H9 X.K H a xs):∃its:List AA,g6 xs its/\PlainL s.heap a its.toArray/\xs.length<=AL:=by
 rcases h with h|⟨o,its,n,hk,hc,hd,hs,hz,r⟩
 ·obtain⟨z,its,n,r,e⟩:=h.ok I.hok
  exact⟨its,r,⟨_,n,e,rfl,rfl,rfl⟩,z⟩
 ·refine⟨its.toList,r,⟨o,n,I.kIn a o hk,hc,hd,by simpa using hs⟩, ?_⟩
  have e:=r.length
  simp only [Array.length_toList] at e
  lia
theorem g4.tuple(I:g4 X pins σ H s)(h:M5 X.K H a xs):∃its:List AA,g6 xs its/\IsTup s.heap a its.toArray/\xs.length<=AL:=by
 rcases h with h|⟨o,its,n,hk,hc,hs,hz,r⟩
 ·obtain⟨z,its,r,p⟩:=h.ok I.hok
  exact⟨its,r,p,z⟩
 ·refine⟨its.toList,r,⟨o,I.kIn a o hk,hc,n,by simpa using hs⟩, ?_⟩
  have e:=r.length
  simp only [Array.length_toList] at e
  lia
theorem g4.list_inj(I:g4 X pins σ H s)(h:H9 X.K H a xs)(h':H9 X.K H a ys):xs=ys:=by
 obtain⟨its,r,⟨o,n,e,_,_,d⟩,_⟩:=I.list h
 obtain⟨its',r',⟨o',n',e',_,_,d'⟩,_⟩:=I.list h'
 rw [e] at e';cases e'
 rw [d] at d'
 injection d' with d1 _
 have:its=its':=by simpa using congrArg Array.toList d1
 subst this
 exact r.inj r'
theorem g4.tuple_inj(I:g4 X pins σ H s)(h:M5 X.K H a xs)(h':M5 X.K H a ys):xs=ys:=by
 obtain⟨its,r,⟨o,e,_,n,d⟩,_⟩:=I.tuple h
 obtain⟨its',r',⟨o',e',_,n',d'⟩,_⟩:=I.tuple h'
 rw [e] at e';cases e'
 rw [d] at d'
 injection d' with d1 _
 have:its=its':=by simpa using congrArg Array.toList d1
 subst this
 exact r.inj r'
end
abbrev Cx.wish(X:Cx)(E:AA->AC->Prop):Cx:={X with xe:=E}
abbrev Cx.nox(X:Cx):Cx:=X.wish fun _ _=>False
theorem Cx.Ok.wish{X:Cx}(ok:X.Ok)(E:AA->AC->Prop):(X.wish E).Ok:=
 ⟨ok.mod,ok.kind,ok.glob,ok.blt,ok.above,ok.inj,ok.has,ok.cab,ok.hd,ok.frames,ok.stk,ok.exf,ok.bs,ok.bsz,ok.noex,ok.exfs,ok.funs,ok.frf⟩
theorem Cx.Ok.unwish{X:Cx}{E:AA->AC->Prop}(ok:(X.wish E).Ok):X.Ok:=
 ⟨ok.mod,ok.kind,ok.glob,ok.blt,ok.above,ok.inj,ok.has,ok.cab,ok.hd,ok.frames,ok.stk,ok.exf,ok.bs,ok.bsz,ok.noex,ok.exfs,ok.funs,ok.frf⟩
section
variable {X:Cx}{pins:List (AB×Obj)}{σ:St}{H:Hp}{s:AC}{E:AA->AC->Prop}
theorem g4.wish(I:g4 X pins σ H s)(E:AA->AC->Prop):g4 (X.wish E) pins σ H s:=⟨I.ok.wish E,I.os,I.bare,I.base,I.loc,I.cell,I.free,I.freeC,I.pin,I.hok,I.len⟩
theorem g4.unwish(I:g4 (X.wish E) pins σ H s):g4 X pins σ H s:=⟨I.ok.unwish,I.os,I.bare,I.base,I.loc,I.cell,I.free,I.freeC,I.pin,I.hok,I.len⟩
theorem SP.unwish{D:C8}{f:Flow}{s':AC}(h:SP (X.wish E) pins D f s'):SP X pins D f s':=by
 cases f with
 |next=>obtain⟨σ',H',I,q⟩:=h;exact⟨σ',H',I.unwish,q⟩
 |brk=>obtain⟨σ',H',I,q⟩:=h;exact⟨σ',H',I.unwish,q⟩
 |cont=>obtain⟨σ',H',I,q⟩:=h;exact⟨σ',H',I.unwish,q⟩
 |ret u=>obtain⟨v,σ',H',I,r,q⟩:=h;exact⟨v,σ',H',I.unwish,r,q⟩
theorem PE.nox{e:AE}{t:TE}(h:PE X.nox e t):PE X e t:=fun pins s σ H Q I hw=>
 wpAny_mono (h pins s σ H Q (I.wish _) hw) (fun _ _ ⟨v,H',I',r,q⟩=>⟨v,H',I'.unwish,r,q⟩) fun _ _ z=>False.elim z
theorem PT.nox{e:AE}{t:TT}(h:PT X.nox e t):PT X e t:=fun pins s σ H Q I hw=>
 wpAny_mono (h pins s σ H Q (I.wish _) hw) (fun _ _ ⟨H',I',q⟩=>⟨H',I'.unwish,q⟩) fun _ _ z=>False.elim z
theorem PSs.nox{st:List Stmt}{t:TS}(h:PSs X.nox st t):PSs X st t:=fun pins s σ H D I hw=>
 wpAny_mono (h pins s σ H D (I.wish _) hw) (fun _ _ q=>q.unwish) fun _ _ z=>False.elim z
end
section
variable {X:Cx}{st:Stmt}{u5:List Stmt}{t u:TS}{e:AE}{te:TE}{pos:Pos}
def b3y:TS:=fun D σ H=>D.nx σ H
def b36(t u:TS):TS:=fun D σ H=>t {D with nx:=u D} σ H
theorem a6q:PSs X [] b3y:=fun _ _ σ H _ I h=>wpAny_execs_nil ⟨σ,H,I,h⟩
theorem C6(h1:PS X st t)(h2:PSs X u5 u):PSs X (st::u5) (b36 t u):=by
 intro pins s σ H D I h
 refine wpAny_execs_cons (w9 (h1 pins s σ H {D with nx:=u D} I h) fun f s1 q=> ?_)
 cases f with
 |next=>
  obtain⟨σ',H',I',q⟩:=q
  exact h2 pins s1 σ' H' D I' q
 |ret v=>exact q
 |brk=>exact q
 |cont=>exact q
theorem a6r(h1:PS X st t):PSs X [st] t:=by
 intro pins s σ H D I h
 refine wpAny_execs_cons (w9 (h1 pins s σ H D I h) fun f s1 q=> ?_)
 cases f with
 |next=>exact wpAny_execs_nil q
 |ret v=>exact q
 |brk=>exact q
 |cont=>exact q
theorem g4.quiet{pins:List (AB×Obj)}{σ:St}{H:Hp}{s:AC}(I:g4 X pins σ H s):interactive X.env=false:=by simp [interactive,I.ok.kind]
def b3x(te:TE):TS:=fun D σ H=>te σ H fun _ H1=>D.nx σ H1
theorem a6p(he:PE X e te)(hs:swapsWith e none pos.line X.env=pure false:=by rfl):PS X (.Expr e pos) (b3x te):=by
 intro pins s σ H D I h
 exact wpAny_Expr_any (w9 (he pins s σ H _ I h) fun v s1 ⟨x,H1,I1,r1,q1⟩=>⟨σ,H1,I1,q1⟩) I.quiet hs
def b35(te:TE):TS:=fun D σ H=>te σ H D.rt
theorem a50(he:PE X e te):PS X (.Return (some e) pos) (b35 te):=by
 intro pins s σ H D I h
 exact wpAny_Return_some (w9 (he pins s σ H _ I h) fun v s1 ⟨x,H1,I1,r1,q1⟩=>⟨x,σ,H1,I1,r1,q1⟩)
def b31(c:TT)(t u:TS):TS:=fun D σ H=>c σ H fun b H1=>if b=true then t D σ H1 else u D σ H1
theorem b1a{c:AE}{a b:List Stmt}{tc:TT}(hc:PT X c tc)(ha:PSs X a t)(hb:PSs X b u):PS X (.If c a b pos) (b31 tc t u):=by
 intro pins s σ H D I h
 refine wpAny_If (w9 (hc pins s σ H _ I h) fun d s1 ⟨H1,I1,q1⟩=> ?_)
 cases d with
 |true=>exact ha pins s1 σ H1 D I1 q1
 |false=>exact hb pins s1 σ H1 D I1 q1
end
abbrev TG:=V->St->Hp->(St->Hp->Prop)->Prop
abbrev TGs:=List V->St->Hp->(St->Hp->Prop)->Prop
def PG(X:Cx)(target:AE)(t:TG):Prop:=
 ∀(pins:List (AB×Obj)) (s:AC) (σ:St) (H:Hp) (v:V) (u:AA) (Q:St->Hp->Prop),g4 X pins σ H s->i6 v u->t v σ H Q->
  AH (model X.prog X.w) X.A (assign target X.env u) (fun _ s'=>∃σ' H',g4 X pins σ' H' s'/\Q σ' H') X.xe s
def PGs(X:Cx)(ts:List AE)(t:TGs):Prop:=
 ∀(pins:List (AB×Obj)) (s:AC) (σ:St) (H:Hp) (vs:List V) (us:List AA) (Q:St->Hp->Prop),g4 X pins σ H s->g6 vs us->t vs σ H Q->
  AH (model X.prog X.w) X.A (assignInOrder ((assignEach ts X.env).map (·.2)) us) (fun _ s'=>∃σ' H',g4 X pins σ' H' s'/\Q σ' H') X.xe s
abbrev TIp:=V->V->Hp->VK->Prop
def PIp(X:Cx)(op:Operator)(t:TIp):Prop:=
 ∀(pins:List (AB×Obj)) (s:AC) (σ:St) (H:Hp) (x y:V) (v u:AA) (Q:VK),g4 X pins σ H s->i6 x v->i6 y u->t x y H Q->
  AH (model X.prog X.w) X.A (inplaceOp op v u) (EP X pins σ Q) X.xe s
section
variable {X:Cx}{pos:Pos}
def a1R(i:Nat):TG:=fun v σ H Q=>Q (σ.set i (some v)) H
theorem q8{i:Nat}{x:Str}(hN:X.N.Nodup)(hi:X.N[i]?=some x)(hx:Loc X.env.scope x)(hf:X.fn x=true\/X.env.scope.names.lookup x=some .local:=by first|exact .inl rfl|exact .inr rfl|assumption):PG X (.Name x pos) (a1R i):=by
 intro pins s σ H v u Q I r h
 exact wpAny_assign_Name (a2I I hN hi hx r (fun s' I'=>⟨_,H,I',h⟩) hf)
def b25:TGs:=fun vs σ H Q=>vs=[]/\Q σ H
def b02(t:TG)(u:TGs):TGs:=fun vs σ H Q=>∃v r,vs=v::r/\t v σ H fun σ' H'=>u r σ' H' Q
theorem a4a:PGs X [] b25:=by
 intro pins s σ H vs us Q I r h
 obtain⟨e,h⟩:=h
 subst e
 cases r
 exact assignInOrder_nil ⟨σ,H,I,h⟩
theorem M1{e:AE}{es:List AE}{t:TG}{u:TGs}(h1:PG X e t)(h2:PGs X es u)
 (hs:(assignEach (e::es) X.env).map (·.2)=assign e X.env::(assignEach es X.env).map (·.2):=by rfl):PGs X (e::es) (b02 t u):=by
 intro pins s σ H vs us Q I r h
 obtain⟨v,vr,e1,h⟩:=h
 subst e1
 cases r with
 |cons r rr=>
  rw [hs]
  refine assignInOrder_cons (w9 (h1 pins s σ H _ _ _ I r h) fun _ s1 ⟨σ1,H1,I1,q1⟩=> ?_)
  exact h2 pins s1 σ1 H1 _ _ Q I1 rr q1
def b26(K:AD)(n:Nat)(t:TGs):TG:=fun v σ H Q=>∃a xs,v= .ref a/\M5 K H a xs/\xs.length=n/\t xs σ H Q
theorem a8U{es:List AE}{k:Nat}{t:TGs}{n:Nat}(hc:X.calm=true)(h:PGs X es t)
 (hn:(assignEach es X.env).length=n:=by rfl) (hst:(assignEach es X.env).findIdx? (·.1)=none:=by rfl):PG X (.Tuple es k pos) (b26 X.K n t):=by
 intro pins s σ H v u Q I r hw
 obtain⟨a,xs,e1,hq,hl,hw⟩:=hw
 subst e1
 cases r
 obtain⟨its,rv,ht,hz⟩:=I.tuple hq
 refine assign_Tuple_tuple (I.ok.hd hc) ht (by simp [hn,<-hl,rv.length]) hst fun h' hx=> ?_
 have I1:g4 X pins σ H {s with heap:=h'}:=I.kept (t':=s.toks) fun b o e=>hx b o (Al (AV e)) e
 exact h pins _ σ H xs _ Q I1 (by simpa using rv) hw
def b3s(te:TE)(g:TG):TS:=fun D σ H=>te σ H fun x H1=>g x σ H1 D.nx
theorem b2o{tg e:AE}{te:TE}{g:TG}(he:PE X e te)(hg:PG X tg g)(hs:swapsWithSole [tg] e pos.line X.env=pure false:=by rfl)(hw:swappedStores [tg] e X.env=pure none:=by rfl)
 (h1:(assignEach [tg] X.env).map (·.2)=[assign tg X.env]:=by rfl):PS X (.Assign [tg] e pos) (b3s te g):=by
 intro pins s σ H D I h
 refine wpAny_Assign_stores (w9 (he pins s σ H _ I h) fun v s1 ⟨x,H1,I1,r1,q1⟩=> ?_) hs hw
 rw [h1]
 exact w9 (hg pins s1 σ H1 x v _ I1 r1 q1) fun _ s2 q=>q
theorem a2t{i:Nat}{x:Str}{e:AE}{te:TE}{pos':Pos}(hN:X.N.Nodup)(hi:X.N[i]?=some x)(hx:Loc X.env.scope x)(he:PE X e te)(hs:swapsWith e (some (.Name x pos')) pos.line X.env=pure false:=by rfl)(hf:X.fn x=true\/X.env.scope.names.lookup x=some .local:=by first|exact .inl rfl|exact .inr rfl|assumption):
 PS X (.Assign [.Name x pos'] e pos) (b3s te (a1R i)):=by
 intro pins s σ H D I h
 refine wpAny_Assign_Name (w9 (he pins s σ H _ I h) fun v s1 ⟨y,H1,I1,r1,q1⟩=> ?_) hs
 exact a2I I1 hN hi hx r1 (fun s2 I2=>⟨_,H1,I2,q1⟩) hf
def b3Y(i:Nat)(te:TE)(ti:TIp):TS:=fun D σ H=>∃x,σ[i]?=some (some x)/\te σ H fun y H1=>ti x y H1 fun z H2=>D.nx (σ.set i (some z)) H2
theorem b2p{i:Nat}{x:Str}{e:AE}{te:TE}{op:Operator}{ti:TIp}{pos':Pos}(hN:X.N.Nodup)(hi:X.N[i]?=some x)(hx:Loc X.env.scope x)(he:PE X e te)(ho:PIp X op ti)(hf:X.fn x=true\/X.env.scope.names.lookup x=some .local:=by first|exact .inl rfl|exact .inr rfl|assumption):
 PS X (.AugAssign (.Name x pos') op e pos) (b3Y i te ti):=by
 intro pins s σ H D I h
 obtain⟨v,e1,h⟩:=h
 obtain⟨m,hn,hl⟩:=I.loc
 have vis:Vis X.env.scope x:=by rcases hx with k|k;exact .inl k;exact .inr (.inl k)
 obtain⟨u,r,l⟩:=hl i x v hi e1 vis
 refine wpAny_AugAssign_Name ?_
 have go:AH (model X.prog X.w) X.A (eval e X.env) (fun w s₂=>AH (model X.prog X.w) X.A (inplaceOp op u w) (fun r s₃=>AH (model X.prog X.w) X.A (storeName X.env x r) (fun _=>SP X pins D .next) X.xe s₃) X.xe s₂) X.xe s:=by
  refine w9 (he pins s σ H _ I h) fun w s1 ⟨y,H1,I1,r1,q1⟩=> ?_
  refine w9 (ho pins s1 σ H1 v y u w _ I1 r r1 q1) fun z s2 ⟨zv,H2,I2,r2,q2⟩=> ?_
  exact a2I I2 hN hi hx r2 (fun s3 I3=>⟨_,H2,I3,q2⟩) hf
 rcases l with⟨hk,hm⟩|⟨hk,c,hc,hcell⟩
 ·exact wpAny_loadName_local I.ok.kind hk hn hm go
 ·rcases hk with hk|hk
  ·exact wpAny_loadName_cell I.ok.kind hk hc hcell go
  ·rcases hx with k|k
   ·have:X.env.scope.names.lookup x=some .free:=hk
    rw [k] at this;cases this
   ·have:X.env.scope.names.lookup x=some .free:=hk
    rw [k] at this;cases this
end
section
variable {X:Cx}{pos:Pos}
def b2A(c:TT)(tb:TS):TS:=fun D σ H=>∃W:Nat->St->Hp->Prop,(∃m,W m σ H)/\∀m σ H,W m σ H->
 c σ H fun b H1=>if b=true then ∃N:St->Hp->Prop,(∀σ' H',N σ' H'->∃m',m'<m/\W m' σ' H')/\tb {D with nx:=N,ct:=N,bk:=D.nx} σ H1 else D.nx σ H1
theorem a8W{c:AE}{body:List Stmt}{tc:TT}{tb:TS}(hp:PassesOwn (model X.prog X.w) X.A X.env X.xe)(hc:PT X c tc)(hb:PSs X body tb):PS X (.While c body [] pos) (b2A tc tb):=by
 intro pins s σ H D I h
 obtain⟨W,⟨m0,w0⟩,turn⟩:=h
 refine wpAny_While (codeAny_whileLoop (fun n s'=>∃σ' H',g4 X pins σ' H' s'/\W n σ' H') ?_ m0 ⟨σ,H,I,w0⟩)
 rintro n s1 ⟨σ1,H1,I1,w1⟩
 refine wpAny_passesOwn hp (w9 (hc pins s1 σ1 H1 _ I1 (turn n σ1 H1 w1)) fun b s2 ⟨H2,I2,q2⟩=> ?_)
 cases b with
 |true=>
  obtain⟨N,hN,q2⟩:=q2
  rw [if_pos rfl]
  refine wpAny_passesOwn hp (w9 (hb pins s2 σ1 H2 _ I2 q2) fun f s3 q3=> ?_)
  cases f with
  |next=>
   obtain⟨σ3,H3,I3,n3⟩:=q3
   obtain⟨m',hm,w3⟩:=hN σ3 H3 n3
   exact⟨m',hm,σ3,H3,I3,w3⟩
  |cont=>
   obtain⟨σ3,H3,I3,n3⟩:=q3
   obtain⟨m',hm,w3⟩:=hN σ3 H3 n3
   exact⟨m',hm,σ3,H3,I3,w3⟩
  |brk=>exact q3
  |ret v=>exact q3
 |false=>
  rw [if_neg Av]
  exact wpAny_execs_nil ⟨σ1,H2,I2,q2⟩
end
structure It where
 go:Nat->Hp->Prop
 yld:Nat->Hp->V->Hp->Prop
 stop:Nat->Hp->Prop
def a2M(X:Cx)(pins:List (AB×Obj))(H:Hp)(b:AB):Prop:=
 H b=none/\b≠X.env.locals/\b∉X.fs/\(b∈X.ex\/X.s₀.heap.objs.size<=b)/\(∀x c,X.env.cells.lookup x=some c->c≠b)/\∀p∈X.pn++pins,p.1≠b
theorem g4.fpOk{X:Cx}{pins:List (AB×Obj)}{σ:St}{H H':Hp}{s:AC}{b:AB}(I:g4 X pins σ H s)(hb:s.heap.objs.size<=b)(hn:H' b=none):a2M X pins H' b:=by
 refine⟨hn,Nat.ne_of_gt (Ay I.lt hb),I.nofs hb,.inr (Nat.le_trans I.sz hb),fun x c e z=> ?_,fun p hp z=> ?_⟩
 ·obtain⟨v,q⟩:=I.cell x c e
  exact absurd (Ay q.lt (by rw [z];exact hb)) (Nat.lt_irrefl _)
 ·exact absurd (Ay (AV (I.pin p hp).1) (by rw [z];exact hb)) (Nat.lt_irrefl _)
structure a7B(P:AG)(w:AF)(K:AD)(tg:AE)(J:It)(fp:List AB)(it:AB)(tn:Nat->Heap->Prop):Prop where
 mem:it∈fp
 obj:∀i h,tn i h->∀b∈fp,∃o,h.get? b=some o/\∀v,o.data≠.cell v
 keep:∀i h h',tn i h->(∀b∈fp,∀o,h.get? b=some o->h'.get? b=some o)->tn i h'
 item:∀(X:Cx),X.prog=P->X.w=w->X.K=K->X.calm=true->∀(i:Nat) (pins:List (AB×Obj)) (s:AC) (σ:St) (H:Hp) (E:AA->AC->Prop),g4 X pins σ H s->(∀b∈fp,a2M X pins H b)->tn i s.heap->J.go i H->
  AH (model P w) X.A (pyNext (.ref it)) (fun r s1=>∃u,r=some u/\
   AH (model P w) X.A (letOwnedTupleGo tg (.ref it) u) (fun _ s2=>∃x H',g4 X pins σ H' s2/\i6 x u/\J.yld i H x H'/\tn (i+1) s2.heap/\∀b∈fp,H' b=none) E s1) E s
 done:∀(X:Cx),X.prog=P->X.w=w->X.K=K->X.calm=true->∀(i:Nat) (pins:List (AB×Obj)) (s:AC) (σ:St) (H:Hp) (E:AA->AC->Prop),g4 X pins σ H s->(∀b∈fp,a2M X pins H b)->tn i s.heap->J.stop i H->
   AH (model P w) X.A (pyNext (.ref it)) (fun r s1=>r=none/\g4 X pins σ H s1) E s
 self:∀(A:AI) (i:Nat) (s:AC) (Q:AA->AC->Prop) (E:AA->AC->Prop),tn i s.heap->Q (.ref it) s->AH (model P w) A (pyIter (.ref it)) Q E s
abbrev TI:=St->Hp->(It->Hp->Prop)->Prop
def PIE(X:Cx)(pins:List (AB×Obj))(σ:St)(tg:AE)(R:It->Hp->Prop)(itv:AA)(s2:AC):Prop:=
 ∃(it:AB) (fp:List AB) (tn:Nat->Heap->Prop) (J:It) (H':Hp),itv= .ref it/\g4 X pins σ H' s2/\a7B X.prog X.w X.K tg J fp it tn/\tn 0 s2.heap/\(∀b∈fp,a2M X pins H' b)/\R J H'
def PI(X:Cx)(tg iter:AE)(wi:TI):Prop:=
 ∀(pins:List (AB×Obj)) (s:AC) (σ:St) (H:Hp) (R:It->Hp->Prop),g4 X pins σ H s->wi σ H R->
  AH (model X.prog X.w) X.A (eval iter X.env) (fun v s1=>AH (model X.prog X.w) X.A (pyIter v) (PIE X pins σ tg R) X.xe s1) X.xe s
theorem a8g{M:Model}{A:AI}{E:AA->AC->Prop}{s:AC}{tg:AE}{it:AB}{u:AA}{o:Obj}{n:String}{vs:Array AA}{Q:Unit->AC->Prop}(ho:s.heap.get? it=some o)(hc:o.cls= .type n)(hd:o.data= .fields vs)
 (hn:["enumerate","zip","dict_itemiterator","dict_reverseitemiterator","odict_iterator","itertools.zip_longest","itertools.pairwise"].contains n=false) (hQ:Q () s):AH M A (letOwnedTupleGo tg (.ref it) u) Q E s:=by
 unfold letOwnedTupleGo
 cases tg<;>first
  |exact AS hQ
  |(cases u<;>first
   |exact AS hQ
   |(refine AK (wpAny_load ho ?_)
     rw [hc,hd]
     show AH M A (if(["enumerate","zip","dict_itemiterator","dict_reverseitemiterator","odict_iterator","itertools.zip_longest","itertools.pairwise"].contains n && vs[0]?==some (rawInt _))=true then _ else _) Q E s
     rw [if_neg (by intro h;rw [hn,Bool.false_and] at h;cases h)]
     exact AS hQ))
def Itl(K:AD)(a:AB):It:=
 ⟨fun i H=>∃xs x,H9 K H a xs/\xs[i]?=some x,fun i H x H'=>H'=H/\∀xs,H9 K H a xs->xs[i]?=some x,fun i H=>∃xs,H9 K H a xs/\xs.length<=i⟩
def Itt(K:AD)(a:AB):It:=
 ⟨fun i H=>∃xs x,M5 K H a xs/\xs[i]?=some x,fun i H x H'=>H'=H/\∀xs,M5 K H a xs->xs[i]?=some x,fun i H=>∃xs,M5 K H a xs/\xs.length<=i⟩
def Itr(lo:Int)(n:Nat):It:=⟨fun i _=>i<n,fun i H x H'=>H'=H/\x= .int (lo+i),fun i _=>n<=i⟩
theorem a7s{P:AG}{w:AF}{K:AD}{tg:AE}(a it:AB):a7B P w K tg (Itl K a) [it] it (fun i h=>h.IsListIter it a i) where
 mem:=by simp
 obj:=fun i h st b hb=>by
  have e:b=it:=by simpa using hb
  subst e
  obtain⟨o,e,c,d⟩:=st
  exact⟨o,e,fun v z=>by rw [d] at z;cases z⟩
 keep:=fun i h h' st k=>st.at fun o e=>k it (by simp) o e
 item:=by
  intro X hP hw hK hc i pins s σ H E I hf st hg
  subst hP hw hK
  obtain⟨xs,x,hq,hx⟩:=hg
  obtain⟨its,rv,p,hz⟩:=I.list hq
  obtain⟨u,hu,ru⟩:=rv.get hx
  obtain⟨f0,f1,f2,f3,f4,f5⟩:=hf it (by simp)
  refine wpAny_pyNext_list_item st p.isList (x:=u) (by simpa using hu) fun h' st' sb=> ?_
  have I1:g4 X pins σ H {s with heap:=h'}:=I.turned (t':=s.toks) (fun b o hb e=>(sb.2 b hb).trans e) f0 f1 f3 f4 f5
  obtain⟨o,e,c,d⟩:=id st'
  exact⟨u,rfl,a8g (s:={s with heap:=h'}) e c d (by decide) ⟨x,H,I1,ru,⟨rfl,fun ys hy=>by rw [I.list_inj hy hq];exact hx⟩,st',fun b hb=>(hf b hb).1⟩⟩
 done:=by
   intro X hP hw hK hc i pins s σ H E I hf st hg
   subst hP hw hK
   obtain⟨xs,hq,hx⟩:=hg
   obtain⟨its,rv,p,hz⟩:=I.list hq
   obtain⟨f0,f1,f2,f3,f4,f5⟩:=hf it (by simp)
   have hl:=rv.length
   exact wpAny_pyNext_list_end (I.ok.hd hc) st p.isList (by simp;lia) fun h' eb=>⟨rfl,I.turned (t':=s.toks) (fun b o hb e=>eb b o hb e) f0 f1 f3 f4 f5⟩
 self:=fun _ _ _ _ _ st h=>wpAny_pyIter_listiter st h
theorem a55{P:AG}{w:AF}{K:AD}{tg:AE}(a it:AB):a7B P w K tg (Itt K a) [it] it (fun i h=>h.IsTupleIter it a i) where
 mem:=by simp
 obj:=fun i h st b hb=>by
  have e:b=it:=by simpa using hb
  subst e
  obtain⟨o,e,c,d⟩:=st
  exact⟨o,e,fun v z=>by rw [d] at z;cases z⟩
 keep:=fun i h h' st k=>st.at fun o e=>k it (by simp) o e
 item:=by
  intro X hP hw hK hc i pins s σ H E I hf st hg
  subst hP hw hK
  obtain⟨xs,x,hq,hx⟩:=hg
  obtain⟨its,rv,p,hz⟩:=I.tuple hq
  obtain⟨u,hu,ru⟩:=rv.get hx
  obtain⟨f0,f1,f2,f3,f4,f5⟩:=hf it (by simp)
  refine wpAny_pyNext_tuple_item st (show s.heap.IsTuple a its.toArray from p) (x:=u) (by simpa using hu) fun h' st' sb=> ?_
  have I1:g4 X pins σ H {s with heap:=h'}:=I.turned (t':=s.toks) (fun b o hb e=>(sb.2 b hb).trans e) f0 f1 f3 f4 f5
  obtain⟨o,e,c,d⟩:=id st'
  exact⟨u,rfl,a8g (s:={s with heap:=h'}) e c d (by decide) ⟨x,H,I1,ru,⟨rfl,fun ys hy=>by rw [I.tuple_inj hy hq];exact hx⟩,st',fun b hb=>(hf b hb).1⟩⟩
 done:=by
   intro X hP hw hK hc i pins s σ H E I hf st hg
   subst hP hw hK
   obtain⟨xs,hq,hx⟩:=hg
   obtain⟨its,rv,p,hz⟩:=I.tuple hq
   obtain⟨f0,f1,f2,f3,f4,f5⟩:=hf it (by simp)
   have hl:=rv.length
   exact wpAny_pyNext_tuple_end (I.ok.hd hc) st (show s.heap.IsTuple a its.toArray from p) (by simp;lia) fun h' eb=>⟨rfl,I.turned (t':=s.toks) (fun b o hb e=>eb b o hb e) f0 f1 f3 f4 f5⟩
 self:=fun _ _ _ _ _ st h=>wpAny_pyIter_tupleiter st h
theorem a54{P:AG}{w:AF}{K:AD}{tg:AE}(it:AB)(lo:Int)(n:Nat):a7B P w K tg (Itr lo n) [it] it (fun i h=>IsRangeIter h it (lo+(i:Nat)*1) ((n:Int) - (i:Nat)) 1) where
 mem:=by simp
 obj:=fun i h st b hb=>by
  have e:b=it:=by simpa using hb
  subst e
  exact⟨_,st,fun v z=>by
   have z':Data.fields _=Data.cell v:=z
   cases z'⟩
 keep:=fun i h h' st k=>k it (by simp) _ st
 item:=by
  intro X hP hw hK hc i pins s σ H E I hf st hg
  subst hP hw hK
  obtain⟨f0,f1,f2,f3,f4,f5⟩:=hf it (by simp)
  have W:=Walks.range (prog:=X.prog) (w:=X.w) (I.ok.hd hc) it lo 1 n
  refine W.item i s _ _ hg st fun v h' tk hv st' kk=> ?_
  obtain⟨t,rfl⟩:=hv
  have I1:g4 X pins σ H {s with heap:=h',toks:=tk}:=I.turned (fun b o hb e=>kk b o (by simpa using hb) e) f0 f1 f3 f4 f5
  refine⟨_,rfl,a8g (s:={s with heap:=h',toks:=tk}) (n:="range_iterator") st' rfl rfl (by decide) ⟨.int (lo+i),H,I1,⟨t, ?_⟩,⟨rfl,rfl⟩,st',fun b hb=>(hf b hb).1⟩⟩
  rw [Int.mul_one]
 done:=by
   intro X hP hw hK hc i pins s σ H E I hf st hg
   subst hP hw hK
   obtain⟨f0,f1,f2,f3,f4,f5⟩:=hf it (by simp)
   exact wpAny_pyNext_range_end (I.ok.hd hc) st (by have:n<=i:=hg;lia) fun h' eb=>⟨rfl,I.turned (t':=s.toks) (fun b o hb e=>eb b o hb e) f0 f1 f3 f4 f5⟩
 self:=fun _ _ _ _ _ st h=>wpAny_pyIter_rangeiter st h
section
variable {X:Cx}{tg:AE}
theorem a80{pins:List (AB×Obj)}{σ:St}{H:Hp}{s:AC}{R:It->Hp->Prop}{E:AA->AC->Prop}{lo hi:Int}{t u v:Tok}{tk:Nat}(I:g4 X pins σ H s)(h1: -(2 ^ 62)<=lo)(h2:lo<2 ^ 62)(h3: -(2 ^ 62)<=hi)(h4:hi<2 ^ 62)
 (q:R (Itr lo (hi - lo).toNat) H):AH (model X.prog X.w) X.A (pyIter (.ref s.heap.objs.size)) (PIE X pins σ tg R) E {s with heap:=s.heap.push {cls:= .type "range",data:= .fields #[.int lo t,.int hi u,.int 1 v]},toks:=tk}:=by
 refine wpAny_pyIter_range (IsRange.new ..) (small_one h1 h2 h3 h4) ?_
 have I1:g4 X pins σ H {s with heap:=s.heap.push {cls:= .type "range",data:= .fields #[.int lo t,.int hi u,.int 1 v]},toks:=tk}:=I.kept fun b o e=>Ab _ e
 refine⟨(s.heap.push {cls:= .type "range",data:= .fields #[.int lo t,.int hi u,.int 1 v]}).objs.size,[(s.heap.push {cls:= .type "range",data:= .fields #[.int lo t,.int hi u,.int 1 v]}).objs.size],_,_,H,rfl,
  I1.kept (t':=tk) fun b o e=>Ab _ e,a54 _ lo (hi - lo).toNat, ?_,fun b hb=> ?_,q⟩
 ·have e1:lo+((0:Nat):Int)*1=lo:=by simp
  have e2:(((hi - lo).toNat:Nat):Int) - ((0:Nat):Int)=Builtin.Range.rangeSize lo hi 1:=by rw [rangeSize_one];split<;>lia
  show IsRangeIter _ _ (lo+((0:Nat):Int)*1) ((((hi - lo).toNat:Nat):Int) - ((0:Nat):Int)) 1
  rw [e1,e2]
  exact At _ rfl
 ·have e:b=(s.heap.push {cls:= .type "range",data:= .fields #[.int lo t,.int hi u,.int 1 v]}).objs.size:=by simpa using hb
  subst e
  exact I1.fpOk (AO _) (I1.hok.fresh (AO _))
def b28(ta:TA):TI:=fun σ H R=>ta σ H fun vs H1=>∃j:Int,vs=[.int j]/\ -(2 ^ 62)<=j/\j<2 ^ 62/\R (Itr 0 j.toNat) H1
theorem a3n{a:AE}{ta:TA}{p pos:Pos}(hg:Gl X "range")(hm:X.mg "range"=none)(ha:PA X [a] ta)(hs:AN [a] X.env=[(false,eval a X.env)]:=by rfl):PI X tg (.Call (.Name "range" p) [a] [] pos) (b28 ta):=by
 intro pins s σ H R I h
 refine Call_ (a14 I hg hm boot_range (PyProof.Rows.callWith_type1 (w9 (ha pos pins s σ H _ I h) fun us s1 ⟨vs,H1,I1,r1,q1⟩=> ?_) hs rfl))
 obtain⟨j,e,q1,q2,q⟩:=q1
 subst e
 cases r1 with
 |cons r rr=>
  cases rr
  obtain⟨t,rfl⟩:=r
  exact call_range_1 (a80 I1 (by lia) (by lia) q1 q2 (by simpa using q))
def b30(wi:TI)(g:TG)(tb:TS):TS:=fun D σ H=>wi σ H fun J H1=>∃W:Nat->Nat->St->Hp->Prop,(∃m,W 0 m σ H1)/\∀i m σ H,W i m σ H->
 (J.stop i H/\D.nx σ H)\/(J.go i H/\∃N:St->Hp->Prop,(∀σ' H',N σ' H'->∃m',m'<m/\W (i+1) m' σ' H')/\∀x H',J.yld i H x H'->g x σ H' fun σ2 H2=>tb {D with nx:=N,ct:=N,bk:=D.nx} σ2 H2)
def a4b(fp:List AB)(h:Heap):List (AB×Obj):=fp.filterMap fun b=>(h.get? b).map fun o=>(b,o)
theorem a2c{fp:List AB}{h:Heap}{b:AB}{o:Obj}(hb:b∈fp)(e:h.get? b=some o):(b,o)∈a4b fp h:=List.mem_filterMap.mpr ⟨b,hb,by rw [e];rfl⟩
theorem a7a{fp:List AB}{h:Heap}{p:AB×Obj}(hp:p∈a4b fp h):p.1∈fp/\h.get? p.1=some p.2:=by
 obtain⟨b,hb,e⟩:=List.mem_filterMap.mp hp
 cases q:h.get? b with
 |none=>rw [q] at e;cases e
 |some o=>
  rw [q] at e
  have e':(b,o)=p:=Option.some.inj e
  subst e'
  exact⟨hb,q⟩
theorem g4.pinned{pins:List (AB×Obj)}{σ:St}{H:Hp}{s:AC}{fp:List AB}(I:g4 X pins σ H s)(hf:∀b∈fp,a2M X pins H b)(ho:∀b∈fp,∃o,s.heap.get? b=some o/\∀v,o.data≠.cell v):g4 X (pins++a4b fp s.heap) σ H s:=
 I.pins_of fun p hp=>(Am.mp hp).elim (fun z=>I.pin p (Ax _ z)) fun z=>by
  obtain⟨hb,e⟩:=a7a z
  obtain⟨f0,f1,f2,_⟩:=hf p.1 hb
  obtain⟨o,e',d⟩:=ho p.1 hb
  rw [e] at e';cases e'
  exact⟨e,f0,f1,f2,d⟩
theorem g4.unpinned{pins pl:List (AB×Obj)}{σ:St}{H:Hp}{s:AC}(I:g4 X (pins++pl) σ H s):g4 X pins σ H s:=I.pins_of fun p hp=>I.pin p (Ax _ (BB _ hp))
theorem a2s{iter:AE}{body:List Stmt}{wi:TI}{g:TG}{tb:TS}{pos:Pos}(hp:PassesOwn (model X.prog X.w) X.A X.env X.xe)(hc:X.calm=true)(hi:PI X tg iter wi)(hg:PG X tg g)(hb:PSs X body tb)
 (hs:∀x,foldedSetIterable iter X.env x=pure x:=by intro _;rfl):PS X (.For tg iter body [] pos) (b30 wi g tb):=by
 intro pins s σ H D I h
 refine wpAny_For (w9 (hi pins s σ H _ I h) fun v s1 h1=>w9 h1 fun itv s2 h2=> ?_) hs
 obtain⟨it,fp,tn,J,H2,e,I2,T,st2,f2,W,⟨m0,w0⟩,turn⟩:=h2
 subst e
 have stat:∀{H':Hp},(∀b∈fp,H' b=none)->∀b∈fp,a2M X pins H' b:=fun hn b hb=>⟨hn b hb,(f2 b hb).2⟩
 refine codeAny_forLoop_any (fun n s'=>∃i σ' H',g4 X pins σ' H' s'/\tn i s'.heap/\(∀b∈fp,H' b=none)/\W i n σ' H') ?_ m0 ⟨0,σ,H2,I2,st2,fun b hb=>(f2 b hb).1,w0⟩
 rintro n s3 ⟨i,σ3,H3,I3,st3,fr3,w3⟩
 rcases turn i n σ3 H3 w3 with⟨stop,qn⟩|⟨go,N,hN,step⟩
 ·refine wpAny_passesOwn hp (w9 (T.done X rfl rfl rfl hc i pins s3 σ3 H3 X.xe I3 (stat fr3) st3 stop) fun r s4 ⟨hr,I4⟩=> ?_)
  subst hr
  exact wpAny_execs_nil ⟨σ3,H3,I4,qn⟩
 ·refine wpAny_passesOwn hp (w9 (T.item X rfl rfl rfl hc i pins s3 σ3 H3 X.xe I3 (stat fr3) st3 go) fun r s4 ⟨u,hr,h4⟩=> ?_)
  subst hr
  refine wpAny_passesOwn hp (w9 h4 fun _ s5 ⟨x,H5,I5,r5,y5,st5,fr5⟩=> ?_)
  have I5':=I5.pinned (stat fr5) (T.obj _ _ st5)
  refine wpAny_passesOwn hp (w9 (hg _ s5 σ3 H5 x u _ I5' r5 (step x H5 y5)) fun _ s6 ⟨σ6,H6,I6,q6⟩=> ?_)
  refine wpAny_passesOwn hp (w9 (hb _ s6 σ6 H6 _ I6 q6) fun f s7 q7=> ?_)
  have again:∀{σ7:St} {H7:Hp},g4 X (pins++a4b fp s5.heap) σ7 H7 s7->N σ7 H7->∃m,m<n/\∃i σ' H',g4 X pins σ' H' s7/\tn i s7.heap/\(∀b∈fp,H' b=none)/\W i m σ' H':=fun {σ7 H7} I7 n7=>by
   obtain⟨m',hm,w7⟩:=hN σ7 H7 n7
   refine⟨m',hm,i+1,σ7,H7,I7.unpinned,T.keep _ _ _ st5 fun b hb o e=>(I7.pin (b,o) (Ax _ (Ax _ (a2c hb e)))).1,fun b hb=> ?_,w7⟩
   obtain⟨o,e,d⟩:=T.obj _ _ st5 b hb
   exact(I7.pin (b,o) (Ax _ (Ax _ (a2c hb e)))).2.1
  cases f with
  |next=>obtain⟨σ7,H7,I7,n7⟩:=q7;exact again I7 n7
  |cont=>obtain⟨σ7,H7,I7,n7⟩:=q7;exact again I7 n7
  |brk=>obtain⟨σ7,H7,I7,q7⟩:=q7;exact⟨σ7,H7,I7.unpinned,q7⟩
  |ret v=>obtain⟨x7,σ7,H7,I7,r7,q7⟩:=q7;exact⟨x7,σ7,H7,I7.unpinned,r7,q7⟩
end
theorem a4P{K:AD}{a:AB}{xs:List V}{g:TG}{tb:TS}{D:C8}{σ:St}{H:Hp}(Pv:Nat->St->Hp->Prop)(h0:Pv 0 σ H)(hl:∀i σ H,i<=xs.length->Pv i σ H->H9 K H a xs)
 (hs:∀i x σ H,xs[i]?=some x->Pv i σ H->g x σ H fun σ2 H2=>tb {D with nx:=Pv (i+1),ct:=Pv (i+1),bk:=D.nx} σ2 H2) (hd:∀σ H,Pv xs.length σ H->D.nx σ H):
 ∃W:Nat->Nat->St->Hp->Prop,(∃m,W 0 m σ H)/\∀i m σ H,W i m σ H->
  ((Itl K a).stop i H/\D.nx σ H)\/((Itl K a).go i H/\∃N:St->Hp->Prop,(∀σ' H',N σ' H'->∃m',m'<m/\W (i+1) m' σ' H')/\∀x H',(Itl K a).yld i H x H'->g x σ H' fun σ2 H2=>tb {D with nx:=N,ct:=N,bk:=D.nx} σ2 H2):=by
 refine⟨fun i m σ H=>m=xs.length - i/\i<=xs.length/\Pv i σ H,⟨xs.length,by simp,Nat.zero_le _,h0⟩, ?_⟩
 rintro i m σ H ⟨rfl,hi,p⟩
 have q:=hl i σ H hi p
 by_cases hlt:i<xs.length
 ·refine .inr ⟨⟨xs,xs[i],q,by simp [hlt]⟩,Pv (i+1),fun σ' H' p'=>⟨xs.length - (i+1),by lia,rfl,hlt,p'⟩,fun x H' y=> ?_⟩
  obtain⟨e,y⟩:=y
  subst e
  exact hs i x σ _ (y xs q) p
 ·have e:i=xs.length:=by lia
  subst e
  exact .inl ⟨⟨xs,q,AO _⟩,hd σ H p⟩
theorem a6j{K:AD}{a:AB}{xs:List V}{g:TG}{tb:TS}{D:C8}{σ:St}{H:Hp}(Pv:Nat->St->Hp->Prop)(h0:Pv 0 σ H)(hl:∀i σ H,i<=xs.length->Pv i σ H->M5 K H a xs)
 (hs:∀i x σ H,xs[i]?=some x->Pv i σ H->g x σ H fun σ2 H2=>tb {D with nx:=Pv (i+1),ct:=Pv (i+1),bk:=D.nx} σ2 H2) (hd:∀σ H,Pv xs.length σ H->D.nx σ H):
 ∃W:Nat->Nat->St->Hp->Prop,(∃m,W 0 m σ H)/\∀i m σ H,W i m σ H->
  ((Itt K a).stop i H/\D.nx σ H)\/((Itt K a).go i H/\∃N:St->Hp->Prop,(∀σ' H',N σ' H'->∃m',m'<m/\W (i+1) m' σ' H')/\∀x H',(Itt K a).yld i H x H'->g x σ H' fun σ2 H2=>tb {D with nx:=N,ct:=N,bk:=D.nx} σ2 H2):=by
 refine⟨fun i m σ H=>m=xs.length - i/\i<=xs.length/\Pv i σ H,⟨xs.length,by simp,Nat.zero_le _,h0⟩, ?_⟩
 rintro i m σ H ⟨rfl,hi,p⟩
 have q:=hl i σ H hi p
 by_cases hlt:i<xs.length
 ·refine .inr ⟨⟨xs,xs[i],q,by simp [hlt]⟩,Pv (i+1),fun σ' H' p'=>⟨xs.length - (i+1),by lia,rfl,hlt,p'⟩,fun x H' y=> ?_⟩
  obtain⟨e,y⟩:=y
  subst e
  exact hs i x σ _ (y xs q) p
 ·have e:i=xs.length:=by lia
  subst e
  exact .inl ⟨⟨xs,q,AO _⟩,hd σ H p⟩
theorem a28{lo:Int}{n:Nat}{g:TG}{tb:TS}{D:C8}{σ:St}{H:Hp}(Pv:Nat->St->Hp->Prop)(h0:Pv 0 σ H)
 (hs:∀i σ H,i<n->Pv i σ H->g (.int (lo+i)) σ H fun σ2 H2=>tb {D with nx:=Pv (i+1),ct:=Pv (i+1),bk:=D.nx} σ2 H2) (hd:∀σ H,Pv n σ H->D.nx σ H):
 ∃W:Nat->Nat->St->Hp->Prop,(∃m,W 0 m σ H)/\∀i m σ H,W i m σ H->
  ((Itr lo n).stop i H/\D.nx σ H)\/((Itr lo n).go i H/\∃N:St->Hp->Prop,(∀σ' H',N σ' H'->∃m',m'<m/\W (i+1) m' σ' H')/\∀x H',(Itr lo n).yld i H x H'->g x σ H' fun σ2 H2=>tb {D with nx:=N,ct:=N,bk:=D.nx} σ2 H2):=by
 refine⟨fun i m σ H=>m=n - i/\i<=n/\Pv i σ H,⟨n,by simp,Nat.zero_le _,h0⟩, ?_⟩
 rintro i m σ H ⟨rfl,hi,p⟩
 by_cases hlt:i<n
 ·refine .inr ⟨hlt,Pv (i+1),fun σ' H' p'=>⟨n - (i+1),by lia,rfl,hlt,p'⟩,fun x H' y=> ?_⟩
  obtain⟨e,y⟩:=y
  subst e y
  exact hs i σ _ hlt p
 ·have e:i=n:=by lia
  subst e
  exact .inl ⟨AO _,hd σ H p⟩
abbrev R2:=V->V->Hp->VK->Prop
def X4(X:Cx)(f:AA->AA->Sem AA)(r:R2):Prop:=
 ∀(pins:List (AB×Obj)) (s:AC) (σ:St) (H:Hp) (x y:V) (v u:AA) (Q:VK),g4 X pins σ H s->i6 x v->i6 y u->r x y H Q->
  AH (model X.prog X.w) X.A (f v u) (EP X pins σ Q) X.xe s
def UnR(X:Cx)(f:AA->Sem AA)(r:V->Hp->VK->Prop):Prop:=
 ∀(pins:List (AB×Obj)) (s:AC) (σ:St) (H:Hp) (x:V) (v:AA) (Q:VK),g4 X pins σ H s->i6 x v->r x H Q->
  AH (model X.prog X.w) X.A (f v) (EP X pins σ Q) X.xe s
def D1(X:Cx)(f:AA)(r:List V->Hp->VK->Prop):Prop:=
 ∀(pins:List (AB×Obj)) (s:AC) (σ:St) (H:Hp) (xs:List V) (us:List AA) (Q:VK),g4 X pins σ H s->g6 xs us->r xs H Q->
  AH (model X.prog X.w) X.A (call f us) (EP X pins σ Q) X.xe s
def b3G(X:Cx)(r:V->Hp->(Bool->Hp->Prop)->Prop):Prop:=
 ∀(pins:List (AB×Obj)) (s:AC) (σ:St) (H:Hp) (x:V) (v:AA) (Q:Bool->Hp->Prop),g4 X pins σ H s->i6 x v->r x H Q->
  AH (model X.prog X.w) X.A (truthy v) (TP X pins σ Q) X.xe s
def tOp(r:R2)(ta tb:TE):TE:=fun σ H Q=>ta σ H fun x H1=>tb σ H1 fun y H2=>r x y H2 Q
def tUn(r:V->Hp->VK->Prop)(ta:TE):TE:=fun σ H Q=>ta σ H fun x H1=>r x H1 Q
def rI(C:Int->Int->Prop)(g:Int->Int->V):R2:=fun x y H Q=>∃i j,x= .int i/\y= .int j/\C i j/\Q (g i j) H
def rI0(g:Int->Int->V):R2:=fun x y H Q=>∃i j,x= .int i/\y= .int j/\Q (g i j) H
def rU(g:Int->V):V->Hp->VK->Prop:=fun x H Q=>∃i,x= .int i/\Q (g i) H
section
variable {X:Cx}{a b c:AE}{ta tb tc:TE}{pos:Pos}
theorem b1q(ha:PE X a ta)(hb:PE X b tb){pins:List (AB×Obj)}{s:AC}{σ:St}{H:Hp}{R:V->V->Hp->Prop}(I:g4 X pins σ H s)
 (h:ta σ H fun x H1=>tb σ H1 fun y H2=>R x y H2) {Q:AA->AC->Prop} {f:AA->AA->Sem AA}
 (hf:∀v u s2 x y H2,g4 X pins σ H2 s2->i6 x v->i6 y u->R x y H2->AH (model X.prog X.w) X.A (f v u) Q X.xe s2):
 AH (model X.prog X.w) X.A (eval a X.env) (fun v s₁=>AH (model X.prog X.w) X.A (eval b X.env) (fun u s₂=>AH (model X.prog X.w) X.A (f v u) Q X.xe s₂) X.xe s₁) X.xe s:=by
 refine w9 (ha pins s σ H _ I h) fun v s1 ⟨x,H1,I1,r1,q1⟩=> ?_
 refine w9 (hb pins s1 σ H1 _ I1 q1) fun u s2 ⟨y,H2,I2,r2,q2⟩=> ?_
 exact hf v u s2 x y H2 I2 r1 r2 q2
theorem b3k{op:Operator}{r:R2}(ho:X4 X (binaryOp op) r)(ha:PE X a ta)(hb:PE X b tb):PE X (.BinOp a op b pos) (tOp r ta tb):=by
 intro pins s σ H Q I h
 exact wpAny_BinOp (b1q ha hb I h fun v u s2 x y H2 I2 rx ry q=>ho pins s2 σ H2 x y v u Q I2 rx ry q)
theorem b3l{op:UnaryOp}{r:V->Hp->VK->Prop}(ho:UnR X (unaryOp op) r)(ha:PE X a ta):PE X (.UnaryOp op a pos) (tUn r ta):=by
 intro pins s σ H Q I h
 exact UnaryOp_ (w9 (ha pins s σ H _ I h) fun v s1 ⟨x,H1,I1,r1,q1⟩=>ho pins s1 σ H1 x v Q I1 r1 q1)
theorem opI{f:AA->AA->Sem AA}{C:Int->Int->Prop}{g:Int->Int->Int}
 (rule:∀(i j:Int) (t u:Tok) (s:AC) (Q:AA->AC->Prop) (E:AA->AC->Prop),C i j->Q (.int (g i j) s.toks) {s with toks:=s.toks+1}->AH (model X.prog X.w) X.A (f (.int i t) (.int j u)) Q E s):
 X4 X f (rI C fun i j=> .int (g i j)):=by
 intro pins s σ H x y v u Q I rx ry h
 obtain⟨i,j,rfl,rfl,hc,q⟩:=h
 obtain⟨t,rfl⟩:=rx
 obtain⟨t',rfl⟩:=ry
 exact rule i j t t' s _ _ hc ⟨.int (g i j),H,I.tok _,⟨_,rfl⟩,q⟩
theorem b3e{f:AA->AA->Sem AA}{g:Int->Int->Int}
 (rule:∀(i j:Int) (t u:Tok) (s:AC) (Q:AA->AC->Prop) (E:AA->AC->Prop),Q (.int (g i j) s.toks) {s with toks:=s.toks+1}->AH (model X.prog X.w) X.A (f (.int i t) (.int j u)) Q E s):
 X4 X f (rI0 fun i j=> .int (g i j)):=by
 intro pins s σ H x y v u Q I rx ry h
 obtain⟨i,j,rfl,rfl,q⟩:=h
 obtain⟨t,rfl⟩:=rx
 obtain⟨t',rfl⟩:=ry
 exact rule i j t t' s _ _ ⟨.int (g i j),H,I.tok _,⟨_,rfl⟩,q⟩
theorem b17{f:AA->AA->Sem AA}{g:Int->Int->Bool}
 (rule:∀(i j:Int) (t u:Tok) (s:AC) (Q:AA->AC->Prop) (E:AA->AC->Prop),Q (.bool (g i j)) s->AH (model X.prog X.w) X.A (f (.int i t) (.int j u)) Q E s):
 X4 X f (rI0 fun i j=> .bl (g i j)):=by
 intro pins s σ H x y v u Q I rx ry h
 obtain⟨i,j,rfl,rfl,q⟩:=h
 obtain⟨t,rfl⟩:=rx
 obtain⟨t',rfl⟩:=ry
 exact rule i j t t' s _ _ ⟨.bl (g i j),H,I,rfl,q⟩
def a5q(i j:Int):Prop:=0<j/\j<1073741824
def b2S(i j:Int):Prop:=0<=j/\j<=1000000/\i.natAbs<2 ^ 64
def a3x(i j:Int):Prop:=(-(2 ^ 64)<i/\i<2 ^ 64)\/(-(2 ^ 64)<j/\j<2 ^ 64)
theorem a3x.ok{i j:Int}(h:a3x i j):IntMulOk i j:=by
 rcases h with⟨h1,h2⟩|⟨h1,h2⟩
 ·exact .of_left (intBits_le_64 h1 h2)
 ·exact .of_right (intBits_le_64 h1 h2)
theorem b18:X4 X (binaryOp .Add) (rI0 fun i j=> .int (i+j)):=b3e fun _ _ _ _ _ _ _ q=>add_int q
theorem b2b:X4 X (binaryOp .Mult) (rI a3x fun i j=> .int (i*j)):=opI fun _ _ _ _ _ _ _ hc q=>mul_int q hc.ok
theorem b0o:X4 X (binaryOp .FloorDiv) (rI a5q fun i j=> .int (i / j)):=opI fun i j _ _ _ _ _ hc q=>by
 have h1:(0:Int)<j:=hc.1
 have h2:j<1073741824:=hc.2
 exact floordiv_int (by lia) (by rw [Int.fdiv_eq_ediv_of_nonneg i (by lia)];exact q) (.inl (PyProof.noPylong_small (by lia)))
theorem b2a:X4 X (binaryOp .Mod) (rI (fun _ j=>0<j) fun i j=> .int (i % j)):=opI fun i j _ _ _ _ _ hc q=>by
 have h1:(0:Int)<j:=hc
 exact mod_int' (by lia) (by rw [Int.fmod_eq_emod_of_nonneg i (by lia)];exact q)
theorem a97:X4 X (inplaceOp .Add) (rI0 fun i j=> .int (i+j)):=b3e fun _ _ _ _ _ _ _ q=>iadd_int q
theorem unI{f:AA->Sem AA}{g:Int->Int}
 (rule:∀(i:Int) (t:Tok) (s:AC) (Q:AA->AC->Prop) (E:AA->AC->Prop),Q (.int (g i) s.toks) {s with toks:=s.toks+1}->AH (model X.prog X.w) X.A (f (.int i t)) Q E s):
 UnR X f (rU fun i=> .int (g i)):=by
 intro pins s σ H x v Q I rx h
 obtain⟨i,rfl,q⟩:=h
 obtain⟨t,rfl⟩:=rx
 exact rule i t s _ _ ⟨.int (g i),H,I.tok _,⟨_,rfl⟩,q⟩
theorem b2F:UnR X (unaryOp .USub) (rU fun i=> .int (-i)):=unI fun _ _ _ _ _ q=>neg_int q
end
section
variable {X:Cx}{a b c:AE}{ta tb tc:TE}{pos:Pos}
theorem b1A{pins:List (AB×Obj)}{σ:St}{H:Hp}{s:AC}{Q:VK}{k k':Bool}(I:g4 X pins σ H s)(q:Q (.bl k) H)(e:k=k'):EP X pins σ Q (.bool k') s:=by
 subst e
 exact⟨.bl k,H,I,rfl,q⟩
theorem b3h:X4 X (compareOp .Lt) (rI0 fun i j=> .bl (decide (i<j))):=b17 fun _ _ _ _ _ _ _ q=>lt_int q
theorem b3g:X4 X (compareOp .LtE) (rI0 fun i j=> .bl (decide (i<=j))):=b17 fun _ _ _ _ _ _ _ q=>le_int q
theorem b3f:X4 X (compareOp .Gt) (rI0 fun i j=> .bl (decide (j<i))):=b17 fun _ _ _ _ _ _ _ q=>gt_int q
theorem a7d:X4 X (compareOp .Lt) (fun x y H Q=>∃i j,x= .str i/\y= .str j/\Q (.bl (decide (i.cps.toList<j.cps.toList))) H):=by
 intro pins s σ H x y v u Q I rx ry h
 obtain⟨i,j,rfl,rfl,q⟩:=h
 obtain⟨t,rfl⟩:=rx
 obtain⟨t',rfl⟩:=ry
 exact lt_str (b1A I q rfl)
theorem X4.or{f:AA->AA->Sem AA}{r r':R2}(h:X4 X f r)(h':X4 X f r'):X4 X f (fun x y H Q=>r x y H Q\/r' x y H Q):=by
 intro pins s σ H x y v u Q I rx ry q
 rcases q with q|q
 ·exact h pins s σ H x y v u Q I rx ry q
 ·exact h' pins s σ H x y v u Q I rx ry q
theorem w8(b:AE){op:CmpOp}(h:op≠.In:=by decide)(h2:op≠.NotIn:=by decide):behindInMarks op b=false:=by
 have e1:(op==CmpOp.In)=false:=by cases op<;>first|rfl|exact absurd rfl h
 have e2:(op==CmpOp.NotIn)=false:=by cases op<;>first|rfl|exact absurd rfl h2
 cases b<;>simp [behindInMarks,e1,e2]
theorem b0s{op:CmpOp}{r:R2}(ho:X4 X (compareOp op) r)(ha:PE X a ta)(hb:PE X b tb)(hm:behindInMarks op b=false):PE X (.Compare a [op] [b] pos) (tOp r ta tb):=by
 intro pins s σ H Q I h
 exact wpAny_Compare1 (b1q ha hb I h fun v u s2 x y H2 I2 rx ry q=>ho pins s2 σ H2 x y v u Q I2 rx ry q) hm
def b1f(t:TE):TT:=fun σ H Q=>t σ H fun x H'=>∃k,x= .bl k/\Q k H'
theorem b0y{op:CmpOp}{r:R2}(ho:X4 X (compareOp op) r)(ha:PE X a ta)(hb:PE X b tb)(hm:behindInMarks op b=false):PT X (.Compare a [op] [b] pos) (b1f (tOp r ta tb)):=by
 intro pins s σ H Q I h
 refine wpAny_isTrue_Compare1 (w9 (ha pins s σ H _ I h) fun v s1 ⟨x,H1,I1,r1,q1⟩=>w9 (hb pins s1 σ H1 _ I1 q1) fun u s2 ⟨y,H2,I2,r2,q2⟩=>
  w9 (ho pins s2 σ H2 x y v u _ I2 r1 r2 q2) fun c s3 ⟨z,H3,I3,r3,k,e,q3⟩=> ?_) hm
 subst e
 cases r3
 exact wpAny_truthy_bool ⟨H3,I3,q3⟩
def a9j(r r':R2)(ta tb tc:TE):TE:=fun σ H Q=>ta σ H fun x H1=>tb σ H1 fun y H2=>r x y H2 fun z H3=>∃k,z= .bl k/\
 (if k=true then tc σ H3 fun w' H4=>r' y w' H4 Q else Q (.bl false) H3)
theorem a8X{op op':CmpOp}{r r':R2}(ho:X4 X (compareOp op) r)(ho':X4 X (compareOp op') r')(ha:PE X a ta)(hb:PE X b tb)(hc:PE X c tc)
 (hm:lastMarks [op,op'] [b,c]=false:=by with_unfolding_all rfl):PT X (.Compare a [op,op'] [b,c] pos) (b1f (a9j r r' ta tb tc)):=by
 intro pins s σ H Q I h
 refine isTrue_chain (w9 (ha pins s σ H _ I h) fun v s1 ⟨x,H1,I1,r1,q1⟩=>test_link (w9 (hb pins s1 σ H1 _ I1 q1) fun u s2 ⟨y,H2,I2,r2,q2⟩=>
  w9 (ho pins s2 σ H2 x y v u _ I2 r1 r2 q2) fun d s3 ⟨z,H3,I3,r3,k,e,q3⟩=> ?_)) hm
 subst e
 cases r3
 refine wpAny_truthy_bool ?_
 cases k with
 |false=>
  obtain⟨k',e',q'⟩:=q3
  cases e'
  exact ite_ff ⟨H3,I3,q'⟩
 |true=>
  refine ite_tt (test_last (w9 (hc pins s3 σ H3 _ I3 q3) fun w' s4 ⟨z',H4,I4,r4,q4⟩=>w9 (ho' pins s4 σ H4 y z' u w' _ I4 r2 r4 q4) fun d' s5 ⟨z2,H5,I5,r5,k2,e2,q5⟩=> ?_))
  subst e2
  cases r5
  exact wpAny_truthy_bool ⟨H5,I5,q5⟩
def b1l(K:AD)(x:V)(H:Hp)(k:Bool):Prop:=
 match x with
 | .non=>k=false
 | .bl b=>k=b
 | .int i=>k=(i !=0)
 | .str y=>y.length<=AL/\k=((y.length:Int) !=0)
 | .byt y=>y.size<=AL/\k=((y.size:Int) !=0)
 | .ref p=>(∃xs,H9 K H p xs/\k= !xs.isEmpty)\/(∃xs,M5 K H p xs/\k= !xs.isEmpty)\/∃kvs,H p=some (.dK kvs)/\k= !kvs.isEmpty
 |_=>False
theorem a5L{κ:Type}{kvs:List (κ×V)}{vs:List (κ×AA)}(r:KV kvs vs):(!vs.isEmpty)= !kvs.isEmpty:=by
 cases r<;>rfl
theorem a1W{xs:List V}{its:List AA}(r:g6 xs its):(!its.toArray.isEmpty)= !xs.isEmpty:=by
 cases r<;>simp
theorem a0y:(AL:Nat)<2 ^ 63:=by rw [sizeLine_eq];decide
theorem b2E:b3G X (fun x H Q=>∃k,b1l X.K x H k/\Q k H):=by
 intro pins s σ H x v Q I rx h
 obtain⟨k,e,q⟩:=h
 have hl:=a0y
 have hs:AL=16777216:=sizeLine_eq
 cases x with
 |non=>
  cases rx
  have e':k=false:=e
  subst e'
  exact truthy_none ⟨H,I,q⟩
 |bl b=>
  cases rx
  have e':k=b:=e
  subst e'
  exact wpAny_truthy_bool ⟨H,I,q⟩
 |int i=>
  obtain⟨t,rfl⟩:=rx
  have e':k=(i !=0):=e
  subst e'
  exact PySem.P.truthy_int ⟨H,I,q⟩
 |str y=>
  obtain⟨t,rfl⟩:=rx
  obtain⟨hy,e'⟩:y.length<=AL/\k=((y.length:Int) !=0):=e
  subst e'
  exact PySem.P.truthy_str (by lia) ⟨H,I.tok _,q⟩
 |byt y=>
  obtain⟨t,rfl⟩:=rx
  obtain⟨hy,e'⟩:y.size<=AL/\k=((y.size:Int) !=0):=e
  subst e'
  exact PySem.W.truthy_bytes (by lia) ⟨H,I.tok _,q⟩
 |ref p=>
  cases rx
  have e':(∃xs,H9 X.K H p xs/\k= !xs.isEmpty)\/(∃xs,M5 X.K H p xs/\k= !xs.isEmpty)\/∃kvs,H p=some (.dK kvs)/\k= !kvs.isEmpty:=e
  rcases e' with⟨xs,hx,e'⟩|⟨xs,hx,e'⟩|⟨kvs,hx,e'⟩
  ·subst e'
   obtain⟨its,r,pl,hz⟩:=I.list hx
   have hlen:=r.length
   exact wpAny_truthy_list pl.isList (by simp only [AY];lia) ⟨H,I.tok _,by rw [a1W r];exact q⟩
  ·subst e'
   obtain⟨its,r,pl,hz⟩:=I.tuple hx
   have hlen:=r.length
   exact truthy_tuple pl (by simp only [AY];lia) ⟨H,I.tok _,by rw [a1W r];exact q⟩
  ·subst e'
   obtain⟨hz,hS,vs,r,m⟩:kvs.length<=AL/\(p==sysModules)=false/\∃vs,KV kvs vs/\s.heap.DictOf (g9 X.prog X.w) p vs:=I.hok p _ hx
   have hlen:kvs.length=vs.length:=Paired.length r
   exact wpAny_truthy_dict hS m (by lia) ⟨H,I.tok _,by rw [a5L r];exact q⟩
 |_=>exact(show False from e).elim
theorem a8Y(ha:PE X a ta)(he:∀whole,isTrue a X.env whole=(do let v<-whole;standAt a.pos;holding [v] (truthy v))):
 PT X a (fun σ H Q=>ta σ H fun x H'=>∃k,b1l X.K x H' k/\Q k H'):=by
 intro pins s σ H Q I h
 exact isTrue_plain (w9 (ha pins s σ H _ I h) fun v s1 ⟨x,H1,I1,r1,q1⟩=>b2E pins s1 σ H1 x v Q I1 r1 q1) (he _)
theorem a5X:X4 X (binaryOp .Add) (fun x y H Q=>∃i j,x= .str i/\y= .str j/\i.length+j.length<=AL/\Q (.str (i++j)) H):=by
 intro pins s σ H x y v u Q I rx ry h
 obtain⟨i,j,rfl,rfl,hz,q⟩:=h
 obtain⟨t,rfl⟩:=rx
 obtain⟨t',rfl⟩:=ry
 exact add_str (fun t' tk=>⟨.str (i++j),H,I.tok _,⟨_,rfl⟩,q⟩) hz
theorem a5n{x:V}{us:List AA}(r:g6 [x] us):∃u,us=[u]/\i6 x u:=by
 cases r with
 |cons r1 r2=>cases r2;exact⟨_,rfl,r1⟩
end
section
variable {prog:AG}{w:AF}{A:AI}{E:AA->AC->Prop}{s:AC}{K:AD}{x dx C f:AB}{mA:Str->Option AA}{name:Str}{v:AA}
end
theorem X9.some_of{v:V}{o:Option AA}(r:X9 (some v) o):∃u,o=some u/\i6 v u:=by
 cases o with
 |none=>exact(show False from r).elim
 |some u=>exact⟨u,rfl,r⟩
theorem X9.none_of{o:Option AA}(r:X9 none o):o=none:=by
 cases o with
 |none=>rfl
 |some u=>exact(show False from r).elim
section
variable {P:AG}{w:AF}{H H':Hp}{h h':Heap}{a C dx:AB}{fs fs':List (Str×V)}
end
structure Cls(K:AD)(C:AB):Prop where
 pg:PySem.W.plainGet K C Str.empty=true
 hd:PySem.W.hasDictIn K C=true
 po:PySem.W.plainOver K C=true
 sa:PySem.W.findIn K (.ref C) "__setattr__"=some (some (.builtin "object.__setattr__"))
theorem Cls.get{K:AD}{C:AB}(c:Cls K C)(f:Str):PySem.W.plainGet K C f=true:=c.pg
section
variable {X:Cx}{pins:List (AB×Obj)}{σ:St}{H:Hp}{s:AC}{a C dx:AB}{fs:List (Str×V)}{f:Str}{v:V}{A:AI}{E:AA->AC->Prop}
end
section
variable {X:Cx}{o e value:AE}{f:Str}{pos pos' tpos:Pos}{ta tv:TE}
end
section
variable {X:Cx}{pins:List (AB×Obj)}{σ:St}{H:Hp}{s:AC}{A:AI}{E:AA->AC->Prop}{Q:AA->AC->Prop}{c:AA}{b:Bool}
inductive a1x (K:AD) (H:Hp):V->AA->Prop where
 |non:a1x K H .non (.type "NoneType")
 |bl (x:Bool):a1x K H (.bl x) (.type "bool")
 |int (i:Int):a1x K H (.int i) (.type "int")
 |str (x:Str):a1x K H (.str x) (.type "str")
 |flt (x:UInt64):a1x K H (.flt x) (.type "float")
 |lst {a:AB} {xs:List V} (e:H a=some (.lst xs)):a1x K H (.ref a) (.type "list")
 |frz {a:AB} {o:Obj} {xs:List V} (e:H a=some (.frz o (.lst xs))):a1x K H (.ref a) (.type "list")
 |tup {a:AB} {xs:List V} (e:H a=some (.tup xs)):a1x K H (.ref a) (.type "tuple")
 |dK {a:AB} {kvs:List (c9×V)} (e:H a=some (.dK kvs)):a1x K H (.ref a) (.type "dict")
 |dT {a:AB} {kvs:List (List c9×V)} (e:H a=some (.dT kvs)):a1x K H (.ref a) (.type "dict")
 |ins {a C dx:AB} {fs:List (Str×V)} (e:H a=some (.ins C dx fs)) (cl:Cls K C) (ha:PySem.W.findIn K (.ref C) "__class__"=some (some (.builtin "object.__class__")))
  (hn:PySem.W.specialIn K (.builtin "object.__class__") "__get__"=some (some (.builtin "getset_descriptor.__get__"))) (htk:PySem.W.takesIn K (.builtin "object.__class__")=some true)
  (hm:PySem.W.mroIn K C (.type "object")=some true):a1x K H (.ref a) (.ref C)
end
structure A0(k:Nat)(A:AI):Prop where
 hd:A.handled=none
 dp:A.depth+3*k+5<recursionLimit
 un:A.units+16*k+200<cLine
theorem A0.mono{j k:Nat}{A:AI}(r:A0 k A)(h:j<=k):A0 j A:=⟨r.hd,by have:=r.dp;lia,by have:=r.un;lia⟩
theorem A0.deeper{k:Nat}{A:AI}(r:A0 (k+1) A)(env:Env):A0 k (A.deeper env):=
 ⟨r.hd,by have:=r.dp;show A.depth+1+3*k+5<_;lia,by have:=r.un;show A.units+3+16*k+200<_;lia⟩
theorem A0.in1{k:Nat}{A:AI}(r:A0 (k+1) A):A0 k A.in1:=
 ⟨r.hd,by have:=r.dp;show A.depth+3*k+5<_;lia,by have:=r.un;show A.units+1+16*k+200<_;lia⟩
theorem A0.depth{k:Nat}{A:AI}(r:A0 k A):A.depth<recursionLimit:=by have:=r.dp;lia
theorem A0.units{k:Nat}{A:AI}(r:A0 k A):A.units+64<cLine:=by have:=r.un;lia
def b3z:TA:=fun _ H Q=>Q [] H
def b1e(ta:TE)(tr:TA):TA:=fun σ H Q=>ta σ H fun x H1=>tr σ H1 fun xs H2=>Q (x::xs) H2
section
variable {X:Cx}{e:AE}{es:List AE}{te:TE}{t:TA}{pos:Pos}
theorem R6:PA X [] b3z:=fun _ _ _ _ H Q I h=>Calls.spliced_nil ⟨[],H,I,.nil,h⟩
theorem A8(ha:PE X e te)(hr:PA X es t)(hs:AN (e::es) X.env=(false,eval e X.env)::AN es X.env:=by rfl):PA X (e::es) (b1e te t):=by
 intro pos pins s σ H Q I h
 rw [hs]
 show AH _ _ (spliced ((false,eval e X.env)::backTo pos (AN es X.env))) _ _ s
 refine Calls.spliced_cons (w9 (ha pins s σ H _ I h) fun u s1 ⟨x,H1,I1,r1,q1⟩=> ?_)
 exact w9 (hr pos pins s1 σ H1 _ I1 q1) fun us s2 ⟨xs,H2,I2,r2,q2⟩=>⟨x::xs,H2,I2,.cons r1 r2,q2⟩
def b37(t:TA):TE:=fun σ H Q=>t σ H fun xs H1=>xs.length<=AL/\∀p,H1 p=none->Q (.ref p) (upd H1 p (.tup xs))
def b32(t:TA):TE:=fun σ H Q=>t σ H fun xs H1=>xs.length<=AL/\∀p,H1 p=none->Q (.ref p) (upd H1 p (.lst xs))
theorem a8S{x1}(h:PA X es t):PE X (.Tuple es x1 pos) (b37 t):=by
 intro pins s σ H Q I hq
 refine wpAny_Tuple_spliced (w9 (h pos pins s σ H _ I hq) fun us s1 ⟨xs,H1,I1,r,z,q⟩=>⟨by rw [<-r.length];exact z, ?_⟩)
 have hf:H1 s1.heap.objs.size=none:=I1.hok.fresh (AO _)
 refine⟨.ref s1.heap.objs.size,upd H1 s1.heap.objs.size (.tup xs),I1.laid (t':=s1.toks) (fun b u e=>Ab _ e) (AO _) ?_,rfl,q _ hf⟩
 exact⟨z,us,r,⟨_,At _ rfl,rfl,_,rfl⟩⟩
theorem b2h(h:PA X es t):PE X (.List es pos) (b32 t):=by
 intro pins s σ H Q I hq
 refine wpAny_List_spliced (w9 (h pos pins s σ H _ I hq) fun us s1 ⟨xs,H1,I1,r,z,q⟩=>⟨by rw [<-r.length];exact z, ?_⟩)
 have hf:H1 s1.heap.objs.size=none:=I1.hok.fresh (AO _)
 refine⟨.ref s1.heap.objs.size,upd H1 s1.heap.objs.size (.lst xs),I1.laid (t':=s1.toks) (fun b u e=>Ab _ e) (AO _) ?_,rfl,q _ hf⟩
 exact⟨z,us,0,r,At _ rfl⟩
end
abbrev Sp:=List V->Hp->VK->XK->Prop
abbrev CXT:=List Env->Hp->AC->XK->AA->AC->Prop
structure a5x(P:AG)(w:AF)(K:AD)(mg:Str->Option AA)(base:Heap)(A:AI)(outer:List Env)(s:AC)(H:Hp):Prop where
 frames:A.frames=some outer
 mod:Mod K mg base
 bs:∀b o,base.get? b=some o->s.heap.get? b=some o/\H b=none
 bsz:base.objs.size<=s.heap.objs.size
 funs:s.heap.FunFrames base outer
 frf:∀b∈frs outer,H b=none
 hok:HOk P w H s.heap
 bare:AllBare s.gens
def CE(outer:List Env)(P:AG)(w:AF)(H:Hp)(s:AC)(Q:VK)(u:AA)(s':AC):Prop:=
 ∃v H',s'.os=s.os/\AllBare s'.gens/\Un (frs outer) [] H H' s.heap s'.heap/\HOk P w H' s'.heap/\i6 v u/\Q v H'
def CR(CX:CXT)(outer:List Env)(P:AG)(w:AF)(H:Hp)(s:AC)(Q:VK)(E:XK)(r:Result)(s':AC):Prop:=
 match r with
 | .ok (.ret u)=>CE outer P w H s Q u s'
 | .ok _=>False
 | .error e=>CX outer H s E e s'
structure E2(P:AG)(w:AF)(K:AD)(mg:Str->Option AA)(base:Heap)(CX:CXT)(k:Nat)(f:AB)(fd:FuncData)(ps:List Str)(sp:Sp):Prop where
 len:∀vs H Q E,sp vs H Q E->vs.length=ps.length
 run:∀(A:AI) (outer:List Env) (s:AC) (H:Hp) (args:Args) (us:List AA) (vs:List V) (Q:VK) (E:XK),A0 k A->a5x P w K mg base A outer s H->BindsTo s fd args (ps.zip us)->g6 vs us->sp vs H Q E->
  codeAny (model P w) A (.call (.ref f) args) (CR CX outer P w H s Q E) s
theorem E2.mono{P:AG}{w:AF}{K:AD}{mg:Str->Option AA}{base:Heap}{CX:CXT}{j k:Nat}{f:AB}{fd:FuncData}{ps:List Str}{sp:Sp}(F:E2 P w K mg base CX j f fd ps sp)(h:j<=k):
 E2 P w K mg base CX k f fd ps sp:=⟨F.len,fun A outer s H args us vs Q E hr=>F.run A outer s H args us vs Q E (hr.mono h)⟩
theorem E2.imp{P:AG}{w:AF}{K:AD}{mg:Str->Option AA}{base:Heap}{CX:CXT}{k:Nat}{f:AB}{fd:FuncData}{ps:List Str}{sp sp':Sp}(F:E2 P w K mg base CX k f fd ps sp)
 (h:∀vs H Q E,sp' vs H Q E->sp vs H Q E):E2 P w K mg base CX k f fd ps sp':=
 ⟨fun vs H Q E q=>F.len vs H Q E (h _ _ _ _ q),fun A outer s H args us vs Q E hr he hb hv hs=>F.run A outer s H args us vs Q E hr he hb hv (h _ _ _ _ hs)⟩
theorem a5x.in1{P:AG}{w:AF}{K:AD}{mg:Str->Option AA}{base:Heap}{A:AI}{outer:List Env}{s:AC}{H:Hp}(e:a5x P w K mg base A outer s H):
 a5x P w K mg base A.in1 outer s H:=⟨e.frames,e.mod,e.bs,e.bsz,e.funs,e.frf,e.hok,e.bare⟩
section
variable {X:Cx}{pins:List (AB×Obj)}{σ:St}{H:Hp}{s s':AC}
theorem g4.env0(I:g4 X pins σ H s):a5x X.prog X.w X.K X.mg X.base X.A X.stack s H:=
 ⟨I.ok.frames,I.ok.mod,I.bs,Nat.le_trans I.ok.bsz I.sz,I.stack,I.stkFree,I.hok,I.bare⟩
theorem g4.after{Q:VK}{u:AA}(I:g4 X pins σ H s)(h:CE X.stack X.prog X.w H s Q u s'):EP X pins σ Q u s':=by
 obtain⟨v,H',os,bare,un,hok,r,q⟩:=h
 obtain⟨hh,g,d,t,os'⟩:=s'
 obtain rfl:os'=s.os:=os
 exact⟨v,H',I.call (h':=hh) (g':=g) (d':=d) (t':=t) (ch:=[]) un hok bare (fun b z=>absurd z (by simp)),r,q⟩
end
def b3u(sp:Sp)(dvs:List V)(E:XK)(t:TA):TE:=fun σ H Q=>t σ H fun vs H1=>sp (vs++dvs) H1 Q E
def X6(K:AD)(fd:FuncData)(ps:List Str)(ds:List AA):Prop:=
 ∀(s:AC) (us:List AA),K.In s.heap->(us++ds).length=ps.length->BindsTo s fd ⟨us,[]⟩ (ps.zip (us++ds))
theorem X6.all{K:AD}{fd:FuncData}{ps:List Str}(h:∀us:List AA,us.length=ps.length->bindArgs fd ⟨us,[]⟩=pure (ps.zip us)):X6 K fd ps []:=fun s us _ hl=>by
 rw [AZ] at hl ⊢
 exact .of_eq (h us hl)
def a5z(CX:CXT)(X:Cx)(E:XK):Prop:=∀(pins:List (AB×Obj)) (σ:St) (H:Hp) (s:AC) (e:AA) (s':AC),g4 X pins σ H s->CX X.stack H s E e s'->X.xe e s'
section
variable {X:Cx}{CX:CXT}{k:Nat}{f C:AB}{fd:FuncData}{ps:List Str}{sp:Sp}{dvs:List V}{ds:List AA}{E:XK}{x m:Str}{p pos apos:Pos}{e o:AE}{es:List AE}{ta:TE}{t:TA}
theorem b2w{pins:List (AB×Obj)}{σ:St}{H:Hp}{s:AC}{Q:VK}{us:List AA}{vs:List V}(F:E2 X.prog X.w X.K X.mg X.base CX k f fd ps sp)(hr:A0 k X.A)(hb:X6 X.K fd ps ds)(hd:g6 dvs ds)(hx:a5z CX X E)
 (I:g4 X pins σ H s) (r:g6 vs us) (h:sp (vs++dvs) H Q E):AH (model X.prog X.w) X.A (call (.ref f) us) (EP X pins σ Q) X.xe s:=by
 have r2:g6 (vs++dvs) (us++ds):=r.append hd
 have hl:(us++ds).length=ps.length:=by rw [<-r2.length];exact F.len _ _ _ _ h
 refine wpAny_call (codeAny_mono (F.run X.A X.stack s H ⟨us,[]⟩ (us++ds) (vs++dvs) Q E hr I.env0 (hb s us I.kIn hl) r2 h) fun r s' hq=> ?_)
 cases r with
 |error e=>exact hx pins σ H s e s' I hq
 |ok fl=>
  cases fl with
  |ret u=>exact I.after hq
  |next=>exact False.elim hq
  |brk=>exact False.elim hq
  |cont=>exact False.elim hq
theorem a39(F:E2 X.prog X.w X.K X.mg X.base CX k f fd ps sp)(hr:A0 k X.A)(hg:Gl X x)(hm:X.mg x=some (.ref f))(hk:PySem.W.keepIn X.K (.ref f)=true)(hb:X6 X.K fd ps ds)(hd:g6 dvs ds)(hx:a5z CX X E)
 (ha:PA X (e::es) t) (hdb:(x==("__debug__":Str))=false:=by decide) (he:AN (e::es) X.env=(false,eval e X.env)::AN es X.env:=by rfl) (hpl:(backTo pos (AN es X.env)).any (·.1)=false:=by rfl):
 PE X (.Call (.Name x p) (e::es) [] pos) (b3u sp dvs E t):=by
 intro pins s σ H Q I h
 refine wpAny_Call_Name_kw (a1j I hg hm ?_ hdb)
 refine PySem.W.callWith_K (h₀:=X.base) I.ok.mod.kin hk (w9 (ha pos pins s σ H _ I h) fun us s1 ⟨vs,H1,I1,r,q⟩=>⟨I1.kIn, ?_⟩) he hpl
 exact b2w F hr hb hd hx I1 r q
end
section
variable {X:Cx}{CX:CXT}{k:Nat}{f C:AB}{fd:FuncData}{ps ks:List Str}{sp:Sp}{E:XK}{x m:Str}{p pos apos kpos:Pos}{e o:AE}{es:List AE}{kws:List Keyword}{te ta:TE}{t tk:TA}{nm:Option Str}
variable {g:List AA->List AA->List AA}{gV:List V->List V->List V}
end
structure j3(N P:List Str)(sc:Scope):Prop where
 kind:sc.kind= .function
 co:sc.isCoroutine=false
 gen:sc.isGenerator=false
 nd:N.Nodup
 pre:N.take P.length=P
 par:∀x∈P,sc.names.lookup x=some .local\/sc.names.lookup x=some .cell
 nofree:∀y∈sc.names,y.2≠.free
theorem a23{kindOf:Str->Option NameKind}{x:Str}:∀{binds:List (Str×AA)} {m:Str->Option AA},(∀v,(x,v)∉binds)->bindL kindOf binds m x=m x
 |[],_,_=>rfl
 |(n,v)::r,m,h=>by
  unfold bindL
  rw [a23 fun w hw=>h w (Ac _ hw)]
  split
  ·have:x≠n:=by rintro rfl;exact h v Ah
   simp [this]
  ·rfl
theorem a21{kindOf:Str->Option NameKind}{x:Str}:∀{binds:List (Str×AA)} {m:Str->Option AA},(∀v,(x,v)∉binds)->bindC kindOf binds m x=m x
 |[],_,_=>rfl
 |(n,v)::r,m,h=>by
  unfold bindC
  rw [a21 fun w hw=>h w (Ac _ hw)]
  split
  ·rfl
  ·have:x≠n:=by rintro rfl;exact h v Ah
   simp [this]
theorem a22{kindOf:Str->Option NameKind}{x:Str}{v:AA}:∀{P:List Str} {vs:List AA} {i:Nat} {m:Str->Option AA},P.Nodup->P[i]?=some x->vs[i]?=some v->kindOf x=some .local->
 bindL kindOf (P.zip vs) m x=some v
 |[],_,_,_,_,h,_,_=>by simp at h
 |_::_,[],_,_,_,_,h,_=>by simp at h
 |p::P,w::vs,0,m,nd,h1,h2,hk=>by
  simp at h1 h2;subst h1;subst h2
  show bindL kindOf ((p,w)::P.zip vs) m p=_
  unfold bindL
  rw [a23 fun v hv=>(List.nodup_cons.mp nd).1 (List.of_mem_zip hv).1,if_pos hk]
  simp
 |p::P,w::vs,i+1,m,nd,h1,h2,hk=>by
  show bindL kindOf ((p,w)::P.zip vs) m x=_
  unfold bindL
  exact a22 (i:=i) (List.nodup_cons.mp nd).2 (by simpa using h1) (by simpa using h2) hk
theorem a20{kindOf:Str->Option NameKind}{x:Str}{v:AA}:∀{P:List Str} {vs:List AA} {i:Nat} {m:Str->Option AA},P.Nodup->P[i]?=some x->vs[i]?=some v->kindOf x≠some .local->
 bindC kindOf (P.zip vs) m x=some v
 |[],_,_,_,_,h,_,_=>by simp at h
 |_::_,[],_,_,_,_,h,_=>by simp at h
 |p::P,w::vs,0,m,nd,h1,h2,hk=>by
  simp at h1 h2;subst h1;subst h2
  show bindC kindOf ((p,w)::P.zip vs) m p=_
  unfold bindC
  rw [a21 fun v hv=>(List.nodup_cons.mp nd).1 (List.of_mem_zip hv).1,if_neg hk]
  simp
 |p::P,w::vs,i+1,m,nd,h1,h2,hk=>by
  show bindC kindOf ((p,w)::P.zip vs) m x=_
  unfold bindC
  exact a20 (i:=i) (List.nodup_cons.mp nd).2 (by simpa using h1) (by simpa using h2) hk
def a0e(N:List Str)(vs:List V):St:=vs.map some++AT (N.length - vs.length) none
def a2O(CX:CXT)(P:AG)(w:AF)(K:AD)(mg:Str->Option AA)(base:Heap)(N:List Str)(qual:Str)(scope:Scope)(f:AB)(cd:AA)(A:AI)(outer:List Env)(s:AC)(H:Hp)(E:XK):Cx where
 prog:=P
 w:=w
 K:=K
 mg:=mg
 base:=base
 A:=A.deeper (envOfC qual scope s.heap.objs.size f cd)
 N:=N
 s₀:=s
 H₀:=H
 env:=envOfC qual scope s.heap.objs.size f cd
 outer:=outer
 stack:=envOfC qual scope s.heap.objs.size f cd::outer
 ex:=[]
 calm:=true
 fn:=fun _=>true
 pn:=[]
 xe:=fun e s'=>AH (model P w) (A.deeper (envOfC qual scope s.heap.objs.size f cd)) (leaving (envOfC qual scope s.heap.objs.size f cd) e) (fun _ s''=>CX outer H s E e s'') (fun e' s''=>CX outer H s E e' s'') s'
theorem a4C{sc:Scope}{n:Nat}{x:Str}(h:sc.names.lookup x=some .cell):∃c,(cellsFrom n sc.names []).lookup x=some c:=by
 have q:=PySem.W.cellsFrom_some sc.names n [] (.inl h)
 exact Option.isSome_iff_exists.mp q
theorem a6V{CX:CXT}{P:AG}{w:AF}{K:AD}{mg:Str->Option AA}{base:Heap}{N ps:List Str}{qual:Str}{scope:Scope}{f:AB}{cd:AA}{A:AI}{outer:List Env}{s s1:AC}{H:Hp}{E:XK}{us:List AA}{vs:List V}
 (S:j3 N ps scope) (hd:A.handled=none) (e0:a5x P w K mg base A outer s H) (hl:vs.length=ps.length) (r:g6 vs us)
 (x:InCallC s s.heap.objs.size (bindL (envOfC qual scope s.heap.objs.size f cd).kindOf (ps.zip us) fun _=>none) (cellsFrom (s.heap.objs.size+1) scope.names []) (bindC (envOfC qual scope s.heap.objs.size f cd).kindOf (ps.zip us) fun _=>none) s1):
 g4 (a2O CX P w K mg base N qual scope f cd A outer s H E) [] (a0e N vs) H s1:=by
 have hpl:ps.length<=N.length:=by have:=congrArg List.length S.pre;rw [List.length_take] at this;lia
 obtain⟨h1,tk,rfl,hk⟩:=x.done
 have noA:∀b:AB,b∉(a2O CX P w K mg base N qual scope f cd A outer s H E).ex:=fun b z=>absurd (show b∈([]:List AB) from z) (by simp)
 refine⟨⟨e0.mod,S.kind,rfl,rfl,AO _,fun y z c h1 h2=> ?_,fun y hy=> ?_,fun y c _ h=> ?_,fun _=>hd,Around.frames_deeper e0.frames,.inr ⟨rfl,rfl⟩,fun b z=>absurd z (noA b),e0.bs,e0.bsz,fun b _ _=>noA b,fun b z=>absurd z (noA b),e0.funs,e0.frf⟩,
  rfl,e0.bare,Un.kept hk,⟨_,x.toInCall.ns,fun i y v h1 h2 h3=> ?_⟩,fun y c h=>⟨_,x.cell y c h⟩,e0.hok.fresh (AO _),fun y c h=> ?_,fun p hp=>absurd (show p∈([]:List (AB×Obj)) from hp) (by simp),e0.hok.kept hk, ?_⟩
 ·exact name_of_addr x.apart (PySem.mem_of_lookup h1) (PySem.mem_of_lookup h2)
 ·have hy:scope.names.lookup y=some .cell\/scope.names.lookup y=some .free:=hy
  rcases hy with hy|hy
  ·exact a4C hy
  ·exact absurd rfl (S.nofree _ (PySem.mem_of_lookup hy))
 ·exact BF (x.above y c (PySem.mem_of_lookup h))
 ·have hi:i<vs.length:=by
   unfold a0e at h2
   by_cases hi:i<vs.length
   ·exact hi
   ·rw [List.getElem?_append_right (by simpa using hi)] at h2
    rw [List.getElem?_replicate] at h2
    split at h2<;>cases h2
  have ha:vs[i]?=some v:=by
   unfold a0e at h2
   rw [Aw (by simpa using hi),Ao] at h2
   cases e:vs[i]? with
   |none=>rw [e] at h2;cases h2
   |some a=>rw [e] at h2;cases h2;rfl
  obtain⟨u,hu,rv⟩:=r.get ha
  have hp:ps[i]?=some y:=by
   rw [<-S.pre,List.getElem?_take_of_lt (by lia)];exact h1
  have ndP:ps.Nodup:=by rw [<-S.pre];exact S.nd.sublist (List.take_sublist _ _)
  refine⟨u,rv, ?_⟩
  rcases S.par y (Aq hp) with k|k
  ·exact .inl ⟨k,a22 ndP hp hu k⟩
  ·obtain⟨c,e⟩:=a4C (n:=s.heap.objs.size+1) k
   refine .inr ⟨.inl k,c,e, ?_⟩
   have q:=x.cell y c e
   rw [a20 ndP hp hu (by show scope.names.lookup y≠_;rw [k];decide)] at q
   exact q
 ·exact e0.hok.fresh (BF (x.above y c (PySem.mem_of_lookup h)))
 ·unfold a0e
  show _=N.length
  rw [Aa,AR,List.length_replicate]
  lia
theorem b24{CX:CXT}{P:AG}{w:AF}{K:AD}{mg:Str->Option AA}{base:Heap}{k:Nat}{f:AB}{name qual:Str}{params:Arguments}{body:List Stmt}{scope:Scope}{dV kV doc pm cdv ct oc:AA}{an od:Option AB}
 {osl:Array (Option AA)} {N ps:List Str} {sp:Sp} (lk:K.lookup f=some ⟨oc,od,.func (PySem.W.fnOf name qual params body scope dV kV doc pm an cdv ct),osl⟩) (hcd:PySem.W.codeIn K cdv qual=true) (S:j3 N ps scope)
 (len:∀vs H Q E,sp vs H Q E->vs.length=ps.length)
 (hbody:∀(A:AI) (outer:List Env) (s:AC) (H:Hp) (vs:List V) (Q:VK) (E:XK),A0 k (A.deeper (envOfC qual scope s.heap.objs.size f cdv))->sp vs H Q E->
  ∃t,PSs (a2O CX P w K mg base N qual scope f cdv A outer s H E) body t/\t {nx:=fun _ H'=>Q .non H',rt:=Q} (a0e N vs) H):
 E2 P w K mg base CX (k+1) f (PySem.W.fnOf name qual params body scope dV kV doc pm an cdv ct) ps sp:=by
 refine⟨len,fun A outer s H args us vs Q E hr e0 hb r hsp=> ?_⟩
 have hl:=len _ _ _ _ hsp
 have KX:K.In s.heap:=e0.mod.kin.keeps fun b o e=>(e0.bs b o e).1
 have lim:s.heap.NoLimit:=e0.mod.nolimit.keeps fun b o e=>(e0.bs b o e).1
 have hkind:∀y∈ps.zip us,scope.names.lookup y.1=some .local\/(scope.names.lookup y.1=some .cell/\((cellsFrom (s.heap.objs.size+1) scope.names []).lookup y.1).isSome=true):=fun⟨n,v⟩ hy=>by
  rcases S.par n (List.of_mem_zip hy).1 with q|q
  ·exact .inl q
  ·exact .inr ⟨q,PySem.W.cellsFrom_some _ _ _ (.inl q)⟩
 refine codeAny_call_function hr.depth (KX _ _ lk) rfl S.co S.gen rfl (PySem.W.codeRec_of KX hcd) (hb _ _ _ _ ?_)
 refine wpAny_newFunctionEnv_cells S.kind hkind fun env he s1 x=> ?_
 subst he
 refine⟨lim.keeps x.toInCall.keep,codeAny_func ?_⟩
 obtain⟨t,ht,hq⟩:=hbody A outer s H vs Q E (hr.deeper _) hsp
 have I:g4 (a2O CX P w K mg base N qual scope f cdv A outer s H E) [] (a0e N vs) H s1:=a6V S hr.hd e0 hl r x
 refine wpAny_mono (ht [] s1 (a0e N vs) H _ I hq) (fun fl s' hs=> ?_) fun e s' hs=>hs
 have fin:∀{σ':St} {H':Hp} {v:V} {u:AA},g4 (a2O CX P w K mg base N qual scope f cdv A outer s H E) [] σ' H' s'->i6 v u->Q v H'->CE outer P w H s Q u s':=
  fun {σ' H' v u} J rv q=>⟨v,H',J.os,J.bare,J.base,J.hok,rv,q⟩
 cases fl with
 |ret u=>
  obtain⟨v,σ',H',J,rv,q⟩:=hs
  exact fin J rv q
 |next=>
  obtain⟨σ',H',J,q⟩:=hs
  exact fin (v:=V.non) (u:=Value.none) J rfl q
 |brk=>
  obtain⟨_,_,_,q⟩:=hs
  exact False.elim q
 |cont=>
  obtain⟨_,_,_,q⟩:=hs
  exact False.elim q
section
variable {X:Cx}{x:Str}{p pos:Pos}{e:AE}{es:List AE}{t:TA}{id T:String}{r:List V->Hp->VK->Prop}
def tCB(r:List V->Hp->VK->Prop)(t:TA):TE:=fun σ H Q=>t σ H fun vs H1=>r vs H1 Q
theorem a49(hc:D1 X (.builtin id) r)(hg:Gl X x)(hm:X.mg x=none)(hv:bootBuiltins x=some (.builtin id))(ha:PA X (e::es) t)(hn:x≠"__name__":=by decide)(hdb:(x==("__debug__":Str))=false:=by decide)
 (he:AN (e::es) X.env=(false,eval e X.env)::AN es X.env:=by rfl) (hpl:(backTo pos (AN es X.env)).any (·.1)=false:=by rfl):PE X (.Call (.Name x p) (e::es) [] pos) (tCB r t):=by
 intro pins s σ H Q I h
 refine wpAny_Call_Name_kw (a14 I hg hm hv ?_ hn hdb)
 exact PyProof.Rows.callWith_builtin1 (w9 (ha pos pins s σ H _ I h) fun us s1 ⟨vs,H1,I1,r1,q1⟩=>hc pins s1 σ H1 vs us Q I1 r1 q1) he hpl
theorem a7f(hc:D1 X (.type T) r)(hg:Gl X x)(hm:X.mg x=none)(hv:bootBuiltins x=some (.type T))(ha:PA X (e::es) t)(hn:x≠"__name__":=by decide)(hdb:(x==("__debug__":Str))=false:=by decide)
 (he:AN (e::es) X.env=(false,eval e X.env)::AN es X.env:=by rfl) (hpl:(backTo pos (AN es X.env)).any (·.1)=false:=by rfl):PE X (.Call (.Name x p) (e::es) [] pos) (tCB r t):=by
 intro pins s σ H Q I h
 refine wpAny_Call_Name_kw (a14 I hg hm hv ?_ hn hdb)
 exact PyProof.Rows.callWith_type1 (w9 (ha pos pins s σ H _ I h) fun us s1 ⟨vs,H1,I1,r1,q1⟩=>hc pins s1 σ H1 vs us Q I1 r1 q1) he hpl
end
end L2
namespace HT
open PySem PyProof.Rows
section
open PySem.SeqAt
open PySem.AutoSeq1 (wpAny_loadPart')
open PySem.MeetsSeq PySem.MeetsSeq2 PySem.MeetsSeq3
end
section
variable {prog:AG}{w:AF}{A:AI}{E:AA->AC->Prop}{s:AC}
theorem cat_tup{t b:AB}{vs ws:List AA}{Q:AA->AC->Prop}(ht:IsTup s.heap t vs.toArray)(hb:IsTup s.heap b ws.toArray)(hv:vs≠[])
 (h1:ws=[]->Q (.ref t) s) (h2:ws≠[]->Q (.ref s.heap.objs.size) {s with heap:=s.heap.push {cls:= .type "tuple",data:= .seq (vs++ws).toArray}})
 (hsz:vs.length+ws.length<=AL):AH (model prog w) A (binaryOp .Add (.ref t) (.ref b)) Q E s:=by
 obtain⟨⟨cls,dd,data,sl⟩,ho,hc,n,hd⟩:=id ht
 obtain⟨⟨cls2,dd2,data2,sl2⟩,ho2,hc2,n2,hd2⟩:=id hb
 simp only at hc hd hc2 hd2
 subst hc hd hc2 hd2
 have e:vs.toArray++ws.toArray=(vs++ws).toArray:=by simp
 by_cases hw:ws=[]
 ·exact concat_meets ⟨_,ho,rfl⟩ ⟨_,ho2,rfl⟩ noFill_tuple_add seq_tuple_add PySem.F.slot_tuple_add PySem.F.entry_tuple_add (PySem.F.args_tuple_add_2 _ _)
   (tuple_addW1 t b vs.toArray ws.toArray n n2 dd dd2 sl sl2 (by simpa using hv) (by simp [hw])) ⟨ho,ho2,h1 hw⟩
 ·refine concat_meets ⟨_,ho,rfl⟩ ⟨_,ho2,rfl⟩ noFill_tuple_add seq_tuple_add PySem.F.slot_tuple_add PySem.F.entry_tuple_add (PySem.F.args_tuple_add_2 _ _)
   (tuple_addW2 t b vs.toArray ws.toArray n n2 dd dd2 sl sl2 (by simpa using hv) (by simpa using hw) (by rw [AY,AY];exact hsz)) ⟨ho,ho2, ?_⟩
  rw [e]
  exact h2 hw
def sIx(n d:Nat):Option Int->Nat
 |none=>d
 |some v=>if v<0 then(v+(n:Int)).toNat else min v.toNat n
end
end HT
namespace L2
open PySem PySem.Spec PyProof.Rows
abbrev TO:=St->Hp->(Option Int->Hp->Prop)->Prop
section
variable {X:Cx}{e:AE}{te:TE}{lo hi:Option AE}{tl th:TO}{pos p2:Pos}
def SlR(X:Cx)(r:V->Option Int->Option Int->Hp->VK->Prop):Prop:=
 ∀(pins:List (AB×Obj)) (s:AC) (σ:St) (H:Hp) (x:V) (v vl vu:AA) (lo hi:Option Int) (sl:AB) (Q:VK),g4 X pins σ H s->i6 x v->s.heap.IsSliceOf sl vl vu .none->IsPart vl lo->IsPart vu hi->r x lo hi H Q->
  ∃T id,typeLookup (.type T) "__getitem__"=pure (some (.builtin id))/\s.TypeIs v T/\AH (model X.prog X.w) X.A (getItem v (.ref sl)) (EP X pins σ Q) X.xe s
theorem SlR.or{r r':V->Option Int->Option Int->Hp->VK->Prop}(h:SlR X r)(h':SlR X r'):SlR X (fun x lo hi H Q=>r x lo hi H Q\/r' x lo hi H Q):=by
 intro pins s σ H x v vl vu lo hi sl Q I rx hs pl pu q
 rcases q with q|q
 ·exact h pins s σ H x v vl vu lo hi sl Q I rx hs pl pu q
 ·exact h' pins s σ H x v vl vu lo hi sl Q I rx hs pl pu q
def b3n(K:AD):R2:=fun x y H Q=>∃a b xs ys,x= .ref a/\y= .ref b/\M5 K H a xs/\M5 K H b ys/\xs≠[]/\xs.length+ys.length<=AL/\
 (ys=[]->Q (.ref a) H)/\(ys≠[]->∀p,H p=none->Q (.ref p) (upd H p (.tup (xs++ys))))
theorem g6.nil_iff{xs:List V}{us:List AA}(r:g6 xs us):us=[]↔xs=[]:=by
 cases r with
 |nil=>simp
 |cons _ _=>simp
theorem b0n:X4 X (binaryOp .Add) (b3n X.K):=by
 intro pins s σ H x y v u Q I rx ry h
 obtain⟨a,b,xs,ys,rfl,rfl,ha,hb,hx,hz,q1,q2⟩:=h
 cases rx
 cases ry
 obtain⟨its,r1,p1,_⟩:=I.tuple ha
 obtain⟨its2,r2,p2,_⟩:=I.tuple hb
 refine HT.cat_tup p1 p2 (fun z=>hx (r1.nil_iff.mp z)) (fun z=>⟨.ref a,H,I,rfl,q1 (r2.nil_iff.mp z)⟩) (fun z=> ?_) (by rw [<-r1.length,<-r2.length];exact hz)
 refine⟨.ref s.heap.objs.size,_,I.laid (t':=s.toks) (o:= .tup (xs++ys)) (fun b ob q=>Ab _ q) (AO _) ?_,rfl,q2 (fun w=>z (r2.nil_iff.mpr w)) _ (I.hok.fresh (AO _))⟩
 exact⟨by rw [Aa];exact hz,_,r1.append r2,IsTup.new _ _⟩
end
def ixN(n:Nat)(i:Int):Option Nat:=if 0<=i then(if i<n then some i.toNat else none) else if -(n:Int)<=i then some (i+n).toNat else none
def atI{α:Type}(xs:List α)(i:Int):Option α:=(ixN xs.length i).bind fun j=>xs[j]?
theorem a98{n:Nat}{i:Int}{j:Nat}(h:ixN n i=some j):seqIndex? i n=some j/\j<n/\ -(n:Int)<=i/\i<n:=by
 unfold ixN at h
 by_cases h0:0<=i
 ·rw [if_pos h0] at h
  by_cases h1:i<n
  ·rw [if_pos h1] at h
   have e:i.toNat=j:=Option.some.inj h
   exact⟨by rw [seqIndex_of h0 h1,e],by lia,by lia,h1⟩
  ·rw [if_neg h1] at h;cases h
 ·rw [if_neg h0] at h
  by_cases h1: -(n:Int)<=i
  ·rw [if_pos h1] at h
   have e:(i+n).toNat=j:=Option.some.inj h
   exact⟨by rw [seqIndex_neg (by lia) h1,e],by lia,h1,by lia⟩
  ·rw [if_neg h1] at h;cases h
theorem a3A{α:Type}{xs:List α}{i:Int}{v:α}(h:atI xs i=some v):∃j,seqIndex? i xs.length=some j/\xs[j]?=some v/\j<xs.length/\ -(xs.length:Int)<=i/\i<xs.length:=by
 unfold atI at h
 cases e:ixN xs.length i with
 |none=>rw [e] at h;cases h
 |some j=>
  rw [e] at h
  obtain⟨h1,h2,h3,h4⟩:=a98 e
  exact⟨j,h1,h,h2,h3,h4⟩
def a56(b:AE):Prop:=∀o i,subscripted b false o i=operate [o,i] (getItem o i)
def IxR(X:Cx)(r:R2):Prop:=
 ∀(value slice:AE) (pins:List (AB×Obj)) (s:AC) (σ:St) (H:Hp) (x y:V) (v u:AA) (Q:VK),g4 X pins σ H s->i6 x v->i6 y u->r x y H Q->
  subscripted slice false v u=operate [v,u] (getItem v u)->AH (model X.prog X.w) X.A (subscriptTail value slice v u) (EP X pins σ Q) X.xe s
def MtR(X:Cx)(id:String)(r:V->List V->Hp->VK->Prop):Prop:=
 ∀(pins:List (AB×Obj)) (s:AC) (σ:St) (H:Hp) (x:V) (xs:List V) (v:AA) (us:List AA) (Q:VK),g4 X pins σ H s->i6 x v->g6 xs us->r x xs H Q->
  AH (model X.prog X.w) X.A (call (.builtin id) (v::us)) (EP X pins σ Q) X.xe s
section
variable {X:Cx}{a b:AE}{ta tb:TE}{pos:Pos}
theorem IxR.or{r r':R2}(h:IxR X r)(h':IxR X r'):IxR X (fun x y H Q=>r x y H Q\/r' x y H Q):=by
 intro value slice pins s σ H x y v u Q I rx ry q hs
 rcases q with q|q
 ·exact h value slice pins s σ H x y v u Q I rx ry q hs
 ·exact h' value slice pins s σ H x y v u Q I rx ry q hs
theorem MtR.or{id:String}{r r':V->List V->Hp->VK->Prop}(h:MtR X id r)(h':MtR X id r'):MtR X id (fun x xs H Q=>r x xs H Q\/r' x xs H Q):=by
 intro pins s σ H x xs v us Q I rx rs q
 rcases q with q|q
 ·exact h pins s σ H x xs v us Q I rx rs q
 ·exact h' pins s σ H x xs v us Q I rx rs q
theorem b3j{r:R2}(hr:IxR X r)(ha:PE X a ta)(hb:PE X b tb)(hs:a56 b):PE X (.Subscript a b pos) (tOp r ta tb):=by
 intro pins s σ H Q I h
 exact Subscript_ (b1q ha hb I h fun v u s2 x y H2 I2 rx ry q=>hr a b pins s2 σ H2 x y v u Q I2 rx ry q (hs _ _))
def b3T(K:AD):R2:=fun x y H Q=>∃p xs i v,x= .ref p/\y= .int i/\H9 K H p xs/\atI xs i=some v/\Q v H
def b3V(K:AD):R2:=fun x y H Q=>∃p xs i v,x= .ref p/\y= .int i/\M5 K H p xs/\atI xs i=some v/\Q v H
def b3U:R2:=fun x y H Q=>∃z i c,x= .str z/\y= .int i/\z.length<=AL/\atI z.cps.toList i=some c/\Q (.str ⟨#[c]⟩) H
theorem a99:IxR X (b3T X.K):=by
 intro value slice pins s σ H x y v u Q I rx ry h hs
 obtain⟨p,xs,i,z,rfl,rfl,hq,he,q⟩:=h
 cases rx
 obtain⟨t,rfl⟩:=ry
 obtain⟨its,r,pl,hz⟩:=I.list hq
 obtain⟨j,h1,h2,h3,h4,h5⟩:=a3A he
 obtain⟨w,ew,rw'⟩:=r.get h2
 have hl:=r.length
 have hn:=a0y
 have fin:EP X pins σ Q w s:=⟨z,H,I,rw',q⟩
 by_cases h0:0<=i
 ·have hj:i.toNat=j:=by
   rw [seqIndex_of h0 h5] at h1
   exact Option.some.inj h1
  exact item_listR pl.isList h0 (by lia) (by rw [hj];simpa using ew) fin hs
 ·have hj:(i+(its.toArray.size:Int)).toNat=j:=by
   rw [seqIndex_neg (by lia) h4] at h1
   rw [AY,<-hl]
   exact Option.some.inj h1
  exact subscriptTail_builtinR (x:=w) pl.isList.typeIs slot_list_getitem.lookup
   (wpAny_getItem_list_neg (Q:=fun r s'=>r=w/\EP X pins σ Q r s') pl.isList (by lia) (by rw [AY]<;>lia) (by lia) (by rw [hj];simpa using ew) ⟨rfl,fin⟩) hs
theorem b1O:IxR X (b3V X.K):=by
 intro value slice pins s σ H x y v u Q I rx ry h hs
 obtain⟨p,xs,i,z,rfl,rfl,hq,he,q⟩:=h
 cases rx
 obtain⟨t,rfl⟩:=ry
 obtain⟨its,r,pl,hz⟩:=I.tuple hq
 obtain⟨j,h1,h2,h3,h4,h5⟩:=a3A he
 obtain⟨w,ew,rw'⟩:=r.get h2
 have hl:=r.length
 have hn:=a0y
 have fin:EP X pins σ Q w s:=⟨z,H,I,rw',q⟩
 exact subscriptTail_builtinR (x:=w) pl.typeIs slot_tuple_getitem.lookup
  (getItem_tuple (j:=j) (Q:=fun r s'=>r=w/\EP X pins σ Q r s') pl (by lia) (by lia) (by rw [AY,<-hl];exact h1) (by simpa using ew) ⟨rfl,fin⟩) hs
theorem b1N:IxR X b3U:=by
 intro value slice pins s σ H x y v u Q I rx ry h hs
 obtain⟨z,i,c,rfl,rfl,hz,he,q⟩:=h
 obtain⟨t,rfl⟩:=rx
 obtain⟨t',rfl⟩:=ry
 obtain⟨j,h1,h2,h3,h4,h5⟩:=a3A he
 have hl:z.cps.toList.length=z.length:=by simp [Str.length]
 rw [hl] at h1 h4 h5
 have hn:=a0y
 exact tail_any (typeIs_str s z t) slot_str_getitem.lookup (getItem_str (c:=c) (by
  have e1:decide (i< -(2 ^ 63:Int))=false:=decide_eq_false (by lia)
  have e2:decide (i>=2 ^ 63)=false:=decide_eq_false (by lia)
  rw [e1,e2,Bool.or_false]) (by rw [h1];simpa using h2) ⟨.str ⟨#[c]⟩,H,I.tok _,⟨_,rfl⟩,q⟩) hs
theorem g4.lst{pins:List (AB×Obj)}{σ:St}{H:Hp}{s:AC}{p:AB}{xs:List V}(I:g4 X pins σ H s)(h:H p=some (.lst xs)):
 ∃(its:List AA) (n:Nat),g6 xs its/\s.heap.get? p=some {cls:= .type "list",data:= .seq its.toArray n}/\xs.length<=AL:=by
 obtain⟨z,its,n,r,e⟩:=I.hok p _ h
 exact⟨its,n,r,e,z⟩
def b3o:V->V->V->Hp->(Hp->Prop)->Prop:=fun o i v H Q=>∃p xs k j,o= .ref p/\i= .int k/\H p=some (.lst xs)/\ixN xs.length k=some j/\Q (upd H p (.lst (xs.set j v)))
theorem a4g(lo hi:Option Int)(n:Nat):(sliceBounds lo hi none n).1=((HT.sIx n 0 lo:Nat):Int)/\(sliceBounds lo hi none n).2.1=((HT.sIx n n hi:Nat):Int)/\(sliceBounds lo hi none n).2.2=1:=by
 refine⟨?_, ?_,rfl⟩
 ·cases lo with
  |none=>simp [sliceBounds,HT.sIx]
  |some i=>
   simp only [sliceBounds,HT.sIx,Option.getD_none,show(1:Int)>0 by decide,if_true]
   by_cases h:i<0
   ·simp only [h,if_true]<;>lia
   ·simp only [h,if_false]<;>lia
 ·cases hi with
  |none=>simp [sliceBounds,HT.sIx]
  |some i=>
   simp only [sliceBounds,HT.sIx,Option.getD_none,show(1:Int)>0 by decide,if_true]
   by_cases h:i<0
   ·simp only [h,if_true]<;>lia
   ·simp only [h,if_false]<;>lia
theorem a2U(its:List AA)(lo hi:Option Int):slicePick its.toArray lo hi none=((its.drop (HT.sIx its.length 0 lo)).take (HT.sIx its.length its.length hi - HT.sIx its.length 0 lo)).toArray:=by
 obtain⟨h1,h2,h3⟩:=a4g lo hi its.toArray.size
 unfold slicePick
 rw [h1,h2,h3]
 simp only [sliceRange_one,pick_run,AY]<;>rfl
theorem a3B:D1 X (.builtin "len") (fun xs H Q=>∃p ys,xs=[.ref p]/\(H9 X.K H p ys\/M5 X.K H p ys)/\Q (.int ys.length) H):=by
 intro pins s σ H xs us Q I r h
 obtain⟨p,ys,rfl,hq,q⟩:=h
 obtain⟨u,rfl,rx⟩:=a5n r
 cases rx
 have hn:=a0y
 rcases hq with hq|hq
 ·obtain⟨its,r',pl,hz⟩:=I.list hq
  have hlen:=r'.length
  exact Calls.call_len_list pl.isList (by simp only [AY]<;>lia) ⟨.int ys.length,H,I.tok _,⟨s.toks+1,by rw [AY,hlen]⟩,q⟩
 ·obtain⟨its,r',pl,hz⟩:=I.tuple hq
  have hlen:=r'.length
  exact len_tuple pl (by simp only [AY]<;>lia) ⟨.int ys.length,H,I.tok _,⟨s.toks+1,by rw [AY,hlen]⟩,q⟩
theorem a3C:D1 X (.builtin "len") (fun xs H Q=>∃z,xs=[.str z]/\z.length<=AL/\Q (.int z.length) H):=by
 intro pins s σ H xs us Q I r h
 obtain⟨z,rfl,hz,q⟩:=h
 obtain⟨u,rfl,t,rfl⟩:=a5n r
 have hn:=a0y
 exact len_str (by lia) ⟨.int z.length,H,I.tok _,⟨_,rfl⟩,q⟩
theorem D1.or{f:AA}{r r':List V->Hp->VK->Prop}(h:D1 X f r)(h':D1 X f r'):D1 X f (fun xs H Q=>r xs H Q\/r' xs H Q):=by
 intro pins s σ H xs us Q I rs q
 rcases q with q|q
 ·exact h pins s σ H xs us Q I rs q
 ·exact h' pins s σ H xs us Q I rs q
theorem a3D:D1 X (.type "list") (fun xs H Q=>∃p ys,xs=[.ref p]/\(H9 X.K H p ys\/M5 X.K H p ys)/\∀l,H l=none->Q (.ref l) (upd H l (.lst ys))):=by
 intro pins s σ H xs us Q I r h
 obtain⟨p,ys,rfl,hq,q⟩:=h
 obtain⟨u,rfl,rx⟩:=a5n r
 cases rx
 have fin:∀(its:List AA),g6 ys its->ys.length<=AL->∀(h':Heap) (c':Nat),(∀b o',s.heap.get? b=some o'->h'.get? b=some o')->
  h'.get? s.heap.objs.size=some {cls:= .type "list",dict:=none,data:= .seq its.toArray c',slots:= #[]}->EP X pins σ Q (.ref s.heap.objs.size) {s with heap:=h'}:=fun its r' hz h' c' kp e=>
  ⟨.ref s.heap.objs.size,_,I.laid (t':=s.toks) kp (AO _) (show s9 X.prog X.w _ h' _ (.lst ys) from⟨hz,its,c',r',e⟩),rfl,q _ (I.hok.fresh (AO _))⟩
 rcases hq with hq|hq
 ·obtain⟨its,r',pl,hz⟩:=I.list hq
  have hlen:=r'.length
  obtain⟨o,ho,hc,n,hd⟩:=pl.isList
  exact call_list_seq p (.inl rfl) ho hc hd (fun h' c' kp e=>fin its r' hz h' c' kp e) (by simp only [AY]<;>lia)
 ·obtain⟨its,r',pl,hz⟩:=I.tuple hq
  have hlen:=r'.length
  obtain⟨o,ho,hc,n,hd⟩:=pl
  exact call_list_seq p (.inr rfl) ho hc hd (fun h' c' kp e=>fin its r' hz h' c' kp e) (by simp only [AY]<;>lia)
def tyV(K:AD)(T:String)(x:V)(H:Hp):Prop:=match x with
 | .str _=>T="str"
 | .int _=>T="int"
 | .ref p=>(T="list"/\∃xs,H9 K H p xs)\/(T="tuple"/\∃o,K.lookup p=some o/\o.cls= .type "tuple"/\o.dict=none)\/
  (T="dict"/\((∃kvs,H p=some (.dK kvs))\/∃kvs,H p=some (.dT kvs)))\/(T="set"/\∃S n,H p=some (.set S n))
 |_=>False
theorem a9o{pins:List (AB×Obj)}{σ:St}{H:Hp}{s:AC}{T:String}{x:V}{v:AA}(I:g4 X pins σ H s)(r:i6 x v)(ty:tyV X.K T x H):
 s.TypeIs v T/\∀a,v= .ref a->∃ob,s.heap.get? a=some ob/\ob.dict=none:=by
 cases x with
 |str z=>
  obtain⟨t,rfl⟩:=r
  cases(show T="str" from ty)
  exact⟨typeIs_str s z t,fun _ e=>nomatch e⟩
 |int i=>
  obtain⟨t,rfl⟩:=r
  cases(show T="int" from ty)
  exact⟨typeIs_int s i t,fun _ e=>nomatch e⟩
 |ref p=>
  cases r
  rcases ty with⟨rfl,xs,hq⟩|⟨rfl,o,hk,hc,hd⟩|⟨rfl,hk⟩|⟨rfl,S,n,hk⟩
  ·obtain⟨its,_,pl,_⟩:=I.list hq
   refine⟨pl.isList.typeIs,fun a e=> ?_⟩
   cases e
   obtain⟨o,n,e,c,hd,_⟩:=pl
   exact⟨o,e,hd⟩
  ·refine⟨⟨o,I.kIn p o hk,hc⟩,fun a e=> ?_⟩
   cases e
   exact⟨o,I.kIn _ o hk,hd⟩
  ·have z:∃o,s.heap.get? p=some o/\o.ExactDict:=by
    rcases hk with⟨kvs,hk⟩|⟨kvs,hk⟩
    ·obtain⟨_,_,_,_,o,_,_,e,ex,_⟩:=I.hok p _ hk
     exact⟨o,e,ex⟩
    ·obtain⟨_,_,_,_,o,_,_,e,ex,_⟩:=I.hok p _ hk
     exact⟨o,e,ex⟩
   obtain⟨o,e,ex⟩:=z
   refine⟨⟨o,e,ex.1⟩,fun a e2=> ?_⟩
   cases e2
   exact⟨o,e,ex.2.1⟩
  ·obtain⟨o,_,_,_,e,ex,_⟩:=I.hok p _ hk
   refine⟨⟨o,e,ex.1⟩,fun a e2=> ?_⟩
   cases e2
   exact⟨o,e,ex.2.1⟩
 |_=>exact False.elim ty
def b3Z(K:AD)(T:String)(r:V->List V->Hp->VK->Prop)(to:TE):TE:=fun σ H Q=>to σ H fun x H1=>tyV K T x H1/\r x [] H1 Q
def tBM(K:AD)(T:String)(r:V->List V->Hp->VK->Prop)(to:TE)(t:TA):TE:=fun σ H Q=>to σ H fun x H1=>tyV K T x H1/\t σ H1 fun xs H2=>r x xs H2 Q
variable {o e:AE}{es:List AE}{to:TE}{t:TA}{name:Str}{apos cpos:Pos}{T id:String}{r:V->List V->Hp->VK->Prop}
theorem b2f(pa:PlainAttrs T)(slot:Slot T name id)(hty:typeOf (.builtin id)=pure (.type "method_descriptor"))(hm:MtR X id r)(ho:PE X o to)
 (hbase:attributeBase o name X.env (eval o X.env)=eval o X.env:=by rfl) (hline:(apos.endLine==cpos.line)=true:=by rfl):PE X (.Call (.Attribute o name apos) [] [] cpos) (b3Z X.K T r to):=by
 intro pins s σ H Q I h
 refine wpAny_Call_method0_late hbase hline (w9 (ho pins s σ H _ I h) fun v s1 ⟨x,H1,I1,r1,ty,q1⟩=> ?_)
 obtain⟨h1,h2⟩:=a9o I1 r1 ty
 exact⟨T,id,pa,slot,hty,h1,h2,Calls.callWith_builtin rfl (PySem.evalArgs_none (hm pins s1 σ H1 x [] v [] Q I1 r1 .nil q1))⟩
theorem b07(pa:PlainAttrs T)(slot:Slot T name id)(hty:typeOf (.builtin id)=pure (.type "method_descriptor"))(hm:MtR X id r)(ho:PE X o to)(ha:PA X (e::es) t)
 (hbase:attributeBase o name X.env (eval o X.env)=eval o X.env:=by rfl)
 (hfew:((backTo cpos (AN (e::es) X.env)).all (fun x=> !x.1)&&(backToKw cpos (keywordEach [] X.env)).all (fun x=>x.1.isSome)
  && decide ((e::es).length+([]:List Keyword).length+(if([]:List Keyword).isEmpty then 0 else 1)<30))=true:=by rfl)
 (hline:(apos.endLine==cpos.line)=true:=by rfl) (hs:AN (e::es) X.env=(false,eval e X.env)::AN es X.env:=by rfl) (hplain:(backTo cpos (AN es X.env)).any (·.1)=false:=by rfl):
 PE X (.Call (.Attribute o name apos) (e::es) [] cpos) (tBM X.K T r to t):=by
 intro pins s σ H Q I h
 refine wpAny_Call_method_late hbase hfew hline rfl (w9 (ho pins s σ H _ I h) fun v s1 ⟨x,H1,I1,r1,ty,q1⟩=> ?_)
 obtain⟨h1,h2⟩:=a9o I1 r1 ty
 refine⟨T,id,pa,slot,hty,h1,h2, ?_⟩
 have hA:=ha cpos pins s1 σ H1 _ I1 q1
 rw [hs] at hA ⊢
 refine Calls.callWith_builtin (by show(false||(backTo cpos (AN es X.env)).any (·.1))=false;rw [hplain]<;>rfl) (Calls.evalArgs_plain ?_)
 exact w9 hA fun us s2 ⟨vs,H2,I2,r2,q2⟩=>hm pins s2 σ H2 x vs v us Q I2 r1 r2 q2
end
def MtM(X:Cx)(id:String)(r:V->List V->Hp->VK->Prop):Prop:=
 ∀(pins:List (AB×Obj)) (s:AC) (σ:St) (H:Hp) (x:V) (xs:List V) (v:AA) (us:List AA) (Q:VK),g4 X pins σ H s->i6 x v->g6 xs us->r x xs H Q->
  AH (model X.prog X.w) X.A (call (.builtin id) (v::us)) (EP X pins σ Q) X.xe s
theorem g6.one:∀{x:V} {us:List AA},g6 [x] us->∃u,us=[u]/\i6 x u
 |_,_,.cons r .nil=>⟨_,rfl,r⟩
theorem g6.zero:∀{us:List AA},g6 [] us->us=[]
 |_,.nil=>rfl
theorem g6.dropLast{xs:List V}{us:List AA}(h:g6 xs us):g6 xs.dropLast us.dropLast:=by
 induction h with
 |nil=>exact .nil
 |cons r t ih=>
  cases t with
  |nil=>exact .nil
  |cons q t'=>exact .cons r ih
theorem g6.eraseIdx:∀{xs:List V} {us:List AA} (i:Nat),g6 xs us->g6 (xs.eraseIdx i) (us.eraseIdx i)
 |_,_,_,.nil=> .nil
 |_,_,0,.cons _ t=>t
 |_,_,i+1,.cons r t=> .cons r (g6.eraseIdx i t)
theorem g6.reverse{xs:List V}{us:List AA}(h:g6 xs us):g6 xs.reverse us.reverse:=by
 induction h with
 |nil=>exact .nil
 |cons r t ih=>rw [List.reverse_cons,List.reverse_cons];exact g6.append ih (.cons r .nil)
theorem g6.rep{xs:List V}{us:List AA}(h:g6 xs us):∀k:Nat,g6 (AT k xs).flatten (AT k us).flatten
 |0=> .nil
 |k+1=>by
  rw [Af,Af,List.flatten_cons,List.flatten_cons]
  exact g6.append h (g6.rep h k)
theorem a5E{α:Type}(l:List α):l.eraseIdx (l.length - 1)=l.dropLast:=by
 induction l with
 |nil=>rfl
 |cons a r ih=>
  cases r with
  |nil=>rfl
  |cons b r=>
   have e:(a::b::r).length - 1=((b::r).length - 1)+1:=by
    have h1:(a::b::r).length=r.length+2:=rfl
    have h2:(b::r).length=r.length+1:=rfl
    lia
   rw [e,List.eraseIdx_cons_succ,ih]
   all_goals rfl
theorem a0p(its:List AA):∀(k:Nat) (acc:List AA),
 List.foldl (fun x1 x2=>x1++x2) acc.toArray (AT k its.toArray)=(acc++(AT k its).flatten).toArray
 |0,acc=>by simp
 |k+1,acc=>by
  have e:acc.toArray++its.toArray=(acc++its).toArray:=by simp
  have e2:(acc++its)++(AT k its).flatten=acc++(AT (k+1) its).flatten:=by
   rw [Af,List.flatten_cons,List.append_assoc]
  rw [<-e2,<-a0p its k (acc++its),<-e,Af,List.foldl_cons]
section
variable {X:Cx}{pins:List (AB×Obj)}{σ:St}{H:Hp}{s:AC}{l b:AB}{xs ys zs:List V}
theorem g4.lset{its its':List AA}{n:Nat}{f:Array AA->Array AA}{t':Nat}(I:g4 X pins σ H s)(hH:H l=some (.lst xs))
 (e:s.heap.get? l=some {cls:= .type "list",data:= .seq its.toArray n}) (hf:f its.toArray=its'.toArray) (hv:g6 ys its') (hz:ys.length<=AL):
 g4 X pins σ (upd H l (.lst ys)) {s with heap:=s.heap.update l (Obj.mapSeq f),toks:=t'}:=by
 have q:=PySem.IsL.update e f
 rw [hf] at q
 refine I.write (x:=l) (e:=l) (by rw [hH];exact trivial) (.inl rfl) (fun b' u hb hu=>(Heap.get?_update_other s.heap (Obj.mapSeq f) (Ne.symm hb)).trans hu) ⟨_,q⟩ ?_
 exact⟨hz,its',_,hv,q⟩
theorem g4.lnew{its:List AA}{t':Nat}(I:g4 X pins σ H s)(hv:g6 ys its)(hz:ys.length<=AL):
 g4 X pins σ (upd H s.heap.objs.size (.lst ys)) {s with heap:=s.heap.push {cls:= .type "list",data:= .seq its.toArray},toks:=t'}:=
 I.laid (fun _ _ q=>Ab _ q) (AO _) ⟨hz,its,0,hv,At _ rfl⟩
theorem g4.fresh(I:g4 X pins σ H s):H s.heap.objs.size=none:=I.hok.fresh (AO _)
theorem g4.lstM(I:g4 X pins σ H s)(hH:H l=some (.lst xs)):xs.length<=AL/\∃(its:List AA) (n:Nat),g6 xs its/\xs.length=its.length/\s.heap.get? l=some {cls:= .type "list",data:= .seq its.toArray n}:=by
 obtain⟨z,its,n,r,e⟩:=I.hok l _ hH
 exact⟨z,its,n,r,r.length,e⟩
theorem a8F{n:Nat}(h:n<=AL):Builtin.List.listTooLong n=false:=by
 unfold Builtin.List.listTooLong
 exact decide_eq_false (by lia)
end
section
variable {X:Cx}
def b0z:V->List V->Hp->VK->Prop:=fun x vs H Q=>∃l xs y,x= .ref l/\vs=[y]/\H l=some (.lst xs)/\xs.length<AL/\Q .non (upd H l (.lst (xs++[y])))
theorem a3i:MtM X "list.append" b0z:=by
 intro pins s σ H x vs v us Q I rx rv h
 obtain⟨l,xs,y,rfl,rfl,hH,hz,q⟩:=h
 cases rx
 obtain⟨u,rfl,ru⟩:=rv.one
 obtain⟨z,its,n,r,hl,e⟩:=I.lstM hH
 refine call_meets F.slot_list_append ⟨_,e,rfl⟩ F.entry_list_append (F.args_list_append_2 _ _) (PySem.list_append l its.toArray n u (by rw [AY];lia)) ⟨e, ?_⟩
 refine⟨.non,_,I.lset (its':=its++[u]) hH e (by simp) (r.append (.cons ru .nil)) ?_,rfl,q⟩
 rw [Aa,List.length_singleton]
 lia
def b3W:V->List V->Hp->VK->Prop:=fun x vs H Q=>∃l xs y,x= .ref l/\vs=[]/\H l=some (.lst xs)/\xs[xs.length - 1]?=some y/\Q y (upd H l (.lst xs.dropLast))
theorem b1Y:MtM X "list.pop" b3W:=by
 intro pins s σ H x vs v us Q I rx rv h
 obtain⟨l,xs,y,rfl,rfl,hH,hy,q⟩:=h
 cases rx
 have hus:=rv.zero
 subst hus
 obtain⟨z,its,n,r,hl,e⟩:=I.lstM hH
 obtain⟨u,hu,ru⟩:=r.get hy
 have hy':its.toArray[its.toArray.size - 1]?=some u:=by
  show its.toArray[its.length - 1]?=some u
  rw [<-Array.getElem?_toList,<-hl]
  exact hu
 refine call_meets F.slot_list_pop ⟨_,e,rfl⟩ F.entry_list_pop (F.args_list_pop_1 _) (MeetsSeq.list_pop_last l its.toArray n u hy' (by rw [AY];lia)) ⟨e, ?_⟩
 refine⟨y,_,I.lset (its':=its.dropLast) hH e ?_ r.dropLast ?_,ru,q⟩
 ·show its.toArray.eraseIdxIfInBounds (its.toArray.size - 1)=its.dropLast.toArray
  rw [AY,List.eraseIdxIfInBounds_toArray,a5E]
 ·rw [List.length_dropLast]
  lia
def b3S:R2:=fun x y H Q=>∃l b xs zs,x= .ref l/\y= .ref b/\H l=some (.lst xs)/\H b=some (.lst zs)/\xs.length+zs.length<=AL/\∀p,H p=none->Q (.ref p) (upd H p (.lst (xs++zs)))
theorem b19:X4 X (binaryOp .Add) b3S:=by
 intro pins s σ H x y v u Q I rx ry h
 obtain⟨l,b,xs,zs,rfl,rfl,hH,hB,hz,q⟩:=h
 cases rx
 cases ry
 obtain⟨z,its,n,r,hl,e⟩:=I.lstM hH
 obtain⟨z2,its2,n2,r2,hl2,e2⟩:=I.lstM hB
 refine PySem.P.add_list e e2 ?_ (by rw [AY,AY];lia)
 have ea:its.toArray++its2.toArray=(its++its2).toArray:=by simp
 rw [ea]
 exact⟨.ref _,_,I.lnew (t':=s.toks) (r.append r2) (by rw [Aa];lia),rfl,q _ I.fresh⟩
def b3X:R2:=fun x y H Q=>∃l k xs,x= .ref l/\y= .int k/\H l=some (.lst xs)/\ -(2 ^ 63)<=k/\k<2 ^ 63/\xs.length*k.toNat<=AL/\
 ∀p,H p=none->Q (.ref p) (upd H p (.lst (AT k.toNat xs).flatten))
theorem a3W{α:Type}(xs:List α)(k:Nat):(AT k xs).flatten.length=k*xs.length:=by
 induction k with
 |zero=>simp
 |succ k ih=>rw [Af,List.flatten_cons,Aa,ih,Nat.succ_mul,Nat.add_comm]
theorem b2c:X4 X (binaryOp .Mult) b3X:=by
 intro pins s σ H x y v u Q I rx ry h
 obtain⟨l,k,xs,rfl,rfl,hH,h1,h2,hz,q⟩:=h
 cases rx
 obtain⟨t,rfl⟩:=ry
 obtain⟨z,its,n,r,hl,e⟩:=I.lstM hH
 have hlen:its.toArray.size*k.toNat<=AL:=by rw [AY,<-hl];exact hz
 have hcap:¬its.toArray.size*k.toNat>(2 ^ 63 - 1)/ 8:=by
  have:(AL:Nat)<=(2 ^ 63 - 1)/ 8:=by decide
  lia
 have hfit:¬(!Builtin.List.listFitsIndex k)=true:=by
  rw [fitsIndex_both h1 h2]
  exact Av
 have hlong:¬Builtin.List.listTooLong (its.toArray.size*k.toNat)=true:=by
  rw [a8F hlen]
  exact Av
 have hnew:List.foldl (fun x1 x2=>x1++x2) #[] (AT (if its.toArray.isEmpty=true then 0 else k.toNat) its.toArray)=(AT k.toNat its).flatten.toArray:=by
  have f0:∀m:Nat,List.foldl (fun x1 x2=>x1++x2) #[] (AT m its.toArray)=(AT m its).flatten.toArray:=fun m=>by
   have:=a0p its m []
   rw [Ap] at this
   exact this
  rw [f0]
  cases its with
  |nil=>simp
  |cons a r'=>rw [if_neg (by simp)]
 refine wpAny_binaryOp_repeat_ref (T:="list") (U:="int") (by decide) ⟨_,e,rfl⟩ (fun s'=>typeIs_int s' k t) noFill_list_mul F.fills_int_mul F.slot_int_rmul repeat_list F.slot_int_index.lookup
  (call_meets F.slot_int_rmul (typeIs_int s k t) F.entry_int_rmul (F.args_int_rmul_2 _ _) (int___rmul___int_list k t l its.toArray n)
   ⟨e,rfl,⟨_,e,rfl⟩,call_meets F.slot_list_mul ⟨_,e,rfl⟩ F.entry_list_mul (F.args_list_mul_2 _ _) (AutoListH.list___mul___list_int_3 l its.toArray n k t hfit hcap hlong) ⟨e, ?_⟩⟩)
 rw [hnew]
 exact⟨.ref _,_,I.lnew (t':=s.toks) (r.rep k.toNat) (by rw [a3W,Nat.mul_comm];exact hz),rfl,q _ I.fresh⟩
end
section
variable {prog:AG}{w:AF}{A:AI}{E:AA->AC->Prop}{s:AC}
end
section
variable {X:Cx}
end
end L2
namespace Att
open PySem PySem.W PySem.Calls PyProof.Rows
theorem a1a{P:Params}{h:Heap}:∀(ns:List Int) (vs:List AA),WellAll P h vs (ns.map WData.int)->IntsAre vs ns:=by
 intro ns
 induction ns with
 |nil=>
  intro vs w
  rw [Ae] at w
  cases w
  exact .nil
 |cons n ns ih=>
  intro vs w
  rw [AM] at w
  cases w with
  |cons a b=>
   cases a
   exact .cons _ _ (ih _ b)
theorem a7l{l:OpenLaw}{n:Nat}(hn:l.most=some n){P:Params}{h:Heap}{args:List WData}{vals:List AA}
 (hpre:l.row.toRowW.claim.pre args=true) (hwl:WellAll P h vals args):
 ∃a vs ns,vals=[Value.ref a]/\args=[WData.list (ns.map WData.int)]/\h.get? a=some {cls:= .type "list",data:= .seq vs.toArray}/\IntsAre vs ns/\ns.length<=n:=by
 have hsh:WShape.hasAll [] args [.list .int]=true:=(pre_splitW hpre).1
 have hc:l.pre.holds [] {args:=args}=true:=(pre_splitW hpre).2
 obtain⟨d,r,rfl,h1,h2⟩:=hasAllW_cons hsh
 obtain rfl:=hasAllW_nil h2
 obtain⟨xs,rfl,h3⟩:=hasW_list h1
 obtain⟨ns,rfl⟩:=items_int h3
 have hlen:ns.length<=n:=by
  unfold OpenLaw.pre at hc
  have h4:(WTm.not (.lt (.lit (.int (n:Int))) (.len (.arg 0)))).holds [] {args:=[.list (ns.map .int)]}=true:=by
   have h4:=(holds_andW hc).1
   rw [hn] at h4
   exact h4
  have h5:=condW_of h4 (w_not (w_lt w_lit (w_len_list (w_arg rfl))))
  rw [AR] at h5
  refine Nat.le_of_not_lt fun q=> ?_
  have q':(n:Int)<((ns.length:Nat):Int):=by lia
  first
   |(rw [decide_eq_true q'] at h5;exact absurd h5 (by decide))
   |(simp at h5;lia)
 cases hwl with
 |cons w1 w2=>
  cases w2
  cases w1 with
  |list ho hall=>exact⟨_,_,ns,rfl,rfl,ho,a1a ns _ hall,hlen⟩
theorem a7h(l:OpenLaw)(args:List WData):l.row.toRowW.claim.post args (.bool true) args=true:=
 postW_of (r:=l.row.toRowW) (X:=(true==true))
  (show WShape.has [] (.bool true) .bool=true by first|rfl|decide|simp [WShape.has,WShape.arms,WShape.armsAll])
  (show(WTm.eq .res (.lit (.bool true))).value [] {args:=args,res:=some (.bool true),after:=args}=some (.bool (true==true)) from w_eq_bool (w_res rfl) w_lit) rfl
theorem attach_call{l:OpenLaw}{n:Nat}{q:AG}{loose:List Str}{XP:(Str->Option AA)->Heap->Prop}{YP:AF->Heap->Prop}{d:DefRec}
 (hn:l.most=some n) (hdf:d.params.defaults=[])
 (call:∀(w:AF) (s₀ s₁:AC) (mg mb:Str->Option AA) (fa:AB) (o:Obj) (pm cd doc:AA) (a:AB) (vs:List AA) (ns:List Int),
  Ground q loose [] XP w s₀ mg mb s₁.heap->YP w s₁.heap->
  s₁.heap.get? fa=some o->o.data= .func (docDef d.name d.params d.body d.scope pm cd doc)->s₁.heap.CodeRec cd d.name->mg d.name=some (.ref fa)->
  s₁.heap.get? a=some {cls:= .type "list",data:= .seq vs.toArray}->IntsAre vs ns->ns.length<=n->s₁.gens= #[]->
  codeAny (model l.prog w) callerA (.call (.ref fa) ⟨[.ref a],[]⟩) (fun r s'=>r= .ok (.ret (.bool true))/\OldK s₁.heap s'.heap/\s'.os=s₁.os/\AllBare s'.gens) s₁):
 WalkO q loose XP YP l.row.toRowW d [] (fun f vs=>PySem.call f vs):=by
 intro w s₀ s₁ mg mb G Y fa o pm cd doc dV kV ho hd hcd hD hmg hg args vals as hpre hlay hrd hwl hlo
 obtain rfl:dV= .none:=Dflts.none hD hdf
 obtain rfl:kV= .none:=Dflts.noKw hD
 obtain⟨a,vs,ns,rfl,rfl,hobj,hints,hlen⟩:=a7l hn hpre hwl
 refine enter_call (codeAny_mono (call w s₀ s₁ mg mb fa o pm cd doc a vs ns G Y ho (fd_plain hd) hcd hmg hobj hints hlen hg) fun r s' hq=> ?_)
 obtain⟨rfl,h2,h3,h4⟩:=hq
 exact⟨.inl ⟨.bool true,.bool true,[],rfl,fun _=>rfl,.bool true,a7h l _,fun _=>⟨List.Pairwise.nil,fun _ hm=>(nomatch hm)⟩⟩,h2,h3,h4⟩
section
variable {prog:AG}{w:AF}{A:AI}{E:AA->AC->Prop}{s:AC}{K:Frag}
end
end Att
namespace L2
open PySem PySem.Spec PyProof.Rows
theorem a3w:∀{vs:List AA} {ns:List Int},IntsAre vs ns->g6 (ns.map V.int) vs
 |_,_,.nil=> .nil
 |_,_,.cons n t h=> .cons ⟨t,rfl⟩ (a3w h)
def b1j(H:Hp):Prop:=∀b,H b=none\/∃o xs,H b=some (.frz o (.lst xs))
theorem a8r{P:AG}{w:AF}{K:AD}{mg mb:Str->Option AA}{CX:CXT}{k:Nat}{fa a:AB}{fd:FuncData}{x:Str}{sp:Sp}{s₁:AC}{vs:List AA}{ns:List Int}
 (KX:K.In s₁.heap) (hns:s₁.heap.Ns mainGlobals mg) (hb:s₁.heap.Ns builtinsNs mb) (hbb:∀x:Str,x≠"__name__"->mb x=bootBuiltins x) (hlim:s₁.heap.NoLimit) (hg:s₁.gens= #[])
 (ha:s₁.heap.get? a=some {cls:= .type "list",data:= .seq vs.toArray}) (hi:IntsAre vs ns) (hl:ns.length<=AL) (hr:A0 k callerA)
 (F:∀base:Heap,K.In base->base.Ns mainGlobals mg->E2 P w K mg base CX k fa fd [x] sp) (hbind:∀(s:AC) (u:AA),BindsTo s fd ⟨[u],[]⟩ [(x,u)])
 (hsp:∀H:Hp,b1j H->H9 K H a (ns.map V.int)->sp [.ref a] H (fun v _=>v= .bl true) fun _ _ _=>False)
 (hCX:∀H e s',CX [] H s₁ (fun _ _ _=>False) e s'->False):
 codeAny (model P w) callerA (.call (.ref fa) ⟨[.ref a],[]⟩) (fun r s'=>r= .ok (.ret (.bool true))/\OldK s₁.heap s'.heap/\s'.os=s₁.os/\AllBare s'.gens) s₁:=by
 have rv:=a3w hi
 have lenV:=hi.length
 have core:∀H:Hp,b1j H->H9 K H a (ns.map V.int)->HOk P w H s₁.heap->(∀b,H b≠none->b=a)->(H a≠none->K.lookup a=none)->
  codeAny (model P w) callerA (.call (.ref fa) ⟨[.ref a],[]⟩) (fun r s'=>r= .ok (.ret (.bool true))/\OldK s₁.heap s'.heap/\s'.os=s₁.os/\AllBare s'.gens) s₁:=by
  intro H hO hS hok hA hK
  have base_of:∀{b:AB} {o:Obj},s₁.heap.get? b=some o->H b=none->(a3R s₁.heap H).get? b=some o:=fun e n=>a8h e n
  have noA:∀{b:AB} {o:Obj} {es:Array DictEntry} {ep:Nat},s₁.heap.get? b=some o->o.data= .dict es ep->H b=none:=fun {b o es ep} e d=>by
   cases q:H b with
   |none=>rfl
   |some u=>
    have e':b=a:=hA b (by rw [q];simp)
    subst e'
    rw [ha] at e;cases e
    have d':Data.seq vs.toArray _=Data.dict es ep:=d
    cases d'
  have nsK:∀{b:AB} {m:Str->Option AA},s₁.heap.Ns b m->(a3R s₁.heap H).Ns b m:=fun {b m} ⟨o,es,ep,e,d,r⟩=>⟨o,es,ep,base_of e (noA e d),d,r⟩
  have hKb:K.In (a3R s₁.heap H):=fun b o e=>base_of (KX b o e) (by
   cases q:H b with
   |none=>rfl
   |some u=>
    have e':b=a:=hA b (by rw [q];simp)
    subst e'
    rw [hK (by rw [q];simp)] at e;cases e)
  have hM:Mod K mg (a3R s₁.heap H):=⟨hKb,nsK hns,⟨mb,nsK hb,hbb⟩,let ⟨mc,h1,h2⟩:=hlim;⟨mc,nsK h1,h2⟩⟩
  have e0:a5x P w K mg (a3R s₁.heap H) callerA [] s₁ H:=⟨rfl,hM,fun b o e=>b0l e,Nat.le_of_eq (a6S _ _),trivial,fun b hb=>absurd (show b∈([]:List AB) from hb) (by simp),hok,.of_eq hg⟩
  refine codeAny_mono ((F _ hKb (nsK hns)).run callerA [] s₁ H ⟨[.ref a],[]⟩ [.ref a] [.ref a] _ _ hr e0 (hbind s₁ (.ref a)) (.cons rfl .nil) (hsp H hO hS)) fun r s' h=> ?_
  cases r with
  |error e=>exact(hCX H e s' h).elim
  |ok fl=>
   cases fl with
   |next=>exact False.elim h
   |brk=>exact False.elim h
   |cont=>exact False.elim h
   |ret u=>
    obtain⟨v,H',os,bare,un,hok',r',q⟩:=h
    have q':v= .bl true:=q
    subst q'
    obtain rfl:u=Value.bool true:=r'
    refine⟨rfl,OldK.of_keep fun b o e=> ?_,os,bare⟩
    cases q:H b with
    |none=>exact un.keep b o e q (by intro z;exact absurd (show b∈([]:List AB) from z) (by simp)) (by simp)
    |some u=>
     rcases hO b with z|⟨ob,xs,z⟩
     ·rw [q] at z;cases z
     ·have z2:=un.frzs b ob _ z
      obtain⟨e1,_⟩:=hok b _ z
      obtain⟨e2,_⟩:=hok' b _ z2
      rw [e] at e1;cases e1
      exact e2
 cases hk:K.lookup a with
 |some o=>
  have e:=KX a o hk
  rw [ha] at e
  cases e
  refine core (fun _=>none) (fun _=> .inl rfl) (.inr ⟨_,vs.toArray,_,hk,rfl,rfl,rfl,by rw [AY,lenV];exact hl,by simpa using rv⟩) (fun b u z=>by have z':(none:Option HO)=some u:=z;cases z') (fun b z=>absurd rfl z) fun z=>absurd rfl z
 |none=>
  refine core (fun b=>if b=a then some (.frz {cls:= .type "list",data:= .seq vs.toArray} (.lst (ns.map V.int))) else none) (fun b=> ?_) (.inl (.inr ⟨{cls:= .type "list",data:= .seq vs.toArray},if_pos rfl⟩)) (fun b u z=> ?_) (fun b z=> ?_) fun _=>hk
  ·by_cases hb:b=a
   ·exact .inr ⟨_,_,if_pos hb⟩
   ·exact .inl (if_neg hb)
  ·by_cases hb:b=a
   ·have z':=(if_pos hb).symm.trans z
    cases z'
    subst hb
    exact⟨ha,by rw [AR];exact hl,vs,_,rv,ha⟩
   ·have z':=(if_neg hb).symm.trans z
    cases z'
  ·by_cases hb:b=a
   ·exact hb
   ·exact absurd (if_neg hb) z
theorem b0S{l:PySem.W.OpenLaw}{n k:Nat}{q:AG}{loose:List Str}{XP:(Str->Option AA)->Heap->Prop}{YP:AF->Heap->Prop}{d:DefRec}{K:Params->AD}{CX:AF->CXT}{sp:AF->Sp}{x:Str}
 (hn:l.most=some n) (hn2:n<=AL) (hdf:d.params.defaults=[]) (hr:A0 k callerA)
 (hY:∀(w:AF) (h:Heap),YP w h->(K w.params).In h)
 (F:∀(w:AF) (mg:Str->Option AA) (fa:AB) (h:Heap),(K w.params).In h->h.Ns mainGlobals mg->mg d.name=some (.ref fa)->
  ∃fd:FuncData,(∀(s:AC) (u:AA),BindsTo s fd ⟨[u],[]⟩ [(x,u)])/\
   ∀base:Heap,(K w.params).In base->base.Ns mainGlobals mg->E2 l.prog w (K w.params) mg base (CX w) k fa fd [x] (sp w))
 (hsp:∀(w:AF) (H:Hp) (a:AB) (ns:List Int),ns.length<=n->b1j H->H9 (K w.params) H a (ns.map V.int)->sp w [.ref a] H (fun v _=>v= .bl true) fun _ _ _=>False)
 (hCX:∀(w:AF) (H:Hp) (s:AC) (e:AA) (s':AC),CX w [] H s (fun _ _ _=>False) e s'->False):
 PySem.W.WalkO q loose XP YP l.row.toRowW d [] (fun f vs=>PySem.call f vs):=by
 refine Att.attach_call hn hdf fun w s₀ s₁ mg mb fa o pm cd doc a vs ns G Y ho hd hcd hmg hobj hints hlen hg=> ?_
 have KX:=hY w _ Y
 obtain⟨fd,hb,hF⟩:=F w mg fa _ KX G.T.g hmg
 exact a8r KX G.T.g G.T.b G.T.builtins G.T.nolimit hg hobj hints (Nat.le_trans hlen hn2) hr hF hb (fun H hO hS=>hsp w H a ns hlen hO hS) fun H e s'=>hCX w H s₁ e s'
def I0(s:Stmt):Arguments:=match s with
 | .FunctionDef _ a _ _ _ _ _ _ _ _=>a
 |_=>{posonlyargs:=[],args:=[],vararg:=none,kwonlyargs:=[],kw_defaults:=[],kwarg:=none,defaults:=[]}
def v8(s:Stmt):List Stmt:=match s with
 | .FunctionDef _ _ b _ _ _ _ _ _ _=>b
 |_=>[]
def d7(s:Stmt):Scope:=match s with
 | .FunctionDef _ _ _ _ _ _ sc _ _ _=>sc
 |_=>{kind:= .function,names:=[],isGenerator:=false,isCoroutine:=false}
abbrev CX0:CXT:=fun _ _ _ _ _ _=>False
abbrev E0:XK:=fun _ _ _=>False
theorem a8Q{X:Cx}:a5z CX0 X E0:=fun _ _ _ _ _ _ _ h=>h.elim
structure Fun(K:AD)(x qual:Str)(st:Stmt)(f:AB)(fd:FuncData):Prop where
 ex:∃(oc:AA) (od:Option AB) (kV doc pm:AA) (an:Option AB) (cdv ct:AA) (osl:Array (Option AA)),
  fd=PySem.W.fnOf x qual (I0 st) (v8 st) (d7 st) .none kV doc pm an cdv ct/\K.lookup f=some ⟨oc,od,.func fd,osl⟩/\PySem.W.codeIn K cdv qual=true
 kp:PySem.W.keepIn K (.ref f)=true
section
variable {P:AG}{w:AF}{K:AD}{mg:Str->Option AA}{base:Heap}
theorem Fun.ok{x qual:Str}{st:Stmt}{f:AB}{fd:FuncData}{N ps:List Str}{k:Nat}{sp:Sp}(F:Fun K x qual st f fd)(S:j3 N ps (d7 st))(len:∀vs H Q E,sp vs H Q E->vs.length=ps.length)
 (hbody:∀(cdv:AA) (A:AI) (outer:List Env) (s:AC) (H:Hp) (vs:List V) (Q:VK) (E:XK),A0 k (A.deeper (envOfC qual (d7 st) s.heap.objs.size f cdv))->sp vs H Q E->
  ∃t,PSs (a2O CX0 P w K mg base N qual (d7 st) f cdv A outer s H E).nox (v8 st) t/\t {nx:=fun _ H'=>Q .non H',rt:=Q} (a0e N vs) H):E2 P w K mg base CX0 (k+1) f fd ps sp:=by
 obtain⟨oc,od,kV,doc,pm,an,cdv,ct,osl,rfl,lk,hcd⟩:=F.ex
 refine b24 lk hcd S len fun A outer s H vs Q E hr hsp=> ?_
 obtain⟨t,h,q⟩:=hbody cdv A outer s H vs Q E hr hsp
 exact⟨t,h.nox,q⟩
theorem Fun.binds{x qual:Str}{st:Stmt}{f:AB}{fd:FuncData}{ps:List Str}(F:Fun K x qual st f fd)
 (h:∀(kV doc pm:AA) (an:Option AB) (cdv ct:AA) (us:List AA),us.length=ps.length->bindArgs (PySem.W.fnOf x qual (I0 st) (v8 st) (d7 st) .none kV doc pm an cdv ct) ⟨us,[]⟩=pure (ps.zip us)):X6 K fd ps []:=by
 obtain⟨oc,od,kV,doc,pm,an,cdv,ct,osl,rfl,lk,hcd⟩:=F.ex
 exact .all (h kV doc pm an cdv ct)
theorem b1E{x qual:Str}{st:Stmt}{f:AB}{oc:AA}{od an:Option AB}{osl:Array (Option AA)}{kV doc pm cdv ct:AA}(l:K.lookup f=some ⟨oc,od,.func (PySem.W.fnOf x qual (I0 st) (v8 st) (d7 st) .none kV doc pm an cdv ct),osl⟩)
 (c:PySem.W.codeIn K cdv qual=true) (k:PySem.W.keepIn K (.ref f)=true):Fun K x qual st f (PySem.W.fnOf x qual (I0 st) (v8 st) (d7 st) .none kV doc pm an cdv ct):=⟨⟨oc,od,kV,doc,pm,an,cdv,ct,osl,rfl,l,c⟩,k⟩
end
theorem b27{A:AI}{k:Nat}(hr:A0 k A):A.units+1<cLine:=Nat.lt_of_le_of_lt (Nat.add_le_add_left (by decide:1<=64) _) hr.units
theorem a7n{n:Nat}(h:n<=1000):n<AL:=Nat.lt_of_le_of_lt h (by decide)
section
variable {X:Cx}
theorem pv(i:Nat){x:Str}{pos:Pos}(hN:X.N[i]?=some x:=by rfl)(hv:Vis X.env.scope x:=by first|exact Or.inl rfl|exact Or.inr (Or.inl rfl)|exact Or.inr (Or.inr rfl))(hd:(x==("__debug__":Str))=false:=by decide)
 (hcd:(x==("__classdict__":Str))=false:=by decide):PE X (.Name x pos) (a0I i):=b2m hN hv hd hcd
end
theorem a6W{A B:Prop}(h:B):if false=true then A else B:=by
 rw [if_neg Av]
 exact h
theorem a6X{A B:Prop}(h:A):if true=true then A else B:=by
 rw [if_pos rfl]
 exact h
def f6(H H':Hp):Prop:=∀b o,H b=some o->H' b=some o
theorem f6.refl(H:Hp):f6 H H:=fun _ _ h=>h
theorem f6.trans{H H1 H2:Hp}(a:f6 H H1)(b:f6 H1 H2):f6 H H2:=fun c o h=>b c o (a c o h)
theorem f6.free{H H':Hp}(e:f6 H H'){l:AB}(h:H' l=Option.none):H l=Option.none:=by
 cases q:H l with
 |none=>rfl
 |some o=>
  rw [e l o q] at h
  cases h
theorem f6.seq{K:AD}{H H':Hp}{a:AB}{xs:List V}(e:f6 H H')(h:H9 K H a xs):H9 K H' a xs:=by
 rcases h with(h|⟨o,h⟩)|h
 ·exact .inl (.inl (e _ _ h))
 ·exact .inl (.inr ⟨o,e _ _ h⟩)
 ·exact .inr h
section
variable (P:AG)(w:AF)
end
section
variable {P:AG}{w:AF}{H H':Hp}{h h':Heap}{a:AB}{o:HO}
end
section
variable {P:AG}{w:AF}{H:Hp}{h h':Heap}{x e:AB}{o':HO}
end
section
variable {fs fs' ex ex':List AB}{H H1 H2:Hp}{h h1 h2 h':Heap}{a x e:AB}{o:HO}
end
section
variable {X:Cx}{pins:List (AB×Obj)}{σ:List (Option V)}{H H':Hp}{s:AC}{h':Heap}
end
section
variable {X:Cx}
variable {a b:AE}{ta tb:TE}{pos:Pos}
variable {tA tB':TT}{u5:List AE}
end
section
variable {X:Cx}{pins:List (AB×Obj)}{σ:St}{H:Hp}{s:AC}{a:AB}{xs ys:List V}
end
section
variable {X:Cx}{pins:List (AB×Obj)}{σ:St}{H:Hp}{s:AC}{E:AA->AC->Prop}
end
section
variable {X:Cx}{st:Stmt}{u5:List Stmt}{t u:TS}{e:AE}{te:TE}{pos:Pos}
end
section
variable {X:Cx}{pos:Pos}
end
section
variable {X:Cx}{pos:Pos}
end
section
variable {X:Cx}{tg:AE}
end
section
variable {X:Cx}{a b c:AE}{ta tb tc:TE}{pos:Pos}
end
section
variable {X:Cx}{a b c:AE}{ta tb tc:TE}{pos:Pos}
end
section
variable {prog:AG}{w:AF}{A:AI}{E:AA->AC->Prop}{s:AC}{K:AD}{x dx C f:AB}{mA:Str->Option AA}{name:Str}{v:AA}
end
section
variable {P:AG}{w:AF}{H H':Hp}{h h':Heap}{a C dx:AB}{fs fs':List (Str×V)}
end
section
variable {X:Cx}{pins:List (AB×Obj)}{σ:St}{H:Hp}{s:AC}{a C dx:AB}{fs:List (Str×V)}{f:Str}{v:V}{A:AI}{E:AA->AC->Prop}
end
section
variable {X:Cx}{o e value:AE}{f:Str}{pos pos' tpos:Pos}{ta tv:TE}
end
section
variable {X:Cx}{pins:List (AB×Obj)}{σ:St}{H:Hp}{s:AC}{A:AI}{E:AA->AC->Prop}{Q:AA->AC->Prop}{c:AA}{b:Bool}
end
section
variable {X:Cx}{e:AE}{es:List AE}{te:TE}{t:TA}{pos:Pos}
end
section
variable {X:Cx}{pins:List (AB×Obj)}{σ:St}{H:Hp}{s s':AC}
end
section
variable {X:Cx}{CX:CXT}{k:Nat}{f C:AB}{fd:FuncData}{ps:List Str}{sp:Sp}{dvs:List V}{ds:List AA}{E:XK}{x m:Str}{p pos apos:Pos}{e o:AE}{es:List AE}{ta:TE}{t:TA}
end
section
variable {X:Cx}{CX:CXT}{k:Nat}{f C:AB}{fd:FuncData}{ps ks:List Str}{sp:Sp}{E:XK}{x m:Str}{p pos apos kpos:Pos}{e o:AE}{es:List AE}{kws:List Keyword}{te ta:TE}{t tk:TA}{nm:Option Str}
variable {g:List AA->List AA->List AA}{gV:List V->List V->List V}
end
section
variable {X:Cx}{x:Str}{p pos:Pos}{e:AE}{es:List AE}{t:TA}{id T:String}{r:List V->Hp->VK->Prop}
end
section
variable {κ:Type}[DecidableEq κ]
def M3(kvs:List (κ×V))(k:κ):Option V:=(kvs.find? fun kv=>decide (kv.1=k)).map (·.2)
def G2(kvs:List (κ×V))(k:κ)(v:V):List (κ×V):=
 if(kvs.any fun kv=>decide (kv.1=k))=true then kvs.map (fun kv=>if kv.1=k then(kv.1,v) else kv) else kvs++[(k,v)]
def b0Z(kvs:List (κ×V))(k:κ):List (κ×V):=kvs.filter fun kv=>decide (kv.1≠k)
theorem T2{p:κ×V}{r:List (κ×V)}{k:κ}(e:p.1=k):M3 (p::r) k=some p.2:=by simp [M3,List.find?_cons,e]
theorem T1{p:κ×V}{r:List (κ×V)}{k:κ}(e:¬p.1=k):M3 (p::r) k=M3 r k:=by simp [M3,List.find?_cons,e]
theorem a5m(k:κ):∀kvs:List (κ×V),(kvs.any fun kv=>decide (kv.1=k))=(M3 kvs k).isSome
 |[]=>rfl
 |p::r=>by
  rw [List.any_cons]
  by_cases e:p.1=k
  ·simp only [T2 e,decide_eq_true e,Bool.true_or,Option.isSome_some]
  ·rw [T1 e,decide_eq_false e,Bool.false_or];exact a5m k r
theorem J3(kvs:List (κ×V))(k:κ)(v:V):(G2 kvs k v).length<=kvs.length+1:=by
 unfold G2
 split
 ·rw [AR];lia
 ·rw [Aa,AU,Aj];lia
theorem X9.isSome_eq{o:Option V}{u:Option AA}(r:X9 o u):o.isSome=u.isSome:=by
 cases o with
 |none=>cases u with
  |none=>rfl
  |some _=>exact(show False from r).elim
 |some _=>cases u with
  |none=>exact(show False from r).elim
  |some _=>rfl
theorem X9.getD{o:Option V}{u:Option AA}{d:V}{d':AA}(r:X9 o u)(rd:i6 d d'):i6 (o.getD d) (u.getD d'):=by
 cases o with
 |none=>cases u with
  |none=>exact rd
  |some _=>exact(show False from r).elim
 |some _=>cases u with
  |none=>exact(show False from r).elim
  |some _=>exact r
theorem KV.val{kvs:List (κ×V)}{vs:List (κ×AA)}(r:KV kvs vs)(k:κ):X9 (M3 kvs k) (valueAt vs k):=by
 unfold KV at r
 induction r with
 |nil=>exact True.intro
 | @cons p q ps qs h t ih=>
   obtain⟨h1,h2⟩:=h
   by_cases e:p.1=k
   ·have e':q.1=k:=h1.symm.trans e
    have b:valueAt (q::qs) k=some q.2:=by simp [valueAt,List.find?_cons,e']
    rw [T2 e,b];exact h2
   ·have e':¬q.1=k:=fun z=>e (h1.trans z)
    have b:valueAt (q::qs) k=valueAt qs k:=by simp [valueAt,List.find?_cons,e']
    rw [T1 e,b];exact ih
theorem KV.any{kvs:List (κ×V)}{vs:List (κ×AA)}(r:KV kvs vs)(k:κ):(kvs.any fun kv=>decide (kv.1=k))=vs.any fun kv=>decide (kv.1=k):=by
 unfold KV at r
 induction r with
 |nil=>rfl
 |cons h t ih=>rw [List.any_cons,List.any_cons,ih,h.1]
theorem KV.repl{kvs:List (κ×V)}{vs:List (κ×AA)}(r:KV kvs vs)(k:κ){y:V}{u:AA}(ry:i6 y u):
 KV (kvs.map fun kv=>if kv.1=k then(kv.1,y) else kv) (vs.map fun kv=>if kv.1=k then(kv.1,u) else kv):=by
 unfold KV at r ⊢
 induction r with
 |nil=>exact .nil
 | @cons p q ps qs h t ih=>
   rw [AM,AM]
   refine .cons ?_ ih
   obtain⟨h1,h2⟩:=h
   by_cases e:p.1=k
   ·rw [if_pos e,if_pos (h1.symm.trans e)];exact⟨h1,ry⟩
   ·rw [if_neg e,if_neg (fun z=>e (h1.trans z))];exact⟨h1,h2⟩
theorem KV.put{kvs:List (κ×V)}{vs:List (κ×AA)}(r:KV kvs vs)(k:κ){y:V}{u:AA}(ry:i6 y u):KV (G2 kvs k y) (stored vs k u):=by
 unfold G2 stored
 rw [r.any k]
 by_cases e:(vs.any fun kv=>decide (kv.1=k))=true
 ·rw [if_pos e,if_pos e];exact r.repl k ry
 ·rw [if_neg e,if_neg e];exact Paired.snoc r ⟨rfl,ry⟩
theorem KV.drop{kvs:List (κ×V)}{vs:List (κ×AA)}(r:KV kvs vs)(k:κ):KV (b0Z kvs k) (without vs k):=by
 unfold KV at r ⊢
 unfold b0Z without
 induction r with
 |nil=>exact .nil
 | @cons p q ps qs h t ih=>
   obtain⟨h1,h2⟩:=h
   rw [List.filter_cons,List.filter_cons]
   by_cases e:p.1=k
   ·have a:¬decide (p.1≠k)=true:=by simp [e]
    have b:¬decide (q.1≠k)=true:=by simp [h1.symm.trans e]
    rw [if_neg a,if_neg b];exact ih
   ·have e':¬q.1=k:=fun z=>e (h1.trans z)
    have a:decide (p.1≠k)=true:=by simp [e]
    have b:decide (q.1≠k)=true:=by simp [e']
    rw [if_pos a,if_pos b];exact .cons ⟨h1,h2⟩ ih
theorem KV.keys{kvs:List (κ×V)}{vs:List (κ×AA)}(r:KV kvs vs):kvs.map (·.1)=vs.map (·.1):=by
 unfold KV at r
 induction r with
 |nil=>rfl
 |cons h t ih=>rw [AM,AM,ih,h.1]
theorem KV.length{kvs:List (κ×V)}{vs:List (κ×AA)}(r:KV kvs vs):kvs.length=vs.length:=Paired.length r
end
theorem a3b{P:AG}{w:AF}{k:c9}{u:AA}(r:i6 (kV k) u):(g9 P w).is k u=true:=by
 cases k with
 |inl i=>obtain⟨t,e⟩:=(show ∃t,u=Value.int i t from r);subst e;exact R4 P w i t
 |inr x=>obtain⟨t,e⟩:=(show ∃t,u=Value.str x t from r);subst e;exact R5 P w x t
theorem a5M{a b:c9}(e:kV a=kV b):a=b:=by
 cases a with
 |inl i=>cases b with
  |inl j=>have e':V.int i=V.int j:=e;injection e' with e';rw [e']
  |inr y=>exact nomatch (show V.int i=V.str y from e)
 |inr x=>cases b with
  |inl j=>exact nomatch (show V.str x=V.int j from e)
  |inr y=>have e':V.str x=V.str y:=e;injection e' with e';rw [e']
theorem a1i:∀{a b:List c9},a.map kV=b.map kV->a=b
 |[],[],_=>rfl
 |[],_::_,e=>by simp at e
 |_::_,[],e=>by simp at e
 |x::xs,y::ys,e=>by
  rw [AM,AM] at e
  injection e with e1 e2
  rw [a5M e1,a1i e2]
theorem a0x{P:AG}{w:AF}:∀{ks:List c9} {us:List AA},g6 (ks.map kV) us->ItemsAre (g9 P w) ks us
 |[],_,r=>by rw [Ae] at r;cases r;exact .nil
 |k::ks,_,r=>by
  rw [AM] at r
  cases r with
  |cons h t=>exact .cons (a3b h) (a0x t)
abbrev KT(H:Hp):List (List c9×V)->List (List c9×AB×AA)->Prop:=Paired fun p q=>p.1=q.1/\H q.2.1=some (.tup (p.1.map kV))/\i6 p.2 q.2.2
theorem KT.val{H:Hp}{kvs:List (List c9×V)}{xs:List (List c9×AB×AA)}(r:KT H kvs xs)(k:List c9):X9 (M3 kvs k) ((atKey xs k).map (·.2)):=by
 induction r with
 |nil=>exact True.intro
 | @cons p q ps qs h t ih=>
   obtain⟨h1,_,h2⟩:=h
   by_cases e:p.1=k
   ·have e':q.1=k:=h1.symm.trans e
    have b:atKey (q::qs) k=some q.2:=by simp [atKey,List.find?_cons,e']
    rw [T2 e,b];exact h2
   ·have e':¬q.1=k:=fun z=>e (h1.trans z)
    have b:atKey (q::qs) k=atKey qs k:=by simp [atKey,List.find?_cons,e']
    rw [T1 e,b];exact ih
theorem KT.repl{H:Hp}{kvs:List (List c9×V)}{xs:List (List c9×AB×AA)}(r:KT H kvs xs)(k:List c9){y:V}{u:AA}(ry:i6 y u):
 KT H (kvs.map fun kv=>if kv.1=k then(kv.1,y) else kv) (xs.map (putAt k u)):=by
 induction r with
 |nil=>exact .nil
 | @cons p q ps qs h t ih=>
   rw [AM,AM]
   refine .cons ?_ ih
   obtain⟨h1,h2,h3⟩:=h
   unfold putAt
   by_cases e:p.1=k
   ·rw [if_pos e,if_pos (h1.symm.trans e)];exact⟨h1,h2,ry⟩
   ·rw [if_neg e,if_neg (fun z=>e (h1.trans z))];exact⟨h1,h2,h3⟩
theorem KT.put{H:Hp}{kvs:List (List c9×V)}{xs:List (List c9×AB×AA)}(r:KT H kvs xs)(k:List c9){b:AB}{y:V}{u:AA}(hb:H b=some (.tup (k.map kV)))(ry:i6 y u):
 KT H (G2 kvs k y) (storedH xs k b u):=by
 have e:(kvs.any fun kv=>decide (kv.1=k))=(atKey xs k).isSome:=by
  rw [a5m,(r.val k).isSome_eq,Option.isSome_map]
 unfold G2 storedH
 rw [e]
 by_cases q:(atKey xs k).isSome=true
 ·rw [if_pos q,if_pos q];exact r.repl k ry
 ·rw [if_neg q,if_neg q];exact Paired.snoc r ⟨rfl,hb,ry⟩
theorem KT.keeps{H H':Hp}{kvs:List (List c9×V)}{xs:List (List c9×AB×AA)}(r:KT H kvs xs)(ht:∀b ys,H b=some (.tup ys)->H' b=some (.tup ys)):KT H' kvs xs:=
 Paired.mapP r fun _ _ z=>⟨z.1,ht _ _ z.2.1,z.2.2⟩
section
variable {P:AG}{w:AF}{H:Hp}{h:Heap}{a:AB}
theorem b1b{u:HO}(ok:HOk P w H h)(e:Rd H a u):s9 P w H h a u:=e.ok ok
theorem a6d{kvs:List (c9×V)}(ok:HOk P w H h)(e:Rd H a (.dK kvs)):kvs.length<=AL/\(a==sysModules)=false/\∃vs,KV kvs vs/\h.DictOf (g9 P w) a vs:=
 show s9 P w H h a (.dK kvs) from b1b ok e
theorem b0Y{kvs:List (c9×V)}(ok:HOk P w H h)(e:H a=some (.dK kvs)):kvs.length<=AL/\(a==sysModules)=false/\∃vs,KV kvs vs/\h.DictOf (g9 P w) a vs:=a6d ok (.inl e)
theorem a10{ks:List c9}(ok:HOk P w H h)(e:H a=some (.tup (ks.map kV))):(tupleKind (g9 P w)).is h ks a:=by
 obtain⟨_,its,r,o,h1,h2,n,h3⟩:=(show s9 P w H h a (.tup (ks.map kV)) from ok a _ e)
 exact⟨o,its.toArray,n,h1,h2,h3,by simpa using a0x r⟩
theorem a6e{kvs:List (List c9×V)}(ok:HOk P w H h)(e:Rd H a (.dT kvs)):kvs.length<=AL/\(a==sysModules)=false/\
 ∃xs,KT H kvs xs/\h.DictOfH (tupleKind (g9 P w)) a xs:=by
 obtain⟨z,y,xs,r,o,es,ep,h1,h2,h3,h4,h5⟩:=(show s9 P w H h a (.dT kvs) from b1b ok e)
 refine⟨z,y,xs,r,o,es,ep,h1,h2,h3,h4,fun x hx=> ?_,h5⟩
 have all:∀{l:List (List c9×V)} {m:List (List c9×AB×AA)},KT H l m->∀x∈m,(tupleKind (g9 P w)).is h x.1 x.2.1:=by
  intro l m q
  induction q with
  |nil=>intro x hx;exact nomatch hx
  | @cons p q ps qs hq t ih=>
    intro x hx
    rcases Ai.mp hx with e|hx
    ·subst e
     exact a10 ok (by rw [<-hq.1];exact hq.2.1)
    ·exact ih x hx
 exact all r x hx
theorem b00{kvs:List (List c9×V)}(ok:HOk P w H h)(e:H a=some (.dT kvs)):kvs.length<=AL/\(a==sysModules)=false/\
 ∃xs,KT H kvs xs/\h.DictOfH (tupleKind (g9 P w)) a xs:=a6e ok (.inl e)
end
def V5(H:Hp)(a:AB)(y:V)(r:Option V):Prop:=
 (∃kvs k,Rd H a (.dK kvs)/\y=kV k/\r=M3 kvs k)\/∃kvs k b,Rd H a (.dT kvs)/\y= .ref b/\H b=some (.tup (k.map kV))/\r=M3 kvs k
def a5s(H:Hp)(a:AB)(y v:V)(H':Hp):Prop:=
 (∃kvs k,H a=some (.dK kvs)/\y=kV k/\kvs.length<AL/\H'=upd H a (.dK (G2 kvs k v)))\/
 ∃kvs k b,H a=some (.dT kvs)/\y= .ref b/\H b=some (.tup (k.map kV))/\kvs.length<AL/\H'=upd H a (.dT (G2 kvs k v))
theorem V5.k{H:Hp}{a:AB}{kvs:List (c9×V)}{k:c9}(e:H a=some (.dK kvs)):V5 H a (kV k) (M3 kvs k):= .inl ⟨kvs,k,.inl e,rfl,rfl⟩
theorem V5.t{H:Hp}{a b:AB}{kvs:List (List c9×V)}{k:List c9}(e:H a=some (.dT kvs))(eb:H b=some (.tup (k.map kV))):V5 H a (.ref b) (M3 kvs k):= .inr ⟨kvs,k,b,.inl e,rfl,eb,rfl⟩
theorem a5s.k{H:Hp}{a:AB}{kvs:List (c9×V)}{k:c9}{v:V}(e:H a=some (.dK kvs))(hl:kvs.length<AL):a5s H a (kV k) v (upd H a (.dK (G2 kvs k v))):= .inl ⟨kvs,k,e,rfl,hl,rfl⟩
theorem a5s.t{H:Hp}{a b:AB}{kvs:List (List c9×V)}{k:List c9}{v:V}(e:H a=some (.dT kvs))(eb:H b=some (.tup (k.map kV)))(hl:kvs.length<AL):
 a5s H a (.ref b) v (upd H a (.dT (G2 kvs k v))):= .inr ⟨kvs,k,b,e,rfl,eb,hl,rfl⟩
section
variable {X:Cx}{pins:List (AB×Obj)}{σ:St}{H:Hp}{s:AC}{a:AB}{y v:V}{u r:AA}{o:Option V}{A:AI}{E:AA->AC->Prop}
theorem g4.big(I:g4 X pins σ H s):sysModules<s.heap.objs.size:=by
 have h:mainGlobals<s.heap.objs.size:=(I.mod.glob.keeps I.bk).lt
 exact Nat.lt_trans (by decide) h
theorem a6J{Q:AA->AC->Prop}(hu:A.units+1<cLine)(I:g4 X pins σ H s)(g:V5 H a y (some v))(ry:i6 y u)(h:∀w' s',g4 X pins σ H s'->i6 v w'->Q w' s'):
 AH (model X.prog X.w) A (getItem (.ref a) u) Q E s:=by
 rcases g with⟨kvs,k,e,ey,l⟩|⟨kvs,k,b,e,ey,eb,l⟩
 ·subst ey
  obtain⟨z,hd,vs,rel,dd⟩:=a6d I.hok e
  obtain⟨w',hw,rw'⟩:=X9.some_of (v:=v) (o:=valueAt vs k) (by rw [l];exact rel.val k)
  exact wpAny_getItem_of (a3b ry) dd.mapOf hw (h w' _ (I.tok _) rw')
 ·subst ey
  cases(show u=Value.ref b from ry)
  obtain⟨z,hd,xs,rel,dd⟩:=a6e I.hok e
  obtain⟨w',hw,rw'⟩:=X9.some_of (v:=v) (o:=(atKey xs k).map (·.2)) (by rw [l];exact rel.val k)
  obtain⟨p,hp,hp2⟩:=Option.map_eq_some_iff.mp hw
  refine wpAny_getItem_heap (tupleKind_room_in1 hu) (a10 I.hok eb) dd hp ?_
  rw [hp2]
  exact h w' _ (I.tok _) rw'
theorem a9K{Q:AA->AC->Prop}(hu:A.units+1<cLine)(I:g4 X pins σ H s)(g:V5 H a y o)(ry:i6 y u)(h:∀s',g4 X pins σ H s'->Q (.bool (!o.isSome)) s'):
 AH (model X.prog X.w) A (compareOp .NotIn u (.ref a)) Q E s:=by
 rcases g with⟨kvs,k,e,ey,l⟩|⟨kvs,k,b,e,ey,eb,l⟩
 ·subst ey
  obtain⟨z,hd,vs,rel,dd⟩:=a6d I.hok e
  refine wpAny_notIn_of (a3b ry) hd dd.mapOf ?_
  rw [<-(rel.val k).isSome_eq,<-l]
  exact h _ (I.tok _)
 ·subst ey
  cases(show u=Value.ref b from ry)
  obtain⟨z,hd,xs,rel,dd⟩:=a6e I.hok e
  refine wpAny_notIn_heap (tupleKind_room_in1 hu) (a10 I.hok eb) hd dd ?_
  have q:=(rel.val k).isSome_eq
  rw [Option.isSome_map] at q
  rw [<-q,<-l]
  exact h _ (I.tok _)
theorem a1d{h':Heap}{t':Nat}{ob:HO}(I:g4 X pins σ H s)(mu:Mut (H a))(hs:Heap.SameBut a s.heap h')(he:∃q,h'.get? a=some q)(new:s9 X.prog X.w (upd H a ob) h' a ob):
 g4 X pins σ (upd H a ob) {s with heap:=h',toks:=t'}:=
 I.write (x:=a) (e:=a) mu (.inl rfl) (fun b q hb z=>(hs.2 b hb).trans z) he new
theorem a7P{P:AG}{w:AF}{H':Hp}{h':Heap}{kvs:List (c9×V)}{vs:List (c9×AA)}(z:kvs.length<=AL)(hd:(a==sysModules)=false)(rel:KV kvs vs)(dd:h'.DictOf (g9 P w) a vs):
 s9 P w H' h' a (.dK kvs):=⟨z,hd,vs,rel,dd⟩
theorem a6K{H':Hp}{Q:Unit->AC->Prop}(hu:A.units+1<cLine)(I:g4 X pins σ H s)(g:a5s H a y v H')(ry:i6 y u)(rv:i6 v r)(h:∀s',g4 X pins σ H' s'->Q () s'):
 AH (model X.prog X.w) A (setItem (.ref a) u r) Q E s:=by
 rcases g with⟨kvs,k,e,ey,l,eH⟩|⟨kvs,k,b,e,ey,eb,l,eH⟩
 ·subst ey eH
  obtain⟨z,hd,vs,rel,dd⟩:=b0Y I.hok e
  have hz:vs.length<=AL:=by rw [<-rel.length];exact z
  have hl:(G2 kvs k v).length<=AL:=by have:=J3 kvs k v;lia
  refine wpAny_setItem_pairs (hsz:=hz) (a3b ry) dd fun h' dd' hs=>h _ ?_
  have he:∃q,h'.get? a=some q:=let ⟨q,_,_,hq,_⟩:=dd';⟨q,hq⟩
  exact a1d I (by rw [e];exact True.intro) hs he (a7P hl hd (rel.put k rv) dd')
 ·subst ey eH
  cases(show u=Value.ref b from ry)
  obtain⟨z,hd,xs,rel,dd⟩:=b00 I.hok e
  have hz:xs.length<=AL:=by rw [<-Paired.length rel];exact z
  have hl:(G2 kvs k v).length<=AL:=by have:=J3 kvs k v;lia
  refine wpAny_setItem_heap (hsz:=hz) (tupleKind_room_in1 hu) (a10 I.hok eb) dd fun h' dd' hs=>h _ ?_
  obtain⟨q,es,ep,hq,h2,h3,h4,_,h5⟩:=dd'
  refine a1d I (by rw [e];exact True.intro) hs ⟨q,hq⟩ ⟨hl,hd,_,(rel.put k eb rv).keeps fun c ys ec=> ?_,q,es,ep,hq,h2,h3,h4,h5⟩
  rw [d6 (V2 ec e (fun z=>nomatch z))]
  exact ec
end
section
variable {X:Cx}{pins:List (AB×Obj)}{σ:St}{H:Hp}{s:AC}{a:AB}{kvs:List (c9×V)}{k:c9}{u:AA}{A:AI}{E:AA->AC->Prop}
end
def a4x(i:AE):Prop:=∀ov iv,subscripted i false ov iv=operate [ov,iv] (getItem ov iv)
theorem a4h{prog:AG}{w:AF}{A:AI}{E:AA->AC->Prop}{s:AC}{env:Env}{value slice:AE}{pos:Pos}{T id:String}{Q:AA->AC->Prop}
 (hl:typeLookup (.type T) "__getitem__"=pure (some (.builtin id))) (hs:a4x slice)
 (h:AH (model prog w) A (eval value env) (fun o s₁=>AH (model prog w) A (eval slice env) (fun i s₂=>s₂.TypeIs o T/\AH (model prog w) A (getItem o i) Q E s₂) E s₁) E s):
 AH (model prog w) A (eval (.Subscript value slice pos) env) Q E s:=by
 refine Subscript_ (wpAny_mono h (fun o s₁ h₁=>wpAny_mono h₁ (fun i s₂ h₂=> ?_) fun _ _ x=>x) fun _ _ x=>x)
 obtain⟨hT,h₂⟩:=h₂
 unfold subscriptTail
 refine AK ?_
 rw [getitemInPython_of_ne hT.not_modules]
 refine AK (wpAny_specialOf hT hl ?_)
 have fin:AH (model prog w) A (subscripted slice false o i) (fun r s₃=>AH (model prog w) A (letTemporaryGo value o r>>=fun _=>pure r) Q E s₃) E s₂:=by
  rw [hs o i]
  exact wpAny_operating (wpAny_mono h₂ (fun r s₃ h₃=>AK (wpAny_letTemporaryGo (AS h₃))) fun _ _ x=>x)
 first
  |exact AS (AK fin)
  |exact AK (AS (AK fin))
  |exact AK fin
theorem a4G{X:Cx}{pins:List (AB×Obj)}{σ:St}{H:Hp}{s:AC}{a:AB}{y:V}{o:Option V}(I:g4 X pins σ H s)(g:V5 H a y o):s.TypeIs (.ref a) "dict":=by
 rcases g with⟨kvs,k,e,_,_⟩|⟨kvs,k,b,e,_,_,_⟩
 ·obtain⟨_,_,vs,_,dd⟩:=a6d I.hok e
  exact dd.typeIs
 ·obtain⟨_,_,xs,_,dd⟩:=a6e I.hok e
  exact dd.typeIs
def b3v(td ty:TE):TE:=fun σ H Q=>td σ H fun x H1=>ty σ H1 fun y H2=>∃a v,x= .ref a/\V5 H2 a y (some v)/\Q v H2
def b0K(ty td:TE):TE:=fun σ H Q=>ty σ H fun y H1=>td σ H1 fun x H2=>∃a o,x= .ref a/\V5 H2 a y o/\Q (.bl (!o.isSome)) H2
def b3q(td ty tv:TE):TS:=fun D σ H=>tv σ H fun v H1=>td σ H1 fun x H2=>ty σ H2 fun y H3=>∃a H4,x= .ref a/\a5s H3 a y v H4/\D.nx σ H4
section
variable {X:Cx}{o i e value:AE}{pos pos' tpos:Pos}{td ty tv:TE}
theorem a1n(hu:X.A.units+1<cLine)(ho:PE X o td)(hi:PE X i ty)(hs:a4x i):PE X (.Subscript o i pos) (b3v td ty):=by
 intro pins s σ H Q I h
 refine a4h PySem.F.slot_dict_getitem.lookup hs (w9 (ho pins s σ H _ I h) fun u s1 ⟨x,H1,I1,rx,q1⟩=>w9 (hi pins s1 σ H1 _ I1 q1) fun iv s2 ⟨y,H2,I2,ry,a,v,ex,g,q2⟩=> ?_)
 subst ex
 obtain rfl:u=Value.ref a:=rx
 exact⟨a4G I2 g,a6J hu I2 g ry fun w' s3 I3 rw'=>⟨v,H2,I3,rw',q2⟩⟩
theorem a7e(hu:X.A.units+1<cLine)(hi:PE X i ty)(ho:PE X o td):PC X .NotIn i o (b0K ty td):=by
 intro pins s σ H Q I h
 refine w9 (hi pins s σ H _ I h) fun iv s1 ⟨y,H1,I1,ry,q1⟩=>w9 (ho pins s1 σ H1 _ I1 q1) fun u s2 ⟨x,H2,I2,rx,a,ov,ex,g,q2⟩=> ?_
 subst ex
 obtain rfl:u=Value.ref a:=rx
 exact a9K hu I2 g ry fun s3 I3=>⟨.bl (!ov.isSome),H2,I3,rfl,q2⟩
theorem b0x(hu:X.A.units+1<cLine)(ho:PE X o td)(hi:PE X i ty)(hv:PE X value tv)(hs:swapsWith value (some (.Subscript o i pos')) pos.line X.env=pure false):
 PS X (.Assign [.Subscript o i pos'] value pos) (b3q td ty tv):=by
 intro pins s σ H D I h
 refine wpAny_Assign_Subscript (w9 (hv pins s σ H _ I h) fun r s1 ⟨v,H1,I1,rv,q1⟩=>w9 (ho pins s1 σ H1 _ I1 q1) fun u s2 ⟨x,H2,I2,rx,q2⟩=>w9 (hi pins s2 σ H2 _ I2 q2) fun iv s3 ⟨y,H3,I3,ry,a,H4,ex,g,q3⟩=> ?_) hs
 subst ex
 obtain rfl:u=Value.ref a:=rx
 exact a6K hu I3 g ry rv fun s4 I4=>⟨σ,H4,I4,q3⟩
end
theorem a7O{P:AG}{w:AF}{H:Hp}(h:Heap)(hb:sysModules<h.objs.size):s9 P w H (h.push {cls:= .type "dict",data:= .dict #[]}) h.objs.size (.dK []):=
 ⟨Nat.zero_le _,beq_eq_false_iff_ne.mpr (Ne.symm (Al hb)),[],.nil,Heap.DictOf.new h⟩
theorem a7Q{P:AG}{w:AF}{H:Hp}(h:Heap)(hb:sysModules<h.objs.size):s9 P w H (h.push {cls:= .type "dict",data:= .dict #[]}) h.objs.size (.dT []):=
 ⟨Nat.zero_le _,beq_eq_false_iff_ne.mpr (Ne.symm (Al hb)),[],.nil,_, #[],0,At _ rfl,⟨rfl,rfl,rfl⟩,rfl,rfl,List.nodup_nil⟩
section
variable {X:Cx}{pos:Pos}
end
def a4i:List (TE×TE)->St->Hp->(List (V×V)->Hp->Prop)->Prop
 |[],_,H,Q=>Q [] H
 |(tk,tv)::r,σ,H,Q=>tk σ H fun x H1=>tv σ H1 fun y H2=>a4i r σ H2 fun ps H3=>Q ((x,y)::ps) H3
abbrev VV:List (V×V)->List (AA×AA)->Prop:=Paired fun p q=>i6 p.1 q.1/\i6 p.2 q.2
def PPs(X:Cx)(pos:Pos)(keys:List (Option AE))(values:List AE)(trs:List (TE×TE)):Prop:=
 ∀(pins:List (AB×Obj)) (s:AC) (σ:St) (H:Hp) (Q:List (V×V)->Hp->Prop),g4 X pins σ H s->a4i trs σ H Q->
  AH (model X.prog X.w) X.A (evalPairs (pairTrees keys values X.env pos)) (fun vs s'=>∃ps H',g4 X pins σ H' s'/\VV ps vs/\Q ps H') X.xe s
theorem a6o{X:Cx}{pos:Pos}:PPs X pos [] [] []:=fun pins s σ H Q I h=>pairTrees_nil_walk ⟨[],H,I,.nil,h⟩
theorem a5a{X:Cx}{pos:Pos}{k v:AE}{ks:List (Option AE)}{vs:List AE}{tk tv:TE}{trs:List (TE×TE)}(hk:PE X k tk)(hv:PE X v tv)(hr:PPs X pos ks vs trs):
 PPs X pos (some k::ks) (v::vs) ((tk,tv)::trs):=fun pins s σ H Q I h=>
 pairTrees_cons_walk (w9 (hk pins s σ H _ I h) fun u s1 ⟨x,H1,I1,rx,q1⟩=>w9 (hv pins s1 σ H1 _ I1 q1) fun w2 s2 ⟨y,H2,I2,ry,q2⟩=>
  w9 (hr pins s2 σ H2 _ I2 q2) fun ws s3 ⟨ps,H3,I3,rel,q3⟩=>⟨(x,y)::ps,H3,I3,.cons ⟨rx,ry⟩ rel,q3⟩)
def R3(kvs more:List (c9×V)):List (c9×V):=more.foldl (fun acc kv=>G2 acc kv.1 kv.2) kvs
theorem KV.merge:∀{more:List (c9×V)} {rs:List (c9×AA)} {kvs:List (c9×V)} {vs:List (c9×AA)},KV more rs->KV kvs vs->KV (R3 kvs more) (merged vs rs):=by
 intro more rs kvs vs r
 unfold KV at r
 induction r generalizing kvs vs with
 |nil=>intro q;exact q
 | @cons p q ps qs h t ih=>
   intro r0
   have e:KV (G2 kvs p.1 p.2) (stored vs q.1 q.2):=by
    have:=r0.put p.1 h.2
    rw [<-h.1];exact this
   exact ih e
theorem V0:∀(more kvs:List (c9×V)),(R3 kvs more).length<=kvs.length+more.length
 |[],kvs=>by show kvs.length<=kvs.length+0;lia
 |p::r,kvs=>by
  have h1:=V0 r (G2 kvs p.1 p.2)
  have h2:=J3 kvs p.1 p.2
  show(R3 (G2 kvs p.1 p.2) r).length<=_
  rw [AU];lia
theorem a1E{P:AG}{w:AF}:∀{kvs:List (c9×V)} {ws:List (AA×AA)},VV (kvs.map fun kv=>(kV kv.1,kv.2)) ws->∃rs,Carries (g9 P w) ws rs/\KV kvs rs
 |[],_,r=>by rw [Ae] at r;cases r;exact⟨[],True.intro,.nil⟩
 |p::kvs,_,r=>by
  rw [AM] at r
  cases r with
  | @cons a b as bs h t=>
    obtain⟨rs,c,q⟩:=a1E (P:=P) (w:=w) t
    obtain⟨b1,b2⟩:=b
    exact⟨(p.1,b2)::rs,⟨a3b h.1,rfl,c⟩,.cons ⟨rfl,h.2⟩ q⟩
def b3w(trs:List (TE×TE)):TE:=fun σ H Q=>∀p,H p=none->a4i trs σ (upd H p (.dK [])) fun ps H2=>H2 p=some (.dK [])/\∃kvs:List (c9×V),ps=kvs.map (fun kv=>(kV kv.1,kv.2))/\kvs.length<=15/\Q (.ref p) (upd H2 p (.dK (R3 [] kvs)))
theorem b0t{X:Cx}{pos:Pos}{keys:List (Option AE)}{values:List AE}{trs:List (TE×TE)}(h:PPs X pos keys values trs)(hall:keys.all (·.isSome)=true)(hl:keys.length=values.length)(h0:keys≠[])
 (h15:keys.length<=15):PE X (.Dict keys values pos) (b3w trs):=by
 intro pins s σ H Q I q
 have hn:=I.hok.fresh (AO s.heap.objs.size)
 have I1:=I.laid (a:=s.heap.objs.size) (o:= .dK []) (h':=s.heap.push {cls:= .type "dict",data:= .dict #[]}) (t':=s.toks) (fun _ _ q=>Ab _ q) (AO _) (a7O s.heap I.big)
 refine wpAny_Dict_walk (knd:=g9 X.prog X.w) hall hl h0 h15 (w9 (h pins _ σ _ _ I1 (q _ hn)) fun ws s2 ⟨ps,H2,I2,rel,e,kvs,ep,lk,q2⟩=> ?_)
 subst ep
 obtain⟨rs,c,rk⟩:=a1E (P:=X.prog) (w:=X.w) rel
 obtain⟨z,hd,vs0,r0,dd⟩:=b0Y I2.hok e
 cases r0
 refine⟨rs,c,dd,fun h' dd' hs=>⟨.ref s.heap.objs.size,_, ?_,rfl,q2⟩⟩
 have hz:(R3 [] kvs).length<=AL:=by
  have h1:=V0 kvs []
  rw [Aj] at h1
  rw [sizeLine_eq];lia
 have he:∃q,h'.get? s.heap.objs.size=some q:=let ⟨q,_,_,hq,_⟩:=dd';⟨q,hq⟩
 exact a1d I2 (by rw [e];exact True.intro) hs he (a7P hz hd (rk.merge .nil) dd')
section
variable {X:Cx}{pins:List (AB×Obj)}{σ:St}{H:Hp}{s:AC}{a:AB}{y d:V}{u r:AA}{o:Option V}{A:AI}{E:AA->AC->Prop}
end
section
variable {X:Cx}{o e f:AE}{apos cpos:Pos}{td ty tx:TE}
end
section
variable {X:Cx}{pins:List (AB×Obj)}{σ:St}{H:Hp}{s:AC}{a:AB}{kvs:List (c9×V)}{A:AI}{E:AA->AC->Prop}
end
section
variable {X:Cx}{pins:List (AB×Obj)}{σ:St}{H:Hp}{s:AC}{a:AB}{y:V}{u:AA}{A:AI}{E:AA->AC->Prop}
end
end L2
namespace Att
open PySem PySem.W PySem.Calls PyProof.Rows
section
variable {prog:AG}{w:AF}{A:AI}{E:AA->AC->Prop}{s:AC}{K:Frag}
end
end Att
namespace L2
open PySem PySem.Spec PyProof.Rows
section
variable {P:AG}{w:AF}{K:AD}{mg:Str->Option AA}{base:Heap}
end
section
variable {X:Cx}
end
section
variable {κ:Type}[DecidableEq κ]
end
end L2
set_option maxHeartbeats 4000000
namespace PU
open PySem PySem.Spec PyProof.Rows L2
abbrev PV:=PyData
def TqT(K:AD)(H:Hp)(a:AB)(xs:List V):Prop:=
 H a=some (.tup xs)\/∃(o:Obj) (its:Array AA) (n:Nat),K.lookup a=some o/\o.cls= .type "tuple"/\o.data= .seq its n/\its.size<=AL/\g6 xs its.toList
theorem TqT.of{K:AD}{H:Hp}{a:AB}{xs:List V}(h:H a=some (.tup xs)):TqT K H a xs:= .inl h
theorem TqT.sq{K:AD}{H:Hp}{a:AB}{xs:List V}(h:TqT K H a xs):M5 K H a xs:=h.elim (fun h=> .inl (.inl h)) .inr
instance {K:AD} {H:Hp} {a:AB} {xs:List V}:Coe (TqT K H a xs) (M5 K H a xs):=⟨TqT.sq⟩
theorem b0G{K:AD}{H H':Hp}{a:AB}{xs:List V}(s:f6 H H')(h:TqT K H a xs):TqT K H' a xs:=h.elim (fun h=> .inl (s _ _ h)) .inr
def a7x(K:AD)(x:Str)(v:V):Prop:=∃(a:AB) (oc:AA) (od:Option AB) (fd:FuncData) (osl:Array (Option AA)),v= .ref a/\K.lookup a=some ⟨oc,od,.func fd,osl⟩/\fd.name=x
def a0K(K:AD)(x:Str)(C:AB):Prop:=PySem.W.nsIn K mainGlobals x=some (some (.ref C))/\∃(oc:AA) (od:Option AB) (cd:ClassData) (osl:Array (Option AA)),K.lookup C=some ⟨oc,od,.cls cd,osl⟩/\cd.name=x
theorem a0K.inj{K:AD}{x y:Str}{C:AB}(h:a0K K x C)(h':a0K K y C):x=y:=by
 obtain⟨_,_,_,_,_,k,n⟩:=h
 obtain⟨_,_,_,_,_,k',n'⟩:=h'
 rw [k] at k';cases k'
 rw [<-n,n']
theorem a0K.uniq{K:AD}{x:Str}{C D:AB}(h:a0K K x C)(h':a0K K x D):C=D:=by
 have:=h.1.symm.trans h'.1
 cases this;rfl
def b1m(K:AD)(H:Hp)(x:Str)(v:V):Prop:=∃(a C:AB) (φ:Heap->Prop),v= .ref a/\H a=some (.ext φ)/\
 (∀h:Heap,φ h->∃oe vs,h.get? a=some oe/\oe.cls= .ref C/\oe.data= .fields vs/\oe.dict=none)/\a0K K x C
def a08(K:AD)(H:Hp)(x:Str)(t:PV)(v:V):Prop:=(t= .none/\a7x K x v)\/(t= .bool true/\b1m K H x v)
theorem a08.ref{K:AD}{H:Hp}{x:Str}{t:PV}{v:V}(h:a08 K H x t v):∃a,v= .ref a:=by
 rcases h with⟨_,a,_,_,_,_,e,_⟩|⟨_,a,_,_,e,_⟩<;>exact⟨a,e⟩
theorem a08.mono{K:AD}{H H':Hp}{x:Str}{t:PV}{v:V}(s:f6 H H')(h:a08 K H x t v):a08 K H' x t v:=by
 rcases h with h|⟨z,a,C,φ,e,q,r⟩
 ·exact .inl h
 ·exact .inr ⟨z,a,C,φ,e,s _ _ q,r⟩
def kP:c9->PV
 | .inl i=> .int i
 | .inr x=> .str x
def s1{α:Type}(kv:c9×α):List c9×α:=([kv.1],kv.2)
mutual
def r9(K:AD)(H:Hp):PV->V->Prop
 | .none,v=>v= .non
 | .bool b,v=>v= .bl b
 | .int i,v=>v= .int i
 | .str x,v=>v= .str x
 | .tuple ps,v=>∃a xs,v= .ref a/\TqT K H a xs/\f9 K H ps xs
 | .list ps,v=>∃a xs,v= .ref a/\H9 K H a xs/\f9 K H ps xs
 | .dict kvs,v=>(∃a ys,v= .ref a/\H a=some (.dK ys)/\K7 K H kvs (ys.map s1))\/(∃a xs,v= .ref a/\H a=some (.dT xs)/\K7 K H kvs (([],.non)::xs))\/(∃x t,kvs=[(.str x,t)]/\a08 K H x t v)
def f9(K:AD)(H:Hp):List PV->List V->Prop
 |[],vs=>vs=[]
 |p::ps,vs=>∃v r,vs=v::r/\r9 K H p v/\f9 K H ps r
def K7(K:AD)(H:Hp):List (PV×PV)->List (List c9×V)->Prop
 |[],ys=>ys=[]
 |(k,p)::r,ys=>∃kk v t,ys=(kk,v)::t/\k= .tuple (kk.map kP)/\r9 K H p v/\K7 K H r t
end
theorem k9{K:AD}{H H':Hp}{a:AB}{xs:List V}(s:f6 H H')(h:M5 K H a xs):M5 K H' a xs:=by
 rcases h with(h|⟨o,h⟩)|h
 ·exact .inl (.inl (s _ _ h))
 ·exact .inl (.inr ⟨o,s _ _ h⟩)
 ·exact .inr h
theorem v7{K:AD}{H H':Hp}{a:AB}{xs:List V}(s:f6 H H')(h:H9 K H a xs):H9 K H' a xs:=by
 rcases h with(h|⟨o,h⟩)|h
 ·exact .inl (.inl (s _ _ h))
 ·exact .inl (.inr ⟨o,s _ _ h⟩)
 ·exact .inr h
mutual
theorem r9.mono{K:AD}{H H':Hp}(s:f6 H H'):∀(p:PV) {v:V},r9 K H p v->r9 K H' p v
 | .none,_,h=>h
 | .bool _,_,h=>h
 | .int _,_,h=>h
 | .str _,_,h=>h
 | .dict kvs,_,.inl ⟨a,ys,q,h,r⟩=> .inl ⟨a,ys,q,s _ _ h,K7.mono s kvs r⟩
 | .dict kvs,_,.inr (.inl ⟨a,xs,q,h,r⟩)=> .inr (.inl ⟨a,xs,q,s _ _ h,K7.mono s kvs r⟩)
 | .dict _,_,.inr (.inr ⟨x,t,e,h⟩)=> .inr (.inr ⟨x,t,e,h.mono s⟩)
 | .tuple ps,_,⟨a,xs,e,q,r⟩=>⟨a,xs,e,b0G s q,f9.mono s ps r⟩
 | .list ps,_,⟨a,xs,e,q,r⟩=>⟨a,xs,e,v7 s q,f9.mono s ps r⟩
theorem f9.mono{K:AD}{H H':Hp}(s:f6 H H'):∀(ps:List PV) {vs:List V},f9 K H ps vs->f9 K H' ps vs
 |[],_,h=>h
 |p::ps,_,⟨v,r,e,q,t⟩=>⟨v,r,e,r9.mono s p q,f9.mono s ps t⟩
theorem K7.mono{K:AD}{H H':Hp}(s:f6 H H'):∀(es:List (PV×PV)) {ys:List (List c9×V)},K7 K H es ys->K7 K H' es ys
 |[],_,h=>h
 |(k,p)::es,_,⟨kk,v,r,e,z,q,t⟩=>⟨kk,v,r,e,z,r9.mono s p q,K7.mono s es t⟩
end
theorem f9.length{K:AD}{H:Hp}:∀{ps:List PV} {vs:List V},f9 K H ps vs->vs.length=ps.length
 |[],_,h=>by cases h;rfl
 |_::ps,_,⟨v,r,e,_,t⟩=>by subst e;rw [AU,AU,f9.length t]
theorem f9.get{K:AD}{H:Hp}:∀{ps:List PV} {vs:List V} {i:Nat} {p:PV},f9 K H ps vs->ps[i]?=some p->∃v,vs[i]?=some v/\r9 K H p v
 |[],_,_,_,_,h=>by simp at h
 |q::ps,_,0,p,⟨v,r,e,a,t⟩,h=>by subst e;simp at h;subst h;exact⟨v,rfl,a⟩
 |q::ps,_,i+1,p,⟨v,r,e,a,t⟩,h=>by subst e;exact f9.get (i:=i) t (by simpa using h)
theorem f9.getV{K:AD}{H:Hp}:∀{ps:List PV} {vs:List V} {i:Nat} {v:V},f9 K H ps vs->vs[i]?=some v->∃p,ps[i]?=some p/\r9 K H p v
 |[],_,_,_,h,e=>by cases h;simp at e
 |q::ps,_,0,v,⟨w,r,e,a,t⟩,h=>by subst e;simp at h;subst h;exact⟨q,rfl,a⟩
 |q::ps,_,i+1,v,⟨w,r,e,a,t⟩,h=>by subst e;exact f9.getV (i:=i) t (by simpa using h)
theorem f9.append{K:AD}{H:Hp}:∀{ps qs:List PV} {vs ws:List V},f9 K H ps vs->f9 K H qs ws->f9 K H (ps++qs) (vs++ws)
 |[],_,_,_,h,t=>by cases h;exact t
 |_::ps,_,_,_,⟨v,r,e,a,t⟩,s=>by subst e;exact⟨v,_,rfl,a,f9.append t s⟩
theorem f9.drop{K:AD}{H:Hp}:∀{ps:List PV} {vs:List V} (n:Nat),f9 K H ps vs->f9 K H (ps.drop n) (vs.drop n)
 |_,_,0,h=>h
 |[],_,n+1,h=>by cases h;rfl
 |_::ps,_,n+1,⟨v,r,e,a,t⟩=>by subst e;exact f9.drop n t
theorem f9.take{K:AD}{H:Hp}:∀{ps:List PV} {vs:List V} (n:Nat),f9 K H ps vs->f9 K H (ps.take n) (vs.take n)
 |_,_,0,h=>rfl
 |[],_,n+1,h=>by cases h;rfl
 |_::ps,_,n+1,⟨v,r,e,a,t⟩=>by subst e;exact⟨v,_,rfl,a,f9.take n t⟩
def n8(K:AD)(H:Hp):List (List c9×PV)->List (List c9×V)->Prop
 |[],ys=>ys=[]
 |(k,p)::r,ys=>∃v t,ys=(k,v)::t/\r9 K H p v/\n8 K H r t
theorem n8.mono{K:AD}{H H':Hp}(s:f6 H H'):∀(kvs:List (List c9×PV)) {ys:List (List c9×V)},n8 K H kvs ys->n8 K H' kvs ys
 |[],_,h=>h
 |(k,p)::r,_,⟨v,t,e,q,h⟩=>⟨v,t,e,r9.mono s p q,n8.mono s r h⟩
inductive C7 where
 |lst (ps:List PV)|dct (kvs:List (List c9×PV))|txt (kvs:List (List c9×PV))
inductive c6 where
 |val (p:PV)|ow (c:C7)|bo (c:C7)
abbrev c6.own(ps:List PV):c6:= .ow (.lst ps)
abbrev c6.bor(ps:List PV):c6:= .bo (.lst ps)
abbrev c6.dct(kvs:List (List c9×PV)):c6:= .ow (.dct kvs)
def C9(K:AD)(F H:Hp)(v:V):C7->Prop
 | .lst ps=>∃a xs,v= .ref a/\F a=none/\H a=some (.lst xs)/\f9 K F ps xs
 | .dct kvs=>∃a xs,v= .ref a/\F a=none/\H a=some (.dT xs)/\n8 K F kvs xs
 | .txt kvs=>∃a xs,v= .ref a/\F a=none/\H a=some (.dK xs)/\n8 K F kvs (xs.map s1)
def G8(K:AD)(F H:Hp)(v:V):c6->Prop
 | .val p=>r9 K F p v
 | .ow c=>C9 K F H v c
 | .bo c=>C9 K F H v c
theorem C9.at_{K:AD}{F H:Hp}{v:V}:∀{c:C7},C9 K F H v c->∃a o,v= .ref a/\F a=none/\H a=some o
 | .lst _,⟨a,_,e,n,q,_⟩=>⟨a,_,e,n,q⟩
 | .dct _,⟨a,_,e,n,q,_⟩=>⟨a,_,e,n,q⟩
 | .txt _,⟨a,_,e,n,q,_⟩=>⟨a,_,e,n,q⟩
def NT(o:HO):Prop:=∀xs,o≠.tup xs
structure G6(F H F' H':Hp):Prop where
 f:f6 F F'
 h:f6 H H'
 fh:f6 F' H'
 nw:∀b o,F b=none->H b=some o->NT o->F' b=none
 nf:∀b o u,F' b=some (.frz o u)->F b=some (.frz o u)
theorem f6.refl(H:Hp):f6 H H:=fun _ _ e=>e
theorem G6.refl{F H:Hp}(s:f6 F H):G6 F H F H:=⟨f6.refl F,f6.refl H,s,fun _ _ e _ _=>e,fun _ _ _ e=>e⟩
theorem G6.trans{F H F1 H1 F2 H2:Hp}(a:G6 F H F1 H1)(b:G6 F1 H1 F2 H2):G6 F H F2 H2:=
 ⟨a.f.trans b.f,a.h.trans b.h,b.fh,fun c o e q t=>b.nw c o (a.nw c o e q t) (a.h c o q) t,fun c o u e=>a.nf c o u (b.nf c o u e)⟩
theorem a8C{F0 F:Hp}{a:AB}{xs:List V}(h:∀b o u,F b=some (.frz o u)->F0 b=some (.frz o u)):∀b o u,upd F a (.lst xs) b=some (.frz o u)->F0 b=some (.frz o u):=fun b o u z=>by
 by_cases hb:b=a
 ·subst hb;rw [g5] at z;cases z
 ·rw [d6 hb] at z;exact h _ _ _ z
theorem C9.ext{K:AD}{F H F' H':Hp}{v:V}(x:G6 F H F' H'):∀{c:C7},C9 K F H v c->C9 K F' H' v c
 | .lst _,⟨a,xs,e,n,q,r⟩=>⟨a,xs,e,x.nw _ _ n q (fun _ h=>nomatch h),x.h _ _ q,f9.mono x.f _ r⟩
 | .dct _,⟨a,xs,e,n,q,r⟩=>⟨a,xs,e,x.nw _ _ n q (fun _ h=>nomatch h),x.h _ _ q,n8.mono x.f _ r⟩
 | .txt _,⟨a,xs,e,n,q,r⟩=>⟨a,xs,e,x.nw _ _ n q (fun _ h=>nomatch h),x.h _ _ q,n8.mono x.f _ r⟩
theorem G8.ext{K:AD}{F H F' H':Hp}{v:V}(x:G6 F H F' H'):∀{r:c6},G8 K F H v r->G8 K F' H' v r
 | .val p,h=>r9.mono x.f p h
 | .ow _,h=>C9.ext x h
 | .bo _,h=>C9.ext x h
def C7.rd:C7->PV
 | .lst ps=> .list ps
 | .dct kvs=> .dict ((.tuple [],.none)::kvs.map fun kv=>(.tuple (kv.1.map kP),kv.2))
 | .txt kvs=> .dict (kvs.map fun kv=>(.tuple (kv.1.map kP),kv.2))
def c6.rd:c6->PV
 | .val p=>p
 | .ow c=>c.rd
 | .bo c=>c.rd
def c6.toVal:c6->Option PV
 | .val p=>some p
 | .ow (.lst ps)=>some (.list ps)
 | .ow (.dct _)=>none
 | .ow (.txt _)=>none
 | .bo _=>none
theorem K7.of{K:AD}{F H:Hp}(s:f6 F H):∀{kvs:List (List c9×PV)} {xs:List (List c9×V)},n8 K F kvs xs->K7 K H (kvs.map fun kv=>(PyData.tuple (kv.1.map kP),kv.2)) xs
 |[],_,h=>h
 |(k,p)::r,_,⟨v,t,e,q,h⟩=>⟨k,v,t,e,rfl,r9.mono s p q,K7.of s h⟩
theorem C9.rd{K:AD}{F H:Hp}{v:V}(s:f6 F H):∀{c:C7},C9 K F H v c->r9 K H c.rd v
 | .lst ps,⟨a,xs,e,n,q,r⟩=>⟨a,xs,e,H9.of q,f9.mono s _ r⟩
 | .dct kvs,⟨a,xs,e,n,q,r⟩=> .inr (.inl ⟨a,xs,e,q,[],.non,xs,rfl,rfl,rfl,K7.of s r⟩)
 | .txt kvs,⟨a,xs,e,n,q,r⟩=> .inl ⟨a,xs,e,q,K7.of s r⟩
theorem G8.rd{K:AD}{F H:Hp}{v:V}(s:f6 F H):∀{r:c6},G8 K F H v r->r9 K H r.rd v
 | .val p,h=>r9.mono s p h
 | .ow _,h=>C9.rd s h
 | .bo _,h=>C9.rd s h
structure o9(K:AD)(F H F' H':Hp)(v:V)(r:c6):Prop where
 x:G6 F H F' H'
 rep:G8 K F' H' v r
 fr:∀c a,r= .ow c->v= .ref a->H a=none
theorem o9.val{K:AD}{F H F' H':Hp}{v:V}{p:PV}(x:G6 F H F' H')(r:r9 K F' p v):o9 K F H F' H' v (.val p):=⟨x,r,fun _ _ e=>nomatch e⟩
theorem o9.here{K:AD}{F H:Hp}{v:V}{p:PV}(s:f6 F H)(r:r9 K F p v):o9 K F H F H v (.val p):=o9.val (G6.refl s) r
theorem o9.trans{K:AD}{F H F1 H1 F2 H2:Hp}{v:V}{r:c6}(a:G6 F H F1 H1)(b:o9 K F1 H1 F2 H2 v r):o9 K F H F2 H2 v r:=
 ⟨a.trans b.x,b.rep,fun ps c e q=>a.h.free (b.fr ps c e q)⟩
theorem o9.toVal{K:AD}{F H F' H':Hp}{v:V}{p:PV}:∀{r:c6},o9 K F H F' H' v r->r.toVal=some p->∃F2,o9 K F H F2 H' v (.val p)
 | .val q,o,e=>by cases e;exact⟨F',o⟩
 | .bo _,_,e=>nomatch e
 | .ow (.dct _),_,e=>nomatch e
 | .ow (.txt _),_,e=>nomatch e
 | .ow (.lst ps),o,e=>by
   cases e
   obtain⟨a,xs,rfl,n,q,r⟩:=o.rep
   have fr:=o.fr _ a rfl rfl
   have up:f6 F' (upd F' a (.lst xs)):=fun b u z=>by rw [d6 (f7 z n)];exact z
   refine⟨upd F' a (.lst xs),o9.val ⟨o.x.f.trans up,o.x.h,fun b u z=> ?_,fun b u z y t=> ?_,a8C o.x.nf⟩ ⟨a,xs,rfl,H9.of g5,f9.mono up _ r⟩⟩
   ·by_cases hb:b=a
    ·subst hb;rw [g5] at z;cases z;exact q
    ·rw [d6 hb] at z;exact o.x.fh _ _ z
   ·rw [d6 (f7 y fr)];exact o.x.nw b u z y t
theorem B0{H:Hp}{a:AB}{o:HO}(n:H a=none):f6 H (upd H a o):=fun b u z=>by rw [d6 (f7 z n)];exact z
theorem G6.lay{F H:Hp}{a:AB}{o:HO}(s:f6 F H)(n:H a=none)(hf:∀x u,o≠.frz x u:=by intro _ _ h;cases h):G6 F H (upd F a o) (upd H a o):=
 ⟨B0 (s.free n),B0 n,fun b u z=>by
  by_cases hb:b=a
  ·subst hb;rw [g5] at z ⊢;exact z
  ·rw [d6 hb] at z ⊢;exact s _ _ z,fun b u z y _=>by rw [d6 (f7 y n)];exact z,fun b w u z=>by
  by_cases hb:b=a
  ·subst hb;rw [g5] at z;exact absurd (Option.some.inj z) (hf w u)
  ·rw [d6 hb] at z;exact z⟩
theorem G6.layH{F H:Hp}{a:AB}{o:HO}(s:f6 F H)(n:H a=none):G6 F H F (upd H a o):=
 ⟨f6.refl F,B0 n,fun b u z=>by rw [d6 (f7 (s _ _ z) n)];exact s _ _ z,fun b u z y _=>z,fun _ _ _ z=>z⟩
theorem o9.tup{K:AD}{F H:Hp}{a:AB}{xs:List V}{ps:List PV}(s:f6 F H)(n:H a=none)(r:f9 K F ps xs):o9 K F H (upd F a (.tup xs)) (upd H a (.tup xs)) (.ref a) (.val (.tuple ps)):=
 o9.val (G6.lay s n) ⟨a,xs,rfl,TqT.of g5,f9.mono (B0 (s.free n)) _ r⟩
theorem o9.lst{K:AD}{F H:Hp}{a:AB}{xs:List V}{ps:List PV}(s:f6 F H)(n:H a=none)(r:f9 K F ps xs):o9 K F H F (upd H a (.lst xs)) (.ref a) (.own ps):=
 ⟨G6.layH s n,⟨a,xs,rfl,s.free n,g5,r⟩,fun _ _ _ e=>by cases e;exact n⟩
abbrev a8:=List (Option c6)
structure p9(K:AD)(F H:Hp)(σ:L2.St)(ρ:a8):Prop where
 fh:f6 F H
 len:σ.length=ρ.length
 at_:∀(i:Nat) (r:c6),ρ[i]?=some (some r)->∃v,σ[i]?=some (some v)/\G8 K F H v r
 nb:∀(i:Nat) (c:C7),ρ[i]?≠some (some (.bo c))
 ap:∀(i j:Nat) (c d:C7) (a:AB),i≠j->ρ[i]?=some (some (.ow c))->ρ[j]?=some (some (.ow d))->σ[i]?=some (some (.ref a))->σ[j]?≠some (some (.ref a))
theorem p9.ext{K:AD}{F H F' H':Hp}{σ:L2.St}{ρ:a8}(e:p9 K F H σ ρ)(x:G6 F H F' H'):p9 K F' H' σ ρ:=
 ⟨x.fh,e.len,fun i r q=>let ⟨v,a,b⟩:=e.at_ i r q;⟨v,a,b.ext x⟩,e.nb,e.ap⟩
abbrev M:=a8->Option c6
def tM(K:AD)(m:M):TE:=fun σ H Q=>∃F ρ r,p9 K F H σ ρ/\m ρ=some r/\∀v F' H',o9 K F H F' H' v r->Q v H'
abbrev EE(X:Cx)(e:AE)(m:M):Prop:=PE X e (tM X.K m)
theorem p8{X:Cx}{e:AE}{t t':TE}(h:PE X e t)(i:∀σ H Q,t' σ H Q->t σ H Q):PE X e t':=fun pins s σ H Q I q=>h pins s σ H Q I (i σ H Q q)
theorem a2u{X:Cx}{e:AE}{t t':TT}(h:PT X e t)(i:∀σ H Q,t' σ H Q->t σ H Q):PT X e t':=fun pins s σ H Q I q=>h pins s σ H Q I (i σ H Q q)
theorem b2s{X:Cx}{e:AE}{t t':TT}(h:PW X e t)(i:∀σ H Q,t' σ H Q->t σ H Q):PW X e t':=fun wh pins s σ H Q I q=>h wh pins s σ H Q I (i σ H Q q)
theorem a8P{X:Cx}{e:List AE}{t t':TA}(h:PA X e t)(i:∀σ H Q,t' σ H Q->t σ H Q):PA X e t':=fun pos pins s σ H Q I q=>h pos pins s σ H Q I (i σ H Q q)
theorem q9{X:Cx}{e:Stmt}{t t':TS}(h:PS X e t)(i:∀D σ H,t' D σ H->t D σ H):PS X e t':=fun pins s σ H D I q=>h pins s σ H D I (i D σ H q)
theorem N5{X:Cx}{e:List Stmt}{t t':TS}(h:PSs X e t)(i:∀D σ H,t' D σ H->t D σ H):PSs X e t':=fun pins s σ H D I q=>h pins s σ H D I (i D σ H q)
def mC(p:PV):M:=fun _=>some (.val p)
def a9(i:Nat):M:=fun ρ=>match ρ[i]? with
 |some (some (.ow c))=>some (.bo c)
 |some (some r)=>some r
 |_=>none
section
variable {X:Cx}{a b c:AE}{ma mb mc:M}{pos:Pos}
theorem Q0{e:AE}{v:V}{p:PV}(h:PE X e (tC v))(r:∀H,r9 X.K H p v):EE X e (mC p):=
 p8 h fun σ H Q ⟨F,ρ,q,he,hm,k⟩=>by
  cases hm
  exact k v F H (o9.here he.fh (r F))
theorem b0{i j pos}:EE X (.Constant (.int i) j pos) (mC (.int i)):=Q0 b2g fun _=>rfl
theorem U6{b j pos}:EE X (.Constant (.bool b) j pos) (mC (.bool b)):=Q0 b3i fun _=>rfl
theorem b1t{j pos}:EE X (.Constant .none j pos) (mC .none):=Q0 b2j fun _=>rfl
theorem k6{x j pos}:EE X (.Constant (.str x) j pos) (mC (.str x)):=Q0 a8R fun _=>rfl
theorem a6(i:Nat){x:Str}{pos:Pos}(h:PE X (.Name x pos) (a0I i)):EE X (.Name x pos) (a9 i):=
 p8 h fun σ H Q ⟨F,ρ,r,he,hm,k⟩=>by
  unfold a9 at hm
  split at hm
  ·rename_i ps e
   cases hm
   obtain⟨v,e1,rr⟩:=he.at_ i _ e
   exact⟨v,e1,k v F H ⟨G6.refl he.fh,rr,fun _ _ z=>nomatch z⟩⟩
  ·rename_i r' nn e
   cases hm
   obtain⟨v,e1,rr⟩:=he.at_ i _ e
   exact⟨v,e1,k v F H ⟨G6.refl he.fh,rr,fun ps _ z=>absurd z (nn ps)⟩⟩
  ·cases hm
def rM2(K:AD)(g:c6->c6->Option c6):R2:=fun x y H Q=>∃F rx ry rz,f6 F H/\G8 K F H x rx/\G8 K F H y ry/\g rx ry=some rz/\∀v F' H',o9 K F H F' H' v rz->Q v H'
abbrev OpM(X:Cx)(f:AA->AA->Sem AA)(g:c6->c6->Option c6):Prop:=X4 X f (rM2 X.K g)
def m2(g:c6->c6->Option c6)(ma mb:M):M:=fun ρ=>(ma ρ).bind fun x=>(mb ρ).bind fun y=>g x y
theorem bind_some{α β:Type}{o:Option α}{f:α->Option β}{b:β}(h:o.bind f=some b):∃a,o=some a/\f a=some b:=by
 cases o with
 |none=>cases h
 |some a=>exact⟨a,rfl,h⟩
theorem a4l{K:AD}{g:c6->c6->Option c6}{σ:L2.St}{H:Hp}{Q:VK}(h:tM K (m2 g ma mb) σ H Q):tOp (rM2 K g) (tM K ma) (tM K mb) σ H Q:=by
 obtain⟨F,ρ,r,he,hm,k⟩:=h
 obtain⟨rx,e1,hm⟩:=bind_some hm
 obtain⟨ry,e2,hm⟩:=bind_some hm
 exact⟨F,ρ,rx,he,e1,fun v F1 H1 o1=>⟨F1,ρ,ry,he.ext o1.x,e2,fun u F2 H2 o2=>⟨F2,rx,ry,r,o2.x.fh,o1.rep.ext o2.x,o2.rep,hm,fun z F3 H3 o3=>k z F3 H3 (o9.trans (o1.x.trans o2.x) o3)⟩⟩⟩
theorem i7{op:Operator}{g:c6->c6->Option c6}(ho:OpM X (binaryOp op) g)(ha:EE X a ma)(hb:EE X b mb):EE X (.BinOp a op b pos) (m2 g ma mb):=
 p8 (b3k ho ha hb) fun _ _ _ h=>a4l h
theorem b1s{op:CmpOp}{g:c6->c6->Option c6}(ho:OpM X (compareOp op) g)(ha:EE X a ma)(hb:EE X b mb)(hm:behindInMarks op b=false):EE X (.Compare a [op] [b] pos) (m2 g ma mb):=
 p8 (b0s ho ha hb hm) fun _ _ _ h=>a4l h
theorem a3m{f:AA->AA->Sem AA}{r:R2}{g:c6->c6->Option c6}(h:X4 X f r)
 (i:∀F H x y rx ry rz,f6 F H->G8 X.K F H x rx->G8 X.K F H y ry->g rx ry=some rz->∀Q:VK,(∀v F' H',o9 X.K F H F' H' v rz->Q v H')->r x y H Q):OpM X f g:=
 fun pins s σ H x y v u Q I rx ry ⟨F,ra,rb,rz,s0,h1,h2,h3,k⟩=>h pins s σ H x y v u Q I rx ry (i F H x y ra rb rz s0 h1 h2 h3 Q k)
end
def gI(f:Int->Int->PV):c6->c6->Option c6
 | .val (.int i),.val (.int j)=>some (.val (f i j))
 |_,_=>none
theorem a8G:∃f:(Int->Int->Prop)->Int->Int->Bool,∀C i j,f C i j=true↔C i j:=⟨fun C i j=> @decide (C i j) (Classical.propDecidable _),fun C i j=> @decide_eq_true_iff (C i j) (Classical.propDecidable _)⟩
def okC:(Int->Int->Prop)->Int->Int->Bool:=a8G.choose
theorem Z6{C:Int->Int->Prop}{i j:Int}:okC C i j=true↔C i j:=a8G.choose_spec C i j
def gIc(C:Int->Int->Prop)[∀i j,Decidable (C i j)](f:Int->Int->PV):c6->c6->Option c6
 | .val (.int i),.val (.int j)=>if okC C i j=true then some (.val (f i j)) else none
 |_,_=>none
theorem a90{f:Int->Int->PV}{rx ry rz:c6}(h:gI f rx ry=some rz):∃i j,rx= .val (.int i)/\ry= .val (.int j)/\rz= .val (f i j):=by
 unfold gI at h
 split at h
 ·cases h;exact⟨_,_,rfl,rfl,rfl⟩
 ·cases h
theorem a77{C:Int->Int->Prop}[∀i j,Decidable (C i j)]{f:Int->Int->PV}{rx ry rz:c6}(h:gIc C f rx ry=some rz):∃i j,rx= .val (.int i)/\ry= .val (.int j)/\C i j/\rz= .val (f i j):=by
 unfold gIc at h
 split at h
 ·split at h
  ·rename_i c;cases h;exact⟨_,_,rfl,rfl,Z6.mp c,rfl⟩
  ·cases h
 ·cases h
section
variable {X:Cx}
theorem b06{f:AA->AA->Sem AA}{g:Int->Int->V}{g':Int->Int->PV}(h:X4 X f (rI0 g))(e:∀i j H,r9 X.K H (g' i j) (g i j)):OpM X f (gI g'):=
 a3m h fun F H x y rx ry rz s h1 h2 h3 Q k=>by
  obtain⟨i,j,rfl,rfl,rfl⟩:=a90 h3
  exact⟨i,j,h1,h2,k _ F H (o9.here s (e i j F))⟩
theorem a5Y{f:AA->AA->Sem AA}{C:Int->Int->Prop}[∀i j,Decidable (C i j)]{g:Int->Int->V}{g':Int->Int->PV}(h:X4 X f (rI C g))(e:∀i j H,r9 X.K H (g' i j) (g i j)):OpM X f (gIc C g'):=
 a3m h fun F H x y rx ry rz s h1 h2 h3 Q k=>by
  obtain⟨i,j,rfl,rfl,c,rfl⟩:=a77 h3
  exact⟨i,j,h1,h2,c,k _ F H (o9.here s (e i j F))⟩
end
section
variable {X:Cx}{pins:List (AB×Obj)}{σ:L2.St}{H:Hp}{s:AC}
theorem a02(I:g4 X pins σ H s){a:AB}{xs ys:List V}(h:H9 X.K H a xs)(h':M5 X.K H a ys):False:=by
 obtain⟨its,r,p,_⟩:=I.list h
 obtain⟨its',r',p',_⟩:=I.tuple h'
 exact SeqAt.ne_of_list_tuple p.isList (show s.heap.IsTuple a its'.toArray from p') rfl
theorem a00(I:g4 X pins σ H s){a:AB}{xs:List V}{ys:List (c9×V)}(h:H a=some (.dK ys))(h':H9 X.K H a xs):False:=by
 obtain⟨its,r,⟨o,n,e,c,_⟩,_⟩:=I.list h'
 obtain⟨_,_,_,_,o',_,_,e',ex,_⟩:=I.hok a _ h
 rw [e] at e';cases e'
 have:=ex.1
 rw [c] at this;exact absurd this (by simp)
theorem a01(I:g4 X pins σ H s){a:AB}{xs:List V}{ys:List (c9×V)}(h:H a=some (.dK ys))(h':M5 X.K H a xs):False:=by
 obtain⟨its,r,⟨o,e,c,_⟩,_⟩:=I.tuple h'
 obtain⟨_,_,_,_,o',_,_,e',ex,_⟩:=I.hok a _ h
 rw [e] at e';cases e'
 have:=ex.1
 rw [c] at this;exact absurd this (by simp)
theorem a2h(I:g4 X pins σ H s){a:AB}{ys:List (List c9×V)}{xs:List V}(h:H a=some (.dT ys))(h':H9 X.K H a xs):False:=by
 obtain⟨its,r,⟨o,n,e,c,_⟩,_⟩:=I.list h'
 obtain⟨_,_,_,_,o',_,_,e',ex,_⟩:=I.hok a _ h
 rw [e] at e';cases e'
 have:=ex.1
 rw [c] at this;exact absurd this (by simp)
theorem a2i(I:g4 X pins σ H s){a:AB}{ys:List (List c9×V)}{xs:List V}(h:H a=some (.dT ys))(h':M5 X.K H a xs):False:=by
 obtain⟨its,r,⟨o,e,c,_⟩,_⟩:=I.tuple h'
 obtain⟨_,_,_,_,o',_,_,e',ex,_⟩:=I.hok a _ h
 rw [e] at e';cases e'
 have:=ex.1
 rw [c] at this;exact absurd this (by simp)
theorem a6i(I:g4 X pins σ H s){x:Str}{v:V}(h:a7x X.K x v):∃(a:AB) (o:Obj) (fd:FuncData),v= .ref a/\s.heap.get? a=some o/\o.data= .func fd/\fd.name=x:=by
 obtain⟨a,oc,od,fd,osl,e,k,n⟩:=h
 exact⟨a,_,fd,e,I.kIn a _ k,rfl,n⟩
theorem a1q(I:g4 X pins σ H s){x:Str}{v:V}(h:b1m X.K H x v):∃(a C:AB) (o:Obj) (vs:Array AA),v= .ref a/\s.heap.get? a=some o/\o.cls= .ref C/\o.data= .fields vs/\a0K X.K x C/\o.dict=none:=by
 obtain⟨a,C,φ,e,q,k,n⟩:=h
 obtain⟨oe,vs,h1,h2,h3,h4⟩:=k _ (I.hok a _ q).1
 exact⟨a,C,oe,vs,e,h1,h2,h3,n,h4⟩
theorem a2l(I:g4 X pins σ H s){x:Str}{a:AB}{xs:List V}{t:PV}(h:a08 X.K H x t (.ref a))(h':M5 X.K H a xs):False:=by
 obtain⟨its,r,⟨o',e',c',n',d'⟩,_⟩:=I.tuple h'
 rcases h with⟨_,h⟩|⟨_,h⟩
 ·obtain⟨b,o,fd,e,g,d,_⟩:=a6i I h
  cases e
  rw [g] at e';cases e'
  rw [d] at d';cases d'
 ·obtain⟨b,C,o,vs,e,g,c,d,_⟩:=a1q I h
  cases e
  rw [g] at e';cases e'
  rw [d] at d';cases d'
theorem a2k(I:g4 X pins σ H s){x:Str}{a:AB}{xs:List V}{t:PV}(h:a08 X.K H x t (.ref a))(h':H9 X.K H a xs):False:=by
 obtain⟨its,r,pl,_⟩:=I.list h'
 obtain⟨o',e',c',n',d'⟩:=pl.isList
 rcases h with⟨_,h⟩|⟨_,h⟩
 ·obtain⟨b,o,fd,e,g,d,_⟩:=a6i I h
  cases e
  rw [g] at e';cases e'
  rw [d] at d';cases d'
 ·obtain⟨b,C,o,vs,e,g,c,d,_⟩:=a1q I h
  cases e
  rw [g] at e';cases e'
  rw [d] at d';cases d'
theorem a2j(I:g4 X pins σ H s){x:Str}{a:AB}{ys:List (c9×V)}{t:PV}(h:a08 X.K H x t (.ref a))(h':H a=some (.dK ys)):False:=by
 rcases h with⟨_,b,oc,od,fd,osl,e,k,_⟩|⟨_,b,C,φ,e,q,_⟩
 ·cases e
  have:=(I.bs a _ (I.ok.mod.kin a _ k)).2
  rw [this] at h';cases h'
 ·cases e
  rw [q] at h';cases h'
theorem a3k(I:g4 X pins σ H s){x:Str}{a:AB}{ys:List (List c9×V)}{t:PV}(h:a08 X.K H x t (.ref a))(h':H a=some (.dT ys)):False:=by
 rcases h with⟨_,b,oc,od,fd,osl,e,k,_⟩|⟨_,b,C,φ,e,q,_⟩
 ·cases e
  have:=(I.bs a _ (I.ok.mod.kin a _ k)).2
  rw [this] at h';cases h'
 ·cases e
  rw [q] at h';cases h'
theorem a3l(I:g4 X pins σ H s){x y:Str}{v:V}(h:a7x X.K x v)(h':b1m X.K H y v):False:=by
 obtain⟨b,oc,od,fd,osl,e,k,_⟩:=h
 obtain⟨b',C,φ,e',q,_⟩:=h'
 rw [e] at e';cases e'
 have:=(I.bs b _ (I.ok.mod.kin b _ k)).2
 rw [this] at q;cases q
theorem b23(I:g4 X pins σ H s){x y:Str}{t u:PV}{v:V}(h:a08 X.K H x t v)(h':a08 X.K H y u v):x=y/\t=u:=by
 rcases h with⟨rfl,h⟩|⟨rfl,h⟩<;>rcases h' with⟨rfl,h'⟩|⟨rfl,h'⟩
 all_goals first|refine⟨?_,rfl⟩|skip
 ·obtain⟨b,oc,od,fd,osl,e,k,n⟩:=h
  obtain⟨b',oc',od',fd',osl',e',k',n'⟩:=h'
  rw [e] at e';cases e'
  rw [k] at k';cases k'
  rw [<-n,n']
 ·exact(a3l I h h').elim
 ·exact(a3l I h' h).elim
 ·obtain⟨b,C,o,vs,e,g,c,d,n,_⟩:=a1q I h
  obtain⟨b',C',o',vs',e',g',c',d',n',_⟩:=a1q I h'
  rw [e] at e';cases e'
  rw [g] at g';cases g'
  rw [c] at c';cases c'
  exact n.inj n'
mutual
theorem r9.inj(I:g4 X pins σ H s):∀(p q:PV) {v:V},r9 X.K H p v->r9 X.K H q v->p=q
 | .tuple ps,q,v,⟨a,xs,e,h,r⟩,h'=>by
   subst e
   cases q with
   |tuple qs=>
    obtain⟨a',xs',e',h',r'⟩:=h'
    cases e'
    cases I.tuple_inj h.sq h'.sq
    rw [f9.inj I ps qs r r']
   |list qs=>obtain⟨a',xs',e',h',r'⟩:=h';cases e';exact(a02 I h' h.sq).elim
   |dict qs=>
    rcases h' with⟨a',_,e',h',_⟩|⟨a',_,e',h',_⟩|⟨x,t,_,h'⟩
    ·cases e';exact(a01 I h' h.sq).elim
    ·cases e';exact(a2i I h' h.sq).elim
    ·exact(a2l I h' h.sq).elim
   |_=>cases h'
 | .list ps,q,v,⟨a,xs,e,h,r⟩,h'=>by
   subst e
   cases q with
   |list qs=>
    obtain⟨a',xs',e',h',r'⟩:=h'
    cases e'
    cases I.list_inj h h'
    rw [f9.inj I ps qs r r']
   |tuple qs=>obtain⟨a',xs',e',h',r'⟩:=h';cases e';exact(a02 I h h'.sq).elim
   |dict qs=>
    rcases h' with⟨a',_,e',h',_⟩|⟨a',_,e',h',_⟩|⟨x,t,_,h'⟩
    ·cases e';exact(a00 I h' h).elim
    ·cases e';exact(a2h I h' h).elim
    ·exact(a2k I h' h).elim
   |_=>cases h'
 | .dict ps,q,v,.inl ⟨a,ys,e,h,hr⟩,h'=>by
   subst e
   cases q with
   |tuple qs=>obtain⟨a',xs',e',h',r'⟩:=h';cases e';exact(a01 I h h'.sq).elim
   |list qs=>obtain⟨a',xs',e',h',r'⟩:=h';cases e';exact(a00 I h h').elim
   |dict qs=>
    rcases h' with⟨a',_,e',h',r'⟩|⟨a',_,e',h',_⟩|⟨x,t,_,h'⟩
    ·cases e';rw [h] at h';cases h';rw [K7.inj I ps qs hr r']
    ·cases e';rw [h] at h';cases h'
    ·exact(a2j I h' h).elim
   |_=>cases h'
 | .dict ps,q,v,.inr (.inl ⟨a,ys,e,h,hr⟩),h'=>by
   subst e
   cases q with
   |tuple qs=>obtain⟨a',xs',e',h',r'⟩:=h';cases e';exact(a2i I h h'.sq).elim
   |list qs=>obtain⟨a',xs',e',h',r'⟩:=h';cases e';exact(a2h I h h').elim
   |dict qs=>
    rcases h' with⟨a',_,e',h',_⟩|⟨a',_,e',h',r'⟩|⟨x,t,_,h'⟩
    ·cases e';rw [h] at h';cases h'
    ·cases e';rw [h] at h';cases h';rw [K7.inj I ps qs hr r']
    ·exact(a3k I h' h).elim
   |_=>cases h'
 | .dict ps,q,v,.inr (.inr ⟨x,t,e0,h⟩),h'=>by
   subst e0
   cases q with
   |tuple qs=>obtain⟨a',xs',e',h',r'⟩:=h';subst e';exact(a2l I h h'.sq).elim
   |list qs=>obtain⟨a',xs',e',h',r'⟩:=h';subst e';exact(a2k I h h').elim
   |dict qs=>
    rcases h' with⟨a',_,e',h',_⟩|⟨a',_,e',h',_⟩|⟨y,u,e1,h'⟩
    ·subst e';exact(a2j I h h').elim
    ·subst e';exact(a3k I h h').elim
    ·obtain⟨z1,z2⟩:=b23 I h h';rw [e1,z1,z2]
   |none=>obtain⟨_,e⟩:=h.ref;rw [e] at h';cases h'
   |bool _=>obtain⟨_,e⟩:=h.ref;rw [e] at h';cases h'
   |int _=>obtain⟨_,e⟩:=h.ref;rw [e] at h';cases h'
   |str _=>obtain⟨_,e⟩:=h.ref;rw [e] at h';cases h'
 | .none,q,v,h,h'=>by
   cases h
   cases q with
   |none=>rfl
   |tuple _=>obtain⟨_,_,e,_⟩:=h';cases e
   |list _=>obtain⟨_,_,e,_⟩:=h';cases e
   |dict _=>
    rcases h' with⟨_,_,e,_,_⟩|⟨_,_,e,_⟩|⟨_,_,_,h'⟩
    ·cases e
    ·cases e
    ·obtain⟨_,e⟩:=h'.ref;cases e
   |_=>cases h'
 | .bool _,q,v,h,h'=>by
   cases h
   cases q with
   |bool _=>cases h';rfl
   |tuple _=>obtain⟨_,_,e,_⟩:=h';cases e
   |list _=>obtain⟨_,_,e,_⟩:=h';cases e
   |dict _=>
    rcases h' with⟨_,_,e,_,_⟩|⟨_,_,e,_⟩|⟨_,_,_,h'⟩
    ·cases e
    ·cases e
    ·obtain⟨_,e⟩:=h'.ref;cases e
   |_=>cases h'
 | .int _,q,v,h,h'=>by
   cases h
   cases q with
   |int _=>cases h';rfl
   |tuple _=>obtain⟨_,_,e,_⟩:=h';cases e
   |list _=>obtain⟨_,_,e,_⟩:=h';cases e
   |dict _=>
    rcases h' with⟨_,_,e,_,_⟩|⟨_,_,e,_⟩|⟨_,_,_,h'⟩
    ·cases e
    ·cases e
    ·obtain⟨_,e⟩:=h'.ref;cases e
   |_=>cases h'
 | .str _,q,v,h,h'=>by
   cases h
   cases q with
   |str _=>cases h';rfl
   |tuple _=>obtain⟨_,_,e,_⟩:=h';cases e
   |list _=>obtain⟨_,_,e,_⟩:=h';cases e
   |dict _=>
    rcases h' with⟨_,_,e,_,_⟩|⟨_,_,e,_⟩|⟨_,_,_,h'⟩
    ·cases e
    ·cases e
    ·obtain⟨_,e⟩:=h'.ref;cases e
   |_=>cases h'
theorem f9.inj(I:g4 X pins σ H s):∀(ps qs:List PV) {vs:List V},f9 X.K H ps vs->f9 X.K H qs vs->ps=qs
 |[],qs,vs,h,h'=>by
  cases h
  cases qs with
  |nil=>rfl
  |cons q qs=>obtain⟨_,_,e,_⟩:=h';cases e
 |p::ps,qs,vs,⟨v,r,e,h,t⟩,h'=>by
  subst e
  cases qs with
  |nil=>cases h'
  |cons q qs=>
   obtain⟨v',r',e',h',t'⟩:=h'
   cases e'
   rw [r9.inj I p q h h',f9.inj I ps qs t t']
theorem K7.inj(I:g4 X pins σ H s):∀(es fs:List (PV×PV)) {ys:List (List c9×V)},K7 X.K H es ys->K7 X.K H fs ys->es=fs
 |[],fs,ys,h,h'=>by
  cases h
  cases fs with
  |nil=>rfl
  |cons f fs=>obtain⟨k,p⟩:=f;obtain⟨_,_,_,e,_⟩:=h';cases e
 |(k,p)::es,fs,ys,⟨kk,v,r,e,z,q,t⟩,h'=>by
  subst e
  cases fs with
  |nil=>cases h'
  |cons f fs=>
   obtain⟨k',p'⟩:=f
   obtain⟨kk',v',r',e',z',q',t'⟩:=h'
   cases e'
   rw [z,z',r9.inj I p p' q q',K7.inj I es fs t t']
end
end
mutual
def j8:PV->Nat->Bool
 | .list xs,n+1=>D2 xs n
 | .tuple xs,n+1=>D2 xs n
 | .list _,0=>false
 | .tuple _,0=>false
 | .dict _,_=>false
 | .none,_=>true
 | .bool _,_=>true
 | .int _,_=>true
 | .str _,_=>true
def D2:List PV->Nat->Bool
 |[],_=>true
 |x::xs,n=>j8 x n && D2 xs n
end
mutual
theorem a4M:∀(p:PV) (n:Nat),j8 p n=true->PyData.eqv p p=true
 | .none,_,_=>by simp [PyData.eqv]
 | .bool _,_,_=>by simp [PyData.eqv]
 | .int _,_,_=>by simp [PyData.eqv]
 | .str _,_,_=>by simp [PyData.eqv]
 | .list xs,n+1,h=>by simp only [PyData.eqv];exact K9 xs n (by simpa [j8] using h)
 | .tuple xs,n+1,h=>by simp only [PyData.eqv];exact K9 xs n (by simpa [j8] using h)
 | .list xs,0,h=>by simp [j8] at h
 | .tuple xs,0,h=>by simp [j8] at h
 | .dict _,_,h=>by simp [j8] at h
theorem K9:∀(ps:List PV) (n:Nat),D2 ps n=true->PyData.eqvAll ps ps=true
 |[],_,_=>by simp [PyData.eqvAll]
 |x::xs,n,h=>by
  have h':j8 x n=true/\D2 xs n=true:=by simpa [D2] using h
  simp only [PyData.eqvAll,a4M x n h'.1,K9 xs n h'.2,Bool.and_self]
end
def eAt(ps qs:List PV)(j:Nat):Bool:=match ps[j]?,qs[j]? with
 |some p,some q=>PyData.eqv p q
 |_,_=>false
theorem D3:∀(ps qs:List PV),PyData.eqvAll ps qs=((Az (min ps.length qs.length)).all (eAt ps qs)&& ps.length==qs.length)
 |[],[]=>by simp [PyData.eqvAll]
 |[],_::_=>by simp [PyData.eqvAll]
 |_::_,[]=>by simp [PyData.eqvAll]
 |p::ps,q::qs=>by
  have e:min (p::ps).length (q::qs).length=min ps.length qs.length+1:=by simp only [AU];lia
  rw [e,List.range_succ_eq_map,List.all_cons,List.all_map]
  have h0:eAt (p::ps) (q::qs) 0=PyData.eqv p q:=rfl
  have h1:(eAt (p::ps) (q::qs)∘Nat.succ)=eAt ps qs:=by funext j;simp [eAt,Function.comp]
  rw [h0,h1]
  simp only [PyData.eqvAll,D3 ps qs,AU,Bool.and_assoc]
  have e2:(ps.length+1==qs.length+1)=(ps.length==qs.length):=by
   rw [Bool.eq_iff_iff];simp
  rw [e2]
section
variable {X:Cx}{pins:List (AB×Obj)}{σ:L2.St}{H:Hp}{s:AC}
structure a7w(A:AI)(s:AC)(u w:AA)(b:Bool):Prop where
 rc:SeqAt.RcAt A s u w b
 ne:SeqAt.RcNeAt A s u w (!b)
 eq:SeqAt.EqAt A s u w b
theorem a6T(A:AI):A.in1.units=A.units+1:=rfl
theorem a6B{xs:List V}{its:List AA}{j:Nat}(r:g6 xs its)(h:j<its.length):∃x,xs[j]?=some x/\i6 x its[j]:=by
 have hx:j<xs.length:=by rw [r.length];exact h
 obtain⟨u,h1,h2⟩:=r.get (i:=j) (x:=xs[j]) (by simp [hx])
 rw [Au h] at h1
 cases h1
 exact⟨xs[j],by simp [hx],h2⟩
theorem a5k{A:AI}{ps qs:List PV}{xs ys:List V}{its its2:List AA}(r:f9 X.K H ps xs)(r':f9 X.K H qs ys)(rv:g6 xs its)(rv':g6 ys its2)
 (ih:∀p q x y u w,p∈ps->q∈qs->r9 X.K H p x->r9 X.K H q y->i6 x u->i6 y w->a7w A s u w (PyData.eqv p q)):
 ∀j (h1:j<its.toArray.size) (h2:j<its2.toArray.size),SeqAt.EqAt A s its.toArray[j] its2.toArray[j] (eAt ps qs j):=by
 intro j h1 h2
 have h1':j<its.length:=by simpa using h1
 have h2':j<its2.length:=by simpa using h2
 obtain⟨x,ex,rx⟩:=a6B rv h1'
 obtain⟨y,ey,ry⟩:=a6B rv' h2'
 obtain⟨p,ep,hp⟩:=r.getV ex
 obtain⟨q,eq,hq⟩:=r'.getV ey
 have:eAt ps qs j=PyData.eqv p q:=by simp [eAt,ep,eq]
 rw [this]
 have z:=(ih p q x y _ _ (Aq ep) (Aq eq) hp hq rx ry).eq
 simpa using z
theorem K8:∀{ps:List PV} {n:Nat} {p:PV},D2 ps n=true->p∈ps->j8 p n=true
 |[],_,_,_,h=>by cases h
 |x::xs,n,p,h,hp=>by
  have h':j8 x n=true/\D2 xs n=true:=by simpa [D2] using h
  rcases Ai.mp hp with rfl|hp
  ·exact h'.1
  ·exact K8 h'.2 hp
theorem a7T(I:g4 X pins σ H s):∀(n:Nat) (A:AI) (p q:PV) (x y:V) (u w:AA),A.units+n<cLine->j8 p n=true->j8 q n=true->r9 X.K H p x->r9 X.K H q y->i6 x u->i6 y w->a7w A s u w (PyData.eqv p q):=by
 intro n
 induction n with
 |zero=>
  intro A p q x y u w hu hp hq rp rq rx ry
  cases p with
  |none=>
   cases rp;cases rx
   cases q with
   |none=>cases rq;cases ry;simp only [PyData.eqv];exact⟨.none_none,.none_none,.same _⟩
   |bool j=>cases rq;cases ry;simp only [PyData.eqv];exact⟨.none_bool _,.none_bool _,.none_bool _⟩
   |int j=>cases rq;obtain⟨ty,rfl⟩:=ry;simp only [PyData.eqv];exact⟨.none_int _ _,.none_int _ _,.none_int _ _⟩
   |str j=>cases rq;obtain⟨ty,rfl⟩:=ry;simp only [PyData.eqv];exact⟨.none_str _ _,.none_str _ _,.none_str _ _⟩
   |dict _=>simp [j8] at hq
   |list _=>simp [j8] at hq
   |tuple _=>simp [j8] at hq
  |bool i=>
   cases rp;cases rx
   cases q with
   |none=>cases rq;cases ry;simp only [PyData.eqv];exact⟨.bool_none _,.bool_none _,.bool_none _⟩
   |bool j=>cases rq;cases ry;simp only [PyData.eqv];exact⟨.bool_bool _ _,.bool_bool _ _,.bool_bool _ _⟩
   |int j=>cases rq;obtain⟨ty,rfl⟩:=ry;simp only [PyData.eqv];exact⟨.bool_int _ _ _,.bool_int _ _ _,.bool_int _ _ _⟩
   |str j=>cases rq;obtain⟨ty,rfl⟩:=ry;simp only [PyData.eqv];exact⟨.bool_str _ _ _,.bool_str _ _ _,.bool_str _ _ _⟩
   |dict _=>simp [j8] at hq
   |list _=>simp [j8] at hq
   |tuple _=>simp [j8] at hq
  |int i=>
   cases rp;obtain⟨tx,rfl⟩:=rx
   cases q with
   |none=>cases rq;cases ry;simp only [PyData.eqv];exact⟨.int_none _ _,.int_none _ _,.int_none _ _⟩
   |bool j=>cases rq;cases ry;simp only [PyData.eqv];exact⟨.int_bool _ _ _,.int_bool _ _ _,.int_bool _ _ _⟩
   |int j=>cases rq;obtain⟨ty,rfl⟩:=ry;simp only [PyData.eqv];exact⟨.int_int _ _ _ _,.int_int _ _ _ _,.int_int _ _ _ _⟩
   |str j=>cases rq;obtain⟨ty,rfl⟩:=ry;simp only [PyData.eqv];exact⟨.int_str _ _ _ _,.int_str _ _ _ _,.int_str _ _ _ _⟩
   |dict _=>simp [j8] at hq
   |list _=>simp [j8] at hq
   |tuple _=>simp [j8] at hq
  |str i=>
   cases rp;obtain⟨tx,rfl⟩:=rx
   cases q with
   |none=>cases rq;cases ry;simp only [PyData.eqv];exact⟨.str_none _ _,.str_none _ _,.str_none _ _⟩
   |bool j=>cases rq;cases ry;simp only [PyData.eqv];exact⟨.str_bool _ _ _,.str_bool _ _ _,.str_bool _ _ _⟩
   |int j=>cases rq;obtain⟨ty,rfl⟩:=ry;simp only [PyData.eqv];exact⟨.str_int _ _ _ _,.str_int _ _ _ _,.str_int _ _ _ _⟩
   |str j=>cases rq;obtain⟨ty,rfl⟩:=ry;simp only [PyData.eqv];exact⟨.str_str _ _ _ _,.str_str _ _ _ _,.str_str _ _ _ _⟩
   |dict _=>simp [j8] at hq
   |list _=>simp [j8] at hq
   |tuple _=>simp [j8] at hq
  |dict _=>simp [j8] at hp
  |list _=>simp [j8] at hp
  |tuple _=>simp [j8] at hp
 |succ n ih=>
  intro A p q x y u w hu hp hq rp rq rx ry
  have hu0:A.units<cLine:=by lia
  have hu1:A.in1.units+n<cLine:=by rw [a6T];lia
  cases p with
  |dict _=>simp [j8] at hp
  |list ps=>
   obtain⟨a,xs,rfl,hs,r⟩:=rp
   cases rx
   obtain⟨its,rv,pl,hz⟩:=I.list hs
   have okp:D2 ps n=true:=by simpa [j8] using hp
   cases q with
   |dict _=>simp [j8] at hq
   |list qs=>
    obtain⟨b,ys,rfl,hs',r'⟩:=rq
    cases ry
    obtain⟨its2,rv',pl',hz'⟩:=I.list hs'
    have okq:D2 qs n=true:=by simpa [j8] using hq
    have hle:its.toArray.size=ps.length:=by rw [<-r.length,rv.length];simp
    have hle':its2.toArray.size=qs.length:=by rw [<-r'.length,rv'.length];simp
    have he:=a5k (A:=A.in1) (s:=s) r r' rv rv' fun p q x y u w hp' hq' rp' rq' rx' ry'=>ih A.in1 p q x y u w hu1 (K8 okp hp') (K8 okq hq') rp' rq' rx' ry'
    simp only [PyData.eqv]
    have main:SeqAt.RcAt A s (.ref a) (.ref b) (PyData.eqvAll ps qs)/\SeqAt.RcNeAt A s (.ref a) (.ref b) (!PyData.eqvAll ps qs):=by
     by_cases e:its.toArray.size=its2.toArray.size
     ·have el:ps.length=qs.length:=by rw [<-hle,<-hle',e]
      have e3:PyData.eqvAll ps qs=(Az its.toArray.size).all (eAt ps qs):=by
       rw [D3,el,Nat.min_self,hle,el];simp
      rw [e3]
      exact⟨.lists pl.isList pl'.isList e hu0 he,.lists pl.isList pl'.isList e hu0 he⟩
     ·have e3:PyData.eqvAll ps qs=false:=by
       rw [D3]
       have:(ps.length==qs.length)=false:=by
        rw [beq_eq_false_iff_ne];intro z;exact e (by rw [hle,hle',z])
       rw [this,Bool.and_false]
      have e4:(its.toArray.size !=its2.toArray.size)=true:=by simpa using e
      rw [e3]
      exact⟨.lists_lengths pl.isList pl'.isList e4 hu0,.lists_lengths pl.isList pl'.isList e4 hu0⟩
    refine⟨main.1,main.2, ?_⟩
    by_cases hab:a=b
    ·subst hab
     cases I.list_inj hs hs'
     cases f9.inj I ps qs r r'
     rw [K9 ps n okp]
     exact .same _
    ·exact .of_refs hab main.1
   |tuple qs=>
    obtain⟨b,ys,rfl,hs',r'⟩:=rq
    cases ry
    obtain⟨its2,rv',pl',hz'⟩:=I.tuple hs'.sq
    simp only [PyData.eqv]
    exact⟨.list_tuple pl.isList pl' hu0,.list_tuple pl.isList pl' hu0,.list_tuple pl.isList pl' hu0⟩
   |none=>cases rq;cases ry;simp only [PyData.eqv];exact⟨.list_none pl.isList hu0,.list_none pl.isList hu0,.list_none pl.isList hu0⟩
   |bool k=>cases rq;cases ry;simp only [PyData.eqv];exact⟨.list_bool _ pl.isList hu0,.list_bool _ pl.isList hu0,.list_bool _ pl.isList hu0⟩
   |int k=>cases rq;obtain⟨t,rfl⟩:=ry;simp only [PyData.eqv];exact⟨.list_int _ _ pl.isList hu0,.list_int _ _ pl.isList hu0,.list_int _ _ pl.isList hu0⟩
   |str k=>cases rq;obtain⟨t,rfl⟩:=ry;simp only [PyData.eqv];exact⟨.list_str _ _ pl.isList hu0,.list_str _ _ pl.isList hu0,.list_str _ _ pl.isList hu0⟩
  |tuple ps=>
   obtain⟨a,xs,rfl,hs,r⟩:=rp
   cases rx
   obtain⟨its,rv,pl,hz⟩:=I.tuple hs.sq
   have okp:D2 ps n=true:=by simpa [j8] using hp
   cases q with
   |dict _=>simp [j8] at hq
   |tuple qs=>
    obtain⟨b,ys,rfl,hs',r'⟩:=rq
    cases ry
    obtain⟨its2,rv',pl',hz'⟩:=I.tuple hs'.sq
    have okq:D2 qs n=true:=by simpa [j8] using hq
    have hle:its.toArray.size=ps.length:=by rw [<-r.length,rv.length];simp
    have hle':its2.toArray.size=qs.length:=by rw [<-r'.length,rv'.length];simp
    have he:=a5k (A:=A.in1) (s:=s) r r' rv rv' fun p q x y u w hp' hq' rp' rq' rx' ry'=>ih A.in1 p q x y u w hu1 (K8 okp hp') (K8 okq hq') rp' rq' rx' ry'
    simp only [PyData.eqv]
    have e3:PyData.eqvAll ps qs=((Az (min its.toArray.size its2.toArray.size)).all (eAt ps qs)&& its.toArray.size==its2.toArray.size):=by
     rw [D3,hle,hle']
    have main:SeqAt.RcAt A s (.ref a) (.ref b) (PyData.eqvAll ps qs)/\SeqAt.RcNeAt A s (.ref a) (.ref b) (!PyData.eqvAll ps qs):=by
     rw [e3]
     exact⟨.tuples pl pl' hu0 he,.tuples pl pl' hu0 he⟩
    refine⟨main.1,main.2, ?_⟩
    by_cases hab:a=b
    ·subst hab
     cases I.tuple_inj hs.sq hs'.sq
     cases f9.inj I ps qs r r'
     rw [K9 ps n okp]
     exact .same _
    ·exact .of_refs hab main.1
   |list qs=>
    obtain⟨b,ys,rfl,hs',r'⟩:=rq
    cases ry
    obtain⟨its2,rv',pl',hz'⟩:=I.list hs'
    simp only [PyData.eqv]
    exact⟨.tuple_list pl pl'.isList hu0,.tuple_list pl pl'.isList hu0,.tuple_list pl pl'.isList hu0⟩
   |none=>cases rq;cases ry;simp only [PyData.eqv];exact⟨.tuple_none pl hu0,.tuple_none pl hu0,.tuple_none pl hu0⟩
   |bool k=>cases rq;cases ry;simp only [PyData.eqv];exact⟨.tuple_bool _ pl hu0,.tuple_bool _ pl hu0,.tuple_bool _ pl hu0⟩
   |int k=>cases rq;obtain⟨t,rfl⟩:=ry;simp only [PyData.eqv];exact⟨.tuple_int _ _ pl hu0,.tuple_int _ _ pl hu0,.tuple_int _ _ pl hu0⟩
   |str k=>cases rq;obtain⟨t,rfl⟩:=ry;simp only [PyData.eqv];exact⟨.tuple_str _ _ pl hu0,.tuple_str _ _ pl hu0,.tuple_str _ _ pl hu0⟩
  |none=>
   cases q with
   |list qs=>
    obtain⟨b,ys,rfl,hs',r'⟩:=rq;cases ry;obtain⟨its2,rv',pl',hz'⟩:=I.list hs';cases rp;cases rx;simp only [PyData.eqv]
    exact⟨.none_list pl'.isList hu0,.none_list pl'.isList hu0,.none_list pl'.isList hu0⟩
   |tuple qs=>
    obtain⟨b,ys,rfl,hs',r'⟩:=rq;cases ry;obtain⟨its2,rv',pl',hz'⟩:=I.tuple hs'.sq;cases rp;cases rx;simp only [PyData.eqv]
    exact⟨.none_tuple pl' hu0,.none_tuple pl' hu0,.none_tuple pl' hu0⟩
   |dict _=>simp [j8] at hq
   |_=>exact ih A _ _ x y u w (by lia) (by simp [j8]) (by simp [j8]) rp rq rx ry
  |bool k=>
   cases q with
   |list qs=>
    obtain⟨b,ys,rfl,hs',r'⟩:=rq;cases ry;obtain⟨its2,rv',pl',hz'⟩:=I.list hs';cases rp;cases rx;simp only [PyData.eqv]
    exact⟨.bool_list _ pl'.isList hu0,.bool_list _ pl'.isList hu0,.bool_list _ pl'.isList hu0⟩
   |tuple qs=>
    obtain⟨b,ys,rfl,hs',r'⟩:=rq;cases ry;obtain⟨its2,rv',pl',hz'⟩:=I.tuple hs'.sq;cases rp;cases rx;simp only [PyData.eqv]
    exact⟨.bool_tuple _ pl' hu0,.bool_tuple _ pl' hu0,.bool_tuple _ pl' hu0⟩
   |dict _=>simp [j8] at hq
   |_=>exact ih A _ _ x y u w (by lia) (by simp [j8]) (by simp [j8]) rp rq rx ry
  |int k=>
   cases q with
   |list qs=>
    obtain⟨b,ys,rfl,hs',r'⟩:=rq;cases ry;obtain⟨its2,rv',pl',hz'⟩:=I.list hs';cases rp;obtain⟨t,rfl⟩:=rx;simp only [PyData.eqv]
    exact⟨.int_list _ _ pl'.isList hu0,.int_list _ _ pl'.isList hu0,.int_list _ _ pl'.isList hu0⟩
   |tuple qs=>
    obtain⟨b,ys,rfl,hs',r'⟩:=rq;cases ry;obtain⟨its2,rv',pl',hz'⟩:=I.tuple hs'.sq;cases rp;obtain⟨t,rfl⟩:=rx;simp only [PyData.eqv]
    exact⟨.int_tuple _ _ pl' hu0,.int_tuple _ _ pl' hu0,.int_tuple _ _ pl' hu0⟩
   |dict _=>simp [j8] at hq
   |_=>exact ih A _ _ x y u w (by lia) (by simp [j8]) (by simp [j8]) rp rq rx ry
  |str k=>
   cases q with
   |list qs=>
    obtain⟨b,ys,rfl,hs',r'⟩:=rq;cases ry;obtain⟨its2,rv',pl',hz'⟩:=I.list hs';cases rp;obtain⟨t,rfl⟩:=rx;simp only [PyData.eqv]
    exact⟨.str_list _ _ pl'.isList hu0,.str_list _ _ pl'.isList hu0,.str_list _ _ pl'.isList hu0⟩
   |tuple qs=>
    obtain⟨b,ys,rfl,hs',r'⟩:=rq;cases ry;obtain⟨its2,rv',pl',hz'⟩:=I.tuple hs'.sq;cases rp;obtain⟨t,rfl⟩:=rx;simp only [PyData.eqv]
    exact⟨.str_tuple _ _ pl' hu0,.str_tuple _ _ pl' hu0,.str_tuple _ _ pl' hu0⟩
   |dict _=>simp [j8] at hq
   |_=>exact ih A _ _ x y u w (by lia) (by simp [j8]) (by simp [j8]) rp rq rx ry
end
end PU
set_option maxHeartbeats 1000000
namespace PU
open PySem PySem.Spec PyProof.Rows L2
instance:DecidableRel (fun(i j:Int)=>a3x i j):=fun i j=>by unfold a3x;infer_instance
instance (i j:Int):Decidable (a3x i j):=by unfold a3x;infer_instance
instance (i j:Int):Decidable (a5q i j):=by unfold a5q;infer_instance
instance (i j:Int):Decidable (b2S i j):=by unfold b2S;infer_instance
def c6.mine:c6->Option (List PV)
 | .ow (.lst ps)=>some ps
 | .bo (.lst ps)=>some ps
 |_=>none
theorem a2e{K:AD}{F H:Hp}{v:V}{r:c6}{ps:List PV}(h:G8 K F H v r)(e:r.mine=some ps):∃a xs,v= .ref a/\F a=none/\H a=some (.lst xs)/\f9 K F ps xs:=by
 cases r with
 |val _=>cases e
 |ow c=>cases c<;>cases e;exact h
 |bo c=>cases c<;>cases e;exact h
def U1(x y:c6):Option c6:=match x,y with
 | .val (.int i),.val (.int j)=>some (.val (.int (i+j)))
 | .val (.str i),.val (.str j)=>if i.length+j.length<=AL then some (.val (.str (i++j))) else none
 | .val (.tuple ps),.val (.tuple qs)=>if(ps.length≠0/\qs.length≠0)/\ps.length+qs.length<=AL then some (.val (.tuple (ps++qs))) else none
 |x,y=>match x.mine,y.mine with
  |some ps,some qs=>if ps.length+qs.length<=AL then some (.own (ps++qs)) else none
  |_,_=>none
section
variable {X:Cx}
theorem w6:OpM X (binaryOp .Add) U1:=by
 intro pins s σ H x y v u Q I rx ry h
 obtain⟨F,ra,rb,rz,s0,h1,h2,h3,k⟩:=h
 unfold U1 at h3
 split at h3
 ·cases h3
  cases h1;cases h2
  exact b18 pins s σ H _ _ v u Q I rx ry ⟨_,_,rfl,rfl,k _ F H (o9.here s0 rfl)⟩
 ·rename_i i j
  split at h3
  ·rename_i c
   cases h3
   cases h1;cases h2
   exact a5X pins s σ H _ _ v u Q I rx ry ⟨i,j,rfl,rfl,c,k _ F H (o9.here s0 rfl)⟩
  ·cases h3
 ·rename_i ps qs
  split at h3
  ·rename_i c
   cases h3
   obtain⟨a,xs,rfl,hq,r⟩:=h1
   obtain⟨b,ys,rfl,hq',r'⟩:=h2
   refine b0n pins s σ H _ _ v u Q I rx ry ⟨a,b,xs,ys,rfl,rfl,k9 s0 hq.sq,k9 s0 hq'.sq, ?_,by rw [r.length,r'.length];exact c.2, ?_⟩
   ·intro z
    subst z
    exact c.1.1 r.length.symm
   ·refine⟨fun z=> ?_,fun _ p hp=>k _ _ _ (o9.tup s0 hp (r.append r'))⟩
    subst z
    exact absurd r'.length.symm c.1.2
  ·cases h3
 ·split at h3
  ·rename_i ps qs e1 e2
   split at h3
   ·rename_i c
    cases h3
    obtain⟨a,xs,rfl,_,hq,r⟩:=a2e h1 e1
    obtain⟨b,ys,rfl,_,hq',r'⟩:=a2e h2 e2
    refine b19 pins s σ H _ _ v u Q I rx ry ⟨a,b,xs,ys,rfl,rfl,hq,hq',by rw [r.length,r'.length];exact c,fun p hp=> ?_⟩
    exact k _ _ _ (o9.lst s0 hp (r.append r'))
   ·cases h3
  ·cases h3
theorem b0r:OpM X (binaryOp .Mult) (gIc a3x fun i j=> .int (i*j)):=a5Y b2b fun _ _ _=>rfl
theorem x9:OpM X (binaryOp .Mod) (gIc (fun _ j=>0<j) fun i j=> .int (i % j)):=a5Y b2a fun _ _ _=>rfl
theorem a47:OpM X (binaryOp .FloorDiv) (gIc a5q fun i j=> .int (i / j)):=a5Y b0o fun _ _ _=>rfl
theorem b2d:OpM X (compareOp .Gt) (gI fun i j=> .bool (decide (j<i))):=b06 b3f fun _ _ _=>rfl
def gEq(x y:c6):Option c6:=if j8 x.rd 50=true/\j8 y.rd 50=true then some (.val (.bool (PyData.eqv x.rd y.rd))) else none
def gNe(x y:c6):Option c6:=if j8 x.rd 50=true/\j8 y.rd 50=true then some (.val (.bool (!PyData.eqv x.rd y.rd))) else none
theorem a8K(hu:X.A.units+64<cLine):OpM X (compareOp .Eq) gEq:=by
 intro pins s σ H x y v u Q I rx ry h
 obtain⟨F,ra,rb,rz,s0,h1,h2,h3,k⟩:=h
 unfold gEq at h3
 split at h3
 ·rename_i c
  cases h3
  have z:=a7T I 50 X.A _ _ x y v u (by lia) c.1 c.2 (h1.rd s0) (h2.rd s0) rx ry
  exact z.rc _ _ _ _ ⟨.bl _,H,I,rfl,k _ F H (o9.here s0 rfl)⟩
 ·cases h3
theorem a38(hu:X.A.units+64<cLine):OpM X (compareOp .NotEq) gNe:=by
 intro pins s σ H x y v u Q I rx ry h
 obtain⟨F,ra,rb,rz,s0,h1,h2,h3,k⟩:=h
 unfold gNe at h3
 split at h3
 ·rename_i c
  cases h3
  have z:=a7T I 50 X.A _ _ x y v u (by lia) c.1 c.2 (h1.rd s0) (h2.rd s0) rx ry
  exact z.ne _ _ _ _ ⟨.bl _,H,I,rfl,k _ F H (o9.here s0 rfl)⟩
 ·cases h3
def PyData.items?:PV->Option (List PV)
 | .list ps=>some ps
 | .tuple ps=>some ps
 |_=>none
theorem L5{F H:Hp}{v:V}{r:c6}{ps:List PV}(s0:f6 F H)(h:G8 X.K F H v r)(e:PyData.items? r.rd=some ps):∃a xs,v= .ref a/\(H9 X.K H a xs\/M5 X.K H a xs)/\f9 X.K F ps xs:=by
 cases r with
 |val p=>
  cases p with
  |list qs=>cases e;obtain⟨a,xs,rfl,hq,r⟩:=h;exact⟨a,xs,rfl,.inl (v7 s0 hq),r⟩
  |tuple qs=>cases e;obtain⟨a,xs,rfl,hq,r⟩:=h;exact⟨a,xs,rfl,.inr (k9 s0 hq.sq),r⟩
  |_=>cases e
 |ow c=>cases c<;>cases e;obtain⟨a,xs,rfl,_,hq,r⟩:=h;exact⟨a,xs,rfl,.inl (H9.of hq),r⟩
 |bo c=>cases c<;>cases e;obtain⟨a,xs,rfl,_,hq,r⟩:=h;exact⟨a,xs,rfl,.inl (H9.of hq),r⟩
def PyData.isNone:PV->Bool
 | .none=>true
 |_=>false
def a2R(m:M):M:=fun ρ=>(m ρ).bind fun r=>match r with
 | .val (.int i)=>some (.val (.int (-i)))
 |_=>none
theorem Q1{a:AE}{ma:M}{pos:Pos}(ha:EE X a ma):EE X (.UnaryOp .USub a pos) (a2R ma):=
 p8 (b3l b2F ha) fun σ H Q ⟨F,ρ,r,he,hm,k⟩=>by
  obtain⟨rx,e1,hm⟩:=bind_some hm
  refine⟨F,ρ,rx,he,e1,fun v F1 H1 o1=> ?_⟩
  split at hm
  ·cases hm
   exact⟨_,o1.rep,k _ F1 H1 (o9.trans o1.x (o9.here o1.x.fh rfl))⟩
  ·cases hm
def B1(x y:c6):Option c6:=match y with
 | .val (.int i)=>(match x.rd with
   | .str z=>if z.length<=AL then(atI z.cps.toList i).map fun c=> .val (.str ⟨#[c]⟩) else none
   |p=>match PyData.items? p with
    |some ps=>(atI ps i).map .val
    |none=>none)
 |_=>none
theorem f9.atI{K:AD}{H:Hp}{ps:List PV}{xs:List V}{i:Int}{p:PV}(r:f9 K H ps xs)(e:L2.atI ps i=some p):∃v,L2.atI xs i=some v/\r9 K H p v:=by
 unfold L2.atI at e ⊢
 rw [r.length]
 obtain⟨j,e1,e2⟩:=bind_some e
 rw [e1]
 exact r.get e2
theorem ixm:IxR X (rM2 X.K B1):=by
 intro value slice pins s σ H x y v u Q I rx ry h hs
 obtain⟨F,ra,rb,rz,s0,h1,h2,h3,k⟩:=h
 unfold B1 at h3
 split at h3
 ·rename_i i
  cases h2
  split at h3
  ·rename_i z ez
   split at h3
   ·rename_i c
    have rr:=h1.rd s0
    rw [ez] at rr
    cases rr
    cases ea:L2.atI z.cps.toList i with
    |none=>rw [ea] at h3;cases h3
    |some ch=>
     rw [ea] at h3;cases h3
     exact b1N value slice pins s σ H _ _ v u Q I rx ry ⟨z,i,ch,rfl,rfl,c,ea,k _ F H (o9.here s0 rfl)⟩ hs
   ·cases h3
  ·split at h3
   ·rename_i ps e
    cases ea:L2.atI ps i with
    |none=>rw [ea] at h3;cases h3
    |some p=>
     rw [ea] at h3;cases h3
     obtain⟨a,xs,rfl,hq,r⟩:=L5 s0 h1 e
     obtain⟨z,ez,rp⟩:=r.atI ea
     rcases hq with hq|hq
     ·exact a99 value slice pins s σ H _ _ v u Q I rx ry ⟨a,xs,i,z,rfl,rfl,hq,ez,k _ F H (o9.here s0 rp)⟩ hs
     ·exact b1O value slice pins s σ H _ _ v u Q I rx ry ⟨a,xs,i,z,rfl,rfl,hq,ez,k _ F H (o9.here s0 rp)⟩ hs
   ·cases h3
 ·cases h3
theorem j7{a b:AE}{ma mb:M}{pos:Pos}(ha:EE X a ma)(hb:EE X b mb)(hs:a56 b:=by intro _ _;rfl):EE X (.Subscript a b pos) (m2 B1 ma mb):=
 p8 (b3j ixm ha hb hs) fun _ _ _ h=>a4l h
abbrev MA:=a8->Option (List PV)
def tMA(K:AD)(m:MA):TA:=fun σ H Q=>∃F ρ ps,p9 K F H σ ρ/\m ρ=some ps/\∀vs F' H',G6 F H F' H'->f9 K F' ps vs->Q vs H'
abbrev EA(X:Cx)(es:List AE)(m:MA):Prop:=PA X es (tMA X.K m)
def c7:MA:=fun _=>some []
def a5(m:M)(r:MA):MA:=fun ρ=>((m ρ).bind c6.toVal).bind fun p=>(r ρ).bind fun ps=>some (p::ps)
theorem b9:EA X [] c7:=a8P R6 fun σ H Q ⟨F,ρ,ps,he,hm,k⟩=>by
 cases hm
 exact k [] F H (G6.refl he.fh) rfl
theorem a4{e:AE}{es:List AE}{m:M}{r:MA}(ha:EE X e m)(hr:EA X es r)(hs:AN (e::es) X.env=(false,eval e X.env)::AN es X.env:=by rfl):EA X (e::es) (a5 m r):=
 a8P (A8 ha hr hs) fun σ H Q ⟨F,ρ,ps,he,hm,k⟩=>by
  obtain⟨p,e1,hm⟩:=bind_some hm
  obtain⟨r1,e1,e2⟩:=bind_some e1
  obtain⟨qs,e3,hm⟩:=bind_some hm
  cases hm
  refine⟨F,ρ,r1,he,e1,fun v F1 H1 o1=> ?_⟩
  obtain⟨F2,o2⟩:=o1.toVal e2
  exact⟨F2,ρ,qs,he.ext o2.x,e3,fun vs F3 H3 x3 rl=>k _ F3 H3 (o2.x.trans x3) ⟨v,vs,rfl,r9.mono x3.f _ o2.rep,rl⟩⟩
def B2(m:MA):M:=fun ρ=>(m ρ).bind fun ps=>if ps.length<=AL then some (.val (.tuple ps)) else none
def W6(m:MA):M:=fun ρ=>(m ρ).bind fun ps=>if ps.length<=AL then some (.own ps) else none
theorem k7{es:List AE}{m:MA}{x1:Nat}{pos:Pos}(h:EA X es m):EE X (.Tuple es x1 pos) (B2 m):=
 p8 (a8S h) fun σ H Q ⟨F,ρ,r,he,hm,k⟩=>by
  obtain⟨ps,e1,hm⟩:=bind_some hm
  split at hm
  ·rename_i c
   cases hm
   exact⟨F,ρ,ps,he,e1,fun vs F1 H1 x rl=>⟨by rw [rl.length];exact c,fun p hp=>k _ _ _ (o9.trans x (o9.tup x.fh hp rl))⟩⟩
  ·cases hm
theorem B4{es:List AE}{m:MA}{pos:Pos}(h:EA X es m):EE X (.List es pos) (W6 m):=
 p8 (b2h h) fun σ H Q ⟨F,ρ,r,he,hm,k⟩=>by
  obtain⟨ps,e1,hm⟩:=bind_some hm
  split at hm
  ·rename_i c
   cases hm
   exact⟨F,ρ,ps,he,e1,fun vs F1 H1 x rl=>⟨by rw [rl.length];exact c,fun p hp=>k _ _ _ (o9.trans x (o9.lst x.fh hp rl))⟩⟩
  ·cases hm
def spP(K:AD)(n:Nat)(g:List PV->Option c6):Sp:=fun vs H Q _=>∃F ps r,f6 F H/\f9 K F ps vs/\ps.length=n/\g ps=some r/\∀v F' H',o9 K F H F' H' v r->Q v H'
def j6(g:List PV->Option c6)(m:MA):M:=fun ρ=>(m ρ).bind g
theorem a9M{k n:Nat}{f:AB}{fd:FuncData}{ps:List Str}{g:List PV->Option c6}{x:Str}{p pos:Pos}{e:AE}{es:List AE}{m:MA}
 (G:E2 X.prog X.w X.K X.mg X.base CX0 k f fd ps (spP X.K n g)) (hr:A0 k X.A) (hg:Gl X x) (hm:X.mg x=some (.ref f)) (hk:PySem.W.keepIn X.K (.ref f)=true) (hb:X6 X.K fd ps []) (hn:∀ρ ps,m ρ=some ps->ps.length=n) (ha:EA X (e::es) m)
 (hdb:(x==("__debug__":Str))=false:=by decide) (he:AN (e::es) X.env=(false,eval e X.env)::AN es X.env:=by rfl) (hpl:(backTo pos (AN es X.env)).any (·.1)=false:=by rfl):
 EE X (.Call (.Name x p) (e::es) [] pos) (j6 g m):=
 p8 (a39 G hr hg hm hk hb .nil a8Q ha hdb he hpl) fun σ H Q ⟨F,ρ,r,he,hm,k⟩=>by
  obtain⟨qs,e1,hm⟩:=bind_some hm
  refine⟨F,ρ,qs,he,e1,fun vs F1 H1 x rl=> ?_⟩
  show spP X.K n g (vs++[]) H1 Q E0
  rw [AZ]
  exact⟨F1,qs,r,x.fh,rl,hn _ _ e1,hm,fun v F2 H2 o=>k v F2 H2 (o9.trans x o)⟩
theorem g8:∀ρ ps,c7 ρ=some ps->ps.length=0:=fun _ _ h=>by cases h;rfl
theorem a7{m:M}{r:MA}{n:Nat}(h:∀ρ ps,r ρ=some ps->ps.length=n):∀ρ ps,a5 m r ρ=some ps->ps.length=n+1:=fun ρ ps e=>by
 obtain⟨p,e1,e⟩:=bind_some e
 obtain⟨qs,e3,e⟩:=bind_some e
 cases e
 rw [AU,h ρ qs e3]
end
mutual
def U0(K:AD):Nat->AA->Option PV
 |0,_=>none
 |_+1,.none=>some .none
 |_+1,.bool b=>some (.bool b)
 |_+1,.int i _=>some (.int i)
 |_+1,.str x _=>some (.str x)
 |n+1,.ref a=>match K.lookup a with
  |some ⟨.type "tuple",_,.seq its _,_⟩=>if its.size<=1000 then(Y0 K n its.toList).map .tuple else none
  |some ⟨.type "list",none,.seq its _,_⟩=>if its.size<=1000 then(Y0 K n its.toList).map .list else none
  |_=>none
 |_+1,_=>none
def Y0(K:AD):Nat->List AA->Option (List PV)
 |0,_=>none
 |_+1,[]=>some []
 |n+1,u::us=>(U0 K n u).bind fun p=>(Y0 K n us).bind fun ps=>some (p::ps)
end
theorem a2F{n:Nat}(h:n<=1000):n<=AL:=BF (a7n h)
theorem a1y(K:AD):∀(n:Nat),(∀(u:AA) (p:PV),U0 K n u=some p->∃v,i6 v u/\∀H,r9 K H p v)/\(∀(us:List AA) (ps:List PV),Y0 K n us=some ps->∃vs,g6 vs us/\∀H,f9 K H ps vs):=by
 intro n
 induction n with
 |zero=>exact⟨fun u p h=>by simp [U0] at h,fun u p h=>by simp [Y0] at h⟩
 |succ n ih=>
  constructor
  ·intro u p h
   cases u with
   |none=>simp only [U0] at h;cases h;exact⟨.non,rfl,fun _=>rfl⟩
   |bool b=>simp only [U0] at h;cases h;exact⟨.bl b,rfl,fun _=>rfl⟩
   |int i t=>simp only [U0] at h;cases h;exact⟨.int i,⟨t,rfl⟩,fun _=>rfl⟩
   |str x t=>simp only [U0] at h;cases h;exact⟨.str x,⟨t,rfl⟩,fun _=>rfl⟩
   |ref a=>
    simp only [U0] at h
    split at h
    ·rename_i d its m sl e
     split at h
     ·rename_i c
      cases q:Y0 K n its.toList with
      |none=>rw [q] at h;cases h
      |some ps=>
       rw [q] at h;cases h
       obtain⟨vs,h1,h2⟩:=ih.2 _ _ q
       exact⟨.ref a,rfl,fun H=>⟨a,vs,rfl,.inr ⟨_,its,m,e,rfl,rfl,a2F c,h1⟩,h2 H⟩⟩
     ·cases h
    ·rename_i its m sl e
     split at h
     ·rename_i c
      cases q:Y0 K n its.toList with
      |none=>rw [q] at h;cases h
      |some ps=>
       rw [q] at h;cases h
       obtain⟨vs,h1,h2⟩:=ih.2 _ _ q
       exact⟨.ref a,rfl,fun H=>⟨a,vs,rfl,.inr ⟨_,its,m,e,rfl,rfl,rfl,a2F c,h1⟩,h2 H⟩⟩
     ·cases h
    ·cases h
   |_=>simp [U0] at h
  ·intro us ps h
   cases us with
   |nil=>simp only [Y0] at h;cases h;exact⟨[],.nil,fun _=>rfl⟩
   |cons u us=>
    simp only [Y0] at h
    obtain⟨p,e1,h⟩:=bind_some h
    obtain⟨qs,e2,h⟩:=bind_some h
    cases h
    obtain⟨v,r1,r2⟩:=ih.1 _ _ e1
    obtain⟨vs,r3,r4⟩:=ih.2 _ _ e2
    exact⟨v::vs,.cons r1 r3,fun H=>⟨v,vs,rfl,r2 H,r4 H⟩⟩
section
variable {X:Cx}
theorem a9P{x:Str}{u:AA}{p:PV}{pos:Pos}{n:Nat}(hg:Gl X x)(hm:X.mg x=some u)(ha:U0 X.K n u=some p)(hd:(x==("__debug__":Str))=false:=by decide):EE X (.Name x pos) (mC p):=by
 obtain⟨v,r,h⟩:=(a1y X.K n).1 u p ha
 exact Q0 (b0u hg hm r hd) h
def a6m:PV->Option c9
 | .int i=>some (.inl i)
 | .str x=>some (.inr x)
 |_=>none
theorem a3c{K:AD}{H:Hp}{p:PV}{k:c9}{v:V}(e:a6m p=some k)(r:r9 K H p v):v=kV k:=by
 cases p with
 |int i=>cases e;cases r;rfl
 |str x=>cases e;cases r;rfl
 |_=>cases e
def a0U:List DictEntry->Option (List (c9×AA))
 |[]=>some []
 |e::es=>match e.key with
  | .int i _=>(a0U es).map fun r=>(.inl i,e.val)::r
  | .str x _=>(a0U es).map fun r=>(.inr x,e.val)::r
  |_=>none
theorem I8{P:AG}{w:AF}:∀{es:List DictEntry} {kvs:List (c9×AA)},a0U es=some kvs->es.map (·.hash)=kvs.map (fun kv=>a6Y w kv.1)->Pairs (g9 P w) es kvs/\∀e∈es,∃k,(g9 P w).is k e.key=true/\e.hash=(g9 P w).hash k
 |[],_,h,_=>by cases h;exact⟨.nil,fun _ h=>nomatch h⟩
 |e::es,kvs,h,hh=>by
  simp only [a0U] at h
  split at h
  ·rename_i i t ek
   cases q:a0U es with
   |none=>rw [q] at h;cases h
   |some r=>
    rw [q] at h;cases h
    simp only [AM,List.cons.injEq] at hh
    obtain⟨h1,h2⟩:=I8 q hh.2
    have hi:(g9 P w).is (.inl i) e.key=true:=by rw [ek];exact R4 P w i t
    exact⟨.cons hi rfl h1,fun e' he=>(Ai.mp he).elim (fun z=>by subst z;exact⟨_,hi,hh.1⟩) (h2 e')⟩
  ·rename_i x t ek
   cases q:a0U es with
   |none=>rw [q] at h;cases h
   |some r=>
    rw [q] at h;cases h
    simp only [AM,List.cons.injEq] at hh
    obtain⟨h1,h2⟩:=I8 q hh.2
    have hi:(g9 P w).is (.inr x) e.key=true:=by rw [ek];exact R5 P w x t
    exact⟨.cons hi rfl h1,fun e' he=>(Ai.mp he).elim (fun z=>by subst z;exact⟨_,hi,hh.1⟩) (h2 e')⟩
  ·cases h
def M7{κ:Type}(K:AD)(n:Nat):List (κ×AA)->Option (List (κ×PV))
 |[]=>some []
 |(k,u)::r=>(U0 K n u).bind fun p=>(M7 K n r).bind fun t=>some ((k,p)::t)
def u7{κ:Type}[DecidableEq κ](tbl:List (κ×PV))(k:κ):Option PV:=match tbl with
 |[]=>none
 |(k',p)::r=>if k'=k then some p else u7 r k
theorem a3e{K:AD}{n:Nat}{k:c9}:∀{kvs:List (c9×AA)} {tbl:List (c9×PV)} {p:PV},M7 K n kvs=some tbl->u7 tbl k=some p->∃u,valueAt kvs k=some u/\U0 K n u=some p
 |[],_,_,h,e=>by cases h;cases e
 |(k',u)::r,tbl,p,h,e=>by
  simp only [M7] at h
  obtain⟨q,e1,h⟩:=bind_some h
  obtain⟨t,e2,h⟩:=bind_some h
  cases h
  simp only [u7] at e
  split at e
  ·rename_i c;cases e
   exact⟨u,by simp [valueAt,List.find?_cons,c],e1⟩
  ·rename_i c
   obtain⟨u',h1,h2⟩:=a3e e2 e
   refine⟨u', ?_,h2⟩
   simpa [valueAt,List.find?_cons,c] using h1
structure Tab(P:AG)(w:AF)(K:AD)(a:AB)(tbl:List (c9×PV)):Prop where
 ex:∃es ep kvs n,K.lookup a=some ⟨.type "dict",none,.dict es ep, #[]⟩/\a0U es.toList=some kvs/\es.toList.map (·.hash)=kvs.map (fun kv=>a6Y w kv.1)/\M7 K n kvs=some tbl/\(kvs.map (·.1)).Nodup
def b1X(tbl:List (c9×PV))(m:M):M:=fun ρ=>(m ρ).bind fun r=>(a6m r.rd).bind fun k=>(u7 tbl k).map .val
theorem b1w{x:Str}{a:AB}{tbl:List (c9×PV)}{i:AE}{m:M}{p pos:Pos}(T:Tab X.prog X.w X.K a tbl)(hg:Gl X x)(hm:X.mg x=some (.ref a))(hi:EE X i m)(hd:(x==("__debug__":Str))=false:=by decide)(hs:a4x i:=by intro _ _;rfl):
 EE X (.Subscript (.Name x p) i pos) (b1X tbl m):=by
 intro pins s σ H Q I ⟨F,ρ,r,he,hm',k⟩
 obtain⟨es,ep,kvs,n,l1,l2,l3,l4,l5⟩:=T.ex
 obtain⟨ri,e1,hm'⟩:=bind_some hm'
 obtain⟨ky,e2,hm'⟩:=bind_some hm'
 cases e3:u7 tbl ky with
 |none=>rw [e3] at hm';cases hm'
 |some q=>
  rw [e3] at hm';cases hm'
  obtain⟨u,h1,h2⟩:=a3e l4 e3
  obtain⟨vv,r1,r2⟩:=(a1y X.K n).1 u q h2
  refine a4h PySem.F.slot_dict_getitem.lookup hs (a1j I hg hm ?_ hd)
  refine w9 (hi pins s σ H (fun y H2=>∃F2,G6 F H F2 H2/\y=kV ky) I ⟨F,ρ,ri,he,e1,fun v F1 H1 o1=>⟨F1,o1.x,a3c e2 (o1.rep.rd o1.x.fh)⟩⟩) fun iv s2 ⟨y,H2,I2,ry,F2,x2,ey⟩=> ?_
  subst ey
  have dd:s2.heap.DictOf (g9 X.prog X.w) a kvs:=⟨_,es,ep,I2.kIn a _ l1,⟨rfl,rfl,rfl⟩,rfl,fun e he=>(I8 l2 l3).2 e (by simpa using he),(I8 l2 l3).1,l5⟩
  exact⟨dd.typeIs,wpAny_getItem_of (a3b ry) dd.mapOf h1 ⟨vv,H2,I2.tok _,r1,k vv F2 H2 (o9.val x2 (r2 F2))⟩⟩
def N2:List PV->Option (List c9)
 |[]=>some []
 |p::ps=>(a6m p).bind fun k=>(N2 ps).bind fun ks=>some (k::ks)
theorem N3{K:AD}{H:Hp}:∀{ps:List PV} {ks:List c9} {vs:List V},N2 ps=some ks->f9 K H ps vs->vs=ks.map kV
 |[],_,_,h,r=>by cases h;cases r;rfl
 |p::ps,_,_,h,⟨v,t,e,rp,rl⟩=>by
  obtain⟨k,e1,h⟩:=bind_some h
  obtain⟨ks,e2,h⟩:=bind_some h
  cases h
  subst e
  rw [a3c e1 rp,N3 e2 rl]
  rfl
def k5:List AA->Option (List c9)
 |[]=>some []
 | .int i _::r=>(k5 r).map fun t=> .inl i::t
 | .str x _::r=>(k5 r).map fun t=> .inr x::t
 |_::_=>none
theorem K3{P:AG}{w:AF}:∀{us:List AA} {ks:List c9},k5 us=some ks->PySem.ItemsAre (g9 P w) ks us
 |[],_,h=>by cases h;exact .nil
 | .int i t::r,_,h=>by
   simp only [k5] at h
   cases q:k5 r with
   |none=>rw [q] at h;cases h
   |some ks=>rw [q] at h;cases h;exact .cons (R4 P w i t) (K3 q)
 | .str i t::r,_,h=>by
   simp only [k5] at h
   cases q:k5 r with
   |none=>rw [q] at h;cases h
   |some ks=>rw [q] at h;cases h;exact .cons (R5 P w i t) (K3 q)
 | .none::_,_,h=>by simp [k5] at h
 | .bool _::_,_,h=>by simp [k5] at h
 | .ref _::_,_,h=>by simp [k5] at h
 | .type _::_,_,h=>by simp [k5] at h
 | .builtin _::_,_,h=>by simp [k5] at h
 | .float _ _::_,_,h=>by simp [k5] at h
 | .bytes _ _::_,_,h=>by simp [k5] at h
 | .notImplemented::_,_,h=>by simp [k5] at h
end
def a4K(K:AD):List DictEntry->Option (List (List c9×AB×AA))
 |[]=>some []
 |e::es=>match e.key with
  | .ref b=>(match K.lookup b with
    |some ⟨.type "tuple",_,.seq its _,_⟩=>(k5 its.toList).bind fun ks=>(a4K K es).bind fun r=>some ((ks,b,e.val)::r)
    |_=>none)
  |_=>none
theorem a24{P:AG}{w:AF}{K:AD}:∀{es:List DictEntry} {xs:List (List c9×AB×AA)},a4K K es=some xs->es.map (·.hash)=xs.map (fun x=>(tupleKind (g9 P w)).hash x.1)->
 es=xs.map (entryOfKey (tupleKind (g9 P w)))/\∀h,K.In h->∀x∈xs,(tupleKind (g9 P w)).is h x.1 x.2.1
 |[],_,h,_=>by cases h;exact⟨rfl,fun _ _ _ h=>nomatch h⟩
 |⟨hs,ky,vl⟩::es,xs,h,hh=>by
  simp only [a4K] at h
  split at h
  ·rename_i b
   split at h
   ·rename_i d its n sl e
    obtain⟨ks,e1,h⟩:=bind_some h
    obtain⟨r,e2,h⟩:=bind_some h
    cases h
    simp only [AM,List.cons.injEq] at hh
    obtain⟨h1,h2⟩:=a24 e2 hh.2
    refine⟨?_,fun hp hk x hx=> ?_⟩
    ·rw [AM,<-h1,hh.1]
     rfl
    ·rcases Ai.mp hx with rfl|hx
     ·exact⟨_,its,n,hk b _ e,rfl,rfl,K3 e1⟩
     ·exact h2 hp hk x hx
   ·cases h
  ·cases h
def E3(K:AD)(n:Nat):List (List c9×AB×AA)->Option (List (List c9×PV))
 |[]=>some []
 |(k,_,u)::r=>(U0 K n u).bind fun p=>(E3 K n r).bind fun t=>some ((k,p)::t)
theorem a15{K:AD}{n:Nat}{k:List c9}:∀{xs:List (List c9×AB×AA)} {tbl:List (List c9×PV)} {p:PV},E3 K n xs=some tbl->u7 tbl k=some p->∃q,atKey xs k=some q/\U0 K n q.2=some p
 |[],_,_,h,e=>by cases h;cases e
 |(k',b,u)::r,tbl,p,h,e=>by
  simp only [E3] at h
  obtain⟨q,e1,h⟩:=bind_some h
  obtain⟨t,e2,h⟩:=bind_some h
  cases h
  simp only [u7] at e
  split at e
  ·rename_i c;cases e
   exact⟨(b,u),by simp [atKey,List.find?_cons,c],e1⟩
  ·rename_i c
   obtain⟨u',h1,h2⟩:=a15 e2 e
   refine⟨u', ?_,h2⟩
   simpa [atKey,List.find?_cons,c] using h1
structure a9D(P:AG)(w:AF)(K:AD)(a:AB)(tbl:List (List c9×PV)):Prop where
 ex:∃es ep xs n,K.lookup a=some ⟨.type "dict",none,.dict es ep, #[]⟩/\a4K K es.toList=some xs/\es.toList.map (·.hash)=xs.map (fun x=>(tupleKind (g9 P w)).hash x.1)/\E3 K n xs=some tbl/\(xs.map (·.1)).Nodup
def a8y(tbl:List (List c9×PV))(m:M):M:=fun ρ=>(m ρ).bind fun r=>match r with
 | .val (.tuple ps)=>(N2 ps).bind fun k=>(u7 tbl k).map .val
 |_=>none
section
variable {X:Cx}
theorem a9Q{x:Str}{a:AB}{tbl:List (List c9×PV)}{i:AE}{m:M}{p pos:Pos}(hu:X.A.units+1<cLine)(T:a9D X.prog X.w X.K a tbl)(hg:Gl X x)(hm:X.mg x=some (.ref a))(hi:EE X i m)(hd:(x==("__debug__":Str))=false:=by decide)(hs:a4x i:=by intro _ _;rfl):
 EE X (.Subscript (.Name x p) i pos) (a8y tbl m):=by
 intro pins s σ H Q I ⟨F,ρ,r,he,hm',k⟩
 obtain⟨es,ep,xs,n,l1,l2,l3,l4,l5⟩:=T.ex
 obtain⟨ri,e1,hm'⟩:=bind_some hm'
 split at hm'
 ·rename_i ps
  obtain⟨ky,e2,hm'⟩:=bind_some hm'
  cases e3:u7 tbl ky with
  |none=>rw [e3] at hm';cases hm'
  |some q=>
   rw [e3] at hm';cases hm'
   obtain⟨u,h1,h2⟩:=a15 l4 e3
   obtain⟨vv,r1,r2⟩:=(a1y X.K n).1 u.2 q h2
   refine a4h PySem.F.slot_dict_getitem.lookup hs (a1j I hg hm ?_ hd)
   refine w9 (hi pins s σ H (fun y H2=>∃F2 b ys,G6 F H F2 H2/\y= .ref b/\M5 X.K H2 b ys/\ys=ky.map kV) I ⟨F,ρ,_,he,e1,fun v F1 H1 o1=> ?_⟩) fun iv s2 ⟨y,H2,I2,ry,F2,b,ys,x2,ey,hq,ek⟩=> ?_
   ·obtain⟨b,ys,eb,hq,rl⟩:=o1.rep
    exact⟨F1,b,ys,o1.x,eb,k9 o1.x.fh hq.sq,N3 e2 rl⟩
   ·subst ey
    subst ek
    cases ry
    obtain⟨h3,h4⟩:=a24 (P:=X.prog) (w:=X.w) l2 l3
    have dd:s2.heap.DictOfH (tupleKind (g9 X.prog X.w)) a xs:=⟨_,es,ep,I2.kIn a _ l1,⟨rfl,rfl,rfl⟩,rfl,h3,h4 _ I2.kIn,l5⟩
    obtain⟨its,rv,⟨o,o1,o2,nn,o3⟩,_⟩:=I2.tuple hq
    have hk:(tupleKind (g9 X.prog X.w)).is s2.heap ky b:=⟨o,its.toArray,nn,o1,o2,o3,by simpa using a0x rv⟩
    exact⟨dd.typeIs,wpAny_getItem_heap (tupleKind_room_in1 hu) hk dd h1 ⟨vv,H2,I2.tok _,r1,k vv F2 H2 (o9.val x2 (r2 F2))⟩⟩
 ·cases hm'
abbrev MT:=a8->Option Bool
def tMT(K:AD)(c:MT):TT:=fun σ H Q=>∃F ρ b,p9 K F H σ ρ/\c ρ=some b/\∀F' H',G6 F H F' H'->Q b H'
abbrev ET(X:Cx)(e:AE)(c:MT):Prop:=PT X e (tMT X.K c)
abbrev EW(X:Cx)(e:AE)(c:MT):Prop:=PW X e (tMT X.K c)
def a2T:c6->Option Bool
 | .val (.bool b)=>some b
 |_=>none
def tru(r:c6):Option Bool:=match r.rd with
 | .none=>some false
 | .bool b=>some b
 | .int i=>some (i !=0)
 | .str z=>if z.length<=AL then some ((z.length:Int) !=0) else none
 | .list ps=>some (!ps.isEmpty)
 | .tuple ps=>some (!ps.isEmpty)
 | .dict _=>none
def mtV(m:M):MT:=fun ρ=>(m ρ).bind tru
def mtB(m:M):MT:=fun ρ=>(m ρ).bind a2T
theorem f9.empty{K:AD}{H:Hp}{ps:List PV}{vs:List V}(r:f9 K H ps vs):vs.isEmpty=ps.isEmpty:=by
 cases ps with
 |nil=>cases r;rfl
 |cons p ps=>obtain⟨_,_,e,_⟩:=r;subst e;rfl
theorem b0P{H:Hp}{r:c6}{v:V}{b:Bool}(h:r9 X.K H r.rd v)(e:tru r=some b):b1l X.K v H b:=by
 unfold tru at e
 cases hp:r.rd with
 |none=>rw [hp] at h e;cases h;cases e;exact rfl
 |bool k=>rw [hp] at h e;cases h;cases e;exact rfl
 |int i=>rw [hp] at h e;cases h;cases e;exact rfl
 |str z=>
  rw [hp] at h e;cases h
  dsimp only at e
  split at e
  ·rename_i c;cases e;exact⟨c,rfl⟩
  ·cases e
 |list ps=>rw [hp] at h e;obtain⟨a,xs,rfl,hq,rl⟩:=h;cases e;exact .inl ⟨xs,hq,by rw [rl.empty]⟩
 |tuple ps=>rw [hp] at h e;obtain⟨a,xs,rfl,hq,rl⟩:=h;cases e;exact .inr (.inl ⟨xs,hq.sq,by rw [rl.empty]⟩)
 |dict _=>rw [hp] at e;cases e
theorem a1K{e:AE}{m:M}(h:EE X e m)(he:∀whole,isTrue e X.env whole=(do let v<-whole;standAt e.pos;holding [v] (truthy v)):=by intro _;rfl):ET X e (mtV m):=
 a2u (a8Y h he) fun σ H Q ⟨F,ρ,b,h1,h2,k⟩=>by
  obtain⟨r,e1,e2⟩:=bind_some h2
  exact⟨F,ρ,r,h1,e1,fun v F1 H1 o=>⟨b,b0P (o.rep.rd o.x.fh) e2,k F1 H1 o.x⟩⟩
theorem M2{K:AD}{F H:Hp}{r:c6}{v:V}{b:Bool}(h:G8 K F H v r)(e:a2T r=some b):v= .bl b:=by
 unfold a2T at e
 split at e
 ·cases e;exact h
 ·cases e
theorem K2{a b:AE}{ma mb:M}{pos:Pos}{op:CmpOp}{g:c6->c6->Option c6}(ho:OpM X (compareOp op) g)(ha:EE X a ma)(hb:EE X b mb)(hm:behindInMarks op b=false):ET X (.Compare a [op] [b] pos) (mtB (m2 g ma mb)):=
 a2u (b0y ho ha hb hm) fun σ H Q ⟨F,ρ,k,h1,h2,q⟩=>by
  obtain⟨r,e1,e2⟩:=bind_some h2
  exact a4l ⟨F,ρ,r,h1,e1,fun v F1 H1 o=>⟨k,M2 o.rep e2,q F1 H1 o.x⟩⟩
def Z3(c:MT):MT:=fun ρ=>(c ρ).map not
theorem a0o{a:AE}{c:MT}{pos:Pos}(ha:ET X a c):ET X (.UnaryOp .Not a pos) (Z3 c):=
 a2u (b2r ha) fun σ H Q ⟨F,ρ,k,h1,h2,q⟩=>by
  unfold Z3 at h2
  cases e:c ρ with
  |none=>rw [e] at h2;cases h2
  |some b=>rw [e] at h2;cases h2;exact⟨F,ρ,b,h1,e,q⟩
def a67(c d:MT):MT:=fun ρ=>(c ρ).bind fun b=>if b=true then some true else d ρ
theorem a5H{a:AE}{c:MT}{pos:Pos}(ha:ET X a c):EW X (.BoolOp .Or [a] pos) c:=b2t ha
theorem a6h{a b:AE}{u5:List AE}{c d:MT}{pos:Pos}(ha:ET X a c)(hb:EW X (.BoolOp .Or (b::u5) pos) d):EW X (.BoolOp .Or (a::b::u5) pos) (a67 c d):=
 b2s (b3m ha hb) fun σ H Q ⟨F,ρ,k,h1,h2,q⟩=>by
  obtain⟨b,e1,e2⟩:=bind_some h2
  refine⟨F,ρ,b,h1,e1,fun F1 H1 x=> ?_⟩
  cases b with
  |false=>exact a6W ⟨F1,ρ,k,h1.ext x,e2,fun F2 H2 y=>q F2 H2 (x.trans y)⟩
  |true=>cases e2;exact a6X (q F1 H1 x)
def b1T(m n:M):M:=fun ρ=>(m ρ).bind fun r=>(a2T r).bind fun b=>if b=true then n ρ else some (.val (.bool false))
def b29(m:M):M:=fun ρ=>(m ρ).bind fun r=>(a2T r).bind fun b=>some (.val (.bool (!b)))
theorem b1v{op:BoolOp}{a:AE}{m:M}{pos:Pos}(h:EE X a m):EE X (.BoolOp op [a] pos) m:=b2l h
theorem b1r{a b:AE}{u5:List AE}{m n:M}{pos:Pos}(ha:EE X a m)(hb:EE X (.BoolOp .And (b::u5) pos) n):EE X (.BoolOp .And (a::b::u5) pos) (b1T m n):=
 p8 (b2e ha hb) fun σ H Q ⟨F,ρ,r,h1,h2,q⟩=>by
  obtain⟨r1,e1,h2⟩:=bind_some h2
  obtain⟨b,e2,h2⟩:=bind_some h2
  refine⟨F,ρ,r1,h1,e1,fun v F1 H1 o=>⟨b,M2 o.rep e2, ?_⟩⟩
  cases b with
  |true=>exact a6X ⟨F1,ρ,r,h1.ext o.x,h2,fun w F2 H2 y=>q w F2 H2 (o9.trans o.x y)⟩
  |false=>cases h2;exact a6W (q _ F1 H1 (o9.val o.x rfl))
theorem b1u{a:AE}{m:M}{pos:Pos}(ha:EE X a m):EE X (.UnaryOp .Not a pos) (b29 m):=
 p8 (b2k ha) fun σ H Q ⟨F,ρ,r,h1,h2,q⟩=>by
  obtain⟨r1,e1,h2⟩:=bind_some h2
  obtain⟨b,e2,h2⟩:=bind_some h2
  cases h2
  exact⟨F,ρ,r1,h1,e1,fun v F1 H1 o=>⟨b,M2 o.rep e2,q _ F1 H1 (o9.val o.x rfl)⟩⟩
def a3X(g g':c6->c6->Option c6)(ma mb mc:M):M:=fun ρ=>(ma ρ).bind fun x=>(mb ρ).bind fun y=>(g x y).bind fun z=>(a2T z).bind fun b=>if b=true then(mc ρ).bind fun w=>g' y w else some (.val (.bool false))
theorem a7F{ma mb mc:M}{g g':c6->c6->Option c6}{σ:L2.St}{H:Hp}{Q:VK}(h:tM X.K (a3X g g' ma mb mc) σ H Q):a9j (rM2 X.K g) (rM2 X.K g') (tM X.K ma) (tM X.K mb) (tM X.K mc) σ H Q:=by
 obtain⟨F,ρ,r,he,hm,k⟩:=h
 obtain⟨rx,e1,hm⟩:=bind_some hm
 obtain⟨ry,e2,hm⟩:=bind_some hm
 obtain⟨rz,e3,hm⟩:=bind_some hm
 obtain⟨b,e4,hm⟩:=bind_some hm
 refine⟨F,ρ,rx,he,e1,fun v F1 H1 o1=>⟨F1,ρ,ry,he.ext o1.x,e2,fun u F2 H2 o2=>⟨F2,rx,ry,rz,o2.x.fh,o1.rep.ext o2.x,o2.rep,e3,fun z F3 H3 o3=>⟨b,M2 o3.rep e4, ?_⟩⟩⟩⟩
 have x3:=(o1.x.trans o2.x).trans o3.x
 cases b with
 |true=>
  rw [if_pos rfl] at hm
  obtain⟨rw',e5,hm⟩:=bind_some hm
  exact a6X ⟨F3,ρ,rw',he.ext x3,e5,fun w F4 H4 o4=>⟨F4,ry,rw',r,o4.x.fh,(o2.rep.ext o3.x).ext o4.x,o4.rep,hm,fun z F5 H5 o5=>k z F5 H5 (o9.trans (x3.trans o4.x) o5)⟩⟩
 |false=>
  rw [if_neg Av] at hm
  cases hm
  exact a6W (k _ F3 H3 (o9.val x3 rfl))
theorem a7Y{a b c:AE}{ma mb mc:M}{pos:Pos}{op op':CmpOp}{g g':c6->c6->Option c6}(ho:OpM X (compareOp op) g)(ho':OpM X (compareOp op') g')(ha:EE X a ma)(hb:EE X b mb)(hc:EE X c mc)
 (hm:lastMarks [op,op'] [b,c]=false:=by with_unfolding_all rfl):ET X (.Compare a [op,op'] [b,c] pos) (mtB (a3X g g' ma mb mc)):=
 a2u (a8X ho ho' ha hb hc hm) fun σ H Q ⟨F,ρ,k,h1,h2,q⟩=>by
  obtain⟨r,e1,e2⟩:=bind_some h2
  exact a7F ⟨F,ρ,r,h1,e1,fun v F1 H1 o=>⟨k,M2 o.rep e2,q F1 H1 o.x⟩⟩
end
inductive Fl where
 |nx (ρ:a8)|rt (r:c6)|bk (ρ:a8)|ct (ρ:a8)
abbrev MS:=a8->Option Fl
structure J8(K:AD)(F0 H0 F H:Hp)(σ:L2.St)(ρ:a8):Prop where
 x:G6 F0 H0 F H
 e:p9 K F H σ ρ
 nw:∀(i:Nat) (c:C7) (a:AB),ρ[i]?=some (some (.ow c))->σ[i]?=some (some (.ref a))->H0 a=none
def Fin(K:AD)(F0 H0 F:Hp)(D:C8):Fl->Prop
 | .nx ρ=>∀σ' F' H',f6 F F'->J8 K F0 H0 F' H' σ' ρ->D.nx σ' H'
 | .rt r=>∀v F' H',o9 K F0 H0 F' H' v r->D.rt v H'
 | .bk ρ=>∀σ' F' H',f6 F F'->J8 K F0 H0 F' H' σ' ρ->D.bk σ' H'
 | .ct ρ=>∀σ' F' H',f6 F F'->J8 K F0 H0 F' H' σ' ρ->D.ct σ' H'
theorem Fin.later{K:AD}{F0 H0 F F1:Hp}{D:C8}(s:f6 F F1):∀{fl:Fl},Fin K F0 H0 F D fl->Fin K F0 H0 F1 D fl
 | .nx _,h=>fun σ' F' H' s' so=>h σ' F' H' (s.trans s') so
 | .rt _,h=>h
 | .bk _,h=>fun σ' F' H' s' so=>h σ' F' H' (s.trans s') so
 | .ct _,h=>fun σ' F' H' s' so=>h σ' F' H' (s.trans s') so
def tMS(K:AD)(m:MS):TS:=fun D σ H=>∃F0 H0 F ρ fl,J8 K F0 H0 F H σ ρ/\m ρ=some fl/\Fin K F0 H0 F D fl
abbrev ES(X:Cx)(st:Stmt)(m:MS):Prop:=PS X st (tMS X.K m)
abbrev ESs(X:Cx)(st:List Stmt)(m:MS):Prop:=PSs X st (tMS X.K m)
theorem J8.ext{K:AD}{F0 H0 F H F' H':Hp}{σ:L2.St}{ρ:a8}(s:J8 K F0 H0 F H σ ρ)(x:G6 F H F' H'):J8 K F0 H0 F' H' σ ρ:=⟨s.x.trans x,s.e.ext x,s.nw⟩
def c6.nb:c6->Bool
 | .bo _=>false
 |_=>true
theorem J8.set{K:AD}{F0 H0 F H F' H':Hp}{σ:L2.St}{ρ:a8}{v:V}{r:c6}(s:J8 K F0 H0 F H σ ρ)(o:o9 K F H F' H' v r)(hb:r.nb=true)(i:Nat):J8 K F0 H0 F' H' (σ.set i (some v)) (ρ.set i (some r)):=by
 have s1:=s.ext o.x
 have le:=s.e.len
 refine⟨s1.x,⟨s1.e.fh,by simp [le],fun j q e=> ?_,fun j ps e=> ?_,fun j k ps qs a hjk e1 e2 e3 e4=> ?_⟩,fun j ps a e1 e2=> ?_⟩
 ·rw [List.getElem?_set] at e ⊢
  by_cases hij:i=j
  ·subst hij
   rw [if_pos rfl] at e ⊢
   rw [le]
   split at e
   ·rename_i c;cases e;rw [if_pos c];exact⟨v,rfl,o.rep⟩
   ·cases e
  ·rw [if_neg hij] at e ⊢
   exact s1.e.at_ j q e
 ·rw [List.getElem?_set] at e
  by_cases hij:i=j
  ·subst hij
   rw [if_pos rfl] at e
   split at e
   ·cases e;cases hb
   ·cases e
  ·rw [if_neg hij] at e
   exact s1.e.nb j ps e
 ·rw [List.getElem?_set] at e1 e2 e3 e4
  by_cases hij:i=j
  ·subst hij
   rw [if_pos rfl] at e1 e3
   rw [if_neg hjk] at e2 e4
   split at e1
   ·cases e1
    split at e3
    ·cases e3
     have fr:=o.fr ps a rfl rfl
     obtain⟨w,h1,rr⟩:=s.e.at_ k _ e2
     obtain⟨a',xs,h2,_,h3⟩:=C9.at_ rr
     rw [e4] at h1;cases h1
     cases h2
     rw [fr] at h3;cases h3
    ·cases e3
   ·cases e1
  ·rw [if_neg hij] at e1 e3
   by_cases hik:i=k
   ·subst hik
    rw [if_pos rfl] at e2 e4
    split at e2
    ·cases e2
     split at e4
     ·cases e4
      have fr:=o.fr qs a rfl rfl
      obtain⟨w,h1,rr⟩:=s.e.at_ j _ e1
      obtain⟨a',xs,h2,_,h3⟩:=C9.at_ rr
      rw [e3] at h1;cases h1
      cases h2
      rw [fr] at h3;cases h3
     ·cases e4
    ·cases e2
   ·rw [if_neg hik] at e2 e4
    exact s1.e.ap j k ps qs a hjk e1 e2 e3 e4
 ·rw [List.getElem?_set] at e1 e2
  by_cases hij:i=j
  ·subst hij
   rw [if_pos rfl] at e1 e2
   split at e1
   ·cases e1
    split at e2
    ·cases e2;exact s.x.h.free (o.fr ps a rfl rfl)
    ·cases e2
   ·cases e1
  ·rw [if_neg hij] at e1 e2
   exact s.nw j ps a e1 e2
section
variable {X:Cx}
def G0:MS:=fun ρ=>some (.nx ρ)
def l7(m n:MS):MS:=fun ρ=>(m ρ).bind fun fl=>match fl with
 | .nx ρ'=>n ρ'
 |f=>some f
theorem K1:ESs X [] G0:=N5 a6q fun D σ H ⟨F0,H0,F,ρ,fl,so,e,fin⟩=>by
 cases e
 exact fin σ F H (PU.f6.refl F) so
theorem c8{st:Stmt}{u5:List Stmt}{m n:MS}(h1:ES X st m)(h2:ESs X u5 n):ESs X (st::u5) (l7 m n):=
 N5 (C6 h1 h2) fun D σ H ⟨F0,H0,F,ρ,fl,so,e,fin⟩=>by
  obtain⟨f1,e1,e⟩:=bind_some e
  cases f1 with
  |nx ρ'=>exact⟨F0,H0,F,ρ,.nx ρ',so,e1,fun σ' F' H' s so'=>⟨F0,H0,F',ρ',fl,so',e,fin.later s⟩⟩
  |rt r=>cases e;exact⟨F0,H0,F,ρ,_,so,e1,fin⟩
  |bk r=>cases e;exact⟨F0,H0,F,ρ,_,so,e1,fin⟩
  |ct r=>cases e;exact⟨F0,H0,F,ρ,_,so,e1,fin⟩
theorem i0{st:Stmt}{m:MS}(h1:ES X st m):ESs X [st] m:=a6r h1
def x6(i:Nat)(m:M):MS:=fun ρ=>(m ρ).bind fun r=>if r.nb=true then some (.nx (ρ.set i (some r))) else none
theorem j4{i:Nat}{x:Str}{e:AE}{m:M}{pos pos':Pos}(hN:X.N.Nodup)(he:EE X e m)(hi:X.N[i]?=some x:=by rfl)(hx:Loc X.env.scope x:=by exact Or.inl rfl)(hs:swapsWith e (some (.Name x pos')) pos.line X.env=pure false:=by rfl)(hf:X.fn x=true\/X.env.scope.names.lookup x=some .local:=by first|exact .inl rfl|exact .inr rfl|assumption):
 ES X (.Assign [.Name x pos'] e pos) (x6 i m):=
 q9 (a2t hN hi hx he hs hf) fun D σ H ⟨F0,H0,F,ρ,fl,so,e,fin⟩=>by
  obtain⟨r,e1,e⟩:=bind_some e
  split at e
  ·rename_i c
   cases e
   exact⟨F,ρ,r,so.e,e1,fun v F' H' o=>fin _ F' H' o.x.f (so.set o c i)⟩
  ·cases e
def C5(m:M):MS:=fun ρ=>(m ρ).bind fun r=>if r.nb=true then some (.rt r) else none
theorem p5{e:AE}{m:M}{pos:Pos}(he:EE X e m):ES X (.Return (some e) pos) (C5 m):=
 q9 (a50 he) fun D σ H ⟨F0,H0,F,ρ,fl,so,e,fin⟩=>by
  obtain⟨r,e1,e⟩:=bind_some e
  split at e
  ·rename_i c
   cases e
   exact⟨F,ρ,r,so.e,e1,fun v F' H' o=>fin v F' H' (o9.trans so.x o)⟩
  ·cases e
def a0Y(i:Nat):MS:=fun ρ=>match ρ[i]? with
 |some (some r)=>some (.rt r)
 |_=>none
theorem a1e(i:Nat){x:Str}{p pos:Pos}(h:PE X (.Name x p) (a0I i)):ES X (.Return (some (.Name x p)) pos) (a0Y i):=
 q9 (a50 h) fun D σ H ⟨F0,H0,F,ρ,fl,so,e,fin⟩=>by
  unfold a0Y at e
  split at e
  ·rename_i r er
   cases e
   obtain⟨v,e1,rr⟩:=so.e.at_ i _ er
   exact⟨v,e1,fin v F H ⟨so.x,rr,fun ps a z1 z2=>by subst z1;subst z2;exact so.nw i ps a er e1⟩⟩
  ·cases e
def W5(c:MT)(m n:MS):MS:=fun ρ=>(c ρ).bind fun b=>if b=true then m ρ else n ρ
theorem U7{c:AE}{a b:List Stmt}{mc:MT}{m n:MS}{pos:Pos}(hc:ET X c mc)(ha:ESs X a m)(hb:ESs X b n):ES X (.If c a b pos) (W5 mc m n):=
 q9 (b1a hc ha hb) fun D σ H ⟨F0,H0,F,ρ,fl,so,e,fin⟩=>by
  obtain⟨b,e1,e⟩:=bind_some e
  refine⟨F,ρ,b,so.e,e1,fun F1 H1 x=> ?_⟩
  cases b with
  |true=>exact a6X ⟨F0,H0,F1,ρ,fl,so.ext x,e,fin.later x.f⟩
  |false=>exact a6W ⟨F0,H0,F1,ρ,fl,so.ext x,e,fin.later x.f⟩
def setAll{α:Type}:List (Option α)->List Nat->List α->List (Option α)
 |σ,i::is,x::xs=>setAll (σ.set i (some x)) is xs
 |σ,_,_=>σ
def a3Q:List Nat->TGs
 |[]=>b25
 |i::is=>b02 (a1R i) (a3Q is)
theorem a0t:∀{is:List Nat} {xs:List V} {σ:L2.St} {H:Hp} {Q:L2.St->Hp->Prop},xs.length=is.length->Q (setAll σ is xs) H->a3Q is xs σ H Q
 |[],[],_,_,_,_,q=>⟨rfl,q⟩
 |[],_::_,_,_,_,h,_=>by cases h
 |_::_,[],_,_,_,h,_=>by cases h
 |i::is,x::xs,σ,H,Q,h,q=>⟨x,xs,rfl,a0t (is:=is) (xs:=xs) (by simpa using h) q⟩
theorem J8.setAll{K:AD}{F0 H0 F H:Hp}:∀{is:List Nat} {xs:List V} {ps:List PV} {σ:L2.St} {ρ:a8},J8 K F0 H0 F H σ ρ->f9 K F ps xs->J8 K F0 H0 F H (PU.setAll σ is xs) (PU.setAll ρ is (ps.map .val))
 |[],xs,ps,σ,ρ,s,r=>by
  have e1:PU.setAll σ [] xs=σ:=by cases xs<;>rfl
  have e2:PU.setAll ρ [] (ps.map c6.val)=ρ:=by cases ps<;>rfl
  rw [e1,e2];exact s
 |i::is,xs,[],σ,ρ,s,r=>by cases r;exact s
 |i::is,xs,p::ps,σ,ρ,s,⟨v,t,e,rp,rl⟩=>by
  subst e
  exact J8.setAll (is:=is) (s.set (o9.here s.e.fh rp) rfl i) rl
def b0f(is:List Nat)(m:M):MS:=fun ρ=>(m ρ).bind fun r=>match r with
 | .val (.tuple ps)=>if ps.length=is.length then some (.nx (setAll ρ is (ps.map .val))) else none
 |_=>none
theorem a7X{is:List Nat}{es:List AE}{k:Nat}{e:AE}{m:M}{pos tpos:Pos}(hc:X.calm=true)(he:EE X e m)(hg:PGs X es (a3Q is))
 (hn:(assignEach es X.env).length=is.length:=by rfl) (hst:(assignEach es X.env).findIdx? (·.1)=none:=by rfl)
 (hs:swapsWithSole [.Tuple es k tpos] e pos.line X.env=pure false:=by rfl) (hw:swappedStores [.Tuple es k tpos] e X.env=pure none:=by rfl)
 (h1:(assignEach [.Tuple es k tpos] X.env).map (·.2)=[assign (.Tuple es k tpos) X.env]:=by rfl):ES X (.Assign [.Tuple es k tpos] e pos) (b0f is m):=
 q9 (b2o he (a8U hc hg hn hst) hs hw h1) fun D σ H ⟨F0,H0,F,ρ,fl,so,e,fin⟩=>by
  obtain⟨r,e1,e⟩:=bind_some e
  split at e
  ·rename_i ps
   split at e
   ·rename_i c
    cases e
    refine⟨F,ρ,_,so.e,e1,fun v F' H' o=> ?_⟩
    obtain⟨a,xs,rfl,hq,rl⟩:=o.rep
    have hl:xs.length=is.length:=by rw [rl.length];exact c
    exact⟨a,xs,rfl,k9 o.x.fh hq.sq,hl,a0t hl (fin _ F' H' o.x.f ((so.ext o.x).setAll rl))⟩
   ·cases e
  ·cases e
def D4(body:MS)(tg:PV->a8->Option a8):List PV->a8->Option Fl
 |[],ρ=>some (.nx ρ)
 |p::ps,ρ=>(tg p ρ).bind fun ρ1=>(body ρ1).bind fun fl=>match fl with
  | .nx ρ'=>D4 body tg ps ρ'
  | .ct ρ'=>D4 body tg ps ρ'
  | .bk ρ'=>some (.nx ρ')
  | .rt r=>some (.rt r)
def j9(i:Nat):PV->a8->Option a8:=fun p ρ=>some (ρ.set i (some (.val p)))
def a6A(is:List Nat):PV->a8->Option a8:=fun p ρ=>match p with
 | .tuple ps=>if ps.length=is.length then some (setAll ρ is (ps.map .val)) else none
 |_=>none
def a4z(K:AD)(g:TG)(tg:PV->a8->Option a8):Prop:=
 ∀F0 H0 F H σ ρ ρ1 p x (Q:L2.St->Hp->Prop),J8 K F0 H0 F H σ ρ->r9 K F p x->tg p ρ=some ρ1->(∀σ',J8 K F0 H0 F H σ' ρ1->Q σ' H)->g x σ H Q
theorem B7{K:AD}(i:Nat):a4z K (a1R i) (j9 i):=fun F0 H0 F H σ ρ ρ1 p x Q so r e k=>by
 cases e
 exact k _ (so.set (o9.here so.e.fh r) rfl i)
theorem a9l{K:AD}(is:List Nat):a4z K (b26 K is.length (a3Q is)) (a6A is):=fun F0 H0 F H σ ρ ρ1 p x Q so r e k=>by
 unfold a6A at e
 split at e
 ·split at e
  ·rename_i c
   cases e
   obtain⟨a,xs,rfl,hq,rl⟩:=r
   have hl:xs.length=is.length:=by rw [rl.length];exact c
   exact⟨a,xs,rfl,k9 so.e.fh hq.sq,hl,a0t hl (k _ (so.setAll rl))⟩
  ·cases e
 ·cases e
theorem a0q{body:MS}{tg:PV->a8->Option a8}{ps:List PV}{p:PV}{ρ:a8}{fl:Fl}(h:D4 body tg (p::ps) ρ=some fl):∃ρ1 f1,tg p ρ=some ρ1/\body ρ1=some f1/\(match f1 with
 | .nx ρ'=>D4 body tg ps ρ'
 | .ct ρ'=>D4 body tg ps ρ'
 | .bk ρ'=>some (.nx ρ')
 | .rt r=>some (.rt r))=some fl:=by
 unfold D4 at h
 obtain⟨ρ1,e1,h⟩:=bind_some h
 obtain⟨f1,e2,h⟩:=bind_some h
 exact⟨ρ1,f1,e1,e2,h⟩
def PvL(K:AD)(F0 H0 F1:Hp)(body:MS)(tg:PV->a8->Option a8)(ps:List PV)(fl:Fl)(k:Nat)(σ:L2.St)(H:Hp):Prop:=
 ∃F ρ,f6 F1 F/\J8 K F0 H0 F H σ ρ/\D4 body tg (ps.drop k) ρ=some fl
theorem a0A{K:AD}{F0 H0 F1:Hp}{body:MS}{tg:PV->a8->Option a8}{g:TG}{ps:List PV}{fl:Fl}{D:C8}{k:Nat}{p:PV}{x:V}{σ:L2.St}{H:Hp}(T:a4z K g tg)(fin:Fin K F0 H0 F1 D fl)(ep:ps[k]?=some p)
 (hp:PvL K F0 H0 F1 body tg ps fl k σ H) (rx:∀F,f6 F1 F->r9 K F p x):
 g x σ H fun σ2 H2=>tMS K body {D with nx:=PvL K F0 H0 F1 body tg ps fl (k+1),ct:=PvL K F0 H0 F1 body tg ps fl (k+1),bk:=D.nx} σ2 H2:=by
 obtain⟨F,ρ,s,so,e⟩:=hp
 have hk:k<ps.length:=(Ad.mp ep).1
 have hd:ps.drop k=p::ps.drop (k+1):=by
  rw [List.drop_eq_getElem_cons hk]
  congr 1
  exact(Ad.mp ep).2
 rw [hd] at e
 obtain⟨ρ1,f1,e1,e2,e3⟩:=a0q e
 refine T F0 H0 F H σ ρ ρ1 p x _ so (rx F s) e1 fun σ' so'=>⟨F0,H0,F,ρ1,f1,so',e2, ?_⟩
 cases f1 with
 |nx ρ'=>exact fun σ2 F2 H2 s2 so2=>⟨F2,ρ',s.trans s2,so2,e3⟩
 |ct ρ'=>exact fun σ2 F2 H2 s2 so2=>⟨F2,ρ',s.trans s2,so2,e3⟩
 |bk ρ'=>cases e3;exact fun σ2 F2 H2 s2 so2=>fin σ2 F2 H2 (s.trans s2) so2
 |rt r=>cases e3;exact fin
theorem Z0{K:AD}{F0 H0 F1:Hp}{body:MS}{tg:PV->a8->Option a8}{ps:List PV}{fl:Fl}{D:C8}{σ:L2.St}{H:Hp}(fin:Fin K F0 H0 F1 D fl)
 (hp:PvL K F0 H0 F1 body tg ps fl ps.length σ H):D.nx σ H:=by
 obtain⟨F,ρ,s,so,e⟩:=hp
 rw [List.drop_length] at e
 cases e
 exact fin σ F H s so
abbrev MI:=a8->Option (List PV)
def N4(m:M):MI:=fun ρ=>((m ρ).bind c6.toVal).bind PyData.items?
def b3J(K:AD)(tl:TE):TI:=fun σ H R=>tl σ H fun x H1=>∃a,x= .ref a/\(((∃xs,H9 K H1 a xs)/\R (Itl K a) H1)\/((∃xs,M5 K H1 a xs)/\R (Itt K a) H1))
theorem a8V{tg l:AE}{tl:TE}(hl:PE X l tl):PI X tg l (b3J X.K tl):=by
 intro pins s σ H R I h
 refine w9 (hl pins s σ H _ I h) fun v s1 ⟨x,H1,I1,r1,q1⟩=> ?_
 obtain⟨a,e,q⟩:=q1
 subst e
 cases r1
 rcases q with⟨⟨xs,hq⟩,q⟩|⟨⟨xs,hq⟩,q⟩
 ·obtain⟨its,rv,p,hz⟩:=I1.list hq
  refine wpAny_pyIter_list p.isList ?_
  refine⟨s1.heap.objs.size,[s1.heap.objs.size],_,_,H1,rfl,I1.kept (t':=s1.toks) fun b o e=>Ab _ e,a7s a _,⟨_,At _ rfl,rfl,rfl⟩,fun b hb=> ?_,q⟩
  have e:b=s1.heap.objs.size:=by simpa using hb
  subst e
  exact I1.fpOk (AO _) (I1.hok.fresh (AO _))
 ·obtain⟨its,rv,p,hz⟩:=I1.tuple hq
  refine wpAny_pyIter_tuple (show s1.heap.IsTuple a its.toArray from p) ?_
  refine⟨s1.heap.objs.size,[s1.heap.objs.size],_,_,H1,rfl,I1.kept (t':=s1.toks) fun b o e=>Ab _ e,a55 a _,⟨_,At _ rfl,rfl,rfl⟩,fun b hb=> ?_,q⟩
  have e:b=s1.heap.objs.size:=by simpa using hb
  subst e
  exact I1.fpOk (AO _) (I1.hok.fresh (AO _))
def W4(it:MI)(tg:PV->a8->Option a8)(body:MS):MS:=fun ρ=>(it ρ).bind fun ps=>D4 body tg ps ρ
theorem a0n{tg iter:AE}{body:List Stmt}{m:M}{g:TG}{t:PV->a8->Option a8}{b:MS}{pos:Pos}(hp:PassesOwn (model X.prog X.w) X.A X.env X.xe)(hc:X.calm=true)(hi:EE X iter m)(hg:PG X tg g)(T:a4z X.K g t)(hb:ESs X body b)
 (hs:∀x,foldedSetIterable iter X.env x=pure x:=by intro _;rfl):ES X (.For tg iter body [] pos) (W4 (N4 m) t b):=
 q9 (a2s hp hc (a8V hi) hg hb hs) fun D σ H ⟨F0,H0,F,ρ,fl,so,e,fin⟩=>by
  obtain⟨ps,e1,e⟩:=bind_some e
  obtain⟨q,e1,e2⟩:=bind_some e1
  obtain⟨r,e1,e3⟩:=bind_some e1
  refine⟨F,ρ,r,so.e,e1,fun v F' H' o=> ?_⟩
  obtain⟨F1,o1⟩:=o.toVal e3
  have fin1:=fin.later o1.x.f
  have so1:=so.ext o1.x
  obtain⟨a,xs,rfl,hq,rl⟩:=L5 (F:=F1) (H:=F1) (PU.f6.refl F1) (show G8 X.K F1 F1 v (.val q) from o1.rep) e2
  have hlen:=rl.length
  have get:∀k x,xs[k]?=some x->∃p,ps[k]?=some p/\∀F,f6 F1 F->r9 X.K F p x:=fun k x ex=>by
   obtain⟨p,ep,rp⟩:=rl.getV ex
   exact⟨p,ep,fun F s=>r9.mono s _ rp⟩
  rcases hq with hq|hq
  ·refine⟨a,rfl,.inl ⟨⟨xs,v7 o1.x.fh hq⟩,a4P (K:=X.K) (a:=a) (xs:=xs) (PvL X.K F0 H0 F1 b t ps fl) ⟨F1,ρ,PU.f6.refl F1,so1,e⟩ (fun k σ H _ ⟨F,_,s,so2,_⟩=>v7 (s.trans so2.e.fh) hq) (fun k x σ H ex hp=> ?_) (fun σ H hp=> ?_)⟩⟩
   ·obtain⟨p,ep,rp⟩:=get k x ex
    exact a0A T fin1 ep hp rp
   ·rw [hlen] at hp
    exact Z0 fin1 hp
  ·refine⟨a,rfl,.inr ⟨⟨xs,k9 o1.x.fh hq⟩,a6j (K:=X.K) (a:=a) (xs:=xs) (PvL X.K F0 H0 F1 b t ps fl) ⟨F1,ρ,PU.f6.refl F1,so1,e⟩ (fun k σ H _ ⟨F,_,s,so2,_⟩=>k9 (s.trans so2.e.fh) hq) (fun k x σ H ex hp=> ?_) (fun σ H hp=> ?_)⟩⟩
   ·obtain⟨p,ep,rp⟩:=get k x ex
    exact a0A T fin1 ep hp rp
   ·rw [hlen] at hp
    exact Z0 fin1 hp
def W9(lo hi:Int):List PV:=(Az (hi - lo).toNat).map fun k=> .int (lo+(k:Nat))
theorem a8i:∃f:Int->Bool,∀j,f j=decide (-(2 ^ 62)<=j/\j<2 ^ 62):=⟨_,fun _=>rfl⟩
def inR:Int->Bool:=a8i.choose
theorem b1M(j:Int):inR j=decide (-(2 ^ 62)<=j/\j<2 ^ 62):=a8i.choose_spec j
theorem a3S{j:Int}:inR j=true↔(-(2 ^ 62)<=j/\j<2 ^ 62):=by rw [b1M,decide_eq_true_iff]
def a4V(m:MA):MI:=fun ρ=>(m ρ).bind fun ps=>match ps with
 |[.int j]=>if inR j=true then some (W9 0 j) else none
 |_=>none
theorem a2B{lo hi:Int}{k:Nat}(h:k<(hi - lo).toNat):(W9 lo hi)[k]?=some (.int (lo+k)):=by
 simp [W9,h]
theorem Z8(lo hi:Int):(W9 lo hi).length=(hi - lo).toNat:=by simp [W9]
theorem a7V{tg a:AE}{body:List Stmt}{m:MA}{g:TG}{t:PV->a8->Option a8}{b:MS}{p rp pos:Pos}(hp:PassesOwn (model X.prog X.w) X.A X.env X.xe)(hc:X.calm=true)(hgl:Gl X "range")(hm:X.mg "range"=none)(ha:EA X [a] m)(hg:PG X tg g)(T:a4z X.K g t)(hb:ESs X body b)
 (hst:AN [a] X.env=[(false,eval a X.env)]:=by rfl) (hs:∀x,foldedSetIterable (.Call (.Name "range" p) [a] [] rp) X.env x=pure x:=by intro _;rfl):ES X (.For tg (.Call (.Name "range" p) [a] [] rp) body [] pos) (W4 (a4V m) t b):=
 q9 (a2s hp hc (a3n hgl hm ha hst) hg hb hs) fun D σ H ⟨F0,H0,F,ρ,fl,so,e,fin⟩=>by
  obtain⟨ps,e1,e⟩:=bind_some e
  obtain⟨qs,e1,e2⟩:=bind_some e1
  refine⟨F,ρ,qs,so.e,e1,fun vs F1 H1 x rl=> ?_⟩
  split at e2
  ·rename_i j
   split at e2
   ·rename_i c
    have c:=a3S.mp c
    cases e2
    obtain⟨v,r,rfl,rv,rr⟩:=rl
    cases rv
    cases rr
    have fin1:=fin.later x.f
    have hz:(j - 0).toNat=j.toNat:=by lia
    refine⟨j,rfl,c.1,c.2,a28 (lo:=0) (n:=j.toNat) (PvL X.K F0 H0 F1 b t (W9 0 j) fl) ⟨F1,ρ,PU.f6.refl F1,so.ext x,e⟩ (fun k σ H hk hp=> ?_) (fun σ H hp=> ?_)⟩
    ·exact a0A T fin1 (a2B (by lia)) hp fun _ _=>rfl
    ·have:j.toNat=(W9 0 j).length:=by rw [Z8,hz]
     rw [this] at hp
     exact Z0 fin1 hp
   ·cases e2
  ·cases e2
def y8(c:MT)(body:MS):Nat->a8->Option Fl
 |0,_=>none
 |n+1,ρ=>(c ρ).bind fun b=>if b=true then(body ρ).bind fun fl=>match fl with
  | .nx ρ'=>y8 c body n ρ'
  | .ct ρ'=>y8 c body n ρ'
  | .bk ρ'=>some (.nx ρ')
  | .rt r=>some (.rt r) else some (.nx ρ)
theorem Y6(n:Nat){c:AE}{body:List Stmt}{mc:MT}{b:MS}{pos:Pos}(hp:PassesOwn (model X.prog X.w) X.A X.env X.xe)(hc:ET X c mc)(hb:ESs X body b):ES X (.While c body [] pos) (y8 mc b n):=
 q9 (a8W hp hc hb) fun D σ H ⟨F0,H0,F,ρ,fl,so,e,fin⟩=>by
  refine⟨fun k σ H=>∃F1 ρ,f6 F F1/\J8 X.K F0 H0 F1 H σ ρ/\y8 mc b k ρ=some fl,⟨n,F,ρ,PU.f6.refl F,so,e⟩, ?_⟩
  rintro k σ H ⟨F1,ρ,s,so,e⟩
  cases k with
  |zero=>cases e
  |succ k=>
   unfold y8 at e
   obtain⟨d,e1,e⟩:=bind_some e
   refine⟨F1,ρ,d,so.e,e1,fun F2 H2 x=> ?_⟩
   have s2:=s.trans x.f
   cases d with
   |true=>
    rw [if_pos rfl] at e
    obtain⟨f1,e2,e⟩:=bind_some e
    refine a6X ⟨fun σ' H'=>∃F1 ρ,f6 F F1/\J8 X.K F0 H0 F1 H' σ' ρ/\y8 mc b k ρ=some fl,fun σ' H' h=>⟨k,Nat.lt_succ_self k,h⟩,⟨F0,H0,F2,ρ,f1,so.ext x,e2, ?_⟩⟩
    cases f1 with
    |nx ρ'=>exact fun σ3 F3 H3 s3 so3=>⟨F3,ρ',s2.trans s3,so3,e⟩
    |ct ρ'=>exact fun σ3 F3 H3 s3 so3=>⟨F3,ρ',s2.trans s3,so3,e⟩
    |bk ρ'=>cases e;exact fun σ3 F3 H3 s3 so3=>fin σ3 F3 H3 (s2.trans s3) so3
    |rt r=>cases e;exact fin
   |false=>
    rw [if_neg Av] at e
    cases e
    exact a6W (fin σ F2 H2 s2 (so.ext x))
def G3(n:Nat)(body:MS)(ps:List PV):Option c6:=(body (ps.map (fun p=>some (c6.val p))++AT n none)).bind fun fl=>match fl with
 | .rt r=>some r
 | .nx _=>some (.val .none)
 |_=>none
end
theorem a2H{K:AD}{F H:Hp}{ps:List PV}{vs:List V}(n:Nat)(s:f6 F H)(r:f9 K F ps vs):J8 K F H F H (vs.map some++AT n none) (ps.map (fun p=>some (c6.val p))++AT n none):=by
 have hl:=r.length
 have key:∀(i:Nat) (q:c6),(ps.map (fun p=>some (c6.val p))++AT n none)[i]?=some (some q)->∃p v,q= .val p/\(vs.map some++AT n none)[i]?=some (some v)/\r9 K F p v:=by
  intro i q e
  by_cases h:i<ps.length
  ·rw [Aw (by simpa using h),Ao] at e
   rw [Aw (by rw [AR,hl];exact h),Ao]
   cases q':ps[i]? with
   |none=>rw [q'] at e;cases e
   |some p=>
    rw [q'] at e
    cases e
    obtain⟨v,h1,h2⟩:=r.get q'
    exact⟨p,v,rfl,by rw [h1];rfl,h2⟩
  ·rw [List.getElem?_append_right (by simpa using h),List.getElem?_replicate] at e
   split at e<;>cases e
 refine⟨G6.refl s,⟨s,by simp [hl],fun i q e=> ?_,fun i qs e=> ?_,fun i j qs _ a _ e=> ?_⟩,fun i qs a e=> ?_⟩
 ·obtain⟨p,v,rfl,h1,h2⟩:=key i q e;exact⟨v,h1,h2⟩
 ·obtain⟨p,v,z,_⟩:=key i _ e;cases z
 ·obtain⟨p,v,z,_⟩:=key i _ e;cases z
 ·obtain⟨p,v,z,_⟩:=key i _ e;cases z
theorem b01{P:AG}{w:AF}{K:AD}{mg:Str->Option AA}{base:Heap}{x qual:Str}{st:Stmt}{f:AB}{fd:FuncData}{N ps:List Str}{k:Nat}{m:MS}(F:Fun K x qual st f fd)(S:j3 N ps (d7 st))
 (hb:∀(cdv:AA) (A:AI) (outer:List Env) (s:AC) (H:Hp) (E:XK),A0 k (A.deeper (envOfC qual (d7 st) s.heap.objs.size f cdv))->ESs (a2O CX0 P w K mg base N qual (d7 st) f cdv A outer s H E).nox (v8 st) m):
 E2 P w K mg base CX0 (k+1) f fd ps (spP K ps.length (G3 (N.length - ps.length) m)):=by
 refine F.ok S (fun vs H Q E h=> ?_) (fun cdv A outer s H vs Q E hr h=> ?_)
 ·obtain⟨_,qs,_,_,r,h2,_⟩:=h
  rw [r.length,h2]
 ·obtain⟨F1,qs,r,s1,rl,hl,e,k⟩:=h
  refine⟨_,hb cdv A outer s H E hr, ?_⟩
  unfold G3 at e
  obtain⟨fl,e1,e2⟩:=bind_some e
  have hv:vs.length=ps.length:=by rw [rl.length,hl]
  refine⟨F1,H,F1,_,fl, ?_,e1, ?_⟩
  ·have:=a2H (N.length - ps.length) s1 rl
   unfold L2.a0e
   rw [hv]
   exact this
  ·cases fl with
   |rt q=>cases e2;exact fun v F' H' o=>k v F' H' o
   |nx ρ=>cases e2;exact fun σ' F' H' _ so=>k .non F' H' (o9.val so.x rfl)
   |bk ρ=>cases e2
   |ct ρ=>cases e2
section
variable {X:Cx}
def rC1(K:AD)(g:c6->Option c6):List V->Hp->VK->Prop:=fun xs H Q=>∃F x rx rz,xs=[x]/\f6 F H/\G8 K F H x rx/\g rx=some rz/\∀v F' H',o9 K F H F' H' v rz->Q v H'
def m1(g:c6->Option c6)(m:M):M:=fun ρ=>(m ρ).bind g
theorem a8J{m:M}{g:c6->Option c6}{σ:L2.St}{H:Hp}{Q:VK}(h:tM X.K (m1 g m) σ H Q):tCB (rC1 X.K g) (b1e (tM X.K m) b3z) σ H Q:=by
 obtain⟨F,ρ,r,he,hm,k⟩:=h
 obtain⟨rx,e1,hm⟩:=bind_some hm
 exact⟨F,ρ,rx,he,e1,fun v F1 H1 o1=>⟨F1,v,rx,r,rfl,o1.x.fh,o1.rep,hm,fun z F2 H2 o2=>k z F2 H2 (o9.trans o1.x o2)⟩⟩
theorem O2{id:String}{x:Str}{p pos:Pos}{e:AE}{g:c6->Option c6}{m:M}(hc:D1 X (.builtin id) (rC1 X.K g))(hg:Gl X x)(hm:X.mg x=none)(hv:bootBuiltins x=some (.builtin id))(ha:EE X e m)(hn:x≠"__name__":=by decide)(hdb:(x==("__debug__":Str))=false:=by decide)
 (he:AN [e] X.env=(false,eval e X.env)::AN [] X.env:=by rfl) (hpl:(backTo pos (AN [] X.env)).any (·.1)=false:=by rfl):EE X (.Call (.Name x p) [e] [] pos) (m1 g m):=
 p8 (a49 hc hg hm hv (A8 ha R6 he) hn hdb he hpl) fun _ _ _ h=>a8J h
theorem b20{T:String}{x:Str}{p pos:Pos}{e:AE}{g:c6->Option c6}{m:M}(hc:D1 X (.type T) (rC1 X.K g))(hg:Gl X x)(hm:X.mg x=none)(hv:bootBuiltins x=some (.type T))(ha:EE X e m)(hn:x≠"__name__":=by decide)(hdb:(x==("__debug__":Str))=false:=by decide)
 (he:AN [e] X.env=(false,eval e X.env)::AN [] X.env:=by rfl) (hpl:(backTo pos (AN [] X.env)).any (·.1)=false:=by rfl):EE X (.Call (.Name x p) [e] [] pos) (m1 g m):=
 p8 (a7f hc hg hm hv (A8 ha R6 he) hn hdb he hpl) fun _ _ _ h=>a8J h
def E8(x:c6):Option c6:=match x.rd with
 | .str z=>if z.length<=AL then some (.val (.int z.length)) else none
 |p=>match PyData.items? p with
  |some ps=>some (.val (.int ps.length))
  |none=>none
theorem J9:D1 X (.builtin "len") (rC1 X.K E8):=by
 intro pins s σ H xs us Q I rv h
 obtain⟨F,x,rx,rz,rfl,s0,h1,h2,k⟩:=h
 unfold E8 at h2
 split at h2
 ·rename_i z ez
  split at h2
  ·rename_i c
   cases h2
   have rr:=h1.rd s0
   rw [ez] at rr
   cases rr
   exact a3C pins s σ H _ us Q I rv ⟨z,rfl,c,k _ F H (o9.here s0 rfl)⟩
  ·cases h2
 ·split at h2
  ·rename_i ps e
   cases h2
   obtain⟨a,xs,rfl,hq,r⟩:=L5 s0 h1 e
   refine a3B pins s σ H _ us Q I rv ⟨a,xs,rfl,hq, ?_⟩
   rw [r.length]
   exact k _ F H (o9.here s0 rfl)
  ·cases h2
def a8a(x:c6):Option c6:=match PyData.items? x.rd with
 |some ps=>some (.own ps)
 |none=>none
theorem a9J:D1 X (.type "list") (rC1 X.K a8a):=by
 intro pins s σ H xs us Q I rv h
 obtain⟨F,x,rx,rz,rfl,s0,h1,h2,k⟩:=h
 unfold a8a at h2
 split at h2
 ·rename_i ps e
  cases h2
  obtain⟨a,xs,rfl,hq,r⟩:=L5 s0 h1 e
  exact a3D pins s σ H _ us Q I rv ⟨a,xs,rfl,hq,fun l hl=>k _ _ _ (o9.lst s0 hl r)⟩
 ·cases h2
def kindOf:PV->String
 | .none=>"NoneType"
 | .bool _=>"bool"
 | .int _=>"int"
 | .str _=>"str"
 | .list _=>"list"
 | .tuple _=>"tuple"
 | .dict _=>"dict"
def a1X(T:String)(p:PV):Bool:=kindOf p==T||(kindOf p=="bool" && T=="int")
def a8k:PV->Bool
 | .dict [(.str _,_)]=>true
 |_=>false
def a3M(T:String)(x:c6):Option c6:=bif a8k x.rd then none else some (.val (.bool (a1X T x.rd)))
def a7z(T:String):Prop:=T="int"\/T="bool"\/T="str"\/T="list"\/T="tuple"\/T="dict"
theorem a62{K:AD}{T:String}(h:a7z T):∀p:PV,PySem.W.kitOne K (.type (kindOf p)) (.type T)=some (a1X T p):=by
 intro p
 rcases h with rfl|rfl|rfl|rfl|rfl|rfl<;>cases p<;>kernel_rfl
theorem a3G{T:String}{e:AE}{m:M}{p p2 pos:Pos}(kt:a7z T)(hg:Gl X "isinstance")(hm:X.mg "isinstance"=none)(ha:EE X e m)(hT:PE X (.Name (AJ T) p2) (tC (.ty T)))
 (he:AN [e,.Name (AJ T) p2] X.env=(false,eval e X.env)::AN [.Name (AJ T) p2] X.env:=by rfl) (he2:AN [.Name (AJ T) p2] X.env=(false,eval (.Name (AJ T) p2) X.env)::AN [] X.env:=by rfl) (hpl:(backTo pos (AN [.Name (AJ T) p2] X.env)).any (·.1)=false:=by rfl)
 (hv:bootBuiltins "isinstance"=some (.builtin "isinstance"):=by rfl):
 EE X (.Call (.Name "isinstance" p) [e,.Name (AJ T) p2] [] pos) (m1 (a3M T) m):=by
 have hc:D1 X (.builtin "isinstance") (fun xs H Q=>∃F x rx,xs=[x,.ty T]/\f6 F H/\G8 X.K F H x rx/\a8k rx.rd=false/\Q (.bl (a1X T rx.rd)) H):=by
  intro pins s σ H xs us Q I rv h
  obtain⟨F,x,rx,rfl,s0,h1,nf,q⟩:=h
  obtain⟨u,u2,rfl,ru,ru2⟩:∃u1 u2,us=[u1,u2]/\i6 x u1/\i6 (.ty T) u2:=by
   cases rv with
   |cons p q=>
    cases q with
    |cons p' q'=>
     cases q'
     exact⟨_,_,rfl,p,p'⟩
  cases ru2
  have rr:=h1.rd s0
  have kk:=a62 (K:=X.K) kt rx.rd
  have fin:∀tk,EP X pins σ Q (.bool (a1X T rx.rd)) {s with toks:=tk}:=fun tk=>⟨.bl _,H,I.tok tk,rfl,q⟩
  cases hp:rx.rd with
  |none=>rw [hp] at rr kk fin;cases rr;cases ru;exact PySem.W.kia_one PySem.W.kitx_none I.kIn True.intro kk (fun z=>nomatch z) fin
  |bool b=>rw [hp] at rr kk fin;cases rr;cases ru;exact PySem.W.kia_one PySem.W.kitx_bool I.kIn True.intro kk (fun z=>nomatch z) fin
  |int b=>rw [hp] at rr kk fin;cases rr;obtain⟨t,rfl⟩:=ru;exact PySem.W.kia_one PySem.W.kitx_int I.kIn True.intro kk (fun z=>nomatch z) fin
  |str b=>rw [hp] at rr kk fin;cases rr;obtain⟨t,rfl⟩:=ru;exact PySem.W.kia_one PySem.W.kitx_str I.kIn True.intro kk (fun z=>nomatch z) fin
  |list ps=>
   rw [hp] at rr kk fin
   obtain⟨a,ys,rfl,hq,_⟩:=rr
   cases ru
   obtain⟨its,_,⟨o,n,e1,e2,_⟩,_⟩:=I.list hq
   exact PySem.W.kia_one PySem.W.kitx_list I.kIn ⟨o,e1,e2⟩ kk (fun z=>nomatch z) fin
  |tuple ps=>
   rw [hp] at rr kk fin
   obtain⟨a,ys,rfl,hq,_⟩:=rr
   cases ru
   obtain⟨its,_,⟨o,e1,e2,_⟩,_⟩:=I.tuple hq.sq
   exact PySem.W.kia_one PySem.W.kitx_tuple I.kIn ⟨o,e1,e2⟩ kk (fun z=>nomatch z) fin
  |dict ps=>
   rw [hp] at rr kk fin nf
   rcases rr with⟨a,_,rfl,hq,_⟩|⟨a,_,rfl,hq,_⟩|⟨x,_,rfl,_⟩
   ·cases ru
    obtain⟨_,_,_,_,o,_,_,e1,e2,_⟩:=I.hok a _ hq
    exact PySem.W.kia_one PySem.W.kitx_dict I.kIn ⟨o,e1,e2.1⟩ kk (fun z=>nomatch z) fin
   ·cases ru
    obtain⟨_,_,_,_,o,_,_,e1,e2,_⟩:=I.hok a _ hq
    exact PySem.W.kia_one PySem.W.kitx_dict I.kIn ⟨o,e1,e2.1⟩ kk (fun z=>nomatch z) fin
   ·cases nf
 exact p8 (a49 hc hg hm hv (A8 ha (A8 hT R6 he2) he) (by decide) (by decide) he hpl) fun σ H Q ⟨F,ρ,r,h1,h2,k⟩=>by
  obtain⟨rx,e1,h2⟩:=bind_some h2
  unfold a3M at h2
  cases nf:a8k rx.rd with
  |true=>rw [nf] at h2;cases h2
  |false=>
   rw [nf] at h2
   cases h2
   exact⟨F,ρ,rx,h1,e1,fun v F1 H1 o=>⟨F1,v,rx,rfl,o.x.fh,o.rep,nf,k _ F1 H1 (o9.val o.x rfl)⟩⟩
theorem J8.putC{K:AD}{F0 H0 F H:Hp}{σ:L2.St}{ρ:a8}{i:Nat}{c d:C7}{a:AB}{o:HO}(s:J8 K F0 H0 F H σ ρ)(e:ρ[i]?=some (some (.ow c)))(ea:σ[i]?=some (some (.ref a)))(r:F a=none->C9 K F (upd H a o) (.ref a) d):
 J8 K F0 H0 F (upd H a o) σ (ρ.set i (some (.ow d))):=by
 obtain⟨v,h1,rr0⟩:=s.e.at_ i _ e
 obtain⟨a',xs,rfl,fa,ha⟩:=C9.at_ rr0
 rw [ea] at h1;cases h1
 have na:H0 a=none:=s.nw i c a e ea
 have hi:i<ρ.length:=(Ad.mp e).1
 refine⟨⟨s.x.f,fun b o z=>by rw [d6 (f7 z na)];exact s.x.h _ _ z,fun b o z=>by rw [d6 (f7 z fa)];exact s.x.fh _ _ z,s.x.nw,s.x.nf⟩,⟨fun b o z=>by rw [d6 (f7 z fa)];exact s.e.fh _ _ z,by simp [s.e.len],fun j q ej=> ?_,fun j z ej=> ?_,fun j k z1 z2 c' hjk e1 e2 e3 e4=> ?_⟩,fun j z c' e1 e2=> ?_⟩
 ·rw [List.getElem?_set] at ej
  by_cases hij:i=j
  ·subst hij
   rw [if_pos rfl,if_pos hi] at ej
   cases ej
   exact⟨.ref a,ea,r fa⟩
  ·rw [if_neg hij] at ej
   obtain⟨v,h1,rr⟩:=s.e.at_ j q ej
   refine⟨v,h1, ?_⟩
   cases q with
   |val p=>exact rr
   |bo z=>exact absurd ej (s.e.nb j z)
   |ow z=>
    have key:∀b,v= .ref b->b≠a:=fun b hb hab=>by subst hab;subst hb;exact s.e.ap i j c z b hij e ej ea h1
    cases z with
    |lst z=>
     obtain⟨b,zs,rfl,fb,hb,rz⟩:=rr
     exact⟨b,zs,rfl,fb,by rw [d6 (key b rfl)];exact hb,rz⟩
    |dct z=>
     obtain⟨b,zs,rfl,fb,hb,rz⟩:=rr
     exact⟨b,zs,rfl,fb,by rw [d6 (key b rfl)];exact hb,rz⟩
    |txt z=>
     obtain⟨b,zs,rfl,fb,hb,rz⟩:=rr
     exact⟨b,zs,rfl,fb,by rw [d6 (key b rfl)];exact hb,rz⟩
 ·rw [List.getElem?_set] at ej
  by_cases hij:i=j
  ·subst hij;rw [if_pos rfl,if_pos hi] at ej;cases ej
  ·rw [if_neg hij] at ej;exact s.e.nb j z ej
 ·have own_at:∀(j:Nat) (z:C7),(ρ.set i (some (c6.ow d)))[j]?=some (some (c6.ow z))->∃z':C7,ρ[j]?=some (some (c6.ow z')):=fun j z h=>by
   rw [List.getElem?_set] at h
   by_cases hij:i=j
   ·subst hij;exact⟨c,e⟩
   ·rw [if_neg hij] at h;exact⟨z,h⟩
  obtain⟨y1,h1⟩:=own_at j z1 e1
  obtain⟨y2,h2⟩:=own_at k z2 e2
  exact s.e.ap j k y1 y2 c' hjk h1 h2 e3 e4
 ·rw [List.getElem?_set] at e1
  by_cases hij:i=j
  ·subst hij;rw [ea] at e2;cases e2;exact na
  ·rw [if_neg hij] at e1;exact s.nw j z c' e1 e2
theorem J8.put{K:AD}{F0 H0 F H:Hp}{σ:L2.St}{ρ:a8}{i:Nat}{ps qs:List PV}{a:AB}{ys:List V}(s:J8 K F0 H0 F H σ ρ)(e:ρ[i]?=some (some (.own ps)))(ea:σ[i]?=some (some (.ref a)))(r:f9 K F qs ys):
 J8 K F0 H0 F (upd H a (.lst ys)) σ (ρ.set i (some (.own qs))):=s.putC e ea fun fa=>⟨a,ys,rfl,fa,g5,r⟩
theorem J8.putD{K:AD}{F0 H0 F H:Hp}{σ:L2.St}{ρ:a8}{i:Nat}{ps qs:List (List c9×PV)}{a:AB}{ys:List (List c9×V)}(s:J8 K F0 H0 F H σ ρ)(e:ρ[i]?=some (some (.dct ps)))(ea:σ[i]?=some (some (.ref a)))(r:n8 K F qs ys):
 J8 K F0 H0 F (upd H a (.dT ys)) σ (ρ.set i (some (.dct qs))):=s.putC e ea fun fa=>⟨a,ys,rfl,fa,g5,r⟩
def D8(i:Nat)(m:M):MS:=fun ρ=>(m ρ).bind fun r=>r.toVal.bind fun p=>match ρ[i]? with
 |some (some (.ow (.lst ps)))=>if ps.length<AL then some (.nx (ρ.set i (some (.own (ps++[p]))))) else none
 |_=>none
theorem B5(i:Nat){x:Str}{p apos cpos pos:Pos}{e:AE}{m:M}(hx:PE X (.Name x p) (a0I i))(ha:EE X e m)
 (hbase:attributeBase (.Name x p) "append" X.env (eval (.Name x p) X.env)=eval (.Name x p) X.env:=by rfl)
 (hfew:((backTo cpos (AN [e] X.env)).all (fun x=> !x.1)&&(backToKw cpos (keywordEach [] X.env)).all (fun x=>x.1.isSome)
  && decide ([e].length+([]:List Keyword).length+(if([]:List Keyword).isEmpty then 0 else 1)<30))=true:=by rfl)
 (hline:(apos.endLine==cpos.line)=true:=by rfl) (hs:AN [e] X.env=(false,eval e X.env)::AN [] X.env:=by rfl) (hplain:(backTo cpos (AN [] X.env)).any (·.1)=false:=by rfl)
 (hsw:swapsWith (.Call (.Attribute (.Name x p) "append" apos) [e] [] cpos) none pos.line X.env=pure false:=by rfl):
 ES X (.Expr (.Call (.Attribute (.Name x p) "append" apos) [e] [] cpos) pos) (D8 i m):=
 q9 (a6p (b07 PySem.F.plainAttrs_list PySem.F.slot_list_append PySem.F.type_list_append a3i hx (A8 ha R6 hs) hbase hfew hline hs hplain) hsw) fun D σ H ⟨F0,H0,F,ρ,fl,so,e,fin⟩=>by
  obtain⟨r,e1,e⟩:=bind_some e
  obtain⟨q,e2,e⟩:=bind_some e
  split at e
  ·rename_i ps eo
   split at e
   ·rename_i c
    cases e
    obtain⟨v,h1,a,xs,rfl,fa,ha',rl⟩:=so.e.at_ i _ eo
    refine⟨.ref a,h1,.inl ⟨rfl,xs,H9.of ha'⟩,F,ρ,r,so.e,e1,fun w F1 H1 o=> ?_⟩
    obtain⟨F2,o2⟩:=o.toVal e2
    have so2:=so.ext o2.x
    refine⟨a,xs,w,rfl,rfl,o.x.h _ _ ha',by rw [rl.length];exact c, ?_⟩
    exact fin σ F2 _ o2.x.f (so2.put eo h1 ((f9.mono o2.x.f _ rl).append ⟨w,[],rfl,o2.rep,rfl⟩))
   ·cases e
  ·cases e
def b0e(i:Nat)(g:c6->c6->Option c6)(m:M):MS:=fun ρ=>match ρ[i]? with
 |some (some (.val x))=>(m ρ).bind fun y=>(g (.val x) y).bind fun z=>if z.nb=true then some (.nx (ρ.set i (some z))) else none
 |_=>none
theorem a5G{i:Nat}{x:Str}{e:AE}{m:M}{g:c6->c6->Option c6}{op:Operator}{pos pos':Pos}(hN:X.N.Nodup)(he:EE X e m)(ho:OpM X (inplaceOp op) g)(hi:X.N[i]?=some x:=by rfl)(hx:Loc X.env.scope x:=by exact Or.inl rfl)(hf:X.fn x=true\/X.env.scope.names.lookup x=some .local:=by first|exact .inl rfl|exact .inr rfl|assumption):
 ES X (.AugAssign (.Name x pos') op e pos) (b0e i g m):=
 q9 (b2p hN hi hx he (ti:=rM2 X.K g) ho hf) fun D σ H ⟨F0,H0,F,ρ,fl,so,e,fin⟩=>by
  unfold b0e at e
  split at e
  ·rename_i p ep
   obtain⟨y,e1,e⟩:=bind_some e
   obtain⟨z,e2,e⟩:=bind_some e
   split at e
   ·rename_i c
    cases e
    obtain⟨v,h1,rv⟩:=so.e.at_ i _ ep
    exact⟨v,h1,F,ρ,y,so.e,e1,fun u F1 H1 o=>⟨F1,.val p,y,z,o.x.fh,rv.ext o.x,o.rep,e2,fun t F2 H2 o2=>fin _ F2 H2 (o.x.f.trans o2.x.f) ((so.ext o.x).set o2 c i)⟩⟩
   ·cases e
  ·cases e
theorem a2n:OpM X (inplaceOp .Add) (gI fun i j=> .int (i+j)):=b06 a97 fun _ _ _=>rfl
def Z2(i:Nat)(n:MS):MS:=fun ρ=>match ρ[i]? with
 |some (some (.ow (.lst ps)))=>n (ρ.set i (some (.val (.list ps))))
 |_=>n ρ
theorem J8.frz{K:AD}{F0 H0 F H:Hp}{σ:L2.St}{ρ:a8}{i:Nat}{ps:List PV}(s:J8 K F0 H0 F H σ ρ)(e:ρ[i]?=some (some (.own ps))):∃F',f6 F F'/\J8 K F0 H0 F' H σ (ρ.set i (some (.val (.list ps)))):=by
 obtain⟨v,h1,a,xs,rfl,fa,ha,rl⟩:=s.e.at_ i _ e
 have na:H0 a=none:=s.nw i _ a e h1
 have hi:i<ρ.length:=(Ad.mp e).1
 have up:f6 F (upd F a (.lst xs)):=B0 fa
 have fh:f6 (upd F a (.lst xs)) H:=fun b o z=>by
  by_cases hb:b=a
  ·subst hb;rw [g5] at z;cases z;exact ha
  ·rw [d6 hb] at z;exact s.e.fh _ _ z
 refine⟨upd F a (.lst xs),up,⟨⟨s.x.f.trans up,s.x.h,fh,fun b o z y t=>by rw [d6 (f7 y na)];exact s.x.nw b o z y t,a8C s.x.nf⟩,⟨fh,by simp [s.e.len],fun j q ej=> ?_,fun j z ej=> ?_,fun j k z1 z2 c hjk e1 e2 e3 e4=> ?_⟩,fun j z c e1 e2=> ?_⟩⟩
 ·rw [List.getElem?_set] at ej
  by_cases hij:i=j
  ·subst hij
   rw [if_pos rfl,if_pos hi] at ej
   cases ej
   exact⟨.ref a,h1,a,xs,rfl,H9.of g5,f9.mono up _ rl⟩
  ·rw [if_neg hij] at ej
   obtain⟨v,h2,rr⟩:=s.e.at_ j q ej
   refine⟨v,h2, ?_⟩
   cases q with
   |val p=>exact r9.mono up p rr
   |bo z=>exact absurd ej (s.e.nb j z)
   |ow z=>
    have key:∀b,v= .ref b->b≠a:=fun b hb hab=>by subst hab;subst hb;exact s.e.ap i j _ z b hij e ej h1 h2
    cases z with
    |lst z=>
     obtain⟨b,zs,rfl,fb,hb,rz⟩:=rr
     exact⟨b,zs,rfl,by rw [d6 (key b rfl)];exact fb,hb,f9.mono up _ rz⟩
    |dct z=>
     obtain⟨b,zs,rfl,fb,hb,rz⟩:=rr
     exact⟨b,zs,rfl,by rw [d6 (key b rfl)];exact fb,hb,n8.mono up _ rz⟩
    |txt z=>
     obtain⟨b,zs,rfl,fb,hb,rz⟩:=rr
     exact⟨b,zs,rfl,by rw [d6 (key b rfl)];exact fb,hb,n8.mono up _ rz⟩
 ·rw [List.getElem?_set] at ej
  by_cases hij:i=j
  ·subst hij;rw [if_pos rfl,if_pos hi] at ej;cases ej
  ·rw [if_neg hij] at ej;exact s.e.nb j z ej
 ·have own_at:∀(j:Nat) (z:C7),(ρ.set i (some (c6.val (.list ps))))[j]?=some (some (c6.ow z))->ρ[j]?=some (some (c6.ow z)):=fun j z h=>by
   rw [List.getElem?_set] at h
   by_cases hij:i=j
   ·subst hij;rw [if_pos rfl,if_pos hi] at h;cases h
   ·rw [if_neg hij] at h;exact h
  exact s.e.ap j k z1 z2 c hjk (own_at j z1 e1) (own_at k z2 e2) e3 e4
 ·rw [List.getElem?_set] at e1
  by_cases hij:i=j
  ·subst hij;rw [if_pos rfl,if_pos hi] at e1;cases e1
  ·rw [if_neg hij] at e1;exact s.nw j z c e1 e2
theorem a3J(i:Nat){st:Stmt}{n:MS}(h:ES X st n):ES X st (Z2 i n):=q9 h fun D σ H ⟨F0,H0,F,ρ,fl,so,e,fin⟩=>by
 unfold Z2 at e
 split at e
 ·rename_i ps eo
  obtain⟨F',s,so'⟩:=so.frz eo
  exact⟨F0,H0,F',_,fl,so',e,fin.later s⟩
 ·exact⟨F0,H0,F,ρ,fl,so,e,fin⟩
end
def b2B(K:AD)(n:Nat)(a:AB):Option (List (c9×PV)):=match K.lookup a with
 |some ⟨.type "dict",none,.dict es _,⟨[]⟩⟩=>(a0U es.toList).bind (M7 K n)
 |_=>none
def a9k(K:AD)(n:Nat)(a:AB):Option (List (List c9×PV)):=match K.lookup a with
 |some ⟨.type "dict",none,.dict es _,⟨[]⟩⟩=>(a4K K es.toList).bind (E3 K n)
 |_=>none
def T7(K:AD)(a:AB):List Int:=match K.lookup a with
 |some ⟨_,_,.dict es _,_⟩=>es.toList.map (·.hash)
 |_=>[]
theorem Y1{κ:Type}{K:AD}{n:Nat}:∀{kvs:List (κ×AA)} {tbl:List (κ×PV)},M7 K n kvs=some tbl->tbl.map (·.1)=kvs.map (·.1)
 |[],_,h=>by cases h;rfl
 |(k,u)::r,tbl,h=>by
  simp only [M7] at h
  obtain⟨q,e1,h⟩:=bind_some h
  obtain⟨t,e2,h⟩:=bind_some h
  cases h
  rw [AM,AM,Y1 e2]
theorem U3{K:AD}{n:Nat}:∀{kvs:List (List c9×AB×AA)} {tbl:List (List c9×PV)},E3 K n kvs=some tbl->tbl.map (·.1)=kvs.map (·.1)
 |[],_,h=>by cases h;rfl
 |(k,b,u)::r,tbl,h=>by
  simp only [E3] at h
  obtain⟨q,e1,h⟩:=bind_some h
  obtain⟨t,e2,h⟩:=bind_some h
  cases h
  rw [AM,AM,U3 e2]
theorem a4X{κ α β:Type}{γ:Type}(f:κ->γ):∀{l:List (κ×α)} {m:List (κ×β)},l.map (·.1)=m.map (·.1)->l.map (fun x=>f x.1)=m.map (fun x=>f x.1):=fun {l m} h=>by
 have h1:l.map (fun x=>f x.1)=(l.map (·.1)).map f:=by simp [BC,Function.comp_def]
 have h2:m.map (fun x=>f x.1)=(m.map (·.1)).map f:=by simp [BC,Function.comp_def]
 rw [h1,h2,h]
theorem b2D{P:AG}{w:AF}{K:AD}{a:AB}{tbl:List (c9×PV)}(n:Nat)(t:b2B K n a=some tbl)(h:T7 K a=tbl.map (fun kv=>a6Y w kv.1))(nd:(tbl.map (·.1)).Nodup):Tab P w K a tbl:=by
 unfold b2B at t
 split at t
 ·rename_i es ep e
  obtain⟨kvs,e1,e2⟩:=bind_some t
  have hk:=Y1 e2
  refine⟨es,ep,kvs,n,e,e1, ?_,e2,by rw [<-hk];exact nd⟩
  unfold T7 at h
  rw [e] at h
  rw [<-a4X (a6Y w) hk]
  exact h
 ·cases t
theorem b0M{P:AG}{w:AF}{K:AD}{a:AB}{tbl:List (List c9×PV)}(n:Nat)(t:a9k K n a=some tbl)(h:T7 K a=tbl.map (fun kv=>(tupleKind (g9 P w)).hash kv.1))(nd:(tbl.map (·.1)).Nodup):a9D P w K a tbl:=by
 unfold a9k at t
 split at t
 ·rename_i es ep e
  obtain⟨kvs,e1,e2⟩:=bind_some t
  have hk:=U3 e2
  refine⟨es,ep,kvs,n,e,e1, ?_,e2,by rw [<-hk];exact nd⟩
  unfold T7 at h
  rw [e] at h
  rw [<-a4X (fun k=>(tupleKind (g9 P w)).hash k) hk]
  exact h
 ·cases t
def u6(P:AG)(w:AF)(K:AD)(mg:Str->Option AA)(base:Heap)(x:Str)(ps:List Str)(k:Nat)(g:List PV->Option c6):Prop:=
 ∃f fd,E2 P w K mg base CX0 k f fd ps (spP K ps.length g)/\mg x=some (.ref f)/\PySem.W.keepIn K (.ref f)=true/\X6 K fd ps []
theorem b0I{K:AD}{n:Nat}{g g':List PV->Option c6}(h:∀ps r,g' ps=some r->g ps=some r):∀vs H Q E,spP K n g' vs H Q E->spP K n g vs H Q E:=
 fun vs H Q E ⟨F,ps,r,s,rl,hl,e,k⟩=>⟨F,ps,r,s,rl,hl,h _ _ e,k⟩
theorem u6.imp{P:AG}{w:AF}{K:AD}{mg:Str->Option AA}{base:Heap}{x:Str}{ps:List Str}{k:Nat}{g g':List PV->Option c6}(d:u6 P w K mg base x ps k g)(h:∀qs r,g' qs=some r->g qs=some r):u6 P w K mg base x ps k g':=by
 obtain⟨f,fd,G,r⟩:=d
 exact⟨f,fd,G.imp (b0I h),r⟩
section
variable {X:Cx}
theorem j0{k k':Nat}{ps:List Str}{g:List PV->Option c6}{x:Str}{p pos:Pos}{e:AE}{es:List AE}{m:MA}
 (d:u6 X.prog X.w X.K X.mg X.base x ps k g) (hr:A0 k' X.A) (hk:k<=k') (hg:Gl X x) (hn:∀ρ qs,m ρ=some qs->qs.length=ps.length) (ha:EA X (e::es) m)
 (hdb:(x==("__debug__":Str))=false:=by decide) (he:AN (e::es) X.env=(false,eval e X.env)::AN es X.env:=by rfl) (hpl:(backTo pos (AN es X.env)).any (·.1)=false:=by rfl):
 EE X (.Call (.Name x p) (e::es) [] pos) (j6 g m):=by
 obtain⟨f,fd,G,h1,h2,h3⟩:=d
 exact a9M G (hr.mono hk) hg h1 h2 h3 hn ha hdb he hpl
end
def a5i(K:AD):Sp:=fun vs H Q _=>∃(a:AB) (ns:List Int),vs=[.ref a]/\H9 K H a (ns.map V.int)/\ns.length<=63/\∀H',Q (.bl true) H'
theorem a3p{K:AD}{H:Hp}:∀ns:List Int,f9 K H (ns.map PyData.int) (ns.map V.int)
 |[]=>rfl
 |n::ns=>⟨.int n,_,rfl,rfl,a3p ns⟩
theorem b0c{K:AD}{g:List PV->Option c6}(h:∀ns:List Int,ns.length<=63->g [.list (ns.map .int)]=some (.val (.bool true))):∀vs H Q E,a5i K vs H Q E->spP K 1 g vs H Q E:=
 fun vs H Q E ⟨a,ns,e,hs,hl,k⟩=>by
  subst e
  exact⟨H,[.list (ns.map .int)],_,PU.f6.refl H,⟨.ref a,[],rfl,⟨a,_,rfl,hs,a3p ns⟩,rfl⟩,rfl,h ns hl,fun v F' H' o=>by
   have:v= .bl true:=o.rep
   subst this
   exact k H'⟩
theorem b38{l:PySem.W.OpenLaw}{q:AG}{loose:List Str}{XP:(Str->Option AA)->Heap->Prop}{YP:AF->Heap->Prop}{d:DefRec}{K:Params->AD}{x:Str}{k:Nat}(hk:k<=40)(hn:l.most=some 63)(hdf:d.params.defaults=[])
 (hY:∀(w:AF) (h:Heap),YP w h->(K w.params).In h)
 (F:∀(w:AF) (mg:Str->Option AA) (fa:AB) (h:Heap),(K w.params).In h->h.Ns mainGlobals mg->mg d.name=some (.ref fa)->
  ∃fd:FuncData,(∀(s:AC) (u:AA),BindsTo s fd ⟨[u],[]⟩ [(x,u)])/\∀base:Heap,(K w.params).In base->base.Ns mainGlobals mg->E2 l.prog w (K w.params) mg base CX0 k fa fd [x] (a5i (K w.params))):
 PySem.W.WalkO q loose XP YP l.row.toRowW d [] (fun f vs=>PySem.call f vs):=
 L2.b0S (n:=63) (k:=40) (x:=x) (CX:=fun _=>CX0) (sp:=fun w=>a5i (K w.params)) hn (by decide) hdf ⟨rfl,by decide,by decide⟩ hY (fun w mg fa h a b c=>let ⟨fd,h1,h2⟩:=F w mg fa h a b c;⟨fd,h1,fun base x y=>(h2 base x y).mono hk⟩) (fun _ _ a ns hl _ hS=>⟨a,ns,rfl,hS,hl,fun _=>rfl⟩) fun _ _ _ _ _ z=>z
def a92(x y:c6):Option c6:=gIc a3x (fun i j=> .int (i*j)) x y
theorem a8L{X:Cx}:OpM X (binaryOp .Mult) a92:=b0r
theorem E7(i j:Int):U1 (.val (.int i)) (.val (.int j))=some (.val (.int (i+j))):=Eq.trans rfl rfl
theorem b1G(f:Int->Int->PV)(i j:Int):gI f (.val (.int i)) (.val (.int j))=some (.val (f i j)):=Eq.trans rfl rfl
theorem a1g{C:Int->Int->Prop}[∀i j,Decidable (C i j)](f:Int->Int->PV){i j:Int}(h:C i j):gIc C f (.val (.int i)) (.val (.int j))=some (.val (f i j)):=by
 show(if okC C i j=true then some (c6.val (f i j)) else none)=_
 rw [if_pos (Z6.mpr h)]
theorem b1I{i j:Int}(h: -18446744073709551616<i/\i<18446744073709551616):a92 (.val (.int i)) (.val (.int j))=some (.val (.int (i*j))):=a1g _ (.inl (by lia))
theorem b1J{i j:Int}(h: -18446744073709551616<j/\j<18446744073709551616):a92 (.val (.int i)) (.val (.int j))=some (.val (.int (i*j))):=a1g _ (.inr (by lia))
theorem L3{f:Int->Int->PV}{i j:Int}(h:0<j):gIc (fun _ j=>0<j) f (.val (.int i)) (.val (.int j))=some (.val (f i j)):=a1g _ h
theorem a74{f:Int->Int->PV}{i j:Int}(h:0<j/\j<1073741824):gIc a5q f (.val (.int i)) (.val (.int j))=some (.val (f i j)):=a1g _ h
theorem a76{x y:c6}(h:j8 x.rd 50=true/\j8 y.rd 50=true):gEq x y=some (.val (.bool (PyData.eqv x.rd y.rd))):=by simp [gEq,h]
theorem a3O{x y:c6}(h:j8 x.rd 50=true/\j8 y.rd 50=true):gNe x y=some (.val (.bool (!PyData.eqv x.rd y.rd))):=by simp [gNe,h]
theorem v9(ps:List PV):E8 (.val (.list ps))=some (.val (.int ps.length)):=Eq.trans rfl rfl
theorem a4R(ps:List PV):E8 (.bor ps)=some (.val (.int ps.length)):=Eq.trans rfl rfl
theorem Q2{ps:List PV}{i:Int}{p:PV}(h:L2.atI ps i=some p):B1 (.val (.list ps)) (.val (.int i))=some (.val p):=by simp [B1,c6.rd,C7.rd,PyData.items?,h]
theorem a1h{ps:List PV}{i:Int}{p:PV}(h:L2.atI ps i=some p):B1 (.val (.tuple ps)) (.val (.int i))=some (.val p):=by simp [B1,c6.rd,C7.rd,PyData.items?,h]
theorem Y8{ps:List PV}{i:Int}{p:PV}(h:L2.atI ps i=some p):B1 (.bor ps) (.val (.int i))=some (.val p):=by simp [B1,c6.rd,C7.rd,PyData.items?,h]
theorem Q3(p:PV)(ps:List PV):B1 (.val (.tuple (p::ps))) (.val (.int 0))=some (.val p):=by
 refine a1h ?_
 have h:(0:Int)<(((p::ps).length:Nat):Int):=by simp only [AU];lia
 unfold L2.atI L2.ixN
 rw [if_pos (by decide),if_pos h]
 rfl
theorem L1(p q:PV)(ps:List PV):B1 (.val (.tuple (p::q::ps))) (.val (.int 1))=some (.val q):=by
 refine a1h ?_
 have h:(1:Int)<(((p::q::ps).length:Nat):Int):=by simp only [AU];lia
 unfold L2.atI L2.ixN
 rw [if_pos (by decide),if_pos h]
 rfl
theorem Q4(p q r:PV)(ps:List PV):B1 (.val (.tuple (p::q::r::ps))) (.val (.int 2))=some (.val r):=by
 refine a1h ?_
 have h:(2:Int)<(((p::q::r::ps).length:Nat):Int):=by simp only [AU];lia
 unfold L2.atI L2.ixN
 rw [if_pos (by decide),if_pos h]
 rfl
theorem a79(p q r t:PV)(ps:List PV):B1 (.val (.tuple (p::q::r::t::ps))) (.val (.int 3))=some (.val t):=by
 refine a1h ?_
 have h:(3:Int)<(((p::q::r::t::ps).length:Nat):Int):=by simp only [AU];lia
 unfold L2.atI L2.ixN
 rw [if_pos (by decide),if_pos h]
 rfl
theorem l6(g:c6->c6->Option c6)(ma mb:M)(ρ:a8):m2 g ma mb ρ=(ma ρ).bind fun x=>(mb ρ).bind fun y=>g x y:=Eq.trans rfl rfl
theorem D0(g:c6->Option c6)(ma:M)(ρ:a8):m1 g ma ρ=(ma ρ).bind g:=Eq.trans rfl rfl
theorem n9(p:PV)(ρ:a8):mC p ρ=some (.val p):=Eq.trans rfl rfl
theorem g0(p:PV)(ρ:a8):a9 0 (some (.val p)::ρ)=some (.val p):=Eq.trans rfl rfl
theorem J4(p:List PV)(ρ:a8):a9 0 (some (.own p)::ρ)=some (.bor p):=Eq.trans rfl rfl
theorem i3(n:Nat)(r:Option c6)(ρ:a8):a9 (n+1) (r::ρ)=a9 n ρ:=Eq.trans rfl rfl
theorem f8(ρ:a8):c7 ρ=some []:=Eq.trans rfl rfl
theorem d8(m:M)(r:MA)(ρ:a8):a5 m r ρ=((m ρ).bind c6.toVal).bind fun p=>(r ρ).bind fun ps=>some (p::ps):=Eq.trans rfl rfl
theorem d9(p:PV):(c6.val p).toVal=some p:=Eq.trans rfl rfl
theorem a3t(p:List PV):(c6.own p).toVal=some (.list p):=Eq.trans rfl rfl
theorem p7(m:MA)(ρ:a8):B2 m ρ=(m ρ).bind fun ps=>if ps.length<=AL then some (.val (.tuple ps)) else none:=Eq.trans rfl rfl
theorem C4(m:MA)(ρ:a8):W6 m ρ=(m ρ).bind fun ps=>if ps.length<=AL then some (.own ps) else none:=Eq.trans rfl rfl
theorem i4(g:List PV->Option c6)(m:MA)(ρ:a8):j6 g m ρ=(m ρ).bind g:=Eq.trans rfl rfl
def a9F(i:Nat)(ρ:a8)(r:c6):Option Fl:=if r.nb=true then some (.nx (ρ.set i (some r))) else none
theorem j5(i:Nat)(m:M)(ρ:a8):x6 i m ρ=(m ρ).bind (a9F i ρ):=Eq.trans rfl rfl
theorem u9(i:Nat)(ρ:a8)(p:PV):a9F i ρ (.val p)=some (.nx (ρ.set i (some (.val p)))):=Eq.trans rfl rfl
theorem b1p(i:Nat)(ρ:a8)(p:List PV):a9F i ρ (.own p)=some (.nx (ρ.set i (some (.own p)))):=Eq.trans rfl rfl
def b2u(r:c6):Option Fl:=if r.nb=true then some (.rt r) else none
theorem l9(m:M)(ρ:a8):C5 m ρ=(m ρ).bind b2u:=Eq.trans rfl rfl
theorem A9(p:PV):b2u (.val p)=some (.rt (.val p)):=Eq.trans rfl rfl
theorem b2v(p:List PV):b2u (.own p)=some (.rt (.own p)):=Eq.trans rfl rfl
def b2x(n:MS):Fl->Option Fl
 | .nx ρ=>n ρ
 |f=>some f
theorem g7(m n:MS)(ρ:a8):l7 m n ρ=(m ρ).bind (b2x n):=Eq.trans rfl rfl
theorem i5(n:MS)(ρ:a8):b2x n (.nx ρ)=n ρ:=Eq.trans rfl rfl
theorem a6y(n:MS)(r:c6):b2x n (.rt r)=some (.rt r):=Eq.trans rfl rfl
def ifK(m n:MS)(ρ:a8)(b:Bool):Option Fl:=if b=true then m ρ else n ρ
theorem k8(c:MT)(m n:MS)(ρ:a8):W5 c m n ρ=(c ρ).bind (ifK m n ρ):=Eq.trans rfl rfl
theorem a3a(m n:MS)(ρ:a8):ifK m n ρ true=m ρ:=Eq.trans rfl rfl
theorem O3(m n:MS)(ρ:a8):ifK m n ρ false=n ρ:=Eq.trans rfl rfl
theorem o0(ρ:a8):G0 ρ=some (.nx ρ):=Eq.trans rfl rfl
def b3p:Fl->Option c6
 | .rt r=>some r
 | .nx _=>some (.val .none)
 |_=>none
theorem k0(n:Nat)(b:MS)(ps:List PV):G3 n b ps=(b (ps.map (fun p=>some (c6.val p))++AT n none)).bind b3p:=Eq.trans rfl rfl
theorem n6(r:c6):b3p (.rt r)=some r:=Eq.trans rfl rfl
theorem Z4(m:M)(ρ:a8):mtV m ρ=(m ρ).bind tru:=Eq.trans rfl rfl
theorem m4(m:M)(ρ:a8):mtB m ρ=(m ρ).bind a2T:=Eq.trans rfl rfl
theorem r8(b:Bool):a2T (.val (.bool b))=some b:=Eq.trans rfl rfl
theorem a5j(b:Bool):tru (.val (.bool b))=some b:=Eq.trans rfl rfl
theorem L8(c:MT)(ρ:a8):Z3 c ρ=(c ρ).map not:=Eq.trans rfl rfl
def orK(d:MT)(ρ:a8)(b:Bool):Option Bool:=if b=true then some true else d ρ
theorem a2g(c d:MT)(ρ:a8):a67 c d ρ=(c ρ).bind (orK d ρ):=Eq.trans rfl rfl
theorem a8N(d:MT)(ρ:a8):orK d ρ false=d ρ:=Eq.trans rfl rfl
def b3I(n:M)(ρ:a8)(r:c6):Option c6:=(a2T r).bind fun b=>if b=true then n ρ else some (.val (.bool false))
theorem a8u(m n:M)(ρ:a8):b1T m n ρ=(m ρ).bind (b3I n ρ):=Eq.trans rfl rfl
def b3c:c6->Option c6
 | .val (.int i)=>some (.val (.int (-i)))
 |_=>none
theorem a8w(m:M)(ρ:a8):a2R m ρ=(m ρ).bind b3c:=Eq.trans rfl rfl
theorem b10(i:Int):b3c (.val (.int i))=some (.val (.int (-i))):=Eq.trans rfl rfl
theorem a78(T:String)(p:PV):a3M T (.val p)=bif a8k p then none else some (.val (.bool (a1X T p))):=Eq.trans rfl rfl
theorem a8l(i:Int):a8k (.int i)=false:=Eq.trans rfl rfl
theorem b2U{α:Type}(a b:α):(bif false then a else b)=b:=Eq.trans rfl rfl
theorem a51(p:PV):(c6.val p).rd=p:=Eq.trans rfl rfl
def b3B(tbl:List (c9×PV))(r:c6):Option c6:=(a6m r.rd).bind fun k=>(u7 tbl k).map .val
theorem a8z(tbl:List (c9×PV))(m:M)(ρ:a8):b1X tbl m ρ=(m ρ).bind (b3B tbl):=Eq.trans rfl rfl
theorem b2C(tbl:List (c9×PV))(x:Str):b3B tbl (.val (.str x))=(u7 tbl (.inr x)).map .val:=Eq.trans rfl rfl
def b1g(tbl:List (List c9×PV)):c6->Option c6
 | .val (.tuple ps)=>(N2 ps).bind fun k=>(u7 tbl k).map .val
 |_=>none
theorem a66(tbl:List (List c9×PV))(m:M)(ρ:a8):a8y tbl m ρ=(m ρ).bind (b1g tbl):=Eq.trans rfl rfl
theorem b0L(tbl:List (List c9×PV))(ps:List PV):b1g tbl (.val (.tuple ps))=(N2 ps).bind fun k=>(u7 tbl k).map .val:=Eq.trans rfl rfl
def b3C(is:List Nat)(ρ:a8):c6->Option Fl
 | .val (.tuple ps)=>if ps.length=is.length then some (.nx (setAll ρ is (ps.map .val))) else none
 |_=>none
theorem a4W(is:List Nat)(m:M)(ρ:a8):b0f is m ρ=(m ρ).bind (b3C is ρ):=Eq.trans rfl rfl
theorem a9p(i j:Nat)(ρ:a8)(p q:PV):b3C [i,j] ρ (.val (.tuple [p,q]))=some (.nx ((ρ.set i (some (.val p))).set j (some (.val q)))):=Eq.trans rfl rfl
theorem x8(it:MI)(tg:PV->a8->Option a8)(body:MS)(ρ:a8):W4 it tg body ρ=(it ρ).bind fun ps=>D4 body tg ps ρ:=Eq.trans rfl rfl
def b1c:List PV->Option (List PV)
 |[.int j]=>if inR j=true then some (W9 0 j) else none
 |_=>none
theorem a3h(m:MA)(ρ:a8):a4V m ρ=(m ρ).bind b1c:=Eq.trans rfl rfl
theorem a6t{j:Int}(h: -4611686018427387904<=j/\j<4611686018427387904):b1c [.int j]=some (W9 0 j):=by
 show(if inR j=true then some (W9 0 j) else none)=_
 rw [if_pos (a3S.mpr (by lia))]
theorem a8b{p:PV}(h:j8 p 50=true):gNe (.val p) (.val p)=some (.val (.bool false)):=by
 rw [a3O (x:= .val p) (y:= .val p) ⟨h,h⟩,a51,a4M p 50 h]
 rfl
theorem sz(n:Nat):(n<=AL)=(n<=16777216):=by rw [sizeLine_eq]
end PU
namespace L2
open PySem PySem.Spec PyProof.Rows
section
variable {M:Model}{A:AI}{E:AA->AC->Prop}{s:AC}
end
section
variable {prog:AG}{w:AF}{A:AI}{R:Result->AC->Prop}{s:AC}
end
section
variable {X:Cx}{elt iter tg:AE}{ifs:List AE}{scope:Scope}{N0 ys:List Str}{wi:TI}{g:TG}{tc:TT}{te:TE}{pos:Pos}
end
section
variable {X:Cx}{elt iter tg:AE}{ifs:List AE}{scope:Scope}{N0 ys:List Str}{wi:TI}{g:TG}{tc:TT}{te:TE}{pos:Pos}
end
section
variable {X:Cx}{elt iter tg:AE}{ifs:List AE}{scope:Scope}{N0 ys:List Str}{wi:TI}{g:TG}{tc:TT}{te:TE}{pos:Pos}
end
end L2
namespace PU
open PySem PySem.Spec PyProof.Rows L2
theorem p9.set{K:AD}{F H:Hp}{σ:L2.St}{ρ:a8}{p:PV}{x:V}(e:p9 K F H σ ρ)(r:r9 K F p x)(i:Nat):p9 K F H (σ.set i (some x)) (ρ.set i (some (.val p))):=by
 refine⟨e.fh,by simp [e.len],fun j q h=> ?_,fun j ps h=> ?_,fun j k ps qs a hjk h1 h2 h3 h4=> ?_⟩
 ·rw [List.getElem?_set] at h ⊢
  by_cases hij:i=j
  ·subst hij
   rw [if_pos rfl] at h ⊢
   rw [e.len]
   split at h
   ·rename_i c;cases h;rw [if_pos c];exact⟨x,rfl,r⟩
   ·cases h
  ·rw [if_neg hij] at h ⊢;exact e.at_ j q h
 ·rw [List.getElem?_set] at h
  by_cases hij:i=j
  ·subst hij
   rw [if_pos rfl] at h
   split at h<;>cases h
  ·rw [if_neg hij] at h;exact e.nb j ps h
 ·have get:∀(j:Nat) (ps:C7),(ρ.set i (some (c6.val p)))[j]?=some (some (c6.ow ps))->i≠j/\ρ[j]?=some (some (c6.ow ps)):=fun j ps h=>by
   rw [List.getElem?_set] at h
   by_cases hij:i=j
   ·subst hij
    rw [if_pos rfl] at h
    split at h<;>cases h
   ·rw [if_neg hij] at h;exact⟨hij,h⟩
  obtain⟨n1,h1⟩:=get j ps h1
  obtain⟨n2,h2⟩:=get k qs h2
  rw [List.getElem?_set_ne n1] at h3
  rw [List.getElem?_set_ne n2] at h4
  exact e.ap j k ps qs a hjk h1 h2 h3 h4
theorem p9.setAll{K:AD}{F H:Hp}{n:Nat}:∀{is:List Nat} {xs:List V} {ps:List PV} {σ:L2.St} {ρ:a8},(∀i∈is,n<=i)->p9 K F H σ ρ->f9 K F ps xs->p9 K F H (PU.setAll σ is xs) (PU.setAll ρ is (ps.map .val))/\∀(j:Nat),j<n->(PU.setAll σ is xs)[j]?=σ[j]?
 |[],xs,ps,σ,ρ,_,s,r=>by
  have e1:PU.setAll σ [] xs=σ:=by cases xs<;>rfl
  have e2:PU.setAll ρ [] (ps.map c6.val)=ρ:=by cases ps<;>rfl
  rw [e1,e2];exact⟨s,fun _ _=>rfl⟩
 |i::is,xs,[],σ,ρ,_,s,r=>by cases r;exact⟨s,fun _ _=>rfl⟩
 |i::is,xs,p::ps,σ,ρ,h,s,⟨v,t,e,rp,rl⟩=>by
  subst e
  obtain⟨h1,h2⟩:=p9.setAll (is:=is) (n:=n) (fun j hj=>h j (Ac _ hj)) (s.set rp i) rl
  refine⟨h1,fun j hj=> ?_⟩
  have hi:=h i Ah
  show(PU.setAll (σ.set i (some v)) is t)[j]?=_
  rw [h2 j hj,List.getElem?_set_ne (by lia)]
theorem p9.more{K:AD}{F H:Hp}{σ:L2.St}{ρ:a8}(e:p9 K F H σ ρ)(k:Nat):p9 K F H (σ++AT k none) (ρ++AT k none):=by
 have key:∀(j:Nat) (q:c6),(ρ++AT k none)[j]?=some (some q)->ρ[j]?=some (some q)/\(σ++AT k none)[j]?=σ[j]?:=fun j q h=>by
  by_cases hj:j<ρ.length
  ·rw [Aw hj] at h
   rw [Aw (by rw [e.len];exact hj)]
   exact⟨h,rfl⟩
  ·rw [List.getElem?_append_right (by lia),List.getElem?_replicate] at h
   split at h<;>cases h
 refine⟨e.fh,by simp [e.len],fun j q h=> ?_,fun j ps h=>e.nb j ps (key j _ h).1,fun j k' ps qs a hjk h1 h2 h3 h4=> ?_⟩
 ·obtain⟨h1,h2⟩:=key j q h
  rw [h2];exact e.at_ j q h1
 ·obtain⟨a1,b1⟩:=key j _ h1
  obtain⟨a2,b2⟩:=key k' _ h2
  rw [b1] at h3
  rw [b2] at h4
  exact e.ap j k' ps qs a hjk a1 a2 h3 h4
structure Src(K:AD)(F0 F H:Hp)(J:It)(ps:List PV):Prop where
 st:∀i H',f6 H H'->ps.length<=i->J.stop i H'
 go:∀i p H',f6 H H'->ps[i]?=some p->J.go i H'
 yd:∀i p x H' H'',f6 H H'->ps[i]?=some p->J.yld i H' x H''->H''=H'/\r9 K F p x
def SI(K:AD)(mi:MI)(wi:TI):Prop:=∀F H σ ρ ps (R:It->Hp->Prop),p9 K F H σ ρ->mi ρ=some ps->(∀F1 H1 J,G6 F H F1 H1->Src K F F1 H1 J ps->R J H1)->wi σ H R
abbrev EI(X:Cx)(tg iter:AE)(mi:MI):Prop:=∃wi,PI X tg iter wi/\SI X.K mi wi
section
variable {X:Cx}{tg:AE}
end
section
variable {X:Cx}
end
def cut{α:Type}(xs:List α)(lo hi:Option Int):List α:=(xs.drop (HT.sIx xs.length 0 lo)).take (HT.sIx xs.length xs.length hi - HT.sIx xs.length 0 lo)
theorem a4D(n d:Nat)(hd:d<=n)(o:Option Int):(match o with|none=>(d:Int)|some i=>max 0 (min (if i<0 then i+n else i) n))=((HT.sIx n d o:Nat):Int):=by
 cases o with
 |none=>rfl
 |some i=>unfold HT.sIx;dsimp only;split<;>lia
theorem a2U(items:Array AA)(lo hi:Option Int):slicePick items lo hi none=(cut items.toList lo hi).toArray:=by
 have hz:items.toList.length=items.size:=by simp
 unfold slicePick cut
 rw [hz]
 have key:∀a b:Int,a=((HT.sIx items.size 0 lo:Nat):Int)->b=((HT.sIx items.size items.size hi:Nat):Int)->(List.filterMap (items[·]?) (sliceRange a b 1)).toArray=((items.toList.drop (HT.sIx items.size 0 lo)).take (HT.sIx items.size items.size hi - HT.sIx items.size 0 lo)).toArray:=fun a b ha hb=>by rw [ha,hb,sliceRange_one,pick_run]
 refine key _ _ ?_ ?_
 ·cases lo with
  |none=>rfl
  |some i=>exact a4D items.size 0 (Nat.zero_le _) (some i)
 ·cases hi with
  |none=>rfl
  |some i=>exact a4D items.size items.size (AO _) (some i)
theorem f9.cut{K:AD}{H:Hp}{ps:List PV}{xs:List V}(r:f9 K H ps xs)(lo hi:Option Int):f9 K H (PU.cut ps lo hi) (PU.cut xs lo hi):=by
 unfold PU.cut
 rw [r.length]
 exact(r.drop _).take _
section
variable {X:Cx}
end
def Its(x:Str):It:=⟨fun i _=>i<x.cps.size,fun i H v H'=>H'=H/\∃c,x.cps[i]?=some c/\v= .str ⟨#[c]⟩,fun i _=>x.cps.size<=i⟩
section
variable {X:Cx}{tg:AE}
structure a6H(K:AD)(F:Hp)(J:It)(ps:List PV):Prop where
 st:∀i H',f6 F H'->ps.length<=i->J.stop i H'
 go:∀i p H',f6 F H'->ps[i]?=some p->J.go i H'
 yd:∀i p x H' H'',f6 F H'->ps[i]?=some p->J.yld i H' x H''->H''=H'/\r9 K F p x
def SIF(K:AD)(mi:MI)(wi:TI):Prop:=∀F H σ ρ ps (R:It->Hp->Prop),p9 K F H σ ρ->mi ρ=some ps->(∀F1 H1 J,G6 F H F1 H1->a6H K F1 J ps->R J H1)->wi σ H R
abbrev EIF(X:Cx)(tg iter:AE)(mi:MI):Prop:=∃wi,PI X tg iter wi/\SIF X.K mi wi
theorem EIF.ei{iter:AE}{mi:MI}(h:EIF X tg iter mi):EI X tg iter mi:=by
 obtain⟨wi,h1,h2⟩:=h
 exact⟨wi,h1,fun F H σ ρ ps R en e k=>h2 F H σ ρ ps R en e fun F1 H1 J x S=>k F1 H1 J x ⟨fun i H' s=>S.st i H' (x.fh.trans s),fun i p H' s=>S.go i p H' (x.fh.trans s),fun i p y H' H'' s=>S.yd i p y H' H'' (x.fh.trans s)⟩⟩
end
def a0s:c6->c6->Option c6
 | .val (.int i),.val (.int j)=>some (.val (.bool (decide (i<j))))
 | .val (.str i),.val (.str j)=>some (.val (.bool (decide (i.cps.toList<j.cps.toList))))
 |_,_=>none
def a91:c6->c6->Option c6
 | .val (.int i),.val (.int j)=>some (.val (.bool (decide (i<=j))))
 | .val (.str i),.val (.str j)=>some (.val (.bool (!decide (j.cps.toList<i.cps.toList))))
 |_,_=>none
section
variable {X:Cx}
theorem Z7:OpM X (compareOp .Lt) a0s:=by
 intro pins s σ H x y v u Q I rx ry h
 obtain⟨F,ra,rb,rz,s0,h1,h2,h3,k⟩:=h
 unfold a0s at h3
 split at h3
 ·cases h3;cases h1;cases h2
  exact b3h pins s σ H _ _ v u Q I rx ry ⟨_,_,rfl,rfl,k _ F H (o9.here s0 rfl)⟩
 ·cases h3;cases h1;cases h2
  exact a7d pins s σ H _ _ v u Q I rx ry ⟨_,_,rfl,rfl,k _ F H (o9.here s0 rfl)⟩
 ·cases h3
theorem b0q:OpM X (compareOp .LtE) a91:=by
 intro pins s σ H x y v u Q I rx ry h
 obtain⟨F,ra,rb,rz,s0,h1,h2,h3,k⟩:=h
 unfold a91 at h3
 split at h3
 ·cases h3;cases h1;cases h2
  exact b3g pins s σ H _ _ v u Q I rx ry ⟨_,_,rfl,rfl,k _ F H (o9.here s0 rfl)⟩
 ·cases h3;cases h1;cases h2
  obtain⟨t,rfl⟩:=rx
  obtain⟨t',rfl⟩:=ry
  exact PySem.P.le_str ⟨.bl _,H,I,rfl,k _ F H (o9.here s0 rfl)⟩
 ·cases h3
def a1Q:c6->c6->Option c6
 | .val (.str z),.val (.int k)=>if okC (fun k n=>0<=k/\k<=1000000/\n*k<=16777216) k z.length=true then some (.val (.str ⟨(AT k.toNat z.cps.toList).flatten.toArray⟩)) else none
 | .ow (.lst ps),.val (.int k)=>if okC (fun k n=>0<=k/\k<=1000000/\n*k<=16777216) k ps.length=true then some (.own (AT k.toNat ps).flatten) else none
 |x,y=>a92 x y
theorem a1N(xs:List Nat):∀(m:Nat) (acc:Array Nat),(AT m xs.toArray).foldl (· ++·) acc=acc++(AT m xs).flatten.toArray
 |0,acc=>by simp
 |m+1,acc=>by
  rw [Af,List.foldl_cons,a1N xs m,Af,List.flatten_cons]
  apply Array.ext'
  simp
theorem b0Q{z:Str}{k:Int}(h0:0<=k):Txt.mul z k=⟨(AT k.toNat z.cps.toList).flatten.toArray⟩:=by
 unfold Txt.mul
 by_cases h1:k<1
 ·have:k=0:=by lia
  subst this
  rfl
 ·rw [if_neg h1]
  by_cases h2:(k==1||z.length==0)=true
  ·rw [if_pos h2]
   rw [Bool.or_eq_true] at h2
   cases z with
   |mk a=>
    rcases h2 with h2|h2
    ·have:k=1:=by simpa using h2
     subst this
     show(⟨a⟩:Str)=_
     congr 1
     apply Array.ext'
     simp
    ·have ha:a.size=0:=by simpa [Str.length] using h2
     have:a= #[]:=Array.eq_empty_of_size_eq_zero ha
     subst this
     congr 1
     apply Array.ext'
     simp
  ·rw [if_neg h2]
   have e:z.cps=z.cps.toList.toArray:=by simp
   congr 1
   rw [e,a1N]
   simp
theorem a2z{K:AD}{H:Hp}{ps:List PV}{xs:List V}(r:f9 K H ps xs):∀m:Nat,f9 K H (AT m ps).flatten (AT m xs).flatten
 |0=>rfl
 |m+1=>by
  rw [Af,Af,List.flatten_cons,List.flatten_cons]
  exact r.append (a2z r m)
theorem a8M:OpM X (binaryOp .Mult) a1Q:=by
 intro pins s σ H x y v u Q I rx ry h
 obtain⟨F,ra,rb,rz,s0,h1,h2,h3,k⟩:=h
 unfold a1Q at h3
 split at h3
 ·rename_i z n
  split at h3
  ·rename_i c
   obtain⟨c0,c1,c2⟩:=Z6.mp c
   cases h3;cases h1;cases h2
   obtain⟨t,rfl⟩:=rx
   obtain⟨t',rfl⟩:=ry
   have hz:z.length*n.toNat<=AL:=by
    rw [sizeLine_eq]
    have:((z.length*n.toNat:Nat):Int)=z.length*n:=by rw [Int.natCast_mul,Int.toNat_of_nonneg c0]
    lia
   refine SB.mul ⟨?_,fun h4 h5 h6=> ?_,fun h4 h5=> ?_⟩ fun t' k'=>⟨.str _,H,I.tok _,⟨_,rfl⟩, ?_⟩
   ·have e1:¬n< -(2 ^ 63:Int):=by lia
    have e2:¬n>=2 ^ 63:=by lia
    simp [e1,e2]
    lia
   ·have h7:(2 ^ 63 - 1:Int)/ n<z.length:=h6
    have h8:(2 ^ 63 - 1:Int)<(z.length:Int)*n:=by
     have:=Int.lt_mul_of_ediv_lt (a:=(2 ^ 63 - 1:Int)) (b:=(z.length:Int)) (c:=n) (by lia) h7
     exact this
    lia
   ·unfold Builtin.Str.tooLong
    rw [decide_eq_false (by lia)]
   ·rw [b0Q c0]
    exact k _ F H (o9.here s0 rfl)
  ·cases h3
 ·rename_i ps n
  split at h3
  ·rename_i c
   obtain⟨c0,c1,c2⟩:=Z6.mp c
   cases h3;cases h2
   obtain⟨a,xs,rfl,fa,hq,rl⟩:=h1
   have hlen:=rl.length
   have hz:xs.length*n.toNat<=AL:=by
    rw [sizeLine_eq,hlen]
    have:((ps.length*n.toNat:Nat):Int)=ps.length*n:=by rw [Int.natCast_mul,Int.toNat_of_nonneg c0]
    lia
   exact b2c pins s σ H _ _ v u Q I rx ry ⟨a,n,xs,rfl,rfl,hq,by lia,by lia,hz,fun p hp=>k _ _ _ (o9.lst s0 hp (a2z rl _))⟩
  ·cases h3
 ·exact a8L pins s σ H x y v u Q I rx ry ⟨F,_,_,rz,s0,h1,h2,h3,k⟩
def a3N(x:c6):Option c6:=match x with
 | .val (.str z)=>if z.length<=AL then some (.own (z.cps.toList.map fun c=> .str ⟨#[c]⟩)) else none
 |x=>a8a x
theorem a7J(hc:X.calm=true):D1 X (.type "list") (rC1 X.K a3N):=by
 intro pins s σ H xs us Q I rv h
 obtain⟨F,x,rx,rz,e0,s0,h1,h2,k⟩:=h
 unfold a3N at h2
 split at h2
 ·rename_i z
  split at h2
  ·rename_i c
   cases h2
   cases h1
   subst e0
   obtain⟨u,rfl,t,rfl⟩:=a5n rv
   refine call_list_str (I.ok.hd hc) z t (fun h' tk acc' c' kp e ia=> ?_) (by exact c)
   obtain⟨ia1,ia2⟩:=ia
   have hv:g6 (z.cps.toList.map fun c=>V.str ⟨#[c]⟩) acc'.toList:=by
    have key:∀(cs:List Nat) (us:List AA),us.length=cs.length->(∀(i:Nat) v,us[i]?=some v->∃c u,cs[i]?=some c/\v= .str ⟨#[c]⟩ u)->g6 (cs.map fun c=>V.str ⟨#[c]⟩) us:=by
     intro cs
     induction cs with
     |nil=>
      intro us h1 h2
      have:us=[]:=List.length_eq_zero_iff.mp h1
      subst this;exact .nil
     |cons c cs ih=>
      intro us h1 h2
      cases us with
      |nil=>cases h1
      |cons w us=>
       obtain⟨c',u,e1,e2⟩:=h2 0 w rfl
       simp at e1
       subst e1
       exact .cons ⟨u,e2⟩ (ih us (by simpa using h1) fun i v hv=>by simpa using h2 (i+1) v (by simpa using hv))
    refine key _ _ (by simpa using ia1) fun i v hv=> ?_
    have hv':acc'[i]?=some v:=by simpa using hv
    obtain⟨c,u,e1,e2⟩:=ia2 i v hv'
    exact⟨c,u,by simpa using e1,e2⟩
   have hlen:(z.cps.toList.map fun c=>V.str ⟨#[c]⟩).length<=AL:=by rw [AR];simpa [Str.length] using c
   refine⟨.ref s.heap.objs.size,_,I.laid (t':=tk) kp (AO _) (show s9 X.prog X.w _ h' _ (.lst (z.cps.toList.map fun c=>V.str ⟨#[c]⟩)) from⟨hlen,acc'.toList,c',hv,by rw [e]⟩),rfl,k _ _ _ (o9.lst s0 (I.hok.fresh (AO _)) ?_)⟩
   have:∀cs:List Nat,f9 X.K F (cs.map fun c=>PyData.str ⟨#[c]⟩) (cs.map fun c=>V.str ⟨#[c]⟩):=by
    intro cs
    induction cs with
    |nil=>rfl
    |cons c cs ih=>exact⟨_,_,rfl,rfl,ih⟩
   exact this _
  ·cases h2
 ·exact a9J pins s σ H xs us Q I rv ⟨F,x,_,rz,e0,s0,h1,h2,k⟩
theorem f9.set{K:AD}{H:Hp}{p:PV}{v:V}(h:r9 K H p v):∀{ps:List PV} {xs:List V} (j:Nat),f9 K H ps xs->f9 K H (ps.set j p) (xs.set j v)
 |[],_,_,r=>by cases r;exact rfl
 |_::ps,_,0,⟨w,t,e,_,rl⟩=>by subst e;exact⟨v,t,rfl,h,rl⟩
 |q::ps,_,j+1,⟨w,t,e,hq,rl⟩=>by subst e;exact⟨w,_,rfl,hq,f9.set h j rl⟩
end
theorem a0C:fillsNumberSlot (.type "tuple") "mul"=pure false:=
 PySem.fillsNumberSlot_seq (id:="tuple.__mul__") (r:=some (.builtin "tuple.__rmul__")) PySem.F.slot_tuple_mul.lookup (by decide+kernel) PySem.F.slot_tuple_rmul.lookup (by decide+kernel)
theorem a4e:seqRepeat? (.type "tuple")=pure (some (.builtin "tuple.__mul__")):=by
 unfold seqRepeat?
 rw [PySem.seqSlot_of (T:="tuple") (name:="__mul__") (id:="tuple.__mul__") PySem.F.slot_tuple_mul.lookup (by decide+kernel),PySem.seqSlot_of (T:="tuple") (name:="__rmul__") (id:="tuple.__rmul__") PySem.F.slot_tuple_rmul.lookup (by decide+kernel)]
 rfl
theorem a1V(a:Int)(t:Tok)(l:AB)(items:Array AA)(n:Nat)(dd:Option AB)(sl:Array (Option AA)):Meets (Builtin.«int.__rmul__» ⟨[.int a t,.ref l],[]⟩) (fun _ R s=>s.heap.get? l=some {cls:= .type "tuple",dict:=dd,data:= .seq items n,slots:=sl}/\R (.ok (.ret Value.notImplemented)) s):=
 .of_wp fun prog w A R s h=>by obtain⟨hp,g,d,tk,os⟩:=s;obtain⟨hl,h⟩:=h;wp_walk;exact⟨_,rfl,h⟩
theorem a2J(l:AB)(items:Array AA)(n:Nat)(dd:Option AB)(sl:Array (Option AA))(x:Int)(u:Tok)(hc0:(decide (x< -(2 ^ 63))||decide (x>=2 ^ 63))=false)(hc1:(items.isEmpty||x==1)=false)(hc2:(decide (x<=0)||items.isEmpty)=false)(hc3:¬(items.size:Int)*x>(2 ^ 63 - 1)/ 8)(hc4:Builtin.Tuple.tupleTooMany ((items.size:Int)*x)=false)(hz:((AT x.toNat items).foldl (· ++·) #[]).size<=AL):
 Meets (Builtin.«tuple.__mul__» ⟨[.ref l,.int x u],[]⟩) (fun _ R s=>s.heap.get? l=some {cls:= .type "tuple",dict:=dd,data:= .seq items n,slots:=sl}/\R (.ok (.ret (Value.ref s.heap.objs.size))) {s with heap:=s.heap.push {cls:=Value.type "tuple",data:=Data.seq ((AT x.toNat items).foldl (· ++·) #[])},toks:=s.toks}):=
 .of_wp fun prog w A R s h=>by
  obtain⟨hp,g,d,tk,os⟩:=s;obtain⟨hl,h⟩:=h
  wp_walk
  have ht:IsTup hp l items:=⟨_,hl,rfl,n,rfl⟩
  rw [if_neg (by rw [hc0];exact Av)]
  wp_walk
  rw [if_neg hc3]
  wp_walk
  exact⟨_,rfl,h⟩
section
variable {X:Cx}
theorem b0p:X4 X (binaryOp .Mult) (fun x y H Q=>∃a xs n,x= .ref a/\y= .int n/\M5 X.K H a xs/\xs≠[]/\2<=n/\n<=1000000/\xs.length*n.toNat<=AL/\∀p,H p=none->Q (.ref p) (upd H p (.tup (AT n.toNat xs).flatten))):=by
 intro pins s σ H x y v u Q I rx ry h
 obtain⟨a,xs,n,rfl,rfl,hx,hne,h1,h2,hz,q⟩:=h
 cases rx
 obtain⟨t,rfl⟩:=ry
 obtain⟨its,r,ht,_⟩:=I.tuple hx
 have hlen:its.toArray.size=xs.length:=by rw [AY];exact r.length.symm
 have hie:its.toArray.isEmpty=false:=by
  cases its with
  |nil=>exact absurd (r.nil_iff.mp rfl) hne
  |cons _ _=>rfl
 have hnew:List.foldl (fun x1 x2=>x1++x2) #[] (AT n.toNat its.toArray)=(AT n.toNat its).flatten.toArray:=by
  have:=a0p its n.toNat []
  rw [Ap] at this
  exact this
 have hc:((xs.length*n.toNat:Nat):Int)=(xs.length:Int)*n:=by rw [Int.natCast_mul,Int.toNat_of_nonneg (by lia)]
 have hsl:=sizeLine_eq
 obtain⟨⟨cls,dd,data,sl⟩,ho,hc',m,hd⟩:=id ht
 simp only at hc' hd
 subst hc' hd
 have hzz:(List.foldl (fun x1 x2=>x1++x2) #[] (AT n.toNat its.toArray)).size<=AL:=by
  rw [hnew,AY,a3W,Nat.mul_comm,<-r.length];exact hz
 refine wpAny_binaryOp_repeat_ref (T:="tuple") (U:="int") (by decide) ht.typeIs (fun s'=>typeIs_int s' n t) a0C F.fills_int_mul F.slot_int_rmul a4e F.slot_int_index.lookup
  (call_meets F.slot_int_rmul (typeIs_int s n t) F.entry_int_rmul (F.args_int_rmul_2 _ _) (a1V n t a its.toArray m dd sl)
   ⟨ho,rfl,ht.typeIs,call_meets PySem.F.slot_tuple_mul ht.typeIs PySem.F.entry_tuple_mul (PySem.F.args_tuple_mul_2 _ _) (a2J a its.toArray m dd sl n t ?_ ?_ ?_ ?_ ?_ hzz) ⟨ho, ?_⟩⟩)
 ·have e1:¬n< -(2 ^ 63:Int):=by lia
  have e2:¬n>=2 ^ 63:=by lia
  simp [e1,e2]
  lia
 ·rw [hie]
  have:n≠1:=by lia
  simp [this]
 ·rw [hie]
  have:¬n<=0:=by lia
  simp [this]
 ·rw [hlen,<-hc]
  lia
 ·rw [hlen,<-hc]
  unfold Builtin.Tuple.tupleTooMany
  rw [decide_eq_false (by lia)]
 ·rw [hnew]
  refine⟨.ref s.heap.objs.size,_,I.laid (t':=s.toks) (o:= .tup (AT n.toNat xs).flatten) (fun b ob q=>Ab _ q) (AO _) ?_,rfl,q _ (I.hok.fresh (AO _))⟩
  exact⟨by rw [a3W,Nat.mul_comm];exact hz,_,r.rep n.toNat,IsTup.new _ _⟩
def U9:c6->c6->Option c6
 | .val (.tuple ps),.val (.int k)=>if okC (fun k n=>2<=k/\k<=1000000/\1<=n/\n*k<=16777216) k ps.length=true then some (.val (.tuple (AT k.toNat ps).flatten)) else none
 |x,y=>a1Q x y
theorem M0:OpM X (binaryOp .Mult) U9:=by
 intro pins s σ H x y v u Q I rx ry h
 obtain⟨F,ra,rb,rz,s0,h1,h2,h3,k⟩:=h
 unfold U9 at h3
 split at h3
 ·rename_i ps n
  split at h3
  ·rename_i c
   obtain⟨c0,c1,c2,c3⟩:=Z6.mp c
   cases h3;cases h2
   obtain⟨a,xs,rfl,hq,rl⟩:=h1
   have hlen:=rl.length
   have hz:xs.length*n.toNat<=AL:=by
    rw [sizeLine_eq,hlen]
    have:((ps.length*n.toNat:Nat):Int)=ps.length*n:=by rw [Int.natCast_mul,Int.toNat_of_nonneg (by lia)]
    lia
   refine b0p pins s σ H _ _ v u Q I rx ry ⟨a,xs,n,rfl,rfl,k9 s0 hq.sq, ?_,by lia,by lia,hz,fun p hp=>k _ _ _ (o9.tup s0 hp (a2z rl _))⟩
   intro e
   rw [e] at hlen
   simp at hlen
   lia
  ·cases h3
 ·exact a8M pins s σ H x y v u Q I rx ry ⟨F,_,_,rz,s0,h1,h2,h3,k⟩
end
section
variable {prog:AG}{w:AF}{A:AI}{E:AA->AC->Prop}{s:AC}
end
def a7y(h:Heap)(it:AB)(v:AA)(i:Int):Prop:=∃o,h.get? it=some o/\o.cls= .type "reversed"/\o.data= .fields #[v,rawInt i]
theorem a7y.typeIs{s:AC}{it:AB}{v:AA}{i:Int}(x:a7y s.heap it v i):s.TypeIs (.ref it) "reversed":=let ⟨o,ho,hc,_⟩:=x;⟨o,ho,hc⟩
theorem a7y.at{h h':Heap}{it:AB}{v:AA}{i:Int}(x:a7y h it v i)(e:∀o,h.get? it=some o->h'.get? it=some o):a7y h' it v i:=let ⟨o,ho,r⟩:=x;⟨o,e _ ho,r⟩
section
variable {prog:AG}{w:AF}{A:AI}{E:AA->AC->Prop}{s:AC}{u:AA}{T gid:String}{fp:List AB}{n:Nat}{P:Nat->AA->Prop}{Sq:Heap->Prop}
end
section
variable {prog:AG}{w:AF}{A:AI}{E:AA->AC->Prop}{s:AC}{u:AA}{T gid:String}{fp:List AB}{n:Nat}{P:Nat->AA->Prop}{Sq:Heap->Prop}
end
section
variable {prog:AG}{w:AF}{A:AI}{E:AA->AC->Prop}{s:AC}
end
section
variable {X:Cx}
theorem f9.reverse{K:AD}{H:Hp}:∀{ps:List PV} {xs:List V},f9 K H ps xs->f9 K H ps.reverse xs.reverse
 |[],_,r=>by cases r;exact rfl
 |p::ps,_,⟨x,r,e,hp,t⟩=>by
  subst e
  rw [List.reverse_cons,List.reverse_cons]
  exact(f9.reverse t).append ⟨x,[],rfl,hp,rfl⟩
theorem g6.reverse:∀{xs:List V} {us:List AA},g6 xs us->g6 xs.reverse us.reverse
 |_,_,.nil=> .nil
 |_,_,.cons a b=>by
  rw [List.reverse_cons,List.reverse_cons]
  exact(g6.reverse b).append (.cons a .nil)
end
section
variable {X:Cx}
theorem f9.last{K:AD}{H:Hp}{ps:List PV}{xs:List V}{p:PV}(r:f9 K H ps xs)(h:ps.getLast?=some p):∃v,xs.getLast?=some v/\r9 K H p v:=by
 rw [List.getLast?_eq_getElem?] at h
 obtain⟨v,e,q⟩:=r.get h
 exact⟨v,by rw [List.getLast?_eq_getElem?,r.length];exact e,q⟩
theorem f9.dropLast{K:AD}{H:Hp}{ps:List PV}{xs:List V}(r:f9 K H ps xs):f9 K H ps.dropLast xs.dropLast:=by
 rw [List.dropLast_eq_take,List.dropLast_eq_take,r.length]
 exact r.take _
def a8x(i j:Nat):MS:=fun ρ=>match ρ[j]? with
 |some (some (.ow (.lst ps)))=>ps.getLast?.bind fun p=>some (.nx ((ρ.set j (some (.own ps.dropLast))).set i (some (.val p))))
 |_=>none
theorem b1y(i j:Nat){x y:Str}{p apos cpos pos pos':Pos}(hN:X.N.Nodup)(hx:PE X (.Name x p) (a0I j))(hi:X.N[i]?=some y:=by rfl)(hy:Loc X.env.scope y:=by exact Or.inl rfl)
 (hbase:attributeBase (.Name x p) "pop" X.env (eval (.Name x p) X.env)=eval (.Name x p) X.env:=by rfl) (hline:(apos.endLine==cpos.line)=true:=by rfl)
 (hsw:swapsWith (.Call (.Attribute (.Name x p) "pop" apos) [] [] cpos) (some (.Name y pos')) pos.line X.env=pure false:=by rfl) (hf:X.fn y=true\/X.env.scope.names.lookup y=some .local:=by first|exact .inl rfl|exact .inr rfl|assumption):
 ES X (.Assign [.Name y pos'] (.Call (.Attribute (.Name x p) "pop" apos) [] [] cpos) pos) (a8x i j):=
 q9 (a2t hN hi hy (b2f PySem.F.plainAttrs_list PySem.F.slot_list_pop PySem.F.type_list_pop b1Y hx hbase hline) hsw hf) fun D σ H ⟨F0,H0,F,ρ,fl,so,e,fin⟩=>by
  unfold a8x at e
  split at e
  ·rename_i ps eo
   obtain⟨q,e1,e⟩:=bind_some e
   cases e
   obtain⟨v,h1,a,xs,rfl,fa,ha',rl⟩:=so.e.at_ j _ eo
   obtain⟨w,hw,rw'⟩:=rl.last e1
   have s2:=so.put eo h1 rl.dropLast
   exact⟨.ref a,h1,.inl ⟨rfl,xs,H9.of ha'⟩,a,xs,w,rfl,rfl,ha',by rw [<-List.getLast?_eq_getElem?];exact hw,fin _ F _ (f6.refl F) (s2.set (o9.here s2.e.fh rw') rfl i)⟩
  ·cases e
end
def l8(kvs:List (List c9×PV))(k:List c9):Option PV:=(kvs.find? fun kv=>decide (kv.1=k)).map (·.2)
def W8(kvs:List (List c9×PV))(k:List c9)(v:PV):List (List c9×PV):=
 if(kvs.any fun kv=>decide (kv.1=k))=true then kvs.map (fun kv=>if kv.1=k then(kv.1,v) else kv) else kvs++[(k,v)]
theorem n8.length{K:AD}{H:Hp}:∀{kvs:List (List c9×PV)} {ys:List (List c9×V)},n8 K H kvs ys->ys.length=kvs.length
 |[],_,h=>by cases h;rfl
 |(k,p)::r,_,⟨v,t,e,q,h⟩=>by subst e;rw [AU,AU,n8.length h]
theorem n8.any{K:AD}{H:Hp}{k:List c9}:∀{kvs:List (List c9×PV)} {ys:List (List c9×V)},n8 K H kvs ys->(ys.any fun kv=>decide (kv.1=k))=(kvs.any fun kv=>decide (kv.1=k))
 |[],_,h=>by cases h;rfl
 |(k',p)::r,_,⟨v,t,e,q,h⟩=>by subst e;rw [List.any_cons,List.any_cons,n8.any h]
theorem n8.val{K:AD}{H:Hp}{k:List c9}:∀{kvs:List (List c9×PV)} {ys:List (List c9×V)},n8 K H kvs ys->(∀p,l8 kvs k=some p->∃v,M3 ys k=some v/\r9 K H p v)/\(l8 kvs k=none->M3 ys k=none)
 |[],_,h=>by cases h;exact⟨fun p e=>(nomatch e),fun _=>rfl⟩
 |(k',p)::r,_,⟨v,t,e,q,h⟩=>by
  subst e
  by_cases c:k'=k
  ·have e1:l8 ((k',p)::r) k=some p:=by simp [l8,List.find?_cons,c]
   have e2:M3 ((k',v)::t) k=some v:=T2 c
   rw [e1,e2]
   exact⟨fun p' e'=>(by cases e';exact⟨v,rfl,q⟩),fun e'=>(nomatch e')⟩
  ·have e1:l8 ((k',p)::r) k=l8 r k:=by simp [l8,List.find?_cons,c]
   have e2:M3 ((k',v)::t) k=M3 t k:=T1 c
   rw [e1,e2]
   exact n8.val h
theorem n8.repl{K:AD}{H:Hp}{k:List c9}{p:PV}{v:V}(hp:r9 K H p v):∀{kvs:List (List c9×PV)} {ys:List (List c9×V)},n8 K H kvs ys->n8 K H (kvs.map fun kv=>if kv.1=k then(kv.1,p) else kv) (ys.map fun kv=>if kv.1=k then(kv.1,v) else kv)
 |[],_,h=>by cases h;exact rfl
 |(k',p')::r,_,⟨v',t,e,q,h⟩=>by
  subst e
  by_cases c:k'=k
  ·rw [AM,AM]
   simp only [if_pos c]
   exact⟨v,_,rfl,hp,n8.repl hp h⟩
  ·rw [AM,AM]
   simp only [if_neg c]
   exact⟨v',_,rfl,q,n8.repl hp h⟩
theorem n8.snoc{K:AD}{H:Hp}{k:List c9}{p:PV}{v:V}(hp:r9 K H p v):∀{kvs:List (List c9×PV)} {ys:List (List c9×V)},n8 K H kvs ys->n8 K H (kvs++[(k,p)]) (ys++[(k,v)])
 |[],_,h=>by cases h;exact⟨v,[],rfl,hp,rfl⟩
 |(k',p')::r,_,⟨v',t,e,q,h⟩=>by subst e;exact⟨v',_,rfl,q,n8.snoc hp h⟩
theorem n8.put{K:AD}{H:Hp}{k:List c9}{p:PV}{v:V}{kvs:List (List c9×PV)}{ys:List (List c9×V)}(r:n8 K H kvs ys)(hp:r9 K H p v):n8 K H (W8 kvs k p) (G2 ys k v):=by
 unfold W8 G2
 rw [r.any]
 split
 ·exact r.repl hp
 ·exact r.snoc hp
theorem o9.dct{K:AD}{F H:Hp}{a:AB}(s:f6 F H)(n:H a=none):o9 K F H F (upd H a (.dT [])) (.ref a) (.dct []):=
 ⟨G6.layH s n,⟨a,[],rfl,s.free n,g5,rfl⟩,fun _ _ _ e=>by cases e;exact n⟩
section
variable {X:Cx}
def a4H(i:Nat)(ρ:a8)(p:PV)(k:List c9):Option Fl:=match ρ[i]? with
 |some (some (.ow (.dct kvs)))=>if kvs.length<AL then some (.nx (ρ.set i (some (.dct (W8 kvs k p))))) else none
 |_=>none
def O1(i:Nat)(ρ:a8)(k:List c9):Option c6:=match ρ[i]? with
 |some (some (.ow (.dct kvs)))=>(l8 kvs k).map .val
 |_=>none
def a3g(i:Nat)(mk:MA):M:=fun ρ=>(mk ρ).bind fun ks=>if ks.length<=AL then(N2 ks).bind (O1 i ρ) else none
theorem a9O(i:Nat){x:Str}{p tp pos:Pos}{es:List AE}{x1}{mk:MA}(hu:X.A.units+64<cLine)(hx:PE X (.Name x p) (a0I i))(hi:EA X es mk)(hs:a4x (.Tuple es x1 tp):=by intro _ _;rfl):EE X (.Subscript (.Name x p) (.Tuple es x1 tp) pos) (a3g i mk):=
 p8 (a1n (by lia) hx (a8S hi) hs) fun σ H Q ⟨F,ρ,r,en,e,k⟩=>by
  obtain⟨ks,e4,e⟩:=bind_some e
  split at e
  ·rename_i hz
   obtain⟨kk,e5,e⟩:=bind_some e
   unfold O1 at e
   split at e
   ·rename_i kvs eo
    cases hv:l8 kvs kk with
    |none=>rw [hv] at e;cases e
    |some q=>
     rw [hv] at e;cases e
     obtain⟨w,hw1,a,xs,rfl,fa,ha',rl⟩:=en.at_ i _ eo
     obtain⟨y,hy,ry⟩:=(rl.val (k:=kk)).1 q hv
     refine⟨.ref a,hw1,F,ρ,ks,en,e4,fun vs F3 H3 x3 rl3=>⟨by rw [rl3.length];exact hz,fun b hb=> ?_⟩⟩
     have ev:=N3 e5 rl3
     have ha3:=x3.h _ _ ha'
     have hne:a≠b:=fun h=>by subst h;rw [hb] at ha3;cases ha3
     have ha4:upd H3 b (.tup vs) a=some (.dT xs):=by rw [d6 hne];exact ha3
     have xx:=x3.trans (G6.lay (o:= .tup vs) x3.fh hb)
     exact⟨a,y,rfl,by rw [<-hy];exact V5.t ha4 (by rw [g5,ev]),k _ _ _ (o9.val xx (r9.mono xx.f _ ry))⟩
   ·cases e
  ·cases e
end
section
variable {prog:AG}{w:AF}{A:AI}{E:AA->AC->Prop}{s:AC}
end
section
variable {X:Cx}{pins:List (AB×Obj)}{σ:L2.St}{H:Hp}{s:AC}{a:AB}{A:AI}{E:AA->AC->Prop}
end
section
variable {X:Cx}
end
def a8j:AA->Bool
 | .int _ _=>true
 |_=>false
theorem a16{K:AD}{a:AB}{o:Obj}:K.lookup a=some o->∃b,(b,o)∈K:=by
 induction K with
 |nil=>intro h;cases h
 |cons p r ih=>
  intro h
  obtain⟨b,u⟩:=p
  rw [List.lookup_cons] at h
  split at h
  ·cases h;exact⟨b,Ah ..⟩
  ·obtain⟨c,hc⟩:=ih h
   exact⟨c,Ac _ hc⟩
theorem a57:∀{k:List c9} {us:List AA},g6 (k.map kV) us->k.any Sum.isLeft=true->us.any a8j=true
 |[],_,_,h=>by cases h
 |k::ks,_,r,h=>by
  rw [AM] at r
  cases r with
  |cons r1 r2=>
   rw [List.any_cons] at h ⊢
   cases k with
   |inl i=>obtain⟨t,rfl⟩:=(show ∃t,_=Value.int i t from r1);rfl
   |inr x=>
    have:=a57 r2 (by simpa using h)
    rw [this,Bool.or_true]
theorem n8.isSome{K:AD}{H:Hp}{k:List c9}{kvs:List (List c9×PV)}{ys:List (List c9×V)}(r:n8 K H kvs ys):(M3 ys k).isSome=(l8 kvs k).isSome:=by
 cases hv:l8 kvs k with
 |none=>rw [(r.val (k:=k)).2 hv];rfl
 |some p=>
  obtain⟨v,e,_⟩:=(r.val (k:=k)).1 p hv
  rw [e];rfl
section
variable {X:Cx}
def a6L(neg:Bool)(i:Nat)(ρ:a8)(k:List c9):Option c6:=match ρ[i]? with
 |some (some (.ow (.dct kvs)))=>some (.val (.bool (if neg then !(l8 kvs k).isSome else(l8 kvs k).isSome)))
 |_=>none
theorem b3t{t:TE}{m:M}(i:∀σ H Q,tM X.K m σ H Q->t σ H Q){σ:L2.St}{H:Hp}{Q:Bool->Hp->Prop}(h:tMT X.K (mtB m) σ H Q):tB t σ H Q:=by
 obtain⟨F,ρ,b,h1,h2,k⟩:=h
 obtain⟨r,e1,e2⟩:=bind_some h2
 exact i _ _ _ ⟨F,ρ,r,h1,e1,fun v F1 H1 o=>⟨b,M2 o.rep e2,k F1 H1 o.x⟩⟩
def V1:List Str->List PV->Str->Option PV
 |k::ks,p::ps,x=>if k=x then some p else V1 ks ps x
 |_,_,_=>none
def b0a(r:c6):Option Str:=match r with
 | .val (.str x)=>some x
 |_=>none
def a3Z(kk:List Str)(ma:MA)(mi:M):M:=fun ρ=>(ma ρ).bind fun ps=>((mi ρ).bind b0a).bind fun x=>(V1 kk ps x).map .val
structure EPs(X:Cx)(pos:Pos)(keys:List (Option AE))(values:List AE)(kk:List Str)(ma:MA):Prop where
 ex:∃trs,PPs X pos keys values trs/\∀σ H (Q:List (V×V)->Hp->Prop) F ρ ps,p9 X.K F H σ ρ->ma ρ=some ps->(∀vs F' H',G6 F H F' H'->f9 X.K F' ps vs->ps.length=kk.length->Q ((kk.map V.str).zip vs) H')->a4i trs σ H Q
theorem a9S{pos:Pos}:EPs X pos [] [] [] c7:=
 ⟨[],a6o,fun σ H Q F ρ ps en e k=>by cases e;exact k [] F H (G6.refl en.fh) rfl rfl⟩
theorem C2{pos p:Pos}{x:Str}{j:Nat}{v:AE}{ks:List (Option AE)}{vs:List AE}{kk:List Str}{m:M}{ma:MA}(hv:EE X v m)(hr:EPs X pos ks vs kk ma):
 EPs X pos (some (.Constant (.str x) j p)::ks) (v::vs) (x::kk) (a5 m ma):=by
 obtain⟨trs,h1,h2⟩:=hr.ex
 refine⟨(tC (.str x),tM X.K m)::trs,a5a a8R hv h1,fun σ H Q F ρ ps en e k=> ?_⟩
 obtain⟨q,e1,e⟩:=bind_some e
 obtain⟨r,e1,e2⟩:=bind_some e1
 obtain⟨qs,e3,e⟩:=bind_some e
 cases e
 refine⟨F,ρ,r,en,e1,fun z F1 H1 o1=> ?_⟩
 obtain⟨F2,o2⟩:=o1.toVal e2
 refine h2 σ H1 _ F2 ρ qs (en.ext o2.x) e3 fun ws F3 H3 x3 rl hl=> ?_
 exact k (z::ws) F3 H3 (o2.x.trans x3) ⟨z,ws,rfl,r9.mono x3.f _ o2.rep,rl⟩ (by rw [AU,AU,hl])
theorem a0Z:∀(more kvs:List (c9×V)),((kvs++more).map (·.1)).Nodup->R3 kvs more=kvs++more
 |[],kvs,_=>by rw [AZ];rfl
 |(k,v)::r,kvs,h=>by
  have hn:¬(kvs.any fun kv=>decide (kv.1=k))=true:=by
   intro z
   obtain⟨kv,m1,m2⟩:=List.any_eq_true.mp z
   rw [Ar,AM] at h
   have:=(List.nodup_append.mp h).2.2 kv.1 (List.mem_map_of_mem m1) k (Ah ..)
   exact this (of_decide_eq_true m2)
  show R3 (G2 kvs k v) r=_
  have e:G2 kvs k v=kvs++[(k,v)]:=by unfold G2;rw [if_neg hn]
  rw [e,a0Z r _ (by rw [List.append_assoc];exact h),List.append_assoc];rfl
theorem a9A:∀(kk:List Str) (vs:List V),(kk.map V.str).zip vs=((kk.map (Sum.inr:Str->c9)).zip vs).map fun kv=>(kV kv.1,kv.2)
 |[],_=>rfl
 |_::_,[]=>rfl
 |k::ks,v::vs=>by
  rw [AM,List.zip_cons_cons,AM,List.zip_cons_cons,AM,a9A ks vs];rfl
theorem a3d{K:AD}{H:Hp}{x:Str}{q:PV}:∀{kk:List Str} {ps:List PV} {vs:List V},f9 K H ps vs->V1 kk ps x=some q->∃v,M3 ((kk.map (Sum.inr:Str->c9)).zip vs) (.inr x)=some v/\r9 K H q v
 |[],_,_,_,h=>by simp [V1] at h
 |_::_,[],_,_,h=>by simp [V1] at h
 |k::ks,p::ps,_,⟨v,t,e,r1,r2⟩,h=>by
  subst e
  unfold V1 at h
  rw [AM,List.zip_cons_cons]
  by_cases c:k=x
  ·rw [if_pos c] at h;cases h
   exact⟨v,T2 (by rw [c]),r1⟩
  ·rw [if_neg c] at h
   obtain⟨w,e1,e2⟩:=a3d r2 h
   exact⟨w,by rw [T1 (by intro z;exact c (Sum.inr.inj z))];exact e1,e2⟩
theorem a5p:∀(kk:List Str) (vs:List V),vs.length=kk.length->(((kk.map (Sum.inr:Str->c9)).zip vs).map (·.1))=kk.map Sum.inr
 |[],_,_=>rfl
 |_::_,[],h=>by simp at h
 |k::ks,v::vs,h=>by
  rw [AM,List.zip_cons_cons,AM,a5p ks vs (by simpa using h)]
theorem a3j:∀{kk:List Str},kk.Nodup->(kk.map (Sum.inr:Str->c9)).Nodup
 |[],_=>List.nodup_nil
 |k::ks,h=>by
  rw [AM,List.nodup_cons]
  refine⟨fun z=> ?_,a3j (List.nodup_cons.mp h).2⟩
  obtain⟨y,m1,m2⟩:=Ag.mp z
  cases m2
  exact(List.nodup_cons.mp h).1 m1
theorem a6M{dpos pos:Pos}{keys:List (Option AE)}{values:List AE}{kk:List Str}{ma:MA}{i:AE}{mi:M}(hu:X.A.units+64<cLine)(hp:EPs X dpos keys values kk ma)(hi:EE X i mi)(nd:kk.Nodup)
 (hall:keys.all (·.isSome)=true:=by rfl) (hl:keys.length=values.length:=by rfl) (h0:keys≠[]:=by intro h;cases h) (h15:keys.length<=15:=by decide) (hk15:kk.length<=15:=by decide) (hs:a4x i:=by intro _ _;rfl):
 EE X (.Subscript (.Dict keys values dpos) i pos) (a3Z kk ma mi):=by
 obtain⟨trs,g1,g2⟩:=hp.ex
 refine p8 (a1n (by lia) (b0t g1 hall hl h0 h15) hi hs) fun σ H Q ⟨F,ρ,r,en,e,k⟩=> ?_
 obtain⟨ps,e1,e⟩:=bind_some e
 obtain⟨x,e2,e⟩:=bind_some e
 obtain⟨ri,e2,e3⟩:=bind_some e2
 cases e4:V1 kk ps x with
 |none=>rw [e4] at e;cases e
 |some q=>
  rw [e4] at e;cases e
  intro p hp
  have x0:G6 F H F (upd H p (.dK [])):=G6.layH en.fh hp
  refine g2 σ _ _ F ρ ps (en.ext x0) e1 fun vs F1 H1 x1 rl hlen=> ?_
  have hp1:H1 p=some (.dK []):=x1.h _ _ g5
  have fp:F1 p=none:=x1.nw p _ (en.fh.free hp) g5 (fun _ h=>nomatch h)
  have hvl:vs.length=kk.length:=by rw [rl.length,hlen]
  have hkl:((kk.map (Sum.inr:Str->c9)).zip vs).length<=15:=by rw [List.length_zip,AR,hvl,Nat.min_self];exact hk15
  refine⟨hp1,(kk.map (Sum.inr:Str->c9)).zip vs,a9A kk vs,hkl, ?_⟩
  have em:R3 [] ((kk.map (Sum.inr:Str->c9)).zip vs)=(kk.map (Sum.inr:Str->c9)).zip vs:=by
   rw [a0Z _ [] (by rw [Ap,a5p kk vs hvl];exact a3j nd)];rfl
  rw [em]
  have x2:G6 F H F1 (upd H1 p (.dK ((kk.map (Sum.inr:Str->c9)).zip vs))):=
   ⟨x1.f,fun b o z=>by rw [d6 (f7 z hp)];exact x1.h _ _ (by rw [d6 (f7 z hp)];exact z),
    fun b o z=>by rw [d6 (f7 z fp)];exact x1.fh _ _ z,
    fun b o z y t=>x1.nw b o z (by rw [d6 (f7 y hp)];exact y) t,x1.nf⟩
  refine⟨F1,ρ,ri,en.ext x2,e2,fun y F2 H2 o2=> ?_⟩
  unfold b0a at e3
  split at e3
  ·cases e3
   cases(show y=V.str x from o2.rep)
   obtain⟨v,hv,rv⟩:=a3d (x:=x) rl e4
   refine⟨p,v,rfl, ?_,k v F2 H2 (o9.val (x2.trans o2.x) (r9.mono o2.x.f _ rv))⟩
   rw [<-hv]
   exact V5.k (k:= .inr x) (o2.x.h _ _ g5)
  ·cases e3
end
theorem a4U(kk:List Str)(ma:MA)(mi:M)(ρ:a8):a3Z kk ma mi ρ=(ma ρ).bind fun ps=>((mi ρ).bind b0a).bind fun x=>(V1 kk ps x).map .val:=Eq.trans rfl rfl
theorem b1P(x:Str):b0a (.val (.str x))=some x:=Eq.trans rfl rfl
def leS(a b:Str):Prop:=¬b.cps.toList<a.cps.toList
theorem a8s{a b:Str}(h:leS a b)(g:leS b a):a=b:=by
 have e:a.cps.toList=b.cps.toList:=List.le_antisymm h g
 cases a;cases b
 simp at e ⊢
 exact e
theorem a63{a b c:Str}(h:leS a b)(g:leS b c):leS a c:=List.le_trans h g
section
variable {prog:AG}{w:AF}{A:AI}{E:AA->AC->Prop}{s:AC}
end
section
variable {X:Cx}
end
section
variable {X:Cx}
end
section
variable {prog:AG}{w:AF}{A:AI}{E:AA->AC->Prop}{s:AC}
theorem Z5{it t:AB}{i:Nat}{items}{x:AA}{Q:AA->AC->Prop}(hit:s.heap.IsTupleIter it t i)(ht:s.heap.IsTuple t items)(hx:items[i]?=some x)
 (hQ:∀h',h'.IsTupleIter it t (i+1)->Heap.SameBut it s.heap h'->Q x {s with heap:=h'}):AH (model prog w) A (Builtin.SmallTypes.nextOf (.ref it)) Q E s:=by
 obtain⟨o,ho,hc,hd⟩:=id hit
 obtain⟨ol,hol,_,nl,hdl⟩:=ht
 unfold Builtin.SmallTypes.nextOf
 refine AK (wpAny_callSpecial?_slot (name:=AJ "__next__") hit.typeIs F.slot_tuple_iterator_next
  (wpAny_call_entry F.slot_tuple_iterator_next hit.typeIs F.entry_tuple_iterator_next ?_ (F.args_tuple_iterator_next_1 _)))
 show AH _ _ (field (.ref it) 0>>=_) _ _ s
 refine AK (wpAny_field ho hd (x:= .ref t) rfl ?_)
 show AH _ _ (if(Value.ref t==Value.none)=true then _ else _) _ _ s
 rw [if_neg (show ¬((Value.ref t==Value.none)=true) from Av)]
 show AH _ _ (field (.ref it) 1>>=_) _ _ s
 refine AK (wpAny_field ho hd (x:= .int i 0) rfl ?_)
 show AH _ _ (seqItems? (.ref t)>>=_) _ _ s
 refine AK (wpAny_seqItems hol hdl ?_)
 simp only [BG,hx]
 refine AK (wpAny_setField ho hd (by simp) (AS ⟨x,rfl,AS (hQ _ ?_ (Heap.SameBut.update ..))⟩))
 exact⟨_,Heap.get?_update_self _ ho (Obj.isFreed_of_fields (Obj.data_mapFields hd _)),(Obj.cls_mapFields ..).trans hc,by
  rw [Obj.data_mapFields hd];simp [rawInt]⟩
theorem L9{it t:AB}{i:Nat}{items}{Q:AA->AC->Prop}(hh:A.handled=none)(hit:s.heap.IsTupleIter it t i)(ht:s.heap.IsTuple t items)(hx:items[i]?=none)
 (hE:∀h' e,Heap.ExtBut it s.heap h'->(∃o,h'.get? e=some o/\o.cls= .type "StopIteration")->E (.ref e) {s with heap:=h'}):AH (model prog w) A (Builtin.SmallTypes.nextOf (.ref it)) Q E s:=by
 obtain⟨o,ho,hc,hd⟩:=id hit
 obtain⟨ol,hol,_,nl,hdl⟩:=ht
 unfold Builtin.SmallTypes.nextOf
 refine AK (wpAny_callSpecial?_slot (name:=AJ "__next__") hit.typeIs F.slot_tuple_iterator_next
  (wpAny_call_entry F.slot_tuple_iterator_next hit.typeIs F.entry_tuple_iterator_next ?_ (F.args_tuple_iterator_next_1 _)))
 show AH _ _ (field (.ref it) 0>>=_) _ _ s
 refine AK (wpAny_field ho hd (x:= .ref t) rfl ?_)
 show AH _ _ (if(Value.ref t==Value.none)=true then _ else _) _ _ s
 rw [if_neg (show ¬((Value.ref t==Value.none)=true) from Av)]
 show AH _ _ (field (.ref it) 1>>=_) _ _ s
 refine AK (wpAny_field ho hd (x:= .int i 0) rfl ?_)
 show AH _ _ (seqItems? (.ref t)>>=_) _ _ s
 refine AK (wpAny_seqItems hol hdl ?_)
 simp only [BG,hx]
 refine AK (wpAny_rule (AK (wpAny_setField ho hd (by simp) ?_)))
 show AH _ _ (newExc (.type "StopIteration") []>>=_) _ _ _
 refine AK ?_
 simp only [newExc,newTuple]
 refine AK (wpAny_newObj_type ?_ (by size_fits))
 refine AK (m:=firstArgMember _ _) (wpAny_of_eq (a:=Value.none) (by first|rfl|(simp only [firstArgMember];rfl)) ?_)
 refine wpAny_newObj_type ?_ (by size_fits)
 simp only [raiseNew]
 refine AK (wpAny_handled ?_)
 first|rw [show A.in1.handled=none from hh]|rw [hh]
 refine AK (AS (wpAny_throw ?_))
 exact hE _ _ (((Heap.SameBut.update ..).extBut.push _).push _) ⟨_,At _ rfl,rfl⟩
end
theorem a4I{prog:AG}{w:AF}{A:AI}(hh:A.handled=none)(it l:AB)(hne:l≠it)(items:Array AA):
 Draws prog w A it [it,l] items.size (fun i v=>items[i]?=some v) (fun i h=>h.IsTupleIter it l i/\h.IsTuple l items) where
 live:=fun _ _ st=>let ⟨o,ho,_⟩:=st.1;⟨o,ho⟩
 frame:=fun _ _ _ st hk=>⟨st.1.at fun o e=>hk it (by simp) o e,let ⟨o,e,r⟩:=st.2;⟨o,hk l (by simp) o e,r⟩⟩
 item:=fun i s Q E hi st hQ=>by
  refine Z5 st.1 st.2 (x:=items[i]) (by simp [hi]) fun h' hit' hs'=> ?_
  exact hQ _ h' s.toks (by simp [hi]) ⟨hit',let ⟨o,e,r⟩:=st.2;⟨o,(hs'.2 l hne).trans e,r⟩⟩ hs'
 done:=fun s Q E st hE=>L9 hh st.1 st.2 (by simp) hE
theorem R1(l:AB)(items:Array AA)(n:Nat)(dct:Option AB)(sl:Array (Option AA)):
 Meets (Builtin.«enumerate.__new__» ⟨[.type "enumerate",.ref l],[]⟩) (fun _ R s=>s.heap.get? l=some {cls:= .type "tuple",dict:=dct,data:= .seq items n,slots:=sl}/\
  R (.ok (.ret (.ref (s.heap.push {cls:= .type "tuple_iterator",data:= .fields #[.ref l,.int 0 0]}).objs.size)))
   {s with heap:=(s.heap.push {cls:= .type "tuple_iterator",data:= .fields #[.ref l,.int 0 0]}).push {cls:= .type "enumerate",data:= .fields #[.none,.bool false,.ref s.heap.objs.size,rawInt 0,.none,.none]}}):=
 .of_wp fun prog w A R s h=>by
  obtain⟨hp,g,d,tk,os⟩:=s;obtain⟨hl,h⟩:=h
  have hsub:=sub_enumerate
  have hL:Heap.IsTuple (Shared.heap ⟨hp,g,d,tk,os⟩) l items:=⟨_,hl,rfl,n,rfl⟩
  wp_walk using AutoSeq1.wpAny_loadPart' hl
  refine wpAny_stack_any fun st=>AS ?_
  split
  ·rename_i c _ _ _ _ _
   cases(c==Value.type "enumerate")
   ·wp_walk using AutoSeq1.wpAny_loadPart' hl,wpAny_pyIter_tuple hL
    exact⟨_,rfl,h⟩
   ·wp_walk using AutoSeq1.wpAny_loadPart' hl,wpAny_pyIter_tuple hL
    exact⟨_,rfl,h⟩
  ·wp_walk using AutoSeq1.wpAny_loadPart' hl,wpAny_pyIter_tuple hL
   exact⟨_,rfl,h⟩
section
variable {prog:AG}{w:AF}{A:AI}{E:AA->AC->Prop}{s:AC}
theorem P3{l:AB}{items:Array AA}{Q:AA->AC->Prop}(hL:s.heap.IsTuple l items)
 (h:∀h',IsEnum h' (s.heap.objs.size+1) s.heap.objs.size 0 .none->h'.IsTupleIter s.heap.objs.size l 0->h'.objs.size=s.heap.objs.size+2->
  (∀b o,s.heap.get? b=some o->h'.get? b=some o)->Q (.ref (s.heap.objs.size+1)) {s with heap:=h'}):
 AH (model prog w) A (call (.type "enumerate") [.ref l]) Q E s:=by
 obtain⟨⟨c,dct,dt,sl⟩,hl,hc,n,hd⟩:=hL
 replace hc:c= .type "tuple":=hc
 replace hd:dt= .seq items n:=hd
 subst hc hd
 refine callType_new F.called_enumerate (by decide) (F.typeCall_enumerate_1 _) (F.newCall_enumerate_1 _) (fun obj=>F.args_object_init_2 obj _) F.entry_enumerate_new
  (R1 l items n dct sl) ⟨hl, ?_⟩
 have hz:(s.heap.push {cls:= .type "tuple_iterator",data:= .fields #[.ref l,.int 0 0]}).objs.size=s.heap.objs.size+1:=Heap.size_push ..
 show _/\_
 rw [hz]
 have he:IsEnum ((s.heap.push {cls:= .type "tuple_iterator",data:= .fields #[.ref l,.int 0 0]}).push
  {cls:= .type "enumerate",data:= .fields #[.none,.bool false,.ref s.heap.objs.size,rawInt 0,.none,.none]}) (s.heap.objs.size+1) s.heap.objs.size 0 .none:=by
  have:=At (s.heap.push {cls:= .type "tuple_iterator",data:= .fields #[.ref l,.int 0 0]})
   (o:={cls:= .type "enumerate",data:= .fields #[.none,.bool false,.ref s.heap.objs.size,rawInt 0,.none,.none]}) rfl
  rw [hz] at this;exact this
 refine⟨⟨_,he,rfl⟩,h _ he ⟨_,Ab _ (At _ rfl),rfl,rfl⟩ (by rw [Heap.size_push,hz]) fun b o x=>Ab _ (Ab _ x)⟩
end
theorem g4.turnedTup{X:Cx}{pins:List (AB×Obj)}{σ:L2.St}{H:Hp}{s:AC}{h':Heap}{t':Nat}{e it:AB}{xs:List V}(I:g4 X pins σ H s)(fe:a2M X pins H e)(fi:a2M X pins H it)
 (k:∀b o,b≠e->b≠it->s.heap.get? b=some o->h'.get? b=some o) (new:s9 X.prog X.w (upd H s.heap.objs.size (.tup xs)) h' s.heap.objs.size (.tup xs)):
 g4 X pins σ (upd H s.heap.objs.size (.tup xs)) {s with heap:=h',toks:=t'}:=by
 have hn:H s.heap.objs.size=none:=I.hok.fresh (AO _)
 have nb:∀b u,H b=some u->b≠e/\b≠it:=fun b u q=>⟨fun z=>(by rw [z,fe.1] at q;cases q),fun z=>(by rw [z,fi.1] at q;cases q)⟩
 refine I.step (g':=s.gens) (d':=s.drawn) (ch:=[e,it]) (fun b hb=> ?_) (fun b o _ _ hc q _=>k b o (fun z=>hc (by simp [z])) (fun z=>hc (by simp [z])) q) (fun b o _ _ hc q _=>⟨o.slots,k b o (fun z=>hc (by simp [z])) (fun z=>hc (by simp [z])) q⟩)
  (fun b o _ q n=>by rw [d6 (Al (AV q))];exact n) (fun b o hc q=>⟨o,k b o (fun z=>hc (by simp [z])) (fun z=>hc (by simp [z])) q⟩)
  (fun b xs q=>by rw [d6 (f7 q hn)];exact q) (fun b o u q=>by rw [d6 (f7 q hn)];exact q) (fun b ps q=>⟨#[],by rw [d6 (f7 q hn),q];simp⟩) (fun m hm=> ?_) (fun b u q=> ?_) I.bare
 ·have hb:b=e\/b=it:=by simpa using hb
  rcases hb with rfl|rfl
  ·exact⟨fe.2.2.2.1,fe.2.1,fe.2.2.2.2.1,fe.2.2.2.2.2⟩
  ·exact⟨fi.2.2.2.1,fi.2.1,fi.2.2.2.2.1,fi.2.2.2.2.2⟩
 ·obtain⟨o,es,ep,ho,r⟩:=hm
  exact⟨o,es,ep,k _ o (Ne.symm fe.2.1) (Ne.symm fi.2.1) ho,r⟩
 ·by_cases hb:b=s.heap.objs.size
  ·subst hb
   rw [g5] at q
   cases q
   exact new
  ·rw [d6 hb] at q
   refine(I.hok b u q).stay (fun c v hc y=>k c v ?_ ?_ y) (fun c y=>by rw [d6 (f7 y hn)];exact y) fun c ys y=>by rw [d6 (f7 y hn)];exact y
   ·rcases hc with z|z
    ·rw [z];exact(nb b u q).1
    ·exact(nb c _ z).1
   ·rcases hc with z|z
    ·rw [z];exact(nb b u q).2
    ·exact(nb c _ z).2
def Ite(J:It):It:=⟨J.go,fun i H v H'=>∃x t,J.yld i H x H/\H t=none/\v= .ref t/\H'=upd H t (.tup [.int i,x]),J.stop⟩
structure a4v(P:AG)(w:AF)(K:AD)(J:It)(it:AB)(tn:Nat->Heap->Prop):Prop where
 obj:∀i h,tn i h->∃o,h.get? it=some o/\∀v,o.data≠.cell v
 keep:∀i h h',tn i h->(∀o,h.get? it=some o->h'.get? it=some o)->tn i h'
 item:∀(X:Cx),X.prog=P->X.w=w->X.K=K->X.calm=true->∀(i:Nat) (pins:List (AB×Obj)) (s:AC) (σ:L2.St) (H:Hp),g4 X pins σ H s->a2M X pins H it->tn i s.heap->J.go i H->
  ∃(fp:List AB) (n:Nat) (Pq:Nat->AA->Prop) (St:Nat->Heap->Prop),Draws P w X.A.in1 it fp n Pq St/\St i s.heap/\i<n/\(∀e old,e≠it->IsEnum s.heap e it i old->e∉fp)/\(∀v,Pq i v->∃x,i6 x v/\J.yld i H x H)/\∀h',St (i+1) h'->tn (i+1) h'
 done:∀(X:Cx),X.prog=P->X.w=w->X.K=K->X.calm=true->∀(i:Nat) (pins:List (AB×Obj)) (s:AC) (σ:L2.St) (H:Hp),g4 X pins σ H s->a2M X pins H it->tn i s.heap->J.stop i H->
   ∃(fp:List AB) (n:Nat) (Pq:Nat->AA->Prop) (St:Nat->Heap->Prop),Draws P w X.A.in1 it fp n Pq St/\St n s.heap
theorem a7r{P:AG}{w:AF}{K:AD}{J:It}{e it:AB}{tn:Nat->Heap->Prop}{elts:List AE}{x1}{pos:Pos}(D:a4v P w K J it tn)(hne:e≠it):
 a7B P w K (.Tuple elts x1 pos) (Ite J) [e,it] e (fun i h=>(∃old,IsEnum h e it i old)/\tn i h) where
 mem:=by simp
 obj:=fun i h ⟨⟨old,he⟩,st⟩ b hb=>by
  have hb:b=e\/b=it:=by simpa using hb
  rcases hb with rfl|rfl
  ·exact⟨_,he,fun v z=>by cases z⟩
  ·exact D.obj i h st
 keep:=fun i h h' ⟨⟨old,he⟩,st⟩ k=>⟨⟨old,k e (by simp) _ he⟩,D.keep i h h' st fun o q=>k it (by simp) o q⟩
 item:=by
  intro X hP hw hK hc i pins s σ H E I hf ⟨⟨old,he⟩,st⟩ hg
  have fe:=hf e (by simp)
  have fi:=hf it (by simp)
  obtain⟨fp,n,Pq,St,DD,hst,hlt,hef,hy,hnx⟩:=D.item X hP hw hK hc i pins s σ H I fi st hg
  subst hP hw hK
  refine wpAny_pyNext_enum_itemD DD he hst hlt hne (hef e old hne he) fun u h' tk hPu hout hst' htup hsz hk=>⟨_,rfl, ?_⟩
  obtain⟨x,rx,yx⟩:=hy u hPu
  refine wpAny_letOwnedTupleGo_enum hout fun h2 he2 hs2=> ?_
  have helt:e<s.heap.objs.size:=AV he
  have hilt:it<s.heap.objs.size:=by obtain⟨o,q,_⟩:=D.obj i _ st;exact AV q
  have htup2:h2.get? s.heap.objs.size=some {cls:= .type "tuple",data:= .seq #[.int i tk,u]}:=(hs2.2 _ (Nat.ne_of_gt helt)).trans htup
  have I2:g4 X pins σ (upd H s.heap.objs.size (.tup [.int i,x])) {s with heap:=h2,toks:=tk+1}:=by
   refine g4.turnedTup I fe fi (fun b o hbe hbi q=>(hs2.2 b hbe).trans (hk b o hbe hbi q)) ?_
   exact⟨by rw [sizeLine_eq];simp,[.int i tk,u],.cons ⟨tk,rfl⟩ (.cons rx .nil),⟨_,htup2,rfl,0,rfl⟩⟩
  refine⟨.ref s.heap.objs.size,_,I2,rfl,⟨x,s.heap.objs.size,yx,I.hok.fresh (AO _),rfl,rfl⟩,⟨⟨_,by simpa using he2⟩,D.keep _ _ _ (hnx h' hst') fun o q=>(hs2.2 it (Ne.symm hne)).trans q⟩,fun b hb=> ?_⟩
  have hb:b=e\/b=it:=by simpa using hb
  rcases hb with rfl|rfl
  ·rw [d6 (Al helt)];exact fe.1
  ·rw [d6 (Al hilt)];exact fi.1
 done:=by
   intro X hP hw hK hc i pins s σ H E I hf ⟨⟨old,he⟩,st⟩ hg
   have fi:=hf it (by simp)
   obtain⟨fp,n,Pq,St,DD,hst⟩:=D.done X hP hw hK hc i pins s σ H I fi st hg
   subst hP hw hK
   exact wpAny_pyNext_enum_endD DD he hst fun h' eb=>⟨rfl,I.turned (t':=s.toks) (fun b o hb q=>eb b o hb q) fi.1 fi.2.1 fi.2.2.2.1 fi.2.2.2.2.1 fi.2.2.2.2.2⟩
 self:=fun _ _ _ _ _ ⟨⟨_,he⟩,_⟩ h=>wpAny_pyIter_enum he h
theorem a0l{prog:AG}{w:AF}{A:AI}{it:AB}{fp:List AB}{i:Nat}{S0:Heap->Prop}(lv:∀h,S0 h->∃o,h.get? it=some o)(fr:∀h h',S0 h->(∀b∈fp,∀o,h.get? b=some o->h'.get? b=some o)->S0 h')
 (en:∀(s:AC) (Q:AA->AC->Prop) (E:AA->AC->Prop),S0 s.heap->(∀h' e,Heap.ExtBut it s.heap h'->(∃o,h'.get? e=some o/\o.cls= .type "StopIteration")->E (.ref e) {s with heap:=h'})->AH (model prog w) A (Builtin.SmallTypes.nextOf (.ref it)) Q E s):
 Draws prog w A it fp i (fun _ _=>True) (fun k h=>k=i/\S0 h) where
 live:=fun _ h st=>lv h st.2
 frame:=fun _ h h' st k=>⟨st.1,fr h h' st.2 k⟩
 item:=fun k s Q E hk st _=>by have:=st.1;lia
 done:=fun s Q E st hE=>en s Q E st.2 hE
theorem a4J{P:AG}{w:AF}{K:AD}(a it:AB):a4v P w K (Itt K a) it (fun i h=>h.IsTupleIter it a i) where
 obj:=fun i h st=>by
  obtain⟨o,e,c,d⟩:=st
  exact⟨o,e,fun v z=>by rw [d] at z;cases z⟩
 keep:=fun i h h' st k=>st.at fun o e=>k o e
 item:=by
  intro X hP hw hK hc i pins s σ H I fi st hg
  subst hP hw hK
  obtain⟨xs,x,hq,hx⟩:=hg
  obtain⟨its,rv,p,hz⟩:=I.tuple hq
  obtain⟨u,hu,ru⟩:=rv.get hx
  have p':s.heap.IsTuple a its.toArray:=p
  have hai:a≠it:=fun z=>by
   subst z
   obtain⟨o,e,c,_⟩:=p'
   obtain⟨o2,e2,c2,_⟩:=st
   rw [e] at e2;cases e2;rw [c] at c2
   injection c2 with c2
   exact absurd c2 (by decide)
  refine⟨_,_,_,_,a4I (prog:=X.prog) (w:=X.w) (A:=X.A.in1) (show X.A.in1.handled=none from I.ok.hd hc) it a hai its.toArray,⟨st,p'⟩, ?_,fun e old hne he hm=> ?_,fun v hv=> ?_,fun h' z=>z.1⟩
  ·have:=(Ad.mp hu).1
   simpa using this
  ·have hm:e=it\/e=a:=by simpa using hm
   rcases hm with rfl|rfl
   ·exact hne rfl
   ·obtain⟨o,q,c,_⟩:=p'
    rw [he] at q;cases q
    injection c with c
    exact absurd c (by decide)
  ·have hv:its[i]?=some v:=by simpa using hv
   rw [hu] at hv;cases hv
   exact⟨x,ru,rfl,fun ys hy=>by rw [I.tuple_inj hy hq];exact hx⟩
 done:=by
   intro X hP hw hK hc i pins s σ H I fi st hg
   subst hP hw hK
   obtain⟨xs,hq,hx⟩:=hg
   obtain⟨its,rv,p,hz⟩:=I.tuple hq
   have p':s.heap.IsTuple a its.toArray:=p
   have hl:=rv.length
   exact⟨_,_,_,_,a0l (prog:=X.prog) (w:=X.w) (A:=X.A.in1) (it:=it) (fp:=[it,a]) (i:=i) (S0:=fun h=>h.IsTupleIter it a i/\h.IsTuple a its.toArray) (fun h z=>let ⟨o,ho,_⟩:=z.1;⟨o,ho⟩)
    (fun h h' z k=>⟨z.1.at fun o e=>k it (by simp) o e,let ⟨o,e,r⟩:=z.2;⟨o,k a (by simp) o e,r⟩⟩)
    (fun s Q E z hE=>L9 (show X.A.in1.handled=none from I.ok.hd hc) z.1 z.2 (by simp;lia) hE),rfl,st,p'⟩
theorem a5D{P:AG}{w:AF}{K:AD}(a it:AB):a4v P w K (Itl K a) it (fun i h=>h.IsListIter it a i) where
 obj:=fun i h st=>by
  obtain⟨o,e,c,d⟩:=st
  exact⟨o,e,fun v z=>by rw [d] at z;cases z⟩
 keep:=fun i h h' st k=>st.at fun o e=>k o e
 item:=by
  intro X hP hw hK hc i pins s σ H I fi st hg
  subst hP hw hK
  obtain⟨xs,x,hq,hx⟩:=hg
  obtain⟨its,rv,p,hz⟩:=I.list hq
  obtain⟨u,hu,ru⟩:=rv.get hx
  have p':s.heap.IsList a its.toArray:=p.isList
  have hai:a≠it:=fun z=>by
   subst z
   obtain⟨o,e,c,_⟩:=p'
   obtain⟨o2,e2,c2,_⟩:=st
   rw [e] at e2;cases e2;rw [c] at c2
   injection c2 with c2
   exact absurd c2 (by decide)
  refine⟨_,_,_,_,Draws.list (prog:=X.prog) (w:=X.w) (A:=X.A.in1) (show X.A.in1.handled=none from I.ok.hd hc) it a hai its.toArray,⟨st,p'⟩, ?_,fun e old hne he hm=> ?_,fun v hv=> ?_,fun h' z=>z.1⟩
  ·have:=(Ad.mp hu).1
   simpa using this
  ·have hm:e=it\/e=a:=by simpa using hm
   rcases hm with rfl|rfl
   ·exact hne rfl
   ·obtain⟨o,q,c,_⟩:=p'
    rw [he] at q;cases q
    injection c with c
    exact absurd c (by decide)
  ·have hv:its[i]?=some v:=by simpa using hv
   rw [hu] at hv;cases hv
   exact⟨x,ru,rfl,fun ys hy=>by rw [I.list_inj hy hq];exact hx⟩
 done:=by
   intro X hP hw hK hc i pins s σ H I fi st hg
   subst hP hw hK
   obtain⟨xs,hq,hx⟩:=hg
   obtain⟨its,rv,p,hz⟩:=I.list hq
   have p':s.heap.IsList a its.toArray:=p.isList
   have hl:=rv.length
   exact⟨_,_,_,_,a0l (prog:=X.prog) (w:=X.w) (A:=X.A.in1) (it:=it) (fp:=[it,a]) (i:=i) (S0:=fun h=>h.IsListIter it a i/\h.IsList a its.toArray) (fun h z=>let ⟨o,ho,_⟩:=z.1;⟨o,ho⟩)
    (fun h h' z k=>⟨z.1.at fun o e=>k it (by simp) o e,z.2.at fun o e=>k a (by simp) o e⟩)
    (fun s Q E z hE=>wpAny_nextOf_list_end (show X.A.in1.handled=none from I.ok.hd hc) z.1 z.2 (by simp;lia) hE),rfl,st,p'⟩
theorem a6N{P:AG}{w:AF}{K:AD}(it:AB)(x:Str)(t:Tok):a4v P w K (Its x) it (fun i h=>h.IsStrIter it (strIterType x) x t i) where
 obj:=fun i h st=>by
  obtain⟨o,e,c,d⟩:=st
  exact⟨o,e,fun v z=>by rw [d] at z;cases z⟩
 keep:=fun i h h' st k=>let ⟨o,e,r⟩:=st;⟨o,k o e,r⟩
 item:=by
  intro X hP hw hK hc i pins s σ H I fi st hg
  subst hP hw hK
  have hg:i<x.cps.size:=hg
  have yl:∀v,(∃c u,x.cps[i]?=some c/\v=Value.str ⟨#[c]⟩ u)->∃y,i6 y v/\(Its x).yld i H y H:=fun v ⟨c,u,h1,h2⟩=>⟨.str ⟨#[c]⟩,⟨u,h2⟩,rfl,c,h1,rfl⟩
  cases ha:x.cps.all (· <128) with
  |true=>
   have et:strIterType x="str_ascii_iterator":=by simp [strIterType,ha]
   rw [et] at st ⊢
   exact⟨_,_,_,_,Draws.strAscii (prog:=X.prog) (w:=X.w) (A:=X.A.in1) (show X.A.in1.handled=none from I.ok.hd hc) it x t,st,hg,fun e old hne he hm=>hne (by simpa using hm),yl,fun h' z=>z⟩
  |false=>
   have et:strIterType x="str_iterator":=by simp [strIterType,ha]
   rw [et] at st ⊢
   exact⟨_,_,_,_,Draws.strWide (prog:=X.prog) (w:=X.w) (A:=X.A.in1) (show X.A.in1.handled=none from I.ok.hd hc) it x t,st,hg,fun e old hne he hm=>hne (by simpa using hm),yl,fun h' z=>z⟩
 done:=by
   intro X hP hw hK hc i pins s σ H I fi st hg
   subst hP hw hK
   have hg:x.cps.size<=i:=hg
   have hx:x.cps[i]?=none:=by simp [hg]
   refine⟨_,_,_,_,a0l (prog:=X.prog) (w:=X.w) (A:=X.A.in1) (it:=it) (fp:=[it]) (i:=i) (S0:=fun h=>h.IsStrIter it (strIterType x) x t i) (fun h z=>let ⟨o,ho,_⟩:=z;⟨o,ho⟩)
    (fun h h' z k=>let ⟨o,e,r⟩:=z;⟨o,k it (by simp) o e,r⟩) (fun s Q E z hE=> ?_),rfl,st⟩
   cases ha:x.cps.all (· <128) with
   |true=>
    have et:strIterType x="str_ascii_iterator":=by simp [strIterType,ha]
    rw [et] at z
    exact wpAny_nextOf_ascii_end (show X.A.in1.handled=none from I.ok.hd hc) z hx hE
   |false=>
    have et:strIterType x="str_iterator":=by simp [strIterType,ha]
    rw [et] at z
    exact wpAny_nextOf_wide_end (show X.A.in1.handled=none from I.ok.hd hc) z hx hE
theorem a1C:bootBuiltins "enumerate"=some (.type "enumerate"):=by decide+kernel
section
variable {X:Cx}
def iEn(K:AD)(ta:TA):TI:=fun σ H R=>ta σ H fun vs H1=>(∃a xs,vs=[.ref a]/\M5 K H1 a xs/\R (Ite (Itt K a)) H1)\/(∃a xs,vs=[.ref a]/\H9 K H1 a xs/\R (Ite (Itl K a)) H1)\/∃z,vs=[.str z]/\R (Ite (Its z)) H1
theorem a7S{tg:AE}{pins:List (AB×Obj)}{σ:L2.St}{H:Hp}{s:AC}{R:It->Hp->Prop}{E:AA->AC->Prop}{J:It}{h':Heap}{tn:Nat->Heap->Prop}{elts:List AE}{x1}{tpos:Pos}(htg:tg= .Tuple elts x1 tpos)(I:g4 X pins σ H s)(D:a4v X.prog X.w X.K J s.heap.objs.size tn)
 (he:IsEnum h' (s.heap.objs.size+1) s.heap.objs.size 0 .none) (st:tn 0 h') (hk:∀b o,s.heap.get? b=some o->h'.get? b=some o) (q:R (Ite J) H):
 AH (model X.prog X.w) X.A (pyIter (.ref (s.heap.objs.size+1))) (PIE X pins σ tg R) E {s with heap:=h'}:=by
 subst htg
 refine wpAny_pyIter_enum (s:={s with heap:=h'}) he ?_
 refine⟨s.heap.objs.size+1,[s.heap.objs.size+1,s.heap.objs.size],_,_,H,rfl,I.kept (t':=s.toks) hk,a7r D (Nat.succ_ne_self _),⟨⟨_,he⟩,st⟩,fun b hb=> ?_,q⟩
 have hb:b=s.heap.objs.size+1\/b=s.heap.objs.size:=by simpa using hb
 rcases hb with rfl|rfl
 ·exact I.fpOk (Nat.le_succ _) (I.hok.fresh (Nat.le_succ _))
 ·exact I.fpOk (AO _) (I.hok.fresh (AO _))
theorem b0v{a:AE}{ta:TA}{p pos tpos:Pos}{elts:List AE}{x1}(hg:Gl X "enumerate")(hm:X.mg "enumerate"=none)(ha:PA X [a] ta)(hs:AN [a] X.env=[(false,eval a X.env)]:=by rfl):
 PI X (.Tuple elts x1 tpos) (.Call (.Name "enumerate" p) [a] [] pos) (iEn X.K ta):=by
 intro pins s σ H R I h
 refine Call_ (a14 I hg hm a1C (PyProof.Rows.callWith_type1 (w9 (ha pos pins s σ H _ I h) fun us s1 ⟨vs,H1,I1,r1,q1⟩=> ?_) hs rfl))
 rcases q1 with⟨b,xs,rfl,hq,q⟩|⟨b,xs,rfl,hq,q⟩|⟨z,rfl,q⟩
 ·cases r1 with
  |cons r rr=>
   cases rr
   cases r
   obtain⟨its,rv,p',hz⟩:=I1.tuple hq
   exact P3 (show s1.heap.IsTuple b its.toArray from p') fun h' he hit hsz hk=>a7S rfl I1 (a4J b _) he hit hk q
 ·cases r1 with
  |cons r rr=>
   cases rr
   cases r
   obtain⟨its,rv,p',hz⟩:=I1.list hq
   exact call_enumerate_list p'.isList fun h' he hit hsz hk=>a7S rfl I1 (a5D b _) he hit hk q
 ·cases r1 with
  |cons r rr=>
   cases rr
   obtain⟨t,rfl⟩:=r
   exact call_enumerate_str fun h' he hit hsz hk=>a7S rfl I1 (a6N _ z t) he hit hk q
def C1(ps:List PV):List PV:=ps.zipIdx.map fun q=> .tuple [.int ((q.2:Nat):Int),q.1]
theorem a25(ps:List PV)(k:Nat):(C1 ps)[k]?=ps[k]?.map fun p=> .tuple [.int ((k:Nat):Int),p]:=by
 unfold C1
 rw [Ao,List.getElem?_zipIdx]
 cases ps[k]? with
 |none=>rfl
 |some p=>simp
theorem a26(ps:List PV):(C1 ps).length=ps.length:=by unfold C1;simp
def a8m(p:PV):Option (List PV):=match p with
 | .str z=>some (z.cps.toList.map fun c=> .str ⟨#[c]⟩)
 |p=>PyData.items? p
def a8v(m:MA):MI:=fun ρ=>(m ρ).bind fun as=>match as with
 |[p]=>(a8m p).map C1
 |_=>none
theorem a5Q{K:AD}{F0 H0 F1:Hp}{body:MS}{tg:PV->a8->Option a8}{g:TG}{ps:List PV}{fl:Fl}{D:C8}{k:Nat}{p:PV}{x:V}{t:AB}{σ:L2.St}{H:Hp}(T:a4z K g tg)(fin:Fin K F0 H0 F1 D fl)(ep:ps[k]?=some p)
 (hp:PvL K F0 H0 F1 body tg (C1 ps) fl k σ H) (hn:H t=none) (rx:r9 K F1 p x):
 g (.ref t) σ (upd H t (.tup [.int k,x])) fun σ2 H2=>tMS K body {D with nx:=PvL K F0 H0 F1 body tg (C1 ps) fl (k+1),ct:=PvL K F0 H0 F1 body tg (C1 ps) fl (k+1),bk:=D.nx} σ2 H2:=by
 obtain⟨F,ρ,s,so,e⟩:=hp
 have eq:(C1 ps)[k]?=some (.tuple [.int ((k:Nat):Int),p]):=by rw [a25,ep];rfl
 have hk:k<(C1 ps).length:=(Ad.mp eq).1
 have hd:(C1 ps).drop k= .tuple [.int ((k:Nat):Int),p]::(C1 ps).drop (k+1):=by
  rw [List.drop_eq_getElem_cons hk]
  congr 1
  exact(Ad.mp eq).2
 rw [hd] at e
 obtain⟨ρ1,f1,e1,e2,e3⟩:=a0q e
 have xl:G6 F H (upd F t (.tup [.int k,x])) (upd H t (.tup [.int k,x])):=G6.lay so.e.fh hn
 have up:f6 F1 (upd F t (.tup [.int k,x])):=s.trans xl.f
 refine T F0 H0 _ _ σ ρ ρ1 _ (.ref t) _ (so.ext xl) (show r9 K (upd F t (.tup [.int k,x])) (.tuple [.int ((k:Nat):Int),p]) (.ref t) from⟨t,[.int k,x],rfl,TqT.of g5,⟨_,_,rfl,rfl,⟨_,_,rfl,r9.mono up _ rx,rfl⟩⟩⟩) e1 fun σ' so'=>⟨F0,H0,_,ρ1,f1,so',e2, ?_⟩
 cases f1 with
 |nx ρ'=>exact fun σ2 F2 H2 s2 so2=>⟨F2,ρ',up.trans s2,so2,e3⟩
 |ct ρ'=>exact fun σ2 F2 H2 s2 so2=>⟨F2,ρ',up.trans s2,so2,e3⟩
 |bk ρ'=>cases e3;exact fun σ2 F2 H2 s2 so2=>fin σ2 F2 H2 (up.trans s2) so2
 |rt r=>cases e3;exact fin
theorem a71{K:AD}{F0 H0 F1:Hp}{body:MS}{tg:PV->a8->Option a8}{g:TG}{ps:List PV}{fl:Fl}{D:C8}{σ:L2.St}{H:Hp}{J:It}(S:a6H K F1 J ps)(T:a4z K g tg)(fin:Fin K F0 H0 F1 D fl)(h0:PvL K F0 H0 F1 body tg (C1 ps) fl 0 σ H):
 ∃W:Nat->Nat->L2.St->Hp->Prop,(∃m,W 0 m σ H)/\∀i m σ H,W i m σ H->
  ((Ite J).stop i H/\D.nx σ H)\/((Ite J).go i H/\∃N:L2.St->Hp->Prop,(∀σ' H',N σ' H'->∃m',m'<m/\W (i+1) m' σ' H')/\∀x H',(Ite J).yld i H x H'->g x σ H' fun σ2 H2=>tMS K body {D with nx:=N,ct:=N,bk:=D.nx} σ2 H2):=by
 refine⟨fun i m σ H=>m=ps.length - i/\i<=ps.length/\PvL K F0 H0 F1 body tg (C1 ps) fl i σ H,⟨ps.length,by simp,Nat.zero_le _,h0⟩, ?_⟩
 rintro i m σ H ⟨rfl,hi,pv⟩
 have sm:f6 F1 H:=let ⟨_,_,s,so,_⟩:=pv;s.trans so.e.fh
 by_cases hlt:i<ps.length
 ·have ep:ps[i]?=some ps[i]:=by simp [hlt]
  refine .inr ⟨S.go i _ H sm ep,PvL K F0 H0 F1 body tg (C1 ps) fl (i+1),fun σ' H' p'=>⟨ps.length - (i+1),by lia,rfl,hlt,p'⟩,fun v H' y=> ?_⟩
  obtain⟨x,t,yx,hn,rfl,rfl⟩:=y
  exact a5Q T fin ep pv hn (S.yd i _ x H H sm ep yx).2
 ·have ei:i=ps.length:=by lia
  refine .inl ⟨S.st i H sm (by lia), ?_⟩
  rw [ei,<-a26 ps] at pv
  exact Z0 fin pv
theorem a9h{F1:Hp}{a:AB}{xs:List V}{ps:List PV}(hq:M5 X.K F1 a xs)(rl:f9 X.K F1 ps xs):a6H X.K F1 (Itt X.K a) ps:=by
 have hlen:=rl.length
 refine⟨fun i H2 s h=>⟨xs,k9 s hq,by lia⟩,fun i p H2 s h=> ?_,fun i p x H2 H3 s h y=> ?_⟩
 ·obtain⟨v,ev,_⟩:=rl.get h
  exact⟨xs,v,k9 s hq,ev⟩
 ·obtain⟨e,y⟩:=y
  have:=y xs (k9 s hq)
  obtain⟨v,ev,rv⟩:=rl.get h
  rw [this] at ev;cases ev
  exact⟨e,rv⟩
theorem a9f{F1:Hp}{a:AB}{xs:List V}{ps:List PV}(hq:H9 X.K F1 a xs)(rl:f9 X.K F1 ps xs):a6H X.K F1 (Itl X.K a) ps:=by
 have hlen:=rl.length
 refine⟨fun i H2 s h=>⟨xs,v7 s hq,by lia⟩,fun i p H2 s h=> ?_,fun i p x H2 H3 s h y=> ?_⟩
 ·obtain⟨v,ev,_⟩:=rl.get h
  exact⟨xs,v,v7 s hq,ev⟩
 ·obtain⟨e,y⟩:=y
  have:=y xs (v7 s hq)
  obtain⟨v,ev,rv⟩:=rl.get h
  rw [this] at ev;cases ev
  exact⟨e,rv⟩
theorem a9g{F1:Hp}(z:Str):a6H X.K F1 (Its z) (z.cps.toList.map fun c=> .str ⟨#[c]⟩):=by
 refine⟨fun i H2 s h=> ?_,fun i p H2 s h=> ?_,fun i p x H2 H3 s h y=> ?_⟩
 ·have h:z.cps.size<=i:=by simpa using h
  exact h
 ·have:=(Ad.mp h).1
  have h:i<z.cps.size:=by simpa using this
  exact h
 ·obtain⟨e,c,hc,rfl⟩:=y
  refine⟨e, ?_⟩
  rw [Ao,Array.getElem?_toList,hc] at h
  cases h
  rfl
theorem a9W{a:AE}{body:List Stmt}{m:MA}{g:TG}{t:PV->a8->Option a8}{b:MS}{p rp pos tpos:Pos}{elts:List AE}{x1}(hp:PassesOwn (model X.prog X.w) X.A X.env X.xe)(hc:X.calm=true)(hgl:Gl X "enumerate")(hm:X.mg "enumerate"=none)(ha:EA X [a] m)(hg:PG X (.Tuple elts x1 tpos) g)(T:a4z X.K g t)(hb:ESs X body b)
 (hst:AN [a] X.env=[(false,eval a X.env)]:=by rfl) (hs:∀x,foldedSetIterable (.Call (.Name "enumerate" p) [a] [] rp) X.env x=pure x:=by intro _;rfl):ES X (.For (.Tuple elts x1 tpos) (.Call (.Name "enumerate" p) [a] [] rp) body [] pos) (W4 (a8v m) t b):=
 q9 (a2s hp hc (b0v hgl hm ha hst) hg hb hs) fun D σ H ⟨F0,H0,F,ρ,fl,so,e,fin⟩=>by
  obtain⟨es,e1,e⟩:=bind_some e
  obtain⟨as,e1,e2⟩:=bind_some e1
  split at e2
  ·rename_i q
   refine⟨F,ρ,_,so.e,e1,fun vs F1 H1 x rl=> ?_⟩
   obtain⟨v,r,rfl,rq,rr⟩:=rl
   cases rr
   have fin1:=fin.later x.f
   cases hi:a8m q with
   |none=>rw [hi] at e2;cases e2
   |some ps=>
    rw [hi] at e2
    cases e2
    have core:∀J,a6H X.K F1 J ps->_:=fun J S=>a71 (g:=g) (σ:=σ) (H:=H1) S T fin1 ⟨F1,ρ,PU.f6.refl F1,so.ext x,e⟩
    cases q with
    |tuple qs=>
     cases hi
     obtain⟨a,xs,rfl,hq,rl⟩:=rq
     exact .inl ⟨a,xs,rfl,k9 x.fh hq.sq,core _ (a9h hq.sq rl)⟩
    |list qs=>
     cases hi
     obtain⟨a,xs,rfl,hq,rl⟩:=rq
     exact .inr (.inl ⟨a,xs,rfl,v7 x.fh hq,core _ (a9f hq rl)⟩)
    |str z=>
     cases hi
     cases rq
     exact .inr (.inr ⟨z,rfl,core _ (a9g z)⟩)
    |_=>cases hi
  ·cases e2
end
def V6(A:AI)(s:AC)(u v:AA)(b:Bool):Prop:=∀(prog:AG) (w:AF) (E:AA->AC->Prop) (Q:AA->AC->Prop),Q (.bool b) s->AH (model prog w) A (richCompare .Lt u v) Q E s
section
open AutoSeq1 (wpAny_loadPart')
theorem a4k(l b:AB)(xs ys:Array AA)(n n2:Nat)(dd dd2:Option AB)(sl sl2:Array (Option AA))(e:Nat->Bool)(c:Bool):
 Meets (Builtin.«tuple.__lt__» ⟨[.ref l,.ref b],[]⟩)
  (fun A R s=>(s.heap.get? l=some {cls:= .type "tuple",dict:=dd,data:= .seq xs n,slots:=sl}/\s.heap.get? b=some {cls:= .type "tuple",dict:=dd2,data:= .seq ys n2,slots:=sl2})/\
   (∀j (h1:j<xs.size) (h2:j<ys.size),SeqAt.EqAt A.in1 s xs[j] ys[j] (e j))/\(∀j (h1:j<xs.size) (h2:j<ys.size),(∀k,k<j->e k=true)->e j=false->V6 A.in1 s xs[j] ys[j] c)/\
   ((∀k,k<min xs.size ys.size->e k=true)->c=decide (xs.size<ys.size))/\R (.ok (.ret (.bool c))) s):=
 .of_wp fun prog w A R s h=>by
  obtain⟨hp,g,d,tk,os⟩:=s
  obtain⟨⟨hl,hb⟩,he,hlt,hce,h⟩:=h
  have f2:=AutoSeq1.sub_tuple_tuple
  have hZ:(xs.toList.zip ys.toList).length=min xs.size ys.size:=by simp
  wp_walk using wpAny_loadPart' hl,wpAny_loadPart' hb,wpAny_forIn_list _ (fun u5 b s'=>b.1=none/\s'=⟨hp,g,d,tk,os⟩/\∃i,i<=min xs.size ys.size/\u5=(xs.toList.zip ys.toList).drop i/\∀k,k<i->e k=true) _
  case turn=>
   rintro⟨y,x⟩ u5 b s' ⟨hb',rfl,i,hi,hz,hR⟩
   have hlt':i<(xs.toList.zip ys.toList).length:=by
    rcases Nat.lt_or_ge i (xs.toList.zip ys.toList).length with h'|h'
    ·exact h'
    ·rw [List.drop_of_length_le h'] at hz;cases hz
   have hm:i<min xs.size ys.size:=by lia
   have h1:i<xs.size:=by lia
   have h2:i<ys.size:=by lia
   rw [List.drop_eq_getElem_cons hlt'] at hz
   injection hz with hyx hrest
   have hy:y=xs[i]:=by simpa using congrArg Prod.fst hyx
   have hx:x=ys[i]:=by simpa using congrArg Prod.snd hyx
   subst hy hx
   refine AK (he i h1 h2 prog w _ _ ?_)
   cases hq:e i with
   |true=>
    wp_walk
    exact⟨rfl,rfl,i+1,by lia,hrest,fun k hk=>by
     rcases Nat.lt_or_ge k i with h'|h'
     ·exact hR k h'
     ·rw [show k=i by lia];exact hq⟩
   |false=>
    have hl3:=hlt i h1 h2 hR hq
    show AH _ A.in1 (rule _>>=fun _=>richCompare .Lt xs[i] ys[i]>>=fun v=>ret v>>=fun q=>pure (ForInStep.done (some q,()))) _ _ _
    refine AK (wpAny_rule ?_)
    refine AK (hl3 prog w _ _ ?_)
    refine AK (AS ?_)
    refine AS ?_
    exact AS ⟨_,rfl,h⟩
  case fin=>
   rintro⟨b1,b2⟩ s' ⟨hb',rfl,i,hi,hz,hR⟩
   simp only at hb'
   subst hb'
   have hge:min xs.size ys.size<=i:=by
    rcases Nat.lt_or_ge i (xs.toList.zip ys.toList).length with h'|h'
    ·rw [List.drop_eq_getElem_cons h'] at hz;cases hz
    ·lia
   wp_walk
   refine⟨_,rfl, ?_⟩
   rw [hce fun k hk=>hR k (by lia)] at h
   exact h
  case h=>
   exact⟨rfl,rfl,0,by lia,rfl,fun k hk=>by lia⟩
variable {A:AI}{s:AC}
theorem V6.tuples{l b:AB}{xs ys:Array AA}{e:Nat->Bool}{c:Bool}(hl:s.heap.IsTuple l xs)(hb:s.heap.IsTuple b ys)(hu:A.units<cLine)
 (he:∀j (h1:j<xs.size) (h2:j<ys.size),SeqAt.EqAt A.in1 s xs[j] ys[j] (e j)) (hlt:∀j (h1:j<xs.size) (h2:j<ys.size),(∀k,k<j->e k=true)->e j=false->V6 A.in1 s xs[j] ys[j] c)
 (hce:(∀k,k<min xs.size ys.size->e k=true)->c=decide (xs.size<ys.size)):V6 A s (.ref l) (.ref b) c:=fun prog w E Q h=>by
 obtain⟨⟨c1,d1,t1,s1⟩,o1,e1,n1,k1⟩:=id hl
 obtain⟨⟨c2,d2,t2,s2⟩,o2,e2,n2,k2⟩:=id hb
 simp only at e1 k1 e2 k2
 subst e1 k1 e2 k2
 exact richCompare_meets_room (op:= .Lt) ⟨_,o1,rfl⟩ ⟨_,o2,rfl⟩ F.slot_tuple_lt F.entry_tuple_lt (F.args_tuple_lt_2 _ _) (a4k l b xs ys n1 n2 d1 d2 s1 s2 e c)
  ⟨⟨o1,o2⟩,he,hlt,hce,show Value.bool c≠Value.notImplemented/\Q (.bool c) s from⟨(fun x=>nomatch x),h⟩⟩ hu
theorem V6.ints(a b:Int)(t u:Tok):V6 A s (.int a t) (.int b u) (decide (a<b)):=fun prog w E Q h=>wpAny_lt_int h
theorem V6.strs(a b:Str)(t u:Tok):V6 A s (.str a t) (.str b u) (decide (a.cps.toList<b.cps.toList)):=fun prog w E Q h=>lt_str h
end
section
variable {X:Cx}{pins:List (AB×Obj)}{σ:L2.St}{H:Hp}{s:AC}
end
section
variable {X:Cx}
end
section
variable {prog:AG}{w:AF}{A:AI}{R:Result->AC->Prop}{I:AB}{fp wr:List AB}{n:Nat}{P:Nat->AA->Prop}{St:Nat->Heap->Prop}
end
section
variable {prog:AG}{w:AF}{A:AI}{E:AA->AC->Prop}{s:AC}
end
section
variable {X:Cx}
end
end PU
namespace TS
open PySem PyProof.Rows
abbrev SM(α:Type):=StateT SortSt Sem α
def g(a:Array Keyed)(i:Nat):Keyed:=(a[i]?).getD (Value.none,Value.none)
theorem a5K{a:Array Keyed}{i:Nat}(h:i<a.size):a[i]?=some (g a i):=by
 unfold g;rw [getElem?_pos a i h];rfl
theorem a8e{a b:Array Keyed}{i j:Nat}(h:a[i]?=b[j]?):g a i=g b j:=by unfold g;rw [h]
theorem b04{a:Array Keyed}{i:Nat}(h:i<a.size):g a i∈a.toList:=by
 have:=a5K h
 exact Array.mem_toList_iff.mpr (Array.mem_of_getElem? this)
theorem E9{a:Array Keyed}{i:Nat}(h:i<a.size):a.toList[i]?=some (g a i):=by
 rw [Array.getElem?_toList];exact a5K h
section
variable {prog:AG}{w:AF}{A:AI}{E:AA->AC->Prop}{s:AC}
structure K5(prog:AG)(w:AF)(A:AI)(E:AA->AC->Prop)(s:AC)(κ:SortKind)(S:Keyed->Prop)(R:Keyed->Keyed->Bool):Prop where
 lt:∀x y,S x->S y->∀(st:SortSt) (Q:Option Bool->SortSt->Prop),kindOf st=κ->Q (some (R x y)) st->wpS (model prog w) A E s (lt' x y) Q st
 tr:∀x y z,S x->S y->S z->R y x=false->R z y=false->R z x=false
 as:∀x y,S x->S y->R x y=true->R y x=false
variable {κ:SortKind}{S:Keyed->Prop}{R:Keyed->Keyed->Bool}
theorem K5.rfl'(C:K5 prog w A E s κ S R){x:Keyed}(hx:S x):R x x=false:=by
 by_cases h:R x x=true
 ·exact C.as x x hx hx h
 ·exact eq_false_of_ne_true h
theorem k4{a:Array Keyed}{i:Nat}(h:i<a.size){Q:Keyed->SortSt->Prop}{st:SortSt}(hq:Q (g a i) st):wpS (model prog w) A E s (elem' a i) Q st:=by
 rw [elem'_eq,a5K h];exact wpS_pure hq
def gal:Bool->Keyed->Array Keyed->Nat->Nat->Nat->SM (Option Nat):=sortPriv% PySem.Builtin.gallop
def byd(left:Bool)(key:Keyed)(arr:Array Keyed)(base i:Nat):SM (Option Bool):=do
 let x<-elem' arr (base+i)
 if left then lt' x key else return (<-lt' key x).map (!·)
theorem b1L(lf:Bool)(ky:Keyed)(ar:Array Keyed)(bs m ht:Nat):gal lf ky ar bs m ht=(do
 let mut p:=0
 let mut q:=1
 let mut u:=0
 let mut v:=0
 let some r0<-byd lf ky ar bs ht|return none
 if r0 then
  let top:=m - ht
  for _ in [0:m] do
   if q>=top then break
   let some t<-byd lf ky ar bs (ht+q)|return none
   if !t then break
   p:=q
   q:=2*q+1
  u:=ht+p+1
  v:=ht+min q top
 else
  let top:=ht+1
  for _ in [0:m] do
   if q>=top then break
   let some t<-byd lf ky ar bs (ht - q)|return none
   if t then break
   p:=q
   q:=2*q+1
  u:=ht+1 - min q top
  v:=ht - p
 for _ in [0:m] do
  if u>=v then break
  let h:=u+(v - u)/ 2
  let some t<-byd lf ky ar bs h|return none
  if t then u:=h+1 else v:=h
 return some v):=rfl
def bb(R:Keyed->Keyed->Bool)(left:Bool)(key x:Keyed):Bool:=if left then R x key else !R key x
theorem a4m(C:K5 prog w A E s κ S R){left:Bool}{key:Keyed}{arr:Array Keyed}{base i:Nat}{st:SortSt}{Q:Option Bool->SortSt->Prop}(hk:kindOf st=κ)(hi:base+i<arr.size)(hS:S (g arr (base+i)))(hy:S key)
 (h:Q (some (bb R left key (g arr (base+i)))) st):wpS (model prog w) A E s (byd left key arr base i) Q st:=by
 unfold byd
 refine wpS_bind (k4 hi ?_)
 cases left
 ·exact wpS_bind (C.lt _ _ hy hS st _ hk (wpS_pure h))
 ·exact C.lt _ _ hS hy st _ hk h
theorem a9s(C:K5 prog w A E s κ S R){left:Bool}{key:Keyed}{arr:Array Keyed}{base n hint:Nat}{st:SortSt}{Q:Option Nat->SortSt->Prop}(hk:kindOf st=κ)(hn:base+n<=arr.size)(hh:hint<n)
 (hS:∀i,i<n->S (g arr (base+i))) (hy:S key)
 (mono:∀i j,i<=j->j<n->bb R left key (g arr (base+j))=true->bb R left key (g arr (base+i))=true)
 (h:∀k,k<=n->(∀i,i<k->bb R left key (g arr (base+i))=true)->(∀i,k<=i->i<n->bb R left key (g arr (base+i))=false)->Q (some k) st):
 wpS (model prog w) A E s (gal left key arr base n hint) Q st:=by
 rw [b1L]
 have mono':∀i j,i<=j->j<n->bb R left key (g arr (base+i))=false->bb R left key (g arr (base+j))=false:=fun i j a b c=>by
  cases d:bb R left key (g arr (base+j))
  ·rfl
  ·exact absurd ((mono i j a b d).symm.trans c) (by decide)
 have last:∀u v,u<=v->v<=n->(∀i,i<u->bb R left key (g arr (base+i))=true)->(∀i,v<=i->i<n->bb R left key (g arr (base+i))=false)->
  wpS (model prog w) A E s (forIn [0:n] ((none,u,v):Option (Option Nat)×Nat×Nat) fun _ c=>
   if c.2.1>=c.2.2 then pure (ForInStep.done (none,c.2.1,c.2.2)) else do
    let t<-byd left key arr base (c.2.1+(c.2.2 - c.2.1)/ 2)
    match t with
    |some t=>if t=true then pure (ForInStep.yield (none,c.2.1+(c.2.2 - c.2.1)/ 2+1,c.2.2)) else pure (ForInStep.yield (none,c.2.1,c.2.1+(c.2.2 - c.2.1)/ 2))
    |_=>pure (ForInStep.done (some none,c.2.1,c.2.2)))
   (fun c st'=>st'=st/\∃k,c=(none,k,k)/\k<=n/\(∀i,i<k->bb R left key (g arr (base+i))=true)/\(∀i,k<=i->i<n->bb R left key (g arr (base+i))=false)) st:=by
  intro u v huv hvn h1 h2
  refine wpS_forRange (I:=fun x c st'=>st'=st/\∃u v,c=(none,u,v)/\u<=v/\v<=n/\v - u+x<=n/\(∀i,i<u->bb R left key (g arr (base+i))=true)/\(∀i,v<=i->i<n->bb R left key (g arr (base+i))=false)) ?_ ?_ ⟨rfl,u,v,rfl,huv,hvn,by lia,h1,h2⟩
  ·rintro x c st' _ hx ⟨rfl,u,v,rfl,huv,hvn,hux,h1,h2⟩
   dsimp only
   by_cases huv':u>=v
   ·rw [if_pos huv']
    have:u=v:=by lia
    subst this
    exact wpS_pure ⟨rfl,u,rfl,hvn,h1,h2⟩
   ·rw [if_neg huv']
    obtain⟨c,hc,c1,c2⟩:∃c,u+(v - u)/ 2=c/\u<=c/\c<v:=⟨_,rfl,by lia,by lia⟩
    rw [hc]
    refine wpS_bind (a4m C hk (by lia) (hS _ (by lia)) hy ?_)
    cases hb:bb R left key (g arr (base+c))
    ·simp only [An,if_false]
     exact wpS_pure ⟨rfl,u,_,rfl,by lia,by lia,by lia,h1,fun i a b=>mono' _ _ a b hb⟩
    ·simp only [if_true]
     exact wpS_pure ⟨rfl,_,v,rfl,by lia,by lia,by lia,fun i a=>mono _ _ (by lia) (by lia) hb,h2⟩
  ·rintro c st' ⟨rfl,u,v,rfl,huv,hvn,hux,h1,h2⟩
   have:u=v:=by lia
   subst this
   exact⟨rfl,u,rfl,hvn,h1,h2⟩
 refine wpS_bind (a4m C hk (by lia) (hS _ hh) hy ?_)
 cases hb:bb R left key (g arr (base+hint))
 ·dsimp only
  simp only [An,if_false]
  refine wpS_bind (wpS_mono (wpS_forRange (I:=fun x c st'=>st'=st/\∃p q,c=(none,p,q)/\p<q/\p<=hint/\x+1<=q/\bb R left key (g arr (base+(hint - p)))=false)
   (Q:=fun c st'=>st'=st/\∃p q,c=(none,p,q)/\p<q/\p<=hint/\bb R left key (g arr (base+(hint - p)))=false/\(q>=hint+1\/(q<=hint/\bb R left key (g arr (base+(hint - q)))=true))) ?_ ?_ ⟨rfl,0,1,rfl,by lia,by lia,by lia,hb⟩) ?_)
  ·rintro x c st' _ hx ⟨rfl,p,q,rfl,hpq,hp,hxq,hbp⟩
   dsimp only
   by_cases hq:q>=hint+1
   ·rw [if_pos hq]
    exact wpS_pure ⟨rfl,p,q,rfl,hpq,hp,hbp,.inl hq⟩
   ·rw [if_neg hq]
    refine wpS_bind (a4m C hk (by lia) (hS _ (by lia)) hy ?_)
    cases hb':bb R left key (g arr (base+(hint - q)))
    ·simp only [An,if_false]
     exact wpS_pure ⟨rfl,q,_,rfl,by lia,by lia,by lia,hb'⟩
    ·simp only [if_true]
     exact wpS_pure ⟨rfl,p,q,rfl,hpq,hp,hbp,.inr ⟨by lia,hb'⟩⟩
  ·rintro c st' ⟨rfl,p,q,rfl,hpq,hp,hxq,hbp⟩
   exact⟨rfl,p,q,rfl,hpq,hp,hbp,.inl (by lia)⟩
  ·rintro c st' ⟨rfl,p,q,rfl,hpq,hp,hbp,ho⟩
   dsimp only
   refine wpS_bind (wpS_mono (last _ _ ?_ ?_ ?_ ?_) ?_)
   rotate_left 4
   ·rintro c st'' ⟨rfl,k,rfl,hk1,hk2,hk3⟩
    exact wpS_pure (h k hk1 hk2 hk3)
   rotate_left 1
   ·lia
   rotate_left 2
   ·lia
   ·intro i hi
    rcases ho with ho|⟨ho,hb'⟩
    ·lia
    ·exact mono i _ (by lia) (by lia) hb'
   ·exact fun i a b=>mono' _ _ a b hbp
 ·dsimp only
  simp only [if_true]
  refine wpS_bind (wpS_mono (wpS_forRange (I:=fun x c st'=>st'=st/\∃p q,c=(none,p,q)/\p<q/\hint+p<n/\x+1<=q/\bb R left key (g arr (base+(hint+p)))=true)
   (Q:=fun c st'=>st'=st/\∃p q,c=(none,p,q)/\p<q/\hint+p<n/\bb R left key (g arr (base+(hint+p)))=true/\(q>=n - hint\/(hint+q<n/\bb R left key (g arr (base+(hint+q)))=false))) ?_ ?_ ⟨rfl,0,1,rfl,by lia,by lia,by lia,hb⟩) ?_)
  ·rintro x c st' _ hx ⟨rfl,p,q,rfl,hpq,hp,hxq,hbp⟩
   dsimp only
   by_cases hq:q>=n - hint
   ·rw [if_pos hq]
    exact wpS_pure ⟨rfl,p,q,rfl,hpq,hp,hbp,.inl hq⟩
   ·rw [if_neg hq]
    refine wpS_bind (a4m C hk (by lia) (hS _ (by lia)) hy ?_)
    cases hb':bb R left key (g arr (base+(hint+q)))
    ·simp only [Bool.not_false,if_true]
     exact wpS_pure ⟨rfl,p,q,rfl,hpq,hp,hbp,.inr ⟨by lia,hb'⟩⟩
    ·simp only [Bool.not_true,An,if_false]
     exact wpS_pure ⟨rfl,q,_,rfl,by lia,by lia,by lia,hb'⟩
  ·rintro c st' ⟨rfl,p,q,rfl,hpq,hp,hxq,hbp⟩
   exact⟨rfl,p,q,rfl,hpq,hp,hbp,.inl (by lia)⟩
  ·rintro c st' ⟨rfl,p,q,rfl,hpq,hp,hbp,ho⟩
   dsimp only
   refine wpS_bind (wpS_mono (last _ _ ?_ ?_ ?_ ?_) ?_)
   rotate_left 4
   ·rintro c st'' ⟨rfl,k,rfl,hk1,hk2,hk3⟩
    exact wpS_pure (h k hk1 hk2 hk3)
   rotate_left 1
   ·lia
   rotate_left 2
   ·lia
   ·exact fun i hi=>mono i _ (by lia) (by lia) hbp
   ·intro i a b
    rcases ho with ho|⟨ho,hb'⟩
    ·lia
    ·exact mono' _ _ (by lia) b hb'
end
def X5(R:Keyed->Keyed->Bool)(a:Array Keyed)(lo hi:Nat):Prop:=∀i j,lo<=i->i<=j->j<hi->R (g a j) (g a i)=false
def Ges(R:Keyed->Keyed->Bool)(a:Array Keyed)(lo hi:Nat):Prop:=∀i j,lo<=i->i<=j->j<hi->R (g a i) (g a j)=false
def Fix(lo:Nat)(a b:Array Keyed):Prop:=∀i,i<lo->g b i=g a i
theorem Fix.refl{lo:Nat}{a:Array Keyed}:Fix lo a a:=fun _ _=>rfl
theorem Fix.trans{lo:Nat}{a b c:Array Keyed}(h:Fix lo a b)(k:Fix lo b c):Fix lo a c:=fun i hi=>(k i hi).trans (h i hi)
theorem Q6{a:Array Keyed}{i j:Nat}(hj:j<=a.size)(k:Nat):g (mirror a i j ((j - i)/ 2)) k=if i<=k/\k<j then g a (i+j - 1 - k) else g a k:=by
 have e:=getElem?_mirror_all (i:=i) hj k
 by_cases h:i<=k/\k<j
 ·rw [if_pos h] at e ⊢;exact a8e e
 ·rw [if_neg h] at e ⊢;exact a8e e
theorem a1S{a:Array Keyed}{src d:Nat}(hs:src<a.size)(hd:d<=src)(k:Nat):g (bubble a src d) k=if k=src - d then g a src else if src - d<k/\k<=src then g a (k - 1) else g a k:=by
 have e:=getElem?_bubble hs d hd k
 by_cases h:k=src - d
 ·rw [if_pos h] at e ⊢;exact a8e e
 ·rw [if_neg h] at e ⊢
  by_cases h2:src - d<k/\k<=src
  ·rw [if_pos h2] at e ⊢;exact a8e e
  ·rw [if_neg h2] at e ⊢;exact a8e e
structure B(κ:SortKind)(a₀:Array Keyed)(st:SortSt):Prop where
 perm:(arrOf st).Perm a₀
 kind:kindOf st=κ
 failed:failedOf st=none
section
variable {prog:AG}{w:AF}{A:AI}{E:AA->AC->Prop}{s:AC}
variable {κ:SortKind}{S:Keyed->Prop}{R:Keyed->Keyed->Bool}{a₀:Array Keyed}
theorem B.size{st:SortSt}(h:B κ a₀ st):(arrOf st).size=a₀.size:=h.perm.size_eq
theorem B.set{st:SortSt}(h:B κ a₀ st){xs:Array Keyed}(hp:xs.Perm (arrOf st)):B κ a₀ (setArr st xs):=⟨hp.trans h.perm,h.kind,h.failed⟩
theorem B.sg{st:SortSt}(h:B κ a₀ st)(hS:∀p∈a₀.toList,S p){i:Nat}(hi:i<a₀.size):S (g (arrOf st) i):=
 hS _ ((Array.perm_iff_toList_perm.mp h.perm).mem_iff.mp (b04 (by rw [h.size];exact hi)))
theorem a0g(C:K5 prog w A E s κ S R)(hS:∀p∈a₀.toList,S p){st:SortSt}(hB:B κ a₀ st){i j:Nat}{Q:Option Bool->SortSt->Prop}(hi:i<a₀.size)(hj:j<a₀.size)
 (h:Q (some (R (g (arrOf st) i) (g (arrOf st) j))) st):wpS (model prog w) A E s (ltAt' i j) Q st:=by
 rw [ltAt'_eq]
 refine wpS_bind (wpS_get ?_)
 exact wpS_bind (k4 (by rw [hB.size];exact hi) (wpS_bind (k4 (by rw [hB.size];exact hj) (C.lt _ _ (hB.sg hS hi) (hB.sg hS hj) st Q hB.kind h))))
theorem a2K{st:SortSt}{i j:Nat}{Q:Unit->SortSt->Prop}(h:Q () (setArr st (mirror (arrOf st) i j ((j - i)/ 2)))):wpS (model prog w) A E s (reverseSlice' i j) Q st:=by
 rw [reverseSlice'_eq];exact wpS_modify h
def up(lo a nrem:Nat):SM (Option (Option Nat)×Nat):=
 forIn [a:nrem] ((none,a):Option (Option Nat)×Nat) fun _ c=>do
  let t<-ltAt' (lo+c.2) (lo+c.2 - 1)
  match t with
  |some b=>if b=true then pure (.done (none,c.2)) else pure (.yield (none,c.2+1))
  |_=>pure (.done (some none,c.2))
theorem b1h(C:K5 prog w A E s κ S R)(hS:∀p∈a₀.toList,S p){st:SortSt}{lo a nrem:Nat}{Q:Option (Option Nat)×Nat->SortSt->Prop}(hB:B κ a₀ st)(hn:lo+nrem<=a₀.size)(ha:1<=a)(han:a<=nrem)
 (hs:X5 R (arrOf st) lo (lo+a))
 (h:∀n,a<=n->n<=nrem->X5 R (arrOf st) lo (lo+n)->(n=nrem\/R (g (arrOf st) (lo+n)) (g (arrOf st) (lo+n - 1))=true)->Q (none,n) st):
 wpS (model prog w) A E s (up lo a nrem) Q st:=by
 unfold up
 refine wpS_forRange (I:=fun x c st'=>st'=st/\c=(none,x)/\X5 R (arrOf st) lo (lo+x)) ?_ ?_ ⟨rfl,rfl,hs⟩
 ·rintro x c st' hax hxn ⟨rfl,rfl,hs'⟩
  dsimp only
  refine wpS_bind (a0g C hS hB (by lia) (by lia) ?_)
  cases hl:R (g (arrOf st') (lo+x)) (g (arrOf st') (lo+x - 1))
  ·simp only [An,if_false]
   refine wpS_pure ⟨rfl,rfl,fun i j hi hij hj=> ?_⟩
   by_cases hjx:j<lo+x
   ·exact hs' i j hi hij hjx
   ·have:j=lo+x:=by lia
    subst this
    by_cases hi':i=lo+x
    ·subst hi';exact C.rfl' (hB.sg hS (by lia))
    ·exact C.tr _ (g (arrOf st') (lo+x - 1)) _ (hB.sg hS (by lia)) (hB.sg hS (by lia)) (hB.sg hS (by lia)) (hs' i (lo+x - 1) hi (by lia) (by lia)) hl
  ·simp only [if_true]
   exact wpS_pure (h x hax (by lia) hs' (.inr hl))
 ·rintro c st' ⟨rfl,rfl,hs'⟩
  rw [show max a nrem=nrem by lia] at hs' ⊢
  exact h nrem han (AO _) hs' (.inl rfl)
def dn(lo n nrem:Nat):SM (Option (Option Nat)×Nat×Nat):=
 forIn [n:nrem] ((none,n,0):Option (Option Nat)×Nat×Nat) fun _ c=>do
  let t<-ltAt' (lo+c.2.1) (lo+c.2.1 - 1)
  match t with
  |some b=>
   if b=true then
    if c.2.2>0 then do
     reverseSlice' (lo+c.2.1 - (c.2.2+1)) (lo+c.2.1)
     pure (.yield (none,c.2.1+1,0))
    else pure (.yield (none,c.2.1+1,0))
   else do
    let t<-ltAt' (lo+c.2.1 - 1) (lo+c.2.1)
    match t with
    |some b=>if b=true then pure (.done (none,c.2.1,c.2.2)) else pure (.yield (none,c.2.1+1,c.2.2+1))
    |_=>pure (.done (some none,c.2.1,c.2.2))
  |_=>pure (.done (some none,c.2.1,c.2.2))
theorem N1(C:K5 prog w A E s κ S R)(hS:∀p∈a₀.toList,S p){st:SortSt}(hB:B κ a₀ st){lo hi i j:Nat}(hh:hi<=a₀.size)(hg:Ges R (arrOf st) lo hi)(h1:lo<=i)(h2:j<=hi)(hij:i<j)
 (he:∀k,i<=k->k<j->R (g (arrOf st) (j - 1)) (g (arrOf st) k)=false):Ges R (mirror (arrOf st) i j ((j - i)/ 2)) lo hi:=by
 have hsz:j<=(arrOf st).size:=by rw [hB.size];lia
 intro k l hk hkl hl
 rw [Q6 hsz,Q6 hsz]
 split
 ·split
  ·rename_i p q
   refine C.tr _ (g (arrOf st) (j - 1)) _ (hB.sg hS (by lia)) (hB.sg hS (by lia)) (hB.sg hS (by lia)) (he _ (by lia) (by lia)) (hg _ _ (by lia) (by lia) (by lia))
  ·exact hg _ _ (by lia) (by lia) (by lia)
 ·split
  ·exact hg _ _ (by lia) (by lia) (by lia)
  ·exact hg _ _ (by lia) (by lia) (by lia)
theorem E6{a:Array Keyed}{lo i j:Nat}(hj:j<=a.size)(h:lo<=i):Fix lo a (mirror a i j ((j - i)/ 2)):=fun k hk=>by
 rw [Q6 hj,if_neg (by lia)]
theorem b3D(C:K5 prog w A E s κ S R)(hS:∀p∈a₀.toList,S p){st:SortSt}{lo n nrem:Nat}{Q:Option (Option Nat)×Nat×Nat->SortSt->Prop}(hB:B κ a₀ st)(hn:lo+nrem<=a₀.size)(h1:1<=n)(hnn:n<=nrem)
 (hs:Ges R (arrOf st) lo (lo+n))
 (h:∀m e st',B κ a₀ st'->pendingOf st'=pendingOf st->Fix lo (arrOf st) (arrOf st')->n<=m->m<=nrem->Ges R (arrOf st') lo (lo+m)->e+1<=m->
  (∀i,lo+m - (e+1)<=i->i<lo+m->R (g (arrOf st') (lo+m - 1)) (g (arrOf st') i)=false)->Q (none,m,e) st'):
 wpS (model prog w) A E s (dn lo n nrem) Q st:=by
 unfold dn
 refine wpS_forRange (I:=fun x c st'=>∃e,c=(none,x,e)/\B κ a₀ st'/\pendingOf st'=pendingOf st/\Fix lo (arrOf st) (arrOf st')/\Ges R (arrOf st') lo (lo+x)/\e+1<=x/\
  (∀i,lo+x - (e+1)<=i->i<lo+x->R (g (arrOf st') (lo+x - 1)) (g (arrOf st') i)=false)) ?_ ?_
  ⟨0,rfl,hB,rfl,Fix.refl,hs,by lia,fun i a b=>by rw [show i=lo+n - 1 by lia];exact C.rfl' (hB.sg hS (by lia))⟩
 ·rintro x c st' hax hxn ⟨e,rfl,hB',hp,hf,hg,he,hq⟩
  dsimp only
  have hsz:lo+x<=(arrOf st').size:=by rw [hB'.size];lia
  refine wpS_bind (a0g C hS hB' (by lia) (by lia) ?_)
  cases hl:R (g (arrOf st') (lo+x)) (g (arrOf st') (lo+x - 1))
  ·simp only [An,if_false]
   refine wpS_bind (a0g C hS hB' (by lia) (by lia) ?_)
   cases hm:R (g (arrOf st') (lo+x - 1)) (g (arrOf st') (lo+x))
   ·simp only [An,if_false]
    refine wpS_pure ⟨e+1,rfl,hB',hp,hf,fun i j hi hij hj=> ?_,by lia,fun i h1 h2=> ?_⟩
    ·by_cases hjx:j<lo+x
     ·exact hg i j hi hij hjx
     ·have:j=lo+x:=by lia
      subst this
      by_cases hi':i=lo+x
      ·subst hi';exact C.rfl' (hB'.sg hS (by lia))
      ·exact C.tr _ (g (arrOf st') (lo+x - 1)) _ (hB'.sg hS (by lia)) (hB'.sg hS (by lia)) (hB'.sg hS (by lia)) hm (hg i (lo+x - 1) hi (by lia) (by lia))
    ·rw [show lo+(x+1) - 1=lo+x by lia]
     by_cases hi':i=lo+x
     ·subst hi';exact C.rfl' (hB'.sg hS (by lia))
     ·exact C.tr _ (g (arrOf st') (lo+x - 1)) _ (hB'.sg hS (by lia)) (hB'.sg hS (by lia)) (hB'.sg hS (by lia)) (hq i (by lia) (by lia)) hl
   ·simp only [if_true]
    exact wpS_pure (h x e st' hB' hp hf hax (by lia) hg he hq)
  ·simp only [if_true]
   have hg1:Ges R (arrOf st') lo (lo+(x+1)):=by
    intro i j hi hij hj
    by_cases hjx:j<lo+x
    ·exact hg i j hi hij hjx
    ·have:j=lo+x:=by lia
     subst this
     by_cases hi':i=lo+x
     ·subst hi';exact C.rfl' (hB'.sg hS (by lia))
     ·exact C.tr _ (g (arrOf st') (lo+x - 1)) _ (hB'.sg hS (by lia)) (hB'.sg hS (by lia)) (hB'.sg hS (by lia)) (C.as _ _ (hB'.sg hS (by lia)) (hB'.sg hS (by lia)) hl) (hg i (lo+x - 1) hi (by lia) (by lia))
   by_cases he0:e>0
   ·rw [if_pos he0]
    have hB2:B κ a₀ (setArr st' (mirror (arrOf st') (lo+x - (e+1)) (lo+x) ((lo+x - (lo+x - (e+1)))/ 2))):=hB'.set (mirror_perm _ _ _ _)
    refine wpS_bind (a2K (wpS_pure ⟨0,rfl,hB2,hp,hf.trans (E6 hsz (by lia)),N1 C hS hB' (by lia) hg1 (by lia) (by lia) (by lia) hq,by lia,fun i a b=> ?_⟩))
    rw [show i=lo+(x+1) - 1 by lia];exact C.rfl' (hB2.sg hS (by lia))
   ·rw [if_neg he0]
    refine wpS_pure ⟨0,rfl,hB',hp,hf,hg1,by lia,fun i a b=> ?_⟩
    rw [show i=lo+(x+1) - 1 by lia];exact C.rfl' (hB'.sg hS (by lia))
 ·rintro c st' ⟨e,rfl,hB',hp,hf,hg,he,hq⟩
  rw [show max n nrem=nrem by lia] at hg he hq ⊢
  exact h nrem e st' hB' hp hf hnn (AO _) hg he hq
theorem b2H(C:K5 prog w A E s κ S R)(hS:∀p∈a₀.toList,S p){st:SortSt}{lo nrem:Nat}{Q:Option Nat->SortSt->Prop}(hB:B κ a₀ st)(hn:lo+nrem<=a₀.size)(h1:1<=nrem)
 (h:∀m st',B κ a₀ st'->pendingOf st'=pendingOf st->Fix lo (arrOf st) (arrOf st')->1<=m->m<=nrem->X5 R (arrOf st') lo (lo+m)->Q (some m) st'):
 wpS (model prog w) A E s (countRun' lo nrem) Q st:=by
 rw [countRun'_eq]
 have one:X5 R (arrOf st) lo (lo+1):=fun i j hi hij hj=>by
  have:i=j:=by lia
  subst this;exact C.rfl' (hB.sg hS (by lia))
 have tail:∀m st',B κ a₀ st'->pendingOf st'=pendingOf st->Fix lo (arrOf st) (arrOf st')->1<=m->m<=nrem->Ges R (arrOf st') lo (lo+m)->
  wpS (model prog w) A E s (reverseSlice' lo (lo+m)) (fun _ st2=>wpS (model prog w) A E s (up lo m nrem) (fun c st3=>c.1=none/\Q (some c.2) st3) st2) st':=by
  intro m st' hB' hp hf hm1 hm2 hg
  have hsz:lo+m<=(arrOf st').size:=by rw [hB'.size];lia
  have hB2:B κ a₀ (setArr st' (mirror (arrOf st') lo (lo+m) ((lo+m - lo)/ 2))):=hB'.set (mirror_perm _ _ _ _)
  refine a2K (b1h C hS hB2 hn hm1 hm2 ?_ fun n a b c _=>⟨rfl,h n _ hB2 hp (hf.trans (E6 hsz (AO _))) (by lia) b c⟩)
  intro i j hi hij hj
  show R (g (mirror (arrOf st') lo (lo+m) ((lo+m - lo)/ 2)) j) (g (mirror (arrOf st') lo (lo+m) ((lo+m - lo)/ 2)) i)=false
  rw [Q6 hsz,Q6 hsz,if_pos (by lia),if_pos (by lia)]
  exact hg _ _ (by lia) (by lia) (by lia)
 have desc:∀n st',B κ a₀ st'->pendingOf st'=pendingOf st->Fix lo (arrOf st) (arrOf st')->n+1<=nrem->Ges R (arrOf st') lo (lo+(n+1))->
  wpS (model prog w) A E s (dn lo (n+1) nrem) (fun c st2=>c.1=none/\c.2.1<=nrem/\1<=c.2.1/\B κ a₀ st2/\pendingOf st2=pendingOf st/\Fix lo (arrOf st) (arrOf st2)/\c.2.2+1<=c.2.1/\Ges R (arrOf st2) lo (lo+c.2.1)/\
   (∀i,lo+c.2.1 - (c.2.2+1)<=i->i<lo+c.2.1->R (g (arrOf st2) (lo+c.2.1 - 1)) (g (arrOf st2) i)=false)) st':=by
  intro n st' hB' hp hf hnn hg
  exact b3D C hS hB' hn (by lia) hnn hg fun m e st2 b1 b2 b3 b4 b5 b6 b7 b8=>⟨rfl,b5,(by lia:1<=m),b1,b2.trans hp,hf.trans b3,b7,b6,b8⟩
 refine wpS_bind (b1h C hS hB hn (AO 1) h1 one fun n hn1 hn2 hsn ho=> ?_)
 dsimp only
 by_cases hnn:n=nrem
 ·rw [if_pos (by simpa using hnn)]
  exact wpS_pure (h n st hB rfl Fix.refl hn1 hn2 hsn)
 ·rw [if_neg (by simpa using hnn)]
  have hlt:=ho.resolve_left hnn
  have hl':R (g (arrOf st) (lo+n - 1)) (g (arrOf st) (lo+n))=false:=C.as _ _ (hB.sg hS (by lia)) (hB.sg hS (by lia)) hlt
  have hsz:lo+n<=(arrOf st).size:=by rw [hB.size];lia
  have ges:R (g (arrOf st) lo) (g (arrOf st) (lo+n - 1))=false->Ges R (arrOf st) lo (lo+(n+1)):=by
   intro hr i j hi hij hj
   have toi:∀i,lo<=i->i<lo+n->R (g (arrOf st) i) (g (arrOf st) (lo+n - 1))=false:=fun i hi hj=>
    C.tr _ (g (arrOf st) lo) _ (hB.sg hS (by lia)) (hB.sg hS (by lia)) (hB.sg hS (by lia)) hr (hsn lo i (AO _) hi hj)
   by_cases hjn:j<lo+n
   ·exact C.tr _ (g (arrOf st) (lo+n - 1)) _ (hB.sg hS (by lia)) (hB.sg hS (by lia)) (hB.sg hS (by lia)) (hsn j (lo+n - 1) (by lia) (by lia) (by lia)) (toi i hi (by lia))
   ·have:j=lo+n:=by lia
    subst this
    by_cases hi':i=lo+n
    ·subst hi';exact C.rfl' (hB.sg hS (by lia))
    ·exact C.tr _ (g (arrOf st) (lo+n - 1)) _ (hB.sg hS (by lia)) (hB.sg hS (by lia)) (hB.sg hS (by lia)) hl' (toi i hi (by lia))
  by_cases hgt:n>1
  ·rw [if_pos hgt]
   refine wpS_bind (a0g C hS hB (by lia) (by lia) ?_)
   cases hr:R (g (arrOf st) lo) (g (arrOf st) (lo+n - 1))
   ·simp only [An,if_false]
    have hB2:B κ a₀ (setArr st (mirror (arrOf st) lo (lo+n) ((lo+n - lo)/ 2))):=hB.set (mirror_perm _ _ _ _)
    refine wpS_bind (a2K (wpS_bind (wpS_lift (wpAny_rule ⟨rfl, ?_⟩))))
    refine wpS_bind (wpS_mono (desc n _ hB2 rfl (E6 hsz (AO _)) (by lia) (N1 C hS hB (by lia) (ges hr) (AO _) (by lia) (by lia) fun k a b=>hsn k (lo+n - 1) a (by lia) (by lia))) ?_)
    rintro⟨c,m,e⟩ st2 ⟨rfl,b1,b2,b3,b4,b5,b6,b7,b8⟩
    dsimp only at*
    by_cases he:e>0
    ·rw [if_pos he]
     have hsz2:lo+m<=(arrOf st2).size:=by rw [b3.size];lia
     refine wpS_bind (a2K (wpS_bind (wpS_mono (tail m _ (b3.set (mirror_perm _ _ _ _)) b4 (b5.trans (E6 hsz2 (by lia))) b2 b1 (N1 C hS b3 (by lia) b7 (by lia) (by lia) (by lia) b8)) fun _ st3 q=>wpS_bind (wpS_mono q ?_))))
     rintro⟨c,n'⟩ st4 ⟨rfl,q⟩
     exact wpS_pure q
    ·rw [if_neg he]
     refine wpS_bind (wpS_mono (tail m _ b3 b4 b5 b2 b1 b7) fun _ st3 q=>wpS_bind (wpS_mono q ?_))
     rintro⟨c,n'⟩ st4 ⟨rfl,q⟩
     exact wpS_pure q
   ·simp only [if_true]
    exact wpS_pure (h n st hB rfl Fix.refl hn1 hn2 hsn)
  ·rw [if_neg hgt]
   have:n=1:=by lia
   subst this
   refine wpS_bind (wpS_lift (wpAny_rule ⟨rfl, ?_⟩))
   refine wpS_bind (wpS_mono (desc 1 _ hB rfl Fix.refl (by lia) (ges (by rw [show lo+1 - 1=lo by lia];exact C.rfl' (hB.sg hS (by lia))))) ?_)
   rintro⟨c,m,e⟩ st2 ⟨rfl,b1,b2,b3,b4,b5,b6,b7,b8⟩
   dsimp only at*
   by_cases he:e>0
   ·rw [if_pos he]
    have hsz2:lo+m<=(arrOf st2).size:=by rw [b3.size];lia
    refine wpS_bind (a2K (wpS_bind (wpS_mono (tail m _ (b3.set (mirror_perm _ _ _ _)) b4 (b5.trans (E6 hsz2 (by lia))) b2 b1 (N1 C hS b3 (by lia) b7 (by lia) (by lia) (by lia) b8)) fun _ st3 q=>wpS_bind (wpS_mono q ?_))))
    rintro⟨c,n'⟩ st4 ⟨rfl,q⟩
    exact wpS_pure q
   ·rw [if_neg he]
    refine wpS_bind (wpS_mono (tail m _ b3 b4 b5 b2 b1 b7) fun _ st3 q=>wpS_bind (wpS_mono q ?_))
    rintro⟨c,n'⟩ st4 ⟨rfl,q⟩
    exact wpS_pure q
theorem a53(C:K5 prog w A E s κ S R){a:Array Keyed}{lo k l:Nat}(hS:∀i,i<=lo+k->S (g a i))(hks:lo+k<a.size)(hlk:l<=k)(hs:X5 R a lo (lo+k))
 (hlo:∀i,i<l->R (g a (lo+k)) (g a (lo+i))=false) (hhi:∀i,l<=i->i<k->R (g a (lo+k)) (g a (lo+i))=true):X5 R (bubble a (lo+k) (lo+k - (lo+l))) lo (lo+(k+1)):=by
 intro i j hi hij hj
 rw [a1S hks (by lia),a1S hks (by lia),show lo+k - (lo+k - (lo+l))=lo+l by lia]
 have low:∀i,lo<=i->i<lo+l->R (g a (lo+k)) (g a i)=false:=fun i x y=>by
  have:=hlo (i - lo) (by lia);rwa [show lo+(i - lo)=i by lia] at this
 have high:∀i,lo+l<=i->i<lo+k->R (g a i) (g a (lo+k))=false:=fun i x y=>by
  have:=hhi (i - lo) (by lia) (by lia);rw [show lo+(i - lo)=i by lia] at this
  exact C.as _ _ (hS _ (AO _)) (hS _ (BF y)) this
 by_cases e1:i=lo+l
 ·subst e1
  rw [if_pos rfl]
  by_cases e2:j=lo+l
  ·rw [if_pos e2];exact C.rfl' (hS _ (AO _))
  ·rw [if_neg e2,if_pos (by lia)];exact high _ (by lia) (by lia)
 ·rw [if_neg e1]
  by_cases e3:lo+l<i
  ·rw [if_neg (by lia),if_pos (by lia),if_pos (by lia)];exact hs _ _ (by lia) (by lia) (by lia)
  ·rw [if_neg (c:=lo+l<i/\i<=lo+k) (by lia)]
   by_cases e2:j=lo+l
   ·rw [if_pos e2];exact low _ hi (by lia)
   ·rw [if_neg e2]
    by_cases e4:lo+l<j
    ·rw [if_pos (by lia)];exact hs _ _ hi (by lia) (by lia)
    ·rw [if_neg (by lia)];exact hs _ _ hi hij (by lia)
theorem b2G(C:K5 prog w A E s κ S R)(hS:∀p∈a₀.toList,S p){st:SortSt}{lo n ok:Nat}{Q:Bool->SortSt->Prop}(hB:B κ a₀ st)(hn:lo+n<=a₀.size)(hok:ok<=n)(h1:1<=n)(hs:X5 R (arrOf st) lo (lo+ok))
 (h:∀st',B κ a₀ st'->pendingOf st'=pendingOf st->Fix lo (arrOf st) (arrOf st')->X5 R (arrOf st') lo (lo+n)->Q true st'):
 wpS (model prog w) A E s (binarySort' lo n ok) Q st:=by
 rw [binarySort'_eq]
 refine wpS_bind (wpS_mono (wpS_forRange (I:=fun k c st'=>c=(none,())/\B κ a₀ st'/\pendingOf st'=pendingOf st/\Fix lo (arrOf st) (arrOf st')/\X5 R (arrOf st') lo (lo+k))
  (Q:=fun c st'=>c=(none,())/\B κ a₀ st'/\pendingOf st'=pendingOf st/\Fix lo (arrOf st) (arrOf st')/\X5 R (arrOf st') lo (lo+n)) ?_ ?_ ⟨rfl,hB,rfl,Fix.refl, ?_⟩) ?_)
 ·rintro k c st' hk1 hk2 ⟨rfl,hB',hp,hf,hs'⟩
  dsimp only
  refine wpS_bind (wpS_mono (wpS_forRange (I:=fun x c st2=>st2=st'/\∃l r,c=(none,l,r)/\l<=r/\r<=k/\r - l+x<=k/\
   (∀i,i<l->R (g (arrOf st') (lo+k)) (g (arrOf st') (lo+i))=false)/\(∀i,r<=i->i<k->R (g (arrOf st') (lo+k)) (g (arrOf st') (lo+i))=true))
   (Q:=fun c st2=>st2=st'/\∃l,c=(none,l,l)/\l<=k/\
    (∀i,i<l->R (g (arrOf st') (lo+k)) (g (arrOf st') (lo+i))=false)/\(∀i,l<=i->i<k->R (g (arrOf st') (lo+k)) (g (arrOf st') (lo+i))=true)) ?_ ?_ ⟨rfl,0,k,rfl,by lia,by lia,by lia,fun i a=>by lia,fun i a b=>by lia⟩) ?_)
  ·rintro x c st2 _ hx ⟨rfl,l,r,rfl,hlr,hrk,hm,hlo,hhi⟩
   dsimp only
   by_cases hge:l>=r
   ·rw [if_pos hge]
    have:l=r:=by lia
    subst this
    exact wpS_pure ⟨rfl,l,rfl,hrk,hlo,hhi⟩
   ·rw [if_neg hge]
    obtain⟨c,hc,c1,c2⟩:∃c,(l+r)/ 2=c/\l<=c/\c<r:=⟨_,rfl,by lia,by lia⟩
    rw [hc]
    refine wpS_bind (a0g C hS hB' (by lia) (by lia) ?_)
    cases hl:R (g (arrOf st2) (lo+k)) (g (arrOf st2) (lo+c))
    ·simp only [An,if_false]
     refine wpS_pure ⟨rfl,c+1,r,rfl,by lia,by lia,by lia,fun i a=> ?_,hhi⟩
     exact C.tr _ (g (arrOf st2) (lo+c)) _ (hB'.sg hS (by lia)) (hB'.sg hS (by lia)) (hB'.sg hS (by lia)) (hs' _ _ (by lia) (by lia) (by lia)) hl
    ·simp only [if_true]
     refine wpS_pure ⟨rfl,l,c,rfl,by lia,by lia,by lia,hlo,fun i a b=> ?_⟩
     cases hi:R (g (arrOf st2) (lo+k)) (g (arrOf st2) (lo+i))
     ·exact absurd (C.tr _ (g (arrOf st2) (lo+i)) _ (hB'.sg hS (by lia)) (hB'.sg hS (by lia)) (hB'.sg hS (by lia)) (hs' (lo+c) (lo+i) (by lia) (by lia) (by lia)) hi) (by rw [hl];decide)
     ·rfl
  ·rintro c st2 ⟨rfl,l,r,rfl,hlr,hrk,hm,hlo,hhi⟩
   have:l=r:=by lia
   subst this
   exact⟨rfl,l,rfl,hrk,hlo,hhi⟩
  ·rintro c st2 ⟨rfl,l,rfl,hlk,hlo,hhi⟩
   dsimp only
   rw [moveDown'_eq]
   have hks:lo+k<(arrOf st2).size:=by rw [hB'.size];lia
   refine wpS_bind (wpS_modify (wpS_pure ⟨rfl,hB'.set (bubble_perm _ _ _),hp,hf.trans ?_, ?_⟩))
   ·intro i hi
    show g (bubble (arrOf st2) (lo+k) (lo+k - (lo+l))) i=_
    rw [a1S hks (by lia),if_neg (by lia),if_neg (by lia)]
   ·exact a53 C (fun i hi=>hB'.sg hS (by lia)) hks hlk hs' hlo hhi
 ·rintro c st' ⟨rfl,hB',hp,hf,hs'⟩
  rw [show max (max ok 1) n=n by lia] at hs'
  exact⟨rfl,hB',hp,hf,hs'⟩
 ·by_cases hk:ok=0
  ·subst hk
   intro i j hi hij hj
   have:i=j:=by lia
   subst this;exact C.rfl' (hB.sg hS (by lia))
  ·rw [show max ok 1=ok by lia];exact hs
 ·rintro c st' ⟨rfl,hB',hp,hf,hs'⟩
  exact wpS_pure (h st' hB' hp hf hs')
end
def le(R:Keyed->Keyed->Bool)(x y:Keyed):Prop:=R y x=false
def Mg(R:Keyed->Keyed->Bool)(W out la lb:List Keyed):Prop:=(out++la).Pairwise (le R)/\(out++lb).Pairwise (le R)/\(out++(la++lb)).Perm W
section
variable {R:Keyed->Keyed->Bool}{W out la lb xs:List Keyed}
theorem Mg.takeA(h:Mg R W out (xs++la) lb)(k:∀x∈xs,∀y∈lb,le R x y):Mg R W (out++xs) la lb:=by
 obtain⟨h1,h2,h3⟩:=h
 have e1:=List.pairwise_append.mp (show((out++xs)++la).Pairwise (le R) by rw [List.append_assoc];exact h1)
 have e2:=List.pairwise_append.mp h2
 refine⟨by rw [List.append_assoc];exact h1,List.pairwise_append.mpr ⟨e1.1,e2.2.1,fun x hx y hy=> ?_⟩,by rw [List.append_assoc,<-List.append_assoc xs];exact h3⟩
 rcases Am.mp hx with hx|hx
 ·exact e2.2.2 x hx y hy
 ·exact k x hx y hy
theorem Mg.swap(h:Mg R W out la lb):Mg R W out lb la:=⟨h.2.1,h.1,(List.Perm.append_left out List.perm_append_comm).trans h.2.2⟩
theorem Mg.takeB(h:Mg R W out la (xs++lb))(k:∀x∈xs,∀y∈la,le R x y):Mg R W (out++xs) la lb:=(h.swap.takeA k).swap
def J7(R:Keyed->Keyed->Bool)(W r:List Keyed):Prop:=r.Pairwise (le R)/\r.Perm W
theorem Mg.doneB(h:Mg R W out la []):J7 R W (out++la):=⟨h.1,by have:=h.2.2;rwa [AZ] at this⟩
theorem Mg.doneA(h:Mg R W out [] lb):J7 R W (out++lb):=⟨h.2.1,h.2.2⟩
theorem Mg.last{x:Keyed}(h:Mg R W out [x] lb)(k:∀y∈lb,le R y x):J7 R W ((out++lb)++[x]):=by
 obtain⟨h1,h2,h3⟩:=h
 have e1:=List.pairwise_append.mp h1
 refine⟨List.pairwise_append.mpr ⟨h2,e1.2.1,fun y hy z hz=> ?_⟩, ?_⟩
 ·cases List.mem_singleton.mp hz
  rcases Am.mp hy with hy|hy
  ·exact e1.2.2 y hy x (List.mem_singleton.mpr rfl)
  ·exact k y hy
 ·rw [List.append_assoc]
  exact(List.Perm.append_left out List.perm_append_comm).trans h3
end
theorem T5{a:Array Keyed}{i:Nat}(h:i<a.size):a.toList.drop i=g a i::a.toList.drop (i+1):=by
 have h':i<a.toList.length:=h
 rw [List.drop_eq_getElem_cons h']
 congr 1
 have:=E9 h
 rw [Au h'] at this
 exact Option.some.inj this
theorem a2b{a:Array Keyed}{i:Nat}{x:Keyed}(h:x∈a.toList.drop i):∃j,i<=j/\j<a.size/\x=g a j:=by
 obtain⟨k,hk,e⟩:=List.mem_iff_getElem.mp h
 have hk':i+k<a.size:=by rw [List.length_drop] at hk;have:a.toList.length=a.size:=rfl;lia
 refine⟨i+k,by lia,hk', ?_⟩
 have e2:=E9 hk'
 rw [List.getElem_drop] at e
 rw [Au (show i+k<a.toList.length from hk')] at e2
 exact e.symm.trans (Option.some.inj e2)
theorem G1{a:Array Keyed}{i k:Nat}{x:Keyed}(h:x∈(a.toList.drop i).take k)(hk:i+k<=a.size):∃j,j<k/\x=g a (i+j):=by
 obtain⟨q,hq,e⟩:=List.mem_iff_getElem.mp h
 rw [List.length_take,List.length_drop] at hq
 rw [List.getElem_take,List.getElem_drop] at e
 refine⟨q,by lia, ?_⟩
 have hk':i+q<a.size:=by lia
 have e2:=E9 hk'
 rw [Au (show i+q<a.toList.length from hk')] at e2
 exact e.symm.trans (Option.some.inj e2)
theorem t4(a:Array Keyed)(i j:Nat):(a.extract i j).toList=(a.toList.drop i).take (j - i):=by
 rw [Array.toList_extract,List.extract_eq_take_drop]
theorem a1f{a:Array Keyed}{i:Nat}:(a.extract i a.size).toList=a.toList.drop i:=by
 rw [t4,List.take_of_length_le]
 rw [List.length_drop];exact AO _
section
variable {prog:AG}{w:AF}{A:AI}{E:AA->AC->Prop}{s:AC}
variable {κ:SortKind}{S:Keyed->Prop}{R:Keyed->Keyed->Bool}
theorem a4n(C:K5 prog w A E s κ S R){key:Keyed}{arr:Array Keyed}{base n hint:Nat}{st:SortSt}{Q:Option Nat->SortSt->Prop}(hk:kindOf st=κ)(hn:base+n<=arr.size)(hh:hint<n)
 (hS:∀i,i<n->S (g arr (base+i))) (hy:S key) (hs:X5 R arr base (base+n))
 (h:∀k,k<=n->(∀i,i<k->le R (g arr (base+i)) key)->(∀i,k<=i->i<n->R key (g arr (base+i))=true)->Q (some k) st):
 wpS (model prog w) A E s (gal false key arr base n hint) Q st:=by
 refine a9s C hk hn hh hS hy (fun i j hij hj e=> ?_) fun k k1 k2 k3=>h k k1 (fun i hi=> ?_) (fun i a b=> ?_)
 ·have e':R key (g arr (base+j))=false:=by simpa [bb] using e
  have:R key (g arr (base+i))=false:=C.tr _ (g arr (base+j)) _ (hS _ (by lia)) (hS _ hj) hy (hs _ _ (by lia) (by lia) (by lia)) e'
  simpa [bb] using this
 ·exact(by simpa [bb] using k2 i hi:R key (g arr (base+i))=false)
 ·simpa [bb] using k3 i a b
theorem a4o(C:K5 prog w A E s κ S R){key:Keyed}{arr:Array Keyed}{base n hint:Nat}{st:SortSt}{Q:Option Nat->SortSt->Prop}(hk:kindOf st=κ)(hn:base+n<=arr.size)(hh:hint<n)
 (hS:∀i,i<n->S (g arr (base+i))) (hy:S key) (hs:X5 R arr base (base+n))
 (h:∀k,k<=n->(∀i,i<k->R (g arr (base+i)) key=true)->(∀i,k<=i->i<n->le R key (g arr (base+i)))->Q (some k) st):
 wpS (model prog w) A E s (gal true key arr base n hint) Q st:=by
 refine a9s C hk hn hh hS hy (fun i j hij hj e=> ?_) fun k k1 k2 k3=>h k k1 (fun i hi=> ?_) (fun i a b=> ?_)
 ·have e':R (g arr (base+j)) key=true:=by simpa [bb] using e
  cases hi:R (g arr (base+i)) key
  ·have:=C.tr _ (g arr (base+i)) _ hy (hS _ (by lia)) (hS _ hj) hi (hs _ _ (by lia) (by lia) (by lia))
   rw [this] at e';cases e'
  ·simpa [bb] using hi
 ·simpa [bb] using k2 i hi
 ·exact(by simpa [bb] using k3 i a b:R (g arr (base+i)) key=false)
structure Sm(st st':SortSt):Prop where
 k:kindOf st'=kindOf st
 a:arrOf st'=arrOf st
 p:pendingOf st'=pendingOf st
 f:failedOf st'=failedOf st
theorem Sm.refl{st:SortSt}:Sm st st:=⟨rfl,rfl,rfl,rfl⟩
def a7m:Nat->SM Unit:=sortPriv% PySem.Builtin.setMinGallop
theorem b0H(k:Nat):a7m k=modify fun st=>SortSt.mk' (kindOf st) (arrOf st) (pendingOf st) k (failedOf st):=rfl
theorem a1p{k:Nat}{st₀ st:SortSt}{Q:Unit->SortSt->Prop}(m:Sm st₀ st)(h:∀st',Sm st₀ st'->Q () st'):wpS (model prog w) A E s (a7m k) Q st:=by
 rw [b0H];exact wpS_modify (h _ ⟨m.k,m.a,m.p,m.f⟩)
def mLo:Array Keyed->Array Keyed->SM (Array Keyed):=sortPriv% PySem.Builtin.mergeLo
def mHi:Array Keyed->Array Keyed->SM (Array Keyed):=sortPriv% PySem.Builtin.mergeHi
def rs(a b o:Array Keyed)(i j:Nat):Array Keyed:=o++a.extract i a.size++b.extract j b.size
def D(R:Keyed->Keyed->Bool)(a b o:Array Keyed)(i j:Nat):Prop:=Mg R (a.toList++b.toList) o.toList (a.toList.drop i) (b.toList.drop j)
structure Two(S:Keyed->Prop)(R:Keyed->Keyed->Bool)(a b:Array Keyed):Prop where
 Sa:∀i,i<a.size->S (g a i)
 Sb:∀i,i<b.size->S (g b i)
 sa:X5 R a 0 a.size
 sb:X5 R b 0 b.size
 pa:0<a.size
 pb:0<b.size
 lo:∀i,i<a.size->le R (g b 0) (g a i)
 hi:∀j,j<b.size->le R (g b j) (g a (a.size - 1))
theorem D.takeAk(C:K5 prog w A E s κ S R){a b o:Array Keyed}{i j k:Nat}(T:Two S R a b)(h:D R a b o i j)(hk:i+k<=a.size)(hj:j<b.size)(q:∀l,l<k->le R (g a (i+l)) (g b j)):
 D R a b (o++a.extract i (i+k)) (i+k) j:=by
 unfold D at h ⊢
 rw [Array.toList_append,t4,show i+k - i=k by lia]
 refine Mg.takeA (by rw [<-List.drop_drop,List.take_append_drop];exact h) fun x hx y hy=> ?_
 obtain⟨l,hl,rfl⟩:=G1 hx hk
 obtain⟨m,hm,hm2,rfl⟩:=a2b hy
 exact C.tr _ (g b j) _ (T.Sa _ (by lia)) (T.Sb _ hj) (T.Sb _ hm2) (q l hl) (T.sb j m (by lia) hm hm2)
theorem D.takeBk(C:K5 prog w A E s κ S R){a b o:Array Keyed}{i j k:Nat}(T:Two S R a b)(h:D R a b o i j)(hk:j+k<=b.size)(hi:i<a.size)(q:∀l,l<k->le R (g b (j+l)) (g a i)):
 D R a b (o++b.extract j (j+k)) i (j+k):=by
 unfold D at h ⊢
 rw [Array.toList_append,t4,show j+k - j=k by lia]
 refine Mg.takeB (by rw [<-List.drop_drop,List.take_append_drop];exact h) fun x hx y hy=> ?_
 obtain⟨l,hl,rfl⟩:=G1 hx hk
 obtain⟨m,hm,hm2,rfl⟩:=a2b hy
 exact C.tr _ (g a i) _ (T.Sb _ (by lia)) (T.Sa _ hi) (T.Sa _ hm2) (q l hl) (T.sa i m (by lia) hm hm2)
theorem a2v{o a:Array Keyed}{i:Nat}(h:i<a.size):o.push (g a i)=o++a.extract i (i+1):=by
 apply Array.toList_inj.mp
 rw [Array.toList_push,Array.toList_append,t4,T5 h,show i+1 - i=1 by lia]
 rfl
theorem D.takeA(C:K5 prog w A E s κ S R){a b o:Array Keyed}{i j:Nat}(T:Two S R a b)(h:D R a b o i j)(hi:i<a.size)(hj:j<b.size)(q:le R (g a i) (g b j)):D R a b (o.push (g a i)) (i+1) j:=by
 rw [a2v hi]
 exact h.takeAk C T (by lia) hj fun l hl=>by rw [show i+l=i by lia];exact q
theorem D.takeB(C:K5 prog w A E s κ S R){a b o:Array Keyed}{i j:Nat}(T:Two S R a b)(h:D R a b o i j)(hi:i<a.size)(hj:j<b.size)(q:le R (g b j) (g a i)):D R a b (o.push (g b j)) i (j+1):=by
 rw [a2v hj]
 exact h.takeBk C T (by lia) hi fun l hl=>by rw [show j+l=j by lia];exact q
theorem D.done{a b o:Array Keyed}{i j:Nat}(h:D R a b o i j)(e:i=a.size\/j=b.size):J7 R (a.toList++b.toList) (rs a b o i j).toList:=by
 unfold rs
 rw [Array.toList_append,Array.toList_append,a1f,a1f]
 unfold D at h
 have nil:∀c:Array Keyed,c.toList.drop c.size=[]:=fun c=>List.drop_eq_nil_of_le (AO _)
 rcases e with rfl|rfl
 ·rw [nil] at h ⊢;rw [AZ];exact h.doneA
 ·rw [nil] at h ⊢;rw [AZ];exact h.doneB
theorem D.last{a b o:Array Keyed}{i j:Nat}(T:Two S R a b)(h:D R a b o i j)(e:i+1=a.size):J7 R (a.toList++b.toList) (rs b a o j i).toList:=by
 unfold rs
 rw [Array.toList_append,Array.toList_append,a1f,a1f]
 unfold D at h
 have e1:a.toList.drop i=[g a (a.size - 1)]:=by
  rw [T5 (by lia),e,show i=a.size - 1 by lia]
  congr 1
  exact List.drop_eq_nil_of_le (AO _)
 rw [e1] at h ⊢
 exact h.last fun y hy=>by
  obtain⟨m,hm,hm2,rfl⟩:=a2b hy
  exact T.hi m hm2
abbrev LoT:=Option (Array Keyed)×Array Keyed×Nat×Nat×Nat×Nat×Nat
def loC(a b o:Array Keyed)(i j mg u v:Nat):StateT SortSt Sem (ForInStep LoT):=do
 let y<-elem' a i
 if i+1+1==a.size then
  pure (.done (some (rs b a (o.push y) j (i+1)),o.push y,i+1,j,mg,u,v))
 else if u<7 && v<7 then
  pure (.done (none,o.push y,i+1,j,mg,u,v))
 else
  pure (.yield (none,o.push y,i+1,j,mg,u,v))
def loB(a b o:Array Keyed)(i j mg u v:Nat):StateT SortSt Sem (ForInStep LoT):=do
 let x<-elem' b j
 if j+1==b.size then
  pure (.done (some (rs a b (o.push x) i (j+1)),o.push x,i,j+1,mg,u,v))
 else do
  let y<-elem' a i
  let z<-gal true y b (j+1) (b.size - (j+1)) 0
  match z with
  |some k=>
   if k>0 then
    if j+1+k==b.size then
     pure (.done (some (rs a b (o.push x++b.extract (j+1) (j+1+k)) i (j+1+k)),o.push x++b.extract (j+1) (j+1+k),i,j+1+k,mg,u,k))
    else loC a b (o.push x++b.extract (j+1) (j+1+k)) i (j+1+k) mg u k
   else loC a b (o.push x) i (j+1) mg u k
  |_=>pure (.done (some (rs a b (o.push x) i (j+1)),o.push x,i,j+1,mg,u,v))
def loA(a b o:Array Keyed)(i j mg u v:Nat):StateT SortSt Sem (ForInStep LoT):=do
 a7m mg
 let x<-elem' b j
 let z<-gal false x a i (a.size - i) 0
 match z with
 |some k=>
  if k>0 then
   if i+k+1==a.size then
    pure (.done (some (rs b a (o++a.extract i (i+k)) j (i+k)),o++a.extract i (i+k),i+k,j,mg,k,v))
   else if i+k==a.size then
    pure (.done (some (rs a b (o++a.extract i (i+k)) (i+k) j),o++a.extract i (i+k),i+k,j,mg,k,v))
   else loB a b (o++a.extract i (i+k)) (i+k) j mg k v
  else loB a b o i j mg k v
 |_=>pure (.done (some (rs a b o i j),o,i,j,mg,u,v))
def LoQ(R:Keyed->Keyed->Bool)(a b:Array Keyed)(st:SortSt)(x₀ x:Nat):ForInStep LoT->SortSt->Prop:=fun r st'=>match r with
 | .done c=>Sm st st'/\((∃r,c.1=some r/\J7 R (a.toList++b.toList) r.toList)\/(c.1=none/\D R a b c.2.1 c.2.2.1 c.2.2.2.1/\c.2.2.1+1<a.size/\c.2.2.2.1<b.size/\x₀+1<=c.2.2.1+c.2.2.2.1))
 | .yield c=>c.1=none/\Sm st st'/\D R a b c.2.1 c.2.2.1 c.2.2.2.1/\c.2.2.1+1<a.size/\c.2.2.2.1<b.size/\x₀+(x+1)<=c.2.2.1+c.2.2.2.1
section
variable {a b o:Array Keyed}{st st':SortSt}{i j mg u v x₀ x:Nat}
theorem a9y(C:K5 prog w A E s κ S R)(T:Two S R a b)(m:Sm st st')(d:D R a b o i j)(hi:i+1<a.size)(hj:j<b.size)(q:le R (g a i) (g b j))(hp:x₀+x<=i+j):wpS (model prog w) A E s (loC a b o i j mg u v) (LoQ R a b st x₀ x) st':=by
 unfold loC
 refine wpS_bind (k4 (by lia) ?_)
 have d4:=D.takeA C T d (by lia) hj q
 by_cases e6:i+1+1=a.size
 ·rw [if_pos (by simpa using e6)]
  exact wpS_pure ⟨m,.inl ⟨_,rfl,d4.last T e6⟩⟩
 rw [if_neg (by simpa using e6)]
 split
 ·exact wpS_pure ⟨m,.inr ⟨rfl,d4,(show i+1+1<a.size by lia),hj,(show x₀+1<=i+1+j by lia)⟩⟩
 ·exact wpS_pure ⟨rfl,m,d4,(show i+1+1<a.size by lia),hj,(show x₀+(x+1)<=i+1+j by lia)⟩
theorem a9x(C:K5 prog w A E s κ S R)(T:Two S R a b)(hk:kindOf st=κ)(m:Sm st st')(d:D R a b o i j)(hi:i+1<a.size)(hj:j<b.size)(q:le R (g b j) (g a i))(hp:x₀+x<=i+j):wpS (model prog w) A E s (loB a b o i j mg u v) (LoQ R a b st x₀ x) st':=by
 unfold loB
 have d3:=D.takeB C T d (by lia) hj q
 refine wpS_bind (k4 hj ?_)
 by_cases e5:j+1=b.size
 ·rw [if_pos (by simpa using e5)]
  exact wpS_pure ⟨m,.inl ⟨_,rfl,d3.done (.inr e5)⟩⟩
 rw [if_neg (by simpa using e5)]
 refine wpS_bind (k4 (by lia) ?_)
 refine wpS_bind (a4o C (m.k.trans hk) (by lia) (by lia) (fun l hl=>T.Sb _ (by lia)) (T.Sa _ (by lia)) (fun p q h1 h2 h3=>T.sb p q (by lia) h2 (by lia)) fun k' q1 q2 q3=> ?_)
 dsimp only
 by_cases hk':k'>0
 ·rw [if_pos hk']
  have d5:=d3.takeBk C T (k:=k') (by lia) (by lia) fun l hl=>C.as _ _ (T.Sb _ (by lia)) (T.Sa _ (by lia)) (q2 l hl)
  by_cases e7:j+1+k'=b.size
  ·rw [if_pos (by simpa using e7)]
   exact wpS_pure ⟨m,.inl ⟨_,rfl,d5.done (.inr e7)⟩⟩
  rw [if_neg (by simpa using e7)]
  exact a9y C T m d5 hi (by lia) (q3 k' (AO _) (by lia)) (by lia)
 ·rw [if_neg hk']
  exact a9y C T m d3 hi (by lia) (by have:=q3 0 (by lia) (by lia);rwa [Nat.add_zero] at this) (by lia)
theorem a9w(C:K5 prog w A E s κ S R)(T:Two S R a b)(hk:kindOf st=κ)(m:Sm st st')(d:D R a b o i j)(hi:i+1<a.size)(hj:j<b.size)(hp:x₀+x<=i+j):wpS (model prog w) A E s (loA a b o i j mg u v) (LoQ R a b st x₀ x) st':=by
 unfold loA
 refine wpS_bind (a1p m fun st3 m3=> ?_)
 refine wpS_bind (k4 hj ?_)
 refine wpS_bind (a4n C (m3.k.trans hk) (by lia) (by lia) (fun l hl=>T.Sa _ (by lia)) (T.Sb _ hj) (fun p q h1 h2 h3=>T.sa p q (by lia) h2 (by lia)) fun k k1 k2 k3=> ?_)
 dsimp only
 by_cases hk0:k>0
 ·rw [if_pos hk0]
  have d2:=d.takeAk C T (k:=k) (by lia) hj k2
  by_cases e3:i+k+1=a.size
  ·rw [if_pos (by simpa using e3)]
   exact wpS_pure ⟨m3,.inl ⟨_,rfl,d2.last T e3⟩⟩
  rw [if_neg (by simpa using e3)]
  by_cases e4:i+k=a.size
  ·rw [if_pos (by simpa using e4)]
   exact wpS_pure ⟨m3,.inl ⟨_,rfl,d2.done (.inl e4)⟩⟩
  rw [if_neg (by simpa using e4)]
  exact a9x C T hk m3 d2 (by lia) hj (C.as _ _ (T.Sb _ hj) (T.Sa _ (by lia)) (k3 k (AO _) (by lia))) (by lia)
 ·rw [if_neg hk0]
  exact a9x C T hk m3 d hi hj (C.as _ _ (T.Sb _ hj) (T.Sa _ (by lia)) (by have:=k3 0 (by lia) (by lia);rwa [Nat.add_zero] at this)) hp
end
abbrev LoV:=Option (Array Keyed)×Array Keyed×Nat×Nat×Nat×Nat
abbrev LoU:=Option (Array Keyed)×Array Keyed×Nat×Nat×Nat
def loS(a b:Array Keyed)(mg:Nat)(c:LoV):StateT SortSt Sem (ForInStep LoV):=do
 let y<-elem' b c.2.2.2.1
 let x<-elem' a c.2.2.1
 let t<-lt' y x
 match t with
 |some t=>
  if t then
   let z<-elem' b c.2.2.2.1
   if c.2.2.2.1+1==b.size then
    pure (.done (some (rs a b (c.2.1.push z) c.2.2.1 (c.2.2.2.1+1)),c.2.1.push z,c.2.2.1,c.2.2.2.1+1,0,c.2.2.2.2.2+1))
   else if c.2.2.2.2.2+1>=mg then
    pure (.done (none,c.2.1.push z,c.2.2.1,c.2.2.2.1+1,0,c.2.2.2.2.2+1))
   else pure (.yield (none,c.2.1.push z,c.2.2.1,c.2.2.2.1+1,0,c.2.2.2.2.2+1))
  else
   let z<-elem' a c.2.2.1
   if c.2.2.1+1+1==a.size then
    pure (.done (some (rs b a (c.2.1.push z) c.2.2.2.1 (c.2.2.1+1)),c.2.1.push z,c.2.2.1+1,c.2.2.2.1,c.2.2.2.2.1+1,0))
   else if c.2.2.2.2.1+1>=mg then
    pure (.done (none,c.2.1.push z,c.2.2.1+1,c.2.2.2.1,c.2.2.2.2.1+1,0))
   else pure (.yield (none,c.2.1.push z,c.2.2.1+1,c.2.2.2.1,c.2.2.2.2.1+1,0))
 |_=>pure (.done (some (rs a b c.2.1 c.2.2.1 c.2.2.2.1),c.2.1,c.2.2.1,c.2.2.2.1,c.2.2.2.2.1,c.2.2.2.2.2))
def loG(a b:Array Keyed)(c:LoT):StateT SortSt Sem (ForInStep LoT):=
 if c.2.2.2.2.1>1 then loA a b c.2.1 c.2.2.1 c.2.2.2.1 (c.2.2.2.2.1 - 1) c.2.2.2.2.2.1 c.2.2.2.2.2.2 else loA a b c.2.1 c.2.2.1 c.2.2.2.1 c.2.2.2.2.1 c.2.2.2.2.2.1 c.2.2.2.2.2.2
def loT(a b:Array Keyed)(c:LoU):StateT SortSt Sem (ForInStep LoU):=do
 let r<-forIn [0:a.size+b.size] ((none,c.2.1,c.2.2.1,c.2.2.2.1,0,0):LoV) fun _ r=>loS a b c.2.2.2.2 r
 match r.1 with
 |none=>do
  rule "list.sort.gallop"
  let q<-forIn [0:a.size+b.size] ((none,r.2.1,r.2.2.1,r.2.2.2.1,c.2.2.2.2+1,r.2.2.2.2.1,r.2.2.2.2.2):LoT) fun _ q=>loG a b q
  match q.1 with
  |none=>do
   a7m (q.2.2.2.2.1+1)
   pure (.yield (none,q.2.1,q.2.2.1,q.2.2.2.1,q.2.2.2.2.1+1))
  |some x=>pure (.done (some x,q.2.1,q.2.2.1,q.2.2.2.1,q.2.2.2.2.1))
 |some x=>pure (.done (some x,r.2.1,r.2.2.1,r.2.2.2.1,c.2.2.2.2))
theorem b1W(p q:Array Keyed):mLo p q=(do
 rule "list.sort.merge-lo"
 let x<-elem' q 0
 if 1==q.size then
  pure (rs p q #[x] 0 1)
 else if 0+1==p.size then
  pure (rs q p #[x] 1 0)
 else do
  let z<-get
  let r<-forIn [0:p.size+q.size] ((none, #[x],0,1,gallopOf z):LoU) fun _ c=>loT p q c
  match r.1 with
  |none=>unsupported "internal:list.sort.merge-bound"
  |some v=>pure v):=by kernel_rfl
abbrev LoI(R:Keyed->Keyed->Bool)(a b:Array Keyed)(st:SortSt)(k:Nat)(c:Option (Array Keyed))(o:Array Keyed)(i j:Nat)(st':SortSt):Prop:=c=none/\Sm st st'/\D R a b o i j/\i+1<a.size/\j<b.size/\k<=i+j
abbrev LoE(R:Keyed->Keyed->Bool)(a b:Array Keyed)(st:SortSt)(k:Nat)(c:Option (Array Keyed))(o:Array Keyed)(i j:Nat)(st':SortSt):Prop:=Sm st st'/\((∃r,c=some r/\J7 R (a.toList++b.toList) r.toList)\/(c=none/\D R a b o i j/\i+1<a.size/\j<b.size/\k<=i+j))
section
variable {a b:Array Keyed}{st st':SortSt}{x₀ x mg:Nat}
theorem b2M(C:K5 prog w A E s κ S R)(T:Two S R a b)(hk:kindOf st=κ){c:LoV}(h:LoI R a b st x₀ c.1 c.2.1 c.2.2.1 c.2.2.2.1 st'):wpS (model prog w) A E s (loS a b mg c) (fun r st'=>match r with| .done c'=>LoE R a b st x₀ c'.1 c'.2.1 c'.2.2.1 c'.2.2.2.1 st'| .yield c'=>LoI R a b st x₀ c'.1 c'.2.1 c'.2.2.1 c'.2.2.2.1 st') st':=by
 obtain⟨c,o,i,j,u,v⟩:=c
 obtain⟨hc,m,d,hi,hj,hp⟩:=h
 dsimp only at*
 unfold loS
 dsimp only
 refine wpS_bind (k4 hj (wpS_bind (k4 (by lia) (wpS_bind (C.lt _ _ (T.Sb _ hj) (T.Sa _ (by lia)) st' _ (m.k.trans hk) ?_)))))
 dsimp only
 cases hl:R (g b j) (g a i)
 ·simp only [An,if_false]
  refine wpS_bind (k4 (by lia) ?_)
  have d2:=D.takeA C T d (by lia) hj hl
  by_cases e3:i+1+1=a.size
  ·rw [if_pos (by simpa using e3)]
   exact wpS_pure ⟨m,.inl ⟨_,rfl,d2.last T e3⟩⟩
  rw [if_neg (by simpa using e3)]
  split
  ·exact wpS_pure ⟨m,.inr ⟨rfl,d2,(show i+1+1<a.size by lia),hj,(show x₀<=i+1+j by lia)⟩⟩
  ·exact wpS_pure ⟨rfl,m,d2,(show i+1+1<a.size by lia),hj,(show x₀<=i+1+j by lia)⟩
 ·simp only [if_true]
  refine wpS_bind (k4 hj ?_)
  have d2:=D.takeB C T d (by lia) hj (C.as _ _ (T.Sb _ hj) (T.Sa _ (by lia)) hl)
  by_cases e3:j+1=b.size
  ·rw [if_pos (by simpa using e3)]
   exact wpS_pure ⟨m,.inl ⟨_,rfl,d2.done (.inr e3)⟩⟩
  rw [if_neg (by simpa using e3)]
  split
  ·exact wpS_pure ⟨m,.inr ⟨rfl,d2,hi,(show j+1<b.size by lia),(show x₀<=i+(j+1) by lia)⟩⟩
  ·exact wpS_pure ⟨rfl,m,d2,hi,(show j+1<b.size by lia),(show x₀<=i+(j+1) by lia)⟩
theorem b2L(C:K5 prog w A E s κ S R)(T:Two S R a b)(hk:kindOf st=κ){c:LoT}(h:LoI R a b st (x₀+x) c.1 c.2.1 c.2.2.1 c.2.2.2.1 st'):wpS (model prog w) A E s (loG a b c) (fun r st'=>match r with| .done c'=>LoE R a b st (x₀+1) c'.1 c'.2.1 c'.2.2.1 c'.2.2.2.1 st'| .yield c'=>LoI R a b st (x₀+(x+1)) c'.1 c'.2.1 c'.2.2.1 c'.2.2.2.1 st') st':=by
 obtain⟨hc,m,d,hi,hj,hp⟩:=h
 unfold loG
 split
 ·exact a9w C T hk m d hi hj hp
 ·exact a9w C T hk m d hi hj hp
theorem b2N(C:K5 prog w A E s κ S R)(T:Two S R a b)(hk:kindOf st=κ){c:LoU}(h:LoI R a b st x₀ c.1 c.2.1 c.2.2.1 c.2.2.2.1 st'):wpS (model prog w) A E s (loT a b c) (fun r st'=>match r with| .done c'=>Sm st st'/\∃r,c'.1=some r/\J7 R (a.toList++b.toList) r.toList| .yield c'=>LoI R a b st (x₀+1) c'.1 c'.2.1 c'.2.2.1 c'.2.2.2.1 st') st':=by
 obtain⟨hc,h⟩:=h
 unfold loT
 refine wpS_bind (wpS_mono (wpS_forRange (I:=fun _ c st'=>LoI R a b st x₀ c.1 c.2.1 c.2.2.1 c.2.2.2.1 st') (Q:=fun c st'=>LoE R a b st x₀ c.1 c.2.1 c.2.2.1 c.2.2.2.1 st') (fun _ _ _ _ _ h=>wpS_mono (b2M C T hk h) fun r _ q=>by cases r<;>exact q) (fun c st' ⟨h1,h2,h3⟩=>⟨h2,.inr ⟨h1,h3⟩⟩) ⟨rfl,h⟩) ?_)
 rintro r st2 ⟨m,⟨y,e,gd⟩|⟨e,h⟩⟩
 ·rw [e]
  exact wpS_pure ⟨m,y,rfl,gd⟩
 rw [e]
 refine wpS_bind (wpS_lift (wpAny_rule ⟨rfl, ?_⟩))
 refine wpS_bind (wpS_mono (wpS_forRange (I:=fun x c st'=>LoI R a b st (x₀+x) c.1 c.2.1 c.2.2.1 c.2.2.2.1 st') (Q:=fun c st'=>LoE R a b st (x₀+1) c.1 c.2.1 c.2.2.1 c.2.2.2.1 st') (fun _ _ _ _ _ h=>wpS_mono (b2L C T hk h) fun r _ q=>by cases r<;>exact q) (fun c st' ⟨h1,h2,h3,h4,h5,h6⟩=>⟨h2,.inr ⟨h1,h3,h4,h5,by lia⟩⟩) ⟨rfl,m,h⟩) ?_)
 rintro q st3 ⟨m,⟨y,e,gd⟩|⟨e,h⟩⟩
 ·rw [e]
  exact wpS_pure ⟨m,y,rfl,gd⟩
 rw [e]
 exact wpS_bind (a1p m fun st3 m3=>wpS_pure ⟨rfl,m3,h⟩)
end
theorem b2Q(C:K5 prog w A E s κ S R){a b:Array Keyed}(T:Two S R a b){st:SortSt}(hk:kindOf st=κ){Q:Array Keyed->SortSt->Prop}
 (h:∀r st',Sm st st'->J7 R (a.toList++b.toList) r.toList->Q r st'):wpS (model prog w) A E s (mLo a b) Q st:=by
 rw [b1W]
 refine wpS_bind (wpS_lift (wpAny_rule ⟨rfl, ?_⟩))
 refine wpS_bind (k4 T.pb ?_)
 have pw:∀c:Array Keyed,X5 R c 0 c.size->c.toList.Pairwise (le R):=fun c hc=>by
  rw [List.pairwise_iff_getElem]
  intro i j hi hj hij
  have h1:=E9 (a:=c) hi
  have h2:=E9 (a:=c) hj
  rw [Au hi] at h1
  rw [Au hj] at h2
  rw [Option.some.inj h1,Option.some.inj h2]
  exact hc i j (Nat.zero_le _) (by lia) hj
 have d0:D R a b #[g b 0] 0 1:=by
  have:D R a b #[] 0 0:=by
   refine⟨?_, ?_,List.Perm.refl _⟩
   ·exact pw a T.sa
   ·exact pw b T.sb
  exact this.takeB C T T.pa T.pb (T.lo 0 T.pa)
 have pa:=T.pa
 have pb:=T.pb
 by_cases e1:1=b.size
 ·rw [if_pos (by simpa using e1)]
  exact wpS_pure (h _ _ Sm.refl (d0.done (.inr e1)))
 rw [if_neg (by simpa using e1)]
 by_cases e2:0+1=a.size
 ·rw [if_pos (by simpa using e2)]
  exact wpS_pure (h _ _ Sm.refl (d0.last T e2))
 rw [if_neg (by simpa using e2)]
 refine wpS_bind (wpS_get ?_)
 refine wpS_bind (wpS_mono (wpS_forRange (I:=fun x c st'=>LoI R a b st x c.1 c.2.1 c.2.2.1 c.2.2.2.1 st')
  (Q:=fun c st'=>Sm st st'/\∃r,c.1=some r/\J7 R (a.toList++b.toList) r.toList) (fun _ _ _ _ _ h=>wpS_mono (b2N C T hk h) fun r _ q=>by cases r<;>exact q) (fun c st' ⟨h1,h2,h3,h4,h5,h6⟩=>by lia) ⟨rfl,Sm.refl,d0,(show 0+1<a.size by lia),(show 1<b.size by lia),Nat.zero_le _⟩) ?_)
 rintro c st' ⟨m,r,e,gd⟩
 rw [e]
 exact wpS_pure (h r st' m gd)
end
def Mh(R:Keyed->Keyed->Bool)(W out la lb:List Keyed):Prop:=(la++out).Pairwise (le R)/\(lb++out).Pairwise (le R)/\((la++lb)++out).Perm W
section
variable {R:Keyed->Keyed->Bool}{W out la lb xs:List Keyed}
theorem Mh.swap(h:Mh R W out la lb):Mh R W out lb la:=⟨h.2.1,h.1,(List.Perm.append_right out List.perm_append_comm).trans h.2.2⟩
theorem Mh.takeA(h:Mh R W out (la++xs) lb)(k:∀x∈xs,∀y∈lb,le R y x):Mh R W (xs++out) la lb:=by
 obtain⟨h1,h2,h3⟩:=h
 have e1:=List.pairwise_append.mp (show(la++(xs++out)).Pairwise (le R) by rw [<-List.append_assoc];exact h1)
 have e2:=List.pairwise_append.mp h2
 refine⟨by rw [<-List.append_assoc];exact h1,List.pairwise_append.mpr ⟨e2.1,e1.2.1,fun y hy x hx=> ?_⟩, ?_⟩
 ·rcases Am.mp hx with hx|hx
  ·exact k x hx y hy
  ·exact e2.2.2 y hy x hx
 ·refine List.Perm.trans ?_ h3
  rw [<-List.append_assoc]
  refine List.Perm.append_right out ?_
  rw [List.append_assoc,List.append_assoc]
  exact List.Perm.append_left la List.perm_append_comm
theorem Mh.takeB(h:Mh R W out la (lb++xs))(k:∀x∈xs,∀y∈la,le R y x):Mh R W (xs++out) la lb:=(h.swap.takeA k).swap
theorem Mh.doneB(h:Mh R W out la []):J7 R W (la++out):=⟨h.1,by have:=h.2.2;rwa [AZ] at this⟩
theorem Mh.doneA(h:Mh R W out [] lb):J7 R W (lb++out):=⟨h.2.1,h.2.2⟩
theorem Mh.first{x:Keyed}(h:Mh R W out la [x])(k:∀y∈la,le R x y):J7 R W ([x]++(la++out)):=by
 obtain⟨h1,h2,h3⟩:=h
 have e2:=List.pairwise_append.mp h2
 refine⟨List.pairwise_append.mpr ⟨e2.1,h1,fun y hy z hz=> ?_⟩, ?_⟩
 ·cases List.mem_singleton.mp hy
  rcases Am.mp hz with hz|hz
  ·exact k z hz
  ·exact e2.2.2 x (List.mem_singleton.mpr rfl) z hz
 ·rw [<-List.append_assoc]
  exact(List.Perm.append_right out List.perm_append_comm).trans h3
end
theorem a2d{a:Array Keyed}{n:Nat}{x:Keyed}(hn:n<=a.size)(h:x∈a.toList.take n):∃j,j<n/\x=g a j:=by
 obtain⟨j,hj,e⟩:=G1 (i:=0) (k:=n) (a:=a) (x:=x) (by rwa [List.drop_zero]) (by lia)
 exact⟨j,hj,by rwa [Nat.zero_add] at e⟩
theorem N9{a:Array Keyed}{m n:Nat}(h:m<=n):a.toList.take n=a.toList.take m++(a.extract m n).toList:=by
 rw [t4,<-List.take_add,show m+(n - m)=n by lia]
theorem Y7(a:Array Keyed)(n:Nat):(a.extract 0 n).toList=a.toList.take n:=by
 rw [t4,List.drop_zero,Nat.sub_zero]
section
variable {prog:AG}{w:AF}{A:AI}{E:AA->AC->Prop}{s:AC}
variable {κ:SortKind}{S:Keyed->Prop}{R:Keyed->Keyed->Bool}
def rh(a b o:Array Keyed)(i j:Nat):Array Keyed:=a.extract 0 i++b.extract 0 j++o.reverse
def H(R:Keyed->Keyed->Bool)(a b o:Array Keyed)(i j:Nat):Prop:=Mh R (a.toList++b.toList) o.toList.reverse (a.toList.take i) (b.toList.take j)
theorem H.takeAk(C:K5 prog w A E s κ S R){a b o:Array Keyed}{i j m:Nat}(T:Two S R a b)(h:H R a b o i j)(hi:i<=a.size)(hm:m<=i)(hj:j<=b.size)(h0:0<j)(q:∀l,m<=l->l<i->le R (g b (j - 1)) (g a l)):
 H R a b (o++(a.extract m i).reverse) m j:=by
 unfold H at h ⊢
 rw [N9 hm] at h
 rw [Array.toList_append,Array.toList_reverse,List.reverse_append,List.reverse_reverse]
 refine Mh.takeA h fun x hx y hy=> ?_
 rw [t4] at hx
 obtain⟨l,hl,rfl⟩:=G1 hx (by lia)
 obtain⟨k,hk,rfl⟩:=a2d hj hy
 exact C.tr _ (g b (j - 1)) _ (T.Sb _ (by lia)) (T.Sb _ (by lia)) (T.Sa _ (by lia)) (T.sb k (j - 1) (by lia) (by lia) (by lia)) (q _ (by lia) (by lia))
theorem H.takeBk(C:K5 prog w A E s κ S R){a b o:Array Keyed}{i j m:Nat}(T:Two S R a b)(h:H R a b o i j)(hj:j<=b.size)(hm:m<=j)(hi:i<=a.size)(h0:0<i)(q:∀l,m<=l->l<j->le R (g a (i - 1)) (g b l)):
 H R a b (o++(b.extract m j).reverse) i m:=by
 unfold H at h ⊢
 rw [N9 hm] at h
 rw [Array.toList_append,Array.toList_reverse,List.reverse_append,List.reverse_reverse]
 refine Mh.takeB h fun x hx y hy=> ?_
 rw [t4] at hx
 obtain⟨l,hl,rfl⟩:=G1 hx (by lia)
 obtain⟨k,hk,rfl⟩:=a2d hi hy
 exact C.tr _ (g a (i - 1)) _ (T.Sa _ (by lia)) (T.Sa _ (by lia)) (T.Sb _ (by lia)) (T.sa k (i - 1) (by lia) (by lia) (by lia)) (q _ (by lia) (by lia))
theorem a5b{o a:Array Keyed}{i:Nat}(h:i<a.size):o.push (g a i)=o++(a.extract i (i+1)).reverse:=by
 rw [a2v h]
 congr 1
 apply Array.toList_inj.mp
 rw [Array.toList_reverse,t4,T5 h,show i+1 - i=1 by lia]
 rfl
theorem H.takeA(C:K5 prog w A E s κ S R){a b o:Array Keyed}{i j:Nat}(T:Two S R a b)(h:H R a b o i j)(hi:i<=a.size)(hi0:0<i)(hj:j<=b.size)(h0:0<j)(q:le R (g b (j - 1)) (g a (i - 1))):H R a b (o.push (g a (i - 1))) (i - 1) j:=by
 rw [a5b (by lia),show i - 1+1=i by lia]
 exact h.takeAk C T hi (by lia) hj h0 fun l h1 h2=>by rw [show l=i - 1 by lia];exact q
theorem H.takeB(C:K5 prog w A E s κ S R){a b o:Array Keyed}{i j:Nat}(T:Two S R a b)(h:H R a b o i j)(hj:j<=b.size)(hj0:0<j)(hi:i<=a.size)(h0:0<i)(q:le R (g a (i - 1)) (g b (j - 1))):H R a b (o.push (g b (j - 1))) i (j - 1):=by
 rw [a5b (by lia),show j - 1+1=j by lia]
 exact h.takeBk C T hj (by lia) hi h0 fun l h1 h2=>by rw [show l=j - 1 by lia];exact q
theorem H.done{a b o:Array Keyed}{i j:Nat}(h:H R a b o i j)(e:i=0\/j=0):J7 R (a.toList++b.toList) (rh a b o i j).toList:=by
 unfold rh
 rw [Array.toList_append,Array.toList_append,Y7,Y7,Array.toList_reverse]
 unfold H at h
 rcases e with rfl|rfl
 ·rw [List.take_zero] at h ⊢;exact h.doneA
 ·rw [List.take_zero] at h ⊢;rw [AZ];exact h.doneB
theorem H.first{a b o:Array Keyed}{i j:Nat}(T:Two S R a b)(h:H R a b o i j)(hi:i<=a.size)(e:j=1):J7 R (a.toList++b.toList) (rh b a o j i).toList:=by
 unfold rh
 rw [Array.toList_append,Array.toList_append,Y7,Y7,Array.toList_reverse]
 unfold H at h
 subst e
 have e1:b.toList.take 1=[g b 0]:=by
  have:=T5 (a:=b) T.pb
  rw [List.drop_zero] at this
  rw [this];rfl
 rw [e1] at h ⊢
 rw [List.append_assoc]
 exact h.first fun y hy=>by
  obtain⟨m,hm,rfl⟩:=a2d hi hy
  exact T.lo m (by lia)
abbrev HiT:=Option (Array Keyed)×Nat×Nat×Array Keyed×Nat×Nat×Nat
def hiC(a b o:Array Keyed)(i j mg u v:Nat):StateT SortSt Sem (ForInStep HiT):=do
 let y<-elem' a (i - 1)
 if i - 1==0 then
  pure (.done (some (rh a b (o.push y) (i - 1) j),i - 1,j,o.push y,mg,u,v))
 else if u<7 && v<7 then
  pure (.done (none,i - 1,j,o.push y,mg,u,v))
 else
  pure (.yield (none,i - 1,j,o.push y,mg,u,v))
def hiB(a b o:Array Keyed)(i j mg u v:Nat):StateT SortSt Sem (ForInStep HiT):=do
 let x<-elem' b (j - 1)
 if j - 1==1 then
  pure (.done (some (rh b a (o.push x) (j - 1) i),i,j - 1,o.push x,mg,u,v))
 else do
  let y<-elem' a (i - 1)
  let z<-gal true y b 0 (j - 1) (j - 1 - 1)
  match z with
  |some t=>
   if j - 1 - t>0 then
    if t==1 then
     pure (.done (some (rh b a (o.push x++(b.extract t (j - 1)).reverse) t i),i,t,o.push x++(b.extract t (j - 1)).reverse,mg,u,j - 1 - t))
    else if t==0 then
     pure (.done (some (rh a b (o.push x++(b.extract t (j - 1)).reverse) i t),i,t,o.push x++(b.extract t (j - 1)).reverse,mg,u,j - 1 - t))
    else hiC a b (o.push x++(b.extract t (j - 1)).reverse) i t mg u (j - 1 - t)
   else hiC a b (o.push x) i (j - 1) mg u (j - 1 - t)
  |_=>pure (.done (some (rh a b (o.push x) i (j - 1)),i,j - 1,o.push x,mg,u,v))
def hiA(a b o:Array Keyed)(i j mg u v:Nat):StateT SortSt Sem (ForInStep HiT):=do
 a7m mg
 let x<-elem' b (j - 1)
 let z<-gal false x a 0 i (i - 1)
 match z with
 |some t=>
  if i - t>0 then
   if t==0 then
    pure (.done (some (rh a b (o++(a.extract t i).reverse) t j),t,j,o++(a.extract t i).reverse,mg,i - t,v))
   else hiB a b (o++(a.extract t i).reverse) t j mg (i - t) v
  else hiB a b o i j mg (i - t) v
 |_=>pure (.done (some (rh a b o i j),i,j,o,mg,u,v))
def HiQ(R:Keyed->Keyed->Bool)(a b:Array Keyed)(st:SortSt)(x₀ x:Nat):ForInStep HiT->SortSt->Prop:=fun r st'=>match r with
 | .done c=>Sm st st'/\((∃r,c.1=some r/\J7 R (a.toList++b.toList) r.toList)\/(c.1=none/\H R a b c.2.2.2.1 c.2.1 c.2.2.1/\0<c.2.1/\c.2.1<=a.size/\1<c.2.2.1/\c.2.2.1<=b.size/\x₀+1+(c.2.1+c.2.2.1)<=a.size+b.size))
 | .yield c=>c.1=none/\Sm st st'/\H R a b c.2.2.2.1 c.2.1 c.2.2.1/\0<c.2.1/\c.2.1<=a.size/\1<c.2.2.1/\c.2.2.1<=b.size/\x₀+(x+1)+(c.2.1+c.2.2.1)<=a.size+b.size
section
variable {a b o:Array Keyed}{st st':SortSt}{i j mg u v x₀ x:Nat}
theorem a9v(C:K5 prog w A E s κ S R)(T:Two S R a b)(m:Sm st st')(d:H R a b o i j)(hi:0<i)(hia:i<=a.size)(hj:1<j)(hjb:j<=b.size)(q:le R (g b (j - 1)) (g a (i - 1)))(hp:x₀+x+(i+j)<=a.size+b.size):wpS (model prog w) A E s (hiC a b o i j mg u v) (HiQ R a b st x₀ x) st':=by
 unfold hiC
 refine wpS_bind (k4 (by lia) ?_)
 have d4:=H.takeA C T d hia hi hjb (by lia) q
 by_cases e6:i - 1=0
 ·rw [if_pos (by simpa using e6)]
  exact wpS_pure ⟨m,.inl ⟨_,rfl,d4.done (.inl e6)⟩⟩
 rw [if_neg (by simpa using e6)]
 split
 ·exact wpS_pure ⟨m,.inr ⟨rfl,d4,(show 0<i - 1 by lia),(show i - 1<=a.size by lia),hj,hjb,(show x₀+1+(i - 1+j)<=a.size+b.size by lia)⟩⟩
 ·exact wpS_pure ⟨rfl,m,d4,(show 0<i - 1 by lia),(show i - 1<=a.size by lia),hj,hjb,(show x₀+(x+1)+(i - 1+j)<=a.size+b.size by lia)⟩
theorem a9u(C:K5 prog w A E s κ S R)(T:Two S R a b)(hk:kindOf st=κ)(m:Sm st st')(d:H R a b o i j)(hi:0<i)(hia:i<=a.size)(hj:1<j)(hjb:j<=b.size)(q:le R (g a (i - 1)) (g b (j - 1)))(hp:x₀+x+(i+j)<=a.size+b.size):wpS (model prog w) A E s (hiB a b o i j mg u v) (HiQ R a b st x₀ x) st':=by
 unfold hiB
 have d3:=H.takeB C T d hjb (by lia) hia hi q
 refine wpS_bind (k4 (by lia) ?_)
 by_cases e5:j - 1=1
 ·rw [if_pos (by simpa using e5)]
  exact wpS_pure ⟨m,.inl ⟨_,rfl,d3.first T (by lia) e5⟩⟩
 rw [if_neg (by simpa using e5)]
 refine wpS_bind (k4 (by lia) ?_)
 refine wpS_bind (a4o C (m.k.trans hk) (by lia) (by lia) (fun l hl=>T.Sb _ (by lia)) (T.Sa _ (by lia)) (fun p q h1 h2 h3=>T.sb p q (by lia) h2 (by lia)) fun k' q1 q2 q3=> ?_)
 simp only [Nat.zero_add] at q2 q3
 dsimp only
 by_cases hk':j - 1 - k'>0
 ·rw [if_pos hk']
  have d5:=d3.takeBk C T (m:=k') (by lia) q1 (by lia) (by lia) q3
  by_cases e7:k'=1
  ·rw [if_pos (by simpa using e7)]
   exact wpS_pure ⟨m,.inl ⟨_,rfl,d5.first T (by lia) e7⟩⟩
  rw [if_neg (by simpa using e7)]
  by_cases e8:k'=0
  ·rw [if_pos (by simpa using e8)]
   exact wpS_pure ⟨m,.inl ⟨_,rfl,d5.done (.inr e8)⟩⟩
  rw [if_neg (by simpa using e8)]
  exact a9v C T m d5 hi hia (by lia) (by lia) (C.as _ _ (T.Sb _ (by lia)) (T.Sa _ (by lia)) (q2 (k' - 1) (by lia))) (by lia)
 ·rw [if_neg hk']
  exact a9v C T m d3 hi hia (by lia) (by lia) (C.as _ _ (T.Sb _ (by lia)) (T.Sa _ (by lia)) (q2 (j - 1 - 1) (by lia))) (by lia)
theorem a9t(C:K5 prog w A E s κ S R)(T:Two S R a b)(hk:kindOf st=κ)(m:Sm st st')(d:H R a b o i j)(hi:0<i)(hia:i<=a.size)(hj:1<j)(hjb:j<=b.size)(hp:x₀+x+(i+j)<=a.size+b.size):wpS (model prog w) A E s (hiA a b o i j mg u v) (HiQ R a b st x₀ x) st':=by
 unfold hiA
 refine wpS_bind (a1p m fun st3 m3=> ?_)
 refine wpS_bind (k4 (by lia) ?_)
 refine wpS_bind (a4n C (m3.k.trans hk) (by lia) (by lia) (fun l hl=>T.Sa _ (by lia)) (T.Sb _ (by lia)) (fun p q h1 h2 h3=>T.sa p q (by lia) h2 (by lia)) fun k k1 k2 k3=> ?_)
 simp only [Nat.zero_add] at k2 k3
 dsimp only
 by_cases hk0:i - k>0
 ·rw [if_pos hk0]
  have d2:=d.takeAk C T (m:=k) hia k1 hjb (by lia) fun l h1 h2=>C.as _ _ (T.Sb _ (by lia)) (T.Sa _ (by lia)) (k3 l h1 h2)
  by_cases e3:k=0
  ·rw [if_pos (by simpa using e3)]
   exact wpS_pure ⟨m3,.inl ⟨_,rfl,d2.done (.inl e3)⟩⟩
  rw [if_neg (by simpa using e3)]
  exact a9u C T hk m3 d2 (by lia) (by lia) hj hjb (k2 (k - 1) (by lia)) (by lia)
 ·rw [if_neg hk0]
  exact a9u C T hk m3 d hi hia hj hjb (k2 (i - 1) (by lia)) hp
end
abbrev HiV:=Option (Array Keyed)×Nat×Nat×Array Keyed×Nat×Nat
abbrev HiU:=Option (Array Keyed)×Nat×Nat×Array Keyed×Nat
def hiS(a b:Array Keyed)(mg:Nat)(c:HiV):StateT SortSt Sem (ForInStep HiV):=do
 let y<-elem' b (c.2.2.1 - 1)
 let x<-elem' a (c.2.1 - 1)
 let t<-lt' y x
 match t with
 |some t=>
  if t then
   let z<-elem' a (c.2.1 - 1)
   if c.2.1 - 1==0 then
    pure (.done (some (rh a b (c.2.2.2.1.push z) (c.2.1 - 1) c.2.2.1),c.2.1 - 1,c.2.2.1,c.2.2.2.1.push z,c.2.2.2.2.1+1,0))
   else if c.2.2.2.2.1+1>=mg then
    pure (.done (none,c.2.1 - 1,c.2.2.1,c.2.2.2.1.push z,c.2.2.2.2.1+1,0))
   else pure (.yield (none,c.2.1 - 1,c.2.2.1,c.2.2.2.1.push z,c.2.2.2.2.1+1,0))
  else
   let z<-elem' b (c.2.2.1 - 1)
   if c.2.2.1 - 1==1 then
    pure (.done (some (rh b a (c.2.2.2.1.push z) (c.2.2.1 - 1) c.2.1),c.2.1,c.2.2.1 - 1,c.2.2.2.1.push z,0,c.2.2.2.2.2+1))
   else if c.2.2.2.2.2+1>=mg then
    pure (.done (none,c.2.1,c.2.2.1 - 1,c.2.2.2.1.push z,0,c.2.2.2.2.2+1))
   else pure (.yield (none,c.2.1,c.2.2.1 - 1,c.2.2.2.1.push z,0,c.2.2.2.2.2+1))
 |_=>pure (.done (some (rh a b c.2.2.2.1 c.2.1 c.2.2.1),c.2.1,c.2.2.1,c.2.2.2.1,c.2.2.2.2.1,c.2.2.2.2.2))
def hiG(a b:Array Keyed)(c:HiT):StateT SortSt Sem (ForInStep HiT):=
 if c.2.2.2.2.1>1 then hiA a b c.2.2.2.1 c.2.1 c.2.2.1 (c.2.2.2.2.1 - 1) c.2.2.2.2.2.1 c.2.2.2.2.2.2 else hiA a b c.2.2.2.1 c.2.1 c.2.2.1 c.2.2.2.2.1 c.2.2.2.2.2.1 c.2.2.2.2.2.2
def hiX(a b:Array Keyed)(c:HiU):StateT SortSt Sem (ForInStep HiU):=do
 let r<-forIn [0:a.size+b.size] ((none,c.2.1,c.2.2.1,c.2.2.2.1,0,0):HiV) fun _ r=>hiS a b c.2.2.2.2 r
 match r.1 with
 |none=>do
  rule "list.sort.gallop"
  let q<-forIn [0:a.size+b.size] ((none,r.2.1,r.2.2.1,r.2.2.2.1,c.2.2.2.2+1,r.2.2.2.2.1,r.2.2.2.2.2):HiT) fun _ q=>hiG a b q
  match q.1 with
  |none=>do
   a7m (q.2.2.2.2.1+1)
   pure (.yield (none,q.2.1,q.2.2.1,q.2.2.2.1,q.2.2.2.2.1+1))
  |some x=>pure (.done (some x,q.2.1,q.2.2.1,q.2.2.2.1,q.2.2.2.2.1))
 |some x=>pure (.done (some x,r.2.1,r.2.2.1,r.2.2.2.1,c.2.2.2.2))
theorem b1V(p q:Array Keyed):mHi p q=(do
 rule "list.sort.merge-hi"
 let x<-elem' p (p.size - 1)
 if p.size - 1==0 then
  pure (rh p q #[x] (p.size - 1) q.size)
 else if q.size==1 then
  pure (rh q p #[x] q.size (p.size - 1))
 else do
  let z<-get
  let r<-forIn [0:p.size+q.size] ((none,p.size - 1,q.size, #[x],gallopOf z):HiU) fun _ c=>hiX p q c
  match r.1 with
  |none=>unsupported "internal:list.sort.merge-bound"
  |some v=>pure v):=by kernel_rfl
abbrev HiI(R:Keyed->Keyed->Bool)(a b:Array Keyed)(st:SortSt)(k:Nat)(c:Option (Array Keyed))(o:Array Keyed)(i j:Nat)(st':SortSt):Prop:=c=none/\Sm st st'/\H R a b o i j/\0<i/\i<=a.size/\1<j/\j<=b.size/\k+(i+j)<=a.size+b.size
abbrev HiE(R:Keyed->Keyed->Bool)(a b:Array Keyed)(st:SortSt)(k:Nat)(c:Option (Array Keyed))(o:Array Keyed)(i j:Nat)(st':SortSt):Prop:=Sm st st'/\((∃r,c=some r/\J7 R (a.toList++b.toList) r.toList)\/(c=none/\H R a b o i j/\0<i/\i<=a.size/\1<j/\j<=b.size/\k+(i+j)<=a.size+b.size))
section
variable {a b:Array Keyed}{st st':SortSt}{x₀ x mg:Nat}
theorem b2J(C:K5 prog w A E s κ S R)(T:Two S R a b)(hk:kindOf st=κ){c:HiV}(h:HiI R a b st x₀ c.1 c.2.2.2.1 c.2.1 c.2.2.1 st'):wpS (model prog w) A E s (hiS a b mg c) (fun r st'=>match r with| .done c'=>HiE R a b st x₀ c'.1 c'.2.2.2.1 c'.2.1 c'.2.2.1 st'| .yield c'=>HiI R a b st x₀ c'.1 c'.2.2.2.1 c'.2.1 c'.2.2.1 st') st':=by
 obtain⟨c,i,j,o,u,v⟩:=c
 obtain⟨hc,m,d,hi,hia,hj,hjb,hp⟩:=h
 dsimp only at*
 unfold hiS
 dsimp only
 refine wpS_bind (k4 (by lia) (wpS_bind (k4 (by lia) (wpS_bind (C.lt _ _ (T.Sb _ (by lia)) (T.Sa _ (by lia)) st' _ (m.k.trans hk) ?_)))))
 dsimp only
 cases hl:R (g b (j - 1)) (g a (i - 1))
 ·simp only [An,if_false]
  refine wpS_bind (k4 (by lia) ?_)
  have d2:=H.takeB C T d hjb (by lia) hia hi hl
  by_cases e3:j - 1=1
  ·rw [if_pos (by simpa using e3)]
   exact wpS_pure ⟨m,.inl ⟨_,rfl,d2.first T hia e3⟩⟩
  rw [if_neg (by simpa using e3)]
  split
  ·exact wpS_pure ⟨m,.inr ⟨rfl,d2,hi,hia,(show 1<j - 1 by lia),(show j - 1<=b.size by lia),(show x₀+(i+(j - 1))<=a.size+b.size by lia)⟩⟩
  ·exact wpS_pure ⟨rfl,m,d2,hi,hia,(show 1<j - 1 by lia),(show j - 1<=b.size by lia),(show x₀+(i+(j - 1))<=a.size+b.size by lia)⟩
 ·simp only [if_true]
  refine wpS_bind (k4 (by lia) ?_)
  have d2:=H.takeA C T d hia hi hjb (by lia) (C.as _ _ (T.Sb _ (by lia)) (T.Sa _ (by lia)) hl)
  by_cases e3:i - 1=0
  ·rw [if_pos (by simpa using e3)]
   exact wpS_pure ⟨m,.inl ⟨_,rfl,d2.done (.inl e3)⟩⟩
  rw [if_neg (by simpa using e3)]
  split
  ·exact wpS_pure ⟨m,.inr ⟨rfl,d2,(show 0<i - 1 by lia),(show i - 1<=a.size by lia),hj,hjb,(show x₀+(i - 1+j)<=a.size+b.size by lia)⟩⟩
  ·exact wpS_pure ⟨rfl,m,d2,(show 0<i - 1 by lia),(show i - 1<=a.size by lia),hj,hjb,(show x₀+(i - 1+j)<=a.size+b.size by lia)⟩
theorem b2I(C:K5 prog w A E s κ S R)(T:Two S R a b)(hk:kindOf st=κ){c:HiT}(h:HiI R a b st (x₀+x) c.1 c.2.2.2.1 c.2.1 c.2.2.1 st'):wpS (model prog w) A E s (hiG a b c) (fun r st'=>match r with| .done c'=>HiE R a b st (x₀+1) c'.1 c'.2.2.2.1 c'.2.1 c'.2.2.1 st'| .yield c'=>HiI R a b st (x₀+(x+1)) c'.1 c'.2.2.2.1 c'.2.1 c'.2.2.1 st') st':=by
 obtain⟨hc,m,d,hi,hia,hj,hjb,hp⟩:=h
 unfold hiG
 split
 ·exact a9t C T hk m d hi hia hj hjb hp
 ·exact a9t C T hk m d hi hia hj hjb hp
theorem b2K(C:K5 prog w A E s κ S R)(T:Two S R a b)(hk:kindOf st=κ){c:HiU}(hx:x₀<a.size+b.size)(h:HiI R a b st x₀ c.1 c.2.2.2.1 c.2.1 c.2.2.1 st'):wpS (model prog w) A E s (hiX a b c) (fun r st'=>match r with| .done c'=>Sm st st'/\∃r,c'.1=some r/\J7 R (a.toList++b.toList) r.toList| .yield c'=>HiI R a b st (x₀+1) c'.1 c'.2.2.2.1 c'.2.1 c'.2.2.1 st') st':=by
 obtain⟨hc,h⟩:=h
 unfold hiX
 refine wpS_bind (wpS_mono (wpS_forRange (I:=fun _ c st'=>HiI R a b st x₀ c.1 c.2.2.2.1 c.2.1 c.2.2.1 st') (Q:=fun c st'=>HiE R a b st x₀ c.1 c.2.2.2.1 c.2.1 c.2.2.1 st') (fun _ _ _ _ _ h=>wpS_mono (b2J C T hk h) fun r _ q=>by cases r<;>exact q) (fun c st' ⟨h1,h2,h3⟩=>⟨h2,.inr ⟨h1,h3⟩⟩) ⟨rfl,h⟩) ?_)
 rintro r st2 ⟨m,⟨y,e,gd⟩|⟨e,h⟩⟩
 ·rw [e]
  exact wpS_pure ⟨m,y,rfl,gd⟩
 rw [e]
 refine wpS_bind (wpS_lift (wpAny_rule ⟨rfl, ?_⟩))
 refine wpS_bind (wpS_mono (wpS_forRange (I:=fun x c st'=>HiI R a b st (x₀+x) c.1 c.2.2.2.1 c.2.1 c.2.2.1 st') (Q:=fun c st'=>HiE R a b st (x₀+1) c.1 c.2.2.2.1 c.2.1 c.2.2.1 st') (fun _ _ _ _ _ h=>wpS_mono (b2I C T hk h) fun r _ q=>by cases r<;>exact q) (fun c st' ⟨h1,h2,h3,h4,h5,h6,h7,h8⟩=>⟨h2,.inr ⟨h1,h3,h4,h5,h6,h7,by lia⟩⟩) ⟨rfl,m,h⟩) ?_)
 rintro q st3 ⟨m,⟨y,e,gd⟩|⟨e,h⟩⟩
 ·rw [e]
  exact wpS_pure ⟨m,y,rfl,gd⟩
 rw [e]
 exact wpS_bind (a1p m fun st3 m3=>wpS_pure ⟨rfl,m3,h⟩)
end
theorem b2P(C:K5 prog w A E s κ S R){a b:Array Keyed}(T:Two S R a b){st:SortSt}(hk:kindOf st=κ){Q:Array Keyed->SortSt->Prop}
 (h:∀r st',Sm st st'->J7 R (a.toList++b.toList) r.toList->Q r st'):wpS (model prog w) A E s (mHi a b) Q st:=by
 rw [b1V]
 have pa:=T.pa
 have pb:=T.pb
 refine wpS_bind (wpS_lift (wpAny_rule ⟨rfl, ?_⟩))
 refine wpS_bind (k4 (by lia) ?_)
 have pw:∀c:Array Keyed,X5 R c 0 c.size->c.toList.Pairwise (le R):=fun c hc=>by
  rw [List.pairwise_iff_getElem]
  intro i j hi hj hij
  have h1:=E9 (a:=c) hi
  have h2:=E9 (a:=c) hj
  rw [Au hi] at h1
  rw [Au hj] at h2
  rw [Option.some.inj h1,Option.some.inj h2]
  exact hc i j (Nat.zero_le _) (by lia) hj
 have d0:H R a b #[g a (a.size - 1)] (a.size - 1) b.size:=by
  have:H R a b #[] a.size b.size:=by
   have f:∀c:Array Keyed,c.toList.take c.size=c.toList:=fun c=>List.take_of_length_le (AO _)
   unfold H
   rw [f,f]
   refine⟨?_, ?_, ?_⟩
   ·show(a.toList++[]).Pairwise _
    rw [AZ];exact pw a T.sa
   ·show(b.toList++[]).Pairwise _
    rw [AZ];exact pw b T.sb
   ·show(a.toList++b.toList++[]).Perm _
    rw [AZ]
  exact this.takeA C T (AO _) pa (AO _) pb (T.hi _ (by lia))
 by_cases e1:a.size - 1=0
 ·rw [if_pos (by simpa using e1)]
  exact wpS_pure (h _ _ Sm.refl (d0.done (.inl e1)))
 rw [if_neg (by simpa using e1)]
 by_cases e2:b.size=1
 ·rw [if_pos (by simpa using e2)]
  exact wpS_pure (h _ _ Sm.refl (d0.first T (by lia) e2))
 rw [if_neg (by simpa using e2)]
 refine wpS_bind (wpS_get ?_)
 refine wpS_bind (wpS_mono (wpS_forRange (I:=fun x c st'=>HiI R a b st x c.1 c.2.2.2.1 c.2.1 c.2.2.1 st')
  (Q:=fun c st'=>Sm st st'/\∃r,c.1=some r/\J7 R (a.toList++b.toList) r.toList) (fun _ _ _ _ hx h=>wpS_mono (b2K C T hk hx h) fun r _ q=>by cases r<;>exact q) (fun c st' ⟨h1,h2,h3,h4,h5,h6,h7,h8⟩=>by lia) ⟨rfl,Sm.refl,d0,(show 0<a.size - 1 by lia),(show a.size - 1<=a.size by lia),(show 1<b.size by lia),AO _,(show 0+(a.size - 1+b.size)<=a.size+b.size by lia)⟩) ?_)
 rintro c st' ⟨m,r,e,gd⟩
 rw [e]
 exact wpS_pure (h r st' m gd)
end
def sp(r:Array Keyed)(d:Nat)(a:Array Keyed):Array Keyed:=r.toList.zipIdx.foldl (fun a (p,j)=>a.setIfInBounds (d+j) p) a
theorem b1d(d:Nat):∀(l:List Keyed) (k:Nat) (a:Array Keyed),d+k+l.length<=a.size->
 ((l.zipIdx k).foldl (fun(a:Array Keyed) (q:Keyed×Nat)=>a.setIfInBounds (d+q.2) q.1) a).toList=a.toList.take (d+k)++(l++a.toList.drop (d+k+l.length))
 |[],k,a,_=>by
  show a.toList=_
  rw [Ap,Aj,Nat.add_zero,List.take_append_drop]
 |x::l,k,a,h=>by
  rw [AU] at h
  rw [List.zipIdx_cons,List.foldl_cons,b1d d l (k+1) _ (by rw [Array.size_setIfInBounds];lia)]
  have e:(a.setIfInBounds (d+k) x).toList=a.toList.take (d+k)++x::a.toList.drop (d+k+1):=by
   rw [Array.toList_setIfInBounds,List.set_eq_take_append_cons_drop,if_pos (show d+k<a.toList.length by show d+k<a.size;lia)]
  dsimp only
  rw [e]
  have hl:(a.toList.take (d+k)).length=d+k:=by rw [List.length_take];have:a.toList.length=a.size:=rfl;lia
  have e1:(a.toList.take (d+k)++x::a.toList.drop (d+k+1)).take (d+(k+1))=a.toList.take (d+k)++[x]:=by
   rw [List.take_append,hl,List.take_of_length_le (by lia),show d+(k+1) - (d+k)=1 by lia];rfl
  have e2:(a.toList.take (d+k)++x::a.toList.drop (d+k+1)).drop (d+(k+1)+l.length)=a.toList.drop (d+k+(l.length+1)):=by
   rw [List.drop_append,hl,List.drop_eq_nil_of_le (by lia),show d+(k+1)+l.length - (d+k)=l.length+1 by lia,List.drop_succ_cons,List.drop_drop,Ap]
   congr 1;lia
  rw [e1,e2,AU,List.append_assoc];rfl
theorem a6z{r a:Array Keyed}{d:Nat}(h:d+r.size<=a.size):(sp r d a).toList=a.toList.take d++(r.toList++a.toList.drop (d+r.size)):=by
 have:=b1d d r.toList 0 a (by rw [Nat.add_zero];exact h)
 rw [Nat.add_zero] at this
 exact this
theorem a0u(a:Array Keyed)(i:Nat):g a i=(a.toList[i]?).getD (Value.none,Value.none):=by unfold g;rw [Array.getElem?_toList]
theorem b1K{r a:Array Keyed}{d:Nat}(h:d+r.size<=a.size)(i:Nat):g (sp r d a) i=if i<d then g a i else if i<d+r.size then g r (i - d) else g a i:=by
 rw [a0u,a6z h]
 have h1:a.toList.length=a.size:=rfl
 have h2:r.toList.length=r.size:=rfl
 have hl:(a.toList.take d).length=d:=by rw [List.length_take];lia
 by_cases c1:i<d
 ·rw [if_pos c1,Aw (by lia),List.getElem?_take,if_pos c1,a0u]
 ·rw [if_neg c1,List.getElem?_append_right (by lia),hl]
  by_cases c2:i<d+r.size
  ·rw [if_pos c2,Aw (by lia),a0u]
  ·rw [if_neg c2,List.getElem?_append_right (by lia),List.getElem?_drop,a0u]
   congr 2;lia
theorem b03{a:Array Keyed}{lo hi i:Nat}(h:hi<=a.size)(hi':lo+i<hi):g (a.extract lo hi) i=g a (lo+i):=by
 rw [a0u,t4,List.getElem?_take,if_pos (by lia),List.getElem?_drop,a0u]
theorem a4N{a:Array Keyed}{lo hi:Nat}(h:hi<=a.size):(a.extract lo hi).size=hi - lo:=by
 rw [Array.size_extract];lia
section
variable {prog:AG}{w:AF}{A:AI}{E:AA->AC->Prop}{s:AC}
variable {κ:SortKind}{S:Keyed->Prop}{R:Keyed->Keyed->Bool}{a₀:Array Keyed}
theorem b2R{σ:Type}{M:Model}{x st:σ}{Q:PUnit->σ->Prop}(h:Q ⟨⟩ x):wpS M A E s (set x:StateT σ Sem PUnit) Q st:=by
 unfold wpS;rw [StateT.run_set];exact AS ⟨rfl,h⟩
theorem b1U(i:Nat):mergeAt' i=(do
 let c<-get
 let (some (p,m,e),some (q,n,_)):=((pendingOf c)[i]?,(pendingOf c)[i+1]?)|unsupported "internal:list.sort.pending"
 set (setPending c (((pendingOf c).setIfInBounds i (p,m+n,e)).eraseIdxIfInBounds (i+1)))
 let some k<-gal false (<-elem' (arrOf c) q) (arrOf c) p m 0|return false
 if m - k==0 then return true
 let some n'<-gal true (<-elem' (arrOf c) (p+k+(m - k) - 1)) (arrOf c) q n (n - 1)|return false
 if n'==0 then return true
 let r<-if m - k<=n' then mLo ((arrOf c).extract (p+k) q) ((arrOf c).extract q (q+n')) else mHi ((arrOf c).extract (p+k) q) ((arrOf c).extract q (q+n'))
 modify fun c=>setArr c (sp r (p+k) (arrOf c))
 return (failedOf (<-get)).isNone):=rfl
theorem b2O(C:K5 prog w A E s κ S R)(hS:∀p∈a₀.toList,S p){st:SortSt}{Q:Bool->SortSt->Prop}(hB:B κ a₀ st){i p m e n e':Nat}(h1:(pendingOf st)[i]?=some (p,m,e))(h2:(pendingOf st)[i+1]?=some (p+m,n,e'))
 (hm:1<=m) (hn:1<=n) (hz:p+m+n<=a₀.size) (sA:X5 R (arrOf st) p (p+m)) (sB:X5 R (arrOf st) (p+m) (p+m+n))
 (h:∀st',B κ a₀ st'->pendingOf st'=((pendingOf st).setIfInBounds i (p,m+n,e)).eraseIdxIfInBounds (i+1)->X5 R (arrOf st') p (p+m+n)->(∀j,(j<p\/p+m+n<=j)->g (arrOf st') j=g (arrOf st) j)->Q true st'):
 wpS (model prog w) A E s (mergeAt' i) Q st:=by
 rw [b1U]
 refine wpS_bind (wpS_get ?_)
 rw [h1,h2]
 dsimp only
 refine wpS_bind (b2R ?_)
 have hsz:=hB.size
 have hB1:B κ a₀ (setPending st (((pendingOf st).setIfInBounds i (p,m+n,e)).eraseIdxIfInBounds (i+1))):=⟨hB.perm,hB.kind,hB.failed⟩
 refine wpS_bind (k4 (by lia) ?_)
 refine wpS_bind (a4n C hB1.kind (by lia) (by lia) (fun l hl=>hB.sg hS (by lia)) (hB.sg hS (by lia)) sA fun k k1 k2 k3=> ?_)
 dsimp only
 by_cases c1:m - k=0
 ·rw [if_pos (by simpa using c1)]
  refine wpS_pure (h _ hB1 rfl (fun x y hx hxy hy=> ?_) fun _ _=>rfl)
  show R (g (arrOf st) y) (g (arrOf st) x)=false
  by_cases d1:y<p+m
  ·exact sA x y hx hxy d1
  by_cases d2:p+m<=x
  ·exact sB x y d2 hxy hy
  have:=k2 (x - p) (by lia)
  rw [show p+(x - p)=x by lia] at this
  exact C.tr _ (g (arrOf st) (p+m)) _ (hB.sg hS (by lia)) (hB.sg hS (by lia)) (hB.sg hS (by lia)) this (sB _ _ (AO _) (by lia) hy)
 rw [if_neg (by simpa using c1)]
 refine wpS_bind (k4 (by lia) ?_)
 rw [show p+k+(m - k) - 1=p+m - 1 by lia]
 refine wpS_bind (a4o C hB1.kind (by lia) (by lia) (fun l hl=>hB.sg hS (by lia)) (hB.sg hS (by lia)) sB fun n' q1 q2 q3=> ?_)
 dsimp only
 by_cases c2:n'=0
 ·rw [if_pos (by simpa using c2)]
  refine wpS_pure (h _ hB1 rfl (fun x y hx hxy hy=> ?_) fun _ _=>rfl)
  show R (g (arrOf st) y) (g (arrOf st) x)=false
  by_cases d1:y<p+m
  ·exact sA x y hx hxy d1
  by_cases d2:p+m<=x
  ·exact sB x y d2 hxy hy
  have:=q3 (y - (p+m)) (by lia) (by lia)
  rw [show p+m+(y - (p+m))=y by lia] at this
  exact C.tr _ (g (arrOf st) (p+m - 1)) _ (hB.sg hS (by lia)) (hB.sg hS (by lia)) (hB.sg hS (by lia)) (sA x _ hx (by lia) (by lia)) this
 rw [if_neg (by simpa using c2)]
 have zx:((arrOf st).extract (p+k) (p+m)).size=m - k:=by rw [a4N (by lia)];lia
 have zy:((arrOf st).extract (p+m) (p+m+n')).size=n':=by rw [a4N (by lia)];lia
 have gx:∀l,l<m - k->g ((arrOf st).extract (p+k) (p+m)) l=g (arrOf st) (p+k+l):=fun l hl=>b03 (by lia) (by lia)
 have gy:∀l,l<n'->g ((arrOf st).extract (p+m) (p+m+n')) l=g (arrOf st) (p+m+l):=fun l hl=>b03 (by lia) (by lia)
 have T:Two S R ((arrOf st).extract (p+k) (p+m)) ((arrOf st).extract (p+m) (p+m+n')):=by
  refine⟨?_, ?_, ?_, ?_,by lia,by lia, ?_, ?_⟩
  ·intro l hl;rw [gx l (by lia)];exact hB.sg hS (by lia)
  ·intro l hl;rw [gy l (by lia)];exact hB.sg hS (by lia)
  ·intro x y _ hxy hy;rw [gx x (by lia),gx y (by lia)];exact sA _ _ (by lia) (by lia) (by lia)
  ·intro x y _ hxy hy;rw [gy x (by lia),gy y (by lia)];exact sB _ _ (by lia) (by lia) (by lia)
  ·intro l hl
   rw [gy 0 (by lia),gx l (by lia),Nat.add_zero]
   have:=k3 (k+l) (by lia) (by lia)
   rw [<-Nat.add_assoc] at this
   exact C.as _ _ (hB.sg hS (by lia)) (hB.sg hS (by lia)) this
  ·intro l hl
   rw [gy l (by lia),gx _ (by lia),zx,show p+k+(m - k - 1)=p+m - 1 by lia]
   exact C.as _ _ (hB.sg hS (by lia)) (hB.sg hS (by lia)) (q2 l (by lia))
 have fin:∀(r:Array Keyed) (st2:SortSt),Sm (setPending st (((pendingOf st).setIfInBounds i (p,m+n,e)).eraseIdxIfInBounds (i+1))) st2->J7 R (((arrOf st).extract (p+k) (p+m)).toList++((arrOf st).extract (p+m) (p+m+n')).toList) r.toList->
  Q (failedOf (setArr st2 (sp r (p+k) (arrOf st2)))).isNone (setArr st2 (sp r (p+k) (arrOf st2))):=by
  intro r st2 m2 gd
  have ea:arrOf st2=arrOf st:=m2.a
  have rz:r.size=m - k+n':=by
   have:=gd.2.length_eq
   rw [Aa] at this
   have h3:r.toList.length=r.size:=rfl
   have h4:((arrOf st).extract (p+k) (p+m)).toList.length=m - k:=zx
   have h5:((arrOf st).extract (p+m) (p+m+n')).toList.length=n':=zy
   lia
  have hd:p+k+r.size<=(arrOf st).size:=by lia
  have ef:failedOf (setArr st2 (sp r (p+k) (arrOf st2)))=none:=m2.f.trans hB.failed
  rw [ef]
  refine h _ ⟨?_,m2.k.trans hB.kind,ef⟩ m2.p ?_ ?_
  ·show(sp r (p+k) (arrOf st2)).Perm a₀
   rw [ea]
   refine Array.Perm.trans ?_ hB.perm
   rw [Array.perm_iff_toList_perm,a6z hd]
   have e1:(arrOf st).toList=(arrOf st).toList.take (p+k)++((((arrOf st).extract (p+k) (p+m)).toList++((arrOf st).extract (p+m) (p+m+n')).toList)++(arrOf st).toList.drop (p+k+r.size)):=by
    have t1:=N9 (a:=arrOf st) (m:=p+k) (n:=p+m) (by lia)
    have t2:=N9 (a:=arrOf st) (m:=p+m) (n:=p+m+n') (by lia)
    rw [rz,show p+k+(m - k+n')=p+m+n' by lia,<-List.append_assoc,<-List.append_assoc,<-t1,<-t2,List.take_append_drop]
   conv=>rhs;rw [e1]
   exact List.Perm.append_left _ (List.Perm.append_right _ gd.2)
  ·have mid:∀l,l<r.size->(∃j,p+k<=j/\j<p+m/\g r l=g (arrOf st) j)\/(∃j,p+m<=j/\j<p+m+n'/\g r l=g (arrOf st) j):=by
    intro l hl
    have:=gd.2.mem_iff.mp (b04 hl)
    rcases Am.mp this with q|q
    ·rw [t4] at q
     obtain⟨j,hj,e⟩:=G1 q (by lia)
     exact .inl ⟨p+k+j,by lia,by lia,e⟩
    ·rw [t4] at q
     obtain⟨j,hj,e⟩:=G1 q (by lia)
     exact .inr ⟨p+m+j,by lia,by lia,e⟩
   have lowq:∀x,p<=x->x<p+k->R (g (arrOf st) (p+m)) (g (arrOf st) x)=false:=fun x a b=>by
    have:=k2 (x - p) (by lia)
    rwa [show p+(x - p)=x by lia] at this
   have highq:∀y,p+m+n'<=y->y<p+m+n->R (g (arrOf st) y) (g (arrOf st) (p+m - 1))=false:=fun y a b=>by
    have:=q3 (y - (p+m)) (by lia) (by lia)
    rwa [show p+m+(y - (p+m))=y by lia] at this
   intro x y hx hxy hy
   show R (g (sp r (p+k) (arrOf st2)) y) (g (sp r (p+k) (arrOf st2)) x)=false
   rw [ea,b1K hd,b1K hd]
   by_cases x1:x<p+k
   ·rw [if_pos x1]
    by_cases y1:y<p+k
    ·rw [if_pos y1];exact sA x y hx hxy (by lia)
    rw [if_neg y1]
    by_cases y2:y<p+k+r.size
    ·rw [if_pos y2]
     rcases mid (y - (p+k)) (by lia) with⟨j,j1,j2,e⟩|⟨j,j1,j2,e⟩
     ·rw [e];exact sA x j hx (by lia) j2
     ·rw [e]
      exact C.tr _ (g (arrOf st) (p+m)) _ (hB.sg hS (by lia)) (hB.sg hS (by lia)) (hB.sg hS (by lia)) (lowq x hx x1) (sB _ _ (AO _) j1 (by lia))
    ·rw [if_neg y2]
     exact C.tr _ (g (arrOf st) (p+m)) _ (hB.sg hS (by lia)) (hB.sg hS (by lia)) (hB.sg hS (by lia)) (lowq x hx x1) (sB _ _ (AO _) (by lia) (by lia))
   rw [if_neg x1,if_neg (show ¬y<p+k by lia)]
   by_cases x2:x<p+k+r.size
   ·rw [if_pos x2]
    by_cases y2:y<p+k+r.size
    ·rw [if_pos y2]
     by_cases xy:x=y
     ·subst xy
      rcases mid (x - (p+k)) (by lia) with⟨j,j1,j2,e⟩|⟨j,j1,j2,e⟩
      ·rw [e];exact C.rfl' (hB.sg hS (by lia))
      ·rw [e];exact C.rfl' (hB.sg hS (by lia))
     ·have hw:=List.pairwise_iff_getElem.mp gd.1 (x - (p+k)) (y - (p+k)) (show x - (p+k)<r.size by lia) (show y - (p+k)<r.size by lia) (by lia)
      have a1:=E9 (a:=r) (i:=x - (p+k)) (by lia)
      have a2:=E9 (a:=r) (i:=y - (p+k)) (by lia)
      rw [Au (show x - (p+k)<r.size by lia)] at a1
      rw [Au (show y - (p+k)<r.size by lia)] at a2
      rw [Option.some.inj a1,Option.some.inj a2] at hw
      exact hw
    ·rw [if_neg y2]
     rcases mid (x - (p+k)) (by lia) with⟨j,j1,j2,e⟩|⟨j,j1,j2,e⟩
     ·rw [e]
      exact C.tr _ (g (arrOf st) (p+m - 1)) _ (hB.sg hS (by lia)) (hB.sg hS (by lia)) (hB.sg hS (by lia)) (sA _ _ (by lia) (by lia) (by lia)) (highq y (by lia) (by lia))
     ·rw [e];exact sB j y j1 (by lia) (by lia)
   ·rw [if_neg x2,if_neg (by lia)]
    exact sB x y (by lia) hxy hy
  ·intro j hj
   show g (sp r (p+k) (arrOf st2)) j=_
   rw [ea,b1K hd]
   split
   ·rfl
   ·rw [if_neg (by lia)]
 have u5:∀(r:Array Keyed) (st2:SortSt),Q (failedOf (setArr st2 (sp r (p+k) (arrOf st2)))).isNone (setArr st2 (sp r (p+k) (arrOf st2)))->
  wpS (model prog w) A E s (modify fun c=>setArr c (sp r (p+k) (arrOf c)):SM PUnit) (fun _ st3=>wpS (model prog w) A E s (get:SM SortSt) (fun c st4=>Q (failedOf c).isNone st4) st3) st2:=fun r st2 hq=>wpS_modify (wpS_get hq)
 split
 ·exact wpS_bind (b2Q C T hB1.kind fun r st2 m2 gd=>wpS_bind (wpS_mono (u5 r st2 (fin r st2 m2 gd)) fun _ _ q=>wpS_bind (wpS_mono q fun _ _ q=>wpS_pure q)))
 ·exact wpS_bind (b2P C T hB1.kind fun r st2 m2 gd=>wpS_bind (wpS_mono (u5 r st2 (fin r st2 m2 gd)) fun _ _ q=>wpS_bind (wpS_mono q fun _ _ q=>wpS_pure q)))
end
def O0(R:Keyed->Keyed->Bool)(a:Array Keyed):List (Nat×Nat×Nat)->Nat->Nat->Prop
 |[],f,t=>f=t
 |(p,n,_)::r,f,t=>p=f/\1<=n/\X5 R a p (p+n)/\O0 R a r (p+n) t
section
variable {R:Keyed->Keyed->Bool}{a b:Array Keyed}
theorem O0.le:∀{l:List (Nat×Nat×Nat)} {f t:Nat},O0 R a l f t->f+l.length<=t
 |[],f,t,h=>by have:f=t:=h;rw [Aj];lia
 |(p,n,e)::r,f,t,h=>by
  obtain⟨h1,h2,_,h4⟩:=h
  have:=h4.le
  rw [AU];lia
theorem O0.same:∀{l:List (Nat×Nat×Nat)} {f t:Nat},O0 R a l f t->(∀j,f<=j->j<t->g b j=g a j)->O0 R b l f t
 |[],f,t,h,_=>h
 |(p,n,e)::r,f,t,h,k=>by
  obtain⟨h1,h2,h3,h4⟩:=h
  have:=h4.le
  refine⟨h1,h2,fun i j hi hij hj=> ?_,h4.same fun j h5 h6=>k j (by lia) h6⟩
  rw [k i (by lia) (by lia),k j (by lia) (by lia)]
  exact h3 i j hi hij hj
theorem O0.split:∀{l m:List (Nat×Nat×Nat)} {f t:Nat},O0 R a (l++m) f t->∃u,O0 R a l f u/\O0 R a m u t
 |[],m,f,t,h=>⟨f,rfl,h⟩
 |(p,n,e)::r,m,f,t,h=>by
  obtain⟨h1,h2,h3,h4⟩:=h
  obtain⟨u,h5,h6⟩:=h4.split
  exact⟨u,⟨h1,h2,h3,h5⟩,h6⟩
theorem O0.join:∀{l m:List (Nat×Nat×Nat)} {f u t:Nat},O0 R a l f u->O0 R a m u t->O0 R a (l++m) f t
 |[],m,f,u,t,h,k=>by have:f=u:=h;subst this;exact k
 |(p,n,e)::r,m,f,u,t,h,k=>⟨h.1,h.2.1,h.2.2.1,h.2.2.2.join k⟩
theorem O0.pow(v:Nat):∀{l:List (Nat×Nat×Nat)} {f t i:Nat},O0 R a l f t->O0 R a (l.modify i fun(x:Nat×Nat×Nat)=>(x.1,x.2.1,v)) f t
 |[],f,t,i,h=>by rw [List.modify_nil];exact h
 |(p,n,e)::r,f,t,0,h=>by rw [List.modify_zero_cons];exact h
 |(p,n,e)::r,f,t,i+1,h=>by rw [List.modify_succ_cons];exact⟨h.1,h.2.1,h.2.2.1,h.2.2.2.pow v⟩
end
theorem a6n{α:Type}:∀{l:List α} {i:Nat},i+1<l.length->∃l1 x y l2,l=l1++x::y::l2/\l1.length=i/\l[i]?=some x/\l[i+1]?=some y
 |x::y::l,0,_=>⟨[],x,y,l,rfl,rfl,rfl,rfl⟩
 |x::l,i+1,h=>by
  obtain⟨l1,u,v,l2,e,e1,e2,e3⟩:=a6n (l:=l) (i:=i) (by rw [AU] at h;lia)
  exact⟨x::l1,u,v,l2,by rw [e];rfl,by rw [AU,e1],by rw [List.getElem?_cons_succ];exact e2,by rw [List.getElem?_cons_succ];exact e3⟩
 |[],_,h=>by simp at h
 |[x],0,h=>by simp at h
theorem a0H{α:Type}(v:α):∀(l1:List α) (x y:α) (l2:List α),((l1++x::y::l2).set l1.length v).eraseIdx (l1.length+1)=l1++v::l2
 |[],x,y,l2=>rfl
 |z::l1,x,y,l2=>by
  show z::((l1++x::y::l2).set l1.length v).eraseIdx (l1.length+1)=_
  rw [a0H v l1 x y l2];rfl
section
variable {prog:AG}{w:AF}{A:AI}{E:AA->AC->Prop}{s:AC}
variable {κ:SortKind}{S:Keyed->Prop}{R:Keyed->Keyed->Bool}{a₀:Array Keyed}
theorem a9z(C:K5 prog w A E s κ S R)(hS:∀p∈a₀.toList,S p){st:SortSt}{Q:Bool->SortSt->Prop}(hB:B κ a₀ st){i lo:Nat}(hc:O0 R (arrOf st) (pendingOf st).toList 0 lo)(hlo:lo<=a₀.size)(hi:i+1<(pendingOf st).size)
 (h:∀st',B κ a₀ st'->O0 R (arrOf st') (pendingOf st').toList 0 lo->(pendingOf st').size+1=(pendingOf st).size->(∀j,lo<=j->g (arrOf st') j=g (arrOf st) j)->Q true st'):
 wpS (model prog w) A E s (mergeAt' i) Q st:=by
 obtain⟨l1,⟨p,m,e⟩,⟨q,n,e'⟩,l2,el,en,e1,e2⟩:=a6n (l:=(pendingOf st).toList) (i:=i) hi
 rw [el] at hc
 obtain⟨u,c1,c2⟩:=hc.split
 obtain⟨rfl,hm,sA,rfl,hn,sB,c3⟩:=c2
 have l3:=c3.le
 rw [Array.getElem?_toList] at e1 e2
 refine b2O C hS hB e1 e2 hm hn (by lia) sA sB fun st' b1 b2 b3 b4=>h st' b1 ?_ ?_ fun j hj=>b4 j (by lia)
 ·rw [b2]
  have:(((pendingOf st).setIfInBounds i (p,m+n,e)).eraseIdxIfInBounds (i+1)).toList=l1++(p,m+n,e)::l2:=by
   rw [Array.toList_eraseIdxIfInBounds,Array.toList_setIfInBounds,el,<-en,a0H]
  rw [this]
  refine O0.join (c1.same fun j _ h2=>b4 j (by lia)) ⟨rfl,by lia, ?_, ?_⟩
  ·rw [<-Nat.add_assoc];exact b3
  ·rw [<-Nat.add_assoc];exact c3.same fun j h1 h2=>b4 j (by lia)
 ·rw [b2]
  have hz:=congrArg List.length el
  rw [Aa,AU,AU,Array.length_toList] at hz
  have:(((pendingOf st).setIfInBounds i (p,m+n,e)).eraseIdxIfInBounds (i+1)).toList.length=l1.length+(l2.length+1):=by
   rw [Array.toList_eraseIdxIfInBounds,Array.toList_setIfInBounds,el,<-en,a0H,Aa,AU]
  rw [Array.length_toList] at this
  lia
theorem b0U(C:K5 prog w A E s κ S R)(hS:∀p∈a₀.toList,S p){st:SortSt}{Q:Unit->SortSt->Prop}(hB:B κ a₀ st)(hp:pendingOf st= #[])
 (h:∀st',B κ a₀ st'->X5 R (arrOf st') 0 a₀.size->Q () st'):wpS (model prog w) A E s sortRuns' Q st:=by
 rw [sortRuns'_eq]
 refine wpS_bind (wpS_get ?_)
 dsimp only
 rw [hB.size]
 refine wpS_bind (wpS_mono (wpS_forRange
  (I:=fun x c st'=>∃lo,c=(none,lo)/\lo<=a₀.size/\min x a₀.size<=lo/\B κ a₀ st'/\O0 R (arrOf st') (pendingOf st').toList 0 lo)
  (Q:=fun c st'=>c=(none,a₀.size)/\B κ a₀ st'/\O0 R (arrOf st') (pendingOf st').toList 0 a₀.size) ?_ ?_ ⟨0,rfl,by lia,by lia,hB,by rw [hp];exact(rfl:(0:Nat)=0)⟩) ?_)
 ·rintro x c st' _ hx ⟨lo,rfl,hlo,hxl,hB',hc⟩
  dsimp only
  by_cases hge:lo>=a₀.size
  ·rw [if_pos hge]
   have:lo=a₀.size:=by lia
   subst this
   exact wpS_pure ⟨rfl,hB',hc⟩
  rw [if_neg hge]
  refine wpS_bind (b2H C hS hB' (by lia) (by lia) fun m st2 hB2 hp2 hf2 hm1 hm2 hs2=> ?_)
  have hc2:O0 R (arrOf st2) (pendingOf st2).toList 0 lo:=by rw [hp2];exact hc.same fun j _ hj=>hf2 j hj
  dsimp only
  by_cases hlt:m<minRun' a₀.size a₀.size 0
  ·rw [if_pos hlt]
   generalize hN:min (a₀.size - lo) (minRun' a₀.size a₀.size 0)=N
   have n1:1<=N:=by lia
   have n2:lo+N<=a₀.size:=by lia
   refine wpS_bind (wpS_lift (wpAny_rule ⟨rfl, ?_⟩))
   refine wpS_bind (b2G C hS hB2 n2 (by lia) n1 hs2 fun st3 b3 p3 f3 s3=> ?_)
   simp only [Bool.not_true,An,if_false]
   have c3:O0 R (arrOf st3) (pendingOf st3).toList 0 lo:=by rw [p3];exact hc2.same fun j _ hj=>f3 j hj
   refine wpS_bind (wpS_get ?_)
   have push:∀st4:SortSt,B κ a₀ st4->O0 R (arrOf st4) (pendingOf st4).toList 0 lo->X5 R (arrOf st4) lo (lo+N)->
    ∃lo',((none,lo+N):Option PUnit×Nat)=(none,lo')/\lo'<=a₀.size/\min (x+1) a₀.size<=lo'/\B κ a₀ (setPending st4 ((pendingOf st4).push (lo,N,0)))/\
     O0 R (arrOf (setPending st4 ((pendingOf st4).push (lo,N,0)))) (pendingOf (setPending st4 ((pendingOf st4).push (lo,N,0)))).toList 0 lo':=by
    intro st4 b1 b2 b3
    refine⟨lo+N,rfl,n2,by lia,⟨b1.perm,b1.kind,b1.failed⟩, ?_⟩
    show O0 R (arrOf st4) ((pendingOf st4).push (lo,N,0)).toList 0 (lo+N)
    rw [Array.toList_push]
    exact b2.join ⟨rfl,n1,b3,rfl⟩
   cases hb:(pendingOf st3).back? with
   |none=>
    dsimp only
    exact wpS_bind (wpS_modify (wpS_pure (push st3 b3 c3 s3)))
   |some t3=>
    obtain⟨s1,r1,w1⟩:=t3
    dsimp only
    refine wpS_bind (wpS_mono (wpS_forRange (I:=fun _ c st4=>c=(none,())/\B κ a₀ st4/\O0 R (arrOf st4) (pendingOf st4).toList 0 lo/\X5 R (arrOf st4) lo (lo+N))
     (Q:=fun c st4=>c=(none,())/\B κ a₀ st4/\O0 R (arrOf st4) (pendingOf st4).toList 0 lo/\X5 R (arrOf st4) lo (lo+N)) ?_ (fun _ _ q=>q) ⟨rfl,b3,c3,s3⟩) ?_)
    ·rintro y c st4 _ _ ⟨rfl,b4,c4,s4⟩
     refine wpS_bind (wpS_get ?_)
     by_cases hz:(pendingOf st4).size>1
     ·rw [if_pos hz]
      obtain⟨⟨u1,u2,u3⟩,hu⟩:∃t,(pendingOf st4)[(pendingOf st4).size - 2]?=some t:=⟨_,getElem?_pos (pendingOf st4) _ (by lia)⟩
      rw [hu]
      dsimp only
      split
      ·exact wpS_pure ⟨rfl,b4,c4,s4⟩
      ·refine wpS_bind (a9z C hS b4 c4 hlo (by lia) fun st5 b5 c5 z5 f5=> ?_)
       simp only [Bool.not_true,An,if_false]
       exact wpS_pure ⟨rfl,b5,c5,fun i j h1 h2 h3=>by rw [f5 i h1,f5 j (by lia)];exact s4 i j h1 h2 h3⟩
     ·rw [if_neg hz]
      exact wpS_pure ⟨rfl,b4,c4,s4⟩
    ·rintro c st4 ⟨rfl,b4,c4,s4⟩
     dsimp only
     refine wpS_bind (wpS_modify (wpS_bind (wpS_modify (wpS_pure (push (setPending st4 _) ⟨b4.perm,b4.kind,b4.failed⟩ ?_ s4)))))
     show O0 R (arrOf st4) ((pendingOf st4).modify _ _).toList 0 lo
     rw [Array.toList_modify]
     exact c4.pow _
  ·rw [if_neg hlt]
   generalize hN:m=N at*
   have n1:1<=N:=by lia
   have n2:lo+N<=a₀.size:=by lia
   have b3:=hB2
   have c3:=hc2
   have s3:=hs2
   refine wpS_bind (wpS_get ?_)
   have push:∀st4:SortSt,B κ a₀ st4->O0 R (arrOf st4) (pendingOf st4).toList 0 lo->X5 R (arrOf st4) lo (lo+N)->
    ∃lo',((none,lo+N):Option PUnit×Nat)=(none,lo')/\lo'<=a₀.size/\min (x+1) a₀.size<=lo'/\B κ a₀ (setPending st4 ((pendingOf st4).push (lo,N,0)))/\
     O0 R (arrOf (setPending st4 ((pendingOf st4).push (lo,N,0)))) (pendingOf (setPending st4 ((pendingOf st4).push (lo,N,0)))).toList 0 lo':=by
    intro st4 b1 b2 b3
    refine⟨lo+N,rfl,n2,by lia,⟨b1.perm,b1.kind,b1.failed⟩, ?_⟩
    show O0 R (arrOf st4) ((pendingOf st4).push (lo,N,0)).toList 0 (lo+N)
    rw [Array.toList_push]
    exact b2.join ⟨rfl,n1,b3,rfl⟩
   cases hb:(pendingOf st2).back? with
   |none=>
    dsimp only
    exact wpS_bind (wpS_modify (wpS_pure (push st2 b3 c3 s3)))
   |some t3=>
    obtain⟨s1,r1,w1⟩:=t3
    dsimp only
    refine wpS_bind (wpS_mono (wpS_forRange (I:=fun _ c st4=>c=(none,())/\B κ a₀ st4/\O0 R (arrOf st4) (pendingOf st4).toList 0 lo/\X5 R (arrOf st4) lo (lo+N))
     (Q:=fun c st4=>c=(none,())/\B κ a₀ st4/\O0 R (arrOf st4) (pendingOf st4).toList 0 lo/\X5 R (arrOf st4) lo (lo+N)) ?_ (fun _ _ q=>q) ⟨rfl,b3,c3,s3⟩) ?_)
    ·rintro y c st4 _ _ ⟨rfl,b4,c4,s4⟩
     refine wpS_bind (wpS_get ?_)
     by_cases hz:(pendingOf st4).size>1
     ·rw [if_pos hz]
      obtain⟨⟨u1,u2,u3⟩,hu⟩:∃t,(pendingOf st4)[(pendingOf st4).size - 2]?=some t:=⟨_,getElem?_pos (pendingOf st4) _ (by lia)⟩
      rw [hu]
      dsimp only
      split
      ·exact wpS_pure ⟨rfl,b4,c4,s4⟩
      ·refine wpS_bind (a9z C hS b4 c4 hlo (by lia) fun st5 b5 c5 z5 f5=> ?_)
       simp only [Bool.not_true,An,if_false]
       exact wpS_pure ⟨rfl,b5,c5,fun i j h1 h2 h3=>by rw [f5 i h1,f5 j (by lia)];exact s4 i j h1 h2 h3⟩
     ·rw [if_neg hz]
      exact wpS_pure ⟨rfl,b4,c4,s4⟩
    ·rintro c st4 ⟨rfl,b4,c4,s4⟩
     dsimp only
     refine wpS_bind (wpS_modify (wpS_bind (wpS_modify (wpS_pure (push (setPending st4 _) ⟨b4.perm,b4.kind,b4.failed⟩ ?_ s4)))))
     show O0 R (arrOf st4) ((pendingOf st4).modify _ _).toList 0 lo
     rw [Array.toList_modify]
     exact c4.pow _
 ·rintro c st' ⟨lo,rfl,hlo,hxl,hB',hc⟩
  have:lo=a₀.size:=by lia
  subst this
  exact⟨rfl,hB',hc⟩
 ·rintro c st' ⟨rfl,hB',hc⟩
  dsimp only
  have len:=hc.le
  rw [Array.length_toList] at len
  refine wpS_bind (wpS_mono (wpS_forRange (I:=fun x c st4=>c=(none,())/\B κ a₀ st4/\O0 R (arrOf st4) (pendingOf st4).toList 0 a₀.size/\(pendingOf st4).size<=max 1 (a₀.size - x))
   (Q:=fun c st4=>c=(none,())/\B κ a₀ st4/\O0 R (arrOf st4) (pendingOf st4).toList 0 a₀.size/\(pendingOf st4).size<=1) ?_ ?_ ⟨rfl,hB',hc,by lia⟩) ?_)
  ·rintro x c st4 _ hx ⟨rfl,b4,c4,z4⟩
   refine wpS_bind (wpS_get ?_)
   by_cases hz:(pendingOf st4).size<=1
   ·rw [if_pos hz]
    exact wpS_pure ⟨rfl,b4,c4,hz⟩
   ·rw [if_neg hz]
    refine wpS_bind (a9z C hS b4 c4 (AO _) ?_ fun st5 b5 c5 z5 f5=> ?_)
    ·repeat' split
     all_goals lia
    simp only [Bool.not_true,An,if_false]
    exact wpS_pure ⟨rfl,b5,c5,by lia⟩
  ·rintro c st4 ⟨rfl,b4,c4,z4⟩
   exact⟨rfl,b4,c4,by lia⟩
  ·rintro c st4 ⟨rfl,b4,c4,z4⟩
   refine wpS_pure (h st4 b4 ?_)
   match hl:(pendingOf st4).toList,c4,(show(pendingOf st4).toList.length<=1 from z4) with
   |[],c4,_=>
    have:0=a₀.size:=c4
    intro i j _ _ hj;lia
   |[(p,n,e)],c4,_=>
    obtain⟨rfl,_,sg,e1⟩:=c4
    have:0+n=a₀.size:=e1
    rw [<-this];exact sg
   |_::_::_,_,z=>simp at z
end
open PySem PySem.Spec PyProof.Rows
section
variable {prog:AG}{w:AF}{A:AI}{E:AA->AC->Prop}{s:AC}
variable {κ:SortKind}{S:Keyed->Prop}{R:Keyed->Keyed->Bool}
def tw(v:AA):Keyed:=(v,v)
theorem a48(vs:List AA):(pairsOf vs).toList=vs.map tw:=by
 rw [pairsOf_toList]
 induction vs with
 |nil=>rfl
 |cons v r ih=>rw [List.zip_cons_cons,ih];rfl
theorem a8O{vs:List AA}{a:Array Keyed}(hp:a.Perm (pairsOf vs))(hs:X5 R a 0 (pairsOf vs).size):
 ((a.map (·.2)).toList).Perm vs/\((a.map (·.2)).toList).Pairwise fun u v=>R (tw v) (tw u)=false:=by
 have hl:=Array.perm_iff_toList_perm.mp hp
 rw [a48] at hl
 have e:a.toList=(a.map (·.2)).toList.map tw:=by
  rw [Array.toList_map,BC]
  have:∀p∈a.toList,(tw∘fun p:Keyed=>p.2) p=p:=fun p hm=>by
   obtain⟨v,_,rfl⟩:=Ag.mp (hl.mem_iff.mp hm)
   rfl
  rw [List.map_congr_left this,List.map_id']
 refine⟨?_, ?_⟩
 ·have:=hl.map (fun p:Keyed=>p.2)
  rw [BC] at this
  have e2:vs.map ((fun p:Keyed=>p.2)∘tw)=vs:=by
   have:((fun p:Keyed=>p.2)∘tw)=id:=rfl
   rw [this,List.map_id]
  rw [e2] at this
  rw [Array.toList_map];exact this
 ·have hw:a.toList.Pairwise fun x y=>R y x=false:=by
   rw [List.pairwise_iff_getElem]
   intro i j hi hj hij
   have h1:=E9 (a:=a) hi
   have h2:=E9 (a:=a) hj
   rw [Au hi] at h1
   rw [Au hj] at h2
   rw [Option.some.inj h1,Option.some.inj h2]
   have:a.toList.length=a.size:=rfl
   exact hs i j (Nat.zero_le _) (by lia) (by rw [<-hp.size_eq];lia)
  rw [e,List.pairwise_map] at hw
  exact hw
theorem a2Q{a:AB}{vs:List AA}{n:Nat}{P:PySem.Fin->AC->Prop}(ho:s.heap.get? a=some (seqObj "list" vs.toArray n))(hz:vs.length<=16777216)
 (hC:2<=vs.length->∀h',(∀b o,b≠a->s.heap.get? b=some o->h'.get? b=some o)->
  (∀Q:SortKind->AC->Prop,Q κ {s with heap:=h'}->AH (model prog w) A (keyKind' vs.toArray) Q E {s with heap:=h'})/\K5 prog w A E {s with heap:=h'} κ S R)
 (hS:∀v∈vs,S (tw v))
 (h:∀out:Array AA,out.toList.Perm vs->(out.toList.Pairwise fun u v=>R (tw v) (tw u)=false)->P (.done (.ret .none)) {s with heap:=sortedHeap s.heap a vs out}):
 AH (model prog w) A (Builtin.«list.sort» ⟨[.ref a],[]⟩) P E s:=by
 have hb:vs.toArray.size<=AL:=by rw [AY,sizeLine_eq];exact hz
 have ha:a<s.heap.objs.size:=AV ho
 rw [list_sort_plain]
 refine AK (listItems_at ho rfl (AK (listUpdate_at ho rfl ?_ hb (Nat.zero_le _))))
 obtain⟨e1,q1⟩:∃e1,(s.heap.update a (Obj.mapSeq fun _=> #[])).get? a=some (seqObj "list" #[] e1):=⟨_,get?_update_seq ho (fun _=> #[])⟩
 refine AK (seqEpoch_at q1 rfl (AK (wpAny_newTuple (AK (wpAny_newList (wpAny_holding ?_) (Nat.zero_le _))) (by show vs.length<=_;rw [sizeLine_eq];exact hz))))
 have q6:(((s.heap.update a (Obj.mapSeq fun _=> #[])).push (seqObj "tuple" vs.toArray 0)).push (seqObj "list" #[] 0)).get? a=some (seqObj "list" #[] e1):=
  Ab _ (Ab _ q1)
 have keep:∀b o,b≠a->s.heap.get? b=some o->(((s.heap.update a (Obj.mapSeq fun _=> #[])).push (seqObj "tuple" vs.toArray 0)).push (seqObj "list" #[] 0)).get? b=some o:=fun b o hb e=>
  Ab _ (Ab _ (by rw [Heap.get?_update_ne _ _ _ _ hb];exact e))
 show AH (model prog w) A _ P E {s with heap:=((s.heap.update a (Obj.mapSeq fun _=> #[])).push (seqObj "tuple" vs.toArray 0)).push (seqObj "list" #[] 0)}
 dsimp only
 by_cases h2:vs.toArray.size<2
 ·rw [if_pos h2,if_pos h2]
  have h2':vs.length<2:=by rwa [AY] at h2
  refine AK (AS ?_)
  rw [StateT.run_pure]
  refine AK (AS ?_)
  dsimp only
  refine AK (seqEpoch_at q6 rfl (AK (listUpdate_at q6 rfl ?_ (hsz2:= ?_))))
  ·simp only [bne_self_eq_false,An,if_false]
   have ob:=a8O (R:=fun _ _=>false) (vs:=vs) (a:=pairsOf vs) (Array.Perm.refl _) (fun i j _ hij hj=>rfl)
   refine AS (h _ ob.1 ?_)
   have hl:=ob.1.length_eq
   match(Array.map (fun p:Keyed=>p.2) (pairsOf vs)).toList,hl with
   |[],_=>exact List.Pairwise.nil
   |[u],_=>exact List.pairwise_singleton _ _
   |_::_::_,hl=>simp at hl;lia
  ·rw [Array.size_map]
   show(pairsOf vs).size<=_
   rw [pairsOf_size,sizeLine_eq];lia
 ·rw [if_neg h2,if_neg h2]
  obtain⟨k1,k2⟩:=hC (by rw [AY] at h2;lia) _ keep
  refine AK (k1 _ ?_)
  have hS':∀p∈(pairsOf vs).toList,S p:=fun p hp=>by
   rw [a48] at hp
   obtain⟨v,hv,rfl⟩:=Ag.mp hp
   exact hS v hv
  refine AK (wpAny_mono (b0U (a₀:=pairsOf vs) k2 hS' (st:=SortSt.mk' κ (vs.toArray.zip vs.toArray) #[] 7 none) (Q:=fun _ st'=>B κ (pairsOf vs) st'/\X5 R (arrOf st') 0 (pairsOf vs).size) ⟨Array.Perm.refl _,rfl,rfl⟩ rfl fun st' b1 b2=>⟨b1,b2⟩) ?_ fun _ _ e=>e)
  rintro⟨⟨⟩,st'⟩ s' ⟨rfl,b1,b2⟩
  dsimp only
  refine AK (seqEpoch_at q6 rfl (AK (listUpdate_at q6 rfl ?_ (hsz2:= ?_))))
  ·rw [b1.failed]
   simp only [bne_self_eq_false,An,if_false]
   have ob:=a8O b1.perm b2
   exact AS (h _ ob.1 ob.2)
  ·refine Nat.le_trans (Nat.le_of_eq ((Array.size_map ..).trans (b1.perm.size_eq.trans (pairsOf_size _)))) ?_
   rw [sizeLine_eq];lia
end
open PySem PySem.Spec PyProof.Rows L2 PU
section
variable {prog:AG}{w:AF}{A:AI}{E:AA->AC->Prop}{s:AC}
variable {κ:SortKind}{S:Keyed->Prop}{R:Keyed->Keyed->Bool}
end
end TS
namespace PU
open PySem PySem.Spec PyProof.Rows L2
def a6U{α:Type}(lt:α->α->Bool)(x:α):List α->List α
 |[]=>[x]
 |y::r=>if lt y x then y::a6U lt x r else x::y::r
def O6{α:Type}(lt:α->α->Bool):List α->List α
 |[]=>[]
 |x::r=>a6U lt x (O6 lt r)
structure a6F{α:Type}(lt:α->α->Bool):Prop where
 tr:∀a b c,lt b a=false->lt c b=false->lt c a=false
 as:∀a b,lt a b=true->lt b a=false
 an:∀a b,lt a b=false->lt b a=false->a=b
section
variable {α:Type}{lt:α->α->Bool}
theorem a0w(x:α):∀l:List α,(a6U lt x l).Perm (x::l)
 |[]=>List.Perm.refl _
 |y::r=>by
  unfold a6U
  split
  ·exact((a0w x r).cons y).trans (List.Perm.swap x y r)
  ·exact List.Perm.refl _
theorem N8:∀l:List α,(O6 lt l).Perm l
 |[]=>List.Perm.refl _
 |x::r=>(a0w x (O6 lt r)).trans ((N8 r).cons x)
theorem a0V(L:a6F lt)(x:α):∀{l:List α},(l.Pairwise fun a b=>lt b a=false)->(a6U lt x l).Pairwise fun a b=>lt b a=false
 |[],_=>List.pairwise_singleton _ _
 |y::r,h=>by
  unfold a6U
  have h':=List.pairwise_cons.mp h
  split
  ·rename_i c
   refine List.pairwise_cons.mpr ⟨fun z hz=> ?_,a0V L x h'.2⟩
   rcases Ai.mp ((a0w x r).mem_iff.mp hz) with e|e
   ·subst e;exact L.as _ _ c
   ·exact h'.1 z e
  ·rename_i c
   have c':lt y x=false:=eq_false_of_ne_true c
   refine List.pairwise_cons.mpr ⟨fun z hz=> ?_,h⟩
   rcases Ai.mp hz with e|e
   ·subst e;exact c'
   ·exact L.tr _ _ _ c' (h'.1 z e)
theorem D9(L:a6F lt):∀l:List α,(O6 lt l).Pairwise fun a b=>lt b a=false
 |[]=>List.Pairwise.nil
 |x::r=>a0V L x (D9 L r)
theorem a2G(L:a6F lt):∀{l m:List α},(l.Pairwise fun a b=>lt b a=false)->(m.Pairwise fun a b=>lt b a=false)->l.Perm m->l=m
 |[],m,_,_,p=>(List.Perm.nil_eq p)
 |a::l,[],_,_,p=>by have:=p.length_eq;simp at this
 |a::l,b::m,hl,hm,p=>by
  have hl':=List.pairwise_cons.mp hl
  have hm':=List.pairwise_cons.mp hm
  have e:a=b:=by
   have m1:a∈b::m:=p.mem_iff.mp Ah
   have m2:b∈a::l:=p.mem_iff.mpr Ah
   rcases Ai.mp m1 with e|e
   ·exact e
   ·rcases Ai.mp m2 with g|g
    ·exact g.symm
    ·exact L.an _ _ (hm'.1 a e) (hl'.1 b g)
  subst e
  rw [a2G L hl'.2 hm'.2 (List.Perm.cons_inv p)]
theorem a5g(L:a6F lt){l m:List α}(h:l.Pairwise fun a b=>lt b a=false)(p:l.Perm m):O6 lt m=l:=
 a2G L (D9 L m) h ((N8 m).trans p.symm)
end
def a3f:c9->c9->Bool
 | .inl a,.inl b=>decide (a<b)
 | .inr a,.inr b=>decide (a.cps.toList<b.cps.toList)
 | .inl _,.inr _=>true
 | .inr _,.inl _=>false
def D7:List c9->List c9->Bool
 |[],[]=>false
 |[],_::_=>true
 |_::_,[]=>false
 |a::r,b::t=>if a=b then D7 r t else a3f a b
theorem a1k:a6F a3f where
 tr:=by
  intro a b c h1 h2
  cases a<;>cases b<;>cases c<;>simp only [a3f,decide_eq_false_iff_not,reduceCtorEq] at h1 h2 ⊢
  ·lia
  ·exact a63 (a:=_) (b:=_) (c:=_) h1 h2
 as:=by
  intro a b h
  cases a<;>cases b<;>simp only [a3f,decide_eq_false_iff_not,decide_eq_true_eq,reduceCtorEq] at h ⊢
  ·lia
  ·exact List.lt_asymm h
 an:=by
  intro a b h1 h2
  cases a<;>cases b<;>simp only [a3f,decide_eq_false_iff_not,reduceCtorEq] at h1 h2
  ·congr 1;lia
  ·congr 1;exact a8s h2 h1
theorem L7:a6F D7 where
 tr:=by
  intro a
  induction a with
  |nil=>intro b c _ h2;cases c<;>rfl
  |cons x a ih=>
   intro b c h1 h2
   cases b with
   |nil=>simp [D7] at h1
   |cons y b=>
    cases c with
    |nil=>simp [D7] at h2
    |cons z c=>
     unfold D7 at h1 h2 ⊢
     by_cases e1:y=x
     ·subst e1
      rw [if_pos rfl] at h1
      by_cases e2:z=y
      ·subst e2
       rw [if_pos rfl] at h2 ⊢
       exact ih b c h1 h2
      ·rw [if_neg e2] at h2 ⊢;exact h2
     ·rw [if_neg e1] at h1
      by_cases e2:z=y
      ·subst e2
       rw [if_neg e1];exact h1
      ·rw [if_neg e2] at h2
       by_cases e3:z=x
       ·subst e3
        exact absurd (a1k.an _ _ h1 h2) e1
       ·rw [if_neg e3];exact a1k.tr _ _ _ h1 h2
 as:=by
  intro a
  induction a with
  |nil=>intro b h;cases b<;>first|rfl|(simp [D7] at h)
  |cons x a ih=>
   intro b h
   cases b with
   |nil=>simp [D7] at h
   |cons y b=>
    unfold D7 at h ⊢
    by_cases e:x=y
    ·subst e;rw [if_pos rfl] at h ⊢;exact ih b h
    ·rw [if_neg e] at h;rw [if_neg (Ne.symm e)];exact a1k.as _ _ h
 an:=by
  intro a
  induction a with
  |nil=>intro b h1 h2;cases b<;>first|rfl|(simp [D7] at h1)
  |cons x a ih=>
   intro b h1 h2
   cases b with
   |nil=>simp [D7] at h2
   |cons y b=>
    unfold D7 at h1 h2
    by_cases e:x=y
    ·subst e;rw [if_pos rfl] at h1 h2;rw [ih b h1 h2]
    ·rw [if_neg e] at h1;rw [if_neg (Ne.symm e)] at h2;exact absurd (a1k.an _ _ h1 h2) e
def kT(k:List c9):PV:= .tuple (k.map kP)
def sgK:c9->Bool
 | .inl _=>false
 | .inr _=>true
def okK:List (List c9)->Bool
 |[]=>true
 |k::r=> !k.isEmpty && r.all fun j=>j.map sgK==k.map sgK
open PySem PySem.Spec PyProof.Rows L2 PySem.W
theorem a5M:∀{a b:c9},kV a=kV b->a=b
 | .inl _,.inl _,h=>by cases h;rfl
 | .inr _,.inr _,h=>by cases h;rfl
 | .inl _,.inr _,h=>nomatch h
 | .inr _,.inl _,h=>nomatch h
theorem a1i:∀{a b:List c9},a.map kV=b.map kV->a=b
 |[],[],_=>rfl
 |[],_::_,h=>nomatch h
 |_::_,[],h=>nomatch h
 |x::a,y::b,h=>by
  rw [AM,AM] at h
  obtain⟨h1,h2⟩:=List.cons.inj h
  rw [a5M h1,a1i h2]
def G9(h:Heap)(u:AA)(k:List c9):Prop:=∃(a:AB) (o:Obj) (xs:Array AA) (n:Nat),u= .ref a/\h.get? a=some o/\o.cls= .type "tuple"/\o.data= .seq xs n/\g6 (k.map kV) xs.toList
theorem G9.inj{h:Heap}{u:AA}{k j:List c9}(a:G9 h u k)(b:G9 h u j):k=j:=by
 obtain⟨a1,o1,x1,n1,rfl,g1,_,d1,v1⟩:=a
 obtain⟨a2,o2,x2,n2,e2,g2,_,d2,v2⟩:=b
 cases e2
 rw [g1] at g2;cases g2
 rw [d1] at d2;cases d2
 exact a1i (v1.inj v2)
theorem G9.keep{h h':Heap}{u:AA}{k:List c9}(a:G9 h u k)(kp:∀b o,h.get? b=some o->h'.get? b=some o):G9 h' u k:=
 let ⟨a1,o1,x1,n1,e,g1,c,d1,v1⟩:=a;⟨a1,o1,x1,n1,e,kp _ _ g1,c,d1,v1⟩
open Classical in
def kOf(h:Heap)(u:AA):List c9:=if e:∃k,G9 h u k then e.choose else []
theorem a3T{h:Heap}{u:AA}{k:List c9}(a:G9 h u k):kOf h u=k:=by
 have e:∃k,G9 h u k:=⟨k,a⟩
 unfold kOf
 rw [dif_pos e]
 exact e.choose_spec.inj a
section
variable {prog:AG}{w:AF}{A:AI}{E:AA->AC->Prop}{s:AC}
theorem a8n{a c:c9}{u v:AA}(hu:i6 (kV a) u)(hv:i6 (kV c) v)(hg:sgK a=sgK c):SeqAt.EqAt A s u v (decide (a=c)):=by
 cases a<;>cases c<;>first|(cases hg;done)|skip
 ·obtain⟨t,rfl⟩:=hu
  obtain⟨t',rfl⟩:=hv
  rename_i i j
  have:(decide ((Sum.inl i:c9)=Sum.inl j))=(i==j):=a8o i j
  rw [this]
  exact SeqAt.EqAt.int_int _ _ _ _
 ·obtain⟨t,rfl⟩:=hu
  obtain⟨t',rfl⟩:=hv
  rename_i i j
  rw [a8p i j]
  have:=SeqAt.EqAt.str_str (A:=A) (s:=s) i t j t'
  have e:(i==j)=decide (i=j):=by by_cases h:i=j<;>simp [h]
  rw [e] at this
  exact this
theorem a61{a c:c9}{u v:AA}{Q:Bool->AC->Prop}(f:Bool)(hu:i6 (kV a) u)(hv:i6 (kV c) v)(hg:sgK a=sgK c)(h:Q (a3f a c) s):AH (model prog w) A (oneLt' f u v) Q E s:=by
 cases a<;>cases c<;>first|(cases hg;done)|skip
 ·obtain⟨t,rfl⟩:=hu
  obtain⟨t',rfl⟩:=hv
  cases f
  ·exact kat_one _ _ (V6.ints _ _ t t' prog w E _ h)
  ·exact oneLt_int h
 ·obtain⟨t,rfl⟩:=hu
  obtain⟨t',rfl⟩:=hv
  cases f
  ·exact kat_one _ _ (V6.strs _ _ t t' prog w E _ h)
  ·rw [<-keyLt'_oneType];exact kas_lt_str h
theorem a0W{b:Bool}{Q:Bool->AC->Prop}:∀(ks js:List c9) (us ws:List AA) (i:Nat),g6 (ks.map kV) us->g6 (js.map kV) ws->ks.map sgK=js.map sgK->Q (D7 ks js) s->KatLex prog w A b false Q (us.zip ws) i s
 |[],[],us,ws,i,h1,h2,_,h=>by
  cases h1;cases h2
  exact kat_nil h
 |[],_::_,_,_,_,_,_,e,_=>nomatch e
 |_::_,[],_,_,_,_,_,e,_=>nomatch e
 |a::ks,c::js,us,ws,i,h1,h2,e,h=>by
  rw [AM] at h1 h2
  cases h1 with
  |cons r1 h1=>
   cases h2 with
   |cons r2 h2=>
    rw [AM,AM] at e
    obtain⟨e1,e2⟩:=List.cons.inj e
    rw [List.zip_cons_cons]
    refine kat_cons (a8n r1 r2 e1 prog w _ _ ?_)
    unfold D7 at h
    by_cases hac:a=c
    ·rw [if_pos hac] at h
     rw [decide_eq_true hac]
     exact kat_yes (a0W ks js _ _ (i+1) h1 h2 e2 h)
    ·rw [if_neg hac] at h
     rw [decide_eq_false hac]
     exact kat_no (a61 _ r1 r2 e1 h)
theorem a9n{h₀:Heap}{σk:List Bool}{b:Bool}(kp:∀b o,h₀.get? b=some o->s.heap.get? b=some o):
 TS.K5 prog w A E s (tuples' b) (fun x=>∃k,G9 h₀ x.1 k/\k.map sgK=σk) (fun x y=>D7 (kOf h₀ x.1) (kOf h₀ y.1)) where
 lt:=by
  rintro⟨x,x'⟩ ⟨y,y'⟩ ⟨k,hk,gk⟩ ⟨j,hj,gj⟩ st Q hκ h
  dsimp only at*
  rw [a3T hk,a3T hj] at h
  rw [lt'_eq]
  refine wpS_bind (wpS_get ?_)
  rw [hκ]
  refine wpS_bind (wpS_lift (wpAny_attempt ?_))
  obtain⟨a1,o1,x1,n1,rfl,g1,c1,d1,v1⟩:=hk
  obtain⟨a2,o2,x2,n2,rfl,g2,c2,d2,v2⟩:=hj
  have z1:k.length=x1.size:=by have:=v1.length;rwa [AR,Array.length_toList] at this
  have z2:j.length=x2.size:=by have:=v2.length;rwa [AR,Array.length_toList] at this
  have zk:k.length=j.length:=by have:=congrArg List.length (gk.trans gj.symm);rwa [AR,AR] at this
  refine kat_lt (kp _ _ g1) d1 (kp _ _ g2) d2 ?_
  have:decide (x1.size<x2.size)=false:=decide_eq_false (by rw [<-z1,<-z2,zk];exact Nat.lt_irrefl _)
  rw [this]
  exact a0W k j _ _ 0 v1 v2 (gk.trans gj.symm) ⟨rfl,wpS_pure h⟩
 tr:=fun x y z _ _ _=>L7.tr _ _ _
 as:=fun x y _ _=>L7.as _ _
end
theorem a2o{α β:Type}{R:α->β->Prop}:∀{l:List α} {m:List β},Paired R l m->∀x∈l,∃y∈m,R x y
 |_,_,.cons r t,x,h=>by
  rcases Ai.mp h with rfl|h
  ·exact⟨_,Ah,r⟩
  ·obtain⟨y,hy,q⟩:=a2o t x h
   exact⟨y,Ac _ hy,q⟩
theorem W7{h:Heap}:∀{vs:List AA} {ks:List (List c9)},Paired (G9 h) vs ks->vs.map (kOf h)=ks
 |_,_,.nil=>rfl
 |_,_,.cons r t=>by rw [AM,a3T r,W7 t]
section
variable {prog:AG}{w:AF}{A:AI}{E:AA->AC->Prop}{s:AC}
theorem a07{c:Bool}{σk:List Bool}{h:Heap}:∀{vs:List AA} {ks:List (List c9)},Paired (G9 h) vs ks->(∀k∈ks,k.map sgK=c::σk)->
 ∃fs:List AA,KatTups h vs fs/\fs.length=vs.length/\∀v∈fs,Looks (model prog w) h (typeOf v) (if c then Value.type "str" else Value.type "int")
 |_,_,.nil,_=>⟨[],.nil,rfl,fun v hv=>nomatch hv⟩
 |_,_,.cons r t,hs=>by
  rename_i v k vs ks
  obtain⟨fs,f1,f2,f3⟩:=a07 t fun k hk=>hs k (Ac _ hk)
  have e:=hs k Ah
  obtain⟨a1,o1,x1,n1,rfl,g1,c1,d1,v1⟩:=r
  cases k with
  |nil=>cases e
  |cons q k=>
   rw [AM] at e v1
   have e1:=(List.cons.inj e).1
   generalize hx:x1.toList=xl at v1
   cases v1 with
   |cons r1 v1=>
    rename_i u us
    have h0:x1[0]?=some u:=by rw [<-Array.getElem?_toList,hx];rfl
    refine⟨u::fs,.cons g1 c1 d1 h0 f1,by rw [AU,AU,f2],fun v hv=> ?_⟩
    rcases Ai.mp hv with rfl|hv
    ·cases q with
     |inl i=>
      obtain⟨t',rfl⟩:=r1
      have:c=false:=e1.symm
      subst this
      exact(.now:Looks (model prog w) h (pure (Value.type "int")) (Value.type "int"))
     |inr x=>
      obtain⟨t',rfl⟩:=r1
      have:c=true:=e1.symm
      subst this
      exact(.now:Looks (model prog w) h (pure (Value.type "str")) (Value.type "str"))
    ·exact f3 v hv
theorem a7q{c:Bool}{σk:List Bool}{vs:List AA}{ks:List (List c9)}{Q:SortKind->AC->Prop}(hp:Paired (G9 s.heap) vs ks)(h0:0<vs.length)(hs:∀k∈ks,k.map sgK=c::σk)(h:Q (tuples' true) s):
 AH (model prog w) A (keyKind' vs.toArray) Q E s:=by
 obtain⟨fs,f1,f2,f3⟩:=a07 (prog:=prog) (w:=w) hp hs
 refine kat_kind f1 (by lia) f3 ?_ ?_
 ·cases c<;>decide
 ·have:((if c=true then Value.type "str" else Value.type "int") !=Value.type "tuple")=true:=by cases c<;>decide
  rw [this];exact h
theorem a03{h h':Heap}(kp:∀b o,h.get? b=some o->h'.get? b=some o):∀{vs:List AA} {ks:List (List c9)},Paired (G9 h) vs ks->Paired (G9 h') vs ks
 |_,_,.nil=> .nil
 |_,_,.cons r t=> .cons (r.keep kp) (a03 kp t)
end
section
variable {X:Cx}{pins:List (AB×Obj)}{σ:L2.St}{F H:Hp}{s:AC}
theorem a5e{h:Heap}:∀{us:List AA},(∀u∈us,∃k v,G9 h u k/\i6 v u/\r9 X.K F (kT k) v)->∃ys,g6 ys us/\f9 X.K F ((us.map (kOf h)).map kT) ys
 |[],_=>⟨[],.nil,rfl⟩
 |u::us,hu=>by
  obtain⟨ys,h1,h2⟩:=a5e (us:=us) fun u' h'=>hu u' (Ac _ h')
  obtain⟨k,v,h3,h4,h5⟩:=hu u Ah
  refine⟨v::ys,.cons h4 h1,v,ys,rfl, ?_,h2⟩
  rw [a3T h3];exact h5
end
section
variable {X:Cx}
end
section
variable {X:Cx}
end
section
variable {X:Cx}
end
def O7(h:Heap)(d:AB)(es:Array DictEntry)(ep:Nat):Prop:=∃o,h.get? d=some o/\o.ExactDict/\o.data= .dict es ep
section
variable {prog:AG}{w:AF}{A:AI}{E:AA->AC->Prop}{s:AC}{it d:AB}{i ep:Nat}{es:Array DictEntry}
theorem O7.type(h:O7 s.heap d es ep):s.TypeIs (.ref d) "dict":=let ⟨o,ho,hc,_⟩:=h;⟨o,ho,hc.1⟩
theorem a81{Q:AA->AC->Prop}(hd:(d==sysModules)=false)(hm:O7 s.heap d es ep)
 (hQ:Q (.ref s.heap.objs.size) {s with heap:=s.heap.push {cls:= .type "dict_keyiterator",data:= .fields #[.ref d,.int 0 0,.int es.size 0,.int ep 0]}}):AH (model prog w) A (pyIter (.ref d)) Q E s:=by
 obtain⟨o,ho,hc,hdat⟩:=id hm
 have hT:=hm.type
 refine wpAny_pyIter_slot hT F.slot_dict_iter (wpAny_call_entry F.slot_dict_iter hT F.entry_dict_iter ?_ (F.args_dict_iter_1 _))
 unfold Builtin.«dict.__iter__»;refine AK ?_;unfold Builtin.Dict.dictSlotNone
 refine AK (wpAny_notOrdered_dict hT ?_)
 show AH _ _ (pure (Value.ref d)) _ _ s
 refine AS ?_;show AH _ _ (Builtin.Dict.showsAll d>>=_) _ _ s;unfold Builtin.Dict.showsAll
 rw [if_neg (by rw [hd];exact Av)]
 refine AK (AS (AK (wpAny_dictEntries ho hdat (AK (wpAny_dictEpoch ho hdat ?_)))))
 refine AK (wpAny_newObj_type (AS ⟨_,rfl,"dict_keyiterator",_,⟨_,At _ rfl,rfl⟩,F.slot_dict_keyiterator_next.lookup, ?_⟩))
 simpa [rawInt] using hQ
theorem a82{Q:Option AA->AC->Prop}(hit:s.heap.IsKeyIter it d i es.size ep)(hm:O7 s.heap d es ep)(hi:i<es.size)
 (hQ:∀h',h'.IsKeyIter it d (i+1) es.size ep->Heap.SameBut it s.heap h'->Q (some es[i].key) {s with heap:=h'}):AH (model prog w) A (pyNext (.ref it)) Q E s:=by
 obtain⟨o,ho,hc,hd⟩:=id hit
 obtain⟨od,hod,hcd,hdd⟩:=id hm
 unfold pyNext
 refine AK (wpAny_attempt (wpAny_callSpecial?_slot (name:=AJ "__next__") hit.typeIs F.slot_dict_keyiterator_next (wpAny_call_entry F.slot_dict_keyiterator_next hit.typeIs F.entry_dict_keyiterator_next ?_ (F.args_dict_keyiterator_next_1 _))))
 refine AK (AS (AK (AK ?_)))
 refine AK (wpAny_typeNameOfWhole_keyiter hit.typeIs (AS (AK (wpAny_fieldsOf ho hd ?_))))
 have hown:Builtin.Dict_items.ownsTuple "dict_keyiterator"=false:=by decide
 simp only [hown,An,if_false];show AH _ _ (if(Value.ref d==Value.none)=true then _ else _) _ _ s
 rw [if_neg (show ¬((Value.ref d==Value.none)=true) from Av)];refine AK (AS (AK (wpAny_dictEntries hod hdd ?_)))
 rw [if_neg (by simp)];refine AK (AS (AK (wpAny_dictEpoch hod hdd ?_)));rw [if_neg (by simp)];refine AS ?_
 simp only [show ¬((i:Int)<0) from by lia,if_false,BG,Array.getElem?_eq_getElem hi];refine AK ?_
 refine AK (wpAny_typeNameOfWhole_keyiter hit.typeIs (AS (AK (wpAny_isOneOf_keyiter hit.typeIs ?_))))
 show AH _ _ (setField (.ref it) 1 (rawInt ((i:Int)+1))>>=_) _ _ s;refine AK (wpAny_setField ho hd (by simp) ?_)
 have hit':(s.heap.update it (Obj.mapFields (·.setIfInBounds 1 (rawInt ((i:Int)+1))))).IsKeyIter it d (i+1) es.size ep:=⟨_,Heap.get?_update_self _ ho (Obj.isFreed_of_fields (Obj.data_mapFields hd _)),(Obj.cls_mapFields ..).trans hc,by rw [Obj.data_mapFields hd];simp [rawInt]⟩
 refine AK (wpAny_holding (AK (wpAny_isOneOf_keyiter (s:={s with heap:=s.heap.update it (Obj.mapFields (·.setIfInBounds 1 (rawInt ((i:Int)+1))))}) hit'.typeIs ?_)))
 show AH _ _ (pure es[i].key) _ _ _;exact AS (AS ⟨_,rfl,AS (hQ _ hit' (Heap.SameBut.update ..))⟩)
theorem b0A{Q:Option AA->AC->Prop}(hh:A.handled=none)(hit:s.heap.IsKeyIter it d es.size es.size ep)(hm:O7 s.heap d es ep)(hQ:∀h',Heap.ExtBut it s.heap h'->Q none {s with heap:=h'}):AH (model prog w) A (pyNext (.ref it)) Q E s:=by
 obtain⟨o,ho,hc,hd⟩:=id hit
 obtain⟨od,hod,hcd,hdd⟩:=id hm
 unfold pyNext
 refine AK (wpAny_attempt (wpAny_callSpecial?_slot (name:=AJ "__next__") hit.typeIs F.slot_dict_keyiterator_next (wpAny_call_entry F.slot_dict_keyiterator_next hit.typeIs F.entry_dict_keyiterator_next ?_ (F.args_dict_keyiterator_next_1 _))))
 refine AK (AS (AK (AK ?_)))
 refine AK (wpAny_typeNameOfWhole_keyiter hit.typeIs (AS (AK (wpAny_fieldsOf ho hd ?_))))
 have hown:Builtin.Dict_items.ownsTuple "dict_keyiterator"=false:=by decide
 simp only [hown,An,if_false];show AH _ _ (if(Value.ref d==Value.none)=true then _ else _) _ _ s
 rw [if_neg (show ¬((Value.ref d==Value.none)=true) from Av)];refine AK (AS (AK (wpAny_dictEntries hod hdd ?_)))
 rw [if_neg (by simp)];refine AK (AS (AK (wpAny_dictEpoch hod hdd ?_)));rw [if_neg (by simp)];refine AS ?_
 simp only [show ¬((es.size:Int)<0) from by lia,if_false,BG,Array.getElem?_eq_none (AO es.size)];refine AK ?_
 refine AK (wpAny_typeNameOfWhole_keyiter hit.typeIs (AS ?_));show AH _ _ (setField (.ref it) 0 .none>>=_) _ _ s
 refine AK (wpAny_setField ho hd (by simp) ?_);show AH _ _ (newExc (.type "StopIteration") []>>=_) _ _ _;refine AK ?_
 simp only [newExc,newTuple];refine AK (wpAny_newObj_type ?_ (by size_fits))
 refine AK (m:=firstArgMember _ _) (wpAny_of_eq (a:=Value.none) (by first|rfl|(simp only [firstArgMember];rfl)) (wpAny_newObj_type ?_ (by size_fits)))
 simp only [raiseNew];refine AK (wpAny_handled ?_);rw [show A.in1.handled=none from hh]
 refine AK (AS (wpAny_throw ?_));refine AK (wpAny_isInstance (T:="StopIteration") (b:=true) ⟨_,At _ rfl,rfl⟩ isSubtype_stop ?_)
 exact AS (hQ _ (((Heap.SameBut.update ..).extBut.push _).push _))
theorem O7.at{h h':Heap}(x:O7 h d es ep)(e:∀o,h.get? d=some o->h'.get? d=some o):O7 h' d es ep:=let ⟨o,ho,r⟩:=x;⟨o,e _ ho,r⟩
theorem a7i(hh:A.handled=none)(I d:AB)(hne:d≠I)(es:Array DictEntry)(ep:Nat):
 Walks prog w A I [I,d] [I] es.size (fun i v=>∃e,es[i]?=some e/\v=e.key) (fun i h=>h.IsKeyIter I d i es.size ep/\O7 h d es ep) where
 sub:=fun b hb=>by simp at hb;simp [hb]
 frame:=fun _ _ _ st hk=>⟨st.1.at fun o e=>hk I (by simp) o e,st.2.at fun o e=>hk d (by simp) o e⟩
 item:=fun i s Q E hi st hQ=>by
  refine a82 st.1 st.2 hi fun h' hit' hs'=>hQ _ h' s.toks ⟨es[i],by simp [hi],rfl⟩ ⟨hit',st.2.at fun o e=> ?_⟩ fun b o hb e=>hs'.extBut b o (fun h=>hb (by simp [h])) e
  exact hs'.extBut d o hne e
 done:=fun s Q E st hQ=>b0A hh st.1 st.2 fun h' he'=>hQ h' s.toks fun b o hb e=>he' b o (fun h=>hb (by simp [h])) e
 self:=fun _ _ _ _ st hQ=>wpAny_pyIter_keyiter st.1 hQ
theorem b0B(lo:(d==sysModules)=false):KdlSrc prog w "dict" d d es.size (fun i v=>∃e,es[i]?=some e/\v=e.key) (fun h=>O7 h d es ep) where
 type:=fun _ hm=>hm.type
 there:=fun _ ⟨o,ho,_⟩=>⟨AV ho,AV ho⟩
 keep:=fun _ _ hm hk=>hm.at fun o e=>hk d (.inl rfl) o e
 notList:=by decide
 notTuple:=by decide
 hint:=fun _ _ _ _ hm hq=>kdl_hint_dict hm.type hq
 iter:=fun A s hh hm=>by
  obtain⟨o,ho,r⟩:=id hm
  exact⟨_,_,(fun _ _ hq=>a81 lo hm hq),a7i hh _ d (Al (AV ho)) es ep,⟨⟨_,At _ rfl,rfl,rfl⟩,hm.at fun o e=>Ab _ e⟩⟩
theorem a4E{Q:List AA->AC->Prop}(hh:A.handled=none)(lo:(d==sysModules)=false)(hm:O7 s.heap d es ep)(hn:es.size<=AL)
 (hQ:∀h' tk,(∀b o,s.heap.get? b=some o->h'.get? b=some o)->Q (es.toList.map (·.key)) {s with heap:=h',toks:=tk}):AH (model prog w) A (collect (.ref d)) Q E s:=by
 obtain⟨o,ho,r⟩:=id hm
 have hlt:=AV ho
 unfold collect
 refine AK (wpAny_runValue (codeAny_builtin F.entry_proto_collect ?_));rw [Around.under_plainId F.plain_proto_collect _]
 show AH _ A.in1 (newList []>>=fun l=>again (.builtin "list.__iadd__" ⟨[l,.ref d],[]⟩)) _ _ s;refine AK (wpAny_newObj_type ?_)
 refine AS ⟨plainId_quiet F.plain_list_iadd _,codeAny_builtin F.entry_list_iadd ?_⟩;rw [Around.under_plainId F.plain_list_iadd _]
 show AH _ A.in1 (Builtin.List.listExtendWith (.ref s.heap.objs.size) (.ref d) (.ref s.heap.objs.size)) _ _ _
 have hS:(s.heap.push {cls:= .type "list",data:= .seq ([]:List AA).toArray}).get? s.heap.objs.size=some {cls:= .type "list",data:= .seq ([]:List AA).toArray}:=At _ rfl
 refine kdl_extend (R:=fun r s'=>match r with| .ok (.ret v)=>AH (model prog w) A (match v with| .ref a=>(do let o<-load a;match o.data with| .seq xs _=>pure xs.toList|_=>unsupported "internal:collect")|_=>unsupported "internal:collect") Q E s'| .ok _=>False| .error e=>E e s') (s:={s with heap:=s.heap.push {cls:= .type "list",data:= .seq ([]:List AA).toArray}}) (b0B lo) hh (hm.at fun o e=>Ab _ e) _ (Nat.ne_of_gt hlt) (Nat.ne_of_gt hlt) _ 0 hS (fun h' tk acc c kp hS' hacc=> ?_) hn
 show AH _ A (load s.heap.objs.size>>=_) _ _ _;refine AK (wpAny_load hS' ?_)
 have e:acc.toList=es.toList.map (·.key):=by
  apply List.ext_getElem?
  intro j
  rw [Ao,Array.getElem?_toList,Array.getElem?_toList]
  by_cases hj:j<es.size
  ·have h1:j<acc.size:=by rw [hacc.1];exact hj
   obtain⟨e,e1,e2⟩:=hacc.2 j acc[j] (by simp [h1])
   rw [e1,getElem?_pos acc j h1,e2];rfl
  ·rw [getElem?_neg es j hj,getElem?_neg acc j (by rw [hacc.1];exact hj)];rfl
 refine AS ?_
 have:=hQ h' tk fun b o e=>kp b o (Al (AV e)) (Ab _ e)
 rw [<-e] at this
 exact this
end
end PU
namespace TS
open PySem PySem.Spec PyProof.Rows L2 PU
section
variable {prog:AG}{w:AF}{A:AI}{E:AA->AC->Prop}{s:AC}
variable {κ:SortKind}{S:Keyed->Prop}{R:Keyed->Keyed->Bool}
theorem a7o{l:AB}{vs:List AA}{Q:AA->AC->Prop}(hz:vs.length<=16777216)
 (hcol:∀(Q':List AA->AC->Prop) (E':AA->AC->Prop),(∀h1 tk,(∀b o,s.heap.get? b=some o->h1.get? b=some o)->Q' vs {s with heap:=h1,toks:=tk})->AH (model prog w) A.in1 (collect (.ref l)) Q' E' s)
 (hC:2<=vs.length->∀h' tk,(∀b o,s.heap.get? b=some o->h'.get? b=some o)->
  (∀Q:SortKind->AC->Prop,Q κ {s with heap:=h',toks:=tk}->AH (model prog w) A.in1.in1 (keyKind' vs.toArray) Q (fun _ _=>False) {s with heap:=h',toks:=tk})/\K5 prog w A.in1.in1 (fun _ _=>False) {s with heap:=h',toks:=tk} κ S R)
 (hS:∀v∈vs,S (tw v))
 (h:∀(h1 h':Heap) (tk:Tok) (e:Nat) (us:List AA),(∀b o',s.heap.get? b=some o'->h1.get? b=some o')->(∀b o',h1.get? b=some o'->h'.get? b=some o')->us.Perm vs->(us.Pairwise fun u v=>R (tw v) (tw u)=false)->
  h'.get? h1.objs.size=some (seqObj "list" us.toArray e)->Q (.ref h1.objs.size) {s with heap:=h',toks:=tk}):
 AH (model prog w) A (call (.builtin "sorted") [.ref l]) Q E s:=by
 refine Calls.call_function_entry kind_sorted plain_sorted entry_sorted (args_sorted1 _) ?_
 unfold Builtin.«sorted»
 refine AK (m:=checkCount "sorted" 1 1 _) (AS ?_)
 refine AK (hcol _ _ fun h1 tk k1=> ?_)
 refine AK (wpAny_newList ?_ (by rw [sizeLine_eq];exact hz))
 have q1:(h1.push (seqObj "list" vs.toArray 0)).get? h1.objs.size=some (seqObj "list" vs.toArray 0):=At _ rfl
 show AH _ _ _ _ _ {s with heap:=h1.push (seqObj "list" vs.toArray 0),toks:=tk}
 refine AK (wpAny_holding (wpAny_call_entry slot_list_sort ⟨_,q1,rfl⟩ entry_list_sort (wpAny_mono (a2Q (E:=fun _ _=>False) (κ:=κ) (S:=S) (R:=R) q1 hz (fun h2 h' kp=>hC h2 h' tk fun b o' e=>kp b o' ?_ ?_) hS fun out a1 a2=>⟨_,rfl, ?_⟩) (fun _ _ e=>e) fun _ _ e=>e.elim) (args_list_sort _)))
 ·exact Al (AV (k1 b o' e))
 ·exact Ab _ (k1 b o' e)
 ·obtain⟨e,he⟩:=sortedHeap_at (out:=out) q1
  refine AS ⟨_,rfl,h h1 _ tk e out.toList k1 (fun b o' hb1=> ?_) a1 a2 (by rw [Array.toArray_toList];exact he)⟩
  have hlt:=AV hb1
  rw [sortedHeap_old (Al hlt) (by rw [size_push'];exact Nat.lt_succ_of_lt hlt),Heap.get?_push_ne _ _ _ (Al hlt)]
  exact hb1
end
end TS
namespace PU
open PySem PySem.Spec PyProof.Rows L2 PySem.W
section
variable {prog:AG}{w:AF}{A:AI}{E:AA->AC->Prop}{s:AC}
theorem a5h{l:AB}{vs:List AA}{Q:AA->AC->Prop}(hz:vs.length<=16777216)
 (hcol:∀(Q':List AA->AC->Prop) (E':AA->AC->Prop),(∀h1 tk,(∀b o,s.heap.get? b=some o->h1.get? b=some o)->Q' vs {s with heap:=h1,toks:=tk})->AH (model prog w) A.in1 (collect (.ref l)) Q' E' s)
 {ks:List (List c9)} (hp:Paired (G9 s.heap) vs ks) (ok:okK ks=true)
 (h:∀(h1 h':Heap) (tk:Tok) (e:Nat) (us:List AA),(∀b o',s.heap.get? b=some o'->h1.get? b=some o')->(∀b o',h1.get? b=some o'->h'.get? b=some o')->us.Perm vs->us.map (kOf s.heap)=O6 D7 ks->
  h'.get? h1.objs.size=some (seqObj "list" us.toArray e)->Q (.ref h1.objs.size) {s with heap:=h',toks:=tk}):
 AH (model prog w) A (call (.builtin "sorted") [.ref l]) Q E s:=by
 obtain⟨c,σk,hs⟩:∃c σk,∀k∈ks,k.map sgK=c::σk:=by
  cases ks with
  |nil=>exact⟨false,[],fun k hk=>nomatch hk⟩
  |cons k r=>
   unfold okK at ok
   rw [Bool.and_eq_true] at ok
   cases k with
   |nil=>exact nomatch ok.1
   |cons q k=>
    refine⟨sgK q,k.map sgK,fun j hj=> ?_⟩
    rcases Ai.mp hj with rfl|hj
    ·rfl
    ·have:=List.all_eq_true.mp ok.2 j hj
     simpa using this
 refine TS.a7o (κ:=tuples' true) (S:=fun x=>∃k,G9 s.heap x.1 k/\k.map sgK=c::σk) (R:=fun x y=>D7 (kOf s.heap x.1) (kOf s.heap y.1)) hz hcol (fun h2 h' tk kp=>⟨fun Q' hq=> ?_,a9n (s:={s with heap:=h',toks:=tk}) kp⟩) (fun v hv=> ?_)
  fun h1 h' tk e us k1 k2 pm pw he=>h h1 h' tk e us k1 k2 pm ?_ he
 ·exact a7q (s:={s with heap:=h',toks:=tk}) (a03 kp hp) (by lia) hs hq
 ·obtain⟨k,hk,r⟩:=a2o hp v hv
  exact⟨k,r,hs k hk⟩
 ·symm
  refine a5g L7 (List.pairwise_map.mpr pw) ?_
  have:=pm.map (kOf s.heap)
  rw [W7 hp] at this
  exact this
end
def b2X:c6->Option (List (List c9×PV))
 | .ow (.dct kvs)=>some kvs
 | .bo (.dct kvs)=>some kvs
 |_=>none
def Q5(x:c6):Option c6:=(b2X x).bind fun kvs=>if okK (kvs.map (·.1))=true/\kvs.length<=16777216 then some (.own ((O6 D7 (kvs.map (·.1))).map kT)) else none
theorem a0F{K:AD}{F:Hp}:∀k:List c9,f9 K F (k.map kP) (k.map kV)
 |[]=>rfl
 | .inl i::k=>⟨_,_,rfl,rfl,a0F k⟩
 | .inr x::k=>⟨_,_,rfl,rfl,a0F k⟩
theorem a2q{α β γ:Type}{R:α->β->Prop}{T:γ->α->Prop}{f:β->γ}(h:∀a b,R a b->T (f b) a):∀{l:List α} {m:List β},Paired R l m->Paired T (m.map f) l
 |_,_,.nil=> .nil
 |_,_,.cons r t=> .cons (h _ _ r) (a2q h t)
theorem a2p{α β γ:Type}{T:α->γ->Prop}{f:β->γ}:∀{l:List α} {m:List β},Paired (fun a b=>T a (f b)) l m->Paired T l (m.map f)
 |_,_,.nil=> .nil
 |_,_,.cons r t=> .cons r (a2p t)
theorem J5{α β:Type}{R:α->β->Prop}:∀{l:List α} {m:List β},Paired R l m->∀y∈m,∃x∈l,R x y
 |_,_,.cons r t,y,h=>by
  rcases Ai.mp h with rfl|h
  ·exact⟨_,Ah,r⟩
  ·obtain⟨x,hx,q⟩:=J5 t y h
   exact⟨x,Ac _ hx,q⟩
theorem a3o{K:AD}{F:Hp}:∀{kvs:List (List c9×PV)} {ys:List (List c9×V)},n8 K F kvs ys->ys.map (·.1)=kvs.map (·.1)
 |[],_,h=>by cases h;rfl
 |(k,p)::r,_,⟨v,t,e,_,h⟩=>by subst e;rw [AM,AM,a3o h]
section
variable {X:Cx}
open Classical in
theorem a4F(hc:X.calm=true):D1 X (.builtin "sorted") (rC1 X.K Q5):=by
 intro pins s σ H xs us Q I rv h
 obtain⟨F,x,rx,rz,rfl,s0,h1,h2,k⟩:=h
 unfold Q5 at h2
 obtain⟨kvs,e0,h2⟩:=bind_some h2
 split at h2
 ·rename_i c
  cases h2
  obtain⟨a,ys,rfl,fa,ha,rd⟩:∃a ys,x= .ref a/\F a=none/\H a=some (.dT ys)/\n8 X.K F kvs ys:=by
   cases rx with
   |val p=>cases e0
   |ow z=>cases z<;>cases e0;exact h1
   |bo z=>cases z<;>cases e0;exact h1
  obtain⟨u,rfl,ru⟩:=a5n rv
  cases ru
  obtain⟨hl,hsys,zs,pz,o,es,ep,ho,hex,hdat,hes,nd⟩:=(show s9 X.prog X.w H s.heap a (.dT ys) from I.hok a _ ha)
  have hkeys:es.toList.map (·.key)=zs.map fun z=>Value.ref z.2.1:=by rw [hes,BC];rfl
  have tup:∀y z,(y:List c9×V).1=(z:List c9×AB×AA).1/\H z.2.1=some (.tup (y.1.map kV))/\i6 y.2 z.2.2->G9 s.heap (.ref z.2.1) y.1:=by
   rintro y z ⟨_,hz,_⟩
   obtain⟨_,its,rv,o',ho',hc',n',hd'⟩:=(show s9 X.prog X.w H s.heap z.2.1 (.tup (y.1.map kV)) from I.hok _ _ hz)
   exact⟨z.2.1,o',its.toArray,n',rfl,ho',hc',hd',by simpa using rv⟩
  have hp:Paired (G9 s.heap) (zs.map fun z=>Value.ref z.2.1) (kvs.map (·.1)):=by
   rw [<-a3o rd]
   have:Paired (fun(v:AA) (y:List c9×V)=>G9 s.heap v y.1) (zs.map fun z=>Value.ref z.2.1) ys:=a2q (T:=fun(v:AA) (y:List c9×V)=>G9 s.heap v y.1) tup pz
   exact a2p this
  have hzl:(zs.map fun z=>Value.ref z.2.1).length=kvs.length:=by have:=congrArg List.length (W7 hp);simpa using this
  have hesz:es.size<=AL:=by
   have:=congrArg List.length hkeys
   rw [AR,hzl,Array.length_toList] at this
   rw [this,sizeLine_eq];exact c.2
  have hh:X.A.handled=none:=I.ok.hd hc
  refine a5h (by rw [hzl];exact c.2) (fun Q' E' hq=>a4E (A:=X.A.in1) hh hsys ⟨o,ho,hex,hdat⟩ hesz fun h' tk kp=>by rw [hkeys];exact hq h' tk kp) hp c.1 fun hp1 hp2 tk en us k1 k2 pm ek he=> ?_
  have I1:g4 X pins σ H {s with heap:=hp1,toks:=tk}:=I.kept (t':=tk) k1
  generalize hF':(fun b=>if ∃z∈zs,(z:List c9×AB×AA).2.1=b then H b else F b:Hp)=F'
  have f1:f6 F F':=fun b o e=>by
   rw [<-hF']
   show(if _ then H b else F b)=_
   split
   ·exact s0 _ _ e
   ·exact e
  have f2:f6 F' H:=fun b o e=>by
   rw [<-hF'] at e
   have e:(if _ then H b else F b)=some o:=e
   split at e
   ·exact e
   ·exact s0 _ _ e
  obtain⟨ys',v1,r1⟩:=a5e (X:=X) (F:=F') (h:=s.heap) (us:=us) fun u hu=>by
   obtain⟨z,hz,rfl⟩:=Ag.mp (pm.mem_iff.mp hu)
   obtain⟨y,_,hy⟩:=J5 pz z hz
   refine⟨y.1,.ref z.2.1,tup y z hy,rfl,z.2.1,y.1.map kV,rfl,.inl ?_,a0F _⟩
   rw [<-hF']
   show(if _ then H z.2.1 else F z.2.1)=_
   rw [if_pos ⟨z,hz,rfl⟩]
   exact hy.2.1
  rw [ek] at r1
  have hf:H hp1.objs.size=none:=I1.hok.fresh (AO _)
  have hyl:ys'.length<=AL:=by rw [v1.length,pm.length_eq,hzl,sizeLine_eq];exact c.2
  have up:=B0 (o:=HO.lst ys') hf
  refine⟨.ref hp1.objs.size,_,I1.laid (t':=tk) (h':=hp2) (o:= .lst ys') k2 (AO _) ⟨hyl,us,en,v1,he⟩,rfl,k _ F' _ ⟨⟨f1,up,f2.trans up,fun b o z y t=> ?_,fun b o u z=> ?_⟩,⟨_,ys',rfl,f2.free hf,g5,r1⟩,fun _ _ _ e=>by cases e;exact hf⟩⟩
  ·rw [<-hF']
   show(if _ then H b else F b)=none
   split
   ·rename_i hz
    obtain⟨q,hq,rfl⟩:=hz
    obtain⟨y',_,hy'⟩:=J5 pz q hq
    rw [hy'.2.1] at y
    cases y
    exact absurd rfl (t _)
   ·exact z
  ·rw [<-hF'] at z
   have z:(if _ then H b else F b)=some (.frz o u):=z
   split at z
   ·rename_i hz
    obtain⟨q,hq,rfl⟩:=hz
    obtain⟨y',_,hy'⟩:=J5 pz q hq
    rw [hy'.2.1] at z
    cases z
   ·exact z
 ·cases h2
end
open PySem PySem.Spec PyProof.Rows L2
section
variable {X:Cx}{pins:List (AB×Obj)}{σ:L2.St}{H:Hp}{s:AC}{a b:AB}{kvs:List (List c9×V)}{k:List c9}{v:V}{r:AA}{A:AI}{E:AA->AC->Prop}
theorem a9L{Q:Unit->AC->Prop}(hu:A.units+1<cLine)(I:g4 X pins σ H s)(e:H a=some (.dT kvs))(eb:H b=some (.tup (k.map kV)))(l:kvs.length<AL)(rv:i6 v r)(h:∀s',g4 X pins σ (upd H a (.dT (G2 kvs k v))) s'->Q () s'):
 AH (model X.prog X.w) A (dictSet a (.ref b) r) Q E s:=by
 obtain⟨z,hd,xs,rel,dd⟩:=b00 I.hok e
 have hz:xs.length<=AL:=by rw [<-Paired.length rel];exact z
 have hl:(G2 kvs k v).length<=AL:=by have:=J3 kvs k v;lia
 refine wpAny_dictSet_heap (hsz:=hz) (show(tupleKind (g9 X.prog X.w)).room A from(by first|exact hu|exact Nat.lt_of_succ_lt hu)) (a10 I.hok eb) dd fun h' dd' hs=>h _ ?_
 obtain⟨q,es,ep,hq,h2,h3,h4,_,h5⟩:=dd'
 refine a1d I (by rw [e];exact True.intro) hs ⟨q,hq⟩ ⟨hl,hd,_,(rel.put k eb rv).keeps fun c ys ec=>(by rw [d6 (V2 ec e (fun z=>nomatch z))];exact ec),q,es,ep,hq,h2,h3,h4,h5⟩
end
section
variable {X:Cx}
end
mutual
def nl:PV->Bool
 | .list _=>false
 | .tuple ps=>nlL ps
 | .dict ((.tuple _,_)::_)=>false
 |_=>true
def nlL:List PV->Bool
 |[]=>true
 |p::ps=>nl p && nlL ps
end
def nlD:List (List c9×PV)->Bool
 |[]=>true
 |(_,p)::r=>nl p && nlD r
def c6.noL:c6->Bool
 | .val p=>nl p
 | .ow (.lst ps)=>nlL ps
 | .ow (.dct kvs)=>nlD kvs
 | .ow (.txt kvs)=>nlD kvs
 | .bo _=>false
def drp(F:Hp)(a:AB):Hp:=fun b=>if b=a then none else F b
theorem K0{F:Hp}{a b:AB}(h:b≠a):drp F a b=F b:=by unfold drp;rw [if_neg h]
theorem P9{F:Hp}{a:AB}:drp F a a=none:=by unfold drp;rw [if_pos rfl]
theorem a8B{F F3:Hp}{a:AB}{o':HO}(h:∀b o u,F3 b=some (.frz o u)->upd F a o' b=some (.frz o u)):∀b o u,drp F3 a b=some (.frz o u)->F b=some (.frz o u):=fun b o u z=>by
 by_cases hb:b=a
 ·subst hb;rw [P9] at z;cases z
 ·rw [K0 hb] at z
  have:=h _ _ _ z
  rw [d6 hb] at this;exact this
section
variable {K:AD}{F:Hp}{a:AB}{xs:List V}
mutual
theorem a4d(ha:F a=some (.lst xs)):∀(p:PV) {v:V},r9 K F p v->nl p=true->r9 K (drp F a) p v
 | .none,_,h,_=>h
 | .bool _,_,h,_=>h
 | .int _,_,h,_=>h
 | .str _,_,h,_=>h
 | .list _,_,_,n=>by simp [nl] at n
 | .tuple ps,_,⟨b,ys,e,q,r⟩,n=>⟨b,ys,e,(by
  rcases q with q|q
  ·exact .inl (by rw [K0 (V2 q ha (fun z=>nomatch z))];exact q)
  ·exact .inr q),a2y ha ps r (by simpa [nl] using n)⟩
 | .dict kvs,_,h,n=>by
   rcases h with⟨b,ys,q,h,hr⟩|⟨b,ys,q,h,hr⟩|⟨x,t,e,h|⟨z,b,C,φ,q,h,r⟩⟩
   ·cases kvs with
    |nil=>
     have e0:ys=[]:=List.map_eq_nil_iff.mp hr
     subst e0
     exact .inl ⟨b,[],q,by rw [K0 (V2 h ha (fun z=>nomatch z))];exact h,rfl⟩
    |cons f fs=>
     exfalso
     obtain⟨k,p⟩:=f
     obtain⟨kk,w,t,e,z,_⟩:=hr
     subst z
     simp [nl] at n
   ·exfalso
    cases kvs with
    |nil=>cases hr
    |cons f fs=>
     obtain⟨k,p⟩:=f
     obtain⟨kk,w,t,e,z,_⟩:=hr
     subst z
     simp [nl] at n
   ·exact .inr (.inr ⟨x,t,e,.inl h⟩)
   ·exact .inr (.inr ⟨x,t,e,.inr ⟨z,b,C,φ,q,by rw [K0 (V2 h ha (fun z=>nomatch z))];exact h,r⟩⟩)
theorem a2y(ha:F a=some (.lst xs)):∀(ps:List PV) {vs:List V},f9 K F ps vs->nlL ps=true->f9 K (drp F a) ps vs
 |[],_,h,_=>h
 |p::ps,_,⟨v,r,e,q,t⟩,n=>by
  simp only [nlL,Bool.and_eq_true] at n
  exact⟨v,r,e,a4d ha p q n.1,a2y ha ps t n.2⟩
end
theorem a2x(ha:F a=some (.lst xs)):∀(kvs:List (List c9×PV)) {ys:List (List c9×V)},n8 K F kvs ys->nlD kvs=true->n8 K (drp F a) kvs ys
 |[],_,h,_=>h
 |(k,p)::r,_,⟨v,t,e,q,h⟩,n=>by
  simp only [nlD,Bool.and_eq_true] at n
  exact⟨v,t,e,a4d ha p q n.1,a2x ha r h n.2⟩
theorem a1J{b:AB}(h:F b=none):drp F a b=none:=by
 unfold drp
 split
 ·rfl
 ·exact h
theorem a5d{H:Hp}{v:V}(ha:F a=some (.lst xs)):∀{r:c6},G8 K F H v r->r.noL=true->G8 K (drp F a) H v r
 | .val p,h,n=>a4d ha p h n
 | .ow (.lst ps),⟨b,ys,e,f,q,r⟩,n=>⟨b,ys,e,a1J f,q,a2y ha ps r n⟩
 | .ow (.dct kvs),⟨b,ys,e,f,q,r⟩,n=>⟨b,ys,e,a1J f,q,a2x ha kvs r n⟩
 | .ow (.txt kvs),⟨b,ys,e,f,q,r⟩,n=>⟨b,ys,e,a1J f,q,a2x ha kvs r n⟩
 | .bo _,_,n=>nomatch n
end
def a0B(g:List PV->Option c6)(i:Nat)(m:M):M:=fun ρ=>((m ρ).bind c6.toVal).bind fun p=>match ρ[i]? with
 |some (some (.ow (.lst ps)))=>(g [p,.list ps]).bind fun r=>if r.noL=true then some r else none
 |_=>none
section
variable {X:Cx}
theorem a6f(i:Nat){k k':Nat}{pa pb:Str}{g:List PV->Option c6}{x y:Str}{p py pos:Pos}{e:AE}{m:M}
 (d:u6 X.prog X.w X.K X.mg X.base x [pa,pb] k g) (hr:A0 k' X.A) (hk:k<=k') (hg:Gl X x) (ha:EE X e m) (hy:PE X (.Name y py) (a0I i))
 (hdb:(x==("__debug__":Str))=false:=by decide) (he:AN [e,.Name y py] X.env=(false,eval e X.env)::AN [.Name y py] X.env:=by rfl) (he2:AN [.Name y py] X.env=(false,eval (.Name y py) X.env)::AN [] X.env:=by rfl)
 (hpl:(backTo pos (AN [.Name y py] X.env)).any (·.1)=false:=by rfl):
 EE X (.Call (.Name x p) [e,.Name y py] [] pos) (a0B g i m):=by
 obtain⟨f,fd,G,h1,h2,h3⟩:=d
 refine p8 (a39 G (hr.mono hk) hg h1 h2 h3 .nil a8Q (A8 ha (A8 hy R6 he2) he) hdb he hpl) fun σ H Q ⟨F,ρ,r,en,hm,kq⟩=> ?_
 obtain⟨q,e1,hm⟩:=bind_some hm
 obtain⟨rq,e2,e3⟩:=bind_some e1
 split at hm
 ·rename_i ps eo
  obtain⟨r',e4,hm⟩:=bind_some hm
  split at hm
  ·rename_i c
   cases hm
   refine⟨F,ρ,rq,en,e2,fun v F1 H1 o1=> ?_⟩
   obtain⟨F2,o2⟩:=o1.toVal e3
   have en2:=en.ext o2.x
   obtain⟨w,hw,a,xs,rfl,fa,ha',rl⟩:=en2.at_ i _ eo
   refine⟨.ref a,hw, ?_⟩
   show spP X.K 2 g ([v,.ref a]++[]) H1 Q E0
   rw [AZ]
   have up:f6 F2 (upd F2 a (.lst xs)):=B0 fa
   refine⟨upd F2 a (.lst xs),[q,.list ps],_,fun b o z=> ?_,⟨v,[.ref a],rfl,r9.mono up _ o2.rep,.ref a,[],rfl,⟨a,xs,rfl,H9.of g5,f9.mono up _ rl⟩,rfl⟩,rfl,e4,fun u F3 H3 o3=>kq u (drp F3 a) H3 (o9.trans o2.x ⟨⟨fun b o z=> ?_,o3.x.h,fun b o z=> ?_,fun b o z y t=> ?_,a8B o3.x.nf⟩, ?_,o3.fr⟩)⟩
   ·by_cases hb:b=a
    ·subst hb;rw [g5] at z;cases z;exact ha'
    ·rw [d6 hb] at z;exact o2.x.fh _ _ z
   ·have hb:b≠a:=f7 z fa
    rw [K0 hb];exact o3.x.f _ _ (up _ _ z)
   ·by_cases hb:b=a
    ·subst hb;rw [P9] at z;cases z
    ·rw [K0 hb] at z;exact o3.x.fh _ _ z
   ·by_cases hb:b=a
    ·subst hb;exact P9
    ·rw [K0 hb];exact o3.x.nw b o (by rw [d6 hb];exact z) y t
   ·exact a5d (o3.x.f _ _ g5) o3.rep c
  ·cases hm
 ·cases hm
end
def a5N(k:List c9):Bool:=(k.length==3 && k.any Sum.isLeft)
def a3u(o:Obj):Bool:=match o with
 |⟨.type "tuple",_,.seq its _,_⟩=>(its.size==3 && its.toList.any a8j)
 |_=>false
def V3(K:AD):Bool:=K.all fun p=> !a3u p.2
theorem a69{K:AD}(nk:V3 K=true){a:AB}{o:Obj}{its:Array AA}{n:Nat}{k:List c9}(e:K.lookup a=some o)(hc:o.cls= .type "tuple")(hd:o.data= .seq its n)(r:g6 (k.map kV) its.toList)(hk:a5N k=true):False:=by
 obtain⟨b,hb⟩:=a16 e
 have h:=List.all_eq_true.mp nk _ hb
 obtain⟨cls,d,data,sl⟩:=o
 simp only at hc hd
 subst hc hd
 unfold a5N at hk
 have h2:=r.length
 have h2:k.length=its.size:=by simpa using h2
 have h3:a3u ⟨.type "tuple",d,.seq its n,sl⟩=true:=by
  rw [Bool.and_eq_true] at hk
  show(its.size==3 && its.toList.any a8j)=true
  rw [a57 r hk.2,<-h2,hk.1];rfl
 rw [h3] at h
 cases h
def F9(r:c6):Option (List c9):=match r with
 | .val (.tuple ps)=>(N2 ps).bind fun k=>if a5N k=true then some k else none
 |_=>none
theorem L6{K:AD}{F H:Hp}{r:c6}{k:List c9}{v:V}(nk:V3 K=true)(e:F9 r=some k)(h:G8 K F H v r):∃b,v= .ref b/\F b=some (.tup (k.map kV)):=by
 unfold F9 at e
 split at e
 ·obtain⟨k',e1,e⟩:=bind_some e
  split at e
  ·rename_i hk
   cases e
   obtain⟨b,xs,rfl,hq,rl⟩:=h
   have ex:=N3 e1 rl
   subst ex
   rcases hq with hq|⟨o,its,n,h1,h2,h3,h4,h5⟩
   ·exact⟨b,rfl,hq⟩
   ·exact(a69 nk h1 h2 h3 h5 hk).elim
  ·cases e
 ·cases e
section
variable {X:Cx}
def Z1(i:Nat)(mk mv:M):MS:=fun ρ=>((mv ρ).bind c6.toVal).bind fun p=>((mk ρ).bind F9).bind (a4H i ρ p)
theorem T6(i:Nat){x:Str}{p tp2 pos:Pos}{ek e:AE}{mk mv:M}(hu:X.A.units+64<cLine)(nk:V3 X.K=true)(hx:PE X (.Name x p) (a0I i))(hi:EE X ek mk)(he:EE X e mv)
 (hs:swapsWith e (some (.Subscript (.Name x p) ek tp2)) pos.line X.env=pure false:=by rfl):ES X (.Assign [.Subscript (.Name x p) ek tp2] e pos) (Z1 i mk mv):=
 q9 (b0x (by lia) hx hi he hs) fun D σ H ⟨F0,H0,F,ρ,fl,so,e,fin⟩=>by
  obtain⟨q,e1,e⟩:=bind_some e
  obtain⟨r,e2,e3⟩:=bind_some e1
  obtain⟨k,e4,e⟩:=bind_some e
  obtain⟨rk,e4,e5⟩:=bind_some e4
  refine⟨F,ρ,r,so.e,e2,fun v F1 H1 o=> ?_⟩
  obtain⟨F2,o2⟩:=o.toVal e3
  have so2:=so.ext o2.x
  unfold a4H at e
  split at e
  ·rename_i kvs eo
   split at e
   ·rename_i hl
    cases e
    obtain⟨w,hw1,a,xs,rfl,fa,ha',rl⟩:=so2.e.at_ i _ eo
    refine⟨.ref a,hw1,F2,ρ,rk,so2.e,e4,fun y F3 H3 o3=> ?_⟩
    obtain⟨b,rfl,hb⟩:=L6 nk e5 o3.rep
    have ha3:=o3.x.h _ _ ha'
    have so3:=so2.ext o3.x
    refine⟨a,_,rfl,a5s.t (k:=k) ha3 (o3.x.fh _ _ hb) (by rw [rl.length];exact hl), ?_⟩
    exact fin σ _ _ (o2.x.f.trans o3.x.f) (so3.putD eo hw1 ((n8.mono o3.x.f _ rl).put (r9.mono o3.x.f _ o2.rep)))
   ·cases e
  ·cases e
def a1l(i:Nat)(mk:M):M:=fun ρ=>((mk ρ).bind F9).bind (O1 i ρ)
theorem a0m(i:Nat){x:Str}{p pos:Pos}{ek:AE}{mk:M}(hu:X.A.units+64<cLine)(nk:V3 X.K=true)(hx:PE X (.Name x p) (a0I i))(hi:EE X ek mk)(hs:a4x ek:=by intro _ _;rfl):EE X (.Subscript (.Name x p) ek pos) (a1l i mk):=
 p8 (a1n (by lia) hx hi hs) fun σ H Q ⟨F,ρ,r,en,e,k⟩=>by
  obtain⟨kk,e4,e⟩:=bind_some e
  obtain⟨rk,e4,e5⟩:=bind_some e4
  unfold O1 at e
  split at e
  ·rename_i kvs eo
   cases hv:l8 kvs kk with
   |none=>rw [hv] at e;cases e
   |some q=>
    rw [hv] at e;cases e
    obtain⟨w,hw1,a,xs,rfl,fa,ha',rl⟩:=en.at_ i _ eo
    obtain⟨y,hy,ry⟩:=(rl.val (k:=kk)).1 q hv
    refine⟨.ref a,hw1,F,ρ,rk,en,e4,fun z F3 H3 o3=> ?_⟩
    obtain⟨b,rfl,hb⟩:=L6 nk e5 o3.rep
    exact⟨a,y,rfl,by rw [<-hy];exact V5.t (o3.x.h _ _ ha') (o3.x.fh _ _ hb),k _ _ _ (o9.val o3.x (r9.mono o3.x.f _ ry))⟩
  ·cases e
def a18(neg:Bool)(i:Nat)(mk:M):M:=fun ρ=>((mk ρ).bind F9).bind (a6L neg i ρ)
theorem a7N{i:Nat}{mk:M}{neg:Bool}{σ:L2.St}{H:Hp}{Q:VK}(nk:V3 X.K=true)(h:tM X.K (a18 neg i mk) σ H Q):
 tM X.K mk σ H fun y H1=>a0I i σ H1 fun x H2=>∃a o,x= .ref a/\V5 H2 a y o/\Q (.bl (if neg then !o.isSome else o.isSome)) H2:=by
 obtain⟨F,ρ,r,en,e,k⟩:=h
 obtain⟨kk,e4,e⟩:=bind_some e
 obtain⟨rk,e4,e5⟩:=bind_some e4
 unfold a6L at e
 split at e
 ·rename_i kvs eo
  cases e
  refine⟨F,ρ,rk,en,e4,fun y F3 H3 o3=> ?_⟩
  obtain⟨b,rfl,hb⟩:=L6 nk e5 o3.rep
  obtain⟨w,hw1,a,xs,rfl,fa,ha',rl⟩:=(en.ext o3.x).at_ i _ eo
  refine⟨.ref a,hw1,a,M3 xs kk,rfl,V5.t ha' (o3.x.fh _ _ hb), ?_⟩
  rw [rl.isSome]
  exact k _ _ _ (o9.val o3.x rfl)
 ·cases e
theorem E5(i:Nat){x:Str}{p pos:Pos}{ek:AE}{mk:M}(hu:X.A.units+64<cLine)(nk:V3 X.K=true)(hx:PE X (.Name x p) (a0I i))(hi:EE X ek mk)(hm:behindInMarks .NotIn (.Name x p)=false):ET X (.Compare ek [.NotIn] [.Name x p] pos) (mtB (a18 true i mk)):=
 a2u (b2q (a7e (by lia) hi hx) hm) fun σ H Q h=>b3t (fun _ _ _ h=>a7N nk h) h
end
def a19(mk mv:M):M:=fun ρ=>((mk ρ).bind F9).bind fun k=>((mv ρ).bind c6.toVal).bind fun p=>some (.dct [(k,p)])
section
variable {X:Cx}
theorem Y4{ek ev:AE}{mk mv:M}{pos:Pos}(hu:X.A.units+64<cLine)(nk:V3 X.K=true)(hk:EE X ek mk)(hv:EE X ev mv):EE X (.Dict [some ek] [ev] pos) (a19 mk mv):=by
 intro pins s σ H Q I h
 obtain⟨F,ρ,r,en,e,kq⟩:=h
 obtain⟨k,e1,e⟩:=bind_some e
 obtain⟨rk,e2,e3⟩:=bind_some e1
 obtain⟨p,e4,e⟩:=bind_some e
 obtain⟨rv,e5,e6⟩:=bind_some e4
 cases e
 have hn:=I.hok.fresh (AO s.heap.objs.size)
 have I1:=I.laid (a:=s.heap.objs.size) (o:= .dT []) (h':=s.heap.push {cls:= .type "dict",data:= .dict #[]}) (t':=s.toks) (fun _ _ q=>Ab _ q) (AO _) (a7Q s.heap I.big)
 have x0:G6 F H F (upd H s.heap.objs.size (.dT [])):=G6.layH en.fh hn
 refine wpAny_Dict_any rfl rfl (by simp) (by show 1<=15;decide) (w9 (a5a hk hv a6o pins _ σ _ (fun ps H2=>∃y b F2,ps=[(V.ref b,y)]/\F2 b=some (.tup (k.map kV))/\G6 F (upd H s.heap.objs.size (.dT [])) F2 H2/\r9 X.K F2 p y) I1 ?_) fun vs s2 hq=> ?_)
 ·refine⟨F,ρ,rk,en.ext x0,e2,fun x F1 H1 o1=>⟨F1,ρ,rv,(en.ext x0).ext o1.x,e5,fun y F2 H2 o2=> ?_⟩⟩
  obtain⟨b,rfl,hb⟩:=L6 nk e3 o1.rep
  obtain⟨F3,o3⟩:=o2.toVal e6
  exact⟨y,b,F3,rfl,o3.x.f _ _ hb,(o1.x).trans o3.x,o3.rep⟩
 ·obtain⟨ps,H2,I2,rel,y,b,F2,hps,hb,x2,rp⟩:=hq
  subst hps
  cases rel with
  | @cons pq uv _ _ r1 r2=>
    cases r2
    obtain⟨u,w⟩:=uv
    obtain⟨ru,rw'⟩:=r1
    cases(show u=Value.ref b from ru)
    have hp2:H2 s.heap.objs.size=some (.dT []):=x2.h _ _ g5
    have fp:F2 s.heap.objs.size=none:=x2.nw _ _ (en.fh.free hn) g5 (fun _ h=>nomatch h)
    unfold storeAll
    rw [List.forIn_cons]
    refine AK (AK (a9L (by lia) I2 hp2 (x2.fh _ _ hb) (by rw [sizeLine_eq];decide) rw' fun s3 I3=>AS ?_))
    dsimp only
    rw [List.forIn_nil]
    refine AS ⟨.ref s.heap.objs.size,_,I3,rfl,kq _ F2 _ ⟨⟨x2.f,fun c o z=> ?_,fun c o z=> ?_,fun c o z y' t=> ?_,x2.nf⟩,⟨_,_,rfl,fp,g5,y,[],rfl,rp,rfl⟩,fun _ _ _ e=>by cases e;exact hn⟩⟩
    ·rw [d6 (f7 z hn)];exact x2.h _ _ (by rw [d6 (f7 z hn)];exact z)
    ·rw [d6 (f7 z fp)];exact x2.fh _ _ z
    ·exact x2.nw c o z (by rw [d6 (f7 y' hn)];exact y') t
end
theorem R0(i:Nat)(mk mv:M)(ρ:a8):Z1 i mk mv ρ=((mv ρ).bind c6.toVal).bind fun p=>((mk ρ).bind F9).bind (a4H i ρ p):=Eq.trans rfl rfl
theorem a0X(i:Nat)(mk:M)(ρ:a8):a1l i mk ρ=((mk ρ).bind F9).bind (O1 i ρ):=Eq.trans rfl rfl
theorem z8(neg:Bool)(i:Nat)(mk:M)(ρ:a8):a18 neg i mk ρ=((mk ρ).bind F9).bind (a6L neg i ρ):=Eq.trans rfl rfl
theorem W3(mk mv:M)(ρ:a8):a19 mk mv ρ=((mk ρ).bind F9).bind fun k=>((mv ρ).bind c6.toVal).bind fun p=>some (.dct [(k,p)]):=Eq.trans rfl rfl
theorem a3U(x:Str)(i j:Int):F9 (.val (.tuple [.str x,.int i,.int j]))=some [.inr x,.inl i,.inl j]:=Eq.trans rfl rfl
section
variable {X:Cx}{tg:AE}
end
section
variable {prog:AG}{w:AF}{A:AI}{E:AA->AC->Prop}{s:AC}
end
theorem b0J{K:AD}{H:Hp}{a D:AB}{xs:List V}{kvs kvs':List (List c9×V)}(e:H D=some (.dT kvs))(h:M5 K H a xs):M5 K (upd H D (.dT kvs')) a xs:=by
 rcases h with(h|⟨o,h⟩)|h
 ·exact .inl (.inl (by rw [d6 (V2 h e (fun z=>nomatch z))];exact h))
 ·exact .inl (.inr ⟨o,by rw [d6 (V2 h e (fun z=>nomatch z))];exact h⟩)
 ·exact .inr h
def b1k(K:AD)(H:Hp)(p:List c9×V)(x:V):Prop:=∃a b,x= .ref a/\M5 K H a [.ref b,p.2]/\H b=some (.tup (p.1.map kV))
theorem b1k.upd{K:AD}{H:Hp}{D:AB}{kvs kvs':List (List c9×V)}(e:H D=some (.dT kvs)){p:List c9×V}{x:V}(h:b1k K H p x):b1k K (upd H D (.dT kvs')) p x:=
 let ⟨a,b,h1,h2,h3⟩:=h
 ⟨a,b,h1,b0J e h2,by rw [d6 (V2 h3 e (fun z=>nomatch z))];exact h3⟩
section
variable {X:Cx}{pins:List (AB×Obj)}{σ:L2.St}{A:AI}{R:Result->AC->Prop}
end
section
variable {X:Cx}
end
section
variable {X:Cx}
end
section
variable {X:Cx}
end
open Builtin Builtin.Str
section
variable {prog:AG}{w:AF}{A:AI}{E:AA->AC->Prop}{s:AC}{x y:Str}{t u:Tok}{Q:AA->AC->Prop}
end
section
variable {X:Cx}
end
structure Chg(fs ex:List AB)(h h':Heap):Prop where
 keep:∀b o,h.get? b=some o->b∉fs->b∉ex->h'.get? b=some o
 slot:∀b o,h.get? b=some o->b∈fs->b∉ex->∃sl,h'.get? b=some {o with slots:=sl}
 size:h.objs.size<=h'.objs.size
section
variable {M:Model}{A:AI}{E:AA->AC->Prop}{s:AC}{base:Heap}{env:Env}{outer:List Env}{L e C:AB}
theorem Chg.trans{fs ex ex':List AB}{h h1 h2:Heap}(x:Chg fs ex h h1)(y:Chg fs ex' h1 h2):Chg fs (ex++ex') h h2 where
 keep:=fun b o e hf hx=>y.keep b o (x.keep b o e hf fun z=>hx (BB _ z)) hf fun z=>hx (Ax _ z)
 slot:=fun b o e hf hx=>by
  obtain⟨sl,e1⟩:=x.slot b o e hf fun z=>hx (BB _ z)
  obtain⟨sl2,e2⟩:=y.slot b {o with slots:=sl} e1 hf fun z=>hx (Ax _ z)
  exact⟨sl2,e2⟩
 size:=Nat.le_trans x.size y.size
theorem Chg.more{fs fs' ex ex':List AB}{h h':Heap}(x:Chg fs ex h h')(hf:∀b∈fs,b∈fs')(he:∀b∈ex,b∈ex'):Chg fs' ex' h h' where
 keep:=fun b o e h1 h2=>x.keep b o e (fun z=>h1 (hf b z)) fun z=>h2 (he b z)
 slot:=fun b o e h1 h2=>by
  by_cases hb:b∈fs
  ·exact x.slot b o e hb fun z=>h2 (he b z)
  ·exact⟨o.slots,x.keep b o e hb fun z=>h2 (he b z)⟩
 size:=x.size
theorem Chg.funs{fs ex:List AB}{h h':Heap}{l:List Env}(x:Chg fs ex h h')(hl:h.FunFrames base l)(hx:∀b∈ex,∀o,h.get? b=some o->∃vs,o.data= .fields vs):h'.FunFrames base l:=
 hl.of_keeps fun b o hb hnf=>by
  have hbx:b∉ex:=fun z=>by
   obtain⟨vs,hd⟩:=hx b z o hb
   exact hnf vs hd
  by_cases hbf:b∈fs
  ·obtain⟨sl,e⟩:=x.slot b o hb hbf hbx
   exact⟨_,e,rfl⟩
  ·exact⟨o,x.keep b o hb hbf hbx,rfl⟩
end
section
variable {P:AG}{w:AF}{K:AD}{mg:Str->Option AA}{base:Heap}{N:List Str}{qual:Str}{scope:Scope}{f:AB}{cd:AA}{A:AI}{outer:List Env}{s:AC}{H:Hp}{E:XK}
end
section
variable {X:Cx}{x:Str}{C:AB}{np cpos pos:Pos}{e₀:AE}{u5:List AE}{t:TA}{W:AB->Hp->Prop}
end
theorem Chg.any{fs ex:List AB}{h h':Heap}(c:Chg fs ex h h'){b:AB}{o:Obj}(e:h.get? b=some o)(hb:b∉ex):∃sl,h'.get? b=some {o with slots:=sl}:=by
 by_cases hf:b∈fs
 ·exact c.slot b o e hf hb
 ·exact⟨o.slots,c.keep b o e hf hb⟩
section
variable {X:Cx}{pins:List (AB×Obj)}{σ:L2.St}{H:Hp}{s:AC}
end
inductive FX where
 |fl (f:Fl)|rz (c:Str) (ρ:a8)
def b1i(K:AD)(mg:Str->Option AA)(E:L2.St->XK)(F0 H0 F:Hp)(σ0:L2.St)(D:C8):FX->Prop
 | .fl f=>Fin K F0 H0 F D f
 | .rz c ρ=>∃C,mg c=some (.ref C)/\∀σ a F' H',f6 F F'->J8 K F0 H0 F' H' σ ρ->H' a=none->E σ (.ref a) (some C) H'
theorem b1i.later{K:AD}{mg:Str->Option AA}{E:L2.St->XK}{F0 H0 F F1:Hp}{σ0 σ1:L2.St}{D:C8}(s:f6 F F1):∀{fx:FX},b1i K mg E F0 H0 F σ0 D fx->b1i K mg E F0 H0 F1 σ1 D fx
 | .fl _,h=>Fin.later s h
 | .rz _ _,⟨C,h1,h2⟩=>⟨C,h1,fun σ a F' H' s' so hn=>h2 σ a F' H' (s.trans s') so hn⟩
section
variable {X:Cx}{E:L2.St->XK}
end
section
variable {X:Cx}{E:L2.St->XK}{CX:CXT}
end
def left(g:List PV->Option (c6 ⊕ Str))(ps:List PV):Option c6:=(g ps).bind fun r=>match r with
 | .inl r=>some r
 | .inr _=>none
section
variable {X:Cx}
end
section
variable {X:Cx}
theorem apart{pins:List (AB×Obj)}{σ:L2.St}{H:Hp}{s:AC}{b:AB}(I:g4 X pins σ H s)(hx0:X.ex=[])(h:s.heap.get? b=none):X.s₀.heap.get? b=none/\b≠X.env.locals/\(∀x z,X.env.cells.lookup x=some z->z≠b)/\∀p∈X.pn++pins,p.1≠b:=by
 refine⟨?_,fun e=> ?_,fun x z hz e=> ?_,fun p hp e=> ?_⟩
 ·cases h0:X.s₀.heap.get? b with
  |none=>rfl
  |some o=>
   obtain⟨o',e⟩:=I.base.there b o h0 (fun z=>by rw [hx0] at z;cases z)
   rw [h] at e;cases e
 ·obtain⟨m,⟨o,_,_,ho,_⟩,_⟩:=I.loc
  rw [<-e,h] at ho;cases ho
 ·obtain⟨v,o,ho,_⟩:=I.cell x z hz
  rw [e,h] at ho;cases ho
 ·have:=(I.pin p hp).1
  rw [e,h] at this;cases this
end
section
variable {X:Cx}
end
section
variable {X:Cx}
end
section
variable {X:Cx}{pins:List (AB×Obj)}{σ:L2.St}{H:Hp}{s:AC}
end
def C8.drop(D:C8)(i:Nat):C8:=⟨fun σ H=>D.nx (σ.set i none) H,D.rt,fun σ H=>D.bk (σ.set i none) H,fun σ H=>D.ct (σ.set i none) H⟩
section
variable {X:Cx}
end
def b1B(i:Nat):Fl->Fl
 | .nx ρ=> .nx (ρ.set i none)
 | .rt r=> .rt r
 | .bk ρ=> .bk (ρ.set i none)
 | .ct ρ=> .ct (ρ.set i none)
theorem o8{α:Type}{l:List (Option α)}{i j:Nat}{r:α}(h:(l.set i none)[j]?=some (some r)):i≠j/\l[j]?=some (some r):=by
 rw [List.getElem?_set] at h
 by_cases hij:i=j
 ·rw [if_pos hij] at h
  split at h
  ·cases h
  ·cases h
 ·rw [if_neg hij] at h;exact⟨hij,h⟩
theorem J8.drop{K:AD}{F0 H0 F H:Hp}{σ:L2.St}{ρ:a8}(s:J8 K F0 H0 F H σ ρ)(i:Nat):J8 K F0 H0 F H (σ.set i none) (ρ.set i none):=by
 refine⟨s.x,⟨s.e.fh,by simp [s.e.len],fun j q e=> ?_,fun j ps e=> ?_,fun j k ps qs a hjk e1 e2 e3 e4=> ?_⟩,fun j ps a e1 e2=> ?_⟩
 ·obtain⟨n,e⟩:=o8 e
  rw [List.getElem?_set_ne n]
  exact s.e.at_ j q e
 ·exact s.e.nb j ps (o8 e).2
 ·exact s.e.ap j k ps qs a hjk (o8 e1).2 (o8 e2).2 (o8 e3).2 (o8 e4).2
 ·exact s.nw j ps a (o8 e1).2 (o8 e2).2
theorem Fin.drop{K:AD}{F0 H0 F:Hp}{D:C8}{i:Nat}:∀{fl:Fl},Fin K F0 H0 F D (b1B i fl)->Fin K F0 H0 F (C8.drop D i) fl
 | .nx _,h=>fun σ' F' H' s' so=>h _ F' H' s' (so.drop i)
 | .rt _,h=>h
 | .bk _,h=>fun σ' F' H' s' so=>h _ F' H' s' (so.drop i)
 | .ct _,h=>fun σ' F' H' s' so=>h _ F' H' s' (so.drop i)
section
variable {X:Cx}
end
section
variable {X:Cx}
end
section
variable {X:Cx}
end
section
variable {X:Cx}
end
section
variable {X:Cx}
end
section
variable {X:Cx}
end
section
variable {X:Cx}
end
section
variable {X:Cx}
end
section
variable {X:Cx}
end
section
variable {X:Cx}
end
section
variable {X:Cx}
structure a09(Φ:L2.St->Hp->Prop)(I:List Nat):Prop where
 grow:∀σ H H',Φ σ H->f6 H H'->Φ σ H'
 set:∀i∈I,∀σ H v,Φ σ H->Φ (σ.set i v) H
def a6E(Φ:L2.St->Hp->Prop)(K:AD)(F0 H0 F:Hp)(D:C8):Fl->Prop
 | .nx ρ=>∀σ' F' H',f6 F F'->J8 K F0 H0 F' H' σ' ρ->Φ σ' H'->D.nx σ' H'
 | .rt r=>∀v F' H',o9 K F0 H0 F' H' v r->D.rt v H'
 | .bk ρ=>∀σ' F' H',f6 F F'->J8 K F0 H0 F' H' σ' ρ->Φ σ' H'->D.bk σ' H'
 | .ct ρ=>∀σ' F' H',f6 F F'->J8 K F0 H0 F' H' σ' ρ->Φ σ' H'->D.ct σ' H'
theorem a6E.later{Φ:L2.St->Hp->Prop}{K:AD}{F0 H0 F F1:Hp}{D:C8}(s:f6 F F1):∀{fl:Fl},a6E Φ K F0 H0 F D fl->a6E Φ K F0 H0 F1 D fl
 | .nx _,h=>fun σ' F' H' s' so=>h σ' F' H' (s.trans s') so
 | .rt _,h=>h
 | .bk _,h=>fun σ' F' H' s' so=>h σ' F' H' (s.trans s') so
 | .ct _,h=>fun σ' F' H' s' so=>h σ' F' H' (s.trans s') so
def tMP(K:AD)(Φ:L2.St->Hp->Prop)(m:MS):TS:=fun D σ H=>∃F0 H0 F ρ fl,Φ σ H/\J8 K F0 H0 F H σ ρ/\m ρ=some fl/\a6E Φ K F0 H0 F D fl
abbrev ESP(X:Cx)(Φ:L2.St->Hp->Prop)(st:Stmt)(m:MS):Prop:=PS X st (tMP X.K Φ m)
abbrev a4u(X:Cx)(Φ:L2.St->Hp->Prop)(st:List Stmt)(m:MS):Prop:=PSs X st (tMP X.K Φ m)
variable {Φ:L2.St->Hp->Prop}{I:List Nat}
theorem a3H:a4u X Φ [] G0:=N5 a6q fun D σ H ⟨F0,H0,F,ρ,fl,φ,so,e,fin⟩=>by
 cases e
 exact fin σ F H (PU.f6.refl F) so φ
theorem Y5{st:Stmt}{m:MS}(h1:ESP X Φ st m):a4u X Φ [st] m:=a6r h1
theorem a3I{e:AE}{m:M}{pos:Pos}(he:EE X e m):ESP X Φ (.Return (some e) pos) (C5 m):=
 q9 (a50 he) fun D σ H ⟨F0,H0,F,ρ,fl,φ,so,e,fin⟩=>by
  obtain⟨r,e1,e⟩:=bind_some e
  split at e
  ·rename_i c
   cases e
   exact⟨F,ρ,r,so.e,e1,fun v F' H' o=>fin v F' H' (o9.trans so.x o)⟩
  ·cases e
theorem a5F(hS:a09 Φ I){c:AE}{a b:List Stmt}{mc:MT}{m n:MS}{pos:Pos}(hc:ET X c mc)(ha:a4u X Φ a m)(hb:a4u X Φ b n):ESP X Φ (.If c a b pos) (W5 mc m n):=
 q9 (b1a hc ha hb) fun D σ H ⟨F0,H0,F,ρ,fl,φ,so,e,fin⟩=>by
  obtain⟨b,e1,e⟩:=bind_some e
  refine⟨F,ρ,b,so.e,e1,fun F1 H1 x=> ?_⟩
  cases b with
  |true=>exact a6X ⟨F0,H0,F1,ρ,fl,hS.grow _ _ _ φ x.h,so.ext x,e,fin.later x.f⟩
  |false=>exact a6W ⟨F0,H0,F1,ρ,fl,hS.grow _ _ _ φ x.h,so.ext x,e,fin.later x.f⟩
def PvP(Φ:L2.St->Hp->Prop)(K:AD)(F0 H0 F1:Hp)(body:MS)(tg:PV->a8->Option a8)(ps:List PV)(fl:Fl)(k:Nat)(σ:L2.St)(H:Hp):Prop:=
 ∃F ρ,f6 F1 F/\J8 K F0 H0 F H σ ρ/\Φ σ H/\D4 body tg (ps.drop k) ρ=some fl
theorem W2(hS:a09 Φ I){K:AD}{F0 H0 F1:Hp}{body:MS}{i:Nat}(hi:i∈I){ps:List PV}{fl:Fl}{D:C8}{k:Nat}{p:PV}{x:V}{σ:L2.St}{H:Hp}(fin:a6E Φ K F0 H0 F1 D fl)(ep:ps[k]?=some p)
 (hp:PvP Φ K F0 H0 F1 body (j9 i) ps fl k σ H) (rx:∀F,f6 F1 F->r9 K F p x):
 a1R i x σ H fun σ2 H2=>tMP K Φ body {D with nx:=PvP Φ K F0 H0 F1 body (j9 i) ps fl (k+1),ct:=PvP Φ K F0 H0 F1 body (j9 i) ps fl (k+1),bk:=D.nx} σ2 H2:=by
 obtain⟨F,ρ,s,so,φ,e⟩:=hp
 have hk:k<ps.length:=(Ad.mp ep).1
 have hd:ps.drop k=p::ps.drop (k+1):=by
  rw [List.drop_eq_getElem_cons hk]
  congr 1
  exact(Ad.mp ep).2
 rw [hd] at e
 obtain⟨ρ1,f1,e1,e2,e3⟩:=a0q e
 cases e1
 refine⟨F0,H0,F,_,f1,hS.set i hi _ _ _ φ,so.set (o9.here so.e.fh (rx F s)) rfl i,e2, ?_⟩
 cases f1 with
 |nx ρ'=>exact fun σ2 F2 H2 s2 so2 φ2=>⟨F2,ρ',s.trans s2,so2,φ2,e3⟩
 |ct ρ'=>exact fun σ2 F2 H2 s2 so2 φ2=>⟨F2,ρ',s.trans s2,so2,φ2,e3⟩
 |bk ρ'=>cases e3;exact fun σ2 F2 H2 s2 so2 φ2=>fin σ2 F2 H2 (s.trans s2) so2 φ2
 |rt r=>cases e3;exact fin
theorem a0z{K:AD}{F0 H0 F1:Hp}{body:MS}{tg:PV->a8->Option a8}{ps:List PV}{fl:Fl}{D:C8}{σ:L2.St}{H:Hp}(fin:a6E Φ K F0 H0 F1 D fl)
 (hp:PvP Φ K F0 H0 F1 body tg ps fl ps.length σ H):D.nx σ H:=by
 obtain⟨F,ρ,s,so,φ,e⟩:=hp
 rw [List.drop_length] at e
 cases e
 exact fin σ F H s so φ
theorem a9V(hS:a09 Φ I){i:Nat}(hi:i∈I){tg iter:AE}{body:List Stmt}{m:M}{b:MS}{pos:Pos}(hp:PassesOwn (model X.prog X.w) X.A X.env X.xe)(hc:X.calm=true)(he:EE X iter m)(hg:PG X tg (a1R i))(hb:a4u X Φ body b)
 (hs:∀x,foldedSetIterable iter X.env x=pure x:=by intro _;rfl):ESP X Φ (.For tg iter body [] pos) (W4 (N4 m) (j9 i) b):=
 q9 (a2s hp hc (a8V he) hg hb hs) fun D σ H ⟨F0,H0,F,ρ,fl,φ,so,e,fin⟩=>by
  obtain⟨ps,e1,e⟩:=bind_some e
  obtain⟨q,e1,e2⟩:=bind_some e1
  obtain⟨r,e1,e3⟩:=bind_some e1
  refine⟨F,ρ,r,so.e,e1,fun v F' H' o=> ?_⟩
  obtain⟨F1,o1⟩:=o.toVal e3
  have fin1:=fin.later o1.x.f
  have so1:=so.ext o1.x
  have φ1:=hS.grow _ _ _ φ o1.x.h
  obtain⟨a,xs,rfl,hq,rl⟩:=L5 (F:=F1) (H:=F1) (PU.f6.refl F1) (show G8 X.K F1 F1 v (.val q) from o1.rep) e2
  have hlen:=rl.length
  have get:∀k x,xs[k]?=some x->∃p,ps[k]?=some p/\∀F,f6 F1 F->r9 X.K F p x:=fun k x ex=>by
   obtain⟨p,ep,rp⟩:=rl.getV ex
   exact⟨p,ep,fun F s=>r9.mono s _ rp⟩
  rcases hq with hq|hq
  ·refine⟨a,rfl,.inl ⟨⟨xs,v7 o1.x.fh hq⟩,a4P (K:=X.K) (a:=a) (xs:=xs) (PvP Φ X.K F0 H0 F1 b (j9 i) ps fl) ⟨F1,ρ,PU.f6.refl F1,so1,φ1,e⟩ (fun k σ H _ ⟨F,_,s,so2,_⟩=>v7 (s.trans so2.e.fh) hq) (fun k x σ H ex hp=> ?_) (fun σ H hp=> ?_)⟩⟩
   ·obtain⟨p,ep,rp⟩:=get k x ex
    exact W2 hS hi fin1 ep hp rp
   ·rw [hlen] at hp
    exact a0z fin1 hp
  ·refine⟨a,rfl,.inr ⟨⟨xs,k9 o1.x.fh hq⟩,a6j (K:=X.K) (a:=a) (xs:=xs) (PvP Φ X.K F0 H0 F1 b (j9 i) ps fl) ⟨F1,ρ,PU.f6.refl F1,so1,φ1,e⟩ (fun k σ H _ ⟨F,_,s,so2,_⟩=>k9 (s.trans so2.e.fh) hq) (fun k x σ H ex hp=> ?_) (fun σ H hp=> ?_)⟩⟩
   ·obtain⟨p,ep,rp⟩:=get k x ex
    exact W2 hS hi fin1 ep hp rp
   ·rw [hlen] at hp
    exact a0z fin1 hp
end
mutual
def a3K:PV->Bool
 | .none=>true
 | .bool _=>true
 | .int _=>true
 | .str _=>true
 | .tuple ps=>U8 ps
 |_=>false
def U8:List PV->Bool
 |[]=>true
 |p::ps=>a3K p && U8 ps
end
mutual
theorem a5f{K:AD}{F G:Hp}(h:∀c ys,F c=some (.tup ys)->G c=some (.tup ys)):∀(p:PV) {v:V},a3K p=true->r9 K F p v->r9 K G p v
 | .none,_,_,r=>r
 | .bool _,_,_,r=>r
 | .int _,_,_,r=>r
 | .str _,_,_,r=>r
 | .tuple ps,_,f,⟨a,xs,e,q,r⟩=>⟨a,xs,e,q.elim (fun z=> .inl (h _ _ z)) .inr,a0E h ps (by simpa [a3K] using f) r⟩
 | .list _,_,f,_=>by simp [a3K] at f
 | .dict _,_,f,_=>by simp [a3K] at f
theorem a0E{K:AD}{F G:Hp}(h:∀c ys,F c=some (.tup ys)->G c=some (.tup ys)):∀(ps:List PV) {vs:List V},U8 ps=true->f9 K F ps vs->f9 K G ps vs
 |[],_,_,r=>r
 |p::ps,_,f,⟨v,t,e,q,r⟩=>by
  have f:a3K p=true/\U8 ps=true:=by simpa [U8] using f
  exact⟨v,t,e,a5f h p f.1 q,a0E h ps f.2 r⟩
end
def keep(A:List Nat)(ρ:a8):a8:=ρ.zipIdx.map fun p=>if p.2∈A then p.1 else none
theorem Y9(A:List Nat)(ρ:a8):(keep A ρ).length=ρ.length:=by unfold keep;simp
theorem J1{A:List Nat}{ρ:a8}{j:Nat}{r:c6}(h:(keep A ρ)[j]?=some (some r)):j∈A/\ρ[j]?=some (some r):=by
 unfold keep at h
 rw [Ao,List.getElem?_zipIdx] at h
 cases e:ρ[j]? with
 |none=>rw [e] at h;simp at h
 |some q=>
  rw [e] at h
  simp only [BD,Nat.zero_add,Option.some.injEq] at h
  split at h
  ·rename_i hj;exact⟨hj,by rw [h]⟩
  ·cases h
def a3L(A:List Nat)(iH:Nat)(ρ:a8):Bool:=A.all fun j=>j==iH||match ρ[j]? with
 |some (some (.val p))=>a3K p
 |some (some _)=>false
 |_=>true
def a8D(K:AD):Bool:=K.all fun p=>match p.2.cls with
 | .type x=> !(x=="list")
 |_=>true
theorem a4Z{K:AD}(nk:a8D K=true){a:AB}{o:Obj}(e:K.lookup a=some o)(hc:o.cls= .type "list"):False:=by
 obtain⟨b,hb⟩:=a16 e
 have h:=List.all_eq_true.mp nk _ hb
 simp only [hc] at h
 simp at h
theorem a5Z{K:AD}{F H:Hp}{v:V}:∀{c:C7},C9 K F H v c->∃a o,v= .ref a/\F a=none/\H a=some o/\NT o
 | .lst _,⟨a,_,e,n,q,_⟩=>⟨a,_,e,n,q,fun _ h=>nomatch h⟩
 | .dct _,⟨a,_,e,n,q,_⟩=>⟨a,_,e,n,q,fun _ h=>nomatch h⟩
 | .txt _,⟨a,_,e,n,q,_⟩=>⟨a,_,e,n,q,fun _ h=>nomatch h⟩
theorem a6s{K:AD}{F H F' H':Hp}{a:AB}:∀{c:C7},C9 K F H (.ref a) c->f6 F F'->F' a=none->(∀o,H a=some o->H' a=some o)->C9 K F' H' (.ref a) c
 | .lst _,⟨a',xs,e,n,q,r⟩,s,f,h=>by cases e;exact⟨_,xs,rfl,f,h _ q,f9.mono s _ r⟩
 | .dct _,⟨a',xs,e,n,q,r⟩,s,f,h=>by cases e;exact⟨_,xs,rfl,f,h _ q,n8.mono s _ r⟩
 | .txt _,⟨a',xs,e,n,q,r⟩,s,f,h=>by cases e;exact⟨_,xs,rfl,f,h _ q,n8.mono s _ r⟩
def X8(F:Hp)(a:AB)(xs:List V):Hp:=fun c=>if c=a then some (.lst xs) else match F c with
 |some (.tup ys)=>some (.tup ys)
 |_=>none
theorem a70{F:Hp}{a:AB}{xs:List V}(fa:F a=none):∀c ys,F c=some (.tup ys)->X8 F a xs c=some (.tup ys):=fun c ys e=>by
 unfold X8
 rw [if_neg (fun z=>by rw [z,fa] at e;cases e),e]
theorem a6Q{F H:Hp}{a:AB}{xs:List V}(s:f6 F H)(h:H a=some (.lst xs)):f6 (X8 F a xs) H:=fun c o e=>by
 unfold X8 at e
 split at e
 ·rename_i z;rw [z];cases e;exact h
 ·split at e
  ·rename_i ys z;cases e;exact s _ _ z
  ·cases e
theorem a6P{F:Hp}{a c:AB}{xs:List V}(hc:c≠a)(f:F c=none):X8 F a xs c=none:=by
 unfold X8
 rw [if_neg hc,f]
theorem a1M{F:Hp}{a c:AB}{xs:List V}{o:HO}(e:X8 F a xs c=some o):c=a\/∃ys,o= .tup ys:=by
 unfold X8 at e
 split at e
 ·rename_i z;exact .inl z
 ·split at e
  ·rename_i ys z;cases e;exact .inr ⟨ys,rfl⟩
  ·cases e
theorem a5I{F:Hp}{a c:AB}{xs:List V}{o:Obj}{u:HO}:X8 F a xs c≠some (.frz o u):=fun e=>by
 rcases a1M e with rfl|⟨ys,z⟩
 ·unfold X8 at e;rw [if_pos rfl] at e;cases e
 ·cases z
theorem a4f{ρ:a8}{i j:Nat}{r:Option c6}{q:c6}(h:(ρ.set i r)[j]?=some (some q)):(j=i/\r=some q)\/(j≠i/\ρ[j]?=some (some q)):=by
 rw [List.getElem?_set] at h
 split at h
 ·rename_i z
  split at h
  ·exact .inl ⟨z.symm,Option.some.inj h⟩
  ·cases h
 ·rename_i z;exact .inr ⟨fun y=>z y.symm,h⟩
section
variable {X:Cx}
end
mutual
def nd:PV->Bool
 | .list ps=>ndL ps
 | .tuple ps=>ndL ps
 | .dict ((.tuple _,_)::_)=>false
 |_=>true
def ndL:List PV->Bool
 |[]=>true
 |p::ps=>nd p && ndL ps
end
section
variable {K:AD}{F:Hp}{a:AB}{xs:List (List c9×V)}
end
section
variable {X:Cx}
end
section
variable {prog:AG}{w:AF}{K:Type}[DecidableEq K]{kd:KeyKind prog w K}{A:AI}{E:AA->AC->Prop}{s:AC}
end
section
variable {X:Cx}{pins:List (AB×Obj)}{σ:L2.St}{H:Hp}{s:AC}{a:AB}{kvs:List (List c9×V)}{A:AI}{E:AA->AC->Prop}
end
section
variable {X:Cx}{o i:AE}{td ty:TE}
end
section
variable {X:Cx}
end
def byT(w:AF):Bool:=w.params.followText "set-order"
def a6G(prog:AG)(w:AF)(h:Heap)(a:AB)(es:Array (Int×AA))(ep:Nat):Prop:=
 ∃o t,h.get? a=some o/\o.ExactSet/\o.data= .set es ep t/\ElemsOf (g9 prog w) es.toList/\es.size<scanBound/\t.fits es.size=true/\t.led= !byT w/\(es.size≠0->t.plain=false)
def sOf:AA->Str
 | .str x _=>x
 |_=>⟨#[]⟩
abbrev b05(es:Array (Int×AA)):List Str:=es.toList.map fun e=>sOf e.2
structure TxE(es:Array (Int×AA))(zs:List Str):Prop where
 all:∀e∈es.toList,∃x t,e.2= .str x t
 nd:(b05 es).Nodup
 mem:∀x,x∈b05 es↔x∈zs
theorem a6G.at'{prog:AG}{w:AF}{h h':Heap}{a:AB}{es:Array (Int×AA)}{ep:Nat}(x:a6G prog w h a es ep)(e:∀o,h.get? a=some o->h'.get? a=some o):a6G prog w h' a es ep:=
 let ⟨o,t,ho,r⟩:=x;⟨o,t,e _ ho,r⟩
section
variable {prog:AG}{w:AF}{A:AI}{E:AA->AC->Prop}{s:AC}
theorem TxE.perm{es es':Array (Int×AA)}{zs:List Str}(p:es'.toList.Perm es.toList)(T:TxE es zs):TxE es' zs where
 all:=fun e he=>T.all e (p.mem_iff.mp he)
 nd:=((p.map _).nodup_iff).mpr T.nd
 mem:=fun x=>((p.map _).mem_iff).trans (T.mem x)
end
end PU
set_option maxHeartbeats 3200000
namespace PU
open PySem PySem.Spec PyProof.Rows L2 PySem.W
section
variable {prog:AG}{w:AF}{A:AI}{E:AA->AC->Prop}{s:AC}
end
end PU
set_option maxHeartbeats 1000000
namespace PU
open PySem PySem.Spec PyProof.Rows L2 PySem.W
def a4w(h:Heap)(it:AB)(first:AA)(i:Nat)(a:AB)(n ep:Nat):Prop:=∃o,h.get? it=some o/\o.cls= .type "set_iterator"/\o.data= .fields #[first,.int i 0,.ref a,.int n 0,.int ep 0]
theorem a4w.typeIs{s:AC}{it:AB}{first:AA}{i:Nat}{a:AB}{n ep:Nat}(x:a4w s.heap it first i a n ep):s.TypeIs (.ref it) "set_iterator":=let ⟨o,ho,hc,_⟩:=x;⟨o,ho,hc⟩
theorem a4w.at'{h h':Heap}{it:AB}{first:AA}{i:Nat}{a:AB}{n ep:Nat}(x:a4w h it first i a n ep)(e:∀o,h.get? it=some o->h'.get? it=some o):a4w h' it first i a n ep:=let ⟨o,ho,r⟩:=x;⟨o,e _ ho,r⟩
section
variable {prog:AG}{w:AF}{A:AI}{E:AA->AC->Prop}{s:AC}{it a:AB}{i ep:Nat}{es:Array (Int×AA)}
theorem a6G.typeIs(x:a6G prog w s.heap a es ep):s.TypeIs (.ref a) "set":=let ⟨o,_,ho,hc,_⟩:=x;⟨o,ho,hc.1⟩
end
section
variable {prog:AG}{w:AF}{A:AI}{E:AA->AC->Prop}{s:AC}{it a:AB}{i ep:Nat}{es:Array (Int×AA)}
end
section
variable {prog:AG}{w:AF}{A:AI}{E:AA->AC->Prop}{s:AC}{a:AB}{ep:Nat}{es:Array (Int×AA)}
end
section
variable {prog:AG}{w:AF}{A:AI}{E:AA->AC->Prop}{s:AC}{a:AB}{ep:Nat}{es:Array (Int×AA)}
end
section
variable {X:Cx}{pins:List (AB×Obj)}{σ:L2.St}{H:Hp}{s:AC}
end
open PySem PySem.Spec PyProof.Rows L2
theorem o9.txt{K:AD}{F H:Hp}{a:AB}(s:f6 F H)(n:H a=none):o9 K F H F (upd H a (.dK [])) (.ref a) (.ow (.txt [])):=
 ⟨G6.layH s n,⟨a,[],rfl,s.free n,g5,rfl⟩,fun _ _ _ e=>by cases e;exact n⟩
section
variable {X:Cx}
end
abbrev ItO(f0:AA)(f1:Bool)(d:AB)(i n ep:Nat)(ok ov:AA):Obj:={cls:= .type "dict_itemiterator",dict:=none,data:= .fields #[f0,.bool f1,.ref d,.int i 0,.int n 0,.int ep 0,ok,ov],slots:= #[]}
def ItA(h:Heap)(it d:AB)(i n ep:Nat):Prop:=∃f0 f1 ok ov,h.get? it=some (ItO f0 f1 d i n ep ok ov)/\((f0= .none/\f1=false)\/∃a o,f0=rawInt (a:Nat)/\h.get? a=some o/\a≠it)
theorem ItA.at'{h h':Heap}{it d:AB}{i n ep:Nat}(x:ItA h it d i n ep)(e:∀b o,h.get? b=some o->h'.get? b=some o):ItA h' it d i n ep:=by
 obtain⟨f0,f1,ok,ov,h1,h2⟩:=x
 refine⟨f0,f1,ok,ov,e _ _ h1, ?_⟩
 rcases h2 with h2|⟨a,o,h2,h3,h4⟩
 ·exact .inl h2
 ·exact .inr ⟨a,o,h2,e _ _ h3,h4⟩
section
variable {prog:AG}{w:AF}{K:Type}[DecidableEq K]{knd:KeyKind prog w K}{A:AI}{E:AA->AC->Prop}{s:AC}
end
section
variable {prog:AG}{w:AF}{A:AI}{E:AA->AC->Prop}{s:AC}
def a5y(h:Heap)(lo:Nat)(v:AA)(kv:c9×AA):Prop:=∃a key,v= .ref a/\lo<=a/\a1Z kv.1 key=true/\h.get? a=some {cls:= .type "tuple",data:= .seq #[key,kv.2]}
theorem a5y.keep{h h':Heap}{lo:Nat}{v:AA}{kv:c9×AA}(x:a5y h lo v kv)(e:∀b o,lo<=b->(∀xs n,o.data= .seq xs n->o.cls= .type "tuple"->h.get? b=some o->h'.get? b=some o)):a5y h' lo v kv:=
 let ⟨a,key,r,l,k,g⟩:=x;⟨a,key,r,l,k,e a _ l _ _ rfl rfl g⟩
end
end PU
namespace TS
open PySem PySem.Spec PyProof.Rows L2 PU
section
variable {prog:AG}{w:AF}{A:AI}{E:AA->AC->Prop}{s:AC}
variable {κ:SortKind}{S:Heap->Keyed->Prop}{R:Heap->Keyed->Keyed->Bool}
end
end TS
namespace PU
open PySem PySem.Spec PyProof.Rows L2 PySem.W
section
variable {X:Cx}{pins:List (AB×Obj)}{σ:L2.St}{H H':Hp}{s:AC}{h':Heap}
end
section
variable {X:Cx}
end
section
variable {X:Cx}
end
open PySem PySem.Spec PyProof.Rows L2
section
variable {X:Cx}{pins:List (AB×Obj)}{σ:L2.St}{H:Hp}{s:AC}{a:AB}{kvs:List (c9×V)}{k:c9}{v:V}{u r:AA}{A:AI}{E:AA->AC->Prop}
end
theorem a9e{K:AD}{H:Hp}{a D:AB}{xs:List V}{kvs kvs':List (c9×V)}(e:H D=some (.dK kvs))(h:M5 K H a xs):M5 K (upd H D (.dK kvs')) a xs:=by
 rcases h with(h|⟨o,h⟩)|h
 ·exact .inl (.inl (by rw [d6 (V2 h e (fun z=>nomatch z))];exact h))
 ·exact .inl (.inr ⟨o,by rw [d6 (V2 h e (fun z=>nomatch z))];exact h⟩)
 ·exact .inr h
def a7A(K:AD)(H:Hp)(p:c9×V)(x:V):Prop:=∃a,x= .ref a/\M5 K H a [kV p.1,p.2]
theorem a7A.upd{K:AD}{H:Hp}{D:AB}{kvs kvs':List (c9×V)}(e:H D=some (.dK kvs)){p:c9×V}{x:V}(h:a7A K H p x):a7A K (upd H D (.dK kvs')) p x:=
 let ⟨a,h1,h2⟩:=h
 ⟨a,h1,a9e e h2⟩
section
variable {X:Cx}{pins:List (AB×Obj)}{σ:L2.St}{A:AI}{R:Result->AC->Prop}
end
section
variable {X:Cx}
end
section
variable {X:Cx}
end
abbrev tv(kvs:List (List c9×PV)):PV:= .dict (kvs.map fun kv=>(PyData.tuple (kv.1.map kP),kv.2))
section
variable {X:Cx}
end
mutual
def nk:PV->Bool
 | .list ps=>nkL ps
 | .tuple ps=>nkL ps
 | .dict _=>false
 |_=>true
def nkL:List PV->Bool
 |[]=>true
 |p::ps=>nk p && nkL ps
end
section
variable {K:AD}{F:Hp}{a:AB}{xs:List (c9×V)}
end
section
variable {X:Cx}
end
def a2N(F:Hp):Hp:=fun c=>match F c with
 |some (.tup ys)=>some (.tup ys)
 |_=>none
theorem a73{F:Hp}:∀c ys,F c=some (.tup ys)->a2N F c=some (.tup ys):=fun c ys e=>by unfold a2N;rw [e]
theorem a1O{F:Hp}{c:AB}{o:HO}(e:a2N F c=some o):F c=some o/\∃ys,o= .tup ys:=by
 unfold a2N at e
 split at e
 ·rename_i ys z;cases e;exact⟨z,ys,rfl⟩
 ·cases e
theorem a29{F:Hp}{c:AB}(f:F c=none):a2N F c=none:=by unfold a2N;rw [f]
theorem a72{F:Hp}{c:AB}{xs:List V}(H:Hp)(s:f6 F H)(h:H c=some (.lst xs)):a2N F c=none:=by
 cases e:a2N F c with
 |none=>rfl
 |some o=>
  obtain⟨e1,ys,rfl⟩:=a1O e
  rw [s _ _ e1] at h;cases h
section
variable {X:Cx}
end
section
variable {prog:AG}{w:AF}{A:AI}{E:AA->AC->Prop}{s:AC}{z TI TO i1 i2:AB}{n1 n2 i:Nat}{P1 P2:Nat->AA->Prop}{St1 St2:Nat->Heap->Prop}{a b:AA}
end
section
variable {X:Cx}
end
section
variable {prog:AG}{w:AF}{K:Type}[DecidableEq K]{knd:KeyKind prog w K}{A:AI}{E:AA->AC->Prop}{s:AC}
end
section
variable {X:Cx}
end
section
variable {X:Cx}{tg:AE}
end
end PU
set_option maxHeartbeats 3200000
namespace PU
open PySem PySem.Spec PyProof.Rows L2 PySem.W
section
variable {prog:AG}{w:AF}{A:AI}{E:AA->AC->Prop}{s:AC}
end
end PU
set_option maxHeartbeats 1000000
namespace PU
open PySem PySem.Spec PyProof.Rows L2
section
variable {X:Cx}
def b3o(X:Cx):List V->Hp->VK->Prop:=fun xs H Q=>∃(a:AB) (zs:List Str),xs=[.ref a]/\H a=some (.lst (zs.map V.str))/\zs.length+1<4096/\∀p es ep,H p=none->TxE es zs->es.size<=zs.length->Q (.ref p) (upd H p (.ext fun h=>a6G X.prog X.w h p es ep))
end
section
variable {X:Cx}
end
section
variable {X:Cx}
end
section
open AutoSeq1 (wpAny_loadPart')
open PySem.MeetsSeq3 (plain_eq_loop entry_eq_loop)
theorem a64(l b:AB)(xs ys:Array AA)(n n2:Nat)(dd dd2:Option AB)(sl sl2:Array (Option AA))(e:Nat->Bool)(c:Bool)(k:Nat):
 ∀i:Nat,min xs.size ys.size - i=k->i<=min xs.size ys.size->(∀j,j<i->e j=true)->Meets (Builtin.«list.__eq__.loop» ⟨[.ref l,.ref b,rawInt i,rawInt 0],[]⟩)
  (fun A R s=>s.heap.get? l=some {cls:= .type "list",dict:=dd,data:= .seq xs n,slots:=sl}/\s.heap.get? b=some {cls:= .type "list",dict:=dd2,data:= .seq ys n2,slots:=sl2}/\
   (∀j (h1:j<xs.size) (h2:j<ys.size),SeqAt.EqAt A.in1 s xs[j] ys[j] (e j))/\(∀j (h1:j<xs.size) (h2:j<ys.size),(∀k,k<j->e k=true)->e j=false->V6 A.in1 s xs[j] ys[j] c)/\
   ((∀k,k<min xs.size ys.size->e k=true)->c=decide (xs.size<ys.size))/\R (.ok (.ret (.bool c))) s):=by
 induction k with
 |zero=>
  intro i hk hi hb4 prog w A R s h
  obtain⟨hp,g,d,tk,os⟩:=s;obtain⟨hl,hb,he,hlt,hce,h⟩:=h
  have hce':=hce fun k hk'=>hb4 k (by lia)
  wp_walk using wpAny_loadPart' hl,wpAny_loadPart' hb
  rcases Nat.lt_or_ge i xs.size with h1|h1
  ·have h2:ys.size<=i:=by lia
   have hi1:xs[((i:Nat):Int).toNat]?=some xs[i]:=by simp [h1]
   have hi2:ys[((i:Nat):Int).toNat]?=none:=by simp;lia
   rw [hi1,hi2]
   wp_walk using wpAny_loadPart' hl,wpAny_loadPart' hb
   show R (.ok (.ret (.bool (decide (xs.size<ys.size))))) _
   rw [<-hce'];exact h
  ·have hi1:xs[((i:Nat):Int).toNat]?=none:=by simp;lia
   rw [hi1]
   wp_walk using wpAny_loadPart' hl,wpAny_loadPart' hb
   show R (.ok (.ret (.bool (decide (xs.size<ys.size))))) _
   rw [<-hce'];exact h
 |succ k ih=>
  intro i hk hi hb4 prog w A R s h
  obtain⟨hp,g,d,tk,os⟩:=s;obtain⟨hl,hb,he,hlt,hce,h⟩:=h
  wp_walk using wpAny_loadPart' hl,wpAny_loadPart' hb
  have h1:i<xs.size:=by lia
  have h2:i<ys.size:=by lia
  have hi1:xs[((i:Nat):Int).toNat]?=some xs[i]:=by simp [h1]
  have hi2:ys[((i:Nat):Int).toNat]?=some ys[i]:=by simp [h2]
  have hc:((i:Int)+1)=((i+1:Nat):Int):=by push_cast;rfl
  rw [hi1,hi2]
  refine AK (he i h1 h2 prog w _ _ ?_)
  cases hq:e i with
  |true=>
   wp_walk
   rw [hc]
   exact⟨plainId_quiet plain_eq_loop _,codeAny_builtin entry_eq_loop (by
    rw [Around.under_plainId plain_eq_loop _]
    exact ih (i+1) (by lia) (by lia) (fun j hj=>by
     rcases Nat.lt_or_ge j i with h'|h'
     ·exact hb4 j h'
     ·rw [show j=i by lia];exact hq) prog w A R _ ⟨hl,hb,he,hlt,hce,h⟩)⟩
  |false=>
   have hl3:=hlt i h1 h2 hb4 hq
   wp_walk using wpAny_loadPart' hl,wpAny_loadPart' hb
   rw [hi1,hi2]
   show AH _ A.in1 (richCompare .Lt xs[i] ys[i]>>=fun v=>ret v) _ _ _
   refine AK (hl3 prog w _ _ ?_)
   exact AS h
theorem a2P(l b:AB)(xs ys:Array AA)(n n2:Nat)(dd dd2:Option AB)(sl sl2:Array (Option AA))(e:Nat->Bool)(c:Bool):
 Meets (Builtin.«list.__lt__» ⟨[.ref l,.ref b],[]⟩)
  (fun A R s=>s.heap.get? l=some {cls:= .type "list",dict:=dd,data:= .seq xs n,slots:=sl}/\s.heap.get? b=some {cls:= .type "list",dict:=dd2,data:= .seq ys n2,slots:=sl2}/\
   (∀j (h1:j<xs.size) (h2:j<ys.size),SeqAt.EqAt A.in1 s xs[j] ys[j] (e j))/\(∀j (h1:j<xs.size) (h2:j<ys.size),(∀k,k<j->e k=true)->e j=false->V6 A.in1 s xs[j] ys[j] c)/\
   ((∀k,k<min xs.size ys.size->e k=true)->c=decide (xs.size<ys.size))/\R (.ok (.ret (.bool c))) s):=by
 intro prog w A R s h
 obtain⟨hp,g,d,tk,os⟩:=s;obtain⟨hl,hb,he,hlt,hce,h⟩:=h
 have f3:=AutoSeq1.sub_list_list
 wp_walk using wpAny_loadPart' hl,wpAny_loadPart' hb
 exact⟨plainId_quiet plain_eq_loop _,codeAny_builtin entry_eq_loop (by
  rw [Around.under_plainId plain_eq_loop _]
  exact a64 l b xs ys n n2 dd dd2 sl sl2 e c _ 0 rfl (Nat.zero_le _) (fun j hj=>by lia) prog w A R _ ⟨hl,hb,he,hlt,hce,h⟩)⟩
variable {A:AI}{s:AC}
theorem V6.lists{l b:AB}{xs ys:Array AA}{e:Nat->Bool}{c:Bool}(hl:s.heap.IsList l xs)(hb:s.heap.IsList b ys)(hu:A.units<cLine)
 (he:∀j (h1:j<xs.size) (h2:j<ys.size),SeqAt.EqAt A.in1 s xs[j] ys[j] (e j)) (hlt:∀j (h1:j<xs.size) (h2:j<ys.size),(∀k,k<j->e k=true)->e j=false->V6 A.in1 s xs[j] ys[j] c)
 (hce:(∀k,k<min xs.size ys.size->e k=true)->c=decide (xs.size<ys.size)):V6 A s (.ref l) (.ref b) c:=fun prog w E Q h=>by
 obtain⟨⟨c1,d1,t1,s1⟩,o1,e1,n1,k1⟩:=id hl
 obtain⟨⟨c2,d2,t2,s2⟩,o2,e2,n2,k2⟩:=id hb
 simp only at e1 k1 e2 k2
 subst e1 k1 e2 k2
 exact richCompare_meets_room (op:= .Lt) ⟨_,o1,rfl⟩ ⟨_,o2,rfl⟩ PySem.F.slot_list_lt PySem.F.entry_list_lt (PySem.F.args_list_lt_2 _ _) (a2P l b xs ys n1 n2 d1 d2 s1 s2 e c)
  ⟨o1,o2,he,hlt,hce,show Value.bool c≠Value.notImplemented/\Q (.bool c) s from⟨(fun x=>nomatch x),h⟩⟩ hu
end
open PySem PySem.Spec PyProof.Rows L2 PySem.W
abbrev PtL:=List (Int×Int)
def plv(p:Int×Int):PV:= .tuple [.int p.1,.int p.2]
def llv(L:PtL):PV:= .list (L.map plv)
section
variable {X:Cx}{pins:List (AB×Obj)}{σ:L2.St}{H:Hp}{s:AC}
def Gd(X:Cx)(H:Hp)(v:AA)(L:PtL):Prop:=∃x,i6 x v/\r9 X.K H (llv L) x
theorem b0w{p q:Int×Int}(h:plv p=plv q):p=q:=by
 unfold plv at h
 injection h with h
 injection h with h1 h
 injection h with h2 _
 injection h1 with h1
 injection h2 with h2
 exact Prod.ext h1 h2
theorem b0d{L M:PtL}(h:llv L=llv M):L=M:=by
 unfold llv at h
 injection h with h
 exact List.map_inj_right (fun _ _=>b0w)|>.mp h
theorem Gd.uniq(I:g4 X pins σ H s){v:AA}{L M:PtL}(h:Gd X H v L)(g:Gd X H v M):L=M:=by
 obtain⟨x,r,h⟩:=h
 obtain⟨y,t,g⟩:=g
 obtain⟨a,xs,rfl,h1,h2⟩:=id h
 obtain⟨b,ys,rfl,g1,g2⟩:=id g
 cases r
 cases t
 exact b0d (r9.inj I _ _ h g)
end
theorem a1Y{ρ:a8}{j:Nat}{r:c6}(h:(keep [] ρ)[j]?=some (some r)):False:=by
 have:=(J1 h).1
 cases this
theorem a9R{K:AD}{H:Hp}{σ:L2.St}{ρ:a8}(h:σ.length=ρ.length):p9 K (fun _=>none) H σ (keep [] ρ):=
 ⟨fun _ _ z=>(nomatch z),by rw [Y9];exact h,fun _ _ z=>(a1Y z).elim,fun _ _ z=>a1Y z,fun _ _ _ _ _ _ z=>(a1Y z).elim⟩
section
variable {X:Cx}
end
section
variable {X:Cx}
end
def a2W(H:Hp)(b:AB)(xs:List V)(n:Nat):Prop:=∃e:List V,e.length<=n/\H b=some (.lst (xs++e))
theorem a2W.same{H H':Hp}{b:AB}{xs:List V}{n:Nat}(g:a2W H b xs n)(s:f6 H H'):a2W H' b xs n:=let ⟨e,l,h⟩:=g;⟨e,l,s _ _ h⟩
structure Pk(K:AD)(H:Hp)(ah a0 a3 b1 b2 b3:AB)(z0 z3 y1 y2 y3:List V)(J:Hp)(n:Nat):Prop where
 t0:M5 K J a0 z0
 t3:M5 K J a3 z3
 g1:a2W J b1 y1 n
 g2:a2W J b2 y2 n
 g3:a2W J b3 y3 n
 o:∀c u,c≠ah->H c=some u->J c=some u
section
variable {K:AD}{H J J':Hp}{ah a0 a3 b1 b2 b3 c:AB}{z0 z3 y1 y2 y3:List V}{n:Nat}
theorem Pk.same(p:Pk K H ah a0 a3 b1 b2 b3 z0 z3 y1 y2 y3 J n)(s:f6 J J'):Pk K H ah a0 a3 b1 b2 b3 z0 z3 y1 y2 y3 J' n:=
 ⟨k9 s p.t0,k9 s p.t3,p.g1.same s,p.g2.same s,p.g3.same s,fun c u h q=>s _ _ (p.o c u h q)⟩
end
section
variable {X:Cx}
theorem a6g(i:Nat){st:List Stmt}{n:MS}(h:ESs X st n):ESs X st (Z2 i n):=N5 h fun D σ H ⟨F0,H0,F,ρ,fl,so,e,fin⟩=>by
 unfold Z2 at e
 split at e
 ·rename_i ps eo
  obtain⟨F',s,so'⟩:=so.frz eo
  exact⟨F0,H0,F',_,fl,so',e,fin.later s⟩
 ·exact⟨F0,H0,F,ρ,fl,so,e,fin⟩
end
section
variable {X:Cx}
end
def Df0(K:AD)(x:Str)(st:Stmt):Prop:=∃f fd,PySem.W.nsIn K mainGlobals x=some (some (.ref f))/\Fun K x x st f fd
def Df(K:AD)(mg:Str->Option AA)(x:Str)(st:Stmt):Prop:=∃f fd,Fun K x x st f fd/\mg x=some (.ref f)
theorem b2Y{K:AD}{x:Str}{st:Stmt}{f:AB}{oc:AA}{od an:Option AB}{osl:Array (Option AA)}{kV doc pm cdv ct:AA}(a:PySem.W.nsIn K mainGlobals x=some (some (.ref f)))
 (l:K.lookup f=some ⟨oc,od,.func (PySem.W.fnOf x x (I0 st) (v8 st) (d7 st) .none kV doc pm an cdv ct),osl⟩) (c:PySem.W.codeIn K cdv x=true) (k:PySem.W.keepIn K (.ref f)=true):Df0 K x st:=⟨_,_,a,b1E l c k⟩
theorem Df0.to{K:AD}{h:Heap}{mg:Str->Option AA}{x:Str}{st:Stmt}(d:Df0 K x st)(X:K.In h)(G:h.Ns mainGlobals mg):Df K mg x st:=let ⟨f,fd,a,F⟩:=d;⟨f,fd,F,PySem.W.mg_of X G a⟩
theorem mkS{N P:List Str}{sc:Scope}(h1:sc.kind= .function:=by rfl)(h2:sc.isCoroutine=false:=by rfl)(h3:sc.isGenerator=false:=by rfl)(h4:N.Nodup:=by decide+kernel)(h5:N.take P.length=P:=by rfl)
 (h6:∀x∈P,sc.names.lookup x=some .local\/sc.names.lookup x=some .cell:=by decide+kernel) (h7:∀y∈sc.names,y.2≠.free:=by decide+kernel):j3 N P sc:=⟨h1,h2,h3,h4,h5,h6,h7⟩
section
variable {P:AG}{w:AF}{K:AD}{mg:Str->Option AA}{base:Heap}
theorem v3{x:Str}{st:Stmt}{N ps:List Str}{k:Nat}{m:MS}(D:Df K mg x st)(S:j3 N ps (d7 st))
 (hi:∀(kV doc pm:AA) (an:Option AB) (cdv ct:AA) (us:List AA),us.length=ps.length->bindArgs (PySem.W.fnOf x x (I0 st) (v8 st) (d7 st) .none kV doc pm an cdv ct) ⟨us,[]⟩=pure (ps.zip us))
 (hb:∀(f:AB) (cdv:AA) (A:AI) (outer:List Env) (s:AC) (H:Hp) (E:XK),A0 k (A.deeper (envOfC x (d7 st) s.heap.objs.size f cdv))->ESs (a2O CX0 P w K mg base N x (d7 st) f cdv A outer s H E).nox (v8 st) m):
 u6 P w K mg base x ps (k+1) (G3 (N.length - ps.length) m):=
 let ⟨f,fd,F,hm⟩:=D
 ⟨f,fd,b01 F S (hb f),hm,F.kp,F.binds hi⟩
theorem b0b{fa:AB}{st:Stmt}{x:Str}{k:Nat}{g:List PV->Option c6}(D:Df K mg "law" st)(hfa:mg "law"=some (.ref fa))
 (hi:∀(kV doc pm:AA) (an:Option AB) (cdv ct v:AA),bindArgs (PySem.W.fnOf "law" "law" (I0 st) (v8 st) (d7 st) .none kV doc pm an cdv ct) ⟨[v],[]⟩=pure [(x,v)])
 (main:∀ns:List Int,ns.length<=63->g [.list (ns.map .int)]=some (.val (.bool true)))
 (H:∀(base:Heap) (f:AB) (fd:FuncData),K.In base->Fun K "law" "law" st f fd->E2 P w K mg base CX0 k f fd [x] (spP K 1 g)):
 ∃fd:FuncData,(∀(s:AC) (v:AA),BindsTo s fd ⟨[v],[]⟩ [(x,v)])/\∀base:Heap,K.In base->base.Ns mainGlobals mg->E2 P w K mg base CX0 k fa fd [x] (a5i K):=by
 obtain⟨f,fd,F,hm⟩:=D
 have e:=hfa.symm.trans hm
 cases e
 refine⟨fd,fun s v=> ?_,fun base kb _=>(H base _ fd kb F).imp (b0c main)⟩
 obtain⟨oc,od,kV,doc,pm,an,cdv,ct,osl,rfl,lk,hcd⟩:=F.ex
 exact .of_eq (hi kV doc pm an cdv ct v)
end
theorem el1{C:List AA->Prop}(h:∀a,C [a])(us:List AA)(e:us.length=1):C us:=by
 obtain⟨a,rfl⟩:=List.length_eq_one_iff.mp e
 exact h a
theorem elS{n:Nat}{us:List AA}(e:us.length=n+1):∃a t,us=a::t/\t.length=n:=by
 cases us with
 |nil=>cases e
 |cons a t=>exact⟨a,t,rfl,Nat.succ.inj e⟩
theorem el2{C:List AA->Prop}(h:∀a b,C [a,b])(us:List AA)(e:us.length=2):C us:=by
 obtain⟨a,t,rfl,z⟩:=elS e
 exact el1 (C:=fun t=>C (a::t)) (h a) t z
theorem el3{C:List AA->Prop}(h:∀a b c,C [a,b,c])(us:List AA)(e:us.length=3):C us:=by
 obtain⟨a,t,rfl,z⟩:=elS e
 exact el2 (C:=fun t=>C (a::t)) (h a) t z
theorem el4{C:List AA->Prop}(h:∀a b c d,C [a,b,c,d])(us:List AA)(e:us.length=4):C us:=by
 obtain⟨a,t,rfl,z⟩:=elS e
 exact el3 (C:=fun t=>C (a::t)) (h a) t z
def a9C(K:AD)(F:Hp)(v:V)(r:c6):Prop:=∃ps a xs,r= .val (.tuple ps)/\v= .ref a/\F a=some (.tup xs)/\f9 K F ps xs
theorem a9C.mono{K:AD}{F F':Hp}{v:V}{r:c6}(l:a9C K F v r)(s:f6 F F'):a9C K F' v r:=let ⟨ps,a,xs,e1,e,h,rl⟩:=l;⟨ps,a,xs,e1,e,s _ _ h,f9.mono s _ rl⟩
section
variable {X:Cx}
end
def spL(K:AD)(n:Nat)(g:List PV->Option c6):Sp:=fun vs H Q _=>∃F ps r,f6 F H/\f9 K F ps vs/\ps.length=n/\g ps=some r/\∀v F' H',o9 K F H F' H' v r->a9C K F' v r->Q v H'
def a7v(P:AG)(w:AF)(K:AD)(mg:Str->Option AA)(base:Heap)(x:Str)(ps:List Str)(k:Nat)(g:List PV->Option c6):Prop:=
 ∃f fd,E2 P w K mg base CX0 k f fd ps (spL K ps.length g)/\mg x=some (.ref f)/\PySem.W.keepIn K (.ref f)=true/\X6 K fd ps []
theorem a7v.ok{P:AG}{w:AF}{K:AD}{mg:Str->Option AA}{base:Heap}{x:Str}{ps:List Str}{k:Nat}{g:List PV->Option c6}(d:a7v P w K mg base x ps k g):u6 P w K mg base x ps k g:=by
 obtain⟨f,fd,G,r⟩:=d
 exact⟨f,fd,G.imp fun vs H Q E ⟨F,ps,r,s,rl,hl,e,k⟩=>⟨F,ps,r,s,rl,hl,e,fun v F' H' o _=>k v F' H' o⟩,r⟩
section
variable {X:Cx}
end
section
variable {X:Cx}
end
section
variable {X:Cx}
end
def a4Q(x y:c6):Option c6:=match x,y.mine with
 | .val (.list qs),some ps=>if qs.length+ps.length<=AL then some (.own (qs++ps)) else none
 |_,_=>none
section
variable {X:Cx}
theorem a46(nl:a8D X.K=true):OpM X (binaryOp .Add) a4Q:=by
 intro pins s σ H x y v u Q I rx ry h
 obtain⟨F,ra,rb,rz,s0,h1,h2,h3,k⟩:=h
 unfold a4Q at h3
 split at h3
 case h_2=>cases h3
 rename_i qs ps e1
 split at h3
 case isFalse=>cases h3
 rename_i c
 cases h3
 obtain⟨a,xs,rfl,_,hq,r⟩:=a2e h2 e1
 obtain⟨b,ys,rfl,hq',r'⟩:=(show r9 X.K F (.list qs) x from h1)
 cases rx
 cases ry
 obtain⟨z,its,n,rv,hl,e⟩:=I.lstM hq
 have hz:ys.length<=AL/\∃(its2:List AA) (n2:Nat),g6 ys its2/\s.heap.get? b=some {cls:= .type "list",data:= .seq its2.toArray n2}:=by
  rcases v7 s0 hq' with h|⟨w,_,_,h1,h2,_⟩
  ·obtain⟨z,its,n,r,e⟩:=h.ok I.hok
   exact⟨z,its,n,r,e⟩
  ·exact(a4Z nl h1 h2).elim
 obtain⟨z2,its2,n2,rv2,e2⟩:=hz
 have hl2:=rv2.length
 have hs:ys.length+xs.length<=AL:=by rw [r.length,r'.length];exact c
 refine PySem.P.add_list e2 e ?_ (by rw [AY,AY];lia)
 have ea:its2.toArray++its.toArray=(its2++its).toArray:=by simp
 rw [ea]
 exact⟨.ref _,_,I.lnew (t':=s.toks) (rv2.append rv) (by rw [Aa];lia),rfl,k _ _ _ (o9.lst s0 I.fresh (r'.append r))⟩
end
section
variable {X:Cx}
def a3Y(m mk:M):M:=fun ρ=>(m ρ).bind fun r=>match r with
 | .ow (.dct kvs)=>((mk ρ).bind F9).bind fun kk=>(l8 kvs kk).map .val
 |_=>none
theorem a7R{eo ek:AE}{pos:Pos}{m mk:M}(hu:X.A.units+64<cLine)(nk:V3 X.K=true)(hx:EE X eo m)(hi:EE X ek mk)(hs:a4x ek:=by intro _ _;rfl):EE X (.Subscript eo ek pos) (a3Y m mk):=
 p8 (a1n (by lia) hx hi hs) fun σ H Q ⟨F,ρ,r,en,e,k⟩=>by
  obtain⟨r0,e1,e⟩:=bind_some e
  split at e
  ·rename_i kvs
   obtain⟨kk,e4,e⟩:=bind_some e
   obtain⟨rk,e4,e5⟩:=bind_some e4
   cases hv:l8 kvs kk with
   |none=>rw [hv] at e;cases e
   |some q=>
    rw [hv] at e;cases e
    refine⟨F,ρ,_,en,e1,fun u F1 H1 o1=> ?_⟩
    obtain⟨a,xs,rfl,fa,ha',rl⟩:=o1.rep
    obtain⟨y,hy,ry⟩:=(rl.val (k:=kk)).1 q hv
    refine⟨F1,ρ,rk,en.ext o1.x,e4,fun z F3 H3 o3=> ?_⟩
    obtain⟨b,rfl,hb⟩:=L6 nk e5 o3.rep
    exact⟨a,y,rfl,by rw [<-hy];exact V5.t (o3.x.h _ _ ha') (o3.x.fh _ _ hb),k _ _ _ (o9.val (o1.x.trans o3.x) (r9.mono o3.x.f _ ry))⟩
  ·cases e
theorem a65{m mk:M}{ρ:a8}{rk:c6}{kk:List c9}{p:PV}{kvs:List (List c9×PV)}(h1:m ρ=some (.ow (.dct kvs)))(h2:mk ρ=some rk)(h4:F9 rk=some kk)(h3:l8 kvs kk=some p):a3Y m mk ρ=some (.val p):=by
 unfold a3Y
 rw [h1,AQ]
 show((mk ρ).bind F9).bind _=_
 rw [h2,AQ,h4,AQ,h3]
 rfl
end
theorem a5P{K:AD}{F H F3 H3:Hp}{a:AB}{xs:List V}{u:V}{r:c6}(fa:F a=none)(o:o9 K (upd F a (.lst xs)) H F3 H3 u r)(c:r.noL=true):o9 K F H (drp F3 a) H3 u r:=by
 have up:f6 F (upd F a (.lst xs)):=B0 fa
 refine⟨⟨fun b o' z=> ?_,o.x.h,fun b o' z=> ?_,fun b o' z y t=> ?_,a8B o.x.nf⟩,a5d (o.x.f _ _ g5) o.rep c,o.fr⟩
 ·have hb:b≠a:=f7 z fa
  rw [K0 hb];exact o.x.f _ _ (up _ _ z)
 ·by_cases hb:b=a
  ·subst hb;rw [P9] at z;cases z
  ·rw [K0 hb] at z;exact o.x.fh _ _ z
 ·by_cases hb:b=a
  ·subst hb;exact P9
  ·rw [K0 hb];exact o.x.nw b o' (by rw [d6 hb];exact z) y t
theorem a8t{F H:Hp}{a:AB}{xs:List V}(fh:f6 F H)(ha:H a=some (.lst xs)):f6 (upd F a (.lst xs)) H:=fun b o z=>by
 by_cases hb:b=a
 ·subst hb;rw [g5] at z;cases z;exact ha
 ·rw [d6 hb] at z;exact fh _ _ z
def spN(K:AD)(g:List PV->Option c6):Sp:=fun vs H Q _=>∃F p v a xs ps r,vs=[v,.ref a]/\f6 F H/\F a=none/\H a=some (.lst xs)/\r9 K F p v/\f9 K F ps xs/\g [p,.list ps]=some r/\∀v F' H',o9 K F H F' H' v r->Q v H'
def a5w(P:AG)(w:AF)(K:AD)(mg:Str->Option AA)(base:Heap)(x:Str)(ps:List Str)(k:Nat)(g:List PV->Option c6):Prop:=
 ∃f fd,E2 P w K mg base CX0 k f fd ps (spN K g)/\mg x=some (.ref f)/\PySem.W.keepIn K (.ref f)=true/\X6 K fd ps []
def b0F(n:Nat)(m1:M)(m:MS):List PV->Option c6
 |[p,.list ps]=>match m1 (some (.val p)::some (.val (.list ps))::AT n none) with
  |some r=>if r.noL=true/\r.nb=true then match m ((some (.val p)::none::AT n none).set 2 (some r)) with
   |some (.rt q)=>some q
   |_=>none
   else none
  |none=>none
 |_=>none
def ENs(X:Cx)(st:List Stmt)(m1:M)(m:MS):Prop:=PSs X st (fun D σ H=>tM X.K m1 σ H fun v H1=>tMS X.K m D (σ.set 2 (some v)) H1)
theorem b21{X:Cx}{x:Str}{e:AE}{u5:List Stmt}{m1:M}{m:MS}{pos pos':Pos}(hN:X.N.Nodup)(he:EE X e m1)(hr:ESs X u5 m)(hi:X.N[2]?=some x:=by rfl)(hx:Loc X.env.scope x:=by exact Or.inl rfl)(hs:swapsWith e (some (.Name x pos')) pos.line X.env=pure false:=by rfl)(hf:X.fn x=true\/X.env.scope.names.lookup x=some .local:=by first|exact .inl rfl|exact .inr rfl|assumption):
 ENs X (.Assign [.Name x pos'] e pos::u5) m1 m:=
 N5 (C6 (a2t hN hi hx he hs hf) hr) fun D σ H h=>h
theorem b1C{P:AG}{w:AF}{K:AD}{mg:Str->Option AA}{base:Heap}{x qual:Str}{st:Stmt}{f:AB}{fd:FuncData}{N:List Str}{pa pb:Str}{k:Nat}{m1:M}{m:MS}(F:Fun K x qual st f fd)(S:j3 N [pa,pb] (d7 st))
 (hb:∀(cdv:AA) (A:AI) (outer:List Env) (s:AC) (H:Hp) (E:XK),A0 k (A.deeper (envOfC qual (d7 st) s.heap.objs.size f cdv))->ENs (a2O CX0 P w K mg base N qual (d7 st) f cdv A outer s H E).nox (v8 st) m1 m):
 E2 P w K mg base CX0 (k+1) f fd [pa,pb] (spN K (b0F (N.length - 2) m1 m)):=by
 refine F.ok S (fun vs H Q E h=> ?_) (fun cdv A outer s H vs Q E hr h=> ?_)
 ·obtain⟨_,_,v,a,_,_,_,rfl,_⟩:=h;rfl
 ·obtain⟨F1,p,v,a,xs,ps,r,rfl,s1,fa,ha,rp,rl,e,kq⟩:=h
  refine⟨_,hb cdv A outer s H E hr, ?_⟩
  unfold b0F at e
  simp only at e
  split at e
  case h_2=>cases e
  rename_i r1 e1
  split at e
  case isFalse=>cases e
  rename_i c
  split at e
  case h_2=>cases e
  rename_i q e2
  cases e
  have up:f6 F1 (upd F1 a (.lst xs)):=B0 fa
  have so:=a2H (K:=K) (H:=H) (ps:=[p,.list ps]) (vs:=[v,.ref a]) (N.length - 2) (a8t s1 ha) ⟨v,[.ref a],rfl,r9.mono up _ rp,.ref a,[],rfl,⟨a,xs,rfl,H9.of g5,f9.mono up _ rl⟩,rfl⟩
  have so0:=a2H (K:=K) (H:=H) (ps:=[p]) (vs:=[v]) (1+(N.length - 2)) s1 ⟨v,[],rfl,rp,rfl⟩
  refine⟨upd F1 a (.lst xs),_,r1,so.e,e1,fun u F3 H3 o=> ?_⟩
  have o':=a5P fa o c.1
  have so1:J8 K F1 H F1 H ([some v,some (.ref a)]++AT (N.length - 2) none) (some (.val p)::none::AT (N.length - 2) none):=by
   have at_:∀(j:Nat) (q:c6),(some (c6.val p)::none::AT (N.length - 2) none)[j]?=some (some q)->j=0/\q= .val p:=fun j q z=>by
    cases j with
    |zero=>cases z;exact⟨rfl,rfl⟩
    |succ j=>
     cases j with
     |zero=>cases z
     |succ j=>
      rw [List.getElem?_cons_succ,List.getElem?_cons_succ,List.getElem?_replicate] at z
      split at z<;>cases z
   refine⟨G6.refl s1,⟨s1,by simp,fun j q z=> ?_,fun j c z=> ?_,fun j k c d b _ z=> ?_⟩,fun j c b z=> ?_⟩
   ·obtain⟨rfl,rfl⟩:=at_ j q z
    exact⟨v,rfl,rp⟩
   ·cases(at_ j _ z).2
   ·cases(at_ j _ z).2
   ·cases(at_ j _ z).2
  exact⟨F1,H,drp F3 a,_,_,so1.set o' c.2 2,e2,fun v' F' H' o2=>kq v' F' H' o2⟩
theorem a9Y{P:AG}{w:AF}{K:AD}{mg:Str->Option AA}{base:Heap}{x:Str}{st:Stmt}{N:List Str}{pa pb:Str}{k:Nat}{m1:M}{m:MS}(D:Df K mg x st)(S:j3 N [pa,pb] (d7 st))
 (hi:∀(kV doc pm:AA) (an:Option AB) (cdv ct:AA) (us:List AA),us.length=2->bindArgs (PySem.W.fnOf x x (I0 st) (v8 st) (d7 st) .none kV doc pm an cdv ct) ⟨us,[]⟩=pure ([pa,pb].zip us))
 (hb:∀(f:AB) (cdv:AA) (A:AI) (outer:List Env) (s:AC) (H:Hp) (E:XK),A0 k (A.deeper (envOfC x (d7 st) s.heap.objs.size f cdv))->ENs (a2O CX0 P w K mg base N x (d7 st) f cdv A outer s H E).nox (v8 st) m1 m):
 a5w P w K mg base x [pa,pb] (k+1) (b0F (N.length - 2) m1 m):=
 let ⟨f,fd,F,hm⟩:=D
 ⟨f,fd,b1C F S (hb f),hm,F.kp,F.binds hi⟩
def a17(g:List PV->Option c6)(i:Nat)(m:M):M:=fun ρ=>((m ρ).bind c6.toVal).bind fun p=>match ρ[i]? with
 |some (some (.ow (.lst ps)))=>g [p,.list ps]
 |_=>none
section
variable {X:Cx}
theorem a9N(i:Nat){k k':Nat}{pa pb:Str}{g:List PV->Option c6}{x y:Str}{p py pos:Pos}{e:AE}{m:M}
 (d:a5w X.prog X.w X.K X.mg X.base x [pa,pb] k g) (hr:A0 k' X.A) (hk:k<=k') (hg:Gl X x) (ha:EE X e m) (hy:PE X (.Name y py) (a0I i))
 (hdb:(x==("__debug__":Str))=false:=by decide) (he:AN [e,.Name y py] X.env=(false,eval e X.env)::AN [.Name y py] X.env:=by rfl) (he2:AN [.Name y py] X.env=(false,eval (.Name y py) X.env)::AN [] X.env:=by rfl)
 (hpl:(backTo pos (AN [.Name y py] X.env)).any (·.1)=false:=by rfl):
 EE X (.Call (.Name x p) [e,.Name y py] [] pos) (a17 g i m):=by
 obtain⟨f,fd,G,h1,h2,h3⟩:=d
 refine p8 (a39 G (hr.mono hk) hg h1 h2 h3 .nil a8Q (A8 ha (A8 hy R6 he2) he) hdb he hpl) fun σ H Q ⟨F,ρ,r,en,hm,kq⟩=> ?_
 obtain⟨q,e1,hm⟩:=bind_some hm
 obtain⟨rq,e2,e3⟩:=bind_some e1
 split at hm
 ·rename_i ps eo
  refine⟨F,ρ,rq,en,e2,fun v F1 H1 o1=> ?_⟩
  obtain⟨F2,o2⟩:=o1.toVal e3
  have en2:=en.ext o2.x
  obtain⟨w,hw,a,xs,rfl,fa,ha',rl⟩:=en2.at_ i _ eo
  refine⟨.ref a,hw, ?_⟩
  show spN X.K g ([v,.ref a]++[]) H1 Q E0
  rw [AZ]
  exact⟨F2,q,v,a,xs,ps,r,rfl,o2.x.fh,fa,ha',o2.rep,rl,hm,fun u F3 H3 o3=>kq u F3 H3 (o9.trans o2.x o3)⟩
 ·cases hm
variable {Φ:L2.St->Hp->Prop}{I:List Nat}
theorem a7U{st:Stmt}{u5:List Stmt}{m n:MS}(h1:ESP X Φ st m)(h2:a4u X Φ u5 n):a4u X Φ (st::u5) (l7 m n):=
 N5 (C6 h1 h2) fun D σ H ⟨F0,H0,F,ρ,fl,φ,so,e,fin⟩=>by
  obtain⟨f1,e1,e⟩:=bind_some e
  cases f1 with
  |nx ρ'=>exact⟨F0,H0,F,ρ,.nx ρ',φ,so,e1,fun σ' F' H' s so' φ'=>⟨F0,H0,F',ρ',fl,φ',so',e,fin.later s⟩⟩
  |rt r=>cases e;exact⟨F0,H0,F,ρ,_,φ,so,e1,fin⟩
  |bk r=>cases e;exact⟨F0,H0,F,ρ,_,φ,so,e1,fin⟩
  |ct r=>cases e;exact⟨F0,H0,F,ρ,_,φ,so,e1,fin⟩
theorem a9U(hS:a09 Φ I){i:Nat}(hI:i∈I){x:Str}{e:AE}{m:M}{pos pos':Pos}(hN:X.N.Nodup)(he:EE X e m)(hi:X.N[i]?=some x:=by rfl)(hx:Loc X.env.scope x:=by exact Or.inl rfl)(hs:swapsWith e (some (.Name x pos')) pos.line X.env=pure false:=by rfl)(hf:X.fn x=true\/X.env.scope.names.lookup x=some .local:=by first|exact .inl rfl|exact .inr rfl|assumption):
 ESP X Φ (.Assign [.Name x pos'] e pos) (x6 i m):=
 q9 (a2t hN hi hx he hs hf) fun D σ H ⟨F0,H0,F,ρ,fl,φ,so,e,fin⟩=>by
  obtain⟨r,e1,e⟩:=bind_some e
  split at e
  ·rename_i c
   cases e
   exact⟨F,ρ,r,so.e,e1,fun v F' H' o=>fin _ F' H' o.x.f (so.set o c i) (hS.set i hI _ _ _ (hS.grow _ _ _ φ o.x.h))⟩
  ·cases e
theorem a6O(hS:a09 Φ I){i:Nat}(hI:i∈I){tg a:AE}{body:List Stmt}{m:MA}{b:MS}{p rp pos:Pos}(hp:PassesOwn (model X.prog X.w) X.A X.env X.xe)(hc:X.calm=true)(hgl:Gl X "range")(hm:X.mg "range"=none)(ha:EA X [a] m)(hg:PG X tg (a1R i))(hb:a4u X Φ body b)
 (hst:AN [a] X.env=[(false,eval a X.env)]:=by rfl) (hs:∀x,foldedSetIterable (.Call (.Name "range" p) [a] [] rp) X.env x=pure x:=by intro _;rfl):ESP X Φ (.For tg (.Call (.Name "range" p) [a] [] rp) body [] pos) (W4 (a4V m) (j9 i) b):=
 q9 (a2s hp hc (a3n hgl hm ha hst) hg hb hs) fun D σ H ⟨F0,H0,F,ρ,fl,φ,so,e,fin⟩=>by
  obtain⟨ps,e1,e⟩:=bind_some e
  obtain⟨qs,e1,e2⟩:=bind_some e1
  refine⟨F,ρ,qs,so.e,e1,fun vs F1 H1 x rl=> ?_⟩
  split at e2
  ·rename_i j
   split at e2
   ·rename_i c
    have c:=a3S.mp c
    cases e2
    obtain⟨v,r,rfl,rv,rr⟩:=rl
    cases rv
    cases rr
    have fin1:=fin.later x.f
    have hz:(j - 0).toNat=j.toNat:=by lia
    refine⟨j,rfl,c.1,c.2,a28 (lo:=0) (n:=j.toNat) (PvP Φ X.K F0 H0 F1 b (j9 i) (W9 0 j) fl) ⟨F1,ρ,PU.f6.refl F1,so.ext x,hS.grow _ _ _ φ x.h,e⟩ (fun k σ H hk hp=> ?_) (fun σ H hp=> ?_)⟩
    ·exact W2 hS hI fin1 (a2B (by lia)) hp fun _ _=>rfl
    ·have:j.toNat=(W9 0 j).length:=by rw [Z8,hz]
     rw [this] at hp
     exact a0z fin1 hp
   ·cases e2
  ·cases e2
end
def a2a(x iH:Nat)(A C:List Nat)(mA mN:M)(m7 m8 m9:MS)(m5 ma:M)(n:MS):MS:=fun ρ=>match ρ[iH]? with
 |some (some (.ow (.lst hs)))=>if U8 hs=true/\a3L (iH::A) iH ρ=true/\x<ρ.length then
  match(if hs.isEmpty=true then mN (keep (iH::A) ρ) else mA (keep (iH::A) (ρ.set iH (some (.val (.list hs)))))) with
  |some (.ow (.dct T))=>match m7 ((ρ.set iH (some (.val (.list hs)))).set x (some (.ow (.dct T)))) with
   |some (.nx ρ3)=>match m8 ρ3 with
    |some (.nx ρ4)=>match m9 ρ4 with
     |some (.nx _)=>match m5 (keep [x] (ρ.set x (some (.ow (.dct T))))) with
      |some (.val (.list []))=>if(ma (keep [] ρ)).isSome=true then n (keep C ρ) else none
      |_=>none
     |_=>none
    |_=>none
   |_=>none
  |_=>none
  else none
 |_=>none
theorem b08{X:Cx}{e:AE}{t t':TE}(h:PE X e t)(h':PE X e t'):PE X e (fun σ H Q=>t σ H Q\/t' σ H Q):=fun pins s σ H Q I q=>q.elim (h pins s σ H Q I) (h' pins s σ H Q I)
structure b3F(K:AD)(F H:Hp)(aH:AB)(xsH:List V)(T:List (List c9×PV))(F' H':Hp)(a:AB)(xs:List (List c9×V)):Prop where
 fa:F' a=none
 ha:H' a=some (.dT xs)
 rl:n8 K F' T xs
 fra:H a=none
 sH:f6 H H'
 fh:f6 F' H'
 own:∀c u,F c=none->H c=some u->NT u->c≠aH->F' c=none
 new:∀b,F' b=some (.lst [])->H b=none
 nfz:∀b o u,F' b≠some (.frz o u)
theorem a1L{K:AD}{F H G:Hp}{σ:L2.St}{ρ:a8}{A:List Nat}{iH:Nat}{rH:c6}{vH:V}(en:p9 K F H σ ρ)(hG:∀c ys,F c=some (.tup ys)->G c=some (.tup ys))(sG:f6 G H)(fA:a3L (iH::A) iH ρ=true)(sH:σ[iH]?=some (some vH))(rr:G8 K G H vH rH)(hb:∀c,rH≠.bo c):
 p9 K G H σ (keep (iH::A) (ρ.set iH (some rH))):=by
 have cl:∀(j:Nat) (q:c6),(keep (iH::A) (ρ.set iH (some rH)))[j]?=some (some q)->(j=iH/\q=rH)\/(j≠iH/\∃p,q= .val p/\a3K p=true/\ρ[j]?=some (some (.val p))):=fun j q z=>by
  obtain⟨z1,z2⟩:=J1 z
  rcases a4f z2 with⟨y,y'⟩|⟨y1,y2⟩
  ·exact .inl ⟨y,(Option.some.inj y').symm⟩
  ·have:=List.all_eq_true.mp fA j z1
   rw [y2] at this
   cases q with
   |val p=>exact .inr ⟨y1,p,rfl,by simpa [y1] using this,y2⟩
   |ow c=>simp [y1] at this
   |bo c=>simp [y1] at this
 refine⟨sG,by rw [Y9,List.length_set];exact en.len,fun j q z=> ?_,fun j c z=> ?_,fun j k c d a hne z1 z2=> ?_⟩
 ·rcases cl j q z with⟨rfl,rfl⟩|⟨_,p,rfl,f,w⟩
  ·exact⟨vH,sH,rr⟩
  ·obtain⟨v,v1,v2⟩:=en.at_ j _ w
   exact⟨v,v1,a5f hG p f v2⟩
 ·rcases cl j _ z with⟨_,y⟩|⟨_,p,y,_⟩
  ·exact hb c y.symm
  ·cases y
 ·rcases cl j _ z1 with⟨y,_⟩|⟨_,p,y,_⟩
  ·rcases cl k _ z2 with⟨y',_⟩|⟨_,p,y',_⟩
   ·exact absurd (y.trans y'.symm) hne
   ·cases y'
  ·cases y
theorem a9b{ρ:a8}{i:Nat}{r:Option c6}(h:ρ[i]?=some r):ρ.set i r=ρ:=by
 apply List.ext_getElem?
 intro j
 rw [List.getElem?_set]
 by_cases hij:i=j
 ·subst hij
  rw [if_pos rfl,if_pos (Ad.mp h).1,h]
 ·rw [if_neg hij]
theorem b0N{K:AD}{F H:Hp}{σ:L2.St}{ρ:a8}{A:List Nat}{iH:Nat}{hs:List PV}{aH:AB}{xsH:List V}{T:List (List c9×PV)}{mA mN:M}{Q:VK}(en:p9 K F H σ ρ)(eH:ρ[iH]?=some (some (.ow (.lst hs))))(sH:σ[iH]?=some (some (.ref aH)))(fH:F aH=none)(hH:H aH=some (.lst xsH))(rlH:f9 K F hs xsH)
 (fhs:U8 hs=true) (fA:a3L (iH::A) iH ρ=true) (eC:(if hs.isEmpty=true then mN (keep (iH::A) ρ) else mA (keep (iH::A) (ρ.set iH (some (.val (.list hs))))))=some (.ow (.dct T)))
 (core:∀F' H' a xs,b3F K F H aH xsH T F' H' a xs->Q (.ref a) H'):tM K mA σ H Q\/tM K mN σ H Q:=by
 have sFH:=en.fh
 have NTl:∀zs,NT (.lst zs):=fun zs _ h=>nomatch h
 cases hs with
 |nil=>
  rw [if_pos (show([]:List PV).isEmpty=true from rfl)] at eC
  right
  have sT:f6 (a2N F) H:=fun c o z=>sFH _ _ (a1O z).1
  have ev:=a1L (rH:= .ow (.lst [])) en a73 sT fA sH ⟨aH,xsH,rfl,a29 fH,hH,rlH⟩ (fun c h=>nomatch h)
  rw [a9b eH] at ev
  refine⟨a2N F,_,_,ev,eC,fun v F' H' o=> ?_⟩
  obtain⟨a,xs,rfl,fa,ha,rl⟩:=o.rep
  refine core F' H' a xs ⟨fa,ha,rl,o.fr _ a rfl rfl,o.x.h,o.x.fh,fun c u z y t _=>o.x.nw c u (a29 z) y t,fun b hb=> ?_,fun b o' u z=> ?_⟩
  ·cases hHb:H b with
   |none=>rfl
   |some w=>
    have h1:=o.x.h _ _ hHb
    rw [o.x.fh _ _ hb] at h1
    cases h1
    rw [o.x.nw b _ (a72 H sFH hHb) hHb (NTl _)] at hb
    cases hb
  ·have:=o.x.nf _ _ _ z
   obtain⟨_,ys,e⟩:=a1O this
   cases e
 |cons h0 hs=>
  rw [if_neg (by simp)] at eC
  left
  have hG:=a70 (xs:=xsH) fH
  have ev:=a1L (G:=X8 F aH xsH) (rH:= .val (.list (h0::hs))) en hG (a6Q sFH hH) fA sH ⟨aH,xsH,rfl,H9.of (by unfold X8;rw [if_pos rfl]),a0E hG _ fhs rlH⟩ (fun c h=>nomatch h)
  refine⟨X8 F aH xsH,_,_,ev,eC,fun v F' H' o=> ?_⟩
  obtain⟨a,xs,rfl,fa,ha,rl⟩:=o.rep
  refine core F' H' a xs ⟨fa,ha,rl,o.fr _ a rfl rfl,o.x.h,o.x.fh,fun c u z y t hne=>o.x.nw c u (a6P hne z) y t,fun b hb=> ?_,fun b o' u z=> ?_⟩
  ·cases hHb:H b with
   |none=>rfl
   |some w=>
    have h1:=o.x.h _ _ hHb
    rw [o.x.fh _ _ hb] at h1
    cases h1
    cases hm:X8 F aH xsH b with
    |none=>
     rw [o.x.nw b _ hm hHb (NTl _)] at hb
     cases hb
    |some u'=>
     rcases a1M hm with z|⟨zs,z⟩
     ·rw [z,hH] at hHb
      cases hHb
      obtain⟨_,_,e,_⟩:=rlH
      cases e
     ·have:=o.x.f _ _ hm
      rw [hb,z] at this
      cases this
  ·exact absurd (o.x.nf _ _ _ z) a5I
section
variable {X:Cx}
theorem a7W{x iH:Nat}{A C I:List Nat}{nx:Str}{e2 e5 ea:AE}{S7 S8 S9:Stmt}{u5:List Stmt}{mA mN m5 ma:M}{m7 m8 m9 n:MS}{p2 p2' ap cp p6:Pos}
 (hN:X.N.Nodup) (nl:a8D X.K=true) (hC:C.all (fun j=> !(I.contains j)&&(j !=x))=true) (hxI:I.contains x=false) (hxH:(x==iH)=false) (hHI:I.contains iH=false)
 (h2:EE X e2 mA) (h2':EE X e2 mN) (h7:∀Φ,a09 Φ I->ESP X Φ S7 m7) (h8:∀Φ,a09 Φ I->ESP X Φ S8 m8) (h9:∀Φ,a09 Φ I->ESP X Φ S9 m9) (h5:EE X e5 m5) (hea:EE X ea ma) (hr:ESs X u5 n)
 (hi:X.N[x]?=some nx:=by rfl) (hx:Loc X.env.scope nx:=by exact Or.inl rfl) (hs:swapsWith e2 (some (.Name nx p2')) p2.line X.env=pure false:=by rfl) (hf:X.fn nx=true\/X.env.scope.names.lookup nx=some .local:=by first|exact .inl rfl|exact .inr rfl)
 (hbase:attributeBase e5 "append" X.env (eval e5 X.env)=eval e5 X.env:=by rfl)
 (hfew:((backTo cp (AN [ea] X.env)).all (fun x=> !x.1)&&(backToKw cp (keywordEach [] X.env)).all (fun x=>x.1.isSome)
  && decide ([ea].length+([]:List Keyword).length+(if([]:List Keyword).isEmpty then 0 else 1)<30))=true:=by rfl)
 (hline:(ap.endLine==cp.line)=true:=by rfl) (hse:AN [ea] X.env=(false,eval ea X.env)::AN [] X.env:=by rfl) (hplain:(backTo cp (AN [] X.env)).any (·.1)=false:=by rfl)
 (hsw:swapsWith (.Call (.Attribute e5 "append" ap) [ea] [] cp) none p6.line X.env=pure false:=by rfl):
 ESs X (.Assign [.Name nx p2'] e2 p2::S7::S8::S9:: .Expr (.Call (.Attribute e5 "append" ap) [ea] [] cp) p6::u5) (a2a x iH A C mA mN m7 m8 m9 m5 ma n):=by
 have t7:PS X S7 (fun D σ H=>∃Φ,a09 Φ I/\tMP X.K Φ m7 D σ H):=fun pins s σ H D J ⟨Φ,st,h⟩=>h7 Φ st pins s σ H D J h
 have t8:PS X S8 (fun D σ H=>∃Φ,a09 Φ I/\tMP X.K Φ m8 D σ H):=fun pins s σ H D J ⟨Φ,st,h⟩=>h8 Φ st pins s σ H D J h
 have t9:PS X S9 (fun D σ H=>∃Φ,a09 Φ I/\tMP X.K Φ m9 D σ H):=fun pins s σ H D J ⟨Φ,st,h⟩=>h9 Φ st pins s σ H D J h
 refine N5 (C6 (a2t hN hi hx (b08 h2 h2') hs hf) (C6 t7 (C6 t8 (C6 t9 (C6 (a6p (b07 PySem.F.plainAttrs_list PySem.F.slot_list_append PySem.F.type_list_append a3i h5 (A8 hea R6 hse) hbase hfew hline hse hplain) hsw) hr))))) fun D σ H ⟨F0,H0,F,ρ,fl,so,e,fin⟩=> ?_
 have hxI':x∉I:=by simpa using hxI
 have hHI':iH∉I:=by simpa using hHI
 have hxH':x≠iH:=by simpa using hxH
 have hC':∀j∈C,j∉I/\j≠x:=fun j hj=>by
  have:=List.all_eq_true.mp hC j hj
  simpa using this
 unfold a2a at e
 split at e
 case h_2=>cases e
 rename_i hs' eH
 split at e
 case isFalse=>cases e
 rename_i cnd
 obtain⟨fhs,fA,hxl⟩:=cnd
 split at e
 case h_2=>cases e
 rename_i T eC
 split at e
 case h_2=>cases e
 rename_i ρ3 e7
 split at e
 case h_2=>cases e
 rename_i ρ4 e8
 split at e
 case h_2=>cases e
 rename_i ρ5 e9
 split at e
 case h_2=>cases e
 rename_i e5'
 split at e
 case isFalse=>cases e
 rename_i hma
 obtain⟨ra,hma⟩:=Option.isSome_iff_exists.mp hma
 obtain⟨vH,sH,aH,xsH,rfl,fH,hH,rlH⟩:=so.e.at_ iH _ eH
 have hiH:iH<ρ.length:=(Ad.mp eH).1
 have sFH:=so.e.fh
 have hlen:=so.e.len
 refine b0N (A:=A) so.e eH sH fH hH rlH fhs fA eC fun F' H' a xsT td=> ?_
 obtain⟨fa',ha',rlT,fra,sHH',fh',own',new',nfz'⟩:=td
 have Fa:F a=none:=sFH.free fra
 have aaH:a≠aH:=fun z=>by rw [z,hH] at fra;cases fra
 obtain⟨F2,hF2⟩:∃F2:Hp,F2=fun c=>match F c with|some u=>some u|none=>if c=aH then some (.lst xsH) else F' c:=⟨_,rfl⟩
 have F2F:f6 F F2:=fun c u z=>by rw [hF2];simp only [z]
 have F2n:∀c,F c=none->c≠aH->F2 c=F' c:=fun c z y=>by rw [hF2];simp only [z];rw [if_neg y]
 have F2H:F2 aH=some (.lst xsH):=by rw [hF2];simp [fH]
 have S2:f6 F2 H':=fun c u z=>by
  cases hc:F c with
  |some w=>rw [F2F _ _ hc] at z;cases z;exact sHH' _ _ (sFH _ _ hc)
  |none=>
   by_cases hcH:c=aH
   ·subst hcH;rw [F2H] at z;cases z;exact sHH' _ _ hH
   ·rw [F2n c hc hcH] at z;exact fh' _ _ z
 have SF':f6 F' F2:=fun c u z=>by
  cases hc:F c with
  |some w=>
   have h1:=sHH' _ _ (sFH _ _ hc)
   have h2:=fh' _ _ z
   rw [h1] at h2
   rw [F2F _ _ hc];exact h2
  |none=>
   by_cases hcH:c=aH
   ·subst hcH
    have h1:=sHH' _ _ hH
    have h2:=fh' _ _ z
    rw [h1] at h2
    rw [F2H];exact h2
   ·rw [F2n c hc hcH];exact z
 have F2a:F2 a=none:=by rw [F2n a Fa aaH];exact fa'
 have ownAt:∀j c v,ρ[j]?=some (some (.ow c))->j≠iH->σ[j]?=some (some v)->C9 X.K F H v c->∃a',v= .ref a'/\a'≠aH/\a'≠a/\F2 a'=none:=fun j c v z hj sj rc=>by
  obtain⟨a',u,rfl,f1,h1,nt⟩:=a5Z rc
  have n1:a'≠aH:=fun y=>by subst y;exact so.e.ap iH j _ _ a' (fun z=>hj z.symm) eH z sH sj
  have n2:a'≠a:=fun y=>by rw [y,fra] at h1;cases h1
  exact⟨a',rfl,n1,n2,by rw [F2n a' f1 n1];exact own' a' u f1 h1 nt n1⟩
 have hxs:∀j,j≠x->(σ.set x (some (V.ref a)))[j]?=σ[j]?:=fun j hj=>List.getElem?_set_ne (fun z=>hj z.symm)
 have len2:(σ.set x (some (V.ref a))).length=σ.length:=List.length_set
 have cl2:∀(j:Nat) (q:c6),((ρ.set iH (some (.val (.list hs')))).set x (some (.ow (.dct T))))[j]?=some (some q)->(j=x/\q= .ow (.dct T))\/(j≠x/\j=iH/\q= .val (.list hs'))\/(j≠x/\j≠iH/\ρ[j]?=some (some q)):=fun j q z=>by
  rcases a4f z with⟨y,y'⟩|⟨y1,y2⟩
  ·exact .inl ⟨y,(Option.some.inj y').symm⟩
  ·rcases a4f y2 with⟨w,w'⟩|⟨w1,w2⟩
   ·exact .inr (.inl ⟨y1,w,(Option.some.inj w').symm⟩)
   ·exact .inr (.inr ⟨y1,w1,w2⟩)
 have env2:p9 X.K F2 H' (σ.set x (some (.ref a))) ((ρ.set iH (some (.val (.list hs')))).set x (some (.ow (.dct T)))):=by
  refine⟨S2,by rw [List.length_set,List.length_set,List.length_set];exact hlen,fun j q z=> ?_,fun j c z=> ?_,fun j k c d b hjk z1 z2 z3 z4=> ?_⟩
  ·rcases cl2 j q z with⟨rfl,rfl⟩|⟨y1,rfl,rfl⟩|⟨y1,y2,w⟩
   ·exact⟨.ref a,by rw [BE (by lia)],a,xsT,rfl,F2a,ha',n8.mono SF' _ rlT⟩
   ·exact⟨_,by rw [hxs _ y1];exact sH,aH,xsH,rfl,H9.of F2H,f9.mono F2F _ rlH⟩
   ·obtain⟨v,v1,v2⟩:=so.e.at_ j q w
    refine⟨v,by rw [hxs _ y1];exact v1, ?_⟩
    cases q with
    |val p=>exact r9.mono F2F _ v2
    |ow c=>
     obtain⟨a',rfl,_,_,n5⟩:=ownAt j c v w y2 v1 v2
     exact(show C9 X.K F2 H' (.ref a') c from a6s v2 F2F n5 fun u hu=>sHH' _ _ hu)
    |bo c=>exact absurd w (so.e.nb j c)
  ·rcases cl2 j _ z with⟨_,y⟩|⟨_,_,y⟩|⟨_,_,w⟩
   ·cases y
   ·cases y
   ·exact so.e.nb j c w
  ·rcases cl2 j _ z1 with⟨y,_⟩|⟨_,_,y⟩|⟨y1,y2,w⟩
   ·rcases cl2 k _ z2 with⟨y',_⟩|⟨_,_,y'⟩|⟨y1',y2',w'⟩
    ·exact hjk (y.trans y'.symm)
    ·cases y'
    ·rw [y,BE (by lia)] at z3
     cases z3
     rw [hxs _ y1'] at z4
     obtain⟨v,v1,v2⟩:=so.e.at_ k _ w'
     rw [z4] at v1
     cases v1
     obtain⟨a',e',_,n2,_⟩:=ownAt k d _ w' y2' z4 v2
     cases e'
     exact n2 rfl
   ·cases y
   ·rw [hxs _ y1] at z3
    rcases cl2 k _ z2 with⟨y',_⟩|⟨_,_,y'⟩|⟨y1',y2',w'⟩
    ·rw [y',BE (by lia)] at z4
     cases z4
     obtain⟨v,v1,v2⟩:=so.e.at_ j _ w
     rw [z3] at v1
     cases v1
     obtain⟨a',e',_,n2,_⟩:=ownAt j c _ w y2 z3 v2
     cases e'
     exact n2 rfl
    ·cases y'
    ·rw [hxs _ y1'] at z4
     exact so.e.ap j k c d b hjk w w' z3 z4
 have so2:J8 X.K F2 F2 F2 H' (σ.set x (some (.ref a))) ((ρ.set iH (some (.val (.list hs')))).set x (some (.ow (.dct T)))):=by
  refine⟨⟨PU.f6.refl _,S2,S2,fun b u z y _=>z,fun _ _ _ z=>z⟩,env2,fun j c b z1 z2=> ?_⟩
  obtain⟨v,v1,v2⟩:=env2.at_ j _ z1
  obtain⟨a',u,e',f',_,_⟩:=a5Z (show C9 X.K F2 H' v c from v2)
  rw [z2] at v1
  cases v1
  cases e'
  exact f'
 obtain⟨Φ,hΦ⟩:∃Φ:L2.St->Hp->Prop,Φ=fun σ' H''=>f6 H' H''/\σ'.length=σ.length/\∀j,j∉I->σ'[j]?=(σ.set x (some (.ref a)))[j]?:=⟨_,rfl⟩
 have st:a09 Φ I:=by
  rw [hΦ]
  exact⟨fun σ' H1 H2 ⟨h1,h2,h3⟩ s=>⟨h1.trans s,h2,h3⟩,fun i hi σ' H1 v ⟨h1,h2,h3⟩=>⟨h1,by rw [List.length_set];exact h2,fun j hj=>by
   rw [List.getElem?_set_ne (fun z:i=j=>hj (by rw [<-z];exact hi))];exact h3 j hj⟩⟩
 have φ0:Φ (σ.set x (some (.ref a))) H':=by rw [hΦ];exact⟨PU.f6.refl _,len2,fun _ _=>rfl⟩
 refine⟨Φ,st,F2,F2,F2,_,_,φ0,so2,e7,fun σ7 F7 H7 s7 so7 φ7=> ?_⟩
 refine⟨Φ,st,F2,F2,F7,_,_,φ7,so7,e8,fun σ8 F8 H8 s8 so8 φ8=> ?_⟩
 refine⟨Φ,st,F2,F2,F8,_,_,φ8,so8,e9,fun σ4 F4 H4 s4 so4 φ4=> ?_⟩
 rw [hΦ] at φ4
 obtain⟨g1,g2,g3⟩:=φ4
 have sH4:f6 H H4:=sHH'.trans g1
 have env5:p9 X.K F' H4 σ4 (keep [x] (ρ.set x (some (.ow (.dct T))))):=by
  have only:∀j q,(keep [x] (ρ.set x (some (.ow (.dct T)))))[j]?=some (some q)->j=x/\q= .ow (.dct T):=fun j q z=>by
   obtain⟨z1,z2⟩:=J1 z
   have:j=x:=by simpa using z1
   rcases a4f z2 with⟨_,y⟩|⟨y1,_⟩
   ·exact⟨this,(Option.some.inj y).symm⟩
   ·exact absurd this y1
  refine⟨fh'.trans g1,by rw [Y9,List.length_set,g2];exact hlen,fun j q z=> ?_,fun j c z=> ?_,fun j k c d b hne z z'=> ?_⟩
  ·obtain⟨rfl,rfl⟩:=only j q z
   exact⟨.ref a,by rw [g3 j hxI',BE (by lia)],a,xsT,rfl,fa',g1 _ _ ha',rlT⟩
  ·cases(only j _ z).2
  ·exact absurd ((only j _ z).1.trans (only k _ z').1.symm) hne
 refine⟨F',_,_,env5,e5',fun v5 G H5 o5=> ?_⟩
 obtain⟨b,ys,rfl,hq,rlb⟩:=(show r9 X.K G (.list []) v5 from o5.rep)
 have ys0:ys=[]:=rlb
 subst ys0
 have hb:G b=some (.lst []):=by
  rcases hq with(h|⟨w,h⟩)|⟨w,its,k,h1,h2,_⟩
  ·exact h
  ·exact absurd (o5.x.nf _ _ _ h) (nfz' _ _ _)
  ·exact(a4Z nl h1 h2).elim
 have hb5:H5 b=some (.lst []):=o5.x.fh _ _ hb
 have NTl:NT (.lst []):=fun _ h=>nomatch h
 have new:H b=none:=by
  cases hH4:H4 b with
  |none=>
   cases hHb:H b with
   |none=>rfl
   |some w=>rw [sH4 _ _ hHb] at hH4;cases hH4
  |some w=>
   have hw:w= .lst []:=by have:=o5.x.h _ _ hH4;rw [hb5] at this;exact(Option.some.inj this).symm
   cases hG:F' b with
   |none=>rw [o5.x.nw b w hG hH4 (by rw [hw];exact NTl)] at hb;cases hb
   |some u=>
    have hu:u= .lst []:=by have:=o5.x.f _ _ hG;rw [hb] at this;exact(Option.some.inj this).symm
    exact new' b (by rw [hG,hu])
 refine⟨.inl ⟨rfl,[],H9.of hb5⟩,_,_,_,a9R (ρ:=ρ) (by rw [g2];exact hlen),hma,fun w G7 H7' o7=> ?_⟩
 have hb7:H7' b=some (.lst []):=o7.x.h _ _ hb5
 refine⟨b,[],w,rfl,rfl,hb7,by rw [sizeLine_eq];simp, ?_⟩
 have fb:F b=none:=sFH.free new
 have h0b:H0 b=none:=so.x.h.free new
 have sH7:f6 H H7':=(sH4.trans o5.x.h).trans o7.x.h
 have sHb:f6 H (upd H7' b (.lst ([]++[w]))):=fun c u z=>by
  rw [d6 (fun y=>by rw [y,new] at z;cases z)];exact sH7 _ _ z
 have σ4at:∀j∈C,σ4[j]?=σ[j]?:=fun j hj=>by
  obtain⟨c1,c2⟩:=hC' j hj
  rw [g3 j c1,hxs j c2]
 refine⟨F0,H0,F,keep C ρ,_,⟨⟨so.x.f,so.x.h.trans sHb,so.x.fh.trans sHb,so.x.nw,so.x.nf⟩,⟨sFH.trans sHb,by rw [Y9,g2];exact hlen,fun j q z=> ?_,fun j c z=> ?_,fun j k c d w hjk z1 z2 z3 z4=> ?_⟩,fun j c w z1 z2=> ?_⟩,e,fin⟩
 ·obtain⟨z1,z2⟩:=J1 z
  obtain⟨v,v1,v2⟩:=so.e.at_ j q z2
  rw [σ4at j z1]
  refine⟨v,v1, ?_⟩
  cases q with
  |val p=>exact v2
  |ow c=>
   obtain⟨a',u,rfl,f',h',_⟩:=a5Z (show C9 X.K F H v c from v2)
   exact(show C9 X.K F _ (.ref a') c from a6s v2 (PU.f6.refl F) f' fun w hw=>sHb _ _ hw)
  |bo c=>exact absurd z2 (so.e.nb j c)
 ·exact so.e.nb j c (J1 z).2
 ·obtain⟨y1,y2⟩:=J1 z1
  obtain⟨y3,y4⟩:=J1 z2
  rw [σ4at j y1] at z3
  rw [σ4at k y3] at z4
  exact so.e.ap j k c d w hjk y2 y4 z3 z4
 ·obtain⟨y1,y2⟩:=J1 z1
  rw [σ4at j y1] at z2
  exact so.nw j c w y2 z2
end
theorem el5{C:List AA->Prop}(h:∀a b c d e,C [a,b,c,d,e])(us:List AA)(e:us.length=5):C us:=by
 obtain⟨a,t,rfl,z⟩:=elS e
 exact el4 (C:=fun t=>C (a::t)) (h a) t z
def S(l:List Nat):Str:=⟨l.toArray⟩
theorem a7D{α:Type}{xs:List α}{i:Int}(h:0<=i):L2.atI xs i=xs[i.toNat]?:=by
 unfold L2.atI L2.ixN
 rw [if_pos h]
 by_cases c:i<xs.length
 ·rw [if_pos c];rfl
 ·rw [if_neg c]
  have:xs.length<=i.toNat:=by lia
  rw [List.getElem?_eq_none_iff.mpr this];rfl
theorem a58{α:Type}{xs:List α}{k:Nat}:L2.atI xs (k:Int)=xs[k]?:=by
 rw [a7D (by lia)];simp
theorem a93{i j:Int}(h: -18446744073709551616<i/\i<18446744073709551616):a1Q (.val (.int i)) (.val (.int j))=some (.val (.int (i*j))):=b1I h
theorem a94{i j:Int}(h: -18446744073709551616<j/\j<18446744073709551616):a1Q (.val (.int i)) (.val (.int j))=some (.val (.int (i*j))):=b1J h
theorem a1P(i j:Int):a0s (.val (.int i)) (.val (.int j))=some (.val (.bool (decide (i<j)))):=Eq.trans rfl rfl
theorem b1H(i j:Int):a91 (.val (.int i)) (.val (.int j))=some (.val (.bool (decide (i<=j)))):=Eq.trans rfl rfl
theorem a6k{i j:Int}(h: -18446744073709551616<i/\i<18446744073709551616):U9 (.val (.int i)) (.val (.int j))=some (.val (.int (i*j))):=(show _=a1Q (.val (.int i)) (.val (.int j)) from rfl).trans (a93 h)
theorem a95{i j:Int}(h: -18446744073709551616<j/\j<18446744073709551616):U9 (.val (.int i)) (.val (.int j))=some (.val (.int (i*j))):=(show _=a1Q (.val (.int i)) (.val (.int j)) from rfl).trans (a94 h)
theorem a5J(ps:List PV):a3N (.val (.list ps))=some (.own ps):=Eq.trans rfl rfl
def chK(g':c6->c6->Option c6)(mc:M)(ρ:a8)(y z:c6):Option c6:=(a2T z).bind fun b=>if b=true then(mc ρ).bind fun w=>g' y w else some (.val (.bool false))
theorem a5R(g g':c6->c6->Option c6)(ma mb mc:M)(ρ:a8):a3X g g' ma mb mc ρ=(ma ρ).bind fun x=>(mb ρ).bind fun y=>(g x y).bind (chK g' mc ρ y):=Eq.trans rfl rfl
theorem b2V(g':c6->c6->Option c6)(mc:M)(ρ:a8)(y:c6):chK g' mc ρ y (.val (.bool true))=(mc ρ).bind fun w=>g' y w:=Eq.trans rfl rfl
abbrev row(l:List Nat):PV:= .str (S l)
theorem a4O{body:MS}{tg:PV->a8->Option a8}{I:Nat->a8->Prop}:∀{ps:List PV} {ρ:a8} (k:Nat),(∀(i:Nat) p,ps[i]?=some p->∀ρ,I (k+i) ρ->∃ρ1 ρ2,tg p ρ=some ρ1/\(body ρ1=some (.nx ρ2)\/body ρ1=some (.ct ρ2))/\I (k+i+1) ρ2)->I k ρ->∃ρ',D4 body tg ps ρ=some (.nx ρ')/\I (k+ps.length) ρ'
 |[],ρ,k,_,h=>⟨ρ,rfl,h⟩
 |p::ps,ρ,k,s,h=>by
  obtain⟨ρ1,ρ2,h1,h2,h3⟩:=s 0 p rfl ρ h
  obtain⟨ρ',h4,h5⟩:=a4O (ps:=ps) (ρ:=ρ2) (k+1) (fun i q hq ρ hi=>by
   have e:k+1+i=k+(i+1):=by lia
   rw [e] at hi ⊢
   exact s (i+1) q (by simpa using hq) ρ hi) h3
  refine⟨ρ', ?_,by rw [AU];have e:k+(ps.length+1)=k+1+ps.length:=by lia
                   rw [e];exact h5⟩
  unfold D4
  rw [h1]
  show(body ρ1).bind _=_
  rcases h2 with h2|h2<;>rw [h2]<;>exact h4
theorem y9{body:MS}{tg:PV->a8->Option a8}(I:Nat->a8->Prop){ps:List PV}{ρ:a8}(s:∀(i:Nat) p,ps[i]?=some p->∀ρ,I i ρ->∃ρ1 ρ2,tg p ρ=some ρ1/\(body ρ1=some (.nx ρ2)\/body ρ1=some (.ct ρ2))/\I (i+1) ρ2)(h:I 0 ρ):∃ρ',D4 body tg ps ρ=some (.nx ρ')/\I ps.length ρ':=by
 obtain⟨ρ',a,b⟩:=a4O (I:=I) 0 (fun i p hp ρ hi=>by rw [Nat.zero_add] at hi ⊢;exact s i p hp ρ hi) h
 rw [Nat.zero_add] at b
 exact⟨ρ',a,b⟩
theorem y0{body:MS}{tg:PV->a8->Option a8}{I:a8->Prop}{p:PV}{ρ ρ1 ρ2:a8}(h1:tg p ρ=some ρ1)(h2:body ρ1=some (.nx ρ2))(h3:I ρ2):∃ρ1 ρ2,tg p ρ=some ρ1/\(body ρ1=some (.nx ρ2)\/body ρ1=some (.ct ρ2))/\I ρ2:=⟨ρ1,ρ2,h1,.inl h2,h3⟩
theorem a6u{lo hi:Int}{i:Nat}{p:PV}(h:(W9 lo hi)[i]?=some p):p= .int (lo+i)/\lo+i<hi:=by
 have hi':=(Ad.mp h).1
 rw [Z8] at hi'
 rw [a2B hi'] at h
 cases h
 exact⟨rfl,by lia⟩
theorem F6(ps:List PV):PyData.items? (.list ps)=some ps:=Eq.trans rfl rfl
theorem a4S(ps:List PV):PyData.items? (.tuple ps)=some ps:=Eq.trans rfl rfl
theorem B6(m:M)(ρ:a8):N4 m ρ=((m ρ).bind c6.toVal).bind PyData.items?:=Eq.trans rfl rfl
theorem z7{i:Nat}{m:M}{ρ:a8}{r:c6}{p:PV}{ps:List PV}(h1:m ρ=some r)(h2:r.toVal=some p)(h3:ρ[i]?=some (some (.own ps)))(h:ps.length<16777216):D8 i m ρ=some (.nx (ρ.set i (some (.own (ps++[p]))))):=by
 unfold D8
 rw [h1,AQ,h2,AQ,h3]
 simp only [sizeLine_eq,if_pos h]
theorem a30(p:c6)(ρ:a8):a0Y 0 (some p::ρ)=some (.rt p):=Eq.trans rfl rfl
theorem a31(n:Nat)(r:Option c6)(ρ:a8):a0Y (n+1) (r::ρ)=a0Y n ρ:=Eq.trans rfl rfl
theorem u4(k:List c9)(v:PV)(D:List (List c9×PV))(k':List c9):l8 ((k,v)::D) k'=if k=k' then some v else l8 D k':=by
 unfold l8
 rw [List.find?_cons]
 by_cases h:k=k'
 ·simp [h]
 ·simp [h]
theorem a5l(k:List c9)(v:PV)(k':List c9):∀D:List (List c9×PV),l8 (D++[(k,v)]) k'=if(l8 D k').isSome=true then l8 D k' else if k=k' then some v else none
 |[]=>by rw [Ap,u4];rfl
 |(a,b)::D=>by
  rw [BA,u4,u4,a5l k v k' D]
  by_cases h:a=k'
  ·simp [h]
  ·simp [h]
theorem a3z(k:List c9):∀D:List (List c9×PV),(D.any fun kv=>decide (kv.1=k))=(l8 D k).isSome
 |[]=>rfl
 |(a,b)::D=>by
  rw [List.any_cons,a3z k D,u4]
  by_cases h:a=k
  ·simp [h]
  ·simp [h]
theorem a3v(k:List c9)(v:PV)(k':List c9):∀D:List (List c9×PV),l8 (D.map fun kv=>if kv.1=k then(kv.1,v) else kv) k'=if k=k' then(l8 D k').map (fun _=>v) else l8 D k'
 |[]=>by simp [l8]
 |(a,b)::D=>by
  rw [AM]
  have ih:=a3v k v k' D
  by_cases h:a=k
  ·simp only [h,if_true]
   rw [u4,u4,ih]
   by_cases h2:k=k'
   ·simp [h2]
   ·simp [h2]
  ·simp only [h,if_false]
   rw [u4,u4,ih]
   by_cases h2:a=k'
   ·have:¬k=k':=fun z=>h (h2.trans z.symm)
    simp [h2,this]
   ·simp [h2]
theorem a0f(D:List (List c9×PV))(k:List c9)(v:PV)(k':List c9):l8 (W8 D k v) k'=if k=k' then some v else l8 D k':=by
 unfold W8
 rw [a3z]
 cases h:(l8 D k).isSome with
 |true=>
  rw [if_pos rfl,a3v]
  by_cases h2:k=k'
  ·subst h2
   rw [if_pos rfl,if_pos rfl]
   obtain⟨x,hx⟩:=Option.isSome_iff_exists.mp h
   rw [hx];rfl
  ·rw [if_neg h2,if_neg h2]
 |false=>
  rw [if_neg Av,a5l]
  by_cases h2:k=k'
  ·subst h2;rw [h];simp
  ·simp only [if_neg h2]
   cases h3:l8 D k'<;>simp
theorem a8Z(D:List (List c9×PV))(k:List c9)(v:PV):(W8 D k v).length<=D.length+1:=by
 unfold W8
 split
 ·rw [AR];lia
 ·rw [Aa,List.length_singleton];lia
theorem a1I{i:Nat}{ρ:a8}{p:PV}{k:List c9}{D:List (List c9×PV)}(h:ρ[i]?=some (some (.ow (.dct D))))(hl:D.length<16777216):a4H i ρ p k=some (.nx (ρ.set i (some (.ow (.dct (W8 D k p)))))):=by
 unfold a4H
 rw [h]
 show(if D.length<AL then _ else none)=_
 rw [if_pos (by rw [sizeLine_eq];exact hl)]
theorem a7L{i:Nat}{ρ:a8}{k:List c9}{D:List (List c9×PV)}{p:PV}(h:ρ[i]?=some (some (.ow (.dct D))))(hv:l8 D k=some p):O1 i ρ k=some (.val p):=by
 unfold O1
 rw [h]
 show(l8 D k).map _=_
 rw [hv];rfl
theorem P7(neg:Bool)(D:List (List c9×PV))(ρ:a8)(k:List c9):a6L neg 0 (some (.ow (.dct D))::ρ) k=some (.val (.bool (if neg then !(l8 D k).isSome else(l8 D k).isSome))):=Eq.trans rfl rfl
theorem P8(neg:Bool)(i:Nat)(r:Option c6)(ρ:a8)(k:List c9):a6L neg (i+1) (r::ρ) k=a6L neg i ρ k:=Eq.trans rfl rfl
theorem a6a(D:List (List c9×PV))(ρ:a8)(k:List c9):O1 0 (some (.ow (.dct D))::ρ) k=(l8 D k).map .val:=Eq.trans rfl rfl
theorem a6b(i:Nat)(r:Option c6)(ρ:a8)(k:List c9):O1 (i+1) (r::ρ) k=O1 i ρ k:=Eq.trans rfl rfl
theorem a0i(i:Nat)(ρ:a8)(c:C7):a9F i ρ (.ow c)=some (.nx (ρ.set i (some (.ow c)))):=Eq.trans rfl rfl
theorem b0g(c:C7)(ρ:a8):a9 0 (some (.ow c)::ρ)=some (.bo c):=Eq.trans rfl rfl
theorem a27{body:MS}{tg:PV->a8->Option a8}{I:a8->Prop}{f:PV->Option c6}:∀{ps:List PV} {ρ:a8},
 (∀p∈ps,∀ρ,I ρ->f p=none->∃ρ1 ρ2,tg p ρ=some ρ1/\body ρ1=some (.nx ρ2)/\I ρ2)->
 (∀p∈ps,∀ρ,I ρ->∀r,f p=some r->∃ρ1,tg p ρ=some ρ1/\body ρ1=some (.rt r))->I ρ->
 (ps.findSome? f=none/\∃ρ',D4 body tg ps ρ=some (.nx ρ')/\I ρ')\/(∃r,ps.findSome? f=some r/\D4 body tg ps ρ=some (.rt r))
 |[],ρ,_,_,h=> .inl ⟨rfl,ρ,rfl,h⟩
 |k::xs,ρ,sg,sb,h=>by
  rw [List.findSome?_cons]
  cases e:f k with
  |none=>
   obtain⟨ρ1,ρ2,h1,h2,h3⟩:=sg k Ah ρ h e
   have hf:D4 body tg (k::xs) ρ=D4 body tg xs ρ2:=by
    rw [D4,h1]
    show(body ρ1).bind _=_
    rw [h2];rfl
   rw [hf]
   exact a27 (fun q hq=>sg q (Ac _ hq)) (fun q hq=>sb q (Ac _ hq)) h3
  |some r=>
   obtain⟨ρ1,h1,h2⟩:=sb k Ah ρ h r e
   refine .inr ⟨r,rfl, ?_⟩
   rw [D4,h1]
   show(body ρ1).bind _=_
   rw [h2];rfl
theorem b2z{body:MS}{tg:PV->a8->Option a8}{I:a8->Prop}{p:PV}{ρ ρ1 ρ2:a8}(h1:tg p ρ=some ρ1)(h2:body ρ1=some (.nx ρ2))(h3:I ρ2):∃ρ1 ρ2,tg p ρ=some ρ1/\body ρ1=some (.nx ρ2)/\I ρ2:=⟨ρ1,ρ2,h1,h2,h3⟩
theorem J6{c:MT}{body:MS}{I:Nat->a8->Prop}(s:∀m ρ,I m ρ->c ρ=some false\/(c ρ=some true/\∃ρ' m',body ρ=some (.nx ρ')/\m'<m/\I m' ρ')):∀(n m:Nat) (ρ:a8),m<n->I m ρ->∃ρ' m',y8 c body n ρ=some (.nx ρ')/\I m' ρ'/\c ρ'=some false
 |0,m,ρ,h,_=>by lia
 |n+1,m,ρ,h,hi=>by
  rcases s m ρ hi with hc|⟨hc,ρ',m',h1,h2,h3⟩
  ·refine⟨ρ,m, ?_,hi,hc⟩
   unfold y8
   rw [hc];rfl
  ·obtain⟨ρ2,m2,g1,g2,g3⟩:=J6 s n m' ρ' (by lia) h3
   refine⟨ρ2,m2, ?_,g2,g3⟩
   unfold y8
   rw [hc]
   show(body ρ).bind _=_
   rw [h1]
   exact g1
theorem a1H{α:Type}{q q':α->Bool}:∀{l:List α},(∀x∈l,q' x=true->q x=true)->(∃x∈l,q x=true/\q' x=false)->l.countP q'<l.countP q
 |[],_,⟨x,hx,_⟩=>by cases hx
 |a::l,h,⟨x,hx,h1,h2⟩=>by
  have le:l.countP q'<=l.countP q:=List.countP_mono_left fun x hx=>h x (Ac _ hx)
  rw [List.countP_cons,List.countP_cons]
  by_cases ha:q' a=true
  ·have ha2:=h a Ah ha
   rw [if_pos ha,if_pos ha2]
   have hne:x≠a:=fun z=>by rw [z,ha] at h2;cases h2
   have hx':x∈l:=by
    rcases Ai.mp hx with z|z
    ·exact absurd z hne
    ·exact z
   have:=a1H (l:=l) (fun x hx=>h x (Ac _ hx)) ⟨x,hx',h1,h2⟩
   lia
  ·rw [if_neg ha]
   by_cases hxa:x=a
   ·subst hxa
    rw [if_pos h1];lia
   ·have hx':x∈l:=by
     rcases Ai.mp hx with z|z
     ·exact absurd z hxa
     ·exact z
    have:=a1H (l:=l) (fun x hx=>h x (Ac _ hx)) ⟨x,hx',h1,h2⟩
    split<;>lia
def a0D(n:Nat):List (Nat×Nat):=(Az n).flatMap fun r=>(Az n).map fun c=>(r,c)
theorem a5S{n:Nat}{r c:Nat}:(r,c)∈a0D n↔r<n/\c<n:=by
 unfold a0D
 simp [List.mem_flatMap,Ag,List.mem_range]
theorem a5O(n:Nat):(a0D n).length=n*n:=by
 unfold a0D
 rw [List.length_flatMap]
 have h:∀l:List Nat,(l.map fun _=>n).sum=l.length*n:=by
  intro l
  induction l with
  |nil=>simp
  |cons a l ih=>rw [AM,List.sum_cons,ih,AU,Nat.succ_mul,Nat.add_comm]
 simp only [AR,BH]
 rw [h,BH]
theorem a4L{ps:List PV}{n:Nat}(h:∀p∈ps,j8 p n=true):D2 ps n=true:=by
 induction ps with
 |nil=>rfl
 |cons p ps ih=>simp [D2,h p Ah,ih fun q hq=>h q (Ac _ hq)]
theorem a96{W:List PV}(h:∀p∈W,j8 p 49=true):gNe (.bo (.lst W)) (.ow (.lst []))=some (.val (.bool (!W.isEmpty))):=by
 rw [a3O (x:= .bo (.lst W)) (y:= .ow (.lst [])) ⟨by show j8 (.list W) 50=true;simp only [j8];exact a4L h,rfl⟩]
 show some (c6.val (.bool (!PyData.eqv (.list W) (.list []))))=_
 cases W with
 |nil=>simp [PyData.eqv,PyData.eqvAll]
 |cons a W=>simp [PyData.eqv,PyData.eqvAll]
def a6R:List Str->Str->Option Nat
 |[],_=>none
 |k::ks,x=>if k=x then some 0 else(a6R ks x).map (· +1)
theorem a4T{x:Str}:∀{kk:List Str} {ps:List PV} {j:Nat} {p:PV},a6R kk x=some j->ps[j]?=some p->V1 kk ps x=some p
 |[],_,_,_,h,_=>by simp [a6R] at h
 |k::ks,[],j,_,_,h2=>by simp at h2
 |k::ks,q::ps,j,p,h,h2=>by
  unfold a6R at h
  unfold V1
  by_cases c:k=x
  ·rw [if_pos c] at h;cases h
   rw [if_pos c];simpa using h2
  ·rw [if_neg c] at h
   rw [if_neg c]
   cases h3:a6R ks x with
   |none=>rw [h3] at h;cases h
   |some i=>
    rw [h3] at h;cases h
    exact a4T h3 (by simpa using h2)
end PU
set_option maxHeartbeats 4000000
namespace LW
open PySem PySem.Spec PyProof.Rows L2 PU
def u8:List (c9×PV):=[((.inr "stay"),(.tuple [(.int 1),(.int 0),(.int 0),(.int 1)])),((.inr "turn"),(.tuple [(.int 0),(.int 1),(.int (-1)),(.int 0)])),((.inr "half"),(.tuple [(.int (-1)),(.int 0),(.int 0),(.int (-1))])),((.inr "back"),(.tuple [(.int 0),(.int (-1)),(.int 1),(.int 0)])),((.inr "side"),(.tuple [(.int 1),(.int 0),(.int 0),(.int (-1))])),((.inr "flip"),(.tuple [(.int (-1)),(.int 0),(.int 0),(.int 1)])),((.inr "cross"),(.tuple [(.int 0),(.int 1),(.int 1),(.int 0)])),((.inr "other"),(.tuple [(.int 0),(.int (-1)),(.int (-1)),(.int 0)]))]
def T9:PV:=(.tuple [(.int 1),(.int 2)])
def X3:List (List c9×PV):=[([(.inl 1),(.inl 2)],(.str "stay")),([(.inl 2),(.inl (-1))],(.str "turn")),([(.inl (-1)),(.inl (-2))],(.str "half")),([(.inl (-2)),(.inl 1)],(.str "back")),([(.inl 1),(.inl (-2))],(.str "side")),([(.inl (-1)),(.inl 2)],(.str "flip")),([(.inl 2),(.inl 1)],(.str "cross")),([(.inl (-2)),(.inl (-1))],(.str "other"))]
def a0R:MS:=
 (C5 (a3Z ["stay","turn","half","back","side","flip","cross","other"] (a5 (B2 (a5 (a9 1) (a5 (a9 2) c7))) (a5 (B2 (a5 (a9 2) (a5 (a2R (a9 1)) c7))) (a5 (B2 (a5 (a2R (a9 1)) (a5 (a2R (a9 2)) c7))) (a5 (B2 (a5 (a2R (a9 2)) (a5 (a9 1) c7))) (a5 (B2 (a5 (a9 1) (a5 (a2R (a9 2)) c7))) (a5 (B2 (a5 (a2R (a9 1)) (a5 (a9 2) c7))) (a5 (B2 (a5 (a9 2) (a5 (a9 1) c7))) (a5 (B2 (a5 (a2R (a9 2)) (a5 (a2R (a9 1)) c7))) c7)))))))) (a9 0)))
def q0:List PV->Option c6:=G3 0 a0R
def a0Q:MS:=
 (l7 (b0f [3,4] (j6 q0 (a5 (m2 B1 (a9 1) (mC (.int 0))) (a5 (m2 B1 (a9 2) (mC (.int 0))) (a5 (m2 B1 (a9 2) (mC (.int 1))) c7)))))
 (C5 (B2 (a5 (m2 (gIc (fun _ j=>0<j) fun i j=> .int (i % j)) (m2 U1 (a9 3) (m2 B1 (a9 1) (mC (.int 1)))) (a9 0)) (a5 (m2 (gIc (fun _ j=>0<j) fun i j=> .int (i % j)) (m2 U1 (a9 4) (m2 B1 (a9 1) (mC (.int 2)))) (a9 0)) c7)))))
def I9:List PV->Option c6:=G3 2 a0Q
def t5:MS:=
 (W5 (mtB (m2 gEq (j6 q0 (a5 (a9 4) (a5 (mC (.int 1)) (a5 (mC (.int 2)) c7)))) (a9 3))) (l7 (b0f [5,6] (j6 I9 (a5 (a9 0) (a5 (a9 2) (a5 (B2 (a5 (m2 B1 (a9 1) (mC (.int 1))) (a5 (m2 B1 (a9 1) (mC (.int 2))) c7))) c7)))))
 (C5 (B2 (a5 (a9 4) (a5 (a9 5) (a5 (a9 6) c7)))))) G0)
def Y2:MS:=
 (l7 (x6 3 (j6 q0 (a5 (m2 B1 (a9 1) (mC (.int 0))) (a5 (mC (.int 1)) (a5 (mC (.int 2)) c7)))))
 (l7 (x6 3 (j6 q0 (a5 (m2 B1 (a9 2) (mC (.int 0))) (a5 (m2 B1 (a9 3) (mC (.int 0))) (a5 (m2 B1 (a9 3) (mC (.int 1))) c7)))))
 (l7 (W4 (N4 (B2 (a5 (mC (.str "back")) (a5 (mC (.str "cross")) (a5 (mC (.str "flip")) (a5 (mC (.str "half")) (a5 (mC (.str "other")) (a5 (mC (.str "side")) (a5 (mC (.str "stay")) (a5 (mC (.str "turn")) c7)))))))))) (j9 4) t5)
 (C5 (mC .none)))))
def A2:List PV->Option c6:=G3 4 Y2
def x5:MS:=
 (l7 (x6 6 (j6 A2 (a5 (a9 0) (a5 (a9 4) (a5 (a9 5) c7)))))
 (W5 (mtB (a18 true 2 (a9 6))) (l7 (Z1 2 (a9 6) (mC (.bool true)))
 (D8 3 (a9 6))) G0))
def B8:MS:=
 (l7 (a8x 4 3)
 (W4 (N4 (a9 1)) (j9 5) x5))
def a1z:MS:=
 (l7 (x6 2 (a19 (B2 (a5 (mC (.str "stay")) (a5 (mC (.int 0)) (a5 (mC (.int 0)) c7)))) (mC (.bool true))))
 (l7 (x6 3 (W6 (a5 (B2 (a5 (mC (.str "stay")) (a5 (mC (.int 0)) (a5 (mC (.int 0)) c7)))) c7)))
 (l7 (y8 (mtB (m2 gNe (a9 3) (W6 c7))) B8 2000)
 (C5 (m1 Q5 (a9 2))))))
def M8:List PV->Option c6:=G3 5 a1z
def a1A:MS:=
 (l7 (x6 2 (b1X u8 (a9 0)))
 (C5 (B2 (a5 (m2 U1 (m2 U9 (m2 B1 (a9 2) (mC (.int 0))) (m2 B1 (a9 1) (mC (.int 0)))) (m2 U9 (m2 B1 (a9 2) (mC (.int 1))) (m2 B1 (a9 1) (mC (.int 1))))) (a5 (m2 U1 (m2 U9 (m2 B1 (a9 2) (mC (.int 2))) (m2 B1 (a9 1) (mC (.int 0)))) (m2 U9 (m2 B1 (a9 2) (mC (.int 3))) (m2 B1 (a9 1) (mC (.int 1))))) c7)))))
def y7:List PV->Option c6:=G3 1 a1A
def b0X:MS:=
 (l7 (x6 3 (j6 y7 (a5 (m2 B1 (a9 1) (mC (.int 0))) (a5 (a9 2) c7))))
 (C5 (B2 (a5 (m2 (gIc (fun _ j=>0<j) fun i j=> .int (i % j)) (m2 U1 (m2 B1 (a9 3) (mC (.int 0))) (m2 B1 (a9 1) (mC (.int 1)))) (a9 0)) (a5 (m2 (gIc (fun _ j=>0<j) fun i j=> .int (i % j)) (m2 U1 (m2 B1 (a9 3) (mC (.int 1))) (m2 B1 (a9 1) (mC (.int 2)))) (a9 0)) c7)))))
def a6l:List PV->Option c6:=G3 1 b0X
def a1B:MS:=
 (C5 (a8y X3 (j6 y7 (a5 (a9 1) (a5 (j6 y7 (a5 (a9 0) (a5 (mC T9) c7))) c7)))))
def M9:List PV->Option c6:=G3 0 a1B
def a7E:MS:=
 (l7 (x6 3 (j6 a6l (a5 (a9 0) (a5 (a9 2) (a5 (B2 (a5 (m2 B1 (a9 1) (mC (.int 1))) (a5 (m2 B1 (a9 1) (mC (.int 2))) c7))) c7)))))
 (C5 (B2 (a5 (j6 M9 (a5 (m2 B1 (a9 1) (mC (.int 0))) (a5 (m2 B1 (a9 2) (mC (.int 0))) c7))) (a5 (m2 B1 (a9 3) (mC (.int 0))) (a5 (m2 B1 (a9 3) (mC (.int 1))) c7))))))
def a0v:List PV->Option c6:=G3 1 a7E
def A6:MS:=
 (l7 (x6 6 (j6 a0v (a5 (a9 0) (a5 (m2 B1 (a9 3) (a9 4)) (a5 (a9 5) c7)))))
 (W5 (mtB (a18 true 2 (a9 6))) (l7 (Z1 2 (a9 6) (mC (.bool true)))
 (D8 3 (a9 6))) G0))
def D5:MS:=
 (l7 (W4 (N4 (a9 1)) (j9 5) A6)
 (b0e 4 (gI fun i j=> .int (i+j)) (mC (.int 1))))
def a2Y:MS:=
 (l7 (x6 2 (a19 (B2 (a5 (mC (.str "stay")) (a5 (mC (.int 0)) (a5 (mC (.int 0)) c7)))) (mC (.bool true))))
 (l7 (x6 3 (W6 (a5 (B2 (a5 (mC (.str "stay")) (a5 (mC (.int 0)) (a5 (mC (.int 0)) c7)))) c7)))
 (l7 (x6 4 (mC (.int 0)))
 (l7 (y8 (mtB (m2 a0s (a9 4) (m1 E8 (a9 3)))) D5 1000)
 (a0Y 2)))))
def w4:List PV->Option c6:=G3 5 a2Y
def J2:MS:=
 (W5 (mtB (a18 true 4 (a9 6))) (l7 (D8 2 (a9 5))
 (l7 (D8 3 (a9 6))
 (x6 4 (a0B w4 3 (a9 0))))) G0)
def a4A:MS:=
 (l7 (x6 2 (W6 c7))
 (l7 (x6 3 (W6 c7))
 (l7 (x6 4 (a0B w4 3 (a9 0)))
 (l7 (W4 (a8v (a5 (a9 1) c7)) (a6A [5,6]) J2)
 (a0Y 2)))))
def A4:List PV->Option c6:=G3 5 a4A
def A7:MS:=
 (l7 (x6 7 (j6 a0v (a5 (a9 0) (a5 (m2 B1 (a9 4) (a9 5)) (a5 (m2 B1 (a9 1) (a9 6)) c7)))))
 (W5 (mtB (a18 true 3 (a9 7))) (l7 (Z1 3 (a9 7) (m2 a4Q (a1l 3 (m2 B1 (a9 4) (a9 5))) (W6 (a5 (a9 6) c7))))
 (D8 4 (a9 7))) G0))
def D6:MS:=
 (l7 (Z2 2 (W4 (N4 (a9 2)) (j9 6) A7))
 (b0e 5 (gI fun i j=> .int (i+j)) (mC (.int 1))))
def w5:MS:=
 (l7 (x6 3 (a19 (B2 (a5 (mC (.str "stay")) (a5 (mC (.int 0)) (a5 (mC (.int 0)) c7)))) (W6 c7)))
 (l7 (x6 4 (W6 (a5 (B2 (a5 (mC (.str "stay")) (a5 (mC (.int 0)) (a5 (mC (.int 0)) c7)))) c7)))
 (l7 (x6 5 (mC (.int 0)))
 (l7 (y8 (mtB (m2 a0s (a9 5) (m1 E8 (a9 4)))) D6 1000)
 (a0Y 3)))))
def a2Z:MS:=
 (l7 (x6 2 (j6 A4 (a5 (a9 0) (a5 (a9 1) c7))))
 w5)
def u0:List PV->Option c6:=G3 6 a2Z
def y6:List PV->Option c6:=b0F 6 (j6 A4 (a5 (a9 0) (a5 (a9 1) c7))) w5
def a0T:MS:=
 (C5 (b1T (m1 (a3M "int") (a9 0)) (b29 (m1 (a3M "bool") (a9 0)))))
def J0:List PV->Option c6:=G3 0 a0T
def A5:MS:=
 (l7 (W5 (a67 (Z3 (mtV (j6 J0 (a5 (a9 6) c7)))) (Z3 (mtB (a3X a91 a0s (mC (.int 0)) (a9 6) (m1 E8 (a9 1)))))) (C5 (mC (.bool false))) G0)
 (x6 5 (j6 A2 (a5 (a9 0) (a5 (a9 5) (a5 (m2 B1 (a9 1) (a9 6)) c7))))))
def a0S:MS:=
 (l7 (W5 (a67 (Z3 (mtV (m1 (a3M "list") (a9 2)))) (mtB (m2 (gI fun i j=> .bool (decide (j<i))) (m1 E8 (a9 2)) (a9 4)))) (C5 (mC (.bool false))) G0)
 (l7 (x6 5 (B2 (a5 (mC (.str "stay")) (a5 (mC (.int 0)) (a5 (mC (.int 0)) c7)))))
 (l7 (W4 (N4 (a9 2)) (j9 6) A5)
 (C5 (m2 gEq (a9 5) (a9 3))))))
def v4:List PV->Option c6:=G3 2 a0S
def a4B:MS:=
 (C5 (a3Y (j6 u0 (a5 (a9 0) (a5 (a9 1) c7))) (a9 2)))
def L4:List PV->Option c6:=G3 0 a4B
def a0P:MS:=
 (C5 (m2 (gIc (fun _ j=>0<j) fun i j=> .int (i % j)) (m2 U9 (m2 U1 (m2 U1 (m2 (gIc (fun _ j=>0<j) fun i j=> .int (i % j)) (a9 0) (mC (.int 1000003))) (m2 U9 (a9 1) (a9 1))) (mC (.int 1))) (mC (.int 48271))) (mC (.int 2147483647))))
def z6:List PV->Option c6:=G3 0 a0P
def U4:MS:=
 (l7 (W5 (mtB (m2 a0s (a9 1) (m1 E8 (a9 0)))) (C5 (m2 B1 (a9 0) (a9 1))) G0)
 (C5 (mC (.int 0))))
def p0:List PV->Option c6:=G3 0 U4
def P0:MS:=
 (l7 (x6 2 (m2 B1 (W6 (a5 (mC (.str "stay")) (a5 (mC (.str "turn")) (a5 (mC (.str "half")) (a5 (mC (.str "back")) (a5 (mC (.str "side")) (a5 (mC (.str "flip")) (a5 (mC (.str "cross")) (a5 (mC (.str "other")) c7))))))))) (m2 (gIc (fun _ j=>0<j) fun i j=> .int (i % j)) (a9 1) (mC (.int 8)))))
 (C5 (B2 (a5 (a9 2) (a5 (m2 (gIc (fun _ j=>0<j) fun i j=> .int (i % j)) (m2 (gIc a5q fun i j=> .int (i / j)) (a9 1) (mC (.int 8))) (a9 0)) (a5 (m2 (gIc (fun _ j=>0<j) fun i j=> .int (i % j)) (m2 (gIc a5q fun i j=> .int (i / j)) (a9 1) (mC (.int 64))) (a9 0)) c7))))))
def A3:List PV->Option c6:=G3 1 P0
def a11:MS:=
 (D8 2 (j6 A3 (a5 (a9 1) (a5 (j6 z6 (a5 (j6 p0 (a5 (a9 0) (a5 (m2 U1 (mC (.int 1)) (a9 3)) c7))) (a5 (m2 U1 (mC (.int 20)) (a9 3)) c7))) c7))))
def a12:MS:=
 (W5 (Z3 (mtV (j6 v4 (a5 (a9 1) (a5 (a9 2) (a5 (a1l 6 (a9 7)) (a5 (a9 7) (a5 (m1 E8 (a9 4)) c7)))))))) (C5 (mC (.bool false))) G0)
def a13:MS:=
 (l7 (x6 7 (m2 B1 (a9 4) (m2 (gIc (fun _ j=>0<j) fun i j=> .int (i % j)) (j6 z6 (a5 (j6 p0 (a5 (a9 0) (a5 (m2 U1 (mC (.int 6)) (a9 3)) c7))) (a5 (m2 U1 (mC (.int 50)) (a9 3)) c7))) (m1 E8 (a9 4)))))
 (W5 (Z3 (mtV (j6 v4 (a5 (a9 1) (a5 (a9 2) (a5 (j6 L4 (a5 (a9 1) (a5 (a9 5) (a5 (a9 7) c7)))) (a5 (a9 7) (a5 (m1 E8 (a9 4)) c7)))))))) (C5 (mC (.bool false))) G0))
def Q7:MS:=
 (W5 (a67 (Z3 (mtV (m1 (a3M "dict") (a9 6)))) (a67 (mtB (m2 gNe (m1 Q5 (a9 6)) (a9 4))) (mtB (m2 gNe (a9 5) (a9 2))))) (C5 (mC (.bool false))) G0)
def Q8:MS:=
 (W4 (N4 (a9 4)) (j9 7) a12)
def Q9:MS:=
 (W4 (a4V (a5 (mC (.int 3)) c7)) (j9 3) a13)
def b0W:MS:=
 (l7 (x6 1 (m2 U1 (mC (.int 1)) (m2 (gIc (fun _ j=>0<j) fun i j=> .int (i % j)) (j6 z6 (a5 (j6 p0 (a5 (a9 0) (a5 (mC (.int 0)) c7))) (a5 (mC (.int 1)) c7))) (mC (.int 5)))))
 (l7 (x6 2 (W6 c7))
 (l7 (W4 (a4V (a5 (m2 (gIc (fun _ j=>0<j) fun i j=> .int (i % j)) (j6 p0 (a5 (a9 0) (a5 (mC (.int 0)) c7))) (mC (.int 6))) c7)) (j9 3) a11)
 (l7 (Z2 2 (x6 4 (j6 M8 (a5 (a9 1) (a5 (a9 2) c7)))))
 (l7 (x6 5 (m1 a3N (a9 2)))
 (Z2 4 (Z2 2 (a2a 6 5 [1] [1,2,4,5] (j6 u0 (a5 (a9 1) (a5 (a9 5) c7))) (a17 y6 5 (a9 1)) Q7 Q8 Q9 (a3g 6 (a5 (mC (.str "stay")) (a5 (mC (.int 0)) (a5 (mC (.int 0)) c7)))) (mC (.int 0))
 (l7 (W5 (mtB (m2 gNe (a9 5) (a9 2))) (C5 (mC (.bool false))) G0)
 (Z2 2 (C5 (j6 v4 (a5 (a9 1) (a5 (a9 2) (a5 (j6 L4 (a5 (a9 1) (a5 (a9 2) (a5 (B2 (a5 (mC (.str "stay")) (a5 (mC (.int 0)) (a5 (mC (.int 0)) c7)))) c7)))) (a5 (B2 (a5 (mC (.str "stay")) (a5 (mC (.int 0)) (a5 (mC (.int 0)) c7)))) (a5 (m1 E8 (a9 4)) c7)))))))))))))))))
def a8f:List PV->Option c6:=G3 7 b0W
end LW
set_option maxHeartbeats 1000000
namespace LW
open PySem PySem.Spec PyProof.Rows L2 PU
def l0:List Str:=[AJ "stay",AJ "turn",AJ "half",AJ "back",AJ "side",AJ "flip",AJ "cross",AJ "other"]
abbrev b39:List PV:=[.str (AJ "stay"),.str (AJ "turn"),.str (AJ "half"),.str (AJ "back"),.str (AJ "side"),.str (AJ "flip"),.str (AJ "cross"),.str (AJ "other")]
def i9(w:Str)(a b:Int):Int:=if w=AJ "stay" then a else if w=AJ "turn" then b else if w=AJ "half" then -a else if w=AJ "back" then -b else if w=AJ "side" then a else if w=AJ "flip" then -a else if w=AJ "cross" then b else -b
def i8(w:Str)(a b:Int):Int:=if w=AJ "stay" then b else if w=AJ "turn" then -a else if w=AJ "half" then -b else if w=AJ "back" then a else if w=AJ "side" then -b else if w=AJ "flip" then b else if w=AJ "cross" then a else -a
theorem v6{w:Str}(h:w∈l0):w=AJ "stay"\/w=AJ "turn"\/w=AJ "half"\/w=AJ "back"\/w=AJ "side"\/w=AJ "flip"\/w=AJ "cross"\/w=AJ "other":=by
 simpa [l0] using h
theorem b3K:u7 u8 (.inr (AJ "stay"))=some (.tuple [.int 1,.int 0,.int 0,.int 1]):=by kernel_rfl
theorem b3L:u7 u8 (.inr (AJ "turn"))=some (.tuple [.int 0,.int 1,.int (-1),.int 0]):=by kernel_rfl
theorem b3M:u7 u8 (.inr (AJ "half"))=some (.tuple [.int (-1),.int 0,.int 0,.int (-1)]):=by kernel_rfl
theorem b3N:u7 u8 (.inr (AJ "back"))=some (.tuple [.int 0,.int (-1),.int 1,.int 0]):=by kernel_rfl
theorem b3O:u7 u8 (.inr (AJ "side"))=some (.tuple [.int 1,.int 0,.int 0,.int (-1)]):=by kernel_rfl
theorem b3P:u7 u8 (.inr (AJ "flip"))=some (.tuple [.int (-1),.int 0,.int 0,.int 1]):=by kernel_rfl
theorem b3Q:u7 u8 (.inr (AJ "cross"))=some (.tuple [.int 0,.int 1,.int 1,.int 0]):=by kernel_rfl
theorem b3R:u7 u8 (.inr (AJ "other"))=some (.tuple [.int 0,.int (-1),.int (-1),.int 0]):=by kernel_rfl
theorem R7{w:Str}(hw:w∈l0)(a b:Int):y7 [.str w,.tuple [.int a,.int b]]=some (.val (.tuple [.int (i9 w a b),.int (i8 w a b)])):=by
 have key:∀x y z t r c:Int,u7 u8 (.inr w)=some (.tuple [.int x,.int y,.int z,.int t])->(-2<x/\x<2)->(-2<y/\y<2)->(-2<z/\z<2)->(-2<t/\t<2)->x*a+y*b=r->z*a+t*b=c->
  y7 [.str w,.tuple [.int a,.int b]]=some (.val (.tuple [.int r,.int c])):=by
  intro x y z t r c h hx hy hz ht e1 e2
  subst e1 e2
  unfold y7 a1A
  simp (disch:=omega) only [E7,a6k,Q3,L1,Q4,a79,l6,n9,g0,i3,f8,d8,d9,p7,j5,u9,l9,A9,g7,i5,k0,n6,a8z,b2C,AQ,BD,AM,Ae,Af,Ak,BA,Ap,AW,AX,AU,Aj,↓reduceIte,sz,Nat.reduceAdd,As,h]
 rcases v6 hw with rfl|rfl|rfl|rfl|rfl|rfl|rfl|rfl
 ·exact key _ _ _ _ _ _ b3K (by decide) (by decide) (by decide) (by decide) (by show _=a;lia) (by show _=b;lia)
 ·exact key _ _ _ _ _ _ b3L (by decide) (by decide) (by decide) (by decide) (by show _=b;lia) (by show _= -a;lia)
 ·exact key _ _ _ _ _ _ b3M (by decide) (by decide) (by decide) (by decide) (by show _= -a;lia) (by show _= -b;lia)
 ·exact key _ _ _ _ _ _ b3N (by decide) (by decide) (by decide) (by decide) (by show _= -b;lia) (by show _=a;lia)
 ·exact key _ _ _ _ _ _ b3O (by decide) (by decide) (by decide) (by decide) (by show _=a;lia) (by show _= -b;lia)
 ·exact key _ _ _ _ _ _ b3P (by decide) (by decide) (by decide) (by decide) (by show _= -a;lia) (by show _=b;lia)
 ·exact key _ _ _ _ _ _ b3Q (by decide) (by decide) (by decide) (by decide) (by show _=b;lia) (by show _=a;lia)
 ·exact key _ _ _ _ _ _ b3R (by decide) (by decide) (by decide) (by decide) (by show _= -b;lia) (by show _= -a;lia)
theorem b1S{w:Str}(hw:w∈l0){s:Int}(hs:0<s)(d r a b:Int):a6l [.int s,.tuple [.str w,.int d,.int r],.tuple [.int a,.int b]]=some (.val (.tuple [.int ((i9 w a b+d) % s),.int ((i8 w a b+r) % s)])):=by
 unfold a6l b0X
 simp (disch:=omega) only [E7,L3,Q3,L1,Q4,l6,n9,g0,i3,f8,d8,d9,p7,i4,j5,u9,l9,A9,g7,i5,k0,n6,AQ,AM,Ae,Af,Ak,BA,Ap,AW,AX,AU,Aj,↓reduceIte,sz,Nat.reduceAdd,As,R7 hw a b]
abbrev T3(w:Str)(d r:Int):PV:= .tuple [.str w,.int d,.int r]
theorem a6v{w:Str}(hw:w∈l0)(a b x y:Int):i9 w (a+x) (b+y)=i9 w a b+i9 w x y:=by
 rcases v6 hw with rfl|rfl|rfl|rfl|rfl|rfl|rfl|rfl
 ·show a+x=a+x;rfl
 ·show b+y=b+y;rfl
 ·show -(a+x)= -a+ -x;lia
 ·show -(b+y)= -b+ -y;lia
 ·show a+x=a+x;rfl
 ·show -(a+x)= -a+ -x;lia
 ·show b+y=b+y;rfl
 ·show -(b+y)= -b+ -y;lia
theorem a59{w:Str}(hw:w∈l0)(a b x y:Int):i8 w (a+x) (b+y)=i8 w a b+i8 w x y:=by
 rcases v6 hw with rfl|rfl|rfl|rfl|rfl|rfl|rfl|rfl
 ·show b+y=b+y;rfl
 ·show -(a+x)= -a+ -x;lia
 ·show -(b+y)= -b+ -y;lia
 ·show a+x=a+x;rfl
 ·show -(b+y)= -b+ -y;lia
 ·show b+y=b+y;rfl
 ·show a+x=a+x;rfl
 ·show -(a+x)= -a+ -x;lia
theorem a85{w:Str}(hw:w∈l0)(s x y:Int):∃k,i9 w (s*x) (s*y)=s*k:=by
 rcases v6 hw with rfl|rfl|rfl|rfl|rfl|rfl|rfl|rfl
 ·exact⟨x,rfl⟩
 ·exact⟨y,rfl⟩
 ·exact⟨-x,by show -(s*x)=s* -x;rw [Int.mul_neg]⟩
 ·exact⟨-y,by show -(s*y)=s* -y;rw [Int.mul_neg]⟩
 ·exact⟨x,rfl⟩
 ·exact⟨-x,by show -(s*x)=s* -x;rw [Int.mul_neg]⟩
 ·exact⟨y,rfl⟩
 ·exact⟨-y,by show -(s*y)=s* -y;rw [Int.mul_neg]⟩
theorem a7H{w:Str}(hw:w∈l0)(s x y:Int):∃k,i8 w (s*x) (s*y)=s*k:=by
 rcases v6 hw with rfl|rfl|rfl|rfl|rfl|rfl|rfl|rfl
 ·exact⟨y,rfl⟩
 ·exact⟨-x,by show -(s*x)=s* -x;rw [Int.mul_neg]⟩
 ·exact⟨-y,by show -(s*y)=s* -y;rw [Int.mul_neg]⟩
 ·exact⟨x,rfl⟩
 ·exact⟨-y,by show -(s*y)=s* -y;rw [Int.mul_neg]⟩
 ·exact⟨y,rfl⟩
 ·exact⟨x,rfl⟩
 ·exact⟨-x,by show -(s*x)=s* -x;rw [Int.mul_neg]⟩
theorem a4Y(x s k d:Int):(x+s*k+d) % s=(x+d) % s:=by
 rw [Int.add_right_comm,Int.add_mul_emod_self_left]
theorem a32(x s:Int):x % s=x+s*(-(x / s)):=by
 have:=Int.emod_add_mul_ediv x s
 rw [Int.mul_neg]
 lia
theorem b0D{w:Str}(hw:w∈l0)(s x y e:Int):(i9 w (x % s) (y % s)+e) % s=(i9 w x y+e) % s:=by
 rw [a32 x s,a32 y s,a6v hw]
 obtain⟨k,hk⟩:=a85 hw s (-(x / s)) (-(y / s))
 rw [hk,a4Y]
theorem a9G{w:Str}(hw:w∈l0)(s x y e:Int):(i8 w (x % s) (y % s)+e) % s=(i8 w x y+e) % s:=by
 rw [a32 x s,a32 y s,a59 hw]
 obtain⟨k,hk⟩:=a7H hw s (-(x / s)) (-(y / s))
 rw [hk,a4Y]
def mat(w:Str):Int×Int×Int×Int:=(i9 w 1 0,i9 w 0 1,i8 w 1 0,i8 w 0 1)
theorem a1o{w:Str}(hw:w∈l0)(a b:Int):i9 w a b=(mat w).1*a+(mat w).2.1*b:=by
 rcases v6 hw with rfl|rfl|rfl|rfl|rfl|rfl|rfl|rfl
 ·show a=1*a+0*b;lia
 ·show b=0*a+1*b;lia
 ·show -a=(-1)*a+ -0*b;lia
 ·show -b= -0*a+(-1)*b;lia
 ·show a=1*a+0*b;lia
 ·show -a=(-1)*a+ -0*b;lia
 ·show b=0*a+1*b;lia
 ·show -b= -0*a+(-1)*b;lia
theorem a1c{w:Str}(hw:w∈l0)(a b:Int):i8 w a b=(mat w).2.2.1*a+(mat w).2.2.2*b:=by
 rcases v6 hw with rfl|rfl|rfl|rfl|rfl|rfl|rfl|rfl
 ·show b=0*a+1*b;lia
 ·show -a=(-1)*a+ -0*b;lia
 ·show -b= -0*a+(-1)*b;lia
 ·show a=1*a+0*b;lia
 ·show -b= -0*a+(-1)*b;lia
 ·show b=0*a+1*b;lia
 ·show a=1*a+0*b;lia
 ·show -a=(-1)*a+ -0*b;lia
def m6(a b:Str):Str:=match u7 X3 [.inl (i9 b (i9 a 1 2) (i8 a 1 2)),.inl (i8 b (i9 a 1 2) (i8 a 1 2))] with
 |some (.str w)=>w
 |_=>AJ ""
def a1G(a b:Str):Bool:=decide (m6 a b∈l0)&& decide ((mat (m6 a b)).1=(mat b).1*(mat a).1+(mat b).2.1*(mat a).2.2.1)&& decide ((mat (m6 a b)).2.1=(mat b).1*(mat a).2.1+(mat b).2.1*(mat a).2.2.2)&&
 decide ((mat (m6 a b)).2.2.1=(mat b).2.2.1*(mat a).1+(mat b).2.2.2*(mat a).2.2.1)&& decide ((mat (m6 a b)).2.2.2=(mat b).2.2.1*(mat a).2.1+(mat b).2.2.2*(mat a).2.2.2)
theorem a5A:(l0.all fun a=>l0.all fun b=>a1G a b)=true:=by decide+kernel
theorem a0k{a b:Str}(ha:a∈l0)(hb:b∈l0):a1G a b=true:=List.all_eq_true.mp (List.all_eq_true.mp a5A a ha) b hb
theorem a7I{a b:Str}(ha:a∈l0)(hb:b∈l0):m6 a b∈l0:=by
 have h:=a0k ha hb
 simp only [a1G,Bool.and_eq_true,decide_eq_true_eq] at h
 exact h.1.1.1.1
theorem alg(p q s t u v x y:Int):(p*s+q*u)*x+(p*t+q*v)*y=p*(s*x+t*y)+q*(u*x+v*y):=by
 simp only [Int.add_mul,Int.mul_add,Int.mul_assoc]
 lia
theorem a84{a b:Str}(ha:a∈l0)(hb:b∈l0)(x y:Int):i9 (m6 a b) x y=i9 b (i9 a x y) (i8 a x y):=by
 have h:=a0k ha hb
 simp only [a1G,Bool.and_eq_true,decide_eq_true_eq] at h
 rw [a1o h.1.1.1.1,a1o hb,a1o ha,a1c ha,h.1.1.1.2,h.1.1.2,alg]
theorem a7G{a b:Str}(ha:a∈l0)(hb:b∈l0)(x y:Int):i8 (m6 a b) x y=i8 b (i9 a x y) (i8 a x y):=by
 have h:=a0k ha hb
 simp only [a1G,Bool.and_eq_true,decide_eq_true_eq] at h
 rw [a1c h.1.1.1.1,a1c hb,a1o ha,a1c ha,h.1.2,h.2,alg]
theorem a6I:(l0.all fun a=>l0.all fun b=>l0.all fun c=>decide (m6 (m6 a b) c=m6 a (m6 b c)))=true:=by decide+kernel
theorem a5B{a b c:Str}(ha:a∈l0)(hb:b∈l0)(hc:c∈l0):m6 (m6 a b) c=m6 a (m6 b c):=
 of_decide_eq_true (List.all_eq_true.mp (List.all_eq_true.mp (List.all_eq_true.mp a6I a ha) b hb) c hc)
theorem a8q(x y:Int):N2 [.int x,.int y]=some [.inl x,.inl y]:=rfl
theorem a5o{a b:Str}(ha:a∈l0)(hb:b∈l0):M9 [.str a,.str b]=some (.val (.str (m6 a b))):=by
 have hl:u7 X3 [.inl (i9 b (i9 a 1 2) (i8 a 1 2)),.inl (i8 b (i9 a 1 2) (i8 a 1 2))]=some (.str (m6 a b)):=by
  rcases v6 ha with rfl|rfl|rfl|rfl|rfl|rfl|rfl|rfl<;>rcases v6 hb with rfl|rfl|rfl|rfl|rfl|rfl|rfl|rfl<;>kernel_rfl
 unfold M9 a1B
 simp (disch:=omega) only [n9,g0,i3,f8,d8,d9,i4,l9,A9,k0,n6,a66,b0L,AQ,BD,AM,Ae,Ak,AZ,show T9= .tuple [.int 1,.int 2] from rfl,R7 ha,R7 hb,a8q,hl]
theorem b0O{a b:Str}(ha:a∈l0)(hb:b∈l0){s:Int}(hs:0<s)(d r e t:Int):a0v [.int s,T3 a d r,T3 b e t]=some (.val (T3 (m6 a b) ((i9 b d r+e) % s) ((i8 b d r+t) % s))):=by
 unfold a0v a7E
 simp (disch:=omega) only [Q3,L1,Q4,l6,n9,g0,i3,f8,d8,d9,p7,i4,j5,u9,l9,A9,g7,i5,k0,n6,AQ,AM,Ae,Af,Ak,BA,Ap,AW,AX,AU,Aj,↓reduceIte,sz,Nat.reduceAdd,As,b1S hb hs,a5o ha hb]
def lr(s:Int)(w:Str)(d t a b:Int):Int:=(i9 w a b+d) % s
def lc(s:Int)(w:Str)(d t a b:Int):Int:=(i8 w a b+t) % s
theorem tn(k:Nat):((k:Nat):Int).toNat=k:=by lia
def mix(c k:Int):Int:=(c % 1000003+k*k+1)*48271 % 2147483647
theorem b3a(c k:Int):0<=mix c k/\mix c k<2147483647:=by
 unfold mix
 exact⟨Int.emod_nonneg _ (by decide),Int.emod_lt_of_pos _ (by decide)⟩
theorem a2f{c k:Int}(hk:0<=k/\k<100000):z6 [.int c,.int k]=some (.val (.int (mix c k))):=by
 unfold z6 a0P mix
 simp (disch:=omega) only [E7,a6k,a95,L3,l6,n9,g0,i3,l9,A9,k0,n6,AQ,AM,Ae,Ak,AZ]
theorem z9{w:Str}(a b:Int){j:Nat}{p:PV}(h1:a6R l0 w=some j)(h2:[PyData.tuple [.int a,.int b],.tuple [.int b,.int (-a)],.tuple [.int (-a),.int (-b)],.tuple [.int (-b),.int a],.tuple [.int a,.int (-b)],.tuple [.int (-a),.int b],.tuple [.int b,.int a],.tuple [.int (-b),.int (-a)]][j]?=some p):q0 [.str w,.int a,.int b]=some (.val p):=by
 have h:=a4T h1 h2
 unfold l0 at h
 unfold q0 a0R
 simp (disch:=omega) only [g0,i3,f8,d8,d9,p7,l9,A9,k0,n6,a8w,b10,AQ,BD,AM,Ae,Ak,AZ,AU,Aj,↓reduceIte,sz,Nat.reduceAdd,As,a4U,b1P,h]
theorem R8{w:Str}(hw:w∈l0)(a b:Int):q0 [.str w,.int a,.int b]=some (.val (.tuple [.int (i9 w a b),.int (i8 w a b)])):=by
 rcases v6 hw with rfl|rfl|rfl|rfl|rfl|rfl|rfl|rfl
 ·exact z9 a b (j:=0) (by decide+kernel) rfl
 ·exact z9 a b (j:=1) (by decide+kernel) rfl
 ·exact z9 a b (j:=2) (by decide+kernel) rfl
 ·exact z9 a b (j:=3) (by decide+kernel) rfl
 ·exact z9 a b (j:=4) (by decide+kernel) rfl
 ·exact z9 a b (j:=5) (by decide+kernel) rfl
 ·exact z9 a b (j:=6) (by decide+kernel) rfl
 ·exact z9 a b (j:=7) (by decide+kernel) rfl
theorem a7g{w:Str}(hw:w∈l0){s:Int}(hs:0<s)(d r a b:Int):I9 [.int s,.tuple [.str w,.int d,.int r],.tuple [.int a,.int b]]=some (.val (.tuple [.int (lr s w d r a b),.int (lc s w d r a b)])):=by
 unfold I9 a0Q lr lc
 simp (disch:=omega) only [E7,L3,Q3,L1,Q4,l6,n9,g0,i3,f8,d8,d9,p7,i4,l9,A9,g7,i5,k0,n6,a4W,a9p,AQ,AM,Ae,Af,Ak,BA,Ap,AW,AX,AU,Aj,↓reduceIte,sz,Nat.reduceAdd,As,R8 hw a b]
theorem b0T(N:Int):∃w∈l0,B1 (.own b39) (.val (.int (N % 8)))=some (.val (.str w)):=by
 have h0:0<=N % 8:=by lia
 have h1:N % 8<8:=by lia
 generalize N % 8=k at h0 h1 ⊢
 have h:k=0\/k=1\/k=2\/k=3\/k=4\/k=5\/k=6\/k=7:=by lia
 rcases h with rfl|rfl|rfl|rfl|rfl|rfl|rfl|rfl
 ·exact⟨_,by decide+kernel,rfl⟩
 ·exact⟨_,by decide+kernel,rfl⟩
 ·exact⟨_,by decide+kernel,rfl⟩
 ·exact⟨_,by decide+kernel,rfl⟩
 ·exact⟨_,by decide+kernel,rfl⟩
 ·exact⟨_,by decide+kernel,rfl⟩
 ·exact⟨_,by decide+kernel,rfl⟩
 ·exact⟨_,by decide+kernel,rfl⟩
theorem b0k{n:Int}(N:Int)(hn:0<n):∃w∈l0,A3 [.int n,.int N]=some (.val (T3 w (N / 8 % n) (N / 64 % n))):=by
 obtain⟨w,hw,e⟩:=b0T N
 refine⟨w,hw, ?_⟩
 unfold A3 P0
 simp (disch:=omega) only [L3,a74,l6,n9,g0,i3,f8,d8,d9,p7,C4,j5,u9,l9,A9,g7,i5,k0,n6,AQ,AM,Ae,Af,Ak,BA,Ap,AW,AX,AU,Aj,↓reduceIte,sz,Nat.reduceAdd,As,e]
theorem a1F{ns:List Int}{k:Int}(h0:0<=k):∃c:Int,p0 [.list (ns.map .int),.int k]=some (.val (.int c)):=by
 unfold p0 U4
 by_cases h:k<ns.length
 ·have hk:k.toNat<ns.length:=by lia
  have e:L2.atI (ns.map PyData.int) k=some (.int ns[k.toNat]):=by
   rw [a7D h0,Ao,Au hk];rfl
  refine⟨ns[k.toNat], ?_⟩
  simp (disch:=omega) only [a1P,v9,l6,D0,g0,i3,g7,k8,k0,m4,r8,AQ,AM,Ae,Ak,AZ,AR,Q2 e]
  simp only [h,decide_true]
  simp (disch:=omega) only [l6,g0,i3,l9,A9,a6y,a3a,n6,AQ,Q2 e]
 ·refine⟨0, ?_⟩
  simp (disch:=omega) only [a1P,v9,l6,D0,g0,i3,g7,k8,k0,m4,r8,AQ,AM,Ae,Ak,AZ,AR]
  simp only [h,decide_false]
  simp (disch:=omega) only [n9,l9,A9,i5,O3,o0,n6,AQ]
def unv(n:Nat)(D:List (List c9×PV)):Nat:=(a0D n).countP fun p=>(l8 D [.inl (p.1:Nat),.inl (p.2:Nat)]).isNone
def a9B(n:Nat)(p:PV):Prop:=∃a b:Nat,a<n/\b<n/\p= .tuple [.int (a:Nat),.int (b:Nat)]
structure RI(n:Nat)(D:List (List c9×PV))(W:List PV):Prop where
 val:∀k v,l8 D k=some v->a9B n v
 wai:∀p∈W,a9B n p
 len:D.length+unv n D<=n*n
def Gr(D D':List (List c9×PV)):Prop:=∀k,(l8 D k).isSome=true->(l8 D' k).isSome=true
theorem Gr.refl(D:List (List c9×PV)):Gr D D:=fun _ h=>h
theorem Gr.trans{A B C:List (List c9×PV)}(h:Gr A B)(g:Gr B C):Gr A C:=fun k x=>g k (h k x)
theorem Gr.put(D:List (List c9×PV))(k:List c9)(v:PV):Gr D (W8 D k v):=fun k' h=>by
 rw [a0f];split
 ·rfl
 ·exact h
theorem b0R{n:Nat}{D:List (List c9×PV)}{a b:Nat}(ha:a<n)(hb:b<n)(v:PV)(h:(l8 D [.inl (a:Nat),.inl (b:Nat)]).isSome=false):unv n (W8 D [.inl (a:Nat),.inl (b:Nat)] v)<unv n D:=by
 unfold unv
 refine a1H (fun p _ hp=> ?_) ⟨(a,b),a5S.mpr ⟨ha,hb⟩, ?_, ?_⟩
 ·rw [a0f] at hp
  split at hp
  ·cases hp
  ·exact hp
 ·cases hv:l8 D [.inl (a:Nat),.inl (b:Nat)] with
  |none=>rfl
  |some x=>rw [hv] at h;cases h
 ·rw [a0f,if_pos rfl];rfl
theorem RI.put{n:Nat}{D:List (List c9×PV)}{W W':List PV}(R:RI n D W){a b:Nat}(ha:a<n)(hb:b<n){v:PV}(hv:a9B n v)(h:(l8 D [.inl (a:Nat),.inl (b:Nat)]).isSome=false)(hw:∀p∈W',a9B n p):RI n (W8 D [.inl (a:Nat),.inl (b:Nat)] v) W':=by
 refine⟨fun k x hx=> ?_,hw, ?_⟩
 ·rw [a0f] at hx
  split at hx
  ·cases hx;exact hv
  ·exact R.val k x hx
 ·have h1:=b0R ha hb v h
  have h2:=a8Z D [.inl (a:Nat),.inl (b:Nat)] v
  have h3:=R.len
  lia
theorem RI.nil{n:Nat}:RI n [] []:=by
 refine⟨fun k v h=>(by simp [l8] at h),fun p h=>(by cases h), ?_⟩
 have e:unv n []=(a0D n).length:=by unfold unv;exact List.countP_eq_length.mpr fun _ _=>rfl
 rw [e,a5O];simp
abbrev MV:=Str×Int×Int
def tp(x:MV):PV:= .tuple [.str x.1,.int x.2.1,.int x.2.2]
def ky(x:MV):List c9:=[.inr x.1,.inl x.2.1,.inl x.2.2]
theorem a3V{x y:MV}(h:ky x=ky y):x=y:=by
 obtain⟨a,b,c⟩:=x
 obtain⟨a',b',c'⟩:=y
 injection h with h1 h2
 injection h2 with h2 h3
 injection h3 with h3 _
 have a1:a=a':=Sum.inr.inj h1
 have a2:b=b':=Sum.inl.inj h2
 have a3:c=c':=Sum.inl.inj h3
 rw [a1,a2,a3]
def mul(n:Int)(x y:MV):MV:=(m6 x.1 y.1,(i9 y.1 x.2.1 x.2.2+y.2.1) % n,(i8 y.1 x.2.1 x.2.2+y.2.2) % n)
def e0:MV:=(AJ "stay",0,0)
def K6(n:Int)(x:MV):Prop:=x.1∈l0/\(0<=x.2.1/\x.2.1<n)/\0<=x.2.2/\x.2.2<n
theorem b3d{n:Int}(hn:0<n):K6 n e0:=⟨by decide+kernel,⟨Int.le_refl _,hn⟩,Int.le_refl _,hn⟩
theorem a8I{n:Int}(hn:0<n){x y:MV}(hx:K6 n x)(hy:K6 n y):K6 n (mul n x y):=
 ⟨a7I hx.1 hy.1,⟨Int.emod_nonneg _ (by lia),Int.emod_lt_of_pos _ hn⟩,Int.emod_nonneg _ (by lia),Int.emod_lt_of_pos _ hn⟩
theorem U5:(l0.all fun a=>decide (m6 a (AJ "stay")=a)&& decide (m6 (AJ "stay") a=a))=true:=by decide+kernel
theorem b3b{n:Int}{x:MV}(hx:K6 n x):mul n x e0=x:=by
 obtain⟨w,d,t⟩:=x
 have h:=List.all_eq_true.mp U5 w hx.1
 simp only [Bool.and_eq_true,decide_eq_true_eq] at h
 show(m6 w (AJ "stay"),(d+0) % n,(t+0) % n)=_
 rw [h.1,Int.add_zero,Int.add_zero,Int.emod_eq_of_lt hx.2.1.1 hx.2.1.2,Int.emod_eq_of_lt hx.2.2.1 hx.2.2.2]
theorem b2Z{n:Int}{x:MV}(hx:K6 n x):mul n e0 x=x:=by
 obtain⟨w,d,t⟩:=x
 have h:=List.all_eq_true.mp U5 w hx.1
 simp only [Bool.and_eq_true,decide_eq_true_eq] at h
 have h0:i9 w 0 0=0/\i8 w 0 0=0:=by
  rcases v6 hx.1 with h|h|h|h|h|h|h|h<;>(have h':w=_:=h;subst h';exact⟨rfl,rfl⟩)
 show(m6 (AJ "stay") w,(i9 w 0 0+d) % n,(i8 w 0 0+t) % n)=_
 rw [h.2,h0.1,h0.2,Int.zero_add,Int.zero_add,Int.emod_eq_of_lt hx.2.1.1 hx.2.1.2,Int.emod_eq_of_lt hx.2.2.1 hx.2.2.2]
theorem a5U{n:Int}{x y z:MV}(hx:K6 n x)(hy:K6 n y)(hz:K6 n z):mul n (mul n x y) z=mul n x (mul n y z):=by
 obtain⟨a,d1,r1⟩:=x
 obtain⟨b,d2,r2⟩:=y
 obtain⟨c,d3,r3⟩:=z
 have ha:a∈l0:=hx.1
 have hb:b∈l0:=hy.1
 have hc:c∈l0:=hz.1
 show(m6 (m6 a b) c,(i9 c ((i9 b d1 r1+d2) % n) ((i8 b d1 r1+r2) % n)+d3) % n,(i8 c ((i9 b d1 r1+d2) % n) ((i8 b d1 r1+r2) % n)+r3) % n)=
  (m6 a (m6 b c),(i9 (m6 b c) d1 r1+(i9 c d2 r2+d3) % n) % n,(i8 (m6 b c) d1 r1+(i8 c d2 r2+r3) % n) % n)
 rw [a5B ha hb hc,b0D hc,a9G hc,a84 hb hc,a7G hb hc,a6v hc,a59 hc,Int.add_emod_emod,Int.add_emod_emod,Int.add_assoc,Int.add_assoc]
inductive M4 (n:Int) (G:List MV):MV->Prop
 |base:M4 n G e0
 |step {x g:MV}:M4 n G x->g∈G->M4 n G (mul n x g)
theorem M4.ok{n:Int}(hn:0<n){G:List MV}(hG:∀g∈G,K6 n g){x:MV}(h:M4 n G x):K6 n x:=by
 induction h with
 |base=>exact b3d hn
 |step _ hg ih=>exact a8I hn ih (hG _ hg)
theorem M4.gen{n:Int}{G:List MV}(hG:∀g∈G,K6 n g){g:MV}(h:g∈G):M4 n G g:=by
 have:=M4.step (n:=n) (G:=G) M4.base h
 rwa [b2Z (hG g h)] at this
theorem M4.mul{n:Int}(hn:0<n){G:List MV}(hG:∀g∈G,K6 n g){x y:MV}(hx:M4 n G x)(hy:M4 n G y):M4 n G (mul n x y):=by
 induction hy with
 |base=>rw [b3b (hx.ok hn hG)];exact hx
 |step h hg ih=>rw [<-a5U (hx.ok hn hG) (h.ok hn hG) (hG _ hg)];exact ih.step hg
theorem M4.sub{n:Int}(hn:0<n){G D:List MV}(hG:∀g∈G,K6 n g)(hD:∀d∈D,M4 n G d){x:MV}(h:M4 n D x):M4 n G x:=by
 induction h with
 |base=>exact .base
 |step _ hg ih=>exact ih.mul hn hG (hD _ hg)
theorem M4.mono{n:Int}{G D:List MV}(h:∀g∈G,g∈D){x:MV}(r:M4 n G x):M4 n D x:=by
 induction r with
 |base=>exact .base
 |step _ hg ih=>exact ih.step (h _ hg)
def b1n(n:Nat):List MV:=l0.flatMap fun w=>(Az n).flatMap fun d=>(Az n).map fun t=>(w,(d:Nat),(t:Nat))
theorem a8A{n:Nat}{x:MV}(h:K6 n x):x∈b1n n:=by
 obtain⟨w,d,t⟩:=x
 obtain⟨h1,h2,h3⟩:=h
 refine List.mem_flatMap.mpr ⟨w,h1,List.mem_flatMap.mpr ⟨d.toNat,List.mem_range.mpr (by have:0<=d/\d<n:=h2;lia),Ag.mpr ⟨t.toNat,List.mem_range.mpr (by have:0<=t/\t<n:=h3;lia), ?_⟩⟩⟩
 have a:0<=d/\d<n:=h2
 have b:0<=t/\t<n:=h3
 rw [Int.toNat_of_nonneg a.1,Int.toNat_of_nonneg b.1]
theorem a3s(k:Nat):∀m:Nat,((Az m).map fun _=>k).sum=m*k
 |0=>by simp
 |m+1=>by rw [List.range_succ,Ar,List.sum_append,a3s k m,Nat.succ_mul];simp
theorem a7C(n:Nat):(b1n n).length=8*(n*n):=by
 unfold b1n
 rw [List.length_flatMap]
 have:∀w:Str,((Az n).flatMap fun d=>(Az n).map fun t=>((w,(d:Nat),(t:Nat)):MV)).length=n*n:=by
  intro w
  rw [List.length_flatMap]
  simp only [AR,BH]
  exact a3s n n
 simp only [this]
 show([n*n,n*n,n*n,n*n,n*n,n*n,n*n,n*n]:List Nat).sum=_
 simp only [List.sum_cons,List.sum_nil]
 lia
theorem a41{α:Type}[DecidableEq α]:∀{l m:List α},l.Nodup->(∀x∈l,x∈m)->l.length<=m.length
 |[],_,_,_=>Nat.zero_le _
 |x::l,m,hn,h=>by
  have hx:=h x Ah
  have hn':=List.nodup_cons.mp hn
  have ih:=a41 (l:=l) (m:=m.erase x) hn'.2 fun y hy=>(List.mem_erase_of_ne (fun e:y=x=>hn'.1 (e▸hy))).mpr (h y (Ac _ hy))
  rw [List.length_erase_of_mem hx] at ih
  have:0<m.length:=List.length_pos_of_mem hx
  rw [AU];lia
theorem b16{n:Nat}{L:List MV}(hn:L.Nodup)(h:∀x∈L,K6 n x):L.length<=8*(n*n):=by
 rw [<-a7C];exact a41 hn fun x hx=>a8A (h x hx)
def grow(n:Int)(x:MV):List MV->List MV->List MV
 |[],L=>L
 |g::G,L=>grow n x G (if mul n x g∈L then L else L++[mul n x g])
def fresh(n:Int)(x:MV):List MV->List MV->List MV
 |[],_=>[]
 |g::G,L=>if mul n x g∈L then fresh n x G L else mul n x g::fresh n x G (L++[mul n x g])
theorem p4(n:Int)(x:MV):∀(G L:List MV),grow n x G L=L++fresh n x G L
 |[],L=>by show L=L++[];rw [AZ]
 |g::G,L=>by
  unfold grow fresh
  split
  ·exact p4 n x G L
  ·rw [p4 n x G,List.append_assoc];rfl
theorem a1U(n:Int)(x:MV):∀(G L:List MV),L.Nodup->(grow n x G L).Nodup
 |[],L,h=>h
 |g::G,L,h=>by
  unfold grow
  refine a1U n x G _ ?_
  split
  ·exact h
  ·rename_i c
   refine List.nodup_append.mpr ⟨h,by simp,fun a ha b hb e=>c ?_⟩
   rw [List.mem_singleton.mp hb] at e
   rw [<-e];exact ha
theorem C3(n:Int)(x:MV):∀(G L:List MV) (y:MV),y∈grow n x G L↔y∈L\/∃g∈G,y=mul n x g
 |[],L,y=>by simp [grow]
 |g::G,L,y=>by
  unfold grow
  rw [C3 n x G]
  split
  ·rename_i c
   constructor
   ·rintro(h|⟨q,hq,e⟩)
    ·exact .inl h
    ·exact .inr ⟨q,Ac _ hq,e⟩
   ·rintro(h|⟨q,hq,e⟩)
    ·exact .inl h
    ·rcases Ai.mp hq with rfl|hq
     ·exact .inl (e▸c)
     ·exact .inr ⟨q,hq,e⟩
  ·constructor
   ·rintro(h|⟨q,hq,e⟩)
    ·rcases Am.mp h with h|h
     ·exact .inl h
     ·exact .inr ⟨g,Ah,List.mem_singleton.mp h⟩
    ·exact .inr ⟨q,Ac _ hq,e⟩
   ·rintro(h|⟨q,hq,e⟩)
    ·exact .inl (BB _ h)
    ·rcases Ai.mp hq with rfl|hq
     ·exact .inl (Ax _ (List.mem_singleton.mpr e))
     ·exact .inr ⟨q,hq,e⟩
def G5(L:List MV):List (List c9×PV):=L.map fun x=>(ky x,PyData.bool true)
theorem a3F(L:List MV)(x:MV):(l8 (G5 L) (ky x)).isSome=decide (x∈L):=by
 unfold l8 G5
 induction L with
 |nil=>rfl
 |cons y L ih=>
  rw [AM,List.find?_cons]
  by_cases h:ky y=ky x
  ·have:y=x:=a3V h
   subst this
   simp
  ·rw [show decide ((ky y,PyData.bool true).1=ky x)=false from decide_eq_false h]
   rw [ih]
   have:x≠y:=fun e=>h (by rw [e])
   simp [this]
theorem a6c{L:List MV}{x:MV}(h:x∉L):W8 (G5 L) (ky x) (.bool true)=G5 (L++[x]):=by
 unfold W8
 have:((G5 L).any fun kv=>decide (kv.1=ky x))=false:=by
  rw [List.any_eq_false]
  intro kv hk
  obtain⟨y,hy,rfl⟩:=Ag.mp hk
  simp only [decide_eq_true_eq]
  exact fun e=>h (a3V e▸hy)
 rw [this]
 simp [G5]
theorem a7M(L:List MV):(G5 L).map (·.1)=L.map ky:=by unfold G5;rw [BC];rfl
theorem a3E(L:List MV):(G5 L).length=L.length:=by unfold G5;rw [AR]
def srt(L:List MV):List PV:=(O6 D7 (L.map ky)).map kT
theorem a9i{L M:List MV}(hl:L.Nodup)(hm:M.Nodup)(h:∀x,x∈L↔x∈M):srt L=srt M:=by
 unfold srt
 rw [a5g L7 (D9 L7 (M.map ky)) ((N8 _).trans (((List.perm_ext_iff_of_nodup hm hl).mpr fun x=>(h x).symm).map ky))]
theorem a8T{α β:Type}{f:α->β}:∀{l:List β} {L:List α},(L.map f).Perm l->∃M:List α,M.Perm L/\M.map f=l:=by
 intro l L h
 generalize hK:L.map f=K at h
 induction h generalizing L with
 |nil=>exact⟨[],by rw [List.map_eq_nil_iff] at hK;rw [hK],rfl⟩
 |cons x _ ih=>
  cases L with
  |nil=>cases hK
  |cons y L=>
   rw [AM] at hK
   injection hK with h1 h2
   obtain⟨M,a,b⟩:=ih h2
   exact⟨y::M,a.cons y,by rw [AM,b,h1]⟩
 |swap x y l=>
  match L,hK with
  |a::b::L,hK=>
   injection hK with h1 h2
   injection h2 with h2 h3
   exact⟨b::a::L,List.Perm.swap a b L,by rw [AM,AM,h1,h2,h3]⟩
  |[_],hK=>cases hK
  |[],hK=>cases hK
 |trans _ _ ih1 ih2=>
  obtain⟨M,a,b⟩:=ih1 hK
  obtain⟨N,c,d⟩:=ih2 b
  exact⟨N,c.trans a,d⟩
theorem b2y(L:List MV):∃M:List MV,M.Perm L/\srt L=M.map tp/\(M.map ky).Pairwise fun a b=>D7 b a=false:=by
 have hp:=N8 (lt:=D7) (L.map ky)
 obtain⟨M,hM,hP⟩:∃M:List MV,M.map ky=O6 D7 (L.map ky)/\M.Perm L:=by
  have h:=hp.symm
  revert h
  generalize O6 D7 (L.map ky)=T
  intro h
  obtain⟨M,h1,h2⟩:=a8T h
  exact⟨M,h2,h1⟩
 refine⟨M,hP, ?_,by rw [hM];exact D9 L7 _⟩
 unfold srt
 rw [<-hM,BC]
 rfl
theorem a8H(L:List MV):okK (L.map ky)=true:=by
 cases L with
 |nil=>rfl
 |cons x L=>
  show(!(ky x).isEmpty &&(L.map ky).all fun j=>j.map sgK==(ky x).map sgK)=true
  rw [Bool.and_eq_true]
  refine⟨rfl,List.all_eq_true.mpr fun j hj=> ?_⟩
  obtain⟨y,_,rfl⟩:=Ag.mp hj
  rfl
theorem a9m{n:Int}(hn:0<n){x y:MV}(hx:K6 n x)(hy:K6 n y):a0v [.int n,tp x,tp y]=some (.val (tp (mul n x y))):=b0O hx.1 hy.1 hn _ _ _ _
def a9q:List Str:=[AJ "back",AJ "cross",AJ "flip",AJ "half",AJ "other",AJ "side",AJ "stay",AJ "turn"]
theorem a9r:(a9q.all fun w=>decide (w∈l0))=true:=by decide+kernel
theorem a6C{w:Str}(h:w∈a9q):w∈l0:=of_decide_eq_true (List.all_eq_true.mp a9r w h)
theorem a7Z:(l0.all fun a=>l0.all fun b=>decide (a9q.find? (fun w=>decide (i9 w 1 2=i9 b (i9 a 1 2) (i8 a 1 2))&& decide (i8 w 1 2=i8 b (i9 a 1 2) (i8 a 1 2)))=some (m6 a b)))=true:=by decide+kernel
theorem a75(a b c d:Int):gEq (.val (.tuple [.int a,.int b])) (.val (.tuple [.int c,.int d]))=some (.val (.bool (decide (a=c)&& decide (b=d)))):=by
 rw [a76 (x:= .val (.tuple [.int a,.int b])) (y:= .val (.tuple [.int c,.int d])) ⟨rfl,rfl⟩]
 congr 3
 show PyData.eqv (.tuple [.int a,.int b]) (.tuple [.int c,.int d])=_
 simp [PyData.eqv,PyData.eqvAll]
 try (by_cases h1:a=c<;>by_cases h2:b=d<;>simp [h1,h2])
theorem a0j{n:Int}(hn:0<n){x y:MV}(hx:K6 n x)(hy:K6 n y):A2 [.int n,tp x,tp y]=some (.val (tp (mul n x y))):=by
 obtain⟨a,d,r⟩:=x
 obtain⟨b,e,t⟩:=y
 have ha:a∈l0:=hx.1
 have hb:b∈l0:=hy.1
 have hf:=of_decide_eq_true (List.all_eq_true.mp (List.all_eq_true.mp a7Z a ha) b hb)
 generalize hR:i9 b (i9 a 1 2) (i8 a 1 2)=R at hf
 generalize hC:i8 b (i9 a 1 2) (i8 a 1 2)=C at hf
 let f:PV->Option c6:=fun p=>match p with
  | .str w=>if(decide (i9 w 1 2=R)&& decide (i8 w 1 2=C))=true then some (.val (T3 w (lr n b e t d r) (lc n b e t d r))) else none
  |_=>none
 have hfs:∀l:List Str,(l.map PyData.str).findSome? f=(l.find? fun w=>decide (i9 w 1 2=R)&& decide (i8 w 1 2=C)).map fun w=> .val (T3 w (lr n b e t d r) (lc n b e t d r)):=by
  intro l
  induction l with
  |nil=>rfl
  |cons w l ih=>
   rw [AM,List.findSome?_cons,List.find?_cons]
   cases h:(decide (i9 w 1 2=R)&& decide (i8 w 1 2=C)) with
   |true=>rw [show f (.str w)=some (.val (T3 w (lr n b e t d r) (lc n b e t d r))) from by show(if _ then _ else _)=_;rw [if_pos h]];rfl
   |false=>rw [show f (.str w)=none from by show(if _ then _ else _)=_;rw [if_neg (by rw [h];exact Av)]];exact ih
 have run:=a27 (body:=t5) (tg:=j9 4) (I:=fun ρ=>∃q4 q5 q6:Option c6,ρ=[some (.val (.int n)),some (.val (T3 a d r)),some (.val (T3 b e t)),some (.val (.tuple [.int R,.int C])),q4,q5,q6]) (f:=f)
  (ps:=a9q.map .str) (ρ:=[some (.val (.int n)),some (.val (T3 a d r)),some (.val (T3 b e t)),some (.val (.tuple [.int R,.int C])),none,none,none])
  (by
   rintro p hp ρ ⟨q4,q5,q6,rfl⟩ hf
   obtain⟨w,hw,rfl⟩:=Ag.mp hp
   have hb':(decide (i9 w 1 2=R)&& decide (i8 w 1 2=C))=false:=by
    cases h:(decide (i9 w 1 2=R)&& decide (i8 w 1 2=C)) with
    |false=>rfl
    |true=>
     have hf:(if(decide (i9 w 1 2=R)&& decide (i8 w 1 2=C))=true then some (c6.val (T3 w (lr n b e t d r) (lc n b e t d r))) else none)=none:=hf
     rw [if_pos h] at hf;cases hf
   apply b2z rfl
   ·unfold t5
    simp (disch:=omega) only [l6,n9,g0,i3,f8,d8,d9,i4,k8,O3,o0,m4,r8,AQ,AW,AX,R8 (a6C hw),a75,hb']
    rfl
   ·exact⟨_,_,_,rfl⟩)
  (by
   rintro p hp ρ ⟨q4,q5,q6,rfl⟩ v hf
   obtain⟨w,hw,rfl⟩:=Ag.mp hp
   have hf:(if(decide (i9 w 1 2=R)&& decide (i8 w 1 2=C))=true then some (c6.val (T3 w (lr n b e t d r) (lc n b e t d r))) else none)=some v:=hf
   split at hf
   ·rename_i h
    cases hf
    refine⟨_,rfl, ?_⟩
    unfold t5
    simp (disch:=omega) only [L1,Q4,l6,n9,g0,i3,f8,d8,d9,p7,i4,l9,A9,g7,i5,k8,a3a,m4,r8,a4W,a9p,AQ,AW,AX,AU,Aj,↓reduceIte,sz,Nat.reduceAdd,As,R8 (a6C hw),a75,h,a7g hb hn]
    try rfl
   ·cases hf) ⟨_,_,_,rfl⟩
 have hfind:(a9q.map PyData.str).findSome? f=some (.val (T3 (m6 a b) (lr n b e t d r) (lc n b e t d r))):=by rw [hfs,hf];rfl
 rcases run with⟨h1,_⟩|⟨v,h1,h2⟩
 ·rw [hfind] at h1;cases h1
 ·rw [hfind] at h1
  cases h1
  have h2':D4 t5 (j9 4) [.str (AJ "back"),.str (AJ "cross"),.str (AJ "flip"),.str (AJ "half"),.str (AJ "other"),.str (AJ "side"),.str (AJ "stay"),.str (AJ "turn")] [some (.val (.int n)),some (.val (.tuple [.str a,.int d,.int r])),some (.val (.tuple [.str b,.int e,.int t])),some (.val (.tuple [.int R,.int C])),none,none,none]=_:=h2
  unfold A2 Y2
  show G3 4 _ [.int n,.tuple [.str a,.int d,.int r],.tuple [.str b,.int e,.int t]]=_
  simp (disch:=omega) only [Q3,L1,l6,n9,g0,i3,f8,d8,d9,p7,i4,j5,u9,g7,i5,a6y,k0,n6,x8,AQ,AM,Ae,Af,Ak,BA,Ap,AW,AX,AU,Aj,↓reduceIte,a4S,B6,sz,Nat.reduceAdd,As,R8 ha,R8 hb,hR,hC,h2']
  try rfl
theorem a1T(n:Int)(x g:MV):∀(A L:List MV),grow n x (A++[g]) L=(if mul n x g∈grow n x A L then grow n x A L else grow n x A L++[mul n x g])
 |[],L=>rfl
 |a::A,L=>by
  show grow n x (A++[g]) _=_
  rw [a1T n x g A];rfl
theorem a0r(n:Int)(x g:MV):∀(A L:List MV),fresh n x (A++[g]) L=fresh n x A L++(if mul n x g∈grow n x A L then [] else [mul n x g])
 |[],L=>by
  show(if mul n x g∈L then _ else _)=_
  show _=(if mul n x g∈L then [] else [mul n x g])
  split<;>rfl
 |a::A,L=>by
  show(if mul n x a∈L then fresh n x (A++[g]) L else mul n x a::fresh n x (A++[g]) (L++[mul n x a]))=(if mul n x a∈L then fresh n x A L else mul n x a::fresh n x A (L++[mul n x a]))++(if mul n x g∈grow n x A (if mul n x a∈L then L else L++[mul n x a]) then [] else [mul n x g])
  by_cases h:mul n x a∈L
  ·rw [if_pos h,if_pos h,if_pos h,a0r n x g A]
  ·rw [if_neg h,if_neg h,if_neg h,a0r n x g A];rfl
theorem Y8{ps:List PV}{i:Nat}{p:PV}(h:ps[i]?=some p):B1 (.bor ps) (.val (.int (i:Nat)))=some (.val p):=by
 have h':L2.atI ps (i:Int)=some p:=by rw [a58];exact h
 simp [B1,c6.rd,C7.rd,PyData.items?,h']
theorem take_succ{α:Type}{l:List α}{i:Nat}{x:α}(h:l[i]?=some x):l.take (i+1)=l.take i++[x]:=by
 rw [List.take_succ,h];rfl
theorem a5T{G:List MV}{i:Nat}{p:PV}(h:(G.map tp)[i]?=some p):∃g,G[i]?=some g/\p=tp g:=by
 rw [Ao] at h
 cases hg:G[i]? with
 |none=>rw [hg] at h;cases h
 |some g=>rw [hg] at h;cases h;exact⟨g,rfl,rfl⟩
theorem x4(x:MV):F9 (.val (tp x))=some (ky x):=Eq.trans rfl rfl
structure Kn(n:Nat)(G L:List MV):Prop where
 nd:L.Nodup
 rc:∀x∈L,M4 n G x
 e:e0∈L
theorem Kn.grow{n:Nat}{G L A:List MV}(k:Kn n G L){x:MV}(hx:x∈L)(hA:∀a∈A,a∈G):Kn n G (grow n x A L):=
 ⟨a1U _ _ _ _ k.nd,fun y hy=>by
  rcases(C3 _ _ _ _ y).mp hy with h|⟨g,hg,rfl⟩
  ·exact k.rc y h
  ·exact(k.rc x hx).step (hA g hg),(C3 _ _ _ _ e0).mpr (.inl k.e)⟩
theorem Kn.len{n:Nat}(hn:0<n){G L:List MV}(hG:∀g∈G,K6 n g)(k:Kn n G L):L.length<=8*(n*n):=b16 k.nd fun x hx=>(k.rc x hx).ok (by lia) hG
theorem V8{n:Nat}{G L:List MV}(k:Kn n G L)(h:∀x∈L,∀g∈G,mul n x g∈L):∀x,x∈L↔M4 n G x:=by
 intro x
 constructor
 ·exact k.rc x
 ·intro r
  induction r with
  |base=>exact k.e
  |step _ hg ih=>exact h _ ih _ hg
section
variable {n:Nat}(hn:0<n)(hn8:n<=8){G:List MV}(hG:∀g∈G,K6 n g)
include hn hn8 hG
theorem b0j{L:List MV}(k:Kn n G L){i:Nat}{x:MV}(hx:L[i]?=some x)(q5 q6:Option c6):
 ∃q5' q6',D4 A6 (j9 5) (G.map tp) [some (.val (.int n)),some (.val (.list (G.map tp))),some (.ow (.dct (G5 L))),some (.own (L.map tp)),some (.val (.int (i:Nat))),q5,q6]=some (.nx [some (.val (.int n)),some (.val (.list (G.map tp))),some (.ow (.dct (G5 (grow n x G L)))),some (.own ((grow n x G L).map tp)),some (.val (.int (i:Nat))),q5',q6']):=by
 have hxL:x∈L:=Aq hx
 have hnn:n*n<=8*8:=Nat.mul_le_mul hn8 hn8
 obtain⟨ρ1,e1,q5',q6',rfl⟩:=y9 (body:=A6) (tg:=j9 5) (fun j ρ=>∃q5 q6,ρ=[some (.val (.int n)),some (.val (.list (G.map tp))),some (.ow (.dct (G5 (grow n x (G.take j) L)))),some (.own ((grow n x (G.take j) L).map tp)),some (.val (.int (i:Nat))),q5,q6])
  (ps:=G.map tp) (ρ:=[some (.val (.int n)),some (.val (.list (G.map tp))),some (.ow (.dct (G5 L))),some (.own (L.map tp)),some (.val (.int (i:Nat))),q5,q6])
  (by
   rintro j p hp ρ ⟨q5,q6,rfl⟩
   obtain⟨g,hg,rfl⟩:=a5T hp
   have hgG:g∈G:=Aq hg
   have k':Kn n G (grow n x (G.take j) L):=k.grow hxL fun a ha=>List.mem_of_mem_take ha
   have hl:=k'.len hn hG
   have hxi:((grow n x (G.take j) L).map tp)[i]?=some (tp x):=by
    rw [p4,Ar,Aw (by rw [AR];exact(Ad.mp hx).1),Ao,hx];rfl
   have hd:=a3F (grow n x (G.take j) L) (mul n x g)
   rw [take_succ hg,a1T]
   by_cases hm:mul n x g∈grow n x (G.take j) L
   ·rw [decide_eq_true hm] at hd
    rw [if_pos hm]
    apply y0 rfl
    ·unfold A6
     simp (disch:=omega) only [l6,g0,J4,i3,f8,d8,d9,i4,j5,u9,g7,i5,k8,O3,o0,m4,r8,AQ,AW,AX,↓reduceIte,Bool.not_true,Y8 hxi,a9m (n:=(n:Int)) (by lia) ((k.rc x hxL).ok (by lia) hG) (hG g hgG),z8,x4,P8,P7,hd]
     rfl
    ·exact⟨_,_,rfl⟩
   ·rw [decide_eq_false hm] at hd
    rw [if_neg hm]
    refine y0 rfl (ρ2:=[some (.val (.int n)),some (.val (.list (G.map tp))),some (.ow (.dct (G5 (grow n x (G.take j) L++[mul n x g])))),some (.own ((grow n x (G.take j) L++[mul n x g]).map tp)),some (.val (.int (i:Nat))),some (.val (tp g)),some (.val (tp (mul n x g)))]) ?_ ⟨_,_,rfl⟩
    unfold A6
    simp (disch:=omega) only [l6,n9,g0,J4,i3,f8,d8,d9,i4,j5,u9,g7,i5,k8,a3a,m4,r8,AQ,AW,AX,↓reduceIte,Bool.not_false,Y8 hxi,a9m (n:=(n:Int)) (by lia) ((k.rc x hxL).ok (by lia) hG) (hG g hgG),z8,x4,P8,P7,hd,R0]
    rw [a1I rfl (by rw [a3E];lia),a6c hm]
    simp (disch:=omega) only [i5,AQ,AW,AX]
    rw [z7 (r:= .val (tp (mul n x g))) rfl rfl rfl (by rw [AR];lia),Ar]
    rfl) ⟨q5,q6,by simp [grow]⟩
 rw [AR,List.take_length] at e1
 exact⟨q5',q6',e1⟩
end
theorem b0i{n:Nat}(hn:0<n)(hn8:n<=8){G:List MV}(hG:∀g∈G,K6 n g):∃L:List MV,L.Nodup/\(∀x,x∈L↔M4 n G x)/\w4 [.int n,.list (G.map tp)]=some (.ow (.dct (G5 L))):=by
 have hnn:n*n<=8*8:=Nat.mul_le_mul hn8 hn8
 have cnd:∀(L:List MV) (i:Nat) (s0 s1 s2 q5 q6:Option c6),L.length<=1000->mtB (m2 a0s (a9 4) (m1 E8 (a9 3))) [s0,s1,s2,some (.own (L.map tp)),some (.val (.int (i:Nat))),q5,q6]=some (decide (i<L.length)):=by
  intro L i s0 s1 s2 q5 q6 hl
  have h1:E8 (.bor (L.map tp))=some (.val (.int (L.length:Nat))):=by
   have:=a4R (L.map tp)
   rw [AR] at this
   exact this
  simp (disch:=omega) only [a1P,l6,D0,g0,J4,i3,m4,r8,AQ,h1]
  by_cases h:i<L.length
  ·rw [decide_eq_true (show(i:Int)<(L.length:Int) by lia),decide_eq_true h]
   try rfl
  ·rw [decide_eq_false (show ¬(i:Int)<(L.length:Int) by lia),decide_eq_false h]
   try rfl
 obtain⟨ρ,m,hw,⟨L,i,q5,q6,rfl,k,hi,hm,hc⟩,hf⟩:=J6 (c:=mtB (m2 a0s (a9 4) (m1 E8 (a9 3)))) (body:=D5)
  (I:=fun m ρ=>∃(L:List MV) (i:Nat) (q5 q6:Option c6),ρ=[some (.val (.int n)),some (.val (.list (G.map tp))),some (.ow (.dct (G5 L))),some (.own (L.map tp)),some (.val (.int (i:Nat))),q5,q6]/\Kn n G L/\i<=L.length/\m+i=512/\(∀(j:Nat) (x:MV),j<i->L[j]?=some x->∀g∈G,mul n x g∈L))
  (by
   rintro m ρ ⟨L,i,q5,q6,rfl,k,hi,hm,hc⟩
   have hl:=k.len hn hG
   rw [cnd L i _ _ _ _ _ (by lia)]
   by_cases h:i<L.length
   ·right
    refine⟨by rw [decide_eq_true h], ?_⟩
    obtain⟨x,hx⟩:∃x,L[i]?=some x:=⟨L[i],getElem?_pos L i h⟩
    have hxL:x∈L:=Aq hx
    obtain⟨q5',q6',e⟩:=b0j hn hn8 hG k hx q5 q6
    refine⟨[some (.val (.int n)),some (.val (.list (G.map tp))),some (.ow (.dct (G5 (grow n x G L)))),some (.own ((grow n x G L).map tp)),some (.val (.int ((i+1:Nat):Int))),q5',q6'],m - 1, ?_,by lia,grow n x G L,i+1,q5',q6',rfl,k.grow hxL fun a ha=>ha, ?_,by lia, ?_⟩
    ·unfold D5
     simp (disch:=omega) only [g0,i3,d9,g7,i5,x8,AQ,F6,B6,e]
     rw [show((i+1:Nat):Int)=(i:Int)+1 by lia]
     rfl
    ·rw [p4,Aa];lia
    ·intro j y hj hy g hg
     rw [C3]
     by_cases hji:j<i
     ·have hjl:j<L.length:=by lia
      rw [p4,Aw hjl] at hy
      exact .inl (hc j y hji hy g hg)
     ·have:j=i:=by lia
      subst this
      rw [p4,Aw h,hx] at hy
      cases hy
      exact .inr ⟨g,hg,rfl⟩
   ·left
    rw [decide_eq_false h]) 1000 512 [some (.val (.int n)),some (.val (.list (G.map tp))),some (.ow (.dct (G5 [e0]))),some (.own ([e0].map tp)),some (.val (.int ((0:Nat):Int))),none,none] (by lia)
  ⟨[e0],0,none,none,rfl,⟨by simp,fun x hx=>by rw [List.mem_singleton.mp hx];exact .base,List.mem_singleton.mpr rfl⟩,by lia,by lia,fun j x hj=>by lia⟩
 have hl:=k.len hn hG
 rw [cnd L i _ _ _ _ _ (by lia)] at hf
 have hil:¬i<L.length:=of_decide_eq_false (Option.some.inj hf)
 refine⟨L,k.nd,V8 k fun x hx g hg=> ?_, ?_⟩
 ·obtain⟨j,hj,e⟩:=List.mem_iff_getElem.mp hx
  exact hc j x (by lia) (by rw [Au hj,e]) g hg
 ·unfold w4 a2Y
  have hw':y8 (mtB (m2 a0s (a9 4) (m1 E8 (a9 3)))) D5 1000 [some (.val (.int n)),some (.val (.list (G.map tp))),some (.ow (.dct [([.inr (AJ "stay"),.inl 0,.inl 0],.bool true)])),some (.own [.tuple [.str (AJ "stay"),.int 0,.int 0]]),some (.val (.int 0)),none,none]=_:=hw
  simp (disch:=omega) only [n9,f8,d8,d9,p7,C4,j5,u9,g7,i5,k0,n6,AQ,AM,Ae,Af,Ak,BA,Ap,AW,AX,AU,Aj,↓reduceIte,a30,a31,sz,Nat.reduceAdd,As,W3,a3U,a0i,hw']
  try rfl
theorem a9c{L:List MV}(h:L.length<=1000):Q5 (.bo (.dct (G5 L)))=some (.own (srt L)):=by
 unfold Q5
 show(if okK ((G5 L).map (·.1))=true/\(G5 L).length<=16777216 then some (c6.own ((O6 D7 ((G5 L).map (·.1))).map kT)) else none)=_
 rw [a7M,if_pos ⟨a8H L,by rw [a3E];lia⟩]
 rfl
theorem b0h(c:C7)(ρ:a8):a9 0 (some (.ow c)::ρ)=some (.bo c):=Eq.trans rfl rfl
theorem a9T(x:MV):j8 (tp x) 49=true:=rfl
section
variable {n:Nat}(hn:0<n)(hn8:n<=8){G:List MV}(hG:∀g∈G,K6 n g)
include hn hn8 hG
theorem a9I{L W:List MV}(k:Kn n G L){x:MV}(hxL:x∈L)(hW:W.length<=1000)(q5 q6:Option c6):
 ∃q5' q6',D4 x5 (j9 5) (G.map tp) [some (.val (.int n)),some (.val (.list (G.map tp))),some (.ow (.dct (G5 L))),some (.own (W.map tp)),some (.val (tp x)),q5,q6]=some (.nx [some (.val (.int n)),some (.val (.list (G.map tp))),some (.ow (.dct (G5 (grow n x G L)))),some (.own ((W++fresh n x G L).map tp)),some (.val (tp x)),q5',q6']):=by
 have hnn:n*n<=8*8:=Nat.mul_le_mul hn8 hn8
 obtain⟨ρ1,e1,q5',q6',rfl⟩:=y9 (body:=x5) (tg:=j9 5) (fun j ρ=>∃q5 q6,ρ=[some (.val (.int n)),some (.val (.list (G.map tp))),some (.ow (.dct (G5 (grow n x (G.take j) L)))),some (.own ((W++fresh n x (G.take j) L).map tp)),some (.val (tp x)),q5,q6])
  (ps:=G.map tp) (ρ:=[some (.val (.int n)),some (.val (.list (G.map tp))),some (.ow (.dct (G5 L))),some (.own (W.map tp)),some (.val (tp x)),q5,q6])
  (by
   rintro j p hp ρ ⟨q5,q6,rfl⟩
   obtain⟨g,hg,rfl⟩:=a5T hp
   have hgG:g∈G:=Aq hg
   have k':Kn n G (grow n x (G.take j) L):=k.grow hxL fun a ha=>List.mem_of_mem_take ha
   have hl:=k'.len hn hG
   have hfl:(fresh n x (G.take j) L).length<=8*(n*n):=by
    have:=hl
    rw [p4,Aa] at this
    lia
   have hd:=a3F (grow n x (G.take j) L) (mul n x g)
   rw [take_succ hg,a1T,a0r]
   by_cases hm:mul n x g∈grow n x (G.take j) L
   ·rw [decide_eq_true hm] at hd
    rw [if_pos hm,if_pos hm,AZ]
    apply y0 rfl
    ·unfold x5
     simp (disch:=omega) only [g0,i3,f8,d8,d9,i4,j5,u9,g7,i5,k8,O3,o0,m4,r8,AQ,AW,AX,↓reduceIte,Bool.not_true,a0j (n:=(n:Int)) (by lia) ((k.rc x hxL).ok (by lia) hG) (hG g hgG),z8,x4,P8,P7,hd]
     rfl
    ·exact⟨_,_,rfl⟩
   ·rw [decide_eq_false hm] at hd
    rw [if_neg hm,if_neg hm]
    refine y0 rfl (ρ2:=[some (.val (.int n)),some (.val (.list (G.map tp))),some (.ow (.dct (G5 (grow n x (G.take j) L++[mul n x g])))),some (.own ((W++(fresh n x (G.take j) L++[mul n x g])).map tp)),some (.val (tp x)),some (.val (tp g)),some (.val (tp (mul n x g)))]) ?_ ⟨_,_,rfl⟩
    unfold x5
    simp (disch:=omega) only [n9,g0,i3,f8,d8,d9,i4,j5,u9,g7,i5,k8,a3a,m4,r8,AQ,AW,AX,↓reduceIte,Bool.not_false,a0j (n:=(n:Int)) (by lia) ((k.rc x hxL).ok (by lia) hG) (hG g hgG),z8,x4,P8,P7,hd,R0]
    rw [a1I rfl (by rw [a3E];lia),a6c hm]
    simp (disch:=omega) only [i5,AQ,AW,AX]
    rw [z7 (r:= .val (tp (mul n x g))) rfl rfl rfl (by rw [AR,Aa];lia),<-List.append_assoc,Ar (l₂:=[mul n x g])]
    rfl) ⟨q5,q6,by simp [grow,fresh]⟩
 rw [AR,List.take_length] at e1
 exact⟨q5',q6',e1⟩
end
theorem a9H{n:Nat}(hn:0<n)(hn8:n<=8){G:List MV}(hG:∀g∈G,K6 n g):∃L:List MV,L.Nodup/\(∀x,x∈L↔M4 n G x)/\M8 [.int n,.list (G.map tp)]=some (.own (srt L)):=by
 have hnn:n*n<=8*8:=Nat.mul_le_mul hn8 hn8
 have cnd:∀(W:List MV) (s0 s1 s2 q4 q5 q6:Option c6),mtB (m2 gNe (a9 3) (W6 c7)) [s0,s1,s2,some (.own (W.map tp)),q4,q5,q6]=some (!W.isEmpty):=by
  intro W s0 s1 s2 q4 q5 q6
  have h1:=a96 (W:=W.map tp) fun p hp=>by
   obtain⟨x,_,rfl⟩:=Ag.mp hp
   exact a9T x
  simp (disch:=omega) only [l6,J4,i3,f8,C4,m4,r8,AQ,Aj,↓reduceIte,sz,As,h1]
  cases W<;>rfl
 obtain⟨ρ,m,hw,⟨L,W,q4,q5,q6,rfl,k,hWL,hm,hc⟩,hf⟩:=J6 (c:=mtB (m2 gNe (a9 3) (W6 c7))) (body:=B8)
  (I:=fun m ρ=>∃(L W:List MV) (q4 q5 q6:Option c6),ρ=[some (.val (.int n)),some (.val (.list (G.map tp))),some (.ow (.dct (G5 L))),some (.own (W.map tp)),q4,q5,q6]/\Kn n G L/\(∀x∈W,x∈L)/\(W.length+(512 - L.length)*2=m/\W.length<=L.length)/\(∀x∈L,x∈W\/∀g∈G,mul n x g∈L))
  (by
   rintro m ρ ⟨L,W,q4,q5,q6,rfl,k,hWL,⟨hm,hWl⟩,hc⟩
   have hl:=k.len hn hG
   rw [cnd W]
   cases hW:W.isEmpty with
   |true=>left;rfl
   |false=>
    right
    refine⟨rfl, ?_⟩
    have hne:W≠[]:=by intro h;rw [h] at hW;cases hW
    obtain⟨V,x,rfl⟩:∃V x,W=V++[x]:=⟨W.dropLast,W.getLast hne,(List.dropLast_concat_getLast hne).symm⟩
    have hxL:x∈L:=hWL x (Ax _ (List.mem_singleton.mpr rfl))
    rw [Aa,List.length_singleton] at hm hWl
    obtain⟨q5',q6',e⟩:=a9I hn hn8 hG k hxL (W:=V) (by lia) q5 q6
    have k':=k.grow hxL (A:=G) fun a ha=>ha
    have hl':=k'.len hn hG
    have hgf:(grow n x G L).length=L.length+(fresh n x G L).length:=by rw [p4,Aa]
    refine⟨_,(V++fresh n x G L).length+(512 - (grow n x G L).length)*2, ?_, ?_,grow n x G L,V++fresh n x G L,some (.val (tp x)),q5',q6',rfl,k', ?_,⟨rfl, ?_⟩, ?_⟩
    ·unfold B8
     have hp:a8x 4 3 [some (.val (.int n)),some (.val (.list (G.map tp))),some (.ow (.dct (G5 L))),some (.own ((V++[x]).map tp)),q4,q5,q6]=some (.nx [some (.val (.int n)),some (.val (.list (G.map tp))),some (.ow (.dct (G5 L))),some (.own (V.map tp)),some (.val (tp x)),q5,q6]):=by
      unfold a8x
      show(((V++[x]).map tp).getLast?).bind _=_
      rw [Ar]
      show((V.map tp++[tp x]).getLast?).bind _=_
      rw [List.getLast?_append,List.getLast?_singleton]
      show some (Fl.nx [_,_,_,some (.own (V.map tp++[tp x]).dropLast),_,_,_])=_
      rw [List.dropLast_append_of_ne_nil (by simp)]
      simp
     simp (disch:=omega) only [g0,i3,d9,g7,i5,x8,AQ,F6,B6,hp,e]
    ·rw [Aa]
     lia
    ·intro y hy
     rcases Am.mp hy with h|h
     ·exact(C3 _ _ _ _ y).mpr (.inl (hWL y (BB _ h)))
     ·rw [p4];exact Ax _ h
    ·rw [Aa];lia
    ·intro y hy
     by_cases hyx:y=x
     ·subst hyx
      exact .inr fun g hg=>(C3 _ _ _ _ _).mpr (.inr ⟨g,hg,rfl⟩)
     ·rw [p4] at hy
      rcases Am.mp hy with h|h
      ·rcases hc y h with h|h
       ·rcases Am.mp h with h|h
        ·exact .inl (BB _ h)
        ·exact absurd (List.mem_singleton.mp h) hyx
       ·exact .inr fun g hg=>(C3 _ _ _ _ _).mpr (.inl (h g hg))
      ·exact .inl (Ax _ h)) 2000 1023 [some (.val (.int n)),some (.val (.list (G.map tp))),some (.ow (.dct (G5 [e0]))),some (.own ([e0].map tp)),none,none,none] (by lia)
  ⟨[e0],[e0],none,none,none,rfl,⟨by simp,fun x hx=>by rw [List.mem_singleton.mp hx];exact .base,List.mem_singleton.mpr rfl⟩,fun x hx=>hx,⟨by simp,by simp⟩,fun x hx=> .inl hx⟩
 have hl:=k.len hn hG
 rw [cnd W] at hf
 have hWn:W=[]:=by
  cases W with
  |nil=>rfl
  |cons a b=>cases hf
 subst hWn
 refine⟨L,k.nd,V8 k fun x hx g hg=> ?_, ?_⟩
 ·rcases hc x hx with h|h
  ·cases h
  ·exact h g hg
 ·unfold M8 a1z
  have hw':y8 (mtB (m2 gNe (a9 3) (W6 c7))) B8 2000 [some (.val (.int n)),some (.val (.list (G.map tp))),some (.ow (.dct [([.inr (AJ "stay"),.inl 0,.inl 0],.bool true)])),some (.own [.tuple [.str (AJ "stay"),.int 0,.int 0]]),none,none,none]=_:=hw
  simp (disch:=omega) only [D0,n9,i3,f8,d8,d9,p7,C4,j5,l9,b2v,g7,i5,k0,n6,AQ,AM,Ae,Af,Ak,BA,Ap,AW,AX,AU,Aj,↓reduceIte,sz,Nat.reduceAdd,As,W3,a3U,a0i,hw',b0h,a9c (L:=L) (by lia)]
  try rfl
open Classical in
def pk(n:Int)(E:List MV):List MV:=E.foldl (fun D m=>if M4 n D m then D else D++[m]) []
open Classical in
theorem a2r(n:Int)(A:List MV)(m:MV):pk n (A++[m])=if M4 n (pk n A) m then pk n A else pk n A++[m]:=by
 unfold pk
 rw [List.foldl_append];rfl
theorem b09{n:Int}:∀(A B:List MV),∃C,pk n (A++B)=pk n A++C
 |A,[]=>⟨[],by rw [AZ,AZ]⟩
 |A,m::B=>by
  obtain⟨C,h⟩:=b09 (n:=n) (A++[m]) B
  rw [List.append_assoc] at h
  rw [show A++m::B=A++([m]++B) from rfl,h,a2r]
  split
  ·exact⟨C,rfl⟩
  ·exact⟨[m]++C,by rw [List.append_assoc]⟩
theorem b0C{α:Type}{P:List α->Prop}(h0:P [])(h1:∀l a,P l->P (l++[a])):∀l,P l:=by
 have:∀l:List α,P l.reverse:=by
  intro l
  induction l with
  |nil=>exact h0
  |cons a l ih=>rw [List.reverse_cons];exact h1 _ _ ih
 intro l
 have:=this l.reverse
 rwa [List.reverse_reverse] at this
theorem a4c{n:Int}:∀(A:List MV) {x:MV},x∈pk n A->x∈A:=by
 refine b0C ?_ fun A m ih=> ?_
 ·intro x h;cases h
 ·intro x h
  rw [a2r] at h
  split at h
  ·exact BB _ (ih h)
  ·rcases Am.mp h with h|h
   ·exact BB _ (ih h)
   ·exact Ax _ h
theorem b2n{n:Int}{E:List MV}(hE:∀x∈E,K6 n x):∀x∈E,M4 n (pk n E) x:=by
 intro x hx
 obtain⟨A,B,rfl⟩:=List.append_of_mem hx
 obtain⟨C,hC⟩:=b09 (n:=n) (A++[x]) B
 rw [List.append_assoc] at hC
 rw [show A++x::B=A++([x]++B) from rfl,hC]
 have hx':M4 n (pk n (A++[x])) x:=by
  rw [a2r]
  split
  ·assumption
  ·refine M4.gen (fun g hg=> ?_) (Ax _ (List.mem_singleton.mpr rfl))
   rcases Am.mp hg with h|h
   ·exact hE g (BB _ (a4c A h))
   ·rw [List.mem_singleton.mp h];exact hE x hx
 exact hx'.mono fun g hg=>BB _ hg
theorem b1x(x y:MV):PyData.eqv (tp x) (tp y)=decide (x=y):=by
 obtain⟨a,b,c⟩:=x
 obtain⟨a',b',c'⟩:=y
 show PyData.eqv (.tuple [.str a,.int b,.int c]) (.tuple [.str a',.int b',.int c'])=_
 simp only [PyData.eqv,PyData.eqvAll]
 by_cases h1:a=a'
 ·by_cases h2:b=b'
  ·by_cases h3:c=c'
   ·subst h1 h2 h3;simp
   ·simp [h1,h2,h3]
  ·simp [h1,h2]
 ·simp [h1]
theorem b13(L:List MV)(k:Nat):D2 (L.map tp) (k+2)=true:=a4L fun p hp=>by
 obtain⟨x,_,rfl⟩:=Ag.mp hp
 rfl
theorem b11(L:List MV):nlD (G5 L)=true:=by
 induction L with
 |nil=>rfl
 |cons x L ih=>show(nl (.bool true)&& nlD (G5 L))=true;rw [ih];rfl
theorem a1D{n:Nat}(hn:0<n)(hn8:n<=8){D:List MV}(hD:∀g∈D,K6 n g):∃L:List MV,L.Nodup/\(∀x,x∈L↔M4 n D x)/\∀(s1 s2 s4 s5 s6:Option c6),a0B w4 3 (a9 0) [some (.val (.int n)),s1,s2,some (.own (D.map tp)),s4,s5,s6]=some (.ow (.dct (G5 L))):=by
 obtain⟨L,h1,h2,h3⟩:=b0i hn hn8 hD
 refine⟨L,h1,h2,fun s1 s2 s4 s5 s6=> ?_⟩
 show(w4 [.int n,.list (D.map tp)]).bind _=_
 rw [h3]
 show(if nlD (G5 L)=true then _ else none)=_
 rw [if_pos (b11 L)]
open Classical in
theorem a68{n:Nat}(hn:0<n)(hn8:n<=8){E:List MV}(hE:∀x∈E,K6 n x)(hl:E.length<=1000):∃P:List Nat,A4 [.int n,.list (E.map tp)]=some (.own (P.map fun i=> .int (i:Nat)))/\P.map (fun i=>E[i]?)=(pk n E).map some:=by
 have pkl:∀j,(pk n (E.take j)).length<=j:=by
  intro j
  induction j with
  |zero=>simp [pk]
  |succ j ih=>
   cases hj:E[j]? with
   |none=>
    have:E.take (j+1)=E.take j:=by rw [List.take_succ,hj];simp
    rw [this];lia
   |some m=>
    rw [take_succ hj,a2r]
    split
    ·lia
    ·rw [Aa,List.length_singleton];lia
 obtain⟨L0,n0,m0,c0⟩:=a1D hn hn8 (D:=[]) (fun g hg=>nomatch hg)
 obtain⟨ρ1,e1,P,L,q5,q6,rfl,hP,hnd,hm,hPl⟩:=y9 (body:=J2) (tg:=a6A [5,6]) (fun j ρ=>∃(P:List Nat) (L:List MV) (q5 q6:Option c6),ρ=[some (.val (.int n)),some (.val (.list (E.map tp))),some (.own (P.map fun i=> .int (i:Nat))),some (.own ((pk n (E.take j)).map tp)),some (.ow (.dct (G5 L))),q5,q6]/\P.map (fun i=>E[i]?)=(pk n (E.take j)).map some/\L.Nodup/\(∀x,x∈L↔M4 n (pk n (E.take j)) x)/\P.length<=1000)
  (ps:=C1 (E.map tp)) (ρ:=[some (.val (.int n)),some (.val (.list (E.map tp))),some (.own []),some (.own []),some (.ow (.dct (G5 L0))),none,none])
  (by
   rintro j p hp ρ ⟨P,L,q5,q6,rfl,hP,hnd,hm,hPl⟩
   rw [a25,Ao] at hp
   cases hj:E[j]? with
   |none=>rw [hj] at hp;cases hp
   |some m=>
    rw [hj] at hp
    cases hp
    have hjl:j<E.length:=(Ad.mp hj).1
    have hd:=a3F L m
    have hPl':P.length=(pk n (E.take j)).length:=by have:=congrArg List.length hP;simpa using this
    have hpj:=pkl j
    rw [take_succ hj,a2r]
    by_cases hR:M4 n (pk n (E.take j)) m
    ·rw [decide_eq_true ((hm m).mpr hR)] at hd
     rw [if_pos hR]
     apply y0 (ρ1:=[some (.val (.int n)),some (.val (.list (E.map tp))),some (.own (P.map fun i=> .int (i:Nat))),some (.own ((pk n (E.take j)).map tp)),some (.ow (.dct (G5 L))),some (.val (.int (j:Nat))),some (.val (tp m))]) rfl
     ·unfold J2
      simp (disch:=omega) only [g0,i3,k8,O3,o0,m4,r8,AQ,↓reduceIte,Bool.not_true,z8,x4,P8,P7,hd]
      rfl
     ·exact⟨P,L,_,_,rfl,hP,hnd,hm,hPl⟩
    ·rw [decide_eq_false (fun h=>hR ((hm m).mp h))] at hd
     rw [if_neg hR]
     have hD:∀g∈pk n (E.take j)++[m],K6 n g:=fun g hg=>by
      rcases Am.mp hg with h|h
      ·exact hE g (List.mem_of_mem_take (a4c _ h))
      ·rw [List.mem_singleton.mp h];exact hE m (Aq hj)
     obtain⟨L',n',m',c'⟩:=a1D hn hn8 hD
     refine y0 (ρ1:=[some (.val (.int n)),some (.val (.list (E.map tp))),some (.own (P.map fun i=> .int (i:Nat))),some (.own ((pk n (E.take j)).map tp)),some (.ow (.dct (G5 L))),some (.val (.int (j:Nat))),some (.val (tp m))]) rfl (ρ2:=[some (.val (.int n)),some (.val (.list (E.map tp))),some (.own ((P++[j]).map fun i=> .int (i:Nat))),some (.own ((pk n (E.take j)++[m]).map tp)),some (.ow (.dct (G5 L'))),some (.val (.int (j:Nat))),some (.val (tp m))]) ?_ ⟨P++[j],L',_,_,rfl, ?_,n',m', ?_⟩
     ·unfold J2
      simp (disch:=omega) only [g0,i3,g7,k8,a3a,m4,r8,AQ,↓reduceIte,Bool.not_false,z8,x4,P8,P7,hd]
      rw [z7 (i:=2) (r:= .val (.int (j:Nat))) (ps:=P.map fun i=> .int (i:Nat)) rfl rfl rfl (by rw [AR];lia)]
      simp (disch:=omega) only [g7,i5,AQ,AW,AX]
      rw [z7 (i:=3) (r:= .val (tp m)) (ps:=(pk n (E.take j)).map tp) rfl rfl rfl (by rw [AR];lia)]
      have c2:=c' (some (.val (.list (E.map tp)))) (some (.own (P.map (fun i=>PyData.int (i:Nat))++[PyData.int (j:Nat)]))) (some (.ow (.dct (G5 L)))) (some (.val (.int (j:Nat)))) (some (.val (tp m)))
      rw [Ar] at c2
      have c3:a0B w4 3 (a9 0) [some (.val (.int n)),some (.val (.list (E.map tp))),some (.own (P.map (fun i=>PyData.int (i:Nat))++[PyData.int (j:Nat)])),some (.own ((pk n (E.take j)).map tp++[tp m])),some (.ow (.dct (G5 L))),some (.val (.int (j:Nat))),some (.val (tp m))]=some (.ow (.dct (G5 L'))):=c2
      simp (disch:=omega) only [j5,i5,AQ,AW,AX,c3,a0i]
      rw [Ar,Ar]
      try rfl
     ·rw [Ar,Ar,hP]
      simp [hj]
     ·rw [Aa,List.length_singleton];lia) ⟨[],L0,none,none,rfl,rfl,n0,by simpa [pk] using m0,by simp⟩
 rw [a26,AR,List.take_length] at e1 hP
 refine⟨P, ?_,hP⟩
 have c00:=c0 (some (.val (.list (E.map tp)))) (some (.own [])) none none none
 have c01:a0B w4 3 (a9 0) [some (.val (.int n)),some (.val (.list (E.map tp))),some (.own []),some (.own []),none,none,none]=some (.ow (.dct (G5 L0))):=c00
 have em:a8v (a5 (a9 1) c7) [some (.val (.int n)),some (.val (.list (E.map tp))),some (.own []),some (.own []),some (.ow (.dct (G5 L0))),none,none]=some (C1 (E.map tp)):=rfl
 unfold A4 a4A
 simp (disch:=omega) only [f8,C4,j5,g7,i5,k0,n6,x8,AQ,AM,Ae,Af,Ak,BA,Ap,AW,AX,Aj,↓reduceIte,a30,a31,sz,As,c01,a0i,x8,em,e1]
 try rfl
abbrev RW:=List (MV×List Nat)
def O4(w:List Nat):List PV:=w.map fun i=> .int (i:Nat)
def n4(R:RW):List (List c9×PV):=R.map fun p=>(ky p.1,PyData.list (O4 p.2))
theorem a2w:∀(R:RW) (x:MV),(l8 (n4 R) (ky x)).isSome=decide (x∈R.map (·.1))
 |[],x=>rfl
 |(y,w)::R,x=>by
  show(l8 ((ky y,PyData.list (O4 w))::n4 R) (ky x)).isSome=_
  rw [u4,AM]
  by_cases h:ky y=ky x
  ·rw [if_pos h,a3V h];simp
  ·rw [if_neg h,a2w R x]
   have:x≠y:=fun e=>h (by rw [e])
   simp [this]
theorem R9:∀{R:RW} {x:MV} {w:List Nat},(R.map (·.1)).Nodup->(x,w)∈R->l8 (n4 R) (ky x)=some (.list (O4 w))
 |(y,v)::R,x,w,hn,h=>by
  show l8 ((ky y,PyData.list (O4 v))::n4 R) (ky x)=_
  rw [u4]
  rw [AM] at hn
  have hn:=List.nodup_cons.mp hn
  rcases Ai.mp h with h|h
  ·cases h;rw [if_pos rfl]
  ·rw [if_neg (fun e=>hn.1 (by have e':y=x:=a3V e
                               rw [e'];exact Ag.mpr ⟨(x,w),h,rfl⟩)),R9 hn.2 h]
theorem a83{R:RW}{x:MV}{w:List Nat}(h:x∉R.map (·.1)):W8 (n4 R) (ky x) (.list (O4 w))=n4 (R++[(x,w)]):=by
 unfold W8
 have h0:=a2w R x
 rw [a3z,h0,decide_eq_false h,if_neg Av]
 simp [n4]
theorem a7j(R:RW):(n4 R).map (·.1)=(R.map (·.1)).map ky:=by unfold n4;rw [BC,BC];rfl
theorem a5c(R:RW):(n4 R).length=R.length:=by unfold n4;rw [AR]
def gR(n:Int)(x:MV)(w:List Nat):List (Nat×MV)->RW->RW
 |[],R=>R
 |g::Q,R=>gR n x w Q (if mul n x g.2∈R.map (·.1) then R else R++[(mul n x g.2,w++[g.1])])
theorem a8c(n:Int)(x:MV)(w:List Nat)(g:Nat×MV):∀(A:List (Nat×MV)) (R:RW),gR n x w (A++[g]) R=(if mul n x g.2∈(gR n x w A R).map (·.1) then gR n x w A R else gR n x w A R++[(mul n x g.2,w++[g.1])])
 |[],R=>rfl
 |a::A,R=>by
  show gR n x w (A++[g]) _=_
  rw [a8c n x w g A];rfl
theorem a8d(n:Int)(x:MV)(w:List Nat):∀(Q:List (Nat×MV)) (R:RW),(gR n x w Q R).map (·.1)=grow n x (Q.map (·.2)) (R.map (·.1))
 |[],R=>rfl
 |g::Q,R=>by
  show(gR n x w Q _).map (·.1)=grow n x (Q.map (·.2)) _
  rw [a8d n x w Q]
  split
  ·rfl
  ·rw [Ar];rfl
theorem a3P(n:Int)(x:MV)(w:List Nat):∀(Q:List (Nat×MV)) (R:RW),∃S,gR n x w Q R=R++S
 |[],R=>⟨[],by rw [AZ];rfl⟩
 |g::Q,R=>by
  show ∃S,gR n x w Q _=_
  split
  ·exact a3P n x w Q R
  ·obtain⟨S,h⟩:=a3P n x w Q (R++[(mul n x g.2,w++[g.1])])
   exact⟨[(mul n x g.2,w++[g.1])]++S,by rw [h,List.append_assoc]⟩
def ev(n:Int)(F:List MV)(w:List Nat):MV:=w.foldl (fun a i=>mul n a ((F[i]?).getD e0)) e0
structure Wd(n:Int)(F:List MV)(x:MV)(w:List Nat):Prop where
 ev:ev n F w=x
 lt:∀i∈w,i<F.length
structure KR(n:Nat)(F D:List MV)(R:RW):Prop where
 kn:Kn n D (R.map (·.1))
 hd:R[0]?=some (e0,[])
 wd:∀p∈R,Wd n F p.1 p.2
 ln:∀p∈R,p.2.length<R.length
theorem KR.gR{n:Nat}{F D:List MV}{x:MV}{w:List Nat}(hx:Wd n F x w):∀(Q:List (Nat×MV)) (R:RW),KR n F D R->(x,w)∈R->(∀q∈Q,F[q.1]?=some q.2/\q.2∈D)->KR n F D (gR n x w Q R)
 |[],R,k,_,_=>k
 |g::Q,R,k,hm,hQ=>by
  obtain⟨hg,hgD⟩:=hQ g Ah
  show KR n F D (LW.gR n x w Q _)
  split
  ·exact KR.gR hx Q R k hm fun q hq=>hQ q (Ac _ hq)
  ·rename_i c
   refine KR.gR hx Q _ ⟨⟨?_,fun y hy=> ?_, ?_⟩, ?_,fun p hp=> ?_,fun p hp=> ?_⟩ (BB _ hm) fun q hq=>hQ q (Ac _ hq)
   ·rw [Ar]
    refine List.nodup_append.mpr ⟨k.kn.nd,by simp,fun a ha b hb e=>c ?_⟩
    have hb':b=mul n x g.2:=by simpa using hb
    rw [<-hb',<-e];exact ha
   ·rw [Ar] at hy
    rcases Am.mp hy with h|h
    ·exact k.kn.rc y h
    ·have:y=mul n x g.2:=by simpa using h
     rw [this];exact(k.kn.rc x (Ag.mpr ⟨_,hm,rfl⟩)).step hgD
   ·rw [Ar];exact BB _ k.kn.e
   ·rw [Aw (Ad.mp k.hd).1];exact k.hd
   ·rcases Am.mp hp with h|h
    ·exact k.wd p h
    ·rw [List.mem_singleton.mp h]
     refine⟨?_,fun i hi=> ?_⟩
     ·show LW.ev n F (w++[g.1])=mul n x g.2
      unfold LW.ev
      rw [List.foldl_append,show w.foldl (fun a i=>mul n a ((F[i]?).getD e0)) e0=x from hx.ev]
      show mul n x ((F[g.1]?).getD e0)=_
      rw [hg];rfl
     ·rcases Am.mp hi with h|h
      ·exact hx.lt i h
      ·rw [List.mem_singleton.mp h];exact(Ad.mp hg).1
   ·rw [Aa,List.length_singleton]
    rcases Am.mp hp with h|h
    ·have:=k.ln p h;lia
    ·rw [List.mem_singleton.mp h]
     have h1:w.length<R.length:=k.ln (x,w) hm
     show(w++[g.1]).length<_
     rw [Aa,List.length_singleton];lia
theorem a9Z{qs:List PV}{p:PV}(h:qs.length<=1000):a4Q (.val (.list qs)) (.ow (.lst [p]))=some (.own (qs++[p])):=by
 show(if qs.length+[p].length<=AL then some (c6.own (qs++[p])) else none)=_
 rw [if_pos (by rw [sizeLine_eq,List.length_singleton];lia)]
theorem b1D{R:RW}{i:Nat}{x:MV}{w:List Nat}(h:R[i]?=some (x,w)):((R.map fun p=>tp p.1):List PV)[i]?=some (tp x):=by
 rw [Ao,h];rfl
section
variable {n:Nat}(hn:0<n)(hn8:n<=8){F D:List MV}(hF:∀g∈F,K6 n g)(hD:∀g∈D,K6 n g){Q:List (Nat×MV)}(hQ:∀q∈Q,F[q.1]?=some q.2/\q.2∈D){z1:Option c6}(hz1:∀q∈Q,z1=some (.val (.list (F.map tp))))
include hn hn8 hF hD hQ hz1
theorem b0E{R:RW}(k:KR n F D R){i:Nat}{x:MV}{w:List Nat}(hx:R[i]?=some (x,w))(s2 q6 q7:Option c6):
 ∃q6' q7',D4 A7 (j9 6) (O4 (Q.map (·.1))) [some (.val (.int n)),z1,s2,some (.ow (.dct (n4 R))),some (.own (R.map fun p=>tp p.1)),some (.val (.int (i:Nat))),q6,q7]
  =some (.nx [some (.val (.int n)),z1,s2,some (.ow (.dct (n4 (gR n x w Q R)))),some (.own ((gR n x w Q R).map fun p=>tp p.1)),some (.val (.int (i:Nat))),q6',q7']):=by
 have hxR:(x,w)∈R:=Aq hx
 have hxw:Wd n F x w:=k.wd _ hxR
 have hnn:n*n<=8*8:=Nat.mul_le_mul hn8 hn8
 obtain⟨ρ1,e1,q6',q7',rfl⟩:=y9 (body:=A7) (tg:=j9 6) (fun j ρ=>∃q6 q7,ρ=[some (.val (.int n)),z1,s2,some (.ow (.dct (n4 (gR n x w (Q.take j) R)))),some (.own ((gR n x w (Q.take j) R).map fun p=>tp p.1)),some (.val (.int (i:Nat))),q6,q7])
  (ps:=O4 (Q.map (·.1))) (ρ:=[some (.val (.int n)),z1,s2,some (.ow (.dct (n4 R))),some (.own (R.map fun p=>tp p.1)),some (.val (.int (i:Nat))),q6,q7])
  (by
   rintro j p hp ρ ⟨q6,q7,rfl⟩
   obtain⟨g,hg,rfl⟩:∃g,Q[j]?=some g/\p= .int (g.1:Nat):=by
    unfold O4 at hp
    rw [Ao,Ao] at hp
    cases h:Q[j]? with
    |none=>rw [h] at hp;cases hp
    |some g=>rw [h] at hp;cases hp;exact⟨g,rfl,rfl⟩
   obtain⟨hgF,hgD⟩:=hQ g (Aq hg)
   have hs:=hz1 g (Aq hg)
   subst hs
   have k':KR n F D (gR n x w (Q.take j) R):=KR.gR hxw _ _ k hxR fun q hq=>hQ q (List.mem_of_mem_take hq)
   have hl:=k'.kn.len hn hD
   rw [AR] at hl
   obtain⟨S,hS⟩:=a3P n x w (Q.take j) R
   have hx2:(gR n x w (Q.take j) R)[i]?=some (x,w):=by rw [hS,Aw (Ad.mp hx).1];exact hx
   have hxi:=b1D hx2
   have hd:=a2w (gR n x w (Q.take j) R) (mul n x g.2)
   have ix2:B1 (.val (.list (F.map tp))) (.val (.int (g.1:Nat)))=some (.val (tp g.2)):=by
    refine Q2 ?_
    rw [a58,Ao,hgF];rfl
   have hgt:=R9 k'.kn.nd (Aq hx2)
   have hwl:=k'.ln (x,w) (Aq hx2)
   have hwl:w.length<(gR n x w (Q.take j) R).length:=hwl
   have hth:=a9m (n:=(n:Int)) (by lia) ((k.kn.rc x (Ag.mpr ⟨_,hxR,rfl⟩)).ok (by lia) hD) (hD g.2 hgD)
   rw [take_succ hg,a8c]
   by_cases hm:mul n x g.2∈(gR n x w (Q.take j) R).map (·.1)
   ·rw [decide_eq_true hm] at hd
    rw [if_pos hm]
    apply y0 rfl
    ·unfold A7
     simp (disch:=omega) only [l6,g0,J4,i3,f8,d8,d9,i4,j5,u9,g7,i5,k8,O3,o0,m4,r8,AQ,AW,AX,↓reduceIte,Bool.not_true,Y8 hxi,ix2,hth,z8,x4,P8,P7,hd]
     rfl
    ·exact⟨_,_,rfl⟩
   ·rw [decide_eq_false hm] at hd
    rw [if_neg hm]
    refine y0 rfl (ρ2:=[some (.val (.int n)),some (.val (.list (F.map tp))),s2,some (.ow (.dct (n4 (gR n x w (Q.take j) R++[(mul n x g.2,w++[g.1])])))),some (.own ((gR n x w (Q.take j) R++[(mul n x g.2,w++[g.1])]).map fun p=>tp p.1)),some (.val (.int (i:Nat))),some (.val (.int (g.1:Nat))),some (.val (tp (mul n x g.2)))]) ?_ ⟨_,_,rfl⟩
    have ha:a4Q (.val (.list (O4 w))) (.ow (.lst [.int (g.1:Nat)]))=some (.own (O4 (w++[g.1]))):=by
     rw [a9Z (by unfold O4;rw [AR];lia)]
     unfold O4
     rw [Ar];rfl
    unfold A7
    simp (disch:=omega) only [l6,g0,J4,i3,f8,d8,d9,a3t,C4,i4,j5,u9,g7,i5,k8,a3a,m4,r8,AQ,BD,AW,AX,AU,Aj,↓reduceIte,Bool.not_false,sz,Nat.reduceAdd,As,Y8 hxi,ix2,hth,z8,x4,P8,P7,hd,R0,a0X,a6b,a6a,hgt,ha]
    rw [a1I rfl (by rw [a5c];lia),a83 hm]
    simp (disch:=omega) only [i5,AQ,AW,AX]
    rw [z7 (r:= .val (tp (mul n x g.2))) rfl rfl rfl (by rw [AR];lia),Ar]
    rfl) ⟨q6,q7,by simp [gR]⟩
 unfold O4 at e1
 rw [AR,AR,List.take_length] at e1
 exact⟨q6',q7',e1⟩
end
theorem a6w{n:Nat}(hn:0<n)(hn8:n<=8){F:List MV}(hF:∀g∈F,K6 n g)(hl:F.length<=1000):∃P:List Nat,A4 [.int n,.list (F.map tp)]=some (.own (O4 P))/\(F=[]->P=[])/\∀z1:Option c6,(F≠[]->z1=some (.val (.list (F.map tp))))->
 ∃R:RW,(R.map (·.1)).Nodup/\(∀x,x∈R.map (·.1)↔M4 n F x)/\(∀p∈R,Wd n F p.1 p.2)/\(∀p∈R,p.2.length<R.length)/\R.length<=1000/\R[0]?=some (e0,[])/\w5 [some (.val (.int n)),z1,some (.own (O4 P)),none,none,none,none,none]=some (.rt (.ow (.dct (n4 R)))):=by
 obtain⟨P,hP,hPF⟩:=a68 hn hn8 hF hl
 have hD:∀g∈pk n F,K6 n g:=fun g hg=>hF g (a4c F hg)
 have hR:∀x,M4 n (pk n F) x↔M4 n F x:=fun x=>⟨fun h=>h.mono fun g hg=>a4c F hg,fun h=>h.sub (by lia) hD fun d hd=>b2n hF d hd⟩
 have hnn:n*n<=8*8:=Nat.mul_le_mul hn8 hn8
 have hP0:F=[]->P=[]:=fun h=>by
  subst h
  have:=congrArg List.length hPF
  rw [AR,AR] at this
  exact List.length_eq_zero_iff.mp this
 refine⟨P,hP,hP0,fun z1 hz1=> ?_⟩
 let Q:List (Nat×MV):=P.map fun i=>(i,(F[i]?).getD e0)
 have hQ1:Q.map (·.1)=P:=by
  show(P.map _).map _=P
  rw [BC]
  exact(List.map_congr_left fun i _=>rfl).trans (List.map_id P)
 have hQ2:Q.map (·.2)=pk n F:=by
  show(P.map _).map _=_
  rw [BC]
  have:P.map ((fun q:Nat×MV=>q.2)∘fun i=>(i,(F[i]?).getD e0))=(P.map fun i=>F[i]?).map fun o=>o.getD e0:=by rw [BC];rfl
  rw [this,hPF,BC]
  exact(List.map_congr_left fun i _=>rfl).trans (List.map_id _)
 have hQ:∀q∈Q,F[q.1]?=some q.2/\q.2∈pk n F:=fun q hq=>by
  obtain⟨i,hi,rfl⟩:=Ag.mp hq
  have:F[i]?∈P.map fun i=>F[i]?:=Ag.mpr ⟨i,hi,rfl⟩
  rw [hPF] at this
  obtain⟨m,hm,e⟩:=Ag.mp this
  show F[i]?=some ((F[i]?).getD e0)/\(F[i]?).getD e0∈pk n F
  rw [<-e];exact⟨rfl,hm⟩
 have hz1':∀q∈Q,z1=some (.val (.list (F.map tp))):=fun q hq=>hz1 fun h=>by
  have:Q=[]:=by show P.map _=[];rw [hP0 h];rfl
  rw [this] at hq;cases hq
 have cnd:∀(R:RW) (i:Nat) (s0 z1 s2 s3 q6 q7:Option c6),R.length<=1000->mtB (m2 a0s (a9 5) (m1 E8 (a9 4))) [s0,z1,s2,s3,some (.own (R.map fun p=>tp p.1)),some (.val (.int (i:Nat))),q6,q7]=some (decide (i<R.length)):=by
  intro L i s0 z1 s2 s3 q5 q6 hl
  have h1:E8 (.bor (L.map fun p=>tp p.1))=some (.val (.int (L.length:Nat))):=by
   have:=a4R (L.map fun p=>tp p.1)
   rw [AR] at this
   exact this
  simp (disch:=omega) only [a1P,l6,D0,g0,J4,i3,m4,r8,AQ,h1]
  by_cases h:i<L.length
  ·rw [decide_eq_true (show(i:Int)<(L.length:Int) by lia),decide_eq_true h]
   try rfl
  ·rw [decide_eq_false (show ¬(i:Int)<(L.length:Int) by lia),decide_eq_false h]
   try rfl
 obtain⟨ρ,m,hw,⟨R,i,s2,q6,q7,rfl,_,k,hi,hm,hc⟩,hf⟩:=J6 (c:=mtB (m2 a0s (a9 5) (m1 E8 (a9 4)))) (body:=D6)
  (I:=fun m ρ=>∃(R:RW) (i:Nat) (s2 q6 q7:Option c6),ρ=[some (.val (.int n)),z1,s2,some (.ow (.dct (n4 R))),some (.own (R.map fun p=>tp p.1)),some (.val (.int (i:Nat))),q6,q7]/\(s2=some (.own (O4 P))\/s2=some (.val (.list (O4 P))))/\KR n F (pk n F) R/\i<=R.length/\m+i=512/\(∀(j:Nat) (x:MV) (w:List Nat),j<i->R[j]?=some (x,w)->∀g∈pk n F,mul n x g∈R.map (·.1)))
  (by
   rintro m ρ ⟨R,i,s2,q6,q7,rfl,hs2,k,hi,hm,hc⟩
   have hl:=k.kn.len hn hD
   rw [AR] at hl
   rw [cnd R i _ _ _ _ _ _ (by lia)]
   by_cases h:i<R.length
   ·right
    refine⟨by rw [decide_eq_true h], ?_⟩
    obtain⟨x,w,hx⟩:∃x w,R[i]?=some (x,w):=⟨R[i].1,R[i].2,getElem?_pos R i h⟩
    have hxR:(x,w)∈R:=Aq hx
    obtain⟨q6',q7',e⟩:=b0E hn hn8 hF hD hQ hz1' k hx (some (.val (.list (O4 P)))) q6 q7
    rw [hQ1] at e
    obtain⟨S,hS⟩:=a3P n x w Q R
    refine⟨[some (.val (.int n)),z1,some (.val (.list (O4 P))),some (.ow (.dct (n4 (gR n x w Q R)))),some (.own ((gR n x w Q R).map fun p=>tp p.1)),some (.val (.int ((i+1:Nat):Int))),q6',q7'],m - 1, ?_,by lia,gR n x w Q R,i+1,_,q6',q7',rfl,.inr rfl,KR.gR (k.wd _ hxR) Q R k hxR hQ, ?_,by lia, ?_⟩
    ·have hz:∀b:MS,Z2 2 b [some (.val (.int n)),z1,s2,some (.ow (.dct (n4 R))),some (.own (R.map fun p=>tp p.1)),some (.val (.int (i:Nat))),q6,q7]=b [some (.val (.int n)),z1,some (.val (.list (O4 P))),some (.ow (.dct (n4 R))),some (.own (R.map fun p=>tp p.1)),some (.val (.int (i:Nat))),q6,q7]:=by
      intro b
      rcases hs2 with rfl|rfl<;>rfl
     unfold D6
     rw [g7,hz]
     simp (disch:=omega) only [g0,i3,d9,i5,x8,AQ,F6,B6,e]
     rw [show((i+1:Nat):Int)=(i:Int)+1 by lia]
     rfl
    ·rw [hS,Aa];lia
    ·intro j y v hj hy g hg
     rw [a8d,hQ2,C3]
     by_cases hji:j<i
     ·have hjl:j<R.length:=by lia
      rw [hS,Aw hjl] at hy
      exact .inl (hc j y v hji hy g hg)
     ·have:j=i:=by lia
      subst this
      rw [hS,Aw h,hx] at hy
      cases hy
      exact .inr ⟨g,hg,rfl⟩
   ·left
    rw [decide_eq_false h]) 1000 512 [some (.val (.int n)),z1,some (.own (O4 P)),some (.ow (.dct (n4 [(e0,[])]))),some (.own [tp e0]),some (.val (.int ((0:Nat):Int))),none,none] (by lia)
  ⟨[(e0,[])],0,_,none,none,rfl,.inl rfl,⟨⟨by simp,fun x hx=>(by simpa using hx:x=e0)▸.base,List.mem_singleton.mpr rfl⟩,rfl,fun p hp=>by rw [List.mem_singleton.mp hp];exact⟨rfl,fun i hi=>nomatch hi⟩,fun p hp=>by rw [List.mem_singleton.mp hp];simp⟩,by lia,by lia,fun j x w hj=>by lia⟩
 have hl2:=k.kn.len hn hD
 rw [AR] at hl2
 rw [cnd R i _ _ _ _ _ _ (by lia)] at hf
 have hil:¬i<R.length:=of_decide_eq_false (Option.some.inj hf)
 refine⟨R,k.kn.nd,fun x=>(V8 k.kn (fun x hx g hg=> ?_) x).trans (hR x),k.wd,k.ln,by lia,k.hd, ?_⟩
 ·obtain⟨⟨y,w⟩,hp,rfl⟩:=Ag.mp hx
  obtain⟨j,hj,e⟩:=List.mem_iff_getElem.mp hp
  exact hc j y w (by lia) (by rw [Au hj,e]) g hg
 ·have hw':y8 (mtB (m2 a0s (a9 5) (m1 E8 (a9 4)))) D6 1000 [some (.val (.int n)),z1,some (.own (O4 P)),some (.ow (.dct [([.inr (AJ "stay"),.inl 0,.inl 0],.list [])])),some (.own [.tuple [.str (AJ "stay"),.int 0,.int 0]]),some (.val (.int 0)),none,none]=_:=hw
  unfold w5
  simp (disch:=omega) only [n9,f8,d8,d9,a3t,p7,C4,j5,u9,g7,i5,AQ,AW,AX,AU,Aj,↓reduceIte,a30,a31,sz,Nat.reduceAdd,As,W3,a3U,a0i,hw']
  try rfl
abbrev scL(ns:List Int):Option c6:=some (.val (.list (ns.map .int)))
theorem a7t(i:Int):J0 [.int i]=some (.val (.bool true)):=by
 unfold J0 a0T
 simp (disch:=omega) only [D0,g0,l9,k0,a8u,a78,AQ,AM,Ae,Ak,AZ,a8l,b2U]
 rfl
theorem b1Z(L:List MV)(x y:c6)(hx:x.rd= .list (L.map tp))(hy:y.rd= .list (L.map tp)):gNe x y=some (.val (.bool false)):=by
 have ok:j8 (.list (L.map tp)) 50=true:=b13 L 47
 have:=a8b ok
 rw [a3O (x:= .val (.list (L.map tp))) (y:= .val (.list (L.map tp))) ⟨ok,ok⟩] at this
 rw [a3O ⟨by rw [hx];exact ok,by rw [hy];exact ok⟩,hx,hy]
 exact this
theorem a9d{R:RW}(h:R.length<=1000):Q5 (.bo (.dct (n4 R)))=some (.own (srt (R.map (·.1)))):=by
 unfold Q5
 show(if okK ((n4 R).map (·.1))=true/\(n4 R).length<=16777216 then some (c6.own ((O6 D7 ((n4 R).map (·.1))).map kT)) else none)=_
 rw [a7j,if_pos ⟨a8H _,by rw [a5c];lia⟩]
 rfl
theorem b22{n:Int}(hn:0<n){F:List MV}(hF:∀g∈F,K6 n g)(w:List Nat)(hw:∀i∈w,i<F.length):K6 n (ev n F w):=by
 have:∀(w:List Nat) (a:MV),K6 n a->(∀i∈w,i<F.length)->K6 n (w.foldl (fun a i=>mul n a ((F[i]?).getD e0)) a):=by
  intro w
  induction w with
  |nil=>intro a h _;exact h
  |cons i w ih=>
   intro a h hw
   refine ih _ (a8I hn h ?_) fun j hj=>hw j (Ac _ hj)
   rw [getElem?_pos F i (hw i Ah)]
   exact hF _ (List.getElem_mem _)
 exact this w e0 (b3d hn) hw
theorem b1z(n:Int)(F:List MV)(w:List Nat)(i:Nat):ev n F (w++[i])=mul n (ev n F w) ((F[i]?).getD e0):=by
 unfold ev
 rw [List.foldl_append];rfl
theorem b1F(x y:MV):gEq (.val (tp x)) (.val (tp y))=some (.val (.bool (decide (x=y)))):=by
 rw [a76 (x:= .val (tp x)) (y:= .val (tp y)) ⟨rfl,rfl⟩,a51,a51,b1x]
theorem b12(w:List Nat):E8 (.val (.list (O4 w)))=some (.val (.int (w.length:Nat))):=by
 have:=v9 (O4 w)
 unfold O4 at this ⊢
 rw [AR] at this
 exact this
theorem a4j(F:List MV):E8 (.val (.list (F.map tp)))=some (.val (.int (F.length:Nat))):=by
 have:=v9 (F.map tp)
 rw [AR] at this
 exact this
theorem a2A{n:Nat}(hn:0<n){F:List MV}(hF:∀g∈F,K6 n g){w:List Nat}{x:MV}(wd:Wd n F x w){m:Nat}(hm:w.length<=m):v4 [.int n,.list (F.map tp),.list (O4 w),tp x,.int (m:Nat)]=some (.val (.bool true)):=by
 obtain⟨ρ1,e1,q6,rfl⟩:=y9 (body:=A5) (tg:=j9 6) (fun j ρ=>∃q6,ρ=[some (.val (.int n)),some (.val (.list (F.map tp))),some (.val (.list (O4 w))),some (.val (tp x)),some (.val (.int (m:Nat))),some (.val (tp (ev n F (w.take j)))),q6])
  (ps:=O4 w) (ρ:=[some (.val (.int n)),some (.val (.list (F.map tp))),some (.val (.list (O4 w))),some (.val (tp x)),some (.val (.int (m:Nat))),some (.val (tp e0)),none])
  (by
   rintro j p hp ρ ⟨q6,rfl⟩
   obtain⟨i,hi,rfl⟩:∃i,w[j]?=some i/\p= .int (i:Nat):=by
    unfold O4 at hp
    rw [Ao] at hp
    cases h:w[j]? with
    |none=>rw [h] at hp;cases hp
    |some g=>rw [h] at hp;cases hp;exact⟨g,rfl,rfl⟩
   have hiF:=wd.lt i (Aq hi)
   have hg:F[i]?=some F[i]:=getElem?_pos F i hiF
   have ix:B1 (.val (.list (F.map tp))) (.val (.int (i:Nat)))=some (.val (tp F[i])):=by
    refine Q2 ?_
    rw [a58,Ao,hg];rfl
   have hb:=a0j (n:=(n:Int)) (by lia) (b22 (by lia) hF (w.take j) fun i hi=>wd.lt i (List.mem_of_mem_take hi)) (hF F[i] (List.getElem_mem _))
   have d1:decide ((0:Int)<=(i:Nat))=true:=decide_eq_true (by lia)
   have d2:decide (((i:Nat):Int)<(F.length:Nat))=true:=decide_eq_true (by lia)
   rw [take_succ hi,b1z,hg]
   apply y0 rfl
   ·unfold A5
    simp (disch:=omega) only [a1P,b1H,a5R,b2V,v9,l6,D0,n9,g0,i3,f8,d8,d9,i4,j5,u9,g7,i5,k8,O3,o0,Z4,m4,r8,a5j,L8,a2g,a8N,AQ,BD,AW,AX,Bool.not_true,AR,a7t,a4j,d1,d2,ix,hb]
    rfl
   ·exact⟨_,rfl⟩) ⟨none,rfl⟩
 unfold O4 at e1
 rw [AR,List.take_length,wd.ev] at e1
 have e1':D4 A5 (j9 6) (O4 w) [some (.val (.int n)),some (.val (.list (F.map tp))),some (.val (.list (O4 w))),some (.val (tp x)),some (.val (.int (m:Nat))),some (.val (.tuple [.str (AJ "stay"),.int 0,.int 0])),none]=some (.nx [some (.val (.int n)),some (.val (.list (F.map tp))),some (.val (.list (O4 w))),some (.val (tp x)),some (.val (.int (m:Nat))),some (.val (tp x)),q6]):=e1
 have he:=b1F x x
 rw [decide_eq_true rfl] at he
 have hd:decide (((m:Nat):Int)<((O4 w).length:Nat))=false:=decide_eq_false (by unfold O4;rw [AR];lia)
 have gi:a3M "list" (.val (.list (O4 w)))=some (.val (.bool true)):=rfl
 unfold v4 a0S
 simp (disch:=omega) only [b1G,v9,l6,D0,n9,g0,i3,f8,d8,d9,p7,j5,u9,l9,A9,g7,i5,k8,O3,o0,k0,n6,Z4,m4,r8,a5j,L8,a2g,a8N,x8,AQ,BD,AM,Ae,Af,Ak,BA,Ap,AW,AX,AU,Aj,↓reduceIte,Bool.not_true,F6,B6,sz,Nat.reduceAdd,As,gi,b12,hd,e1',he]
 try rfl
theorem a9X(F:List MV):U8 (F.map tp)=true:=by
 induction F with
 |nil=>rfl
 |cons x F ih=>show(a3K (tp x)&& U8 (F.map tp))=true;rw [ih];rfl
theorem a7k{n:Nat}(hn:0<n)(hn8:n<=8){F:List MV}(hF:∀g∈F,K6 n g)(hl:F.length<=1000):∃R:RW,(R.map (·.1)).Nodup/\(∀x,x∈R.map (·.1)↔M4 n F x)/\(∀p∈R,Wd n F p.1 p.2)/\(∀p∈R,p.2.length<R.length)/\R.length<=1000/\R[0]?=some (e0,[])/\u0 [.int n,.list (F.map tp)]=some (.ow (.dct (n4 R)))/\∀p∈R,L4 [.int n,.list (F.map tp),tp p.1]=some (.val (.list (O4 p.2))):=by
 obtain⟨P,hP,hP0,hR⟩:=a6w hn hn8 hF hl
 obtain⟨R,h1,h2,h3,h4,h5,h6,e⟩:=hR (some (.val (.list (F.map tp)))) fun _=>rfl
 have er:u0 [.int n,.list (F.map tp)]=some (.ow (.dct (n4 R))):=by
  unfold u0 a2Z
  simp (disch:=omega) only [g0,i3,f8,d8,d9,i4,j5,g7,i5,k0,n6,AQ,AM,Ae,Af,Ak,BA,Ap,AW,AX,hP,a0i,e]
 refine⟨R,h1,h2,h3,h4,h5,h6,er,fun p hp=> ?_⟩
 have hv:=R9 h1 (show(p.1,p.2)∈R from hp)
 have hx:=a65 (m:=j6 u0 (a5 (a9 0) (a5 (a9 1) c7))) (mk:=a9 2) (ρ:=[some (.val (.int n)),some (.val (.list (F.map tp))),some (.val (tp p.1))]) (by simp (disch:=omega) only [g0,i3,f8,d8,d9,i4,AQ,er]) rfl (x4 p.1) hv
 unfold L4 a4B
 simp (disch:=omega) only [l9,A9,k0,n6,AQ,AM,Ae,Ak,AZ,hx]
theorem a86{n:Nat}(hn:0<n)(hn8:n<=8):∃R:RW,(R.map (·.1)).Nodup/\(∀x,x∈R.map (·.1)↔M4 n [] x)/\(∀p∈R,Wd n [] p.1 p.2)/\(∀p∈R,p.2.length<R.length)/\R.length<=1000/\R[0]?=some (e0,[])/\y6 [.int n,.list []]=some (.ow (.dct (n4 R))):=by
 obtain⟨P,hP,hP0,hR⟩:=a6w hn hn8 (F:=[]) (fun g hg=>nomatch hg) (by simp)
 obtain⟨R,h1,h2,h3,h4,h5,h6,e⟩:=hR none fun h=>absurd rfl h
 refine⟨R,h1,h2,h3,h4,h5,h6, ?_⟩
 have hP':P=[]:=hP0 rfl
 subst hP'
 have hm:j6 A4 (a5 (a9 0) (a5 (a9 1) c7)) [some (.val (.int n)),some (.val (.list [])),none,none,none,none,none,none]=some (.own []):=by
  have hP2:A4 [.int n,.list []]=some (.own []):=hP
  simp (disch:=omega) only [g0,i3,f8,d8,d9,i4,AQ,hP2]
 unfold y6
 show(match j6 A4 (a5 (a9 0) (a5 (a9 1) c7)) [some (.val (.int n)),some (.val (.list [])),none,none,none,none,none,none] with|some r=>_|none=>none)=_
 rw [hm]
 show(match w5 [some (.val (.int n)),none,some (.own []),none,none,none,none,none] with|some (.rt q)=>some q|_=>none)=_
 have e':w5 [some (.val (.int n)),none,some (.own []),none,none,none,none,none]=_:=e
 rw [e']
theorem main:∀ns:List Int,ns.length<=63->a8f [.list (ns.map .int)]=some (.val (.bool true)):=by
 intro ns hl
 obtain⟨c0,hc0⟩:=a1F (ns:=ns) (k:=0) (by lia)
 have hx0:=a2f (c:=c0) (k:=1) (by lia)
 have hb0:=b3a c0 1
 obtain⟨n,hn'⟩:∃n:Nat,1+mix c0 1 % 5=(n:Int):=⟨(1+mix c0 1 % 5).toNat,by lia⟩
 have hn:0<n:=by lia
 have hn5:n<=5:=by lia
 have hn8:n<=8:=by lia
 have hnn:n*n<=8*8:=Nat.mul_le_mul hn8 hn8
 obtain⟨ρ1,e1,G,q3,rfl,hG,hGl⟩:=y9 (body:=a11) (tg:=j9 3) (fun j ρ=>∃(G:List MV) (q3:Option c6),ρ=[scL ns,some (.val (.int n)),some (.own (G.map tp)),q3,none,none,none,none]/\(∀g∈G,K6 n g)/\G.length<=j)
  (ps:=W9 0 (c0 % 6)) (ρ:=[scL ns,some (.val (.int n)),some (.own []),none,none,none,none,none])
  (by
   rintro j p hp ρ ⟨G,q3,rfl,hG,hGl⟩
   obtain⟨rfl,hj⟩:=a6u hp
   rw [show(0:Int)+(j:Int)=(j:Int) by lia] at hj ⊢
   obtain⟨v,hv⟩:=a1F (ns:=ns) (k:=1+(j:Int)) (by lia)
   have hx:=a2f (c:=v) (k:=20+(j:Int)) (by lia)
   obtain⟨w,hw,ew⟩:=b0k (n:=(n:Int)) (mix v (20+(j:Int))) (by lia)
   refine y0 rfl (ρ2:=[scL ns,some (.val (.int n)),some (.own ((G++[(w,mix v (20+(j:Int))/ 8 % n,mix v (20+(j:Int))/ 64 % n)]).map tp)),some (.val (.int (j:Nat))),none,none,none,none]) ?_ ⟨_,_,rfl, ?_, ?_⟩
   ·unfold a11
    rw [z7 (i:=2) (r:= .val (T3 w (mix v (20+(j:Int))/ 8 % n) (mix v (20+(j:Int))/ 64 % n))) (ps:=G.map tp) (by simp (disch:=omega) only [E7,l6,n9,g0,i3,f8,d8,d9,i4,AQ,AW,AX,hv,hx,ew]) rfl rfl (by rw [AR];lia),Ar]
    rfl
   ·intro g hg
    rcases Am.mp hg with h|h
    ·exact hG g h
    ·rw [List.mem_singleton.mp h]
     exact⟨hw,⟨Int.emod_nonneg _ (by lia),Int.emod_lt_of_pos _ (by lia)⟩,Int.emod_nonneg _ (by lia),Int.emod_lt_of_pos _ (by lia)⟩
   ·rw [Aa,List.length_singleton];lia) ⟨[],none,rfl,(fun g hg=>nomatch hg),by simp⟩
 have hGl':G.length<=1000:=by rw [Z8] at hGl;lia
 obtain⟨L,nd,mem,ec⟩:=a9H hn hn8 hG
 obtain⟨E,pE,eE,_⟩:=b2y L
 have ndE:E.Nodup:=pE.nodup_iff.mpr nd
 have memE:∀x,x∈E↔M4 n G x:=fun x=>(pE.mem_iff).trans (mem x)
 have okE:∀x∈E,K6 n x:=fun x hx=>((memE x).mp hx).ok (by lia) hG
 rw [eE] at ec
 have e0E:e0∈E:=(memE e0).mpr .base
 have hE0:0<E.length:=List.length_pos_of_mem e0E
 have lenR:∀R:RW,(R.map (·.1)).Nodup->(∀x,x∈R.map (·.1)↔M4 n G x)->R.length=E.length:=fun R h1 h2=>by
  have:(R.map (·.1)).Perm E:=(List.perm_ext_iff_of_nodup h1 ndE).mpr fun x=>(h2 x).trans (memE x).symm
  have:=this.length_eq
  rwa [AR] at this
 obtain⟨R',r1,r2,r3,r4,r5,r6,er,ert⟩:=a7k hn hn8 hG hGl'
 have len':=lenR R' r1 r2
 obtain⟨R,h1,h2,h3,h4,h5,h6,et⟩:∃R:RW,(R.map (·.1)).Nodup/\(∀x,x∈R.map (·.1)↔M4 n G x)/\(∀p∈R,Wd n G p.1 p.2)/\(∀p∈R,p.2.length<R.length)/\R.length<=1000/\R[0]?=some (e0,[])/\(if(G.map tp).isEmpty=true then a17 y6 5 (a9 1) [none,some (.val (.int n)),none,none,none,some (.own (G.map tp)),none,none] else j6 u0 (a5 (a9 1) (a5 (a9 5) c7)) [none,some (.val (.int n)),none,none,none,some (.val (.list (G.map tp))),none,none])=some (.ow (.dct (n4 R))):=by
  cases G with
  |nil=>
   obtain⟨R,h1,h2,h3,h4,h5,h6,e⟩:=a86 hn hn8
   exact⟨R,h1,h2,h3,h4,h5,h6,e⟩
  |cons g G=>
   refine⟨R',r1,r2,r3,r4,r5,r6, ?_⟩
   rw [if_neg (by simp)]
   simp (disch:=omega) only [g0,i3,f8,d8,d9,i4,AQ,AM]
   exact er
 have lenE:=lenR R h1 h2
 have hso:=a9d h5
 have sR:srt (R.map (·.1))=E.map tp:=by
  rw [<-eE]
  exact a9i h1 nd fun x=>(h2 x).trans (mem x).symm
 rw [sR] at hso
 have q1:=b1Z E (.ow (.lst (E.map tp))) (.val (.list (E.map tp))) rfl rfl
 have q2:=b1Z G (.val (.list (G.map tp))) (.val (.list (G.map tp))) rfl rfl
 have q2':=b1Z G (.bo (.lst (G.map tp))) (.val (.list (G.map tp))) rfl rfl
 have gd:a3M "dict" (.bo (.dct (n4 R)))=some (.val (.bool true)):=rfl
 have e4:Q7 [scL ns,some (.val (.int n)),some (.val (.list (G.map tp))),q3,some (.val (.list (E.map tp))),some (.val (.list (G.map tp))),some (.ow (.dct (n4 R))),none]=some (.nx [scL ns,some (.val (.int n)),some (.val (.list (G.map tp))),q3,some (.val (.list (E.map tp))),some (.val (.list (G.map tp))),some (.ow (.dct (n4 R))),none]):=by
  unfold Q7
  simp (disch:=omega) only [l6,D0,g0,i3,k8,O3,o0,Z4,m4,r8,a5j,L8,a2g,a8N,AQ,BD,Bool.not_true,b0g,gd,hso,q1,q2]
 obtain⟨ρ2,e5,q7,rfl⟩:=y9 (body:=a12) (tg:=j9 7) (fun _ ρ=>∃q7:Option c6,ρ=[scL ns,some (.val (.int n)),some (.val (.list (G.map tp))),q3,some (.val (.list (E.map tp))),some (.val (.list (G.map tp))),some (.ow (.dct (n4 R))),q7])
  (ps:=E.map tp) (ρ:=[scL ns,some (.val (.int n)),some (.val (.list (G.map tp))),q3,some (.val (.list (E.map tp))),some (.val (.list (G.map tp))),some (.ow (.dct (n4 R))),none])
  (by
   rintro j p hp ρ ⟨q7,rfl⟩
   obtain⟨x,hx,rfl⟩:=a5T hp
   obtain⟨⟨y,w⟩,hyR,hyx⟩:=Ag.mp ((h2 x).mpr ((memE x).mp (Aq hx)))
   have hyx:y=x:=hyx
   subst hyx
   have hv:=R9 h1 hyR
   have hri:=a2A hn hG (h3 _ hyR) (m:=E.length) (by have:=h4 _ hyR;lia)
   apply y0 rfl
   ·unfold a12
    simp (disch:=omega) only [v9,D0,g0,i3,f8,d8,d9,i4,k8,O3,o0,Z4,a5j,L8,AQ,BD,AW,AX,Bool.not_true,AR,a0X,x4,a6b,a6a,hv,a4j,hri]
    rfl
   ·exact⟨_,rfl⟩) ⟨none,rfl⟩
 have e5':Q8 [scL ns,some (.val (.int n)),some (.val (.list (G.map tp))),q3,some (.val (.list (E.map tp))),some (.val (.list (G.map tp))),some (.ow (.dct (n4 R))),none]=some (.nx [scL ns,some (.val (.int n)),some (.val (.list (G.map tp))),q3,some (.val (.list (E.map tp))),some (.val (.list (G.map tp))),some (.ow (.dct (n4 R))),q7]):=by
  unfold Q8
  simp (disch:=omega) only [g0,i3,d9,x8,AQ,F6,B6,e5]
 obtain⟨ρ3,e6,q3',q7',rfl⟩:=y9 (body:=a13) (tg:=j9 3) (fun _ ρ=>∃q3 q7:Option c6,ρ=[scL ns,some (.val (.int n)),some (.val (.list (G.map tp))),q3,some (.val (.list (E.map tp))),some (.val (.list (G.map tp))),some (.ow (.dct (n4 R))),q7])
  (ps:=W9 0 3) (ρ:=[scL ns,some (.val (.int n)),some (.val (.list (G.map tp))),q3,some (.val (.list (E.map tp))),some (.val (.list (G.map tp))),some (.ow (.dct (n4 R))),q7])
  (by
   rintro j p hp ρ ⟨q3,q7,rfl⟩
   obtain⟨rfl,hj⟩:=a6u hp
   rw [show(0:Int)+(j:Int)=(j:Int) by lia] at hj ⊢
   obtain⟨v,hv⟩:=a1F (ns:=ns) (k:=6+(j:Int)) (by lia)
   have hx:=a2f (c:=v) (k:=50+(j:Int)) (by lia)
   obtain⟨i,hi⟩:∃i:Nat,mix v (50+(j:Int)) %(E.length:Nat)=(i:Int)/\i<E.length:=by
    have h1:=Int.emod_nonneg (mix v (50+(j:Int))) (b:=(E.length:Nat)) (by lia)
    have h2:=Int.emod_lt_of_pos (mix v (50+(j:Int))) (b:=((E.length:Nat):Int)) (by lia)
    exact⟨(mix v (50+(j:Int)) %(E.length:Nat)).toNat,by lia,by lia⟩
   have hg:E[i]?=some E[i]:=getElem?_pos E i hi.2
   have ix:B1 (.val (.list (E.map tp))) (.val (.int (i:Nat)))=some (.val (tp E[i])):=by
    refine Q2 ?_
    rw [a58,Ao,hg];rfl
   obtain⟨⟨y,w⟩,hyR,hyx⟩:=Ag.mp ((r2 E[i]).mpr ((memE E[i]).mp (List.getElem_mem hi.2)))
   have hyx:y=E[i]:=hyx
   have hrt:=ert _ hyR
   have hri:=a2A hn hG (r3 _ hyR) (m:=E.length) (by have:=r4 _ hyR;lia)
   simp only at hrt hri
   rw [hyx] at hrt hri
   have c0:(0:Int)<(E.length:Nat):=by lia
   apply y0 rfl
   ·unfold a13
    simp (disch:=omega) only [E7,L3,v9,l6,D0,n9,g0,i3,f8,d8,d9,i4,j5,u9,g7,i5,k8,O3,o0,Z4,a5j,L8,AQ,BD,AW,AX,Bool.not_true,AR,hv,hx,a4j,c0,hi.1,ix,hrt,hri]
    rfl
   ·exact⟨_,_,rfl⟩) ⟨_,_,rfl⟩
 have e6':Q9 [scL ns,some (.val (.int n)),some (.val (.list (G.map tp))),q3,some (.val (.list (E.map tp))),some (.val (.list (G.map tp))),some (.ow (.dct (n4 R))),q7]=some (.nx [scL ns,some (.val (.int n)),some (.val (.list (G.map tp))),q3',some (.val (.list (E.map tp))),some (.val (.list (G.map tp))),some (.ow (.dct (n4 R))),q7']):=by
  unfold Q9
  simp (disch:=omega) only [n9,f8,d8,d9,x8,a3h,a6t,AQ,e6]
 have he0:(e0,([]:List Nat))∈R:=Aq h6
 have he0':(e0,([]:List Nat))∈R':=Aq r6
 have hv0:=R9 h1 he0
 have hrt:=ert _ he0'
 have hri:=a2A hn hG (r3 _ he0') (m:=E.length) (by simp)
 have hg5:a3g 6 (a5 (mC (.str (AJ "stay"))) (a5 (mC (.int 0)) (a5 (mC (.int 0)) c7))) [none,none,none,none,none,none,some (.ow (.dct (n4 R))),none]=some (.val (.list [])):=by
  unfold a3g
  show(if([.str (AJ "stay"),.int 0,.int 0]:List PV).length<=AL then(N2 [.str (AJ "stay"),.int 0,.int 0]).bind (O1 6 [none,none,none,none,none,none,some (.ow (.dct (n4 R))),none]) else none)=_
  rw [if_pos (by rw [sizeLine_eq];simp)]
  show O1 6 [none,none,none,none,none,none,some (.ow (.dct (n4 R))),none] (ky e0)=_
  rw [a7L rfl hv0]
  rfl
 have tail:∀nn:MS,a2a 6 5 [1] [1,2,4,5] (j6 u0 (a5 (a9 1) (a5 (a9 5) c7))) (a17 y6 5 (a9 1)) Q7 Q8 Q9 (a3g 6 (a5 (mC (.str (AJ "stay"))) (a5 (mC (.int 0)) (a5 (mC (.int 0)) c7)))) (mC (.int 0)) nn [scL ns,some (.val (.int n)),some (.val (.list (G.map tp))),q3,some (.val (.list (E.map tp))),some (.own (G.map tp)),none,none]
  =nn [none,some (.val (.int n)),some (.val (.list (G.map tp))),none,some (.val (.list (E.map tp))),some (.own (G.map tp)),none,none]:=by
  intro nn
  unfold a2a
  show(if U8 (G.map tp)=true/\a3L [5,1] 5 [scL ns,some (.val (.int n)),some (.val (.list (G.map tp))),q3,some (.val (.list (E.map tp))),some (.own (G.map tp)),none,none]=true/\6<8 then _ else _)=_
  rw [if_pos ⟨a9X G,rfl,by lia⟩]
  show(match(if(G.map tp).isEmpty=true then a17 y6 5 (a9 1) [none,some (.val (.int n)),none,none,none,some (.own (G.map tp)),none,none] else j6 u0 (a5 (a9 1) (a5 (a9 5) c7)) [none,some (.val (.int n)),none,none,none,some (.val (.list (G.map tp))),none,none]) with|some (.ow (.dct T))=>_|_=>none)=_
  rw [et]
  show(match Q7 [scL ns,some (.val (.int n)),some (.val (.list (G.map tp))),q3,some (.val (.list (E.map tp))),some (.val (.list (G.map tp))),some (.ow (.dct (n4 R))),none] with|some (.nx ρ3)=>_|_=>none)=_
  rw [e4]
  show(match Q8 [scL ns,some (.val (.int n)),some (.val (.list (G.map tp))),q3,some (.val (.list (E.map tp))),some (.val (.list (G.map tp))),some (.ow (.dct (n4 R))),none] with|some (.nx ρ3)=>_|_=>none)=_
  rw [e5']
  show(match Q9 [scL ns,some (.val (.int n)),some (.val (.list (G.map tp))),q3,some (.val (.list (E.map tp))),some (.val (.list (G.map tp))),some (.ow (.dct (n4 R))),q7] with|some (.nx ρ3)=>_|_=>none)=_
  rw [e6']
  show(match a3g 6 (a5 (mC (.str (AJ "stay"))) (a5 (mC (.int 0)) (a5 (mC (.int 0)) c7))) [none,none,none,none,none,none,some (.ow (.dct (n4 R))),none] with|some (.val (.list []))=>_|_=>none)=_
  rw [hg5]
  rfl
 have fz:∀nn:MS,Z2 4 (Z2 2 nn) [scL ns,some (.val (.int n)),some (.val (.list (G.map tp))),q3,some (.own (E.map tp)),some (.own (G.map tp)),none,none]=nn [scL ns,some (.val (.int n)),some (.val (.list (G.map tp))),q3,some (.val (.list (E.map tp))),some (.own (G.map tp)),none,none]:=fun _=>rfl
 have fz0:∀nn:MS,Z2 2 nn [scL ns,some (.val (.int n)),some (.own (G.map tp)),q3,none,none,none,none]=nn [scL ns,some (.val (.int n)),some (.val (.list (G.map tp))),q3,none,none,none,none]:=fun _=>rfl
 have fz1:∀nn:MS,Z2 2 nn [none,some (.val (.int n)),some (.val (.list (G.map tp))),none,some (.val (.list (E.map tp))),some (.own (G.map tp)),none,none]=nn [none,some (.val (.int n)),some (.val (.list (G.map tp))),none,some (.val (.list (E.map tp))),some (.own (G.map tp)),none,none]:=fun _=>rfl
 have hrt':L4 [.int n,.list (G.map tp),.tuple [.str (AJ "stay"),.int 0,.int 0]]=some (.val (.list [])):=hrt
 have hri':v4 [.int n,.list (G.map tp),.list [],.tuple [.str (AJ "stay"),.int 0,.int 0],.int (E.length:Nat)]=some (.val (.bool true)):=hri
 unfold a8f b0W
 simp (disch:=omega) only [E7,a5J,L3,v9,l6,D0,n9,g0,J4,i3,f8,d8,d9,p7,C4,i4,j5,u9,b1p,l9,A9,g7,i5,k8,O3,o0,k0,n6,m4,r8,x8,a3h,a6t,AQ,AM,Ae,Af,Ak,BA,Ap,AW,AX,AU,Aj,↓reduceIte,AR,sz,Nat.reduceAdd,As,hc0,hx0,hn',e1,fz0,ec,fz,tail,q2',fz1,a4j,hrt',hri']
end LW
set_option maxHeartbeats 4000000
namespace LW
open PySem PySem.Spec PyProof.Rows L2 PU
def top(i:Nat):Stmt:=PySem.Challenge.pw_carpetkin_k44_rows_of_movements.main.body.getD i (.Pass ⟨0,0,0,0⟩)
abbrev S4:Stmt:=top 18
theorem a0b:j3 ["_law_way","_law_r","_law_c"] ["_law_way","_law_r","_law_c"] (d7 S4):=mkS
abbrev S3:Stmt:=top 19
theorem a0a:j3 ["_law_n","_law_movement_here","_law_place_here","_law_r","_law_c"] ["_law_n","_law_movement_here","_law_place_here"] (d7 S3):=mkS
abbrev N6:Stmt:=top 22
theorem V4:j3 ["_law_n","_law_one","_law_other","_law_place_here","_law_way","_law_r","_law_c"] ["_law_n","_law_one","_law_other"] (d7 N6):=mkS
abbrev X0:Stmt:=top 23
theorem a04:j3 ["_law_n","_law_some","_law_found","_law_waiting","_law_here","_law_movement_here","_law_there"] ["_law_n","_law_some"] (d7 X0):=mkS
abbrev X1:Stmt:=top 4
theorem a05:j3 ["way","place","lead"] ["way","place"] (d7 X1):=mkS
abbrev a88:Stmt:=top 5
theorem a9a:j3 ["side","movement","place","found"] ["side","movement","place"] (d7 a88):=mkS
abbrev X2:Stmt:=top 6
theorem a06:j3 ["one","other"] ["one","other"] (d7 X2):=mkS
abbrev a52:Stmt:=top 7
theorem a6x:j3 ["side","one","other","shove"] ["side","one","other"] (d7 a52):=mkS
abbrev a0G:Stmt:=top 9
theorem a2E:j3 ["side","few","known","waiting","at","movement","come"] ["side","few"] (d7 a0G):=mkS
abbrev a2C:Stmt:=top 10
theorem a3q:j3 ["side","movements","places","few","known","place","movement"] ["side","movements"] (d7 a2C):=mkS
abbrev T8:Stmt:=top 12
theorem N7:j3 ["n","movements","places","rows","waiting","at","place","come"] ["n","movements"] (d7 T8):=mkS
abbrev S6:Stmt:=top 17
theorem a0d:j3 ["_law_found"] ["_law_found"] (d7 S6):=mkS
abbrev S5:Stmt:=top 24
theorem a0c:j3 ["_law_n","_law_some","_law_row","_law_movement_here","_law_most","_law_here","_law_place_here"] ["_law_n","_law_some","_law_row","_law_movement_here","_law_most"] (d7 S5):=mkS
abbrev a2D:Stmt:=top 13
theorem a3r:j3 ["n","movements","movement"] ["n","movements","movement"] (d7 a2D):=mkS
abbrev S1:Stmt:=top 16
theorem Z9:j3 ["_law_cell","_law_k"] ["_law_cell","_law_k"] (d7 S1):=mkS
abbrev K4:Stmt:=top 15
theorem T0:j3 ["_law_script","_law_k"] ["_law_script","_law_k"] (d7 K4):=mkS
abbrev G4:Stmt:=top 20
theorem O5:j3 ["_law_n","_law_number","_law_way"] ["_law_n","_law_number"] (d7 G4):=mkS
abbrev a87:Stmt:=top 25
theorem a89:j3 ["_law_script","_law_n","_law_some","_law_k","_law_everything","_law_handed","_law_found","_law_movement_here"] ["_law_script"] (d7 a87):=mkS
structure Mo(K:AD)(mg:Str->Option AA):Prop where
 z_bool:mg "bool"=none
 z_dict:mg "dict"=none
 z_enumerate:mg "enumerate"=none
 z_int:mg "int"=none
 z_isinstance:mg "isinstance"=none
 z_len:mg "len"=none
 z_list:mg "list"=none
 z_range:mg "range"=none
 z_sorted:mg "sorted"=none
 nk:V3 K=true
 nl:a8D K=true
section
variable (P:AG)(w:AF)(K:AD)(mg:Str->Option AA)(base:Heap)
abbrev O9:Prop:=u6 P w K mg base "_law_plain" ["_law_way","_law_r","_law_c"] 1 q0
abbrev a0M:Prop:=u6 P w K mg base "_law_place" ["_law_n","_law_movement_here","_law_place_here"] 2 I9
abbrev M6:Prop:=u6 P w K mg base "_law_behind" ["_law_n","_law_one","_law_other"] 3 A2
abbrev a1u:Prop:=u6 P w K mg base "_law_come" ["_law_n","_law_some"] 4 M8
abbrev V7:Prop:=u6 P w K mg base "place_by" ["way","place"] 1 y7
abbrev b0V:Prop:=u6 P w K mg base "led" ["side","movement","place"] 2 a6l
abbrev a1w:Prop:=u6 P w K mg base "way_then" ["one","other"] 2 M9
abbrev a3y:Prop:=u6 P w K mg base "then" ["side","one","other"] 3 a0v
abbrev a2X:Prop:=u6 P w K mg base "made_of" ["side","few"] 4 w4
abbrev a1v:Prop:=u6 P w K mg base "needed" ["side","movements"] 5 A4
abbrev a1t:Prop:=a5w P w K mg base "rows_to" ["n","movements"] 6 y6
abbrev a0h:Prop:=u6 P w K mg base "rows_to" ["n","movements"] 6 u0
abbrev a0O:Prop:=u6 P w K mg base "_law_whole" ["_law_found"] 1 J0
abbrev a0N:Prop:=u6 P w K mg base "_law_right" ["_law_n","_law_some","_law_row","_law_movement_here","_law_most"] 4 v4
abbrev a4y:Prop:=u6 P w K mg base "row_to" ["n","movements","movement"] 7 L4
abbrev a0L:Prop:=u6 P w K mg base "_law_mixed" ["_law_cell","_law_k"] 1 z6
abbrev U2:Prop:=u6 P w K mg base "_law_cell_at" ["_law_script","_law_k"] 1 p0
abbrev O8:Prop:=u6 P w K mg base "_law_movement" ["_law_n","_law_number"] 1 A3
end
section
variable (P:AG)(w:AF){K:AD}{mg:Str->Option AA}(base:Heap)
theorem a35(D:Df K mg "_law_plain" S4):O9 P w K mg base:=by
 refine v3 (k:=0) D a0b (fun _ _ _ _ _ _=>el3 (fun _ _ _=>rfl)) fun f cdv A outer s H E hr=> ?_
 have S:=a0b
 have hu:=hr.units
 refine i0 ?_
 refine p5 ?_
 refine a6M ?_ ?_ ?_ ?_
 ·exact hu
 ·refine C2 ?_ ?_
  ·exact(k7 (a4 (a6 1 (pv 1)) (a4 (a6 2 (pv 2)) b9)))
  refine C2 ?_ ?_
  ·exact(k7 (a4 (a6 2 (pv 2)) (a4 (Q1 (a6 1 (pv 1))) b9)))
  refine C2 ?_ ?_
  ·exact(k7 (a4 (Q1 (a6 1 (pv 1))) (a4 (Q1 (a6 2 (pv 2))) b9)))
  refine C2 ?_ ?_
  ·exact(k7 (a4 (Q1 (a6 2 (pv 2))) (a4 (a6 1 (pv 1)) b9)))
  refine C2 ?_ ?_
  ·exact(k7 (a4 (a6 1 (pv 1)) (a4 (Q1 (a6 2 (pv 2))) b9)))
  refine C2 ?_ ?_
  ·exact(k7 (a4 (Q1 (a6 1 (pv 1))) (a4 (a6 2 (pv 2)) b9)))
  refine C2 ?_ ?_
  ·exact(k7 (a4 (a6 2 (pv 2)) (a4 (a6 1 (pv 1)) b9)))
  exact(C2 (k7 (a4 (Q1 (a6 2 (pv 2))) (a4 (Q1 (a6 1 (pv 1))) b9))) a9S)
 ·exact(a6 0 (pv 0))
 decide+kernel
theorem a34(D:Df K mg "_law_place" S3)(v0:O9 P w K mg base):a0M P w K mg base:=by
 refine v3 (k:=1) D a0a (fun _ _ _ _ _ _=>el3 (fun _ _ _=>rfl)) fun f cdv A outer s H E hr=> ?_
 have S:=a0a
 have hu:=hr.units
 refine c8 ?_ ?_
 ·refine a7X (is:=[3,4]) ?_ ?_ ?_
  ·exact rfl
  ·refine j0 v0 hr ?_ ?_ ?_ ?_
   ·decide
   ·exact rfl
   ·exact(a7 (a7 (a7 g8)))
   exact(a4 (j7 (a6 1 (pv 1)) b0) (a4 (j7 (a6 2 (pv 2)) b0) (a4 (j7 (a6 2 (pv 2)) b0) b9)))
  exact(M1 (q8 (i:=3) S.nd rfl (Or.inl rfl)) (M1 (q8 (i:=4) S.nd rfl (Or.inl rfl)) a4a))
 refine i0 ?_
 refine p5 ?_
 refine k7 ?_
 refine a4 ?_ ?_
 ·exact(i7 x9 (i7 w6 (a6 3 (pv 3)) (j7 (a6 1 (pv 1)) b0)) (a6 0 (pv 0)))
 exact(a4 (i7 x9 (i7 w6 (a6 4 (pv 4)) (j7 (a6 1 (pv 1)) b0)) (a6 0 (pv 0))) b9)
theorem a2S(D:Df K mg "_law_behind" N6)(v0:O9 P w K mg base)(P4:a0M P w K mg base):M6 P w K mg base:=by
 refine v3 (k:=2) D V4 (fun _ _ _ _ _ _=>el3 (fun _ _ _=>rfl)) fun f cdv A outer s H E hr=> ?_
 have S:=V4
 have hu:=hr.units
 refine c8 ?_ ?_
 ·refine j4 (i:=3) ?_ ?_
  ·exact S.nd
  refine j0 v0 hr ?_ ?_ ?_ ?_
  ·decide
  ·exact rfl
  ·exact(a7 (a7 (a7 g8)))
  exact(a4 (j7 (a6 1 (pv 1)) b0) (a4 b0 (a4 b0 b9)))
 refine c8 ?_ ?_
 ·refine j4 (i:=3) ?_ ?_
  ·exact S.nd
  refine j0 v0 hr ?_ ?_ ?_ ?_
  ·decide
  ·exact rfl
  ·exact(a7 (a7 (a7 g8)))
  exact(a4 (j7 (a6 2 (pv 2)) b0) (a4 (j7 (a6 3 (pv 3)) b0) (a4 (j7 (a6 3 (pv 3)) b0) b9)))
 refine c8 ?_ ?_
 ·refine a0n PassesOwn.never ?_ ?_ ?_ (B7 4) ?_
  ·exact rfl
  ·refine k7 ?_
   exact(a4 k6 (a4 k6 (a4 k6 (a4 k6 (a4 k6 (a4 k6 (a4 k6 (a4 k6 b9))))))))
  ·exact(q8 (i:=4) S.nd rfl (Or.inl rfl))
  refine i0 ?_
  refine U7 ?_ ?_ ?_
  ·refine K2 (a8K hu) ?_ ?_ ?_
   ·exact(j0 v0 hr (by decide) rfl (a7 (a7 (a7 g8))) (a4 (a6 4 (pv 4)) (a4 b0 (a4 b0 b9))))
   ·exact(a6 3 (pv 3))
   first|rfl|exact w8 _
  ·refine c8 ?_ ?_
   ·refine a7X (is:=[5,6]) ?_ ?_ ?_
    ·exact rfl
    ·refine j0 P4 hr ?_ ?_ ?_ ?_
     ·decide
     ·exact rfl
     ·exact(a7 (a7 (a7 g8)))
     refine a4 ?_ ?_
     ·exact(a6 0 (pv 0))
     exact(a4 (a6 2 (pv 2)) (a4 (k7 (a4 (j7 (a6 1 (pv 1)) b0) (a4 (j7 (a6 1 (pv 1)) b0) b9))) b9))
    exact(M1 (q8 (i:=5) S.nd rfl (Or.inl rfl)) (M1 (q8 (i:=6) S.nd rfl (Or.inl rfl)) a4a))
   exact(i0 (p5 (k7 (a4 (a6 4 (pv 4)) (a4 (a6 5 (pv 5)) (a4 (a6 6 (pv 6)) b9))))))
  exact K1
 exact(i0 (p5 b1t))
theorem a43(D:Df K mg "_law_come" X0)(M:Mo K mg)(A1:M6 P w K mg base):a1u P w K mg base:=by
 refine v3 (k:=3) D a04 (fun _ _ _ _ _ _=>el2 (fun _ _=>rfl)) fun f cdv A outer s H E hr=> ?_
 have S:=a04
 have hu:=hr.units
 refine c8 ?_ ?_
 ·exact(j4 (i:=2) S.nd (Y4 hu M.nk (k7 (a4 k6 (a4 b0 (a4 b0 b9)))) U6))
 refine c8 ?_ ?_
 ·exact(j4 (i:=3) S.nd (B4 (a4 (k7 (a4 k6 (a4 b0 (a4 b0 b9)))) b9)))
 refine c8 ?_ ?_
 ·refine Y6 2000 PassesOwn.never ?_ ?_
  ·exact(K2 (a38 hu) (a6 3 (pv 3)) (B4 b9) (by first|rfl|exact w8 _))
  refine c8 ?_ ?_
  ·exact(b1y 4 3 S.nd (pv 3))
  refine i0 ?_
  refine a0n PassesOwn.never ?_ ?_ ?_ (B7 5) ?_
  ·exact rfl
  ·exact(a6 1 (pv 1))
  ·exact(q8 (i:=5) S.nd rfl (Or.inl rfl))
  refine c8 ?_ ?_
  ·refine j4 (i:=6) ?_ ?_
   ·exact S.nd
   refine j0 A1 hr ?_ ?_ ?_ ?_
   ·decide
   ·exact rfl
   ·exact(a7 (a7 (a7 g8)))
   exact(a4 (a6 0 (pv 0)) (a4 (a6 4 (pv 4)) (a4 (a6 5 (pv 5)) b9)))
  refine i0 ?_
  refine U7 ?_ ?_ ?_
  ·exact(E5 2 hu M.nk (pv 2) (a6 6 (pv 6)) (by first|rfl|exact w8 _))
  ·exact(c8 (T6 2 hu M.nk (pv 2) (a6 6 (pv 6)) U6) (i0 (B5 3 (pv 3) (a6 6 (pv 6)))))
  exact K1
 exact(i0 (p5 (O2 (a4F rfl) rfl M.z_sorted (by rfl) (a6 2 (pv 2)))))
theorem a44(D:Df K mg "place_by" X1){a_LEADS:AB}(m_LEADS:mg "LEADS"=some (.ref a_LEADS))(t_LEADS:Tab P w K a_LEADS u8):V7 P w K mg base:=by
 refine v3 (k:=0) D a05 (fun _ _ _ _ _ _=>el2 (fun _ _=>rfl)) fun f cdv A outer s H E hr=> ?_
 have S:=a05
 have hu:=hr.units
 refine c8 ?_ ?_
 ·exact(j4 (i:=2) S.nd (b1w t_LEADS rfl m_LEADS (a6 0 (pv 0))))
 refine i0 ?_
 refine p5 ?_
 refine k7 ?_
 refine a4 ?_ ?_
 ·refine i7 w6 ?_ ?_
  ·exact(i7 M0 (j7 (a6 2 (pv 2)) b0) (j7 (a6 1 (pv 1)) b0))
  exact(i7 M0 (j7 (a6 2 (pv 2)) b0) (j7 (a6 1 (pv 1)) b0))
 refine a4 ?_ ?_
 ·refine i7 w6 ?_ ?_
  ·exact(i7 M0 (j7 (a6 2 (pv 2)) b0) (j7 (a6 1 (pv 1)) b0))
  exact(i7 M0 (j7 (a6 2 (pv 2)) b0) (j7 (a6 1 (pv 1)) b0))
 exact b9
theorem b15(D:Df K mg "led" a88)(B3:V7 P w K mg base):b0V P w K mg base:=by
 refine v3 (k:=1) D a9a (fun _ _ _ _ _ _=>el3 (fun _ _ _=>rfl)) fun f cdv A outer s H E hr=> ?_
 have S:=a9a
 have hu:=hr.units
 refine c8 ?_ ?_
 ·refine j4 (i:=3) ?_ ?_
  ·exact S.nd
  exact(j0 B3 hr (by decide) rfl (a7 (a7 g8)) (a4 (j7 (a6 1 (pv 1)) b0) (a4 (a6 2 (pv 2)) b9)))
 refine i0 ?_
 refine p5 ?_
 refine k7 ?_
 refine a4 ?_ ?_
 ·exact(i7 x9 (i7 w6 (j7 (a6 3 (pv 3)) b0) (j7 (a6 1 (pv 1)) b0)) (a6 0 (pv 0)))
 exact(a4 (i7 x9 (i7 w6 (j7 (a6 3 (pv 3)) b0) (j7 (a6 1 (pv 1)) b0)) (a6 0 (pv 0))) b9)
theorem a45(D:Df K mg "way_then" X2){u_TELLING:AA}{n_TELLING:Nat}(m_TELLING:mg "TELLING"=some u_TELLING)(c_TELLING:U0 K n_TELLING u_TELLING=some T9){a_TOLD:AB}(m_TOLD:mg "TOLD"=some (.ref a_TOLD))(t_TOLD:a9D P w K a_TOLD X3)(B3:V7 P w K mg base):a1w P w K mg base:=by
 refine v3 (k:=1) D a06 (fun _ _ _ _ _ _=>el2 (fun _ _=>rfl)) fun f cdv A outer s H E hr=> ?_
 have S:=a06
 have hu:=hr.units
 refine i0 ?_
 refine p5 ?_
 refine a9Q (b27 hr) t_TOLD ?_ m_TOLD ?_
 ·exact rfl
 refine j0 B3 hr ?_ ?_ ?_ ?_
 ·decide
 ·exact rfl
 ·exact(a7 (a7 g8))
 refine a4 ?_ ?_
 ·exact(a6 1 (pv 1))
 refine a4 ?_ ?_
 ·exact(j0 B3 hr (by decide) rfl (a7 (a7 g8)) (a4 (a6 0 (pv 0)) (a4 (a9P rfl m_TELLING c_TELLING) b9)))
 exact b9
theorem b0m(D:Df K mg "then" a52)(a7K:b0V P w K mg base)(W1:a1w P w K mg base):a3y P w K mg base:=by
 refine v3 (k:=2) D a6x (fun _ _ _ _ _ _=>el3 (fun _ _ _=>rfl)) fun f cdv A outer s H E hr=> ?_
 have S:=a6x
 have hu:=hr.units
 refine c8 ?_ ?_
 ·refine j4 (i:=3) ?_ ?_
  ·exact S.nd
  refine j0 a7K hr ?_ ?_ ?_ ?_
  ·decide
  ·exact rfl
  ·exact(a7 (a7 (a7 g8)))
  refine a4 ?_ ?_
  ·exact(a6 0 (pv 0))
  exact(a4 (a6 2 (pv 2)) (a4 (k7 (a4 (j7 (a6 1 (pv 1)) b0) (a4 (j7 (a6 1 (pv 1)) b0) b9))) b9))
 refine i0 ?_
 refine p5 ?_
 refine k7 ?_
 refine a4 ?_ ?_
 ·refine j0 W1 hr ?_ ?_ ?_ ?_
  ·decide
  ·exact rfl
  ·exact(a7 (a7 g8))
  exact(a4 (j7 (a6 1 (pv 1)) b0) (a4 (j7 (a6 2 (pv 2)) b0) b9))
 exact(a4 (j7 (a6 3 (pv 3)) b0) (a4 (j7 (a6 3 (pv 3)) b0) b9))
theorem a5V(D:Df K mg "made_of" a0G)(M:Mo K mg)(W0:a3y P w K mg base):a2X P w K mg base:=by
 refine v3 (k:=3) D a2E (fun _ _ _ _ _ _=>el2 (fun _ _=>rfl)) fun f cdv A outer s H E hr=> ?_
 have S:=a2E
 have hu:=hr.units
 refine c8 ?_ ?_
 ·exact(j4 (i:=2) S.nd (Y4 hu M.nk (k7 (a4 k6 (a4 b0 (a4 b0 b9)))) U6))
 refine c8 ?_ ?_
 ·exact(j4 (i:=3) S.nd (B4 (a4 (k7 (a4 k6 (a4 b0 (a4 b0 b9)))) b9)))
 refine c8 ?_ ?_
 ·exact(j4 (i:=4) S.nd b0)
 refine c8 ?_ ?_
 ·refine Y6 1000 PassesOwn.never ?_ ?_
  ·exact(K2 Z7 (a6 4 (pv 4)) (O2 J9 rfl M.z_len (by rfl) (a6 3 (pv 3))) (by first|rfl|exact w8 _))
  refine c8 ?_ ?_
  ·refine a0n PassesOwn.never ?_ ?_ ?_ (B7 5) ?_
   ·exact rfl
   ·exact(a6 1 (pv 1))
   ·exact(q8 (i:=5) S.nd rfl (Or.inl rfl))
   refine c8 ?_ ?_
   ·refine j4 (i:=6) ?_ ?_
    ·exact S.nd
    refine j0 W0 hr ?_ ?_ ?_ ?_
    ·decide
    ·exact rfl
    ·exact(a7 (a7 (a7 g8)))
    exact(a4 (a6 0 (pv 0)) (a4 (j7 (a6 3 (pv 3)) (a6 4 (pv 4))) (a4 (a6 5 (pv 5)) b9)))
   refine i0 ?_
   refine U7 ?_ ?_ ?_
   ·exact(E5 2 hu M.nk (pv 2) (a6 6 (pv 6)) (by first|rfl|exact w8 _))
   ·exact(c8 (T6 2 hu M.nk (pv 2) (a6 6 (pv 6)) U6) (i0 (B5 3 (pv 3) (a6 6 (pv 6)))))
   exact K1
  exact(i0 (a5G (i:=4) S.nd b0 a2n))
 exact(i0 (a1e 2 (pv 2)))
theorem a7b(D:Df K mg "needed" a2C)(M:Mo K mg)(T4:a2X P w K mg base):a1v P w K mg base:=by
 refine v3 (k:=4) D a3q (fun _ _ _ _ _ _=>el2 (fun _ _=>rfl)) fun f cdv A outer s H E hr=> ?_
 have S:=a3q
 have hu:=hr.units
 refine c8 ?_ ?_
 ·exact(j4 (i:=2) S.nd (B4 b9))
 refine c8 ?_ ?_
 ·exact(j4 (i:=3) S.nd (B4 b9))
 refine c8 ?_ ?_
 ·exact(j4 (i:=4) S.nd (a6f 3 T4 hr (by decide) rfl (a6 0 (pv 0)) (pv 3)))
 refine c8 ?_ ?_
 ·refine a9W PassesOwn.never ?_ ?_ M.z_enumerate ?_ ?_ (a9l [5,6]) ?_
  ·exact rfl
  ·exact rfl
  ·exact(a4 (a6 1 (pv 1)) b9)
  ·exact(a8U rfl (M1 (q8 (i:=5) S.nd rfl (Or.inl rfl)) (M1 (q8 (i:=6) S.nd rfl (Or.inl rfl)) a4a)))
  refine i0 ?_
  refine U7 ?_ ?_ ?_
  ·exact(E5 4 hu M.nk (pv 4) (a6 6 (pv 6)) (by first|rfl|exact w8 _))
  ·refine c8 ?_ ?_
   ·exact(B5 2 (pv 2) (a6 5 (pv 5)))
   exact(c8 (B5 3 (pv 3) (a6 6 (pv 6))) (i0 (j4 (i:=4) S.nd (a6f 3 T4 hr (by decide) rfl (a6 0 (pv 0)) (pv 3)))))
  exact K1
 exact(i0 (a1e 2 (pv 2)))
theorem a5W(D:Df K mg "rows_to" T8)(M:Mo K mg)(P6:a1v P w K mg base)(W0:a3y P w K mg base):a0h P w K mg base:=by
 refine v3 (k:=5) D N7 (fun _ _ _ _ _ _=>el2 (fun _ _=>rfl)) fun f cdv A outer s H E hr=> ?_
 have S:=N7
 have hu:=hr.units
 refine c8 ?_ ?_
 ·refine j4 (i:=2) ?_ ?_
  ·exact S.nd
  exact(j0 P6 hr (by decide) rfl (a7 (a7 g8)) (a4 (a6 0 (pv 0)) (a4 (a6 1 (pv 1)) b9)))
 refine c8 ?_ ?_
 ·exact(j4 (i:=3) S.nd (Y4 hu M.nk (k7 (a4 k6 (a4 b0 (a4 b0 b9)))) (B4 b9)))
 refine c8 ?_ ?_
 ·exact(j4 (i:=4) S.nd (B4 (a4 (k7 (a4 k6 (a4 b0 (a4 b0 b9)))) b9)))
 refine c8 ?_ ?_
 ·exact(j4 (i:=5) S.nd b0)
 refine c8 ?_ ?_
 ·refine Y6 1000 PassesOwn.never ?_ ?_
  ·exact(K2 Z7 (a6 5 (pv 5)) (O2 J9 rfl M.z_len (by rfl) (a6 4 (pv 4))) (by first|rfl|exact w8 _))
  refine c8 ?_ ?_
  ·refine a3J 2 ?_
   refine a0n PassesOwn.never ?_ ?_ ?_ (B7 6) ?_
   ·exact rfl
   ·exact(a6 2 (pv 2))
   ·exact(q8 (i:=6) S.nd rfl (Or.inl rfl))
   refine c8 ?_ ?_
   ·refine j4 (i:=7) ?_ ?_
    ·exact S.nd
    refine j0 W0 hr ?_ ?_ ?_ ?_
    ·decide
    ·exact rfl
    ·exact(a7 (a7 (a7 g8)))
    exact(a4 (a6 0 (pv 0)) (a4 (j7 (a6 4 (pv 4)) (a6 5 (pv 5))) (a4 (j7 (a6 1 (pv 1)) (a6 6 (pv 6))) b9)))
   refine i0 ?_
   refine U7 ?_ ?_ ?_
   ·exact(E5 3 hu M.nk (pv 3) (a6 7 (pv 7)) (by first|rfl|exact w8 _))
   ·refine c8 ?_ ?_
    ·refine T6 3 ?_ M.nk (pv 3) ?_ ?_
     ·exact hu
     ·exact(a6 7 (pv 7))
     exact(i7 (a46 M.nl) (a0m 3 hu M.nk (pv 3) (j7 (a6 4 (pv 4)) (a6 5 (pv 5)))) (B4 (a4 (a6 6 (pv 6)) b9)))
    exact(i0 (B5 4 (pv 4) (a6 7 (pv 7))))
   exact K1
  exact(i0 (a5G (i:=5) S.nd b0 a2n))
 exact(i0 (a1e 3 (pv 3)))
theorem a42(D:Df K mg "rows_to" T8)(M:Mo K mg)(P6:a1v P w K mg base)(W0:a3y P w K mg base):a1t P w K mg base:=by
 refine a9Y (k:=5) D N7 (fun _ _ _ _ _ _=>el2 (fun _ _=>rfl)) fun f cdv A outer s H E hr=> ?_
 have S:=N7
 have hu:=hr.units
 exact(b21 S.nd (j0 P6 hr (by decide) rfl (a7 (a7 g8)) (a4 (a6 0 (pv 0)) (a4 (a6 1 (pv 1)) b9))) (c8 (j4 (i:=3) S.nd (Y4 hu M.nk (k7 (a4 k6 (a4 b0 (a4 b0 b9)))) (B4 b9))) (c8 (j4 (i:=4) S.nd (B4 (a4 (k7 (a4 k6 (a4 b0 (a4 b0 b9)))) b9))) (c8 (j4 (i:=5) S.nd b0) (c8 (Y6 1000 PassesOwn.never (K2 Z7 (a6 5 (pv 5)) (O2 J9 rfl M.z_len (by rfl) (a6 4 (pv 4))) (by first|rfl|exact w8 _)) (c8 (a3J 2 (a0n PassesOwn.never rfl (a6 2 (pv 2)) (q8 (i:=6) S.nd rfl (Or.inl rfl)) (B7 6) (c8 (j4 (i:=7) S.nd (j0 W0 hr (by decide) rfl (a7 (a7 (a7 g8))) (a4 (a6 0 (pv 0)) (a4 (j7 (a6 4 (pv 4)) (a6 5 (pv 5))) (a4 (j7 (a6 1 (pv 1)) (a6 6 (pv 6))) b9))))) (i0 (U7 (E5 3 hu M.nk (pv 3) (a6 7 (pv 7)) (by first|rfl|exact w8 _)) (c8 (T6 3 hu M.nk (pv 3) (a6 7 (pv 7)) (i7 (a46 M.nl) (a0m 3 hu M.nk (pv 3) (j7 (a6 4 (pv 4)) (a6 5 (pv 5)))) (B4 (a4 (a6 6 (pv 6)) b9)))) (i0 (B5 4 (pv 4) (a6 7 (pv 7))))) K1))))) (i0 (a5G (i:=5) S.nd b0 a2n)))) (i0 (a1e 3 (pv 3))))))))
theorem a37(D:Df K mg "_law_whole" S6)(M:Mo K mg):a0O P w K mg base:=by
 refine v3 (k:=0) D a0d (fun _ _ _ _ _ _=>el1 (fun _=>rfl)) fun f cdv A outer s H E hr=> ?_
 have S:=a0d
 have hu:=hr.units
 refine i0 ?_
 refine p5 ?_
 refine b1r ?_ ?_
 ·exact(a3G (.inl rfl) rfl M.z_isinstance (a6 0 (pv 0)) (a1m rfl M.z_int (by rfl) rfl))
 exact(b1v (b1u (a3G (.inr (.inl rfl)) rfl M.z_isinstance (a6 0 (pv 0)) (a1m rfl M.z_bool (by rfl) rfl))))
theorem a36(D:Df K mg "_law_right" S5)(M:Mo K mg)(A1:M6 P w K mg base)(P5:a0O P w K mg base):a0N P w K mg base:=by
 refine v3 (k:=3) D a0c (fun _ _ _ _ _ _=>el5 (fun _ _ _ _ _=>rfl)) fun f cdv A outer s H E hr=> ?_
 have S:=a0c
 have hu:=hr.units
 refine c8 ?_ ?_
 ·refine U7 (PW.pt (a6h (a0o (a1K (a3G (.inr (.inr (.inr (.inl rfl)))) rfl M.z_isinstance (a6 2 (pv 2)) (a1m rfl M.z_list (by rfl) rfl)))) (a5H (K2 b2d (O2 J9 rfl M.z_len (by rfl) (a6 2 (pv 2))) (a6 4 (pv 4)) (by first|rfl|exact w8 _))))) ?_ ?_
  ·exact(i0 (p5 U6))
  exact K1
 refine c8 ?_ ?_
 ·exact(j4 (i:=5) S.nd (k7 (a4 k6 (a4 b0 (a4 b0 b9)))))
 refine c8 ?_ ?_
 ·refine a0n PassesOwn.never ?_ ?_ ?_ (B7 6) ?_
  ·exact rfl
  ·exact(a6 2 (pv 2))
  ·exact(q8 (i:=6) S.nd rfl (Or.inl rfl))
  refine c8 ?_ ?_
  ·refine U7 (PW.pt (a6h (a0o (a1K (j0 P5 hr (by decide) rfl (a7 g8) (a4 (a6 6 (pv 6)) b9)))) (a5H (a0o (a7Y b0q Z7 b0 (a6 6 (pv 6)) (O2 J9 rfl M.z_len (by rfl) (a6 1 (pv 1)))))))) ?_ ?_
   ·exact(i0 (p5 U6))
   exact K1
  refine i0 ?_
  refine j4 (i:=5) ?_ ?_
  ·exact S.nd
  refine j0 A1 hr ?_ ?_ ?_ ?_
  ·decide
  ·exact rfl
  ·exact(a7 (a7 (a7 g8)))
  exact(a4 (a6 0 (pv 0)) (a4 (a6 5 (pv 5)) (a4 (j7 (a6 1 (pv 1)) (a6 6 (pv 6))) b9)))
 exact(i0 (p5 (b1s (a8K hu) (a6 5 (pv 5)) (a6 3 (pv 3)) (by first|rfl|exact w8 _))))
theorem a7c(D:Df K mg "row_to" a2D)(M:Mo K mg)(E1:a0h P w K mg base):a4y P w K mg base:=by
 refine v3 (k:=6) D a3r (fun _ _ _ _ _ _=>el3 (fun _ _ _=>rfl)) fun f cdv A outer s H E hr=> ?_
 have S:=a3r
 have hu:=hr.units
 refine i0 ?_
 refine p5 ?_
 refine a7R ?_ M.nk ?_ ?_
 ·exact hu
 ·exact(j0 E1 hr (by decide) rfl (a7 (a7 g8)) (a4 (a6 0 (pv 0)) (a4 (a6 1 (pv 1)) b9)))
 exact(a6 2 (pv 2))
theorem a33(D:Df K mg "_law_mixed" S1):a0L P w K mg base:=by
 refine v3 (k:=0) D Z9 (fun _ _ _ _ _ _=>el2 (fun _ _=>rfl)) fun f cdv A outer s H E hr=> ?_
 have S:=Z9
 have hu:=hr.units
 refine i0 ?_
 refine p5 ?_
 refine i7 x9 ?_ ?_
 ·refine i7 M0 ?_ ?_
  ·exact(i7 w6 (i7 w6 (i7 x9 (a6 0 (pv 0)) b0) (i7 M0 (a6 1 (pv 1)) (a6 1 (pv 1)))) b0)
  exact b0
 exact b0
theorem a2m(D:Df K mg "_law_cell_at" K4)(M:Mo K mg):U2 P w K mg base:=by
 refine v3 (k:=0) D T0 (fun _ _ _ _ _ _=>el2 (fun _ _=>rfl)) fun f cdv A outer s H E hr=> ?_
 have S:=T0
 have hu:=hr.units
 refine c8 ?_ ?_
 ·refine U7 ?_ ?_ ?_
  ·exact(K2 Z7 (a6 1 (pv 1)) (O2 J9 rfl M.z_len (by rfl) (a6 0 (pv 0))) (by first|rfl|exact w8 _))
  ·exact(i0 (p5 (j7 (a6 0 (pv 0)) (a6 1 (pv 1)))))
  exact K1
 exact(i0 (p5 b0))
theorem a1b(D:Df K mg "_law_movement" G4):O8 P w K mg base:=by
 refine v3 (k:=0) D O5 (fun _ _ _ _ _ _=>el2 (fun _ _=>rfl)) fun f cdv A outer s H E hr=> ?_
 have S:=O5
 have hu:=hr.units
 refine c8 ?_ ?_
 ·refine j4 (i:=2) ?_ ?_
  ·exact S.nd
  refine j7 ?_ ?_
  ·refine B4 ?_
   exact(a4 k6 (a4 k6 (a4 k6 (a4 k6 (a4 k6 (a4 k6 (a4 k6 (a4 k6 b9))))))))
  exact(i7 x9 (a6 1 (pv 1)) b0)
 refine i0 ?_
 refine p5 ?_
 refine k7 ?_
 refine a4 ?_ ?_
 ·exact(a6 2 (pv 2))
 refine a4 ?_ ?_
 ·exact(i7 x9 (i7 a47 (a6 1 (pv 1)) b0) (a6 0 (pv 0)))
 exact(a4 (i7 x9 (i7 a47 (a6 1 (pv 1)) b0) (a6 0 (pv 0))) b9)
theorem b14{f:AB}{fd:FuncData}(F:Fun K "law" "law" a87 f fd)(M:Mo K mg)(V9:a1u P w K mg base)(E1:a0h P w K mg base)(C0:a0N P w K mg base)(Y3:a4y P w K mg base)(B9:a0L P w K mg base)(t6:U2 P w K mg base)(E4:O8 P w K mg base)(a5C:a1t P w K mg base):E2 P w K mg base CX0 8 f fd ["_law_script"] (spP K 1 a8f):=by
 refine b01 (k:=7) F a89 fun cdv A outer s H E hr=> ?_
 have S:=a89
 have hu:=hr.units
 refine c8 ?_ ?_
 ·refine j4 (i:=1) ?_ ?_
  ·exact S.nd
  refine i7 w6 ?_ ?_
  ·exact b0
  refine i7 x9 ?_ ?_
  ·refine j0 B9 hr ?_ ?_ ?_ ?_
   ·decide
   ·exact rfl
   ·exact(a7 (a7 g8))
   refine a4 ?_ ?_
   ·exact(j0 t6 hr (by decide) rfl (a7 (a7 g8)) (a4 (a6 0 (pv 0)) (a4 b0 b9)))
   exact(a4 b0 b9)
  exact b0
 refine c8 ?_ ?_
 ·exact(j4 (i:=2) S.nd (B4 b9))
 refine c8 ?_ ?_
 ·refine a7V PassesOwn.never ?_ ?_ M.z_range ?_ ?_ (B7 3) ?_
  ·exact rfl
  ·exact rfl
  ·refine a4 ?_ ?_
   ·exact(i7 x9 (j0 t6 hr (by decide) rfl (a7 (a7 g8)) (a4 (a6 0 (pv 0)) (a4 b0 b9))) b0)
   exact b9
  ·exact(q8 (i:=3) S.nd rfl (Or.inl rfl))
  refine i0 ?_
  refine B5 2 (pv 2) ?_
  refine j0 E4 hr ?_ ?_ ?_ ?_
  ·decide
  ·exact rfl
  ·exact(a7 (a7 g8))
  refine a4 ?_ ?_
  ·exact(a6 1 (pv 1))
  refine a4 ?_ ?_
  ·refine j0 B9 hr ?_ ?_ ?_ ?_
   ·decide
   ·exact rfl
   ·exact(a7 (a7 g8))
   refine a4 ?_ ?_
   ·refine j0 t6 hr ?_ ?_ ?_ ?_
    ·decide
    ·exact rfl
    ·exact(a7 (a7 g8))
    exact(a4 (a6 0 (pv 0)) (a4 (i7 w6 b0 (a6 3 (pv 3))) b9))
   exact(a4 (i7 w6 b0 (a6 3 (pv 3))) b9)
  exact b9
 refine c8 ?_ ?_
 ·refine a3J 2 ?_
  refine j4 (i:=4) ?_ ?_
  ·exact S.nd
  exact(j0 V9 hr (by decide) rfl (a7 (a7 g8)) (a4 (a6 1 (pv 1)) (a4 (a6 2 (pv 2)) b9)))
 refine c8 ?_ (a6g 4 (a6g 2 (a7W (x:=6) (iH:=5) (A:=[1]) (C:=[1,2,4,5]) (I:=[3,7]) S.nd M.nl rfl rfl rfl rfl (j0 E1 hr (by decide) rfl (a7 (a7 g8)) (a4 (a6 1 (pv 1)) (a4 (a6 5 (pv 5)) b9))) (a9N 5 a5C hr (by decide) rfl (a6 1 (pv 1)) (pv 5)) (fun Φ hS=>(a5F hS (PW.pt (a6h (a0o (a1K (a3G (.inr (.inr (.inr (.inr (.inr rfl))))) rfl M.z_isinstance (a6 6 (pv 6)) (a1m rfl M.z_dict (by rfl) rfl)))) (a6h (K2 (a38 hu) (O2 (a4F rfl) rfl M.z_sorted (by rfl) (a6 6 (pv 6))) (a6 4 (pv 4)) (by first|rfl|exact w8 _)) (a5H (K2 (a38 hu) (a6 5 (pv 5)) (a6 2 (pv 2)) (by first|rfl|exact w8 _)))))) (Y5 (a3I U6)) a3H)) (fun Φ hS=>(a9V hS (i:=7) (by decide) PassesOwn.never rfl (a6 4 (pv 4)) (q8 (i:=7) S.nd rfl (Or.inl rfl)) (Y5 (a5F hS (a0o (a1K (j0 C0 hr (by decide) rfl (a7 (a7 (a7 (a7 (a7 g8))))) (a4 (a6 1 (pv 1)) (a4 (a6 2 (pv 2)) (a4 (a0m 6 hu M.nk (pv 6) (a6 7 (pv 7))) (a4 (a6 7 (pv 7)) (a4 (O2 J9 rfl M.z_len (by rfl) (a6 4 (pv 4))) b9)))))))) (Y5 (a3I U6)) a3H)))) (fun Φ hS=>(a6O hS (i:=3) (by decide) PassesOwn.never rfl rfl M.z_range (a4 b0 b9) (q8 (i:=3) S.nd rfl (Or.inl rfl)) (a7U (a9U hS (i:=7) (by decide) S.nd (j7 (a6 4 (pv 4)) (i7 x9 (j0 B9 hr (by decide) rfl (a7 (a7 g8)) (a4 (j0 t6 hr (by decide) rfl (a7 (a7 g8)) (a4 (a6 0 (pv 0)) (a4 (i7 w6 b0 (a6 3 (pv 3))) b9))) (a4 (i7 w6 b0 (a6 3 (pv 3))) b9))) (O2 J9 rfl M.z_len (by rfl) (a6 4 (pv 4)))))) (Y5 (a5F hS (a0o (a1K (j0 C0 hr (by decide) rfl (a7 (a7 (a7 (a7 (a7 g8))))) (a4 (a6 1 (pv 1)) (a4 (a6 2 (pv 2)) (a4 (j0 Y3 hr (by decide) rfl (a7 (a7 (a7 g8))) (a4 (a6 1 (pv 1)) (a4 (a6 5 (pv 5)) (a4 (a6 7 (pv 7)) b9)))) (a4 (a6 7 (pv 7)) (a4 (O2 J9 rfl M.z_len (by rfl) (a6 4 (pv 4))) b9)))))))) (Y5 (a3I U6)) a3H))))) (a9O 6 hu (pv 6) (a4 k6 (a4 b0 (a4 b0 b9)))) b0 (c8 (U7 (K2 (a38 hu) (a6 5 (pv 5)) (a6 2 (pv 2)) (by first|rfl|exact w8 _)) (i0 (p5 U6)) K1) (i0 (a3J 2 (p5 (j0 C0 hr (by decide) rfl (a7 (a7 (a7 (a7 (a7 g8))))) (a4 (a6 1 (pv 1)) (a4 (a6 2 (pv 2)) (a4 (j0 Y3 hr (by decide) rfl (a7 (a7 (a7 g8))) (a4 (a6 1 (pv 1)) (a4 (a6 2 (pv 2)) (a4 (k7 (a4 k6 (a4 b0 (a4 b0 b9)))) b9)))) (a4 (k7 (a4 k6 (a4 b0 (a4 b0 b9)))) (a4 (O2 J9 rfl M.z_len (by rfl) (a6 4 (pv 4))) b9)))))))))))))
 exact(j4 (i:=5) S.nd (b20 (a7J rfl) rfl M.z_list (by rfl) (a6 2 (pv 2))))
end
theorem b1o{l:PySem.W.OpenLaw}{w:AF}{K:AD}{h:Heap}{mg:Str->Option AA}{fa:AB}(X:K.In h)(G:h.Ns mainGlobals mg)(hfa:mg "law"=some (.ref fa))
 {aa_LEADS:AB}
 {uu_TELLING:AA}
 {aa_TOLD:AB}
 (v0:Df0 K "_law_plain" S4)
 (P4:Df0 K "_law_place" S3)
 (A1:Df0 K "_law_behind" N6)
 (V9:Df0 K "_law_come" X0)
 (B3:Df0 K "place_by" X1)
 (a7K:Df0 K "led" a88)
 (W1:Df0 K "way_then" X2)
 (W0:Df0 K "then" a52)
 (T4:Df0 K "made_of" a0G)
 (P6:Df0 K "needed" a2C)
 (E1:Df0 K "rows_to" T8)
 (P5:Df0 K "_law_whole" S6)
 (C0:Df0 K "_law_right" S5)
 (Y3:Df0 K "row_to" a2D)
 (B9:Df0 K "_law_mixed" S1)
 (t6:Df0 K "_law_cell_at" K4)
 (E4:Df0 K "_law_movement" G4)
 (b2W:Df0 K "law" a87)
 (nk:V3 K=true)
 (nl:a8D K=true)
 (z_bool:PySem.W.nsIn K mainGlobals "bool"=some none)
 (z_dict:PySem.W.nsIn K mainGlobals "dict"=some none)
 (z_enumerate:PySem.W.nsIn K mainGlobals "enumerate"=some none)
 (z_int:PySem.W.nsIn K mainGlobals "int"=some none)
 (z_isinstance:PySem.W.nsIn K mainGlobals "isinstance"=some none)
 (z_len:PySem.W.nsIn K mainGlobals "len"=some none)
 (z_list:PySem.W.nsIn K mainGlobals "list"=some none)
 (z_range:PySem.W.nsIn K mainGlobals "range"=some none)
 (z_sorted:PySem.W.nsIn K mainGlobals "sorted"=some none)
 (e_LEADS:PySem.W.nsIn K mainGlobals "LEADS"=some (some (.ref aa_LEADS)))
 (t_LEADS:b2B K 9 aa_LEADS=some u8) (h_LEADS:T7 K aa_LEADS=u8.map (fun kv=>a6Y w kv.1))
 (e_TELLING:PySem.W.nsIn K mainGlobals "TELLING"=some (some uu_TELLING)) (q_TELLING:U0 K 40 uu_TELLING=some T9)
 (e_TOLD:PySem.W.nsIn K mainGlobals "TOLD"=some (some (.ref aa_TOLD)))
 (t_TOLD:a9k K 9 aa_TOLD=some X3) (h_TOLD:T7 K aa_TOLD=X3.map (fun kv=>(tupleKind (g9 l.prog w)).hash kv.1))
 :∃fd:FuncData,(∀(s:AC) (v:AA),BindsTo s fd ⟨[v],[]⟩ [("_law_script",v)])/\∀base:Heap,K.In base->base.Ns mainGlobals mg->E2 l.prog w K mg base CX0 8 fa fd ["_law_script"] (a5i K):=by
 have M:Mo K mg:=⟨PySem.W.mg_none_of X G z_bool,PySem.W.mg_none_of X G z_dict,PySem.W.mg_none_of X G z_enumerate,PySem.W.mg_none_of X G z_int,PySem.W.mg_none_of X G z_isinstance,PySem.W.mg_none_of X G z_len,PySem.W.mg_none_of X G z_list,PySem.W.mg_none_of X G z_range,PySem.W.mg_none_of X G z_sorted,nk,nl⟩
 have mm_LEADS:=PySem.W.mg_of X G e_LEADS
 have tt_LEADS:Tab l.prog w K aa_LEADS u8:=b2D 9 t_LEADS h_LEADS (by decide+kernel)
 have mm_TELLING:=PySem.W.mg_of X G e_TELLING
 have mm_TOLD:=PySem.W.mg_of X G e_TOLD
 have tt_TOLD:a9D l.prog w K aa_TOLD X3:=b0M 9 t_TOLD h_TOLD (by decide+kernel)
 refine b0b (b2W.to X G) hfa (fun _ _ _ _ _ _ _=>rfl) main fun base f fd kb F=> ?_
 have a0J:=a35 l.prog w base (v0.to X G)
 have a4q:=a34 l.prog w base (P4.to X G) a0J
 have X7:=a2S l.prog w base (A1.to X G) a0J a4q
 have a5t:=a43 l.prog w base (V9.to X G) M X7
 have a1s:=a44 l.prog w base (B3.to X G) mm_LEADS tt_LEADS
 have b2T:=b15 l.prog w base (a7K.to X G) a1s
 have a5v:=a45 l.prog w base (W1.to X G) mm_TELLING q_TELLING mm_TOLD tt_TOLD a1s
 have a5u:=b0m l.prog w base (W0.to X G) b2T a5v
 have a6D:=a5V l.prog w base (T4.to X G) M a5u
 have a4t:=a7b l.prog w base (P6.to X G) M a6D
 have a5r:=a42 l.prog w base (E1.to X G) M a4t a5u
 have a2V:=a5W l.prog w base (E1.to X G) M a4t a5u
 have a4s:=a37 l.prog w base (P5.to X G) M
 have a4r:=a36 l.prog w base (C0.to X G) M X7 a4s
 have a7u:=a7c l.prog w base (Y3.to X G) M a2V
 have a4p:=a33 l.prog w base (B9.to X G)
 have a2L:=a2m l.prog w base (t6.to X G) M
 have a1r:=a1b l.prog w base (E4.to X G)
 exact b14 l.prog w base F M a5t a2V a4r a7u a4p a2L a1r a5r
end LW
namespace PySem.W.Fast
def tw8635994302030839671:=()
def tw14602810163136703062:=()
def tw11424778779663509278:=()
def tw2646198344558704690:=()
def tw11305379167656058816:=()
def tw14984164708088946501:=()
def tw10801659234720029207:=()
def tw8681984422591265251:=()
def tw8543992449472460311:=()
def tw10717259758440389627:=()
def tw13014199960657187390:=()
end PySem.W.Fast
open PySem PySem.W PyProof.Rows
set_option maxRecDepth 100000 in
set_option maxHeartbeats 0 in
theorem PySem.Challenge.cw_carpetkin_k44_rows_of_movements_holds : PySem.Challenge.rw_carpetkin_k44_rows_of_movements.Holds := by
 w_on;o_law;k_head;(case hw=>w_witness2)
 k_fill
 refine PU.b38 (k:=8) (x:="_law_script") (l:=PySem.Challenge.rw_carpetkin_k44_rows_of_movements) (by decide) rfl rfl (fun w h Y=>PySem.W.kIn_of Y) ?F
 case F=>
  intro w mg fa h KX G hmg
  refine' LW.b1o KX G hmg ?_ ?_ ?_ ?_ ?_ ?_ ?_ ?_ ?_ ?_ ?_ ?_ ?_ ?_ ?_ ?_ ?_ ?_ ?_ ?_ ?_ ?_ ?_ ?_ ?_ ?_ ?_ ?_ ?_ ?_ ?_ ?_ ?_ ?_ ?_ ?_ ?_
  all_goals first|(apply PU.b2Y<;>k_is)|k_is|kernel_rfl|skip
