import PyProof.Rows.All
import Wide.All
import OpenK.AllK
import Wide.FinOn
import Lean
import PyProof.EqAt
import PyProof.EqKinds
import PyProof.TupleCall
import PyProof.Rows.SortPure
import PyProof.Rows.SortWalk
import PyProof.AttrMissHeap
import KE.KDictOf
import KE.KIntText
import PyProof.StrBlockH
import PyProof.CallStr
import PyProof.StrLawsIn
import PyProof.StrLawsOcc
import PyProof.StationsW
import PyProof.ExcClass2
import PyProof.ExcBaseAll.ValueError
import PyProof.RulesTry
import PyProof.Rows.CatchBare
import PyProof.Rows.CatchOwn
import OpenK.KOwn
import PyProof.NsDelKeeps
import PyProof.Rows.RuleDivmod
import PyProof.Rows.SumAny
import PySem.Challenge.RW_carpetkin_k91_mended
set_option Elab.async false
set_option linter.all false
set_option maxRecDepth 100000
noncomputable section
open PySem renaming Value -> AA
open PySem renaming Addr -> AB
open PySem renaming Shared -> AC
open PySem.W renaming Frag -> AD
open PySem renaming wpAny_bind -> AE
open PySem renaming Expr -> AF
open PySem renaming wpAny -> AG
open Option renaming bind_some -> AH
open PySem renaming World -> AI
open PySem renaming wpAny_pure -> AJ
open List renaming map_cons -> AK
open PySem renaming sizeLine -> AL
open Nat renaming le_refl -> AM
open PySem renaming Program -> AN
open List renaming length_map -> AO
open List renaming range -> AQ
open PySem renaming Around -> AR
open PySem.Str renaming ofString -> AS
open PySem renaming starEach -> AT
open List renaming length_cons -> AU
open List renaming mem_cons -> AV
open List renaming replicate -> AW
open List renaming mem_cons_self -> AX
open PySem.Heap renaming get?_push_of_some -> AY
open List renaming mem_map -> AZ
open List renaming set_cons_zero -> Aa
open List renaming set_cons_succ -> Ab
open List renaming mem_cons_of_mem -> Ac
open PySem.Heap renaming lt_size -> Ad
open List renaming map_nil -> Ae
open List renaming replicate_zero -> Af
open List renaming replicate_succ -> Ag
open List renaming nil_append -> Ah
open List renaming length_append -> Ai
open Nat renaming ne_of_lt -> Aj
open List renaming getElem?_map -> Ak
open List renaming cons_append -> Al
open List renaming getElem?_eq_some_iff -> Am
open PySem.Heap renaming get?_push_size -> An
open List renaming size_toArray -> Ao
open List renaming length_nil -> Ap
open List renaming append_nil -> Aq
open List renaming mem_append -> Ar
open List renaming map_map -> As
open Bool renaming false_ne_true -> At
open Nat renaming reduceLeDiff -> Au
open Bool renaming false_eq_true -> Av
open List renaming getElem?_eq_getElem -> Aw
open List renaming length_range -> Ax
open List renaming mem_append_left -> Ay
open List renaming mem_append_right -> Az
open List renaming getElem?_append_left -> BA
open Nat renaming lt_of_lt_of_le -> BB
open List renaming map_append -> BC
open List renaming mem_of_getElem? -> BD
open Option renaming map_some -> BE
open Nat renaming le_of_lt -> BF
open List renaming getElem?_set_self -> BG
open Int renaming toNat_natCast -> BH
namespace L2
open PySem PySem.Spec PyProof.Rows
abbrev g0:=Sum Int Str
def a3I:g0->AA->Bool
 | .inl k,v=>Value.isInt k v
 | .inr x,v=>Value.isStrOf x v
def b3z(w:AI):g0->Int
 | .inl k=>hashInt k
 | .inr x=>hashStr w x
theorem v7:∀{k:g0} {v:AA},a3I k v=true->(∃i t,k=Sum.inl i/\v=Value.int i t)\/(∃x t,k=Sum.inr x/\v=Value.str x t)
 | .inl i,v,h=>by
   obtain⟨t,e⟩:=Value.isInt_shape (k:=i) (v:=v) h
   exact .inl ⟨i,t,rfl,e⟩
 | .inr x,v,h=>by
   obtain⟨t,e⟩:=Value.isStrOf_shape (x:=x) (v:=v) h
   exact .inr ⟨x,t,rfl,e⟩
theorem b3A(i:Int)(t:Tok):a3I (.inl i) (.int i t)=true:=by simp [a3I,Value.isInt]
theorem b3B(x:Str)(t:Tok):a3I (.inr x) (.str x t)=true:=by simp [a3I,Value.isStrOf]
theorem b5w(a b:Int):decide ((Sum.inl a:g0)=Sum.inl b)=(a==b):=by
 by_cases e:a=b
 ·subst e;simp
 ·have h:¬(Sum.inl a:g0)=Sum.inl b:=fun q=>e (Sum.inl.inj q)
  rw [decide_eq_false h]
  exact(beq_eq_false_iff_ne.mpr e).symm
theorem b5x(a b:Str):decide ((Sum.inr a:g0)=Sum.inr b)=decide (a=b):=by
 by_cases e:a=b
 ·subst e;simp
 ·have h:¬(Sum.inr a:g0)=Sum.inr b:=fun q=>e (Sum.inr.inj q)
  rw [decide_eq_false h,decide_eq_false e]
theorem b9G(a:Int)(b:Str):decide ((Sum.inl a:g0)=Sum.inr b)=false:=decide_eq_false (fun q=>nomatch q)
theorem b9H(a:Str)(b:Int):decide ((Sum.inr a:g0)=Sum.inl b)=false:=decide_eq_false (fun q=>nomatch q)
def l7(prog:AN)(w:AI):PySem.KeyKind prog w g0 where
 is:=a3I
 hash:=b3z w
 inj:=fun v a b ha hb=>by
  rcases v7 ha with⟨i,t,rfl,rfl⟩|⟨x,t,rfl,rfl⟩
  ·rcases v7 hb with⟨j,u,rfl,e⟩|⟨y,u,rfl,e⟩
   ·injection e with e1 _;rw [e1]
   ·exact nomatch e
  ·rcases v7 hb with⟨j,u,rfl,e⟩|⟨y,u,rfl,e⟩
   ·exact nomatch e
   ·injection e with e1 _;rw [e1]
 byValue:=fun k v h=>by
   rcases v7 h with⟨i,t,rfl,rfl⟩|⟨x,t,rfl,rfl⟩<;>rfl
 pyHash:=fun hv h=>by
  rcases v7 hv with⟨i,t,rfl,rfl⟩|⟨x,t,rfl,rfl⟩
  ·exact wpAny_pyHash_int h
  ·exact wpAny_pyHash_str h
 eqBool:=fun hu hv h=>by
  rcases v7 hu with⟨i,t,rfl,rfl⟩|⟨x,t,rfl,rfl⟩
  ·rcases v7 hv with⟨j,u,rfl,rfl⟩|⟨y,u,rfl,rfl⟩
   ·rw [b5w] at h;exact wpAny_eqBool_int h
   ·rw [b9G] at h;exact SeqAt.EqAt.int_str i t y u _ _ _ _ h
  ·rcases v7 hv with⟨j,u,rfl,rfl⟩|⟨y,u,rfl,rfl⟩
   ·rw [b9H] at h;exact SeqAt.EqAt.str_int x t j u _ _ _ _ h
   ·rw [b5x] at h;exact wpAny_eqBool_str h
 «strs»:=fun k x t v h=>by
  rcases v7 h with⟨i,u,rfl,e⟩|⟨y,u,rfl,e⟩
  ·exact nomatch e
  ·injection e with e1 _
   subst e1
   cases v<;>rfl
theorem a5d(prog:AN)(w:AI)(i:Int)(t:Tok):(l7 prog w).is (.inl i) (.int i t)=true:=b3A i t
theorem R8(prog:AN)(w:AI)(x:Str)(t:Tok):(l7 prog w).is (.inr x) (.str x t)=true:=b3B x t
inductive V where
 |non|bl (b:Bool)|int (i:Int)|str (x:Str)|byt (b:Array UInt8)|flt (b:UInt64)|ref (a:AB)|ty (n:String)
 deriving DecidableEq
def m3:V->AA->Prop
 | .non,u=>u=Value.none
 | .bl b,u=>u=Value.bool b
 | .int i,u=>∃t,u=Value.int i t
 | .str x,u=>∃t,u=Value.str x t
 | .byt b,u=>∃t,u=Value.bytes b t
 | .flt b,u=>∃t,u=Value.float b t
 | .ref a,u=>u=Value.ref a
 | .ty n,u=>u=Value.type n
abbrev j9:List V->List AA->Prop:=Paired m3
theorem j9.length{xs:List V}{us:List AA}(r:j9 xs us):xs.length=us.length:=Paired.length r
theorem j9.get:∀{xs:List V} {us:List AA} {i:Nat} {x:V},j9 xs us->xs[i]?=some x->∃u,us[i]?=some u/\m3 x u
 |_,_,_,_,.nil,e=>by simp at e
 |_,_,0,_,.cons r _,e=>by simp at e;subst e;exact⟨_,rfl,r⟩
 |_,_,i+1,x,.cons _ t,e=>by
  obtain⟨u,h1,h2⟩:=j9.get (i:=i) (x:=x) t (by simpa using e)
  exact⟨u,by simpa using h1,h2⟩
theorem j9.set{x:V}{u:AA}(r:m3 x u):∀{xs:List V} {us:List AA} (i:Nat),j9 xs us->j9 (xs.set i x) (us.set i u)
 |_,_,_,.nil=> .nil
 |_,_,0,.cons _ t=> .cons r t
 |_,_,i+1,.cons q t=> .cons q (j9.set r i t)
theorem j9.append:∀{xs ys:List V} {us ws:List AA},j9 xs us->j9 ys ws->j9 (xs++ys) (us++ws)
 |_,_,_,_,.nil,s=>s
 |_,_,_,_,.cons r t,s=> .cons r (j9.append t s)
theorem j9.take:∀{xs:List V} {us:List AA} (n:Nat),j9 xs us->j9 (xs.take n) (us.take n)
 |_,_,0,_=> .nil
 |_,_,_+1,.nil=> .nil
 |_,_,n+1,.cons r t=> .cons r (j9.take n t)
theorem j9.drop:∀{xs:List V} {us:List AA} (n:Nat),j9 xs us->j9 (xs.drop n) (us.drop n)
 |_,_,0,r=>r
 |_,_,_+1,.nil=> .nil
 |_,_,n+1,.cons _ t=>j9.drop n t
theorem j9.none_of:∀{xs:List V} {us:List AA} {i:Nat},j9 xs us->xs[i]?=none->us[i]?=none:=fun {xs us i} r e=>by
 have h1:=r.length
 have h2:xs.length<=i:=List.getElem?_eq_none_iff.mp e
 exact List.getElem?_eq_none_iff.mpr (by lia)
def a3n:Option V->Option AA->Prop
 |some v,some u=>m3 v u
 |none,none=>True
 |_,_=>False
def KV{κ:Type}:List (κ×V)->List (κ×AA)->Prop:=Paired fun(p:κ×V) (q:κ×AA)=>p.1=q.1/\m3 p.2 q.2
def kV:g0->V
 | .inl i=> .int i
 | .inr x=> .str x
inductive HO where
 |lst (xs:List V)
 |tup (xs:List V)
 |dK (kvs:List (g0×V))|dT (kvs:List (List g0×V))
 |set (S:Int->Bool) (n:Nat)
 |ins (C dx:AB) (fs:List (Str×V))
 |own (x:AB)
 |xd (fs:List (Str×V))
 |met (f x:AB)
 |rng (lo hi:Int)
 |frz (o:Obj) (u:HO)
 |tbl (ps:Array AA)
 |ext (φ:Heap->Prop)
abbrev Hp:=AB->Option HO
def upd(H:Hp)(a:AB)(o:HO):Hp:=fun b=>if b=a then some o else H b
theorem g5{H:Hp}{a:AB}{o:HO}:upd H a o a=some o:=by unfold upd;rw [if_pos rfl]
theorem d8{H:Hp}{a b:AB}{o:HO}(h:b≠a):upd H a o b=H b:=by unfold upd;rw [if_neg h]
theorem b20{H:Hp}{a:AB}{o u:HO}:upd (upd H a o) a u=upd H a u:=by
 funext b;unfold upd;split<;>rfl
theorem E8{H:Hp}{a b:AB}{o u:HO}(h:H a=some o)(h':H b=some u)(d:o≠u):a≠b:=by
 intro e;subst e;rw [h] at h';exact d (Option.some.inj h')
theorem j7{H:Hp}{a b:AB}{o:HO}(h:H a=some o)(h':H b=none):a≠b:=by
 intro e;subst e;rw [h] at h';cases h'
section
variable (P:AN)(w:AI)
def y4(H:Hp)(h:Heap)(a:AB):HO->Prop
 | .lst xs=>xs.length<=AL/\∃(its:List AA) (n:Nat),j9 xs its/\h.get? a=some {cls:= .type "list",data:= .seq its.toArray n}
 | .tup xs=>xs.length<=AL/\∃its:List AA,j9 xs its/\IsTup h a its.toArray
 | .dK kvs=>kvs.length<=AL/\(a==sysModules)=false/\∃vs,KV kvs vs/\h.DictOf (l7 P w) a vs
 | .dT kvs=>kvs.length<=AL/\(a==sysModules)=false/\∃xs:List (List g0×AB×AA),
  Paired (fun(p:List g0×V) (q:List g0×AB×AA)=>p.1=q.1/\H q.2.1=some (.tup (p.1.map kV))/\m3 p.2 q.2.2) kvs xs/\
  ∃o es ep,h.get? a=some o/\o.ExactDict/\o.data= .dict es ep/\es.toList=xs.map (entryOfKey (tupleKind (l7 P w)))/\(xs.map (·.1)).Nodup
 | .set S n=>h.SetOf (intKind P w) a S n
 | .ins C dx fs=>H dx=some (.own a)/\fs.length<=1000/\dx≠a/\h.get? a=some (PySem.W.instObj C dx)/\
  ∃mA,h.Ns1 dx mA/\(∀f,a3n (fs.lookup f) (mA f))/\PySem.Within mA (fs.map (·.1))
 | .own _=>∃o,h.get? a=some o
 | .xd fs=>∃mA,h.Ns1 a mA/\∀f,a3n (fs.lookup f) (mA f)
 | .rng lo hi=>∃t u v,h.get? a=some {cls:= .type "range",data:= .fields #[.int lo t,.int hi u,.int 1 v]}
 | .frz o u=>h.get? a=some o/\y4 H h a u
 | .tbl ps=>h.get? a=some {cls:= .none,data:= .fields ps}
 | .met f x=>h.get? a=some (PySem.W.methodObj (.ref f) (.ref x))
 | .ext φ=>φ h/\(∃o,h.get? a=some o)/\∀h1 h2:Heap,φ h1->(∀o,h1.get? a=some o->h2.get? a=some o)->φ h2
def HOk(H:Hp)(h:Heap):Prop:=∀a o,H a=some o->y4 P w H h a o
end
section
variable {P:AN}{w:AI}{H H':Hp}{h h':Heap}{a:AB}{o:HO}
theorem y4.lt(x:y4 P w H h a o):a<h.objs.size:=by
 cases o with
 |lst xs=>obtain⟨_,_,_,_,e⟩:=x;exact Ad e
 |tup xs=>obtain⟨_,_,_,p⟩:=x;exact p.lt
 |dK kvs=>obtain⟨_,_,_,_,o,_,_,e,_⟩:=x;exact Ad e
 |dT kvs=>obtain⟨_,_,_,_,o,_,_,e,_⟩:=x;exact Ad e
 |set S n=>obtain⟨o,_,_,_,e,_⟩:=x;exact Ad e
 |ins C dx fs=>obtain⟨_,_,_,e,_⟩:=x;exact Ad e
 |own y=>obtain⟨_,e⟩:=x;exact Ad e
 |xd fs=>obtain⟨_,⟨_,_,_,e,_⟩,_⟩:=x;exact Ad e
 |rng lo hi=>obtain⟨_,_,_,e⟩:=x;exact Ad e
 |frz ob u=>obtain⟨e,_⟩:=x;exact Ad e
 |tbl ps=>exact Ad (show h.get? a=some _ from x)
 |met f y=>exact Ad (show h.get? a=some _ from x)
 |ext φ=>obtain⟨_,⟨_,e⟩,_⟩:=x;exact Ad e
theorem Paired.mapP{α β:Type}{F G:α->β->Prop}:∀{l₁:List α} {l₂:List β},Paired F l₁ l₂->(∀a b,F a b->G a b)->Paired G l₁ l₂
 |_,_,.nil,_=> .nil
 |_,_,.cons r t,f=> .cons (f _ _ r) (Paired.mapP t f)
theorem y4.stay(x:y4 P w H h a o)(k:∀b u,(b=a\/H b=some (.own a))->h.get? b=some u->h'.get? b=some u)
 (ho:∀b,H b=some (.own a)->H' b=some (.own a)) (ht:∀b xs,H b=some (.tup xs)->H' b=some (.tup xs)):y4 P w H' h' a o:=by
 induction o with
 |lst xs=>obtain⟨z,its,n,r,e⟩:=x;exact⟨z,its,n,r,k _ _ (.inl rfl) e⟩
 |tup xs=>obtain⟨z,its,r,ob,e,c⟩:=x;exact⟨z,its,r,ob,k _ _ (.inl rfl) e,c⟩
 |dK kvs=>obtain⟨z,y,vs,r,ob,es,ep,e,c⟩:=x;exact⟨z,y,vs,r,ob,es,ep,k _ _ (.inl rfl) e,c⟩
 |dT kvs=>
  obtain⟨z,y,xs,r,ob,es,ep,e,c⟩:=x
  exact⟨z,y,xs,Paired.mapP r fun p q z=>⟨z.1,ht _ _ z.2.1,z.2.2⟩,ob,es,ep,k _ _ (.inl rfl) e,c⟩
 |set S n=>obtain⟨ob,es,ep,t,e,c⟩:=x;exact⟨ob,es,ep,t,k _ _ (.inl rfl) e,c⟩
 |ins C dx fs=>
  obtain⟨d,z,ne,e,mA,⟨od,es,ep,e2,c⟩,r⟩:=x
  exact⟨ho _ d,z,ne,k _ _ (.inl rfl) e,mA,⟨od,es,ep,k _ _ (.inr d) e2,c⟩,r⟩
 |own y=>obtain⟨ob,e⟩:=x;exact⟨ob,k _ _ (.inl rfl) e⟩
 |xd fs=>obtain⟨mA,⟨od,es,ep,e,c⟩,r⟩:=x;exact⟨mA,⟨od,es,ep,k _ _ (.inl rfl) e,c⟩,r⟩
 |rng lo hi=>obtain⟨t,u,v,e⟩:=x;exact⟨t,u,v,k _ _ (.inl rfl) e⟩
 |frz ob u ih=>obtain⟨e,q⟩:=x;exact⟨k _ _ (.inl rfl) e,ih q⟩
 |tbl ps=>
  have e:h.get? a=some {cls:= .none,data:= .fields ps}:=x
  show h'.get? a=some {cls:= .none,data:= .fields ps}
  exact k a _ (.inl rfl) e
 |met f y=>
  have e:h.get? a=some (PySem.W.methodObj (.ref f) (.ref y)):=x
  show h'.get? a=some (PySem.W.methodObj (.ref f) (.ref y))
  exact k a _ (.inl rfl) e
 |ext φ=>obtain⟨p,⟨o,e⟩,st⟩:=x;exact⟨st _ _ p fun o q=>k _ _ (.inl rfl) q,⟨o,k _ _ (.inl rfl) e⟩,st⟩
theorem HOk.lt(x:HOk P w H h)(e:H a=some o):a<h.objs.size:=(x a o e).lt
theorem HOk.fresh(x:HOk P w H h)(e:h.objs.size<=a):H a=none:=by
 cases q:H a with
 |none=>rfl
 |some u=>exact absurd (BB (x.lt q) e) (Nat.lt_irrefl _)
theorem HOk.kept(x:HOk P w H h)(k:∀b u,h.get? b=some u->h'.get? b=some u):HOk P w H h':=fun a o e=>
 (x a o e).stay (fun b u _ q=>k b u q) (fun _ q=>q) fun _ _ q=>q
theorem HOk.laid(x:HOk P w H h)(k:∀b u,h.get? b=some u->h'.get? b=some u)(hp:h.objs.size<=a)(new:y4 P w (upd H a o) h' a o):HOk P w (upd H a o) h':=fun b u e=>by
 have hn:=x.fresh hp
 by_cases hb:b=a
 ·subst hb;rw [g5] at e;cases e;exact new
 ·rw [d8 hb] at e
  exact(x b u e).stay (fun c v _ q=>k c v q) (fun c q=>by rw [d8 (j7 q hn)];exact q) fun c xs q=>by rw [d8 (j7 q hn)];exact q
end
def Rd(H:Hp)(a:AB)(u:HO):Prop:=H a=some u\/∃o,H a=some (.frz o u)
theorem Rd.of{H:Hp}{a:AB}{u:HO}(h:H a=some u):Rd H a u:= .inl h
theorem Rd.ok{P:AN}{w:AI}{H:Hp}{h:Heap}{a:AB}{u:HO}(r:Rd H a u)(x:HOk P w H h):y4 P w H h a u:=by
 rcases r with r|⟨o,r⟩
 ·exact x a u r
 ·obtain⟨_,q⟩:=x a _ r
  exact q
def Mut:Option HO->Prop
 |some (.lst _)=>True
 |some (.dK _)=>True
 |some (.dT _)=>True
 |some (.set _ _)=>True
 |some (.ins _ _ _)=>True
 |some (.ext _)=>True
 |_=>False
section
variable {P:AN}{w:AI}{H:Hp}{h h':Heap}{x e:AB}{o':HO}
theorem HOk.write(ok:HOk P w H h)(mu:Mut (H x))(he:e=x\/H e=some (.own x))(k:∀b u,b≠e->h.get? b=some u->h'.get? b=some u)(heo:∃u,h'.get? e=some u)
 (new:y4 P w (upd H x o') h' x o'):HOk P w (upd H x o') h':=fun b u q=>by
 have nown:∀c y,H c=some (.own y)->c≠x:=fun c y r z=>by subst z;rw [r] at mu;exact mu
 have ntup:∀c xs,H c=some (.tup xs)->c≠x:=fun c xs r z=>by subst z;rw [r] at mu;exact mu
 by_cases hb:b=x
 ·subst hb;rw [g5] at q;cases q;exact new
 ·rw [d8 hb] at q
  by_cases hbe:b=e
  ·have q':H b=some (.own x):=by
    rcases he with z|z
    ·exact absurd (hbe.trans z) hb
    ·rw [hbe];exact z
   rw [q] at q';cases q'
   obtain⟨v,hv⟩:=heo
   exact⟨v,by rw [hbe];exact hv⟩
  ·refine(ok b u q).stay (fun c v hc r=>k c v ?_ r) (fun c r=>by rw [d8 (nown c b r)];exact r) fun c xs r=>by rw [d8 (ntup c xs r)];exact r
   rcases hc with rfl|hc
   ·exact hbe
   ·rintro rfl
    rcases he with z|z
    ·exact nown c b hc z
    ·rw [hc] at z;cases z;exact hb rfl
end
structure Un(fs ex:List AB)(H H':Hp)(h h':Heap):Prop where
 keep:∀b o,h.get? b=some o->H b=none->b∉fs->b∉ex->h'.get? b=some o
 slot:∀b o,h.get? b=some o->H b=none->b∈fs->b∉ex->∃sl,h'.get? b=some {o with slots:=sl}
 free:∀b o,h.get? b=some o->H b=none->b∉ex->H' b=none
 there:∀b o,h.get? b=some o->b∉ex->∃o',h'.get? b=some o'
 tups:∀b xs,H b=some (.tup xs)->H' b=some (.tup xs)
 frzs:∀b o u,H b=some (.frz o u)->H' b=some (.frz o u)
 tbls:∀b ps,H b=some (.tbl ps)->∃more,H' b=some (.tbl (ps++more))
section
variable {fs fs' ex ex':List AB}{H H1 H2:Hp}{h h1 h2 h':Heap}{a x e:AB}{o:HO}
theorem Un.any(u:Un fs ex H H1 h h1){b:AB}{ob:Obj}(q:h.get? b=some ob)(n:H b=none)(hx:b∉ex):∃sl,h1.get? b=some {ob with slots:=sl}:=by
 by_cases hb:b∈fs
 ·exact u.slot b ob q n hb hx
 ·exact⟨ob.slots,u.keep b ob q n hb hx⟩
theorem Un.trans(a:Un fs ex H H1 h h1)(b:Un fs ex H1 H2 h1 h2):Un fs ex H H2 h h2 where
 keep:=fun c ob q n hc hx=>b.keep c ob (a.keep c ob q n hc hx) (a.free c ob q n hx) hc hx
 slot:=fun c ob q n hc hx=>by
  obtain⟨sl,e1⟩:=a.slot c ob q n hc hx
  obtain⟨sl',e2⟩:=b.slot c _ e1 (a.free c ob q n hx) hc hx
  exact⟨sl',e2⟩
 free:=fun c ob q n hx=>by
  obtain⟨o',e1⟩:=a.there c ob q hx
  exact b.free c o' e1 (a.free c ob q n hx) hx
 there:=fun c ob q hx=>by
  obtain⟨o',e1⟩:=a.there c ob q hx
  exact b.there c o' e1 hx
 tups:=fun c xs q=>b.tups c xs (a.tups c xs q)
 frzs:=fun c ob xs q=>b.frzs c ob xs (a.frzs c ob xs q)
 tbls:=fun c ps q=>by
  obtain⟨m1,e1⟩:=a.tbls c ps q
  obtain⟨m2,e2⟩:=b.tbls c _ e1
  exact⟨m1++m2,by rw [e2,Array.append_assoc]⟩
theorem Un.kept(k:∀b u,h.get? b=some u->h'.get? b=some u):Un fs ex H H h h':=
 ⟨fun b ob q _ _ _=>k b ob q,fun b ob q _ _ _=>⟨ob.slots,k b ob q⟩,fun _ _ _ n _=>n,fun b ob q _=>⟨ob,k b ob q⟩,fun _ _ q=>q,fun _ _ _ q=>q,fun _ ps q=>⟨#[],by rw [q];simp⟩⟩
theorem Un.refl:Un fs ex H H h h:=Un.kept fun _ _ q=>q
theorem Un.laid(k:∀b u,h.get? b=some u->h'.get? b=some u)(hp:h.objs.size<=a)(hn:H a=none):Un fs ex H (upd H a o) h h' where
 keep:=fun b u q _ _ _=>k b u q
 slot:=fun b u q _ _ _=>⟨u.slots,k b u q⟩
 free:=fun b u q n _=>by rw [d8 (Aj (BB (Ad q) hp))];exact n
 there:=fun b u q _=>⟨u,k b u q⟩
 tups:=fun b xs q=>by rw [d8 (j7 q hn)];exact q
 frzs:=fun b u xs q=>by rw [d8 (j7 q hn)];exact q
 tbls:=fun b ps q=>⟨#[],by rw [d8 (j7 q hn),q];simp⟩
theorem Un.write(mu:Mut (H x))(he:e=x\/H e=some (.own x))(k:∀b u,b≠e->h.get? b=some u->h'.get? b=some u)(heo:∃u,h'.get? e=some u):Un fs ex H (upd H x o) h h':=by
 have hx:∀b,H b=none->b≠x:=fun b n z=>by subst z;rw [n] at mu;exact mu
 have hb:∀b,H b=none->b≠e:=fun b n z=>by
  subst z
  rcases he with r|r
  ·exact hx b n r
  ·rw [n] at r;cases r
 have hm:∀b u,H b=some u->¬Mut (some u)->b≠x:=fun b u q nm z=>by subst z;rw [q] at mu;exact nm mu
 refine⟨fun b u q n _ _=>k b u (hb b n) q,fun b u q n _ _=>⟨u.slots,k b u (hb b n) q⟩,fun b u q n _=>by rw [d8 (hx b n)];exact n,fun b u q _=> ?_,
  fun b xs q=>by rw [d8 (hm b _ q fun z=>z)];exact q,fun b u xs q=>by rw [d8 (hm b _ q fun z=>z)];exact q,fun b ps q=>⟨#[],by rw [d8 (hm b _ q fun z=>z),q];simp⟩⟩
 by_cases hbe:b=e
 ·subst hbe;exact heo
 ·exact⟨u,k b u hbe q⟩
theorem Un.mono(u:Un fs ex H H1 h h1)(hs:∀b∈fs,b∈fs')(hx:∀b∈ex,b∈ex'):Un fs' ex' H H1 h h1:=
 ⟨fun b ob q n hb he=>u.keep b ob q n (fun z=>hb (hs b z)) fun z=>he (hx b z),fun _ _ q n _ he=>u.any q n fun z=>he (hx _ z),fun b ob q n he=>u.free b ob q n fun z=>he (hx b z),fun b ob q he=>u.there b ob q fun z=>he (hx b z),u.tups,u.frzs,u.tbls⟩
end
def trk(h:Heap)(H:Hp):List AB:=(AQ h.objs.size).filter fun a=>(H a).isSome
def a9g(h:Heap)(H:Hp):Heap:=PySem.W.hideAll h (trk h H)
theorem b3t(h:Heap)(H:Hp):(a9g h H).objs.size=h.objs.size:=PySem.W.hideAll_size _ _
theorem b5n{h:Heap}{H:Hp}{b:AB}{o:Obj}(e:h.get? b=some o)(n:H b=none):(a9g h H).get? b=some o:=
 PySem.W.hideAll_get _ e fun hm=>by
  have q:(H b).isSome=true:=(List.mem_filter.mp hm).2
  rw [n] at q;simp at q
theorem b7W{h:Heap}{H:Hp}{b:AB}{o:Obj}(e:(a9g h H).get? b=some o):h.get? b=some o/\H b=none:=by
 have e':h.get? b=some o:=PySem.W.of_hideAll (trk h H) e
 refine⟨e', ?_⟩
 cases q:H b with
 |none=>rfl
 |some x=>
  have hm:b∈trk h H:=List.mem_filter.mpr ⟨List.mem_range.mpr (Ad e'),by simp [q]⟩
  have z:(a9g h H).get? b=none:=PySem.W.hideAll_none (trk h H) hm
  rw [z] at e;cases e
def b63(g h:Heap)(L:AB):List (AB×Obj):=(AQ h.objs.size).filterMap fun a=>if a=L\/(g.get? a).isSome=true then none else(h.get? a).map fun o=>(a,o)
def B7(g h:Heap)(L d:AB):List (AB×Obj):=(b63 g h L).filter fun p=>decide (p.1≠d)
structure Mod(K:AD)(mg:Str->Option AA)(base:Heap):Prop where
 kin:K.In base
 glob:base.Ns mainGlobals mg
 blt:∃mb,base.Ns builtinsNs mb/\∀x:Str,x≠"__name__"->mb x=bootBuiltins x
 nolimit:base.NoLimit
structure Cx where
 prog:AN
 w:AI
 K:AD
 mg:Str->Option AA
 base:Heap
 A:AR
 N:List Str
 s₀:AC
 H₀:Hp
 env:Env
 outer:List Env
 stack:List Env
 ex:List AB
 fn:Str->Bool
 calm:Bool
 pn:List (AB×Obj)
 xe:AA->AC->Prop
def frs(l:List Env):List AB:=l.filterMap (·.frame)
abbrev Cx.fs(X:Cx):List AB:=frs X.outer
def Vis(sc:Scope)(x:Str):Prop:=sc.names.lookup x=some .local\/sc.names.lookup x=some .cell\/sc.names.lookup x=some .free
def Loc(sc:Scope)(x:Str):Prop:=sc.names.lookup x=some .local\/sc.names.lookup x=some .cell
def c1K(env:Env)(h:Heap)(m:Str->Option AA)(x:Str)(u:AA):Prop:=
 (env.kindOf x=some .local/\m x=some u)\/((env.kindOf x=some .cell\/env.kindOf x=some .free)/\∃c,env.cells.lookup x=some c/\h.IsCell c (some u))
structure Cx.Ok(X:Cx):Prop where
 mod:Mod X.K X.mg X.base
 kind:X.env.scope.kind= .function
 glob:X.env.globals=mainGlobals
 blt:X.env.builtins=builtinsNs
 above:X.s₀.heap.objs.size<=X.env.locals
 inj:∀x y c,X.env.cells.lookup x=some c->X.env.cells.lookup y=some c->x=y
 has:∀x,(X.env.kindOf x=some .cell\/X.env.kindOf x=some .free)->∃c,X.env.cells.lookup x=some c
 cab:∀x c,X.fn x=true->X.env.cells.lookup x=some c->X.s₀.heap.objs.size<=c
 hd:X.calm=true->X.A.handled=none
 frames:X.A.frames=some X.stack
 stk:X.stack=X.outer\/(X.stack=X.env::X.outer/\X.env.frame=some X.env.locals)
 exf:∀b∈X.ex,b≠X.env.locals/\∀x c,X.env.cells.lookup x=some c->c≠b
 bs:∀b o,X.base.get? b=some o->X.s₀.heap.get? b=some o/\X.H₀ b=none
 bsz:X.base.objs.size<=X.s₀.heap.objs.size
 noex:∀b o,X.base.get? b=some o->b∉X.ex
 exfs:∀b∈X.ex,b∉X.fs
 funs:X.s₀.heap.FunFrames X.base X.outer
 frf:∀b∈X.fs,X.H₀ b=none
structure g9(X:Cx)(pins:List (AB×Obj))(σ:List (Option V))(H:Hp)(s:AC):Prop where
 ok:X.Ok
 os:s.os=X.s₀.os
 bare:AllBare s.gens
 base:Un X.fs X.ex X.H₀ H X.s₀.heap s.heap
 loc:∃m,s.heap.Ns X.env.locals m/\∀(i:Nat) (x:Str) (v:V),X.N[i]?=some x->σ[i]?=some (some v)->Vis X.env.scope x->∃u,m3 v u/\c1K X.env s.heap m x u
 cell:∀x c,X.env.cells.lookup x=some c->∃v,s.heap.IsCell c v
 free:H X.env.locals=none
 freeC:∀x c,X.env.cells.lookup x=some c->H c=none
 pin:∀p∈X.pn++pins,s.heap.get? p.1=some p.2/\H p.1=none/\p.1≠X.env.locals/\p.1∉X.fs/\∀v,p.2.data≠.cell v
 hok:HOk X.prog X.w H s.heap
 len:σ.length=X.N.length
section
variable {X:Cx}{pins:List (AB×Obj)}{σ:List (Option V)}{H H':Hp}{s:AC}{h':Heap}
theorem Cx.Ok.nofr(ok:X.Ok){b:AB}{o:Obj}(e:X.base.get? b=some o):b∉X.fs:=fun hb=>by
 have:=(ok.funs.mem hb).1
 rw [e] at this;cases this
theorem g9.bs(I:g9 X pins σ H s):∀b o,X.base.get? b=some o->s.heap.get? b=some o/\H b=none:=fun b o e=>
 ⟨I.base.keep b o (I.ok.bs b o e).1 (I.ok.bs b o e).2 (I.ok.nofr e) (I.ok.noex b o e),I.base.free b o (I.ok.bs b o e).1 (I.ok.bs b o e).2 (I.ok.noex b o e)⟩
theorem g9.bk(I:g9 X pins σ H s):∀b o,X.base.get? b=some o->s.heap.get? b=some o:=fun b o e=>(I.bs b o e).1
theorem g9.mod(I:g9 X pins σ H s):Mod X.K X.mg X.base:=I.ok.mod
theorem g9.kIn(I:g9 X pins σ H s):X.K.In s.heap:=I.ok.mod.kin.keeps I.bk
theorem g9.nolimit(I:g9 X pins σ H s):s.heap.NoLimit:=I.ok.mod.nolimit.keeps I.bk
theorem g9.fr(I:g9 X pins σ H s):∃m,Fr X.base X.env.locals s.heap m:=
 let ⟨m,hn,_⟩:=I.loc
 ⟨m,hn,I.bk,Nat.le_trans I.ok.bsz I.ok.above⟩
theorem g9.lt(I:g9 X pins σ H s):X.env.locals<s.heap.objs.size:=let ⟨_,hn,_⟩:=I.loc;hn.lt
theorem g9.sz(I:g9 X pins σ H s):X.s₀.heap.objs.size<=s.heap.objs.size:=Nat.le_trans I.ok.above (BF I.lt)
theorem g9.nofs(I:g9 X pins σ H s){a:AB}(h:s.heap.objs.size<=a):a∉X.fs:=fun hb=>by
 obtain⟨_,o,ho,_⟩:=I.ok.funs.mem hb
 exact absurd (BB (Ad ho) (Nat.le_trans I.sz h)) (Nat.lt_irrefl _)
theorem g9.cne(I:g9 X pins σ H s):∀x c,X.env.cells.lookup x=some c->c≠X.env.locals:=fun x c e z=>by
 obtain⟨v,o,ho,hd⟩:=I.cell x c e
 obtain⟨m,⟨o',es,ep,ho',hd',_⟩,_⟩:=I.loc
 rw [z,ho'] at ho;cases ho;rw [hd'] at hd;cases hd
theorem g9.funs(I:g9 X pins σ H s):s.heap.FunFrames X.base X.outer:=by
 have all:∀(l:List Env),(∀b∈frs l,b∈X.fs)->X.s₀.heap.FunFrames X.base l->s.heap.FunFrames X.base l:=by
  intro l
  induction l with
  |nil=>intro _ _;trivial
  |cons env r ih=>
   intro hs hl
   obtain⟨hk,⟨L,o,hf,hn,ho,hd⟩,hr⟩:=hl
   have hL:L∈X.fs:=hs L (by unfold frs;rw [List.filterMap_cons,hf];exact AX)
   obtain⟨sl,e⟩:=I.base.slot L o ho (I.ok.frf L hL) hL fun z=>I.ok.exfs L z hL
   exact⟨hk,⟨L,_,hf,hn,e,hd⟩,ih (fun b hb=>hs b (by unfold frs;rw [List.filterMap_cons,hf];exact Ac _ hb)) hr⟩
 exact all X.outer (fun _ hb=>hb) I.ok.funs
theorem g9.stack(I:g9 X pins σ H s):s.heap.FunFrames X.base X.stack:=by
 rcases I.ok.stk with e|⟨e,hf⟩
 ·rw [e];exact I.funs
 ·rw [e]
  obtain⟨m,hn,_⟩:=I.loc
  refine .cons (by rw [I.ok.kind];decide) hf hn ?_ I.funs
  exact Heap.get?_none_of_le (Nat.le_trans I.ok.bsz I.ok.above)
theorem g9.stkSub(I:g9 X pins σ H s):∀b∈frs X.stack,b∈X.env.locals::X.fs:=fun b hb=>by
 rcases I.ok.stk with e|⟨e,hf⟩
 ·rw [e] at hb;exact Ac _ hb
 ·rw [e] at hb
  unfold frs at hb
  rw [List.filterMap_cons,hf] at hb
  exact hb
theorem g9.stkFree(I:g9 X pins σ H s):∀b∈frs X.stack,H b=none:=fun b hb=>by
 rcases AV.mp (I.stkSub b hb) with e|hb
 ·rw [e];exact I.free
 ·obtain⟨_,o,ho,_⟩:=I.ok.funs.mem hb
  exact I.base.free b o ho (I.ok.frf b hb) fun z=>I.ok.exfs b z hb
theorem g9.step{g':Array GenState}{t':Nat}{d':Drawn}{ch:List AB}(I:g9 X pins σ H s)
 (hch:∀b∈ch,(b∈X.ex\/X.s₀.heap.objs.size<=b)/\b≠X.env.locals/\(∀x c,X.env.cells.lookup x=some c->c≠b)/\∀p∈X.pn++pins,p.1≠b)
 (keep:∀b o,b≠X.env.locals->b∉X.fs->b∉ch->s.heap.get? b=some o->H b=none->h'.get? b=some o)
 (slot:∀b o,b≠X.env.locals->b∈X.fs->b∉ch->s.heap.get? b=some o->H b=none->∃sl,h'.get? b=some {o with slots:=sl}) (free:∀b o,b∉ch->s.heap.get? b=some o->H b=none->H' b=none)
 (there:∀b o,b∉ch->s.heap.get? b=some o->∃o',h'.get? b=some o')
 (tups:∀b xs,H b=some (.tup xs)->H' b=some (.tup xs)) (frzs:∀b o u,H b=some (.frz o u)->H' b=some (.frz o u)) (tbls:∀b ps,H b=some (.tbl ps)->∃more,H' b=some (.tbl (ps++more)))
 (ns:∀m,s.heap.Ns X.env.locals m->h'.Ns X.env.locals m) (hok:HOk X.prog X.w H' h') (hg:AllBare g'):
 g9 X pins σ H' {s with heap:=h',gens:=g',drawn:=d',toks:=t'}:=by
 have neL:∀b o,X.s₀.heap.get? b=some o->b≠X.env.locals:=fun b o e=>Aj (BB (Ad e) I.ok.above)
 have neC:∀b o,X.s₀.heap.get? b=some o->b∉X.ex->b∉ch:=fun b o e hx hb=>by
  rcases(hch b hb).1 with z|z
  ·exact hx z
  ·exact absurd (BB (Ad e) z) (Nat.lt_irrefl _)
 have cellK:∀x c,X.env.cells.lookup x=some c->∀v,s.heap.IsCell c v->h'.IsCell c v:=fun x c e v ⟨o,ho,hd⟩=>by
  have nch:c∉ch:=fun z=>(hch c z).2.2.1 x c e rfl
  by_cases hc:c∈X.fs
  ·obtain⟨sl,q⟩:=slot c o (I.cne x c e) hc nch ho (I.freeC x c e)
   exact⟨_,q,hd⟩
  ·exact⟨o,keep c o (I.cne x c e) hc nch ho (I.freeC x c e),hd⟩
 refine⟨I.ok,I.os,hg,⟨fun b o e n hb hx=> ?_,fun b o e n hb hx=> ?_,fun b o e n hx=> ?_,fun b o e hx=> ?_,fun b xs e=>tups b xs (I.base.tups b xs e),fun b o xs e=>frzs b o xs (I.base.frzs b o xs e),fun b ps e=> ?_⟩, ?_,fun x c e=> ?_, ?_,fun x c e=> ?_,fun p hp=> ?_,hok,I.len⟩
 ·exact keep b o (neL b o e) hb (neC b o e hx) (I.base.keep b o e n hb hx) (I.base.free b o e n hx)
 ·obtain⟨sl,e1⟩:=I.base.slot b o e n hb hx
  obtain⟨sl',e2⟩:=slot b _ (neL b o e) hb (neC b o e hx) e1 (I.base.free b o e n hx)
  exact⟨sl',e2⟩
 ·obtain⟨o',e1⟩:=I.base.there b o e hx
  exact free b o' (neC b o e hx) e1 (I.base.free b o e n hx)
 ·obtain⟨o',e1⟩:=I.base.there b o e hx
  exact there b o' (neC b o e hx) e1
 ·obtain⟨m1,e1⟩:=I.base.tbls b ps e
  obtain⟨m2,e2⟩:=tbls b _ e1
  exact⟨m1++m2,by rw [e2,Array.append_assoc]⟩
 ·obtain⟨m,hn,hl⟩:=I.loc
  refine⟨m,ns m hn,fun i x v e1 e2 e3=> ?_⟩
  obtain⟨u,r,l⟩:=hl i x v e1 e2 e3
  refine⟨u,r, ?_⟩
  rcases l with l|⟨k,c,e,z⟩
  ·exact .inl l
  ·exact .inr ⟨k,c,e,cellK x c e _ z⟩
 ·obtain⟨v,z⟩:=I.cell x c e
  exact⟨v,cellK x c e v z⟩
 ·obtain⟨m,⟨o,_,_,ho,_⟩,_⟩:=I.loc
  exact free _ o (fun z=>(hch _ z).2.1 rfl) ho I.free
 ·obtain⟨v,o,ho,hd⟩:=I.cell x c e
  exact free c o (fun z=>(hch c z).2.2.1 x c e rfl) ho (I.freeC x c e)
 ·obtain⟨e,n,ne,nf,d⟩:=I.pin p hp
  have nch:p.1∉ch:=fun z=>(hch p.1 z).2.2.2 p hp rfl
  exact⟨keep p.1 p.2 ne nf nch e n,free p.1 p.2 nch e n,ne,nf,d⟩
theorem g9.un{t':Nat}(I:g9 X pins σ H s)(u:Un X.fs [] H H' s.heap h')(hok:HOk X.prog X.w H' h'):g9 X pins σ H' {s with heap:=h',toks:=t'}:=by
 obtain⟨m,⟨o,es,ep,ho,r⟩,_⟩:=id I.loc
 obtain⟨sl,hL⟩:=u.any ho I.free (by simp)
 exact I.step (g':=s.gens) (d':=s.drawn) (ch:=[]) (fun _ z=>nomatch z) (fun b o _ hb _ e n=>u.keep b o e n hb (by simp)) (fun b o _ hb _ e n=>u.slot b o e n hb (by simp)) (fun b o _ e n=>u.free b o e n (by simp)) (fun b o _ e=>u.there b o e (by simp)) u.tups u.frzs u.tbls (fun m' hm=>by
  obtain⟨o',es',ep',ho',r'⟩:=hm
  rw [ho] at ho';cases ho'
  exact⟨_,es',ep',hL,r'⟩) hok I.bare
theorem g9.call{g':Array GenState}{t':Nat}{d':Drawn}{ch:List AB}(I:g9 X pins σ H s)(u:Un (frs X.stack) ch H H' s.heap h')(hok:HOk X.prog X.w H' h')(hg:AllBare g')
 (hch:∀b∈ch,(b∈X.ex\/X.s₀.heap.objs.size<=b)/\b≠X.env.locals/\(∀x c,X.env.cells.lookup x=some c->c≠b)/\∀p∈X.pn++pins,p.1≠b):
 g9 X pins σ H' {s with heap:=h',gens:=g',drawn:=d',toks:=t'}:=by
 obtain⟨m,⟨o,es,ep,ho,r⟩,_⟩:=id I.loc
 obtain⟨sl,hL⟩:=u.any ho I.free fun z=>(hch _ z).2.1 rfl
 exact I.step (ch:=ch) hch (fun b o hL hb hc e n=>u.keep b o e n (fun z=>(AV.mp (I.stkSub b z)).elim hL hb) hc) (fun b o _ _ hc e n=>u.any e n hc) (fun b o hc e n=>u.free b o e n hc) (fun b o hc e=>u.there b o e hc) u.tups u.frzs u.tbls (fun m' hm=>by
  obtain⟨o',es',ep',ho',r'⟩:=hm
  rw [ho] at ho';cases ho'
  exact⟨_,es',ep',hL,r'⟩) hok hg
theorem g9.turned{t':Nat}{it:AB}(I:g9 X pins σ H s)(k:∀b o,b≠it->s.heap.get? b=some o->h'.get? b=some o)(hn:H it=none)(hL:it≠X.env.locals)
 (h1:it∈X.ex\/X.s₀.heap.objs.size<=it) (h2:∀x c,X.env.cells.lookup x=some c->c≠it) (h3:∀p∈X.pn++pins,p.1≠it):g9 X pins σ H {s with heap:=h',toks:=t'}:=by
 have nit:∀b u,H b=some u->b≠it:=fun b u e z=>by rw [z,hn] at e;cases e
 refine I.step (g':=s.gens) (d':=s.drawn) (ch:=[it]) (fun b hb=> ?_) (fun b o _ _ hc e _=>k b o (fun z=>hc (by simp [z])) e) (fun b o _ _ hc e _=>⟨o.slots,k b o (fun z=>hc (by simp [z])) e⟩) (fun _ _ _ _ n=>n)
  (fun b o hc e=>⟨o,k b o (fun z=>hc (by simp [z])) e⟩) (fun _ _ e=>e) (fun _ _ _ e=>e) (fun b ps e=>⟨#[],by rw [e];simp⟩) (fun m hm=> ?_) (fun b u e=> ?_) I.bare
 ·have e:b=it:=by simpa using hb
  subst e
  exact⟨h1,hL,h2,h3⟩
 ·obtain⟨o,es,ep,ho,r⟩:=hm
  exact⟨o,es,ep,k _ o (Ne.symm hL) ho,r⟩
 ·refine(I.hok b u e).stay (fun c v hc q=>k c v ?_ q) (fun _ q=>q) fun _ _ q=>q
  rcases hc with z|z
  ·rw [z];exact nit b u e
  ·exact nit c _ z
theorem g9.tok(I:g9 X pins σ H s)(t:Nat):g9 X pins σ H {s with toks:=t}:=I.un (h':=s.heap) (t':=t) Un.refl I.hok
theorem g9.kept{t':Nat}(I:g9 X pins σ H s)(k:∀b u,s.heap.get? b=some u->h'.get? b=some u):g9 X pins σ H {s with heap:=h',toks:=t'}:=I.un (Un.kept k) (I.hok.kept k)
theorem g9.laid{a:AB}{o:HO}{t':Nat}(I:g9 X pins σ H s)(k:∀b u,s.heap.get? b=some u->h'.get? b=some u)(hp:s.heap.objs.size<=a)(new:y4 X.prog X.w (upd H a o) h' a o):
 g9 X pins σ (upd H a o) {s with heap:=h',toks:=t'}:=I.un (Un.laid k hp (I.hok.fresh hp)) (I.hok.laid k hp new)
theorem g9.write{x e:AB}{o:HO}{t':Nat}(I:g9 X pins σ H s)(mu:Mut (H x))(he:e=x\/H e=some (.own x))(k:∀b u,b≠e->s.heap.get? b=some u->h'.get? b=some u)(heo:∃u,h'.get? e=some u)
 (new:y4 X.prog X.w (upd H x o) h' x o):g9 X pins σ (upd H x o) {s with heap:=h',toks:=t'}:=I.un (Un.write mu he k heo) (I.hok.write mu he k heo new)
theorem g9.weak{σ':List (Option V)}(I:g9 X pins σ H s)(hl:σ'.length=σ.length)(w:∀(i:Nat) v,σ'[i]?=some (some v)->σ[i]?=some (some v)):g9 X pins σ' H s:=
 ⟨I.ok,I.os,I.bare,I.base,let ⟨m,hn,hl'⟩:=I.loc;⟨m,hn,fun i x v e1 e2 e3=>hl' i x v e1 (w i v e2) e3⟩,I.cell,I.free,I.freeC,I.pin,I.hok,hl.trans I.len⟩
theorem g9.pins_of{pins':List (AB×Obj)}(I:g9 X pins σ H s)(h:∀p∈pins',s.heap.get? p.1=some p.2/\H p.1=none/\p.1≠X.env.locals/\p.1∉X.fs/\∀v,p.2.data≠.cell v):g9 X pins' σ H s:=
 ⟨I.ok,I.os,I.bare,I.base,I.loc,I.cell,I.free,I.freeC,fun p hp=>(Ar.mp hp).elim (fun z=>I.pin p (Ay _ z)) (h p),I.hok,I.len⟩
theorem b0z{N:List Str}(hN:N.Nodup){i j:Nat}{x:Str}(a:N[i]?=some x)(b:N[j]?=some x):i=j:=by
 obtain⟨h1,e1⟩:=Am.mp a
 obtain⟨h2,e2⟩:=Am.mp b
 exact(List.getElem_inj hN).mp (e1.trans e2.symm)
theorem a8R{M:Model}{A:AR}{E:AA->AC->Prop}{i:Nat}{x:Str}{v:V}{u:AA}{Q:Unit->AC->Prop}(I:g9 X pins σ H s)(hN:X.N.Nodup)(hi:X.N[i]?=some x)(hx:Loc X.env.scope x)(r:m3 v u)
 (h:∀s',g9 X pins (σ.set i (some v)) H s'->(∃a,Heap.SameBut a s.heap s'.heap/\(a=X.env.locals\/X.env.cells.lookup x=some a))->Q () s') (hf:X.fn x=true\/X.env.scope.names.lookup x=some .local:=by first|exact .inl rfl|exact .inr rfl|assumption):AG M A (storeName X.env x u) Q E s:=by
 obtain⟨m,hn,hl⟩:=id I.loc
 have hcls:(X.env.scope.kind== .class||(X.env.scope.kind== .module && X.env.locals !=X.env.globals))=false:=by rw [I.ok.kind];rfl
 have hiσ:i<σ.length:=by rw [I.len];exact(Am.mp hi).1
 have cne:=I.cne
 have tracked:∀{a:AB} {h':Heap},(∃o,s.heap.get? a=some o/\H a=none)->Heap.SameBut a s.heap h'->HOk X.prog X.w H h':=fun {a h'} ha hs b ob e=>by
  obtain⟨_,_,hfree⟩:=ha
  refine(I.hok b ob e).stay (fun c w' hc q=>(hs.2 c ?_).trans q) (fun _ q=>q) fun _ _ q=>q
  rintro rfl
  rcases hc with rfl|hc
  ·rw [hfree] at e;cases e
  ·rw [hfree] at hc;cases hc
 rcases hx with hk|hk
 ·refine wpAny_storeName_local hk hn (fun h' hn' hs=> ?_) hcls
  obtain⟨oL,_,_,hoL,_⟩:=id hn
  refine h _ ⟨I.ok,I.os,I.bare,⟨fun b o e n hb hx=> ?_,fun b o e n hb hx=> ?_,I.base.free,fun b o e hx=> ?_,I.base.tups,I.base.frzs,I.base.tbls⟩,⟨_,hn',fun j y v' e1 e2 e3=> ?_⟩,fun y c e=> ?_,I.free,I.freeC,fun p hp=> ?_,tracked ⟨oL,hoL,I.free⟩ hs,by simpa using I.len⟩ ⟨_,hs,.inl rfl⟩
  ·exact(hs.2 b (Aj (BB (Ad e) I.ok.above))).trans (I.base.keep b o e n hb hx)
  ·obtain⟨sl,e1⟩:=I.base.slot b o e n hb hx
   exact⟨sl,(hs.2 b (Aj (BB (Ad e) I.ok.above))).trans e1⟩
  ·obtain⟨o',e1⟩:=I.base.there b o e hx
   exact⟨o',(hs.2 b (Aj (BB (Ad e) I.ok.above))).trans e1⟩
  ·by_cases hj:j=i
   ·subst hj
    rw [hi] at e1;cases e1
    rw [BG hiσ] at e2
    cases e2
    exact⟨u,r,.inl ⟨hk,by simp⟩⟩
   ·rw [List.getElem?_set_ne (Ne.symm hj)] at e2
    obtain⟨u',r',q⟩:=hl j y v' e1 e2 e3
    refine⟨u',r', ?_⟩
    rcases q with⟨k,e⟩|⟨k,c,e,z⟩
    ·refine .inl ⟨k, ?_⟩
     have:y≠x:=fun e=>hj (b0z hN e1 (e▸hi))
     simp [this,e]
    ·exact .inr ⟨k,c,e,z.sameBut hs (cne y c e)⟩
  ·obtain⟨w',z⟩:=I.cell y c e
   exact⟨w',z.sameBut hs (cne y c e)⟩
  ·obtain⟨e,n,ne,nf,d⟩:=I.pin p hp
   exact⟨(hs.2 p.1 ne).trans e,n,ne,nf,d⟩
 ·have hfn:X.fn x=true:=by
   rcases hf with z|z
   ·exact z
   ·rw [z] at hk;cases hk
  obtain⟨c,hc⟩:=I.ok.has x (.inl hk)
  obtain⟨w',z⟩:=I.cell x c hc
  refine wpAny_storeName_cell I.ok.kind hk hc z (fun h' hc' hs=> ?_)
  obtain⟨oc,hoc,hocd⟩:=id z
  refine h {s with heap:=h'} ⟨I.ok,I.os,I.bare,⟨fun b o e n hb hx=> ?_,fun b o e n hb hx=> ?_,I.base.free,fun b o e hx=> ?_,I.base.tups,I.base.frzs,I.base.tbls⟩,⟨m,hn.sameBut hs (Ne.symm (cne x c hc)),fun j y v' e1 e2 e3=> ?_⟩,fun y c' e=> ?_,I.free,I.freeC,fun p hp=> ?_,tracked ⟨oc,hoc,I.freeC x c hc⟩ hs,by simpa using I.len⟩ ⟨c,hs,.inr hc⟩
  ·exact(hs.2 b (Aj (BB (Ad e) (I.ok.cab x c hfn hc)))).trans (I.base.keep b o e n hb hx)
  ·obtain⟨sl,e1⟩:=I.base.slot b o e n hb hx
   exact⟨sl,(hs.2 b (Aj (BB (Ad e) (I.ok.cab x c hfn hc)))).trans e1⟩
  ·obtain⟨o',e1⟩:=I.base.there b o e hx
   exact⟨o',(hs.2 b (Aj (BB (Ad e) (I.ok.cab x c hfn hc)))).trans e1⟩
  ·by_cases hj:j=i
   ·subst hj
    rw [hi] at e1;cases e1
    rw [BG hiσ] at e2
    cases e2
    exact⟨u,r,.inr ⟨.inl hk,c,hc,hc'⟩⟩
   ·rw [List.getElem?_set_ne (Ne.symm hj)] at e2
    obtain⟨u',r',q⟩:=hl j y v' e1 e2 e3
    refine⟨u',r', ?_⟩
    rcases q with q|⟨k,c',e,z'⟩
    ·exact .inl q
    ·refine .inr ⟨k,c',e,z'.sameBut hs ?_⟩
     rintro rfl
     exact hj (b0z hN e1 (I.ok.inj _ _ _ e hc▸hi))
  ·by_cases hcc:c'=c
   ·subst hcc;exact⟨_,hc'⟩
   ·obtain⟨w2,z2⟩:=I.cell y c' e
    exact⟨w2,z2.sameBut hs hcc⟩
  ·obtain⟨e,n,ne,nf,d⟩:=I.pin p hp
   refine⟨(hs.2 p.1 ?_).trans e,n,ne,nf,d⟩
   intro q
   rw [q,hoc] at e
   have q':oc=p.2:=Option.some.inj e
   exact d w' (by rw [<-q'];exact hocd)
theorem a2j{M:Model}{A:AR}{E:AA->AC->Prop}{i:Nat}{x:Str}{v:V}{u:AA}{Q:Unit->AC->Prop}(I:g9 X pins σ H s)(hN:X.N.Nodup)(hi:X.N[i]?=some x)(hx:Loc X.env.scope x)(r:m3 v u)
 (h:∀s',g9 X pins (σ.set i (some v)) H s'->Q () s') (hf:X.fn x=true\/X.env.scope.names.lookup x=some .local:=by first|exact .inl rfl|exact .inr rfl|assumption):AG M A (storeName X.env x u) Q E s:=
 a8R I hN hi hx r (fun s' I' _=>h s' I') hf
theorem g9.call'{s':AC}{ch:List AB}(I:g9 X pins σ H s)(ho:s'.os=s.os)(u:Un (frs X.stack) ch H H' s.heap s'.heap)(hok:HOk X.prog X.w H' s'.heap)(hg:AllBare s'.gens)
 (hch:∀b∈ch,(b∈X.ex\/X.s₀.heap.objs.size<=b)/\b≠X.env.locals/\(∀x c,X.env.cells.lookup x=some c->c≠b)/\∀p∈X.pn++pins,p.1≠b):g9 X pins σ H' s':=by
 obtain⟨h',g',d',t',o'⟩:=s'
 have e:o'=s.os:=ho
 subst e
 exact I.call (g':=g') (t':=t') (d':=d') u hok hg hch
end
abbrev XK:=AA->Option AB->Hp->Prop
abbrev St:=List (Option V)
abbrev VK:=V->Hp->Prop
abbrev TE:=St->Hp->VK->Prop
abbrev TT:=St->Hp->(Bool->Hp->Prop)->Prop
abbrev TA:=St->Hp->(List V->Hp->Prop)->Prop
structure W2 where
 nx:St->Hp->Prop
 rt:VK
 bk:St->Hp->Prop:=fun _ _=>False
 ct:St->Hp->Prop:=fun _ _=>False
abbrev TS:=W2->St->Hp->Prop
def EP(X:Cx)(pins:List (AB×Obj))(σ:St)(Q:VK)(u:AA)(s':AC):Prop:=∃v H',g9 X pins σ H' s'/\m3 v u/\Q v H'
def TP(X:Cx)(pins:List (AB×Obj))(σ:St)(Q:Bool->Hp->Prop)(b:Bool)(s':AC):Prop:=∃H',g9 X pins σ H' s'/\Q b H'
def AP(X:Cx)(pins:List (AB×Obj))(σ:St)(Q:List V->Hp->Prop)(us:List AA)(s':AC):Prop:=∃vs H',g9 X pins σ H' s'/\j9 vs us/\Q vs H'
def SP(X:Cx)(pins:List (AB×Obj))(D:W2)(f:Flow)(s':AC):Prop:=
 match f with
 | .next=>∃σ' H',g9 X pins σ' H' s'/\D.nx σ' H'
 | .brk=>∃σ' H',g9 X pins σ' H' s'/\D.bk σ' H'
 | .cont=>∃σ' H',g9 X pins σ' H' s'/\D.ct σ' H'
 | .ret u=>∃v σ' H',g9 X pins σ' H' s'/\m3 v u/\D.rt v H'
def PE(X:Cx)(e:AF)(t:TE):Prop:=
 ∀(pins:List (AB×Obj)) (s:AC) (σ:St) (H:Hp) (Q:VK),g9 X pins σ H s->t σ H Q->AG (model X.prog X.w) X.A (eval e X.env) (EP X pins σ Q) X.xe s
def PT(X:Cx)(e:AF)(t:TT):Prop:=
 ∀(pins:List (AB×Obj)) (s:AC) (σ:St) (H:Hp) (Q:Bool->Hp->Prop),g9 X pins σ H s->t σ H Q->AG (model X.prog X.w) X.A (isTrue e X.env (eval e X.env)) (TP X pins σ Q) X.xe s
def PW(X:Cx)(e:AF)(t:TT):Prop:=
 ∀(whole:Sem AA) (pins:List (AB×Obj)) (s:AC) (σ:St) (H:Hp) (Q:Bool->Hp->Prop),g9 X pins σ H s->t σ H Q->AG (model X.prog X.w) X.A (isTrue e X.env whole) (TP X pins σ Q) X.xe s
theorem PW.pt{X:Cx}{e:AF}{t:TT}(h:PW X e t):PT X e t:=h _
def PA(X:Cx)(es:List AF)(t:TA):Prop:=
 ∀(pos:Pos) (pins:List (AB×Obj)) (s:AC) (σ:St) (H:Hp) (Q:List V->Hp->Prop),g9 X pins σ H s->t σ H Q->AG (model X.prog X.w) X.A (spliced (backTo pos (AT es X.env))) (AP X pins σ Q) X.xe s
def PS(X:Cx)(st:Stmt)(t:TS):Prop:=
 ∀(pins:List (AB×Obj)) (s:AC) (σ:St) (H:Hp) (D:W2),g9 X pins σ H s->t D σ H->AG (model X.prog X.w) X.A (exec st X.env) (SP X pins D) X.xe s
def PSs(X:Cx)(st:List Stmt)(t:TS):Prop:=
 ∀(pins:List (AB×Obj)) (s:AC) (σ:St) (H:Hp) (D:W2),g9 X pins σ H s->t D σ H->AG (model X.prog X.w) X.A (execs st X.env) (SP X pins D) X.xe s
theorem F8{α:Type}{t:Sem α}{Q Q':α->AC->Prop}{M:Model}{A:AR}{E:AA->AC->Prop}{s:AC}(h:AG M A t Q E s)(hQ:∀a s,Q a s->Q' a s):AG M A t Q' E s:=wpAny_mono h hQ fun _ _ x=>x
section
variable {X:Cx}
def C7(i:Nat):TE:=fun σ H Q=>∃v,σ[i]?=some (some v)/\Q v H
def tC(v:V):TE:=fun _ H Q=>Q v H
theorem c0a{i:Nat}{x:Str}{pos:Pos}(hN:X.N[i]?=some x)(hv:Vis X.env.scope x)(hd:(x==("__debug__":Str))=false:=by decide)(hcd:(x==("__classdict__":Str))=false:=by decide):PE X (.Name x pos) (C7 i):=by
 intro pins s σ H Q I h
 obtain⟨v,e,h⟩:=h
 obtain⟨m,hn,hl⟩:=I.loc
 obtain⟨u,r,l⟩:=hl i x v hN e hv
 have fin:EP X pins σ Q u s:=⟨v,H,I,r,h⟩
 rcases l with⟨hk,hm⟩|⟨hk,c,hc,hcell⟩
 ·exact wpAny_Name (wpAny_loadName_local I.ok.kind hk hn hm fin) hd
 ·rcases hk with hk|hk
  ·exact wpAny_Name (wpAny_loadName_cell I.ok.kind hk hc hcell fin) hd
  ·exact wpAny_Name (wpAny_loadName_free I.ok.kind hk hc hcell fin hcd) hd
theorem b94{i j pos}:PE X (.Constant (.int i) j pos) (tC (.int i)):=fun _ _ _ H _ I h=>wpAny_Constant_int ⟨.int i,H,I.tok _,⟨_,rfl⟩,h⟩
theorem c1i{b j pos}:PE X (.Constant (.bool b) j pos) (tC (.bl b)):=fun _ _ _ H _ I h=>Constant_bool ⟨.bl b,H,I,rfl,h⟩
theorem b96{j pos}:PE X (.Constant .none j pos) (tC .non):=fun _ _ _ H _ I h=>Constant_none ⟨.non,H,I,rfl,h⟩
theorem b99{x j pos}:PE X (.Constant (.str x) j pos) (tC (.str x)):=fun _ _ _ H _ I h=>Calls.Constant_str ⟨.str x,H,I.tok _,⟨_,rfl⟩,h⟩
def Gl(X:Cx)(x:Str):Prop:=X.env.kindOf x=some .globalImplicit
theorem a9p{E:AA->AC->Prop}{pins:List (AB×Obj)}{s:AC}{σ:St}{H:Hp}{x:Str}{u:AA}{pos:Pos}{Q:AA->AC->Prop}(I:g9 X pins σ H s)(hg:Gl X x)(hm:X.mg x=some u)(h:Q u s)
 (hd:(x==("__debug__":Str))=false:=by decide):AG (model X.prog X.w) X.A (eval (.Name x pos) X.env) Q E s:=
 Calls.Name_function_global I.ok.kind hg (Calls.loadGlobal_global (by rw [I.ok.glob];exact I.mod.glob.keeps I.bk) hm h) hd
theorem a6G{E:AA->AC->Prop}{pins:List (AB×Obj)}{s:AC}{σ:St}{H:Hp}{x:Str}{u:AA}{pos:Pos}{Q:AA->AC->Prop}(I:g9 X pins σ H s)(hg:Gl X x)(hm:X.mg x=none)(hv:bootBuiltins x=some u)(h:Q u s)
 (hn:x≠"__name__":=by decide) (hd:(x==("__debug__":Str))=false:=by decide):AG (model X.prog X.w) X.A (eval (.Name x pos) X.env) Q E s:=by
 obtain⟨mb,h1,h2⟩:=I.mod.blt
 exact Calls.Name_function_global I.ok.kind hg (Calls.loadGlobal_builtin (by rw [I.ok.glob];exact I.mod.glob.keeps I.bk) hm (by rw [I.ok.blt];exact h1.keeps I.bk) ((h2 x hn).trans hv) h) hd
theorem b74{x:Str}{v:V}{u:AA}{pos:Pos}(hg:Gl X x)(hm:X.mg x=some u)(r:m3 v u)(hd:(x==("__debug__":Str))=false:=by decide):PE X (.Name x pos) (tC v):=
 fun _ _ _ H _ I h=>a9p I hg hm ⟨v,H,I,r,h⟩ hd
theorem Q9{x:Str}{v:V}{u:AA}{pos:Pos}(hg:Gl X x)(hm:X.mg x=none)(hv:bootBuiltins x=some u)(r:m3 v u)(hn:x≠"__name__":=by decide)(hd:(x==("__debug__":Str))=false:=by decide):PE X (.Name x pos) (tC v):=
 fun _ _ _ H _ I h=>a6G I hg hm hv ⟨v,H,I,r,h⟩ hn hd
variable {a b:AF}{ta tb:TE}{pos:Pos}
def PC(X:Cx)(op:CmpOp)(a b:AF)(t:TE):Prop:=
 ∀(pins:List (AB×Obj)) (s:AC) (σ:St) (H:Hp) (Q:VK),g9 X pins σ H s->t σ H Q->
  AG (model X.prog X.w) X.A (eval a X.env) (fun v s₁=>AG (model X.prog X.w) X.A (eval b X.env) (fun u s₂=>AG (model X.prog X.w) X.A (compareOp op v u) (EP X pins σ Q) X.xe s₂) X.xe s₁) X.xe s
theorem b55(b:AF){op:CmpOp}(h:op≠.In)(h2:op≠.NotIn):behindInMarks op b=false:=by
 have e1:(op==CmpOp.In)=false:=by cases op<;>first|rfl|exact absurd rfl h
 have e2:(op==CmpOp.NotIn)=false:=by cases op<;>first|rfl|exact absurd rfl h2
 cases b<;>simp [behindInMarks,e1,e2]
def tB(t:TE):TT:=fun σ H Q=>t σ H fun x H1=>∃c,x= .bl c/\Q c H1
theorem c0f{op:CmpOp}{t:TE}(h:PC X op a b t)(h1:behindInMarks op b=false:=by first|exact b55 _ (by decide) (by decide)|rfl):PT X (.Compare a [op] [b] pos) (tB t):=by
 intro pins s σ H Q I hw
 refine wpAny_isTrue_Compare1 (F8 (h pins s σ H _ I hw) fun v s1 h1=>F8 h1 fun u s2 h2=>F8 h2 fun c s3 ⟨x,H1,I1,r1,q1⟩=> ?_) h1
 obtain⟨d,rfl,q⟩:=q1
 cases r1
 exact wpAny_truthy_bool ⟨H1,I1,q⟩
variable {tA tB':TT}{B7:List AF}
def tOr(t u:TT):TT:=fun σ H Q=>t σ H fun c H1=>if c=true then Q true H1 else u σ H1 Q
def c2f(t:TT):TT:=fun σ H Q=>t σ H fun c H1=>Q (!c) H1
theorem c0j(ha:PT X a tA):PW X (.BoolOp .Or [a] pos) tA:=by
 intro wh pins s σ H Q I h
 refine isTrue_or (F8 (ha pins s σ H Q I h) fun c s1 e=> ?_)
 cases c with
 |false=>exact isTrue_or_nil e
 |true=>exact e
theorem c1l(ha:PT X a tA)(hb:PW X (.BoolOp .Or (b::B7) pos) tB'):PW X (.BoolOp .Or (a::b::B7) pos) (tOr tA tB'):=by
 intro wh pins s σ H Q I h
 refine isTrue_or (F8 (ha pins s σ H _ I h) fun c s1 ⟨H1,I1,q1⟩=> ?_)
 cases c with
 |true=>exact⟨H1,I1,q1⟩
 |false=>exact hb wh pins s1 σ H1 Q I1 q1
theorem c0g(ha:PT X a tA):PT X (.UnaryOp .Not a pos) (c2f tA):=by
 intro pins s σ H Q I h
 exact isTrue_not (ha pins s σ H (fun c H1=>Q (!c) H1) I h)
def c1t(ta tb:TE):TE:=fun σ H Q=>ta σ H fun x H1=>∃c,x= .bl c/\if c=true then tb σ H1 Q else Q (.bl false) H1
def c1A(ta:TE):TE:=fun σ H Q=>ta σ H fun x H1=>∃c,x= .bl c/\Q (.bl (!c)) H1
theorem b98{op}{t:TE}(h:PE X a t):PE X (.BoolOp op [a] pos) t:=fun pins s σ H Q I hw=>BoolOp_one (h pins s σ H Q I hw)
theorem b92(ha:PE X a ta)(hb:PE X (.BoolOp .And (b::B7) pos) tb):PE X (.BoolOp .And (a::b::B7) pos) (c1t ta tb):=by
 intro pins s σ H Q I h
 refine BoolOp_and (F8 (ha pins s σ H _ I h) fun v s1 ⟨x,H1,I1,r1,q1⟩=> ?_)
 obtain⟨c,rfl,q1⟩:=q1
 cases r1
 refine wpAny_truthy_bool ?_
 cases c with
 |true=>exact hb pins s1 σ H1 Q I1 q1
 |false=>exact⟨.bl false,H1,I1,rfl,q1⟩
theorem b97(ha:PE X a ta):PE X (.UnaryOp .Not a pos) (c1A ta):=by
 intro pins s σ H Q I h
 refine UnaryOp_ (F8 (ha pins s σ H _ I h) fun v s1 ⟨x,H1,I1,r1,q1⟩=> ?_)
 obtain⟨c,rfl,q1⟩:=q1
 cases r1
 exact not_of (wpAny_truthy_bool ⟨.bl (!c),H1,I1,rfl,q1⟩)
end
def S2(K:AD)(H:Hp)(a:AB)(xs:List V):Prop:=
 Rd H a (.lst xs)\/
  ∃(o:Obj) (its:Array AA) (n:Nat),K.lookup a=some o/\o.cls= .type "list"/\o.dict=none/\o.data= .seq its n/\its.size<=AL/\j9 xs its.toList
def Z1(K:AD)(H:Hp)(a:AB)(xs:List V):Prop:=
 Rd H a (.tup xs)\/
  ∃(o:Obj) (its:Array AA) (n:Nat),K.lookup a=some o/\o.cls= .type "tuple"/\o.data= .seq its n/\its.size<=AL/\j9 xs its.toList
def c1M:AA->Option V
 | .none=>some .non
 | .bool b=>some (.bl b)
 | .int i _=>some (.int i)
 | .str x _=>some (.str x)
 | .bytes b _=>some (.byt b)
 | .float b _=>some (.flt b)
 | .ref a=>some (.ref a)
 | .type n=>some (.ty n)
 |_=>none
theorem m3.abs{x:V}{u:AA}(r:m3 x u):c1M u=some x:=by
 cases x with
 |non=>cases r;rfl
 |bl _=>cases r;rfl
 |int _=>obtain⟨t,rfl⟩:=r;rfl
 |str _=>obtain⟨t,rfl⟩:=r;rfl
 |byt _=>obtain⟨t,rfl⟩:=r;rfl
 |flt _=>obtain⟨t,rfl⟩:=r;rfl
 |ref _=>cases r;rfl
 |ty _=>cases r;rfl
theorem m3.inj{x y:V}{u:AA}(r:m3 x u)(q:m3 y u):x=y:=Option.some.inj (r.abs.symm.trans q.abs)
theorem j9.inj:∀{xs ys:List V} {us:List AA},j9 xs us->j9 ys us->xs=ys
 |_,_,_,.nil,.nil=>rfl
 |_,_,_,.cons r t,.cons r' t'=>by rw [r.inj r',j9.inj t t']
section
variable {X:Cx}{pins:List (AB×Obj)}{σ:St}{H:Hp}{s:AC}{a:AB}{xs ys:List V}
theorem S2.of{K:AD}(h:H a=some (.lst xs)):S2 K H a xs:= .inl (.inl h)
theorem Z1.of{K:AD}(h:H a=some (.tup xs)):Z1 K H a xs:= .inl (.inl h)
theorem g9.list(I:g9 X pins σ H s)(h:S2 X.K H a xs):∃its:List AA,j9 xs its/\PlainL s.heap a its.toArray/\xs.length<=AL:=by
 rcases h with h|⟨o,its,n,hk,hc,hd,hs,hz,r⟩
 ·obtain⟨z,its,n,r,e⟩:=h.ok I.hok
  exact⟨its,r,⟨_,n,e,rfl,rfl,rfl⟩,z⟩
 ·refine⟨its.toList,r,⟨o,n,I.kIn a o hk,hc,hd,by simpa using hs⟩, ?_⟩
  have e:=r.length
  simp only [Array.length_toList] at e
  lia
theorem g9.tuple(I:g9 X pins σ H s)(h:Z1 X.K H a xs):∃its:List AA,j9 xs its/\IsTup s.heap a its.toArray/\xs.length<=AL:=by
 rcases h with h|⟨o,its,n,hk,hc,hs,hz,r⟩
 ·obtain⟨z,its,r,p⟩:=h.ok I.hok
  exact⟨its,r,p,z⟩
 ·refine⟨its.toList,r,⟨o,I.kIn a o hk,hc,n,by simpa using hs⟩, ?_⟩
  have e:=r.length
  simp only [Array.length_toList] at e
  lia
theorem g9.list_inj(I:g9 X pins σ H s)(h:S2 X.K H a xs)(h':S2 X.K H a ys):xs=ys:=by
 obtain⟨its,r,⟨o,n,e,_,_,d⟩,_⟩:=I.list h
 obtain⟨its',r',⟨o',n',e',_,_,d'⟩,_⟩:=I.list h'
 rw [e] at e';cases e'
 rw [d] at d'
 injection d' with d1 _
 have:its=its':=by simpa using congrArg Array.toList d1
 subst this
 exact r.inj r'
theorem g9.tuple_inj(I:g9 X pins σ H s)(h:Z1 X.K H a xs)(h':Z1 X.K H a ys):xs=ys:=by
 obtain⟨its,r,⟨o,e,_,n,d⟩,_⟩:=I.tuple h
 obtain⟨its',r',⟨o',e',_,n',d'⟩,_⟩:=I.tuple h'
 rw [e] at e';cases e'
 rw [d] at d'
 injection d' with d1 _
 have:its=its':=by simpa using congrArg Array.toList d1
 subst this
 exact r.inj r'
end
abbrev Cx.wish(X:Cx)(E:AA->AC->Prop):Cx:={X with xe:=E}
abbrev Cx.nox(X:Cx):Cx:=X.wish fun _ _=>False
theorem Cx.Ok.wish{X:Cx}(ok:X.Ok)(E:AA->AC->Prop):(X.wish E).Ok:=
 ⟨ok.mod,ok.kind,ok.glob,ok.blt,ok.above,ok.inj,ok.has,ok.cab,ok.hd,ok.frames,ok.stk,ok.exf,ok.bs,ok.bsz,ok.noex,ok.exfs,ok.funs,ok.frf⟩
theorem Cx.Ok.unwish{X:Cx}{E:AA->AC->Prop}(ok:(X.wish E).Ok):X.Ok:=
 ⟨ok.mod,ok.kind,ok.glob,ok.blt,ok.above,ok.inj,ok.has,ok.cab,ok.hd,ok.frames,ok.stk,ok.exf,ok.bs,ok.bsz,ok.noex,ok.exfs,ok.funs,ok.frf⟩
section
variable {X:Cx}{pins:List (AB×Obj)}{σ:St}{H:Hp}{s:AC}{E:AA->AC->Prop}
theorem g9.wish(I:g9 X pins σ H s)(E:AA->AC->Prop):g9 (X.wish E) pins σ H s:=⟨I.ok.wish E,I.os,I.bare,I.base,I.loc,I.cell,I.free,I.freeC,I.pin,I.hok,I.len⟩
theorem g9.unwish(I:g9 (X.wish E) pins σ H s):g9 X pins σ H s:=⟨I.ok.unwish,I.os,I.bare,I.base,I.loc,I.cell,I.free,I.freeC,I.pin,I.hok,I.len⟩
theorem SP.unwish{D:W2}{f:Flow}{s':AC}(h:SP (X.wish E) pins D f s'):SP X pins D f s':=by
 cases f with
 |next=>obtain⟨σ',H',I,q⟩:=h;exact⟨σ',H',I.unwish,q⟩
 |brk=>obtain⟨σ',H',I,q⟩:=h;exact⟨σ',H',I.unwish,q⟩
 |cont=>obtain⟨σ',H',I,q⟩:=h;exact⟨σ',H',I.unwish,q⟩
 |ret u=>obtain⟨v,σ',H',I,r,q⟩:=h;exact⟨v,σ',H',I.unwish,r,q⟩
theorem PE.nox{e:AF}{t:TE}(h:PE X.nox e t):PE X e t:=fun pins s σ H Q I hw=>
 wpAny_mono (h pins s σ H Q (I.wish _) hw) (fun _ _ ⟨v,H',I',r,q⟩=>⟨v,H',I'.unwish,r,q⟩) fun _ _ z=>False.elim z
theorem PT.nox{e:AF}{t:TT}(h:PT X.nox e t):PT X e t:=fun pins s σ H Q I hw=>
 wpAny_mono (h pins s σ H Q (I.wish _) hw) (fun _ _ ⟨H',I',q⟩=>⟨H',I'.unwish,q⟩) fun _ _ z=>False.elim z
theorem PSs.nox{st:List Stmt}{t:TS}(h:PSs X.nox st t):PSs X st t:=fun pins s σ H D I hw=>
 wpAny_mono (h pins s σ H D (I.wish _) hw) (fun _ _ q=>q.unwish) fun _ _ z=>False.elim z
end
section
variable {X:Cx}{st:Stmt}{B7:List Stmt}{t u:TS}{e:AF}{te:TE}{pos:Pos}
def c1z:TS:=fun D σ H=>D.nx σ H
def c2i(t u:TS):TS:=fun D σ H=>t {D with nx:=u D} σ H
theorem b2H:PSs X [] c1z:=fun _ _ σ H _ I h=>wpAny_execs_nil ⟨σ,H,I,h⟩
theorem a0N(h1:PS X st t)(h2:PSs X B7 u):PSs X (st::B7) (c2i t u):=by
 intro pins s σ H D I h
 refine wpAny_execs_cons (F8 (h1 pins s σ H {D with nx:=u D} I h) fun f s1 q=> ?_)
 cases f with
 |next=>
  obtain⟨σ',H',I',q⟩:=q
  exact h2 pins s1 σ' H' D I' q
 |ret v=>exact q
 |brk=>exact q
 |cont=>exact q
theorem b8c(h1:PS X st t):PSs X [st] t:=by
 intro pins s σ H D I h
 refine wpAny_execs_cons (F8 (h1 pins s σ H D I h) fun f s1 q=> ?_)
 cases f with
 |next=>exact wpAny_execs_nil q
 |ret v=>exact q
 |brk=>exact q
 |cont=>exact q
theorem g9.quiet{pins:List (AB×Obj)}{σ:St}{H:Hp}{s:AC}(I:g9 X pins σ H s):interactive X.env=false:=by simp [interactive,I.ok.kind]
def c1y(te:TE):TS:=fun D σ H=>te σ H fun _ H1=>D.nx σ H1
theorem a5T(he:PE X e te)(hs:swapsWith e none pos.line X.env=pure false:=by rfl):PS X (.Expr e pos) (c1y te):=by
 intro pins s σ H D I h
 exact wpAny_Expr_any (F8 (he pins s σ H _ I h) fun v s1 ⟨x,H1,I1,r1,q1⟩=>⟨σ,H1,I1,q1⟩) I.quiet hs
def c2h(te:TE):TS:=fun D σ H=>te σ H D.rt
theorem b6u(he:PE X e te):PS X (.Return (some e) pos) (c2h te):=by
 intro pins s σ H D I h
 exact wpAny_Return_some (F8 (he pins s σ H _ I h) fun v s1 ⟨x,H1,I1,r1,q1⟩=>⟨x,σ,H1,I1,r1,q1⟩)
def c2d(c:TT)(t u:TS):TS:=fun D σ H=>c σ H fun b H1=>if b=true then t D σ H1 else u D σ H1
theorem b8S{c:AF}{a b:List Stmt}{tc:TT}(hc:PT X c tc)(ha:PSs X a t)(hb:PSs X b u):PS X (.If c a b pos) (c2d tc t u):=by
 intro pins s σ H D I h
 refine wpAny_If (F8 (hc pins s σ H _ I h) fun d s1 ⟨H1,I1,q1⟩=> ?_)
 cases d with
 |true=>exact ha pins s1 σ H1 D I1 q1
 |false=>exact hb pins s1 σ H1 D I1 q1
def c0x:TS:=fun _ _ _=>False
theorem b6t:PS X st c0x:=fun _ _ _ _ _ _ h=>h.elim
end
abbrev TG:=V->St->Hp->(St->Hp->Prop)->Prop
abbrev TGs:=List V->St->Hp->(St->Hp->Prop)->Prop
def PG(X:Cx)(target:AF)(t:TG):Prop:=
 ∀(pins:List (AB×Obj)) (s:AC) (σ:St) (H:Hp) (v:V) (u:AA) (Q:St->Hp->Prop),g9 X pins σ H s->m3 v u->t v σ H Q->
  AG (model X.prog X.w) X.A (assign target X.env u) (fun _ s'=>∃σ' H',g9 X pins σ' H' s'/\Q σ' H') X.xe s
def PGs(X:Cx)(ts:List AF)(t:TGs):Prop:=
 ∀(pins:List (AB×Obj)) (s:AC) (σ:St) (H:Hp) (vs:List V) (us:List AA) (Q:St->Hp->Prop),g9 X pins σ H s->j9 vs us->t vs σ H Q->
  AG (model X.prog X.w) X.A (assignInOrder ((assignEach ts X.env).map (·.2)) us) (fun _ s'=>∃σ' H',g9 X pins σ' H' s'/\Q σ' H') X.xe s
abbrev TIp:=V->V->Hp->VK->Prop
def PIp(X:Cx)(op:Operator)(t:TIp):Prop:=
 ∀(pins:List (AB×Obj)) (s:AC) (σ:St) (H:Hp) (x y:V) (v u:AA) (Q:VK),g9 X pins σ H s->m3 x v->m3 y u->t x y H Q->
  AG (model X.prog X.w) X.A (inplaceOp op v u) (EP X pins σ Q) X.xe s
section
variable {X:Cx}{pos:Pos}
def a2O(i:Nat):TG:=fun v σ H Q=>Q (σ.set i (some v)) H
theorem j3{i:Nat}{x:Str}(hN:X.N.Nodup)(hi:X.N[i]?=some x)(hx:Loc X.env.scope x)(hf:X.fn x=true\/X.env.scope.names.lookup x=some .local:=by first|exact .inl rfl|exact .inr rfl|assumption):PG X (.Name x pos) (a2O i):=by
 intro pins s σ H v u Q I r h
 exact wpAny_assign_Name (a2j I hN hi hx r (fun s' I'=>⟨_,H,I',h⟩) hf)
def c06:TGs:=fun vs σ H Q=>vs=[]/\Q σ H
def b8N(t:TG)(u:TGs):TGs:=fun vs σ H Q=>∃v r,vs=v::r/\t v σ H fun σ' H'=>u r σ' H' Q
theorem a2u:PGs X [] c06:=by
 intro pins s σ H vs us Q I r h
 obtain⟨e,h⟩:=h
 subst e
 cases r
 exact assignInOrder_nil ⟨σ,H,I,h⟩
theorem B2{e:AF}{es:List AF}{t:TG}{u:TGs}(h1:PG X e t)(h2:PGs X es u)
 (hs:(assignEach (e::es) X.env).map (·.2)=assign e X.env::(assignEach es X.env).map (·.2):=by rfl):PGs X (e::es) (b8N t u):=by
 intro pins s σ H vs us Q I r h
 obtain⟨v,vr,e1,h⟩:=h
 subst e1
 cases r with
 |cons r rr=>
  rw [hs]
  refine assignInOrder_cons (F8 (h1 pins s σ H _ _ _ I r h) fun _ s1 ⟨σ1,H1,I1,q1⟩=> ?_)
  exact h2 pins s1 σ1 H1 _ _ Q I1 rr q1
def c07(K:AD)(n:Nat)(t:TGs):TG:=fun v σ H Q=>∃a xs,v= .ref a/\Z1 K H a xs/\xs.length=n/\t xs σ H Q
theorem a63{es:List AF}{k:Nat}{t:TGs}{n:Nat}(hc:X.calm=true)(h:PGs X es t)
 (hn:(assignEach es X.env).length=n:=by rfl) (hst:(assignEach es X.env).findIdx? (·.1)=none:=by rfl):PG X (.Tuple es k pos) (c07 X.K n t):=by
 intro pins s σ H v u Q I r hw
 obtain⟨a,xs,e1,hq,hl,hw⟩:=hw
 subst e1
 cases r
 obtain⟨its,rv,ht,hz⟩:=I.tuple hq
 refine assign_Tuple_tuple (I.ok.hd hc) ht (by simp [hn,<-hl,rv.length]) hst fun h' hx=> ?_
 have I1:g9 X pins σ H {s with heap:=h'}:=I.kept (t':=s.toks) fun b o e=>hx b o (Aj (Ad e)) e
 exact h pins _ σ H xs _ Q I1 (by simpa using rv) hw
def c1u(te:TE)(g:TG):TS:=fun D σ H=>te σ H fun x H1=>g x σ H1 D.nx
theorem c0c{tg e:AF}{te:TE}{g:TG}(he:PE X e te)(hg:PG X tg g)(hs:swapsWithSole [tg] e pos.line X.env=pure false:=by rfl)(hw:swappedStores [tg] e X.env=pure none:=by rfl)
 (h1:(assignEach [tg] X.env).map (·.2)=[assign tg X.env]:=by rfl):PS X (.Assign [tg] e pos) (c1u te g):=by
 intro pins s σ H D I h
 refine wpAny_Assign_stores (F8 (he pins s σ H _ I h) fun v s1 ⟨x,H1,I1,r1,q1⟩=> ?_) hs hw
 rw [h1]
 exact F8 (hg pins s1 σ H1 x v _ I1 r1 q1) fun _ s2 q=>q
theorem b6v{i:Nat}{x:Str}{e:AF}{te:TE}{pos':Pos}(hN:X.N.Nodup)(hi:X.N[i]?=some x)(hx:Loc X.env.scope x)(he:PE X e te)(hs:swapsWith e (some (.Name x pos')) pos.line X.env=pure false:=by rfl)(hf:X.fn x=true\/X.env.scope.names.lookup x=some .local:=by first|exact .inl rfl|exact .inr rfl|assumption):
 PS X (.Assign [.Name x pos'] e pos) (c1u te (a2O i)):=by
 intro pins s σ H D I h
 refine wpAny_Assign_Name (F8 (he pins s σ H _ I h) fun v s1 ⟨y,H1,I1,r1,q1⟩=> ?_) hs
 exact a2j I1 hN hi hx r1 (fun s2 I2=>⟨_,H1,I2,q1⟩) hf
def c2g(i j:Nat)(ta:TA):TS:=fun D σ H=>ta σ H fun vs H1=>∃v w,vs=[v,w]/\D.nx ((σ.set i (some v)).set j (some w)) H1
theorem c0e{i j:Nat}{x y:Str}{a b:AF}{ta:TA}{px py pt:Pos}{kt k2 pt2}(hc:X.calm=true)(hN:X.N.Nodup)(hi:X.N[i]?=some x)(hj:X.N[j]?=some y)(hij:i≠j)
 (hx:X.env.scope.names.lookup x=some .local) (hy:X.env.scope.names.lookup y=some .local) (ha:PA X [a,b] ta)
 (hw:swappedStores [.Tuple [.Name x px,.Name y py] kt pt] (.Tuple [a,b] k2 pt2) X.env=pure (some [x,y]))
 (hs:swapsWithSole [.Tuple [.Name x px,.Name y py] kt pt] (.Tuple [a,b] k2 pt2) pos.line X.env=pure false:=by rfl):
 PS X (.Assign [.Tuple [.Name x px,.Name y py] kt pt] (.Tuple [a,b] k2 pt2) pos) (c2g i j ta):=by
 intro pins s σ H D I h
 rw [exec_Assign_arm]
 refine AE (wpAny_standAt ?_)
 rw [hs]
 refine AE (AJ ?_)
 rw [if_neg (by decide)]
 refine AE (Tuple_ (F8 (ha _ pins s σ H _ I h) fun us s1 ⟨vs,H1,I1,r1,q1⟩=> ?_))
 obtain⟨v,w,e1,q1⟩:=q1
 subst e1
 obtain⟨u1,u2,rfl,rv,rw'⟩:∃u1 u2,us=[u1,u2]/\m3 v u1/\m3 w u2:=by
  cases r1 with
  |cons p q=>
   cases q with
   |cons p' q'=>
    cases q'
    exact⟨_,_,rfl,p,p'⟩
 refine wpAny_newObj_type ?_ (by show 2<=AL;decide)
 have I2:g9 X pins σ H1 {s1 with heap:=s1.heap.push {cls:= .type "tuple",data:= .seq [u1,u2].toArray}}:=I1.kept (t':=s1.toks) fun b o e=>AY _ e
 rw [hw]
 refine AE (AJ ?_)
 show AG (model X.prog X.w) X.A (do rule "assign.swapped-stores";let items<-unpackItems (.ref s1.heap.objs.size) 2 none;assignInOrder [fun v=>bindName X.env y v,fun v=>bindName X.env x v] items.reverse;pure Flow.next) _ _ _
 refine AE (wpAny_rule (AE (unpackItems_tuple (items:= #[u1,u2]) (I.ok.hd hc) (IsTup.new s1.heap _) fun h' hx'=> ?_)))
 have I3:=I2.kept (h':=h') (t':=s1.toks) fun b o e=>hx' b o (Aj (Ad e)) e
 show AG _ _ (assignInOrder [fun v=>bindName X.env y v,fun v=>bindName X.env x v] [u2,u1]>>=fun _=>pure Flow.next) _ _ _
 refine AE (assignInOrder_cons (wpAny_bindName (a2j I3 hN hj (.inl hy) rw' (fun s2 I4=> ?_) (.inr hy))))
 refine assignInOrder_cons (wpAny_bindName (a2j I4 hN hi (.inl hx) rv (fun s3 I5=>assignInOrder_nil (AJ ?_)) (.inr hx)))
 rw [List.set_comm _ _ (Ne.symm hij)] at I5
 exact⟨_,H1,I5,q1⟩
def c2a(i:Nat)(te:TE)(ti:TIp):TS:=fun D σ H=>∃x,σ[i]?=some (some x)/\te σ H fun y H1=>ti x y H1 fun z H2=>D.nx (σ.set i (some z)) H2
theorem c0d{i:Nat}{x:Str}{e:AF}{te:TE}{op:Operator}{ti:TIp}{pos':Pos}(hN:X.N.Nodup)(hi:X.N[i]?=some x)(hx:Loc X.env.scope x)(he:PE X e te)(ho:PIp X op ti)(hf:X.fn x=true\/X.env.scope.names.lookup x=some .local:=by first|exact .inl rfl|exact .inr rfl|assumption):
 PS X (.AugAssign (.Name x pos') op e pos) (c2a i te ti):=by
 intro pins s σ H D I h
 obtain⟨v,e1,h⟩:=h
 obtain⟨m,hn,hl⟩:=I.loc
 have vis:Vis X.env.scope x:=by rcases hx with k|k;exact .inl k;exact .inr (.inl k)
 obtain⟨u,r,l⟩:=hl i x v hi e1 vis
 refine wpAny_AugAssign_Name ?_
 have go:AG (model X.prog X.w) X.A (eval e X.env) (fun w s₂=>AG (model X.prog X.w) X.A (inplaceOp op u w) (fun r s₃=>AG (model X.prog X.w) X.A (storeName X.env x r) (fun _=>SP X pins D .next) X.xe s₃) X.xe s₂) X.xe s:=by
  refine F8 (he pins s σ H _ I h) fun w s1 ⟨y,H1,I1,r1,q1⟩=> ?_
  refine F8 (ho pins s1 σ H1 v y u w _ I1 r r1 q1) fun z s2 ⟨zv,H2,I2,r2,q2⟩=> ?_
  exact a2j I2 hN hi hx r2 (fun s3 I3=>⟨_,H2,I3,q2⟩) hf
 rcases l with⟨hk,hm⟩|⟨hk,c,hc,hcell⟩
 ·exact wpAny_loadName_local I.ok.kind hk hn hm go
 ·rcases hk with hk|hk
  ·exact wpAny_loadName_cell I.ok.kind hk hc hcell go
  ·rcases hx with k|k
   ·have:X.env.scope.names.lookup x=some .free:=hk
    rw [k] at this;cases this
   ·have:X.env.scope.names.lookup x=some .free:=hk
    rw [k] at this;cases this
end
section
variable {X:Cx}{pos:Pos}
def c0z(c:TT)(tb:TS):TS:=fun D σ H=>∃W:Nat->St->Hp->Prop,(∃m,W m σ H)/\∀m σ H,W m σ H->
 c σ H fun b H1=>if b=true then ∃N:St->Hp->Prop,(∀σ' H',N σ' H'->∃m',m'<m/\W m' σ' H')/\tb {D with nx:=N,ct:=N,bk:=D.nx} σ H1 else D.nx σ H1
theorem b6w{c:AF}{body:List Stmt}{tc:TT}{tb:TS}(hp:PassesOwn (model X.prog X.w) X.A X.env X.xe)(hc:PT X c tc)(hb:PSs X body tb):PS X (.While c body [] pos) (c0z tc tb):=by
 intro pins s σ H D I h
 obtain⟨W,⟨m0,w0⟩,turn⟩:=h
 refine wpAny_While (codeAny_whileLoop (fun n s'=>∃σ' H',g9 X pins σ' H' s'/\W n σ' H') ?_ m0 ⟨σ,H,I,w0⟩)
 rintro n s1 ⟨σ1,H1,I1,w1⟩
 refine wpAny_passesOwn hp (F8 (hc pins s1 σ1 H1 _ I1 (turn n σ1 H1 w1)) fun b s2 ⟨H2,I2,q2⟩=> ?_)
 cases b with
 |true=>
  obtain⟨N,hN,q2⟩:=q2
  rw [if_pos rfl]
  refine wpAny_passesOwn hp (F8 (hb pins s2 σ1 H2 _ I2 q2) fun f s3 q3=> ?_)
  cases f with
  |next=>
   obtain⟨σ3,H3,I3,n3⟩:=q3
   obtain⟨m',hm,w3⟩:=hN σ3 H3 n3
   exact⟨m',hm,σ3,H3,I3,w3⟩
  |cont=>
   obtain⟨σ3,H3,I3,n3⟩:=q3
   obtain⟨m',hm,w3⟩:=hN σ3 H3 n3
   exact⟨m',hm,σ3,H3,I3,w3⟩
  |brk=>exact q3
  |ret v=>exact q3
 |false=>
  rw [if_neg At]
  exact wpAny_execs_nil ⟨σ1,H2,I2,q2⟩
end
structure It where
 go:Nat->Hp->Prop
 yld:Nat->Hp->V->Hp->Prop
 stop:Nat->Hp->Prop
def a38(X:Cx)(pins:List (AB×Obj))(H:Hp)(b:AB):Prop:=
 H b=none/\b≠X.env.locals/\b∉X.fs/\(b∈X.ex\/X.s₀.heap.objs.size<=b)/\(∀x c,X.env.cells.lookup x=some c->c≠b)/\∀p∈X.pn++pins,p.1≠b
theorem g9.fpOk{X:Cx}{pins:List (AB×Obj)}{σ:St}{H H':Hp}{s:AC}{b:AB}(I:g9 X pins σ H s)(hb:s.heap.objs.size<=b)(hn:H' b=none):a38 X pins H' b:=by
 refine⟨hn,Nat.ne_of_gt (BB I.lt hb),I.nofs hb,.inr (Nat.le_trans I.sz hb),fun x c e z=> ?_,fun p hp z=> ?_⟩
 ·obtain⟨v,q⟩:=I.cell x c e
  exact absurd (BB q.lt (by rw [z];exact hb)) (Nat.lt_irrefl _)
 ·exact absurd (BB (Ad (I.pin p hp).1) (by rw [z];exact hb)) (Nat.lt_irrefl _)
structure b09(P:AN)(w:AI)(K:AD)(tg:AF)(J:It)(fp:List AB)(it:AB)(tn:Nat->Heap->Prop):Prop where
 mem:it∈fp
 obj:∀i h,tn i h->∀b∈fp,∃o,h.get? b=some o/\∀v,o.data≠.cell v
 keep:∀i h h',tn i h->(∀b∈fp,∀o,h.get? b=some o->h'.get? b=some o)->tn i h'
 item:∀(X:Cx),X.prog=P->X.w=w->X.K=K->X.calm=true->∀(i:Nat) (pins:List (AB×Obj)) (s:AC) (σ:St) (H:Hp) (E:AA->AC->Prop),g9 X pins σ H s->(∀b∈fp,a38 X pins H b)->tn i s.heap->J.go i H->
  AG (model P w) X.A (pyNext (.ref it)) (fun r s1=>∃u,r=some u/\
   AG (model P w) X.A (letOwnedTupleGo tg (.ref it) u) (fun _ s2=>∃x H',g9 X pins σ H' s2/\m3 x u/\J.yld i H x H'/\tn (i+1) s2.heap/\∀b∈fp,H' b=none) E s1) E s
 done:∀(X:Cx),X.prog=P->X.w=w->X.K=K->X.calm=true->∀(i:Nat) (pins:List (AB×Obj)) (s:AC) (σ:St) (H:Hp) (E:AA->AC->Prop),g9 X pins σ H s->(∀b∈fp,a38 X pins H b)->tn i s.heap->J.stop i H->
   AG (model P w) X.A (pyNext (.ref it)) (fun r s1=>r=none/\g9 X pins σ H s1) E s
 self:∀(A:AR) (i:Nat) (s:AC) (Q:AA->AC->Prop) (E:AA->AC->Prop),tn i s.heap->Q (.ref it) s->AG (model P w) A (pyIter (.ref it)) Q E s
abbrev TI:=St->Hp->(It->Hp->Prop)->Prop
def PIE(X:Cx)(pins:List (AB×Obj))(σ:St)(tg:AF)(R:It->Hp->Prop)(itv:AA)(s2:AC):Prop:=
 ∃(it:AB) (fp:List AB) (tn:Nat->Heap->Prop) (J:It) (H':Hp),itv= .ref it/\g9 X pins σ H' s2/\b09 X.prog X.w X.K tg J fp it tn/\tn 0 s2.heap/\(∀b∈fp,a38 X pins H' b)/\R J H'
def PI(X:Cx)(tg iter:AF)(wi:TI):Prop:=
 ∀(pins:List (AB×Obj)) (s:AC) (σ:St) (H:Hp) (R:It->Hp->Prop),g9 X pins σ H s->wi σ H R->
  AG (model X.prog X.w) X.A (eval iter X.env) (fun v s1=>AG (model X.prog X.w) X.A (pyIter v) (PIE X pins σ tg R) X.xe s1) X.xe s
theorem b2p{M:Model}{A:AR}{E:AA->AC->Prop}{s:AC}{tg:AF}{it:AB}{u:AA}{o:Obj}{n:String}{vs:Array AA}{Q:Unit->AC->Prop}(ho:s.heap.get? it=some o)(hc:o.cls= .type n)(hd:o.data= .fields vs)
 (hn:["enumerate","zip","dict_itemiterator","dict_reverseitemiterator","odict_iterator","itertools.zip_longest","itertools.pairwise"].contains n=false) (hQ:Q () s):AG M A (letOwnedTupleGo tg (.ref it) u) Q E s:=by
 unfold letOwnedTupleGo
 cases tg<;>first
  |exact AJ hQ
  |(cases u<;>first
   |exact AJ hQ
   |(refine AE (wpAny_load ho ?_)
     rw [hc,hd]
     show AG M A (if(["enumerate","zip","dict_itemiterator","dict_reverseitemiterator","odict_iterator","itertools.zip_longest","itertools.pairwise"].contains n && vs[0]?==some (rawInt _))=true then _ else _) Q E s
     rw [if_neg (by intro h;rw [hn,Bool.false_and] at h;cases h)]
     exact AJ hQ))
def Itl(K:AD)(a:AB):It:=
 ⟨fun i H=>∃xs x,S2 K H a xs/\xs[i]?=some x,fun i H x H'=>H'=H/\∀xs,S2 K H a xs->xs[i]?=some x,fun i H=>∃xs,S2 K H a xs/\xs.length<=i⟩
def Itt(K:AD)(a:AB):It:=
 ⟨fun i H=>∃xs x,Z1 K H a xs/\xs[i]?=some x,fun i H x H'=>H'=H/\∀xs,Z1 K H a xs->xs[i]?=some x,fun i H=>∃xs,Z1 K H a xs/\xs.length<=i⟩
def Itr(lo:Int)(n:Nat):It:=⟨fun i _=>i<n,fun i H x H'=>H'=H/\x= .int (lo+i),fun i _=>n<=i⟩
theorem b4d{P:AN}{w:AI}{K:AD}{tg:AF}(a it:AB):b09 P w K tg (Itl K a) [it] it (fun i h=>h.IsListIter it a i) where
 mem:=by simp
 obj:=fun i h st b hb=>by
  have e:b=it:=by simpa using hb
  subst e
  obtain⟨o,e,c,d⟩:=st
  exact⟨o,e,fun v z=>by rw [d] at z;cases z⟩
 keep:=fun i h h' st k=>st.at fun o e=>k it (by simp) o e
 item:=by
  intro X hP hw hK hc i pins s σ H E I hf st hg
  subst hP hw hK
  obtain⟨xs,x,hq,hx⟩:=hg
  obtain⟨its,rv,p,hz⟩:=I.list hq
  obtain⟨u,hu,ru⟩:=rv.get hx
  obtain⟨f0,f1,f2,f3,f4,f5⟩:=hf it (by simp)
  refine wpAny_pyNext_list_item st p.isList (x:=u) (by simpa using hu) fun h' st' sb=> ?_
  have I1:g9 X pins σ H {s with heap:=h'}:=I.turned (t':=s.toks) (fun b o hb e=>(sb.2 b hb).trans e) f0 f1 f3 f4 f5
  obtain⟨o,e,c,d⟩:=id st'
  exact⟨u,rfl,b2p (s:={s with heap:=h'}) e c d (by decide) ⟨x,H,I1,ru,⟨rfl,fun ys hy=>by rw [I.list_inj hy hq];exact hx⟩,st',fun b hb=>(hf b hb).1⟩⟩
 done:=by
   intro X hP hw hK hc i pins s σ H E I hf st hg
   subst hP hw hK
   obtain⟨xs,hq,hx⟩:=hg
   obtain⟨its,rv,p,hz⟩:=I.list hq
   obtain⟨f0,f1,f2,f3,f4,f5⟩:=hf it (by simp)
   have hl:=rv.length
   exact wpAny_pyNext_list_end (I.ok.hd hc) st p.isList (by simp;lia) fun h' eb=>⟨rfl,I.turned (t':=s.toks) (fun b o hb e=>eb b o hb e) f0 f1 f3 f4 f5⟩
 self:=fun _ _ _ _ _ st h=>wpAny_pyIter_listiter st h
theorem b1Y{P:AN}{w:AI}{K:AD}{tg:AF}(a it:AB):b09 P w K tg (Itt K a) [it] it (fun i h=>h.IsTupleIter it a i) where
 mem:=by simp
 obj:=fun i h st b hb=>by
  have e:b=it:=by simpa using hb
  subst e
  obtain⟨o,e,c,d⟩:=st
  exact⟨o,e,fun v z=>by rw [d] at z;cases z⟩
 keep:=fun i h h' st k=>st.at fun o e=>k it (by simp) o e
 item:=by
  intro X hP hw hK hc i pins s σ H E I hf st hg
  subst hP hw hK
  obtain⟨xs,x,hq,hx⟩:=hg
  obtain⟨its,rv,p,hz⟩:=I.tuple hq
  obtain⟨u,hu,ru⟩:=rv.get hx
  obtain⟨f0,f1,f2,f3,f4,f5⟩:=hf it (by simp)
  refine wpAny_pyNext_tuple_item st (show s.heap.IsTuple a its.toArray from p) (x:=u) (by simpa using hu) fun h' st' sb=> ?_
  have I1:g9 X pins σ H {s with heap:=h'}:=I.turned (t':=s.toks) (fun b o hb e=>(sb.2 b hb).trans e) f0 f1 f3 f4 f5
  obtain⟨o,e,c,d⟩:=id st'
  exact⟨u,rfl,b2p (s:={s with heap:=h'}) e c d (by decide) ⟨x,H,I1,ru,⟨rfl,fun ys hy=>by rw [I.tuple_inj hy hq];exact hx⟩,st',fun b hb=>(hf b hb).1⟩⟩
 done:=by
   intro X hP hw hK hc i pins s σ H E I hf st hg
   subst hP hw hK
   obtain⟨xs,hq,hx⟩:=hg
   obtain⟨its,rv,p,hz⟩:=I.tuple hq
   obtain⟨f0,f1,f2,f3,f4,f5⟩:=hf it (by simp)
   have hl:=rv.length
   exact wpAny_pyNext_tuple_end (I.ok.hd hc) st (show s.heap.IsTuple a its.toArray from p) (by simp;lia) fun h' eb=>⟨rfl,I.turned (t':=s.toks) (fun b o hb e=>eb b o hb e) f0 f1 f3 f4 f5⟩
 self:=fun _ _ _ _ _ st h=>wpAny_pyIter_tupleiter st h
theorem b1X{P:AN}{w:AI}{K:AD}{tg:AF}(it:AB)(lo:Int)(n:Nat):b09 P w K tg (Itr lo n) [it] it (fun i h=>IsRangeIter h it (lo+(i:Nat)*1) ((n:Int) - (i:Nat)) 1) where
 mem:=by simp
 obj:=fun i h st b hb=>by
  have e:b=it:=by simpa using hb
  subst e
  exact⟨_,st,fun v z=>by
   have z':Data.fields _=Data.cell v:=z
   cases z'⟩
 keep:=fun i h h' st k=>k it (by simp) _ st
 item:=by
  intro X hP hw hK hc i pins s σ H E I hf st hg
  subst hP hw hK
  obtain⟨f0,f1,f2,f3,f4,f5⟩:=hf it (by simp)
  have W:=Walks.range (prog:=X.prog) (w:=X.w) (I.ok.hd hc) it lo 1 n
  refine W.item i s _ _ hg st fun v h' tk hv st' kk=> ?_
  obtain⟨t,rfl⟩:=hv
  have I1:g9 X pins σ H {s with heap:=h',toks:=tk}:=I.turned (fun b o hb e=>kk b o (by simpa using hb) e) f0 f1 f3 f4 f5
  refine⟨_,rfl,b2p (s:={s with heap:=h',toks:=tk}) (n:="range_iterator") st' rfl rfl (by decide) ⟨.int (lo+i),H,I1,⟨t, ?_⟩,⟨rfl,rfl⟩,st',fun b hb=>(hf b hb).1⟩⟩
  rw [Int.mul_one]
 done:=by
   intro X hP hw hK hc i pins s σ H E I hf st hg
   subst hP hw hK
   obtain⟨f0,f1,f2,f3,f4,f5⟩:=hf it (by simp)
   exact wpAny_pyNext_range_end (I.ok.hd hc) st (by have:n<=i:=hg;lia) fun h' eb=>⟨rfl,I.turned (t':=s.toks) (fun b o hb e=>eb b o hb e) f0 f1 f3 f4 f5⟩
 self:=fun _ _ _ _ _ st h=>wpAny_pyIter_rangeiter st h
section
variable {X:Cx}{tg:AF}
theorem b6A{pins:List (AB×Obj)}{σ:St}{H:Hp}{s:AC}{R:It->Hp->Prop}{E:AA->AC->Prop}{lo hi:Int}{t u v:Tok}{tk:Nat}(I:g9 X pins σ H s)(h1: -(2 ^ 62)<=lo)(h2:lo<2 ^ 62)(h3: -(2 ^ 62)<=hi)(h4:hi<2 ^ 62)
 (q:R (Itr lo (hi - lo).toNat) H):AG (model X.prog X.w) X.A (pyIter (.ref s.heap.objs.size)) (PIE X pins σ tg R) E {s with heap:=s.heap.push {cls:= .type "range",data:= .fields #[.int lo t,.int hi u,.int 1 v]},toks:=tk}:=by
 refine wpAny_pyIter_range (IsRange.new ..) (small_one h1 h2 h3 h4) ?_
 have I1:g9 X pins σ H {s with heap:=s.heap.push {cls:= .type "range",data:= .fields #[.int lo t,.int hi u,.int 1 v]},toks:=tk}:=I.kept fun b o e=>AY _ e
 refine⟨(s.heap.push {cls:= .type "range",data:= .fields #[.int lo t,.int hi u,.int 1 v]}).objs.size,[(s.heap.push {cls:= .type "range",data:= .fields #[.int lo t,.int hi u,.int 1 v]}).objs.size],_,_,H,rfl,
  I1.kept (t':=tk) fun b o e=>AY _ e,b1X _ lo (hi - lo).toNat, ?_,fun b hb=> ?_,q⟩
 ·have e1:lo+((0:Nat):Int)*1=lo:=by simp
  have e2:(((hi - lo).toNat:Nat):Int) - ((0:Nat):Int)=Builtin.Range.rangeSize lo hi 1:=by rw [rangeSize_one];split<;>lia
  show IsRangeIter _ _ (lo+((0:Nat):Int)*1) ((((hi - lo).toNat:Nat):Int) - ((0:Nat):Int)) 1
  rw [e1,e2]
  exact An _ rfl
 ·have e:b=(s.heap.push {cls:= .type "range",data:= .fields #[.int lo t,.int hi u,.int 1 v]}).objs.size:=by simpa using hb
  subst e
  exact I1.fpOk (AM _) (I1.hok.fresh (AM _))
def c09(ta:TA):TI:=fun σ H R=>ta σ H fun vs H1=>∃j:Int,vs=[.int j]/\ -(2 ^ 62)<=j/\j<2 ^ 62/\R (Itr 0 j.toNat) H1
theorem a8J{a:AF}{ta:TA}{p pos:Pos}(hg:Gl X "range")(hm:X.mg "range"=none)(ha:PA X [a] ta)(hs:AT [a] X.env=[(false,eval a X.env)]:=by rfl):PI X tg (.Call (.Name "range" p) [a] [] pos) (c09 ta):=by
 intro pins s σ H R I h
 refine Call_ (a6G I hg hm boot_range (PyProof.Rows.callWith_type1 (F8 (ha pos pins s σ H _ I h) fun us s1 ⟨vs,H1,I1,r1,q1⟩=> ?_) hs rfl))
 obtain⟨j,e,q1,q2,q⟩:=q1
 subst e
 cases r1 with
 |cons r rr=>
  cases rr
  obtain⟨t,rfl⟩:=r
  exact call_range_1 (b6A I1 (by lia) (by lia) q1 q2 (by simpa using q))
def c2c(wi:TI)(g:TG)(tb:TS):TS:=fun D σ H=>wi σ H fun J H1=>∃W:Nat->Nat->St->Hp->Prop,(∃m,W 0 m σ H1)/\∀i m σ H,W i m σ H->
 (J.stop i H/\D.nx σ H)\/(J.go i H/\∃N:St->Hp->Prop,(∀σ' H',N σ' H'->∃m',m'<m/\W (i+1) m' σ' H')/\∀x H',J.yld i H x H'->g x σ H' fun σ2 H2=>tb {D with nx:=N,ct:=N,bk:=D.nx} σ2 H2)
def a64(fp:List AB)(h:Heap):List (AB×Obj):=fp.filterMap fun b=>(h.get? b).map fun o=>(b,o)
theorem a1a{fp:List AB}{h:Heap}{b:AB}{o:Obj}(hb:b∈fp)(e:h.get? b=some o):(b,o)∈a64 fp h:=List.mem_filterMap.mpr ⟨b,hb,by rw [e];rfl⟩
theorem b3U{fp:List AB}{h:Heap}{p:AB×Obj}(hp:p∈a64 fp h):p.1∈fp/\h.get? p.1=some p.2:=by
 obtain⟨b,hb,e⟩:=List.mem_filterMap.mp hp
 cases q:h.get? b with
 |none=>rw [q] at e;cases e
 |some o=>
  rw [q] at e
  have e':(b,o)=p:=Option.some.inj e
  subst e'
  exact⟨hb,q⟩
theorem g9.pinned{pins:List (AB×Obj)}{σ:St}{H:Hp}{s:AC}{fp:List AB}(I:g9 X pins σ H s)(hf:∀b∈fp,a38 X pins H b)(ho:∀b∈fp,∃o,s.heap.get? b=some o/\∀v,o.data≠.cell v):g9 X (pins++a64 fp s.heap) σ H s:=
 I.pins_of fun p hp=>(Ar.mp hp).elim (fun z=>I.pin p (Az _ z)) fun z=>by
  obtain⟨hb,e⟩:=b3U z
  obtain⟨f0,f1,f2,_⟩:=hf p.1 hb
  obtain⟨o,e',d⟩:=ho p.1 hb
  rw [e] at e';cases e'
  exact⟨e,f0,f1,f2,d⟩
theorem g9.unpinned{pins pl:List (AB×Obj)}{σ:St}{H:Hp}{s:AC}(I:g9 X (pins++pl) σ H s):g9 X pins σ H s:=I.pins_of fun p hp=>I.pin p (Az _ (Ay _ hp))
theorem b1R{iter:AF}{body:List Stmt}{wi:TI}{g:TG}{tb:TS}{pos:Pos}(hp:PassesOwn (model X.prog X.w) X.A X.env X.xe)(hc:X.calm=true)(hi:PI X tg iter wi)(hg:PG X tg g)(hb:PSs X body tb)
 (hs:∀x,foldedSetIterable iter X.env x=pure x:=by intro _;rfl):PS X (.For tg iter body [] pos) (c2c wi g tb):=by
 intro pins s σ H D I h
 refine wpAny_For (F8 (hi pins s σ H _ I h) fun v s1 h1=>F8 h1 fun itv s2 h2=> ?_) hs
 obtain⟨it,fp,tn,J,H2,e,I2,T,st2,f2,W,⟨m0,w0⟩,turn⟩:=h2
 subst e
 have stat:∀{H':Hp},(∀b∈fp,H' b=none)->∀b∈fp,a38 X pins H' b:=fun hn b hb=>⟨hn b hb,(f2 b hb).2⟩
 refine codeAny_forLoop_any (fun n s'=>∃i σ' H',g9 X pins σ' H' s'/\tn i s'.heap/\(∀b∈fp,H' b=none)/\W i n σ' H') ?_ m0 ⟨0,σ,H2,I2,st2,fun b hb=>(f2 b hb).1,w0⟩
 rintro n s3 ⟨i,σ3,H3,I3,st3,fr3,w3⟩
 rcases turn i n σ3 H3 w3 with⟨stop,qn⟩|⟨go,N,hN,step⟩
 ·refine wpAny_passesOwn hp (F8 (T.done X rfl rfl rfl hc i pins s3 σ3 H3 X.xe I3 (stat fr3) st3 stop) fun r s4 ⟨hr,I4⟩=> ?_)
  subst hr
  exact wpAny_execs_nil ⟨σ3,H3,I4,qn⟩
 ·refine wpAny_passesOwn hp (F8 (T.item X rfl rfl rfl hc i pins s3 σ3 H3 X.xe I3 (stat fr3) st3 go) fun r s4 ⟨u,hr,h4⟩=> ?_)
  subst hr
  refine wpAny_passesOwn hp (F8 h4 fun _ s5 ⟨x,H5,I5,r5,y5,st5,fr5⟩=> ?_)
  have I5':=I5.pinned (stat fr5) (T.obj _ _ st5)
  refine wpAny_passesOwn hp (F8 (hg _ s5 σ3 H5 x u _ I5' r5 (step x H5 y5)) fun _ s6 ⟨σ6,H6,I6,q6⟩=> ?_)
  refine wpAny_passesOwn hp (F8 (hb _ s6 σ6 H6 _ I6 q6) fun f s7 q7=> ?_)
  have again:∀{σ7:St} {H7:Hp},g9 X (pins++a64 fp s5.heap) σ7 H7 s7->N σ7 H7->∃m,m<n/\∃i σ' H',g9 X pins σ' H' s7/\tn i s7.heap/\(∀b∈fp,H' b=none)/\W i m σ' H':=fun {σ7 H7} I7 n7=>by
   obtain⟨m',hm,w7⟩:=hN σ7 H7 n7
   refine⟨m',hm,i+1,σ7,H7,I7.unpinned,T.keep _ _ _ st5 fun b hb o e=>(I7.pin (b,o) (Az _ (Az _ (a1a hb e)))).1,fun b hb=> ?_,w7⟩
   obtain⟨o,e,d⟩:=T.obj _ _ st5 b hb
   exact(I7.pin (b,o) (Az _ (Az _ (a1a hb e)))).2.1
  cases f with
  |next=>obtain⟨σ7,H7,I7,n7⟩:=q7;exact again I7 n7
  |cont=>obtain⟨σ7,H7,I7,n7⟩:=q7;exact again I7 n7
  |brk=>obtain⟨σ7,H7,I7,q7⟩:=q7;exact⟨σ7,H7,I7.unpinned,q7⟩
  |ret v=>obtain⟨x7,σ7,H7,I7,r7,q7⟩:=q7;exact⟨x7,σ7,H7,I7.unpinned,r7,q7⟩
end
theorem b5c{K:AD}{a:AB}{xs:List V}{g:TG}{tb:TS}{D:W2}{σ:St}{H:Hp}(Pv:Nat->St->Hp->Prop)(h0:Pv 0 σ H)(hl:∀i σ H,i<=xs.length->Pv i σ H->S2 K H a xs)
 (hs:∀i x σ H,xs[i]?=some x->Pv i σ H->g x σ H fun σ2 H2=>tb {D with nx:=Pv (i+1),ct:=Pv (i+1),bk:=D.nx} σ2 H2) (hd:∀σ H,Pv xs.length σ H->D.nx σ H):
 ∃W:Nat->Nat->St->Hp->Prop,(∃m,W 0 m σ H)/\∀i m σ H,W i m σ H->
  ((Itl K a).stop i H/\D.nx σ H)\/((Itl K a).go i H/\∃N:St->Hp->Prop,(∀σ' H',N σ' H'->∃m',m'<m/\W (i+1) m' σ' H')/\∀x H',(Itl K a).yld i H x H'->g x σ H' fun σ2 H2=>tb {D with nx:=N,ct:=N,bk:=D.nx} σ2 H2):=by
 refine⟨fun i m σ H=>m=xs.length - i/\i<=xs.length/\Pv i σ H,⟨xs.length,by simp,Nat.zero_le _,h0⟩, ?_⟩
 rintro i m σ H ⟨rfl,hi,p⟩
 have q:=hl i σ H hi p
 by_cases hlt:i<xs.length
 ·refine .inr ⟨⟨xs,xs[i],q,by simp [hlt]⟩,Pv (i+1),fun σ' H' p'=>⟨xs.length - (i+1),by lia,rfl,hlt,p'⟩,fun x H' y=> ?_⟩
  obtain⟨e,y⟩:=y
  subst e
  exact hs i x σ _ (y xs q) p
 ·have e:i=xs.length:=by lia
  subst e
  exact .inl ⟨⟨xs,q,AM _⟩,hd σ H p⟩
theorem b7x{K:AD}{a:AB}{xs:List V}{g:TG}{tb:TS}{D:W2}{σ:St}{H:Hp}(Pv:Nat->St->Hp->Prop)(h0:Pv 0 σ H)(hl:∀i σ H,i<=xs.length->Pv i σ H->Z1 K H a xs)
 (hs:∀i x σ H,xs[i]?=some x->Pv i σ H->g x σ H fun σ2 H2=>tb {D with nx:=Pv (i+1),ct:=Pv (i+1),bk:=D.nx} σ2 H2) (hd:∀σ H,Pv xs.length σ H->D.nx σ H):
 ∃W:Nat->Nat->St->Hp->Prop,(∃m,W 0 m σ H)/\∀i m σ H,W i m σ H->
  ((Itt K a).stop i H/\D.nx σ H)\/((Itt K a).go i H/\∃N:St->Hp->Prop,(∀σ' H',N σ' H'->∃m',m'<m/\W (i+1) m' σ' H')/\∀x H',(Itt K a).yld i H x H'->g x σ H' fun σ2 H2=>tb {D with nx:=N,ct:=N,bk:=D.nx} σ2 H2):=by
 refine⟨fun i m σ H=>m=xs.length - i/\i<=xs.length/\Pv i σ H,⟨xs.length,by simp,Nat.zero_le _,h0⟩, ?_⟩
 rintro i m σ H ⟨rfl,hi,p⟩
 have q:=hl i σ H hi p
 by_cases hlt:i<xs.length
 ·refine .inr ⟨⟨xs,xs[i],q,by simp [hlt]⟩,Pv (i+1),fun σ' H' p'=>⟨xs.length - (i+1),by lia,rfl,hlt,p'⟩,fun x H' y=> ?_⟩
  obtain⟨e,y⟩:=y
  subst e
  exact hs i x σ _ (y xs q) p
 ·have e:i=xs.length:=by lia
  subst e
  exact .inl ⟨⟨xs,q,AM _⟩,hd σ H p⟩
theorem b3r{lo:Int}{n:Nat}{g:TG}{tb:TS}{D:W2}{σ:St}{H:Hp}(Pv:Nat->St->Hp->Prop)(h0:Pv 0 σ H)
 (hs:∀i σ H,i<n->Pv i σ H->g (.int (lo+i)) σ H fun σ2 H2=>tb {D with nx:=Pv (i+1),ct:=Pv (i+1),bk:=D.nx} σ2 H2) (hd:∀σ H,Pv n σ H->D.nx σ H):
 ∃W:Nat->Nat->St->Hp->Prop,(∃m,W 0 m σ H)/\∀i m σ H,W i m σ H->
  ((Itr lo n).stop i H/\D.nx σ H)\/((Itr lo n).go i H/\∃N:St->Hp->Prop,(∀σ' H',N σ' H'->∃m',m'<m/\W (i+1) m' σ' H')/\∀x H',(Itr lo n).yld i H x H'->g x σ H' fun σ2 H2=>tb {D with nx:=N,ct:=N,bk:=D.nx} σ2 H2):=by
 refine⟨fun i m σ H=>m=n - i/\i<=n/\Pv i σ H,⟨n,by simp,Nat.zero_le _,h0⟩, ?_⟩
 rintro i m σ H ⟨rfl,hi,p⟩
 by_cases hlt:i<n
 ·refine .inr ⟨hlt,Pv (i+1),fun σ' H' p'=>⟨n - (i+1),by lia,rfl,hlt,p'⟩,fun x H' y=> ?_⟩
  obtain⟨e,y⟩:=y
  subst e y
  exact hs i σ _ hlt p
 ·have e:i=n:=by lia
  subst e
  exact .inl ⟨AM _,hd σ H p⟩
abbrev R2:=V->V->Hp->VK->Prop
def OpR(X:Cx)(f:AA->AA->Sem AA)(r:R2):Prop:=
 ∀(pins:List (AB×Obj)) (s:AC) (σ:St) (H:Hp) (x y:V) (v u:AA) (Q:VK),g9 X pins σ H s->m3 x v->m3 y u->r x y H Q->
  AG (model X.prog X.w) X.A (f v u) (EP X pins σ Q) X.xe s
def A6(X:Cx)(f:AA)(r:List V->Hp->VK->Prop):Prop:=
 ∀(pins:List (AB×Obj)) (s:AC) (σ:St) (H:Hp) (xs:List V) (us:List AA) (Q:VK),g9 X pins σ H s->j9 xs us->r xs H Q->
  AG (model X.prog X.w) X.A (call f us) (EP X pins σ Q) X.xe s
def c1L(X:Cx)(r:V->Hp->(Bool->Hp->Prop)->Prop):Prop:=
 ∀(pins:List (AB×Obj)) (s:AC) (σ:St) (H:Hp) (x:V) (v:AA) (Q:Bool->Hp->Prop),g9 X pins σ H s->m3 x v->r x H Q->
  AG (model X.prog X.w) X.A (truthy v) (TP X pins σ Q) X.xe s
def tOp(r:R2)(ta tb:TE):TE:=fun σ H Q=>ta σ H fun x H1=>tb σ H1 fun y H2=>r x y H2 Q
def rI(C:Int->Int->Prop)(g:Int->Int->V):R2:=fun x y H Q=>∃i j,x= .int i/\y= .int j/\C i j/\Q (g i j) H
def rI0(g:Int->Int->V):R2:=fun x y H Q=>∃i j,x= .int i/\y= .int j/\Q (g i j) H
section
variable {X:Cx}{a b c:AF}{ta tb tc:TE}{pos:Pos}
theorem b9b(ha:PE X a ta)(hb:PE X b tb){pins:List (AB×Obj)}{s:AC}{σ:St}{H:Hp}{R:V->V->Hp->Prop}(I:g9 X pins σ H s)
 (h:ta σ H fun x H1=>tb σ H1 fun y H2=>R x y H2) {Q:AA->AC->Prop} {f:AA->AA->Sem AA}
 (hf:∀v u s2 x y H2,g9 X pins σ H2 s2->m3 x v->m3 y u->R x y H2->AG (model X.prog X.w) X.A (f v u) Q X.xe s2):
 AG (model X.prog X.w) X.A (eval a X.env) (fun v s₁=>AG (model X.prog X.w) X.A (eval b X.env) (fun u s₂=>AG (model X.prog X.w) X.A (f v u) Q X.xe s₂) X.xe s₁) X.xe s:=by
 refine F8 (ha pins s σ H _ I h) fun v s1 ⟨x,H1,I1,r1,q1⟩=> ?_
 refine F8 (hb pins s1 σ H1 _ I1 q1) fun u s2 ⟨y,H2,I2,r2,q2⟩=> ?_
 exact hf v u s2 x y H2 I2 r1 r2 q2
theorem c1j{op:Operator}{r:R2}(ho:OpR X (binaryOp op) r)(ha:PE X a ta)(hb:PE X b tb):PE X (.BinOp a op b pos) (tOp r ta tb):=by
 intro pins s σ H Q I h
 exact wpAny_BinOp (b9b ha hb I h fun v u s2 x y H2 I2 rx ry q=>ho pins s2 σ H2 x y v u Q I2 rx ry q)
theorem opI{f:AA->AA->Sem AA}{C:Int->Int->Prop}{g:Int->Int->Int}
 (rule:∀(i j:Int) (t u:Tok) (s:AC) (Q:AA->AC->Prop) (E:AA->AC->Prop),C i j->Q (.int (g i j) s.toks) {s with toks:=s.toks+1}->AG (model X.prog X.w) X.A (f (.int i t) (.int j u)) Q E s):
 OpR X f (rI C fun i j=> .int (g i j)):=by
 intro pins s σ H x y v u Q I rx ry h
 obtain⟨i,j,rfl,rfl,hc,q⟩:=h
 obtain⟨t,rfl⟩:=rx
 obtain⟨t',rfl⟩:=ry
 exact rule i j t t' s _ _ hc ⟨.int (g i j),H,I.tok _,⟨_,rfl⟩,q⟩
theorem b9T{f:AA->AA->Sem AA}{g:Int->Int->Int}
 (rule:∀(i j:Int) (t u:Tok) (s:AC) (Q:AA->AC->Prop) (E:AA->AC->Prop),Q (.int (g i j) s.toks) {s with toks:=s.toks+1}->AG (model X.prog X.w) X.A (f (.int i t) (.int j u)) Q E s):
 OpR X f (rI0 fun i j=> .int (g i j)):=by
 intro pins s σ H x y v u Q I rx ry h
 obtain⟨i,j,rfl,rfl,q⟩:=h
 obtain⟨t,rfl⟩:=rx
 obtain⟨t',rfl⟩:=ry
 exact rule i j t t' s _ _ ⟨.int (g i j),H,I.tok _,⟨_,rfl⟩,q⟩
theorem c11{f:AA->AA->Sem AA}{g:Int->Int->Bool}
 (rule:∀(i j:Int) (t u:Tok) (s:AC) (Q:AA->AC->Prop) (E:AA->AC->Prop),Q (.bool (g i j)) s->AG (model X.prog X.w) X.A (f (.int i t) (.int j u)) Q E s):
 OpR X f (rI0 fun i j=> .bl (g i j)):=by
 intro pins s σ H x y v u Q I rx ry h
 obtain⟨i,j,rfl,rfl,q⟩:=h
 obtain⟨t,rfl⟩:=rx
 obtain⟨t',rfl⟩:=ry
 exact rule i j t t' s _ _ ⟨.bl (g i j),H,I,rfl,q⟩
def a5r(i j:Int):Prop:=0<j/\j<1073741824
def c0O(i j:Int):Prop:=0<=j/\j<=1000000/\i.natAbs<2 ^ 64
def a8W(i j:Int):Prop:=(-(2 ^ 64)<i/\i<2 ^ 64)\/(-(2 ^ 64)<j/\j<2 ^ 64)
theorem a8W.ok{i j:Int}(h:a8W i j):IntMulOk i j:=by
 rcases h with⟨h1,h2⟩|⟨h1,h2⟩
 ·exact .of_left (intBits_le_64 h1 h2)
 ·exact .of_right (intBits_le_64 h1 h2)
theorem b9U:OpR X (binaryOp .Add) (rI0 fun i j=> .int (i+j)):=b9T fun _ _ _ _ _ _ _ q=>add_int q
theorem b9Z:OpR X (binaryOp .Sub) (rI0 fun i j=> .int (i - j)):=b9T fun _ _ _ _ _ _ _ q=>sub_int q
theorem b9X:OpR X (binaryOp .Mult) (rI a8W fun i j=> .int (i*j)):=opI fun _ _ _ _ _ _ _ hc q=>mul_int q hc.ok
theorem b7Z:OpR X (binaryOp .FloorDiv) (rI a5r fun i j=> .int (i / j)):=opI fun i j _ _ _ _ _ hc q=>by
 have h1:(0:Int)<j:=hc.1
 have h2:j<1073741824:=hc.2
 exact floordiv_int (by lia) (by rw [Int.fdiv_eq_ediv_of_nonneg i (by lia)];exact q) (.inl (PyProof.noPylong_small (by lia)))
theorem b9W:OpR X (binaryOp .Mod) (rI (fun _ j=>0<j) fun i j=> .int (i % j)):=opI fun i j _ _ _ _ _ hc q=>by
 have h1:(0:Int)<j:=hc
 exact mod_int' (by lia) (by rw [Int.fmod_eq_emod_of_nonneg i (by lia)];exact q)
theorem b7C:OpR X (inplaceOp .Add) (rI0 fun i j=> .int (i+j)):=b9T fun _ _ _ _ _ _ _ q=>iadd_int q
end
def c19:V->V->Bool
 | .non,.non=>true| .non,.int _=>true| .int _,.non=>true| .non,.bl _=>true| .bl _,.non=>true| .non,.str _=>true| .str _,.non=>true
 | .int _,.int _=>true| .bl _,.bl _=>true| .str _,.str _=>true| .byt _,.byt _=>true
 | .int _,.str _=>true| .str _,.int _=>true| .bl _,.str _=>true| .str _,.bl _=>true
 |_,_=>false
def rEq:R2:=fun x y H Q=>c19 x y=true/\Q (.bl (decide (x=y))) H
theorem b7n{i j:Int}:decide (V.int i=V.int j)=(i==j):=by
 rw [Bool.eq_iff_iff]
 simp
theorem b9i{i j:Bool}:decide (V.bl i=V.bl j)=(i==j):=by
 rw [Bool.eq_iff_iff]
 simp
theorem b7o{i j:Str}:decide (V.str i=V.str j)=(i==j):=by
 rw [Bool.eq_iff_iff]
 simp
theorem b7m{i j:Array UInt8}:decide (V.byt i=V.byt j)=(i.toList==j.toList):=by
 rw [Bool.eq_iff_iff]
 cases i
 cases j
 simp
section
variable {X:Cx}{a b c:AF}{ta tb tc:TE}{pos:Pos}
theorem F9{pins:List (AB×Obj)}{σ:St}{H:Hp}{s:AC}{Q:VK}{k k':Bool}(I:g9 X pins σ H s)(q:Q (.bl k) H)(e:k=k'):EP X pins σ Q (.bool k') s:=by
 subst e
 exact⟨.bl k,H,I,rfl,q⟩
theorem c1g:OpR X (compareOp .Eq) rEq:=by
 intro pins s σ H x y v u Q I rx ry h
 obtain⟨hs,q⟩:=h
 cases x with
 |non=>
  cases rx
  cases y with
  |non=>cases ry;exact PySem.EqNone.eq_none_none (F9 I q (by simp))
  |bl j=>cases ry;exact PySem.EqNone.eq_none_bool (F9 I q (by simp))
  |int j=>obtain⟨t',rfl⟩:=ry;exact PySem.EqNone.eq_none_int (F9 I q (by simp))
  |str j=>obtain⟨t',rfl⟩:=ry;exact PySem.EqNone.eq_none_str (F9 I q (by simp))
  |_=>exact absurd (show false=true from hs) At
 |bl i=>
  cases rx
  cases y with
  |non=>cases ry;exact PySem.EqNone.eq_bool_none (F9 I q (by simp))
  |bl j=>cases ry;exact eq_bool (F9 I q b9i)
  |str j=>obtain⟨t',rfl⟩:=ry;exact PySem.EqMixed.eq_bool_str (F9 I q (by simp))
  |_=>exact absurd (show false=true from hs) At
 |int i=>
  obtain⟨t,rfl⟩:=rx
  cases y with
  |non=>cases ry;exact PySem.EqNone.eq_int_none (F9 I q (by simp))
  |int j=>obtain⟨t',rfl⟩:=ry;exact eq_int (F9 I q b7n)
  |str j=>obtain⟨t',rfl⟩:=ry;exact PySem.EqMixed.eq_int_str (F9 I q (by simp))
  |_=>exact absurd (show false=true from hs) At
 |str i=>
  obtain⟨t,rfl⟩:=rx
  cases y with
  |non=>cases ry;exact PySem.EqNone.eq_str_none (F9 I q (by simp))
  |bl j=>cases ry;exact PySem.EqMixed.eq_str_bool (F9 I q (by simp))
  |int j=>obtain⟨t',rfl⟩:=ry;exact PySem.EqMixed.eq_str_int (F9 I q (by simp))
  |str j=>obtain⟨t',rfl⟩:=ry;exact eq_str (F9 I q b7o)
  |_=>exact absurd (show false=true from hs) At
 |byt i=>
  obtain⟨t,rfl⟩:=rx
  cases y with
  |byt j=>obtain⟨t',rfl⟩:=ry;exact PySem.W.eq_bytes (F9 I q b7m)
  |_=>exact absurd (show false=true from hs) At
 |_=>cases y<;>exact absurd (show false=true from hs) At
theorem c1h:OpR X (compareOp .Lt) (rI0 fun i j=> .bl (decide (i<j))):=c11 fun _ _ _ _ _ _ _ q=>lt_int q
theorem b30:OpR X (compareOp .Lt) (fun x y H Q=>∃i j,x= .str i/\y= .str j/\Q (.bl (decide (i.cps.toList<j.cps.toList))) H):=by
 intro pins s σ H x y v u Q I rx ry h
 obtain⟨i,j,rfl,rfl,q⟩:=h
 obtain⟨t,rfl⟩:=rx
 obtain⟨t',rfl⟩:=ry
 exact lt_str (F9 I q rfl)
theorem b3Z:OpR X (compareOp .In) (fun x y H Q=>∃i j,x= .str i/\y= .str j/\Q (.bl (!(Builtin.Str.occurrences j i 0 j.length 1).isEmpty)) H):=by
 intro pins s σ H x y v u Q I rx ry h
 obtain⟨i,j,rfl,rfl,q⟩:=h
 obtain⟨t,rfl⟩:=rx
 obtain⟨t',rfl⟩:=ry
 exact in_str (F9 I q rfl)
theorem OpR.or{f:AA->AA->Sem AA}{r r':R2}(h:OpR X f r)(h':OpR X f r'):OpR X f (fun x y H Q=>r x y H Q\/r' x y H Q):=by
 intro pins s σ H x y v u Q I rx ry q
 rcases q with q|q
 ·exact h pins s σ H x y v u Q I rx ry q
 ·exact h' pins s σ H x y v u Q I rx ry q
theorem y0(b:AF){op:CmpOp}(h:op≠.In:=by decide)(h2:op≠.NotIn:=by decide):behindInMarks op b=false:=by
 have e1:(op==CmpOp.In)=false:=by cases op<;>first|rfl|exact absurd rfl h
 have e2:(op==CmpOp.NotIn)=false:=by cases op<;>first|rfl|exact absurd rfl h2
 cases b<;>simp [behindInMarks,e1,e2]
theorem b73{op:CmpOp}{r:R2}(ho:OpR X (compareOp op) r)(ha:PE X a ta)(hb:PE X b tb)(hm:behindInMarks op b=false):PE X (.Compare a [op] [b] pos) (tOp r ta tb):=by
 intro pins s σ H Q I h
 exact wpAny_Compare1 (b9b ha hb I h fun v u s2 x y H2 I2 rx ry q=>ho pins s2 σ H2 x y v u Q I2 rx ry q) hm
def c1C(t:TE):TT:=fun σ H Q=>t σ H fun x H'=>∃k,x= .bl k/\Q k H'
theorem b2I{op:CmpOp}{r:R2}(ho:OpR X (compareOp op) r)(ha:PE X a ta)(hb:PE X b tb)(hm:behindInMarks op b=false):PT X (.Compare a [op] [b] pos) (c1C (tOp r ta tb)):=by
 intro pins s σ H Q I h
 refine wpAny_isTrue_Compare1 (F8 (ha pins s σ H _ I h) fun v s1 ⟨x,H1,I1,r1,q1⟩=>F8 (hb pins s1 σ H1 _ I1 q1) fun u s2 ⟨y,H2,I2,r2,q2⟩=>
  F8 (ho pins s2 σ H2 x y v u _ I2 r1 r2 q2) fun c s3 ⟨z,H3,I3,r3,k,e,q3⟩=> ?_) hm
 subst e
 cases r3
 exact wpAny_truthy_bool ⟨H3,I3,q3⟩
def b84(K:AD)(x:V)(H:Hp)(k:Bool):Prop:=
 match x with
 | .non=>k=false
 | .bl b=>k=b
 | .int i=>k=(i !=0)
 | .str y=>y.length<=AL/\k=((y.length:Int) !=0)
 | .byt y=>y.size<=AL/\k=((y.size:Int) !=0)
 | .ref p=>(∃xs,S2 K H p xs/\k= !xs.isEmpty)\/(∃xs,Z1 K H p xs/\k= !xs.isEmpty)\/∃kvs,H p=some (.dK kvs)/\k= !kvs.isEmpty
 |_=>False
theorem b1r{κ:Type}{kvs:List (κ×V)}{vs:List (κ×AA)}(r:KV kvs vs):(!vs.isEmpty)= !kvs.isEmpty:=by
 cases r<;>rfl
theorem a6y{xs:List V}{its:List AA}(r:j9 xs its):(!its.toArray.isEmpty)= !xs.isEmpty:=by
 cases r<;>simp
theorem a4x:(AL:Nat)<2 ^ 63:=by rw [sizeLine_eq];decide
theorem c0E:c1L X (fun x H Q=>∃k,b84 X.K x H k/\Q k H):=by
 intro pins s σ H x v Q I rx h
 obtain⟨k,e,q⟩:=h
 have hl:=a4x
 have hs:AL=16777216:=sizeLine_eq
 cases x with
 |non=>
  cases rx
  have e':k=false:=e
  subst e'
  exact truthy_none ⟨H,I,q⟩
 |bl b=>
  cases rx
  have e':k=b:=e
  subst e'
  exact wpAny_truthy_bool ⟨H,I,q⟩
 |int i=>
  obtain⟨t,rfl⟩:=rx
  have e':k=(i !=0):=e
  subst e'
  exact PySem.P.truthy_int ⟨H,I,q⟩
 |str y=>
  obtain⟨t,rfl⟩:=rx
  obtain⟨hy,e'⟩:y.length<=AL/\k=((y.length:Int) !=0):=e
  subst e'
  exact PySem.P.truthy_str (by lia) ⟨H,I.tok _,q⟩
 |byt y=>
  obtain⟨t,rfl⟩:=rx
  obtain⟨hy,e'⟩:y.size<=AL/\k=((y.size:Int) !=0):=e
  subst e'
  exact PySem.W.truthy_bytes (by lia) ⟨H,I.tok _,q⟩
 |ref p=>
  cases rx
  have e':(∃xs,S2 X.K H p xs/\k= !xs.isEmpty)\/(∃xs,Z1 X.K H p xs/\k= !xs.isEmpty)\/∃kvs,H p=some (.dK kvs)/\k= !kvs.isEmpty:=e
  rcases e' with⟨xs,hx,e'⟩|⟨xs,hx,e'⟩|⟨kvs,hx,e'⟩
  ·subst e'
   obtain⟨its,r,pl,hz⟩:=I.list hx
   have hlen:=r.length
   exact wpAny_truthy_list pl.isList (by simp only [Ao];lia) ⟨H,I.tok _,by rw [a6y r];exact q⟩
  ·subst e'
   obtain⟨its,r,pl,hz⟩:=I.tuple hx
   have hlen:=r.length
   exact truthy_tuple pl (by simp only [Ao];lia) ⟨H,I.tok _,by rw [a6y r];exact q⟩
  ·subst e'
   obtain⟨hz,hS,vs,r,m⟩:kvs.length<=AL/\(p==sysModules)=false/\∃vs,KV kvs vs/\s.heap.DictOf (l7 X.prog X.w) p vs:=I.hok p _ hx
   have hlen:kvs.length=vs.length:=Paired.length r
   exact wpAny_truthy_dict hS m (by lia) ⟨H,I.tok _,by rw [b1r r];exact q⟩
 |_=>exact(show False from e).elim
theorem b6y(ha:PE X a ta)(he:∀whole,isTrue a X.env whole=(do let v<-whole;standAt a.pos;holding [v] (truthy v))):
 PT X a (fun σ H Q=>ta σ H fun x H'=>∃k,b84 X.K x H' k/\Q k H'):=by
 intro pins s σ H Q I h
 exact isTrue_plain (F8 (ha pins s σ H _ I h) fun v s1 ⟨x,H1,I1,r1,q1⟩=>c0E pins s1 σ H1 x v Q I1 r1 q1) (he _)
theorem b1N:OpR X (binaryOp .Add) (fun x y H Q=>∃i j,x= .str i/\y= .str j/\i.length+j.length<=AL/\Q (.str (i++j)) H):=by
 intro pins s σ H x y v u Q I rx ry h
 obtain⟨i,j,rfl,rfl,hz,q⟩:=h
 obtain⟨t,rfl⟩:=rx
 obtain⟨t',rfl⟩:=ry
 exact add_str (fun t' tk=>⟨.str (i++j),H,I.tok _,⟨_,rfl⟩,q⟩) hz
theorem Y7{x:V}{us:List AA}(r:j9 [x] us):∃u,us=[u]/\m3 x u:=by
 cases r with
 |cons r1 r2=>cases r2;exact⟨_,rfl,r1⟩
theorem c1I{x y:V}{us:List AA}(r:j9 [x,y] us):∃u w',us=[u,w']/\m3 x u/\m3 y w':=by
 cases r with
 |cons r1 r2=>
  cases r2 with
  |cons r3 r4=>cases r4;exact⟨_,_,rfl,r1,r3⟩
theorem b3a(hc:X.calm=true):A6 X (.builtin "min") (fun xs H Q=>∃i j,xs=[.int i,.int j]/\Q (.int (if j<i then j else i)) H):=by
 intro pins s σ H xs us Q I r h
 obtain⟨i,j,rfl,q⟩:=h
 obtain⟨u,w',rfl,⟨t,rfl⟩,⟨t',rfl⟩⟩:=c1I r
 refine min_two_ints (I.ok.hd hc) fun h' tk k=>⟨_,H,I.kept k, ?_,q⟩
 by_cases hj:j<i
 ·rw [if_pos hj,if_pos hj];exact⟨_,rfl⟩
 ·rw [if_neg hj,if_neg hj];exact⟨_,rfl⟩
end
structure c0Q(h:Heap)(x dx C:AB)(mA:Str->Option AA):Prop where
 obj:h.get? x=some (PySem.W.instObj C dx)
 ns:h.Ns1 dx mA
 ne:dx≠x
theorem b3I{h:Heap}{dx:AB}{mA:Str->Option AA}(n:h.Ns1 dx mA):∃od,h.get? dx=some od/\∀name,PySem.W.lookIn name od=some (mA name):=by
 obtain⟨o,es,ep,ho,hd,hk,_,hm⟩:=n
 refine⟨o,ho,fun name=> ?_⟩
 have e:=hm name
 unfold nsFind findBy at e
 rw [<-Array.find?_toList] at e
 unfold PySem.W.lookIn
 rw [hd]
 dsimp only
 split
 ·rename_i y q
  rw [q] at e
  exact congrArg some e
 ·rename_i q
  rw [q] at e
  have a:es.toList.any (·.refKey)=false:=by
   rw [List.any_eq_false]
   intro y hy
   obtain⟨z,t,hkey⟩:=hk y (Array.mem_toList_iff.mp hy)
   simp [DictEntry.refKey,hkey]
  have a':¬es.toList.any (·.refKey)=true:=by rw [a];exact At
  rw [if_neg a']
  exact congrArg some e
theorem c0Q.look{h:Heap}{x dx C:AB}{mA:Str->Option AA}(I:c0Q h x dx C mA):∃od,PySem.W.InstAt h x (PySem.W.instObj C dx) C (some od)/\∀name,PySem.W.lookIn name od=some (mA name):=
 let ⟨od,ho,hl⟩:=b3I I.ns
 ⟨od,⟨I.obj,rfl,rfl,ho⟩,hl⟩
section
variable {prog:AN}{w:AI}{A:AR}{E:AA->AC->Prop}{s:AC}{K:AD}{x dx C f:AB}{mA:Str->Option AA}{name:Str}{v:AA}
end
theorem a3n.some_of{v:V}{o:Option AA}(r:a3n (some v) o):∃u,o=some u/\m3 v u:=by
 cases o with
 |none=>exact(show False from r).elim
 |some u=>exact⟨u,rfl,r⟩
theorem a3n.none_of{o:Option AA}(r:a3n none o):o=none:=by
 cases o with
 |none=>rfl
 |some u=>exact(show False from r).elim
section
variable {P:AN}{w:AI}{H H':Hp}{h h':Heap}{a C dx:AB}{fs fs':List (Str×V)}
end
structure Cls(K:AD)(C:AB):Prop where
 pg:PySem.W.plainGet K C Str.empty=true
 hd:PySem.W.hasDictIn K C=true
 po:PySem.W.plainOver K C=true
 sa:PySem.W.findIn K (.ref C) "__setattr__"=some (some (.builtin "object.__setattr__"))
theorem Cls.get{K:AD}{C:AB}(c:Cls K C)(f:Str):PySem.W.plainGet K C f=true:=c.pg
section
variable {X:Cx}{pins:List (AB×Obj)}{σ:St}{H:Hp}{s:AC}{a C dx:AB}{fs:List (Str×V)}{f:Str}{v:V}{A:AR}{E:AA->AC->Prop}
theorem g9.made(I:g9 X pins σ H s):g9 X pins σ (upd (upd H s.heap.objs.size (.own (s.heap.objs.size+1))) (s.heap.objs.size+1) (.ins C s.heap.objs.size []))
 {s with heap:=(s.heap.push PySem.W.emptyDict).push (PySem.W.instObj C s.heap.objs.size)}:=by
 have e1:(s.heap.push PySem.W.emptyDict).get? s.heap.objs.size=some PySem.W.emptyDict:=An s.heap rfl
 have e2:((s.heap.push PySem.W.emptyDict).push (PySem.W.instObj C s.heap.objs.size)).get? (s.heap.objs.size+1)=some (PySem.W.instObj C s.heap.objs.size):=by
  have:=An (s.heap.push PySem.W.emptyDict) (o:=PySem.W.instObj C s.heap.objs.size) rfl
  rwa [Heap.size_push] at this
 have e3:(s.heap.push PySem.W.emptyDict).Ns s.heap.objs.size (fun _=>none):=⟨PySem.W.emptyDict, #[],_,e1,rfl,(fun e he=>absurd he (by simp)),fun _=>rfl⟩
 have I1:=I.laid (a:=s.heap.objs.size) (o:= .own (s.heap.objs.size+1)) (h':=s.heap.push PySem.W.emptyDict) (t':=s.toks) (fun b u q=>AY _ q) (AM _) ⟨_,e1⟩
 refine I1.laid (a:=s.heap.objs.size+1) (o:= .ins C s.heap.objs.size []) (t':=s.toks) (fun b u q=>AY _ q) (Nat.le_of_eq (Heap.size_push _ _)) ?_
 have ne:s.heap.objs.size≠s.heap.objs.size+1:=Aj (Nat.lt_succ_self _)
 refine⟨by rw [d8 ne,g5],Nat.zero_le _,ne,e2,fun _=>none,(Heap.Ns1.of_empty e3).at fun o q=>AY _ q,fun _=>True.intro,fun y hy=>absurd rfl hy⟩
end
section
variable {X:Cx}{o e value:AF}{f:Str}{pos pos' tpos:Pos}{ta tv:TE}
end
section
variable {X:Cx}{pins:List (AB×Obj)}{σ:St}{H:Hp}{s:AC}{A:AR}{E:AA->AC->Prop}{Q:AA->AC->Prop}{c:AA}{b:Bool}
inductive a55 (K:AD) (H:Hp):V->AA->Prop where
 |non:a55 K H .non (.type "NoneType")
 |bl (x:Bool):a55 K H (.bl x) (.type "bool")
 |int (i:Int):a55 K H (.int i) (.type "int")
 |str (x:Str):a55 K H (.str x) (.type "str")
 |flt (x:UInt64):a55 K H (.flt x) (.type "float")
 |lst {a:AB} {xs:List V} (e:H a=some (.lst xs)):a55 K H (.ref a) (.type "list")
 |frz {a:AB} {o:Obj} {xs:List V} (e:H a=some (.frz o (.lst xs))):a55 K H (.ref a) (.type "list")
 |tup {a:AB} {xs:List V} (e:H a=some (.tup xs)):a55 K H (.ref a) (.type "tuple")
 |dK {a:AB} {kvs:List (g0×V)} (e:H a=some (.dK kvs)):a55 K H (.ref a) (.type "dict")
 |dT {a:AB} {kvs:List (List g0×V)} (e:H a=some (.dT kvs)):a55 K H (.ref a) (.type "dict")
 |ins {a C dx:AB} {fs:List (Str×V)} (e:H a=some (.ins C dx fs)) (cl:Cls K C) (ha:PySem.W.findIn K (.ref C) "__class__"=some (some (.builtin "object.__class__")))
  (hn:PySem.W.specialIn K (.builtin "object.__class__") "__get__"=some (some (.builtin "getset_descriptor.__get__"))) (htk:PySem.W.takesIn K (.builtin "object.__class__")=some true)
  (hm:PySem.W.mroIn K C (.type "object")=some true):a55 K H (.ref a) (.ref C)
end
structure P4(k:Nat)(A:AR):Prop where
 hd:A.handled=none
 dp:A.depth+3*k+5<recursionLimit
 un:A.units+16*k+200<cLine
theorem P4.mono{j k:Nat}{A:AR}(r:P4 k A)(h:j<=k):P4 j A:=⟨r.hd,by have:=r.dp;lia,by have:=r.un;lia⟩
theorem P4.deeper{k:Nat}{A:AR}(r:P4 (k+1) A)(env:Env):P4 k (A.deeper env):=
 ⟨r.hd,by have:=r.dp;show A.depth+1+3*k+5<_;lia,by have:=r.un;show A.units+3+16*k+200<_;lia⟩
theorem P4.in1{k:Nat}{A:AR}(r:P4 (k+1) A):P4 k A.in1:=
 ⟨r.hd,by have:=r.dp;show A.depth+3*k+5<_;lia,by have:=r.un;show A.units+1+16*k+200<_;lia⟩
theorem P4.depth{k:Nat}{A:AR}(r:P4 k A):A.depth<recursionLimit:=by have:=r.dp;lia
theorem P4.units{k:Nat}{A:AR}(r:P4 k A):A.units+64<cLine:=by have:=r.un;lia
def c0y:TA:=fun _ H Q=>Q [] H
def b2Y(ta:TE)(tr:TA):TA:=fun σ H Q=>ta σ H fun x H1=>tr σ H1 fun xs H2=>Q (x::xs) H2
section
variable {X:Cx}{e:AF}{es:List AF}{te:TE}{t:TA}{pos:Pos}
theorem K6:PA X [] c0y:=fun _ _ _ _ H Q I h=>Calls.spliced_nil ⟨[],H,I,.nil,h⟩
theorem x8(ha:PE X e te)(hr:PA X es t)(hs:AT (e::es) X.env=(false,eval e X.env)::AT es X.env:=by rfl):PA X (e::es) (b2Y te t):=by
 intro pos pins s σ H Q I h
 rw [hs]
 show AG _ _ (spliced ((false,eval e X.env)::backTo pos (AT es X.env))) _ _ s
 refine Calls.spliced_cons (F8 (ha pins s σ H _ I h) fun u s1 ⟨x,H1,I1,r1,q1⟩=> ?_)
 exact F8 (hr pos pins s1 σ H1 _ I1 q1) fun us s2 ⟨xs,H2,I2,r2,q2⟩=>⟨x::xs,H2,I2,.cons r1 r2,q2⟩
def c2j(t:TA):TE:=fun σ H Q=>t σ H fun xs H1=>xs.length<=AL/\∀p,H1 p=none->Q (.ref p) (upd H1 p (.tup xs))
def c2e(t:TA):TE:=fun σ H Q=>t σ H fun xs H1=>xs.length<=AL/\∀p,H1 p=none->Q (.ref p) (upd H1 p (.lst xs))
theorem b1P{x1}(h:PA X es t):PE X (.Tuple es x1 pos) (c2j t):=by
 intro pins s σ H Q I hq
 refine wpAny_Tuple_spliced (F8 (h pos pins s σ H _ I hq) fun us s1 ⟨xs,H1,I1,r,z,q⟩=>⟨by rw [<-r.length];exact z, ?_⟩)
 have hf:H1 s1.heap.objs.size=none:=I1.hok.fresh (AM _)
 refine⟨.ref s1.heap.objs.size,upd H1 s1.heap.objs.size (.tup xs),I1.laid (t':=s1.toks) (fun b u e=>AY _ e) (AM _) ?_,rfl,q _ hf⟩
 exact⟨z,us,r,⟨_,An _ rfl,rfl,_,rfl⟩⟩
theorem b95(h:PA X es t):PE X (.List es pos) (c2e t):=by
 intro pins s σ H Q I hq
 refine wpAny_List_spliced (F8 (h pos pins s σ H _ I hq) fun us s1 ⟨xs,H1,I1,r,z,q⟩=>⟨by rw [<-r.length];exact z, ?_⟩)
 have hf:H1 s1.heap.objs.size=none:=I1.hok.fresh (AM _)
 refine⟨.ref s1.heap.objs.size,upd H1 s1.heap.objs.size (.lst xs),I1.laid (t':=s1.toks) (fun b u e=>AY _ e) (AM _) ?_,rfl,q _ hf⟩
 exact⟨z,us,0,r,An _ rfl⟩
end
abbrev Sp:=List V->Hp->VK->XK->Prop
abbrev CXT:=List Env->Hp->AC->XK->AA->AC->Prop
structure b05(P:AN)(w:AI)(K:AD)(mg:Str->Option AA)(base:Heap)(A:AR)(outer:List Env)(s:AC)(H:Hp):Prop where
 frames:A.frames=some outer
 mod:Mod K mg base
 bs:∀b o,base.get? b=some o->s.heap.get? b=some o/\H b=none
 bsz:base.objs.size<=s.heap.objs.size
 funs:s.heap.FunFrames base outer
 frf:∀b∈frs outer,H b=none
 hok:HOk P w H s.heap
 bare:AllBare s.gens
def CE(outer:List Env)(P:AN)(w:AI)(H:Hp)(s:AC)(Q:VK)(u:AA)(s':AC):Prop:=
 ∃v H',s'.os=s.os/\AllBare s'.gens/\Un (frs outer) [] H H' s.heap s'.heap/\HOk P w H' s'.heap/\m3 v u/\Q v H'
def CR(CX:CXT)(outer:List Env)(P:AN)(w:AI)(H:Hp)(s:AC)(Q:VK)(E:XK)(r:Result)(s':AC):Prop:=
 match r with
 | .ok (.ret u)=>CE outer P w H s Q u s'
 | .ok _=>False
 | .error e=>CX outer H s E e s'
structure a0l(P:AN)(w:AI)(K:AD)(mg:Str->Option AA)(base:Heap)(CX:CXT)(k:Nat)(f:AB)(fd:FuncData)(ps:List Str)(sp:Sp):Prop where
 len:∀vs H Q E,sp vs H Q E->vs.length=ps.length
 run:∀(A:AR) (outer:List Env) (s:AC) (H:Hp) (args:Args) (us:List AA) (vs:List V) (Q:VK) (E:XK),P4 k A->b05 P w K mg base A outer s H->BindsTo s fd args (ps.zip us)->j9 vs us->sp vs H Q E->
  codeAny (model P w) A (.call (.ref f) args) (CR CX outer P w H s Q E) s
theorem a0l.mono{P:AN}{w:AI}{K:AD}{mg:Str->Option AA}{base:Heap}{CX:CXT}{j k:Nat}{f:AB}{fd:FuncData}{ps:List Str}{sp:Sp}(F:a0l P w K mg base CX j f fd ps sp)(h:j<=k):
 a0l P w K mg base CX k f fd ps sp:=⟨F.len,fun A outer s H args us vs Q E hr=>F.run A outer s H args us vs Q E (hr.mono h)⟩
theorem a0l.imp{P:AN}{w:AI}{K:AD}{mg:Str->Option AA}{base:Heap}{CX:CXT}{k:Nat}{f:AB}{fd:FuncData}{ps:List Str}{sp sp':Sp}(F:a0l P w K mg base CX k f fd ps sp)
 (h:∀vs H Q E,sp' vs H Q E->sp vs H Q E):a0l P w K mg base CX k f fd ps sp':=
 ⟨fun vs H Q E q=>F.len vs H Q E (h _ _ _ _ q),fun A outer s H args us vs Q E hr he hb hv hs=>F.run A outer s H args us vs Q E hr he hb hv (h _ _ _ _ hs)⟩
theorem b05.in1{P:AN}{w:AI}{K:AD}{mg:Str->Option AA}{base:Heap}{A:AR}{outer:List Env}{s:AC}{H:Hp}(e:b05 P w K mg base A outer s H):
 b05 P w K mg base A.in1 outer s H:=⟨e.frames,e.mod,e.bs,e.bsz,e.funs,e.frf,e.hok,e.bare⟩
section
variable {X:Cx}{pins:List (AB×Obj)}{σ:St}{H:Hp}{s s':AC}
theorem g9.env0(I:g9 X pins σ H s):b05 X.prog X.w X.K X.mg X.base X.A X.stack s H:=
 ⟨I.ok.frames,I.ok.mod,I.bs,Nat.le_trans I.ok.bsz I.sz,I.stack,I.stkFree,I.hok,I.bare⟩
theorem g9.after{Q:VK}{u:AA}(I:g9 X pins σ H s)(h:CE X.stack X.prog X.w H s Q u s'):EP X pins σ Q u s':=by
 obtain⟨v,H',os,bare,un,hok,r,q⟩:=h
 obtain⟨hh,g,d,t,os'⟩:=s'
 obtain rfl:os'=s.os:=os
 exact⟨v,H',I.call (h':=hh) (g':=g) (d':=d) (t':=t) (ch:=[]) un hok bare (fun b z=>absurd z (by simp)),r,q⟩
end
def c1w(sp:Sp)(dvs:List V)(E:XK)(t:TA):TE:=fun σ H Q=>t σ H fun vs H1=>sp (vs++dvs) H1 Q E
def a4Z(K:AD)(fd:FuncData)(ps:List Str)(ds:List AA):Prop:=
 ∀(s:AC) (us:List AA),K.In s.heap->(us++ds).length=ps.length->BindsTo s fd ⟨us,[]⟩ (ps.zip (us++ds))
theorem a4Z.all{K:AD}{fd:FuncData}{ps:List Str}(h:∀us:List AA,us.length=ps.length->bindArgs fd ⟨us,[]⟩=pure (ps.zip us)):a4Z K fd ps []:=fun s us _ hl=>by
 rw [Aq] at hl ⊢
 exact .of_eq (h us hl)
def b08(CX:CXT)(X:Cx)(E:XK):Prop:=∀(pins:List (AB×Obj)) (σ:St) (H:Hp) (s:AC) (e:AA) (s':AC),g9 X pins σ H s->CX X.stack H s E e s'->X.xe e s'
section
variable {X:Cx}{CX:CXT}{k:Nat}{f C:AB}{fd:FuncData}{ps:List Str}{sp:Sp}{dvs:List V}{ds:List AA}{E:XK}{x m:Str}{p pos apos:Pos}{e o:AF}{es:List AF}{ta:TE}{t:TA}
theorem b6E{pins:List (AB×Obj)}{σ:St}{H:Hp}{s:AC}{Q:VK}{us:List AA}{vs:List V}(F:a0l X.prog X.w X.K X.mg X.base CX k f fd ps sp)(hr:P4 k X.A)(hb:a4Z X.K fd ps ds)(hd:j9 dvs ds)(hx:b08 CX X E)
 (I:g9 X pins σ H s) (r:j9 vs us) (h:sp (vs++dvs) H Q E):AG (model X.prog X.w) X.A (call (.ref f) us) (EP X pins σ Q) X.xe s:=by
 have r2:j9 (vs++dvs) (us++ds):=r.append hd
 have hl:(us++ds).length=ps.length:=by rw [<-r2.length];exact F.len _ _ _ _ h
 refine wpAny_call (codeAny_mono (F.run X.A X.stack s H ⟨us,[]⟩ (us++ds) (vs++dvs) Q E hr I.env0 (hb s us I.kIn hl) r2 h) fun r s' hq=> ?_)
 cases r with
 |error e=>exact hx pins σ H s e s' I hq
 |ok fl=>
  cases fl with
  |ret u=>exact I.after hq
  |next=>exact False.elim hq
  |brk=>exact False.elim hq
  |cont=>exact False.elim hq
theorem a9D(F:a0l X.prog X.w X.K X.mg X.base CX k f fd ps sp)(hr:P4 k X.A)(hg:Gl X x)(hm:X.mg x=some (.ref f))(hk:PySem.W.keepIn X.K (.ref f)=true)(hb:a4Z X.K fd ps ds)(hd:j9 dvs ds)(hx:b08 CX X E)
 (ha:PA X (e::es) t) (hdb:(x==("__debug__":Str))=false:=by decide) (he:AT (e::es) X.env=(false,eval e X.env)::AT es X.env:=by rfl) (hpl:(backTo pos (AT es X.env)).any (·.1)=false:=by rfl):
 PE X (.Call (.Name x p) (e::es) [] pos) (c1w sp dvs E t):=by
 intro pins s σ H Q I h
 refine wpAny_Call_Name_kw (a9p I hg hm ?_ hdb)
 refine PySem.W.callWith_K (h₀:=X.base) I.ok.mod.kin hk (F8 (ha pos pins s σ H _ I h) fun us s1 ⟨vs,H1,I1,r,q⟩=>⟨I1.kIn, ?_⟩) he hpl
 exact b6E F hr hb hd hx I1 r q
end
section
variable {X:Cx}{CX:CXT}{k:Nat}{f C:AB}{fd:FuncData}{ps ks:List Str}{sp:Sp}{E:XK}{x m:Str}{p pos apos kpos:Pos}{e o:AF}{es:List AF}{kws:List Keyword}{te ta:TE}{t tk:TA}{nm:Option Str}
variable {g:List AA->List AA->List AA}{gV:List V->List V->List V}
end
structure l0(N P:List Str)(sc:Scope):Prop where
 kind:sc.kind= .function
 co:sc.isCoroutine=false
 gen:sc.isGenerator=false
 nd:N.Nodup
 pre:N.take P.length=P
 par:∀x∈P,sc.names.lookup x=some .local\/sc.names.lookup x=some .cell
 nofree:∀y∈sc.names,y.2≠.free
theorem a8c{kindOf:Str->Option NameKind}{x:Str}:∀{binds:List (Str×AA)} {m:Str->Option AA},(∀v,(x,v)∉binds)->bindL kindOf binds m x=m x
 |[],_,_=>rfl
 |(n,v)::r,m,h=>by
  unfold bindL
  rw [a8c fun w hw=>h w (Ac _ hw)]
  split
  ·have:x≠n:=by rintro rfl;exact h v AX
   simp [this]
  ·rfl
theorem a8a{kindOf:Str->Option NameKind}{x:Str}:∀{binds:List (Str×AA)} {m:Str->Option AA},(∀v,(x,v)∉binds)->bindC kindOf binds m x=m x
 |[],_,_=>rfl
 |(n,v)::r,m,h=>by
  unfold bindC
  rw [a8a fun w hw=>h w (Ac _ hw)]
  split
  ·rfl
  ·have:x≠n:=by rintro rfl;exact h v AX
   simp [this]
theorem a8b{kindOf:Str->Option NameKind}{x:Str}{v:AA}:∀{P:List Str} {vs:List AA} {i:Nat} {m:Str->Option AA},P.Nodup->P[i]?=some x->vs[i]?=some v->kindOf x=some .local->
 bindL kindOf (P.zip vs) m x=some v
 |[],_,_,_,_,h,_,_=>by simp at h
 |_::_,[],_,_,_,_,h,_=>by simp at h
 |p::P,w::vs,0,m,nd,h1,h2,hk=>by
  simp at h1 h2;subst h1;subst h2
  show bindL kindOf ((p,w)::P.zip vs) m p=_
  unfold bindL
  rw [a8c fun v hv=>(List.nodup_cons.mp nd).1 (List.of_mem_zip hv).1,if_pos hk]
  simp
 |p::P,w::vs,i+1,m,nd,h1,h2,hk=>by
  show bindL kindOf ((p,w)::P.zip vs) m x=_
  unfold bindL
  exact a8b (i:=i) (List.nodup_cons.mp nd).2 (by simpa using h1) (by simpa using h2) hk
theorem a79{kindOf:Str->Option NameKind}{x:Str}{v:AA}:∀{P:List Str} {vs:List AA} {i:Nat} {m:Str->Option AA},P.Nodup->P[i]?=some x->vs[i]?=some v->kindOf x≠some .local->
 bindC kindOf (P.zip vs) m x=some v
 |[],_,_,_,_,h,_,_=>by simp at h
 |_::_,[],_,_,_,_,h,_=>by simp at h
 |p::P,w::vs,0,m,nd,h1,h2,hk=>by
  simp at h1 h2;subst h1;subst h2
  show bindC kindOf ((p,w)::P.zip vs) m p=_
  unfold bindC
  rw [a8a fun v hv=>(List.nodup_cons.mp nd).1 (List.of_mem_zip hv).1,if_neg hk]
  simp
 |p::P,w::vs,i+1,m,nd,h1,h2,hk=>by
  show bindC kindOf ((p,w)::P.zip vs) m x=_
  unfold bindC
  exact a79 (i:=i) (List.nodup_cons.mp nd).2 (by simpa using h1) (by simpa using h2) hk
def a33(N:List Str)(vs:List V):St:=vs.map some++AW (N.length - vs.length) none
def b0a(CX:CXT)(P:AN)(w:AI)(K:AD)(mg:Str->Option AA)(base:Heap)(N:List Str)(qual:Str)(scope:Scope)(f:AB)(cd:AA)(A:AR)(outer:List Env)(s:AC)(H:Hp)(E:XK):Cx where
 prog:=P
 w:=w
 K:=K
 mg:=mg
 base:=base
 A:=A.deeper (envOfC qual scope s.heap.objs.size f cd)
 N:=N
 s₀:=s
 H₀:=H
 env:=envOfC qual scope s.heap.objs.size f cd
 outer:=outer
 stack:=envOfC qual scope s.heap.objs.size f cd::outer
 ex:=[]
 calm:=true
 fn:=fun _=>true
 pn:=[]
 xe:=fun e s'=>AG (model P w) (A.deeper (envOfC qual scope s.heap.objs.size f cd)) (leaving (envOfC qual scope s.heap.objs.size f cd) e) (fun _ s''=>CX outer H s E e s'') (fun e' s''=>CX outer H s E e' s'') s'
theorem a95{sc:Scope}{n:Nat}{x:Str}(h:sc.names.lookup x=some .cell):∃c,(cellsFrom n sc.names []).lookup x=some c:=by
 have q:=PySem.W.cellsFrom_some sc.names n [] (.inl h)
 exact Option.isSome_iff_exists.mp q
theorem b3w{CX:CXT}{P:AN}{w:AI}{K:AD}{mg:Str->Option AA}{base:Heap}{N ps:List Str}{qual:Str}{scope:Scope}{f:AB}{cd:AA}{A:AR}{outer:List Env}{s s1:AC}{H:Hp}{E:XK}{us:List AA}{vs:List V}
 (S:l0 N ps scope) (hd:A.handled=none) (e0:b05 P w K mg base A outer s H) (hl:vs.length=ps.length) (r:j9 vs us)
 (x:InCallC s s.heap.objs.size (bindL (envOfC qual scope s.heap.objs.size f cd).kindOf (ps.zip us) fun _=>none) (cellsFrom (s.heap.objs.size+1) scope.names []) (bindC (envOfC qual scope s.heap.objs.size f cd).kindOf (ps.zip us) fun _=>none) s1):
 g9 (b0a CX P w K mg base N qual scope f cd A outer s H E) [] (a33 N vs) H s1:=by
 have hpl:ps.length<=N.length:=by have:=congrArg List.length S.pre;rw [List.length_take] at this;lia
 obtain⟨h1,tk,rfl,hk⟩:=x.done
 have noA:∀b:AB,b∉(b0a CX P w K mg base N qual scope f cd A outer s H E).ex:=fun b z=>absurd (show b∈([]:List AB) from z) (by simp)
 refine⟨⟨e0.mod,S.kind,rfl,rfl,AM _,fun y z c h1 h2=> ?_,fun y hy=> ?_,fun y c _ h=> ?_,fun _=>hd,Around.frames_deeper e0.frames,.inr ⟨rfl,rfl⟩,fun b z=>absurd z (noA b),e0.bs,e0.bsz,fun b _ _=>noA b,fun b z=>absurd z (noA b),e0.funs,e0.frf⟩,
  rfl,e0.bare,Un.kept hk,⟨_,x.toInCall.ns,fun i y v h1 h2 h3=> ?_⟩,fun y c h=>⟨_,x.cell y c h⟩,e0.hok.fresh (AM _),fun y c h=> ?_,fun p hp=>absurd (show p∈([]:List (AB×Obj)) from hp) (by simp),e0.hok.kept hk, ?_⟩
 ·exact name_of_addr x.apart (PySem.mem_of_lookup h1) (PySem.mem_of_lookup h2)
 ·have hy:scope.names.lookup y=some .cell\/scope.names.lookup y=some .free:=hy
  rcases hy with hy|hy
  ·exact a95 hy
  ·exact absurd rfl (S.nofree _ (PySem.mem_of_lookup hy))
 ·exact BF (x.above y c (PySem.mem_of_lookup h))
 ·have hi:i<vs.length:=by
   unfold a33 at h2
   by_cases hi:i<vs.length
   ·exact hi
   ·rw [List.getElem?_append_right (by simpa using hi)] at h2
    rw [List.getElem?_replicate] at h2
    split at h2<;>cases h2
  have ha:vs[i]?=some v:=by
   unfold a33 at h2
   rw [BA (by simpa using hi),Ak] at h2
   cases e:vs[i]? with
   |none=>rw [e] at h2;cases h2
   |some a=>rw [e] at h2;cases h2;rfl
  obtain⟨u,hu,rv⟩:=r.get ha
  have hp:ps[i]?=some y:=by
   rw [<-S.pre,List.getElem?_take_of_lt (by lia)];exact h1
  have ndP:ps.Nodup:=by rw [<-S.pre];exact S.nd.sublist (List.take_sublist _ _)
  refine⟨u,rv, ?_⟩
  rcases S.par y (BD hp) with k|k
  ·exact .inl ⟨k,a8b ndP hp hu k⟩
  ·obtain⟨c,e⟩:=a95 (n:=s.heap.objs.size+1) k
   refine .inr ⟨.inl k,c,e, ?_⟩
   have q:=x.cell y c e
   rw [a79 ndP hp hu (by show scope.names.lookup y≠_;rw [k];decide)] at q
   exact q
 ·exact e0.hok.fresh (BF (x.above y c (PySem.mem_of_lookup h)))
 ·unfold a33
  show _=N.length
  rw [Ai,AO,List.length_replicate]
  lia
theorem c02{CX:CXT}{P:AN}{w:AI}{K:AD}{mg:Str->Option AA}{base:Heap}{k:Nat}{f:AB}{name qual:Str}{params:Arguments}{body:List Stmt}{scope:Scope}{dV kV doc pm cdv ct oc:AA}{an od:Option AB}
 {osl:Array (Option AA)} {N ps:List Str} {sp:Sp} (lk:K.lookup f=some ⟨oc,od,.func (PySem.W.fnOf name qual params body scope dV kV doc pm an cdv ct),osl⟩) (hcd:PySem.W.codeIn K cdv qual=true) (S:l0 N ps scope)
 (len:∀vs H Q E,sp vs H Q E->vs.length=ps.length)
 (hbody:∀(A:AR) (outer:List Env) (s:AC) (H:Hp) (vs:List V) (Q:VK) (E:XK),P4 k (A.deeper (envOfC qual scope s.heap.objs.size f cdv))->sp vs H Q E->
  ∃t,PSs (b0a CX P w K mg base N qual scope f cdv A outer s H E) body t/\t {nx:=fun _ H'=>Q .non H',rt:=Q} (a33 N vs) H):
 a0l P w K mg base CX (k+1) f (PySem.W.fnOf name qual params body scope dV kV doc pm an cdv ct) ps sp:=by
 refine⟨len,fun A outer s H args us vs Q E hr e0 hb r hsp=> ?_⟩
 have hl:=len _ _ _ _ hsp
 have KX:K.In s.heap:=e0.mod.kin.keeps fun b o e=>(e0.bs b o e).1
 have lim:s.heap.NoLimit:=e0.mod.nolimit.keeps fun b o e=>(e0.bs b o e).1
 have hkind:∀y∈ps.zip us,scope.names.lookup y.1=some .local\/(scope.names.lookup y.1=some .cell/\((cellsFrom (s.heap.objs.size+1) scope.names []).lookup y.1).isSome=true):=fun⟨n,v⟩ hy=>by
  rcases S.par n (List.of_mem_zip hy).1 with q|q
  ·exact .inl q
  ·exact .inr ⟨q,PySem.W.cellsFrom_some _ _ _ (.inl q)⟩
 refine codeAny_call_function hr.depth (KX _ _ lk) rfl S.co S.gen rfl (PySem.W.codeRec_of KX hcd) (hb _ _ _ _ ?_)
 refine wpAny_newFunctionEnv_cells S.kind hkind fun env he s1 x=> ?_
 subst he
 refine⟨lim.keeps x.toInCall.keep,codeAny_func ?_⟩
 obtain⟨t,ht,hq⟩:=hbody A outer s H vs Q E (hr.deeper _) hsp
 have I:g9 (b0a CX P w K mg base N qual scope f cdv A outer s H E) [] (a33 N vs) H s1:=b3w S hr.hd e0 hl r x
 refine wpAny_mono (ht [] s1 (a33 N vs) H _ I hq) (fun fl s' hs=> ?_) fun e s' hs=>hs
 have fin:∀{σ':St} {H':Hp} {v:V} {u:AA},g9 (b0a CX P w K mg base N qual scope f cdv A outer s H E) [] σ' H' s'->m3 v u->Q v H'->CE outer P w H s Q u s':=
  fun {σ' H' v u} J rv q=>⟨v,H',J.os,J.bare,J.base,J.hok,rv,q⟩
 cases fl with
 |ret u=>
  obtain⟨v,σ',H',J,rv,q⟩:=hs
  exact fin J rv q
 |next=>
  obtain⟨σ',H',J,q⟩:=hs
  exact fin (v:=V.non) (u:=Value.none) J rfl q
 |brk=>
  obtain⟨_,_,_,q⟩:=hs
  exact False.elim q
 |cont=>
  obtain⟨_,_,_,q⟩:=hs
  exact False.elim q
section
variable {X:Cx}{x:Str}{p pos:Pos}{e:AF}{es:List AF}{t:TA}{id T:String}{r:List V->Hp->VK->Prop}
def tCB(r:List V->Hp->VK->Prop)(t:TA):TE:=fun σ H Q=>t σ H fun vs H1=>r vs H1 Q
theorem a3W(hc:A6 X (.builtin id) r)(hg:Gl X x)(hm:X.mg x=none)(hv:bootBuiltins x=some (.builtin id))(ha:PA X (e::es) t)(hn:x≠"__name__":=by decide)(hdb:(x==("__debug__":Str))=false:=by decide)
 (he:AT (e::es) X.env=(false,eval e X.env)::AT es X.env:=by rfl) (hpl:(backTo pos (AT es X.env)).any (·.1)=false:=by rfl):PE X (.Call (.Name x p) (e::es) [] pos) (tCB r t):=by
 intro pins s σ H Q I h
 refine wpAny_Call_Name_kw (a6G I hg hm hv ?_ hn hdb)
 exact PyProof.Rows.callWith_builtin1 (F8 (ha pos pins s σ H _ I h) fun us s1 ⟨vs,H1,I1,r1,q1⟩=>hc pins s1 σ H1 vs us Q I1 r1 q1) he hpl
theorem a4K(hc:A6 X (.type T) r)(hg:Gl X x)(hm:X.mg x=none)(hv:bootBuiltins x=some (.type T))(ha:PA X (e::es) t)(hn:x≠"__name__":=by decide)(hdb:(x==("__debug__":Str))=false:=by decide)
 (he:AT (e::es) X.env=(false,eval e X.env)::AT es X.env:=by rfl) (hpl:(backTo pos (AT es X.env)).any (·.1)=false:=by rfl):PE X (.Call (.Name x p) (e::es) [] pos) (tCB r t):=by
 intro pins s σ H Q I h
 refine wpAny_Call_Name_kw (a6G I hg hm hv ?_ hn hdb)
 exact PyProof.Rows.callWith_type1 (F8 (ha pos pins s σ H _ I h) fun us s1 ⟨vs,H1,I1,r1,q1⟩=>hc pins s1 σ H1 vs us Q I1 r1 q1) he hpl
end
end L2
namespace HT
open PySem PyProof.Rows
section
open PySem.SeqAt
open PySem.AutoSeq1 (wpAny_loadPart')
open PySem.MeetsSeq PySem.MeetsSeq2 PySem.MeetsSeq3
end
section
variable {prog:AN}{w:AI}{A:AR}{E:AA->AC->Prop}{s:AC}
theorem cat_tup{t b:AB}{vs ws:List AA}{Q:AA->AC->Prop}(ht:IsTup s.heap t vs.toArray)(hb:IsTup s.heap b ws.toArray)(hv:vs≠[])
 (h1:ws=[]->Q (.ref t) s) (h2:ws≠[]->Q (.ref s.heap.objs.size) {s with heap:=s.heap.push {cls:= .type "tuple",data:= .seq (vs++ws).toArray}})
 (hsz:vs.length+ws.length<=AL):AG (model prog w) A (binaryOp .Add (.ref t) (.ref b)) Q E s:=by
 obtain⟨⟨cls,dd,data,sl⟩,ho,hc,n,hd⟩:=id ht
 obtain⟨⟨cls2,dd2,data2,sl2⟩,ho2,hc2,n2,hd2⟩:=id hb
 simp only at hc hd hc2 hd2
 subst hc hd hc2 hd2
 have e:vs.toArray++ws.toArray=(vs++ws).toArray:=by simp
 by_cases hw:ws=[]
 ·exact concat_meets ⟨_,ho,rfl⟩ ⟨_,ho2,rfl⟩ noFill_tuple_add seq_tuple_add PySem.F.slot_tuple_add PySem.F.entry_tuple_add (PySem.F.args_tuple_add_2 _ _)
   (tuple_addW1 t b vs.toArray ws.toArray n n2 dd dd2 sl sl2 (by simpa using hv) (by simp [hw])) ⟨ho,ho2,h1 hw⟩
 ·refine concat_meets ⟨_,ho,rfl⟩ ⟨_,ho2,rfl⟩ noFill_tuple_add seq_tuple_add PySem.F.slot_tuple_add PySem.F.entry_tuple_add (PySem.F.args_tuple_add_2 _ _)
   (tuple_addW2 t b vs.toArray ws.toArray n n2 dd dd2 sl sl2 (by simpa using hv) (by simpa using hw) (by rw [Ao,Ao];exact hsz)) ⟨ho,ho2, ?_⟩
  rw [e]
  exact h2 hw
def sIx(n d:Nat):Option Int->Nat
 |none=>d
 |some v=>if v<0 then(v+(n:Int)).toNat else min v.toNat n
theorem sIx_none(n d:Nat):sIx n d none=d:=rfl
theorem sIx_nat(n d k:Nat):sIx n d (some (k:Int))=min k n:=by
 show(if(k:Int)<0 then((k:Int)+(n:Int)).toNat else min (k:Int).toNat n)=min k n
 rw [if_neg (by lia),BH]
theorem sIx_le(n d:Nat)(hd:d<=n)(o:Option Int):sIx n d o<=n:=by
 cases o with
 |none=>exact hd
 |some v=>
  show(if v<0 then(v+(n:Int)).toNat else min v.toNat n)<=n
  by_cases hv:v<0
  ·rw [if_pos hv];lia
  ·rw [if_neg hv];exact Nat.min_le_right _ _
theorem b14(v:Int)(n d:Nat):(if v<0 then max (v+(n:Int)) 0 else min v (n:Int))=((sIx n d (some v):Nat):Int):=by
 show(if v<0 then max (v+(n:Int)) 0 else min v (n:Int))=(((if v<0 then(v+(n:Int)).toNat else min v.toNat n):Nat):Int)
 by_cases hv:v<0
 ·simp only [if_pos hv];lia
 ·simp only [if_neg hv];lia
theorem b1a(lo hi:Option Int)(n:Nat):Builtin.Slice.sliceAdjust lo hi 1 (n:Int)=(((sIx n 0 lo:Nat):Int),((sIx n n hi:Nat):Int)):=by
 have h1:¬((1:Int)<0):=by lia
 unfold Builtin.Slice.sliceAdjust
 simp only [h1,if_false]
 refine Prod.ext ?_ ?_
 ·cases lo with
  |none=>rfl
  |some v=>exact b14 v n 0
 ·cases hi with
  |none=>rfl
  |some v=>exact b14 v n n
theorem b1Q(i j:Nat):Builtin.Slice.slicePlaces (i:Int) (j:Int) 1=j - i:=by
 unfold Builtin.Slice.slicePlaces
 have h1:(1:Int)>0:=by lia
 simp only [h1,if_true,Int.ediv_one]
 split<;>lia
theorem a7q{v:AA}{o:Option Int}{Q:Option Int->AC->Prop}(p:IsPart v o)(h:Q o s):AG (model prog w) A (Builtin.Slice.slicePartIndex v) Q E s:=by
 cases p with
 |none=>exact slicePart_none h
 |int i t=>exact slicePart_int h
theorem sliceApplied_gen{sl:AB}{vl vu:AA}{lo hi:Option Int}{n:Nat}{Q:Int×Int×Nat->AC->Prop}(hs:s.heap.IsSliceOf sl vl vu .none)(pl:IsPart vl lo)(pu:IsPart vu hi)
 (h:Q (((sIx n 0 lo:Nat):Int),1,sIx n n hi - sIx n 0 lo) s):AG (model prog w) A (Builtin.Slice.sliceApplied (.ref sl) (pure (n:Int))) Q E s:=by
 obtain⟨os,hos,hcs,hds⟩:=id hs
 unfold Builtin.Slice.sliceApplied Builtin.Slice.sliceFields
 refine AE (AE (wpAny_field hos hds (x:=vl) rfl (AE (wpAny_field hos hds (x:=vu) rfl (AE (wpAny_field hos hds (x:= .none) rfl (AJ ?_)))))))
 refine AE (slicePart_none ?_)
 show AG _ _ (if((1:Int)==0)=true then _ else _) _ _ s
 rw [if_neg (by decide)]
 refine AE (a7q pl (AE (a7q pu (AE (AJ ?_)))))
 show AG _ _ (match Builtin.Slice.sliceAdjust lo hi 1 (n:Int) with|(lo,hi)=>pure (lo,(1:Int),Builtin.Slice.slicePlaces lo hi 1)) _ _ s
 rw [b1a lo hi n]
 show AG _ _ (pure (((sIx n 0 lo:Nat):Int),(1:Int),Builtin.Slice.slicePlaces ((sIx n 0 lo:Nat):Int) ((sIx n n hi:Nat):Int) 1)) _ _ s
 rw [b1Q]
 exact AJ h
theorem b6r(xs:Array AA)(i k:Nat):((AQ k).filterMap fun(m:Nat)=>xs[((i:Int)+(m:Int)*1).toNat]?).toArray=((xs.toList.drop i).take k).toArray:=by
 have e:(fun(m:Nat)=>xs[((i:Int)+(m:Int)*1).toNat]?)=fun m=>xs[i+m]?:=by
  funext m
  have:((i:Int)+(m:Int)*1).toNat=i+m:=by lia
  rw [this]
 rw [e]
 have:=pick_run xs i k
 rw [List.filterMap_map] at this
 have e2:((fun x=>xs[x]?)∘fun x=>i+x)=fun m=>xs[i+m]?:=rfl
 rw [e2] at this
 rw [this]
theorem getItem_tuple_cut{t sl:AB}{items:Array AA}{vl vu:AA}{lo hi:Option Int}{Q:AA->AC->Prop}(ht:IsTup s.heap t items)(hs:s.heap.IsSliceOf sl vl vu .none)(pl:IsPart vl lo)(pu:IsPart vu hi)
 (hw:¬(sIx items.size 0 lo=0/\sIx items.size items.size hi=items.size))
 (h:Q (.ref s.heap.objs.size) {s with heap:=s.heap.push {cls:= .type "tuple",data:= .seq ((items.toList.drop (sIx items.size 0 lo)).take (sIx items.size items.size hi - sIx items.size 0 lo)).toArray}})
 (hsz:items.size<=AL):AG (model prog w) A (getItem (.ref t) (.ref sl)) Q E s:=by
 have htake:sizeOk (.seq ((items.toList.drop (sIx items.size 0 lo)).take (sIx items.size items.size hi - sIx items.size 0 lo)).toArray):=by
  show((items.toList.drop (sIx items.size 0 lo)).take (sIx items.size items.size hi - sIx items.size 0 lo)).toArray.size<=AL
  rw [Ao,List.length_take,List.length_drop,Array.length_toList]
  lia
 have hj:sIx items.size items.size hi<=items.size:=sIx_le _ _ (AM _) hi
 obtain⟨os,hos,hcs,hds⟩:=id hs
 have hTs:s.TypeIs (.ref sl) "slice":=⟨os,hos,hcs⟩
 unfold getItem
 try with_reducible refine wpAny_holding ?_
 first|refine AE (AJ ?_)|skip
 refine AE (wpAny_sequenceKey ht.typeIs (by decide) ?_)
 refine AE (wpAny_callSpecial?_slot (name:=AS "__getitem__") ht.typeIs PyProof.Rows.slot_tuple_getitem
  (wpAny_call_entry PyProof.Rows.slot_tuple_getitem ht.typeIs entry_tuple_getitem ?_ (args_tuple_getitem _ _)))
 show AG _ _ (Builtin.Tuple.tupleItemsOf (.ref t)>>=_) _ _ s
 refine AE (tupleItemsOf_ ht ?_)
 refine AE (wpAny_typeOf hTs ?_)
 rw [if_pos (by decide)]
 refine AE (sliceApplied_gen hs pl pu ?_)
 have hno:¬((((sIx items.size 0 lo:Nat):Int)==0 &&(1:Int)==1 &&(sIx items.size items.size hi - sIx items.size 0 lo)==items.size)=true):=by
  intro q
  rw [Bool.and_eq_true,Bool.and_eq_true] at q
  have q1:((sIx items.size 0 lo:Nat):Int)=0:=eq_of_beq q.1.1
  have q2:sIx items.size items.size hi - sIx items.size 0 lo=items.size:=eq_of_beq q.2
  exact hw ⟨by lia,by lia⟩
 show AG _ _ (if(((sIx items.size 0 lo:Nat):Int)==0 &&(1:Int)==1 &&(sIx items.size items.size hi - sIx items.size 0 lo)==items.size)=true then _ else _) _ _ s
 rw [if_neg hno,b6r]
 first
  |exact AE (m:=Builtin.Tuple.tupleExact _) (wpAny_newObj_type (AJ ⟨_,rfl,AJ h⟩) htake)
  |exact AE (m:=Builtin.Tuple.tupleExact _) (wpAny_newObj_type (AE (AJ (AJ ⟨_,rfl,AJ h⟩))) htake)
  |exact AE (AE (m:=Builtin.Tuple.tupleExact _) (wpAny_newObj_type (AJ (AJ ⟨_,rfl,AJ h⟩)) htake))
  |exact AE (AE (m:=Builtin.Tuple.tupleExact _) (wpAny_newObj_type (AJ ⟨_,rfl,AJ h⟩) htake))
end
end HT
namespace L2
open PySem PySem.Spec PyProof.Rows
abbrev TO:=St->Hp->(Option Int->Hp->Prop)->Prop
def PO(X:Cx)(e:Option AF)(t:TO):Prop:=
 ∀(pins:List (AB×Obj)) (s:AC) (σ:St) (H:Hp) (Q:Option Int->Hp->Prop),g9 X pins σ H s->t σ H Q->
  AG (model X.prog X.w) X.A (evalPart e X.env) (fun u s'=>∃o H',g9 X pins σ H' s'/\IsPart u o/\Q o H') X.xe s
def b8t:TO:=fun _ H Q=>Q none H
def c1B(t:TE):TO:=fun σ H Q=>t σ H fun x H1=>∃i,x= .int i/\Q (some i) H1
section
variable {X:Cx}{e:AF}{te:TE}{lo hi:Option AF}{tl th:TO}{pos p2:Pos}
theorem b77:PO X none b8t:=by
 intro pins s σ H Q I h
 rw [evalPart_none]
 exact AJ ⟨none,H,I,.none,h⟩
theorem b78(h:PE X e te):PO X (some e) (c1B te):=by
 intro pins s σ H Q I hw
 rw [evalPart_some]
 refine F8 (h pins s σ H _ I hw) fun u s1 ⟨x,H1,I1,r1,q1⟩=> ?_
 obtain⟨i,rfl,q⟩:=q1
 obtain⟨t,rfl⟩:=r1
 exact⟨some i,H1,I1,.int i t,q⟩
def SlR(X:Cx)(r:V->Option Int->Option Int->Hp->VK->Prop):Prop:=
 ∀(pins:List (AB×Obj)) (s:AC) (σ:St) (H:Hp) (x:V) (v vl vu:AA) (lo hi:Option Int) (sl:AB) (Q:VK),g9 X pins σ H s->m3 x v->s.heap.IsSliceOf sl vl vu .none->IsPart vl lo->IsPart vu hi->r x lo hi H Q->
  ∃T id,typeLookup (.type T) "__getitem__"=pure (some (.builtin id))/\s.TypeIs v T/\AG (model X.prog X.w) X.A (getItem v (.ref sl)) (EP X pins σ Q) X.xe s
theorem SlR.or{r r':V->Option Int->Option Int->Hp->VK->Prop}(h:SlR X r)(h':SlR X r'):SlR X (fun x lo hi H Q=>r x lo hi H Q\/r' x lo hi H Q):=by
 intro pins s σ H x v vl vu lo hi sl Q I rx hs pl pu q
 rcases q with q|q
 ·exact h pins s σ H x v vl vu lo hi sl Q I rx hs pl pu q
 ·exact h' pins s σ H x v vl vu lo hi sl Q I rx hs pl pu q
def tSl(r:V->Option Int->Option Int->Hp->VK->Prop)(te:TE)(tl th:TO):TE:=fun σ H Q=>te σ H fun x H1=>tl σ H1 fun l H2=>th σ H2 fun u H3=>r x l u H3 Q
theorem b6n{r:V->Option Int->Option Int->Hp->VK->Prop}(hr:SlR X r)(he:PE X e te)(hl:PO X lo tl)(hu:PO X hi th):PE X (.Subscript e (.Slice lo hi none p2) pos) (tSl r te tl th):=by
 intro pins s σ H Q I h
 refine Subscript_ (F8 (he pins s σ H _ I h) fun v s1 ⟨x,H1,I1,r1,q1⟩=> ?_)
 refine wpAny_Slice (F8 (hl pins s1 σ H1 _ I1 q1) fun vl s2 ⟨l,H2,I2,pl,q2⟩=>F8 (hu pins s2 σ H2 _ I2 q2) fun vu s3 ⟨u,H3,I3,pu,q3⟩=> ?_)
 rw [evalPart_none]
 refine AJ ?_
 have I4:g9 X pins σ H3 {s3 with heap:=s3.heap.push {cls:= .type "slice",data:= .fields #[vl,vu,.none]}}:=I3.kept (t':=s3.toks) fun b ob q=>AY _ q
 obtain⟨T,id,hT,ht,hg⟩:=hr pins {s3 with heap:=s3.heap.push {cls:= .type "slice",data:= .fields #[vl,vu,.none]}} σ H3 x v vl vu l u s3.heap.objs.size Q I4 r1 (Heap.IsSliceOf.new ..) pl pu q3
 show AG (model X.prog X.w) X.A (subscriptTail e (.Slice lo hi none p2) v (.ref s3.heap.objs.size)) (EP X pins σ Q) X.xe {s3 with heap:=s3.heap.push {cls:= .type "slice",data:= .fields #[vl,vu,.none]}}
 exact tail_any (ops:=[.ref s3.heap.objs.size,v]) ht hT hg (by with_unfolding_all rfl)
def b7g(xs:List V)(lo hi:Option Int):List V:=(xs.drop (HT.sIx xs.length 0 lo)).take (HT.sIx xs.length xs.length hi - HT.sIx xs.length 0 lo)
theorem a99(xs:List V)(lo hi:Option Int):(b7g xs lo hi).length<=xs.length:=by
 unfold b7g
 rw [List.length_take,List.length_drop]
 lia
def c18(K:AD):V->Option Int->Option Int->Hp->VK->Prop:=fun x lo hi H Q=>∃a xs,x= .ref a/\Z1 K H a xs/\
 ¬(HT.sIx xs.length 0 lo=0/\HT.sIx xs.length xs.length hi=xs.length)/\∀p,H p=none->Q (.ref p) (upd H p (.tup (b7g xs lo hi)))
theorem c0q:SlR X (c18 X.K):=by
 intro pins s σ H x v vl vu lo hi sl Q I rx hs pl pu h
 obtain⟨a,xs,rfl,hx,hw,q⟩:=h
 cases rx
 obtain⟨its,r,ht,hz⟩:=I.tuple hx
 have hlen:its.toArray.size=xs.length:=by rw [Ao];exact r.length.symm
 refine⟨"tuple",_,PyProof.Rows.slot_tuple_getitem.lookup,ht.typeIs, ?_⟩
 refine HT.getItem_tuple_cut ht hs pl pu (by rw [hlen];exact hw) ?_ (by rw [hlen];exact hz)
 rw [hlen]
 refine⟨.ref s.heap.objs.size,_,I.laid (t':=s.toks) (o:= .tup (b7g xs lo hi)) (fun b ob q=>AY _ q) (AM _) ?_,rfl,q _ (I.hok.fresh (AM _))⟩
 exact⟨Nat.le_trans (a99 xs lo hi) hz,_,(r.drop (HT.sIx xs.length 0 lo)).take (HT.sIx xs.length xs.length hi - HT.sIx xs.length 0 lo),IsTup.new _ _⟩
def c1m(K:AD):R2:=fun x y H Q=>∃a b xs ys,x= .ref a/\y= .ref b/\Z1 K H a xs/\Z1 K H b ys/\xs≠[]/\xs.length+ys.length<=AL/\
 (ys=[]->Q (.ref a) H)/\(ys≠[]->∀p,H p=none->Q (.ref p) (upd H p (.tup (xs++ys))))
theorem j9.nil_iff{xs:List V}{us:List AA}(r:j9 xs us):us=[]↔xs=[]:=by
 cases r with
 |nil=>simp
 |cons _ _=>simp
theorem b7Y:OpR X (binaryOp .Add) (c1m X.K):=by
 intro pins s σ H x y v u Q I rx ry h
 obtain⟨a,b,xs,ys,rfl,rfl,ha,hb,hx,hz,q1,q2⟩:=h
 cases rx
 cases ry
 obtain⟨its,r1,p1,_⟩:=I.tuple ha
 obtain⟨its2,r2,p2,_⟩:=I.tuple hb
 refine HT.cat_tup p1 p2 (fun z=>hx (r1.nil_iff.mp z)) (fun z=>⟨.ref a,H,I,rfl,q1 (r2.nil_iff.mp z)⟩) (fun z=> ?_) (by rw [<-r1.length,<-r2.length];exact hz)
 refine⟨.ref s.heap.objs.size,_,I.laid (t':=s.toks) (o:= .tup (xs++ys)) (fun b ob q=>AY _ q) (AM _) ?_,rfl,q2 (fun w=>z (r2.nil_iff.mpr w)) _ (I.hok.fresh (AM _))⟩
 exact⟨by rw [Ai];exact hz,_,r1.append r2,IsTup.new _ _⟩
end
def ixN(n:Nat)(i:Int):Option Nat:=if 0<=i then(if i<n then some i.toNat else none) else if -(n:Int)<=i then some (i+n).toNat else none
def atI{α:Type}(xs:List α)(i:Int):Option α:=(ixN xs.length i).bind fun j=>xs[j]?
theorem b7D{n:Nat}{i:Int}{j:Nat}(h:ixN n i=some j):seqIndex? i n=some j/\j<n/\ -(n:Int)<=i/\i<n:=by
 unfold ixN at h
 by_cases h0:0<=i
 ·rw [if_pos h0] at h
  by_cases h1:i<n
  ·rw [if_pos h1] at h
   have e:i.toNat=j:=Option.some.inj h
   exact⟨by rw [seqIndex_of h0 h1,e],by lia,by lia,h1⟩
  ·rw [if_neg h1] at h;cases h
 ·rw [if_neg h0] at h
  by_cases h1: -(n:Int)<=i
  ·rw [if_pos h1] at h
   have e:(i+n).toNat=j:=Option.some.inj h
   exact⟨by rw [seqIndex_neg (by lia) h1,e],by lia,h1,by lia⟩
  ·rw [if_neg h1] at h;cases h
theorem a8Z{α:Type}{xs:List α}{i:Int}{v:α}(h:atI xs i=some v):∃j,seqIndex? i xs.length=some j/\xs[j]?=some v/\j<xs.length/\ -(xs.length:Int)<=i/\i<xs.length:=by
 unfold atI at h
 cases e:ixN xs.length i with
 |none=>rw [e] at h;cases h
 |some j=>
  rw [e] at h
  obtain⟨h1,h2,h3,h4⟩:=b7D e
  exact⟨j,h1,h,h2,h3,h4⟩
def a0V(b:AF):Prop:=∀o i,subscripted b false o i=operate [o,i] (getItem o i)
def IxR(X:Cx)(r:R2):Prop:=
 ∀(value slice:AF) (pins:List (AB×Obj)) (s:AC) (σ:St) (H:Hp) (x y:V) (v u:AA) (Q:VK),g9 X pins σ H s->m3 x v->m3 y u->r x y H Q->
  subscripted slice false v u=operate [v,u] (getItem v u)->AG (model X.prog X.w) X.A (subscriptTail value slice v u) (EP X pins σ Q) X.xe s
def MtR(X:Cx)(id:String)(r:V->List V->Hp->VK->Prop):Prop:=
 ∀(pins:List (AB×Obj)) (s:AC) (σ:St) (H:Hp) (x:V) (xs:List V) (v:AA) (us:List AA) (Q:VK),g9 X pins σ H s->m3 x v->j9 xs us->r x xs H Q->
  AG (model X.prog X.w) X.A (call (.builtin id) (v::us)) (EP X pins σ Q) X.xe s
section
variable {X:Cx}{a b:AF}{ta tb:TE}{pos:Pos}
theorem IxR.or{r r':R2}(h:IxR X r)(h':IxR X r'):IxR X (fun x y H Q=>r x y H Q\/r' x y H Q):=by
 intro value slice pins s σ H x y v u Q I rx ry q hs
 rcases q with q|q
 ·exact h value slice pins s σ H x y v u Q I rx ry q hs
 ·exact h' value slice pins s σ H x y v u Q I rx ry q hs
theorem MtR.or{id:String}{r r':V->List V->Hp->VK->Prop}(h:MtR X id r)(h':MtR X id r'):MtR X id (fun x xs H Q=>r x xs H Q\/r' x xs H Q):=by
 intro pins s σ H x xs v us Q I rx rs q
 rcases q with q|q
 ·exact h pins s σ H x xs v us Q I rx rs q
 ·exact h' pins s σ H x xs v us Q I rx rs q
theorem a8I{r:R2}(hr:IxR X r)(ha:PE X a ta)(hb:PE X b tb)(hs:a0V b):PE X (.Subscript a b pos) (tOp r ta tb):=by
 intro pins s σ H Q I h
 exact Subscript_ (b9b ha hb I h fun v u s2 x y H2 I2 rx ry q=>hr a b pins s2 σ H2 x y v u Q I2 rx ry q (hs _ _))
def c14(K:AD):R2:=fun x y H Q=>∃p xs i v,x= .ref p/\y= .int i/\S2 K H p xs/\atI xs i=some v/\Q v H
def c16(K:AD):R2:=fun x y H Q=>∃p xs i v,x= .ref p/\y= .int i/\Z1 K H p xs/\atI xs i=some v/\Q v H
def c15:R2:=fun x y H Q=>∃z i c,x= .str z/\y= .int i/\z.length<=AL/\atI z.cps.toList i=some c/\Q (.str ⟨#[c]⟩) H
theorem b2u:IxR X (c14 X.K):=by
 intro value slice pins s σ H x y v u Q I rx ry h hs
 obtain⟨p,xs,i,z,rfl,rfl,hq,he,q⟩:=h
 cases rx
 obtain⟨t,rfl⟩:=ry
 obtain⟨its,r,pl,hz⟩:=I.list hq
 obtain⟨j,h1,h2,h3,h4,h5⟩:=a8Z he
 obtain⟨w,ew,rw'⟩:=r.get h2
 have hl:=r.length
 have hn:=a4x
 have fin:EP X pins σ Q w s:=⟨z,H,I,rw',q⟩
 by_cases h0:0<=i
 ·have hj:i.toNat=j:=by
   rw [seqIndex_of h0 h5] at h1
   exact Option.some.inj h1
  exact item_listR pl.isList h0 (by lia) (by rw [hj];simpa using ew) fin hs
 ·have hj:(i+(its.toArray.size:Int)).toNat=j:=by
   rw [seqIndex_neg (by lia) h4] at h1
   rw [Ao,<-hl]
   exact Option.some.inj h1
  exact subscriptTail_builtinR (x:=w) pl.isList.typeIs slot_list_getitem.lookup
   (wpAny_getItem_list_neg (Q:=fun r s'=>r=w/\EP X pins σ Q r s') pl.isList (by lia) (by rw [Ao]<;>lia) (by lia) (by rw [hj];simpa using ew) ⟨rfl,fin⟩) hs
theorem a6A:IxR X (c16 X.K):=by
 intro value slice pins s σ H x y v u Q I rx ry h hs
 obtain⟨p,xs,i,z,rfl,rfl,hq,he,q⟩:=h
 cases rx
 obtain⟨t,rfl⟩:=ry
 obtain⟨its,r,pl,hz⟩:=I.tuple hq
 obtain⟨j,h1,h2,h3,h4,h5⟩:=a8Z he
 obtain⟨w,ew,rw'⟩:=r.get h2
 have hl:=r.length
 have hn:=a4x
 have fin:EP X pins σ Q w s:=⟨z,H,I,rw',q⟩
 exact subscriptTail_builtinR (x:=w) pl.typeIs slot_tuple_getitem.lookup
  (getItem_tuple (j:=j) (Q:=fun r s'=>r=w/\EP X pins σ Q r s') pl (by lia) (by lia) (by rw [Ao,<-hl];exact h1) (by simpa using ew) ⟨rfl,fin⟩) hs
theorem b9D:IxR X c15:=by
 intro value slice pins s σ H x y v u Q I rx ry h hs
 obtain⟨z,i,c,rfl,rfl,hz,he,q⟩:=h
 obtain⟨t,rfl⟩:=rx
 obtain⟨t',rfl⟩:=ry
 obtain⟨j,h1,h2,h3,h4,h5⟩:=a8Z he
 have hl:z.cps.toList.length=z.length:=by simp [Str.length]
 rw [hl] at h1 h4 h5
 have hn:=a4x
 exact tail_any (typeIs_str s z t) slot_str_getitem.lookup (getItem_str (c:=c) (by
  have e1:decide (i< -(2 ^ 63:Int))=false:=decide_eq_false (by lia)
  have e2:decide (i>=2 ^ 63)=false:=decide_eq_false (by lia)
  rw [e1,e2,Bool.or_false]) (by rw [h1];simpa using h2) ⟨.str ⟨#[c]⟩,H,I.tok _,⟨_,rfl⟩,q⟩) hs
theorem g9.lst{pins:List (AB×Obj)}{σ:St}{H:Hp}{s:AC}{p:AB}{xs:List V}(I:g9 X pins σ H s)(h:H p=some (.lst xs)):
 ∃(its:List AA) (n:Nat),j9 xs its/\s.heap.get? p=some {cls:= .type "list",data:= .seq its.toArray n}/\xs.length<=AL:=by
 obtain⟨z,its,n,r,e⟩:=I.hok p _ h
 exact⟨its,n,r,e,z⟩
def c1n:V->V->V->Hp->(Hp->Prop)->Prop:=fun o i v H Q=>∃p xs k j,o= .ref p/\i= .int k/\H p=some (.lst xs)/\ixN xs.length k=some j/\Q (upd H p (.lst (xs.set j v)))
theorem a9J(lo hi:Option Int)(n:Nat):(sliceBounds lo hi none n).1=((HT.sIx n 0 lo:Nat):Int)/\(sliceBounds lo hi none n).2.1=((HT.sIx n n hi:Nat):Int)/\(sliceBounds lo hi none n).2.2=1:=by
 refine⟨?_, ?_,rfl⟩
 ·cases lo with
  |none=>simp [sliceBounds,HT.sIx]
  |some i=>
   simp only [sliceBounds,HT.sIx,Option.getD_none,show(1:Int)>0 by decide,if_true]
   by_cases h:i<0
   ·simp only [h,if_true]<;>lia
   ·simp only [h,if_false]<;>lia
 ·cases hi with
  |none=>simp [sliceBounds,HT.sIx]
  |some i=>
   simp only [sliceBounds,HT.sIx,Option.getD_none,show(1:Int)>0 by decide,if_true]
   by_cases h:i<0
   ·simp only [h,if_true]<;>lia
   ·simp only [h,if_false]<;>lia
theorem a2V(its:List AA)(lo hi:Option Int):slicePick its.toArray lo hi none=((its.drop (HT.sIx its.length 0 lo)).take (HT.sIx its.length its.length hi - HT.sIx its.length 0 lo)).toArray:=by
 obtain⟨h1,h2,h3⟩:=a9J lo hi its.toArray.size
 unfold slicePick
 rw [h1,h2,h3]
 simp only [sliceRange_one,pick_run,Ao]<;>rfl
theorem a81:A6 X (.builtin "len") (fun xs H Q=>∃p ys,xs=[.ref p]/\(S2 X.K H p ys\/Z1 X.K H p ys)/\Q (.int ys.length) H):=by
 intro pins s σ H xs us Q I r h
 obtain⟨p,ys,rfl,hq,q⟩:=h
 obtain⟨u,rfl,rx⟩:=Y7 r
 cases rx
 have hn:=a4x
 rcases hq with hq|hq
 ·obtain⟨its,r',pl,hz⟩:=I.list hq
  have hlen:=r'.length
  exact Calls.call_len_list pl.isList (by simp only [Ao]<;>lia) ⟨.int ys.length,H,I.tok _,⟨s.toks+1,by rw [Ao,hlen]⟩,q⟩
 ·obtain⟨its,r',pl,hz⟩:=I.tuple hq
  have hlen:=r'.length
  exact len_tuple pl (by simp only [Ao]<;>lia) ⟨.int ys.length,H,I.tok _,⟨s.toks+1,by rw [Ao,hlen]⟩,q⟩
theorem a82:A6 X (.builtin "len") (fun xs H Q=>∃z,xs=[.str z]/\z.length<=AL/\Q (.int z.length) H):=by
 intro pins s σ H xs us Q I r h
 obtain⟨z,rfl,hz,q⟩:=h
 obtain⟨u,rfl,t,rfl⟩:=Y7 r
 have hn:=a4x
 exact len_str (by lia) ⟨.int z.length,H,I.tok _,⟨_,rfl⟩,q⟩
theorem A6.or{f:AA}{r r':List V->Hp->VK->Prop}(h:A6 X f r)(h':A6 X f r'):A6 X f (fun xs H Q=>r xs H Q\/r' xs H Q):=by
 intro pins s σ H xs us Q I rs q
 rcases q with q|q
 ·exact h pins s σ H xs us Q I rs q
 ·exact h' pins s σ H xs us Q I rs q
theorem a83:A6 X (.type "list") (fun xs H Q=>∃p ys,xs=[.ref p]/\(S2 X.K H p ys\/Z1 X.K H p ys)/\∀l,H l=none->Q (.ref l) (upd H l (.lst ys))):=by
 intro pins s σ H xs us Q I r h
 obtain⟨p,ys,rfl,hq,q⟩:=h
 obtain⟨u,rfl,rx⟩:=Y7 r
 cases rx
 have fin:∀(its:List AA),j9 ys its->ys.length<=AL->∀(h':Heap) (c':Nat),(∀b o',s.heap.get? b=some o'->h'.get? b=some o')->
  h'.get? s.heap.objs.size=some {cls:= .type "list",dict:=none,data:= .seq its.toArray c',slots:= #[]}->EP X pins σ Q (.ref s.heap.objs.size) {s with heap:=h'}:=fun its r' hz h' c' kp e=>
  ⟨.ref s.heap.objs.size,_,I.laid (t':=s.toks) kp (AM _) (show y4 X.prog X.w _ h' _ (.lst ys) from⟨hz,its,c',r',e⟩),rfl,q _ (I.hok.fresh (AM _))⟩
 rcases hq with hq|hq
 ·obtain⟨its,r',pl,hz⟩:=I.list hq
  have hlen:=r'.length
  obtain⟨o,ho,hc,n,hd⟩:=pl.isList
  exact call_list_seq p (.inl rfl) ho hc hd (fun h' c' kp e=>fin its r' hz h' c' kp e) (by simp only [Ao]<;>lia)
 ·obtain⟨its,r',pl,hz⟩:=I.tuple hq
  have hlen:=r'.length
  obtain⟨o,ho,hc,n,hd⟩:=pl
  exact call_list_seq p (.inr rfl) ho hc hd (fun h' c' kp e=>fin its r' hz h' c' kp e) (by simp only [Ao]<;>lia)
theorem a7I:A6 X (.type "tuple") (fun xs H Q=>∃p ys,xs=[.ref p]/\((S2 X.K H p ys/\∀l,H l=none->Q (.ref l) (upd H l (.tup ys)))\/(Z1 X.K H p ys/\Q (.ref p) H))):=by
 intro pins s σ H xs us Q I r h
 obtain⟨p,ys,rfl,h⟩:=h
 obtain⟨u,rfl,rx⟩:=Y7 r
 cases rx
 rcases h with⟨hq,q⟩|⟨hq,q⟩
 ·obtain⟨its,r',pl,hz⟩:=I.list hq
  have hlen:=r'.length
  refine call_tuple_list pl.isList (fun h' kp=> ?_) (by simp only [Ao]<;>lia)
  have I1:g9 X pins σ H {s with heap:=h'}:=I.kept (t':=s.toks) kp
  have I2:g9 X pins σ (upd H h'.objs.size (.tup ys)) {s with heap:=h'.push {cls:= .type "tuple",data:= .seq its.toArray}}:=
   I1.laid (t':=s.toks) (fun b o e=>AY _ e) (AM _) (show y4 X.prog X.w _ _ _ (.tup ys) from⟨hz,its,r',IsTup.new _ _⟩)
  exact⟨.ref h'.objs.size,_,I2,rfl,q _ (I1.hok.fresh (AM _))⟩
 ·obtain⟨its,r',pl,hz⟩:=I.tuple hq
  exact call_tuple_same pl ⟨.ref p,H,I,rfl,q⟩
def tyV(K:AD)(T:String)(x:V)(H:Hp):Prop:=match x with
 | .str _=>T="str"
 | .int _=>T="int"
 | .ref p=>(T="list"/\∃xs,S2 K H p xs)\/(T="tuple"/\∃o,K.lookup p=some o/\o.cls= .type "tuple"/\o.dict=none)\/
  (T="dict"/\((∃kvs,H p=some (.dK kvs))\/∃kvs,H p=some (.dT kvs)))\/(T="set"/\∃S n,H p=some (.set S n))
 |_=>False
theorem b6X{pins:List (AB×Obj)}{σ:St}{H:Hp}{s:AC}{T:String}{x:V}{v:AA}(I:g9 X pins σ H s)(r:m3 x v)(ty:tyV X.K T x H):
 s.TypeIs v T/\∀a,v= .ref a->∃ob,s.heap.get? a=some ob/\ob.dict=none:=by
 cases x with
 |str z=>
  obtain⟨t,rfl⟩:=r
  cases(show T="str" from ty)
  exact⟨typeIs_str s z t,fun _ e=>nomatch e⟩
 |int i=>
  obtain⟨t,rfl⟩:=r
  cases(show T="int" from ty)
  exact⟨typeIs_int s i t,fun _ e=>nomatch e⟩
 |ref p=>
  cases r
  rcases ty with⟨rfl,xs,hq⟩|⟨rfl,o,hk,hc,hd⟩|⟨rfl,hk⟩|⟨rfl,S,n,hk⟩
  ·obtain⟨its,_,pl,_⟩:=I.list hq
   refine⟨pl.isList.typeIs,fun a e=> ?_⟩
   cases e
   obtain⟨o,n,e,c,hd,_⟩:=pl
   exact⟨o,e,hd⟩
  ·refine⟨⟨o,I.kIn p o hk,hc⟩,fun a e=> ?_⟩
   cases e
   exact⟨o,I.kIn _ o hk,hd⟩
  ·have z:∃o,s.heap.get? p=some o/\o.ExactDict:=by
    rcases hk with⟨kvs,hk⟩|⟨kvs,hk⟩
    ·obtain⟨_,_,_,_,o,_,_,e,ex,_⟩:=I.hok p _ hk
     exact⟨o,e,ex⟩
    ·obtain⟨_,_,_,_,o,_,_,e,ex,_⟩:=I.hok p _ hk
     exact⟨o,e,ex⟩
   obtain⟨o,e,ex⟩:=z
   refine⟨⟨o,e,ex.1⟩,fun a e2=> ?_⟩
   cases e2
   exact⟨o,e,ex.2.1⟩
  ·obtain⟨o,_,_,_,e,ex,_⟩:=I.hok p _ hk
   refine⟨⟨o,e,ex.1⟩,fun a e2=> ?_⟩
   cases e2
   exact⟨o,e,ex.2.1⟩
 |_=>exact False.elim ty
def c2b(K:AD)(T:String)(r:V->List V->Hp->VK->Prop)(to:TE):TE:=fun σ H Q=>to σ H fun x H1=>tyV K T x H1/\r x [] H1 Q
def tBM(K:AD)(T:String)(r:V->List V->Hp->VK->Prop)(to:TE)(t:TA):TE:=fun σ H Q=>to σ H fun x H1=>tyV K T x H1/\t σ H1 fun xs H2=>r x xs H2 Q
variable {o e:AF}{es:List AF}{to:TE}{t:TA}{name:Str}{apos cpos:Pos}{T id:String}{r:V->List V->Hp->VK->Prop}
theorem b93(pa:PlainAttrs T)(slot:Slot T name id)(hty:typeOf (.builtin id)=pure (.type "method_descriptor"))(hm:MtR X id r)(ho:PE X o to)
 (hbase:attributeBase o name X.env (eval o X.env)=eval o X.env:=by rfl) (hline:(apos.endLine==cpos.line)=true:=by rfl):PE X (.Call (.Attribute o name apos) [] [] cpos) (c2b X.K T r to):=by
 intro pins s σ H Q I h
 refine wpAny_Call_method0_late hbase hline (F8 (ho pins s σ H _ I h) fun v s1 ⟨x,H1,I1,r1,ty,q1⟩=> ?_)
 obtain⟨h1,h2⟩:=b6X I1 r1 ty
 exact⟨T,id,pa,slot,hty,h1,h2,Calls.callWith_builtin rfl (PySem.evalArgs_none (hm pins s1 σ H1 x [] v [] Q I1 r1 .nil q1))⟩
theorem a8H(pa:PlainAttrs T)(slot:Slot T name id)(hty:typeOf (.builtin id)=pure (.type "method_descriptor"))(hm:MtR X id r)(ho:PE X o to)(ha:PA X (e::es) t)
 (hbase:attributeBase o name X.env (eval o X.env)=eval o X.env:=by rfl)
 (hfew:((backTo cpos (AT (e::es) X.env)).all (fun x=> !x.1)&&(backToKw cpos (keywordEach [] X.env)).all (fun x=>x.1.isSome)
  && decide ((e::es).length+([]:List Keyword).length+(if([]:List Keyword).isEmpty then 0 else 1)<30))=true:=by rfl)
 (hline:(apos.endLine==cpos.line)=true:=by rfl) (hs:AT (e::es) X.env=(false,eval e X.env)::AT es X.env:=by rfl) (hplain:(backTo cpos (AT es X.env)).any (·.1)=false:=by rfl):
 PE X (.Call (.Attribute o name apos) (e::es) [] cpos) (tBM X.K T r to t):=by
 intro pins s σ H Q I h
 refine wpAny_Call_method_late hbase hfew hline rfl (F8 (ho pins s σ H _ I h) fun v s1 ⟨x,H1,I1,r1,ty,q1⟩=> ?_)
 obtain⟨h1,h2⟩:=b6X I1 r1 ty
 refine⟨T,id,pa,slot,hty,h1,h2, ?_⟩
 have hA:=ha cpos pins s1 σ H1 _ I1 q1
 rw [hs] at hA ⊢
 refine Calls.callWith_builtin (by show(false||(backTo cpos (AT es X.env)).any (·.1))=false;rw [hplain]<;>rfl) (Calls.evalArgs_plain ?_)
 exact F8 hA fun us s2 ⟨vs,H2,I2,r2,q2⟩=>hm pins s2 σ H2 x vs v us Q I2 r1 r2 q2
end
def MtM(X:Cx)(id:String)(r:V->List V->Hp->VK->Prop):Prop:=
 ∀(pins:List (AB×Obj)) (s:AC) (σ:St) (H:Hp) (x:V) (xs:List V) (v:AA) (us:List AA) (Q:VK),g9 X pins σ H s->m3 x v->j9 xs us->r x xs H Q->
  AG (model X.prog X.w) X.A (call (.builtin id) (v::us)) (EP X pins σ Q) X.xe s
theorem j9.one:∀{x:V} {us:List AA},j9 [x] us->∃u,us=[u]/\m3 x u
 |_,_,.cons r .nil=>⟨_,rfl,r⟩
theorem j9.zero:∀{us:List AA},j9 [] us->us=[]
 |_,.nil=>rfl
theorem j9.dropLast{xs:List V}{us:List AA}(h:j9 xs us):j9 xs.dropLast us.dropLast:=by
 induction h with
 |nil=>exact .nil
 |cons r t ih=>
  cases t with
  |nil=>exact .nil
  |cons q t'=>exact .cons r ih
theorem j9.eraseIdx:∀{xs:List V} {us:List AA} (i:Nat),j9 xs us->j9 (xs.eraseIdx i) (us.eraseIdx i)
 |_,_,_,.nil=> .nil
 |_,_,0,.cons _ t=>t
 |_,_,i+1,.cons r t=> .cons r (j9.eraseIdx i t)
theorem j9.reverse{xs:List V}{us:List AA}(h:j9 xs us):j9 xs.reverse us.reverse:=by
 induction h with
 |nil=>exact .nil
 |cons r t ih=>rw [List.reverse_cons,List.reverse_cons];exact j9.append ih (.cons r .nil)
theorem j9.rep{xs:List V}{us:List AA}(h:j9 xs us):∀k:Nat,j9 (AW k xs).flatten (AW k us).flatten
 |0=> .nil
 |k+1=>by
  rw [Ag,Ag,List.flatten_cons,List.flatten_cons]
  exact j9.append h (j9.rep h k)
theorem a4m(its:List AA):∀(k:Nat) (acc:List AA),
 List.foldl (fun x1 x2=>x1++x2) acc.toArray (AW k its.toArray)=(acc++(AW k its).flatten).toArray
 |0,acc=>by simp
 |k+1,acc=>by
  have e:acc.toArray++its.toArray=(acc++its).toArray:=by simp
  have e2:(acc++its)++(AW k its).flatten=acc++(AW (k+1) its).flatten:=by
   rw [Ag,List.flatten_cons,List.append_assoc]
  rw [<-e2,<-a4m its k (acc++its),<-e,Ag,List.foldl_cons]
section
variable {X:Cx}{pins:List (AB×Obj)}{σ:St}{H:Hp}{s:AC}{l b:AB}{xs ys zs:List V}
theorem g9.lset{its its':List AA}{n:Nat}{f:Array AA->Array AA}{t':Nat}(I:g9 X pins σ H s)(hH:H l=some (.lst xs))
 (e:s.heap.get? l=some {cls:= .type "list",data:= .seq its.toArray n}) (hf:f its.toArray=its'.toArray) (hv:j9 ys its') (hz:ys.length<=AL):
 g9 X pins σ (upd H l (.lst ys)) {s with heap:=s.heap.update l (Obj.mapSeq f),toks:=t'}:=by
 have q:=PySem.IsL.update e f
 rw [hf] at q
 refine I.write (x:=l) (e:=l) (by rw [hH];exact trivial) (.inl rfl) (fun b' u hb hu=>(Heap.get?_update_other s.heap (Obj.mapSeq f) (Ne.symm hb)).trans hu) ⟨_,q⟩ ?_
 exact⟨hz,its',_,hv,q⟩
theorem g9.lnew{its:List AA}{t':Nat}(I:g9 X pins σ H s)(hv:j9 ys its)(hz:ys.length<=AL):
 g9 X pins σ (upd H s.heap.objs.size (.lst ys)) {s with heap:=s.heap.push {cls:= .type "list",data:= .seq its.toArray},toks:=t'}:=
 I.laid (fun _ _ q=>AY _ q) (AM _) ⟨hz,its,0,hv,An _ rfl⟩
theorem g9.fresh(I:g9 X pins σ H s):H s.heap.objs.size=none:=I.hok.fresh (AM _)
theorem g9.lstM(I:g9 X pins σ H s)(hH:H l=some (.lst xs)):xs.length<=AL/\∃(its:List AA) (n:Nat),j9 xs its/\xs.length=its.length/\s.heap.get? l=some {cls:= .type "list",data:= .seq its.toArray n}:=by
 obtain⟨z,its,n,r,e⟩:=I.hok l _ hH
 exact⟨z,its,n,r,r.length,e⟩
theorem b56{n:Nat}(h:n<=AL):Builtin.List.listTooLong n=false:=by
 unfold Builtin.List.listTooLong
 exact decide_eq_false (by lia)
end
section
variable {X:Cx}
def b8f:V->List V->Hp->VK->Prop:=fun x vs H Q=>∃l xs y,x= .ref l/\vs=[y]/\H l=some (.lst xs)/\xs.length<AL/\Q .non (upd H l (.lst (xs++[y])))
theorem a0L:MtM X "list.append" b8f:=by
 intro pins s σ H x vs v us Q I rx rv h
 obtain⟨l,xs,y,rfl,rfl,hH,hz,q⟩:=h
 cases rx
 obtain⟨u,rfl,ru⟩:=rv.one
 obtain⟨z,its,n,r,hl,e⟩:=I.lstM hH
 refine call_meets F.slot_list_append ⟨_,e,rfl⟩ F.entry_list_append (F.args_list_append_2 _ _) (PySem.list_append l its.toArray n u (by rw [Ao];lia)) ⟨e, ?_⟩
 refine⟨.non,_,I.lset (its':=its++[u]) hH e (by simp) (r.append (.cons ru .nil)) ?_,rfl,q⟩
 rw [Ai,List.length_singleton]
 lia
def c13:R2:=fun x y H Q=>∃l b xs zs,x= .ref l/\y= .ref b/\H l=some (.lst xs)/\H b=some (.lst zs)/\xs.length+zs.length<=AL/\∀p,H p=none->Q (.ref p) (upd H p (.lst (xs++zs)))
theorem b9V:OpR X (binaryOp .Add) c13:=by
 intro pins s σ H x y v u Q I rx ry h
 obtain⟨l,b,xs,zs,rfl,rfl,hH,hB,hz,q⟩:=h
 cases rx
 cases ry
 obtain⟨z,its,n,r,hl,e⟩:=I.lstM hH
 obtain⟨z2,its2,n2,r2,hl2,e2⟩:=I.lstM hB
 refine PySem.P.add_list e e2 ?_ (by rw [Ao,Ao];lia)
 have ea:its.toArray++its2.toArray=(its++its2).toArray:=by simp
 rw [ea]
 exact⟨.ref _,_,I.lnew (t':=s.toks) (r.append r2) (by rw [Ai];lia),rfl,q _ I.fresh⟩
def c17:R2:=fun x y H Q=>∃l k xs,x= .ref l/\y= .int k/\H l=some (.lst xs)/\ -(2 ^ 63)<=k/\k<2 ^ 63/\xs.length*k.toNat<=AL/\
 ∀p,H p=none->Q (.ref p) (upd H p (.lst (AW k.toNat xs).flatten))
theorem a9r{α:Type}(xs:List α)(k:Nat):(AW k xs).flatten.length=k*xs.length:=by
 induction k with
 |zero=>simp
 |succ k ih=>rw [Ag,List.flatten_cons,Ai,ih,Nat.succ_mul,Nat.add_comm]
theorem b9Y:OpR X (binaryOp .Mult) c17:=by
 intro pins s σ H x y v u Q I rx ry h
 obtain⟨l,k,xs,rfl,rfl,hH,h1,h2,hz,q⟩:=h
 cases rx
 obtain⟨t,rfl⟩:=ry
 obtain⟨z,its,n,r,hl,e⟩:=I.lstM hH
 have hlen:its.toArray.size*k.toNat<=AL:=by rw [Ao,<-hl];exact hz
 have hcap:¬its.toArray.size*k.toNat>(2 ^ 63 - 1)/ 8:=by
  have:(AL:Nat)<=(2 ^ 63 - 1)/ 8:=by decide
  lia
 have hfit:¬(!Builtin.List.listFitsIndex k)=true:=by
  rw [fitsIndex_both h1 h2]
  exact At
 have hlong:¬Builtin.List.listTooLong (its.toArray.size*k.toNat)=true:=by
  rw [b56 hlen]
  exact At
 have hnew:List.foldl (fun x1 x2=>x1++x2) #[] (AW (if its.toArray.isEmpty=true then 0 else k.toNat) its.toArray)=(AW k.toNat its).flatten.toArray:=by
  have f0:∀m:Nat,List.foldl (fun x1 x2=>x1++x2) #[] (AW m its.toArray)=(AW m its).flatten.toArray:=fun m=>by
   have:=a4m its m []
   rw [Ah] at this
   exact this
  rw [f0]
  cases its with
  |nil=>simp
  |cons a r'=>rw [if_neg (by simp)]
 refine wpAny_binaryOp_repeat_ref (T:="list") (U:="int") (by decide) ⟨_,e,rfl⟩ (fun s'=>typeIs_int s' k t) noFill_list_mul F.fills_int_mul F.slot_int_rmul repeat_list F.slot_int_index.lookup
  (call_meets F.slot_int_rmul (typeIs_int s k t) F.entry_int_rmul (F.args_int_rmul_2 _ _) (int___rmul___int_list k t l its.toArray n)
   ⟨e,rfl,⟨_,e,rfl⟩,call_meets F.slot_list_mul ⟨_,e,rfl⟩ F.entry_list_mul (F.args_list_mul_2 _ _) (AutoListH.list___mul___list_int_3 l its.toArray n k t hfit hcap hlong) ⟨e, ?_⟩⟩)
 rw [hnew]
 exact⟨.ref _,_,I.lnew (t':=s.toks) (r.rep k.toNat) (by rw [a9r,Nat.mul_comm];exact hz),rfl,q _ I.fresh⟩
end
section
variable {prog:AN}{w:AI}{A:AR}{E:AA->AC->Prop}{s:AC}
end
section
variable {X:Cx}
end
end L2
namespace Att
open PySem PySem.W PySem.Calls PyProof.Rows
theorem a5y{P:Params}{h:Heap}:∀(ns:List Int) (vs:List AA),WellAll P h vs (ns.map WData.int)->IntsAre vs ns:=by
 intro ns
 induction ns with
 |nil=>
  intro vs w
  rw [Ae] at w
  cases w
  exact .nil
 |cons n ns ih=>
  intro vs w
  rw [AK] at w
  cases w with
  |cons a b=>
   cases a
   exact .cons _ _ (ih _ b)
theorem b36{l:OpenLaw}{n:Nat}(hn:l.most=some n){P:Params}{h:Heap}{args:List WData}{vals:List AA}
 (hpre:l.row.toRowW.claim.pre args=true) (hwl:WellAll P h vals args):
 ∃a vs ns,vals=[Value.ref a]/\args=[WData.list (ns.map WData.int)]/\h.get? a=some {cls:= .type "list",data:= .seq vs.toArray}/\IntsAre vs ns/\ns.length<=n:=by
 have hsh:WShape.hasAll [] args [.list .int]=true:=(pre_splitW hpre).1
 have hc:l.pre.holds [] {args:=args}=true:=(pre_splitW hpre).2
 obtain⟨d,r,rfl,h1,h2⟩:=hasAllW_cons hsh
 obtain rfl:=hasAllW_nil h2
 obtain⟨xs,rfl,h3⟩:=hasW_list h1
 obtain⟨ns,rfl⟩:=items_int h3
 have hlen:ns.length<=n:=by
  unfold OpenLaw.pre at hc
  have h4:(WTm.not (.lt (.lit (.int (n:Int))) (.len (.arg 0)))).holds [] {args:=[.list (ns.map .int)]}=true:=by
   have h4:=(holds_andW hc).1
   rw [hn] at h4
   exact h4
  have h5:=condW_of h4 (w_not (w_lt w_lit (w_len_list (w_arg rfl))))
  rw [AO] at h5
  refine Nat.le_of_not_lt fun q=> ?_
  have q':(n:Int)<((ns.length:Nat):Int):=by lia
  first
   |(rw [decide_eq_true q'] at h5;exact absurd h5 (by decide))
   |(simp at h5;lia)
 cases hwl with
 |cons w1 w2=>
  cases w2
  cases w1 with
  |list ho hall=>exact⟨_,_,ns,rfl,rfl,ho,a5y ns _ hall,hlen⟩
theorem b33(l:OpenLaw)(args:List WData):l.row.toRowW.claim.post args (.bool true) args=true:=
 postW_of (r:=l.row.toRowW) (X:=(true==true))
  (show WShape.has [] (.bool true) .bool=true by first|rfl|decide|simp [WShape.has,WShape.arms,WShape.armsAll])
  (show(WTm.eq .res (.lit (.bool true))).value [] {args:=args,res:=some (.bool true),after:=args}=some (.bool (true==true)) from w_eq_bool (w_res rfl) w_lit) rfl
theorem attach_call{l:OpenLaw}{n:Nat}{q:AN}{loose:List Str}{XP:(Str->Option AA)->Heap->Prop}{YP:AI->Heap->Prop}{d:DefRec}
 (hn:l.most=some n) (hdf:d.params.defaults=[])
 (call:∀(w:AI) (s₀ s₁:AC) (mg mb:Str->Option AA) (fa:AB) (o:Obj) (pm cd doc:AA) (a:AB) (vs:List AA) (ns:List Int),
  Ground q loose [] XP w s₀ mg mb s₁.heap->YP w s₁.heap->
  s₁.heap.get? fa=some o->o.data= .func (docDef d.name d.params d.body d.scope pm cd doc)->s₁.heap.CodeRec cd d.name->mg d.name=some (.ref fa)->
  s₁.heap.get? a=some {cls:= .type "list",data:= .seq vs.toArray}->IntsAre vs ns->ns.length<=n->s₁.gens= #[]->
  codeAny (model l.prog w) callerA (.call (.ref fa) ⟨[.ref a],[]⟩) (fun r s'=>r= .ok (.ret (.bool true))/\OldK s₁.heap s'.heap/\s'.os=s₁.os/\AllBare s'.gens) s₁):
 WalkO q loose XP YP l.row.toRowW d [] (fun f vs=>PySem.call f vs):=by
 intro w s₀ s₁ mg mb G Y fa o pm cd doc dV kV ho hd hcd hD hmg hg args vals as hpre hlay hrd hwl hlo
 obtain rfl:dV= .none:=Dflts.none hD hdf
 obtain rfl:kV= .none:=Dflts.noKw hD
 obtain⟨a,vs,ns,rfl,rfl,hobj,hints,hlen⟩:=b36 hn hpre hwl
 refine enter_call (codeAny_mono (call w s₀ s₁ mg mb fa o pm cd doc a vs ns G Y ho (fd_plain hd) hcd hmg hobj hints hlen hg) fun r s' hq=> ?_)
 obtain⟨rfl,h2,h3,h4⟩:=hq
 exact⟨.inl ⟨.bool true,.bool true,[],rfl,fun _=>rfl,.bool true,b33 l _,fun _=>⟨List.Pairwise.nil,fun _ hm=>(nomatch hm)⟩⟩,h2,h3,h4⟩
section
variable {prog:AN}{w:AI}{A:AR}{E:AA->AC->Prop}{s:AC}{K:Frag}
end
end Att
namespace L2
open PySem PySem.Spec PyProof.Rows
theorem a8V:∀{vs:List AA} {ns:List Int},IntsAre vs ns->j9 (ns.map V.int) vs
 |_,_,.nil=> .nil
 |_,_,.cons n t h=> .cons ⟨t,rfl⟩ (a8V h)
def b82(H:Hp):Prop:=∀b,H b=none\/∃o xs,H b=some (.frz o (.lst xs))
theorem b5D{P:AN}{w:AI}{K:AD}{mg mb:Str->Option AA}{CX:CXT}{k:Nat}{fa a:AB}{fd:FuncData}{x:Str}{sp:Sp}{s₁:AC}{vs:List AA}{ns:List Int}
 (KX:K.In s₁.heap) (hns:s₁.heap.Ns mainGlobals mg) (hb:s₁.heap.Ns builtinsNs mb) (hbb:∀x:Str,x≠"__name__"->mb x=bootBuiltins x) (hlim:s₁.heap.NoLimit) (hg:s₁.gens= #[])
 (ha:s₁.heap.get? a=some {cls:= .type "list",data:= .seq vs.toArray}) (hi:IntsAre vs ns) (hl:ns.length<=AL) (hr:P4 k callerA)
 (F:∀base:Heap,K.In base->base.Ns mainGlobals mg->a0l P w K mg base CX k fa fd [x] sp) (hbind:∀(s:AC) (u:AA),BindsTo s fd ⟨[u],[]⟩ [(x,u)])
 (hsp:∀H:Hp,b82 H->S2 K H a (ns.map V.int)->sp [.ref a] H (fun v _=>v= .bl true) fun _ _ _=>False)
 (hCX:∀H e s',CX [] H s₁ (fun _ _ _=>False) e s'->False):
 codeAny (model P w) callerA (.call (.ref fa) ⟨[.ref a],[]⟩) (fun r s'=>r= .ok (.ret (.bool true))/\OldK s₁.heap s'.heap/\s'.os=s₁.os/\AllBare s'.gens) s₁:=by
 have rv:=a8V hi
 have lenV:=hi.length
 have core:∀H:Hp,b82 H->S2 K H a (ns.map V.int)->HOk P w H s₁.heap->(∀b,H b≠none->b=a)->(H a≠none->K.lookup a=none)->
  codeAny (model P w) callerA (.call (.ref fa) ⟨[.ref a],[]⟩) (fun r s'=>r= .ok (.ret (.bool true))/\OldK s₁.heap s'.heap/\s'.os=s₁.os/\AllBare s'.gens) s₁:=by
  intro H hO hS hok hA hK
  have base_of:∀{b:AB} {o:Obj},s₁.heap.get? b=some o->H b=none->(a9g s₁.heap H).get? b=some o:=fun e n=>b5n e n
  have noA:∀{b:AB} {o:Obj} {es:Array DictEntry} {ep:Nat},s₁.heap.get? b=some o->o.data= .dict es ep->H b=none:=fun {b o es ep} e d=>by
   cases q:H b with
   |none=>rfl
   |some u=>
    have e':b=a:=hA b (by rw [q];simp)
    subst e'
    rw [ha] at e;cases e
    have d':Data.seq vs.toArray _=Data.dict es ep:=d
    cases d'
  have nsK:∀{b:AB} {m:Str->Option AA},s₁.heap.Ns b m->(a9g s₁.heap H).Ns b m:=fun {b m} ⟨o,es,ep,e,d,r⟩=>⟨o,es,ep,base_of e (noA e d),d,r⟩
  have hKb:K.In (a9g s₁.heap H):=fun b o e=>base_of (KX b o e) (by
   cases q:H b with
   |none=>rfl
   |some u=>
    have e':b=a:=hA b (by rw [q];simp)
    subst e'
    rw [hK (by rw [q];simp)] at e;cases e)
  have hM:Mod K mg (a9g s₁.heap H):=⟨hKb,nsK hns,⟨mb,nsK hb,hbb⟩,let ⟨mc,h1,h2⟩:=hlim;⟨mc,nsK h1,h2⟩⟩
  have e0:b05 P w K mg (a9g s₁.heap H) callerA [] s₁ H:=⟨rfl,hM,fun b o e=>b7W e,Nat.le_of_eq (b3t _ _),trivial,fun b hb=>absurd (show b∈([]:List AB) from hb) (by simp),hok,.of_eq hg⟩
  refine codeAny_mono ((F _ hKb (nsK hns)).run callerA [] s₁ H ⟨[.ref a],[]⟩ [.ref a] [.ref a] _ _ hr e0 (hbind s₁ (.ref a)) (.cons rfl .nil) (hsp H hO hS)) fun r s' h=> ?_
  cases r with
  |error e=>exact(hCX H e s' h).elim
  |ok fl=>
   cases fl with
   |next=>exact False.elim h
   |brk=>exact False.elim h
   |cont=>exact False.elim h
   |ret u=>
    obtain⟨v,H',os,bare,un,hok',r',q⟩:=h
    have q':v= .bl true:=q
    subst q'
    obtain rfl:u=Value.bool true:=r'
    refine⟨rfl,OldK.of_keep fun b o e=> ?_,os,bare⟩
    cases q:H b with
    |none=>exact un.keep b o e q (by intro z;exact absurd (show b∈([]:List AB) from z) (by simp)) (by simp)
    |some u=>
     rcases hO b with z|⟨ob,xs,z⟩
     ·rw [q] at z;cases z
     ·have z2:=un.frzs b ob _ z
      obtain⟨e1,_⟩:=hok b _ z
      obtain⟨e2,_⟩:=hok' b _ z2
      rw [e] at e1;cases e1
      exact e2
 cases hk:K.lookup a with
 |some o=>
  have e:=KX a o hk
  rw [ha] at e
  cases e
  refine core (fun _=>none) (fun _=> .inl rfl) (.inr ⟨_,vs.toArray,_,hk,rfl,rfl,rfl,by rw [Ao,lenV];exact hl,by simpa using rv⟩) (fun b u z=>by have z':(none:Option HO)=some u:=z;cases z') (fun b z=>absurd rfl z) fun z=>absurd rfl z
 |none=>
  refine core (fun b=>if b=a then some (.frz {cls:= .type "list",data:= .seq vs.toArray} (.lst (ns.map V.int))) else none) (fun b=> ?_) (.inl (.inr ⟨{cls:= .type "list",data:= .seq vs.toArray},if_pos rfl⟩)) (fun b u z=> ?_) (fun b z=> ?_) fun _=>hk
  ·by_cases hb:b=a
   ·exact .inr ⟨_,_,if_pos hb⟩
   ·exact .inl (if_neg hb)
  ·by_cases hb:b=a
   ·have z':=(if_pos hb).symm.trans z
    cases z'
    subst hb
    exact⟨ha,by rw [AO];exact hl,vs,_,rv,ha⟩
   ·have z':=(if_neg hb).symm.trans z
    cases z'
  ·by_cases hb:b=a
   ·exact hb
   ·exact absurd (if_neg hb) z
theorem b8C{l:PySem.W.OpenLaw}{n k:Nat}{q:AN}{loose:List Str}{XP:(Str->Option AA)->Heap->Prop}{YP:AI->Heap->Prop}{d:DefRec}{K:Params->AD}{CX:AI->CXT}{sp:AI->Sp}{x:Str}
 (hn:l.most=some n) (hn2:n<=AL) (hdf:d.params.defaults=[]) (hr:P4 k callerA)
 (hY:∀(w:AI) (h:Heap),YP w h->(K w.params).In h)
 (F:∀(w:AI) (mg:Str->Option AA) (fa:AB) (h:Heap),(K w.params).In h->h.Ns mainGlobals mg->mg d.name=some (.ref fa)->
  ∃fd:FuncData,(∀(s:AC) (u:AA),BindsTo s fd ⟨[u],[]⟩ [(x,u)])/\
   ∀base:Heap,(K w.params).In base->base.Ns mainGlobals mg->a0l l.prog w (K w.params) mg base (CX w) k fa fd [x] (sp w))
 (hsp:∀(w:AI) (H:Hp) (a:AB) (ns:List Int),ns.length<=n->b82 H->S2 (K w.params) H a (ns.map V.int)->sp w [.ref a] H (fun v _=>v= .bl true) fun _ _ _=>False)
 (hCX:∀(w:AI) (H:Hp) (s:AC) (e:AA) (s':AC),CX w [] H s (fun _ _ _=>False) e s'->False):
 PySem.W.WalkO q loose XP YP l.row.toRowW d [] (fun f vs=>PySem.call f vs):=by
 refine Att.attach_call hn hdf fun w s₀ s₁ mg mb fa o pm cd doc a vs ns G Y ho hd hcd hmg hobj hints hlen hg=> ?_
 have KX:=hY w _ Y
 obtain⟨fd,hb,hF⟩:=F w mg fa _ KX G.T.g hmg
 exact b5D KX G.T.g G.T.b G.T.builtins G.T.nolimit hg hobj hints (Nat.le_trans hlen hn2) hr hF hb (fun H hO hS=>hsp w H a ns hlen hO hS) fun H e s'=>hCX w H s₁ e s'
def Z7(s:Stmt):Arguments:=match s with
 | .FunctionDef _ a _ _ _ _ _ _ _ _=>a
 |_=>{posonlyargs:=[],args:=[],vararg:=none,kwonlyargs:=[],kw_defaults:=[],kwarg:=none,defaults:=[]}
def N7(s:Stmt):List Stmt:=match s with
 | .FunctionDef _ _ b _ _ _ _ _ _ _=>b
 |_=>[]
def f9(s:Stmt):Scope:=match s with
 | .FunctionDef _ _ _ _ _ _ sc _ _ _=>sc
 |_=>{kind:= .function,names:=[],isGenerator:=false,isCoroutine:=false}
abbrev CX0:CXT:=fun _ _ _ _ _ _=>False
abbrev E0:XK:=fun _ _ _=>False
theorem b2D{X:Cx}:b08 CX0 X E0:=fun _ _ _ _ _ _ _ h=>h.elim
structure Fun(K:AD)(x qual:Str)(st:Stmt)(f:AB)(fd:FuncData):Prop where
 ex:∃(oc:AA) (od:Option AB) (kV doc pm:AA) (an:Option AB) (cdv ct:AA) (osl:Array (Option AA)),
  fd=PySem.W.fnOf x qual (Z7 st) (N7 st) (f9 st) .none kV doc pm an cdv ct/\K.lookup f=some ⟨oc,od,.func fd,osl⟩/\PySem.W.codeIn K cdv qual=true
 kp:PySem.W.keepIn K (.ref f)=true
section
variable {P:AN}{w:AI}{K:AD}{mg:Str->Option AA}{base:Heap}
theorem Fun.ok{x qual:Str}{st:Stmt}{f:AB}{fd:FuncData}{N ps:List Str}{k:Nat}{sp:Sp}(F:Fun K x qual st f fd)(S:l0 N ps (f9 st))(len:∀vs H Q E,sp vs H Q E->vs.length=ps.length)
 (hbody:∀(cdv:AA) (A:AR) (outer:List Env) (s:AC) (H:Hp) (vs:List V) (Q:VK) (E:XK),P4 k (A.deeper (envOfC qual (f9 st) s.heap.objs.size f cdv))->sp vs H Q E->
  ∃t,PSs (b0a CX0 P w K mg base N qual (f9 st) f cdv A outer s H E).nox (N7 st) t/\t {nx:=fun _ H'=>Q .non H',rt:=Q} (a33 N vs) H):a0l P w K mg base CX0 (k+1) f fd ps sp:=by
 obtain⟨oc,od,kV,doc,pm,an,cdv,ct,osl,rfl,lk,hcd⟩:=F.ex
 refine c02 lk hcd S len fun A outer s H vs Q E hr hsp=> ?_
 obtain⟨t,h,q⟩:=hbody cdv A outer s H vs Q E hr hsp
 exact⟨t,h.nox,q⟩
theorem Fun.binds{x qual:Str}{st:Stmt}{f:AB}{fd:FuncData}{ps:List Str}(F:Fun K x qual st f fd)
 (h:∀(kV doc pm:AA) (an:Option AB) (cdv ct:AA) (us:List AA),us.length=ps.length->bindArgs (PySem.W.fnOf x qual (Z7 st) (N7 st) (f9 st) .none kV doc pm an cdv ct) ⟨us,[]⟩=pure (ps.zip us)):a4Z K fd ps []:=by
 obtain⟨oc,od,kV,doc,pm,an,cdv,ct,osl,rfl,lk,hcd⟩:=F.ex
 exact .all (h kV doc pm an cdv ct)
theorem b9u{x qual:Str}{st:Stmt}{f:AB}{oc:AA}{od an:Option AB}{osl:Array (Option AA)}{kV doc pm cdv ct:AA}(l:K.lookup f=some ⟨oc,od,.func (PySem.W.fnOf x qual (Z7 st) (N7 st) (f9 st) .none kV doc pm an cdv ct),osl⟩)
 (c:PySem.W.codeIn K cdv qual=true) (k:PySem.W.keepIn K (.ref f)=true):Fun K x qual st f (PySem.W.fnOf x qual (Z7 st) (N7 st) (f9 st) .none kV doc pm an cdv ct):=⟨⟨oc,od,kV,doc,pm,an,cdv,ct,osl,rfl,l,c⟩,k⟩
end
theorem b39{n:Nat}(h:n<=1000):n<AL:=Nat.lt_of_le_of_lt h (by decide)
section
variable {X:Cx}
theorem pv(i:Nat){x:Str}{pos:Pos}(hN:X.N[i]?=some x:=by rfl)(hv:Vis X.env.scope x:=by first|exact Or.inl rfl|exact Or.inr (Or.inl rfl)|exact Or.inr (Or.inr rfl))(hd:(x==("__debug__":Str))=false:=by decide)
 (hcd:(x==("__classdict__":Str))=false:=by decide):PE X (.Name x pos) (C7 i):=c0a hN hv hd hcd
end
theorem b3x{A B:Prop}(h:B):if false=true then A else B:=by
 rw [if_neg At]
 exact h
theorem b5t{A B:Prop}(h:A):if true=true then A else B:=by
 rw [if_pos rfl]
 exact h
def j8(H H':Hp):Prop:=∀b o,H b=some o->H' b=some o
theorem j8.refl(H:Hp):j8 H H:=fun _ _ h=>h
theorem j8.trans{H H1 H2:Hp}(a:j8 H H1)(b:j8 H1 H2):j8 H H2:=fun c o h=>b c o (a c o h)
theorem j8.free{H H':Hp}(e:j8 H H'){l:AB}(h:H' l=Option.none):H l=Option.none:=by
 cases q:H l with
 |none=>rfl
 |some o=>
  rw [e l o q] at h
  cases h
theorem j8.seq{K:AD}{H H':Hp}{a:AB}{xs:List V}(e:j8 H H')(h:S2 K H a xs):S2 K H' a xs:=by
 rcases h with(h|⟨o,h⟩)|h
 ·exact .inl (.inl (e _ _ h))
 ·exact .inl (.inr ⟨o,e _ _ h⟩)
 ·exact .inr h
section
variable (P:AN)(w:AI)
end
section
variable {P:AN}{w:AI}{H H':Hp}{h h':Heap}{a:AB}{o:HO}
end
section
variable {P:AN}{w:AI}{H:Hp}{h h':Heap}{x e:AB}{o':HO}
end
section
variable {fs fs' ex ex':List AB}{H H1 H2:Hp}{h h1 h2 h':Heap}{a x e:AB}{o:HO}
end
section
variable {X:Cx}{pins:List (AB×Obj)}{σ:List (Option V)}{H H':Hp}{s:AC}{h':Heap}
end
section
variable {X:Cx}
variable {a b:AF}{ta tb:TE}{pos:Pos}
variable {tA tB':TT}{B7:List AF}
end
section
variable {X:Cx}{pins:List (AB×Obj)}{σ:St}{H:Hp}{s:AC}{a:AB}{xs ys:List V}
end
section
variable {X:Cx}{pins:List (AB×Obj)}{σ:St}{H:Hp}{s:AC}{E:AA->AC->Prop}
end
section
variable {X:Cx}{st:Stmt}{B7:List Stmt}{t u:TS}{e:AF}{te:TE}{pos:Pos}
end
section
variable {X:Cx}{pos:Pos}
end
section
variable {X:Cx}{pos:Pos}
end
section
variable {X:Cx}{tg:AF}
end
section
variable {X:Cx}{a b c:AF}{ta tb tc:TE}{pos:Pos}
end
section
variable {X:Cx}{a b c:AF}{ta tb tc:TE}{pos:Pos}
end
section
variable {prog:AN}{w:AI}{A:AR}{E:AA->AC->Prop}{s:AC}{K:AD}{x dx C f:AB}{mA:Str->Option AA}{name:Str}{v:AA}
end
section
variable {P:AN}{w:AI}{H H':Hp}{h h':Heap}{a C dx:AB}{fs fs':List (Str×V)}
end
section
variable {X:Cx}{pins:List (AB×Obj)}{σ:St}{H:Hp}{s:AC}{a C dx:AB}{fs:List (Str×V)}{f:Str}{v:V}{A:AR}{E:AA->AC->Prop}
end
section
variable {X:Cx}{o e value:AF}{f:Str}{pos pos' tpos:Pos}{ta tv:TE}
end
section
variable {X:Cx}{pins:List (AB×Obj)}{σ:St}{H:Hp}{s:AC}{A:AR}{E:AA->AC->Prop}{Q:AA->AC->Prop}{c:AA}{b:Bool}
end
section
variable {X:Cx}{e:AF}{es:List AF}{te:TE}{t:TA}{pos:Pos}
end
section
variable {X:Cx}{pins:List (AB×Obj)}{σ:St}{H:Hp}{s s':AC}
end
section
variable {X:Cx}{CX:CXT}{k:Nat}{f C:AB}{fd:FuncData}{ps:List Str}{sp:Sp}{dvs:List V}{ds:List AA}{E:XK}{x m:Str}{p pos apos:Pos}{e o:AF}{es:List AF}{ta:TE}{t:TA}
end
section
variable {X:Cx}{CX:CXT}{k:Nat}{f C:AB}{fd:FuncData}{ps ks:List Str}{sp:Sp}{E:XK}{x m:Str}{p pos apos kpos:Pos}{e o:AF}{es:List AF}{kws:List Keyword}{te ta:TE}{t tk:TA}{nm:Option Str}
variable {g:List AA->List AA->List AA}{gV:List V->List V->List V}
end
section
variable {X:Cx}{x:Str}{p pos:Pos}{e:AF}{es:List AF}{t:TA}{id T:String}{r:List V->Hp->VK->Prop}
end
section
variable {κ:Type}[DecidableEq κ]
def Q1(kvs:List (κ×V))(k:κ):Option V:=(kvs.find? fun kv=>decide (kv.1=k)).map (·.2)
def a1c(kvs:List (κ×V))(k:κ)(v:V):List (κ×V):=
 if(kvs.any fun kv=>decide (kv.1=k))=true then kvs.map (fun kv=>if kv.1=k then(kv.1,v) else kv) else kvs++[(k,v)]
def b8K(kvs:List (κ×V))(k:κ):List (κ×V):=kvs.filter fun kv=>decide (kv.1≠k)
theorem a0U{p:κ×V}{r:List (κ×V)}{k:κ}(e:p.1=k):Q1 (p::r) k=some p.2:=by simp [Q1,List.find?_cons,e]
theorem a0T{p:κ×V}{r:List (κ×V)}{k:κ}(e:¬p.1=k):Q1 (p::r) k=Q1 r k:=by simp [Q1,List.find?_cons,e]
theorem b00(k:κ):∀kvs:List (κ×V),(kvs.any fun kv=>decide (kv.1=k))=(Q1 kvs k).isSome
 |[]=>rfl
 |p::r=>by
  rw [List.any_cons]
  by_cases e:p.1=k
  ·simp only [a0U e,decide_eq_true e,Bool.true_or,Option.isSome_some]
  ·rw [a0T e,decide_eq_false e,Bool.false_or];exact b00 k r
theorem a16(kvs:List (κ×V))(k:κ)(v:V):(a1c kvs k v).length<=kvs.length+1:=by
 unfold a1c
 split
 ·rw [AO];lia
 ·rw [Ai,AU,Ap];lia
theorem a3n.isSome_eq{o:Option V}{u:Option AA}(r:a3n o u):o.isSome=u.isSome:=by
 cases o with
 |none=>cases u with
  |none=>rfl
  |some _=>exact(show False from r).elim
 |some _=>cases u with
  |none=>exact(show False from r).elim
  |some _=>rfl
theorem a3n.getD{o:Option V}{u:Option AA}{d:V}{d':AA}(r:a3n o u)(rd:m3 d d'):m3 (o.getD d) (u.getD d'):=by
 cases o with
 |none=>cases u with
  |none=>exact rd
  |some _=>exact(show False from r).elim
 |some _=>cases u with
  |none=>exact(show False from r).elim
  |some _=>exact r
theorem KV.val{kvs:List (κ×V)}{vs:List (κ×AA)}(r:KV kvs vs)(k:κ):a3n (Q1 kvs k) (valueAt vs k):=by
 unfold KV at r
 induction r with
 |nil=>exact True.intro
 | @cons p q ps qs h t ih=>
   obtain⟨h1,h2⟩:=h
   by_cases e:p.1=k
   ·have e':q.1=k:=h1.symm.trans e
    have b:valueAt (q::qs) k=some q.2:=by simp [valueAt,List.find?_cons,e']
    rw [a0U e,b];exact h2
   ·have e':¬q.1=k:=fun z=>e (h1.trans z)
    have b:valueAt (q::qs) k=valueAt qs k:=by simp [valueAt,List.find?_cons,e']
    rw [a0T e,b];exact ih
theorem KV.any{kvs:List (κ×V)}{vs:List (κ×AA)}(r:KV kvs vs)(k:κ):(kvs.any fun kv=>decide (kv.1=k))=vs.any fun kv=>decide (kv.1=k):=by
 unfold KV at r
 induction r with
 |nil=>rfl
 |cons h t ih=>rw [List.any_cons,List.any_cons,ih,h.1]
theorem KV.repl{kvs:List (κ×V)}{vs:List (κ×AA)}(r:KV kvs vs)(k:κ){y:V}{u:AA}(ry:m3 y u):
 KV (kvs.map fun kv=>if kv.1=k then(kv.1,y) else kv) (vs.map fun kv=>if kv.1=k then(kv.1,u) else kv):=by
 unfold KV at r ⊢
 induction r with
 |nil=>exact .nil
 | @cons p q ps qs h t ih=>
   rw [AK,AK]
   refine .cons ?_ ih
   obtain⟨h1,h2⟩:=h
   by_cases e:p.1=k
   ·rw [if_pos e,if_pos (h1.symm.trans e)];exact⟨h1,ry⟩
   ·rw [if_neg e,if_neg (fun z=>e (h1.trans z))];exact⟨h1,h2⟩
theorem KV.put{kvs:List (κ×V)}{vs:List (κ×AA)}(r:KV kvs vs)(k:κ){y:V}{u:AA}(ry:m3 y u):KV (a1c kvs k y) (stored vs k u):=by
 unfold a1c stored
 rw [r.any k]
 by_cases e:(vs.any fun kv=>decide (kv.1=k))=true
 ·rw [if_pos e,if_pos e];exact r.repl k ry
 ·rw [if_neg e,if_neg e];exact Paired.snoc r ⟨rfl,ry⟩
theorem KV.drop{kvs:List (κ×V)}{vs:List (κ×AA)}(r:KV kvs vs)(k:κ):KV (b8K kvs k) (without vs k):=by
 unfold KV at r ⊢
 unfold b8K without
 induction r with
 |nil=>exact .nil
 | @cons p q ps qs h t ih=>
   obtain⟨h1,h2⟩:=h
   rw [List.filter_cons,List.filter_cons]
   by_cases e:p.1=k
   ·have a:¬decide (p.1≠k)=true:=by simp [e]
    have b:¬decide (q.1≠k)=true:=by simp [h1.symm.trans e]
    rw [if_neg a,if_neg b];exact ih
   ·have e':¬q.1=k:=fun z=>e (h1.trans z)
    have a:decide (p.1≠k)=true:=by simp [e]
    have b:decide (q.1≠k)=true:=by simp [e']
    rw [if_pos a,if_pos b];exact .cons ⟨h1,h2⟩ ih
theorem KV.keys{kvs:List (κ×V)}{vs:List (κ×AA)}(r:KV kvs vs):kvs.map (·.1)=vs.map (·.1):=by
 unfold KV at r
 induction r with
 |nil=>rfl
 |cons h t ih=>rw [AK,AK,ih,h.1]
theorem KV.length{kvs:List (κ×V)}{vs:List (κ×AA)}(r:KV kvs vs):kvs.length=vs.length:=Paired.length r
end
theorem a8t{P:AN}{w:AI}{k:g0}{u:AA}(r:m3 (kV k) u):(l7 P w).is k u=true:=by
 cases k with
 |inl i=>obtain⟨t,e⟩:=(show ∃t,u=Value.int i t from r);subst e;exact a5d P w i t
 |inr x=>obtain⟨t,e⟩:=(show ∃t,u=Value.str x t from r);subst e;exact R8 P w x t
theorem b1u{a b:g0}(e:kV a=kV b):a=b:=by
 cases a with
 |inl i=>cases b with
  |inl j=>have e':V.int i=V.int j:=e;injection e' with e';rw [e']
  |inr y=>exact nomatch (show V.int i=V.str y from e)
 |inr x=>cases b with
  |inl j=>exact nomatch (show V.str x=V.int j from e)
  |inr y=>have e':V.str x=V.str y:=e;injection e' with e';rw [e']
theorem a5K:∀{a b:List g0},a.map kV=b.map kV->a=b
 |[],[],_=>rfl
 |[],_::_,e=>by simp at e
 |_::_,[],e=>by simp at e
 |x::xs,y::ys,e=>by
  rw [AK,AK] at e
  injection e with e1 e2
  rw [b1u e1,a5K e2]
theorem a8s{P:AN}{w:AI}:∀{ks:List g0} {us:List AA},j9 (ks.map kV) us->ItemsAre (l7 P w) ks us
 |[],_,r=>by rw [Ae] at r;cases r;exact .nil
 |k::ks,_,r=>by
  rw [AK] at r
  cases r with
  |cons h t=>exact .cons (a8t h) (a8s t)
abbrev KT(H:Hp):List (List g0×V)->List (List g0×AB×AA)->Prop:=Paired fun p q=>p.1=q.1/\H q.2.1=some (.tup (p.1.map kV))/\m3 p.2 q.2.2
theorem KT.val{H:Hp}{kvs:List (List g0×V)}{xs:List (List g0×AB×AA)}(r:KT H kvs xs)(k:List g0):a3n (Q1 kvs k) ((atKey xs k).map (·.2)):=by
 induction r with
 |nil=>exact True.intro
 | @cons p q ps qs h t ih=>
   obtain⟨h1,_,h2⟩:=h
   by_cases e:p.1=k
   ·have e':q.1=k:=h1.symm.trans e
    have b:atKey (q::qs) k=some q.2:=by simp [atKey,List.find?_cons,e']
    rw [a0U e,b];exact h2
   ·have e':¬q.1=k:=fun z=>e (h1.trans z)
    have b:atKey (q::qs) k=atKey qs k:=by simp [atKey,List.find?_cons,e']
    rw [a0T e,b];exact ih
theorem KT.repl{H:Hp}{kvs:List (List g0×V)}{xs:List (List g0×AB×AA)}(r:KT H kvs xs)(k:List g0){y:V}{u:AA}(ry:m3 y u):
 KT H (kvs.map fun kv=>if kv.1=k then(kv.1,y) else kv) (xs.map (putAt k u)):=by
 induction r with
 |nil=>exact .nil
 | @cons p q ps qs h t ih=>
   rw [AK,AK]
   refine .cons ?_ ih
   obtain⟨h1,h2,h3⟩:=h
   unfold putAt
   by_cases e:p.1=k
   ·rw [if_pos e,if_pos (h1.symm.trans e)];exact⟨h1,h2,ry⟩
   ·rw [if_neg e,if_neg (fun z=>e (h1.trans z))];exact⟨h1,h2,h3⟩
theorem KT.put{H:Hp}{kvs:List (List g0×V)}{xs:List (List g0×AB×AA)}(r:KT H kvs xs)(k:List g0){b:AB}{y:V}{u:AA}(hb:H b=some (.tup (k.map kV)))(ry:m3 y u):
 KT H (a1c kvs k y) (storedH xs k b u):=by
 have e:(kvs.any fun kv=>decide (kv.1=k))=(atKey xs k).isSome:=by
  rw [b00,(r.val k).isSome_eq,Option.isSome_map]
 unfold a1c storedH
 rw [e]
 by_cases q:(atKey xs k).isSome=true
 ·rw [if_pos q,if_pos q];exact r.repl k ry
 ·rw [if_neg q,if_neg q];exact Paired.snoc r ⟨rfl,hb,ry⟩
theorem KT.keeps{H H':Hp}{kvs:List (List g0×V)}{xs:List (List g0×AB×AA)}(r:KT H kvs xs)(ht:∀b ys,H b=some (.tup ys)->H' b=some (.tup ys)):KT H' kvs xs:=
 Paired.mapP r fun _ _ z=>⟨z.1,ht _ _ z.2.1,z.2.2⟩
section
variable {P:AN}{w:AI}{H:Hp}{h:Heap}{a:AB}
theorem b8T{u:HO}(ok:HOk P w H h)(e:Rd H a u):y4 P w H h a u:=e.ok ok
theorem a8j{kvs:List (g0×V)}(ok:HOk P w H h)(e:Rd H a (.dK kvs)):kvs.length<=AL/\(a==sysModules)=false/\∃vs,KV kvs vs/\h.DictOf (l7 P w) a vs:=
 show y4 P w H h a (.dK kvs) from b8T ok e
theorem b4T{kvs:List (g0×V)}(ok:HOk P w H h)(e:H a=some (.dK kvs)):kvs.length<=AL/\(a==sysModules)=false/\∃vs,KV kvs vs/\h.DictOf (l7 P w) a vs:=a8j ok (.inl e)
theorem a4v{ks:List g0}(ok:HOk P w H h)(e:H a=some (.tup (ks.map kV))):(tupleKind (l7 P w)).is h ks a:=by
 obtain⟨_,its,r,o,h1,h2,n,h3⟩:=(show y4 P w H h a (.tup (ks.map kV)) from ok a _ e)
 exact⟨o,its.toArray,n,h1,h2,h3,by simpa using a8s r⟩
theorem a8l{kvs:List (List g0×V)}(ok:HOk P w H h)(e:Rd H a (.dT kvs)):kvs.length<=AL/\(a==sysModules)=false/\
 ∃xs,KT H kvs xs/\h.DictOfH (tupleKind (l7 P w)) a xs:=by
 obtain⟨z,y,xs,r,o,es,ep,h1,h2,h3,h4,h5⟩:=(show y4 P w H h a (.dT kvs) from b8T ok e)
 refine⟨z,y,xs,r,o,es,ep,h1,h2,h3,h4,fun x hx=> ?_,h5⟩
 have all:∀{l:List (List g0×V)} {m:List (List g0×AB×AA)},KT H l m->∀x∈m,(tupleKind (l7 P w)).is h x.1 x.2.1:=by
  intro l m q
  induction q with
  |nil=>intro x hx;exact nomatch hx
  | @cons p q ps qs hq t ih=>
    intro x hx
    rcases AV.mp hx with e|hx
    ·subst e
     exact a4v ok (by rw [<-hq.1];exact hq.2.1)
    ·exact ih x hx
 exact all r x hx
theorem b8L{kvs:List (List g0×V)}(ok:HOk P w H h)(e:H a=some (.dT kvs)):kvs.length<=AL/\(a==sysModules)=false/\
 ∃xs,KT H kvs xs/\h.DictOfH (tupleKind (l7 P w)) a xs:=a8l ok (.inl e)
end
def a1x(H:Hp)(a:AB)(y:V)(r:Option V):Prop:=
 (∃kvs k,Rd H a (.dK kvs)/\y=kV k/\r=Q1 kvs k)\/∃kvs k b,Rd H a (.dT kvs)/\y= .ref b/\H b=some (.tup (k.map kV))/\r=Q1 kvs k
def a9N(H:Hp)(a:AB)(y v:V)(H':Hp):Prop:=
 (∃kvs k,H a=some (.dK kvs)/\y=kV k/\kvs.length<AL/\H'=upd H a (.dK (a1c kvs k v)))\/
 ∃kvs k b,H a=some (.dT kvs)/\y= .ref b/\H b=some (.tup (k.map kV))/\kvs.length<AL/\H'=upd H a (.dT (a1c kvs k v))
theorem a1x.k{H:Hp}{a:AB}{kvs:List (g0×V)}{k:g0}(e:H a=some (.dK kvs)):a1x H a (kV k) (Q1 kvs k):= .inl ⟨kvs,k,.inl e,rfl,rfl⟩
theorem a1x.t{H:Hp}{a b:AB}{kvs:List (List g0×V)}{k:List g0}(e:H a=some (.dT kvs))(eb:H b=some (.tup (k.map kV))):a1x H a (.ref b) (Q1 kvs k):= .inr ⟨kvs,k,b,.inl e,rfl,eb,rfl⟩
theorem a9N.k{H:Hp}{a:AB}{kvs:List (g0×V)}{k:g0}{v:V}(e:H a=some (.dK kvs))(hl:kvs.length<AL):a9N H a (kV k) v (upd H a (.dK (a1c kvs k v))):= .inl ⟨kvs,k,e,rfl,hl,rfl⟩
theorem a9N.t{H:Hp}{a b:AB}{kvs:List (List g0×V)}{k:List g0}{v:V}(e:H a=some (.dT kvs))(eb:H b=some (.tup (k.map kV)))(hl:kvs.length<AL):
 a9N H a (.ref b) v (upd H a (.dT (a1c kvs k v))):= .inr ⟨kvs,k,b,e,rfl,eb,hl,rfl⟩
section
variable {X:Cx}{pins:List (AB×Obj)}{σ:St}{H:Hp}{s:AC}{a:AB}{y v:V}{u r:AA}{o:Option V}{A:AR}{E:AA->AC->Prop}
theorem g9.big(I:g9 X pins σ H s):sysModules<s.heap.objs.size:=by
 have h:mainGlobals<s.heap.objs.size:=(I.mod.glob.keeps I.bk).lt
 exact Nat.lt_trans (by decide) h
theorem b3i{Q:AA->AC->Prop}(hu:A.units+1<cLine)(I:g9 X pins σ H s)(g:a1x H a y (some v))(ry:m3 y u)(h:∀w' s',g9 X pins σ H s'->m3 v w'->Q w' s'):
 AG (model X.prog X.w) A (getItem (.ref a) u) Q E s:=by
 rcases g with⟨kvs,k,e,ey,l⟩|⟨kvs,k,b,e,ey,eb,l⟩
 ·subst ey
  obtain⟨z,hd,vs,rel,dd⟩:=a8j I.hok e
  obtain⟨w',hw,rw'⟩:=a3n.some_of (v:=v) (o:=valueAt vs k) (by rw [l];exact rel.val k)
  exact wpAny_getItem_of (a8t ry) dd.mapOf hw (h w' _ (I.tok _) rw')
 ·subst ey
  cases(show u=Value.ref b from ry)
  obtain⟨z,hd,xs,rel,dd⟩:=a8l I.hok e
  obtain⟨w',hw,rw'⟩:=a3n.some_of (v:=v) (o:=(atKey xs k).map (·.2)) (by rw [l];exact rel.val k)
  obtain⟨p,hp,hp2⟩:=Option.map_eq_some_iff.mp hw
  refine wpAny_getItem_heap (tupleKind_room_in1 hu) (a4v I.hok eb) dd hp ?_
  rw [hp2]
  exact h w' _ (I.tok _) rw'
theorem b7k{Q:AA->AC->Prop}(hu:A.units+1<cLine)(I:g9 X pins σ H s)(g:a1x H a y o)(ry:m3 y u)(h:∀s',g9 X pins σ H s'->Q (.bool (!o.isSome)) s'):
 AG (model X.prog X.w) A (compareOp .NotIn u (.ref a)) Q E s:=by
 rcases g with⟨kvs,k,e,ey,l⟩|⟨kvs,k,b,e,ey,eb,l⟩
 ·subst ey
  obtain⟨z,hd,vs,rel,dd⟩:=a8j I.hok e
  refine wpAny_notIn_of (a8t ry) hd dd.mapOf ?_
  rw [<-(rel.val k).isSome_eq,<-l]
  exact h _ (I.tok _)
 ·subst ey
  cases(show u=Value.ref b from ry)
  obtain⟨z,hd,xs,rel,dd⟩:=a8l I.hok e
  refine wpAny_notIn_heap (tupleKind_room_in1 hu) (a4v I.hok eb) hd dd ?_
  have q:=(rel.val k).isSome_eq
  rw [Option.isSome_map] at q
  rw [<-q,<-l]
  exact h _ (I.tok _)
theorem a85{h':Heap}{t':Nat}{ob:HO}(I:g9 X pins σ H s)(mu:Mut (H a))(hs:Heap.SameBut a s.heap h')(he:∃q,h'.get? a=some q)(new:y4 X.prog X.w (upd H a ob) h' a ob):
 g9 X pins σ (upd H a ob) {s with heap:=h',toks:=t'}:=
 I.write (x:=a) (e:=a) mu (.inl rfl) (fun b q hb z=>(hs.2 b hb).trans z) he new
theorem b9j{P:AN}{w:AI}{H':Hp}{h':Heap}{kvs:List (g0×V)}{vs:List (g0×AA)}(z:kvs.length<=AL)(hd:(a==sysModules)=false)(rel:KV kvs vs)(dd:h'.DictOf (l7 P w) a vs):
 y4 P w H' h' a (.dK kvs):=⟨z,hd,vs,rel,dd⟩
theorem b3j{H':Hp}{Q:Unit->AC->Prop}(hu:A.units+1<cLine)(I:g9 X pins σ H s)(g:a9N H a y v H')(ry:m3 y u)(rv:m3 v r)(h:∀s',g9 X pins σ H' s'->Q () s'):
 AG (model X.prog X.w) A (setItem (.ref a) u r) Q E s:=by
 rcases g with⟨kvs,k,e,ey,l,eH⟩|⟨kvs,k,b,e,ey,eb,l,eH⟩
 ·subst ey eH
  obtain⟨z,hd,vs,rel,dd⟩:=b4T I.hok e
  have hz:vs.length<=AL:=by rw [<-rel.length];exact z
  have hl:(a1c kvs k v).length<=AL:=by have:=a16 kvs k v;lia
  refine wpAny_setItem_pairs (hsz:=hz) (a8t ry) dd fun h' dd' hs=>h _ ?_
  have he:∃q,h'.get? a=some q:=let ⟨q,_,_,hq,_⟩:=dd';⟨q,hq⟩
  exact a85 I (by rw [e];exact True.intro) hs he (b9j hl hd (rel.put k rv) dd')
 ·subst ey eH
  cases(show u=Value.ref b from ry)
  obtain⟨z,hd,xs,rel,dd⟩:=b8L I.hok e
  have hz:xs.length<=AL:=by rw [<-Paired.length rel];exact z
  have hl:(a1c kvs k v).length<=AL:=by have:=a16 kvs k v;lia
  refine wpAny_setItem_heap (hsz:=hz) (tupleKind_room_in1 hu) (a4v I.hok eb) dd fun h' dd' hs=>h _ ?_
  obtain⟨q,es,ep,hq,h2,h3,h4,_,h5⟩:=dd'
  refine a85 I (by rw [e];exact True.intro) hs ⟨q,hq⟩ ⟨hl,hd,_,(rel.put k eb rv).keeps fun c ys ec=> ?_,q,es,ep,hq,h2,h3,h4,h5⟩
  rw [d8 (E8 ec e (fun z=>nomatch z))]
  exact ec
end
section
variable {X:Cx}{pins:List (AB×Obj)}{σ:St}{H:Hp}{s:AC}{a:AB}{kvs:List (g0×V)}{k:g0}{u:AA}{A:AR}{E:AA->AC->Prop}
end
def b28(i:AF):Prop:=∀ov iv,subscripted i false ov iv=operate [ov,iv] (getItem ov iv)
theorem b2W{prog:AN}{w:AI}{A:AR}{E:AA->AC->Prop}{s:AC}{env:Env}{value slice:AF}{pos:Pos}{T id:String}{Q:AA->AC->Prop}
 (hl:typeLookup (.type T) "__getitem__"=pure (some (.builtin id))) (hs:b28 slice)
 (h:AG (model prog w) A (eval value env) (fun o s₁=>AG (model prog w) A (eval slice env) (fun i s₂=>s₂.TypeIs o T/\AG (model prog w) A (getItem o i) Q E s₂) E s₁) E s):
 AG (model prog w) A (eval (.Subscript value slice pos) env) Q E s:=by
 refine Subscript_ (wpAny_mono h (fun o s₁ h₁=>wpAny_mono h₁ (fun i s₂ h₂=> ?_) fun _ _ x=>x) fun _ _ x=>x)
 obtain⟨hT,h₂⟩:=h₂
 unfold subscriptTail
 refine AE ?_
 rw [getitemInPython_of_ne hT.not_modules]
 refine AE (wpAny_specialOf hT hl ?_)
 have fin:AG (model prog w) A (subscripted slice false o i) (fun r s₃=>AG (model prog w) A (letTemporaryGo value o r>>=fun _=>pure r) Q E s₃) E s₂:=by
  rw [hs o i]
  exact wpAny_operating (wpAny_mono h₂ (fun r s₃ h₃=>AE (wpAny_letTemporaryGo (AJ h₃))) fun _ _ x=>x)
 first
  |exact AJ (AE fin)
  |exact AE (AJ (AE fin))
  |exact AE fin
theorem b0b{X:Cx}{pins:List (AB×Obj)}{σ:St}{H:Hp}{s:AC}{a:AB}{y:V}{o:Option V}(I:g9 X pins σ H s)(g:a1x H a y o):s.TypeIs (.ref a) "dict":=by
 rcases g with⟨kvs,k,e,_,_⟩|⟨kvs,k,b,e,_,_,_⟩
 ·obtain⟨_,_,vs,_,dd⟩:=a8j I.hok e
  exact dd.typeIs
 ·obtain⟨_,_,xs,_,dd⟩:=a8l I.hok e
  exact dd.typeIs
def c1x(td ty:TE):TE:=fun σ H Q=>td σ H fun x H1=>ty σ H1 fun y H2=>∃a v,x= .ref a/\a1x H2 a y (some v)/\Q v H2
def b8s(ty td:TE):TE:=fun σ H Q=>ty σ H fun y H1=>td σ H1 fun x H2=>∃a o,x= .ref a/\a1x H2 a y o/\Q (.bl (!o.isSome)) H2
def c1r(td ty tv:TE):TS:=fun D σ H=>tv σ H fun v H1=>td σ H1 fun x H2=>ty σ H2 fun y H3=>∃a H4,x= .ref a/\a9N H3 a y v H4/\D.nx σ H4
section
variable {X:Cx}{o i e value:AF}{pos pos' tpos:Pos}{td ty tv:TE}
theorem a3X(hu:X.A.units+1<cLine)(ho:PE X o td)(hi:PE X i ty)(hs:b28 i):PE X (.Subscript o i pos) (c1x td ty):=by
 intro pins s σ H Q I h
 refine b2W PySem.F.slot_dict_getitem.lookup hs (F8 (ho pins s σ H _ I h) fun u s1 ⟨x,H1,I1,rx,q1⟩=>F8 (hi pins s1 σ H1 _ I1 q1) fun iv s2 ⟨y,H2,I2,ry,a,v,ex,g,q2⟩=> ?_)
 subst ex
 obtain rfl:u=Value.ref a:=rx
 exact⟨b0b I2 g,b3i hu I2 g ry fun w' s3 I3 rw'=>⟨v,H2,I3,rw',q2⟩⟩
theorem b32(hu:X.A.units+1<cLine)(hi:PE X i ty)(ho:PE X o td):PC X .NotIn i o (b8s ty td):=by
 intro pins s σ H Q I h
 refine F8 (hi pins s σ H _ I h) fun iv s1 ⟨y,H1,I1,ry,q1⟩=>F8 (ho pins s1 σ H1 _ I1 q1) fun u s2 ⟨x,H2,I2,rx,a,ov,ex,g,q2⟩=> ?_
 subst ex
 obtain rfl:u=Value.ref a:=rx
 exact b7k hu I2 g ry fun s3 I3=>⟨.bl (!ov.isSome),H2,I3,rfl,q2⟩
theorem b2G(hu:X.A.units+1<cLine)(ho:PE X o td)(hi:PE X i ty)(hv:PE X value tv)(hs:swapsWith value (some (.Subscript o i pos')) pos.line X.env=pure false):
 PS X (.Assign [.Subscript o i pos'] value pos) (c1r td ty tv):=by
 intro pins s σ H D I h
 refine wpAny_Assign_Subscript (F8 (hv pins s σ H _ I h) fun r s1 ⟨v,H1,I1,rv,q1⟩=>F8 (ho pins s1 σ H1 _ I1 q1) fun u s2 ⟨x,H2,I2,rx,q2⟩=>F8 (hi pins s2 σ H2 _ I2 q2) fun iv s3 ⟨y,H3,I3,ry,a,H4,ex,g,q3⟩=> ?_) hs
 subst ex
 obtain rfl:u=Value.ref a:=rx
 exact b3j hu I3 g ry rv fun s4 I4=>⟨σ,H4,I4,q3⟩
end
theorem b4S{P:AN}{w:AI}{H:Hp}(h:Heap)(hb:sysModules<h.objs.size):y4 P w H (h.push {cls:= .type "dict",data:= .dict #[]}) h.objs.size (.dK []):=
 ⟨Nat.zero_le _,beq_eq_false_iff_ne.mpr (Ne.symm (Aj hb)),[],.nil,Heap.DictOf.new h⟩
theorem b0e{P:AN}{w:AI}{H:Hp}(h:Heap)(hb:sysModules<h.objs.size):y4 P w H (h.push {cls:= .type "dict",data:= .dict #[]}) h.objs.size (.dT []):=
 ⟨Nat.zero_le _,beq_eq_false_iff_ne.mpr (Ne.symm (Aj hb)),[],.nil,_, #[],0,An _ rfl,⟨rfl,rfl,rfl⟩,rfl,rfl,List.nodup_nil⟩
def c0v:TE:=fun _ H Q=>∀p,H p=none->Q (.ref p) (upd H p (.dK []))
def c0w:TE:=fun _ H Q=>∀p,H p=none->Q (.ref p) (upd H p (.dT []))
section
variable {X:Cx}{pos:Pos}
theorem b6l:PE X (.Dict [] [] pos) c0v:=fun pins s σ H Q I h=>
 wpAny_Dict_empty ⟨.ref s.heap.objs.size,_,I.laid (a:=s.heap.objs.size) (o:= .dK []) (t':=s.toks) (fun _ _ q=>AY _ q) (AM _) (b4S s.heap I.big),rfl,h _ (I.hok.fresh (AM _))⟩
theorem b6m:PE X (.Dict [] [] pos) c0w:=fun pins s σ H Q I h=>
 wpAny_Dict_empty ⟨.ref s.heap.objs.size,_,I.laid (a:=s.heap.objs.size) (o:= .dT []) (t':=s.toks) (fun _ _ q=>AY _ q) (AM _) (b0e s.heap I.big),rfl,h _ (I.hok.fresh (AM _))⟩
end
def b6R:List (TE×TE)->St->Hp->(List (V×V)->Hp->Prop)->Prop
 |[],_,H,Q=>Q [] H
 |(tk,tv)::r,σ,H,Q=>tk σ H fun x H1=>tv σ H1 fun y H2=>b6R r σ H2 fun ps H3=>Q ((x,y)::ps) H3
abbrev VV:List (V×V)->List (AA×AA)->Prop:=Paired fun p q=>m3 p.1 q.1/\m3 p.2 q.2
def PPs(X:Cx)(pos:Pos)(keys:List (Option AF))(values:List AF)(trs:List (TE×TE)):Prop:=
 ∀(pins:List (AB×Obj)) (s:AC) (σ:St) (H:Hp) (Q:List (V×V)->Hp->Prop),g9 X pins σ H s->b6R trs σ H Q->
  AG (model X.prog X.w) X.A (evalPairs (pairTrees keys values X.env pos)) (fun vs s'=>∃ps H',g9 X pins σ H' s'/\VV ps vs/\Q ps H') X.xe s
theorem b8a{X:Cx}{pos:Pos}:PPs X pos [] [] []:=fun pins s σ H Q I h=>pairTrees_nil_walk ⟨[],H,I,.nil,h⟩
theorem b6s{X:Cx}{pos:Pos}{k v:AF}{ks:List (Option AF)}{vs:List AF}{tk tv:TE}{trs:List (TE×TE)}(hk:PE X k tk)(hv:PE X v tv)(hr:PPs X pos ks vs trs):
 PPs X pos (some k::ks) (v::vs) ((tk,tv)::trs):=fun pins s σ H Q I h=>
 pairTrees_cons_walk (F8 (hk pins s σ H _ I h) fun u s1 ⟨x,H1,I1,rx,q1⟩=>F8 (hv pins s1 σ H1 _ I1 q1) fun w2 s2 ⟨y,H2,I2,ry,q2⟩=>
  F8 (hr pins s2 σ H2 _ I2 q2) fun ws s3 ⟨ps,H3,I3,rel,q3⟩=>⟨(x,y)::ps,H3,I3,.cons ⟨rx,ry⟩ rel,q3⟩)
structure M2(X:Cx)(o:AF)(m:Str)(apos:Pos)(e f:AF)(cpos:Pos):Prop where
 base:attributeBase o m X.env (eval o X.env)=eval o X.env
 few:((backTo cpos (AT [e,f] X.env)).all (fun x=> !x.1)&&(backToKw cpos (keywordEach [] X.env)).all (fun x=>x.1.isSome)
  && decide (([e,f]:List AF).length+([]:List Keyword).length+(if([]:List Keyword).isEmpty then 0 else 1)<30))=true
 line:(apos.endLine==cpos.line)=true
 trees:backTo cpos (AT [e,f] X.env)=[(false,eval e X.env),(false,eval f X.env)]
def IsD(H:Hp)(a:AB):Prop:=(∃kvs,Rd H a (.dK kvs))\/∃kvs,Rd H a (.dT kvs)
theorem b9B{X:Cx}{pins:List (AB×Obj)}{σ:St}{H:Hp}{s:AC}{a:AB}(I:g9 X pins σ H s)(d:IsD H a):
 s.TypeIs (.ref a) "dict"/\(∀b,Value.ref a= .ref b->∃ob,s.heap.get? b=some ob/\ob.dict=none)/\(a==sysModules)=false:=by
 rcases d with⟨kvs,e⟩|⟨kvs,e⟩
 ·obtain⟨_,hd,vs,_,dd⟩:=a8j I.hok e
  refine⟨dd.typeIs,fun b q=> ?_,hd⟩
  cases q
  obtain⟨ob,_,_,h1,h2,_⟩:=dd
  exact⟨ob,h1,h2.2.1⟩
 ·obtain⟨_,hd,xs,_,dd⟩:=a8l I.hok e
  refine⟨dd.typeIs,fun b q=> ?_,hd⟩
  cases q
  obtain⟨ob,_,_,h1,h2,_⟩:=dd
  exact⟨ob,h1,h2.2.1⟩
section
variable {X:Cx}{pins:List (AB×Obj)}{σ:St}{H:Hp}{s:AC}{a:AB}{y d:V}{u r:AA}{o:Option V}{A:AR}{E:AA->AC->Prop}
theorem b9h{Q:AA->AC->Prop}(hu:A.units+1<cLine)(I:g9 X pins σ H s)(g:a1x H a y o)(ry:m3 y u)(rd:m3 d r)(h:∀w' s',g9 X pins σ H s'->m3 (o.getD d) w'->Q w' s'):
 AG (model X.prog X.w) A (call (.builtin "dict.get") [.ref a,u,r]) Q E s:=by
 rcases g with⟨kvs,k,e,ey,l⟩|⟨kvs,k,b,e,ey,eb,l⟩
 ·subst ey
  obtain⟨z,hd,vs,rel,dd⟩:=a8j I.hok e
  refine call_meetsIn PySem.F.slot_dict_get dd.typeIs PySem.F.entry_dict_get (PySem.F.args_dict_get_3 _ _ _) (meets_dict_get_default (l7 X.prog X.w) a (a8t ry) hd r) ⟨_,dd.mapOf,h _ _ (I.tok _) ?_⟩
  rw [l]
  exact(rel.val k).getD rd
 ·subst ey
  cases(show u=Value.ref b from ry)
  obtain⟨z,hd,xs,rel,dd⟩:=a8l I.hok e
  refine call_meetsIn PySem.F.slot_dict_get dd.typeIs PySem.F.entry_dict_get (PySem.F.args_dict_get_3 _ _ _) (meetsH_dict_get_default (tupleKind (l7 X.prog X.w)) a b hd r) ⟨tupleKind_room_in1 hu,k,xs,a4v I.hok eb,dd,h _ _ (I.tok _) ?_⟩
  rw [l]
  exact(rel.val k).getD rd
end
def c0u(td ty tx:TE):TE:=fun σ H Q=>td σ H fun x H1=>∃a,x= .ref a/\IsD H1 a/\ty σ H1 fun y H2=>tx σ H2 fun z H3=>∃o,a1x H3 a y o/\Q (o.getD z) H3
section
variable {X:Cx}{o e f:AF}{apos cpos:Pos}{td ty tx:TE}
theorem b6k(hu:X.A.units+1<cLine)(ho:PE X o td)(he:PE X e ty)(hf:PE X f tx)(m:M2 X o "get" apos e f cpos):PE X (.Call (.Attribute o "get" apos) [e,f] [] cpos) (c0u td ty tx):=by
 intro pins s σ H Q I h
 refine wpAny_Call_method m.base m.few m.line PySem.F.plainAttrs_dict PySem.F.slot_dict_get PySem.F.type_dict_get (F8 (ho pins s σ H _ I h) fun u s1 ⟨x,H1,I1,rx,a,ex,d,q1⟩=> ?_)
 subst ex
 obtain rfl:u=Value.ref a:=rx
 obtain⟨t1,t2,_⟩:=b9B I1 d
 refine⟨t1,t2, ?_⟩
 rw [m.trees]
 refine Calls.callWith_builtin rfl (Calls.evalArgs_plain (Calls.spliced_cons (F8 (he pins s1 σ H1 _ I1 q1) fun iv s2 ⟨y,H2,I2,ry,q2⟩=>
  Calls.spliced_cons (F8 (hf pins s2 σ H2 _ I2 q2) fun fv s3 ⟨z,H3,I3,rz,ov,g,q3⟩=>Calls.spliced_nil ?_))))
 exact b9h hu I3 g ry rz fun w' s4 I4 rw'=>⟨_,H3,I4,rw',q3⟩
end
section
variable {X:Cx}{pins:List (AB×Obj)}{σ:St}{H:Hp}{s:AC}{a:AB}{kvs:List (g0×V)}{A:AR}{E:AA->AC->Prop}
end
section
variable {X:Cx}{pins:List (AB×Obj)}{σ:St}{H:Hp}{s:AC}{a:AB}{y:V}{u:AA}{A:AR}{E:AA->AC->Prop}
end
end L2
namespace Att
open PySem PySem.W PySem.Calls PyProof.Rows
section
variable {prog:AN}{w:AI}{A:AR}{E:AA->AC->Prop}{s:AC}{K:Frag}
end
end Att
namespace L2
open PySem PySem.Spec PyProof.Rows
section
variable {P:AN}{w:AI}{K:AD}{mg:Str->Option AA}{base:Heap}
end
section
variable {X:Cx}
end
section
variable {κ:Type}[DecidableEq κ]
end
end L2
set_option maxHeartbeats 4000000
namespace PU
open PySem PySem.Spec PyProof.Rows L2
abbrev PV:=PyData
def TqT(K:AD)(H:Hp)(a:AB)(xs:List V):Prop:=
 H a=some (.tup xs)\/∃(o:Obj) (its:Array AA) (n:Nat),K.lookup a=some o/\o.cls= .type "tuple"/\o.data= .seq its n/\its.size<=AL/\j9 xs its.toList
theorem TqT.of{K:AD}{H:Hp}{a:AB}{xs:List V}(h:H a=some (.tup xs)):TqT K H a xs:= .inl h
theorem TqT.sq{K:AD}{H:Hp}{a:AB}{xs:List V}(h:TqT K H a xs):Z1 K H a xs:=h.elim (fun h=> .inl (.inl h)) .inr
instance {K:AD} {H:Hp} {a:AB} {xs:List V}:Coe (TqT K H a xs) (Z1 K H a xs):=⟨TqT.sq⟩
theorem b2Q{K:AD}{H H':Hp}{a:AB}{xs:List V}(s:j8 H H')(h:TqT K H a xs):TqT K H' a xs:=h.elim (fun h=> .inl (s _ _ h)) .inr
def a7U(K:AD)(x:Str)(v:V):Prop:=∃(a:AB) (oc:AA) (od:Option AB) (fd:FuncData) (osl:Array (Option AA)),v= .ref a/\K.lookup a=some ⟨oc,od,.func fd,osl⟩/\fd.name=x
def a40(K:AD)(x:Str)(C:AB):Prop:=PySem.W.nsIn K mainGlobals x=some (some (.ref C))/\∃(oc:AA) (od:Option AB) (cd:ClassData) (osl:Array (Option AA)),K.lookup C=some ⟨oc,od,.cls cd,osl⟩/\cd.name=x
theorem a40.inj{K:AD}{x y:Str}{C:AB}(h:a40 K x C)(h':a40 K y C):x=y:=by
 obtain⟨_,_,_,_,_,k,n⟩:=h
 obtain⟨_,_,_,_,_,k',n'⟩:=h'
 rw [k] at k';cases k'
 rw [<-n,n']
theorem a40.uniq{K:AD}{x:Str}{C D:AB}(h:a40 K x C)(h':a40 K x D):C=D:=by
 have:=h.1.symm.trans h'.1
 cases this;rfl
def b86(K:AD)(H:Hp)(x:Str)(v:V):Prop:=∃(a C:AB) (φ:Heap->Prop),v= .ref a/\H a=some (.ext φ)/\
 (∀h:Heap,φ h->∃oe vs,h.get? a=some oe/\oe.cls= .ref C/\oe.data= .fields vs/\oe.dict=none)/\a40 K x C
def a5w(K:AD)(H:Hp)(x:Str)(t:PV)(v:V):Prop:=(t= .none/\a7U K x v)\/(t= .bool true/\b86 K H x v)
theorem a5w.ref{K:AD}{H:Hp}{x:Str}{t:PV}{v:V}(h:a5w K H x t v):∃a,v= .ref a:=by
 rcases h with⟨_,a,_,_,_,_,e,_⟩|⟨_,a,_,_,e,_⟩<;>exact⟨a,e⟩
theorem a5w.mono{K:AD}{H H':Hp}{x:Str}{t:PV}{v:V}(s:j8 H H')(h:a5w K H x t v):a5w K H' x t v:=by
 rcases h with h|⟨z,a,C,φ,e,q,r⟩
 ·exact .inl h
 ·exact .inr ⟨z,a,C,φ,e,s _ _ q,r⟩
def kP:g0->PV
 | .inl i=> .int i
 | .inr x=> .str x
def s1{α:Type}(kv:g0×α):List g0×α:=([kv.1],kv.2)
mutual
def x4(K:AD)(H:Hp):PV->V->Prop
 | .none,v=>v= .non
 | .bool b,v=>v= .bl b
 | .int i,v=>v= .int i
 | .str x,v=>v= .str x
 | .tuple ps,v=>∃a xs,v= .ref a/\TqT K H a xs/\j0 K H ps xs
 | .list ps,v=>∃a xs,v= .ref a/\S2 K H a xs/\j0 K H ps xs
 | .dict kvs,v=>(∃a ys,v= .ref a/\H a=some (.dK ys)/\W3 K H kvs (ys.map s1))\/(∃a xs,v= .ref a/\H a=some (.dT xs)/\W3 K H kvs (([],.non)::xs))\/(∃x t,kvs=[(.str x,t)]/\a5w K H x t v)
def j0(K:AD)(H:Hp):List PV->List V->Prop
 |[],vs=>vs=[]
 |p::ps,vs=>∃v r,vs=v::r/\x4 K H p v/\j0 K H ps r
def W3(K:AD)(H:Hp):List (PV×PV)->List (List g0×V)->Prop
 |[],ys=>ys=[]
 |(k,p)::r,ys=>∃kk v t,ys=(kk,v)::t/\k= .tuple (kk.map kP)/\x4 K H p v/\W3 K H r t
end
theorem p8{K:AD}{H H':Hp}{a:AB}{xs:List V}(s:j8 H H')(h:Z1 K H a xs):Z1 K H' a xs:=by
 rcases h with(h|⟨o,h⟩)|h
 ·exact .inl (.inl (s _ _ h))
 ·exact .inl (.inr ⟨o,s _ _ h⟩)
 ·exact .inr h
theorem C4{K:AD}{H H':Hp}{a:AB}{xs:List V}(s:j8 H H')(h:S2 K H a xs):S2 K H' a xs:=by
 rcases h with(h|⟨o,h⟩)|h
 ·exact .inl (.inl (s _ _ h))
 ·exact .inl (.inr ⟨o,s _ _ h⟩)
 ·exact .inr h
mutual
theorem x4.mono{K:AD}{H H':Hp}(s:j8 H H'):∀(p:PV) {v:V},x4 K H p v->x4 K H' p v
 | .none,_,h=>h
 | .bool _,_,h=>h
 | .int _,_,h=>h
 | .str _,_,h=>h
 | .dict kvs,_,.inl ⟨a,ys,q,h,r⟩=> .inl ⟨a,ys,q,s _ _ h,W3.mono s kvs r⟩
 | .dict kvs,_,.inr (.inl ⟨a,xs,q,h,r⟩)=> .inr (.inl ⟨a,xs,q,s _ _ h,W3.mono s kvs r⟩)
 | .dict _,_,.inr (.inr ⟨x,t,e,h⟩)=> .inr (.inr ⟨x,t,e,h.mono s⟩)
 | .tuple ps,_,⟨a,xs,e,q,r⟩=>⟨a,xs,e,b2Q s q,j0.mono s ps r⟩
 | .list ps,_,⟨a,xs,e,q,r⟩=>⟨a,xs,e,C4 s q,j0.mono s ps r⟩
theorem j0.mono{K:AD}{H H':Hp}(s:j8 H H'):∀(ps:List PV) {vs:List V},j0 K H ps vs->j0 K H' ps vs
 |[],_,h=>h
 |p::ps,_,⟨v,r,e,q,t⟩=>⟨v,r,e,x4.mono s p q,j0.mono s ps t⟩
theorem W3.mono{K:AD}{H H':Hp}(s:j8 H H'):∀(es:List (PV×PV)) {ys:List (List g0×V)},W3 K H es ys->W3 K H' es ys
 |[],_,h=>h
 |(k,p)::es,_,⟨kk,v,r,e,z,q,t⟩=>⟨kk,v,r,e,z,x4.mono s p q,W3.mono s es t⟩
end
theorem j0.length{K:AD}{H:Hp}:∀{ps:List PV} {vs:List V},j0 K H ps vs->vs.length=ps.length
 |[],_,h=>by cases h;rfl
 |_::ps,_,⟨v,r,e,_,t⟩=>by subst e;rw [AU,AU,j0.length t]
theorem j0.get{K:AD}{H:Hp}:∀{ps:List PV} {vs:List V} {i:Nat} {p:PV},j0 K H ps vs->ps[i]?=some p->∃v,vs[i]?=some v/\x4 K H p v
 |[],_,_,_,_,h=>by simp at h
 |q::ps,_,0,p,⟨v,r,e,a,t⟩,h=>by subst e;simp at h;subst h;exact⟨v,rfl,a⟩
 |q::ps,_,i+1,p,⟨v,r,e,a,t⟩,h=>by subst e;exact j0.get (i:=i) t (by simpa using h)
theorem j0.getV{K:AD}{H:Hp}:∀{ps:List PV} {vs:List V} {i:Nat} {v:V},j0 K H ps vs->vs[i]?=some v->∃p,ps[i]?=some p/\x4 K H p v
 |[],_,_,_,h,e=>by cases h;simp at e
 |q::ps,_,0,v,⟨w,r,e,a,t⟩,h=>by subst e;simp at h;subst h;exact⟨q,rfl,a⟩
 |q::ps,_,i+1,v,⟨w,r,e,a,t⟩,h=>by subst e;exact j0.getV (i:=i) t (by simpa using h)
theorem j0.append{K:AD}{H:Hp}:∀{ps qs:List PV} {vs ws:List V},j0 K H ps vs->j0 K H qs ws->j0 K H (ps++qs) (vs++ws)
 |[],_,_,_,h,t=>by cases h;exact t
 |_::ps,_,_,_,⟨v,r,e,a,t⟩,s=>by subst e;exact⟨v,_,rfl,a,j0.append t s⟩
theorem j0.drop{K:AD}{H:Hp}:∀{ps:List PV} {vs:List V} (n:Nat),j0 K H ps vs->j0 K H (ps.drop n) (vs.drop n)
 |_,_,0,h=>h
 |[],_,n+1,h=>by cases h;rfl
 |_::ps,_,n+1,⟨v,r,e,a,t⟩=>by subst e;exact j0.drop n t
theorem j0.take{K:AD}{H:Hp}:∀{ps:List PV} {vs:List V} (n:Nat),j0 K H ps vs->j0 K H (ps.take n) (vs.take n)
 |_,_,0,h=>rfl
 |[],_,n+1,h=>by cases h;rfl
 |_::ps,_,n+1,⟨v,r,e,a,t⟩=>by subst e;exact⟨v,_,rfl,a,j0.take n t⟩
def u8(K:AD)(H:Hp):List (List g0×PV)->List (List g0×V)->Prop
 |[],ys=>ys=[]
 |(k,p)::r,ys=>∃v t,ys=(k,v)::t/\x4 K H p v/\u8 K H r t
theorem u8.mono{K:AD}{H H':Hp}(s:j8 H H'):∀(kvs:List (List g0×PV)) {ys:List (List g0×V)},u8 K H kvs ys->u8 K H' kvs ys
 |[],_,h=>h
 |(k,p)::r,_,⟨v,t,e,q,h⟩=>⟨v,t,e,x4.mono s p q,u8.mono s r h⟩
inductive W1 where
 |lst (ps:List PV)|dct (kvs:List (List g0×PV))|txt (kvs:List (List g0×PV))
inductive d7 where
 |val (p:PV)|ow (c:W1)|bo (c:W1)
abbrev d7.own(ps:List PV):d7:= .ow (.lst ps)
abbrev d7.bor(ps:List PV):d7:= .bo (.lst ps)
abbrev d7.dct(kvs:List (List g0×PV)):d7:= .ow (.dct kvs)
def U5(K:AD)(F H:Hp)(v:V):W1->Prop
 | .lst ps=>∃a xs,v= .ref a/\F a=none/\H a=some (.lst xs)/\j0 K F ps xs
 | .dct kvs=>∃a xs,v= .ref a/\F a=none/\H a=some (.dT xs)/\u8 K F kvs xs
 | .txt kvs=>∃a xs,v= .ref a/\F a=none/\H a=some (.dK xs)/\u8 K F kvs (xs.map s1)
def M1(K:AD)(F H:Hp)(v:V):d7->Prop
 | .val p=>x4 K F p v
 | .ow c=>U5 K F H v c
 | .bo c=>U5 K F H v c
theorem U5.at_{K:AD}{F H:Hp}{v:V}:∀{c:W1},U5 K F H v c->∃a o,v= .ref a/\F a=none/\H a=some o
 | .lst _,⟨a,_,e,n,q,_⟩=>⟨a,_,e,n,q⟩
 | .dct _,⟨a,_,e,n,q,_⟩=>⟨a,_,e,n,q⟩
 | .txt _,⟨a,_,e,n,q,_⟩=>⟨a,_,e,n,q⟩
def NT(o:HO):Prop:=∀xs,o≠.tup xs
structure U4(F H F' H':Hp):Prop where
 f:j8 F F'
 h:j8 H H'
 fh:j8 F' H'
 nw:∀b o,F b=none->H b=some o->NT o->F' b=none
 nf:∀b o u,F' b=some (.frz o u)->F b=some (.frz o u)
theorem j8.refl(H:Hp):j8 H H:=fun _ _ e=>e
theorem U4.refl{F H:Hp}(s:j8 F H):U4 F H F H:=⟨j8.refl F,j8.refl H,s,fun _ _ e _ _=>e,fun _ _ _ e=>e⟩
theorem U4.trans{F H F1 H1 F2 H2:Hp}(a:U4 F H F1 H1)(b:U4 F1 H1 F2 H2):U4 F H F2 H2:=
 ⟨a.f.trans b.f,a.h.trans b.h,b.fh,fun c o e q t=>b.nw c o (a.nw c o e q t) (a.h c o q) t,fun c o u e=>a.nf c o u (b.nf c o u e)⟩
theorem b53{F0 F:Hp}{a:AB}{xs:List V}(h:∀b o u,F b=some (.frz o u)->F0 b=some (.frz o u)):∀b o u,upd F a (.lst xs) b=some (.frz o u)->F0 b=some (.frz o u):=fun b o u z=>by
 by_cases hb:b=a
 ·subst hb;rw [g5] at z;cases z
 ·rw [d8 hb] at z;exact h _ _ _ z
theorem U5.ext{K:AD}{F H F' H':Hp}{v:V}(x:U4 F H F' H'):∀{c:W1},U5 K F H v c->U5 K F' H' v c
 | .lst _,⟨a,xs,e,n,q,r⟩=>⟨a,xs,e,x.nw _ _ n q (fun _ h=>nomatch h),x.h _ _ q,j0.mono x.f _ r⟩
 | .dct _,⟨a,xs,e,n,q,r⟩=>⟨a,xs,e,x.nw _ _ n q (fun _ h=>nomatch h),x.h _ _ q,u8.mono x.f _ r⟩
 | .txt _,⟨a,xs,e,n,q,r⟩=>⟨a,xs,e,x.nw _ _ n q (fun _ h=>nomatch h),x.h _ _ q,u8.mono x.f _ r⟩
theorem M1.ext{K:AD}{F H F' H':Hp}{v:V}(x:U4 F H F' H'):∀{r:d7},M1 K F H v r->M1 K F' H' v r
 | .val p,h=>x4.mono x.f p h
 | .ow _,h=>U5.ext x h
 | .bo _,h=>U5.ext x h
def W1.rd:W1->PV
 | .lst ps=> .list ps
 | .dct kvs=> .dict ((.tuple [],.none)::kvs.map fun kv=>(.tuple (kv.1.map kP),kv.2))
 | .txt kvs=> .dict (kvs.map fun kv=>(.tuple (kv.1.map kP),kv.2))
def d7.rd:d7->PV
 | .val p=>p
 | .ow c=>c.rd
 | .bo c=>c.rd
def d7.toVal:d7->Option PV
 | .val p=>some p
 | .ow (.lst ps)=>some (.list ps)
 | .ow (.dct _)=>none
 | .ow (.txt _)=>none
 | .bo _=>none
theorem W3.of{K:AD}{F H:Hp}(s:j8 F H):∀{kvs:List (List g0×PV)} {xs:List (List g0×V)},u8 K F kvs xs->W3 K H (kvs.map fun kv=>(PyData.tuple (kv.1.map kP),kv.2)) xs
 |[],_,h=>h
 |(k,p)::r,_,⟨v,t,e,q,h⟩=>⟨k,v,t,e,rfl,x4.mono s p q,W3.of s h⟩
theorem U5.rd{K:AD}{F H:Hp}{v:V}(s:j8 F H):∀{c:W1},U5 K F H v c->x4 K H c.rd v
 | .lst ps,⟨a,xs,e,n,q,r⟩=>⟨a,xs,e,S2.of q,j0.mono s _ r⟩
 | .dct kvs,⟨a,xs,e,n,q,r⟩=> .inr (.inl ⟨a,xs,e,q,[],.non,xs,rfl,rfl,rfl,W3.of s r⟩)
 | .txt kvs,⟨a,xs,e,n,q,r⟩=> .inl ⟨a,xs,e,q,W3.of s r⟩
theorem M1.rd{K:AD}{F H:Hp}{v:V}(s:j8 F H):∀{r:d7},M1 K F H v r->x4 K H r.rd v
 | .val p,h=>x4.mono s p h
 | .ow _,h=>U5.rd s h
 | .bo _,h=>U5.rd s h
structure u6(K:AD)(F H F' H':Hp)(v:V)(r:d7):Prop where
 x:U4 F H F' H'
 rep:M1 K F' H' v r
 fr:∀c a,r= .ow c->v= .ref a->H a=none
theorem u6.val{K:AD}{F H F' H':Hp}{v:V}{p:PV}(x:U4 F H F' H')(r:x4 K F' p v):u6 K F H F' H' v (.val p):=⟨x,r,fun _ _ e=>nomatch e⟩
theorem u6.here{K:AD}{F H:Hp}{v:V}{p:PV}(s:j8 F H)(r:x4 K F p v):u6 K F H F H v (.val p):=u6.val (U4.refl s) r
theorem u6.trans{K:AD}{F H F1 H1 F2 H2:Hp}{v:V}{r:d7}(a:U4 F H F1 H1)(b:u6 K F1 H1 F2 H2 v r):u6 K F H F2 H2 v r:=
 ⟨a.trans b.x,b.rep,fun ps c e q=>a.h.free (b.fr ps c e q)⟩
theorem u6.toVal{K:AD}{F H F' H':Hp}{v:V}{p:PV}:∀{r:d7},u6 K F H F' H' v r->r.toVal=some p->∃F2,u6 K F H F2 H' v (.val p)
 | .val q,o,e=>by cases e;exact⟨F',o⟩
 | .bo _,_,e=>nomatch e
 | .ow (.dct _),_,e=>nomatch e
 | .ow (.txt _),_,e=>nomatch e
 | .ow (.lst ps),o,e=>by
   cases e
   obtain⟨a,xs,rfl,n,q,r⟩:=o.rep
   have fr:=o.fr _ a rfl rfl
   have up:j8 F' (upd F' a (.lst xs)):=fun b u z=>by rw [d8 (j7 z n)];exact z
   refine⟨upd F' a (.lst xs),u6.val ⟨o.x.f.trans up,o.x.h,fun b u z=> ?_,fun b u z y t=> ?_,b53 o.x.nf⟩ ⟨a,xs,rfl,S2.of g5,j0.mono up _ r⟩⟩
   ·by_cases hb:b=a
    ·subst hb;rw [g5] at z;cases z;exact q
    ·rw [d8 hb] at z;exact o.x.fh _ _ z
   ·rw [d8 (j7 y fr)];exact o.x.nw b u z y t
theorem C5{H:Hp}{a:AB}{o:HO}(n:H a=none):j8 H (upd H a o):=fun b u z=>by rw [d8 (j7 z n)];exact z
theorem U4.lay{F H:Hp}{a:AB}{o:HO}(s:j8 F H)(n:H a=none)(hf:∀x u,o≠.frz x u:=by intro _ _ h;cases h):U4 F H (upd F a o) (upd H a o):=
 ⟨C5 (s.free n),C5 n,fun b u z=>by
  by_cases hb:b=a
  ·subst hb;rw [g5] at z ⊢;exact z
  ·rw [d8 hb] at z ⊢;exact s _ _ z,fun b u z y _=>by rw [d8 (j7 y n)];exact z,fun b w u z=>by
  by_cases hb:b=a
  ·subst hb;rw [g5] at z;exact absurd (Option.some.inj z) (hf w u)
  ·rw [d8 hb] at z;exact z⟩
theorem U4.layH{F H:Hp}{a:AB}{o:HO}(s:j8 F H)(n:H a=none):U4 F H F (upd H a o):=
 ⟨j8.refl F,C5 n,fun b u z=>by rw [d8 (j7 (s _ _ z) n)];exact s _ _ z,fun b u z y _=>z,fun _ _ _ z=>z⟩
theorem u6.tup{K:AD}{F H:Hp}{a:AB}{xs:List V}{ps:List PV}(s:j8 F H)(n:H a=none)(r:j0 K F ps xs):u6 K F H (upd F a (.tup xs)) (upd H a (.tup xs)) (.ref a) (.val (.tuple ps)):=
 u6.val (U4.lay s n) ⟨a,xs,rfl,TqT.of g5,j0.mono (C5 (s.free n)) _ r⟩
theorem u6.lst{K:AD}{F H:Hp}{a:AB}{xs:List V}{ps:List PV}(s:j8 F H)(n:H a=none)(r:j0 K F ps xs):u6 K F H F (upd H a (.lst xs)) (.ref a) (.own ps):=
 ⟨U4.layH s n,⟨a,xs,rfl,s.free n,g5,r⟩,fun _ _ _ e=>by cases e;exact n⟩
abbrev c7:=List (Option d7)
structure A3(K:AD)(F H:Hp)(σ:L2.St)(ρ:c7):Prop where
 fh:j8 F H
 len:σ.length=ρ.length
 at_:∀(i:Nat) (r:d7),ρ[i]?=some (some r)->∃v,σ[i]?=some (some v)/\M1 K F H v r
 nb:∀(i:Nat) (c:W1),ρ[i]?≠some (some (.bo c))
 ap:∀(i j:Nat) (c d:W1) (a:AB),i≠j->ρ[i]?=some (some (.ow c))->ρ[j]?=some (some (.ow d))->σ[i]?=some (some (.ref a))->σ[j]?≠some (some (.ref a))
theorem A3.ext{K:AD}{F H F' H':Hp}{σ:L2.St}{ρ:c7}(e:A3 K F H σ ρ)(x:U4 F H F' H'):A3 K F' H' σ ρ:=
 ⟨x.fh,e.len,fun i r q=>let ⟨v,a,b⟩:=e.at_ i r q;⟨v,a,b.ext x⟩,e.nb,e.ap⟩
abbrev M:=c7->Option d7
def tM(K:AD)(m:M):TE:=fun σ H Q=>∃F ρ r,A3 K F H σ ρ/\m ρ=some r/\∀v F' H',u6 K F H F' H' v r->Q v H'
abbrev EE(X:Cx)(e:AF)(m:M):Prop:=PE X e (tM X.K m)
theorem u0{X:Cx}{e:AF}{t t':TE}(h:PE X e t)(i:∀σ H Q,t' σ H Q->t σ H Q):PE X e t':=fun pins s σ H Q I q=>h pins s σ H Q I (i σ H Q q)
theorem a9F{X:Cx}{e:AF}{t t':TT}(h:PT X e t)(i:∀σ H Q,t' σ H Q->t σ H Q):PT X e t':=fun pins s σ H Q I q=>h pins s σ H Q I (i σ H Q q)
theorem c0i{X:Cx}{e:AF}{t t':TT}(h:PW X e t)(i:∀σ H Q,t' σ H Q->t σ H Q):PW X e t':=fun wh pins s σ H Q I q=>h wh pins s σ H Q I (i σ H Q q)
theorem b6h{X:Cx}{e:List AF}{t t':TA}(h:PA X e t)(i:∀σ H Q,t' σ H Q->t σ H Q):PA X e t':=fun pos pins s σ H Q I q=>h pos pins s σ H Q I (i σ H Q q)
theorem K7{X:Cx}{e:Stmt}{t t':TS}(h:PS X e t)(i:∀D σ H,t' D σ H->t D σ H):PS X e t':=fun pins s σ H D I q=>h pins s σ H D I (i D σ H q)
theorem a5U{X:Cx}{e:List Stmt}{t t':TS}(h:PSs X e t)(i:∀D σ H,t' D σ H->t D σ H):PSs X e t':=fun pins s σ H D I q=>h pins s σ H D I (i D σ H q)
def mC(p:PV):M:=fun _=>some (.val p)
def c6(i:Nat):M:=fun ρ=>match ρ[i]? with
 |some (some (.ow c))=>some (.bo c)
 |some (some r)=>some r
 |_=>none
section
variable {X:Cx}{a b c:AF}{ma mb mc:M}{pos:Pos}
theorem a1P{e:AF}{v:V}{p:PV}(h:PE X e (tC v))(r:∀H,x4 X.K H p v):EE X e (mC p):=
 u0 h fun σ H Q ⟨F,ρ,q,he,hm,k⟩=>by
  cases hm
  exact k v F H (u6.here he.fh (r F))
theorem f8{i j pos}:EE X (.Constant (.int i) j pos) (mC (.int i)):=a1P b94 fun _=>rfl
theorem Z8{b j pos}:EE X (.Constant (.bool b) j pos) (mC (.bool b)):=a1P c1i fun _=>rfl
theorem a87{j pos}:EE X (.Constant .none j pos) (mC .none):=a1P b96 fun _=>rfl
theorem v6{x j pos}:EE X (.Constant (.str x) j pos) (mC (.str x)):=a1P b99 fun _=>rfl
theorem b9(i:Nat){x:Str}{pos:Pos}(h:PE X (.Name x pos) (C7 i)):EE X (.Name x pos) (c6 i):=
 u0 h fun σ H Q ⟨F,ρ,r,he,hm,k⟩=>by
  unfold c6 at hm
  split at hm
  ·rename_i ps e
   cases hm
   obtain⟨v,e1,rr⟩:=he.at_ i _ e
   exact⟨v,e1,k v F H ⟨U4.refl he.fh,rr,fun _ _ z=>nomatch z⟩⟩
  ·rename_i r' nn e
   cases hm
   obtain⟨v,e1,rr⟩:=he.at_ i _ e
   exact⟨v,e1,k v F H ⟨U4.refl he.fh,rr,fun ps _ z=>absurd z (nn ps)⟩⟩
  ·cases hm
def rM2(K:AD)(g:d7->d7->Option d7):R2:=fun x y H Q=>∃F rx ry rz,j8 F H/\M1 K F H x rx/\M1 K F H y ry/\g rx ry=some rz/\∀v F' H',u6 K F H F' H' v rz->Q v H'
abbrev OpM(X:Cx)(f:AA->AA->Sem AA)(g:d7->d7->Option d7):Prop:=OpR X f (rM2 X.K g)
def m2(g:d7->d7->Option d7)(ma mb:M):M:=fun ρ=>(ma ρ).bind fun x=>(mb ρ).bind fun y=>g x y
theorem bind_some{α β:Type}{o:Option α}{f:α->Option β}{b:β}(h:o.bind f=some b):∃a,o=some a/\f a=some b:=by
 cases o with
 |none=>cases h
 |some a=>exact⟨a,rfl,h⟩
theorem a9L{K:AD}{g:d7->d7->Option d7}{σ:L2.St}{H:Hp}{Q:VK}(h:tM K (m2 g ma mb) σ H Q):tOp (rM2 K g) (tM K ma) (tM K mb) σ H Q:=by
 obtain⟨F,ρ,r,he,hm,k⟩:=h
 obtain⟨rx,e1,hm⟩:=bind_some hm
 obtain⟨ry,e2,hm⟩:=bind_some hm
 exact⟨F,ρ,rx,he,e1,fun v F1 H1 o1=>⟨F1,ρ,ry,he.ext o1.x,e2,fun u F2 H2 o2=>⟨F2,rx,ry,r,o2.x.fh,o1.rep.ext o2.x,o2.rep,hm,fun z F3 H3 o3=>k z F3 H3 (u6.trans (o1.x.trans o2.x) o3)⟩⟩⟩
theorem g6{op:Operator}{g:d7->d7->Option d7}(ho:OpM X (binaryOp op) g)(ha:EE X a ma)(hb:EE X b mb):EE X (.BinOp a op b pos) (m2 g ma mb):=
 u0 (c1j ho ha hb) fun _ _ _ h=>a9L h
theorem b9n{op:CmpOp}{g:d7->d7->Option d7}(ho:OpM X (compareOp op) g)(ha:EE X a ma)(hb:EE X b mb)(hm:behindInMarks op b=false):EE X (.Compare a [op] [b] pos) (m2 g ma mb):=
 u0 (b73 ho ha hb hm) fun _ _ _ h=>a9L h
theorem a8F{f:AA->AA->Sem AA}{r:R2}{g:d7->d7->Option d7}(h:OpR X f r)
 (i:∀F H x y rx ry rz,j8 F H->M1 X.K F H x rx->M1 X.K F H y ry->g rx ry=some rz->∀Q:VK,(∀v F' H',u6 X.K F H F' H' v rz->Q v H')->r x y H Q):OpM X f g:=
 fun pins s σ H x y v u Q I rx ry ⟨F,ra,rb,rz,s0,h1,h2,h3,k⟩=>h pins s σ H x y v u Q I rx ry (i F H x y ra rb rz s0 h1 h2 h3 Q k)
end
def gI(f:Int->Int->PV):d7->d7->Option d7
 | .val (.int i),.val (.int j)=>some (.val (f i j))
 |_,_=>none
theorem b58:∃f:(Int->Int->Prop)->Int->Int->Bool,∀C i j,f C i j=true↔C i j:=⟨fun C i j=> @decide (C i j) (Classical.propDecidable _),fun C i j=> @decide_eq_true_iff (C i j) (Classical.propDecidable _)⟩
def okC:(Int->Int->Prop)->Int->Int->Bool:=b58.choose
theorem a3V{C:Int->Int->Prop}{i j:Int}:okC C i j=true↔C i j:=b58.choose_spec C i j
def gIc(C:Int->Int->Prop)[∀i j,Decidable (C i j)](f:Int->Int->PV):d7->d7->Option d7
 | .val (.int i),.val (.int j)=>if okC C i j=true then some (.val (f i j)) else none
 |_,_=>none
theorem b2m{f:Int->Int->PV}{rx ry rz:d7}(h:gI f rx ry=some rz):∃i j,rx= .val (.int i)/\ry= .val (.int j)/\rz= .val (f i j):=by
 unfold gI at h
 split at h
 ·cases h;exact⟨_,_,rfl,rfl,rfl⟩
 ·cases h
theorem b5g{C:Int->Int->Prop}[∀i j,Decidable (C i j)]{f:Int->Int->PV}{rx ry rz:d7}(h:gIc C f rx ry=some rz):∃i j,rx= .val (.int i)/\ry= .val (.int j)/\C i j/\rz= .val (f i j):=by
 unfold gIc at h
 split at h
 ·split at h
  ·rename_i c;cases h;exact⟨_,_,rfl,rfl,a3V.mp c,rfl⟩
  ·cases h
 ·cases h
section
variable {X:Cx}
theorem b8R{f:AA->AA->Sem AA}{g:Int->Int->V}{g':Int->Int->PV}(h:OpR X f (rI0 g))(e:∀i j H,x4 X.K H (g' i j) (g i j)):OpM X f (gI g'):=
 a8F h fun F H x y rx ry rz s h1 h2 h3 Q k=>by
  obtain⟨i,j,rfl,rfl,rfl⟩:=b2m h3
  exact⟨i,j,h1,h2,k _ F H (u6.here s (e i j F))⟩
theorem b1O{f:AA->AA->Sem AA}{C:Int->Int->Prop}[∀i j,Decidable (C i j)]{g:Int->Int->V}{g':Int->Int->PV}(h:OpR X f (rI C g))(e:∀i j H,x4 X.K H (g' i j) (g i j)):OpM X f (gIc C g'):=
 a8F h fun F H x y rx ry rz s h1 h2 h3 Q k=>by
  obtain⟨i,j,rfl,rfl,c,rfl⟩:=b5g h3
  exact⟨i,j,h1,h2,c,k _ F H (u6.here s (e i j F))⟩
end
section
variable {X:Cx}{pins:List (AB×Obj)}{σ:L2.St}{H:Hp}{s:AC}
theorem a5h(I:g9 X pins σ H s){a:AB}{xs ys:List V}(h:S2 X.K H a xs)(h':Z1 X.K H a ys):False:=by
 obtain⟨its,r,p,_⟩:=I.list h
 obtain⟨its',r',p',_⟩:=I.tuple h'
 exact SeqAt.ne_of_list_tuple p.isList (show s.heap.IsTuple a its'.toArray from p') rfl
theorem a5f(I:g9 X pins σ H s){a:AB}{xs:List V}{ys:List (g0×V)}(h:H a=some (.dK ys))(h':S2 X.K H a xs):False:=by
 obtain⟨its,r,⟨o,n,e,c,_⟩,_⟩:=I.list h'
 obtain⟨_,_,_,_,o',_,_,e',ex,_⟩:=I.hok a _ h
 rw [e] at e';cases e'
 have:=ex.1
 rw [c] at this;exact absurd this (by simp)
theorem a5g(I:g9 X pins σ H s){a:AB}{xs:List V}{ys:List (g0×V)}(h:H a=some (.dK ys))(h':Z1 X.K H a xs):False:=by
 obtain⟨its,r,⟨o,e,c,_⟩,_⟩:=I.tuple h'
 obtain⟨_,_,_,_,o',_,_,e',ex,_⟩:=I.hok a _ h
 rw [e] at e';cases e'
 have:=ex.1
 rw [c] at this;exact absurd this (by simp)
theorem a6P(I:g9 X pins σ H s){a:AB}{ys:List (List g0×V)}{xs:List V}(h:H a=some (.dT ys))(h':S2 X.K H a xs):False:=by
 obtain⟨its,r,⟨o,n,e,c,_⟩,_⟩:=I.list h'
 obtain⟨_,_,_,_,o',_,_,e',ex,_⟩:=I.hok a _ h
 rw [e] at e';cases e'
 have:=ex.1
 rw [c] at this;exact absurd this (by simp)
theorem a6Q(I:g9 X pins σ H s){a:AB}{ys:List (List g0×V)}{xs:List V}(h:H a=some (.dT ys))(h':Z1 X.K H a xs):False:=by
 obtain⟨its,r,⟨o,e,c,_⟩,_⟩:=I.tuple h'
 obtain⟨_,_,_,_,o',_,_,e',ex,_⟩:=I.hok a _ h
 rw [e] at e';cases e'
 have:=ex.1
 rw [c] at this;exact absurd this (by simp)
theorem b2j(I:g9 X pins σ H s){x:Str}{v:V}(h:a7U X.K x v):∃(a:AB) (o:Obj) (fd:FuncData),v= .ref a/\s.heap.get? a=some o/\o.data= .func fd/\fd.name=x:=by
 obtain⟨a,oc,od,fd,osl,e,k,n⟩:=h
 exact⟨a,_,fd,e,I.kIn a _ k,rfl,n⟩
theorem a5X(I:g9 X pins σ H s){x:Str}{v:V}(h:b86 X.K H x v):∃(a C:AB) (o:Obj) (vs:Array AA),v= .ref a/\s.heap.get? a=some o/\o.cls= .ref C/\o.data= .fields vs/\a40 X.K x C/\o.dict=none:=by
 obtain⟨a,C,φ,e,q,k,n⟩:=h
 obtain⟨oe,vs,h1,h2,h3,h4⟩:=k _ (I.hok a _ q).1
 exact⟨a,C,oe,vs,e,h1,h2,h3,n,h4⟩
theorem a6T(I:g9 X pins σ H s){x:Str}{a:AB}{xs:List V}{t:PV}(h:a5w X.K H x t (.ref a))(h':Z1 X.K H a xs):False:=by
 obtain⟨its,r,⟨o',e',c',n',d'⟩,_⟩:=I.tuple h'
 rcases h with⟨_,h⟩|⟨_,h⟩
 ·obtain⟨b,o,fd,e,g,d,_⟩:=b2j I h
  cases e
  rw [g] at e';cases e'
  rw [d] at d';cases d'
 ·obtain⟨b,C,o,vs,e,g,c,d,_⟩:=a5X I h
  cases e
  rw [g] at e';cases e'
  rw [d] at d';cases d'
theorem a6S(I:g9 X pins σ H s){x:Str}{a:AB}{xs:List V}{t:PV}(h:a5w X.K H x t (.ref a))(h':S2 X.K H a xs):False:=by
 obtain⟨its,r,pl,_⟩:=I.list h'
 obtain⟨o',e',c',n',d'⟩:=pl.isList
 rcases h with⟨_,h⟩|⟨_,h⟩
 ·obtain⟨b,o,fd,e,g,d,_⟩:=b2j I h
  cases e
  rw [g] at e';cases e'
  rw [d] at d';cases d'
 ·obtain⟨b,C,o,vs,e,g,c,d,_⟩:=a5X I h
  cases e
  rw [g] at e';cases e'
  rw [d] at d';cases d'
theorem a6R(I:g9 X pins σ H s){x:Str}{a:AB}{ys:List (g0×V)}{t:PV}(h:a5w X.K H x t (.ref a))(h':H a=some (.dK ys)):False:=by
 rcases h with⟨_,b,oc,od,fd,osl,e,k,_⟩|⟨_,b,C,φ,e,q,_⟩
 ·cases e
  have:=(I.bs a _ (I.ok.mod.kin a _ k)).2
  rw [this] at h';cases h'
 ·cases e
  rw [q] at h';cases h'
theorem a8D(I:g9 X pins σ H s){x:Str}{a:AB}{ys:List (List g0×V)}{t:PV}(h:a5w X.K H x t (.ref a))(h':H a=some (.dT ys)):False:=by
 rcases h with⟨_,b,oc,od,fd,osl,e,k,_⟩|⟨_,b,C,φ,e,q,_⟩
 ·cases e
  have:=(I.bs a _ (I.ok.mod.kin a _ k)).2
  rw [this] at h';cases h'
 ·cases e
  rw [q] at h';cases h'
theorem a8E(I:g9 X pins σ H s){x y:Str}{v:V}(h:a7U X.K x v)(h':b86 X.K H y v):False:=by
 obtain⟨b,oc,od,fd,osl,e,k,_⟩:=h
 obtain⟨b',C,φ,e',q,_⟩:=h'
 rw [e] at e';cases e'
 have:=(I.bs b _ (I.ok.mod.kin b _ k)).2
 rw [this] at q;cases q
theorem c01(I:g9 X pins σ H s){x y:Str}{t u:PV}{v:V}(h:a5w X.K H x t v)(h':a5w X.K H y u v):x=y/\t=u:=by
 rcases h with⟨rfl,h⟩|⟨rfl,h⟩<;>rcases h' with⟨rfl,h'⟩|⟨rfl,h'⟩
 all_goals first|refine⟨?_,rfl⟩|skip
 ·obtain⟨b,oc,od,fd,osl,e,k,n⟩:=h
  obtain⟨b',oc',od',fd',osl',e',k',n'⟩:=h'
  rw [e] at e';cases e'
  rw [k] at k';cases k'
  rw [<-n,n']
 ·exact(a8E I h h').elim
 ·exact(a8E I h' h).elim
 ·obtain⟨b,C,o,vs,e,g,c,d,n,_⟩:=a5X I h
  obtain⟨b',C',o',vs',e',g',c',d',n',_⟩:=a5X I h'
  rw [e] at e';cases e'
  rw [g] at g';cases g'
  rw [c] at c';cases c'
  exact n.inj n'
mutual
theorem x4.inj(I:g9 X pins σ H s):∀(p q:PV) {v:V},x4 X.K H p v->x4 X.K H q v->p=q
 | .tuple ps,q,v,⟨a,xs,e,h,r⟩,h'=>by
   subst e
   cases q with
   |tuple qs=>
    obtain⟨a',xs',e',h',r'⟩:=h'
    cases e'
    cases I.tuple_inj h.sq h'.sq
    rw [j0.inj I ps qs r r']
   |list qs=>obtain⟨a',xs',e',h',r'⟩:=h';cases e';exact(a5h I h' h.sq).elim
   |dict qs=>
    rcases h' with⟨a',_,e',h',_⟩|⟨a',_,e',h',_⟩|⟨x,t,_,h'⟩
    ·cases e';exact(a5g I h' h.sq).elim
    ·cases e';exact(a6Q I h' h.sq).elim
    ·exact(a6T I h' h.sq).elim
   |_=>cases h'
 | .list ps,q,v,⟨a,xs,e,h,r⟩,h'=>by
   subst e
   cases q with
   |list qs=>
    obtain⟨a',xs',e',h',r'⟩:=h'
    cases e'
    cases I.list_inj h h'
    rw [j0.inj I ps qs r r']
   |tuple qs=>obtain⟨a',xs',e',h',r'⟩:=h';cases e';exact(a5h I h h'.sq).elim
   |dict qs=>
    rcases h' with⟨a',_,e',h',_⟩|⟨a',_,e',h',_⟩|⟨x,t,_,h'⟩
    ·cases e';exact(a5f I h' h).elim
    ·cases e';exact(a6P I h' h).elim
    ·exact(a6S I h' h).elim
   |_=>cases h'
 | .dict ps,q,v,.inl ⟨a,ys,e,h,hr⟩,h'=>by
   subst e
   cases q with
   |tuple qs=>obtain⟨a',xs',e',h',r'⟩:=h';cases e';exact(a5g I h h'.sq).elim
   |list qs=>obtain⟨a',xs',e',h',r'⟩:=h';cases e';exact(a5f I h h').elim
   |dict qs=>
    rcases h' with⟨a',_,e',h',r'⟩|⟨a',_,e',h',_⟩|⟨x,t,_,h'⟩
    ·cases e';rw [h] at h';cases h';rw [W3.inj I ps qs hr r']
    ·cases e';rw [h] at h';cases h'
    ·exact(a6R I h' h).elim
   |_=>cases h'
 | .dict ps,q,v,.inr (.inl ⟨a,ys,e,h,hr⟩),h'=>by
   subst e
   cases q with
   |tuple qs=>obtain⟨a',xs',e',h',r'⟩:=h';cases e';exact(a6Q I h h'.sq).elim
   |list qs=>obtain⟨a',xs',e',h',r'⟩:=h';cases e';exact(a6P I h h').elim
   |dict qs=>
    rcases h' with⟨a',_,e',h',_⟩|⟨a',_,e',h',r'⟩|⟨x,t,_,h'⟩
    ·cases e';rw [h] at h';cases h'
    ·cases e';rw [h] at h';cases h';rw [W3.inj I ps qs hr r']
    ·exact(a8D I h' h).elim
   |_=>cases h'
 | .dict ps,q,v,.inr (.inr ⟨x,t,e0,h⟩),h'=>by
   subst e0
   cases q with
   |tuple qs=>obtain⟨a',xs',e',h',r'⟩:=h';subst e';exact(a6T I h h'.sq).elim
   |list qs=>obtain⟨a',xs',e',h',r'⟩:=h';subst e';exact(a6S I h h').elim
   |dict qs=>
    rcases h' with⟨a',_,e',h',_⟩|⟨a',_,e',h',_⟩|⟨y,u,e1,h'⟩
    ·subst e';exact(a6R I h h').elim
    ·subst e';exact(a8D I h h').elim
    ·obtain⟨z1,z2⟩:=c01 I h h';rw [e1,z1,z2]
   |none=>obtain⟨_,e⟩:=h.ref;rw [e] at h';cases h'
   |bool _=>obtain⟨_,e⟩:=h.ref;rw [e] at h';cases h'
   |int _=>obtain⟨_,e⟩:=h.ref;rw [e] at h';cases h'
   |str _=>obtain⟨_,e⟩:=h.ref;rw [e] at h';cases h'
 | .none,q,v,h,h'=>by
   cases h
   cases q with
   |none=>rfl
   |tuple _=>obtain⟨_,_,e,_⟩:=h';cases e
   |list _=>obtain⟨_,_,e,_⟩:=h';cases e
   |dict _=>
    rcases h' with⟨_,_,e,_,_⟩|⟨_,_,e,_⟩|⟨_,_,_,h'⟩
    ·cases e
    ·cases e
    ·obtain⟨_,e⟩:=h'.ref;cases e
   |_=>cases h'
 | .bool _,q,v,h,h'=>by
   cases h
   cases q with
   |bool _=>cases h';rfl
   |tuple _=>obtain⟨_,_,e,_⟩:=h';cases e
   |list _=>obtain⟨_,_,e,_⟩:=h';cases e
   |dict _=>
    rcases h' with⟨_,_,e,_,_⟩|⟨_,_,e,_⟩|⟨_,_,_,h'⟩
    ·cases e
    ·cases e
    ·obtain⟨_,e⟩:=h'.ref;cases e
   |_=>cases h'
 | .int _,q,v,h,h'=>by
   cases h
   cases q with
   |int _=>cases h';rfl
   |tuple _=>obtain⟨_,_,e,_⟩:=h';cases e
   |list _=>obtain⟨_,_,e,_⟩:=h';cases e
   |dict _=>
    rcases h' with⟨_,_,e,_,_⟩|⟨_,_,e,_⟩|⟨_,_,_,h'⟩
    ·cases e
    ·cases e
    ·obtain⟨_,e⟩:=h'.ref;cases e
   |_=>cases h'
 | .str _,q,v,h,h'=>by
   cases h
   cases q with
   |str _=>cases h';rfl
   |tuple _=>obtain⟨_,_,e,_⟩:=h';cases e
   |list _=>obtain⟨_,_,e,_⟩:=h';cases e
   |dict _=>
    rcases h' with⟨_,_,e,_,_⟩|⟨_,_,e,_⟩|⟨_,_,_,h'⟩
    ·cases e
    ·cases e
    ·obtain⟨_,e⟩:=h'.ref;cases e
   |_=>cases h'
theorem j0.inj(I:g9 X pins σ H s):∀(ps qs:List PV) {vs:List V},j0 X.K H ps vs->j0 X.K H qs vs->ps=qs
 |[],qs,vs,h,h'=>by
  cases h
  cases qs with
  |nil=>rfl
  |cons q qs=>obtain⟨_,_,e,_⟩:=h';cases e
 |p::ps,qs,vs,⟨v,r,e,h,t⟩,h'=>by
  subst e
  cases qs with
  |nil=>cases h'
  |cons q qs=>
   obtain⟨v',r',e',h',t'⟩:=h'
   cases e'
   rw [x4.inj I p q h h',j0.inj I ps qs t t']
theorem W3.inj(I:g9 X pins σ H s):∀(es fs:List (PV×PV)) {ys:List (List g0×V)},W3 X.K H es ys->W3 X.K H fs ys->es=fs
 |[],fs,ys,h,h'=>by
  cases h
  cases fs with
  |nil=>rfl
  |cons f fs=>obtain⟨k,p⟩:=f;obtain⟨_,_,_,e,_⟩:=h';cases e
 |(k,p)::es,fs,ys,⟨kk,v,r,e,z,q,t⟩,h'=>by
  subst e
  cases fs with
  |nil=>cases h'
  |cons f fs=>
   obtain⟨k',p'⟩:=f
   obtain⟨kk',v',r',e',z',q',t'⟩:=h'
   cases e'
   rw [z,z',x4.inj I p p' q q',W3.inj I es fs t t']
end
end
mutual
def n4:PV->Nat->Bool
 | .list xs,n+1=>z5 xs n
 | .tuple xs,n+1=>z5 xs n
 | .list _,0=>false
 | .tuple _,0=>false
 | .dict _,_=>false
 | .none,_=>true
 | .bool _,_=>true
 | .int _,_=>true
 | .str _,_=>true
def z5:List PV->Nat->Bool
 |[],_=>true
 |x::xs,n=>n4 x n && z5 xs n
end
mutual
theorem b0i:∀(p:PV) (n:Nat),n4 p n=true->PyData.eqv p p=true
 | .none,_,_=>by simp [PyData.eqv]
 | .bool _,_,_=>by simp [PyData.eqv]
 | .int _,_,_=>by simp [PyData.eqv]
 | .str _,_,_=>by simp [PyData.eqv]
 | .list xs,n+1,h=>by simp only [PyData.eqv];exact a0D xs n (by simpa [n4] using h)
 | .tuple xs,n+1,h=>by simp only [PyData.eqv];exact a0D xs n (by simpa [n4] using h)
 | .list xs,0,h=>by simp [n4] at h
 | .tuple xs,0,h=>by simp [n4] at h
 | .dict _,_,h=>by simp [n4] at h
theorem a0D:∀(ps:List PV) (n:Nat),z5 ps n=true->PyData.eqvAll ps ps=true
 |[],_,_=>by simp [PyData.eqvAll]
 |x::xs,n,h=>by
  have h':n4 x n=true/\z5 xs n=true:=by simpa [z5] using h
  simp only [PyData.eqvAll,b0i x n h'.1,a0D xs n h'.2,Bool.and_self]
end
def eAt(ps qs:List PV)(j:Nat):Bool:=match ps[j]?,qs[j]? with
 |some p,some q=>PyData.eqv p q
 |_,_=>false
theorem U6:∀(ps qs:List PV),PyData.eqvAll ps qs=((AQ (min ps.length qs.length)).all (eAt ps qs)&& ps.length==qs.length)
 |[],[]=>by simp [PyData.eqvAll]
 |[],_::_=>by simp [PyData.eqvAll]
 |_::_,[]=>by simp [PyData.eqvAll]
 |p::ps,q::qs=>by
  have e:min (p::ps).length (q::qs).length=min ps.length qs.length+1:=by simp only [AU];lia
  rw [e,List.range_succ_eq_map,List.all_cons,List.all_map]
  have h0:eAt (p::ps) (q::qs) 0=PyData.eqv p q:=rfl
  have h1:(eAt (p::ps) (q::qs)∘Nat.succ)=eAt ps qs:=by funext j;simp [eAt,Function.comp]
  rw [h0,h1]
  simp only [PyData.eqvAll,U6 ps qs,AU,Bool.and_assoc]
  have e2:(ps.length+1==qs.length+1)=(ps.length==qs.length):=by
   rw [Bool.eq_iff_iff];simp
  rw [e2]
section
variable {X:Cx}{pins:List (AB×Obj)}{σ:L2.St}{H:Hp}{s:AC}
structure b4j(A:AR)(s:AC)(u w:AA)(b:Bool):Prop where
 rc:SeqAt.RcAt A s u w b
 ne:SeqAt.RcNeAt A s u w (!b)
 eq:SeqAt.EqAt A s u w b
theorem V8(A:AR):A.in1.units=A.units+1:=rfl
theorem V5{xs:List V}{its:List AA}{j:Nat}(r:j9 xs its)(h:j<its.length):∃x,xs[j]?=some x/\m3 x its[j]:=by
 have hx:j<xs.length:=by rw [r.length];exact h
 obtain⟨u,h1,h2⟩:=r.get (i:=j) (x:=xs[j]) (by simp [hx])
 rw [Aw h] at h1
 cases h1
 exact⟨xs[j],by simp [hx],h2⟩
theorem a36{A:AR}{ps qs:List PV}{xs ys:List V}{its its2:List AA}(r:j0 X.K H ps xs)(r':j0 X.K H qs ys)(rv:j9 xs its)(rv':j9 ys its2)
 (ih:∀p q x y u w,p∈ps->q∈qs->x4 X.K H p x->x4 X.K H q y->m3 x u->m3 y w->b4j A s u w (PyData.eqv p q)):
 ∀j (h1:j<its.toArray.size) (h2:j<its2.toArray.size),SeqAt.EqAt A s its.toArray[j] its2.toArray[j] (eAt ps qs j):=by
 intro j h1 h2
 have h1':j<its.length:=by simpa using h1
 have h2':j<its2.length:=by simpa using h2
 obtain⟨x,ex,rx⟩:=V5 rv h1'
 obtain⟨y,ey,ry⟩:=V5 rv' h2'
 obtain⟨p,ep,hp⟩:=r.getV ex
 obtain⟨q,eq,hq⟩:=r'.getV ey
 have:eAt ps qs j=PyData.eqv p q:=by simp [eAt,ep,eq]
 rw [this]
 have z:=(ih p q x y _ _ (BD ep) (BD eq) hp hq rx ry).eq
 simpa using z
theorem x6:∀{ps:List PV} {n:Nat} {p:PV},z5 ps n=true->p∈ps->n4 p n=true
 |[],_,_,_,h=>by cases h
 |x::xs,n,p,h,hp=>by
  have h':n4 x n=true/\z5 xs n=true:=by simpa [z5] using h
  rcases AV.mp hp with rfl|hp
  ·exact h'.1
  ·exact x6 h'.2 hp
theorem a6k(I:g9 X pins σ H s):∀(n:Nat) (A:AR) (p q:PV) (x y:V) (u w:AA),A.units+n<cLine->n4 p n=true->n4 q n=true->x4 X.K H p x->x4 X.K H q y->m3 x u->m3 y w->b4j A s u w (PyData.eqv p q):=by
 intro n
 induction n with
 |zero=>
  intro A p q x y u w hu hp hq rp rq rx ry
  cases p with
  |none=>
   cases rp;cases rx
   cases q with
   |none=>cases rq;cases ry;simp only [PyData.eqv];exact⟨.none_none,.none_none,.same _⟩
   |bool j=>cases rq;cases ry;simp only [PyData.eqv];exact⟨.none_bool _,.none_bool _,.none_bool _⟩
   |int j=>cases rq;obtain⟨ty,rfl⟩:=ry;simp only [PyData.eqv];exact⟨.none_int _ _,.none_int _ _,.none_int _ _⟩
   |str j=>cases rq;obtain⟨ty,rfl⟩:=ry;simp only [PyData.eqv];exact⟨.none_str _ _,.none_str _ _,.none_str _ _⟩
   |dict _=>simp [n4] at hq
   |list _=>simp [n4] at hq
   |tuple _=>simp [n4] at hq
  |bool i=>
   cases rp;cases rx
   cases q with
   |none=>cases rq;cases ry;simp only [PyData.eqv];exact⟨.bool_none _,.bool_none _,.bool_none _⟩
   |bool j=>cases rq;cases ry;simp only [PyData.eqv];exact⟨.bool_bool _ _,.bool_bool _ _,.bool_bool _ _⟩
   |int j=>cases rq;obtain⟨ty,rfl⟩:=ry;simp only [PyData.eqv];exact⟨.bool_int _ _ _,.bool_int _ _ _,.bool_int _ _ _⟩
   |str j=>cases rq;obtain⟨ty,rfl⟩:=ry;simp only [PyData.eqv];exact⟨.bool_str _ _ _,.bool_str _ _ _,.bool_str _ _ _⟩
   |dict _=>simp [n4] at hq
   |list _=>simp [n4] at hq
   |tuple _=>simp [n4] at hq
  |int i=>
   cases rp;obtain⟨tx,rfl⟩:=rx
   cases q with
   |none=>cases rq;cases ry;simp only [PyData.eqv];exact⟨.int_none _ _,.int_none _ _,.int_none _ _⟩
   |bool j=>cases rq;cases ry;simp only [PyData.eqv];exact⟨.int_bool _ _ _,.int_bool _ _ _,.int_bool _ _ _⟩
   |int j=>cases rq;obtain⟨ty,rfl⟩:=ry;simp only [PyData.eqv];exact⟨.int_int _ _ _ _,.int_int _ _ _ _,.int_int _ _ _ _⟩
   |str j=>cases rq;obtain⟨ty,rfl⟩:=ry;simp only [PyData.eqv];exact⟨.int_str _ _ _ _,.int_str _ _ _ _,.int_str _ _ _ _⟩
   |dict _=>simp [n4] at hq
   |list _=>simp [n4] at hq
   |tuple _=>simp [n4] at hq
  |str i=>
   cases rp;obtain⟨tx,rfl⟩:=rx
   cases q with
   |none=>cases rq;cases ry;simp only [PyData.eqv];exact⟨.str_none _ _,.str_none _ _,.str_none _ _⟩
   |bool j=>cases rq;cases ry;simp only [PyData.eqv];exact⟨.str_bool _ _ _,.str_bool _ _ _,.str_bool _ _ _⟩
   |int j=>cases rq;obtain⟨ty,rfl⟩:=ry;simp only [PyData.eqv];exact⟨.str_int _ _ _ _,.str_int _ _ _ _,.str_int _ _ _ _⟩
   |str j=>cases rq;obtain⟨ty,rfl⟩:=ry;simp only [PyData.eqv];exact⟨.str_str _ _ _ _,.str_str _ _ _ _,.str_str _ _ _ _⟩
   |dict _=>simp [n4] at hq
   |list _=>simp [n4] at hq
   |tuple _=>simp [n4] at hq
  |dict _=>simp [n4] at hp
  |list _=>simp [n4] at hp
  |tuple _=>simp [n4] at hp
 |succ n ih=>
  intro A p q x y u w hu hp hq rp rq rx ry
  have hu0:A.units<cLine:=by lia
  have hu1:A.in1.units+n<cLine:=by rw [V8];lia
  cases p with
  |dict _=>simp [n4] at hp
  |list ps=>
   obtain⟨a,xs,rfl,hs,r⟩:=rp
   cases rx
   obtain⟨its,rv,pl,hz⟩:=I.list hs
   have okp:z5 ps n=true:=by simpa [n4] using hp
   cases q with
   |dict _=>simp [n4] at hq
   |list qs=>
    obtain⟨b,ys,rfl,hs',r'⟩:=rq
    cases ry
    obtain⟨its2,rv',pl',hz'⟩:=I.list hs'
    have okq:z5 qs n=true:=by simpa [n4] using hq
    have hle:its.toArray.size=ps.length:=by rw [<-r.length,rv.length];simp
    have hle':its2.toArray.size=qs.length:=by rw [<-r'.length,rv'.length];simp
    have he:=a36 (A:=A.in1) (s:=s) r r' rv rv' fun p q x y u w hp' hq' rp' rq' rx' ry'=>ih A.in1 p q x y u w hu1 (x6 okp hp') (x6 okq hq') rp' rq' rx' ry'
    simp only [PyData.eqv]
    have main:SeqAt.RcAt A s (.ref a) (.ref b) (PyData.eqvAll ps qs)/\SeqAt.RcNeAt A s (.ref a) (.ref b) (!PyData.eqvAll ps qs):=by
     by_cases e:its.toArray.size=its2.toArray.size
     ·have el:ps.length=qs.length:=by rw [<-hle,<-hle',e]
      have e3:PyData.eqvAll ps qs=(AQ its.toArray.size).all (eAt ps qs):=by
       rw [U6,el,Nat.min_self,hle,el];simp
      rw [e3]
      exact⟨.lists pl.isList pl'.isList e hu0 he,.lists pl.isList pl'.isList e hu0 he⟩
     ·have e3:PyData.eqvAll ps qs=false:=by
       rw [U6]
       have:(ps.length==qs.length)=false:=by
        rw [beq_eq_false_iff_ne];intro z;exact e (by rw [hle,hle',z])
       rw [this,Bool.and_false]
      have e4:(its.toArray.size !=its2.toArray.size)=true:=by simpa using e
      rw [e3]
      exact⟨.lists_lengths pl.isList pl'.isList e4 hu0,.lists_lengths pl.isList pl'.isList e4 hu0⟩
    refine⟨main.1,main.2, ?_⟩
    by_cases hab:a=b
    ·subst hab
     cases I.list_inj hs hs'
     cases j0.inj I ps qs r r'
     rw [a0D ps n okp]
     exact .same _
    ·exact .of_refs hab main.1
   |tuple qs=>
    obtain⟨b,ys,rfl,hs',r'⟩:=rq
    cases ry
    obtain⟨its2,rv',pl',hz'⟩:=I.tuple hs'.sq
    simp only [PyData.eqv]
    exact⟨.list_tuple pl.isList pl' hu0,.list_tuple pl.isList pl' hu0,.list_tuple pl.isList pl' hu0⟩
   |none=>cases rq;cases ry;simp only [PyData.eqv];exact⟨.list_none pl.isList hu0,.list_none pl.isList hu0,.list_none pl.isList hu0⟩
   |bool k=>cases rq;cases ry;simp only [PyData.eqv];exact⟨.list_bool _ pl.isList hu0,.list_bool _ pl.isList hu0,.list_bool _ pl.isList hu0⟩
   |int k=>cases rq;obtain⟨t,rfl⟩:=ry;simp only [PyData.eqv];exact⟨.list_int _ _ pl.isList hu0,.list_int _ _ pl.isList hu0,.list_int _ _ pl.isList hu0⟩
   |str k=>cases rq;obtain⟨t,rfl⟩:=ry;simp only [PyData.eqv];exact⟨.list_str _ _ pl.isList hu0,.list_str _ _ pl.isList hu0,.list_str _ _ pl.isList hu0⟩
  |tuple ps=>
   obtain⟨a,xs,rfl,hs,r⟩:=rp
   cases rx
   obtain⟨its,rv,pl,hz⟩:=I.tuple hs.sq
   have okp:z5 ps n=true:=by simpa [n4] using hp
   cases q with
   |dict _=>simp [n4] at hq
   |tuple qs=>
    obtain⟨b,ys,rfl,hs',r'⟩:=rq
    cases ry
    obtain⟨its2,rv',pl',hz'⟩:=I.tuple hs'.sq
    have okq:z5 qs n=true:=by simpa [n4] using hq
    have hle:its.toArray.size=ps.length:=by rw [<-r.length,rv.length];simp
    have hle':its2.toArray.size=qs.length:=by rw [<-r'.length,rv'.length];simp
    have he:=a36 (A:=A.in1) (s:=s) r r' rv rv' fun p q x y u w hp' hq' rp' rq' rx' ry'=>ih A.in1 p q x y u w hu1 (x6 okp hp') (x6 okq hq') rp' rq' rx' ry'
    simp only [PyData.eqv]
    have e3:PyData.eqvAll ps qs=((AQ (min its.toArray.size its2.toArray.size)).all (eAt ps qs)&& its.toArray.size==its2.toArray.size):=by
     rw [U6,hle,hle']
    have main:SeqAt.RcAt A s (.ref a) (.ref b) (PyData.eqvAll ps qs)/\SeqAt.RcNeAt A s (.ref a) (.ref b) (!PyData.eqvAll ps qs):=by
     rw [e3]
     exact⟨.tuples pl pl' hu0 he,.tuples pl pl' hu0 he⟩
    refine⟨main.1,main.2, ?_⟩
    by_cases hab:a=b
    ·subst hab
     cases I.tuple_inj hs.sq hs'.sq
     cases j0.inj I ps qs r r'
     rw [a0D ps n okp]
     exact .same _
    ·exact .of_refs hab main.1
   |list qs=>
    obtain⟨b,ys,rfl,hs',r'⟩:=rq
    cases ry
    obtain⟨its2,rv',pl',hz'⟩:=I.list hs'
    simp only [PyData.eqv]
    exact⟨.tuple_list pl pl'.isList hu0,.tuple_list pl pl'.isList hu0,.tuple_list pl pl'.isList hu0⟩
   |none=>cases rq;cases ry;simp only [PyData.eqv];exact⟨.tuple_none pl hu0,.tuple_none pl hu0,.tuple_none pl hu0⟩
   |bool k=>cases rq;cases ry;simp only [PyData.eqv];exact⟨.tuple_bool _ pl hu0,.tuple_bool _ pl hu0,.tuple_bool _ pl hu0⟩
   |int k=>cases rq;obtain⟨t,rfl⟩:=ry;simp only [PyData.eqv];exact⟨.tuple_int _ _ pl hu0,.tuple_int _ _ pl hu0,.tuple_int _ _ pl hu0⟩
   |str k=>cases rq;obtain⟨t,rfl⟩:=ry;simp only [PyData.eqv];exact⟨.tuple_str _ _ pl hu0,.tuple_str _ _ pl hu0,.tuple_str _ _ pl hu0⟩
  |none=>
   cases q with
   |list qs=>
    obtain⟨b,ys,rfl,hs',r'⟩:=rq;cases ry;obtain⟨its2,rv',pl',hz'⟩:=I.list hs';cases rp;cases rx;simp only [PyData.eqv]
    exact⟨.none_list pl'.isList hu0,.none_list pl'.isList hu0,.none_list pl'.isList hu0⟩
   |tuple qs=>
    obtain⟨b,ys,rfl,hs',r'⟩:=rq;cases ry;obtain⟨its2,rv',pl',hz'⟩:=I.tuple hs'.sq;cases rp;cases rx;simp only [PyData.eqv]
    exact⟨.none_tuple pl' hu0,.none_tuple pl' hu0,.none_tuple pl' hu0⟩
   |dict _=>simp [n4] at hq
   |_=>exact ih A _ _ x y u w (by lia) (by simp [n4]) (by simp [n4]) rp rq rx ry
  |bool k=>
   cases q with
   |list qs=>
    obtain⟨b,ys,rfl,hs',r'⟩:=rq;cases ry;obtain⟨its2,rv',pl',hz'⟩:=I.list hs';cases rp;cases rx;simp only [PyData.eqv]
    exact⟨.bool_list _ pl'.isList hu0,.bool_list _ pl'.isList hu0,.bool_list _ pl'.isList hu0⟩
   |tuple qs=>
    obtain⟨b,ys,rfl,hs',r'⟩:=rq;cases ry;obtain⟨its2,rv',pl',hz'⟩:=I.tuple hs'.sq;cases rp;cases rx;simp only [PyData.eqv]
    exact⟨.bool_tuple _ pl' hu0,.bool_tuple _ pl' hu0,.bool_tuple _ pl' hu0⟩
   |dict _=>simp [n4] at hq
   |_=>exact ih A _ _ x y u w (by lia) (by simp [n4]) (by simp [n4]) rp rq rx ry
  |int k=>
   cases q with
   |list qs=>
    obtain⟨b,ys,rfl,hs',r'⟩:=rq;cases ry;obtain⟨its2,rv',pl',hz'⟩:=I.list hs';cases rp;obtain⟨t,rfl⟩:=rx;simp only [PyData.eqv]
    exact⟨.int_list _ _ pl'.isList hu0,.int_list _ _ pl'.isList hu0,.int_list _ _ pl'.isList hu0⟩
   |tuple qs=>
    obtain⟨b,ys,rfl,hs',r'⟩:=rq;cases ry;obtain⟨its2,rv',pl',hz'⟩:=I.tuple hs'.sq;cases rp;obtain⟨t,rfl⟩:=rx;simp only [PyData.eqv]
    exact⟨.int_tuple _ _ pl' hu0,.int_tuple _ _ pl' hu0,.int_tuple _ _ pl' hu0⟩
   |dict _=>simp [n4] at hq
   |_=>exact ih A _ _ x y u w (by lia) (by simp [n4]) (by simp [n4]) rp rq rx ry
  |str k=>
   cases q with
   |list qs=>
    obtain⟨b,ys,rfl,hs',r'⟩:=rq;cases ry;obtain⟨its2,rv',pl',hz'⟩:=I.list hs';cases rp;obtain⟨t,rfl⟩:=rx;simp only [PyData.eqv]
    exact⟨.str_list _ _ pl'.isList hu0,.str_list _ _ pl'.isList hu0,.str_list _ _ pl'.isList hu0⟩
   |tuple qs=>
    obtain⟨b,ys,rfl,hs',r'⟩:=rq;cases ry;obtain⟨its2,rv',pl',hz'⟩:=I.tuple hs'.sq;cases rp;obtain⟨t,rfl⟩:=rx;simp only [PyData.eqv]
    exact⟨.str_tuple _ _ pl' hu0,.str_tuple _ _ pl' hu0,.str_tuple _ _ pl' hu0⟩
   |dict _=>simp [n4] at hq
   |_=>exact ih A _ _ x y u w (by lia) (by simp [n4]) (by simp [n4]) rp rq rx ry
end
end PU
set_option maxHeartbeats 1000000
namespace PU
open PySem PySem.Spec PyProof.Rows L2
instance:DecidableRel (fun(i j:Int)=>a8W i j):=fun i j=>by unfold a8W;infer_instance
instance (i j:Int):Decidable (a8W i j):=by unfold a8W;infer_instance
instance (i j:Int):Decidable (a5r i j):=by unfold a5r;infer_instance
instance (i j:Int):Decidable (c0O i j):=by unfold c0O;infer_instance
def d7.mine:d7->Option (List PV)
 | .ow (.lst ps)=>some ps
 | .bo (.lst ps)=>some ps
 |_=>none
theorem b0w{K:AD}{F H:Hp}{v:V}{r:d7}{ps:List PV}(h:M1 K F H v r)(e:r.mine=some ps):∃a xs,v= .ref a/\F a=none/\H a=some (.lst xs)/\j0 K F ps xs:=by
 cases r with
 |val _=>cases e
 |ow c=>cases c<;>cases e;exact h
 |bo c=>cases c<;>cases e;exact h
def E2(x y:d7):Option d7:=match x,y with
 | .val (.int i),.val (.int j)=>some (.val (.int (i+j)))
 | .val (.str i),.val (.str j)=>if i.length+j.length<=AL then some (.val (.str (i++j))) else none
 | .val (.tuple ps),.val (.tuple qs)=>if(ps.length≠0/\qs.length≠0)/\ps.length+qs.length<=AL then some (.val (.tuple (ps++qs))) else none
 |x,y=>match x.mine,y.mine with
  |some ps,some qs=>if ps.length+qs.length<=AL then some (.own (ps++qs)) else none
  |_,_=>none
section
variable {X:Cx}
theorem u5:OpM X (binaryOp .Add) E2:=by
 intro pins s σ H x y v u Q I rx ry h
 obtain⟨F,ra,rb,rz,s0,h1,h2,h3,k⟩:=h
 unfold E2 at h3
 split at h3
 ·cases h3
  cases h1;cases h2
  exact b9U pins s σ H _ _ v u Q I rx ry ⟨_,_,rfl,rfl,k _ F H (u6.here s0 rfl)⟩
 ·rename_i i j
  split at h3
  ·rename_i c
   cases h3
   cases h1;cases h2
   exact b1N pins s σ H _ _ v u Q I rx ry ⟨i,j,rfl,rfl,c,k _ F H (u6.here s0 rfl)⟩
  ·cases h3
 ·rename_i ps qs
  split at h3
  ·rename_i c
   cases h3
   obtain⟨a,xs,rfl,hq,r⟩:=h1
   obtain⟨b,ys,rfl,hq',r'⟩:=h2
   refine b7Y pins s σ H _ _ v u Q I rx ry ⟨a,b,xs,ys,rfl,rfl,p8 s0 hq.sq,p8 s0 hq'.sq, ?_,by rw [r.length,r'.length];exact c.2, ?_⟩
   ·intro z
    subst z
    exact c.1.1 r.length.symm
   ·refine⟨fun z=> ?_,fun _ p hp=>k _ _ _ (u6.tup s0 hp (r.append r'))⟩
    subst z
    exact absurd r'.length.symm c.1.2
  ·cases h3
 ·split at h3
  ·rename_i ps qs e1 e2
   split at h3
   ·rename_i c
    cases h3
    obtain⟨a,xs,rfl,_,hq,r⟩:=b0w h1 e1
    obtain⟨b,ys,rfl,_,hq',r'⟩:=b0w h2 e2
    refine b9V pins s σ H _ _ v u Q I rx ry ⟨a,b,xs,ys,rfl,rfl,hq,hq',by rw [r.length,r'.length];exact c,fun p hp=> ?_⟩
    exact k _ _ _ (u6.lst s0 hp (r.append r'))
   ·cases h3
  ·cases h3
theorem a2t:OpM X (binaryOp .Sub) (gI fun i j=> .int (i - j)):=b8R b9Z fun _ _ _=>rfl
theorem b71:OpM X (binaryOp .Mult) (gIc a8W fun i j=> .int (i*j)):=b1O b9X fun _ _ _=>rfl
theorem v4:OpM X (binaryOp .Mod) (gIc (fun _ j=>0<j) fun i j=> .int (i % j)):=b1O b9W fun _ _ _=>rfl
theorem a19:OpM X (binaryOp .FloorDiv) (gIc a5r fun i j=> .int (i / j)):=b1O b7Z fun _ _ _=>rfl
def gEq(x y:d7):Option d7:=if n4 x.rd 50=true/\n4 y.rd 50=true then some (.val (.bool (PyData.eqv x.rd y.rd))) else none
def gNe(x y:d7):Option d7:=if n4 x.rd 50=true/\n4 y.rd 50=true then some (.val (.bool (!PyData.eqv x.rd y.rd))) else none
theorem a60(hu:X.A.units+64<cLine):OpM X (compareOp .Eq) gEq:=by
 intro pins s σ H x y v u Q I rx ry h
 obtain⟨F,ra,rb,rz,s0,h1,h2,h3,k⟩:=h
 unfold gEq at h3
 split at h3
 ·rename_i c
  cases h3
  have z:=a6k I 50 X.A _ _ x y v u (by lia) c.1 c.2 (h1.rd s0) (h2.rd s0) rx ry
  exact z.rc _ _ _ _ ⟨.bl _,H,I,rfl,k _ F H (u6.here s0 rfl)⟩
 ·cases h3
theorem a2a(hu:X.A.units+64<cLine):OpM X (compareOp .NotEq) gNe:=by
 intro pins s σ H x y v u Q I rx ry h
 obtain⟨F,ra,rb,rz,s0,h1,h2,h3,k⟩:=h
 unfold gNe at h3
 split at h3
 ·rename_i c
  cases h3
  have z:=a6k I 50 X.A _ _ x y v u (by lia) c.1 c.2 (h1.rd s0) (h2.rd s0) rx ry
  exact z.ne _ _ _ _ ⟨.bl _,H,I,rfl,k _ F H (u6.here s0 rfl)⟩
 ·cases h3
open Classical in
def a7K(K:AD)(H:Hp)(q:PV)(u:AA):Bool:=if h:∃p v,m3 v u/\x4 K H p v then PyData.eqv h.choose q else false
theorem b19{pins:List (AB×Obj)}{σ:L2.St}{H:Hp}{s:AC}(I:g9 X pins σ H s){p q:PV}{v:V}{u:AA}(r:m3 v u)(h:x4 X.K H p v):a7K X.K H q u=PyData.eqv p q:=by
 have hx:∃p v,m3 v u/\x4 X.K H p v:=⟨p,v,r,h⟩
 unfold a7K
 rw [dif_pos hx]
 obtain⟨v',r',h'⟩:=hx.choose_spec
 cases r.inj r'
 rw [x4.inj I _ _ h' h]
theorem a57{pins:List (AB×Obj)}{σ:L2.St}{H:Hp}{s:AC}(I:g9 X pins σ H s){q:PV}:∀{ps:List PV} {xs:List V} {us:List AA},j0 X.K H ps xs->j9 xs us->us.any (a7K X.K H q)=ps.any fun p=>PyData.eqv p q
 |[],_,_,r,v=>by cases r;cases v;rfl
 |p::ps,_,_,⟨x,r,e,h,t⟩,v=>by
  subst e
  cases v with
  |cons a b=>rw [List.any_cons,List.any_cons,b19 I a h,a57 I t b]
theorem b2A{H:Hp}:∀{ps:List PV} {xs:List V} {us:List AA} {u:AA},j0 X.K H ps xs->j9 xs us->u∈us->∃p x,p∈ps/\m3 x u/\x4 X.K H p x
 |[],_,_,_,r,v,h=>by cases r;cases v;cases h
 |p::ps,_,_,u,⟨x,r,e,hp,t⟩,v,h=>by
  subst e
  cases v with
  |cons a b=>
   rcases AV.mp h with rfl|h
   ·exact⟨p,x,AX,a,hp⟩
   ·obtain⟨p',x',h1,h2,h3⟩:=b2A t b h
    exact⟨p',x',Ac _ h1,h2,h3⟩
def PyData.items?:PV->Option (List PV)
 | .list ps=>some ps
 | .tuple ps=>some ps
 |_=>none
def gIn(neg:Bool)(x y:d7):Option d7:=match PyData.items? y.rd with
 |some ps=>if n4 x.rd 50=true/\z5 ps 50=true then some (.val (.bool (if neg then !(ps.any fun p=>PyData.eqv p x.rd) else ps.any fun p=>PyData.eqv p x.rd))) else none
 |none=>none
theorem b0o{pins:List (AB×Obj)}{σ:L2.St}{H:Hp}{s:AC}(I:g9 X pins σ H s)(hu:X.A.units+64<cLine){q:PV}{ps:List PV}{x:V}{xs:List V}{v:AA}{us:List AA}(hq:n4 q 50=true)(hp:z5 ps 50=true)
 (rq:x4 X.K H q x) (rx:m3 x v) (r:j0 X.K H ps xs) (rv:j9 xs us):∀y,y∈us.toArray->SeqAt.EqAt X.A.in1 s y v (a7K X.K H q y):=by
 intro y hy
 have hy':y∈us:=by simpa using hy
 obtain⟨p,z,h1,h2,h3⟩:=b2A r rv hy'
 rw [b19 I h2 h3]
 exact(a6k I 50 X.A.in1 p q z x y v (by rw [V8];lia) (x6 hp h1) hq h3 rq h2 rx).eq
theorem D8{F H:Hp}{v:V}{r:d7}{ps:List PV}(s0:j8 F H)(h:M1 X.K F H v r)(e:PyData.items? r.rd=some ps):∃a xs,v= .ref a/\(S2 X.K H a xs\/Z1 X.K H a xs)/\j0 X.K F ps xs:=by
 cases r with
 |val p=>
  cases p with
  |list qs=>cases e;obtain⟨a,xs,rfl,hq,r⟩:=h;exact⟨a,xs,rfl,.inl (C4 s0 hq),r⟩
  |tuple qs=>cases e;obtain⟨a,xs,rfl,hq,r⟩:=h;exact⟨a,xs,rfl,.inr (p8 s0 hq.sq),r⟩
  |_=>cases e
 |ow c=>cases c<;>cases e;obtain⟨a,xs,rfl,_,hq,r⟩:=h;exact⟨a,xs,rfl,.inl (S2.of hq),r⟩
 |bo c=>cases c<;>cases e;obtain⟨a,xs,rfl,_,hq,r⟩:=h;exact⟨a,xs,rfl,.inl (S2.of hq),r⟩
theorem b90(hu:X.A.units+64<cLine):OpM X (compareOp .In) (gIn false):=by
 intro pins s σ H x y v u Q I rx ry h
 obtain⟨F,ra,rb,rz,s0,h1,h2,h3,k⟩:=h
 unfold gIn at h3
 split at h3
 ·rename_i ps e
  split at h3
  ·rename_i c
   cases h3
   obtain⟨a,xs,rfl,hq,r⟩:=D8 s0 h2 e
   cases ry
   have rH:=j0.mono s0 _ r
   rcases hq with hq|hq
   ·obtain⟨its,rv,pl,hz⟩:=I.list hq
    refine SeqAt.in_listAt (a7K X.K H ra.rd) pl.isList (b0o I hu c.1 c.2 (h1.rd s0) rx rH rv) ⟨.bl _,H,I,rfl, ?_⟩
    rw [show its.toArray.any (a7K X.K H ra.rd)=its.any (a7K X.K H ra.rd) by simp,a57 I rH rv]
    exact k _ F H (u6.here s0 rfl)
   ·obtain⟨its,rv,pl,hz⟩:=I.tuple hq
    refine SeqAt.in_tupleAt (a7K X.K H ra.rd) pl (b0o I hu c.1 c.2 (h1.rd s0) rx rH rv) ⟨.bl _,H,I,rfl, ?_⟩
    rw [show its.toArray.any (a7K X.K H ra.rd)=its.any (a7K X.K H ra.rd) by simp,a57 I rH rv]
    exact k _ F H (u6.here s0 rfl)
  ·cases h3
 ·cases h3
def z9(x y:d7):Option d7:=match y with
 | .val (.int i)=>(match x.rd with
   | .str z=>if z.length<=AL then(atI z.cps.toList i).map fun c=> .val (.str ⟨#[c]⟩) else none
   |p=>match PyData.items? p with
    |some ps=>(atI ps i).map .val
    |none=>none)
 |_=>none
theorem j0.atI{K:AD}{H:Hp}{ps:List PV}{xs:List V}{i:Int}{p:PV}(r:j0 K H ps xs)(e:L2.atI ps i=some p):∃v,L2.atI xs i=some v/\x4 K H p v:=by
 unfold L2.atI at e ⊢
 rw [r.length]
 obtain⟨j,e1,e2⟩:=bind_some e
 rw [e1]
 exact r.get e2
theorem ixm:IxR X (rM2 X.K z9):=by
 intro value slice pins s σ H x y v u Q I rx ry h hs
 obtain⟨F,ra,rb,rz,s0,h1,h2,h3,k⟩:=h
 unfold z9 at h3
 split at h3
 ·rename_i i
  cases h2
  split at h3
  ·rename_i z ez
   split at h3
   ·rename_i c
    have rr:=h1.rd s0
    rw [ez] at rr
    cases rr
    cases ea:L2.atI z.cps.toList i with
    |none=>rw [ea] at h3;cases h3
    |some ch=>
     rw [ea] at h3;cases h3
     exact b9D value slice pins s σ H _ _ v u Q I rx ry ⟨z,i,ch,rfl,rfl,c,ea,k _ F H (u6.here s0 rfl)⟩ hs
   ·cases h3
  ·split at h3
   ·rename_i ps e
    cases ea:L2.atI ps i with
    |none=>rw [ea] at h3;cases h3
    |some p=>
     rw [ea] at h3;cases h3
     obtain⟨a,xs,rfl,hq,r⟩:=D8 s0 h1 e
     obtain⟨z,ez,rp⟩:=r.atI ea
     rcases hq with hq|hq
     ·exact b2u value slice pins s σ H _ _ v u Q I rx ry ⟨a,xs,i,z,rfl,rfl,hq,ez,k _ F H (u6.here s0 rp)⟩ hs
     ·exact a6A value slice pins s σ H _ _ v u Q I rx ry ⟨a,xs,i,z,rfl,rfl,hq,ez,k _ F H (u6.here s0 rp)⟩ hs
   ·cases h3
 ·cases h3
theorem n5{a b:AF}{ma mb:M}{pos:Pos}(ha:EE X a ma)(hb:EE X b mb)(hs:a0V b:=by intro _ _;rfl):EE X (.Subscript a b pos) (m2 z9 ma mb):=
 u0 (a8I ixm ha hb hs) fun _ _ _ h=>a9L h
abbrev MA:=c7->Option (List PV)
def tMA(K:AD)(m:MA):TA:=fun σ H Q=>∃F ρ ps,A3 K F H σ ρ/\m ρ=some ps/\∀vs F' H',U4 F H F' H'->j0 K F' ps vs->Q vs H'
abbrev EA(X:Cx)(es:List AF)(m:MA):Prop:=PA X es (tMA X.K m)
def e9:MA:=fun _=>some []
def c5(m:M)(r:MA):MA:=fun ρ=>((m ρ).bind d7.toVal).bind fun p=>(r ρ).bind fun ps=>some (p::ps)
theorem d9:EA X [] e9:=b6h K6 fun σ H Q ⟨F,ρ,ps,he,hm,k⟩=>by
 cases hm
 exact k [] F H (U4.refl he.fh) rfl
theorem c4{e:AF}{es:List AF}{m:M}{r:MA}(ha:EE X e m)(hr:EA X es r)(hs:AT (e::es) X.env=(false,eval e X.env)::AT es X.env:=by rfl):EA X (e::es) (c5 m r):=
 b6h (x8 ha hr hs) fun σ H Q ⟨F,ρ,ps,he,hm,k⟩=>by
  obtain⟨p,e1,hm⟩:=bind_some hm
  obtain⟨r1,e1,e2⟩:=bind_some e1
  obtain⟨qs,e3,hm⟩:=bind_some hm
  cases hm
  refine⟨F,ρ,r1,he,e1,fun v F1 H1 o1=> ?_⟩
  obtain⟨F2,o2⟩:=o1.toVal e2
  exact⟨F2,ρ,qs,he.ext o2.x,e3,fun vs F3 H3 x3 rl=>k _ F3 H3 (o2.x.trans x3) ⟨v,vs,rfl,x4.mono x3.f _ o2.rep,rl⟩⟩
def a0J(m:MA):M:=fun ρ=>(m ρ).bind fun ps=>if ps.length<=AL then some (.val (.tuple ps)) else none
def a4A(m:MA):M:=fun ρ=>(m ρ).bind fun ps=>if ps.length<=AL then some (.own ps) else none
theorem M4{es:List AF}{m:MA}{x1:Nat}{pos:Pos}(h:EA X es m):EE X (.Tuple es x1 pos) (a0J m):=
 u0 (b1P h) fun σ H Q ⟨F,ρ,r,he,hm,k⟩=>by
  obtain⟨ps,e1,hm⟩:=bind_some hm
  split at hm
  ·rename_i c
   cases hm
   exact⟨F,ρ,ps,he,e1,fun vs F1 H1 x rl=>⟨by rw [rl.length];exact c,fun p hp=>k _ _ _ (u6.trans x (u6.tup x.fh hp rl))⟩⟩
  ·cases hm
theorem W8{es:List AF}{m:MA}{pos:Pos}(h:EA X es m):EE X (.List es pos) (a4A m):=
 u0 (b95 h) fun σ H Q ⟨F,ρ,r,he,hm,k⟩=>by
  obtain⟨ps,e1,hm⟩:=bind_some hm
  split at hm
  ·rename_i c
   cases hm
   exact⟨F,ρ,ps,he,e1,fun vs F1 H1 x rl=>⟨by rw [rl.length];exact c,fun p hp=>k _ _ _ (u6.trans x (u6.lst x.fh hp rl))⟩⟩
  ·cases hm
def spP(K:AD)(n:Nat)(g:List PV->Option d7):Sp:=fun vs H Q _=>∃F ps r,j8 F H/\j0 K F ps vs/\ps.length=n/\g ps=some r/\∀v F' H',u6 K F H F' H' v r->Q v H'
def o0(g:List PV->Option d7)(m:MA):M:=fun ρ=>(m ρ).bind g
theorem b7r{k n:Nat}{f:AB}{fd:FuncData}{ps:List Str}{g:List PV->Option d7}{x:Str}{p pos:Pos}{e:AF}{es:List AF}{m:MA}
 (G:a0l X.prog X.w X.K X.mg X.base CX0 k f fd ps (spP X.K n g)) (hr:P4 k X.A) (hg:Gl X x) (hm:X.mg x=some (.ref f)) (hk:PySem.W.keepIn X.K (.ref f)=true) (hb:a4Z X.K fd ps []) (hn:∀ρ ps,m ρ=some ps->ps.length=n) (ha:EA X (e::es) m)
 (hdb:(x==("__debug__":Str))=false:=by decide) (he:AT (e::es) X.env=(false,eval e X.env)::AT es X.env:=by rfl) (hpl:(backTo pos (AT es X.env)).any (·.1)=false:=by rfl):
 EE X (.Call (.Name x p) (e::es) [] pos) (o0 g m):=
 u0 (a9D G hr hg hm hk hb .nil b2D ha hdb he hpl) fun σ H Q ⟨F,ρ,r,he,hm,k⟩=>by
  obtain⟨qs,e1,hm⟩:=bind_some hm
  refine⟨F,ρ,qs,he,e1,fun vs F1 H1 x rl=> ?_⟩
  show spP X.K n g (vs++[]) H1 Q E0
  rw [Aq]
  exact⟨F1,qs,r,x.fh,rl,hn _ _ e1,hm,fun v F2 H2 o=>k v F2 H2 (u6.trans x o)⟩
theorem l6:∀ρ ps,e9 ρ=some ps->ps.length=0:=fun _ _ h=>by cases h;rfl
theorem c9{m:M}{r:MA}{n:Nat}(h:∀ρ ps,r ρ=some ps->ps.length=n):∀ρ ps,c5 m r ρ=some ps->ps.length=n+1:=fun ρ ps e=>by
 obtain⟨p,e1,e⟩:=bind_some e
 obtain⟨qs,e3,e⟩:=bind_some e
 cases e
 rw [AU,h ρ qs e3]
end
mutual
def a5x(K:AD):Nat->AA->Option PV
 |0,_=>none
 |_+1,.none=>some .none
 |_+1,.bool b=>some (.bool b)
 |_+1,.int i _=>some (.int i)
 |_+1,.str x _=>some (.str x)
 |n+1,.ref a=>match K.lookup a with
  |some ⟨.type "tuple",_,.seq its _,_⟩=>if its.size<=1000 then(a3q K n its.toList).map .tuple else none
  |some ⟨.type "list",none,.seq its _,_⟩=>if its.size<=1000 then(a3q K n its.toList).map .list else none
  |_=>none
 |_+1,_=>none
def a3q(K:AD):Nat->List AA->Option (List PV)
 |0,_=>none
 |_+1,[]=>some []
 |n+1,u::us=>(a5x K n u).bind fun p=>(a3q K n us).bind fun ps=>some (p::ps)
end
theorem a7r{n:Nat}(h:n<=1000):n<=AL:=BF (b39 h)
theorem b4s(K:AD):∀(n:Nat),(∀(u:AA) (p:PV),a5x K n u=some p->∃v,m3 v u/\∀H,x4 K H p v)/\(∀(us:List AA) (ps:List PV),a3q K n us=some ps->∃vs,j9 vs us/\∀H,j0 K H ps vs):=by
 intro n
 induction n with
 |zero=>exact⟨fun u p h=>by simp [a5x] at h,fun u p h=>by simp [a3q] at h⟩
 |succ n ih=>
  constructor
  ·intro u p h
   cases u with
   |none=>simp only [a5x] at h;cases h;exact⟨.non,rfl,fun _=>rfl⟩
   |bool b=>simp only [a5x] at h;cases h;exact⟨.bl b,rfl,fun _=>rfl⟩
   |int i t=>simp only [a5x] at h;cases h;exact⟨.int i,⟨t,rfl⟩,fun _=>rfl⟩
   |str x t=>simp only [a5x] at h;cases h;exact⟨.str x,⟨t,rfl⟩,fun _=>rfl⟩
   |ref a=>
    simp only [a5x] at h
    split at h
    ·rename_i d its m sl e
     split at h
     ·rename_i c
      cases q:a3q K n its.toList with
      |none=>rw [q] at h;cases h
      |some ps=>
       rw [q] at h;cases h
       obtain⟨vs,h1,h2⟩:=ih.2 _ _ q
       exact⟨.ref a,rfl,fun H=>⟨a,vs,rfl,.inr ⟨_,its,m,e,rfl,rfl,a7r c,h1⟩,h2 H⟩⟩
     ·cases h
    ·rename_i its m sl e
     split at h
     ·rename_i c
      cases q:a3q K n its.toList with
      |none=>rw [q] at h;cases h
      |some ps=>
       rw [q] at h;cases h
       obtain⟨vs,h1,h2⟩:=ih.2 _ _ q
       exact⟨.ref a,rfl,fun H=>⟨a,vs,rfl,.inr ⟨_,its,m,e,rfl,rfl,rfl,a7r c,h1⟩,h2 H⟩⟩
     ·cases h
    ·cases h
   |_=>simp [a5x] at h
  ·intro us ps h
   cases us with
   |nil=>simp only [a3q] at h;cases h;exact⟨[],.nil,fun _=>rfl⟩
   |cons u us=>
    simp only [a3q] at h
    obtain⟨p,e1,h⟩:=bind_some h
    obtain⟨qs,e2,h⟩:=bind_some h
    cases h
    obtain⟨v,r1,r2⟩:=ih.1 _ _ e1
    obtain⟨vs,r3,r4⟩:=ih.2 _ _ e2
    exact⟨v::vs,.cons r1 r3,fun H=>⟨v,vs,rfl,r2 H,r4 H⟩⟩
section
variable {X:Cx}
def b0q:PV->Option g0
 | .int i=>some (.inl i)
 | .str x=>some (.inr x)
 |_=>none
theorem a8u{K:AD}{H:Hp}{p:PV}{k:g0}{v:V}(e:b0q p=some k)(r:x4 K H p v):v=kV k:=by
 cases p with
 |int i=>cases e;cases r;rfl
 |str x=>cases e;cases r;rfl
 |_=>cases e
def a47:List DictEntry->Option (List (g0×AA))
 |[]=>some []
 |e::es=>match e.key with
  | .int i _=>(a47 es).map fun r=>(.inl i,e.val)::r
  | .str x _=>(a47 es).map fun r=>(.inr x,e.val)::r
  |_=>none
theorem a0a{P:AN}{w:AI}:∀{es:List DictEntry} {kvs:List (g0×AA)},a47 es=some kvs->es.map (·.hash)=kvs.map (fun kv=>b3z w kv.1)->Pairs (l7 P w) es kvs/\∀e∈es,∃k,(l7 P w).is k e.key=true/\e.hash=(l7 P w).hash k
 |[],_,h,_=>by cases h;exact⟨.nil,fun _ h=>nomatch h⟩
 |e::es,kvs,h,hh=>by
  simp only [a47] at h
  split at h
  ·rename_i i t ek
   cases q:a47 es with
   |none=>rw [q] at h;cases h
   |some r=>
    rw [q] at h;cases h
    simp only [AK,List.cons.injEq] at hh
    obtain⟨h1,h2⟩:=a0a q hh.2
    have hi:(l7 P w).is (.inl i) e.key=true:=by rw [ek];exact a5d P w i t
    exact⟨.cons hi rfl h1,fun e' he=>(AV.mp he).elim (fun z=>by subst z;exact⟨_,hi,hh.1⟩) (h2 e')⟩
  ·rename_i x t ek
   cases q:a47 es with
   |none=>rw [q] at h;cases h
   |some r=>
    rw [q] at h;cases h
    simp only [AK,List.cons.injEq] at hh
    obtain⟨h1,h2⟩:=a0a q hh.2
    have hi:(l7 P w).is (.inr x) e.key=true:=by rw [ek];exact R8 P w x t
    exact⟨.cons hi rfl h1,fun e' he=>(AV.mp he).elim (fun z=>by subst z;exact⟨_,hi,hh.1⟩) (h2 e')⟩
  ·cases h
def a0W{κ:Type}(K:AD)(n:Nat):List (κ×AA)->Option (List (κ×PV))
 |[]=>some []
 |(k,u)::r=>(a5x K n u).bind fun p=>(a0W K n r).bind fun t=>some ((k,p)::t)
def U0{κ:Type}[DecidableEq κ](tbl:List (κ×PV))(k:κ):Option PV:=match tbl with
 |[]=>none
 |(k',p)::r=>if k'=k then some p else U0 r k
theorem a8y{K:AD}{n:Nat}{k:g0}:∀{kvs:List (g0×AA)} {tbl:List (g0×PV)} {p:PV},a0W K n kvs=some tbl->U0 tbl k=some p->∃u,valueAt kvs k=some u/\a5x K n u=some p
 |[],_,_,h,e=>by cases h;cases e
 |(k',u)::r,tbl,p,h,e=>by
  simp only [a0W] at h
  obtain⟨q,e1,h⟩:=bind_some h
  obtain⟨t,e2,h⟩:=bind_some h
  cases h
  simp only [U0] at e
  split at e
  ·rename_i c;cases e
   exact⟨u,by simp [valueAt,List.find?_cons,c],e1⟩
  ·rename_i c
   obtain⟨u',h1,h2⟩:=a8y e2 e
   refine⟨u', ?_,h2⟩
   simpa [valueAt,List.find?_cons,c] using h1
structure Tab(P:AN)(w:AI)(K:AD)(a:AB)(tbl:List (g0×PV)):Prop where
 ex:∃es ep kvs n,K.lookup a=some ⟨.type "dict",none,.dict es ep, #[]⟩/\a47 es.toList=some kvs/\es.toList.map (·.hash)=kvs.map (fun kv=>b3z w kv.1)/\a0W K n kvs=some tbl/\(kvs.map (·.1)).Nodup
def b9O(tbl:List (g0×PV))(m:M):M:=fun ρ=>(m ρ).bind fun r=>(b0q r.rd).bind fun k=>(U0 tbl k).map .val
theorem b9p{x:Str}{a:AB}{tbl:List (g0×PV)}{i:AF}{m:M}{p pos:Pos}(T:Tab X.prog X.w X.K a tbl)(hg:Gl X x)(hm:X.mg x=some (.ref a))(hi:EE X i m)(hd:(x==("__debug__":Str))=false:=by decide)(hs:b28 i:=by intro _ _;rfl):
 EE X (.Subscript (.Name x p) i pos) (b9O tbl m):=by
 intro pins s σ H Q I ⟨F,ρ,r,he,hm',k⟩
 obtain⟨es,ep,kvs,n,l1,l2,l3,l4,l5⟩:=T.ex
 obtain⟨ri,e1,hm'⟩:=bind_some hm'
 obtain⟨ky,e2,hm'⟩:=bind_some hm'
 cases e3:U0 tbl ky with
 |none=>rw [e3] at hm';cases hm'
 |some q=>
  rw [e3] at hm';cases hm'
  obtain⟨u,h1,h2⟩:=a8y l4 e3
  obtain⟨vv,r1,r2⟩:=(b4s X.K n).1 u q h2
  refine b2W PySem.F.slot_dict_getitem.lookup hs (a9p I hg hm ?_ hd)
  refine F8 (hi pins s σ H (fun y H2=>∃F2,U4 F H F2 H2/\y=kV ky) I ⟨F,ρ,ri,he,e1,fun v F1 H1 o1=>⟨F1,o1.x,a8u e2 (o1.rep.rd o1.x.fh)⟩⟩) fun iv s2 ⟨y,H2,I2,ry,F2,x2,ey⟩=> ?_
  subst ey
  have dd:s2.heap.DictOf (l7 X.prog X.w) a kvs:=⟨_,es,ep,I2.kIn a _ l1,⟨rfl,rfl,rfl⟩,rfl,fun e he=>(a0a l2 l3).2 e (by simpa using he),(a0a l2 l3).1,l5⟩
  exact⟨dd.typeIs,wpAny_getItem_of (a8t ry) dd.mapOf h1 ⟨vv,H2,I2.tok _,r1,k vv F2 H2 (u6.val x2 (r2 F2))⟩⟩
def keysOf:List PV->Option (List g0)
 |[]=>some []
 |p::ps=>(b0q p).bind fun k=>(keysOf ps).bind fun ks=>some (k::ks)
theorem X5{K:AD}{H:Hp}:∀{ps:List PV} {ks:List g0} {vs:List V},keysOf ps=some ks->j0 K H ps vs->vs=ks.map kV
 |[],_,_,h,r=>by cases h;cases r;rfl
 |p::ps,_,_,h,⟨v,t,e,rp,rl⟩=>by
  obtain⟨k,e1,h⟩:=bind_some h
  obtain⟨ks,e2,h⟩:=bind_some h
  cases h
  subst e
  rw [a8u e1 rp,X5 e2 rl]
  rfl
def a4t:List AA->Option (List g0)
 |[]=>some []
 | .int i _::r=>(a4t r).map fun t=> .inl i::t
 | .str x _::r=>(a4t r).map fun t=> .inr x::t
 |_::_=>none
end
def c00(K:AD):List DictEntry->Option (List (List g0×AB×AA))
 |[]=>some []
 |e::es=>match e.key with
  | .ref b=>(match K.lookup b with
    |some ⟨.type "tuple",_,.seq its _,_⟩=>(a4t its.toList).bind fun ks=>(c00 K es).bind fun r=>some ((ks,b,e.val)::r)
    |_=>none)
  |_=>none
def b4t(K:AD)(n:Nat):List (List g0×AB×AA)->Option (List (List g0×PV))
 |[]=>some []
 |(k,_,u)::r=>(a5x K n u).bind fun p=>(b4t K n r).bind fun t=>some ((k,p)::t)
section
variable {X:Cx}
abbrev MT:=c7->Option Bool
def tMT(K:AD)(c:MT):TT:=fun σ H Q=>∃F ρ b,A3 K F H σ ρ/\c ρ=some b/\∀F' H',U4 F H F' H'->Q b H'
abbrev ET(X:Cx)(e:AF)(c:MT):Prop:=PT X e (tMT X.K c)
abbrev EW(X:Cx)(e:AF)(c:MT):Prop:=PW X e (tMT X.K c)
def b0L:d7->Option Bool
 | .val (.bool b)=>some b
 |_=>none
def tru(r:d7):Option Bool:=match r.rd with
 | .none=>some false
 | .bool b=>some b
 | .int i=>some (i !=0)
 | .str z=>if z.length<=AL then some ((z.length:Int) !=0) else none
 | .list ps=>some (!ps.isEmpty)
 | .tuple ps=>some (!ps.isEmpty)
 | .dict _=>none
def mtV(m:M):MT:=fun ρ=>(m ρ).bind tru
def mtB(m:M):MT:=fun ρ=>(m ρ).bind b0L
theorem j0.empty{K:AD}{H:Hp}{ps:List PV}{vs:List V}(r:j0 K H ps vs):vs.isEmpty=ps.isEmpty:=by
 cases ps with
 |nil=>cases r;rfl
 |cons p ps=>obtain⟨_,_,e,_⟩:=r;subst e;rfl
theorem b8y{H:Hp}{r:d7}{v:V}{b:Bool}(h:x4 X.K H r.rd v)(e:tru r=some b):b84 X.K v H b:=by
 unfold tru at e
 cases hp:r.rd with
 |none=>rw [hp] at h e;cases h;cases e;exact rfl
 |bool k=>rw [hp] at h e;cases h;cases e;exact rfl
 |int i=>rw [hp] at h e;cases h;cases e;exact rfl
 |str z=>
  rw [hp] at h e;cases h
  dsimp only at e
  split at e
  ·rename_i c;cases e;exact⟨c,rfl⟩
  ·cases e
 |list ps=>rw [hp] at h e;obtain⟨a,xs,rfl,hq,rl⟩:=h;cases e;exact .inl ⟨xs,hq,by rw [rl.empty]⟩
 |tuple ps=>rw [hp] at h e;obtain⟨a,xs,rfl,hq,rl⟩:=h;cases e;exact .inr (.inl ⟨xs,hq.sq,by rw [rl.empty]⟩)
 |dict _=>rw [hp] at e;cases e
theorem X0{e:AF}{m:M}(h:EE X e m)(he:∀whole,isTrue e X.env whole=(do let v<-whole;standAt e.pos;holding [v] (truthy v)):=by intro _;rfl):ET X e (mtV m):=
 a9F (b6y h he) fun σ H Q ⟨F,ρ,b,h1,h2,k⟩=>by
  obtain⟨r,e1,e2⟩:=bind_some h2
  exact⟨F,ρ,r,h1,e1,fun v F1 H1 o=>⟨b,b8y (o.rep.rd o.x.fh) e2,k F1 H1 o.x⟩⟩
theorem a3Y{K:AD}{F H:Hp}{r:d7}{v:V}{b:Bool}(h:M1 K F H v r)(e:b0L r=some b):v= .bl b:=by
 unfold b0L at e
 split at e
 ·cases e;exact h
 ·cases e
theorem C9{a b:AF}{ma mb:M}{pos:Pos}{op:CmpOp}{g:d7->d7->Option d7}(ho:OpM X (compareOp op) g)(ha:EE X a ma)(hb:EE X b mb)(hm:behindInMarks op b=false):ET X (.Compare a [op] [b] pos) (mtB (m2 g ma mb)):=
 a9F (b2I ho ha hb hm) fun σ H Q ⟨F,ρ,k,h1,h2,q⟩=>by
  obtain⟨r,e1,e2⟩:=bind_some h2
  exact a9L ⟨F,ρ,r,h1,e1,fun v F1 H1 o=>⟨k,a3Y o.rep e2,q F1 H1 o.x⟩⟩
def R9(c:MT):MT:=fun ρ=>(c ρ).map not
theorem W9{a:AF}{c:MT}{pos:Pos}(ha:ET X a c):ET X (.UnaryOp .Not a pos) (R9 c):=
 a9F (c0g ha) fun σ H Q ⟨F,ρ,k,h1,h2,q⟩=>by
  unfold R9 at h2
  cases e:c ρ with
  |none=>rw [e] at h2;cases h2
  |some b=>rw [e] at h2;cases h2;exact⟨F,ρ,b,h1,e,q⟩
def a5z(c d:MT):MT:=fun ρ=>(c ρ).bind fun b=>if b=true then some true else d ρ
theorem a4k{a:AF}{c:MT}{pos:Pos}(ha:ET X a c):EW X (.BoolOp .Or [a] pos) c:=c0j ha
theorem a48{a b:AF}{B7:List AF}{c d:MT}{pos:Pos}(ha:ET X a c)(hb:EW X (.BoolOp .Or (b::B7) pos) d):EW X (.BoolOp .Or (a::b::B7) pos) (a5z c d):=
 c0i (c1l ha hb) fun σ H Q ⟨F,ρ,k,h1,h2,q⟩=>by
  obtain⟨b,e1,e2⟩:=bind_some h2
  refine⟨F,ρ,b,h1,e1,fun F1 H1 x=> ?_⟩
  cases b with
  |false=>exact b3x ⟨F1,ρ,k,h1.ext x,e2,fun F2 H2 y=>q F2 H2 (x.trans y)⟩
  |true=>cases e2;exact b5t (q F1 H1 x)
def b7N(m n:M):M:=fun ρ=>(m ρ).bind fun r=>(b0L r).bind fun b=>if b=true then n ρ else some (.val (.bool false))
def c1c(m:M):M:=fun ρ=>(m ρ).bind fun r=>(b0L r).bind fun b=>some (.val (.bool (!b)))
theorem b43{op:BoolOp}{a:AF}{m:M}{pos:Pos}(h:EE X a m):EE X (.BoolOp op [a] pos) m:=b98 h
theorem b4V{a b:AF}{B7:List AF}{m n:M}{pos:Pos}(ha:EE X a m)(hb:EE X (.BoolOp .And (b::B7) pos) n):EE X (.BoolOp .And (a::b::B7) pos) (b7N m n):=
 u0 (b92 ha hb) fun σ H Q ⟨F,ρ,r,h1,h2,q⟩=>by
  obtain⟨r1,e1,h2⟩:=bind_some h2
  obtain⟨b,e2,h2⟩:=bind_some h2
  refine⟨F,ρ,r1,h1,e1,fun v F1 H1 o=>⟨b,a3Y o.rep e2, ?_⟩⟩
  cases b with
  |true=>exact b5t ⟨F1,ρ,r,h1.ext o.x,h2,fun w F2 H2 y=>q w F2 H2 (u6.trans o.x y)⟩
  |false=>cases h2;exact b3x (q _ F1 H1 (u6.val o.x rfl))
theorem b9o{a:AF}{m:M}{pos:Pos}(ha:EE X a m):EE X (.UnaryOp .Not a pos) (c1c m):=
 u0 (b97 ha) fun σ H Q ⟨F,ρ,r,h1,h2,q⟩=>by
  obtain⟨r1,e1,h2⟩:=bind_some h2
  obtain⟨b,e2,h2⟩:=bind_some h2
  cases h2
  exact⟨F,ρ,r1,h1,e1,fun v F1 H1 o=>⟨b,a3Y o.rep e2,q _ F1 H1 (u6.val o.x rfl)⟩⟩
end
inductive Fl where
 |nx (ρ:c7)|rt (r:d7)|bk (ρ:c7)|ct (ρ:c7)
abbrev MS:=c7->Option Fl
structure Y9(K:AD)(F0 H0 F H:Hp)(σ:L2.St)(ρ:c7):Prop where
 x:U4 F0 H0 F H
 e:A3 K F H σ ρ
 nw:∀(i:Nat) (c:W1) (a:AB),ρ[i]?=some (some (.ow c))->σ[i]?=some (some (.ref a))->H0 a=none
def Fin(K:AD)(F0 H0 F:Hp)(D:W2):Fl->Prop
 | .nx ρ=>∀σ' F' H',j8 F F'->Y9 K F0 H0 F' H' σ' ρ->D.nx σ' H'
 | .rt r=>∀v F' H',u6 K F0 H0 F' H' v r->D.rt v H'
 | .bk ρ=>∀σ' F' H',j8 F F'->Y9 K F0 H0 F' H' σ' ρ->D.bk σ' H'
 | .ct ρ=>∀σ' F' H',j8 F F'->Y9 K F0 H0 F' H' σ' ρ->D.ct σ' H'
theorem Fin.later{K:AD}{F0 H0 F F1:Hp}{D:W2}(s:j8 F F1):∀{fl:Fl},Fin K F0 H0 F D fl->Fin K F0 H0 F1 D fl
 | .nx _,h=>fun σ' F' H' s' so=>h σ' F' H' (s.trans s') so
 | .rt _,h=>h
 | .bk _,h=>fun σ' F' H' s' so=>h σ' F' H' (s.trans s') so
 | .ct _,h=>fun σ' F' H' s' so=>h σ' F' H' (s.trans s') so
def tMS(K:AD)(m:MS):TS:=fun D σ H=>∃F0 H0 F ρ fl,Y9 K F0 H0 F H σ ρ/\m ρ=some fl/\Fin K F0 H0 F D fl
abbrev ES(X:Cx)(st:Stmt)(m:MS):Prop:=PS X st (tMS X.K m)
abbrev ESs(X:Cx)(st:List Stmt)(m:MS):Prop:=PSs X st (tMS X.K m)
theorem Y9.ext{K:AD}{F0 H0 F H F' H':Hp}{σ:L2.St}{ρ:c7}(s:Y9 K F0 H0 F H σ ρ)(x:U4 F H F' H'):Y9 K F0 H0 F' H' σ ρ:=⟨s.x.trans x,s.e.ext x,s.nw⟩
def d7.nb:d7->Bool
 | .bo _=>false
 |_=>true
theorem Y9.set{K:AD}{F0 H0 F H F' H':Hp}{σ:L2.St}{ρ:c7}{v:V}{r:d7}(s:Y9 K F0 H0 F H σ ρ)(o:u6 K F H F' H' v r)(hb:r.nb=true)(i:Nat):Y9 K F0 H0 F' H' (σ.set i (some v)) (ρ.set i (some r)):=by
 have s1:=s.ext o.x
 have le:=s.e.len
 refine⟨s1.x,⟨s1.e.fh,by simp [le],fun j q e=> ?_,fun j ps e=> ?_,fun j k ps qs a hjk e1 e2 e3 e4=> ?_⟩,fun j ps a e1 e2=> ?_⟩
 ·rw [List.getElem?_set] at e ⊢
  by_cases hij:i=j
  ·subst hij
   rw [if_pos rfl] at e ⊢
   rw [le]
   split at e
   ·rename_i c;cases e;rw [if_pos c];exact⟨v,rfl,o.rep⟩
   ·cases e
  ·rw [if_neg hij] at e ⊢
   exact s1.e.at_ j q e
 ·rw [List.getElem?_set] at e
  by_cases hij:i=j
  ·subst hij
   rw [if_pos rfl] at e
   split at e
   ·cases e;cases hb
   ·cases e
  ·rw [if_neg hij] at e
   exact s1.e.nb j ps e
 ·rw [List.getElem?_set] at e1 e2 e3 e4
  by_cases hij:i=j
  ·subst hij
   rw [if_pos rfl] at e1 e3
   rw [if_neg hjk] at e2 e4
   split at e1
   ·cases e1
    split at e3
    ·cases e3
     have fr:=o.fr ps a rfl rfl
     obtain⟨w,h1,rr⟩:=s.e.at_ k _ e2
     obtain⟨a',xs,h2,_,h3⟩:=U5.at_ rr
     rw [e4] at h1;cases h1
     cases h2
     rw [fr] at h3;cases h3
    ·cases e3
   ·cases e1
  ·rw [if_neg hij] at e1 e3
   by_cases hik:i=k
   ·subst hik
    rw [if_pos rfl] at e2 e4
    split at e2
    ·cases e2
     split at e4
     ·cases e4
      have fr:=o.fr qs a rfl rfl
      obtain⟨w,h1,rr⟩:=s.e.at_ j _ e1
      obtain⟨a',xs,h2,_,h3⟩:=U5.at_ rr
      rw [e3] at h1;cases h1
      cases h2
      rw [fr] at h3;cases h3
     ·cases e4
    ·cases e2
   ·rw [if_neg hik] at e2 e4
    exact s1.e.ap j k ps qs a hjk e1 e2 e3 e4
 ·rw [List.getElem?_set] at e1 e2
  by_cases hij:i=j
  ·subst hij
   rw [if_pos rfl] at e1 e2
   split at e1
   ·cases e1
    split at e2
    ·cases e2;exact s.x.h.free (o.fr ps a rfl rfl)
    ·cases e2
   ·cases e1
  ·rw [if_neg hij] at e1 e2
   exact s.nw j ps a e1 e2
section
variable {X:Cx}
def D4:MS:=fun ρ=>some (.nx ρ)
def m4(m n:MS):MS:=fun ρ=>(m ρ).bind fun fl=>match fl with
 | .nx ρ'=>n ρ'
 |f=>some f
theorem B4:ESs X [] D4:=a5U b2H fun D σ H ⟨F0,H0,F,ρ,fl,so,e,fin⟩=>by
 cases e
 exact fin σ F H (PU.j8.refl F) so
theorem d4{st:Stmt}{B7:List Stmt}{m n:MS}(h1:ES X st m)(h2:ESs X B7 n):ESs X (st::B7) (m4 m n):=
 a5U (a0N h1 h2) fun D σ H ⟨F0,H0,F,ρ,fl,so,e,fin⟩=>by
  obtain⟨f1,e1,e⟩:=bind_some e
  cases f1 with
  |nx ρ'=>exact⟨F0,H0,F,ρ,.nx ρ',so,e1,fun σ' F' H' s so'=>⟨F0,H0,F',ρ',fl,so',e,fin.later s⟩⟩
  |rt r=>cases e;exact⟨F0,H0,F,ρ,_,so,e1,fin⟩
  |bk r=>cases e;exact⟨F0,H0,F,ρ,_,so,e1,fin⟩
  |ct r=>cases e;exact⟨F0,H0,F,ρ,_,so,e1,fin⟩
theorem f6{st:Stmt}{m:MS}(h1:ES X st m):ESs X [st] m:=b8c h1
def t8(i:Nat)(m:M):MS:=fun ρ=>(m ρ).bind fun r=>if r.nb=true then some (.nx (ρ.set i (some r))) else none
theorem j4{i:Nat}{x:Str}{e:AF}{m:M}{pos pos':Pos}(hN:X.N.Nodup)(he:EE X e m)(hi:X.N[i]?=some x:=by rfl)(hx:Loc X.env.scope x:=by exact Or.inl rfl)(hs:swapsWith e (some (.Name x pos')) pos.line X.env=pure false:=by rfl)(hf:X.fn x=true\/X.env.scope.names.lookup x=some .local:=by first|exact .inl rfl|exact .inr rfl|assumption):
 ES X (.Assign [.Name x pos'] e pos) (t8 i m):=
 K7 (b6v hN hi hx he hs hf) fun D σ H ⟨F0,H0,F,ρ,fl,so,e,fin⟩=>by
  obtain⟨r,e1,e⟩:=bind_some e
  split at e
  ·rename_i c
   cases e
   exact⟨F,ρ,r,so.e,e1,fun v F' H' o=>fin _ F' H' o.x.f (so.set o c i)⟩
  ·cases e
def E3(m:M):MS:=fun ρ=>(m ρ).bind fun r=>if r.nb=true then some (.rt r) else none
theorem n8{e:AF}{m:M}{pos:Pos}(he:EE X e m):ES X (.Return (some e) pos) (E3 m):=
 K7 (b6u he) fun D σ H ⟨F0,H0,F,ρ,fl,so,e,fin⟩=>by
  obtain⟨r,e1,e⟩:=bind_some e
  split at e
  ·rename_i c
   cases e
   exact⟨F,ρ,r,so.e,e1,fun v F' H' o=>fin v F' H' (u6.trans so.x o)⟩
  ·cases e
def a0I(i:Nat):MS:=fun ρ=>match ρ[i]? with
 |some (some r)=>some (.rt r)
 |_=>none
theorem a0c(i:Nat){x:Str}{p pos:Pos}(h:PE X (.Name x p) (C7 i)):ES X (.Return (some (.Name x p)) pos) (a0I i):=
 K7 (b6u h) fun D σ H ⟨F0,H0,F,ρ,fl,so,e,fin⟩=>by
  unfold a0I at e
  split at e
  ·rename_i r er
   cases e
   obtain⟨v,e1,rr⟩:=so.e.at_ i _ er
   exact⟨v,e1,fin v F H ⟨so.x,rr,fun ps a z1 z2=>by subst z1;subst z2;exact so.nw i ps a er e1⟩⟩
  ·cases e
def T0(c:MT)(m n:MS):MS:=fun ρ=>(c ρ).bind fun b=>if b=true then m ρ else n ρ
theorem K9{c:AF}{a b:List Stmt}{mc:MT}{m n:MS}{pos:Pos}(hc:ET X c mc)(ha:ESs X a m)(hb:ESs X b n):ES X (.If c a b pos) (T0 mc m n):=
 K7 (b8S hc ha hb) fun D σ H ⟨F0,H0,F,ρ,fl,so,e,fin⟩=>by
  obtain⟨b,e1,e⟩:=bind_some e
  refine⟨F,ρ,b,so.e,e1,fun F1 H1 x=> ?_⟩
  cases b with
  |true=>exact b5t ⟨F0,H0,F1,ρ,fl,so.ext x,e,fin.later x.f⟩
  |false=>exact b3x ⟨F0,H0,F1,ρ,fl,so.ext x,e,fin.later x.f⟩
def setAll{α:Type}:List (Option α)->List Nat->List α->List (Option α)
 |σ,i::is,x::xs=>setAll (σ.set i (some x)) is xs
 |σ,_,_=>σ
def a9c:List Nat->TGs
 |[]=>c06
 |i::is=>b8N (a2O i) (a9c is)
theorem a4p:∀{is:List Nat} {xs:List V} {σ:L2.St} {H:Hp} {Q:L2.St->Hp->Prop},xs.length=is.length->Q (setAll σ is xs) H->a9c is xs σ H Q
 |[],[],_,_,_,_,q=>⟨rfl,q⟩
 |[],_::_,_,_,_,h,_=>by cases h
 |_::_,[],_,_,_,h,_=>by cases h
 |i::is,x::xs,σ,H,Q,h,q=>⟨x,xs,rfl,a4p (is:=is) (xs:=xs) (by simpa using h) q⟩
theorem Y9.setAll{K:AD}{F0 H0 F H:Hp}:∀{is:List Nat} {xs:List V} {ps:List PV} {σ:L2.St} {ρ:c7},Y9 K F0 H0 F H σ ρ->j0 K F ps xs->Y9 K F0 H0 F H (PU.setAll σ is xs) (PU.setAll ρ is (ps.map .val))
 |[],xs,ps,σ,ρ,s,r=>by
  have e1:PU.setAll σ [] xs=σ:=by cases xs<;>rfl
  have e2:PU.setAll ρ [] (ps.map d7.val)=ρ:=by cases ps<;>rfl
  rw [e1,e2];exact s
 |i::is,xs,[],σ,ρ,s,r=>by cases r;exact s
 |i::is,xs,p::ps,σ,ρ,s,⟨v,t,e,rp,rl⟩=>by
  subst e
  exact Y9.setAll (is:=is) (s.set (u6.here s.e.fh rp) rfl i) rl
def b7Q(is:List Nat)(m:M):MS:=fun ρ=>(m ρ).bind fun r=>match r with
 | .val (.tuple ps)=>if ps.length=is.length then some (.nx (setAll ρ is (ps.map .val))) else none
 |_=>none
theorem b5a{is:List Nat}{es:List AF}{k:Nat}{e:AF}{m:M}{pos tpos:Pos}(hc:X.calm=true)(he:EE X e m)(hg:PGs X es (a9c is))
 (hn:(assignEach es X.env).length=is.length:=by rfl) (hst:(assignEach es X.env).findIdx? (·.1)=none:=by rfl)
 (hs:swapsWithSole [.Tuple es k tpos] e pos.line X.env=pure false:=by rfl) (hw:swappedStores [.Tuple es k tpos] e X.env=pure none:=by rfl)
 (h1:(assignEach [.Tuple es k tpos] X.env).map (·.2)=[assign (.Tuple es k tpos) X.env]:=by rfl):ES X (.Assign [.Tuple es k tpos] e pos) (b7Q is m):=
 K7 (c0c he (a63 hc hg hn hst) hs hw h1) fun D σ H ⟨F0,H0,F,ρ,fl,so,e,fin⟩=>by
  obtain⟨r,e1,e⟩:=bind_some e
  split at e
  ·rename_i ps
   split at e
   ·rename_i c
    cases e
    refine⟨F,ρ,_,so.e,e1,fun v F' H' o=> ?_⟩
    obtain⟨a,xs,rfl,hq,rl⟩:=o.rep
    have hl:xs.length=is.length:=by rw [rl.length];exact c
    exact⟨a,xs,rfl,p8 o.x.fh hq.sq,hl,a4p hl (fin _ F' H' o.x.f ((so.ext o.x).setAll rl))⟩
   ·cases e
  ·cases e
def B5(body:MS)(tg:PV->c7->Option c7):List PV->c7->Option Fl
 |[],ρ=>some (.nx ρ)
 |p::ps,ρ=>(tg p ρ).bind fun ρ1=>(body ρ1).bind fun fl=>match fl with
  | .nx ρ'=>B5 body tg ps ρ'
  | .ct ρ'=>B5 body tg ps ρ'
  | .bk ρ'=>some (.nx ρ')
  | .rt r=>some (.rt r)
def g8(i:Nat):PV->c7->Option c7:=fun p ρ=>some (ρ.set i (some (.val p)))
def a2k(is:List Nat):PV->c7->Option c7:=fun p ρ=>match p with
 | .tuple ps=>if ps.length=is.length then some (setAll ρ is (ps.map .val)) else none
 |_=>none
def a9V(K:AD)(g:TG)(tg:PV->c7->Option c7):Prop:=
 ∀F0 H0 F H σ ρ ρ1 p x (Q:L2.St->Hp->Prop),Y9 K F0 H0 F H σ ρ->x4 K F p x->tg p ρ=some ρ1->(∀σ',Y9 K F0 H0 F H σ' ρ1->Q σ' H)->g x σ H Q
theorem r6{K:AD}(i:Nat):a9V K (a2O i) (g8 i):=fun F0 H0 F H σ ρ ρ1 p x Q so r e k=>by
 cases e
 exact k _ (so.set (u6.here so.e.fh r) rfl i)
theorem a35{K:AD}(is:List Nat):a9V K (c07 K is.length (a9c is)) (a2k is):=fun F0 H0 F H σ ρ ρ1 p x Q so r e k=>by
 unfold a2k at e
 split at e
 ·split at e
  ·rename_i c
   cases e
   obtain⟨a,xs,rfl,hq,rl⟩:=r
   have hl:xs.length=is.length:=by rw [rl.length];exact c
   exact⟨a,xs,rfl,p8 so.e.fh hq.sq,hl,a4p hl (k _ (so.setAll rl))⟩
  ·cases e
 ·cases e
theorem a8m{body:MS}{tg:PV->c7->Option c7}{ps:List PV}{p:PV}{ρ:c7}{fl:Fl}(h:B5 body tg (p::ps) ρ=some fl):∃ρ1 f1,tg p ρ=some ρ1/\body ρ1=some f1/\(match f1 with
 | .nx ρ'=>B5 body tg ps ρ'
 | .ct ρ'=>B5 body tg ps ρ'
 | .bk ρ'=>some (.nx ρ')
 | .rt r=>some (.rt r))=some fl:=by
 unfold B5 at h
 obtain⟨ρ1,e1,h⟩:=bind_some h
 obtain⟨f1,e2,h⟩:=bind_some h
 exact⟨ρ1,f1,e1,e2,h⟩
def PvL(K:AD)(F0 H0 F1:Hp)(body:MS)(tg:PV->c7->Option c7)(ps:List PV)(fl:Fl)(k:Nat)(σ:L2.St)(H:Hp):Prop:=
 ∃F ρ,j8 F1 F/\Y9 K F0 H0 F H σ ρ/\B5 body tg (ps.drop k) ρ=some fl
theorem a4y{K:AD}{F0 H0 F1:Hp}{body:MS}{tg:PV->c7->Option c7}{g:TG}{ps:List PV}{fl:Fl}{D:W2}{k:Nat}{p:PV}{x:V}{σ:L2.St}{H:Hp}(T:a9V K g tg)(fin:Fin K F0 H0 F1 D fl)(ep:ps[k]?=some p)
 (hp:PvL K F0 H0 F1 body tg ps fl k σ H) (rx:∀F,j8 F1 F->x4 K F p x):
 g x σ H fun σ2 H2=>tMS K body {D with nx:=PvL K F0 H0 F1 body tg ps fl (k+1),ct:=PvL K F0 H0 F1 body tg ps fl (k+1),bk:=D.nx} σ2 H2:=by
 obtain⟨F,ρ,s,so,e⟩:=hp
 have hk:k<ps.length:=(Am.mp ep).1
 have hd:ps.drop k=p::ps.drop (k+1):=by
  rw [List.drop_eq_getElem_cons hk]
  congr 1
  exact(Am.mp ep).2
 rw [hd] at e
 obtain⟨ρ1,f1,e1,e2,e3⟩:=a8m e
 refine T F0 H0 F H σ ρ ρ1 p x _ so (rx F s) e1 fun σ' so'=>⟨F0,H0,F,ρ1,f1,so',e2, ?_⟩
 cases f1 with
 |nx ρ'=>exact fun σ2 F2 H2 s2 so2=>⟨F2,ρ',s.trans s2,so2,e3⟩
 |ct ρ'=>exact fun σ2 F2 H2 s2 so2=>⟨F2,ρ',s.trans s2,so2,e3⟩
 |bk ρ'=>cases e3;exact fun σ2 F2 H2 s2 so2=>fin σ2 F2 H2 (s.trans s2) so2
 |rt r=>cases e3;exact fin
theorem a3M{K:AD}{F0 H0 F1:Hp}{body:MS}{tg:PV->c7->Option c7}{ps:List PV}{fl:Fl}{D:W2}{σ:L2.St}{H:Hp}(fin:Fin K F0 H0 F1 D fl)
 (hp:PvL K F0 H0 F1 body tg ps fl ps.length σ H):D.nx σ H:=by
 obtain⟨F,ρ,s,so,e⟩:=hp
 rw [List.drop_length] at e
 cases e
 exact fin σ F H s so
abbrev MI:=c7->Option (List PV)
def O5(m:M):MI:=fun ρ=>((m ρ).bind d7.toVal).bind PyData.items?
def c1S(K:AD)(tl:TE):TI:=fun σ H R=>tl σ H fun x H1=>∃a,x= .ref a/\(((∃xs,S2 K H1 a xs)/\R (Itl K a) H1)\/((∃xs,Z1 K H1 a xs)/\R (Itt K a) H1))
theorem b6q{tg l:AF}{tl:TE}(hl:PE X l tl):PI X tg l (c1S X.K tl):=by
 intro pins s σ H R I h
 refine F8 (hl pins s σ H _ I h) fun v s1 ⟨x,H1,I1,r1,q1⟩=> ?_
 obtain⟨a,e,q⟩:=q1
 subst e
 cases r1
 rcases q with⟨⟨xs,hq⟩,q⟩|⟨⟨xs,hq⟩,q⟩
 ·obtain⟨its,rv,p,hz⟩:=I1.list hq
  refine wpAny_pyIter_list p.isList ?_
  refine⟨s1.heap.objs.size,[s1.heap.objs.size],_,_,H1,rfl,I1.kept (t':=s1.toks) fun b o e=>AY _ e,b4d a _,⟨_,An _ rfl,rfl,rfl⟩,fun b hb=> ?_,q⟩
  have e:b=s1.heap.objs.size:=by simpa using hb
  subst e
  exact I1.fpOk (AM _) (I1.hok.fresh (AM _))
 ·obtain⟨its,rv,p,hz⟩:=I1.tuple hq
  refine wpAny_pyIter_tuple (show s1.heap.IsTuple a its.toArray from p) ?_
  refine⟨s1.heap.objs.size,[s1.heap.objs.size],_,_,H1,rfl,I1.kept (t':=s1.toks) fun b o e=>AY _ e,b1Y a _,⟨_,An _ rfl,rfl,rfl⟩,fun b hb=> ?_,q⟩
  have e:b=s1.heap.objs.size:=by simpa using hb
  subst e
  exact I1.fpOk (AM _) (I1.hok.fresh (AM _))
def P3(it:MI)(tg:PV->c7->Option c7)(body:MS):MS:=fun ρ=>(it ρ).bind fun ps=>B5 body tg ps ρ
theorem S6{tg iter:AF}{body:List Stmt}{m:M}{g:TG}{t:PV->c7->Option c7}{b:MS}{pos:Pos}(hp:PassesOwn (model X.prog X.w) X.A X.env X.xe)(hc:X.calm=true)(hi:EE X iter m)(hg:PG X tg g)(T:a9V X.K g t)(hb:ESs X body b)
 (hs:∀x,foldedSetIterable iter X.env x=pure x:=by intro _;rfl):ES X (.For tg iter body [] pos) (P3 (O5 m) t b):=
 K7 (b1R hp hc (b6q hi) hg hb hs) fun D σ H ⟨F0,H0,F,ρ,fl,so,e,fin⟩=>by
  obtain⟨ps,e1,e⟩:=bind_some e
  obtain⟨q,e1,e2⟩:=bind_some e1
  obtain⟨r,e1,e3⟩:=bind_some e1
  refine⟨F,ρ,r,so.e,e1,fun v F' H' o=> ?_⟩
  obtain⟨F1,o1⟩:=o.toVal e3
  have fin1:=fin.later o1.x.f
  have so1:=so.ext o1.x
  obtain⟨a,xs,rfl,hq,rl⟩:=D8 (F:=F1) (H:=F1) (PU.j8.refl F1) (show M1 X.K F1 F1 v (.val q) from o1.rep) e2
  have hlen:=rl.length
  have get:∀k x,xs[k]?=some x->∃p,ps[k]?=some p/\∀F,j8 F1 F->x4 X.K F p x:=fun k x ex=>by
   obtain⟨p,ep,rp⟩:=rl.getV ex
   exact⟨p,ep,fun F s=>x4.mono s _ rp⟩
  rcases hq with hq|hq
  ·refine⟨a,rfl,.inl ⟨⟨xs,C4 o1.x.fh hq⟩,b5c (K:=X.K) (a:=a) (xs:=xs) (PvL X.K F0 H0 F1 b t ps fl) ⟨F1,ρ,PU.j8.refl F1,so1,e⟩ (fun k σ H _ ⟨F,_,s,so2,_⟩=>C4 (s.trans so2.e.fh) hq) (fun k x σ H ex hp=> ?_) (fun σ H hp=> ?_)⟩⟩
   ·obtain⟨p,ep,rp⟩:=get k x ex
    exact a4y T fin1 ep hp rp
   ·rw [hlen] at hp
    exact a3M fin1 hp
  ·refine⟨a,rfl,.inr ⟨⟨xs,p8 o1.x.fh hq⟩,b7x (K:=X.K) (a:=a) (xs:=xs) (PvL X.K F0 H0 F1 b t ps fl) ⟨F1,ρ,PU.j8.refl F1,so1,e⟩ (fun k σ H _ ⟨F,_,s,so2,_⟩=>p8 (s.trans so2.e.fh) hq) (fun k x σ H ex hp=> ?_) (fun σ H hp=> ?_)⟩⟩
   ·obtain⟨p,ep,rp⟩:=get k x ex
    exact a4y T fin1 ep hp rp
   ·rw [hlen] at hp
    exact a3M fin1 hp
def P9(lo hi:Int):List PV:=(AQ (hi - lo).toNat).map fun k=> .int (lo+(k:Nat))
theorem b5p:∃f:Int->Bool,∀j,f j=decide (-(2 ^ 62)<=j/\j<2 ^ 62):=⟨_,fun _=>rfl⟩
def inR:Int->Bool:=b5p.choose
theorem b9A(j:Int):inR j=decide (-(2 ^ 62)<=j/\j<2 ^ 62):=b5p.choose_spec j
theorem a9h{j:Int}:inR j=true↔(-(2 ^ 62)<=j/\j<2 ^ 62):=by rw [b9A,decide_eq_true_iff]
def B0(m:MA):MI:=fun ρ=>(m ρ).bind fun ps=>match ps with
 |[.int j]=>if inR j=true then some (P9 0 j) else none
 |_=>none
theorem a7a{lo hi:Int}{k:Nat}(h:k<(hi - lo).toNat):(P9 lo hi)[k]?=some (.int (lo+k)):=by
 simp [P9,h]
theorem Y0(lo hi:Int):(P9 lo hi).length=(hi - lo).toNat:=by simp [P9]
theorem R1{tg a:AF}{body:List Stmt}{m:MA}{g:TG}{t:PV->c7->Option c7}{b:MS}{p rp pos:Pos}(hp:PassesOwn (model X.prog X.w) X.A X.env X.xe)(hc:X.calm=true)(hgl:Gl X "range")(hm:X.mg "range"=none)(ha:EA X [a] m)(hg:PG X tg g)(T:a9V X.K g t)(hb:ESs X body b)
 (hst:AT [a] X.env=[(false,eval a X.env)]:=by rfl) (hs:∀x,foldedSetIterable (.Call (.Name "range" p) [a] [] rp) X.env x=pure x:=by intro _;rfl):ES X (.For tg (.Call (.Name "range" p) [a] [] rp) body [] pos) (P3 (B0 m) t b):=
 K7 (b1R hp hc (a8J hgl hm ha hst) hg hb hs) fun D σ H ⟨F0,H0,F,ρ,fl,so,e,fin⟩=>by
  obtain⟨ps,e1,e⟩:=bind_some e
  obtain⟨qs,e1,e2⟩:=bind_some e1
  refine⟨F,ρ,qs,so.e,e1,fun vs F1 H1 x rl=> ?_⟩
  split at e2
  ·rename_i j
   split at e2
   ·rename_i c
    have c:=a9h.mp c
    cases e2
    obtain⟨v,r,rfl,rv,rr⟩:=rl
    cases rv
    cases rr
    have fin1:=fin.later x.f
    have hz:(j - 0).toNat=j.toNat:=by lia
    refine⟨j,rfl,c.1,c.2,b3r (lo:=0) (n:=j.toNat) (PvL X.K F0 H0 F1 b t (P9 0 j) fl) ⟨F1,ρ,PU.j8.refl F1,so.ext x,e⟩ (fun k σ H hk hp=> ?_) (fun σ H hp=> ?_)⟩
    ·exact a4y T fin1 (a7a (by lia)) hp fun _ _=>rfl
    ·have:j.toNat=(P9 0 j).length:=by rw [Y0,hz]
     rw [this] at hp
     exact a3M fin1 hp
   ·cases e2
  ·cases e2
def P0(c:MT)(body:MS):Nat->c7->Option Fl
 |0,_=>none
 |n+1,ρ=>(c ρ).bind fun b=>if b=true then(body ρ).bind fun fl=>match fl with
  | .nx ρ'=>P0 c body n ρ'
  | .ct ρ'=>P0 c body n ρ'
  | .bk ρ'=>some (.nx ρ')
  | .rt r=>some (.rt r) else some (.nx ρ)
theorem b0j(n:Nat){c:AF}{body:List Stmt}{mc:MT}{b:MS}{pos:Pos}(hp:PassesOwn (model X.prog X.w) X.A X.env X.xe)(hc:ET X c mc)(hb:ESs X body b):ES X (.While c body [] pos) (P0 mc b n):=
 K7 (b6w hp hc hb) fun D σ H ⟨F0,H0,F,ρ,fl,so,e,fin⟩=>by
  refine⟨fun k σ H=>∃F1 ρ,j8 F F1/\Y9 X.K F0 H0 F1 H σ ρ/\P0 mc b k ρ=some fl,⟨n,F,ρ,PU.j8.refl F,so,e⟩, ?_⟩
  rintro k σ H ⟨F1,ρ,s,so,e⟩
  cases k with
  |zero=>cases e
  |succ k=>
   unfold P0 at e
   obtain⟨d,e1,e⟩:=bind_some e
   refine⟨F1,ρ,d,so.e,e1,fun F2 H2 x=> ?_⟩
   have s2:=s.trans x.f
   cases d with
   |true=>
    rw [if_pos rfl] at e
    obtain⟨f1,e2,e⟩:=bind_some e
    refine b5t ⟨fun σ' H'=>∃F1 ρ,j8 F F1/\Y9 X.K F0 H0 F1 H' σ' ρ/\P0 mc b k ρ=some fl,fun σ' H' h=>⟨k,Nat.lt_succ_self k,h⟩,⟨F0,H0,F2,ρ,f1,so.ext x,e2, ?_⟩⟩
    cases f1 with
    |nx ρ'=>exact fun σ3 F3 H3 s3 so3=>⟨F3,ρ',s2.trans s3,so3,e⟩
    |ct ρ'=>exact fun σ3 F3 H3 s3 so3=>⟨F3,ρ',s2.trans s3,so3,e⟩
    |bk ρ'=>cases e;exact fun σ3 F3 H3 s3 so3=>fin σ3 F3 H3 (s2.trans s3) so3
    |rt r=>cases e;exact fin
   |false=>
    rw [if_neg At] at e
    cases e
    exact b3x (fin σ F2 H2 s2 (so.ext x))
def D6(n:Nat)(body:MS)(ps:List PV):Option d7:=(body (ps.map (fun p=>some (d7.val p))++AW n none)).bind fun fl=>match fl with
 | .rt r=>some r
 | .nx _=>some (.val .none)
 |_=>none
end
theorem b6P{K:AD}{F H:Hp}{ps:List PV}{vs:List V}(n:Nat)(s:j8 F H)(r:j0 K F ps vs):Y9 K F H F H (vs.map some++AW n none) (ps.map (fun p=>some (d7.val p))++AW n none):=by
 have hl:=r.length
 have key:∀(i:Nat) (q:d7),(ps.map (fun p=>some (d7.val p))++AW n none)[i]?=some (some q)->∃p v,q= .val p/\(vs.map some++AW n none)[i]?=some (some v)/\x4 K F p v:=by
  intro i q e
  by_cases h:i<ps.length
  ·rw [BA (by simpa using h),Ak] at e
   rw [BA (by rw [AO,hl];exact h),Ak]
   cases q':ps[i]? with
   |none=>rw [q'] at e;cases e
   |some p=>
    rw [q'] at e
    cases e
    obtain⟨v,h1,h2⟩:=r.get q'
    exact⟨p,v,rfl,by rw [h1];rfl,h2⟩
  ·rw [List.getElem?_append_right (by simpa using h),List.getElem?_replicate] at e
   split at e<;>cases e
 refine⟨U4.refl s,⟨s,by simp [hl],fun i q e=> ?_,fun i qs e=> ?_,fun i j qs _ a _ e=> ?_⟩,fun i qs a e=> ?_⟩
 ·obtain⟨p,v,rfl,h1,h2⟩:=key i q e;exact⟨v,h1,h2⟩
 ·obtain⟨p,v,z,_⟩:=key i _ e;cases z
 ·obtain⟨p,v,z,_⟩:=key i _ e;cases z
 ·obtain⟨p,v,z,_⟩:=key i _ e;cases z
theorem b8M{P:AN}{w:AI}{K:AD}{mg:Str->Option AA}{base:Heap}{x qual:Str}{st:Stmt}{f:AB}{fd:FuncData}{N ps:List Str}{k:Nat}{m:MS}(F:Fun K x qual st f fd)(S:l0 N ps (f9 st))
 (hb:∀(cdv:AA) (A:AR) (outer:List Env) (s:AC) (H:Hp) (E:XK),P4 k (A.deeper (envOfC qual (f9 st) s.heap.objs.size f cdv))->ESs (b0a CX0 P w K mg base N qual (f9 st) f cdv A outer s H E).nox (N7 st) m):
 a0l P w K mg base CX0 (k+1) f fd ps (spP K ps.length (D6 (N.length - ps.length) m)):=by
 refine F.ok S (fun vs H Q E h=> ?_) (fun cdv A outer s H vs Q E hr h=> ?_)
 ·obtain⟨_,qs,_,_,r,h2,_⟩:=h
  rw [r.length,h2]
 ·obtain⟨F1,qs,r,s1,rl,hl,e,k⟩:=h
  refine⟨_,hb cdv A outer s H E hr, ?_⟩
  unfold D6 at e
  obtain⟨fl,e1,e2⟩:=bind_some e
  have hv:vs.length=ps.length:=by rw [rl.length,hl]
  refine⟨F1,H,F1,_,fl, ?_,e1, ?_⟩
  ·have:=b6P (N.length - ps.length) s1 rl
   unfold L2.a33
   rw [hv]
   exact this
  ·cases fl with
   |rt q=>cases e2;exact fun v F' H' o=>k v F' H' o
   |nx ρ=>cases e2;exact fun σ' F' H' _ so=>k .non F' H' (u6.val so.x rfl)
   |bk ρ=>cases e2
   |ct ρ=>cases e2
section
variable {X:Cx}
def rC1(K:AD)(g:d7->Option d7):List V->Hp->VK->Prop:=fun xs H Q=>∃F x rx rz,xs=[x]/\j8 F H/\M1 K F H x rx/\g rx=some rz/\∀v F' H',u6 K F H F' H' v rz->Q v H'
def rC2(K:AD)(g:d7->d7->Option d7):List V->Hp->VK->Prop:=fun xs H Q=>∃F x y rx ry rz,xs=[x,y]/\j8 F H/\M1 K F H x rx/\M1 K F H y ry/\g rx ry=some rz/\∀v F' H',u6 K F H F' H' v rz->Q v H'
def m1(g:d7->Option d7)(m:M):M:=fun ρ=>(m ρ).bind g
theorem b59{m:M}{g:d7->Option d7}{σ:L2.St}{H:Hp}{Q:VK}(h:tM X.K (m1 g m) σ H Q):tCB (rC1 X.K g) (b2Y (tM X.K m) c0y) σ H Q:=by
 obtain⟨F,ρ,r,he,hm,k⟩:=h
 obtain⟨rx,e1,hm⟩:=bind_some hm
 exact⟨F,ρ,rx,he,e1,fun v F1 H1 o1=>⟨F1,v,rx,r,rfl,o1.x.fh,o1.rep,hm,fun z F2 H2 o2=>k z F2 H2 (u6.trans o1.x o2)⟩⟩
theorem b8z{m n:M}{g:d7->d7->Option d7}{σ:L2.St}{H:Hp}{Q:VK}(h:tM X.K (m2 g m n) σ H Q):tCB (rC2 X.K g) (b2Y (tM X.K m) (b2Y (tM X.K n) c0y)) σ H Q:=by
 obtain⟨F,ρ,r,he,hm,k⟩:=h
 obtain⟨rx,e1,hm⟩:=bind_some hm
 obtain⟨ry,e2,hm⟩:=bind_some hm
 exact⟨F,ρ,rx,he,e1,fun v F1 H1 o1=>⟨F1,ρ,ry,he.ext o1.x,e2,fun u F2 H2 o2=>⟨F2,v,u,rx,ry,r,rfl,o2.x.fh,o1.rep.ext o2.x,o2.rep,hm,fun z F3 H3 o3=>k z F3 H3 (u6.trans (o1.x.trans o2.x) o3)⟩⟩⟩
theorem K4{id:String}{x:Str}{p pos:Pos}{e:AF}{g:d7->Option d7}{m:M}(hc:A6 X (.builtin id) (rC1 X.K g))(hg:Gl X x)(hm:X.mg x=none)(hv:bootBuiltins x=some (.builtin id))(ha:EE X e m)(hn:x≠"__name__":=by decide)(hdb:(x==("__debug__":Str))=false:=by decide)
 (he:AT [e] X.env=(false,eval e X.env)::AT [] X.env:=by rfl) (hpl:(backTo pos (AT [] X.env)).any (·.1)=false:=by rfl):EE X (.Call (.Name x p) [e] [] pos) (m1 g m):=
 u0 (a3W hc hg hm hv (x8 ha K6 he) hn hdb he hpl) fun _ _ _ h=>b59 h
theorem b2a{id:String}{x:Str}{p pos:Pos}{e e2:AF}{g:d7->d7->Option d7}{m n:M}(hc:A6 X (.builtin id) (rC2 X.K g))(hg:Gl X x)(hm:X.mg x=none)(hv:bootBuiltins x=some (.builtin id))(ha:EE X e m)(hb:EE X e2 n)(hn:x≠"__name__":=by decide)(hdb:(x==("__debug__":Str))=false:=by decide)
 (he:AT [e,e2] X.env=(false,eval e X.env)::AT [e2] X.env:=by rfl) (he2:AT [e2] X.env=(false,eval e2 X.env)::AT [] X.env:=by rfl) (hpl:(backTo pos (AT [e2] X.env)).any (·.1)=false:=by rfl):EE X (.Call (.Name x p) [e,e2] [] pos) (m2 g m n):=
 u0 (a3W hc hg hm hv (x8 ha (x8 hb K6 he2) he) hn hdb he hpl) fun _ _ _ h=>b8z h
theorem b2b{T:String}{x:Str}{p pos:Pos}{e:AF}{g:d7->Option d7}{m:M}(hc:A6 X (.type T) (rC1 X.K g))(hg:Gl X x)(hm:X.mg x=none)(hv:bootBuiltins x=some (.type T))(ha:EE X e m)(hn:x≠"__name__":=by decide)(hdb:(x==("__debug__":Str))=false:=by decide)
 (he:AT [e] X.env=(false,eval e X.env)::AT [] X.env:=by rfl) (hpl:(backTo pos (AT [] X.env)).any (·.1)=false:=by rfl):EE X (.Call (.Name x p) [e] [] pos) (m1 g m):=
 u0 (a4K hc hg hm hv (x8 ha K6 he) hn hdb he hpl) fun _ _ _ h=>b59 h
def J0(x:d7):Option d7:=match x.rd with
 | .str z=>if z.length<=AL then some (.val (.int z.length)) else none
 |p=>match PyData.items? p with
  |some ps=>some (.val (.int ps.length))
  |none=>none
theorem M3:A6 X (.builtin "len") (rC1 X.K J0):=by
 intro pins s σ H xs us Q I rv h
 obtain⟨F,x,rx,rz,rfl,s0,h1,h2,k⟩:=h
 unfold J0 at h2
 split at h2
 ·rename_i z ez
  split at h2
  ·rename_i c
   cases h2
   have rr:=h1.rd s0
   rw [ez] at rr
   cases rr
   exact a82 pins s σ H _ us Q I rv ⟨z,rfl,c,k _ F H (u6.here s0 rfl)⟩
  ·cases h2
 ·split at h2
  ·rename_i ps e
   cases h2
   obtain⟨a,xs,rfl,hq,r⟩:=D8 s0 h1 e
   refine a81 pins s σ H _ us Q I rv ⟨a,xs,rfl,hq, ?_⟩
   rw [r.length]
   exact k _ F H (u6.here s0 rfl)
  ·cases h2
theorem b4L(hc:X.calm=true):A6 X (.builtin "min") (rC2 X.K (gI fun i j=> .int (if j<i then j else i))):=by
 intro pins s σ H xs us Q I rv h
 obtain⟨F,x,y,rx,ry,rz,rfl,s0,h1,h2,h3,k⟩:=h
 obtain⟨i,j,rfl,rfl,rfl⟩:=b2m h3
 cases h1;cases h2
 exact b3a hc pins s σ H _ us Q I rv ⟨i,j,rfl,k _ F H (u6.here s0 rfl)⟩
def a1U(x:d7):Option d7:=match PyData.items? x.rd with
 |some ps=>some (.val (.tuple ps))
 |none=>none
theorem b3y{F H:Hp}{v:V}{r:d7}{ps:List PV}(s0:j8 F H)(h:M1 X.K F H v r)(e:PyData.items? r.rd=some ps):∃a xs,v= .ref a/\(S2 X.K H a xs\/(Z1 X.K H a xs/\x4 X.K F (.tuple ps) v))/\j0 X.K F ps xs:=by
 cases r with
 |val p=>
  cases p with
  |list qs=>cases e;obtain⟨a,xs,rfl,hq,r⟩:=h;exact⟨a,xs,rfl,.inl (C4 s0 hq),r⟩
  |tuple qs=>cases e;obtain⟨a,xs,rfl,hq,r⟩:=h;exact⟨a,xs,rfl,.inr ⟨p8 s0 hq.sq,⟨a,xs,rfl,hq,r⟩⟩,r⟩
  |_=>cases e
 |ow c=>cases c<;>cases e;obtain⟨a,xs,rfl,_,hq,r⟩:=h;exact⟨a,xs,rfl,.inl (S2.of hq),r⟩
 |bo c=>cases c<;>cases e;obtain⟨a,xs,rfl,_,hq,r⟩:=h;exact⟨a,xs,rfl,.inl (S2.of hq),r⟩
theorem a6e:A6 X (.type "tuple") (rC1 X.K a1U):=by
 intro pins s σ H xs us Q I rv h
 obtain⟨F,x,rx,rz,rfl,s0,h1,h2,k⟩:=h
 unfold a1U at h2
 split at h2
 ·rename_i ps e
  cases h2
  obtain⟨a,xs,rfl,hq,r⟩:=b3y s0 h1 e
  refine a7I pins s σ H _ us Q I rv ⟨a,xs,rfl, ?_⟩
  rcases hq with hq|⟨hq,rp⟩
  ·exact .inl ⟨hq,fun l hl=>k _ _ _ (u6.tup s0 hl r)⟩
  ·exact .inr ⟨hq,k _ F H (u6.here s0 rp)⟩
 ·cases h2
def b5j(x:d7):Option d7:=match PyData.items? x.rd with
 |some ps=>some (.own ps)
 |none=>none
theorem b7e:A6 X (.type "list") (rC1 X.K b5j):=by
 intro pins s σ H xs us Q I rv h
 obtain⟨F,x,rx,rz,rfl,s0,h1,h2,k⟩:=h
 unfold b5j at h2
 split at h2
 ·rename_i ps e
  cases h2
  obtain⟨a,xs,rfl,hq,r⟩:=D8 s0 h1 e
  exact a83 pins s σ H _ us Q I rv ⟨a,xs,rfl,hq,fun l hl=>k _ _ _ (u6.lst s0 hl r)⟩
 ·cases h2
def kindOf:PV->String
 | .none=>"NoneType"
 | .bool _=>"bool"
 | .int _=>"int"
 | .str _=>"str"
 | .list _=>"list"
 | .tuple _=>"tuple"
 | .dict _=>"dict"
def S8(T:String)(p:PV):Bool:=kindOf p==T||(kindOf p=="bool" && T=="int")
def a9i:PV->Bool
 | .dict [(.str _,_)]=>true
 |_=>false
def a3B(T:String)(x:d7):Option d7:=bif a9i x.rd then none else some (.val (.bool (S8 T x.rd)))
def b4m(T:String):Prop:=T="int"\/T="bool"\/T="str"\/T="list"\/T="tuple"\/T="dict"
theorem b3D{K:AD}{T:String}(h:b4m T):∀p:PV,PySem.W.kitOne K (.type (kindOf p)) (.type T)=some (S8 T p):=by
 intro p
 rcases h with rfl|rfl|rfl|rfl|rfl|rfl<;>cases p<;>kernel_rfl
theorem a0s{T:String}{e:AF}{m:M}{p p2 pos:Pos}(kt:b4m T)(hg:Gl X "isinstance")(hm:X.mg "isinstance"=none)(ha:EE X e m)(hT:PE X (.Name (AS T) p2) (tC (.ty T)))
 (he:AT [e,.Name (AS T) p2] X.env=(false,eval e X.env)::AT [.Name (AS T) p2] X.env:=by rfl) (he2:AT [.Name (AS T) p2] X.env=(false,eval (.Name (AS T) p2) X.env)::AT [] X.env:=by rfl) (hpl:(backTo pos (AT [.Name (AS T) p2] X.env)).any (·.1)=false:=by rfl)
 (hv:bootBuiltins "isinstance"=some (.builtin "isinstance"):=by rfl):
 EE X (.Call (.Name "isinstance" p) [e,.Name (AS T) p2] [] pos) (m1 (a3B T) m):=by
 have hc:A6 X (.builtin "isinstance") (fun xs H Q=>∃F x rx,xs=[x,.ty T]/\j8 F H/\M1 X.K F H x rx/\a9i rx.rd=false/\Q (.bl (S8 T rx.rd)) H):=by
  intro pins s σ H xs us Q I rv h
  obtain⟨F,x,rx,rfl,s0,h1,nf,q⟩:=h
  obtain⟨u,u2,rfl,ru,ru2⟩:∃u1 u2,us=[u1,u2]/\m3 x u1/\m3 (.ty T) u2:=by
   cases rv with
   |cons p q=>
    cases q with
    |cons p' q'=>
     cases q'
     exact⟨_,_,rfl,p,p'⟩
  cases ru2
  have rr:=h1.rd s0
  have kk:=b3D (K:=X.K) kt rx.rd
  have fin:∀tk,EP X pins σ Q (.bool (S8 T rx.rd)) {s with toks:=tk}:=fun tk=>⟨.bl _,H,I.tok tk,rfl,q⟩
  cases hp:rx.rd with
  |none=>rw [hp] at rr kk fin;cases rr;cases ru;exact PySem.W.kia_one PySem.W.kitx_none I.kIn True.intro kk (fun z=>nomatch z) fin
  |bool b=>rw [hp] at rr kk fin;cases rr;cases ru;exact PySem.W.kia_one PySem.W.kitx_bool I.kIn True.intro kk (fun z=>nomatch z) fin
  |int b=>rw [hp] at rr kk fin;cases rr;obtain⟨t,rfl⟩:=ru;exact PySem.W.kia_one PySem.W.kitx_int I.kIn True.intro kk (fun z=>nomatch z) fin
  |str b=>rw [hp] at rr kk fin;cases rr;obtain⟨t,rfl⟩:=ru;exact PySem.W.kia_one PySem.W.kitx_str I.kIn True.intro kk (fun z=>nomatch z) fin
  |list ps=>
   rw [hp] at rr kk fin
   obtain⟨a,ys,rfl,hq,_⟩:=rr
   cases ru
   obtain⟨its,_,⟨o,n,e1,e2,_⟩,_⟩:=I.list hq
   exact PySem.W.kia_one PySem.W.kitx_list I.kIn ⟨o,e1,e2⟩ kk (fun z=>nomatch z) fin
  |tuple ps=>
   rw [hp] at rr kk fin
   obtain⟨a,ys,rfl,hq,_⟩:=rr
   cases ru
   obtain⟨its,_,⟨o,e1,e2,_⟩,_⟩:=I.tuple hq.sq
   exact PySem.W.kia_one PySem.W.kitx_tuple I.kIn ⟨o,e1,e2⟩ kk (fun z=>nomatch z) fin
  |dict ps=>
   rw [hp] at rr kk fin nf
   rcases rr with⟨a,_,rfl,hq,_⟩|⟨a,_,rfl,hq,_⟩|⟨x,_,rfl,_⟩
   ·cases ru
    obtain⟨_,_,_,_,o,_,_,e1,e2,_⟩:=I.hok a _ hq
    exact PySem.W.kia_one PySem.W.kitx_dict I.kIn ⟨o,e1,e2.1⟩ kk (fun z=>nomatch z) fin
   ·cases ru
    obtain⟨_,_,_,_,o,_,_,e1,e2,_⟩:=I.hok a _ hq
    exact PySem.W.kia_one PySem.W.kitx_dict I.kIn ⟨o,e1,e2.1⟩ kk (fun z=>nomatch z) fin
   ·cases nf
 exact u0 (a3W hc hg hm hv (x8 ha (x8 hT K6 he2) he) (by decide) (by decide) he hpl) fun σ H Q ⟨F,ρ,r,h1,h2,k⟩=>by
  obtain⟨rx,e1,h2⟩:=bind_some h2
  unfold a3B at h2
  cases nf:a9i rx.rd with
  |true=>rw [nf] at h2;cases h2
  |false=>
   rw [nf] at h2
   cases h2
   exact⟨F,ρ,rx,h1,e1,fun v F1 H1 o=>⟨F1,v,rx,rfl,o.x.fh,o.rep,nf,k _ F1 H1 (u6.val o.x rfl)⟩⟩
theorem Y9.putC{K:AD}{F0 H0 F H:Hp}{σ:L2.St}{ρ:c7}{i:Nat}{c d:W1}{a:AB}{o:HO}(s:Y9 K F0 H0 F H σ ρ)(e:ρ[i]?=some (some (.ow c)))(ea:σ[i]?=some (some (.ref a)))(r:F a=none->U5 K F (upd H a o) (.ref a) d):
 Y9 K F0 H0 F (upd H a o) σ (ρ.set i (some (.ow d))):=by
 obtain⟨v,h1,rr0⟩:=s.e.at_ i _ e
 obtain⟨a',xs,rfl,fa,ha⟩:=U5.at_ rr0
 rw [ea] at h1;cases h1
 have na:H0 a=none:=s.nw i c a e ea
 have hi:i<ρ.length:=(Am.mp e).1
 refine⟨⟨s.x.f,fun b o z=>by rw [d8 (j7 z na)];exact s.x.h _ _ z,fun b o z=>by rw [d8 (j7 z fa)];exact s.x.fh _ _ z,s.x.nw,s.x.nf⟩,⟨fun b o z=>by rw [d8 (j7 z fa)];exact s.e.fh _ _ z,by simp [s.e.len],fun j q ej=> ?_,fun j z ej=> ?_,fun j k z1 z2 c' hjk e1 e2 e3 e4=> ?_⟩,fun j z c' e1 e2=> ?_⟩
 ·rw [List.getElem?_set] at ej
  by_cases hij:i=j
  ·subst hij
   rw [if_pos rfl,if_pos hi] at ej
   cases ej
   exact⟨.ref a,ea,r fa⟩
  ·rw [if_neg hij] at ej
   obtain⟨v,h1,rr⟩:=s.e.at_ j q ej
   refine⟨v,h1, ?_⟩
   cases q with
   |val p=>exact rr
   |bo z=>exact absurd ej (s.e.nb j z)
   |ow z=>
    have key:∀b,v= .ref b->b≠a:=fun b hb hab=>by subst hab;subst hb;exact s.e.ap i j c z b hij e ej ea h1
    cases z with
    |lst z=>
     obtain⟨b,zs,rfl,fb,hb,rz⟩:=rr
     exact⟨b,zs,rfl,fb,by rw [d8 (key b rfl)];exact hb,rz⟩
    |dct z=>
     obtain⟨b,zs,rfl,fb,hb,rz⟩:=rr
     exact⟨b,zs,rfl,fb,by rw [d8 (key b rfl)];exact hb,rz⟩
    |txt z=>
     obtain⟨b,zs,rfl,fb,hb,rz⟩:=rr
     exact⟨b,zs,rfl,fb,by rw [d8 (key b rfl)];exact hb,rz⟩
 ·rw [List.getElem?_set] at ej
  by_cases hij:i=j
  ·subst hij;rw [if_pos rfl,if_pos hi] at ej;cases ej
  ·rw [if_neg hij] at ej;exact s.e.nb j z ej
 ·have own_at:∀(j:Nat) (z:W1),(ρ.set i (some (d7.ow d)))[j]?=some (some (d7.ow z))->∃z':W1,ρ[j]?=some (some (d7.ow z')):=fun j z h=>by
   rw [List.getElem?_set] at h
   by_cases hij:i=j
   ·subst hij;exact⟨c,e⟩
   ·rw [if_neg hij] at h;exact⟨z,h⟩
  obtain⟨y1,h1⟩:=own_at j z1 e1
  obtain⟨y2,h2⟩:=own_at k z2 e2
  exact s.e.ap j k y1 y2 c' hjk h1 h2 e3 e4
 ·rw [List.getElem?_set] at e1
  by_cases hij:i=j
  ·subst hij;rw [ea] at e2;cases e2;exact na
  ·rw [if_neg hij] at e1;exact s.nw j z c' e1 e2
theorem Y9.put{K:AD}{F0 H0 F H:Hp}{σ:L2.St}{ρ:c7}{i:Nat}{ps qs:List PV}{a:AB}{ys:List V}(s:Y9 K F0 H0 F H σ ρ)(e:ρ[i]?=some (some (.own ps)))(ea:σ[i]?=some (some (.ref a)))(r:j0 K F qs ys):
 Y9 K F0 H0 F (upd H a (.lst ys)) σ (ρ.set i (some (.own qs))):=s.putC e ea fun fa=>⟨a,ys,rfl,fa,g5,r⟩
theorem Y9.putT{K:AD}{F0 H0 F H:Hp}{σ:L2.St}{ρ:c7}{i:Nat}{ps qs:List (List g0×PV)}{a:AB}{ys:List (g0×V)}(s:Y9 K F0 H0 F H σ ρ)(e:ρ[i]?=some (some (.ow (.txt ps))))(ea:σ[i]?=some (some (.ref a)))(r:u8 K F qs (ys.map s1)):
 Y9 K F0 H0 F (upd H a (.dK ys)) σ (ρ.set i (some (.ow (.txt qs)))):=s.putC e ea fun fa=>⟨a,ys,rfl,fa,g5,r⟩
theorem Y9.putD{K:AD}{F0 H0 F H:Hp}{σ:L2.St}{ρ:c7}{i:Nat}{ps qs:List (List g0×PV)}{a:AB}{ys:List (List g0×V)}(s:Y9 K F0 H0 F H σ ρ)(e:ρ[i]?=some (some (.dct ps)))(ea:σ[i]?=some (some (.ref a)))(r:u8 K F qs ys):
 Y9 K F0 H0 F (upd H a (.dT ys)) σ (ρ.set i (some (.dct qs))):=s.putC e ea fun fa=>⟨a,ys,rfl,fa,g5,r⟩
def E7(i:Nat)(m:M):MS:=fun ρ=>(m ρ).bind fun r=>r.toVal.bind fun p=>match ρ[i]? with
 |some (some (.ow (.lst ps)))=>if ps.length<AL then some (.nx (ρ.set i (some (.own (ps++[p]))))) else none
 |_=>none
theorem N1(i:Nat){x:Str}{p apos cpos pos:Pos}{e:AF}{m:M}(hx:PE X (.Name x p) (C7 i))(ha:EE X e m)
 (hbase:attributeBase (.Name x p) "append" X.env (eval (.Name x p) X.env)=eval (.Name x p) X.env:=by rfl)
 (hfew:((backTo cpos (AT [e] X.env)).all (fun x=> !x.1)&&(backToKw cpos (keywordEach [] X.env)).all (fun x=>x.1.isSome)
  && decide ([e].length+([]:List Keyword).length+(if([]:List Keyword).isEmpty then 0 else 1)<30))=true:=by rfl)
 (hline:(apos.endLine==cpos.line)=true:=by rfl) (hs:AT [e] X.env=(false,eval e X.env)::AT [] X.env:=by rfl) (hplain:(backTo cpos (AT [] X.env)).any (·.1)=false:=by rfl)
 (hsw:swapsWith (.Call (.Attribute (.Name x p) "append" apos) [e] [] cpos) none pos.line X.env=pure false:=by rfl):
 ES X (.Expr (.Call (.Attribute (.Name x p) "append" apos) [e] [] cpos) pos) (E7 i m):=
 K7 (a5T (a8H PySem.F.plainAttrs_list PySem.F.slot_list_append PySem.F.type_list_append a0L hx (x8 ha K6 hs) hbase hfew hline hs hplain) hsw) fun D σ H ⟨F0,H0,F,ρ,fl,so,e,fin⟩=>by
  obtain⟨r,e1,e⟩:=bind_some e
  obtain⟨q,e2,e⟩:=bind_some e
  split at e
  ·rename_i ps eo
   split at e
   ·rename_i c
    cases e
    obtain⟨v,h1,a,xs,rfl,fa,ha',rl⟩:=so.e.at_ i _ eo
    refine⟨.ref a,h1,.inl ⟨rfl,xs,S2.of ha'⟩,F,ρ,r,so.e,e1,fun w F1 H1 o=> ?_⟩
    obtain⟨F2,o2⟩:=o.toVal e2
    have so2:=so.ext o2.x
    refine⟨a,xs,w,rfl,rfl,o.x.h _ _ ha',by rw [rl.length];exact c, ?_⟩
    exact fin σ F2 _ o2.x.f (so2.put eo h1 ((j0.mono o2.x.f _ rl).append ⟨w,[],rfl,o2.rep,rfl⟩))
   ·cases e
  ·cases e
def b5Q(i:Nat)(g:d7->d7->Option d7)(m:M):MS:=fun ρ=>match ρ[i]? with
 |some (some (.val x))=>(m ρ).bind fun y=>(g (.val x) y).bind fun z=>if z.nb=true then some (.nx (ρ.set i (some z))) else none
 |_=>none
theorem b9q{i:Nat}{x:Str}{e:AF}{m:M}{g:d7->d7->Option d7}{op:Operator}{pos pos':Pos}(hN:X.N.Nodup)(he:EE X e m)(ho:OpM X (inplaceOp op) g)(hi:X.N[i]?=some x:=by rfl)(hx:Loc X.env.scope x:=by exact Or.inl rfl)(hf:X.fn x=true\/X.env.scope.names.lookup x=some .local:=by first|exact .inl rfl|exact .inr rfl|assumption):
 ES X (.AugAssign (.Name x pos') op e pos) (b5Q i g m):=
 K7 (c0d hN hi hx he (ti:=rM2 X.K g) ho hf) fun D σ H ⟨F0,H0,F,ρ,fl,so,e,fin⟩=>by
  unfold b5Q at e
  split at e
  ·rename_i p ep
   obtain⟨y,e1,e⟩:=bind_some e
   obtain⟨z,e2,e⟩:=bind_some e
   split at e
   ·rename_i c
    cases e
    obtain⟨v,h1,rv⟩:=so.e.at_ i _ ep
    exact⟨v,h1,F,ρ,y,so.e,e1,fun u F1 H1 o=>⟨F1,.val p,y,z,o.x.fh,rv.ext o.x,o.rep,e2,fun t F2 H2 o2=>fin _ F2 H2 (o.x.f.trans o2.x.f) ((so.ext o.x).set o2 c i)⟩⟩
   ·cases e
  ·cases e
theorem b6c:OpM X (inplaceOp .Add) (gI fun i j=> .int (i+j)):=b8R b7C fun _ _ _=>rfl
def S9(i:Nat)(n:MS):MS:=fun ρ=>match ρ[i]? with
 |some (some (.ow (.lst ps)))=>n (ρ.set i (some (.val (.list ps))))
 |_=>n ρ
theorem Y9.frz{K:AD}{F0 H0 F H:Hp}{σ:L2.St}{ρ:c7}{i:Nat}{ps:List PV}(s:Y9 K F0 H0 F H σ ρ)(e:ρ[i]?=some (some (.own ps))):∃F',j8 F F'/\Y9 K F0 H0 F' H σ (ρ.set i (some (.val (.list ps)))):=by
 obtain⟨v,h1,a,xs,rfl,fa,ha,rl⟩:=s.e.at_ i _ e
 have na:H0 a=none:=s.nw i _ a e h1
 have hi:i<ρ.length:=(Am.mp e).1
 have up:j8 F (upd F a (.lst xs)):=C5 fa
 have fh:j8 (upd F a (.lst xs)) H:=fun b o z=>by
  by_cases hb:b=a
  ·subst hb;rw [g5] at z;cases z;exact ha
  ·rw [d8 hb] at z;exact s.e.fh _ _ z
 refine⟨upd F a (.lst xs),up,⟨⟨s.x.f.trans up,s.x.h,fh,fun b o z y t=>by rw [d8 (j7 y na)];exact s.x.nw b o z y t,b53 s.x.nf⟩,⟨fh,by simp [s.e.len],fun j q ej=> ?_,fun j z ej=> ?_,fun j k z1 z2 c hjk e1 e2 e3 e4=> ?_⟩,fun j z c e1 e2=> ?_⟩⟩
 ·rw [List.getElem?_set] at ej
  by_cases hij:i=j
  ·subst hij
   rw [if_pos rfl,if_pos hi] at ej
   cases ej
   exact⟨.ref a,h1,a,xs,rfl,S2.of g5,j0.mono up _ rl⟩
  ·rw [if_neg hij] at ej
   obtain⟨v,h2,rr⟩:=s.e.at_ j q ej
   refine⟨v,h2, ?_⟩
   cases q with
   |val p=>exact x4.mono up p rr
   |bo z=>exact absurd ej (s.e.nb j z)
   |ow z=>
    have key:∀b,v= .ref b->b≠a:=fun b hb hab=>by subst hab;subst hb;exact s.e.ap i j _ z b hij e ej h1 h2
    cases z with
    |lst z=>
     obtain⟨b,zs,rfl,fb,hb,rz⟩:=rr
     exact⟨b,zs,rfl,by rw [d8 (key b rfl)];exact fb,hb,j0.mono up _ rz⟩
    |dct z=>
     obtain⟨b,zs,rfl,fb,hb,rz⟩:=rr
     exact⟨b,zs,rfl,by rw [d8 (key b rfl)];exact fb,hb,u8.mono up _ rz⟩
    |txt z=>
     obtain⟨b,zs,rfl,fb,hb,rz⟩:=rr
     exact⟨b,zs,rfl,by rw [d8 (key b rfl)];exact fb,hb,u8.mono up _ rz⟩
 ·rw [List.getElem?_set] at ej
  by_cases hij:i=j
  ·subst hij;rw [if_pos rfl,if_pos hi] at ej;cases ej
  ·rw [if_neg hij] at ej;exact s.e.nb j z ej
 ·have own_at:∀(j:Nat) (z:W1),(ρ.set i (some (d7.val (.list ps))))[j]?=some (some (d7.ow z))->ρ[j]?=some (some (d7.ow z)):=fun j z h=>by
   rw [List.getElem?_set] at h
   by_cases hij:i=j
   ·subst hij;rw [if_pos rfl,if_pos hi] at h;cases h
   ·rw [if_neg hij] at h;exact h
  exact s.e.ap j k z1 z2 c hjk (own_at j z1 e1) (own_at k z2 e2) e3 e4
 ·rw [List.getElem?_set] at e1
  by_cases hij:i=j
  ·subst hij;rw [if_pos rfl,if_pos hi] at e1;cases e1
  ·rw [if_neg hij] at e1;exact s.nw j z c e1 e2
theorem a23(i:Nat){st:Stmt}{n:MS}(h:ES X st n):ES X st (S9 i n):=K7 h fun D σ H ⟨F0,H0,F,ρ,fl,so,e,fin⟩=>by
 unfold S9 at e
 split at e
 ·rename_i ps eo
  obtain⟨F',s,so'⟩:=so.frz eo
  exact⟨F0,H0,F',_,fl,so',e,fin.later s⟩
 ·exact⟨F0,H0,F,ρ,fl,so,e,fin⟩
end
def c0A(K:AD)(n:Nat)(a:AB):Option (List (g0×PV)):=match K.lookup a with
 |some ⟨.type "dict",none,.dict es _,⟨[]⟩⟩=>(a47 es.toList).bind (a0W K n)
 |_=>none
def a9f(K:AD)(a:AB):List Int:=match K.lookup a with
 |some ⟨_,_,.dict es _,_⟩=>es.toList.map (·.hash)
 |_=>[]
theorem a3r{κ:Type}{K:AD}{n:Nat}:∀{kvs:List (κ×AA)} {tbl:List (κ×PV)},a0W K n kvs=some tbl->tbl.map (·.1)=kvs.map (·.1)
 |[],_,h=>by cases h;rfl
 |(k,u)::r,tbl,h=>by
  simp only [a0W] at h
  obtain⟨q,e1,h⟩:=bind_some h
  obtain⟨t,e2,h⟩:=bind_some h
  cases h
  rw [AK,AK,a3r e2]
theorem b5W{κ α β:Type}{γ:Type}(f:κ->γ):∀{l:List (κ×α)} {m:List (κ×β)},l.map (·.1)=m.map (·.1)->l.map (fun x=>f x.1)=m.map (fun x=>f x.1):=fun {l m} h=>by
 have h1:l.map (fun x=>f x.1)=(l.map (·.1)).map f:=by simp [As,Function.comp_def]
 have h2:m.map (fun x=>f x.1)=(m.map (·.1)).map f:=by simp [As,Function.comp_def]
 rw [h1,h2,h]
theorem c0C{P:AN}{w:AI}{K:AD}{a:AB}{tbl:List (g0×PV)}(n:Nat)(t:c0A K n a=some tbl)(h:a9f K a=tbl.map (fun kv=>b3z w kv.1))(nd:(tbl.map (·.1)).Nodup):Tab P w K a tbl:=by
 unfold c0A at t
 split at t
 ·rename_i es ep e
  obtain⟨kvs,e1,e2⟩:=bind_some t
  have hk:=a3r e2
  refine⟨es,ep,kvs,n,e,e1, ?_,e2,by rw [<-hk];exact nd⟩
  unfold a9f at h
  rw [e] at h
  rw [<-b5W (b3z w) hk]
  exact h
 ·cases t
def t4(P:AN)(w:AI)(K:AD)(mg:Str->Option AA)(base:Heap)(x:Str)(ps:List Str)(k:Nat)(g:List PV->Option d7):Prop:=
 ∃f fd,a0l P w K mg base CX0 k f fd ps (spP K ps.length g)/\mg x=some (.ref f)/\PySem.W.keepIn K (.ref f)=true/\a4Z K fd ps []
theorem b8q{K:AD}{n:Nat}{g g':List PV->Option d7}(h:∀ps r,g' ps=some r->g ps=some r):∀vs H Q E,spP K n g' vs H Q E->spP K n g vs H Q E:=
 fun vs H Q E ⟨F,ps,r,s,rl,hl,e,k⟩=>⟨F,ps,r,s,rl,hl,h _ _ e,k⟩
theorem t4.imp{P:AN}{w:AI}{K:AD}{mg:Str->Option AA}{base:Heap}{x:Str}{ps:List Str}{k:Nat}{g g':List PV->Option d7}(d:t4 P w K mg base x ps k g)(h:∀qs r,g' qs=some r->g qs=some r):t4 P w K mg base x ps k g':=by
 obtain⟨f,fd,G,r⟩:=d
 exact⟨f,fd,G.imp (b8q h),r⟩
section
variable {X:Cx}
theorem m8{k k':Nat}{ps:List Str}{g:List PV->Option d7}{x:Str}{p pos:Pos}{e:AF}{es:List AF}{m:MA}
 (d:t4 X.prog X.w X.K X.mg X.base x ps k g) (hr:P4 k' X.A) (hk:k<=k') (hg:Gl X x) (hn:∀ρ qs,m ρ=some qs->qs.length=ps.length) (ha:EA X (e::es) m)
 (hdb:(x==("__debug__":Str))=false:=by decide) (he:AT (e::es) X.env=(false,eval e X.env)::AT es X.env:=by rfl) (hpl:(backTo pos (AT es X.env)).any (·.1)=false:=by rfl):
 EE X (.Call (.Name x p) (e::es) [] pos) (o0 g m):=by
 obtain⟨f,fd,G,h1,h2,h3⟩:=d
 exact b7r G (hr.mono hk) hg h1 h2 h3 hn ha hdb he hpl
end
def b0Q(K:AD):Sp:=fun vs H Q _=>∃(a:AB) (ns:List Int),vs=[.ref a]/\S2 K H a (ns.map V.int)/\ns.length<=63/\∀H',Q (.bl true) H'
theorem a8L{K:AD}{H:Hp}:∀ns:List Int,j0 K H (ns.map PyData.int) (ns.map V.int)
 |[]=>rfl
 |n::ns=>⟨.int n,_,rfl,rfl,a8L ns⟩
theorem b7F{K:AD}{g:List PV->Option d7}(h:∀ns:List Int,ns.length<=63->g [.list (ns.map .int)]=some (.val (.bool true))):∀vs H Q E,b0Q K vs H Q E->spP K 1 g vs H Q E:=
 fun vs H Q E ⟨a,ns,e,hs,hl,k⟩=>by
  subst e
  exact⟨H,[.list (ns.map .int)],_,PU.j8.refl H,⟨.ref a,[],rfl,⟨a,_,rfl,hs,a8L ns⟩,rfl⟩,rfl,h ns hl,fun v F' H' o=>by
   have:v= .bl true:=o.rep
   subst this
   exact k H'⟩
theorem c2k{l:PySem.W.OpenLaw}{q:AN}{loose:List Str}{XP:(Str->Option AA)->Heap->Prop}{YP:AI->Heap->Prop}{d:DefRec}{K:Params->AD}{x:Str}{k:Nat}(hk:k<=40)(hn:l.most=some 63)(hdf:d.params.defaults=[])
 (hY:∀(w:AI) (h:Heap),YP w h->(K w.params).In h)
 (F:∀(w:AI) (mg:Str->Option AA) (fa:AB) (h:Heap),(K w.params).In h->h.Ns mainGlobals mg->mg d.name=some (.ref fa)->
  ∃fd:FuncData,(∀(s:AC) (u:AA),BindsTo s fd ⟨[u],[]⟩ [(x,u)])/\∀base:Heap,(K w.params).In base->base.Ns mainGlobals mg->a0l l.prog w (K w.params) mg base CX0 k fa fd [x] (b0Q (K w.params))):
 PySem.W.WalkO q loose XP YP l.row.toRowW d [] (fun f vs=>PySem.call f vs):=
 L2.b8C (n:=63) (k:=40) (x:=x) (CX:=fun _=>CX0) (sp:=fun w=>b0Q (K w.params)) hn (by decide) hdf ⟨rfl,by decide,by decide⟩ hY (fun w mg fa h a b c=>let ⟨fd,h1,h2⟩:=F w mg fa h a b c;⟨fd,h1,fun base x y=>(h2 base x y).mono hk⟩) (fun _ _ a ns hl _ hS=>⟨a,ns,rfl,hS,hl,fun _=>rfl⟩) fun _ _ _ _ _ z=>z
def b9x(x y:d7):Option d7:=gIc a8W (fun i j=> .int (i*j)) x y
theorem b6d{X:Cx}:OpM X (binaryOp .Mult) b9x:=b71
theorem z6(i j:Int):E2 (.val (.int i)) (.val (.int j))=some (.val (.int (i+j))):=Eq.trans rfl rfl
theorem b5e{i j:Str}(h:i.length+j.length<=AL):E2 (.val (.str i)) (.val (.str j))=some (.val (.str (i++j))):=by simp [E2,h]
theorem b7y{ps qs:List PV}(h:ps.length+qs.length<=AL):E2 (.bor ps) (.own qs)=some (.own (ps++qs)):=by simp [E2,d7.mine,h]
theorem b2l{ps qs:List PV}(h:ps.length+qs.length<=AL):E2 (.own ps) (.own qs)=some (.own (ps++qs)):=by simp [E2,d7.mine,h]
theorem b5f(f:Int->Int->PV)(i j:Int):gI f (.val (.int i)) (.val (.int j))=some (.val (f i j)):=Eq.trans rfl rfl
theorem a9a{C:Int->Int->Prop}[∀i j,Decidable (C i j)](f:Int->Int->PV){i j:Int}(h:C i j):gIc C f (.val (.int i)) (.val (.int j))=some (.val (f i j)):=by
 show(if okC C i j=true then some (d7.val (f i j)) else none)=_
 rw [if_pos (a3V.mpr h)]
theorem b9y{i j:Int}(h: -18446744073709551616<i/\i<18446744073709551616):b9x (.val (.int i)) (.val (.int j))=some (.val (.int (i*j))):=a9a _ (.inl (by lia))
theorem v5{f:Int->Int->PV}{i j:Int}(h:0<j):gIc (fun _ j=>0<j) f (.val (.int i)) (.val (.int j))=some (.val (f i j)):=a9a _ h
theorem a0F{f:Int->Int->PV}{i j:Int}(h:0<j/\j<1073741824):gIc a5r f (.val (.int i)) (.val (.int j))=some (.val (f i j)):=a9a _ h
theorem b9w{x y:d7}(h:n4 x.rd 50=true/\n4 y.rd 50=true):gEq x y=some (.val (.bool (PyData.eqv x.rd y.rd))):=by simp [gEq,h]
theorem b1l{x y:d7}(h:n4 x.rd 50=true/\n4 y.rd 50=true):gNe x y=some (.val (.bool (!PyData.eqv x.rd y.rd))):=by simp [gNe,h]
theorem P6(ps:List PV):J0 (.val (.list ps))=some (.val (.int ps.length)):=Eq.trans rfl rfl
theorem b5i(ps:List PV):J0 (.val (.tuple ps))=some (.val (.int ps.length)):=Eq.trans rfl rfl
theorem a3E(ps:List PV):J0 (.bor ps)=some (.val (.int ps.length)):=Eq.trans rfl rfl
theorem a3C{ps:List PV}{i:Int}{p:PV}(h:L2.atI ps i=some p):z9 (.val (.list ps)) (.val (.int i))=some (.val p):=by simp [z9,d7.rd,W1.rd,PyData.items?,h]
theorem a3D{ps:List PV}{i:Int}{p:PV}(h:L2.atI ps i=some p):z9 (.val (.tuple ps)) (.val (.int i))=some (.val p):=by simp [z9,d7.rd,W1.rd,PyData.items?,h]
theorem b7z{ps:List PV}{i:Int}{p:PV}(h:L2.atI ps i=some p):z9 (.own ps) (.val (.int i))=some (.val p):=by simp [z9,d7.rd,W1.rd,PyData.items?,h]
theorem a5H{ps:List PV}{i:Int}{p:PV}(h:L2.atI ps i=some p):z9 (.bor ps) (.val (.int i))=some (.val p):=by simp [z9,d7.rd,W1.rd,PyData.items?,h]
theorem a6p(p:PV)(ps:List PV):z9 (.val (.tuple (p::ps))) (.val (.int 0))=some (.val p):=by
 refine a3D ?_
 have h:(0:Int)<(((p::ps).length:Nat):Int):=by simp only [AU];lia
 unfold L2.atI L2.ixN
 rw [if_pos (by decide),if_pos h]
 rfl
theorem a6q(p q:PV)(ps:List PV):z9 (.val (.tuple (p::q::ps))) (.val (.int 1))=some (.val q):=by
 refine a3D ?_
 have h:(1:Int)<(((p::q::ps).length:Nat):Int):=by simp only [AU];lia
 unfold L2.atI L2.ixN
 rw [if_pos (by decide),if_pos h]
 rfl
theorem b0m(p q r:PV)(ps:List PV):z9 (.val (.tuple (p::q::r::ps))) (.val (.int 2))=some (.val r):=by
 refine a3D ?_
 have h:(2:Int)<(((p::q::r::ps).length:Nat):Int):=by simp only [AU];lia
 unfold L2.atI L2.ixN
 rw [if_pos (by decide),if_pos h]
 rfl
theorem b5h(p q r t:PV)(ps:List PV):z9 (.val (.tuple (p::q::r::t::ps))) (.val (.int 3))=some (.val t):=by
 refine a3D ?_
 have h:(3:Int)<(((p::q::r::t::ps).length:Nat):Int):=by simp only [AU];lia
 unfold L2.atI L2.ixN
 rw [if_pos (by decide),if_pos h]
 rfl
theorem j5(g:d7->d7->Option d7)(ma mb:M)(ρ:c7):m2 g ma mb ρ=(ma ρ).bind fun x=>(mb ρ).bind fun y=>g x y:=Eq.trans rfl rfl
theorem t7(g:d7->Option d7)(ma:M)(ρ:c7):m1 g ma ρ=(ma ρ).bind g:=Eq.trans rfl rfl
theorem l9(p:PV)(ρ:c7):mC p ρ=some (.val p):=Eq.trans rfl rfl
theorem d5(p:PV)(ρ:c7):c6 0 (some (.val p)::ρ)=some (.val p):=Eq.trans rfl rfl
theorem A0(p:List PV)(ρ:c7):c6 0 (some (.own p)::ρ)=some (.bor p):=Eq.trans rfl rfl
theorem f7(n:Nat)(r:Option d7)(ρ:c7):c6 (n+1) (r::ρ)=c6 n ρ:=Eq.trans rfl rfl
theorem d6(ρ:c7):e9 ρ=some []:=Eq.trans rfl rfl
theorem d0(m:M)(r:MA)(ρ:c7):c5 m r ρ=((m ρ).bind d7.toVal).bind fun p=>(r ρ).bind fun ps=>some (p::ps):=Eq.trans rfl rfl
theorem c8(p:PV):(d7.val p).toVal=some p:=Eq.trans rfl rfl
theorem Q0(p:List PV):(d7.own p).toVal=some (.list p):=Eq.trans rfl rfl
theorem D5(m:MA)(ρ:c7):a0J m ρ=(m ρ).bind fun ps=>if ps.length<=AL then some (.val (.tuple ps)) else none:=Eq.trans rfl rfl
theorem L4(m:MA)(ρ:c7):a4A m ρ=(m ρ).bind fun ps=>if ps.length<=AL then some (.own ps) else none:=Eq.trans rfl rfl
theorem j6(g:List PV->Option d7)(m:MA)(ρ:c7):o0 g m ρ=(m ρ).bind g:=Eq.trans rfl rfl
def b65(i:Nat)(ρ:c7)(r:d7):Option Fl:=if r.nb=true then some (.nx (ρ.set i (some r))) else none
theorem i9(i:Nat)(m:M)(ρ:c7):t8 i m ρ=(m ρ).bind (b65 i ρ):=Eq.trans rfl rfl
theorem u9(i:Nat)(ρ:c7)(p:PV):b65 i ρ (.val p)=some (.nx (ρ.set i (some (.val p)))):=Eq.trans rfl rfl
theorem P5(i:Nat)(ρ:c7)(p:List PV):b65 i ρ (.own p)=some (.nx (ρ.set i (some (.own p)))):=Eq.trans rfl rfl
def c0m(r:d7):Option Fl:=if r.nb=true then some (.rt r) else none
theorem m7(m:M)(ρ:c7):E3 m ρ=(m ρ).bind c0m:=Eq.trans rfl rfl
theorem C3(p:PV):c0m (.val p)=some (.rt (.val p)):=Eq.trans rfl rfl
theorem a4P(p:List PV):c0m (.own p)=some (.rt (.own p)):=Eq.trans rfl rfl
def c0n(n:MS):Fl->Option Fl
 | .nx ρ=>n ρ
 |f=>some f
theorem g7(m n:MS)(ρ:c7):m4 m n ρ=(m ρ).bind (c0n n):=Eq.trans rfl rfl
theorem h9(n:MS)(ρ:c7):c0n n (.nx ρ)=n ρ:=Eq.trans rfl rfl
theorem b8k(n:MS)(r:d7):c0n n (.rt r)=some (.rt r):=Eq.trans rfl rfl
def ifK(m n:MS)(ρ:c7)(b:Bool):Option Fl:=if b=true then m ρ else n ρ
theorem m9(c:MT)(m n:MS)(ρ:c7):T0 c m n ρ=(c ρ).bind (ifK m n ρ):=Eq.trans rfl rfl
theorem a2P(m n:MS)(ρ:c7):ifK m n ρ true=m ρ:=Eq.trans rfl rfl
theorem R4(m n:MS)(ρ:c7):ifK m n ρ false=n ρ:=Eq.trans rfl rfl
theorem t6(ρ:c7):D4 ρ=some (.nx ρ):=Eq.trans rfl rfl
def c1q:Fl->Option d7
 | .rt r=>some r
 | .nx _=>some (.val .none)
 |_=>none
theorem k9(n:Nat)(b:MS)(ps:List PV):D6 n b ps=(b (ps.map (fun p=>some (d7.val p))++AW n none)).bind c1q:=Eq.trans rfl rfl
theorem m5(r:d7):c1q (.rt r)=some r:=Eq.trans rfl rfl
theorem a3P(m:M)(ρ:c7):mtV m ρ=(m ρ).bind tru:=Eq.trans rfl rfl
theorem n0(m:M)(ρ:c7):mtB m ρ=(m ρ).bind b0L:=Eq.trans rfl rfl
theorem v3(b:Bool):b0L (.val (.bool b))=some b:=Eq.trans rfl rfl
theorem b0X(b:Bool):tru (.val (.bool b))=some b:=Eq.trans rfl rfl
theorem a0K(c:MT)(ρ:c7):R9 c ρ=(c ρ).map not:=Eq.trans rfl rfl
def orK(d:MT)(ρ:c7)(b:Bool):Option Bool:=if b=true then some true else d ρ
theorem a3O(c d:MT)(ρ:c7):a5z c d ρ=(c ρ).bind (orK d ρ):=Eq.trans rfl rfl
theorem b2C(d:MT)(ρ:c7):orK d ρ false=d ρ:=Eq.trans rfl rfl
def c0W(n:M)(ρ:c7)(r:d7):Option d7:=(b0L r).bind fun b=>if b=true then n ρ else some (.val (.bool false))
theorem b5P(m n:M)(ρ:c7):b7N m n ρ=(m ρ).bind (c0W n ρ):=Eq.trans rfl rfl
theorem b88(n:M)(ρ:c7):c0W n ρ (.val (.bool true))=n ρ:=Eq.trans rfl rfl
theorem a6o(T:String)(p:PV):a3B T (.val p)=bif a9i p then none else some (.val (.bool (S8 T p))):=Eq.trans rfl rfl
theorem b5r(i:Str):a9i (.str i)=false:=Eq.trans rfl rfl
theorem a6z(ps:List PV):a9i (.list ps)=false:=Eq.trans rfl rfl
theorem b4B{α:Type}(a b:α):(bif false then a else b)=b:=Eq.trans rfl rfl
theorem b1S(p:PV):(d7.val p).rd=p:=Eq.trans rfl rfl
def c1E(tbl:List (g0×PV))(r:d7):Option d7:=(b0q r.rd).bind fun k=>(U0 tbl k).map .val
theorem b5U(tbl:List (g0×PV))(m:M)(ρ:c7):b9O tbl m ρ=(m ρ).bind (c1E tbl):=Eq.trans rfl rfl
theorem c0B(tbl:List (g0×PV))(x:Str):c1E tbl (.val (.str x))=(U0 tbl (.inr x)).map .val:=Eq.trans rfl rfl
def c0G(is:List Nat)(ρ:c7):d7->Option Fl
 | .val (.tuple ps)=>if ps.length=is.length then some (.nx (setAll ρ is (ps.map .val))) else none
 |_=>none
theorem b5V(is:List Nat)(m:M)(ρ:c7):b7Q is m ρ=(m ρ).bind (c0G is ρ):=Eq.trans rfl rfl
theorem c0H(i j:Nat)(ρ:c7)(p q:PV):c0G [i,j] ρ (.val (.tuple [p,q]))=some (.nx ((ρ.set i (some (.val p))).set j (some (.val q)))):=Eq.trans rfl rfl
theorem c0I(i j k:Nat)(ρ:c7)(p q r:PV):c0G [i,j,k] ρ (.val (.tuple [p,q,r]))=some (.nx (((ρ.set i (some (.val p))).set j (some (.val q))).set k (some (.val r)))):=Eq.trans rfl rfl
theorem p7(it:MI)(tg:PV->c7->Option c7)(body:MS)(ρ:c7):P3 it tg body ρ=(it ρ).bind fun ps=>B5 body tg ps ρ:=Eq.trans rfl rfl
def b8U:List PV->Option (List PV)
 |[.int j]=>if inR j=true then some (P9 0 j) else none
 |_=>none
theorem y9(m:MA)(ρ:c7):B0 m ρ=(m ρ).bind b8U:=Eq.trans rfl rfl
theorem K2{j:Int}(h: -4611686018427387904<=j/\j<4611686018427387904):b8U [.int j]=some (P9 0 j):=by
 show(if inR j=true then some (P9 0 j) else none)=_
 rw [if_pos (a9h.mpr (by lia))]
theorem c05(i j:Int):gNe (.val (.int i)) (.val (.int j))=some (.val (.bool (!(i==j)))):=Eq.trans rfl rfl
theorem a8o(i j:Int):gEq (.val (.int i)) (.val (.int j))=some (.val (.bool (i==j))):=Eq.trans rfl rfl
theorem a1S{p:PV}(h:n4 p 50=true):gNe (.val p) (.val p)=some (.val (.bool false)):=by
 rw [b1l (x:= .val p) (y:= .val p) ⟨h,h⟩,b1S,b0i p 50 h]
 rfl
theorem sz(n:Nat):(n<=AL)=(n<=16777216):=by rw [sizeLine_eq]
end PU
namespace L2
open PySem PySem.Spec PyProof.Rows
theorem D7:∀(names:List (Str×NameKind)) (n:Nat) (acc:List (Str×AB)),cellsFrom n names acc=cellsFrom n names []++acc
 |[],_,_=>rfl
 |(x,k)::r,n,acc=>by
  unfold cellsFrom
  split
  ·rw [D7 r (n+1) ((x,n)::acc),D7 r (n+1) [(x,n)],List.append_assoc];rfl
  ·exact D7 r n acc
theorem N4:∀{names:List (Str×NameKind)} {n:Nat} {x:Str} {c:AB},(x,c)∈cellsFrom n names []->n<=c/\(x,NameKind.cell)∈names
 |[],_,_,_,h=>nomatch h
 |(y,k)::r,n,x,c,h=>by
  unfold cellsFrom at h
  split at h
  ·rename_i hk
   rw [D7] at h
   rcases Ar.mp h with h|h
   ·obtain⟨a,b⟩:=N4 h
    exact⟨by lia,Ac _ b⟩
   ·have e:(x,c)=(y,n):=by simpa using h
    cases e
    have:k= .cell:=by simpa using hk
    subst this
    exact⟨AM _,AX⟩
  ·obtain⟨a,b⟩:=N4 h
   exact⟨a,Ac _ b⟩
theorem a6J{α:Type}:∀{l:List (Str×α)} {x:Str},(∀c,(x,c)∉l)->l.lookup x=none:=fun {l x} h=>by
 cases e:l.lookup x with
 |none=>rfl
 |some c=>exact absurd (PySem.mem_of_lookup e) (h c)
theorem a2S{α:Type}:∀{l r:List (Str×α)} {x:Str},l.lookup x=none->(l++r).lookup x=r.lookup x
 |[],_,_,_=>rfl
 |(y,v)::l,r,x,h=>by
  rw [Al,List.lookup_cons]
  rw [List.lookup_cons] at h
  cases e:x==y with
  |true=>rw [e] at h;cases h
  |false=>rw [e] at h;exact a2S h
def T8(cells:List (Str×AB)):List (Str×NameKind)->List (Str×AB)->List (Str×AB)
 |[],acc=>acc
 |(x,k)::r,acc=>if k== .free then T8 cells r ((x,(cells.lookup x).getD 0)::acc) else T8 cells r acc
theorem a4a{cells:List (Str×AB)}:∀{names:List (Str×NameKind)} {acc:List (Str×AB)} {x:Str} {c:AB},(x,c)∈T8 cells names acc->(x,c)∈acc\/((x,NameKind.free)∈names/\c=(cells.lookup x).getD 0)
 |[],_,_,_,h=> .inl h
 |(y,k)::r,acc,x,c,h=>by
  unfold T8 at h
  split at h
  ·rename_i hk
   rcases a4a h with h|⟨h1,h2⟩
   ·rcases AV.mp h with e|h
    ·cases e
     have:k= .free:=by simpa using hk
     subst this
     exact .inr ⟨AX,rfl⟩
    ·exact .inl h
   ·exact .inr ⟨Ac _ h1,h2⟩
  ·rcases a4a h with h|⟨h1,h2⟩
   ·exact .inl h
   ·exact .inr ⟨Ac _ h1,h2⟩
theorem a1I{cells:List (Str×AB)}:∀{names:List (Str×NameKind)} {acc:List (Str×AB)} {x:Str},x∉names.map (·.1)->(T8 cells names acc).lookup x=acc.lookup x
 |[],_,_,_=>rfl
 |(y,k)::r,acc,x,h=>by
  have h':¬(x=y)/\x∉r.map (·.1):=by simpa using h
  unfold T8
  split
  ·rw [a1I h'.2,List.lookup_cons]
   have e:(x==y)=false:=by simpa using h'.1
   rw [e]
  ·exact a1I h'.2
theorem a01{cells:List (Str×AB)}:∀{names:List (Str×NameKind)} {acc:List (Str×AB)} {x:Str},(names.map (·.1)).Nodup->names.lookup x=some .free->(T8 cells names acc).lookup x=some ((cells.lookup x).getD 0)
 |[],_,_,_,h=>by cases h
 |(y,k)::r,acc,x,nd,h=>by
  have nd':y∉r.map (·.1)/\(r.map (·.1)).Nodup:=List.nodup_cons.mp nd
  rw [List.lookup_cons] at h
  unfold T8
  cases e:x==y with
  |true=>
   rw [e] at h
   have hk:k= .free:=by simpa using h
   subst hk
   have exy:x=y:=by simpa using e
   subst exy
   rw [if_pos (show(NameKind.free==NameKind.free)=true from rfl),a1I nd'.1,List.lookup_cons,e]
  |false=>
   rw [e] at h
   split
   ·exact a01 nd'.2 h
   ·exact a01 nd'.2 h
theorem a0p{env:Env}(f:Str×NameKind->List (Str×AB)->Sem (ForInStep (List (Str×AB))))(hf:∀x k cs,f (x,k) cs=if k== .free then(do let c<-cellOf env x;pure (.yield ((x,c)::cs))) else pure (.yield cs)):
 ∀(names:List (Str×NameKind)) (acc:List (Str×AB)),(∀x∈names,x.2= .free->(env.cells.lookup x.1).isSome=true)->forIn names acc f=pure (T8 env.cells names acc)
 |[],acc,_=>rfl
 |(x,k)::r,acc,h=>by
  rw [List.forIn_cons,hf]
  unfold T8
  have hr:=fun y hy=>h y (Ac _ hy)
  split
  ·rename_i hk
   have:=h (x,k) AX (by simpa using hk)
   obtain⟨c,hc⟩:=Option.isSome_iff_exists.mp this
   unfold cellOf
   rw [hc]
   show forIn r ((x,c)::acc) f=_
   exact a0p f hf r _ hr
  ·exact a0p f hf r acc hr
theorem a7J{scope:Scope}{env:Env}(h:∀x∈scope.names,x.2= .free->(env.cells.lookup x.1).isSome=true):closureFor scope env=pure (T8 env.cells scope.names []):=by
 unfold closureFor
 have e:=a0p (env:=env) (fun(x:Str×NameKind) (cs:List (Str×AB))=>if x.2== .free then(do let c<-cellOf env x.1;pure (.yield ((x.1,c)::cs))) else pure (.yield cs)) (fun _ _ _=>rfl) scope.names [] h
 show(forIn scope.names [] _>>=fun r=>pure r)=_
 refine Eq.trans (congrArg (· >>=fun r=>pure r) (Eq.trans (congrArg (forIn scope.names []) ?_) e)) rfl
 funext x cs
 cases x with
 |mk n k=>cases k<;>rfl
theorem a2b{env:Env}{x:Str}:∀{names:List (Str×NameKind)},(names.map fun(p:Str×NameKind)=>if(p.2==NameKind.free && env.scope.kind== .function && env.kindOf p.1==some .cell) then(p.1,NameKind.cell) else(p.1,p.2)).lookup x
 =(names.lookup x).map fun k=>if(k==NameKind.free && env.scope.kind== .function && env.kindOf x==some .cell) then NameKind.cell else k
 |[]=>rfl
 |(n,k)::r=>by
  rw [AK]
  have ih:= @a2b env x r
  show List.lookup x ((if(k==NameKind.free && env.scope.kind== .function && env.kindOf n==some .cell)=true then(n,NameKind.cell) else(n,k))::_)=_
  cases hx:x==n with
  |true=>
   have e:x=n:=by simpa using hx
   subst e
   by_cases c:(k==NameKind.free && env.scope.kind== .function && env.kindOf x==some .cell)=true
   ·rw [if_pos c,List.lookup_cons,hx,List.lookup_cons,hx];exact congrArg some (if_pos c).symm
   ·rw [if_neg c,List.lookup_cons,hx,List.lookup_cons,hx];exact congrArg some (if_neg c).symm
  |false=>
   by_cases c:(k==NameKind.free && env.scope.kind== .function && env.kindOf n==some .cell)=true
   ·rw [if_pos c,List.lookup_cons,hx,List.lookup_cons,hx];exact ih
   ·rw [if_neg c,List.lookup_cons,hx,List.lookup_cons,hx];exact ih
def M8(scope:Scope)(C:AB)(env:Env):Env:=
 {scope:=relabel scope env,locals:=C,globals:=env.globals,cells:=cellsFrom (C+1) scope.names (T8 env.cells scope.names []),qual:=env.qual,func:=none,code:=env.code,frame:=env.frame,builtins:=env.builtins}
def hid(ys:List Str)(x:Str):Str:=if ys.contains x=true then AS "0"++x else x
def m6(X:Cx)(N0:List Str)(scope:Scope)(ys:List Str)(C:AB)(fp:List AB)(pins:List (AB×Obj))(s₃:AC)(H₃:Hp):Cx:=
 {X with N:=N0++ys,s₀:=s₃,H₀:=H₃,env:=M8 scope C X.env,outer:=X.stack,ex:=fp,fn:=fun x=>scope.names.lookup x==some .cell,pn:=X.pn++pins}
theorem W4{scope:Scope}{C:AB}{env:Env}{x:Str}:(M8 scope C env).kindOf x=(scope.names.lookup x).map fun k=>if(k==NameKind.free && env.scope.kind== .function && env.kindOf x==some .cell) then NameKind.cell else k:=
 a2b
structure A4(N N0 ys:List Str)(env:Env)(scope:Scope):Prop where
 eq:N0=N.map (hid ys)
 kind:scope.kind= .function
 nd:(scope.names.map (·.1)).Nodup
 fr:∀x∈scope.names,x.2= .free->env.kindOf x.1=some .cell\/env.kindOf x.1=some .free
 ou:∀x∈N,(ys.contains x=true->scope.names.lookup (hid ys x)=none)/\(ys.contains x=false->scope.names.lookup x=none\/scope.names.lookup x=some .free\/scope.names.lookup x=some .globalImplicit)
theorem C2{α:Type}:∀{l:List (Str×α)} {x:Str} {v:α},(l.map (·.1)).Nodup->(x,v)∈l->l.lookup x=some v
 |[],_,_,_,h=>nomatch h
 |(y,w)::r,x,v,nd,h=>by
  have nd':y∉r.map (·.1)/\(r.map (·.1)).Nodup:=List.nodup_cons.mp nd
  rw [List.lookup_cons]
  rcases AV.mp h with e|h
  ·cases e;simp
  ·have:x≠y:=fun e=>nd'.1 (by rw [<-e];exact AZ.mpr ⟨_,h,rfl⟩)
   have e:(x==y)=false:=by simpa using this
   rw [e]
   exact C2 nd'.2 h
section
variable {M:Model}{A:AR}{E:AA->AC->Prop}{s:AC}
theorem a2C{scope:Scope}{globals:AB}{cl:List (Str×AB)}{qual:Str}{env:Env}{builtins:AB}{Q:Env->AC->Prop}
 (h:Q (newEnv scope s.heap.objs.size globals (cellsFrom (s.heap.objs.size+1) scope.names cl) qual none .none (some env) builtins) {s with heap:=pushCells (s.heap.push {cls:= .type "dict",data:= .dict #[]}) scope.names}):
 AG M A (newFunctionEnv scope globals cl [] qual none .none (some env) builtins) Q E s:=by
 simp only [newFunctionEnv,Option.isSome_some,if_true]
 refine AE (wpAny_alloc ?_)
 refine AE (wpAny_layCells _ (fun name kind cells=>by cases hkc:kind==NameKind.cell<;>simp [hkc]) _ _ _ _ ?_)
 rw [show({s with heap:=s.heap.push {cls:= .type "dict",data:= .dict #[]}}:AC).heap.objs.size=s.heap.objs.size+1 from Heap.size_push ..]
 exact AE (AJ (AJ h))
end
section
variable {prog:AN}{w:AI}{A:AR}{R:Result->AC->Prop}{s:AC}
theorem a2A{elt target iter:AF}{ifs:List AF}{scope:Scope}{pos:Pos}{it acc:AA}{env:Env}(I:Nat->AC->Prop)
 (turn:∀n s,I n s->AG (model prog w) A (pyNext it) (fun r s₁=>match r with
  |none=>R (.ok .next) s₁
  |some v=>AG (model prog w) A (letOwnedTupleGo target it v) (fun _ s₁'=>AG (model prog w) A (assign target env v) (fun _ s₂=>
   AG (model prog w) A (forIn ifs true fun c r=>if r=true then do let ok<-isTrue c env (eval c env);pure (ForInStep.yield ok) else pure (ForInStep.yield r)) (fun ok s₃=>
    if ok=true then AG (model prog w) A (eval elt env) (fun x s₄=>
     AG (model prog w) A (call (.builtin "list.append") [acc,x]) (fun _ s₅=>∃m,m<n/\I m s₅) (fun _ _=>False) s₄) (fun _ _=>False) s₃
    else ∃m,m<n/\I m s₃) (fun _ _=>False) s₂) (fun _ _=>False) s₁') (fun _ _=>False) s₁) (fun _ _=>False) s)
 (n:Nat) (h:I n s):
 codeAny (model prog w) A (.compLoop (.ListComp elt [⟨target,iter,ifs,0⟩] scope pos) 0 it acc env) R s:=by
 refine codeAny_loop rfl I (fun n s hI=> ?_) n h
 show AG _ A ((compTurn (.ListComp elt [⟨target,iter,ifs,0⟩] scope pos) 0 it acc env).onRaise (fun x=>do noteFrame x env;theTreesLotGoes x)) _ _ s
 refine wpAny_noted ?_
 rw [compTurn_list]
 refine AE (wpAny_standAt (AE (wpAny_mono (turn n s hI) (fun r s₁ h₁=> ?_) fun _ _ h'=>h'.elim)))
 cases r with
 |none=>exact AJ h₁
 |some v=>
  refine AE (wpAny_mono h₁ (fun _ s₁' h₁'=> ?_) fun _ _ h'=>h'.elim)
  refine AE (wpAny_mono h₁' (fun _ s₂ h₂=>AE (wpAny_mono h₂ (fun ok s₃ h₃=> ?_) fun _ _ h'=>h'.elim)) fun _ _ h'=>h'.elim)
  cases ok with
  |false=>exact AJ ⟨rfl,h₃⟩
  |true=>
   exact AE (AE (wpAny_mono h₃ (fun x s₄ h₄=>AE (wpAny_mono h₄ (fun _ s₅ h₅=>AJ (AJ ⟨rfl,h₅⟩)) fun _ _ h'=>h'.elim)) fun _ _ h'=>h'.elim))
end
def PCs(X:Cx)(ifs:List AF)(t:TT):Prop:=
 ∀(pins:List (AB×Obj)) (s:AC) (σ:St) (H:Hp) (Q:Bool->Hp->Prop),g9 X pins σ H s->t σ H Q->
  AG (model X.prog X.w) X.A (forIn ifs true fun c r=>if r=true then do let ok<-isTrue c X.env (eval c X.env);pure (ForInStep.yield ok) else pure (ForInStep.yield r)) (TP X pins σ Q) X.xe s
def b8W:TT:=fun _ H Q=>Q true H
theorem b2E{X:Cx}:PCs X [] b8W:=fun pins s σ H Q I h=>wpAny_tests_nil ⟨H,I,h⟩
theorem b2F{X:Cx}{c:AF}{t:TT}(h:PT X c t):PCs X [c] t:=fun pins s σ H Q I hq=>wpAny_tests_one (h pins s σ H Q I hq)
def b2X(wi:TI)(g:TG)(tc:TT)(te:TE)(k:Nat):TE:=fun σ H Q=>wi σ H fun J H1=>∀D,H1 D=none->∃W:Nat->Nat->List V->Hp->Prop,(∃m,W 0 m [] (upd H1 D (.lst [])))/\∀i m xs H2,W i m xs H2->H2 D=some (.lst xs)->
 (J.stop i H2/\Q (.ref D) H2)\/(J.go i H2/\∀x H3,J.yld i H2 x H3->g x (σ++AW k none) H3 fun σ4 H4=>(∀(j:Nat) v,(σ++AW k none)[j]?=some (some v)->σ4[j]?=some (some v))/\tc σ4 H4 fun b H5=>if b=true then te σ4 H5 fun v H6=>H6 D=some (.lst xs)/\xs.length<AL/\∃m',m'<m/\W (i+1) m' (xs++[v]) (upd H6 D (.lst (xs++[v])))
  else H5 D=some (.lst xs)/\∃m',m'<m/\W (i+1) m' xs H5)
section
variable {X:Cx}{elt iter tg:AF}{ifs:List AF}{scope:Scope}{N0 ys:List Str}{wi:TI}{g:TG}{tc:TT}{te:TE}{pos:Pos}
theorem a08{pins:List (AB×Obj)}{σ:St}{H:Hp}{s:AC}(I:g9 X pins σ H s)(S:A4 X.N N0 ys X.env scope){x:Str}(h:(x,NameKind.free)∈scope.names):∃c,X.env.cells.lookup x=some c:=I.ok.has x (S.fr _ h rfl)
theorem b1f{pins:List (AB×Obj)}{σ:St}{H:Hp}{s:AC}{fp:List AB}(S:A4 X.N N0 ys X.env scope)(I:g9 X pins σ H s)(hf:∀b∈fp,a38 X pins H b)(ho:∀b∈fp,∃o,s.heap.get? b=some o/\∀v,o.data≠.cell v):
 g9 (m6 X N0 scope ys s.heap.objs.size fp pins s H) [] (σ++AW ys.length none) H {s with heap:=pushCells (s.heap.push {cls:= .type "dict",data:= .dict #[]}) scope.names}:=by
 have up:∀b o,s.heap.get? b=some o->(pushCells (s.heap.push {cls:= .type "dict",data:= .dict #[]}) scope.names).get? b=some o:=fun b o e=>pushCells_keeps _ _ b o (AY _ e)
 have okc:=cellsFrom_ok scope.names (s.heap.push {cls:= .type "dict",data:= .dict #[]}) (s.heap.objs.size+1) [] ⟨fun _ _ hm=>(nomatch hm),List.Pairwise.nil⟩ (by rw [Heap.size_push];exact AM _)
 rw [Heap.size_push] at okc
 have cel:∀x c,(M8 scope s.heap.objs.size X.env).cells.lookup x=some c->((x,c)∈cellsFrom (s.heap.objs.size+1) scope.names []/\(x,NameKind.cell)∈scope.names/\s.heap.objs.size<c)\/(X.env.cells.lookup x=some c/\(x,NameKind.free)∈scope.names):=fun x c e=>by
  have m:=PySem.mem_of_lookup e
  have m:(x,c)∈cellsFrom (s.heap.objs.size+1) scope.names (T8 X.env.cells scope.names []):=m
  rw [D7] at m
  rcases Ar.mp m with m|m
  ·obtain⟨h1,h2⟩:=N4 m
   exact .inl ⟨m,h2,h1⟩
  ·rcases a4a m with m|⟨m,e⟩
   ·exact nomatch m
   ·obtain⟨c',hc'⟩:=a08 I S m
    rw [hc'] at e
    exact .inr ⟨by rw [hc',e];rfl,m⟩
 have celLt:∀x c,X.env.cells.lookup x=some c->c<s.heap.objs.size:=fun x c e=>let ⟨_,h⟩:=I.cell x c e;h.lt
 have fpLt:∀b∈fp,b<s.heap.objs.size:=fun b hb=>let ⟨_,e,_⟩:=ho b hb;Ad e
 have cellNo:∀x,(x,NameKind.cell)∉scope.names->(cellsFrom (s.heap.objs.size+1) scope.names []).lookup x=none:=fun x hx=>a6J fun c m=>hx (N4 m).2
 have look:∀x,(x,NameKind.free)∈scope.names->(M8 scope s.heap.objs.size X.env).cells.lookup x=X.env.cells.lookup x:=fun x m=>by
  have hl:=C2 S.nd m
  have hn:(x,NameKind.cell)∉scope.names:=fun z=>by
   have:=C2 S.nd z
   rw [hl] at this;cases this
  show(cellsFrom (s.heap.objs.size+1) scope.names (T8 X.env.cells scope.names [])).lookup x=_
  rw [D7,a2S (cellNo x hn),a01 S.nd hl]
  obtain⟨c,hc⟩:=a08 I S m
  rw [hc];rfl
 have kindF:∀x,scope.names.lookup x=some .free->X.env.kindOf x=some .cell\/X.env.kindOf x=some .free:=fun x h=>S.fr _ (PySem.mem_of_lookup h) rfl
 refine⟨⟨I.mod,S.kind,I.ok.glob,I.ok.blt,AM _,fun x y c h1 h2=> ?_,fun x h=> ?_,fun x c h1 h2=> ?_,I.ok.hd,I.ok.frames,.inl rfl,fun b hb=> ?_,I.bs,Nat.le_trans I.ok.bsz I.sz,fun b o e hb=> ?_,fun b hb hz=> ?_,I.stack,I.stkFree⟩,
  rfl,I.bare,Un.kept up,⟨fun _=>none, ?_,fun i x v h1 h2 h3=> ?_⟩,fun x c e=> ?_,I.hok.fresh (AM _),fun x c e=> ?_,fun p hp=> ?_,I.hok.kept up, ?_⟩
 ·rcases cel x c h1 with⟨a1,b1,c1⟩|⟨a1,b1⟩
  ·rcases cel y c h2 with⟨a2,b2,c2⟩|⟨a2,b2⟩
   ·exact name_of_addr okc.apart a1 a2
   ·exact absurd (Nat.lt_trans c1 (celLt y c a2)) (Nat.lt_irrefl _)
  ·rcases cel y c h2 with⟨a2,b2,c2⟩|⟨a2,b2⟩
   ·exact absurd (Nat.lt_trans c2 (celLt x c a1)) (Nat.lt_irrefl _)
   ·exact I.ok.inj x y c a1 a2
 ·have hk:(M8 scope s.heap.objs.size X.env).kindOf x=some .cell\/(M8 scope s.heap.objs.size X.env).kindOf x=some .free:=h
  rw [W4] at hk
  cases e:scope.names.lookup x with
  |none=>rw [e] at hk;rcases hk with z|z<;>cases z
  |some k=>
   rw [e] at hk
   have hk':k= .cell\/k= .free:=by
    by_cases c:(k==NameKind.free && X.env.scope.kind== .function && X.env.kindOf x==some .cell)=true
    ·have:(k==NameKind.free)=true:=by
      rw [Bool.and_eq_true,Bool.and_eq_true] at c;exact c.1.1
     exact .inr (by simpa using this)
    ·simp only [BE] at hk
     rw [if_neg c] at hk
     rcases hk with z|z
     ·cases z;exact .inl rfl
     ·cases z;exact .inr rfl
   rcases hk' with rfl|rfl
   ·have q:=PySem.W.cellsFrom_some (x:=x) scope.names (s.heap.objs.size+1) (T8 X.env.cells scope.names []) (.inl e)
    exact Option.isSome_iff_exists.mp q
   ·obtain⟨c,hc⟩:=a08 I S (PySem.mem_of_lookup e)
    exact⟨c,by show(M8 scope s.heap.objs.size X.env).cells.lookup x=_;rw [look x (PySem.mem_of_lookup e)];exact hc⟩
 ·rcases cel x c h2 with⟨_,_,c1⟩|⟨_,b1⟩
  ·exact BF c1
  ·have h1':(scope.names.lookup x==some .cell)=true:=h1
   rw [C2 S.nd b1] at h1'
   cases h1'
 ·refine⟨Aj (fpLt b hb),fun x c e z=> ?_⟩
  rcases cel x c e with⟨_,_,c1⟩|⟨a1,_⟩
  ·rw [z] at c1;exact absurd (Nat.lt_trans c1 (fpLt b hb)) (Nat.lt_irrefl _)
  ·exact(hf b hb).2.2.2.2.1 x c a1 z
 ·have hb:b∈fp:=hb
  rcases(hf b hb).2.2.2.1 with z|z
  ·exact I.ok.noex b o e z
  ·have h1:=(I.ok.bs b o e).1
   have:=Ad h1
   exact absurd (BB this z) (Nat.lt_irrefl _)
 ·have hb:b∈fp:=hb
  have hz:b∈frs X.stack:=hz
  rcases AV.mp (I.stkSub b hz) with z|z
  ·exact(hf b hb).2.1 z
  ·exact(hf b hb).2.2.1 z
 ·exact(Heap.Ns.new s.heap (.type "dict")).keeps (pushCells_keeps _ _)
 ·have h1:(N0++ys)[i]?=some x:=h1
  rw [S.eq] at h1
  have hi:i<σ.length:=by
   by_cases hi:i<σ.length
   ·exact hi
   ·rw [List.getElem?_append_right (by lia),List.getElem?_replicate] at h2
    split at h2<;>cases h2
  rw [BA hi] at h2
  rw [BA (by rw [AO,<-I.len];exact hi),Ak] at h1
  have hvis:Vis (M8 scope s.heap.objs.size X.env).scope x:=h3
  have hkn:scope.names.lookup x=none->False:=fun z=>by
   have hk:∀k,(M8 scope s.heap.objs.size X.env).kindOf x=some k->scope.names.lookup x≠none:=fun k z e=>by
    rw [W4,e] at z;cases z
   rcases hvis with e|e|e<;>exact absurd z (hk _ e)
  have h1:X.N[i]?=some x/\ys.contains x=false:=by
   cases e0:X.N[i]? with
   |none=>rw [e0] at h1;cases h1
   |some x0=>
    rw [e0] at h1
    have h1:hid ys x0=x:=Option.some.inj h1
    have ho:=S.ou x0 (BD e0)
    cases hc:ys.contains x0 with
    |true=>exact(hkn (by rw [<-h1];exact ho.1 hc)).elim
    |false=>
     have hx:x0=x:=by rw [<-h1];unfold hid;rw [if_neg (by rw [hc];exact At)]
     subst hx
     exact⟨rfl,hc⟩
  obtain⟨h1,hys⟩:=h1
  have hfree:scope.names.lookup x=some .free:=by
   have hk:∀k,(M8 scope s.heap.objs.size X.env).kindOf x=some k->scope.names.lookup x≠none:=fun k z e=>by
    rw [W4,e] at z;cases z
   rcases(S.ou x (BD h1)).2 hys with z|z|z
   ·rcases hvis with e|e|e<;>exact absurd z (hk _ e)
   ·exact z
   ·have hg:(M8 scope s.heap.objs.size X.env).kindOf x=some .globalImplicit:=by
     rw [W4,z];rfl
    rcases hvis with e|e|e
    ·have e:(M8 scope s.heap.objs.size X.env).kindOf x=some .local:=e
     rw [hg] at e;cases e
    ·have e:(M8 scope s.heap.objs.size X.env).kindOf x=some .cell:=e
     rw [hg] at e;cases e
    ·have e:(M8 scope s.heap.objs.size X.env).kindOf x=some .free:=e
     rw [hg] at e;cases e
  obtain⟨m,hn,hl⟩:=I.loc
  have hv:Vis X.env.scope x:=by
   rcases kindF x hfree with z|z
   ·exact .inr (.inl z)
   ·exact .inr (.inr z)
  obtain⟨u,r,l⟩:=hl i x v h1 h2 hv
  refine⟨u,r, ?_⟩
  rcases l with⟨k,_⟩|⟨k,c,e,z⟩
  ·rcases kindF x hfree with q|q<;>rw [q] at k<;>cases k
  ·refine .inr ⟨?_,c,by show(M8 scope s.heap.objs.size X.env).cells.lookup x=_;rw [look x (PySem.mem_of_lookup hfree)];exact e,z.keeps up⟩
   show(M8 scope s.heap.objs.size X.env).kindOf x=some .cell\/(M8 scope s.heap.objs.size X.env).kindOf x=some .free
   rw [W4,hfree]
   by_cases cc:((NameKind.free==NameKind.free)&& X.env.scope.kind== .function && X.env.kindOf x==some .cell)=true
   ·exact .inl (congrArg some (if_pos cc))
   ·exact .inr (congrArg some (if_neg cc))
 ·rcases cel x c e with⟨a1,_,_⟩|⟨a1,_⟩
  ·exact⟨none,(okc.empty x c a1).1⟩
  ·obtain⟨v,z⟩:=I.cell x c a1
   exact⟨v,z.keeps up⟩
 ·rcases cel x c e with⟨_,_,c1⟩|⟨a1,_⟩
  ·exact I.hok.fresh (BF c1)
  ·exact I.freeC x c a1
 ·have hp:p∈(X.pn++pins)++[]:=hp
  rw [Aq] at hp
  obtain⟨e,n,ne,nf,d⟩:=I.pin p hp
  refine⟨up _ _ e,n,Aj (Ad e),fun hz=> ?_,d⟩
  have hz:p.1∈frs X.stack:=hz
  rcases AV.mp (I.stkSub p.1 hz) with z|z
  ·exact ne z
  ·exact nf z
 ·show(σ++AW ys.length none).length=(N0++ys).length
  rw [Ai,List.length_replicate,Ai,S.eq,AO,I.len]
end
section
variable {X:Cx}{elt iter tg:AF}{ifs:List AF}{scope:Scope}{N0 ys:List Str}{wi:TI}{g:TG}{tc:TT}{te:TE}{pos:Pos}
def b4k(X:Cx)(pins:List (AB×Obj))(C:AB):Prop:=C≠X.env.locals/\X.s₀.heap.objs.size<=C/\(∀x c,X.env.cells.lookup x=some c->c≠C)/\∀p∈X.pn++pins,p.1≠C
theorem a8f{pos':Pos}{use:Option (AA->Sem Unit)}{QQ:AA->AC->Prop}(hx:∀e s,X.xe e s->False)(hc:X.calm=true)(S:A4 X.N N0 ys X.env scope)(hi:PI X tg iter wi)
 (hg:∀C fp pins s H,PG (m6 X N0 scope ys C fp pins s H) tg g) (ht:∀C fp pins s H,PCs (m6 X N0 scope ys C fp pins s H) ifs tc) (he:∀C fp pins s H,PE (m6 X N0 scope ys C fp pins s H) elt te)
 (hs:∀x,foldedSetIterable iter X.env x=pure x) {pins:List (AB×Obj)} {s:AC} {σ:St} {H:Hp} {Q:VK} (I:g9 X pins σ H s) (h:b2X wi g tc te ys.length σ H Q)
 (fin:∀D C s' H' m,g9 X pins σ H' s'->s'.heap.Ns C m->H' C=none->b4k X pins C->Q (.ref D) H'->compPost (model X.prog X.w) X.A X.xe use QQ (.ref D) C (.ok .next) s'):
 AG (model X.prog X.w) X.A (comprehension (.ListComp elt [⟨tg,iter,ifs,0⟩] scope pos) scope X.env pos' (newList []) false (eval iter X.env) use) QQ X.xe s:=by
 have hcl:closureFor scope X.env=pure (T8 X.env.cells scope.names []):=a7J fun x hx' hk=>by
  obtain⟨c,e⟩:=a08 (ys:=ys) I S (x:=x.1) (by rw [<-hk];exact hx')
  rw [e];rfl
 refine wpAny_comprehension_free (use:=use) rfl hs hcl S.kind (fun x hx' hk=>C2 S.nd (by rw [<-hk];exact hx')) (F8 (hi pins s σ H _ I h) fun v s1 h1=>F8 h1 fun itv s2 h2=> ?_)
 obtain⟨it,fp,tn,J,H2,e,I2,T,st2,f2,hW⟩:=h2
 subst e
 have hfr:=I2.hok.fresh (AM _)
 obtain⟨W,⟨m0,w0⟩,turn⟩:=hW s2.heap.objs.size hfr
 have fpLt:∀b∈fp,b<s2.heap.objs.size:=fun b hb=>let ⟨_,e,_⟩:=T.obj _ _ st2 b hb;Ad e
 refine wpAny_newObj_type ?_
 have I3:g9 X pins σ (upd H2 s2.heap.objs.size (.lst [])) {s2 with heap:=s2.heap.push {cls:= .type "list",data:= .seq ([]:List AA).toArray}}:=
  I2.laid (t':=s2.toks) (fun b o e=>AY _ e) (AM _) ⟨by decide,[],0,.nil,An _ rfl⟩
 have up3:∀b o,s2.heap.get? b=some o->(s2.heap.push {cls:= .type "list",data:= .seq ([]:List AA).toArray}).get? b=some o:=fun b o e=>AY _ e
 have st3:tn 0 (s2.heap.push {cls:= .type "list",data:= .seq ([]:List AA).toArray}):=T.keep _ _ _ st2 fun b _ o e=>up3 b o e
 have f3:∀b∈fp,a38 X pins (upd H2 s2.heap.objs.size (.lst [])) b:=fun b hb=>⟨by rw [d8 (Aj (fpLt b hb))];exact(f2 b hb).1,(f2 b hb).2⟩
 generalize hs3:({s2 with heap:=s2.heap.push {cls:= .type "list",data:= .seq ([]:List AA).toArray}}:AC)=s3 at I3
 have hs3h:s3.heap=s2.heap.push {cls:= .type "list",data:= .seq ([]:List AA).toArray}:=by rw [<-hs3]
 rw [<-hs3h] at st3 up3
 refine a2C ?_
 have I4:=b1f S I3 f3 (T.obj _ _ st3)
 generalize hs4:({s3 with heap:=pushCells (s3.heap.push {cls:= .type "dict",data:= .dict #[]}) scope.names}:AC)=s4 at I4 ⊢
 have hs4h:s4.heap=pushCells (s3.heap.push {cls:= .type "dict",data:= .dict #[]}) scope.names:=by rw [<-hs4]
 have st4:tn 0 s4.heap:=T.keep _ _ _ st3 fun b _ o e=>by rw [hs4h];exact pushCells_keeps _ _ b o (AY _ e)
 generalize hX:m6 X N0 scope ys s3.heap.objs.size fp pins s3 (upd H2 s2.heap.objs.size (.lst []))=Y at I4
 have Yp:Y.prog=X.prog:=by rw [<-hX];rfl
 have Yw:Y.w=X.w:=by rw [<-hX];rfl
 have YK:Y.K=X.K:=by rw [<-hX];rfl
 have YA:Y.A=X.A:=by rw [<-hX];rfl
 have Yc:Y.calm=true:=by rw [<-hX];exact hc
 have Yx:Y.xe=X.xe:=by rw [<-hX];rfl
 have YL:Y.env.locals=s3.heap.objs.size:=by rw [<-hX];rfl
 have Yf:Y.fs=frs X.stack:=by rw [<-hX];rfl
 have Ye:Y.ex=fp:=by rw [<-hX];rfl
 have Yn:Y.pn=X.pn++pins:=by rw [<-hX];rfl
 have Ys:Y.s₀=s3:=by rw [<-hX];rfl
 have YH:Y.H₀=upd H2 s2.heap.objs.size (.lst []):=by rw [<-hX];rfl
 have YE:Y.env=M8 scope s3.heap.objs.size X.env:=by rw [<-hX];rfl
 have hgY:PG Y tg g:=by rw [<-hX];exact hg _ _ _ _ _
 have htY:PCs Y ifs tc:=by rw [<-hX];exact ht _ _ _ _ _
 have heY:PE Y elt te:=by rw [<-hX];exact he _ _ _ _ _
 have nlen:(σ++AW ys.length none).length=Y.N.length:=I4.len
 have exf:=I4.ok.exf
 have exfs:=I4.ok.exfs
 have stat:∀{H':Hp},(∀b∈fp,H' b=none)->∀b∈fp,a38 Y [] H' b:=fun {H'} hn b hb=>by
  have hb':b∈Y.ex:=by rw [Ye];exact hb
  refine⟨hn b hb,(exf b hb').1,exfs b hb',.inl hb',(exf b hb').2,fun p hp=> ?_⟩
  rw [Aq,Yn] at hp
  exact(f2 b hb).2.2.2.2.2 p hp
 have TY:b09 Y.prog Y.w Y.K tg J fp it tn:=by rw [Yp,Yw,YK];exact T
 have noX:∀e s,Y.xe e s->False:=fun e s h=>hx e s (by rw [<-Yx];exact h)
 have loop:∀R:Result->AC->Prop,(∀s' H' m,g9 X pins σ H' s'->s'.heap.Ns s3.heap.objs.size m->H' s3.heap.objs.size=none->b4k X pins s3.heap.objs.size->Q (.ref s2.heap.objs.size) H'->R (.ok .next) s')->
  codeAny (model X.prog X.w) X.A (.compLoop (.ListComp elt [⟨tg,iter,ifs,0⟩] scope pos) 0 (.ref it) (.ref s2.heap.objs.size) (M8 scope s3.heap.objs.size X.env)) R s4:=by
  intro R hR
  refine a2A (fun n s'=>∃i xs H' σ',g9 Y [] σ' H' s'/\(∀(j:Nat) v,(σ++AW ys.length none)[j]?=some (some v)->σ'[j]?=some (some v))/\tn i s'.heap/\(∀b∈fp,H' b=none)/\H' s2.heap.objs.size=some (.lst xs)/\W i n xs H') ?_ m0
   ⟨0,[],_,_,I4,fun _ _ e=>e,st4,fun b hb=>(f3 b hb).1,g5,w0⟩
  rintro n s5 ⟨i,xs,H5,σ5,I5,k5,st5,fr5,hD5,w5⟩
  have I5:g9 Y [] (σ++AW ys.length none) H5 s5:=I5.weak (by rw [nlen,I5.len]) k5
  rw [<-Yp,<-Yw,<-YA]
  rcases turn i n xs H5 w5 hD5 with⟨stop,q⟩|⟨go,step⟩
  ·refine wpAny_mono (TY.done Y rfl rfl rfl Yc i [] s5 _ H5 (fun _ _=>False) I5 (stat fr5) st5 stop) (fun r s6 ⟨hr,I6⟩=> ?_) fun _ _ z=>z
   subst hr
   obtain⟨m,hn,_⟩:=I6.loc
   have un:=I6.base
   rw [Yf,Ye,Ys,YH] at un
   rw [YL] at hn
   have hfC:=I6.free
   rw [YL] at hfC
   refine hR s6 H5 m (I3.call' (ch:=fp) (by rw [I6.os,Ys]) un (by have z:=I6.hok;rw [Yp,Yw] at z;exact z) I6.bare fun b hb=>⟨(f3 b hb).2.2.2.1,(f3 b hb).2.1,(f3 b hb).2.2.2.2.1,(f3 b hb).2.2.2.2.2⟩) hn hfC ⟨Nat.ne_of_gt I3.lt,I3.sz,fun x c e=> ?_,fun p hp=> ?_⟩ q
   ·obtain⟨v,z⟩:=I3.cell x c e
    exact Aj z.lt
   ·exact Aj (Ad (I3.pin p hp).1)
  ·refine wpAny_mono (TY.item Y rfl rfl rfl Yc i [] s5 _ H5 (fun _ _=>False) I5 (stat fr5) st5 go) (fun r s6 ⟨u,hr,h6⟩=> ?_) fun _ _ z=>z
   subst hr
   dsimp only
   refine wpAny_mono h6 (fun _ s7 ⟨x,H7,I7,r7,y7,st7,fr7⟩=> ?_) fun _ _ z=>z
   have I7':=I7.pinned (stat fr7) (T.obj _ _ st7)
   rw [<-YE]
   have keepT:∀{σ8:St} {H8:Hp} {s8:AC},g9 Y ([]++a64 fp s7.heap) σ8 H8 s8->tn (i+1) s8.heap/\∀b∈fp,H8 b=none:=fun {σ8 H8 s8} I8=>by
    refine⟨T.keep _ _ _ st7 fun b hb o e=>(I8.pin (b,o) (Az _ (Az _ (a1a hb e)))).1,fun b hb=> ?_⟩
    obtain⟨o,e,d⟩:=T.obj _ _ st7 b hb
    exact(I8.pin (b,o) (Az _ (Az _ (a1a hb e)))).2.1
   refine wpAny_mono (hgY _ s7 _ H7 x u _ I7' r7 (step x H7 y7)) (fun _ s8 ⟨σ8,H8,I8,k8,q8⟩=> ?_) fun e s z=>noX e s z
   refine wpAny_mono (htY _ s8 σ8 H8 _ I8 q8) (fun b s9 ⟨H9,I9,q9⟩=> ?_) fun e s z=>noX e s z
   cases b with
   |false=>
    rw [if_neg At] at q9 ⊢
    obtain⟨hD9,m',lt,w9⟩:=q9
    obtain⟨t9,n9⟩:=keepT I9
    exact⟨m',lt,i+1,xs,H9,σ8,I9.pins_of (fun p hp=>nomatch hp),k8,t9,n9,hD9,w9⟩
   |true=>
    rw [if_pos rfl] at q9 ⊢
    refine wpAny_mono (heY _ s9 σ8 H9 _ I9 q9) (fun y s10 ⟨v,H10,I10,r10,hD10,hz,m',lt,w10⟩=> ?_) fun e s z=>noX e s z
    refine wpAny_mono (a0L _ s10 σ8 H10 (.ref s2.heap.objs.size) [v] (.ref s2.heap.objs.size) [y] (fun _ H'=>H'=upd H10 s2.heap.objs.size (.lst (xs++[v]))) I10 rfl (.cons r10 .nil) ⟨_,xs,v,rfl,rfl,hD10,hz,rfl⟩) (fun _ s11 ⟨_,H11,I11,_,e11⟩=> ?_) fun e s z=>noX e s z
    subst e11
    obtain⟨t11,n11⟩:=keepT I11
    exact⟨m',lt,i+1,xs++[v],_,σ8,I11.pins_of (fun p hp=>nomatch hp),k8,t11,n11,g5,w10⟩
 show codeAny _ _ (.compStart _ 0 _ _ (M8 scope s3.heap.objs.size X.env)) _ _
 refine codeAny_compStart_list (loop _ fun s' H' m a b c d e=>fin _ _ s' H' m a b c d e) (T.self _ 0 _ _ _ st4 (loop _ fun s' H' m a b c d e=>fin _ _ s' H' m a b c d e))
end
section
variable {X:Cx}{elt iter tg:AF}{ifs:List AF}{scope:Scope}{N0 ys:List Str}{wi:TI}{g:TG}{tc:TT}{te:TE}{pos:Pos}
theorem a9E(hx:∀e s,X.xe e s->False)(hc:X.calm=true)(S:A4 X.N N0 ys X.env scope)(hi:PI X tg iter wi)
 (hg:∀C fp pins s H,PG (m6 X N0 scope ys C fp pins s H) tg g) (ht:∀C fp pins s H,PCs (m6 X N0 scope ys C fp pins s H) ifs tc) (he:∀C fp pins s H,PE (m6 X N0 scope ys C fp pins s H) elt te)
 (hs:∀x,foldedSetIterable iter X.env x=pure x:=by intro _;rfl):PE X (.ListComp elt [⟨tg,iter,ifs,0⟩] scope pos) (b2X wi g tc te ys.length):=by
 intro pins s σ H Q I h
 rw [eval_ListComp]
 refine a8f hx hc S hi hg ht he hs I h fun D C s' H' m I' hn hC gone q=>⟨m,hn,fun h' hs'=>⟨.ref D,H', ?_,rfl,q⟩⟩
 obtain⟨g1,g2,g3,g4⟩:=gone
 exact I'.turned (t':=s'.toks) (fun b o hb e=>hs'.extBut b o hb e) hC g1 (.inr g2) g3 g4
theorem b8b{i:Nat}{y:Str}{py spos:Pos}(hx:∀e s,X.xe e s->False)(hc:X.calm=true)(S:A4 X.N N0 ys X.env scope)(hi:PI X tg iter wi)
 (hg:∀C fp pins s H,PG (m6 X N0 scope ys C fp pins s H) tg g) (ht:∀C fp pins s H,PCs (m6 X N0 scope ys C fp pins s H) ifs tc) (he:∀C fp pins s H,PE (m6 X N0 scope ys C fp pins s H) elt te)
 (hN:X.N.Nodup) (hiy:X.N[i]?=some y) (hy:X.env.scope.names.lookup y=some .local)
 (hsw:swapsWith (.ListComp elt [⟨tg,iter,ifs,0⟩] scope pos) (some (.Name y py)) spos.line X.env=pure true)
 (hs:∀x,foldedSetIterable iter X.env x=pure x:=by intro _;rfl):PS X (.Assign [.Name y py] (.ListComp elt [⟨tg,iter,ifs,0⟩] scope pos) spos) (fun D σ H=>b2X wi g tc te ys.length σ H fun v H'=>D.nx (σ.set i (some v)) H'):=by
 intro pins s σ H D I h
 rw [exec_Assign_Name_used _ _ _ _ hsw]
 refine AE (wpAny_standAt (AE ?_))
 show AG _ X.A (do let _<-comprehension (.ListComp elt [⟨tg,iter,ifs,0⟩] scope pos) scope X.env _ (newList []) false (eval iter X.env) (some (assign (.Name y py) X.env))) _ _ s
 refine AE (wpAny_mono (a8f (QQ:=fun _ s'=>SP X pins D .next s') hx hc S hi hg ht he hs I h fun L C s' H' m I' hn hC gone q=> ?_) (fun _ s' hq=>AJ (AJ hq)) fun _ _ e=>e)
 obtain⟨g1,g2,g3,g4⟩:=gone
 show AG _ X.A (assign (.Name y py) X.env (.ref L)) _ _ _
 refine wpAny_assign_Name (a8R (v:= .ref L) I' hN hiy (.inl hy) rfl (fun s2 I2 ⟨a,sb,ha⟩=> ?_) (.inr hy))
 have hCa:C≠a:=by
  rcases ha with z|z
  ·rw [z];exact g1
  ·exact fun e=>g3 y a z e.symm
 refine⟨m,hn.sameBut sb hCa,fun h' hs'=>⟨_,H',I2.turned (t':=s2.toks) (fun b o hb e=>hs'.extBut b o hb e) hC g1 (.inr g2) g3 g4,q⟩⟩
end
end L2
namespace PU
open PySem PySem.Spec PyProof.Rows L2
def a2M(c:MT)(elt:M)(tg:PV->c7->Option c7)(ρ:c7):List PV->Option (List PV)
 |[]=>some []
 |p::ps=>(tg p ρ).bind fun ρ1=>(c ρ1).bind fun b=>if b=true then((elt ρ1).bind d7.toVal).bind fun q=>(a2M c elt tg ρ ps).bind fun r=>some (q::r) else a2M c elt tg ρ ps
def U1:MT:=fun _=>some true
def O4(k:Nat)(it:MI)(tg:PV->c7->Option c7)(c:MT)(elt:M):M:=fun ρ=>(it ρ).bind fun ps=>if ps.length<=AL then(a2M c elt tg (ρ++AW k none) ps).bind fun r=>some (.own r) else none
def a71(K:AD)(n:Nat)(g:TG)(tg:PV->c7->Option c7):Prop:=
 ∀F H σ ρ ρ1 p x (Q:L2.St->Hp->Prop),A3 K F H σ ρ->x4 K F p x->tg p ρ=some ρ1->(∀σ',A3 K F H σ' ρ1->(∀(j:Nat),j<n->σ'[j]?=σ[j]?)->Q σ' H)->g x σ H Q
theorem A3.set{K:AD}{F H:Hp}{σ:L2.St}{ρ:c7}{p:PV}{x:V}(e:A3 K F H σ ρ)(r:x4 K F p x)(i:Nat):A3 K F H (σ.set i (some x)) (ρ.set i (some (.val p))):=by
 refine⟨e.fh,by simp [e.len],fun j q h=> ?_,fun j ps h=> ?_,fun j k ps qs a hjk h1 h2 h3 h4=> ?_⟩
 ·rw [List.getElem?_set] at h ⊢
  by_cases hij:i=j
  ·subst hij
   rw [if_pos rfl] at h ⊢
   rw [e.len]
   split at h
   ·rename_i c;cases h;rw [if_pos c];exact⟨x,rfl,r⟩
   ·cases h
  ·rw [if_neg hij] at h ⊢;exact e.at_ j q h
 ·rw [List.getElem?_set] at h
  by_cases hij:i=j
  ·subst hij
   rw [if_pos rfl] at h
   split at h<;>cases h
  ·rw [if_neg hij] at h;exact e.nb j ps h
 ·have get:∀(j:Nat) (ps:W1),(ρ.set i (some (d7.val p)))[j]?=some (some (d7.ow ps))->i≠j/\ρ[j]?=some (some (d7.ow ps)):=fun j ps h=>by
   rw [List.getElem?_set] at h
   by_cases hij:i=j
   ·subst hij
    rw [if_pos rfl] at h
    split at h<;>cases h
   ·rw [if_neg hij] at h;exact⟨hij,h⟩
  obtain⟨n1,h1⟩:=get j ps h1
  obtain⟨n2,h2⟩:=get k qs h2
  rw [List.getElem?_set_ne n1] at h3
  rw [List.getElem?_set_ne n2] at h4
  exact e.ap j k ps qs a hjk h1 h2 h3 h4
theorem B6{K:AD}{n i:Nat}(h:n<=i):a71 K n (a2O i) (g8 i):=fun F H σ ρ ρ1 p x Q e r q k=>by
 cases q
 exact k _ (e.set r i) fun j hj=>by rw [List.getElem?_set_ne (by lia)]
theorem A3.setAll{K:AD}{F H:Hp}{n:Nat}:∀{is:List Nat} {xs:List V} {ps:List PV} {σ:L2.St} {ρ:c7},(∀i∈is,n<=i)->A3 K F H σ ρ->j0 K F ps xs->A3 K F H (PU.setAll σ is xs) (PU.setAll ρ is (ps.map .val))/\∀(j:Nat),j<n->(PU.setAll σ is xs)[j]?=σ[j]?
 |[],xs,ps,σ,ρ,_,s,r=>by
  have e1:PU.setAll σ [] xs=σ:=by cases xs<;>rfl
  have e2:PU.setAll ρ [] (ps.map d7.val)=ρ:=by cases ps<;>rfl
  rw [e1,e2];exact⟨s,fun _ _=>rfl⟩
 |i::is,xs,[],σ,ρ,_,s,r=>by cases r;exact⟨s,fun _ _=>rfl⟩
 |i::is,xs,p::ps,σ,ρ,h,s,⟨v,t,e,rp,rl⟩=>by
  subst e
  obtain⟨h1,h2⟩:=A3.setAll (is:=is) (n:=n) (fun j hj=>h j (Ac _ hj)) (s.set rp i) rl
  refine⟨h1,fun j hj=> ?_⟩
  have hi:=h i AX
  show(PU.setAll (σ.set i (some v)) is t)[j]?=_
  rw [h2 j hj,List.getElem?_set_ne (by lia)]
theorem A3.more{K:AD}{F H:Hp}{σ:L2.St}{ρ:c7}(e:A3 K F H σ ρ)(k:Nat):A3 K F H (σ++AW k none) (ρ++AW k none):=by
 have key:∀(j:Nat) (q:d7),(ρ++AW k none)[j]?=some (some q)->ρ[j]?=some (some q)/\(σ++AW k none)[j]?=σ[j]?:=fun j q h=>by
  by_cases hj:j<ρ.length
  ·rw [BA hj] at h
   rw [BA (by rw [e.len];exact hj)]
   exact⟨h,rfl⟩
  ·rw [List.getElem?_append_right (by lia),List.getElem?_replicate] at h
   split at h<;>cases h
 refine⟨e.fh,by simp [e.len],fun j q h=> ?_,fun j ps h=>e.nb j ps (key j _ h).1,fun j k' ps qs a hjk h1 h2 h3 h4=> ?_⟩
 ·obtain⟨h1,h2⟩:=key j q h
  rw [h2];exact e.at_ j q h1
 ·obtain⟨a1,b1⟩:=key j _ h1
  obtain⟨a2,b2⟩:=key k' _ h2
  rw [b1] at h3
  rw [b2] at h4
  exact e.ap j k' ps qs a hjk a1 a2 h3 h4
def WC(K:AD)(F H:Hp)(D:AB)(c:MT)(elt:M)(tg:PV->c7->Option c7)(ρ:c7)(ps r:List PV)(i m:Nat)(xs:List V)(H':Hp):Prop:=
 ∃F' done B7,i<=ps.length/\m=ps.length - i/\U4 F H F' H'/\F' D=none/\j0 K F' done xs/\done.length<=i/\a2M c elt tg ρ (ps.drop i)=some B7/\done++B7=r
theorem b3f{K:AD}{F H:Hp}{D:AB}{c:MT}{elt:M}{tg:PV->c7->Option c7}{g:TG}{σ:L2.St}{ρ:c7}{k:Nat}{ps r:List PV}{i m:Nat}{xs:List V}{H':Hp}{p:PV}{x:V}
 (T:a71 K ρ.length g tg) (en:A3 K F H σ ρ) (hD:H D=none) (hsz:ps.length<=AL) (W:WC K F H D c elt tg (ρ++AW k none) ps r i m xs H') (hx:H' D=some (.lst xs)) (ep:ps[i]?=some p) (rx:x4 K F p x):
 g x (σ++AW k none) H' fun σ4 H4=>(∀(j:Nat) v,(σ++AW k none)[j]?=some (some v)->σ4[j]?=some (some v))/\tMT K c σ4 H4 fun b H5=>if b=true then tM K elt σ4 H5 fun v H6=>H6 D=some (.lst xs)/\xs.length<AL/\∃m',m'<m/\WC K F H D c elt tg (ρ++AW k none) ps r (i+1) m' (xs++[v]) (upd H6 D (.lst (xs++[v])))
  else H5 D=some (.lst xs)/\∃m',m'<m/\WC K F H D c elt tg (ρ++AW k none) ps r (i+1) m' xs H5:=by
 obtain⟨F',done,B7,hi,hm,ex,fD,rl,dl,hc,hr⟩:=W
 have hk:i<ps.length:=(Am.mp ep).1
 have hd:ps.drop i=p::ps.drop (i+1):=by
  rw [List.drop_eq_getElem_cons hk]
  congr 1
  exact(Am.mp ep).2
 rw [hd] at hc
 unfold a2M at hc
 obtain⟨ρ1,e1,hc⟩:=bind_some hc
 obtain⟨b,e2,hc⟩:=bind_some hc
 have en':=(en.ext ex).more k
 refine T F' H' _ _ ρ1 p x _ en' (x4.mono ex.f _ rx) e1 fun σ4 en4 keep=>⟨fun j v e=> ?_, ?_⟩
 ·by_cases hj:j<ρ.length
  ·rw [keep j hj];exact e
  ·rw [List.getElem?_append_right (by rw [en.len];lia),List.getElem?_replicate] at e
   split at e<;>cases e
 refine⟨F',ρ1,b,en4,e2,fun F5 H5 x5=> ?_⟩
 have ex5:=ex.trans x5
 have fD5:F5 D=none:=x5.nw D _ fD hx (fun _ h=>nomatch h)
 cases b with
 |false=>
  rw [if_neg At] at hc
  refine b3x ⟨x5.h _ _ hx,ps.length - (i+1),by lia,F5,done,B7,by lia,rfl,ex5,fD5,j0.mono x5.f _ rl,by lia,hc,hr⟩
 |true=>
  rw [if_pos rfl] at hc
  obtain⟨q,e3,hc⟩:=bind_some hc
  obtain⟨rt,e4,hc⟩:=bind_some hc
  cases hc
  obtain⟨re,e5,e6⟩:=bind_some e3
  refine b5t ⟨F5,ρ1,re,en4.ext x5,e5,fun v F6 H6 o6=> ?_⟩
  obtain⟨F7,o7⟩:=o6.toVal e6
  have hx6:H6 D=some (.lst xs):=o6.x.h _ _ (x5.h _ _ hx)
  have fD7:F7 D=none:=o7.x.nw D _ fD5 (x5.h _ _ hx) (fun _ h=>nomatch h)
  have ex7:=ex5.trans o7.x
  have hlen:=rl.length
  refine⟨hx6,by lia,ps.length - (i+1),by lia,F7,done++[q],rt,by lia,rfl,⟨ex7.f,fun a o z=> ?_,fun a o z=> ?_,ex7.nw,ex7.nf⟩,fD7,j0.append (j0.mono (x5.f.trans o7.x.f) _ rl) ⟨v,[],rfl,o7.rep,rfl⟩,by simp;lia,e4,by rw [List.append_assoc];exact hr⟩
  ·rw [d8 (j7 z hD)];exact ex7.h _ _ z
  ·rw [d8 (j7 z fD7)];exact ex7.fh _ _ z
theorem b4I{K:AD}{F H:Hp}{D:AB}{c:MT}{elt:M}{tg:PV->c7->Option c7}{ρ:c7}{ps r:List PV}{m:Nat}{xs:List V}{H':Hp}(hD:H D=none)(W:WC K F H D c elt tg ρ ps r ps.length m xs H')(hx:H' D=some (.lst xs)):∃F',u6 K F H F' H' (.ref D) (.own r):=by
 obtain⟨F',done,B7,hi,hm,ex,fD,rl,dl,hc,hr⟩:=W
 rw [List.drop_length] at hc
 cases hc
 rw [Aq] at hr
 subst hr
 exact⟨F',ex,⟨D,xs,rfl,fD,hx,rl⟩,fun _ _ _ e=>by cases e;exact hD⟩
structure Src(K:AD)(F0 F H:Hp)(J:It)(ps:List PV):Prop where
 st:∀i H',j8 H H'->ps.length<=i->J.stop i H'
 go:∀i p H',j8 H H'->ps[i]?=some p->J.go i H'
 yd:∀i p x H' H'',j8 H H'->ps[i]?=some p->J.yld i H' x H''->H''=H'/\x4 K F p x
def SI(K:AD)(mi:MI)(wi:TI):Prop:=∀F H σ ρ ps (R:It->Hp->Prop),A3 K F H σ ρ->mi ρ=some ps->(∀F1 H1 J,U4 F H F1 H1->Src K F F1 H1 J ps->R J H1)->wi σ H R
abbrev EI(X:Cx)(tg iter:AF)(mi:MI):Prop:=∃wi,PI X tg iter wi/\SI X.K mi wi
section
variable {X:Cx}{tg:AF}
def V2(m:M):MI:=fun ρ=>(m ρ).bind fun r=>PyData.items? r.rd
theorem b1i{l:AF}{m:M}(h:EE X l m):EI X tg l (V2 m):=⟨_,b6q h,fun F H σ ρ ps R en e k=>by
 obtain⟨r,e1,e2⟩:=bind_some e
 refine⟨F,ρ,r,en,e1,fun v F1 H1 o1=> ?_⟩
 obtain⟨a,xs,rfl,hq,rl⟩:=D8 o1.x.fh o1.rep e2
 have hlen:=rl.length
 rcases hq with hq|hq
 ·refine⟨a,rfl,.inl ⟨⟨xs,hq⟩,k F1 H1 _ o1.x ⟨fun i H2 s h=>⟨xs,C4 s hq,by lia⟩,fun i p H2 s h=> ?_,fun i p x H2 H3 s h y=> ?_⟩⟩⟩
  ·obtain⟨v,ev,_⟩:=rl.get h
   exact⟨xs,v,C4 s hq,ev⟩
  ·obtain⟨v,ev,rv⟩:=rl.get h
   obtain⟨e,y⟩:=y
   have:=y xs (C4 s hq)
   rw [ev] at this;cases this
   exact⟨e,rv⟩
 ·refine⟨a,rfl,.inr ⟨⟨xs,hq⟩,k F1 H1 _ o1.x ⟨fun i H2 s h=>⟨xs,p8 s hq,by lia⟩,fun i p H2 s h=> ?_,fun i p x H2 H3 s h y=> ?_⟩⟩⟩
  ·obtain⟨v,ev,_⟩:=rl.get h
   exact⟨xs,v,p8 s hq,ev⟩
  ·obtain⟨v,ev,rv⟩:=rl.get h
   obtain⟨e,y⟩:=y
   have:=y xs (p8 s hq)
   rw [ev] at this;cases this
   exact⟨e,rv⟩⟩
theorem b8h{K:AD}{F0 F H:Hp}{lo hi:Int}:Src K F0 F H (Itr lo (hi - lo).toNat) (P9 lo hi):=by
 have hl:=Y0 lo hi
 refine⟨fun i H2 s h=> ?_,fun i p H2 s h=> ?_,fun i p x H2 H3 s h y=> ?_⟩
 ·show(hi - lo).toNat<=i;lia
 ·have:=(Am.mp h).1
  show i<(hi - lo).toNat;lia
 ·have hi':=(Am.mp h).1
  rw [a7a (by lia)] at h
  cases h
  obtain⟨e,y⟩:=y
  exact⟨e,y⟩
theorem a04{a:AF}{m:MA}{p rp:Pos}(hgl:Gl X "range")(hm:X.mg "range"=none)(ha:EA X [a] m)(hst:AT [a] X.env=[(false,eval a X.env)]:=by rfl):EI X tg (.Call (.Name "range" p) [a] [] rp) (B0 m):=⟨_,a8J hgl hm ha hst,fun F H σ ρ ps R en e k=>by
 obtain⟨qs,e1,e2⟩:=bind_some e
 refine⟨F,ρ,qs,en,e1,fun vs F1 H1 x rl=> ?_⟩
 split at e2
 ·rename_i j
  split at e2
  ·rename_i c
   have c:=a9h.mp c
   cases e2
   obtain⟨v,r,rfl,rv,rr⟩:=rl
   cases rv
   cases rr
   have hz:(j - 0).toNat=j.toNat:=by lia
   refine⟨j,rfl,c.1,c.2,k F1 H1 _ x ?_⟩
   have z:=b8h (K:=X.K) (F0:=F) (F:=F1) (H:=H1) (lo:=0) (hi:=j)
   rw [hz] at z
   exact z
  ·cases e2
 ·cases e2⟩
abbrev EC(X:Cx)(ifs:List AF)(c:MT):Prop:=PCs X ifs (tMT X.K c)
theorem a1O:EC X [] U1:=fun pins s σ H Q I ⟨F,ρ,b,en,e,k⟩=>by
 cases e
 exact b2E pins s σ H Q I (k F H (U4.refl en.fh))
theorem b4U{c:AF}{mc:MT}(h:ET X c mc):EC X [c] mc:=b2F h
theorem a8g{mi:MI}{wi:TI}{g:TG}{c:MT}{elt:M}{t:PV->c7->Option c7}{N:List Str}{k:Nat}(hi:SI X.K mi wi)(T:∀n,n=N.length->a71 X.K n g t){σ:L2.St}{H:Hp}{Q:VK}(hl:σ.length=N.length)(h:tM X.K (O4 k mi t c elt) σ H Q):b2X wi g (tMT X.K c) (tM X.K elt) k σ H Q:=by
 obtain⟨F,ρ,r,en,e,kk⟩:=h
 obtain⟨ps,e1,e⟩:=bind_some e
 split at e
 ·rename_i hsz
  obtain⟨rs,e2,e⟩:=bind_some e
  cases e
  refine hi F H σ ρ ps _ en e1 fun F1 H1 J x1 S D hD=> ?_
  have en1:=en.ext x1
  have T':a71 X.K ρ.length g t:=T _ (by rw [<-en.len,hl])
  refine⟨WC X.K F1 H1 D c elt t (ρ++AW k none) ps rs,⟨ps.length,F1,[],rs,Nat.zero_le _,rfl,U4.layH x1.fh hD,x1.fh.free hD,rfl,AM _,e2,rfl⟩,fun i m xs H2 W hx=> ?_⟩
  have W':=W
  obtain⟨F',done,B7,hi',hm,ex,fD,rl,dl,hc,hr⟩:=W'
  have sF:j8 H1 H2:=ex.h
  by_cases hlt:i<ps.length
  ·refine .inr ⟨S.go i ps[i] H2 sF (by simp [hlt]),fun x H3 y=> ?_⟩
   obtain⟨e3,rx⟩:=S.yd i ps[i] x H2 H3 sF (by simp [hlt]) y
   subst e3
   exact b3f T' en1 hD hsz W hx (by simp [hlt]) rx
  ·have e3:i=ps.length:=by lia
   subst e3
   refine .inl ⟨S.st _ H2 sF (AM _), ?_⟩
   obtain⟨F2,o⟩:=b4I hD W hx
   exact kk _ F2 H2 (u6.trans x1 o)
 ·cases e
theorem Z9{elt iter:AF}{ifs:List AF}{scope:Scope}{N0 ys:List Str}{mi:MI}{g:TG}{c:MT}{m:M}{t:PV->c7->Option c7}{pos:Pos}(hx:∀e s,X.xe e s->False)(hc:X.calm=true)(S:A4 X.N N0 ys X.env scope)(hi:EI X tg iter mi)
 (hg:∀C fp pins s H,PG (m6 X N0 scope ys C fp pins s H) tg g) (T:∀n,n=X.N.length->a71 X.K n g t) (ht:∀C fp pins s H,EC (m6 X N0 scope ys C fp pins s H) ifs c) (he:∀C fp pins s H,EE (m6 X N0 scope ys C fp pins s H) elt m)
 (hs:∀x,foldedSetIterable iter X.env x=pure x:=by intro _;rfl):EE X (.ListComp elt [⟨tg,iter,ifs,0⟩] scope pos) (O4 ys.length mi t c m):=by
 obtain⟨wi,h1,h2⟩:=hi
 intro pins s σ H Q I h
 exact a9E hx hc S h1 hg ht he hs pins s σ H Q I (a8g (N:=X.N) h2 T I.len h)
theorem b2d{i:Nat}{y:Str}{elt iter:AF}{ifs:List AF}{scope:Scope}{N0 ys:List Str}{mi:MI}{g:TG}{c:MT}{m:M}{t:PV->c7->Option c7}{pos py spos:Pos}(hN:X.N.Nodup)(hx:∀e s,X.xe e s->False)(hc:X.calm=true)(S:A4 X.N N0 ys X.env scope)(hi:EI X tg iter mi)
 (hg:∀C fp pins s H,PG (m6 X N0 scope ys C fp pins s H) tg g) (T:∀n,n=X.N.length->a71 X.K n g t) (ht:∀C fp pins s H,EC (m6 X N0 scope ys C fp pins s H) ifs c) (he:∀C fp pins s H,EE (m6 X N0 scope ys C fp pins s H) elt m)
 (hiy:X.N[i]?=some y:=by rfl) (hy:X.env.scope.names.lookup y=some .local:=by rfl) (hsw:swapsWith (.ListComp elt [⟨tg,iter,ifs,0⟩] scope pos) (some (.Name y py)) spos.line X.env=pure true:=by rfl)
 (hs:∀x,foldedSetIterable iter X.env x=pure x:=by intro _;rfl):ES X (.Assign [.Name y py] (.ListComp elt [⟨tg,iter,ifs,0⟩] scope pos) spos) (t8 i (O4 ys.length mi t c m)):=by
 obtain⟨wi,h1,h2⟩:=hi
 intro pins s σ H D I ⟨F0,H0,F,ρ,fl,so,e,fin⟩
 obtain⟨r,e1,e⟩:=bind_some e
 split at e
 ·rename_i c
  cases e
  exact b8b hx hc S h1 hg ht he hN hiy hy hsw hs pins s σ H D I (a8g (N:=X.N) h2 T I.len ⟨F,ρ,r,so.e,e1,fun v F' H' o=>fin _ F' H' o.x.f (so.set o c i)⟩)
 ·cases e
end
def C6:List PV->Option (List Str)
 |[]=>some []
 | .str x::r=>(C6 r).map (x::·)
 |_=>none
theorem a1h:∀xs:List Str,C6 (xs.map .str)=some xs
 |[]=>rfl
 |x::xs=>by rw [AK];simp only [C6,a1h xs,BE]
theorem a1i{K:AD}{H:Hp}:∀{ps:List PV} {ys:List Str} {xs:List V} {us:List AA},C6 ps=some ys->j0 K H ps xs->j9 xs us->StrsAre us ys
 |[],_,_,_,h,r,v=>by cases h;cases r;cases v;exact .nil
 |p::ps,ys,_,_,h,⟨x,r,e,hp,t⟩,v=>by
  subst e
  cases p with
  |str z=>
   simp only [C6] at h
   cases q:C6 ps with
   |none=>rw [q] at h;cases h
   |some zs=>
    rw [q] at h;cases h
    cases hp
    cases v with
    |cons a b=>
     obtain⟨tk,rfl⟩:=a
     exact .cons z tk (a1i q t b)
  |_=>simp [C6] at h
def a0d(x y:d7):Option d7:=match x with
 | .val (.str z)=>(match PyData.items? y.rd with
   |some ps=>(C6 ps).bind fun ys=>if(ys.map (·.length)).sum+ys.length*z.length<=16777216 then some (.val (.str (Txt.join z ys))) else none
   |none=>none)
 |_=>none
section
variable {X:Cx}
theorem b7S:MtR X "str.join" (fun x xs H Q=>∃F y rx ry rz,xs=[y]/\j8 F H/\M1 X.K F H x rx/\M1 X.K F H y ry/\a0d rx ry=some rz/\∀v F' H',u6 X.K F H F' H' v rz->Q v H'):=by
 intro pins s σ H x xs v us Q I rx rv h
 obtain⟨F,y,ra,rb,rz,rfl,s0,h1,h2,h3,k⟩:=h
 obtain⟨u,rfl,ru⟩:=Y7 rv
 unfold a0d at h3
 split at h3
 ·rename_i z
  split at h3
  ·rename_i ps e
   obtain⟨ys,e2,h3⟩:=bind_some h3
   split at h3
   ·rename_i c
    cases h3
    cases h1
    obtain⟨t,rfl⟩:=rx
    obtain⟨a,xs,rfl,hq,r⟩:=D8 s0 h2 e
    cases ru
    rcases hq with hq|hq
    ·obtain⟨its,rv,pl,hz⟩:=I.list hq
     exact join_list pl.isList (by simpa using a1i e2 r rv) c fun t' k'=>⟨.str _,H,I.tok _,⟨_,rfl⟩,k _ F H (u6.here s0 rfl)⟩
    ·obtain⟨its,rv,pl,hz⟩:=I.tuple hq
     exact join_tuple pl (by simpa using a1i e2 r rv) c fun t' k'=>⟨.str _,H,I.tok _,⟨_,rfl⟩,k _ F H (u6.here s0 rfl)⟩
   ·cases h3
  ·cases h3
 ·cases h3
theorem a3y{o e:AF}{m n:M}{apos cpos:Pos}(ho:EE X o m)(ha:EE X e n)
 (hbase:attributeBase o "join" X.env (eval o X.env)=eval o X.env:=by rfl)
 (hfew:((backTo cpos (AT [e] X.env)).all (fun x=> !x.1)&&(backToKw cpos (keywordEach [] X.env)).all (fun x=>x.1.isSome)
  && decide ([e].length+([]:List Keyword).length+(if([]:List Keyword).isEmpty then 0 else 1)<30))=true:=by rfl)
 (hline:(apos.endLine==cpos.line)=true:=by rfl) (hs:AT [e] X.env=(false,eval e X.env)::AT [] X.env:=by rfl) (hplain:(backTo cpos (AT [] X.env)).any (·.1)=false:=by rfl):
 EE X (.Call (.Attribute o "join" apos) [e] [] cpos) (m2 a0d m n):=
 u0 (a8H PySem.F.plainAttrs_str PySem.F.slot_str_join PySem.F.type_str_join b7S ho (x8 ha K6 hs) hbase hfew hline hs hplain) fun σ H Q ⟨F,ρ,r,he,hm,k⟩=>by
  obtain⟨rx,e1,hm⟩:=bind_some hm
  obtain⟨ry,e2,hm⟩:=bind_some hm
  refine⟨F,ρ,rx,he,e1,fun v F1 H1 o1=>⟨?_,⟨F1,ρ,ry,he.ext o1.x,e2,fun u F2 H2 o2=>⟨F2,u,rx,ry,r,rfl,o2.x.fh,o1.rep.ext o2.x,o2.rep,hm,fun z F3 H3 o3=>k z F3 H3 (u6.trans (o1.x.trans o2.x) o3)⟩⟩⟩⟩
  unfold a0d at hm
  split at hm
  ·cases o1.rep;rfl
  ·cases hm
end
def cut{α:Type}(xs:List α)(lo hi:Option Int):List α:=(xs.drop (HT.sIx xs.length 0 lo)).take (HT.sIx xs.length xs.length hi - HT.sIx xs.length 0 lo)
theorem a3u(n d:Nat)(hd:d<=n)(o:Option Int):(match o with|none=>(d:Int)|some i=>max 0 (min (if i<0 then i+n else i) n))=((HT.sIx n d o:Nat):Int):=by
 cases o with
 |none=>rfl
 |some i=>unfold HT.sIx;dsimp only;split<;>lia
theorem b7h(n:Nat)(lo hi:Option Int):Builtin.Str.strSliceIndices lo hi 1 n=(AQ (HT.sIx n n hi - HT.sIx n 0 lo)).map (HT.sIx n 0 lo+·):=by
 have h1:=a3u n 0 (Nat.zero_le _) lo
 have h2:=a3u n n (AM _) hi
 have key:∀a b:Int,a=((HT.sIx n 0 lo:Nat):Int)->b=((HT.sIx n n hi:Nat):Int)->sliceRange a b 1=(AQ (HT.sIx n n hi - HT.sIx n 0 lo)).map (HT.sIx n 0 lo+·):=fun a b ha hb=>by rw [ha,hb,sliceRange_one]
 refine key _ _ ?_ ?_
 ·cases lo with
  |none=>rfl
  |some i=>exact h1
 ·cases hi with
  |none=>rfl
  |some i=>exact h2
theorem b8p(z:Str)(lo hi:Option Int):Txt.slice z lo hi=⟨(cut z.cps.toList lo hi).toArray⟩:=by
 have hz:z.cps.toList.length=z.length:=by simp [Str.length]
 unfold Txt.slice
 rw [b7h,pick_run z.cps]
 split
 ·rename_i c
  have c':HT.sIx z.length z.length hi - HT.sIx z.length 0 lo=z.length:=by
   simpa using c
  have hle:=HT.sIx_le z.length z.length (AM _) hi
  unfold cut
  rw [hz,c']
  have:HT.sIx z.length 0 lo=0\/z.length=0:=by lia
  cases z with
  |mk a=>
   congr 1
   rcases this with h|h
   ·rw [h,List.drop_zero]
    have:a.toList.length=(⟨a⟩:Str).length:=hz
    rw [<-this,List.take_length]
   ·have h0:a.toList=[]:=List.length_eq_zero_iff.mp (by rw [<-h];exact hz)
    have:a= #[]:=by
     apply Array.ext'
     rw [h0]
    subst this
    simp
 ·unfold cut
  rw [hz]
theorem a2V(items:Array AA)(lo hi:Option Int):slicePick items lo hi none=(cut items.toList lo hi).toArray:=by
 have hz:items.toList.length=items.size:=by simp
 unfold slicePick cut
 rw [hz]
 have key:∀a b:Int,a=((HT.sIx items.size 0 lo:Nat):Int)->b=((HT.sIx items.size items.size hi:Nat):Int)->(List.filterMap (items[·]?) (sliceRange a b 1)).toArray=((items.toList.drop (HT.sIx items.size 0 lo)).take (HT.sIx items.size items.size hi - HT.sIx items.size 0 lo)).toArray:=fun a b ha hb=>by rw [ha,hb,sliceRange_one,pick_run]
 refine key _ _ ?_ ?_
 ·cases lo with
  |none=>rfl
  |some i=>exact a3u items.size 0 (Nat.zero_le _) (some i)
 ·cases hi with
  |none=>rfl
  |some i=>exact a3u items.size items.size (AM _) (some i)
theorem j0.cut{K:AD}{H:Hp}{ps:List PV}{xs:List V}(r:j0 K H ps xs)(lo hi:Option Int):j0 K H (PU.cut ps lo hi) (PU.cut xs lo hi):=by
 unfold PU.cut
 rw [r.length]
 exact(r.drop _).take _
theorem a3w{α:Type}(xs:List α)(lo hi:Option Int):(cut xs lo hi).length<=xs.length:=by
 unfold cut
 rw [List.length_take,List.length_drop];lia
theorem a2B{prog:AN}{w:AI}{A:AR}{E:AA->AC->Prop}{s:AC}{t sl:AB}{items:Array AA}{vl vu:AA}{lo hi:Option Int}{Q:AA->AC->Prop}(ht:IsTup s.heap t items)(hs:s.heap.IsSliceOf sl vl vu .none)(pl:IsPart vl lo)(pu:IsPart vu hi)
 (hw:HT.sIx items.size 0 lo=0/\HT.sIx items.size items.size hi=items.size)
 (h:Q (.ref t) s):AG (model prog w) A (getItem (.ref t) (.ref sl)) Q E s:=by
 obtain⟨os,hos,hcs,hds⟩:=id hs
 have hTs:s.TypeIs (.ref sl) "slice":=⟨os,hos,hcs⟩
 unfold getItem
 try with_reducible refine wpAny_holding ?_
 first|refine AE (AJ ?_)|skip
 refine AE (wpAny_sequenceKey ht.typeIs (by decide) ?_)
 refine AE (wpAny_callSpecial?_slot (name:=AS "__getitem__") ht.typeIs PyProof.Rows.slot_tuple_getitem
  (wpAny_call_entry PyProof.Rows.slot_tuple_getitem ht.typeIs entry_tuple_getitem ?_ (args_tuple_getitem _ _)))
 show AG _ _ (Builtin.Tuple.tupleItemsOf (.ref t)>>=_) _ _ s
 refine AE (tupleItemsOf_ ht ?_)
 refine AE (wpAny_typeOf hTs ?_)
 rw [if_pos (by decide)]
 refine AE (HT.sliceApplied_gen hs pl pu ?_)
 have hno:(((HT.sIx items.size 0 lo:Nat):Int)==0 &&(1:Int)==1 &&(HT.sIx items.size items.size hi - HT.sIx items.size 0 lo)==items.size)=true:=by
  rw [hw.1,hw.2];simp
 show AG _ _ (if(((HT.sIx items.size 0 lo:Nat):Int)==0 &&(1:Int)==1 &&(HT.sIx items.size items.size hi - HT.sIx items.size 0 lo)==items.size)=true then _ else _) _ _ s
 rw [if_pos hno]
 refine AE (AE (m:=typeOf (.ref t)) (wpAny_typeOf ht.typeIs (AJ ?_)))
 rw [if_pos (by decide)]
 wp_walk
 exact⟨_,rfl,AJ h⟩
theorem b8o{X:Cx}:SlR X (fun x lo hi H Q=>∃a xs,x= .ref a/\Z1 X.K H a xs/\(HT.sIx xs.length 0 lo=0/\HT.sIx xs.length xs.length hi=xs.length)/\Q (.ref a) H):=by
 intro pins s σ H x v vl vu lo hi sl Q I rx hs pl pu h
 obtain⟨a,xs,rfl,hx,hw,q⟩:=h
 cases rx
 obtain⟨its,r,ht,hz⟩:=I.tuple hx
 have hlen:its.toArray.size=xs.length:=by rw [Ao];exact r.length.symm
 refine⟨"tuple",_,PyProof.Rows.slot_tuple_getitem.lookup,ht.typeIs, ?_⟩
 exact a2B ht hs pl pu (by rw [hlen];exact hw) ⟨.ref a,H,I,rfl,q⟩
theorem b3h{α:Type}{xs:List α}{lo hi:Option Int}(h:HT.sIx xs.length 0 lo=0/\HT.sIx xs.length xs.length hi=xs.length):cut xs lo hi=xs:=by
 unfold cut
 rw [h.1,h.2,List.drop_zero,Nat.sub_zero,List.take_length]
section
variable {X:Cx}
theorem b1s{h:Heap}{sl:AB}{vl vu:AA}{lo hi:Option Int}(hs:h.IsSliceOf sl vl vu .none)(pl:IsPart vl lo)(pu:IsPart vu hi):∃l u:Option (Int×Tok),h.IsSlice sl l u none/\l.map (·.1)=lo/\u.map (·.1)=hi:=by
 obtain⟨o,ho,hc,hd⟩:=hs
 cases pl with
 |none=>
  cases pu with
  |none=>exact⟨none,none,⟨o,ho,hc,hd⟩,rfl,rfl⟩
  |int j t=>exact⟨none,some (j,t),⟨o,ho,hc,hd⟩,rfl,rfl⟩
 |int i t=>
  cases pu with
  |none=>exact⟨some (i,t),none,⟨o,ho,hc,hd⟩,rfl,rfl⟩
  |int j t'=>exact⟨some (i,t),some (j,t'),⟨o,ho,hc,hd⟩,rfl,rfl⟩
theorem c0p:SlR X (fun x lo hi H Q=>∃z,x= .str z/\z.length<=AL/\Q (.str (Txt.slice z lo hi)) H):=by
 intro pins s σ H x v vl vu lo hi sl Q I rx hs pl pu h
 obtain⟨z,rfl,hz,q⟩:=h
 obtain⟨t,rfl⟩:=rx
 obtain⟨l,u,hs',e1,e2⟩:=b1s hs pl pu
 subst e1 e2
 exact⟨"str",_,PySem.F.slot_str_getitem.lookup,typeIs_str _ _ _,wpAny_getItem_str_slice hs' rfl (post_val_or_str ⟨Nat.le_trans (Txt.slice_le z _ _) hz,fun t' k=>⟨.str _,H,I.tok _,⟨_,rfl⟩,q⟩⟩)⟩
theorem c0o:SlR X (fun x lo hi H Q=>∃a xs,x= .ref a/\S2 X.K H a xs/\∀p,H p=none->Q (.ref p) (upd H p (.lst (PU.cut xs lo hi)))):=by
 intro pins s σ H x v vl vu lo hi sl Q I rx hs pl pu h
 obtain⟨a,xs,rfl,hx,q⟩:=h
 cases rx
 obtain⟨its,r,pl',hz⟩:=I.list hx
 have hlen:=r.length
 refine⟨"list",_,list_getitem_lookup,pl'.isList.typeIs, ?_⟩
 refine wpAny_getItem_list_slice pl'.isList hs pl pu .none (by simp) ?_ (by rw [Ao];lia)
 rw [a2V]
 refine⟨.ref s.heap.objs.size,_,I.laid (t':=s.toks) (o:= .lst (PU.cut xs lo hi)) (fun b ob q=>AY _ q) (AM _) ?_,rfl,q _ (I.hok.fresh (AM _))⟩
 refine⟨Nat.le_trans (a3w xs lo hi) hz,PU.cut its lo hi,0, ?_,An _ rfl⟩
 unfold PU.cut
 rw [hlen]
 exact(r.drop _).take _
def gSl(x:d7)(lo hi:Option Int):Option d7:=match x with
 | .val (.str z)=>if z.length<=AL then some (.val (.str ⟨(cut z.cps.toList lo hi).toArray⟩)) else none
 | .val (.tuple ps)=>some (.val (.tuple (cut ps lo hi)))
 | .val (.list ps)=>some (.own (cut ps lo hi))
 | .ow (.lst ps)=>some (.own (cut ps lo hi))
 | .bo (.lst ps)=>some (.own (cut ps lo hi))
 |_=>none
def rSl(K:AD):V->Option Int->Option Int->Hp->VK->Prop:=fun x lo hi H Q=>∃F rx rz,j8 F H/\M1 K F H x rx/\gSl rx lo hi=some rz/\∀v F' H',u6 K F H F' H' v rz->Q v H'
theorem slm:SlR X (rSl X.K):=by
 intro pins s σ H x v vl vu lo hi sl Q I rx hs pl pu h
 obtain⟨F,ra,rz,s0,h1,h2,k⟩:=h
 have lst:∀ps,PyData.items? ra.rd=some ps->(∃a xs,x= .ref a/\S2 X.K H a xs/\j0 X.K F ps xs)->rz= .own (cut ps lo hi)->∃T id,typeLookup (.type T) "__getitem__"=pure (some (.builtin id))/\s.TypeIs v T/\AG (model X.prog X.w) X.A (getItem v (.ref sl)) (EP X pins σ Q) X.xe s:=fun ps e ⟨a,xs,e1,hq,rl⟩ e2=>by
  subst e2
  exact c0o pins s σ H x v vl vu lo hi sl Q I rx hs pl pu ⟨a,xs,e1,hq,fun p hp=>k _ _ _ (u6.lst s0 hp (rl.cut lo hi))⟩
 unfold gSl at h2
 split at h2
 ·rename_i z
  split at h2
  ·rename_i c
   cases h2
   cases h1
   refine c0p pins s σ H _ v vl vu lo hi sl Q I rx hs pl pu ⟨z,rfl,c, ?_⟩
   rw [b8p]
   exact k _ F H (u6.here s0 rfl)
  ·cases h2
 ·rename_i ps
  cases h2
  by_cases c:HT.sIx ps.length 0 lo=0/\HT.sIx ps.length ps.length hi=ps.length
  ·obtain⟨a,xs,rfl,hq,rl⟩:=h1
   have hlen:=rl.length
   refine b8o pins s σ H _ v vl vu lo hi sl Q I rx hs pl pu ⟨a,xs,rfl,p8 s0 hq.sq,by rw [hlen];exact c, ?_⟩
   rw [b3h c] at k
   exact k _ F H (u6.here s0 ⟨a,xs,rfl,hq,rl⟩)
  ·obtain⟨a,xs,rfl,hq,rl⟩:=h1
   have hlen:=rl.length
   refine c0q pins s σ H _ v vl vu lo hi sl Q I rx hs pl pu ⟨a,xs,rfl,p8 s0 hq.sq,by rw [hlen];exact c,fun p hp=> ?_⟩
   exact k _ _ _ (u6.tup s0 hp (rl.cut lo hi))
 ·rename_i ps
  cases h2
  obtain⟨a,xs,e1,hq,rl⟩:=h1
  exact lst ps rfl ⟨a,xs,e1,C4 s0 hq,rl⟩ rfl
 ·rename_i ps
  cases h2
  obtain⟨a,xs,e1,_,hq,rl⟩:=h1
  exact lst ps rfl ⟨a,xs,e1,S2.of hq,rl⟩ rfl
 ·rename_i ps
  cases h2
  obtain⟨a,xs,e1,_,hq,rl⟩:=h1
  exact lst ps rfl ⟨a,xs,e1,S2.of hq,rl⟩ rfl
 ·cases h2
abbrev MO:=c7->Option (Option Int)
def tMO(K:AD)(m:MO):TO:=fun σ H Q=>∃F ρ o,A3 K F H σ ρ/\m ρ=some o/\∀F' H',U4 F H F' H'->Q o H'
abbrev EO(X:Cx)(e:Option AF)(m:MO):Prop:=PO X e (tMO X.K m)
def a6N:MO:=fun _=>some none
def b2r:d7->Option (Option Int)
 | .val (.int i)=>some (some i)
 |_=>none
def a29(m:M):MO:=fun ρ=>(m ρ).bind b2r
theorem a89:EO X none a6N:=fun pins s σ H Q I ⟨F,ρ,o,en,e,k⟩=>by
 cases e
 exact b77 pins s σ H Q I (k F H (U4.refl en.fh))
theorem a3A{e:AF}{m:M}(h:EE X e m):EO X (some e) (a29 m):=fun pins s σ H Q I ⟨F,ρ,o,en,e1,k⟩=>by
 obtain⟨r,e2,e3⟩:=bind_some e1
 refine b78 h pins s σ H Q I ⟨F,ρ,r,en,e2,fun v F1 H1 o1=> ?_⟩
 unfold b2r at e3
 split at e3
 ·cases e3
  exact⟨_,o1.rep,k F1 H1 o1.x⟩
 ·cases e3
def a4D(m:M)(lo hi:MO):M:=fun ρ=>(m ρ).bind fun r=>(lo ρ).bind fun l=>(hi ρ).bind fun h=>gSl r l h
theorem a3z{e:AF}{lo hi:Option AF}{m:M}{ml mh:MO}{pos p2:Pos}(he:EE X e m)(hl:EO X lo ml)(hh:EO X hi mh):EE X (.Subscript e (.Slice lo hi none p2) pos) (a4D m ml mh):=
 u0 (b6n slm he hl hh) fun σ H Q ⟨F,ρ,r,en,e,k⟩=>by
  obtain⟨ra,e1,e⟩:=bind_some e
  obtain⟨l,e2,e⟩:=bind_some e
  obtain⟨h,e3,e⟩:=bind_some e
  exact⟨F,ρ,ra,en,e1,fun v F1 H1 o1=>⟨F1,ρ,l,en.ext o1.x,e2,fun F2 H2 x2=>⟨F2,ρ,h,(en.ext o1.x).ext x2,e3,fun F3 H3 x3=>⟨F3,ra,r,x3.fh,(o1.rep.ext x2).ext x3,e,fun z F4 H4 o4=>k z F4 H4 (u6.trans ((o1.x.trans x2).trans x3) o4)⟩⟩⟩⟩
end
def Its(x:Str):It:=⟨fun i _=>i<x.cps.size,fun i H v H'=>H'=H/\∃c,x.cps[i]?=some c/\v= .str ⟨#[c]⟩,fun i _=>x.cps.size<=i⟩
section
variable {X:Cx}{tg:AF}
structure b29(K:AD)(F:Hp)(J:It)(ps:List PV):Prop where
 st:∀i H',j8 F H'->ps.length<=i->J.stop i H'
 go:∀i p H',j8 F H'->ps[i]?=some p->J.go i H'
 yd:∀i p x H' H'',j8 F H'->ps[i]?=some p->J.yld i H' x H''->H''=H'/\x4 K F p x
def SIF(K:AD)(mi:MI)(wi:TI):Prop:=∀F H σ ρ ps (R:It->Hp->Prop),A3 K F H σ ρ->mi ρ=some ps->(∀F1 H1 J,U4 F H F1 H1->b29 K F1 J ps->R J H1)->wi σ H R
abbrev EIF(X:Cx)(tg iter:AF)(mi:MI):Prop:=∃wi,PI X tg iter wi/\SIF X.K mi wi
theorem EIF.ei{iter:AF}{mi:MI}(h:EIF X tg iter mi):EI X tg iter mi:=by
 obtain⟨wi,h1,h2⟩:=h
 exact⟨wi,h1,fun F H σ ρ ps R en e k=>h2 F H σ ρ ps R en e fun F1 H1 J x S=>k F1 H1 J x ⟨fun i H' s=>S.st i H' (x.fh.trans s),fun i p H' s=>S.go i p H' (x.fh.trans s),fun i p y H' H'' s=>S.yd i p y H' H'' (x.fh.trans s)⟩⟩
end
def a25:d7->d7->Option d7
 | .val (.int i),.val (.int j)=>some (.val (.bool (decide (i<j))))
 | .val (.str i),.val (.str j)=>some (.val (.bool (decide (i.cps.toList<j.cps.toList))))
 |_,_=>none
section
variable {X:Cx}
theorem a9C:OpM X (compareOp .Lt) a25:=by
 intro pins s σ H x y v u Q I rx ry h
 obtain⟨F,ra,rb,rz,s0,h1,h2,h3,k⟩:=h
 unfold a25 at h3
 split at h3
 ·cases h3;cases h1;cases h2
  exact c1h pins s σ H _ _ v u Q I rx ry ⟨_,_,rfl,rfl,k _ F H (u6.here s0 rfl)⟩
 ·cases h3;cases h1;cases h2
  exact b30 pins s σ H _ _ v u Q I rx ry ⟨_,_,rfl,rfl,k _ F H (u6.here s0 rfl)⟩
 ·cases h3
def a7M(neg:Bool)(x y:d7):Option d7:=match x,y with
 | .val (.str i),.val (.str j)=>some (.val (.bool (if neg then !(!(Builtin.Str.occurrences j i 0 j.length 1).isEmpty) else !(Builtin.Str.occurrences j i 0 j.length 1).isEmpty)))
 |x,y=>gIn neg x y
theorem a5S(hu:X.A.units+64<cLine):OpM X (compareOp .In) (a7M false):=by
 intro pins s σ H x y v u Q I rx ry h
 obtain⟨F,ra,rb,rz,s0,h1,h2,h3,k⟩:=h
 unfold a7M at h3
 split at h3
 ·cases h3;cases h1;cases h2
  exact b3Z pins s σ H _ _ v u Q I rx ry ⟨_,_,rfl,rfl,k _ F H (u6.here s0 rfl)⟩
 ·exact b90 hu pins s σ H x y v u Q I rx ry ⟨F,_,_,rz,s0,h1,h2,h3,k⟩
def b0n:d7->d7->Option d7
 | .val (.str z),.val (.int k)=>if okC (fun k n=>0<=k/\k<=1000000/\n*k<=16777216) k z.length=true then some (.val (.str ⟨(AW k.toNat z.cps.toList).flatten.toArray⟩)) else none
 | .ow (.lst ps),.val (.int k)=>if okC (fun k n=>0<=k/\k<=1000000/\n*k<=16777216) k ps.length=true then some (.own (AW k.toNat ps).flatten) else none
 |x,y=>b9x x y
theorem a6l(xs:List Nat):∀(m:Nat) (acc:Array Nat),(AW m xs.toArray).foldl (· ++·) acc=acc++(AW m xs).flatten.toArray
 |0,acc=>by simp
 |m+1,acc=>by
  rw [Ag,List.foldl_cons,a6l xs m,Ag,List.flatten_cons]
  apply Array.ext'
  simp
theorem b8A{z:Str}{k:Int}(h0:0<=k):Txt.mul z k=⟨(AW k.toNat z.cps.toList).flatten.toArray⟩:=by
 unfold Txt.mul
 by_cases h1:k<1
 ·have:k=0:=by lia
  subst this
  rfl
 ·rw [if_neg h1]
  by_cases h2:(k==1||z.length==0)=true
  ·rw [if_pos h2]
   rw [Bool.or_eq_true] at h2
   cases z with
   |mk a=>
    rcases h2 with h2|h2
    ·have:k=1:=by simpa using h2
     subst this
     show(⟨a⟩:Str)=_
     congr 1
     apply Array.ext'
     simp
    ·have ha:a.size=0:=by simpa [Str.length] using h2
     have:a= #[]:=Array.eq_empty_of_size_eq_zero ha
     subst this
     congr 1
     apply Array.ext'
     simp
  ·rw [if_neg h2]
   have e:z.cps=z.cps.toList.toArray:=by simp
   congr 1
   rw [e,a6l]
   simp
theorem a67{K:AD}{H:Hp}{ps:List PV}{xs:List V}(r:j0 K H ps xs):∀m:Nat,j0 K H (AW m ps).flatten (AW m xs).flatten
 |0=>rfl
 |m+1=>by
  rw [Ag,Ag,List.flatten_cons,List.flatten_cons]
  exact r.append (a67 r m)
theorem b6e:OpM X (binaryOp .Mult) b0n:=by
 intro pins s σ H x y v u Q I rx ry h
 obtain⟨F,ra,rb,rz,s0,h1,h2,h3,k⟩:=h
 unfold b0n at h3
 split at h3
 ·rename_i z n
  split at h3
  ·rename_i c
   obtain⟨c0,c1,c2⟩:=a3V.mp c
   cases h3;cases h1;cases h2
   obtain⟨t,rfl⟩:=rx
   obtain⟨t',rfl⟩:=ry
   have hz:z.length*n.toNat<=AL:=by
    rw [sizeLine_eq]
    have:((z.length*n.toNat:Nat):Int)=z.length*n:=by rw [Int.natCast_mul,Int.toNat_of_nonneg c0]
    lia
   refine SB.mul ⟨?_,fun h4 h5 h6=> ?_,fun h4 h5=> ?_⟩ fun t' k'=>⟨.str _,H,I.tok _,⟨_,rfl⟩, ?_⟩
   ·have e1:¬n< -(2 ^ 63:Int):=by lia
    have e2:¬n>=2 ^ 63:=by lia
    simp [e1,e2]
    lia
   ·have h7:(2 ^ 63 - 1:Int)/ n<z.length:=h6
    have h8:(2 ^ 63 - 1:Int)<(z.length:Int)*n:=by
     have:=Int.lt_mul_of_ediv_lt (a:=(2 ^ 63 - 1:Int)) (b:=(z.length:Int)) (c:=n) (by lia) h7
     exact this
    lia
   ·unfold Builtin.Str.tooLong
    rw [decide_eq_false (by lia)]
   ·rw [b8A c0]
    exact k _ F H (u6.here s0 rfl)
  ·cases h3
 ·rename_i ps n
  split at h3
  ·rename_i c
   obtain⟨c0,c1,c2⟩:=a3V.mp c
   cases h3;cases h2
   obtain⟨a,xs,rfl,fa,hq,rl⟩:=h1
   have hlen:=rl.length
   have hz:xs.length*n.toNat<=AL:=by
    rw [sizeLine_eq,hlen]
    have:((ps.length*n.toNat:Nat):Int)=ps.length*n:=by rw [Int.natCast_mul,Int.toNat_of_nonneg c0]
    lia
   exact b9Y pins s σ H _ _ v u Q I rx ry ⟨a,n,xs,rfl,rfl,hq,by lia,by lia,hz,fun p hp=>k _ _ _ (u6.lst s0 hp (a67 rl _))⟩
  ·cases h3
 ·exact b6d pins s σ H x y v u Q I rx ry ⟨F,_,_,rz,s0,h1,h2,h3,k⟩
def a9b(x:d7):Option d7:=match x with
 | .val (.str z)=>if z.length<=AL then some (.own (z.cps.toList.map fun c=> .str ⟨#[c]⟩)) else none
 |x=>b5j x
theorem b4K(hc:X.calm=true):A6 X (.type "list") (rC1 X.K a9b):=by
 intro pins s σ H xs us Q I rv h
 obtain⟨F,x,rx,rz,e0,s0,h1,h2,k⟩:=h
 unfold a9b at h2
 split at h2
 ·rename_i z
  split at h2
  ·rename_i c
   cases h2
   cases h1
   subst e0
   obtain⟨u,rfl,t,rfl⟩:=Y7 rv
   refine call_list_str (I.ok.hd hc) z t (fun h' tk acc' c' kp e ia=> ?_) (by exact c)
   obtain⟨ia1,ia2⟩:=ia
   have hv:j9 (z.cps.toList.map fun c=>V.str ⟨#[c]⟩) acc'.toList:=by
    have key:∀(cs:List Nat) (us:List AA),us.length=cs.length->(∀(i:Nat) v,us[i]?=some v->∃c u,cs[i]?=some c/\v= .str ⟨#[c]⟩ u)->j9 (cs.map fun c=>V.str ⟨#[c]⟩) us:=by
     intro cs
     induction cs with
     |nil=>
      intro us h1 h2
      have:us=[]:=List.length_eq_zero_iff.mp h1
      subst this;exact .nil
     |cons c cs ih=>
      intro us h1 h2
      cases us with
      |nil=>cases h1
      |cons w us=>
       obtain⟨c',u,e1,e2⟩:=h2 0 w rfl
       simp at e1
       subst e1
       exact .cons ⟨u,e2⟩ (ih us (by simpa using h1) fun i v hv=>by simpa using h2 (i+1) v (by simpa using hv))
    refine key _ _ (by simpa using ia1) fun i v hv=> ?_
    have hv':acc'[i]?=some v:=by simpa using hv
    obtain⟨c,u,e1,e2⟩:=ia2 i v hv'
    exact⟨c,u,by simpa using e1,e2⟩
   have hlen:(z.cps.toList.map fun c=>V.str ⟨#[c]⟩).length<=AL:=by rw [AO];simpa [Str.length] using c
   refine⟨.ref s.heap.objs.size,_,I.laid (t':=tk) kp (AM _) (show y4 X.prog X.w _ h' _ (.lst (z.cps.toList.map fun c=>V.str ⟨#[c]⟩)) from⟨hlen,acc'.toList,c',hv,by rw [e]⟩),rfl,k _ _ _ (u6.lst s0 (I.hok.fresh (AM _)) ?_)⟩
   have:∀cs:List Nat,j0 X.K F (cs.map fun c=>PyData.str ⟨#[c]⟩) (cs.map fun c=>V.str ⟨#[c]⟩):=by
    intro cs
    induction cs with
    |nil=>rfl
    |cons c cs ih=>exact⟨_,_,rfl,rfl,ih⟩
   exact this _
  ·cases h2
 ·exact b7e pins s σ H xs us Q I rv ⟨F,x,_,rz,e0,s0,h1,h2,k⟩
theorem j0.set{K:AD}{H:Hp}{p:PV}{v:V}(h:x4 K H p v):∀{ps:List PV} {xs:List V} (j:Nat),j0 K H ps xs->j0 K H (ps.set j p) (xs.set j v)
 |[],_,_,r=>by cases r;exact rfl
 |_::ps,_,0,⟨w,t,e,_,rl⟩=>by subst e;exact⟨v,t,rfl,h,rl⟩
 |q::ps,_,j+1,⟨w,t,e,hq,rl⟩=>by subst e;exact⟨w,_,rfl,hq,j0.set h j rl⟩
end
theorem a4F:fillsNumberSlot (.type "tuple") "mul"=pure false:=
 PySem.fillsNumberSlot_seq (id:="tuple.__mul__") (r:=some (.builtin "tuple.__rmul__")) PySem.F.slot_tuple_mul.lookup (by decide+kernel) PySem.F.slot_tuple_rmul.lookup (by decide+kernel)
theorem a9H:seqRepeat? (.type "tuple")=pure (some (.builtin "tuple.__mul__")):=by
 unfold seqRepeat?
 rw [PySem.seqSlot_of (T:="tuple") (name:="__mul__") (id:="tuple.__mul__") PySem.F.slot_tuple_mul.lookup (by decide+kernel),PySem.seqSlot_of (T:="tuple") (name:="__rmul__") (id:="tuple.__rmul__") PySem.F.slot_tuple_rmul.lookup (by decide+kernel)]
 rfl
theorem a6w(a:Int)(t:Tok)(l:AB)(items:Array AA)(n:Nat)(dd:Option AB)(sl:Array (Option AA)):Meets (Builtin.«int.__rmul__» ⟨[.int a t,.ref l],[]⟩) (fun _ R s=>s.heap.get? l=some {cls:= .type "tuple",dict:=dd,data:= .seq items n,slots:=sl}/\R (.ok (.ret Value.notImplemented)) s):=
 .of_wp fun prog w A R s h=>by obtain⟨hp,g,d,tk,os⟩:=s;obtain⟨hl,h⟩:=h;wp_walk;exact⟨_,rfl,h⟩
theorem a7y(l:AB)(items:Array AA)(n:Nat)(dd:Option AB)(sl:Array (Option AA))(x:Int)(u:Tok)(hc0:(decide (x< -(2 ^ 63))||decide (x>=2 ^ 63))=false)(hc1:(items.isEmpty||x==1)=false)(hc2:(decide (x<=0)||items.isEmpty)=false)(hc3:¬(items.size:Int)*x>(2 ^ 63 - 1)/ 8)(hc4:Builtin.Tuple.tupleTooMany ((items.size:Int)*x)=false)(hz:((AW x.toNat items).foldl (· ++·) #[]).size<=AL):
 Meets (Builtin.«tuple.__mul__» ⟨[.ref l,.int x u],[]⟩) (fun _ R s=>s.heap.get? l=some {cls:= .type "tuple",dict:=dd,data:= .seq items n,slots:=sl}/\R (.ok (.ret (Value.ref s.heap.objs.size))) {s with heap:=s.heap.push {cls:=Value.type "tuple",data:=Data.seq ((AW x.toNat items).foldl (· ++·) #[])},toks:=s.toks}):=
 .of_wp fun prog w A R s h=>by
  obtain⟨hp,g,d,tk,os⟩:=s;obtain⟨hl,h⟩:=h
  wp_walk
  have ht:IsTup hp l items:=⟨_,hl,rfl,n,rfl⟩
  rw [if_neg (by rw [hc0];exact At)]
  wp_walk
  rw [if_neg hc3]
  wp_walk
  exact⟨_,rfl,h⟩
section
variable {X:Cx}
theorem b70:OpR X (binaryOp .Mult) (fun x y H Q=>∃a xs n,x= .ref a/\y= .int n/\Z1 X.K H a xs/\xs≠[]/\2<=n/\n<=1000000/\xs.length*n.toNat<=AL/\∀p,H p=none->Q (.ref p) (upd H p (.tup (AW n.toNat xs).flatten))):=by
 intro pins s σ H x y v u Q I rx ry h
 obtain⟨a,xs,n,rfl,rfl,hx,hne,h1,h2,hz,q⟩:=h
 cases rx
 obtain⟨t,rfl⟩:=ry
 obtain⟨its,r,ht,_⟩:=I.tuple hx
 have hlen:its.toArray.size=xs.length:=by rw [Ao];exact r.length.symm
 have hie:its.toArray.isEmpty=false:=by
  cases its with
  |nil=>exact absurd (r.nil_iff.mp rfl) hne
  |cons _ _=>rfl
 have hnew:List.foldl (fun x1 x2=>x1++x2) #[] (AW n.toNat its.toArray)=(AW n.toNat its).flatten.toArray:=by
  have:=a4m its n.toNat []
  rw [Ah] at this
  exact this
 have hc:((xs.length*n.toNat:Nat):Int)=(xs.length:Int)*n:=by rw [Int.natCast_mul,Int.toNat_of_nonneg (by lia)]
 have hsl:=sizeLine_eq
 obtain⟨⟨cls,dd,data,sl⟩,ho,hc',m,hd⟩:=id ht
 simp only at hc' hd
 subst hc' hd
 have hzz:(List.foldl (fun x1 x2=>x1++x2) #[] (AW n.toNat its.toArray)).size<=AL:=by
  rw [hnew,Ao,a9r,Nat.mul_comm,<-r.length];exact hz
 refine wpAny_binaryOp_repeat_ref (T:="tuple") (U:="int") (by decide) ht.typeIs (fun s'=>typeIs_int s' n t) a4F F.fills_int_mul F.slot_int_rmul a9H F.slot_int_index.lookup
  (call_meets F.slot_int_rmul (typeIs_int s n t) F.entry_int_rmul (F.args_int_rmul_2 _ _) (a6w n t a its.toArray m dd sl)
   ⟨ho,rfl,ht.typeIs,call_meets PySem.F.slot_tuple_mul ht.typeIs PySem.F.entry_tuple_mul (PySem.F.args_tuple_mul_2 _ _) (a7y a its.toArray m dd sl n t ?_ ?_ ?_ ?_ ?_ hzz) ⟨ho, ?_⟩⟩)
 ·have e1:¬n< -(2 ^ 63:Int):=by lia
  have e2:¬n>=2 ^ 63:=by lia
  simp [e1,e2]
  lia
 ·rw [hie]
  have:n≠1:=by lia
  simp [this]
 ·rw [hie]
  have:¬n<=0:=by lia
  simp [this]
 ·rw [hlen,<-hc]
  lia
 ·rw [hlen,<-hc]
  unfold Builtin.Tuple.tupleTooMany
  rw [decide_eq_false (by lia)]
 ·rw [hnew]
  refine⟨.ref s.heap.objs.size,_,I.laid (t':=s.toks) (o:= .tup (AW n.toNat xs).flatten) (fun b ob q=>AY _ q) (AM _) ?_,rfl,q _ (I.hok.fresh (AM _))⟩
  exact⟨by rw [a9r,Nat.mul_comm];exact hz,_,r.rep n.toNat,IsTup.new _ _⟩
def N9:d7->d7->Option d7
 | .val (.tuple ps),.val (.int k)=>if okC (fun k n=>2<=k/\k<=1000000/\1<=n/\n*k<=16777216) k ps.length=true then some (.val (.tuple (AW k.toNat ps).flatten)) else none
 |x,y=>b0n x y
theorem B1:OpM X (binaryOp .Mult) N9:=by
 intro pins s σ H x y v u Q I rx ry h
 obtain⟨F,ra,rb,rz,s0,h1,h2,h3,k⟩:=h
 unfold N9 at h3
 split at h3
 ·rename_i ps n
  split at h3
  ·rename_i c
   obtain⟨c0,c1,c2,c3⟩:=a3V.mp c
   cases h3;cases h2
   obtain⟨a,xs,rfl,hq,rl⟩:=h1
   have hlen:=rl.length
   have hz:xs.length*n.toNat<=AL:=by
    rw [sizeLine_eq,hlen]
    have:((ps.length*n.toNat:Nat):Int)=ps.length*n:=by rw [Int.natCast_mul,Int.toNat_of_nonneg (by lia)]
    lia
   refine b70 pins s σ H _ _ v u Q I rx ry ⟨a,xs,n,rfl,rfl,p8 s0 hq.sq, ?_,by lia,by lia,hz,fun p hp=>k _ _ _ (u6.tup s0 hp (a67 rl _))⟩
   intro e
   rw [e] at hlen
   simp at hlen
   lia
  ·cases h3
 ·exact b6e pins s σ H x y v u Q I rx ry ⟨F,_,_,rz,s0,h1,h2,h3,k⟩
end
section
variable {prog:AN}{w:AI}{A:AR}{E:AA->AC->Prop}{s:AC}
end
def b4l(h:Heap)(it:AB)(v:AA)(i:Int):Prop:=∃o,h.get? it=some o/\o.cls= .type "reversed"/\o.data= .fields #[v,rawInt i]
theorem b4l.typeIs{s:AC}{it:AB}{v:AA}{i:Int}(x:b4l s.heap it v i):s.TypeIs (.ref it) "reversed":=let ⟨o,ho,hc,_⟩:=x;⟨o,ho,hc⟩
theorem b4l.at{h h':Heap}{it:AB}{v:AA}{i:Int}(x:b4l h it v i)(e:∀o,h.get? it=some o->h'.get? it=some o):b4l h' it v i:=let ⟨o,ho,r⟩:=x;⟨o,e _ ho,r⟩
section
variable {prog:AN}{w:AI}{A:AR}{E:AA->AC->Prop}{s:AC}{u:AA}{T gid:String}{fp:List AB}{n:Nat}{P:Nat->AA->Prop}{Sq:Heap->Prop}
end
section
variable {prog:AN}{w:AI}{A:AR}{E:AA->AC->Prop}{s:AC}{u:AA}{T gid:String}{fp:List AB}{n:Nat}{P:Nat->AA->Prop}{Sq:Heap->Prop}
end
section
variable {prog:AN}{w:AI}{A:AR}{E:AA->AC->Prop}{s:AC}
end
section
variable {X:Cx}
theorem j0.reverse{K:AD}{H:Hp}:∀{ps:List PV} {xs:List V},j0 K H ps xs->j0 K H ps.reverse xs.reverse
 |[],_,r=>by cases r;exact rfl
 |p::ps,_,⟨x,r,e,hp,t⟩=>by
  subst e
  rw [List.reverse_cons,List.reverse_cons]
  exact(j0.reverse t).append ⟨x,[],rfl,hp,rfl⟩
theorem j9.reverse:∀{xs:List V} {us:List AA},j9 xs us->j9 xs.reverse us.reverse
 |_,_,.nil=> .nil
 |_,_,.cons a b=>by
  rw [List.reverse_cons,List.reverse_cons]
  exact(j9.reverse b).append (.cons a .nil)
end
section
variable {X:Cx}
def b72(i j:Nat)(ρ:c7):List PV->Option Fl
 |[p,q]=>some (.nx (setAll ρ [i,j] [.val p,.val q]))
 |_=>none
def b9N(i j:Nat)(m:MA):MS:=fun ρ=>(m ρ).bind (b72 i j ρ)
theorem b9r(i j:Nat){x y:Str}{a b:AF}{m:MA}{px py pt pos:Pos}{kt k2 pt2}(hN:X.N.Nodup)(hc:X.calm=true)(ha:EA X [a,b] m)(hij:i≠j:=by decide)(hi:X.N[i]?=some x:=by rfl)(hj:X.N[j]?=some y:=by rfl)
 (hx:X.env.scope.names.lookup x=some .local:=by rfl) (hy:X.env.scope.names.lookup y=some .local:=by rfl)
 (hw:swappedStores [.Tuple [.Name x px,.Name y py] kt pt] (.Tuple [a,b] k2 pt2) X.env=pure (some [x,y]):=by rfl)
 (hs:swapsWithSole [.Tuple [.Name x px,.Name y py] kt pt] (.Tuple [a,b] k2 pt2) pos.line X.env=pure false:=by rfl):
 ES X (.Assign [.Tuple [.Name x px,.Name y py] kt pt] (.Tuple [a,b] k2 pt2) pos) (b9N i j m):=
 K7 (c0e hc hN hi hj hij hx hy ha hw hs) fun D σ H ⟨F0,H0,F,ρ,fl,so,e,fin⟩=>by
  obtain⟨ps,e1,e⟩:=bind_some e
  unfold b72 at e
  split at e
  ·rename_i p q
   cases e
   refine⟨F,ρ,_,so.e,e1,fun vs F' H' x rl=> ?_⟩
   obtain⟨v,t,rfl,hp,w,t2,rfl,hq,rfl⟩:=id rl
   exact⟨v,w,rfl,fin _ F' H' x.f ((so.ext x).setAll (is:=[i,j]) rl)⟩
  ·cases e
theorem b5T(i j:Nat)(m:MA)(ρ:c7):b9N i j m ρ=(m ρ).bind (b72 i j ρ):=Eq.trans rfl rfl
theorem b91(i j:Nat)(ρ:c7)(p q:PV):b72 i j ρ [p,q]=some (.nx ((ρ.set i (some (.val p))).set j (some (.val q)))):=Eq.trans rfl rfl
theorem j0.dropLast{K:AD}{H:Hp}{ps:List PV}{xs:List V}(r:j0 K H ps xs):j0 K H ps.dropLast xs.dropLast:=by
 rw [List.dropLast_eq_take,List.dropLast_eq_take,r.length]
 exact r.take _
end
def n6(kvs:List (List g0×PV))(k:List g0):Option PV:=(kvs.find? fun kv=>decide (kv.1=k)).map (·.2)
def L5(kvs:List (List g0×PV))(k:List g0)(v:PV):List (List g0×PV):=
 if(kvs.any fun kv=>decide (kv.1=k))=true then kvs.map (fun kv=>if kv.1=k then(kv.1,v) else kv) else kvs++[(k,v)]
theorem u8.length{K:AD}{H:Hp}:∀{kvs:List (List g0×PV)} {ys:List (List g0×V)},u8 K H kvs ys->ys.length=kvs.length
 |[],_,h=>by cases h;rfl
 |(k,p)::r,_,⟨v,t,e,q,h⟩=>by subst e;rw [AU,AU,u8.length h]
theorem u8.any{K:AD}{H:Hp}{k:List g0}:∀{kvs:List (List g0×PV)} {ys:List (List g0×V)},u8 K H kvs ys->(ys.any fun kv=>decide (kv.1=k))=(kvs.any fun kv=>decide (kv.1=k))
 |[],_,h=>by cases h;rfl
 |(k',p)::r,_,⟨v,t,e,q,h⟩=>by subst e;rw [List.any_cons,List.any_cons,u8.any h]
theorem u8.val{K:AD}{H:Hp}{k:List g0}:∀{kvs:List (List g0×PV)} {ys:List (List g0×V)},u8 K H kvs ys->(∀p,n6 kvs k=some p->∃v,Q1 ys k=some v/\x4 K H p v)/\(n6 kvs k=none->Q1 ys k=none)
 |[],_,h=>by cases h;exact⟨fun p e=>(nomatch e),fun _=>rfl⟩
 |(k',p)::r,_,⟨v,t,e,q,h⟩=>by
  subst e
  by_cases c:k'=k
  ·have e1:n6 ((k',p)::r) k=some p:=by simp [n6,List.find?_cons,c]
   have e2:Q1 ((k',v)::t) k=some v:=a0U c
   rw [e1,e2]
   exact⟨fun p' e'=>(by cases e';exact⟨v,rfl,q⟩),fun e'=>(nomatch e')⟩
  ·have e1:n6 ((k',p)::r) k=n6 r k:=by simp [n6,List.find?_cons,c]
   have e2:Q1 ((k',v)::t) k=Q1 t k:=a0T c
   rw [e1,e2]
   exact u8.val h
theorem u8.repl{K:AD}{H:Hp}{k:List g0}{p:PV}{v:V}(hp:x4 K H p v):∀{kvs:List (List g0×PV)} {ys:List (List g0×V)},u8 K H kvs ys->u8 K H (kvs.map fun kv=>if kv.1=k then(kv.1,p) else kv) (ys.map fun kv=>if kv.1=k then(kv.1,v) else kv)
 |[],_,h=>by cases h;exact rfl
 |(k',p')::r,_,⟨v',t,e,q,h⟩=>by
  subst e
  by_cases c:k'=k
  ·rw [AK,AK]
   simp only [if_pos c]
   exact⟨v,_,rfl,hp,u8.repl hp h⟩
  ·rw [AK,AK]
   simp only [if_neg c]
   exact⟨v',_,rfl,q,u8.repl hp h⟩
theorem u8.snoc{K:AD}{H:Hp}{k:List g0}{p:PV}{v:V}(hp:x4 K H p v):∀{kvs:List (List g0×PV)} {ys:List (List g0×V)},u8 K H kvs ys->u8 K H (kvs++[(k,p)]) (ys++[(k,v)])
 |[],_,h=>by cases h;exact⟨v,[],rfl,hp,rfl⟩
 |(k',p')::r,_,⟨v',t,e,q,h⟩=>by subst e;exact⟨v',_,rfl,q,u8.snoc hp h⟩
theorem u8.put{K:AD}{H:Hp}{k:List g0}{p:PV}{v:V}{kvs:List (List g0×PV)}{ys:List (List g0×V)}(r:u8 K H kvs ys)(hp:x4 K H p v):u8 K H (L5 kvs k p) (a1c ys k v):=by
 unfold L5 a1c
 rw [r.any]
 split
 ·exact r.repl hp
 ·exact r.snoc hp
theorem u6.dct{K:AD}{F H:Hp}{a:AB}(s:j8 F H)(n:H a=none):u6 K F H F (upd H a (.dT [])) (.ref a) (.dct []):=
 ⟨U4.layH s n,⟨a,[],rfl,s.free n,g5,rfl⟩,fun _ _ _ e=>by cases e;exact n⟩
section
variable {X:Cx}
def a8B:M:=fun _=>some (.dct [])
theorem a5F{pos:Pos}:EE X (.Dict [] [] pos) a8B:=
 u0 b6m fun σ H Q ⟨F,ρ,r,en,e,k⟩=>by
  cases e
  exact fun d hd=>k _ _ _ (u6.dct en.fh hd)
def b0c(i:Nat)(ρ:c7)(p:PV)(k:List g0):Option Fl:=match ρ[i]? with
 |some (some (.ow (.dct kvs)))=>if kvs.length<AL then some (.nx (ρ.set i (some (.dct (L5 kvs k p))))) else none
 |_=>none
def b18(i:Nat)(ρ:c7)(k:List g0):Option d7:=match ρ[i]? with
 |some (some (.ow (.dct kvs)))=>(n6 kvs k).map .val
 |_=>none
def b2x(i:Nat)(mk:MA):M:=fun ρ=>(mk ρ).bind fun ks=>if ks.length<=AL then(keysOf ks).bind (b18 i ρ) else none
theorem b7s(i:Nat){x:Str}{p tp pos:Pos}{es:List AF}{x1}{mk:MA}(hu:X.A.units+64<cLine)(hx:PE X (.Name x p) (C7 i))(hi:EA X es mk)(hs:b28 (.Tuple es x1 tp):=by intro _ _;rfl):EE X (.Subscript (.Name x p) (.Tuple es x1 tp) pos) (b2x i mk):=
 u0 (a3X (by lia) hx (b1P hi) hs) fun σ H Q ⟨F,ρ,r,en,e,k⟩=>by
  obtain⟨ks,e4,e⟩:=bind_some e
  split at e
  ·rename_i hz
   obtain⟨kk,e5,e⟩:=bind_some e
   unfold b18 at e
   split at e
   ·rename_i kvs eo
    cases hv:n6 kvs kk with
    |none=>rw [hv] at e;cases e
    |some q=>
     rw [hv] at e;cases e
     obtain⟨w,hw1,a,xs,rfl,fa,ha',rl⟩:=en.at_ i _ eo
     obtain⟨y,hy,ry⟩:=(rl.val (k:=kk)).1 q hv
     refine⟨.ref a,hw1,F,ρ,ks,en,e4,fun vs F3 H3 x3 rl3=>⟨by rw [rl3.length];exact hz,fun b hb=> ?_⟩⟩
     have ev:=X5 e5 rl3
     have ha3:=x3.h _ _ ha'
     have hne:a≠b:=fun h=>by subst h;rw [hb] at ha3;cases ha3
     have ha4:upd H3 b (.tup vs) a=some (.dT xs):=by rw [d8 hne];exact ha3
     have xx:=x3.trans (U4.lay (o:= .tup vs) x3.fh hb)
     exact⟨a,y,rfl,by rw [<-hy];exact a1x.t ha4 (by rw [g5,ev]),k _ _ _ (u6.val xx (x4.mono xx.f _ ry))⟩
   ·cases e
  ·cases e
end
section
variable {prog:AN}{w:AI}{A:AR}{E:AA->AC->Prop}{s:AC}
end
section
variable {X:Cx}{pins:List (AB×Obj)}{σ:L2.St}{H:Hp}{s:AC}{a:AB}{A:AR}{E:AA->AC->Prop}
end
section
variable {X:Cx}
end
def b5q:AA->Bool
 | .int _ _=>true
 |_=>false
theorem a6I{K:AD}{a:AB}{o:Obj}:K.lookup a=some o->∃b,(b,o)∈K:=by
 induction K with
 |nil=>intro h;cases h
 |cons p r ih=>
  intro h
  obtain⟨b,u⟩:=p
  rw [List.lookup_cons] at h
  split at h
  ·cases h;exact⟨b,AX ..⟩
  ·obtain⟨c,hc⟩:=ih h
   exact⟨c,Ac _ hc⟩
theorem b12:∀{k:List g0} {us:List AA},j9 (k.map kV) us->k.any Sum.isLeft=true->us.any b5q=true
 |[],_,_,h=>by cases h
 |k::ks,_,r,h=>by
  rw [AK] at r
  cases r with
  |cons r1 r2=>
   rw [List.any_cons] at h ⊢
   cases k with
   |inl i=>obtain⟨t,rfl⟩:=(show ∃t,_=Value.int i t from r1);rfl
   |inr x=>
    have:=b12 r2 (by simpa using h)
    rw [this,Bool.or_true]
theorem u8.isSome{K:AD}{H:Hp}{k:List g0}{kvs:List (List g0×PV)}{ys:List (List g0×V)}(r:u8 K H kvs ys):(Q1 ys k).isSome=(n6 kvs k).isSome:=by
 cases hv:n6 kvs k with
 |none=>rw [(r.val (k:=k)).2 hv];rfl
 |some p=>
  obtain⟨v,e,_⟩:=(r.val (k:=k)).1 p hv
  rw [e];rfl
section
variable {X:Cx}
def b3k(neg:Bool)(i:Nat)(ρ:c7)(k:List g0):Option d7:=match ρ[i]? with
 |some (some (.ow (.dct kvs)))=>some (.val (.bool (if neg then !(n6 kvs k).isSome else(n6 kvs k).isSome)))
 |_=>none
theorem c1v{t:TE}{m:M}(i:∀σ H Q,tM X.K m σ H Q->t σ H Q){σ:L2.St}{H:Hp}{Q:Bool->Hp->Prop}(h:tMT X.K (mtB m) σ H Q):tB t σ H Q:=by
 obtain⟨F,ρ,b,h1,h2,k⟩:=h
 obtain⟨r,e1,e2⟩:=bind_some h2
 exact i _ _ _ ⟨F,ρ,r,h1,e1,fun v F1 H1 o=>⟨b,a3Y o.rep e2,k F1 H1 o.x⟩⟩
def a9l(r:d7):Option Str:=match r with
 | .val (.str x)=>some x
 |_=>none
end
theorem b1w(x:Str):a9l (.val (.str x))=some x:=Eq.trans rfl rfl
def b3v(x:Str):List Str->List Str
 |[]=>[x]
 |y::r=>if y.cps.toList<x.cps.toList then y::b3v x r else x::y::r
def Y6:List Str->List Str
 |[]=>[]
 |x::r=>b3v x (Y6 r)
theorem a4r(x:Str):∀l:List Str,(b3v x l).Perm (x::l)
 |[]=>List.Perm.refl _
 |y::r=>by
  unfold b3v
  split
  ·exact((a4r x r).cons y).trans (List.Perm.swap x y r)
  ·exact List.Perm.refl _
theorem M7:∀l:List Str,(Y6 l).Perm l
 |[]=>List.Perm.refl _
 |x::r=>(a4r x (Y6 r)).trans ((M7 r).cons x)
def leS(a b:Str):Prop:=¬b.cps.toList<a.cps.toList
theorem a6H{a b:Str}(h:leS a b)(g:leS b a):a=b:=by
 have e:a.cps.toList=b.cps.toList:=List.le_antisymm h g
 cases a;cases b
 simp at e ⊢
 exact e
theorem a4w{a b c:Str}(h:leS a b)(g:leS b c):leS a c:=List.le_trans h g
theorem a5a(x:Str):∀{l:List Str},l.Pairwise leS->(b3v x l).Pairwise leS
 |[],_=>List.pairwise_singleton _ _
 |y::r,h=>by
  unfold b3v
  have h':=List.pairwise_cons.mp h
  split
  ·rename_i c
   refine List.pairwise_cons.mpr ⟨fun z hz=> ?_,a5a x h'.2⟩
   rcases AV.mp ((a4r x r).mem_iff.mp hz) with e|e
   ·subst e;exact List.lt_asymm c
   ·exact h'.1 z e
  ·rename_i c
   refine List.pairwise_cons.mpr ⟨fun z hz=> ?_,h⟩
   rcases AV.mp hz with e|e
   ·subst e;exact c
   ·exact a4w c (h'.1 z e)
theorem O9:∀l:List Str,(Y6 l).Pairwise leS
 |[]=>List.Pairwise.nil
 |x::r=>a5a x (O9 r)
theorem a0k:∀{l m:List Str},l.Pairwise leS->m.Pairwise leS->l.Perm m->l=m
 |[],m,_,_,p=>(List.Perm.nil_eq p)
 |a::l,[],_,_,p=>by have:=p.length_eq;simp at this
 |a::l,b::m,hl,hm,p=>by
  have hl':=List.pairwise_cons.mp hl
  have hm':=List.pairwise_cons.mp hm
  have e:a=b:=by
   have m1:a∈b::m:=p.mem_iff.mp AX
   have m2:b∈a::l:=p.mem_iff.mpr AX
   rcases AV.mp m1 with e|e
   ·exact e
   ·rcases AV.mp m2 with g|g
    ·exact g.symm
    ·exact a6H (hl'.1 b g) (hm'.1 a e)
  subst e
  rw [a0k hl'.2 hm'.2 (List.Perm.cons_inv p)]
theorem a8M:∀{p:Str} {l:List Str},risingS p l=true->(p::l).Pairwise leS
 |p,[],_=>List.pairwise_singleton _ _
 |p,x::r,h=>by
  unfold risingS at h
  rw [Bool.and_eq_true] at h
  have ih:=a8M h.2
  have h1:leS p x:=by
   have:=h.1
   rw [ltCps_eq] at this
   unfold leS
   simpa using this
  refine List.pairwise_cons.mpr ⟨fun z hz=> ?_,ih⟩
  rcases AV.mp hz with e|e
  ·subst e;exact h1
  ·exact a4w h1 ((List.pairwise_cons.mp ih).1 z e)
theorem a7t:∀{l:List Str},sortedS l=true->l.Pairwise leS
 |[],_=>List.Pairwise.nil
 |x::r,h=>a8M h
section
variable {prog:AN}{w:AI}{A:AR}{E:AA->AC->Prop}{s:AC}
theorem b1W{l:AB}{T:String}{o:Obj}{vs:List AA}{n:Nat}{ss:List Str}{Q:AA->AC->Prop}(hT:T="list"\/T="tuple")(ho:s.heap.get? l=some o)(hc:o.cls= .type T)(hd:o.data= .seq vs.toArray n)(hS:StrsAre vs ss)(h64:vs.length<64)
 (h:∀(h1 h':Heap) (e:Nat) (us:List AA),(∀b o',s.heap.get? b=some o'->h1.get? b=some o')->(∀b o',h1.get? b=some o'->h'.get? b=some o')->StrsAre us (Y6 ss)->h'.get? h1.objs.size=some (seqObj "list" us.toArray e)->Q (.ref h1.objs.size) {s with heap:=h'}):
 AG (model prog w) A (call (.builtin "sorted") [.ref l]) Q E s:=by
 refine Calls.call_function_entry kind_sorted plain_sorted entry_sorted (args_sorted1 _) ?_
 unfold Builtin.«sorted»
 refine AE (m:=checkCount "sorted" 1 1 _) (AJ ?_)
 refine AE (wpAny_collect_seq l hT ho hc hd (fun h1 k1=> ?_) (by rw [Ao,sizeLine_eq];lia))
 have ev:vs.toArray.toList=vs:=by simp
 rw [ev]
 refine AE (wpAny_newList ?_)
 have hoL:(h1.push (seqObj "list" vs.toArray 0)).get? h1.objs.size=some (seqObj "list" vs.toArray 0):=An _ rfl
 show AG _ _ _ _ _ {s with heap:=h1.push (seqObj "list" vs.toArray 0)}
 refine AE (wpAny_holding (wpAny_call_entry slot_list_sort ⟨_,hoL,rfl⟩ entry_list_sort (list_sort_treeK strKind_oneLt hoL hS.keysOf (fun v₁ v₂ B7 e=>keyKind_strs (by rw [<-e];exact hS)) h64 fun st' a1 a2=>⟨_,rfl, ?_⟩) (args_list_sort _)))
 obtain⟨ss',g1,g2,g3⟩:=sorted_out_str hS a1 a2
 have e1:ss'=Y6 ss:=a0k (a7t g3) (O9 ss) (g2.trans (M7 ss).symm)
 subst e1
 obtain⟨e,he⟩:=sortedHeap_at (out:=(arrOf st').map (·.2)) hoL
 refine AJ ⟨_,rfl,h h1 _ e _ k1 (fun b o' hb1=> ?_) g1 (by rw [Array.toArray_toList];exact he)⟩
 have hlt:=Ad hb1
 rw [sortedHeap_old (Aj hlt) (by rw [size_push'];exact Nat.lt_succ_of_lt hlt),Heap.get?_push_ne _ _ _ (Aj hlt)]
 exact hb1
end
theorem a4X:∀{us:List AA} {ss:List Str},StrsAre us ss->j9 (ss.map V.str) us
 |_,_,.nil=> .nil
 |_,_,.cons x t h=>by rw [AK];exact .cons ⟨t,rfl⟩ (a4X h)
theorem b0S:∀{us:List AA} {ss:List Str},StrsAre us ss->us.length=ss.length
 |_,_,.nil=>rfl
 |_,_,.cons x t h=>by rw [AU,AU,b0S h]
theorem a4O{K:AD}{H:Hp}:∀ss:List Str,j0 K H (ss.map PyData.str) (ss.map V.str)
 |[]=>rfl
 |x::r=>⟨_,_,rfl,rfl,a4O r⟩
def a9d(x:d7):Option d7:=match PyData.items? x.rd with
 |some ps=>(C6 ps).bind fun ss=>if ss.length<64 then some (.own ((Y6 ss).map .str)) else none
 |none=>none
section
variable {X:Cx}
theorem b4M:A6 X (.builtin "sorted") (rC1 X.K a9d):=by
 intro pins s σ H xs us Q I rv h
 obtain⟨F,x,rx,rz,rfl,s0,h1,h2,k⟩:=h
 unfold a9d at h2
 split at h2
 ·rename_i ps e
  obtain⟨ss,e1,h2⟩:=bind_some h2
  split at h2
  ·rename_i c
   cases h2
   obtain⟨a,xs,rfl,hq,r⟩:=D8 s0 h1 e
   obtain⟨u,rfl,ru⟩:=Y7 rv
   cases ru
   have fin:∀(its:List AA) (T:String) (o:Obj) (n:Nat),(T="list"\/T="tuple")->s.heap.get? a=some o->o.cls= .type T->o.data= .seq its.toArray n->j9 xs its->AG (model X.prog X.w) X.A (call (.builtin "sorted") [.ref a]) (EP X pins σ Q) X.xe s:=by
    intro its T o n hT ho hc hd rvv
    have hS:=a1i e1 r rvv
    refine b1W hT ho hc hd hS (by rw [b0S hS];exact c) fun hp1 hp2 en us k1 k2 hs he=> ?_
    have I1:g9 X pins σ H {s with heap:=hp1}:=I.kept (t':=s.toks) k1
    have hlen:(Y6 ss).length=ss.length:=(M7 ss).length_eq
    have hf:H hp1.objs.size=none:=I1.hok.fresh (AM _)
    refine⟨.ref hp1.objs.size,_,I1.laid (t':=s.toks) (h':=hp2) (o:= .lst ((Y6 ss).map V.str)) k2 (AM _) ⟨by rw [AO,hlen,sizeLine_eq];lia,us,en,a4X hs,he⟩,rfl,k _ F _ (u6.lst s0 hf (a4O _))⟩
   rcases hq with hq|hq
   ·obtain⟨its,r',pl,hz⟩:=I.list hq
    obtain⟨o,ho,hc,n,hd⟩:=pl.isList
    exact fin its "list" o n (.inl rfl) ho hc hd r'
   ·obtain⟨its,r',⟨o,ho,hc,n,hd⟩,hz⟩:=I.tuple hq
    exact fin its "tuple" o n (.inr rfl) ho hc hd r'
  ·cases h2
 ·cases h2
end
section
variable {X:Cx}
end
section
variable {prog:AN}{w:AI}{A:AR}{E:AA->AC->Prop}{s:AC}
theorem a3T{it t:AB}{i:Nat}{items}{x:AA}{Q:AA->AC->Prop}(hit:s.heap.IsTupleIter it t i)(ht:s.heap.IsTuple t items)(hx:items[i]?=some x)
 (hQ:∀h',h'.IsTupleIter it t (i+1)->Heap.SameBut it s.heap h'->Q x {s with heap:=h'}):AG (model prog w) A (Builtin.SmallTypes.nextOf (.ref it)) Q E s:=by
 obtain⟨o,ho,hc,hd⟩:=id hit
 obtain⟨ol,hol,_,nl,hdl⟩:=ht
 unfold Builtin.SmallTypes.nextOf
 refine AE (wpAny_callSpecial?_slot (name:=AS "__next__") hit.typeIs F.slot_tuple_iterator_next
  (wpAny_call_entry F.slot_tuple_iterator_next hit.typeIs F.entry_tuple_iterator_next ?_ (F.args_tuple_iterator_next_1 _)))
 show AG _ _ (field (.ref it) 0>>=_) _ _ s
 refine AE (wpAny_field ho hd (x:= .ref t) rfl ?_)
 show AG _ _ (if(Value.ref t==Value.none)=true then _ else _) _ _ s
 rw [if_neg (show ¬((Value.ref t==Value.none)=true) from At)]
 show AG _ _ (field (.ref it) 1>>=_) _ _ s
 refine AE (wpAny_field ho hd (x:= .int i 0) rfl ?_)
 show AG _ _ (seqItems? (.ref t)>>=_) _ _ s
 refine AE (wpAny_seqItems hol hdl ?_)
 simp only [BH,hx]
 refine AE (wpAny_setField ho hd (by simp) (AJ ⟨x,rfl,AJ (hQ _ ?_ (Heap.SameBut.update ..))⟩))
 exact⟨_,Heap.get?_update_self _ ho (Obj.isFreed_of_fields (Obj.data_mapFields hd _)),(Obj.cls_mapFields ..).trans hc,by
  rw [Obj.data_mapFields hd];simp [rawInt]⟩
theorem a0M{it t:AB}{i:Nat}{items}{Q:AA->AC->Prop}(hh:A.handled=none)(hit:s.heap.IsTupleIter it t i)(ht:s.heap.IsTuple t items)(hx:items[i]?=none)
 (hE:∀h' e,Heap.ExtBut it s.heap h'->(∃o,h'.get? e=some o/\o.cls= .type "StopIteration")->E (.ref e) {s with heap:=h'}):AG (model prog w) A (Builtin.SmallTypes.nextOf (.ref it)) Q E s:=by
 obtain⟨o,ho,hc,hd⟩:=id hit
 obtain⟨ol,hol,_,nl,hdl⟩:=ht
 unfold Builtin.SmallTypes.nextOf
 refine AE (wpAny_callSpecial?_slot (name:=AS "__next__") hit.typeIs F.slot_tuple_iterator_next
  (wpAny_call_entry F.slot_tuple_iterator_next hit.typeIs F.entry_tuple_iterator_next ?_ (F.args_tuple_iterator_next_1 _)))
 show AG _ _ (field (.ref it) 0>>=_) _ _ s
 refine AE (wpAny_field ho hd (x:= .ref t) rfl ?_)
 show AG _ _ (if(Value.ref t==Value.none)=true then _ else _) _ _ s
 rw [if_neg (show ¬((Value.ref t==Value.none)=true) from At)]
 show AG _ _ (field (.ref it) 1>>=_) _ _ s
 refine AE (wpAny_field ho hd (x:= .int i 0) rfl ?_)
 show AG _ _ (seqItems? (.ref t)>>=_) _ _ s
 refine AE (wpAny_seqItems hol hdl ?_)
 simp only [BH,hx]
 refine AE (wpAny_rule (AE (wpAny_setField ho hd (by simp) ?_)))
 show AG _ _ (newExc (.type "StopIteration") []>>=_) _ _ _
 refine AE ?_
 simp only [newExc,newTuple]
 refine AE (wpAny_newObj_type ?_ (by size_fits))
 refine AE (m:=firstArgMember _ _) (wpAny_of_eq (a:=Value.none) (by first|rfl|(simp only [firstArgMember];rfl)) ?_)
 refine wpAny_newObj_type ?_ (by size_fits)
 simp only [raiseNew]
 refine AE (wpAny_handled ?_)
 first|rw [show A.in1.handled=none from hh]|rw [hh]
 refine AE (AJ (wpAny_throw ?_))
 exact hE _ _ (((Heap.SameBut.update ..).extBut.push _).push _) ⟨_,An _ rfl,rfl⟩
end
theorem b0d{prog:AN}{w:AI}{A:AR}(hh:A.handled=none)(it l:AB)(hne:l≠it)(items:Array AA):
 Draws prog w A it [it,l] items.size (fun i v=>items[i]?=some v) (fun i h=>h.IsTupleIter it l i/\h.IsTuple l items) where
 live:=fun _ _ st=>let ⟨o,ho,_⟩:=st.1;⟨o,ho⟩
 frame:=fun _ _ _ st hk=>⟨st.1.at fun o e=>hk it (by simp) o e,let ⟨o,e,r⟩:=st.2;⟨o,hk l (by simp) o e,r⟩⟩
 item:=fun i s Q E hi st hQ=>by
  refine a3T st.1 st.2 (x:=items[i]) (by simp [hi]) fun h' hit' hs'=> ?_
  exact hQ _ h' s.toks (by simp [hi]) ⟨hit',let ⟨o,e,r⟩:=st.2;⟨o,(hs'.2 l hne).trans e,r⟩⟩ hs'
 done:=fun s Q E st hE=>a0M hh st.1 st.2 (by simp) hE
theorem a18(l:AB)(items:Array AA)(n:Nat)(dct:Option AB)(sl:Array (Option AA)):
 Meets (Builtin.«enumerate.__new__» ⟨[.type "enumerate",.ref l],[]⟩) (fun _ R s=>s.heap.get? l=some {cls:= .type "tuple",dict:=dct,data:= .seq items n,slots:=sl}/\
  R (.ok (.ret (.ref (s.heap.push {cls:= .type "tuple_iterator",data:= .fields #[.ref l,.int 0 0]}).objs.size)))
   {s with heap:=(s.heap.push {cls:= .type "tuple_iterator",data:= .fields #[.ref l,.int 0 0]}).push {cls:= .type "enumerate",data:= .fields #[.none,.bool false,.ref s.heap.objs.size,rawInt 0,.none,.none]}}):=
 .of_wp fun prog w A R s h=>by
  obtain⟨hp,g,d,tk,os⟩:=s;obtain⟨hl,h⟩:=h
  have hsub:=sub_enumerate
  have hL:Heap.IsTuple (Shared.heap ⟨hp,g,d,tk,os⟩) l items:=⟨_,hl,rfl,n,rfl⟩
  wp_walk using AutoSeq1.wpAny_loadPart' hl
  refine wpAny_stack_any fun st=>AJ ?_
  split
  ·rename_i c _ _ _ _ _
   cases(c==Value.type "enumerate")
   ·wp_walk using AutoSeq1.wpAny_loadPart' hl,wpAny_pyIter_tuple hL
    exact⟨_,rfl,h⟩
   ·wp_walk using AutoSeq1.wpAny_loadPart' hl,wpAny_pyIter_tuple hL
    exact⟨_,rfl,h⟩
  ·wp_walk using AutoSeq1.wpAny_loadPart' hl,wpAny_pyIter_tuple hL
   exact⟨_,rfl,h⟩
section
variable {prog:AN}{w:AI}{A:AR}{E:AA->AC->Prop}{s:AC}
theorem a1G{l:AB}{items:Array AA}{Q:AA->AC->Prop}(hL:s.heap.IsTuple l items)
 (h:∀h',IsEnum h' (s.heap.objs.size+1) s.heap.objs.size 0 .none->h'.IsTupleIter s.heap.objs.size l 0->h'.objs.size=s.heap.objs.size+2->
  (∀b o,s.heap.get? b=some o->h'.get? b=some o)->Q (.ref (s.heap.objs.size+1)) {s with heap:=h'}):
 AG (model prog w) A (call (.type "enumerate") [.ref l]) Q E s:=by
 obtain⟨⟨c,dct,dt,sl⟩,hl,hc,n,hd⟩:=hL
 replace hc:c= .type "tuple":=hc
 replace hd:dt= .seq items n:=hd
 subst hc hd
 refine callType_new F.called_enumerate (by decide) (F.typeCall_enumerate_1 _) (F.newCall_enumerate_1 _) (fun obj=>F.args_object_init_2 obj _) F.entry_enumerate_new
  (a18 l items n dct sl) ⟨hl, ?_⟩
 have hz:(s.heap.push {cls:= .type "tuple_iterator",data:= .fields #[.ref l,.int 0 0]}).objs.size=s.heap.objs.size+1:=Heap.size_push ..
 show _/\_
 rw [hz]
 have he:IsEnum ((s.heap.push {cls:= .type "tuple_iterator",data:= .fields #[.ref l,.int 0 0]}).push
  {cls:= .type "enumerate",data:= .fields #[.none,.bool false,.ref s.heap.objs.size,rawInt 0,.none,.none]}) (s.heap.objs.size+1) s.heap.objs.size 0 .none:=by
  have:=An (s.heap.push {cls:= .type "tuple_iterator",data:= .fields #[.ref l,.int 0 0]})
   (o:={cls:= .type "enumerate",data:= .fields #[.none,.bool false,.ref s.heap.objs.size,rawInt 0,.none,.none]}) rfl
  rw [hz] at this;exact this
 refine⟨⟨_,he,rfl⟩,h _ he ⟨_,AY _ (An _ rfl),rfl,rfl⟩ (by rw [Heap.size_push,hz]) fun b o x=>AY _ (AY _ x)⟩
end
theorem g9.turnedTup{X:Cx}{pins:List (AB×Obj)}{σ:L2.St}{H:Hp}{s:AC}{h':Heap}{t':Nat}{e it:AB}{xs:List V}(I:g9 X pins σ H s)(fe:a38 X pins H e)(fi:a38 X pins H it)
 (k:∀b o,b≠e->b≠it->s.heap.get? b=some o->h'.get? b=some o) (new:y4 X.prog X.w (upd H s.heap.objs.size (.tup xs)) h' s.heap.objs.size (.tup xs)):
 g9 X pins σ (upd H s.heap.objs.size (.tup xs)) {s with heap:=h',toks:=t'}:=by
 have hn:H s.heap.objs.size=none:=I.hok.fresh (AM _)
 have nb:∀b u,H b=some u->b≠e/\b≠it:=fun b u q=>⟨fun z=>(by rw [z,fe.1] at q;cases q),fun z=>(by rw [z,fi.1] at q;cases q)⟩
 refine I.step (g':=s.gens) (d':=s.drawn) (ch:=[e,it]) (fun b hb=> ?_) (fun b o _ _ hc q _=>k b o (fun z=>hc (by simp [z])) (fun z=>hc (by simp [z])) q) (fun b o _ _ hc q _=>⟨o.slots,k b o (fun z=>hc (by simp [z])) (fun z=>hc (by simp [z])) q⟩)
  (fun b o _ q n=>by rw [d8 (Aj (Ad q))];exact n) (fun b o hc q=>⟨o,k b o (fun z=>hc (by simp [z])) (fun z=>hc (by simp [z])) q⟩)
  (fun b xs q=>by rw [d8 (j7 q hn)];exact q) (fun b o u q=>by rw [d8 (j7 q hn)];exact q) (fun b ps q=>⟨#[],by rw [d8 (j7 q hn),q];simp⟩) (fun m hm=> ?_) (fun b u q=> ?_) I.bare
 ·have hb:b=e\/b=it:=by simpa using hb
  rcases hb with rfl|rfl
  ·exact⟨fe.2.2.2.1,fe.2.1,fe.2.2.2.2.1,fe.2.2.2.2.2⟩
  ·exact⟨fi.2.2.2.1,fi.2.1,fi.2.2.2.2.1,fi.2.2.2.2.2⟩
 ·obtain⟨o,es,ep,ho,r⟩:=hm
  exact⟨o,es,ep,k _ o (Ne.symm fe.2.1) (Ne.symm fi.2.1) ho,r⟩
 ·by_cases hb:b=s.heap.objs.size
  ·subst hb
   rw [g5] at q
   cases q
   exact new
  ·rw [d8 hb] at q
   refine(I.hok b u q).stay (fun c v hc y=>k c v ?_ ?_ y) (fun c y=>by rw [d8 (j7 y hn)];exact y) fun c ys y=>by rw [d8 (j7 y hn)];exact y
   ·rcases hc with z|z
    ·rw [z];exact(nb b u q).1
    ·exact(nb c _ z).1
   ·rcases hc with z|z
    ·rw [z];exact(nb b u q).2
    ·exact(nb c _ z).2
def Ite(J:It):It:=⟨J.go,fun i H v H'=>∃x t,J.yld i H x H/\H t=none/\v= .ref t/\H'=upd H t (.tup [.int i,x]),J.stop⟩
structure a9Q(P:AN)(w:AI)(K:AD)(J:It)(it:AB)(tn:Nat->Heap->Prop):Prop where
 obj:∀i h,tn i h->∃o,h.get? it=some o/\∀v,o.data≠.cell v
 keep:∀i h h',tn i h->(∀o,h.get? it=some o->h'.get? it=some o)->tn i h'
 item:∀(X:Cx),X.prog=P->X.w=w->X.K=K->X.calm=true->∀(i:Nat) (pins:List (AB×Obj)) (s:AC) (σ:L2.St) (H:Hp),g9 X pins σ H s->a38 X pins H it->tn i s.heap->J.go i H->
  ∃(fp:List AB) (n:Nat) (Pq:Nat->AA->Prop) (St:Nat->Heap->Prop),Draws P w X.A.in1 it fp n Pq St/\St i s.heap/\i<n/\(∀e old,e≠it->IsEnum s.heap e it i old->e∉fp)/\(∀v,Pq i v->∃x,m3 x v/\J.yld i H x H)/\∀h',St (i+1) h'->tn (i+1) h'
 done:∀(X:Cx),X.prog=P->X.w=w->X.K=K->X.calm=true->∀(i:Nat) (pins:List (AB×Obj)) (s:AC) (σ:L2.St) (H:Hp),g9 X pins σ H s->a38 X pins H it->tn i s.heap->J.stop i H->
   ∃(fp:List AB) (n:Nat) (Pq:Nat->AA->Prop) (St:Nat->Heap->Prop),Draws P w X.A.in1 it fp n Pq St/\St n s.heap
theorem b4c{P:AN}{w:AI}{K:AD}{J:It}{e it:AB}{tn:Nat->Heap->Prop}{elts:List AF}{x1}{pos:Pos}(D:a9Q P w K J it tn)(hne:e≠it):
 b09 P w K (.Tuple elts x1 pos) (Ite J) [e,it] e (fun i h=>(∃old,IsEnum h e it i old)/\tn i h) where
 mem:=by simp
 obj:=fun i h ⟨⟨old,he⟩,st⟩ b hb=>by
  have hb:b=e\/b=it:=by simpa using hb
  rcases hb with rfl|rfl
  ·exact⟨_,he,fun v z=>by cases z⟩
  ·exact D.obj i h st
 keep:=fun i h h' ⟨⟨old,he⟩,st⟩ k=>⟨⟨old,k e (by simp) _ he⟩,D.keep i h h' st fun o q=>k it (by simp) o q⟩
 item:=by
  intro X hP hw hK hc i pins s σ H E I hf ⟨⟨old,he⟩,st⟩ hg
  have fe:=hf e (by simp)
  have fi:=hf it (by simp)
  obtain⟨fp,n,Pq,St,DD,hst,hlt,hef,hy,hnx⟩:=D.item X hP hw hK hc i pins s σ H I fi st hg
  subst hP hw hK
  refine wpAny_pyNext_enum_itemD DD he hst hlt hne (hef e old hne he) fun u h' tk hPu hout hst' htup hsz hk=>⟨_,rfl, ?_⟩
  obtain⟨x,rx,yx⟩:=hy u hPu
  refine wpAny_letOwnedTupleGo_enum hout fun h2 he2 hs2=> ?_
  have helt:e<s.heap.objs.size:=Ad he
  have hilt:it<s.heap.objs.size:=by obtain⟨o,q,_⟩:=D.obj i _ st;exact Ad q
  have htup2:h2.get? s.heap.objs.size=some {cls:= .type "tuple",data:= .seq #[.int i tk,u]}:=(hs2.2 _ (Nat.ne_of_gt helt)).trans htup
  have I2:g9 X pins σ (upd H s.heap.objs.size (.tup [.int i,x])) {s with heap:=h2,toks:=tk+1}:=by
   refine g9.turnedTup I fe fi (fun b o hbe hbi q=>(hs2.2 b hbe).trans (hk b o hbe hbi q)) ?_
   exact⟨by rw [sizeLine_eq];simp,[.int i tk,u],.cons ⟨tk,rfl⟩ (.cons rx .nil),⟨_,htup2,rfl,0,rfl⟩⟩
  refine⟨.ref s.heap.objs.size,_,I2,rfl,⟨x,s.heap.objs.size,yx,I.hok.fresh (AM _),rfl,rfl⟩,⟨⟨_,by simpa using he2⟩,D.keep _ _ _ (hnx h' hst') fun o q=>(hs2.2 it (Ne.symm hne)).trans q⟩,fun b hb=> ?_⟩
  have hb:b=e\/b=it:=by simpa using hb
  rcases hb with rfl|rfl
  ·rw [d8 (Aj helt)];exact fe.1
  ·rw [d8 (Aj hilt)];exact fi.1
 done:=by
   intro X hP hw hK hc i pins s σ H E I hf ⟨⟨old,he⟩,st⟩ hg
   have fi:=hf it (by simp)
   obtain⟨fp,n,Pq,St,DD,hst⟩:=D.done X hP hw hK hc i pins s σ H I fi st hg
   subst hP hw hK
   exact wpAny_pyNext_enum_endD DD he hst fun h' eb=>⟨rfl,I.turned (t':=s.toks) (fun b o hb q=>eb b o hb q) fi.1 fi.2.1 fi.2.2.2.1 fi.2.2.2.2.1 fi.2.2.2.2.2⟩
 self:=fun _ _ _ _ _ ⟨⟨_,he⟩,_⟩ h=>wpAny_pyIter_enum he h
theorem a4h{prog:AN}{w:AI}{A:AR}{it:AB}{fp:List AB}{i:Nat}{S0:Heap->Prop}(lv:∀h,S0 h->∃o,h.get? it=some o)(fr:∀h h',S0 h->(∀b∈fp,∀o,h.get? b=some o->h'.get? b=some o)->S0 h')
 (en:∀(s:AC) (Q:AA->AC->Prop) (E:AA->AC->Prop),S0 s.heap->(∀h' e,Heap.ExtBut it s.heap h'->(∃o,h'.get? e=some o/\o.cls= .type "StopIteration")->E (.ref e) {s with heap:=h'})->AG (model prog w) A (Builtin.SmallTypes.nextOf (.ref it)) Q E s):
 Draws prog w A it fp i (fun _ _=>True) (fun k h=>k=i/\S0 h) where
 live:=fun _ h st=>lv h st.2
 frame:=fun _ h h' st k=>⟨st.1,fr h h' st.2 k⟩
 item:=fun k s Q E hk st _=>by have:=st.1;lia
 done:=fun s Q E st hE=>en s Q E st.2 hE
theorem b0g{P:AN}{w:AI}{K:AD}(a it:AB):a9Q P w K (Itt K a) it (fun i h=>h.IsTupleIter it a i) where
 obj:=fun i h st=>by
  obtain⟨o,e,c,d⟩:=st
  exact⟨o,e,fun v z=>by rw [d] at z;cases z⟩
 keep:=fun i h h' st k=>st.at fun o e=>k o e
 item:=by
  intro X hP hw hK hc i pins s σ H I fi st hg
  subst hP hw hK
  obtain⟨xs,x,hq,hx⟩:=hg
  obtain⟨its,rv,p,hz⟩:=I.tuple hq
  obtain⟨u,hu,ru⟩:=rv.get hx
  have p':s.heap.IsTuple a its.toArray:=p
  have hai:a≠it:=fun z=>by
   subst z
   obtain⟨o,e,c,_⟩:=p'
   obtain⟨o2,e2,c2,_⟩:=st
   rw [e] at e2;cases e2;rw [c] at c2
   injection c2 with c2
   exact absurd c2 (by decide)
  refine⟨_,_,_,_,b0d (prog:=X.prog) (w:=X.w) (A:=X.A.in1) (show X.A.in1.handled=none from I.ok.hd hc) it a hai its.toArray,⟨st,p'⟩, ?_,fun e old hne he hm=> ?_,fun v hv=> ?_,fun h' z=>z.1⟩
  ·have:=(Am.mp hu).1
   simpa using this
  ·have hm:e=it\/e=a:=by simpa using hm
   rcases hm with rfl|rfl
   ·exact hne rfl
   ·obtain⟨o,q,c,_⟩:=p'
    rw [he] at q;cases q
    injection c with c
    exact absurd c (by decide)
  ·have hv:its[i]?=some v:=by simpa using hv
   rw [hu] at hv;cases hv
   exact⟨x,ru,rfl,fun ys hy=>by rw [I.tuple_inj hy hq];exact hx⟩
 done:=by
   intro X hP hw hK hc i pins s σ H I fi st hg
   subst hP hw hK
   obtain⟨xs,hq,hx⟩:=hg
   obtain⟨its,rv,p,hz⟩:=I.tuple hq
   have p':s.heap.IsTuple a its.toArray:=p
   have hl:=rv.length
   exact⟨_,_,_,_,a4h (prog:=X.prog) (w:=X.w) (A:=X.A.in1) (it:=it) (fp:=[it,a]) (i:=i) (S0:=fun h=>h.IsTupleIter it a i/\h.IsTuple a its.toArray) (fun h z=>let ⟨o,ho,_⟩:=z.1;⟨o,ho⟩)
    (fun h h' z k=>⟨z.1.at fun o e=>k it (by simp) o e,let ⟨o,e,r⟩:=z.2;⟨o,k a (by simp) o e,r⟩⟩)
    (fun s Q E z hE=>a0M (show X.A.in1.handled=none from I.ok.hd hc) z.1 z.2 (by simp;lia) hE),rfl,st,p'⟩
theorem b1j{P:AN}{w:AI}{K:AD}(a it:AB):a9Q P w K (Itl K a) it (fun i h=>h.IsListIter it a i) where
 obj:=fun i h st=>by
  obtain⟨o,e,c,d⟩:=st
  exact⟨o,e,fun v z=>by rw [d] at z;cases z⟩
 keep:=fun i h h' st k=>st.at fun o e=>k o e
 item:=by
  intro X hP hw hK hc i pins s σ H I fi st hg
  subst hP hw hK
  obtain⟨xs,x,hq,hx⟩:=hg
  obtain⟨its,rv,p,hz⟩:=I.list hq
  obtain⟨u,hu,ru⟩:=rv.get hx
  have p':s.heap.IsList a its.toArray:=p.isList
  have hai:a≠it:=fun z=>by
   subst z
   obtain⟨o,e,c,_⟩:=p'
   obtain⟨o2,e2,c2,_⟩:=st
   rw [e] at e2;cases e2;rw [c] at c2
   injection c2 with c2
   exact absurd c2 (by decide)
  refine⟨_,_,_,_,Draws.list (prog:=X.prog) (w:=X.w) (A:=X.A.in1) (show X.A.in1.handled=none from I.ok.hd hc) it a hai its.toArray,⟨st,p'⟩, ?_,fun e old hne he hm=> ?_,fun v hv=> ?_,fun h' z=>z.1⟩
  ·have:=(Am.mp hu).1
   simpa using this
  ·have hm:e=it\/e=a:=by simpa using hm
   rcases hm with rfl|rfl
   ·exact hne rfl
   ·obtain⟨o,q,c,_⟩:=p'
    rw [he] at q;cases q
    injection c with c
    exact absurd c (by decide)
  ·have hv:its[i]?=some v:=by simpa using hv
   rw [hu] at hv;cases hv
   exact⟨x,ru,rfl,fun ys hy=>by rw [I.list_inj hy hq];exact hx⟩
 done:=by
   intro X hP hw hK hc i pins s σ H I fi st hg
   subst hP hw hK
   obtain⟨xs,hq,hx⟩:=hg
   obtain⟨its,rv,p,hz⟩:=I.list hq
   have p':s.heap.IsList a its.toArray:=p.isList
   have hl:=rv.length
   exact⟨_,_,_,_,a4h (prog:=X.prog) (w:=X.w) (A:=X.A.in1) (it:=it) (fp:=[it,a]) (i:=i) (S0:=fun h=>h.IsListIter it a i/\h.IsList a its.toArray) (fun h z=>let ⟨o,ho,_⟩:=z.1;⟨o,ho⟩)
    (fun h h' z k=>⟨z.1.at fun o e=>k it (by simp) o e,z.2.at fun o e=>k a (by simp) o e⟩)
    (fun s Q E z hE=>wpAny_nextOf_list_end (show X.A.in1.handled=none from I.ok.hd hc) z.1 z.2 (by simp;lia) hE),rfl,st,p'⟩
theorem b3n{P:AN}{w:AI}{K:AD}(it:AB)(x:Str)(t:Tok):a9Q P w K (Its x) it (fun i h=>h.IsStrIter it (strIterType x) x t i) where
 obj:=fun i h st=>by
  obtain⟨o,e,c,d⟩:=st
  exact⟨o,e,fun v z=>by rw [d] at z;cases z⟩
 keep:=fun i h h' st k=>let ⟨o,e,r⟩:=st;⟨o,k o e,r⟩
 item:=by
  intro X hP hw hK hc i pins s σ H I fi st hg
  subst hP hw hK
  have hg:i<x.cps.size:=hg
  have yl:∀v,(∃c u,x.cps[i]?=some c/\v=Value.str ⟨#[c]⟩ u)->∃y,m3 y v/\(Its x).yld i H y H:=fun v ⟨c,u,h1,h2⟩=>⟨.str ⟨#[c]⟩,⟨u,h2⟩,rfl,c,h1,rfl⟩
  cases ha:x.cps.all (· <128) with
  |true=>
   have et:strIterType x="str_ascii_iterator":=by simp [strIterType,ha]
   rw [et] at st ⊢
   exact⟨_,_,_,_,Draws.strAscii (prog:=X.prog) (w:=X.w) (A:=X.A.in1) (show X.A.in1.handled=none from I.ok.hd hc) it x t,st,hg,fun e old hne he hm=>hne (by simpa using hm),yl,fun h' z=>z⟩
  |false=>
   have et:strIterType x="str_iterator":=by simp [strIterType,ha]
   rw [et] at st ⊢
   exact⟨_,_,_,_,Draws.strWide (prog:=X.prog) (w:=X.w) (A:=X.A.in1) (show X.A.in1.handled=none from I.ok.hd hc) it x t,st,hg,fun e old hne he hm=>hne (by simpa using hm),yl,fun h' z=>z⟩
 done:=by
   intro X hP hw hK hc i pins s σ H I fi st hg
   subst hP hw hK
   have hg:x.cps.size<=i:=hg
   have hx:x.cps[i]?=none:=by simp [hg]
   refine⟨_,_,_,_,a4h (prog:=X.prog) (w:=X.w) (A:=X.A.in1) (it:=it) (fp:=[it]) (i:=i) (S0:=fun h=>h.IsStrIter it (strIterType x) x t i) (fun h z=>let ⟨o,ho,_⟩:=z;⟨o,ho⟩)
    (fun h h' z k=>let ⟨o,e,r⟩:=z;⟨o,k it (by simp) o e,r⟩) (fun s Q E z hE=> ?_),rfl,st⟩
   cases ha:x.cps.all (· <128) with
   |true=>
    have et:strIterType x="str_ascii_iterator":=by simp [strIterType,ha]
    rw [et] at z
    exact wpAny_nextOf_ascii_end (show X.A.in1.handled=none from I.ok.hd hc) z hx hE
   |false=>
    have et:strIterType x="str_iterator":=by simp [strIterType,ha]
    rw [et] at z
    exact wpAny_nextOf_wide_end (show X.A.in1.handled=none from I.ok.hd hc) z hx hE
theorem a6c:bootBuiltins "enumerate"=some (.type "enumerate"):=by decide+kernel
section
variable {X:Cx}
def iEn(K:AD)(ta:TA):TI:=fun σ H R=>ta σ H fun vs H1=>(∃a xs,vs=[.ref a]/\Z1 K H1 a xs/\R (Ite (Itt K a)) H1)\/(∃a xs,vs=[.ref a]/\S2 K H1 a xs/\R (Ite (Itl K a)) H1)\/∃z,vs=[.str z]/\R (Ite (Its z)) H1
theorem b47{tg:AF}{pins:List (AB×Obj)}{σ:L2.St}{H:Hp}{s:AC}{R:It->Hp->Prop}{E:AA->AC->Prop}{J:It}{h':Heap}{tn:Nat->Heap->Prop}{elts:List AF}{x1}{tpos:Pos}(htg:tg= .Tuple elts x1 tpos)(I:g9 X pins σ H s)(D:a9Q X.prog X.w X.K J s.heap.objs.size tn)
 (he:IsEnum h' (s.heap.objs.size+1) s.heap.objs.size 0 .none) (st:tn 0 h') (hk:∀b o,s.heap.get? b=some o->h'.get? b=some o) (q:R (Ite J) H):
 AG (model X.prog X.w) X.A (pyIter (.ref (s.heap.objs.size+1))) (PIE X pins σ tg R) E {s with heap:=h'}:=by
 subst htg
 refine wpAny_pyIter_enum (s:={s with heap:=h'}) he ?_
 refine⟨s.heap.objs.size+1,[s.heap.objs.size+1,s.heap.objs.size],_,_,H,rfl,I.kept (t':=s.toks) hk,b4c D (Nat.succ_ne_self _),⟨⟨_,he⟩,st⟩,fun b hb=> ?_,q⟩
 have hb:b=s.heap.objs.size+1\/b=s.heap.objs.size:=by simpa using hb
 rcases hb with rfl|rfl
 ·exact I.fpOk (Nat.le_succ _) (I.hok.fresh (Nat.le_succ _))
 ·exact I.fpOk (AM _) (I.hok.fresh (AM _))
theorem b75{a:AF}{ta:TA}{p pos tpos:Pos}{elts:List AF}{x1}(hg:Gl X "enumerate")(hm:X.mg "enumerate"=none)(ha:PA X [a] ta)(hs:AT [a] X.env=[(false,eval a X.env)]:=by rfl):
 PI X (.Tuple elts x1 tpos) (.Call (.Name "enumerate" p) [a] [] pos) (iEn X.K ta):=by
 intro pins s σ H R I h
 refine Call_ (a6G I hg hm a6c (PyProof.Rows.callWith_type1 (F8 (ha pos pins s σ H _ I h) fun us s1 ⟨vs,H1,I1,r1,q1⟩=> ?_) hs rfl))
 rcases q1 with⟨b,xs,rfl,hq,q⟩|⟨b,xs,rfl,hq,q⟩|⟨z,rfl,q⟩
 ·cases r1 with
  |cons r rr=>
   cases rr
   cases r
   obtain⟨its,rv,p',hz⟩:=I1.tuple hq
   exact a1G (show s1.heap.IsTuple b its.toArray from p') fun h' he hit hsz hk=>b47 rfl I1 (b0g b _) he hit hk q
 ·cases r1 with
  |cons r rr=>
   cases rr
   cases r
   obtain⟨its,rv,p',hz⟩:=I1.list hq
   exact call_enumerate_list p'.isList fun h' he hit hsz hk=>b47 rfl I1 (b1j b _) he hit hk q
 ·cases r1 with
  |cons r rr=>
   cases rr
   obtain⟨t,rfl⟩:=r
   exact call_enumerate_str fun h' he hit hsz hk=>b47 rfl I1 (b3n _ z t) he hit hk q
def M9(ps:List PV):List PV:=ps.zipIdx.map fun q=> .tuple [.int ((q.2:Nat):Int),q.1]
theorem a4i(ps:List PV)(k:Nat):(M9 ps)[k]?=ps[k]?.map fun p=> .tuple [.int ((k:Nat):Int),p]:=by
 unfold M9
 rw [Ak,List.getElem?_zipIdx]
 cases ps[k]? with
 |none=>rfl
 |some p=>simp
theorem a4j(ps:List PV):(M9 ps).length=ps.length:=by unfold M9;simp
def b5u(p:PV):Option (List PV):=match p with
 | .str z=>some (z.cps.toList.map fun c=> .str ⟨#[c]⟩)
 |p=>PyData.items? p
def b0u(m:MA):MI:=fun ρ=>(m ρ).bind fun as=>match as with
 |[p]=>(b5u p).map M9
 |_=>none
theorem b1z{K:AD}{F0 H0 F1:Hp}{body:MS}{tg:PV->c7->Option c7}{g:TG}{ps:List PV}{fl:Fl}{D:W2}{k:Nat}{p:PV}{x:V}{t:AB}{σ:L2.St}{H:Hp}(T:a9V K g tg)(fin:Fin K F0 H0 F1 D fl)(ep:ps[k]?=some p)
 (hp:PvL K F0 H0 F1 body tg (M9 ps) fl k σ H) (hn:H t=none) (rx:x4 K F1 p x):
 g (.ref t) σ (upd H t (.tup [.int k,x])) fun σ2 H2=>tMS K body {D with nx:=PvL K F0 H0 F1 body tg (M9 ps) fl (k+1),ct:=PvL K F0 H0 F1 body tg (M9 ps) fl (k+1),bk:=D.nx} σ2 H2:=by
 obtain⟨F,ρ,s,so,e⟩:=hp
 have eq:(M9 ps)[k]?=some (.tuple [.int ((k:Nat):Int),p]):=by rw [a4i,ep];rfl
 have hk:k<(M9 ps).length:=(Am.mp eq).1
 have hd:(M9 ps).drop k= .tuple [.int ((k:Nat):Int),p]::(M9 ps).drop (k+1):=by
  rw [List.drop_eq_getElem_cons hk]
  congr 1
  exact(Am.mp eq).2
 rw [hd] at e
 obtain⟨ρ1,f1,e1,e2,e3⟩:=a8m e
 have xl:U4 F H (upd F t (.tup [.int k,x])) (upd H t (.tup [.int k,x])):=U4.lay so.e.fh hn
 have up:j8 F1 (upd F t (.tup [.int k,x])):=s.trans xl.f
 refine T F0 H0 _ _ σ ρ ρ1 _ (.ref t) _ (so.ext xl) (show x4 K (upd F t (.tup [.int k,x])) (.tuple [.int ((k:Nat):Int),p]) (.ref t) from⟨t,[.int k,x],rfl,TqT.of g5,⟨_,_,rfl,rfl,⟨_,_,rfl,x4.mono up _ rx,rfl⟩⟩⟩) e1 fun σ' so'=>⟨F0,H0,_,ρ1,f1,so',e2, ?_⟩
 cases f1 with
 |nx ρ'=>exact fun σ2 F2 H2 s2 so2=>⟨F2,ρ',up.trans s2,so2,e3⟩
 |ct ρ'=>exact fun σ2 F2 H2 s2 so2=>⟨F2,ρ',up.trans s2,so2,e3⟩
 |bk ρ'=>cases e3;exact fun σ2 F2 H2 s2 so2=>fin σ2 F2 H2 (up.trans s2) so2
 |rt r=>cases e3;exact fin
theorem b5b{K:AD}{F0 H0 F1:Hp}{body:MS}{tg:PV->c7->Option c7}{g:TG}{ps:List PV}{fl:Fl}{D:W2}{σ:L2.St}{H:Hp}{J:It}(S:b29 K F1 J ps)(T:a9V K g tg)(fin:Fin K F0 H0 F1 D fl)(h0:PvL K F0 H0 F1 body tg (M9 ps) fl 0 σ H):
 ∃W:Nat->Nat->L2.St->Hp->Prop,(∃m,W 0 m σ H)/\∀i m σ H,W i m σ H->
  ((Ite J).stop i H/\D.nx σ H)\/((Ite J).go i H/\∃N:L2.St->Hp->Prop,(∀σ' H',N σ' H'->∃m',m'<m/\W (i+1) m' σ' H')/\∀x H',(Ite J).yld i H x H'->g x σ H' fun σ2 H2=>tMS K body {D with nx:=N,ct:=N,bk:=D.nx} σ2 H2):=by
 refine⟨fun i m σ H=>m=ps.length - i/\i<=ps.length/\PvL K F0 H0 F1 body tg (M9 ps) fl i σ H,⟨ps.length,by simp,Nat.zero_le _,h0⟩, ?_⟩
 rintro i m σ H ⟨rfl,hi,pv⟩
 have sm:j8 F1 H:=let ⟨_,_,s,so,_⟩:=pv;s.trans so.e.fh
 by_cases hlt:i<ps.length
 ·have ep:ps[i]?=some ps[i]:=by simp [hlt]
  refine .inr ⟨S.go i _ H sm ep,PvL K F0 H0 F1 body tg (M9 ps) fl (i+1),fun σ' H' p'=>⟨ps.length - (i+1),by lia,rfl,hlt,p'⟩,fun v H' y=> ?_⟩
  obtain⟨x,t,yx,hn,rfl,rfl⟩:=y
  exact b1z T fin ep pv hn (S.yd i _ x H H sm ep yx).2
 ·have ei:i=ps.length:=by lia
  refine .inl ⟨S.st i H sm (by lia), ?_⟩
  rw [ei,<-a4j ps] at pv
  exact a3M fin pv
theorem b6O{F1:Hp}{a:AB}{xs:List V}{ps:List PV}(hq:Z1 X.K F1 a xs)(rl:j0 X.K F1 ps xs):b29 X.K F1 (Itt X.K a) ps:=by
 have hlen:=rl.length
 refine⟨fun i H2 s h=>⟨xs,p8 s hq,by lia⟩,fun i p H2 s h=> ?_,fun i p x H2 H3 s h y=> ?_⟩
 ·obtain⟨v,ev,_⟩:=rl.get h
  exact⟨xs,v,p8 s hq,ev⟩
 ·obtain⟨e,y⟩:=y
  have:=y xs (p8 s hq)
  obtain⟨v,ev,rv⟩:=rl.get h
  rw [this] at ev;cases ev
  exact⟨e,rv⟩
theorem b6M{F1:Hp}{a:AB}{xs:List V}{ps:List PV}(hq:S2 X.K F1 a xs)(rl:j0 X.K F1 ps xs):b29 X.K F1 (Itl X.K a) ps:=by
 have hlen:=rl.length
 refine⟨fun i H2 s h=>⟨xs,C4 s hq,by lia⟩,fun i p H2 s h=> ?_,fun i p x H2 H3 s h y=> ?_⟩
 ·obtain⟨v,ev,_⟩:=rl.get h
  exact⟨xs,v,C4 s hq,ev⟩
 ·obtain⟨e,y⟩:=y
  have:=y xs (C4 s hq)
  obtain⟨v,ev,rv⟩:=rl.get h
  rw [this] at ev;cases ev
  exact⟨e,rv⟩
theorem b6N{F1:Hp}(z:Str):b29 X.K F1 (Its z) (z.cps.toList.map fun c=> .str ⟨#[c]⟩):=by
 refine⟨fun i H2 s h=> ?_,fun i p H2 s h=> ?_,fun i p x H2 H3 s h y=> ?_⟩
 ·have h:z.cps.size<=i:=by simpa using h
  exact h
 ·have:=(Am.mp h).1
  have h:i<z.cps.size:=by simpa using this
  exact h
 ·obtain⟨e,c,hc,rfl⟩:=y
  refine⟨e, ?_⟩
  rw [Ak,Array.getElem?_toList,hc] at h
  cases h
  rfl
theorem b2e{a:AF}{body:List Stmt}{m:MA}{g:TG}{t:PV->c7->Option c7}{b:MS}{p rp pos tpos:Pos}{elts:List AF}{x1}(hp:PassesOwn (model X.prog X.w) X.A X.env X.xe)(hc:X.calm=true)(hgl:Gl X "enumerate")(hm:X.mg "enumerate"=none)(ha:EA X [a] m)(hg:PG X (.Tuple elts x1 tpos) g)(T:a9V X.K g t)(hb:ESs X body b)
 (hst:AT [a] X.env=[(false,eval a X.env)]:=by rfl) (hs:∀x,foldedSetIterable (.Call (.Name "enumerate" p) [a] [] rp) X.env x=pure x:=by intro _;rfl):ES X (.For (.Tuple elts x1 tpos) (.Call (.Name "enumerate" p) [a] [] rp) body [] pos) (P3 (b0u m) t b):=
 K7 (b1R hp hc (b75 hgl hm ha hst) hg hb hs) fun D σ H ⟨F0,H0,F,ρ,fl,so,e,fin⟩=>by
  obtain⟨es,e1,e⟩:=bind_some e
  obtain⟨as,e1,e2⟩:=bind_some e1
  split at e2
  ·rename_i q
   refine⟨F,ρ,_,so.e,e1,fun vs F1 H1 x rl=> ?_⟩
   obtain⟨v,r,rfl,rq,rr⟩:=rl
   cases rr
   have fin1:=fin.later x.f
   cases hi:b5u q with
   |none=>rw [hi] at e2;cases e2
   |some ps=>
    rw [hi] at e2
    cases e2
    have core:∀J,b29 X.K F1 J ps->_:=fun J S=>b5b (g:=g) (σ:=σ) (H:=H1) S T fin1 ⟨F1,ρ,PU.j8.refl F1,so.ext x,e⟩
    cases q with
    |tuple qs=>
     cases hi
     obtain⟨a,xs,rfl,hq,rl⟩:=rq
     exact .inl ⟨a,xs,rfl,p8 x.fh hq.sq,core _ (b6O hq.sq rl)⟩
    |list qs=>
     cases hi
     obtain⟨a,xs,rfl,hq,rl⟩:=rq
     exact .inr (.inl ⟨a,xs,rfl,C4 x.fh hq,core _ (b6M hq rl)⟩)
    |str z=>
     cases hi
     cases rq
     exact .inr (.inr ⟨z,rfl,core _ (b6N z)⟩)
    |_=>cases hi
  ·cases e2
end
def a0m(A:AR)(s:AC)(u v:AA)(b:Bool):Prop:=∀(prog:AN) (w:AI) (E:AA->AC->Prop) (Q:AA->AC->Prop),Q (.bool b) s->AG (model prog w) A (richCompare .Lt u v) Q E s
section
open AutoSeq1 (wpAny_loadPart')
theorem a9K(l b:AB)(xs ys:Array AA)(n n2:Nat)(dd dd2:Option AB)(sl sl2:Array (Option AA))(e:Nat->Bool)(c:Bool):
 Meets (Builtin.«tuple.__lt__» ⟨[.ref l,.ref b],[]⟩)
  (fun A R s=>(s.heap.get? l=some {cls:= .type "tuple",dict:=dd,data:= .seq xs n,slots:=sl}/\s.heap.get? b=some {cls:= .type "tuple",dict:=dd2,data:= .seq ys n2,slots:=sl2})/\
   (∀j (h1:j<xs.size) (h2:j<ys.size),SeqAt.EqAt A.in1 s xs[j] ys[j] (e j))/\(∀j (h1:j<xs.size) (h2:j<ys.size),(∀k,k<j->e k=true)->e j=false->a0m A.in1 s xs[j] ys[j] c)/\
   ((∀k,k<min xs.size ys.size->e k=true)->c=decide (xs.size<ys.size))/\R (.ok (.ret (.bool c))) s):=
 .of_wp fun prog w A R s h=>by
  obtain⟨hp,g,d,tk,os⟩:=s
  obtain⟨⟨hl,hb⟩,he,hlt,hce,h⟩:=h
  have f2:=AutoSeq1.sub_tuple_tuple
  have hZ:(xs.toList.zip ys.toList).length=min xs.size ys.size:=by simp
  wp_walk using wpAny_loadPart' hl,wpAny_loadPart' hb,wpAny_forIn_list _ (fun B7 b s'=>b.1=none/\s'=⟨hp,g,d,tk,os⟩/\∃i,i<=min xs.size ys.size/\B7=(xs.toList.zip ys.toList).drop i/\∀k,k<i->e k=true) _
  case turn=>
   rintro⟨y,x⟩ B7 b s' ⟨hb',rfl,i,hi,hz,hR⟩
   have hlt':i<(xs.toList.zip ys.toList).length:=by
    rcases Nat.lt_or_ge i (xs.toList.zip ys.toList).length with h'|h'
    ·exact h'
    ·rw [List.drop_of_length_le h'] at hz;cases hz
   have hm:i<min xs.size ys.size:=by lia
   have h1:i<xs.size:=by lia
   have h2:i<ys.size:=by lia
   rw [List.drop_eq_getElem_cons hlt'] at hz
   injection hz with hyx hrest
   have hy:y=xs[i]:=by simpa using congrArg Prod.fst hyx
   have hx:x=ys[i]:=by simpa using congrArg Prod.snd hyx
   subst hy hx
   refine AE (he i h1 h2 prog w _ _ ?_)
   cases hq:e i with
   |true=>
    wp_walk
    exact⟨rfl,rfl,i+1,by lia,hrest,fun k hk=>by
     rcases Nat.lt_or_ge k i with h'|h'
     ·exact hR k h'
     ·rw [show k=i by lia];exact hq⟩
   |false=>
    have hl3:=hlt i h1 h2 hR hq
    show AG _ A.in1 (rule _>>=fun _=>richCompare .Lt xs[i] ys[i]>>=fun v=>ret v>>=fun q=>pure (ForInStep.done (some q,()))) _ _ _
    refine AE (wpAny_rule ?_)
    refine AE (hl3 prog w _ _ ?_)
    refine AE (AJ ?_)
    refine AJ ?_
    exact AJ ⟨_,rfl,h⟩
  case fin=>
   rintro⟨b1,b2⟩ s' ⟨hb',rfl,i,hi,hz,hR⟩
   simp only at hb'
   subst hb'
   have hge:min xs.size ys.size<=i:=by
    rcases Nat.lt_or_ge i (xs.toList.zip ys.toList).length with h'|h'
    ·rw [List.drop_eq_getElem_cons h'] at hz;cases hz
    ·lia
   wp_walk
   refine⟨_,rfl, ?_⟩
   rw [hce fun k hk=>hR k (by lia)] at h
   exact h
  case h=>
   exact⟨rfl,rfl,0,by lia,rfl,fun k hk=>by lia⟩
variable {A:AR}{s:AC}
theorem a0m.tuples{l b:AB}{xs ys:Array AA}{e:Nat->Bool}{c:Bool}(hl:s.heap.IsTuple l xs)(hb:s.heap.IsTuple b ys)(hu:A.units<cLine)
 (he:∀j (h1:j<xs.size) (h2:j<ys.size),SeqAt.EqAt A.in1 s xs[j] ys[j] (e j)) (hlt:∀j (h1:j<xs.size) (h2:j<ys.size),(∀k,k<j->e k=true)->e j=false->a0m A.in1 s xs[j] ys[j] c)
 (hce:(∀k,k<min xs.size ys.size->e k=true)->c=decide (xs.size<ys.size)):a0m A s (.ref l) (.ref b) c:=fun prog w E Q h=>by
 obtain⟨⟨c1,d1,t1,s1⟩,o1,e1,n1,k1⟩:=id hl
 obtain⟨⟨c2,d2,t2,s2⟩,o2,e2,n2,k2⟩:=id hb
 simp only at e1 k1 e2 k2
 subst e1 k1 e2 k2
 exact richCompare_meets_room (op:= .Lt) ⟨_,o1,rfl⟩ ⟨_,o2,rfl⟩ F.slot_tuple_lt F.entry_tuple_lt (F.args_tuple_lt_2 _ _) (a9K l b xs ys n1 n2 d1 d2 s1 s2 e c)
  ⟨⟨o1,o2⟩,he,hlt,hce,show Value.bool c≠Value.notImplemented/\Q (.bool c) s from⟨(fun x=>nomatch x),h⟩⟩ hu
theorem a0m.ints(a b:Int)(t u:Tok):a0m A s (.int a t) (.int b u) (decide (a<b)):=fun prog w E Q h=>wpAny_lt_int h
theorem a0m.strs(a b:Str)(t u:Tok):a0m A s (.str a t) (.str b u) (decide (a.cps.toList<b.cps.toList)):=fun prog w E Q h=>lt_str h
end
mutual
def ltv:PV->PV->Option Bool
 | .int i,.int j=>some (decide (i<j))
 | .str i,.str j=>some (decide (i.cps.toList<j.cps.toList))
 | .tuple ps,.tuple qs=>a27 ps qs
 |_,_=>none
def a27:List PV->List PV->Option Bool
 |[],[]=>some false
 |[],_::_=>some true
 |_::_,[]=>some false
 |p::ps,q::qs=>if PyData.eqv p q=true then a27 ps qs else ltv p q
end
theorem a9s:∀{ps qs:List PV} {c:Bool},a27 ps qs=some c->∀j (p q:PV),ps[j]?=some p->qs[j]?=some q->(∀k,k<j->eAt ps qs k=true)->eAt ps qs j=false->ltv p q=some c
 |[],_,_,_,j,p,q,h1,_,_,_=>by simp at h1
 |_::_,[],_,_,j,p,q,_,h2,_,_=>by simp at h2
 |p'::ps,q'::qs,c,h,0,p,q,h1,h2,_,he=>by
  simp only [List.getElem?_cons_zero,Option.some.injEq] at h1 h2
  subst h1 h2
  rw [a27] at h
  have:PyData.eqv p' q'=false:=by simpa [eAt] using he
  rw [this] at h
  simpa using h
 |p'::ps,q'::qs,c,h,j+1,p,q,h1,h2,hk,he=>by
  simp only [List.getElem?_cons_succ] at h1 h2
  have h0:PyData.eqv p' q'=true:=by simpa [eAt] using hk 0 (by lia)
  rw [a27,if_pos h0] at h
  refine a9s h j p q h1 h2 (fun k hk'=> ?_) ?_
  ·simpa [eAt] using hk (k+1) (by lia)
  ·simpa [eAt] using he
theorem a6K:∀{ps qs:List PV} {c:Bool},a27 ps qs=some c->(∀k,k<min ps.length qs.length->eAt ps qs k=true)->c=decide (ps.length<qs.length)
 |[],[],c,h,_=>by simp [a27] at h;simp [h]
 |[],_::_,c,h,_=>by simp [a27] at h;simp [h]
 |_::_,[],c,h,_=>by simp [a27] at h;simp [h]
 |p::ps,q::qs,c,h,hk=>by
  have h0:PyData.eqv p q=true:=by simpa [eAt] using hk 0 (by simp)
  rw [a27,if_pos h0] at h
  have:=a6K h fun k hk'=>by simpa [eAt] using hk (k+1) (by simp at hk' ⊢;lia)
  simpa using this
section
variable {X:Cx}{pins:List (AB×Obj)}{σ:L2.St}{H:Hp}{s:AC}
theorem b9M(I:g9 X pins σ H s):∀(n:Nat) (A:AR) (p q:PV) (x y:V) (u w:AA) (c:Bool),A.units+n<cLine->n4 p n=true->n4 q n=true->ltv p q=some c->x4 X.K H p x->x4 X.K H q y->m3 x u->m3 y w->a0m A s u w c:=by
 intro n
 induction n with
 |zero=>
  intro A p q x y u w c hu hp hq hc rp rq rx ry
  unfold ltv at hc
  split at hc
  ·cases hc;cases rp;cases rq
   obtain⟨tx,rfl⟩:=rx
   obtain⟨ty,rfl⟩:=ry
   exact .ints _ _ _ _
  ·cases hc;cases rp;cases rq
   obtain⟨tx,rfl⟩:=rx
   obtain⟨ty,rfl⟩:=ry
   exact .strs _ _ _ _
  ·simp [n4] at hp
  ·cases hc
 |succ n ih=>
  intro A p q x y u w c hu hp hq hc rp rq rx ry
  have hu0:A.units<cLine:=by lia
  have hu1:A.in1.units+n<cLine:=by rw [V8];lia
  unfold ltv at hc
  split at hc
  ·cases hc;cases rp;cases rq
   obtain⟨tx,rfl⟩:=rx
   obtain⟨ty,rfl⟩:=ry
   exact .ints _ _ _ _
  ·cases hc;cases rp;cases rq
   obtain⟨tx,rfl⟩:=rx
   obtain⟨ty,rfl⟩:=ry
   exact .strs _ _ _ _
  ·rename_i ps qs
   obtain⟨a,xs,rfl,hs,r⟩:=rp
   cases rx
   obtain⟨its,rv,pl,hz⟩:=I.tuple hs.sq
   have okp:z5 ps n=true:=by simpa [n4] using hp
   obtain⟨b,ys,rfl,hs',r'⟩:=rq
   cases ry
   obtain⟨its2,rv',pl',hz'⟩:=I.tuple hs'.sq
   have okq:z5 qs n=true:=by simpa [n4] using hq
   have hle:its.toArray.size=ps.length:=by rw [<-r.length,rv.length];simp
   have hle':its2.toArray.size=qs.length:=by rw [<-r'.length,rv'.length];simp
   have he:=a36 (A:=A.in1) (s:=s) r r' rv rv' fun p q x y u w hp' hq' rp' rq' rx' ry'=>a6k I n A.in1 p q x y u w hu1 (x6 okp hp') (x6 okq hq') rp' rq' rx' ry'
   refine .tuples pl pl' hu0 he (fun j h1 h2 hk hj=> ?_) fun hk=> ?_
   ·have h1':j<its.length:=by simpa using h1
    have h2':j<its2.length:=by simpa using h2
    obtain⟨x,ex,rx⟩:=V5 rv h1'
    obtain⟨y,ey,ry⟩:=V5 rv' h2'
    obtain⟨p,ep,hp⟩:=r.getV ex
    obtain⟨q,eq,hq⟩:=r'.getV ey
    have:=ih A.in1 p q x y _ _ c hu1 (x6 okp (BD ep)) (x6 okq (BD eq)) (a9s hc j p q ep eq hk hj) hp hq rx ry
    simpa using this
   ·rw [hle,hle']
    exact a6K hc fun k hk'=>hk k (by rw [hle,hle'];exact hk')
  ·cases hc
end
section
variable {X:Cx}
end
section
variable {prog:AN}{w:AI}{A:AR}{R:Result->AC->Prop}{I:AB}{fp wr:List AB}{n:Nat}{P:Nat->AA->Prop}{St:Nat->Heap->Prop}
def Kpt(h₀ h:Heap):Prop:=∀b o,h₀.get? b=some o->h.get? b=some o
theorem b3R(s₀:AC)(h₀:Heap)(W:Walks prog w A.in1 I fp wr n P St)(bt:Nat->Nat->Bool)(hwr:∀b∈wr,h₀.get? b=none)
 (hcmp:∀h tk,Kpt h₀ h->∀i j vi vj,P i vi->P j vj->a0m A.in1 {s₀ with heap:=h,toks:=tk} vi vj (bt i j)) (S:AB) (hSf:S∉fp) (hS0:h₀.get? S=none):
 ∀(k j:Nat) (h:Heap) (tk:Tok) (vb:AA) (c:Nat),n - (j+1)=k->j+1<=n->Kpt h₀ h->St (j+1) h->P (argBest bt j) vb->
  h.get? S=some {cls:= .type "list",dict:=none,data:= .seq #[vb,vb] c,slots:= #[]}->(∀v h' tk',P (argBest bt (n - 1)) v->Kpt h₀ h'->R (.ok (.ret v)) {s₀ with heap:=h',toks:=tk'})->
  codeAny (model prog w) A (.builtin "min.loop" ⟨[.ref I,.none,.ref S],[]⟩) R {s₀ with heap:=h,toks:=tk}:=by
 have hSw:S∉wr:=fun z=>hSf (W.sub _ z)
 have nm:(toString "min"++toString ".loop":String)="min.loop":=by decide
 have kp:∀{h h':Heap},Kpt h₀ h->(∀b o,b∉wr->h.get? b=some o->h'.get? b=some o)->Kpt h₀ h':=fun a b' b o e=>b' b o (fun z=>by rw [hwr b z] at e;cases e) (a b o e)
 have ku:∀{h:Heap} {f:Obj->Obj},Kpt h₀ h->Kpt h₀ (h.update S f):=fun a b o e=>(Heap.get?_update_other _ _ (fun z:S=b=>by rw [<-z,hS0] at e;cases e)).trans (a b o e)
 intro k
 induction k with
 |zero=>
  intro j h tk vb c hk hj hK hst hPb hS hR
  have hin:j+1=n:=by lia
  refine codeAny_builtin PySem.F.entry_min_loop ?_
  rw [Around.under_plainId PySem.F.plain_min_loop _]
  show AG _ A.in1 (seqItems? (.ref S)>>=_) _ _ {s₀ with heap:=h,toks:=tk}
  refine AE (wpAny_seqItems hS rfl ?_)
  show AG _ A.in1 (tryCatch (pyNext (.ref I)) _>>=_) _ _ {s₀ with heap:=h,toks:=tk}
  refine AE (wpAny_tryCatch (W.done {s₀ with heap:=h,toks:=tk} _ _ (hin▸hst) fun h' tk' hk'=> ?_))
  have hS':=hk' S _ hSw hS
  show AG _ A.in1 (updateSeq S (fun _=> #[])>>=_) _ _ {s₀ with heap:=h',toks:=tk'}
  refine AE (wpAny_updateSeq hS' rfl (AE (wpAny_letGo (AJ ?_))))
  exact hR vb _ tk' (by rw [<-hin];exact hPb) (ku (kp hK hk'))
 |succ k ih=>
  intro j h tk vb c hk hj hK hst hPb hS hR
  have hlt:j+1<n:=by lia
  refine codeAny_builtin PySem.F.entry_min_loop ?_
  rw [Around.under_plainId PySem.F.plain_min_loop _]
  show AG _ A.in1 (seqItems? (.ref S)>>=_) _ _ {s₀ with heap:=h,toks:=tk}
  refine AE (wpAny_seqItems hS rfl ?_)
  show AG _ A.in1 (tryCatch (pyNext (.ref I)) _>>=_) _ _ {s₀ with heap:=h,toks:=tk}
  refine AE (wpAny_tryCatch (W.item (j+1) {s₀ with heap:=h,toks:=tk} _ _ hlt hst fun v h' tk' hP hst' hk'=> ?_))
  have hS':=hk' S _ hSw hS
  have hK':=kp hK hk'
  show AG _ A.in1 (tryCatch (holding [v,v] (richCompare .Lt v vb>>=_)) _>>=_) _ _ {s₀ with heap:=h',toks:=tk'}
  refine AE (wpAny_tryCatch (wpAny_holding (AE (hcmp h' tk' hK' (j+1) (argBest bt j) v vb hP hPb prog w _ _ ?_))))
  refine AE (wpAny_holding (wpAny_truthy_bool (AE (wpAny_letGo (AJ ?_)))))
  cases hb:bt (j+1) (argBest bt j) with
  |true=>
   simp only [if_true]
   refine AE (wpAny_updateSeq hS' rfl (AE (wpAny_letGo ?_)))
   rw [nm]
   refine AJ ⟨plainId_quiet PySem.F.plain_min_loop _,ih (j+1) _ tk' v _ (by lia) hlt (ku hK') (W.frame _ _ _ hst' fun b hbf o e=> ?_) (by simp only [argBest,hb,if_true];exact hP) (Heap.get?_update_self _ hS' rfl) hR⟩
   exact(Heap.get?_update_other _ _ (fun z:S=b=>hSf (by rw [z];exact hbf))).trans e
  |false=>
   simp only [Av,if_false]
   refine AE (wpAny_letGo ?_)
   rw [nm]
   exact AJ ⟨plainId_quiet PySem.F.plain_min_loop _,ih (j+1) _ tk' vb c (by lia) hlt hK' hst' (by simp only [argBest,hb,Av,if_false];exact hPb) hS' hR⟩
theorem b1G(s₀:AC)(h₀:Heap)(W:Walks prog w A.in1 I fp wr n P St)(bt:Nat->Nat->Bool)(hwr:∀b∈wr,h₀.get? b=none)
 (hcmp:∀h tk,Kpt h₀ h->∀i j vi vj,P i vi->P j vj->a0m A.in1 {s₀ with heap:=h,toks:=tk} vi vj (bt i j)) (S:AB) (hSf:S∉fp) (hS0:h₀.get? S=none) (hn:0<n)
 {h:Heap} {tk:Tok} {c:Nat} (hK:Kpt h₀ h) (hst:St 0 h) (hS:h.get? S=some {cls:= .type "list",dict:=none,data:= .seq #[] c,slots:= #[]})
 (hR:∀v h' tk',P (argBest bt (n - 1)) v->Kpt h₀ h'->R (.ok (.ret v)) {s₀ with heap:=h',toks:=tk'}):codeAny (model prog w) A (.builtin "min.loop" ⟨[.ref I,.none,.ref S],[]⟩) R {s₀ with heap:=h,toks:=tk}:=by
 have hSw:S∉wr:=fun z=>hSf (W.sub _ z)
 have nm:(toString "min"++toString ".loop":String)="min.loop":=by decide
 refine codeAny_builtin PySem.F.entry_min_loop ?_
 rw [Around.under_plainId PySem.F.plain_min_loop _]
 show AG _ A.in1 (seqItems? (.ref S)>>=_) _ _ {s₀ with heap:=h,toks:=tk}
 refine AE (wpAny_seqItems hS rfl ?_)
 show AG _ A.in1 (tryCatch (pyNext (.ref I)) _>>=_) _ _ {s₀ with heap:=h,toks:=tk}
 refine AE (wpAny_tryCatch (W.item 0 {s₀ with heap:=h,toks:=tk} _ _ hn hst fun v h' tk' hP hst' hk'=> ?_))
 have hS':=hk' S _ hSw hS
 have hK':Kpt h₀ h':=fun b o e=>hk' b o (fun z=>by rw [hwr b z] at e;cases e) (hK b o e)
 show AG _ A.in1 (updateSeq S (fun _=> #[v,v])>>=_) _ _ {s₀ with heap:=h',toks:=tk'}
 refine AE (wpAny_updateSeq hS' rfl ?_)
 rw [nm]
 refine AJ ⟨plainId_quiet PySem.F.plain_min_loop _,b3R s₀ h₀ W bt hwr hcmp S hSf hS0 _ 0 _ tk' v _ rfl hn (fun b o e=>(Heap.get?_update_other _ _ (fun z:S=b=>by rw [<-z,hS0] at e;cases e)).trans (hK' b o e)) (W.frame _ _ _ hst' fun b hbf o e=> ?_) hP (Heap.get?_update_self _ hS' rfl) hR⟩
 exact(Heap.get?_update_other _ _ (fun z:S=b=>hSf (by rw [z];exact hbf))).trans e
end
section
variable {prog:AN}{w:AI}{A:AR}{E:AA->AC->Prop}{s:AC}
theorem b3Q{l:AB}{vs:Array AA}{Q:AA->AC->Prop}(hh:A.handled=none)(hl:s.heap.IsList l vs)(hn:0<vs.size)(bt:Nat->Nat->Bool)
 (hcmp:∀h tk,Kpt s.heap h->∀(i j:Nat) (vi vj:AA),vs[i]?=some vi->vs[j]?=some vj->a0m A.in1 {s with heap:=h,toks:=tk} vi vj (bt i j))
 (h:∀v h' tk,vs[argBest bt (vs.size - 1)]?=some v->Kpt s.heap h'->Q v {s with heap:=h',toks:=tk}):AG (model prog w) A (call (.builtin "min") [.ref l]) Q E s:=by
 have nm:(toString "min"++toString ".loop":String)="min.loop":=by decide
 have hlt:l<s.heap.objs.size:=by obtain⟨_,e,_⟩:=hl;exact Ad e
 refine call_function_tree PySem.F.kind_min PySem.F.plain_min PySem.F.entry_min (PySem.F.args_min1 _) ?_
 show AG _ A.in1 (Builtin.Builtins.bindParams "min" ["key","default"] 0 ⟨[],[]⟩>>=_) _ _ s
 refine AE (wpAny_of_eq (show Builtin.Builtins.bindParams "min" ["key","default"] 0 ⟨[],[]⟩=pure [none,none] from rfl) (AE (AJ ?_)))
 refine AE (wpAny_pyIter_list hl ?_)
 refine AE (wpAny_newObj_type ?_)
 rw [nm]
 have no:∀b,s.heap.objs.size<=b->s.heap.get? b=none:=fun b hb=>by
  cases q:s.heap.get? b with
  |none=>rfl
  |some o=>exact absurd (BB (Ad q) hb) (Nat.lt_irrefl _)
 have sz:∀o,(s.heap.push o).objs.size=s.heap.objs.size+1:=fun o=>Heap.size_push _ _
 refine AJ ⟨plainId_quiet PySem.F.plain_min_loop _,b1G s s.heap (Walks.list (A:=A.in1) hh s.heap.objs.size l (Aj hlt) vs) bt (fun b hb=>no b (by rw [List.mem_singleton.mp hb];exact AM _)) hcmp _ (fun z=> ?_) (no _ (by show _<=(s.heap.push _).objs.size;rw [sz];lia)) hn (fun b o e=>AY _ (AY _ e))
  ⟨⟨_,AY _ (An _ rfl),rfl,rfl⟩,(hl.push _).push _⟩ (An _ rfl) fun v h' tk' hP hK=>h v h' tk' hP hK⟩
 have z':(s.heap.push {cls:= .type "list_iterator",data:= .fields #[.ref l,.int 0 0]}).objs.size∈[s.heap.objs.size,l]:=z
 rw [sz] at z'
 simp only [AV,List.not_mem_nil,or_false] at z'
 rcases z' with z'|z'
 ·exact Nat.succ_ne_self _ z'
 ·rw [<-z'] at hlt
  exact absurd hlt (Nat.not_lt.mpr (Nat.le_succ _))
end
section
variable {X:Cx}
end
end PU
namespace TS
open PySem PyProof.Rows
abbrev SM(α:Type):=StateT SortSt Sem α
def g(a:Array Keyed)(i:Nat):Keyed:=(a[i]?).getD (Value.none,Value.none)
theorem b1o{a:Array Keyed}{i:Nat}(h:i<a.size):a[i]?=some (g a i):=by
 unfold g;rw [getElem?_pos a i h];rfl
theorem b5k{a b:Array Keyed}{i j:Nat}(h:a[i]?=b[j]?):g a i=g b j:=by unfold g;rw [h]
theorem c08{a:Array Keyed}{i:Nat}(h:i<a.size):g a i∈a.toList:=by
 have:=b1o h
 exact Array.mem_toList_iff.mpr (Array.mem_of_getElem? this)
theorem b5m{a:Array Keyed}{i:Nat}(h:i<a.size):a.toList[i]?=some (g a i):=by
 rw [Array.getElem?_toList];exact b1o h
section
variable {prog:AN}{w:AI}{A:AR}{E:AA->AC->Prop}{s:AC}
structure Cmp(prog:AN)(w:AI)(A:AR)(E:AA->AC->Prop)(s:AC)(κ:SortKind)(S:Keyed->Prop)(R:Keyed->Keyed->Bool):Prop where
 lt:∀x y,S x->S y->∀(st:SortSt) (Q:Option Bool->SortSt->Prop),kindOf st=κ->Q (some (R x y)) st->wpS (model prog w) A E s (lt' x y) Q st
 tr:∀x y z,S x->S y->S z->R y x=false->R z y=false->R z x=false
 as:∀x y,S x->S y->R x y=true->R y x=false
variable {κ:SortKind}{S:Keyed->Prop}{R:Keyed->Keyed->Bool}
theorem Cmp.rfl'(C:Cmp prog w A E s κ S R){x:Keyed}(hx:S x):R x x=false:=by
 by_cases h:R x x=true
 ·exact C.as x x hx hx h
 ·exact eq_false_of_ne_true h
theorem b21{a:Array Keyed}{i:Nat}(h:i<a.size){Q:Keyed->SortSt->Prop}{st:SortSt}(hq:Q (g a i) st):wpS (model prog w) A E s (elem' a i) Q st:=by
 rw [elem'_eq,b1o h];exact wpS_pure hq
end
def Seg(R:Keyed->Keyed->Bool)(a:Array Keyed)(lo hi:Nat):Prop:=∀i j,lo<=i->i<=j->j<hi->R (g a j) (g a i)=false
def Ges(R:Keyed->Keyed->Bool)(a:Array Keyed)(lo hi:Nat):Prop:=∀i j,lo<=i->i<=j->j<hi->R (g a i) (g a j)=false
def Fix(lo:Nat)(a b:Array Keyed):Prop:=∀i,i<lo->g b i=g a i
theorem Fix.refl{lo:Nat}{a:Array Keyed}:Fix lo a a:=fun _ _=>rfl
theorem Fix.trans{lo:Nat}{a b c:Array Keyed}(h:Fix lo a b)(k:Fix lo b c):Fix lo a c:=fun i hi=>(k i hi).trans (h i hi)
theorem a1W{a:Array Keyed}{i j:Nat}(hj:j<=a.size)(k:Nat):g (mirror a i j ((j - i)/ 2)) k=if i<=k/\k<j then g a (i+j - 1 - k) else g a k:=by
 have e:=getElem?_mirror_all (i:=i) hj k
 by_cases h:i<=k/\k<j
 ·rw [if_pos h] at e ⊢;exact b5k e
 ·rw [if_neg h] at e ⊢;exact b5k e
theorem a6t{a:Array Keyed}{src d:Nat}(hs:src<a.size)(hd:d<=src)(k:Nat):g (bubble a src d) k=if k=src - d then g a src else if src - d<k/\k<=src then g a (k - 1) else g a k:=by
 have e:=getElem?_bubble hs d hd k
 by_cases h:k=src - d
 ·rw [if_pos h] at e ⊢;exact b5k e
 ·rw [if_neg h] at e ⊢
  by_cases h2:src - d<k/\k<=src
  ·rw [if_pos h2] at e ⊢;exact b5k e
  ·rw [if_neg h2] at e ⊢;exact b5k e
structure B(κ:SortKind)(a₀:Array Keyed)(st:SortSt):Prop where
 perm:(arrOf st).Perm a₀
 kind:kindOf st=κ
 failed:failedOf st=none
section
variable {prog:AN}{w:AI}{A:AR}{E:AA->AC->Prop}{s:AC}
variable {κ:SortKind}{S:Keyed->Prop}{R:Keyed->Keyed->Bool}{a₀:Array Keyed}
theorem B.size{st:SortSt}(h:B κ a₀ st):(arrOf st).size=a₀.size:=h.perm.size_eq
theorem B.set{st:SortSt}(h:B κ a₀ st){xs:Array Keyed}(hp:xs.Perm (arrOf st)):B κ a₀ (setArr st xs):=⟨hp.trans h.perm,h.kind,h.failed⟩
theorem B.sg{st:SortSt}(h:B κ a₀ st)(hS:∀p∈a₀.toList,S p){i:Nat}(hi:i<a₀.size):S (g (arrOf st) i):=
 hS _ ((Array.perm_iff_toList_perm.mp h.perm).mem_iff.mp (c08 (by rw [h.size];exact hi)))
theorem a37(C:Cmp prog w A E s κ S R)(hS:∀p∈a₀.toList,S p){st:SortSt}(hB:B κ a₀ st){i j:Nat}{Q:Option Bool->SortSt->Prop}(hi:i<a₀.size)(hj:j<a₀.size)
 (h:Q (some (R (g (arrOf st) i) (g (arrOf st) j))) st):wpS (model prog w) A E s (ltAt' i j) Q st:=by
 rw [ltAt'_eq]
 refine wpS_bind (wpS_get ?_)
 exact wpS_bind (b21 (by rw [hB.size];exact hi) (wpS_bind (b21 (by rw [hB.size];exact hj) (C.lt _ _ (hB.sg hS hi) (hB.sg hS hj) st Q hB.kind h))))
theorem a7C{st:SortSt}{i j:Nat}{Q:Unit->SortSt->Prop}(h:Q () (setArr st (mirror (arrOf st) i j ((j - i)/ 2)))):wpS (model prog w) A E s (reverseSlice' i j) Q st:=by
 rw [reverseSlice'_eq];exact wpS_modify h
def up(lo a nrem:Nat):SM (Option (Option Nat)×Nat):=
 forIn [a:nrem] ((none,a):Option (Option Nat)×Nat) fun _ c=>do
  let t<-ltAt' (lo+c.2) (lo+c.2 - 1)
  match t with
  |some b=>if b=true then pure (.done (none,c.2)) else pure (.yield (none,c.2+1))
  |_=>pure (.done (some none,c.2))
theorem b8Y(C:Cmp prog w A E s κ S R)(hS:∀p∈a₀.toList,S p){st:SortSt}{lo a nrem:Nat}{Q:Option (Option Nat)×Nat->SortSt->Prop}(hB:B κ a₀ st)(hn:lo+nrem<=a₀.size)(ha:1<=a)(han:a<=nrem)
 (hs:Seg R (arrOf st) lo (lo+a))
 (h:∀n,a<=n->n<=nrem->Seg R (arrOf st) lo (lo+n)->(n=nrem\/R (g (arrOf st) (lo+n)) (g (arrOf st) (lo+n - 1))=true)->Q (none,n) st):
 wpS (model prog w) A E s (up lo a nrem) Q st:=by
 unfold up
 refine wpS_forRange (I:=fun x c st'=>st'=st/\c=(none,x)/\Seg R (arrOf st) lo (lo+x)) ?_ ?_ ⟨rfl,rfl,hs⟩
 ·rintro x c st' hax hxn ⟨rfl,rfl,hs'⟩
  dsimp only
  refine wpS_bind (a37 C hS hB (by lia) (by lia) ?_)
  cases hl:R (g (arrOf st') (lo+x)) (g (arrOf st') (lo+x - 1))
  ·simp only [Av,if_false]
   refine wpS_pure ⟨rfl,rfl,fun i j hi hij hj=> ?_⟩
   by_cases hjx:j<lo+x
   ·exact hs' i j hi hij hjx
   ·have:j=lo+x:=by lia
    subst this
    by_cases hi':i=lo+x
    ·subst hi';exact C.rfl' (hB.sg hS (by lia))
    ·exact C.tr _ (g (arrOf st') (lo+x - 1)) _ (hB.sg hS (by lia)) (hB.sg hS (by lia)) (hB.sg hS (by lia)) (hs' i (lo+x - 1) hi (by lia) (by lia)) hl
  ·simp only [if_true]
   exact wpS_pure (h x hax (by lia) hs' (.inr hl))
 ·rintro c st' ⟨rfl,rfl,hs'⟩
  rw [show max a nrem=nrem by lia] at hs' ⊢
  exact h nrem han (AM _) hs' (.inl rfl)
def dn(lo n nrem:Nat):SM (Option (Option Nat)×Nat×Nat):=
 forIn [n:nrem] ((none,n,0):Option (Option Nat)×Nat×Nat) fun _ c=>do
  let t<-ltAt' (lo+c.2.1) (lo+c.2.1 - 1)
  match t with
  |some b=>
   if b=true then
    if c.2.2>0 then do
     reverseSlice' (lo+c.2.1 - (c.2.2+1)) (lo+c.2.1)
     pure (.yield (none,c.2.1+1,0))
    else pure (.yield (none,c.2.1+1,0))
   else do
    let t<-ltAt' (lo+c.2.1 - 1) (lo+c.2.1)
    match t with
    |some b=>if b=true then pure (.done (none,c.2.1,c.2.2)) else pure (.yield (none,c.2.1+1,c.2.2+1))
    |_=>pure (.done (some none,c.2.1,c.2.2))
  |_=>pure (.done (some none,c.2.1,c.2.2))
theorem a07(C:Cmp prog w A E s κ S R)(hS:∀p∈a₀.toList,S p){st:SortSt}(hB:B κ a₀ st){lo hi i j:Nat}(hh:hi<=a₀.size)(hg:Ges R (arrOf st) lo hi)(h1:lo<=i)(h2:j<=hi)(hij:i<j)
 (he:∀k,i<=k->k<j->R (g (arrOf st) (j - 1)) (g (arrOf st) k)=false):Ges R (mirror (arrOf st) i j ((j - i)/ 2)) lo hi:=by
 have hsz:j<=(arrOf st).size:=by rw [hB.size];lia
 intro k l hk hkl hl
 rw [a1W hsz,a1W hsz]
 split
 ·split
  ·rename_i p q
   refine C.tr _ (g (arrOf st) (j - 1)) _ (hB.sg hS (by lia)) (hB.sg hS (by lia)) (hB.sg hS (by lia)) (he _ (by lia) (by lia)) (hg _ _ (by lia) (by lia) (by lia))
  ·exact hg _ _ (by lia) (by lia) (by lia)
 ·split
  ·exact hg _ _ (by lia) (by lia) (by lia)
  ·exact hg _ _ (by lia) (by lia) (by lia)
theorem X2{a:Array Keyed}{lo i j:Nat}(hj:j<=a.size)(h:lo<=i):Fix lo a (mirror a i j ((j - i)/ 2)):=fun k hk=>by
 rw [a1W hj,if_neg (by lia)]
theorem c1J(C:Cmp prog w A E s κ S R)(hS:∀p∈a₀.toList,S p){st:SortSt}{lo n nrem:Nat}{Q:Option (Option Nat)×Nat×Nat->SortSt->Prop}(hB:B κ a₀ st)(hn:lo+nrem<=a₀.size)(h1:1<=n)(hnn:n<=nrem)
 (hs:Ges R (arrOf st) lo (lo+n))
 (h:∀m e st',B κ a₀ st'->pendingOf st'=pendingOf st->Fix lo (arrOf st) (arrOf st')->n<=m->m<=nrem->Ges R (arrOf st') lo (lo+m)->e+1<=m->
  (∀i,lo+m - (e+1)<=i->i<lo+m->R (g (arrOf st') (lo+m - 1)) (g (arrOf st') i)=false)->Q (none,m,e) st'):
 wpS (model prog w) A E s (dn lo n nrem) Q st:=by
 unfold dn
 refine wpS_forRange (I:=fun x c st'=>∃e,c=(none,x,e)/\B κ a₀ st'/\pendingOf st'=pendingOf st/\Fix lo (arrOf st) (arrOf st')/\Ges R (arrOf st') lo (lo+x)/\e+1<=x/\
  (∀i,lo+x - (e+1)<=i->i<lo+x->R (g (arrOf st') (lo+x - 1)) (g (arrOf st') i)=false)) ?_ ?_
  ⟨0,rfl,hB,rfl,Fix.refl,hs,by lia,fun i a b=>by rw [show i=lo+n - 1 by lia];exact C.rfl' (hB.sg hS (by lia))⟩
 ·rintro x c st' hax hxn ⟨e,rfl,hB',hp,hf,hg,he,hq⟩
  dsimp only
  have hsz:lo+x<=(arrOf st').size:=by rw [hB'.size];lia
  refine wpS_bind (a37 C hS hB' (by lia) (by lia) ?_)
  cases hl:R (g (arrOf st') (lo+x)) (g (arrOf st') (lo+x - 1))
  ·simp only [Av,if_false]
   refine wpS_bind (a37 C hS hB' (by lia) (by lia) ?_)
   cases hm:R (g (arrOf st') (lo+x - 1)) (g (arrOf st') (lo+x))
   ·simp only [Av,if_false]
    refine wpS_pure ⟨e+1,rfl,hB',hp,hf,fun i j hi hij hj=> ?_,by lia,fun i h1 h2=> ?_⟩
    ·by_cases hjx:j<lo+x
     ·exact hg i j hi hij hjx
     ·have:j=lo+x:=by lia
      subst this
      by_cases hi':i=lo+x
      ·subst hi';exact C.rfl' (hB'.sg hS (by lia))
      ·exact C.tr _ (g (arrOf st') (lo+x - 1)) _ (hB'.sg hS (by lia)) (hB'.sg hS (by lia)) (hB'.sg hS (by lia)) hm (hg i (lo+x - 1) hi (by lia) (by lia))
    ·rw [show lo+(x+1) - 1=lo+x by lia]
     by_cases hi':i=lo+x
     ·subst hi';exact C.rfl' (hB'.sg hS (by lia))
     ·exact C.tr _ (g (arrOf st') (lo+x - 1)) _ (hB'.sg hS (by lia)) (hB'.sg hS (by lia)) (hB'.sg hS (by lia)) (hq i (by lia) (by lia)) hl
   ·simp only [if_true]
    exact wpS_pure (h x e st' hB' hp hf hax (by lia) hg he hq)
  ·simp only [if_true]
   have hg1:Ges R (arrOf st') lo (lo+(x+1)):=by
    intro i j hi hij hj
    by_cases hjx:j<lo+x
    ·exact hg i j hi hij hjx
    ·have:j=lo+x:=by lia
     subst this
     by_cases hi':i=lo+x
     ·subst hi';exact C.rfl' (hB'.sg hS (by lia))
     ·exact C.tr _ (g (arrOf st') (lo+x - 1)) _ (hB'.sg hS (by lia)) (hB'.sg hS (by lia)) (hB'.sg hS (by lia)) (C.as _ _ (hB'.sg hS (by lia)) (hB'.sg hS (by lia)) hl) (hg i (lo+x - 1) hi (by lia) (by lia))
   by_cases he0:e>0
   ·rw [if_pos he0]
    have hB2:B κ a₀ (setArr st' (mirror (arrOf st') (lo+x - (e+1)) (lo+x) ((lo+x - (lo+x - (e+1)))/ 2))):=hB'.set (mirror_perm _ _ _ _)
    refine wpS_bind (a7C (wpS_pure ⟨0,rfl,hB2,hp,hf.trans (X2 hsz (by lia)),a07 C hS hB' (by lia) hg1 (by lia) (by lia) (by lia) hq,by lia,fun i a b=> ?_⟩))
    rw [show i=lo+(x+1) - 1 by lia];exact C.rfl' (hB2.sg hS (by lia))
   ·rw [if_neg he0]
    refine wpS_pure ⟨0,rfl,hB',hp,hf,hg1,by lia,fun i a b=> ?_⟩
    rw [show i=lo+(x+1) - 1 by lia];exact C.rfl' (hB'.sg hS (by lia))
 ·rintro c st' ⟨e,rfl,hB',hp,hf,hg,he,hq⟩
  rw [show max n nrem=nrem by lia] at hg he hq ⊢
  exact h nrem e st' hB' hp hf hnn (AM _) hg he hq
theorem c0N(C:Cmp prog w A E s κ S R)(hS:∀p∈a₀.toList,S p){st:SortSt}{lo nrem:Nat}{Q:Option Nat->SortSt->Prop}(hB:B κ a₀ st)(hn:lo+nrem<=a₀.size)(h1:1<=nrem)
 (h:∀m st',B κ a₀ st'->pendingOf st'=pendingOf st->Fix lo (arrOf st) (arrOf st')->1<=m->m<=nrem->Seg R (arrOf st') lo (lo+m)->Q (some m) st'):
 wpS (model prog w) A E s (countRun' lo nrem) Q st:=by
 rw [countRun'_eq]
 have one:Seg R (arrOf st) lo (lo+1):=fun i j hi hij hj=>by
  have:i=j:=by lia
  subst this;exact C.rfl' (hB.sg hS (by lia))
 have tail:∀m st',B κ a₀ st'->pendingOf st'=pendingOf st->Fix lo (arrOf st) (arrOf st')->1<=m->m<=nrem->Ges R (arrOf st') lo (lo+m)->
  wpS (model prog w) A E s (reverseSlice' lo (lo+m)) (fun _ st2=>wpS (model prog w) A E s (up lo m nrem) (fun c st3=>c.1=none/\Q (some c.2) st3) st2) st':=by
  intro m st' hB' hp hf hm1 hm2 hg
  have hsz:lo+m<=(arrOf st').size:=by rw [hB'.size];lia
  have hB2:B κ a₀ (setArr st' (mirror (arrOf st') lo (lo+m) ((lo+m - lo)/ 2))):=hB'.set (mirror_perm _ _ _ _)
  refine a7C (b8Y C hS hB2 hn hm1 hm2 ?_ fun n a b c _=>⟨rfl,h n _ hB2 hp (hf.trans (X2 hsz (AM _))) (by lia) b c⟩)
  intro i j hi hij hj
  show R (g (mirror (arrOf st') lo (lo+m) ((lo+m - lo)/ 2)) j) (g (mirror (arrOf st') lo (lo+m) ((lo+m - lo)/ 2)) i)=false
  rw [a1W hsz,a1W hsz,if_pos (by lia),if_pos (by lia)]
  exact hg _ _ (by lia) (by lia) (by lia)
 have desc:∀n st',B κ a₀ st'->pendingOf st'=pendingOf st->Fix lo (arrOf st) (arrOf st')->n+1<=nrem->Ges R (arrOf st') lo (lo+(n+1))->
  wpS (model prog w) A E s (dn lo (n+1) nrem) (fun c st2=>c.1=none/\c.2.1<=nrem/\1<=c.2.1/\B κ a₀ st2/\pendingOf st2=pendingOf st/\Fix lo (arrOf st) (arrOf st2)/\c.2.2+1<=c.2.1/\Ges R (arrOf st2) lo (lo+c.2.1)/\
   (∀i,lo+c.2.1 - (c.2.2+1)<=i->i<lo+c.2.1->R (g (arrOf st2) (lo+c.2.1 - 1)) (g (arrOf st2) i)=false)) st':=by
  intro n st' hB' hp hf hnn hg
  exact c1J C hS hB' hn (by lia) hnn hg fun m e st2 b1 b2 b3 b4 b5 b6 b7 b8=>⟨rfl,b5,(by lia:1<=m),b1,b2.trans hp,hf.trans b3,b7,b6,b8⟩
 refine wpS_bind (b8Y C hS hB hn (AM 1) h1 one fun n hn1 hn2 hsn ho=> ?_)
 dsimp only
 by_cases hnn:n=nrem
 ·rw [if_pos (by simpa using hnn)]
  exact wpS_pure (h n st hB rfl Fix.refl hn1 hn2 hsn)
 ·rw [if_neg (by simpa using hnn)]
  have hlt:=ho.resolve_left hnn
  have hl':R (g (arrOf st) (lo+n - 1)) (g (arrOf st) (lo+n))=false:=C.as _ _ (hB.sg hS (by lia)) (hB.sg hS (by lia)) hlt
  have hsz:lo+n<=(arrOf st).size:=by rw [hB.size];lia
  have ges:R (g (arrOf st) lo) (g (arrOf st) (lo+n - 1))=false->Ges R (arrOf st) lo (lo+(n+1)):=by
   intro hr i j hi hij hj
   have toi:∀i,lo<=i->i<lo+n->R (g (arrOf st) i) (g (arrOf st) (lo+n - 1))=false:=fun i hi hj=>
    C.tr _ (g (arrOf st) lo) _ (hB.sg hS (by lia)) (hB.sg hS (by lia)) (hB.sg hS (by lia)) hr (hsn lo i (AM _) hi hj)
   by_cases hjn:j<lo+n
   ·exact C.tr _ (g (arrOf st) (lo+n - 1)) _ (hB.sg hS (by lia)) (hB.sg hS (by lia)) (hB.sg hS (by lia)) (hsn j (lo+n - 1) (by lia) (by lia) (by lia)) (toi i hi (by lia))
   ·have:j=lo+n:=by lia
    subst this
    by_cases hi':i=lo+n
    ·subst hi';exact C.rfl' (hB.sg hS (by lia))
    ·exact C.tr _ (g (arrOf st) (lo+n - 1)) _ (hB.sg hS (by lia)) (hB.sg hS (by lia)) (hB.sg hS (by lia)) hl' (toi i hi (by lia))
  by_cases hgt:n>1
  ·rw [if_pos hgt]
   refine wpS_bind (a37 C hS hB (by lia) (by lia) ?_)
   cases hr:R (g (arrOf st) lo) (g (arrOf st) (lo+n - 1))
   ·simp only [Av,if_false]
    have hB2:B κ a₀ (setArr st (mirror (arrOf st) lo (lo+n) ((lo+n - lo)/ 2))):=hB.set (mirror_perm _ _ _ _)
    refine wpS_bind (a7C (wpS_bind (wpS_lift (wpAny_rule ⟨rfl, ?_⟩))))
    refine wpS_bind (wpS_mono (desc n _ hB2 rfl (X2 hsz (AM _)) (by lia) (a07 C hS hB (by lia) (ges hr) (AM _) (by lia) (by lia) fun k a b=>hsn k (lo+n - 1) a (by lia) (by lia))) ?_)
    rintro⟨c,m,e⟩ st2 ⟨rfl,b1,b2,b3,b4,b5,b6,b7,b8⟩
    dsimp only at*
    by_cases he:e>0
    ·rw [if_pos he]
     have hsz2:lo+m<=(arrOf st2).size:=by rw [b3.size];lia
     refine wpS_bind (a7C (wpS_bind (wpS_mono (tail m _ (b3.set (mirror_perm _ _ _ _)) b4 (b5.trans (X2 hsz2 (by lia))) b2 b1 (a07 C hS b3 (by lia) b7 (by lia) (by lia) (by lia) b8)) fun _ st3 q=>wpS_bind (wpS_mono q ?_))))
     rintro⟨c,n'⟩ st4 ⟨rfl,q⟩
     exact wpS_pure q
    ·rw [if_neg he]
     refine wpS_bind (wpS_mono (tail m _ b3 b4 b5 b2 b1 b7) fun _ st3 q=>wpS_bind (wpS_mono q ?_))
     rintro⟨c,n'⟩ st4 ⟨rfl,q⟩
     exact wpS_pure q
   ·simp only [if_true]
    exact wpS_pure (h n st hB rfl Fix.refl hn1 hn2 hsn)
  ·rw [if_neg hgt]
   have:n=1:=by lia
   subst this
   refine wpS_bind (wpS_lift (wpAny_rule ⟨rfl, ?_⟩))
   refine wpS_bind (wpS_mono (desc 1 _ hB rfl Fix.refl (by lia) (ges (by rw [show lo+1 - 1=lo by lia];exact C.rfl' (hB.sg hS (by lia))))) ?_)
   rintro⟨c,m,e⟩ st2 ⟨rfl,b1,b2,b3,b4,b5,b6,b7,b8⟩
   dsimp only at*
   by_cases he:e>0
   ·rw [if_pos he]
    have hsz2:lo+m<=(arrOf st2).size:=by rw [b3.size];lia
    refine wpS_bind (a7C (wpS_bind (wpS_mono (tail m _ (b3.set (mirror_perm _ _ _ _)) b4 (b5.trans (X2 hsz2 (by lia))) b2 b1 (a07 C hS b3 (by lia) b7 (by lia) (by lia) (by lia) b8)) fun _ st3 q=>wpS_bind (wpS_mono q ?_))))
    rintro⟨c,n'⟩ st4 ⟨rfl,q⟩
    exact wpS_pure q
   ·rw [if_neg he]
    refine wpS_bind (wpS_mono (tail m _ b3 b4 b5 b2 b1 b7) fun _ st3 q=>wpS_bind (wpS_mono q ?_))
    rintro⟨c,n'⟩ st4 ⟨rfl,q⟩
    exact wpS_pure q
theorem b1U(C:Cmp prog w A E s κ S R){a:Array Keyed}{lo k l:Nat}(hS:∀i,i<=lo+k->S (g a i))(hks:lo+k<a.size)(hlk:l<=k)(hs:Seg R a lo (lo+k))
 (hlo:∀i,i<l->R (g a (lo+k)) (g a (lo+i))=false) (hhi:∀i,l<=i->i<k->R (g a (lo+k)) (g a (lo+i))=true):Seg R (bubble a (lo+k) (lo+k - (lo+l))) lo (lo+(k+1)):=by
 intro i j hi hij hj
 rw [a6t hks (by lia),a6t hks (by lia),show lo+k - (lo+k - (lo+l))=lo+l by lia]
 have low:∀i,lo<=i->i<lo+l->R (g a (lo+k)) (g a i)=false:=fun i x y=>by
  have:=hlo (i - lo) (by lia);rwa [show lo+(i - lo)=i by lia] at this
 have high:∀i,lo+l<=i->i<lo+k->R (g a i) (g a (lo+k))=false:=fun i x y=>by
  have:=hhi (i - lo) (by lia) (by lia);rw [show lo+(i - lo)=i by lia] at this
  exact C.as _ _ (hS _ (AM _)) (hS _ (BF y)) this
 by_cases e1:i=lo+l
 ·subst e1
  rw [if_pos rfl]
  by_cases e2:j=lo+l
  ·rw [if_pos e2];exact C.rfl' (hS _ (AM _))
  ·rw [if_neg e2,if_pos (by lia)];exact high _ (by lia) (by lia)
 ·rw [if_neg e1]
  by_cases e3:lo+l<i
  ·rw [if_neg (by lia),if_pos (by lia),if_pos (by lia)];exact hs _ _ (by lia) (by lia) (by lia)
  ·rw [if_neg (c:=lo+l<i/\i<=lo+k) (by lia)]
   by_cases e2:j=lo+l
   ·rw [if_pos e2];exact low _ hi (by lia)
   ·rw [if_neg e2]
    by_cases e4:lo+l<j
    ·rw [if_pos (by lia)];exact hs _ _ hi (by lia) (by lia)
    ·rw [if_neg (by lia)];exact hs _ _ hi hij (by lia)
theorem c0M(C:Cmp prog w A E s κ S R)(hS:∀p∈a₀.toList,S p){st:SortSt}{lo n ok:Nat}{Q:Bool->SortSt->Prop}(hB:B κ a₀ st)(hn:lo+n<=a₀.size)(hok:ok<=n)(h1:1<=n)(hs:Seg R (arrOf st) lo (lo+ok))
 (h:∀st',B κ a₀ st'->pendingOf st'=pendingOf st->Fix lo (arrOf st) (arrOf st')->Seg R (arrOf st') lo (lo+n)->Q true st'):
 wpS (model prog w) A E s (binarySort' lo n ok) Q st:=by
 rw [binarySort'_eq]
 refine wpS_bind (wpS_mono (wpS_forRange (I:=fun k c st'=>c=(none,())/\B κ a₀ st'/\pendingOf st'=pendingOf st/\Fix lo (arrOf st) (arrOf st')/\Seg R (arrOf st') lo (lo+k))
  (Q:=fun c st'=>c=(none,())/\B κ a₀ st'/\pendingOf st'=pendingOf st/\Fix lo (arrOf st) (arrOf st')/\Seg R (arrOf st') lo (lo+n)) ?_ ?_ ⟨rfl,hB,rfl,Fix.refl, ?_⟩) ?_)
 ·rintro k c st' hk1 hk2 ⟨rfl,hB',hp,hf,hs'⟩
  dsimp only
  refine wpS_bind (wpS_mono (wpS_forRange (I:=fun x c st2=>st2=st'/\∃l r,c=(none,l,r)/\l<=r/\r<=k/\r - l+x<=k/\
   (∀i,i<l->R (g (arrOf st') (lo+k)) (g (arrOf st') (lo+i))=false)/\(∀i,r<=i->i<k->R (g (arrOf st') (lo+k)) (g (arrOf st') (lo+i))=true))
   (Q:=fun c st2=>st2=st'/\∃l,c=(none,l,l)/\l<=k/\
    (∀i,i<l->R (g (arrOf st') (lo+k)) (g (arrOf st') (lo+i))=false)/\(∀i,l<=i->i<k->R (g (arrOf st') (lo+k)) (g (arrOf st') (lo+i))=true)) ?_ ?_ ⟨rfl,0,k,rfl,by lia,by lia,by lia,fun i a=>by lia,fun i a b=>by lia⟩) ?_)
  ·rintro x c st2 _ hx ⟨rfl,l,r,rfl,hlr,hrk,hm,hlo,hhi⟩
   dsimp only
   by_cases hge:l>=r
   ·rw [if_pos hge]
    have:l=r:=by lia
    subst this
    exact wpS_pure ⟨rfl,l,rfl,hrk,hlo,hhi⟩
   ·rw [if_neg hge]
    obtain⟨c,hc,c1,c2⟩:∃c,(l+r)/ 2=c/\l<=c/\c<r:=⟨_,rfl,by lia,by lia⟩
    rw [hc]
    refine wpS_bind (a37 C hS hB' (by lia) (by lia) ?_)
    cases hl:R (g (arrOf st2) (lo+k)) (g (arrOf st2) (lo+c))
    ·simp only [Av,if_false]
     refine wpS_pure ⟨rfl,c+1,r,rfl,by lia,by lia,by lia,fun i a=> ?_,hhi⟩
     exact C.tr _ (g (arrOf st2) (lo+c)) _ (hB'.sg hS (by lia)) (hB'.sg hS (by lia)) (hB'.sg hS (by lia)) (hs' _ _ (by lia) (by lia) (by lia)) hl
    ·simp only [if_true]
     refine wpS_pure ⟨rfl,l,c,rfl,by lia,by lia,by lia,hlo,fun i a b=> ?_⟩
     cases hi:R (g (arrOf st2) (lo+k)) (g (arrOf st2) (lo+i))
     ·exact absurd (C.tr _ (g (arrOf st2) (lo+i)) _ (hB'.sg hS (by lia)) (hB'.sg hS (by lia)) (hB'.sg hS (by lia)) (hs' (lo+c) (lo+i) (by lia) (by lia) (by lia)) hi) (by rw [hl];decide)
     ·rfl
  ·rintro c st2 ⟨rfl,l,r,rfl,hlr,hrk,hm,hlo,hhi⟩
   have:l=r:=by lia
   subst this
   exact⟨rfl,l,rfl,hrk,hlo,hhi⟩
  ·rintro c st2 ⟨rfl,l,rfl,hlk,hlo,hhi⟩
   dsimp only
   rw [moveDown'_eq]
   have hks:lo+k<(arrOf st2).size:=by rw [hB'.size];lia
   refine wpS_bind (wpS_modify (wpS_pure ⟨rfl,hB'.set (bubble_perm _ _ _),hp,hf.trans ?_, ?_⟩))
   ·intro i hi
    show g (bubble (arrOf st2) (lo+k) (lo+k - (lo+l))) i=_
    rw [a6t hks (by lia),if_neg (by lia),if_neg (by lia)]
   ·exact b1U C (fun i hi=>hB'.sg hS (by lia)) hks hlk hs' hlo hhi
 ·rintro c st' ⟨rfl,hB',hp,hf,hs'⟩
  rw [show max (max ok 1) n=n by lia] at hs'
  exact⟨rfl,hB',hp,hf,hs'⟩
 ·by_cases hk:ok=0
  ·subst hk
   intro i j hi hij hj
   have:i=j:=by lia
   subst this;exact C.rfl' (hB.sg hS (by lia))
  ·rw [show max ok 1=ok by lia];exact hs
 ·rintro c st' ⟨rfl,hB',hp,hf,hs'⟩
  exact wpS_pure (h st' hB' hp hf hs')
end
section
variable {prog:AN}{w:AI}{A:AR}{E:AA->AC->Prop}{s:AC}
variable {κ:SortKind}{S:Keyed->Prop}{R:Keyed->Keyed->Bool}{a₀:Array Keyed}
theorem a9v{n:Nat}(h:n<64)(h0:0<n):minRun' n n 0=n:=by
 cases n with
 |zero=>lia
 |succ m=>
  show(if m+1<64 then m+1+0 else _)=_
  rw [if_pos h]
theorem b8E(C:Cmp prog w A E s κ S R)(hS:∀p∈a₀.toList,S p){st:SortSt}{Q:Unit->SortSt->Prop}(hB:B κ a₀ st)(hp:pendingOf st= #[])(hsm:a₀.size<64)
 (h:∀st',B κ a₀ st'->Seg R (arrOf st') 0 a₀.size->Q () st'):wpS (model prog w) A E s sortRuns' Q st:=by
 rw [sortRuns'_eq]
 refine wpS_bind (wpS_get ?_)
 dsimp only
 rw [hB.size]
 refine wpS_bind (wpS_mono (wpS_forRange
  (I:=fun x c st'=>∃lo,c=(none,lo)/\B κ a₀ st'/\((lo=0/\pendingOf st'= #[]/\x=0)\/(lo=a₀.size/\(pendingOf st').size<=1/\Seg R (arrOf st') 0 a₀.size)))
  (Q:=fun c st'=>c=(none,a₀.size)/\B κ a₀ st'/\(pendingOf st').size<=1/\Seg R (arrOf st') 0 a₀.size) ?_ ?_ ⟨0,rfl,hB,.inl ⟨rfl,hp,rfl⟩⟩) ?_)
 ·rintro x c st' _ hx ⟨lo,rfl,hB',hc⟩
  dsimp only
  by_cases hge:lo>=a₀.size
  ·rw [if_pos hge]
   rcases hc with⟨rfl,_,_⟩|⟨rfl,hc⟩
   ·lia
   ·exact wpS_pure ⟨rfl,hB',hc⟩
  rw [if_neg hge]
  rcases hc with⟨rfl,hpe,_⟩|⟨rfl,_⟩
  rotate_left
  ·lia
  refine wpS_bind (c0N C hS hB' (by lia) (by lia) fun m st2 hB2 hp2 hf2 hm1 hm2 hs2=> ?_)
  dsimp only
  rw [a9v hsm (by lia)]
  by_cases hlt:m<a₀.size
  ·rw [if_pos hlt]
   generalize hN:min (a₀.size - 0) a₀.size=N
   have n1:N=a₀.size:=by lia
   refine wpS_bind (wpS_lift (wpAny_rule ⟨rfl, ?_⟩))
   refine wpS_bind (c0M C hS hB2 (by lia) (by lia) (by lia) hs2 fun st3 b3 p3 f3 s3=> ?_)
   simp only [Bool.not_true,Av,if_false]
   refine wpS_bind (wpS_get ?_)
   have hb:(pendingOf st3).back?=none:=by rw [p3,hp2,hpe];rfl
   rw [hb]
   dsimp only
   subst n1
   refine wpS_bind (wpS_modify (wpS_pure ⟨_,rfl,⟨b3.perm,b3.kind,b3.failed⟩,.inr ⟨by lia, ?_, ?_⟩⟩))
   ·show((pendingOf st3).push _).size<=1
    rw [p3,hp2,hpe];exact AM _
   ·show Seg R (arrOf st3) 0 _
    rw [Nat.zero_add] at s3;exact s3
  ·rw [if_neg hlt]
   have n1:m=a₀.size:=by lia
   refine wpS_bind (wpS_get ?_)
   have hb:(pendingOf st2).back?=none:=by rw [hp2,hpe];rfl
   rw [hb]
   dsimp only
   subst n1
   refine wpS_bind (wpS_modify (wpS_pure ⟨_,rfl,⟨hB2.perm,hB2.kind,hB2.failed⟩,.inr ⟨by lia, ?_, ?_⟩⟩))
   ·show((pendingOf st2).push _).size<=1
    rw [hp2,hpe];exact AM _
   ·show Seg R (arrOf st2) 0 _
    rw [Nat.zero_add] at hs2;exact hs2
 ·rintro c st' ⟨lo,rfl,hB',hc⟩
  rcases hc with⟨rfl,hpe,hx⟩|⟨rfl,hc⟩
  ·have h0:a₀.size=0:=by lia
   exact⟨by rw [h0],hB',by rw [hpe];exact Nat.zero_le _,fun i j _ _ hj=>by lia⟩
  ·exact⟨rfl,hB',hc⟩
 ·rintro c st' ⟨rfl,hB',hz,hs⟩
  dsimp only
  refine wpS_bind (wpS_mono (wpS_forRange (I:=fun x c st4=>c=(none,())/\B κ a₀ st4/\(pendingOf st4).size<=1/\Seg R (arrOf st4) 0 a₀.size)
   (Q:=fun c st4=>c=(none,())/\B κ a₀ st4/\Seg R (arrOf st4) 0 a₀.size) ?_ ?_ ⟨rfl,hB',hz,hs⟩) ?_)
  ·rintro x c st4 _ hx ⟨rfl,b4,z4,s4⟩
   refine wpS_bind (wpS_get ?_)
   rw [if_pos z4]
   exact wpS_pure ⟨rfl,b4,s4⟩
  ·rintro c st4 ⟨rfl,b4,z4,s4⟩
   exact⟨rfl,b4,s4⟩
  ·rintro c st4 ⟨rfl,b4,s4⟩
   exact wpS_pure (h st4 b4 s4)
end
open PySem PySem.Spec PyProof.Rows
section
variable {prog:AN}{w:AI}{A:AR}{E:AA->AC->Prop}{s:AC}
variable {κ:SortKind}{S:Keyed->Prop}{R:Keyed->Keyed->Bool}
def tw(v:AA):Keyed:=(v,v)
theorem b0E(vs:List AA):(pairsOf vs).toList=vs.map tw:=by
 rw [pairsOf_toList]
 induction vs with
 |nil=>rfl
 |cons v r ih=>rw [List.zip_cons_cons,ih];rfl
theorem b6f{vs:List AA}{a:Array Keyed}(hp:a.Perm (pairsOf vs))(hs:Seg R a 0 (pairsOf vs).size):
 ((a.map (·.2)).toList).Perm vs/\((a.map (·.2)).toList).Pairwise fun u v=>R (tw v) (tw u)=false:=by
 have hl:=Array.perm_iff_toList_perm.mp hp
 rw [b0E] at hl
 have e:a.toList=(a.map (·.2)).toList.map tw:=by
  rw [Array.toList_map,As]
  have:∀p∈a.toList,(tw∘fun p:Keyed=>p.2) p=p:=fun p hm=>by
   obtain⟨v,_,rfl⟩:=AZ.mp (hl.mem_iff.mp hm)
   rfl
  rw [List.map_congr_left this,List.map_id']
 refine⟨?_, ?_⟩
 ·have:=hl.map (fun p:Keyed=>p.2)
  rw [As] at this
  have e2:vs.map ((fun p:Keyed=>p.2)∘tw)=vs:=by
   have:((fun p:Keyed=>p.2)∘tw)=id:=rfl
   rw [this,List.map_id]
  rw [e2] at this
  rw [Array.toList_map];exact this
 ·have hw:a.toList.Pairwise fun x y=>R y x=false:=by
   rw [List.pairwise_iff_getElem]
   intro i j hi hj hij
   have h1:=b5m (a:=a) hi
   have h2:=b5m (a:=a) hj
   rw [Aw hi] at h1
   rw [Aw hj] at h2
   rw [Option.some.inj h1,Option.some.inj h2]
   have:a.toList.length=a.size:=rfl
   exact hs i j (Nat.zero_le _) (by lia) (by rw [<-hp.size_eq];lia)
  rw [e,List.pairwise_map] at hw
  exact hw
theorem a7O{a:AB}{vs:List AA}{n:Nat}{P:PySem.Fin->AC->Prop}(ho:s.heap.get? a=some (seqObj "list" vs.toArray n))(hz:vs.length<64)
 (hC:2<=vs.length->∀h',(∀b o,b≠a->s.heap.get? b=some o->h'.get? b=some o)->
  (∀Q:SortKind->AC->Prop,Q κ {s with heap:=h'}->AG (model prog w) A (keyKind' vs.toArray) Q E {s with heap:=h'})/\Cmp prog w A E {s with heap:=h'} κ S R)
 (hS:∀v∈vs,S (tw v))
 (h:∀out:Array AA,out.toList.Perm vs->(out.toList.Pairwise fun u v=>R (tw v) (tw u)=false)->P (.done (.ret .none)) {s with heap:=sortedHeap s.heap a vs out}):
 AG (model prog w) A (Builtin.«list.sort» ⟨[.ref a],[]⟩) P E s:=by
 have hb:vs.toArray.size<=AL:=by rw [Ao,sizeLine_eq];lia
 have ha:a<s.heap.objs.size:=Ad ho
 rw [list_sort_plain]
 refine AE (listItems_at ho rfl (AE (listUpdate_at ho rfl ?_ hb (Nat.zero_le _))))
 obtain⟨e1,q1⟩:∃e1,(s.heap.update a (Obj.mapSeq fun _=> #[])).get? a=some (seqObj "list" #[] e1):=⟨_,get?_update_seq ho (fun _=> #[])⟩
 refine AE (seqEpoch_at q1 rfl (AE (wpAny_newTuple (AE (wpAny_newList (wpAny_holding ?_) (Nat.zero_le _))) (by show vs.length<=_;rw [sizeLine_eq];lia))))
 have q6:(((s.heap.update a (Obj.mapSeq fun _=> #[])).push (seqObj "tuple" vs.toArray 0)).push (seqObj "list" #[] 0)).get? a=some (seqObj "list" #[] e1):=
  AY _ (AY _ q1)
 have keep:∀b o,b≠a->s.heap.get? b=some o->(((s.heap.update a (Obj.mapSeq fun _=> #[])).push (seqObj "tuple" vs.toArray 0)).push (seqObj "list" #[] 0)).get? b=some o:=fun b o hb e=>
  AY _ (AY _ (by rw [Heap.get?_update_ne _ _ _ _ hb];exact e))
 show AG (model prog w) A _ P E {s with heap:=((s.heap.update a (Obj.mapSeq fun _=> #[])).push (seqObj "tuple" vs.toArray 0)).push (seqObj "list" #[] 0)}
 dsimp only
 by_cases h2:vs.toArray.size<2
 ·rw [if_pos h2,if_pos h2]
  have h2':vs.length<2:=by rwa [Ao] at h2
  refine AE (AJ ?_)
  rw [StateT.run_pure]
  refine AE (AJ ?_)
  dsimp only
  refine AE (seqEpoch_at q6 rfl (AE (listUpdate_at q6 rfl ?_ (hsz2:= ?_))))
  ·simp only [bne_self_eq_false,Av,if_false]
   have ob:=b6f (R:=fun _ _=>false) (vs:=vs) (a:=pairsOf vs) (Array.Perm.refl _) (fun i j _ hij hj=>rfl)
   refine AJ (h _ ob.1 ?_)
   have hl:=ob.1.length_eq
   match(Array.map (fun p:Keyed=>p.2) (pairsOf vs)).toList,hl with
   |[],_=>exact List.Pairwise.nil
   |[u],_=>exact List.pairwise_singleton _ _
   |_::_::_,hl=>simp at hl;lia
  ·rw [Array.size_map]
   show(pairsOf vs).size<=_
   rw [pairsOf_size,sizeLine_eq];lia
 ·rw [if_neg h2,if_neg h2]
  obtain⟨k1,k2⟩:=hC (by rw [Ao] at h2;lia) _ keep
  refine AE (k1 _ ?_)
  have hS':∀p∈(pairsOf vs).toList,S p:=fun p hp=>by
   rw [b0E] at hp
   obtain⟨v,hv,rfl⟩:=AZ.mp hp
   exact hS v hv
  refine AE (wpAny_mono (b8E (a₀:=pairsOf vs) k2 hS' (st:=SortSt.mk' κ (vs.toArray.zip vs.toArray) #[] 7 none) (Q:=fun _ st'=>B κ (pairsOf vs) st'/\Seg R (arrOf st') 0 (pairsOf vs).size) ⟨Array.Perm.refl _,rfl,rfl⟩ rfl (by rw [pairsOf_size];exact hz) fun st' b1 b2=>⟨b1,b2⟩) ?_ fun _ _ e=>e)
  rintro⟨⟨⟩,st'⟩ s' ⟨rfl,b1,b2⟩
  dsimp only
  refine AE (seqEpoch_at q6 rfl (AE (listUpdate_at q6 rfl ?_ (hsz2:= ?_))))
  ·rw [b1.failed]
   simp only [bne_self_eq_false,Av,if_false]
   have ob:=b6f b1.perm b2
   exact AJ (h _ ob.1 ob.2)
  ·refine Nat.le_trans (Nat.le_of_eq ((Array.size_map ..).trans (b1.perm.size_eq.trans (pairsOf_size _)))) ?_
   rw [sizeLine_eq];lia
end
open PySem PySem.Spec PyProof.Rows L2 PU
section
variable {prog:AN}{w:AI}{A:AR}{E:AA->AC->Prop}{s:AC}
variable {κ:SortKind}{S:Keyed->Prop}{R:Keyed->Keyed->Bool}
theorem a7u{l:AB}{T:String}{o:Obj}{vs:List AA}{n:Nat}{Q:AA->AC->Prop}(hT:T="list"\/T="tuple")(ho:s.heap.get? l=some o)(hc:o.cls= .type T)(hd:o.data= .seq vs.toArray n)(hz:vs.length<64)
 (hC:2<=vs.length->∀h',(∀b o,s.heap.get? b=some o->h'.get? b=some o)->
  (∀Q:SortKind->AC->Prop,Q κ {s with heap:=h'}->AG (model prog w) A.in1.in1 (keyKind' vs.toArray) Q (fun _ _=>False) {s with heap:=h'})/\Cmp prog w A.in1.in1 (fun _ _=>False) {s with heap:=h'} κ S R)
 (hS:∀v∈vs,S (tw v))
 (h:∀(h1 h':Heap) (e:Nat) (us:List AA),(∀b o',s.heap.get? b=some o'->h1.get? b=some o')->(∀b o',h1.get? b=some o'->h'.get? b=some o')->us.Perm vs->(us.Pairwise fun u v=>R (tw v) (tw u)=false)->
  h'.get? h1.objs.size=some (seqObj "list" us.toArray e)->Q (.ref h1.objs.size) {s with heap:=h'}):
 AG (model prog w) A (call (.builtin "sorted") [.ref l]) Q E s:=by
 refine Calls.call_function_entry kind_sorted plain_sorted entry_sorted (args_sorted1 _) ?_
 unfold Builtin.«sorted»
 refine AE (m:=checkCount "sorted" 1 1 _) (AJ ?_)
 refine AE (wpAny_collect_seq l hT ho hc hd (fun h1 k1=> ?_) (by rw [Ao,sizeLine_eq];lia))
 have ev:vs.toArray.toList=vs:=by simp
 rw [ev]
 refine AE (wpAny_newList ?_ (by rw [sizeLine_eq];lia))
 have q1:(h1.push (seqObj "list" vs.toArray 0)).get? h1.objs.size=some (seqObj "list" vs.toArray 0):=An _ rfl
 show AG _ _ _ _ _ {s with heap:=h1.push (seqObj "list" vs.toArray 0)}
 refine AE (wpAny_holding (wpAny_call_entry slot_list_sort ⟨_,q1,rfl⟩ entry_list_sort (wpAny_mono (a7O (E:=fun _ _=>False) (κ:=κ) (S:=S) (R:=R) q1 hz (fun h2 h' kp=>hC h2 h' fun b o' e=>kp b o' ?_ ?_) hS fun out a1 a2=>⟨_,rfl, ?_⟩) (fun _ _ e=>e) fun _ _ e=>e.elim) (args_list_sort _)))
 ·exact Aj (Ad (k1 b o' e))
 ·exact AY _ (k1 b o' e)
 ·obtain⟨e,he⟩:=sortedHeap_at (out:=out) q1
  refine AJ ⟨_,rfl,h h1 _ e out.toList k1 (fun b o' hb1=> ?_) a1 a2 (by rw [Array.toArray_toList];exact he)⟩
  have hlt:=Ad hb1
  rw [sortedHeap_old (Aj hlt) (by rw [size_push'];exact Nat.lt_succ_of_lt hlt),Heap.get?_push_ne _ _ _ (Aj hlt)]
  exact hb1
end
end TS
namespace PU
open PySem PySem.Spec PyProof.Rows L2
def b3u{α:Type}(lt:α->α->Bool)(x:α):List α->List α
 |[]=>[x]
 |y::r=>if lt y x then y::b3u lt x r else x::y::r
def a1v{α:Type}(lt:α->α->Bool):List α->List α
 |[]=>[]
 |x::r=>b3u lt x (a1v lt r)
structure b06{α:Type}(lt:α->α->Bool):Prop where
 tr:∀a b c,lt b a=false->lt c b=false->lt c a=false
 as:∀a b,lt a b=true->lt b a=false
 an:∀a b,lt a b=false->lt b a=false->a=b
section
variable {α:Type}{lt:α->α->Bool}
theorem a4q(x:α):∀l:List α,(b3u lt x l).Perm (x::l)
 |[]=>List.Perm.refl _
 |y::r=>by
  unfold b3u
  split
  ·exact((a4q x r).cons y).trans (List.Perm.swap x y r)
  ·exact List.Perm.refl _
theorem a1f:∀l:List α,(a1v lt l).Perm l
 |[]=>List.Perm.refl _
 |x::r=>(a4q x (a1v lt r)).trans ((a1f r).cons x)
theorem a49(L:b06 lt)(x:α):∀{l:List α},(l.Pairwise fun a b=>lt b a=false)->(b3u lt x l).Pairwise fun a b=>lt b a=false
 |[],_=>List.pairwise_singleton _ _
 |y::r,h=>by
  unfold b3u
  have h':=List.pairwise_cons.mp h
  split
  ·rename_i c
   refine List.pairwise_cons.mpr ⟨fun z hz=> ?_,a49 L x h'.2⟩
   rcases AV.mp ((a4q x r).mem_iff.mp hz) with e|e
   ·subst e;exact L.as _ _ c
   ·exact h'.1 z e
  ·rename_i c
   have c':lt y x=false:=eq_false_of_ne_true c
   refine List.pairwise_cons.mpr ⟨fun z hz=> ?_,h⟩
   rcases AV.mp hz with e|e
   ·subst e;exact c'
   ·exact L.tr _ _ _ c' (h'.1 z e)
theorem V4(L:b06 lt):∀l:List α,(a1v lt l).Pairwise fun a b=>lt b a=false
 |[]=>List.Pairwise.nil
 |x::r=>a49 L x (V4 L r)
theorem a7s(L:b06 lt):∀{l m:List α},(l.Pairwise fun a b=>lt b a=false)->(m.Pairwise fun a b=>lt b a=false)->l.Perm m->l=m
 |[],m,_,_,p=>(List.Perm.nil_eq p)
 |a::l,[],_,_,p=>by have:=p.length_eq;simp at this
 |a::l,b::m,hl,hm,p=>by
  have hl':=List.pairwise_cons.mp hl
  have hm':=List.pairwise_cons.mp hm
  have e:a=b:=by
   have m1:a∈b::m:=p.mem_iff.mp AX
   have m2:b∈a::l:=p.mem_iff.mpr AX
   rcases AV.mp m1 with e|e
   ·exact e
   ·rcases AV.mp m2 with g|g
    ·exact g.symm
    ·exact L.an _ _ (hm'.1 a e) (hl'.1 b g)
  subst e
  rw [a7s L hl'.2 hm'.2 (List.Perm.cons_inv p)]
theorem b0N(L:b06 lt){l m:List α}(h:l.Pairwise fun a b=>lt b a=false)(p:l.Perm m):a1v lt m=l:=
 a7s L (V4 L m) h ((a1f m).trans p.symm)
end
def a8z:g0->g0->Bool
 | .inl a,.inl b=>decide (a<b)
 | .inr a,.inr b=>decide (a.cps.toList<b.cps.toList)
 | .inl _,.inr _=>true
 | .inr _,.inl _=>false
def O3:List g0->List g0->Bool
 |[],[]=>false
 |[],_::_=>true
 |_::_,[]=>false
 |a::r,b::t=>if a=b then O3 r t else a8z a b
theorem a5L:b06 a8z where
 tr:=by
  intro a b c h1 h2
  cases a<;>cases b<;>cases c<;>simp only [a8z,decide_eq_false_iff_not,reduceCtorEq] at h1 h2 ⊢
  ·lia
  ·exact a4w (a:=_) (b:=_) (c:=_) h1 h2
 as:=by
  intro a b h
  cases a<;>cases b<;>simp only [a8z,decide_eq_false_iff_not,decide_eq_true_eq,reduceCtorEq] at h ⊢
  ·lia
  ·exact List.lt_asymm h
 an:=by
  intro a b h1 h2
  cases a<;>cases b<;>simp only [a8z,decide_eq_false_iff_not,reduceCtorEq] at h1 h2
  ·congr 1;lia
  ·congr 1;exact a6H h2 h1
theorem X7:b06 O3 where
 tr:=by
  intro a
  induction a with
  |nil=>intro b c _ h2;cases c<;>rfl
  |cons x a ih=>
   intro b c h1 h2
   cases b with
   |nil=>simp [O3] at h1
   |cons y b=>
    cases c with
    |nil=>simp [O3] at h2
    |cons z c=>
     unfold O3 at h1 h2 ⊢
     by_cases e1:y=x
     ·subst e1
      rw [if_pos rfl] at h1
      by_cases e2:z=y
      ·subst e2
       rw [if_pos rfl] at h2 ⊢
       exact ih b c h1 h2
      ·rw [if_neg e2] at h2 ⊢;exact h2
     ·rw [if_neg e1] at h1
      by_cases e2:z=y
      ·subst e2
       rw [if_neg e1];exact h1
      ·rw [if_neg e2] at h2
       by_cases e3:z=x
       ·subst e3
        exact absurd (a5L.an _ _ h1 h2) e1
       ·rw [if_neg e3];exact a5L.tr _ _ _ h1 h2
 as:=by
  intro a
  induction a with
  |nil=>intro b h;cases b<;>first|rfl|(simp [O3] at h)
  |cons x a ih=>
   intro b h
   cases b with
   |nil=>simp [O3] at h
   |cons y b=>
    unfold O3 at h ⊢
    by_cases e:x=y
    ·subst e;rw [if_pos rfl] at h ⊢;exact ih b h
    ·rw [if_neg e] at h;rw [if_neg (Ne.symm e)];exact a5L.as _ _ h
 an:=by
  intro a
  induction a with
  |nil=>intro b h1 h2;cases b<;>first|rfl|(simp [O3] at h1)
  |cons x a ih=>
   intro b h1 h2
   cases b with
   |nil=>simp [O3] at h2
   |cons y b=>
    unfold O3 at h1 h2
    by_cases e:x=y
    ·subst e;rw [if_pos rfl] at h1 h2;rw [ih b h1 h2]
    ·rw [if_neg e] at h1;rw [if_neg (Ne.symm e)] at h2;exact absurd (a5L.an _ _ h1 h2) e
def kT(k:List g0):PV:= .tuple (k.map kP)
def a5c:List PV->Option (List (List g0))
 |[]=>some []
 | .tuple qs::r=>(keysOf qs).bind fun k=>(a5c r).map fun t=>k::t
 |_::_=>none
def sgK:g0->Bool
 | .inl _=>false
 | .inr _=>true
def okK:List (List g0)->Bool
 |[]=>true
 |k::r=> !k.isEmpty && r.all fun j=>j.map sgK==k.map sgK
open PySem PySem.Spec PyProof.Rows L2 PySem.W
theorem b1u:∀{a b:g0},kV a=kV b->a=b
 | .inl _,.inl _,h=>by cases h;rfl
 | .inr _,.inr _,h=>by cases h;rfl
 | .inl _,.inr _,h=>nomatch h
 | .inr _,.inl _,h=>nomatch h
theorem a5K:∀{a b:List g0},a.map kV=b.map kV->a=b
 |[],[],_=>rfl
 |[],_::_,h=>nomatch h
 |_::_,[],h=>nomatch h
 |x::a,y::b,h=>by
  rw [AK,AK] at h
  obtain⟨h1,h2⟩:=List.cons.inj h
  rw [b1u h1,a5K h2]
def a0o(h:Heap)(u:AA)(k:List g0):Prop:=∃(a:AB) (o:Obj) (xs:Array AA) (n:Nat),u= .ref a/\h.get? a=some o/\o.cls= .type "tuple"/\o.data= .seq xs n/\j9 (k.map kV) xs.toList
theorem a0o.inj{h:Heap}{u:AA}{k j:List g0}(a:a0o h u k)(b:a0o h u j):k=j:=by
 obtain⟨a1,o1,x1,n1,rfl,g1,_,d1,v1⟩:=a
 obtain⟨a2,o2,x2,n2,e2,g2,_,d2,v2⟩:=b
 cases e2
 rw [g1] at g2;cases g2
 rw [d1] at d2;cases d2
 exact a5K (v1.inj v2)
theorem a0o.keep{h h':Heap}{u:AA}{k:List g0}(a:a0o h u k)(kp:∀b o,h.get? b=some o->h'.get? b=some o):a0o h' u k:=
 let ⟨a1,o1,x1,n1,e,g1,c,d1,v1⟩:=a;⟨a1,o1,x1,n1,e,kp _ _ g1,c,d1,v1⟩
open Classical in
def kOf(h:Heap)(u:AA):List g0:=if e:∃k,a0o h u k then e.choose else []
theorem a9j{h:Heap}{u:AA}{k:List g0}(a:a0o h u k):kOf h u=k:=by
 have e:∃k,a0o h u k:=⟨k,a⟩
 unfold kOf
 rw [dif_pos e]
 exact e.choose_spec.inj a
section
variable {prog:AN}{w:AI}{A:AR}{E:AA->AC->Prop}{s:AC}
theorem b5v{a c:g0}{u v:AA}(hu:m3 (kV a) u)(hv:m3 (kV c) v)(hg:sgK a=sgK c):SeqAt.EqAt A s u v (decide (a=c)):=by
 cases a<;>cases c<;>first|(cases hg;done)|skip
 ·obtain⟨t,rfl⟩:=hu
  obtain⟨t',rfl⟩:=hv
  rename_i i j
  have:(decide ((Sum.inl i:g0)=Sum.inl j))=(i==j):=b5w i j
  rw [this]
  exact SeqAt.EqAt.int_int _ _ _ _
 ·obtain⟨t,rfl⟩:=hu
  obtain⟨t',rfl⟩:=hv
  rename_i i j
  rw [b5x i j]
  have:=SeqAt.EqAt.str_str (A:=A) (s:=s) i t j t'
  have e:(i==j)=decide (i=j):=by by_cases h:i=j<;>simp [h]
  rw [e] at this
  exact this
theorem b3C{a c:g0}{u v:AA}{Q:Bool->AC->Prop}(f:Bool)(hu:m3 (kV a) u)(hv:m3 (kV c) v)(hg:sgK a=sgK c)(h:Q (a8z a c) s):AG (model prog w) A (oneLt' f u v) Q E s:=by
 cases a<;>cases c<;>first|(cases hg;done)|skip
 ·obtain⟨t,rfl⟩:=hu
  obtain⟨t',rfl⟩:=hv
  cases f
  ·exact kat_one _ _ (a0m.ints _ _ t t' prog w E _ h)
  ·exact oneLt_int h
 ·obtain⟨t,rfl⟩:=hu
  obtain⟨t',rfl⟩:=hv
  cases f
  ·exact kat_one _ _ (a0m.strs _ _ t t' prog w E _ h)
  ·rw [<-keyLt'_oneType];exact kas_lt_str h
theorem a5b{b:Bool}{Q:Bool->AC->Prop}:∀(ks js:List g0) (us ws:List AA) (i:Nat),j9 (ks.map kV) us->j9 (js.map kV) ws->ks.map sgK=js.map sgK->Q (O3 ks js) s->KatLex prog w A b false Q (us.zip ws) i s
 |[],[],us,ws,i,h1,h2,_,h=>by
  cases h1;cases h2
  exact kat_nil h
 |[],_::_,_,_,_,_,_,e,_=>nomatch e
 |_::_,[],_,_,_,_,_,e,_=>nomatch e
 |a::ks,c::js,us,ws,i,h1,h2,e,h=>by
  rw [AK] at h1 h2
  cases h1 with
  |cons r1 h1=>
   cases h2 with
   |cons r2 h2=>
    rw [AK,AK] at e
    obtain⟨e1,e2⟩:=List.cons.inj e
    rw [List.zip_cons_cons]
    refine kat_cons (b5v r1 r2 e1 prog w _ _ ?_)
    unfold O3 at h
    by_cases hac:a=c
    ·rw [if_pos hac] at h
     rw [decide_eq_true hac]
     exact kat_yes (a5b ks js _ _ (i+1) h1 h2 e2 h)
    ·rw [if_neg hac] at h
     rw [decide_eq_false hac]
     exact kat_no (b3C _ r1 r2 e1 h)
theorem b6V{h₀:Heap}{σk:List Bool}{b:Bool}(kp:∀b o,h₀.get? b=some o->s.heap.get? b=some o):
 TS.Cmp prog w A E s (tuples' b) (fun x=>∃k,a0o h₀ x.1 k/\k.map sgK=σk) (fun x y=>O3 (kOf h₀ x.1) (kOf h₀ y.1)) where
 lt:=by
  rintro⟨x,x'⟩ ⟨y,y'⟩ ⟨k,hk,gk⟩ ⟨j,hj,gj⟩ st Q hκ h
  dsimp only at*
  rw [a9j hk,a9j hj] at h
  rw [lt'_eq]
  refine wpS_bind (wpS_get ?_)
  rw [hκ]
  refine wpS_bind (wpS_lift (wpAny_attempt ?_))
  obtain⟨a1,o1,x1,n1,rfl,g1,c1,d1,v1⟩:=hk
  obtain⟨a2,o2,x2,n2,rfl,g2,c2,d2,v2⟩:=hj
  have z1:k.length=x1.size:=by have:=v1.length;rwa [AO,Array.length_toList] at this
  have z2:j.length=x2.size:=by have:=v2.length;rwa [AO,Array.length_toList] at this
  have zk:k.length=j.length:=by have:=congrArg List.length (gk.trans gj.symm);rwa [AO,AO] at this
  refine kat_lt (kp _ _ g1) d1 (kp _ _ g2) d2 ?_
  have:decide (x1.size<x2.size)=false:=decide_eq_false (by rw [<-z1,<-z2,zk];exact Nat.lt_irrefl _)
  rw [this]
  exact a5b k j _ _ 0 v1 v2 (gk.trans gj.symm) ⟨rfl,wpS_pure h⟩
 tr:=fun x y z _ _ _=>X7.tr _ _ _
 as:=fun x y _ _=>X7.as _ _
end
theorem a61{α β:Type}{R:α->β->Prop}:∀{l:List α} {m:List β},Paired R l m->∀x∈l,∃y∈m,R x y
 |_,_,.cons r t,x,h=>by
  rcases AV.mp h with rfl|h
  ·exact⟨_,AX,r⟩
  ·obtain⟨y,hy,q⟩:=a61 t x h
   exact⟨y,Ac _ hy,q⟩
theorem a3f{h:Heap}:∀{vs:List AA} {ks:List (List g0)},Paired (a0o h) vs ks->vs.map (kOf h)=ks
 |_,_,.nil=>rfl
 |_,_,.cons r t=>by rw [AK,a9j r,a3f t]
section
variable {prog:AN}{w:AI}{A:AR}{E:AA->AC->Prop}{s:AC}
theorem a5q{c:Bool}{σk:List Bool}{h:Heap}:∀{vs:List AA} {ks:List (List g0)},Paired (a0o h) vs ks->(∀k∈ks,k.map sgK=c::σk)->
 ∃fs:List AA,KatTups h vs fs/\fs.length=vs.length/\∀v∈fs,Looks (model prog w) h (typeOf v) (if c then Value.type "str" else Value.type "int")
 |_,_,.nil,_=>⟨[],.nil,rfl,fun v hv=>nomatch hv⟩
 |_,_,.cons r t,hs=>by
  rename_i v k vs ks
  obtain⟨fs,f1,f2,f3⟩:=a5q t fun k hk=>hs k (Ac _ hk)
  have e:=hs k AX
  obtain⟨a1,o1,x1,n1,rfl,g1,c1,d1,v1⟩:=r
  cases k with
  |nil=>cases e
  |cons q k=>
   rw [AK] at e v1
   have e1:=(List.cons.inj e).1
   generalize hx:x1.toList=xl at v1
   cases v1 with
   |cons r1 v1=>
    rename_i u us
    have h0:x1[0]?=some u:=by rw [<-Array.getElem?_toList,hx];rfl
    refine⟨u::fs,.cons g1 c1 d1 h0 f1,by rw [AU,AU,f2],fun v hv=> ?_⟩
    rcases AV.mp hv with rfl|hv
    ·cases q with
     |inl i=>
      obtain⟨t',rfl⟩:=r1
      have:c=false:=e1.symm
      subst this
      exact(.now:Looks (model prog w) h (pure (Value.type "int")) (Value.type "int"))
     |inr x=>
      obtain⟨t',rfl⟩:=r1
      have:c=true:=e1.symm
      subst this
      exact(.now:Looks (model prog w) h (pure (Value.type "str")) (Value.type "str"))
    ·exact f3 v hv
theorem b4a{c:Bool}{σk:List Bool}{vs:List AA}{ks:List (List g0)}{Q:SortKind->AC->Prop}(hp:Paired (a0o s.heap) vs ks)(h0:0<vs.length)(hs:∀k∈ks,k.map sgK=c::σk)(h:Q (tuples' true) s):
 AG (model prog w) A (keyKind' vs.toArray) Q E s:=by
 obtain⟨fs,f1,f2,f3⟩:=a5q (prog:=prog) (w:=w) hp hs
 refine kat_kind f1 (by lia) f3 ?_ ?_
 ·cases c<;>decide
 ·have:((if c=true then Value.type "str" else Value.type "int") !=Value.type "tuple")=true:=by cases c<;>decide
  rw [this];exact h
theorem a5i{h h':Heap}(kp:∀b o,h.get? b=some o->h'.get? b=some o):∀{vs:List AA} {ks:List (List g0)},Paired (a0o h) vs ks->Paired (a0o h') vs ks
 |_,_,.nil=> .nil
 |_,_,.cons r t=> .cons (r.keep kp) (a5i kp t)
theorem b0P{l:AB}{T:String}{o:Obj}{vs:List AA}{n:Nat}{Q:AA->AC->Prop}(hT:T="list"\/T="tuple")(ho:s.heap.get? l=some o)(hc:o.cls= .type T)(hd:o.data= .seq vs.toArray n)(hz:vs.length<64)
 {ks:List (List g0)} (hp:Paired (a0o s.heap) vs ks) (ok:okK ks=true)
 (h:∀(h1 h':Heap) (e:Nat) (us:List AA),(∀b o',s.heap.get? b=some o'->h1.get? b=some o')->(∀b o',h1.get? b=some o'->h'.get? b=some o')->us.Perm vs->us.map (kOf s.heap)=a1v O3 ks->
  h'.get? h1.objs.size=some (seqObj "list" us.toArray e)->Q (.ref h1.objs.size) {s with heap:=h'}):
 AG (model prog w) A (call (.builtin "sorted") [.ref l]) Q E s:=by
 obtain⟨c,σk,hs⟩:∃c σk,∀k∈ks,k.map sgK=c::σk:=by
  cases ks with
  |nil=>exact⟨false,[],fun k hk=>nomatch hk⟩
  |cons k r=>
   unfold okK at ok
   rw [Bool.and_eq_true] at ok
   cases k with
   |nil=>exact nomatch ok.1
   |cons q k=>
    refine⟨sgK q,k.map sgK,fun j hj=> ?_⟩
    rcases AV.mp hj with rfl|hj
    ·rfl
    ·have:=List.all_eq_true.mp ok.2 j hj
     simpa using this
 refine TS.a7u (κ:=tuples' true) (S:=fun x=>∃k,a0o s.heap x.1 k/\k.map sgK=c::σk) (R:=fun x y=>O3 (kOf s.heap x.1) (kOf s.heap y.1)) hT ho hc hd hz (fun h2 h' kp=>⟨fun Q' hq=> ?_,b6V (s:={s with heap:=h'}) kp⟩) (fun v hv=> ?_)
  fun h1 h' e us k1 k2 pm pw he=>h h1 h' e us k1 k2 pm ?_ he
 ·exact b4a (s:={s with heap:=h'}) (a5i kp hp) (by lia) hs hq
 ·obtain⟨k,hk,r⟩:=a61 hp v hv
  exact⟨k,r,hs k hk⟩
 ·symm
  refine b0N X7 (List.pairwise_map.mpr pw) ?_
  have:=pm.map (kOf s.heap)
  rw [a3f hp] at this
  exact this
end
theorem a8v:∀{qs:List PV} {k:List g0},keysOf qs=some k->qs=k.map kP
 |[],k,h=>by cases h;rfl
 |q::qs,k,h=>by
  unfold keysOf at h
  obtain⟨a,h1,h⟩:=bind_some h
  obtain⟨r,h2,h⟩:=bind_some h
  cases h
  rw [AK,<-a8v h2]
  congr 1
  unfold b0q at h1
  split at h1<;>cases h1<;>rfl
def a26(x:d7):Option d7:=match PyData.items? x.rd with
 |some ps=>(a5c ps).bind fun ks=>if okK ks=true/\ks.length<64 then some (.own ((a1v O3 ks).map kT)) else none
 |none=>none
section
variable {X:Cx}{pins:List (AB×Obj)}{σ:L2.St}{F H:Hp}{s:AC}
theorem a8w(I:g9 X pins σ H s)(s0:j8 F H):∀{ps:List PV} {ks:List (List g0)} {xs:List V} {its:List AA},a5c ps=some ks->j0 X.K F ps xs->j9 xs its->
 Paired (a0o s.heap) its ks/\∀u∈its,∃k v,a0o s.heap u k/\m3 v u/\x4 X.K F (kT k) v
 |[],ks,xs,its,h,r,v=>by
  cases h;cases r;cases v
  exact⟨.nil,fun u hu=>nomatch hu⟩
 | .tuple qs::ps,ks,xs,its,h,r,v=>by
   unfold a5c at h
   obtain⟨k,h1,h⟩:=bind_some h
   cases h2:a5c ps with
   |none=>rw [h2] at h;cases h
   |some t=>
    rw [h2] at h;cases h
    obtain⟨x,xr,rfl,rx,rr⟩:=r
    cases v with
    |cons v1 vr=>
     obtain⟨p1,p2⟩:=a8w I s0 h2 rr vr
     have rx':=rx
     obtain⟨a,xs',rfl,hq,rl⟩:=rx'
     cases v1
     obtain⟨its',rv,⟨o,ho,hc,n,hd⟩,hz⟩:=I.tuple (b2Q s0 hq).sq
     have ex:xs'=k.map kV:=X5 h1 rl
     rw [ex] at rv
     have tv:a0o s.heap (.ref a) k:=⟨a,o,its'.toArray,n,rfl,ho,hc,hd,by simpa using rv⟩
     refine⟨.cons tv p1,fun u hu=> ?_⟩
     rcases AV.mp hu with rfl|hu
     ·refine⟨k,.ref a,tv,rfl, ?_⟩
      unfold kT
      rw [<-a8v h1];exact rx
     ·exact p2 u hu
 | .none::_,_,_,_,h,_,_=>nomatch h
 | .bool _::_,_,_,_,h,_,_=>nomatch h
 | .int _::_,_,_,_,h,_,_=>nomatch h
 | .str _::_,_,_,_,h,_,_=>nomatch h
 | .list _::_,_,_,_,h,_,_=>nomatch h
 | .dict _::_,_,_,_,h,_,_=>nomatch h
theorem b0J{h:Heap}:∀{us:List AA},(∀u∈us,∃k v,a0o h u k/\m3 v u/\x4 X.K F (kT k) v)->∃ys,j9 ys us/\j0 X.K F ((us.map (kOf h)).map kT) ys
 |[],_=>⟨[],.nil,rfl⟩
 |u::us,hu=>by
  obtain⟨ys,h1,h2⟩:=b0J (us:=us) fun u' h'=>hu u' (Ac _ h')
  obtain⟨k,v,h3,h4,h5⟩:=hu u AX
  refine⟨v::ys,.cons h4 h1,v,ys,rfl, ?_,h2⟩
  rw [a9j h3];exact h5
end
section
variable {X:Cx}
theorem a98:A6 X (.builtin "sorted") (rC1 X.K a26):=by
 intro pins s σ H xs us Q I rv h
 obtain⟨F,x,rx,rz,rfl,s0,h1,h2,k⟩:=h
 unfold a26 at h2
 split at h2
 ·rename_i ps e
  obtain⟨ks,e1,h2⟩:=bind_some h2
  split at h2
  ·rename_i c
   cases h2
   obtain⟨a,xs,rfl,hq,r⟩:=D8 s0 h1 e
   obtain⟨u,rfl,ru⟩:=Y7 rv
   cases ru
   have fin:∀(its:List AA) (T:String) (o:Obj) (n:Nat),(T="list"\/T="tuple")->s.heap.get? a=some o->o.cls= .type T->o.data= .seq its.toArray n->j9 xs its->AG (model X.prog X.w) X.A (call (.builtin "sorted") [.ref a]) (EP X pins σ Q) X.xe s:=by
    intro its T o n hT ho hc hd rvv
    obtain⟨p1,p2⟩:=a8w I s0 e1 r rvv
    have hlen:its.length=ks.length:=by rw [<-a3f p1,AO]
    refine b0P hT ho hc hd (by rw [hlen];exact c.2) p1 c.1 fun hp1 hp2 en us k1 k2 pm ek he=> ?_
    have I1:g9 X pins σ H {s with heap:=hp1}:=I.kept (t':=s.toks) k1
    obtain⟨ys,v1,r1⟩:=b0J (X:=X) (F:=F) (h:=s.heap) (us:=us) fun u hu=>p2 u (pm.mem_iff.mp hu)
    rw [ek] at r1
    have hf:H hp1.objs.size=none:=I1.hok.fresh (AM _)
    have hyl:ys.length<=AL:=by rw [v1.length,pm.length_eq,hlen,sizeLine_eq];exact Nat.le_trans (BF c.2) (by decide)
    exact⟨.ref hp1.objs.size,_,I1.laid (t':=s.toks) (h':=hp2) (o:= .lst ys) k2 (AM _) ⟨hyl,us,en,v1,he⟩,rfl,k _ F _ (u6.lst s0 hf r1)⟩
   rcases hq with hq|hq
   ·obtain⟨its,r',pl,hz⟩:=I.list hq
    obtain⟨o,ho,hc,n,hd⟩:=pl.isList
    exact fin its "list" o n (.inl rfl) ho hc hd r'
   ·obtain⟨its,r',⟨o,ho,hc,n,hd⟩,hz⟩:=I.tuple hq
    exact fin its "tuple" o n (.inr rfl) ho hc hd r'
  ·cases h2
 ·cases h2
end
section
variable {X:Cx}
end
section
variable {X:Cx}
end
def a9R(h:Heap)(d:AB)(es:Array DictEntry)(ep:Nat):Prop:=∃o,h.get? d=some o/\o.ExactDict/\o.data= .dict es ep
section
variable {prog:AN}{w:AI}{A:AR}{E:AA->AC->Prop}{s:AC}{it d:AB}{i ep:Nat}{es:Array DictEntry}
theorem a9R.type(h:a9R s.heap d es ep):s.TypeIs (.ref d) "dict":=let ⟨o,ho,hc,_⟩:=h;⟨o,ho,hc.1⟩
theorem a9R.at{h h':Heap}(x:a9R h d es ep)(e:∀o,h.get? d=some o->h'.get? d=some o):a9R h' d es ep:=let ⟨o,ho,r⟩:=x;⟨o,e _ ho,r⟩
end
end PU
namespace TS
open PySem PySem.Spec PyProof.Rows L2 PU
section
variable {prog:AN}{w:AI}{A:AR}{E:AA->AC->Prop}{s:AC}
variable {κ:SortKind}{S:Keyed->Prop}{R:Keyed->Keyed->Bool}
end
end TS
namespace PU
open PySem PySem.Spec PyProof.Rows L2 PySem.W
section
variable {prog:AN}{w:AI}{A:AR}{E:AA->AC->Prop}{s:AC}
end
section
variable {X:Cx}
end
open PySem PySem.Spec PyProof.Rows L2
section
variable {X:Cx}{pins:List (AB×Obj)}{σ:L2.St}{H:Hp}{s:AC}{a b:AB}{kvs:List (List g0×V)}{k:List g0}{v:V}{r:AA}{A:AR}{E:AA->AC->Prop}
theorem b7l{Q:Unit->AC->Prop}(hu:A.units+1<cLine)(I:g9 X pins σ H s)(e:H a=some (.dT kvs))(eb:H b=some (.tup (k.map kV)))(l:kvs.length<AL)(rv:m3 v r)(h:∀s',g9 X pins σ (upd H a (.dT (a1c kvs k v))) s'->Q () s'):
 AG (model X.prog X.w) A (dictSet a (.ref b) r) Q E s:=by
 obtain⟨z,hd,xs,rel,dd⟩:=b8L I.hok e
 have hz:xs.length<=AL:=by rw [<-Paired.length rel];exact z
 have hl:(a1c kvs k v).length<=AL:=by have:=a16 kvs k v;lia
 refine wpAny_dictSet_heap (hsz:=hz) (show(tupleKind (l7 X.prog X.w)).room A from(by first|exact hu|exact Nat.lt_of_succ_lt hu)) (a4v I.hok eb) dd fun h' dd' hs=>h _ ?_
 obtain⟨q,es,ep,hq,h2,h3,h4,_,h5⟩:=dd'
 refine a85 I (by rw [e];exact True.intro) hs ⟨q,hq⟩ ⟨hl,hd,_,(rel.put k eb rv).keeps fun c ys ec=>(by rw [d8 (E8 ec e (fun z=>nomatch z))];exact ec),q,es,ep,hq,h2,h3,h4,h5⟩
end
section
variable {X:Cx}
end
mutual
def nl:PV->Bool
 | .list _=>false
 | .tuple ps=>nlL ps
 | .dict ((.tuple _,_)::_)=>false
 |_=>true
def nlL:List PV->Bool
 |[]=>true
 |p::ps=>nl p && nlL ps
end
def drp(F:Hp)(a:AB):Hp:=fun b=>if b=a then none else F b
theorem K5{F:Hp}{a b:AB}(h:b≠a):drp F a b=F b:=by unfold drp;rw [if_neg h]
theorem a0B{F:Hp}{a:AB}:drp F a a=none:=by unfold drp;rw [if_pos rfl]
section
variable {K:AD}{F:Hp}{a:AB}{xs:List V}
theorem a0A{b:AB}(h:F b=none):drp F a b=none:=by
 unfold drp
 split
 ·rfl
 ·exact h
end
section
variable {X:Cx}
end
section
variable {X:Cx}
end
section
variable {X:Cx}
end
section
variable {X:Cx}{tg:AF}
end
section
variable {prog:AN}{w:AI}{A:AR}{E:AA->AC->Prop}{s:AC}
end
theorem b8r{K:AD}{H:Hp}{a D:AB}{xs:List V}{kvs kvs':List (List g0×V)}(e:H D=some (.dT kvs))(h:Z1 K H a xs):Z1 K (upd H D (.dT kvs')) a xs:=by
 rcases h with(h|⟨o,h⟩)|h
 ·exact .inl (.inl (by rw [d8 (E8 h e (fun z=>nomatch z))];exact h))
 ·exact .inl (.inr ⟨o,by rw [d8 (E8 h e (fun z=>nomatch z))];exact h⟩)
 ·exact .inr h
def b83(K:AD)(H:Hp)(p:List g0×V)(x:V):Prop:=∃a b,x= .ref a/\Z1 K H a [.ref b,p.2]/\H b=some (.tup (p.1.map kV))
theorem b83.upd{K:AD}{H:Hp}{D:AB}{kvs kvs':List (List g0×V)}(e:H D=some (.dT kvs)){p:List g0×V}{x:V}(h:b83 K H p x):b83 K (upd H D (.dT kvs')) p x:=
 let ⟨a,b,h1,h2,h3⟩:=h
 ⟨a,b,h1,b8r e h2,by rw [d8 (E8 h3 e (fun z=>nomatch z))];exact h3⟩
section
variable {X:Cx}{pins:List (AB×Obj)}{σ:L2.St}{A:AR}{R:Result->AC->Prop}
end
section
variable {X:Cx}
end
section
variable {X:Cx}
end
section
variable {X:Cx}
end
open Builtin Builtin.Str
section
variable {prog:AN}{w:AI}{A:AR}{E:AA->AC->Prop}{s:AC}{x y:Str}{t u:Tok}{Q:AA->AC->Prop}
end
section
variable {X:Cx}
end
structure Chg(fs ex:List AB)(h h':Heap):Prop where
 keep:∀b o,h.get? b=some o->b∉fs->b∉ex->h'.get? b=some o
 slot:∀b o,h.get? b=some o->b∈fs->b∉ex->∃sl,h'.get? b=some {o with slots:=sl}
 size:h.objs.size<=h'.objs.size
section
variable {M:Model}{A:AR}{E:AA->AC->Prop}{s:AC}{base:Heap}{env:Env}{outer:List Env}{L e C:AB}
theorem Chg.trans{fs ex ex':List AB}{h h1 h2:Heap}(x:Chg fs ex h h1)(y:Chg fs ex' h1 h2):Chg fs (ex++ex') h h2 where
 keep:=fun b o e hf hx=>y.keep b o (x.keep b o e hf fun z=>hx (Ay _ z)) hf fun z=>hx (Az _ z)
 slot:=fun b o e hf hx=>by
  obtain⟨sl,e1⟩:=x.slot b o e hf fun z=>hx (Ay _ z)
  obtain⟨sl2,e2⟩:=y.slot b {o with slots:=sl} e1 hf fun z=>hx (Az _ z)
  exact⟨sl2,e2⟩
 size:=Nat.le_trans x.size y.size
theorem Chg.more{fs fs' ex ex':List AB}{h h':Heap}(x:Chg fs ex h h')(hf:∀b∈fs,b∈fs')(he:∀b∈ex,b∈ex'):Chg fs' ex' h h' where
 keep:=fun b o e h1 h2=>x.keep b o e (fun z=>h1 (hf b z)) fun z=>h2 (he b z)
 slot:=fun b o e h1 h2=>by
  by_cases hb:b∈fs
  ·exact x.slot b o e hb fun z=>h2 (he b z)
  ·exact⟨o.slots,x.keep b o e hb fun z=>h2 (he b z)⟩
 size:=x.size
theorem Chg.funs{fs ex:List AB}{h h':Heap}{l:List Env}(x:Chg fs ex h h')(hl:h.FunFrames base l)(hx:∀b∈ex,∀o,h.get? b=some o->∃vs,o.data= .fields vs):h'.FunFrames base l:=
 hl.of_keeps fun b o hb hnf=>by
  have hbx:b∉ex:=fun z=>by
   obtain⟨vs,hd⟩:=hx b z o hb
   exact hnf vs hd
  by_cases hbf:b∈fs
  ·obtain⟨sl,e⟩:=x.slot b o hb hbf hbx
   exact⟨_,e,rfl⟩
  ·exact⟨o,x.keep b o hb hbf hbx,rfl⟩
end
section
variable {P:AN}{w:AI}{K:AD}{mg:Str->Option AA}{base:Heap}{N:List Str}{qual:Str}{scope:Scope}{f:AB}{cd:AA}{A:AR}{outer:List Env}{s:AC}{H:Hp}{E:XK}
end
section
variable {X:Cx}{x:Str}{C:AB}{np cpos pos:Pos}{e₀:AF}{B7:List AF}{t:TA}{W:AB->Hp->Prop}
end
theorem Chg.any{fs ex:List AB}{h h':Heap}(c:Chg fs ex h h'){b:AB}{o:Obj}(e:h.get? b=some o)(hb:b∉ex):∃sl,h'.get? b=some {o with slots:=sl}:=by
 by_cases hf:b∈fs
 ·exact c.slot b o e hf hb
 ·exact⟨o.slots,c.keep b o e hf hb⟩
section
variable {X:Cx}{pins:List (AB×Obj)}{σ:L2.St}{H:Hp}{s:AC}
end
inductive FX where
 |fl (f:Fl)|rz (c:Str) (ρ:c7)
def b81(K:AD)(mg:Str->Option AA)(E:L2.St->XK)(F0 H0 F:Hp)(σ0:L2.St)(D:W2):FX->Prop
 | .fl f=>Fin K F0 H0 F D f
 | .rz c ρ=>∃C,mg c=some (.ref C)/\∀σ a F' H',j8 F F'->Y9 K F0 H0 F' H' σ ρ->H' a=none->E σ (.ref a) (some C) H'
theorem b81.later{K:AD}{mg:Str->Option AA}{E:L2.St->XK}{F0 H0 F F1:Hp}{σ0 σ1:L2.St}{D:W2}(s:j8 F F1):∀{fx:FX},b81 K mg E F0 H0 F σ0 D fx->b81 K mg E F0 H0 F1 σ1 D fx
 | .fl _,h=>Fin.later s h
 | .rz _ _,⟨C,h1,h2⟩=>⟨C,h1,fun σ a F' H' s' so hn=>h2 σ a F' H' (s.trans s') so hn⟩
section
variable {X:Cx}{E:L2.St->XK}
end
section
variable {X:Cx}{E:L2.St->XK}{CX:CXT}
end
def a9q(g:List PV->Option (d7 ⊕ Str))(ps:List PV):Option d7:=(g ps).bind fun r=>match r with
 | .inl r=>some r
 | .inr _=>none
section
variable {X:Cx}
end
section
variable {X:Cx}
theorem apart{pins:List (AB×Obj)}{σ:L2.St}{H:Hp}{s:AC}{b:AB}(I:g9 X pins σ H s)(hx0:X.ex=[])(h:s.heap.get? b=none):X.s₀.heap.get? b=none/\b≠X.env.locals/\(∀x z,X.env.cells.lookup x=some z->z≠b)/\∀p∈X.pn++pins,p.1≠b:=by
 refine⟨?_,fun e=> ?_,fun x z hz e=> ?_,fun p hp e=> ?_⟩
 ·cases h0:X.s₀.heap.get? b with
  |none=>rfl
  |some o=>
   obtain⟨o',e⟩:=I.base.there b o h0 (fun z=>by rw [hx0] at z;cases z)
   rw [h] at e;cases e
 ·obtain⟨m,⟨o,_,_,ho,_⟩,_⟩:=I.loc
  rw [<-e,h] at ho;cases ho
 ·obtain⟨v,o,ho,_⟩:=I.cell x z hz
  rw [e,h] at ho;cases ho
 ·have:=(I.pin p hp).1
  rw [e,h] at this;cases this
end
section
variable {X:Cx}
end
section
variable {X:Cx}
end
section
variable {X:Cx}{pins:List (AB×Obj)}{σ:L2.St}{H:Hp}{s:AC}
end
def W2.drop(D:W2)(i:Nat):W2:=⟨fun σ H=>D.nx (σ.set i none) H,D.rt,fun σ H=>D.bk (σ.set i none) H,fun σ H=>D.ct (σ.set i none) H⟩
section
variable {X:Cx}
end
def b9s(i:Nat):Fl->Fl
 | .nx ρ=> .nx (ρ.set i none)
 | .rt r=> .rt r
 | .bk ρ=> .bk (ρ.set i none)
 | .ct ρ=> .ct (ρ.set i none)
theorem B3{α:Type}{l:List (Option α)}{i j:Nat}{r:α}(h:(l.set i none)[j]?=some (some r)):i≠j/\l[j]?=some (some r):=by
 rw [List.getElem?_set] at h
 by_cases hij:i=j
 ·rw [if_pos hij] at h
  split at h
  ·cases h
  ·cases h
 ·rw [if_neg hij] at h;exact⟨hij,h⟩
theorem Y9.drop{K:AD}{F0 H0 F H:Hp}{σ:L2.St}{ρ:c7}(s:Y9 K F0 H0 F H σ ρ)(i:Nat):Y9 K F0 H0 F H (σ.set i none) (ρ.set i none):=by
 refine⟨s.x,⟨s.e.fh,by simp [s.e.len],fun j q e=> ?_,fun j ps e=> ?_,fun j k ps qs a hjk e1 e2 e3 e4=> ?_⟩,fun j ps a e1 e2=> ?_⟩
 ·obtain⟨n,e⟩:=B3 e
  rw [List.getElem?_set_ne n]
  exact s.e.at_ j q e
 ·exact s.e.nb j ps (B3 e).2
 ·exact s.e.ap j k ps qs a hjk (B3 e1).2 (B3 e2).2 (B3 e3).2 (B3 e4).2
 ·exact s.nw j ps a (B3 e1).2 (B3 e2).2
theorem Fin.drop{K:AD}{F0 H0 F:Hp}{D:W2}{i:Nat}:∀{fl:Fl},Fin K F0 H0 F D (b9s i fl)->Fin K F0 H0 F (W2.drop D i) fl
 | .nx _,h=>fun σ' F' H' s' so=>h _ F' H' s' (so.drop i)
 | .rt _,h=>h
 | .bk _,h=>fun σ' F' H' s' so=>h _ F' H' s' (so.drop i)
 | .ct _,h=>fun σ' F' H' s' so=>h _ F' H' s' (so.drop i)
section
variable {X:Cx}
end
section
variable {X:Cx}
end
section
variable {X:Cx}
end
section
variable {X:Cx}
end
def U7:d7->d7->Option d7
 | .val (.int i),.val (.int j)=>if 0<j/\j<1073741824 then some (.val (.tuple [.int (i / j),.int (i % j)])) else none
 |_,_=>none
section
variable {X:Cx}
theorem a8i:A6 X (.builtin "divmod") (rC2 X.K U7):=by
 intro pins s σ H xs us Q I rv h
 obtain⟨F,x,y,rx,ry,rz,rfl,s0,h1,h2,h3,k⟩:=h
 unfold U7 at h3
 split at h3
 ·rename_i i j
  split at h3
  ·rename_i c
   cases h3;cases h1;cases h2
   obtain⟨u1,u2,rfl,r1,r2⟩:∃u1 u2,us=[u1,u2]/\m3 (.int i) u1/\m3 (.int j) u2:=by
    cases rv with
    |cons p q=>
     cases q with
     |cons p' q'=>
      cases q'
      exact⟨_,_,rfl,p,p'⟩
   obtain⟨t1,rfl⟩:=r1
   obtain⟨t2,rfl⟩:=r2
   refine PyProof.Rows.divmod_int (by lia) ?_ (.inl (PyProof.noPylong_small (by lia)))
   refine⟨.ref s.heap.objs.size,_,I.laid (o:= .tup [.int (i / j),.int (i % j)]) (fun b ob q=>AY _ q) (AM _) ?_,rfl,k _ _ _ (u6.tup s0 (I.hok.fresh (AM _)) ⟨_,_,rfl,rfl,_,_,rfl,rfl,rfl⟩)⟩
   refine⟨by rw [sizeLine_eq];simp,_, ?_,IsTup.new _ _⟩
   have e1:i.fdiv j=i / j:=Int.fdiv_eq_ediv_of_nonneg _ (by lia)
   have e2:i.fmod j=i % j:=Int.fmod_eq_emod_of_nonneg _ (by lia)
   rw [e1,e2]
   exact .cons ⟨_,rfl⟩ (.cons ⟨_,rfl⟩ .nil)
  ·cases h3
 ·cases h3
end
section
variable {X:Cx}
end
structure FnV(K:AD)(mg:Str->Option AA)(x:Str)(f:AB):Prop where
 mg:mg x=some (.ref f)
 at_:a7U K x (.ref f)
 one:∀a,a7U K x (.ref a)->a=f
def b6b(K:AD)(x:Str)(f:AB):Bool:=K.all fun p=>match p.2.data with
 | .func fd=> !(fd.name==x)||p.1==f
 |_=>true
theorem b5L{K:AD}{a:AB}{o:Obj}:K.lookup a=some o->(a,o)∈K:=by
 induction K with
 |nil=>intro h;cases h
 |cons p r ih=>
  intro h
  obtain⟨b,u⟩:=p
  rw [List.lookup_cons] at h
  split at h
  ·rename_i z
   cases h
   rw [beq_iff_eq.mp z]
   exact AX
  ·exact Ac _ (ih h)
theorem b9t{K:AD}{mg:Str->Option AA}{x:Str}{f:AB}{oc:AA}{od:Option AB}{fd:FuncData}{sl:Array (Option AA)}(hm:mg x=some (.ref f))(l:K.lookup f=some ⟨oc,od,.func fd,sl⟩)(hn:fd.name=x)(q:b6b K x f=true):FnV K mg x f:=by
 refine⟨hm,⟨f,oc,od,fd,sl,rfl,l,hn⟩,fun a h=> ?_⟩
 obtain⟨b,oc',od',fd',sl',e,l',hn'⟩:=h
 cases e
 have:=List.all_eq_true.mp q _ (b5L l')
 simp only [hn',beq_self_eq_true,Bool.not_true,Bool.false_or] at this
 exact beq_iff_eq.mp this
abbrev G0(x:Str):PV:= .dict [(.str x,.none)]
section
variable {X:Cx}
theorem c0Z{x:Str}{f:AB}{pos:Pos}(v:FnV X.K X.mg x f)(hg:Gl X x:=by rfl)(hd:(x==("__debug__":Str))=false:=by decide):EE X (.Name x pos) (mC (G0 x)):=
 a1P (v:= .ref f) (b74 hg v.mg rfl hd) fun H=>Or.inr (Or.inr ⟨x,_,rfl,.inl ⟨rfl,v.at_⟩⟩)
def b10(X:Cx)(n k':Nat)(tab:List (Str×(List PV->Option d7))):Prop:=∀x g,tab.lookup x=some g->∃f fd ps k,a0l X.prog X.w X.K X.mg X.base CX0 k f fd ps (spP X.K ps.length g)/\k<=k'/\PySem.W.keepIn X.K (.ref f)=true/\a4Z X.K fd ps []/\ps.length=n/\∀a,a7U X.K x (.ref a)->a=f
theorem b3q{n k':Nat}:b10 X n k' []:=fun _ _ h=>nomatch h
theorem b1k{n k k':Nat}{x:Str}{f:AB}{ps:List Str}{g:List PV->Option d7}{t:List (Str×(List PV->Option d7))}(d:t4 X.prog X.w X.K X.mg X.base x ps k g)(v:FnV X.K X.mg x f)(hk:k<=k')(hn:ps.length=n)(h:b10 X n k' t):b10 X n k' ((x,g)::t):=fun y g' q=>by
 rw [List.lookup_cons] at q
 split at q
 ·rename_i z
  cases q
  obtain⟨f',fd,G,h1,h2,h3⟩:=d
  have e:=v.mg.symm.trans h1
  cases e
  refine⟨f,fd,ps,k,G,hk,h2,h3,hn, ?_⟩
  rw [beq_iff_eq.mp z]
  exact v.one
 ·exact h y g' q
def a4z(tab:List (Str×(List PV->Option d7)))(i:Nat)(m:MA):M:=fun ρ=>match ρ[i]? with
 |some (some (.val (.dict [(.str x,.none)])))=>(tab.lookup x).bind fun g=>(m ρ).bind g
 |_=>none
theorem b4W(i:Nat){n k':Nat}{y:Str}{p pos:Pos}{tab:List (Str×(List PV->Option d7))}{e:AF}{es:List AF}{m:MA}(T:b10 X n k' tab)(hr:P4 k' X.A)(hv:PE X (.Name y p) (C7 i))(hn:∀ρ qs,m ρ=some qs->qs.length=n)(ha:EA X (e::es) m)
 (he:AT (e::es) X.env=(false,eval e X.env)::AT es X.env:=by rfl) (hpl:(backTo pos (AT es X.env)).any (·.1)=false:=by rfl):
 EE X (.Call (.Name y p) (e::es) [] pos) (a4z tab i m):=by
 intro pins s σ H Q I ⟨F,ρ,r,env,hm,k⟩
 unfold a4z at hm
 split at hm
 ·rename_i x hρ
  cases hl:tab.lookup x with
  |none=>rw [hl] at hm;cases hm
  |some g=>
   rw [hl,AH] at hm
   obtain⟨f,fd,ps,kk,G,hk,h2,h3,h4,one⟩:=T x g hl
   obtain⟨v,hσ,hrep⟩:=env.at_ i _ hρ
   have hvf:v= .ref f:=by
    rcases hrep with⟨_,_,_,_,kk1,w1,t1,_,zz,_⟩|⟨_,_,_,_,kk1,w1,t1,_,zz,_⟩|⟨z,t,e,hz⟩
    ·cases zz
    ·cases zz
    ·cases e
     rcases hz with⟨_,hz⟩|⟨e,_⟩
     ·obtain⟨a,_,_,_,_,ea,_⟩:=id hz
      subst ea
      rw [one a hz]
     ·cases e
   subst hvf
   refine wpAny_Call_Name_kw (F8 (hv pins s σ H (fun v H1=>v= .ref f/\H1=H) I ⟨.ref f,hσ,rfl,rfl⟩) fun u s1 ⟨v,H1,I1,rv,hv1,hH⟩=> ?_)
   subst hv1 hH
   cases(show u=Value.ref f from rv)
   obtain⟨qs,e1,e2⟩:=bind_some hm
   refine PySem.W.callWith_K (h₀:=X.base) I1.ok.mod.kin h2 (F8 (ha pos pins s1 σ H1 (fun vs H2=>∃F2,U4 F H1 F2 H2/\j0 X.K F2 qs vs) I1 ⟨F,ρ,qs,env,e1,fun vs F2 H2 x rl=>⟨F2,x,rl⟩⟩) fun us s2 ⟨vs,H2,I2,rr,F2,x2,rl⟩=>⟨I2.kIn, ?_⟩) he hpl
   refine b6E (dvs:=[]) (ds:=[]) (sp:=spP X.K ps.length g) (E:=E0) G (hr.mono hk) h3 .nil b2D I2 rr ?_
   show spP X.K ps.length g (vs++[]) H2 Q E0
   rw [Aq]
   exact⟨F2,qs,r,x2.fh,rl,(hn _ _ e1).trans h4.symm,e2,fun v F3 H3 o=>k v F3 H3 (u6.trans x2 o)⟩
 ·cases hm
end
section
variable {X:Cx}
end
def b8V(n:Nat):g0->Bool
 | .inr s=>s.length==n
 |_=>false
def b6Q(n:Nat):AA->Bool
 | .str s _=>s.length==n
 |_=>false
def b1v(k:List g0):Bool:=((k.length==2||k.length==3)&& k.any Sum.isLeft)||((k.length==1||k.length==2||k.length==3)&& k.all (b8V k.length))
def a8T(o:Obj):Bool:=match o with
 |⟨.type "tuple",_,.seq its _,_⟩=>((its.size==2||its.size==3)&& its.toList.any b5q)||((its.size==1||its.size==2||its.size==3)&& its.toList.all (b6Q its.size))
 |_=>false
def a5e(K:AD):Bool:=K.all fun p=> !a8T p.2
theorem b11{n:Nat}:∀{k:List g0} {us:List AA},j9 (k.map kV) us->k.all (b8V n)=true->us.all (b6Q n)=true
 |[],_,r,_=>by
  rw [Ae] at r
  cases r;rfl
 |k::ks,_,r,h=>by
  rw [AK] at r
  cases r with
  |cons r1 r2=>
   rw [List.all_cons,Bool.and_eq_true] at h ⊢
   refine⟨?_,b11 r2 h.2⟩
   cases k with
   |inl i=>cases h.1
   |inr x=>obtain⟨t,rfl⟩:=(show ∃t,_=Value.str x t from r1);exact h.1
theorem b3T{K:AD}(nk:a5e K=true){a:AB}{o:Obj}{its:Array AA}{n:Nat}{k:List g0}(e:K.lookup a=some o)(hc:o.cls= .type "tuple")(hd:o.data= .seq its n)(r:j9 (k.map kV) its.toList)(hk:b1v k=true):False:=by
 obtain⟨b,hb⟩:=a6I e
 have h:=List.all_eq_true.mp nk _ hb
 obtain⟨cls,d,data,sl⟩:=o
 simp only at hc hd
 subst hc hd
 unfold b1v at hk
 have h2:=r.length
 have h2:k.length=its.size:=by simpa using h2
 have h3:a8T ⟨.type "tuple",d,.seq its n,sl⟩=true:=by
  show(((its.size==2||its.size==3)&& its.toList.any b5q)||((its.size==1||its.size==2||its.size==3)&& its.toList.all (b6Q its.size)))=true
  rw [Bool.or_eq_true,Bool.and_eq_true,Bool.and_eq_true] at hk ⊢
  rcases hk with hk|hk
  ·exact .inl ⟨by rw [<-h2];exact hk.1,b12 r hk.2⟩
  ·exact .inr ⟨by rw [<-h2];exact hk.1,b11 r (by rw [<-h2];exact hk.2)⟩
 rw [h3] at h
 cases h
def a3J(r:d7):Option (List g0):=match r with
 | .val (.tuple ps)=>(keysOf ps).bind fun k=>if b1v k=true then some k else none
 |_=>none
theorem a4u{K:AD}{F H:Hp}{r:d7}{k:List g0}{v:V}(nk:a5e K=true)(e:a3J r=some k)(h:M1 K F H v r):∃b,v= .ref b/\F b=some (.tup (k.map kV)):=by
 unfold a3J at e
 split at e
 ·obtain⟨k',e1,e⟩:=bind_some e
  split at e
  ·rename_i hk
   cases e
   obtain⟨b,xs,rfl,hq,rl⟩:=h
   have ex:=X5 e1 rl
   subst ex
   rcases hq with hq|⟨o,its,n,h1,h2,h3,h4,h5⟩
   ·exact⟨b,rfl,hq⟩
   ·exact(b3T nk h1 h2 h3 h5 hk).elim
  ·cases e
 ·cases e
section
variable {X:Cx}
def a0g(i:Nat)(mk mv:M):MS:=fun ρ=>((mv ρ).bind d7.toVal).bind fun p=>((mk ρ).bind a3J).bind (b0c i ρ p)
theorem V6(i:Nat){x:Str}{p tp2 pos:Pos}{ek e:AF}{mk mv:M}(hu:X.A.units+64<cLine)(nk:a5e X.K=true)(hx:PE X (.Name x p) (C7 i))(hi:EE X ek mk)(he:EE X e mv)
 (hs:swapsWith e (some (.Subscript (.Name x p) ek tp2)) pos.line X.env=pure false:=by rfl):ES X (.Assign [.Subscript (.Name x p) ek tp2] e pos) (a0g i mk mv):=
 K7 (b2G (by lia) hx hi he hs) fun D σ H ⟨F0,H0,F,ρ,fl,so,e,fin⟩=>by
  obtain⟨q,e1,e⟩:=bind_some e
  obtain⟨r,e2,e3⟩:=bind_some e1
  obtain⟨k,e4,e⟩:=bind_some e
  obtain⟨rk,e4,e5⟩:=bind_some e4
  refine⟨F,ρ,r,so.e,e2,fun v F1 H1 o=> ?_⟩
  obtain⟨F2,o2⟩:=o.toVal e3
  have so2:=so.ext o2.x
  unfold b0c at e
  split at e
  ·rename_i kvs eo
   split at e
   ·rename_i hl
    cases e
    obtain⟨w,hw1,a,xs,rfl,fa,ha',rl⟩:=so2.e.at_ i _ eo
    refine⟨.ref a,hw1,F2,ρ,rk,so2.e,e4,fun y F3 H3 o3=> ?_⟩
    obtain⟨b,rfl,hb⟩:=a4u nk e5 o3.rep
    have ha3:=o3.x.h _ _ ha'
    have so3:=so2.ext o3.x
    refine⟨a,_,rfl,a9N.t (k:=k) ha3 (o3.x.fh _ _ hb) (by rw [rl.length];exact hl), ?_⟩
    exact fin σ _ _ (o2.x.f.trans o3.x.f) (so3.putD eo hw1 ((u8.mono o3.x.f _ rl).put (x4.mono o3.x.f _ o2.rep)))
   ·cases e
  ·cases e
def a6L(neg:Bool)(i:Nat)(mk:M):M:=fun ρ=>((mk ρ).bind a3J).bind (b3k neg i ρ)
theorem b4P{i:Nat}{mk:M}{neg:Bool}{σ:L2.St}{H:Hp}{Q:VK}(nk:a5e X.K=true)(h:tM X.K (a6L neg i mk) σ H Q):
 tM X.K mk σ H fun y H1=>C7 i σ H1 fun x H2=>∃a o,x= .ref a/\a1x H2 a y o/\Q (.bl (if neg then !o.isSome else o.isSome)) H2:=by
 obtain⟨F,ρ,r,en,e,k⟩:=h
 obtain⟨kk,e4,e⟩:=bind_some e
 obtain⟨rk,e4,e5⟩:=bind_some e4
 unfold b3k at e
 split at e
 ·rename_i kvs eo
  cases e
  refine⟨F,ρ,rk,en,e4,fun y F3 H3 o3=> ?_⟩
  obtain⟨b,rfl,hb⟩:=a4u nk e5 o3.rep
  obtain⟨w,hw1,a,xs,rfl,fa,ha',rl⟩:=(en.ext o3.x).at_ i _ eo
  refine⟨.ref a,hw1,a,Q1 xs kk,rfl,a1x.t ha' (o3.x.fh _ _ hb), ?_⟩
  rw [rl.isSome]
  exact k _ _ _ (u6.val o3.x rfl)
 ·cases e
theorem a05(i:Nat){x:Str}{p pos:Pos}{ek:AF}{mk:M}(hu:X.A.units+64<cLine)(nk:a5e X.K=true)(hx:PE X (.Name x p) (C7 i))(hi:EE X ek mk)(hm:behindInMarks .NotIn (.Name x p)=false):ET X (.Compare ek [.NotIn] [.Name x p] pos) (mtB (a6L true i mk)):=
 a9F (c0f (b32 (by lia) hi hx) hm) fun σ H Q h=>c1v (fun _ _ _ h=>b4P nk h) h
end
def b1C(mk mv:M):M:=fun ρ=>((mk ρ).bind a3J).bind fun k=>((mv ρ).bind d7.toVal).bind fun p=>some (.dct [(k,p)])
section
variable {X:Cx}
theorem b42{ek ev:AF}{mk mv:M}{pos:Pos}(hu:X.A.units+64<cLine)(nk:a5e X.K=true)(hk:EE X ek mk)(hv:EE X ev mv):EE X (.Dict [some ek] [ev] pos) (b1C mk mv):=by
 intro pins s σ H Q I h
 obtain⟨F,ρ,r,en,e,kq⟩:=h
 obtain⟨k,e1,e⟩:=bind_some e
 obtain⟨rk,e2,e3⟩:=bind_some e1
 obtain⟨p,e4,e⟩:=bind_some e
 obtain⟨rv,e5,e6⟩:=bind_some e4
 cases e
 have hn:=I.hok.fresh (AM s.heap.objs.size)
 have I1:=I.laid (a:=s.heap.objs.size) (o:= .dT []) (h':=s.heap.push {cls:= .type "dict",data:= .dict #[]}) (t':=s.toks) (fun _ _ q=>AY _ q) (AM _) (b0e s.heap I.big)
 have x0:U4 F H F (upd H s.heap.objs.size (.dT [])):=U4.layH en.fh hn
 refine wpAny_Dict_any rfl rfl (by simp) (by show 1<=15;decide) (F8 (b6s hk hv b8a pins _ σ _ (fun ps H2=>∃y b F2,ps=[(V.ref b,y)]/\F2 b=some (.tup (k.map kV))/\U4 F (upd H s.heap.objs.size (.dT [])) F2 H2/\x4 X.K F2 p y) I1 ?_) fun vs s2 hq=> ?_)
 ·refine⟨F,ρ,rk,en.ext x0,e2,fun x F1 H1 o1=>⟨F1,ρ,rv,(en.ext x0).ext o1.x,e5,fun y F2 H2 o2=> ?_⟩⟩
  obtain⟨b,rfl,hb⟩:=a4u nk e3 o1.rep
  obtain⟨F3,o3⟩:=o2.toVal e6
  exact⟨y,b,F3,rfl,o3.x.f _ _ hb,(o1.x).trans o3.x,o3.rep⟩
 ·obtain⟨ps,H2,I2,rel,y,b,F2,hps,hb,x2,rp⟩:=hq
  subst hps
  cases rel with
  | @cons pq uv _ _ r1 r2=>
    cases r2
    obtain⟨u,w⟩:=uv
    obtain⟨ru,rw'⟩:=r1
    cases(show u=Value.ref b from ru)
    have hp2:H2 s.heap.objs.size=some (.dT []):=x2.h _ _ g5
    have fp:F2 s.heap.objs.size=none:=x2.nw _ _ (en.fh.free hn) g5 (fun _ h=>nomatch h)
    unfold storeAll
    rw [List.forIn_cons]
    refine AE (AE (b7l (by lia) I2 hp2 (x2.fh _ _ hb) (by rw [sizeLine_eq];decide) rw' fun s3 I3=>AJ ?_))
    dsimp only
    rw [List.forIn_nil]
    refine AJ ⟨.ref s.heap.objs.size,_,I3,rfl,kq _ F2 _ ⟨⟨x2.f,fun c o z=> ?_,fun c o z=> ?_,fun c o z y' t=> ?_,x2.nf⟩,⟨_,_,rfl,fp,g5,y,[],rfl,rp,rfl⟩,fun _ _ _ e=>by cases e;exact hn⟩⟩
    ·rw [d8 (j7 z hn)];exact x2.h _ _ (by rw [d8 (j7 z hn)];exact z)
    ·rw [d8 (j7 z fp)];exact x2.fh _ _ z
    ·exact x2.nw c o z (by rw [d8 (j7 y' hn)];exact y') t
end
theorem N3(i:Nat)(mk mv:M)(ρ:c7):a0g i mk mv ρ=((mv ρ).bind d7.toVal).bind fun p=>((mk ρ).bind a3J).bind (b0c i ρ p):=Eq.trans rfl rfl
theorem N2(neg:Bool)(i:Nat)(mk:M)(ρ:c7):a6L neg i mk ρ=((mk ρ).bind a3J).bind (b3k neg i ρ):=Eq.trans rfl rfl
theorem b1D(mk mv:M)(ρ:c7):b1C mk mv ρ=((mk ρ).bind a3J).bind fun k=>((mv ρ).bind d7.toVal).bind fun p=>some (.dct [(k,p)]):=Eq.trans rfl rfl
theorem L8(i j:Int):a3J (.val (.tuple [.int i,.int j]))=some [.inl i,.inl j]:=Eq.trans rfl rfl
section
variable {X:Cx}
def b80(Φ:L2.St->Hp->Prop)(K:AD)(F0 H0 F:Hp)(D:W2):Fl->Prop
 | .nx ρ=>∀σ' F' H',j8 F F'->Y9 K F0 H0 F' H' σ' ρ->Φ σ' H'->D.nx σ' H'
 | .rt r=>∀v F' H',u6 K F0 H0 F' H' v r->D.rt v H'
 | .bk ρ=>∀σ' F' H',j8 F F'->Y9 K F0 H0 F' H' σ' ρ->Φ σ' H'->D.bk σ' H'
 | .ct ρ=>∀σ' F' H',j8 F F'->Y9 K F0 H0 F' H' σ' ρ->Φ σ' H'->D.ct σ' H'
theorem b80.later{Φ:L2.St->Hp->Prop}{K:AD}{F0 H0 F F1:Hp}{D:W2}(s:j8 F F1):∀{fl:Fl},b80 Φ K F0 H0 F D fl->b80 Φ K F0 H0 F1 D fl
 | .nx _,h=>fun σ' F' H' s' so=>h σ' F' H' (s.trans s') so
 | .rt _,h=>h
 | .bk _,h=>fun σ' F' H' s' so=>h σ' F' H' (s.trans s') so
 | .ct _,h=>fun σ' F' H' s' so=>h σ' F' H' (s.trans s') so
variable {Φ:L2.St->Hp->Prop}{I:List Nat}
end
mutual
def a7L:PV->Bool
 | .none=>true
 | .bool _=>true
 | .int _=>true
 | .str _=>true
 | .tuple ps=>a2N ps
 |_=>false
def a2N:List PV->Bool
 |[]=>true
 |p::ps=>a7L p && a2N ps
end
mutual
theorem b0K{K:AD}{F G:Hp}(h:∀c ys,F c=some (.tup ys)->G c=some (.tup ys)):∀(p:PV) {v:V},a7L p=true->x4 K F p v->x4 K G p v
 | .none,_,_,r=>r
 | .bool _,_,_,r=>r
 | .int _,_,_,r=>r
 | .str _,_,_,r=>r
 | .tuple ps,_,f,⟨a,xs,e,q,r⟩=>⟨a,xs,e,q.elim (fun z=> .inl (h _ _ z)) .inr,a4N h ps (by simpa [a7L] using f) r⟩
 | .list _,_,f,_=>by simp [a7L] at f
 | .dict _,_,f,_=>by simp [a7L] at f
theorem a4N{K:AD}{F G:Hp}(h:∀c ys,F c=some (.tup ys)->G c=some (.tup ys)):∀(ps:List PV) {vs:List V},a2N ps=true->j0 K F ps vs->j0 K G ps vs
 |[],_,_,r=>r
 |p::ps,_,f,⟨v,t,e,q,r⟩=>by
  have f:a7L p=true/\a2N ps=true:=by simpa [a2N] using f
  exact⟨v,t,e,b0K h p f.1 q,a4N h ps f.2 r⟩
end
def keep(A:List Nat)(ρ:c7):c7:=ρ.zipIdx.map fun p=>if p.2∈A then p.1 else none
theorem a6C(A:List Nat)(ρ:c7):(keep A ρ).length=ρ.length:=by unfold keep;simp
theorem a9k{A:List Nat}{ρ:c7}{j:Nat}{r:d7}(h:(keep A ρ)[j]?=some (some r)):j∈A/\ρ[j]?=some (some r):=by
 unfold keep at h
 rw [Ak,List.getElem?_zipIdx] at h
 cases e:ρ[j]? with
 |none=>rw [e] at h;simp at h
 |some q=>
  rw [e] at h
  simp only [BE,Nat.zero_add,Option.some.injEq] at h
  split at h
  ·rename_i hj;exact⟨hj,by rw [h]⟩
  ·cases h
def b7U(K:AD):Bool:=K.all fun p=>match p.2.cls with
 | .type x=> !(x=="list")
 |_=>true
theorem b54{K:AD}(nk:b7U K=true){a:AB}{o:Obj}(e:K.lookup a=some o)(hc:o.cls= .type "list"):False:=by
 obtain⟨b,hb⟩:=a6I e
 have h:=List.all_eq_true.mp nk _ hb
 simp only [hc] at h
 simp at h
theorem b6g{K:AD}{F H:Hp}{v:V}:∀{c:W1},U5 K F H v c->∃a o,v= .ref a/\F a=none/\H a=some o/\NT o
 | .lst _,⟨a,_,e,n,q,_⟩=>⟨a,_,e,n,q,fun _ h=>nomatch h⟩
 | .dct _,⟨a,_,e,n,q,_⟩=>⟨a,_,e,n,q,fun _ h=>nomatch h⟩
 | .txt _,⟨a,_,e,n,q,_⟩=>⟨a,_,e,n,q,fun _ h=>nomatch h⟩
theorem b2K{K:AD}{F H F' H':Hp}{a:AB}:∀{c:W1},U5 K F H (.ref a) c->j8 F F'->F' a=none->(∀o,H a=some o->H' a=some o)->U5 K F' H' (.ref a) c
 | .lst _,⟨a',xs,e,n,q,r⟩,s,f,h=>by cases e;exact⟨_,xs,rfl,f,h _ q,j0.mono s _ r⟩
 | .dct _,⟨a',xs,e,n,q,r⟩,s,f,h=>by cases e;exact⟨_,xs,rfl,f,h _ q,u8.mono s _ r⟩
 | .txt _,⟨a',xs,e,n,q,r⟩,s,f,h=>by cases e;exact⟨_,xs,rfl,f,h _ q,u8.mono s _ r⟩
theorem a7l{ρ:c7}{i j:Nat}{r:Option d7}{q:d7}(h:(ρ.set i r)[j]?=some (some q)):(j=i/\r=some q)\/(j≠i/\ρ[j]?=some (some q)):=by
 rw [List.getElem?_set] at h
 split at h
 ·rename_i z
  split at h
  ·exact .inl ⟨z.symm,Option.some.inj h⟩
  ·cases h
 ·rename_i z;exact .inr ⟨fun y=>z y.symm,h⟩
def unE:List (PV×PV)->Option (List (List g0×PV))
 |[]=>some []
 |(.tuple ks,p)::r=>(keysOf ks).bind fun k=>(unE r).map fun t=>(k,p)::t
 |_::_=>none
theorem a0f:∀k:List g0,keysOf (k.map kP)=some k
 |[]=>rfl
 | .inl i::k=>by
   rw [AK]
   unfold keysOf
   rw [a0f k]
   rfl
 | .inr x::k=>by
   rw [AK]
   unfold keysOf
   rw [a0f k]
   rfl
theorem a5W{K:AD}{F:Hp}:∀{es:List (PV×PV)} {xs:List (List g0×V)},W3 K F es xs->∃kvs,unE es=some kvs/\u8 K F kvs xs
 |[],_,h=>by cases h;exact⟨[],rfl,rfl⟩
 |(k,p)::es,_,⟨kk,v,t,e,z,q,h⟩=>by
  subst e
  subst z
  obtain⟨kvs,h1,h2⟩:=a5W h
  refine⟨(kk,p)::kvs, ?_,v,t,rfl,q,h2⟩
  unfold unE
  rw [a0f,h1]
  rfl
abbrev dv(kvs:List (List g0×PV)):PV:= .dict ((.tuple [],.none)::kvs.map fun kv=>(PyData.tuple (kv.1.map kP),kv.2))
theorem b1Z:∀kvs:List (List g0×PV),unE (kvs.map fun kv=>(PyData.tuple (kv.1.map kP),kv.2))=some kvs
 |[]=>rfl
 |(k,p)::r=>by
  rw [AK]
  unfold unE
  rw [a0f,b1Z r]
  rfl
def dvw(i:Nat)(ρ:c7):Option (List (List g0×PV)):=match ρ[i]? with
 |some (some (.val (.dict ((.tuple [],.none)::es))))=>unE es
 |_=>none
theorem b9m{i:Nat}{ρ:c7}{kvs:List (List g0×PV)}(h:ρ[i]?=some (some (.val (dv kvs)))):dvw i ρ=some kvs:=by
 unfold dvw
 rw [h]
 exact b1Z kvs
theorem b9l{K:AD}{F H:Hp}{σ:L2.St}{ρ:c7}(en:A3 K F H σ ρ){i:Nat}{kvs:List (List g0×PV)}(h:dvw i ρ=some kvs):∃a xs,σ[i]?=some (some (.ref a))/\F a=some (.dT xs)/\u8 K F kvs xs:=by
 unfold dvw at h
 split at h
 ·rename_i es eo
  obtain⟨v,hv,hr⟩:=en.at_ i _ eo
  rcases hr with⟨a,ys,rfl,ha,kk,w,t,e,z,_,hr⟩|⟨a,xs,rfl,ha,kk,w,t,e,_,_,hr⟩|⟨x,t,e,_⟩
  ·cases ys with
   |nil=>cases e
   |cons y ys=>
    cases e
    cases z
  ·cases e
   obtain⟨kvs',h1,h2⟩:=a5W hr
   rw [h] at h1
   cases h1
   exact⟨a,_,hv,ha,h2⟩
  ·cases e
 ·cases h
section
variable {X:Cx}
def b1B(i:Nat)(mk:MA):M:=fun ρ=>(mk ρ).bind fun ks=>if ks.length<=AL then(keysOf ks).bind fun k=>(dvw i ρ).bind fun kvs=>(n6 kvs k).map .val else none
theorem b41(i:Nat){x:Str}{p tp pos:Pos}{es:List AF}{x1}{mk:MA}(hu:X.A.units+64<cLine)(hx:PE X (.Name x p) (C7 i))(hi:EA X es mk)(hs:b28 (.Tuple es x1 tp):=by intro _ _;rfl):EE X (.Subscript (.Name x p) (.Tuple es x1 tp) pos) (b1B i mk):=
 u0 (a3X (by lia) hx (b1P hi) hs) fun σ H Q ⟨F,ρ,r,en,e,k⟩=>by
  obtain⟨ks,e1,e⟩:=bind_some e
  split at e
  ·rename_i hl
   obtain⟨kk,e2,e⟩:=bind_some e
   obtain⟨kvs,e3,e⟩:=bind_some e
   cases hv:n6 kvs kk with
   |none=>rw [hv] at e;cases e
   |some q=>
    rw [hv] at e;cases e
    obtain⟨a,xs,hw1,ha',rl⟩:=b9l en e3
    obtain⟨y,hy,ry⟩:=(rl.val (k:=kk)).1 q hv
    refine⟨.ref a,hw1,F,ρ,ks,en,e1,fun vs F3 H3 x3 rl3=>⟨by rw [rl3.length];exact hl,fun b hb=> ?_⟩⟩
    have ev:=X5 e2 rl3
    have ha3:=x3.h _ _ (en.fh _ _ ha')
    have hne:a≠b:=fun h=>by subst h;rw [hb] at ha3;cases ha3
    have ha4:upd H3 b (.tup vs) a=some (.dT xs):=by rw [d8 hne];exact ha3
    have xx:=x3.trans (U4.lay (o:= .tup vs) x3.fh hb)
    exact⟨a,y,rfl,by rw [<-hy];exact a1x.t ha4 (by rw [g5,ev]),k _ _ _ (u6.val xx (x4.mono xx.f _ ry))⟩
  ·cases e
end
mutual
def nd:PV->Bool
 | .list ps=>ndL ps
 | .tuple ps=>ndL ps
 | .dict ((.tuple _,_)::_)=>false
 |_=>true
def ndL:List PV->Bool
 |[]=>true
 |p::ps=>nd p && ndL ps
end
def ndD:List (List g0×PV)->Bool
 |[]=>true
 |(_,p)::r=>nd p && ndD r
def d7.noD:d7->Bool
 | .val p=>nd p
 | .ow (.lst ps)=>ndL ps
 | .ow (.dct kvs)=>ndD kvs
 | .ow (.txt kvs)=>ndD kvs
 | .bo _=>false
section
variable {K:AD}{F:Hp}{a:AB}{xs:List (List g0×V)}
mutual
theorem a68(ha:F a=some (.dT xs)):∀(p:PV) {v:V},x4 K F p v->nd p=true->x4 K (drp F a) p v
 | .none,_,h,_=>h
 | .bool _,_,h,_=>h
 | .int _,_,h,_=>h
 | .str _,_,h,_=>h
 | .list ps,_,⟨b,ys,e,q,r⟩,n=>⟨b,ys,e,(by
  rcases q with(q|⟨o,q⟩)|q
  ·exact .inl (.inl (by rw [K5 (E8 q ha (fun z=>nomatch z))];exact q))
  ·exact .inl (.inr ⟨o,by rw [K5 (E8 q ha (fun z=>nomatch z))];exact q⟩)
  ·exact .inr q),a2w ha ps r (by simpa [nd] using n)⟩
 | .tuple ps,_,⟨b,ys,e,q,r⟩,n=>⟨b,ys,e,(by
  rcases q with q|q
  ·exact .inl (by rw [K5 (E8 q ha (fun z=>nomatch z))];exact q)
  ·exact .inr q),a2w ha ps r (by simpa [nd] using n)⟩
 | .dict kvs,_,h,n=>by
   rcases h with⟨b,ys,q,h,hr⟩|⟨b,ys,q,h,hr⟩|⟨x,t,e,h|⟨z,b,C,φ,q,h,r⟩⟩
   ·cases kvs with
    |nil=>
     have e0:ys=[]:=List.map_eq_nil_iff.mp hr
     subst e0
     exact .inl ⟨b,[],q,by rw [K5 (E8 h ha (fun z=>nomatch z))];exact h,rfl⟩
    |cons f fs=>
     exfalso
     obtain⟨k,p⟩:=f
     obtain⟨kk,w,t,e,z,_⟩:=hr
     subst z
     simp [nd] at n
   ·exfalso
    cases kvs with
    |nil=>cases hr
    |cons f fs=>
     obtain⟨k,p⟩:=f
     obtain⟨kk,w,t,e,z,_⟩:=hr
     subst z
     simp [nd] at n
   ·exact .inr (.inr ⟨x,t,e,.inl h⟩)
   ·exact .inr (.inr ⟨x,t,e,.inr ⟨z,b,C,φ,q,by rw [K5 (E8 h ha (fun z=>nomatch z))];exact h,r⟩⟩)
theorem a2w(ha:F a=some (.dT xs)):∀(ps:List PV) {vs:List V},j0 K F ps vs->ndL ps=true->j0 K (drp F a) ps vs
 |[],_,h,_=>h
 |p::ps,_,⟨v,r,e,q,t⟩,n=>by
  simp only [ndL,Bool.and_eq_true] at n
  exact⟨v,r,e,a68 ha p q n.1,a2w ha ps t n.2⟩
end
theorem a4L(ha:F a=some (.dT xs)):∀(kvs:List (List g0×PV)) {ys:List (List g0×V)},u8 K F kvs ys->ndD kvs=true->u8 K (drp F a) kvs ys
 |[],_,h,_=>h
 |(k,p)::r,_,⟨v,t,e,q,h⟩,n=>by
  simp only [ndD,Bool.and_eq_true] at n
  exact⟨v,t,e,a68 ha p q n.1,a4L ha r h n.2⟩
theorem b34{H:Hp}{v:V}(ha:F a=some (.dT xs)):∀{r:d7},M1 K F H v r->r.noD=true->M1 K (drp F a) H v r
 | .val p,h,n=>a68 ha p h n
 | .ow (.lst ps),⟨b,ys,e,f,q,r⟩,n=>⟨b,ys,e,a0A f,q,a2w ha ps r n⟩
 | .ow (.dct kvs),⟨b,ys,e,f,q,r⟩,n=>⟨b,ys,e,a0A f,q,a4L ha kvs r n⟩
 | .ow (.txt kvs),⟨b,ys,e,f,q,r⟩,n=>⟨b,ys,e,a0A f,q,a4L ha kvs r n⟩
 | .bo _,_,n=>nomatch n
end
def a5M(g:List PV->Option d7)(i:Nat)(m:M):M:=fun ρ=>((m ρ).bind d7.toVal).bind fun p=>match ρ[i]? with
 |some (some (.ow (.dct kvs)))=>(g [p,dv kvs]).bind fun r=>if r.noD=true then some r else none
 |_=>none
section
variable {X:Cx}
theorem b3F{K:AD}{F2 H1 F3 H3:Hp}{a:AB}{xs:List (List g0×V)}{u:V}{r:d7}(fa:F2 a=none)(o3:u6 K (upd F2 a (.dT xs)) H1 F3 H3 u r)(c:r.noD=true):u6 K F2 H1 (drp F3 a) H3 u r:=by
 have up:j8 F2 (upd F2 a (.dT xs)):=C5 fa
 refine⟨⟨fun b o z=> ?_,o3.x.h,fun b o z=> ?_,fun b o z y t=> ?_,fun b w u z=> ?_⟩,b34 (o3.x.f _ _ g5) o3.rep c,o3.fr⟩
 ·have hb:b≠a:=j7 z fa
  rw [K5 hb];exact o3.x.f _ _ (up _ _ z)
 ·by_cases hb:b=a
  ·subst hb;rw [a0B] at z;cases z
  ·rw [K5 hb] at z;exact o3.x.fh _ _ z
 ·by_cases hb:b=a
  ·subst hb;exact a0B
  ·rw [K5 hb];exact o3.x.nw b o (by rw [d8 hb];exact z) y t
 ·by_cases hb:b=a
  ·subst hb;rw [a0B] at z;cases z
  ·rw [K5 hb] at z
   have:=o3.x.nf _ _ _ z
   rw [d8 hb] at this;exact this
theorem b7J{F2 H1:Hp}{a:AB}{xs:List (List g0×V)}(fh:j8 F2 H1)(ha:H1 a=some (.dT xs)):j8 (upd F2 a (.dT xs)) H1:=fun b o z=>by
 by_cases hb:b=a
 ·subst hb;rw [g5] at z;cases z;exact ha
 ·rw [d8 hb] at z;exact fh _ _ z
theorem b5I{K:AD}{F2:Hp}{a:AB}{xs:List (List g0×V)}{kvs:List (List g0×PV)}(fa:F2 a=none)(rl:u8 K F2 kvs xs):x4 K (upd F2 a (.dT xs)) (dv kvs) (.ref a):=Or.inr (Or.inl ⟨a,xs,rfl,g5,[],.non,xs,rfl,rfl,rfl,W3.of (C5 fa) rl⟩)
theorem b4Z(i:Nat){k k':Nat}{pa pb:Str}{g:List PV->Option d7}{x y:Str}{p py pos:Pos}{e:AF}{m:M}
 (d:t4 X.prog X.w X.K X.mg X.base x [pa,pb] k g) (hr:P4 k' X.A) (hk:k<=k') (hg:Gl X x) (ha:EE X e m) (hy:PE X (.Name y py) (C7 i))
 (hdb:(x==("__debug__":Str))=false:=by decide) (he:AT [e,.Name y py] X.env=(false,eval e X.env)::AT [.Name y py] X.env:=by rfl) (he2:AT [.Name y py] X.env=(false,eval (.Name y py) X.env)::AT [] X.env:=by rfl)
 (hpl:(backTo pos (AT [.Name y py] X.env)).any (·.1)=false:=by rfl):
 EE X (.Call (.Name x p) [e,.Name y py] [] pos) (a5M g i m):=by
 obtain⟨f,fd,G,h1,h2,h3⟩:=d
 refine u0 (a9D G (hr.mono hk) hg h1 h2 h3 .nil b2D (x8 ha (x8 hy K6 he2) he) hdb he hpl) fun σ H Q ⟨F,ρ,r,en,hm,kq⟩=> ?_
 obtain⟨q,e1,hm⟩:=bind_some hm
 obtain⟨rq,e2,e3'⟩:=bind_some e1
 split at hm
 ·rename_i kvs eo
  obtain⟨r',e7,hm⟩:=bind_some hm
  split at hm
  ·rename_i c
   cases hm
   refine⟨F,ρ,rq,en,e2,fun v F1 H1 o1=> ?_⟩
   obtain⟨F2,o2⟩:=o1.toVal e3'
   have en2:=en.ext o2.x
   obtain⟨w,hw,a,xs,rfl,fa,ha',rl⟩:=en2.at_ i _ eo
   refine⟨.ref a,hw, ?_⟩
   show spP X.K 2 g ([v,.ref a]++[]) H1 Q E0
   rw [Aq]
   have up:j8 F2 (upd F2 a (.dT xs)):=C5 fa
   exact⟨upd F2 a (.dT xs),[q,dv kvs],_,b7J o2.x.fh ha',⟨v,[.ref a],rfl,x4.mono up _ o2.rep,.ref a,[],rfl,b5I fa rl,rfl⟩,rfl,e7,fun u F5 H5 o5=>kq u (drp F5 a) H5 (u6.trans o2.x (b3F fa o5 c))⟩
  ·cases hm
 ·cases hm
end
section
variable {prog:AN}{w:AI}{K:Type}[DecidableEq K]{kd:KeyKind prog w K}{A:AR}{E:AA->AC->Prop}{s:AC}
end
section
variable {X:Cx}{pins:List (AB×Obj)}{σ:L2.St}{H:Hp}{s:AC}{a:AB}{kvs:List (List g0×V)}{A:AR}{E:AA->AC->Prop}
end
section
variable {X:Cx}{o i:AF}{td ty:TE}
end
section
variable {X:Cx}
end
def byT(w:AI):Bool:=w.params.followText "set-order"
def E1(prog:AN)(w:AI)(h:Heap)(a:AB)(es:Array (Int×AA))(ep:Nat):Prop:=
 ∃o t,h.get? a=some o/\o.ExactSet/\o.data= .set es ep t/\ElemsOf (l7 prog w) es.toList/\es.size<scanBound/\t.fits es.size=true/\t.led= !byT w/\(es.size≠0->t.plain=false)
def sOf:AA->Str
 | .str x _=>x
 |_=>⟨#[]⟩
abbrev a6F(es:Array (Int×AA)):List Str:=es.toList.map fun e=>sOf e.2
structure TxE(es:Array (Int×AA))(zs:List Str):Prop where
 all:∀e∈es.toList,∃x t,e.2= .str x t
 nd:(a6F es).Nodup
 mem:∀x,x∈a6F es↔x∈zs
theorem E1.at'{prog:AN}{w:AI}{h h':Heap}{a:AB}{es:Array (Int×AA)}{ep:Nat}(x:E1 prog w h a es ep)(e:∀o,h.get? a=some o->h'.get? a=some o):E1 prog w h' a es ep:=
 let ⟨o,t,ho,r⟩:=x;⟨o,t,e _ ho,r⟩
theorem b1x(t:SetTable)(es:Array (Int×AA))(h:Int)(x:AA):(layNew t es h x).2.1.led=t.led:=by
 unfold layNew
 split
 ·show(SetTable.orStandIn _ _).led=t.led
  unfold SetTable.orStandIn
  split<;>rfl
 ·rfl
theorem a9G(t:SetTable)(es:Array (Int×AA))(n:Nat):(relayAll t es n).2.1.led=t.led:=by
 unfold relayAll
 split
 ·rename_i t' order e
  unfold SetTable.relaid SetTable.laid at e
  obtain⟨ow,e1,e2⟩:=bind_some e
  cases e2
  dsimp only
  split<;>rfl
 ·rfl
theorem a66(t:SetTable)(es:Array (Int×AA))(n:Nat)(hp:t.plain=false):(relayAll t es n).2.1.plain=false:=by
 unfold relayAll
 split
 ·rename_i t' order e
  unfold SetTable.relaid SetTable.laid at e
  obtain⟨ow,e1,e2⟩:=bind_some e
  cases e2
  dsimp only
  split
  ·exact hp
  ·rfl
 ·rfl
section
variable {prog:AN}{w:AI}{A:AR}{E:AA->AC->Prop}{s:AC}
theorem b2V{h:Heap}{a:AB}{o:Obj}{es:Array (Int×AA)}{ep:Nat}{t:SetTable}(ho:h.get? a=some o)(hex:o.ExactSet)(hd:o.data= .set es ep t)
 {es':Array (Int×AA)} {t':SetTable} (hel:ElemsOf (l7 prog w) es'.toList) (hb:es'.size<scanBound) (hf:t'.fits es'.size=true) (hl:t'.led= !byT w) (hp:t'.plain=false):
 (h.update a (Obj.putSet es' t')).get? a=some {o with data:= .set es' (ep+1) t'}/\E1 prog w (h.update a (Obj.putSet es' t')) a es' (ep+1):=by
 have hg:(h.update a (Obj.putSet es' t')).get? a=some {o with data:= .set es' (ep+1) t'}:=by
  have:=Heap.get?_update_self (Obj.putSet es' t') ho (by rw [putSet_of es' t' hd];rfl)
  rw [putSet_of es' t' hd] at this;exact this
 exact⟨hg,_,t',hg,hex,rfl,hel,hb,hf,hl,fun _=>hp⟩
theorem b6S{g:Bool->Sem Unit}(hg:∀(b:Bool) (s₁:AC) (Q':Unit->AC->Prop),Q' () s₁->AG (model prog w) A (g b) Q' E s₁)
 {a:AB} {o:Obj} {es:Array (Int×AA)} {ep:Nat} {t:SetTable} (ho:s.heap.get? a=some o) (hex:o.ExactSet) (hd:o.data= .set es ep t)
 {es1:Array (Int×AA)} {t2:SetTable} (hel1:ElemsOf (l7 prog w) es1.toList) (hb1:es1.size<scanBound) (hf2:t2.fits es1.size=true) (hl:t2.led= !byT w) (hpl:t2.plain=false) {wasDummy:Bool} {R:Option Bool->AC->Prop}
 (h:∀h' es' ep',Heap.SameBut a s.heap h'->es'.toList.Perm es1.toList->E1 prog w h' a es' ep'->R (some true) {s with heap:=h'}):
 AG (model prog w) A (do
  storeSet a es1 t2
  if(!wasDummy && t2.tooFull)=true then do
     g (relayAll t2 es1 (SetTable.grown es1.size)).2.2
     storeSet a (relayAll t2 es1 (SetTable.grown es1.size)).1 (relayAll t2 es1 (SetTable.grown es1.size)).2.1
     pure (some true)
   else pure (some true)) R E s:=by
 refine AE (wpAny_storeSet_of ho hd ?_ (fits_of_scanBound hb1))
 obtain⟨ho1,hS1⟩:=b2V (prog:=prog) (w:=w) ho hex hd hel1 hb1 hf2 hl hpl
 have hsb1:=Heap.SameBut.update s.heap a (Obj.putSet es1 t2)
 split
 ·have hp:=relayAll_perm t2 es1 (SetTable.grown es1.size)
  have hfr:=relayAll_fits t2 es1 (SetTable.grown es1.size)
  have hl2:=a9G t2 es1 (SetTable.grown es1.size)
  have hp2:=a66 t2 es1 (SetTable.grown es1.size) hpl
  generalize hRl:relayAll t2 es1 (SetTable.grown es1.size)=Rl at hp hfr hl2 hp2 ⊢
  obtain⟨es2,t3,gave2⟩:=Rl
  dsimp only at hp hfr hl2 hp2 ⊢
  have hel2:ElemsOf (l7 prog w) es2.toList:=hel1.perm hp
  have hsz:es2.size=es1.size:=by rw [<-Array.length_toList,hp.length_eq,Array.length_toList]
  have hb2:es2.size<scanBound:=by rw [hsz];exact hb1
  refine AE (hg _ _ _ ?_)
  refine AE (wpAny_storeSet_of ho1 rfl ?_ (fits_of_scanBound hb2))
  obtain⟨_,hS2⟩:=b2V (prog:=prog) (w:=w) ho1 hex rfl hel2 hb2 hfr (hl2.trans hl) hp2
  exact AJ (h _ _ _ (hsb1.trans (Heap.SameBut.update _ a _)) hp hS2)
 ·exact AJ (h _ _ _ hsb1 (List.Perm.refl _) hS1)
theorem TxE.perm{es es':Array (Int×AA)}{zs:List Str}(p:es'.toList.Perm es.toList)(T:TxE es zs):TxE es' zs where
 all:=fun e he=>T.all e (p.mem_iff.mp he)
 nd:=((p.map _).nodup_iff).mpr T.nd
 mem:=fun x=>((p.map _).mem_iff).trans (T.mem x)
theorem c0V{a:AB}{es:Array (Int×AA)}{ep:Nat}{zs:List Str}{x:Str}{tk:Tok}{Q:Bool->AC->Prop}(hS:E1 prog w s.heap a es ep)(T:TxE es zs)(hroom:es.size+1<scanBound)
 (h:∀h' es' ep' b,Heap.SameBut a s.heap h'->E1 prog w h' a es' ep'->TxE es' (x::zs)->es'.size<=es.size+1->Q b {s with heap:=h'}):
 AG (model prog w) A (setAddHashed a (.str x tk) ((l7 prog w).hash (.inr x))) Q E s:=by
 obtain⟨o,t,ho,hex,hd,hel,hb,hf,hl,hpl⟩:=hS
 have hsc:(Value.str x tk).scannable=true:=rfl
 have hkey:(l7 prog w).is (.inr x) (.str x tk)=true:=R8 prog w x tk
 unfold setAddHashed setAddHashedIn
 refine wpAny_holding (AE (wpAny_setState_of ho hd hf ?_))
 dsimp only
 rw [byScan_of hsc hb hel]
 simp only [↓reduceIte]
 unfold setAddByScan
 refine AE ?_
 refine AE (wpAny_rule ?_)
 refine AE (wpAny_setScan_of hkey ho hd hf hel ?_)
 cases hr:List.findIdx? (fun e=>(l7 prog w).is (.inr x) e.2) es.toList with
 |some j=>
  dsimp only
  obtain⟨hj,hpj,_⟩:=List.findIdx?_eq_some_iff_getElem.mp hr
  have hm:x∈a6F es:=by
   refine AZ.mpr ⟨es.toList[j],List.getElem_mem hj, ?_⟩
   rcases v7 (show a3I (.inr x) es.toList[j].2=true from hpj) with⟨i,u,q,_⟩|⟨y,u,q,e2⟩
   ·exact nomatch q
   ·cases q;rw [e2];rfl
  refine AJ (AJ ?_)
  have e:s={s with heap:=s.heap}:=by cases s;rfl
  rw [e]
  exact h s.heap es ep false (Heap.SameBut.refl a s.heap) ⟨o,t,ho,hex,hd,hel,hb,hf,hl,hpl⟩ ⟨T.all,T.nd,fun y=>by
   rw [T.mem y,AV]
   exact⟨.inr,fun z=>z.elim (fun z=>by rw [z];exact(T.mem x).mp hm) id⟩⟩ (Nat.le_succ _)
 |none=>
  dsimp only
  have hgw:∀(b:Bool) {s₁:AC} {Q':Unit->AC->Prop},Q' () s₁->AG (model prog w) A (match b with|true=>rule "set.scan.the-table-gave-way"|false=>pure ()) Q' E s₁:=
   fun b s₁ Q' hq=>by cases b<;>first|exact AJ hq|exact wpAny_rule hq
  have hperm:=layNew_perm t es ((l7 prog w).hash (.inr x)) (.str x tk)
  have hfits:=layNew_fits t es ((l7 prog w).hash (.inr x)) (.str x tk)
  have hled:=b1x t es ((l7 prog w).hash (.inr x)) (.str x tk)
  generalize hL:layNew t es ((l7 prog w).hash (.inr x)) (.str x tk)=L at hperm hfits hled ⊢
  obtain⟨es1,t1,wasDummy,gave⟩:=L
  dsimp only at hperm hfits hled ⊢
  rw [Array.toList_push] at hperm
  have hel1:ElemsOf (l7 prog w) es1.toList:=(hel.push hkey hsc).perm hperm
  have hb1':es1.size<scanBound:=by rw [<-Array.length_toList,hperm.length_eq,Ai,Array.length_toList];simpa using hroom
  have hn:x∉a6F es:=fun hm=>by
   obtain⟨e,he,e2⟩:=AZ.mp hm
   obtain⟨y,u,ey⟩:=T.all e he
   have:=List.findIdx?_eq_none_iff.mp hr e he
   rw [ey] at e2 this
   cases(show y=x from e2)
   rw [R8] at this
   cases this
  have T1:TxE es1 (x::zs):=by
   refine⟨fun e he=> ?_, ?_,fun y=> ?_⟩
   ·rcases Ar.mp (hperm.mem_iff.mp he) with h|h
    ·exact T.all e h
    ·rw [List.mem_singleton] at h;subst h;exact⟨x,tk,rfl⟩
   ·refine((hperm.map _).nodup_iff).mpr ?_
    rw [BC]
    refine List.nodup_append.mpr ⟨T.nd,by simp,fun y hy z hz=> ?_⟩
    simp only [AK,Ae,List.mem_singleton] at hz
    intro e
    subst e
    subst hz
    exact hn hy
   ·rw [(hperm.map _).mem_iff,BC,Ar,T.mem y,AV]
    simp only [AK,Ae,List.mem_singleton]
    exact⟨fun z=>z.elim .inr (fun z=> .inl z),fun z=>z.elim (fun z=> .inr z) .inl⟩
  have hsz1:es1.size=es.size+1:=by rw [<-Array.length_toList,hperm.length_eq,Ai,Array.length_toList];rfl
  refine AE (hgw _ ?_)
  have hend:∀h' es' ep',Heap.SameBut a s.heap h'->es'.toList.Perm es1.toList->E1 prog w h' a es' ep'->Q true {s with heap:=h'}:=fun h' es' ep' hsb p hS'=>by
   refine h h' es' ep' true hsb hS' (T1.perm p) ?_
   rw [<-Array.length_toList,p.length_eq,Array.length_toList,hsz1];exact AM _
  split
  ·rename_i hpt
   refine AE ?_
   rw [hashByValue_scannable 8 hsc]
   refine AJ ?_
   have hpk:plainKind (Value.str x tk)=false:=rfl
   simp only [hpk,Av,↓reduceIte]
   refine b6S ?_ ho hex hd hel1 hb1' (SetTable.fits_plain_off hfits) (hled.trans hl) rfl ?_
   ·intro b s₁ Q' hq;cases b<;>first|exact AJ hq|exact wpAny_rule hq
   ·intro h' es' ep' hsb p hS';dsimp only;exact AJ (hend h' es' ep' hsb p hS')
  ·rename_i hpt
   refine AE (AJ ?_)
   simp only [↓reduceIte]
   refine b6S ?_ ho hex hd hel1 hb1' hfits (hled.trans hl) (by simpa using hpt) ?_
   ·intro b s₁ Q' hq;cases b<;>first|exact AJ hq|exact wpAny_rule hq
   ·intro h' es' ep' hsb p hS';dsimp only;exact AJ (hend h' es' ep' hsb p hS')
end
end PU
set_option maxHeartbeats 3200000
namespace PU
open PySem PySem.Spec PyProof.Rows L2 PySem.W
def b37(x:Str)(i:Nat):Str:=⟨#[x.cps.getD i 0]⟩
def sgs(x:Str)(i:Nat):List Str:=((AQ i).map (b37 x)).reverse
theorem b6J(x:Str)(i:Nat):sgs x (i+1)=b37 x i::sgs x i:=by simp [sgs,List.range_succ]
abbrev a0j(w:AI):Obj:={cls:= .type "set",dict:=none,data:= .set #[] 0 (.fresh 0 0 (!byT w))}
section
variable {prog:AN}{w:AI}{A:AR}{E:AA->AC->Prop}{s:AC}
theorem b9L{R:Result->AC->Prop}{I:AB}{fp wr:List AB}{G:Array GenState->Array GenState->Prop}{n:Nat}{St:Nat->AC->Prop}{x:Str}
 (W:WalksS prog w A.in1 I fp wr G n (SignAt x) St) (S:AB) (hSf:S∉fp) (hb:n+1<scanBound):
 ∀(k i:Nat) (s:AC) (es:Array (Int×AA)) (ep:Nat),n - i=k->i<=n->St i s->E1 prog w s.heap S es ep->TxE es (sgs x i)->es.size<=i->
  (∀s' es' ep',Moved (S::wr) G s s'->E1 prog w s'.heap S es' ep'->TxE es' (sgs x n)->es'.size<=n->R (.ok (.ret .none)) s')->
  codeAny (model prog w) A (.builtin "set.update.loop" ⟨[.ref S,.ref I],[]⟩) R s:=by
 have hSw:S∉wr:=fun h=>hSf (W.sub _ h)
 have hsub:∀b∈wr,b∈S::wr:=fun b hb=>Ac _ hb
 intro k
 induction k with
 |zero=>
  intro i s es ep hk hi hst hS hT hz hR
  have hin:i=n:=by lia
  subst hin
  refine codeAny_builtin F.entry_set_update_loop ?_
  rw [Around.under_plainId F.plain_set_update_loop _]
  show AG _ A.in1 (pyNext (.ref I)>>=_) _ _ s
  refine AE (W.done s _ _ hst fun s' hm=> ?_)
  show AG _ A.in1 (ret Value.none) _ _ s'
  exact AJ (hR s' es ep (hm.mono hsub) (hS.at' fun o e=>hm.heap S _ hSw e) hT hz)
 |succ k ih=>
  intro i s es ep hk hi hst hS hT hz hR
  have hlt:i<n:=by lia
  refine codeAny_builtin F.entry_set_update_loop ?_
  rw [Around.under_plainId F.plain_set_update_loop _]
  show AG _ A.in1 (pyNext (.ref I)>>=_) _ _ s
  refine AE (W.item i s _ _ hlt hst fun v s' hP hst' hm=> ?_)
  obtain⟨c,u,hc,rfl⟩:=hP
  have hS':E1 prog w s'.heap S es ep:=hS.at' fun o e=>hm.heap S _ hSw e
  have hsg:(⟨#[c]⟩:Str)=b37 x i:=by unfold b37;rw [Array.getD_eq_getD_getElem?,hc];rfl
  show AG _ A.in1 (holding [Value.str ⟨#[c]⟩ u] (setAdd S (.str ⟨#[c]⟩ u))>>=_) _ _ s'
  refine AE (wpAny_holding ?_)
  unfold setAdd
  refine wpAny_holding ?_
  refine AE ((l7 prog w).pyHash (k:= .inr ⟨#[c]⟩) (R8 _ _ _ _) ?_)
  refine c0V (s:={s' with toks:=s'.toks+1}) hS' hT (by lia) fun h' es' ep' b hsb hS2 hT2 hz2=> ?_
  rw [hsg,<-b6J] at hT2
  refine AJ ⟨plainId_quiet F.plain_set_update_loop _,ih (i+1) _ es' ep' (by lia) hlt (W.frame _ s' _ _ hst' (Nat.le_succ _) fun b hb o e=> ?_) hS2 hT2 (by lia) fun s'' es'' ep'' hm'' hS'' hT'' hz''=> ?_⟩
  ·rw [hsb.2 b (fun h:b=S=>hSf (by rw [<-h];exact hb))];exact e
  ·refine hR s'' es'' ep'' (Moved.trans W.gtrans ((hm.mono hsub).then_heap (Nat.le_succ _) fun b o hb e=> ?_) hm'') hS'' hT'' hz''
   rw [hsb.2 b (fun h:b=S=>hb (by rw [h];exact AX))];exact e
theorem c1f(a:AA){Q₁:AA->AC->Prop}(h:Q₁ (.ref s.heap.objs.size) {s with heap:=s.heap.push (a0j w)}):
 codeAny (model prog w) A (.call (.builtin "set.__new__") ⟨[.type "set",a],[]⟩) (wants Q₁ E) s:=by
 refine codeAny_of_tree ?_
 show AG _ A.in1 (do checkBuiltinCall "set.__new__" ⟨[.type "set",a],[]⟩;again (.builtin "set.__new__" ⟨[.type "set",a],[]⟩)) _ _ s
 refine AE (wpAny_of_eq (F.newCall_set_1 a) (AJ ⟨plainId_quiet F.plain_set_new _,codeAny_builtin F.entry_set_new ?_⟩))
 rw [Around.under_plainId F.plain_set_new _]
 unfold Builtin.«set.__new__» Builtin.Frozenset.newClass
 have hsub:=sub_set_self
 obtain⟨hp,g,d,tk,os⟩:=s
 dsimp only
 wp_walk
 refine wpAny_askSetting (AJ ?_)
 dsimp only
 simp only [newObj]
 refine AE (wpAny_alloc (AJ ?_))
 exact AJ h
theorem b0T:isSubtype (.type "str") (.type "set")=pure false:=by rw [isSubtype_type];kernel_rfl
theorem a34:isSubtype (.type "str") (.type "frozenset")=pure false:=by rw [isSubtype_type];kernel_rfl
theorem c1s{x:Str}{t:Tok}{Q:AA->AC->Prop}(hh:A.handled=none)(hb:x.cps.size+1<scanBound)
 (h:∀(h':Heap) (tk:Nat) es ep,E1 prog w h' s.heap.objs.size es ep->TxE es (sgs x x.cps.size)->es.size<=x.cps.size->
  (∀b o,b<s.heap.objs.size->s.heap.get? b=some o->h'.get? b=some o)->Q (.ref s.heap.objs.size) {s with heap:=h',toks:=tk}):
 AG (model prog w) A (call (.type "set") [.str x t]) Q E s:=by
 obtain⟨c,tl,hmro⟩:=F.called_set.mro
 have hmade:=F.called_set.made
 have hsub:=F.called_set.sub
 refine wpAny_call (codeAny_of_tree ?_)
 show AG _ _ (callAny (.type "set") _) _ _ _
 refine AJ ⟨Code.quiet_builtin _ (by decide+kernel),codeAny_builtin F.entry_type_call ?_⟩
 rw [Around.under_plain (weight_type_call_type "set" [.str x t] []) rfl]
 have h1:=F.called_set.notType
 have h2:=F.called_set.canCreate
 have hct:=F.typeCall_set_1 (.str x t)
 repeat (any_goals (first|assumption|wp_step))
 refine codeAny_mono (c1f (.str x t) (E:=E) (Q₁:=fun obj s₁=>obj= .ref s.heap.objs.size/\s₁={s with heap:=s.heap.push (a0j w)}) ⟨rfl,rfl⟩) fun r s₁ hr=> ?_
 cases r with
 |error e=>exact hr
 |ok fl=>
  cases fl with
  |ret obj=>
   obtain⟨rfl,rfl⟩:=hr
   have hS:(s.heap.push (a0j w)).get? s.heap.objs.size=some (a0j w):=An _ rfl
   have hT:Shared.TypeIs {s with heap:=s.heap.push (a0j w)} (.ref s.heap.objs.size) "set":=⟨_,hS,rfl⟩
   have hli:=F.called_set.init.lookup
   have hbi:=F.called_set.init.bind (.ref s.heap.objs.size)
   repeat (any_goals (first|assumption|wp_step))
   refine codeAny_mono (codeAny_call_builtin (R:=wants (fun r s₂=>r= .none/\∃h' tk es ep,s₂={s with heap:=h',toks:=tk}/\
    E1 prog w h' s.heap.objs.size es ep/\TxE es (sgs x x.cps.size)/\es.size<=x.cps.size/\
    (∀b o,b<s.heap.objs.size->s.heap.get? b=some o->h'.get? b=some o)) E) F.called_set.init.plain F.entry_set_init (check_set_init_1 hT ?_)) fun r₂ s₂ hr₂=> ?_
   ·have hsls:=b0T
    have hslf:=a34
    have hne:(Value.type "str"==Value.type "dict")=false:=by decide
    unfold Builtin.«set.__init__» noKeywords Builtin.Frozenset.updateFrom
    generalize hPI:pyIter=PI
    wp_walk
    subst hPI
    refine wpAny_pyIter_str fun oI St W hst=> ?_
    refine AE (wpAny_runValue ?_)
    have hh3:A.in1.in1.in1.handled=none:=by simp [hh]
    have hSf:s.heap.objs.size∉[(s.heap.push (a0j w)).objs.size]:=by
     rw [Heap.size_push,List.mem_singleton]
     exact Aj (Nat.lt_succ_self _)
    refine b9L ((W _ hh3).toS) s.heap.objs.size hSf hb (x.cps.size - 0) 0 _ #[] 0 (by lia) (Nat.zero_le _) hst ?hS0 ⟨fun e he=>by simp at he,by simp [a6F],fun y=>by simp [a6F,sgs]⟩ (AM _) ?hR
    case hS0=>
     exact⟨a0j w,_,AY _ hS,⟨rfl,rfl,rfl⟩,rfl,fun e he=>by simp at he,by decide,by rfl,rfl,fun z=>absurd rfl z⟩
    case hR=>
     intro s' es ep hm hS' hT' hz'
     obtain⟨h',g',d',tk',os'⟩:=s'
     have eg:g'=s.gens:=hm.gens
     have ed:d'=s.drawn:=hm.drawn
     have eo:os'=s.os:=hm.os
     subst eg;subst ed;subst eo
     show AG _ _ _ _ _ _
     refine AJ ?_
     show AG _ _ (ret Value.none) _ _ _
     refine AJ ⟨rfl,h',tk',es,ep,rfl,hS',hT',hz',fun b o hb e=> ?_⟩
     have hb1:b≠s.heap.objs.size:=Aj hb
     have hb2:b≠(s.heap.push (a0j w)).objs.size:=by
      rw [Heap.size_push];exact Aj (Nat.lt_succ_of_lt hb)
     exact hm.heap b o (by simp only [AV,List.mem_singleton,List.not_mem_nil,or_false,not_or];exact⟨hb1,hb2⟩) (AY _ (AY _ e))
   ·cases r₂ with
    |error e=>exact hr₂
    |ok fl₂=>
     cases fl₂ with
     |ret r=>
      obtain⟨rfl,h',tk,es,ep,rfl,hS',hT',hz',hk'⟩:=hr₂
      repeat (any_goals (first|assumption|wp_step))
      exact h _ _ es ep hS' hT' hz' hk'
     |_=>exact hr₂.elim
  |_=>exact hr.elim
end
end PU
set_option maxHeartbeats 1000000
namespace PU
open PySem PySem.Spec PyProof.Rows L2 PySem.W
theorem r9:Slot "set_iterator" "__next__" "set_iterator.__next__":=
 .of (owner:="set_iterator") (n:="__next__") (by rw [typeLookup_type,builtinLookup_eq_fast];kernel_rfl) (by decide+kernel) (by decide+kernel) (by decide+kernel)
  (by first|exact .inl (by decide+kernel)|exact .inr (by decide+kernel)) (by rw [isSubtype_type];kernel_rfl)
theorem a2W:Slot "set_iterator" "__iter__" "set_iterator.__iter__":=
 .of (owner:="set_iterator") (n:="__iter__") (by rw [typeLookup_type,builtinLookup_eq_fast];kernel_rfl) (by decide+kernel) (by decide+kernel) (by decide+kernel)
  (by first|exact .inl (by decide+kernel)|exact .inr (by decide+kernel)) (by rw [isSubtype_type];kernel_rfl)
theorem N8:entryFor table "set_iterator.__next__"=some Builtin.«set_iterator.__next__»:=entryFor_of_tree (by kernel_rfl)
theorem a6j:entryFor table "set_iterator.__iter__"=some Builtin.«dict_keyiterator.__iter__»:=entryFor_alias (id':="dict_keyiterator.__iter__") (by kernel_rfl) rfl (by decide+kernel) (by kernel_rfl)
theorem a88:entryFor table "set.__iter__"=some Builtin.«frozenset.__iter__»:=entryFor_alias (id':="frozenset.__iter__") (by kernel_rfl) rfl (by decide+kernel) (by kernel_rfl)
theorem a8G:Manifest.owners.lookup (String.ofList ['r', 'o', 't', 'a', 'r', 'e', 't', 'i', '_', 't', 'e', 's'].reverse)=some Manifest.sig_set_iterator:=by kernel_rfl
theorem Q2(a:AA):argsOk "set_iterator.__next__" ⟨[a],[]⟩:=by
 unfold argsOk;rw [signature?_of (id:="set_iterator.__next__") (n:=['_', '_', 't', 'x', 'e', 'n', '_', '_']) (o:=['r', 'o', 't', 'a', 'r', 'e', 't', 'i', '_', 't', 'e', 's']) (by kernel_rfl) a8G];kernel_rfl
theorem a7G(a:AA):argsOk "set_iterator.__iter__" ⟨[a],[]⟩:=by
 unfold argsOk;rw [signature?_of (id:="set_iterator.__iter__") (n:=['_', '_', 'r', 'e', 't', 'i', '_', '_']) (o:=['r', 'o', 't', 'a', 'r', 'e', 't', 'i', '_', 't', 'e', 's']) (by kernel_rfl) a8G];kernel_rfl
def R0(h:Heap)(it:AB)(first:AA)(i:Nat)(a:AB)(n ep:Nat):Prop:=∃o,h.get? it=some o/\o.cls= .type "set_iterator"/\o.data= .fields #[first,.int i 0,.ref a,.int n 0,.int ep 0]
theorem R0.typeIs{s:AC}{it:AB}{first:AA}{i:Nat}{a:AB}{n ep:Nat}(x:R0 s.heap it first i a n ep):s.TypeIs (.ref it) "set_iterator":=let ⟨o,ho,hc,_⟩:=x;⟨o,ho,hc⟩
theorem R0.at'{h h':Heap}{it:AB}{first:AA}{i:Nat}{a:AB}{n ep:Nat}(x:R0 h it first i a n ep)(e:∀o,h.get? it=some o->h'.get? it=some o):R0 h' it first i a n ep:=let ⟨o,ho,r⟩:=x;⟨o,e _ ho,r⟩
theorem a22{α:Type}:∀{l:List α} {i:Nat} (h:i<l.length),(l[i]::l.eraseIdx i).Perm l
 |x::l,0,h=>List.Perm.refl _
 |x::l,i+1,h=>by
  have ih:=a22 (l:=l) (i:=i) (by simpa using h)
  show(l[i]'(by simpa using h)::x::l.eraseIdx i).Perm (x::l)
  exact(List.Perm.swap _ _ _).trans (ih.cons x)
theorem a8K{α:Type}(f:Nat->Nat):∀(n k:Nat) (a9q:List α) (out:Array α),a9q.length=n->(pickOrder.go f n k a9q out).toList.Perm (out.toList++a9q)
 |0,k,a9q,out,h=>by
  cases a9q with
  |nil=>rw [Aq];exact List.Perm.refl _
  |cons a l=>cases h
 |n+1,k,a9q,out,h=>by
  unfold pickOrder.go
  have hlt:f k % a9q.length<a9q.length:=Nat.mod_lt _ (by lia)
  rw [Aw hlt]
  dsimp only
  refine(a8K f n (k+1) _ _ (by rw [List.length_eraseIdx];split<;>lia)).trans ?_
  rw [Array.toList_push,List.append_assoc]
  exact List.Perm.append_left _ (a22 hlt)
theorem X9{α:Type}(f:Nat->Nat)(xs:Array α):(pickOrder f xs).toList.Perm xs.toList:=by
 have:=a8K f xs.size 0 xs.toList #[] (by simp)
 simpa [pickOrder] using this
section
variable {prog:AN}{w:AI}{A:AR}{E:AA->AC->Prop}{s:AC}{it a:AB}{i ep:Nat}{es:Array (Int×AA)}
theorem a9M{src:Source}{n:Nat}{Q:Nat->AC->Prop}(hn:n≠0)(h:∀i,i<n->Q i {s with drawn:=s.drawn.bump src}):AG (model prog w) A (choose src n) Q E s:=
 fun _ _ _=>⟨hn,h _ (Nat.mod_lt _ (Nat.pos_of_ne_zero hn))⟩
theorem a8k{α:Type}:∀(n:Nat) (xs:List α) (s:AC) (Q:List α->AC->Prop),xs.length=n->(∀ys d,ys.Perm xs->Q ys {s with drawn:=d})->AG (model prog w) A (drawOrder n xs) Q E s
 |0,xs,s,Q,h,k=>by
  unfold drawOrder
  cases xs with
  |nil=>exact AJ (k [] s.drawn (List.Perm.refl _))
  |cons a l=>cases h
 |n+1,[],s,Q,h,k=>by cases h
 |n+1,x::l,s,Q,h,k=>by
  unfold drawOrder
  refine AE (a9M (by simp) fun i hi=> ?_)
  rw [Aw hi]
  dsimp only
  refine AE (a8k n _ _ _ (by rw [List.length_eraseIdx];split<;>lia) fun ys d p=> ?_)
  refine AJ ?_
  exact k _ d ((p.cons _).trans (a22 hi))
theorem a80{Q:Bool->AC->Prop}(h:Q (byT w) s):AG (model prog w) A setsByText Q E s:=by
 unfold setsByText
 exact AE (wpAny_askSetting (AJ h))
theorem E1.typeIs(x:E1 prog w s.heap a es ep):s.TypeIs (.ref a) "set":=let ⟨o,_,ho,hc,_⟩:=x;⟨o,ho,hc.1⟩
theorem b8Q{sl:Nat}{Q:Option (AA×Nat)->AC->Prop}(hb:byT w=true)(hS:E1 prog w s.heap a es ep)(h:Q (((pickOrder (w.params.setOrder a ep) es)[i]?).map fun e=>(e.2,sl)) s):AG (model prog w) A (setNext a sl i ep) Q E s:=by
 obtain⟨o,t,ho,hex,hd,hel,hz,hf,hl,hpl⟩:=hS
 unfold setNext
 refine AE (wpAny_setState_of ho hd hf ?_)
 dsimp only
 refine AE (a80 ?_)
 rw [hb]
 simp only [↓reduceIte,bne_self_eq_false,Av]
 unfold setWalk
 refine AE (AE (wpAny_setState_of ho hd hf ?_))
 dsimp only
 refine AE (a80 ?_)
 rw [hb]
 simp only [↓reduceIte]
 refine AE (wpAny_askSetting ?_)
 exact AJ (AJ h)
end
section
variable {prog:AN}{w:AI}{A:AR}{E:AA->AC->Prop}{s:AC}{it a:AB}{i ep:Nat}{es:Array (Int×AA)}
theorem a0C{Q:Array (Int×AA)->AC->Prop}(hS:E1 prog w s.heap a es ep)(h:Q es s):AG (model prog w) A (setEntries a) Q E s:=
 let ⟨_,_,ho,_,hd,_,_,hf,_⟩:=hS;wpAny_setEntries_of ho hd hf h
theorem b0M{sl nxt:Nat}{v:AA}{Q:Option AA->AC->Prop}(hit:R0 s.heap it (.int sl 0) i a es.size ep)(hS:E1 prog w s.heap a es ep)
 (hN:∀(A:AR) (E:AA->AC->Prop) (Q:Option (AA×Nat)->AC->Prop),Q (some (v,nxt)) s->AG (model prog w) A (setNext a sl i ep) Q E s)
 (hQ:∀h',R0 h' it (.int nxt 0) (i+1) a es.size ep->Heap.SameBut it s.heap h'->Q (some v) {s with heap:=h'}):AG (model prog w) A (pyNext (.ref it)) Q E s:=by
 obtain⟨o,ho,hc,hd⟩:=id hit
 unfold pyNext
 refine AE (wpAny_attempt (wpAny_callSpecial?_slot (name:=AS "__next__") hit.typeIs r9 (wpAny_call_entry r9 hit.typeIs N8 ?_ (Q2 _))))
 unfold Builtin.«set_iterator.__next__»
 refine AE (AJ ?_)
 refine AE (wpAny_fieldsOf ho hd ?_)
 show AG _ _ (setEntries a>>=_) _ _ s
 refine AE (a0C hS ?_)
 rw [if_neg (by simp)]
 refine AE (hN _ _ _ ?_)
 dsimp only
 refine AE (wpAny_setField ho hd (by simp) ?_)
 have hg1:=Heap.get?_update_self (Obj.mapFields (·.setIfInBounds 0 (rawInt nxt))) ho (Obj.isFreed_of_fields (Obj.data_mapFields hd _))
 have hd1:=Obj.data_mapFields hd (·.setIfInBounds 0 (rawInt nxt))
 refine AE (wpAny_setField hg1 hd1 (by simp) ?_)
 have hg2:=Heap.get?_update_self (Obj.mapFields (·.setIfInBounds 1 (rawInt ((i:Int)+1)))) hg1 (Obj.isFreed_of_fields (Obj.data_mapFields hd1 _))
 have hd2:=Obj.data_mapFields hd1 (·.setIfInBounds 1 (rawInt ((i:Int)+1)))
 refine AJ ⟨_,rfl,AJ (hQ _ ⟨_,hg2, ?_, ?_⟩ ((Heap.SameBut.update ..).trans (Heap.SameBut.update ..)))⟩
 ·exact(Obj.cls_mapFields ..).trans ((Obj.cls_mapFields ..).trans hc)
 ·rw [hd2];simp [rawInt]
theorem b2S{sl:Nat}{Q:Option AA->AC->Prop}(hh:A.handled=none)(hit:R0 s.heap it (.int sl 0) i a es.size ep)(hS:E1 prog w s.heap a es ep)
 (hN:∀(A:AR) (E:AA->AC->Prop) (Q:Option (AA×Nat)->AC->Prop),Q none s->AG (model prog w) A (setNext a sl i ep) Q E s)
 (hQ:∀h',Heap.ExtBut it s.heap h'->Q none {s with heap:=h'}):AG (model prog w) A (pyNext (.ref it)) Q E s:=by
 obtain⟨o,ho,hc,hd⟩:=id hit
 unfold pyNext
 refine AE (wpAny_attempt (wpAny_callSpecial?_slot (name:=AS "__next__") hit.typeIs r9 (wpAny_call_entry r9 hit.typeIs N8 ?_ (Q2 _))))
 unfold Builtin.«set_iterator.__next__»
 refine AE (AJ ?_)
 refine AE (wpAny_fieldsOf ho hd ?_)
 show AG _ _ (setEntries a>>=_) _ _ s
 refine AE (a0C hS ?_)
 rw [if_neg (by simp)]
 refine AE (hN _ _ _ ?_)
 dsimp only
 refine AE (wpAny_setField ho hd (by simp) ?_)
 refine AE ?_
 simp only [newExc,newTuple];refine AE (wpAny_newObj_type ?_ (by size_fits))
 refine AE (m:=firstArgMember _ _) (wpAny_of_eq (a:=Value.none) (by first|rfl|(simp only [firstArgMember];rfl)) (wpAny_newObj_type ?_ (by size_fits)))
 simp only [raiseNew];refine AE (wpAny_handled ?_);rw [show A.in1.handled=none from hh]
 refine AE (AJ (wpAny_throw ?_));refine AE (wpAny_isInstance (T:="StopIteration") (b:=true) ⟨_,An _ rfl,rfl⟩ isSubtype_stop ?_)
 exact AJ (hQ _ (((Heap.SameBut.update ..).extBut.push _).push _))
theorem b38{ft:AB}{ps:List Nat}{pl:Nat}{v:Int×AA}{Q:Option AA->AC->Prop}(hit:R0 s.heap it (.ref ft) i a es.size ep)(hS:E1 prog w s.heap a es ep)(hf:IsTup s.heap ft (ps.map fun i:Nat=>rawInt i).toArray)
 (hp:ps[i]?=some pl) (hv:es[pl]?=some v)
 (hQ:∀h',R0 h' it (.ref ft) (i+1) a es.size ep->Heap.SameBut it s.heap h'->Q (some v.2) {s with heap:=h'}):AG (model prog w) A (pyNext (.ref it)) Q E s:=by
 obtain⟨o,ho,hc,hd⟩:=id hit
 obtain⟨oq,tq,hoq,hexq,hdq,helq,hzq,hfq,hlq,hplq⟩:=id hS
 obtain⟨of,hof,hcf,nf,hdf⟩:=id hf
 unfold pyNext
 refine AE (wpAny_attempt (wpAny_callSpecial?_slot (name:=AS "__next__") hit.typeIs r9 (wpAny_call_entry r9 hit.typeIs N8 ?_ (Q2 _))))
 unfold Builtin.«set_iterator.__next__»
 refine AE (AJ ?_)
 refine AE (wpAny_fieldsOf ho hd ?_)
 show AG _ _ (setEntries a>>=_) _ _ s
 refine AE (a0C hS ?_)
 rw [if_neg (by simp)]
 show AG _ _ (seqItems? (.ref ft)>>=_) _ _ s
 refine AE (wpAny_seqItems hof hdf ?_)
 have hg:((ps.map fun i:Nat=>rawInt i).toArray)[i]?=some (rawInt pl):=by
  rw [List.getElem?_toArray,Ak,hp];rfl
 dsimp only
 rw [show((i:Int).toNat)=i from BH i,hg]
 show AG _ _ (setNextDrawn a ((pl:Int).toNat) ((ep:Int).toNat)>>=_) _ _ s
 unfold setNextDrawn
 refine AE (AE (wpAny_setState_of hoq hdq hfq ?_))
 dsimp only
 rw [show((ep:Int).toNat)=ep from BH ep,show((pl:Int).toNat)=pl from BH pl,hv]
 simp only [bne_self_eq_false,Av,↓reduceIte]
 refine AJ ?_
 refine AE (wpAny_setField ho hd (by simp) ?_)
 have hg1:=Heap.get?_update_self (Obj.mapFields (·.setIfInBounds 1 (rawInt ((i:Int)+1)))) ho (Obj.isFreed_of_fields (Obj.data_mapFields hd _))
 have hd1:=Obj.data_mapFields hd (·.setIfInBounds 1 (rawInt ((i:Int)+1)))
 refine AJ ⟨_,rfl,AJ (hQ _ ⟨_,hg1, ?_, ?_⟩ (Heap.SameBut.update ..))⟩
 ·exact(Obj.cls_mapFields ..).trans hc
 ·rw [hd1];simp [rawInt]
theorem b6K{ft:AB}{ps:List Nat}{Q:Option AA->AC->Prop}(hh:A.handled=none)(hit:R0 s.heap it (.ref ft) i a es.size ep)(hS:E1 prog w s.heap a es ep)(hf:IsTup s.heap ft (ps.map fun i:Nat=>rawInt i).toArray)
 (hp:ps[i]?=none)
 (hQ:∀h',Heap.ExtBut it s.heap h'->Q none {s with heap:=h'}):AG (model prog w) A (pyNext (.ref it)) Q E s:=by
 obtain⟨o,ho,hc,hd⟩:=id hit
 obtain⟨of,hof,hcf,nf,hdf⟩:=id hf
 unfold pyNext
 refine AE (wpAny_attempt (wpAny_callSpecial?_slot (name:=AS "__next__") hit.typeIs r9 (wpAny_call_entry r9 hit.typeIs N8 ?_ (Q2 _))))
 unfold Builtin.«set_iterator.__next__»
 refine AE (AJ ?_)
 refine AE (wpAny_fieldsOf ho hd ?_)
 show AG _ _ (setEntries a>>=_) _ _ s
 refine AE (a0C hS ?_)
 rw [if_neg (by simp)]
 show AG _ _ (seqItems? (.ref ft)>>=_) _ _ s
 refine AE (wpAny_seqItems hof hdf ?_)
 have hg:((ps.map fun i:Nat=>rawInt i).toArray)[i]?=none:=by
  rw [List.getElem?_toArray,Ak,hp];rfl
 dsimp only
 rw [show((i:Int).toNat)=i from BH i,hg]
 dsimp only
 refine AE (wpAny_setField ho hd (by simp) ?_)
 have hg1:=Heap.get?_update_self (Obj.mapFields (·.setIfInBounds 0 (rawInt 0))) ho (Obj.isFreed_of_fields (Obj.data_mapFields hd _))
 have hd1:=Obj.data_mapFields hd (·.setIfInBounds 0 (rawInt 0))
 refine AE (wpAny_setField hg1 hd1 (by simp) ?_)
 refine AE ?_
 simp only [newExc,newTuple];refine AE (wpAny_newObj_type ?_ (by size_fits))
 refine AE (m:=firstArgMember _ _) (wpAny_of_eq (a:=Value.none) (by first|rfl|(simp only [firstArgMember];rfl)) (wpAny_newObj_type ?_ (by size_fits)))
 simp only [raiseNew];refine AE (wpAny_handled ?_);rw [show A.in1.handled=none from hh]
 refine AE (AJ (wpAny_throw ?_));refine AE (wpAny_isInstance (T:="StopIteration") (b:=true) ⟨_,An _ rfl,rfl⟩ isSubtype_stop ?_)
 exact AJ (hQ _ ((((Heap.SameBut.update ..).trans (Heap.SameBut.update ..)).extBut.push _).push _))
theorem a7o{first:AA}{n:Nat}{Q:AA->AC->Prop}(hit:R0 s.heap it first i a n ep)(h:Q (.ref it) s):AG (model prog w) A (pyIter (.ref it)) Q E s:=by
 refine wpAny_pyIter_slot hit.typeIs a2W (wpAny_call_entry a2W hit.typeIs a6j ?_ (a7G _))
 show AG _ _ (ret (.ref it)) _ _ s
 exact AJ ⟨_,rfl,"set_iterator",_,hit.typeIs,r9.lookup,h⟩
end
section
variable {prog:AN}{w:AI}{A:AR}{E:AA->AC->Prop}{s:AC}{a:AB}{ep:Nat}{es:Array (Int×AA)}
def PlX(h:Heap)(a:AB)(es:Array (Int×AA))(ep:Nat)(pl:Array Nat):Prop:=∃o t,h.get? a=some o/\o.data= .set es ep t/\t.place=pl
theorem b52{i sl:Nat}{pl:Array Nat}{Q:Option (AA×Nat)->AC->Prop}(hb:byT w=false)(hS:E1 prog w s.heap a es ep)(hP:PlX s.heap a es ep pl)(h1:es.size<=1)
 (h:Q (match es[SetTable.below pl sl]?,pl[SetTable.below pl sl]? with|some (_,x),some j=>some (x,j+1)|_,_=>none) s):AG (model prog w) A (setNext a sl i ep) Q E s:=by
 obtain⟨o,t,ho,hex,hd,hel,hz,hf,hl,hpl⟩:=hS
 obtain⟨o',t',ho',hd',ep'⟩:=hP
 rw [ho] at ho';cases ho'
 rw [hd] at hd';cases hd'
 subst ep'
 rw [hb] at hl
 unfold setNext
 refine AE (wpAny_setState_of ho hd hf ?_)
 dsimp only
 refine AE (a80 ?_)
 rw [hb]
 simp only [Av,↓reduceIte]
 show AG _ _ (if(!t.plain && decide (es.size>1))=true then _ else _) _ _ s
 rw [if_neg (by simp;lia)]
 show AG _ _ ((if(!t.led && !es.isEmpty)=true then _ else _)>>=_) _ _ s
 rw [hl]
 refine AE (AJ ?_)
 exact AJ h
theorem b89(j:Nat):SetTable.below #[j] 0=0:=by simp [SetTable.below,SetTable.below.go]
theorem b9a(j:Nat):SetTable.below #[j] (j+1)=1:=by simp [SetTable.below,SetTable.below.go]
theorem c0L(hb:byT w=true)(hh:A.handled=none)(I:AB)(hne:a≠I):Walks prog w A I [I,a] [I] es.size (fun i v=>((pickOrder (w.params.setOrder a ep) es).toList.map (·.2))[i]?=some v) (fun i h=>R0 h I (.int (0:Nat) 0) i a es.size ep/\E1 prog w h a es ep) where
 sub:=fun b hb=>by simp at hb;simp [hb]
 frame:=fun _ _ _ st hk=>⟨st.1.at' fun o e=>hk I (by simp) o e,st.2.at' fun o e=>hk a (by simp) o e⟩
 item:=fun i s Q E hi st hQ=>by
  have hz:(pickOrder (w.params.setOrder a ep) es).size=es.size:=by
   have:=(X9 (w.params.setOrder a ep) es).length_eq
   simpa using this
  have hi':i<(pickOrder (w.params.setOrder a ep) es).size:=by lia
  refine b0M (nxt:=0) (v:=(pickOrder (w.params.setOrder a ep) es)[i].2) st.1 st.2 (fun A E Q q=>b8Q hb st.2 (by rw [getElem?_pos _ i hi'];exact q)) fun h' hit' hs'=>hQ _ h' s.toks ?_ ⟨hit',st.2.at' fun o e=>hs'.extBut a o hne e⟩ fun b o hb e=>hs'.extBut b o (fun h=>hb (by simp [h])) e
  rw [Ak,Array.getElem?_toList,getElem?_pos _ i hi'];rfl
 done:=fun s Q E st hQ=>by
   have hz:(pickOrder (w.params.setOrder a ep) es).size=es.size:=by
    have:=(X9 (w.params.setOrder a ep) es).length_eq
    simpa using this
   exact b2S hh st.1 st.2 (fun A E Q q=>b8Q hb st.2 (by rw [getElem?_neg _ es.size (by lia)];exact q)) fun h' he'=>hQ h' s.toks fun b o hb e=>he' b o (fun h=>hb (by simp [h])) e
 self:=fun _ _ _ _ st hQ=>a7o st.1 hQ
theorem c0J(hb:byT w=false)(h1:es.size<=1)(hh:A.handled=none)(I:AB)(hne:a≠I){pl:Array Nat}(hp:pl.size=es.size):
 Walks prog w A I [I,a] [I] es.size (fun i v=>(es.toList.map (·.2))[i]?=some v) (fun i h=>∃sl:Nat,R0 h I (.int sl 0) i a es.size ep/\E1 prog w h a es ep/\PlX h a es ep pl/\(i=0->sl=0)/\(i≠0->sl=pl.getD 0 0+1)) where
 sub:=fun b hb=>by simp at hb;simp [hb]
 frame:=fun _ _ _ ⟨sl,st1,st2,⟨o,t,ho,r⟩,st4,st5⟩ hk=>⟨sl,st1.at' fun o e=>hk I (by simp) o e,st2.at' fun o e=>hk a (by simp) o e,⟨o,t,hk a (by simp) o ho,r⟩,st4,st5⟩
 item:=fun i s Q E hi ⟨sl,st1,st2,st3,st4,st5⟩ hQ=>by
  have hi0:i=0:=by lia
  subst hi0
  cases st4 rfl
  have hs1:es.size=1:=by lia
  obtain⟨j,rfl⟩:∃j,pl= #[j]:=by
   obtain⟨l⟩:=pl
   cases l with
   |nil=>simp at hp;lia
   |cons j l=>
    cases l with
    |nil=>exact⟨j,rfl⟩
    |cons k l=>simp at hp;lia
  have h0:0<es.size:=by lia
  refine b0M (nxt:=j+1) (v:=es[0].2) st1 st2 (fun A E Q q=>b52 hb st2 st3 h1 (by rw [b89,getElem?_pos _ 0 h0];exact q)) fun h' hit' hs'=>hQ _ h' s.toks ?_ ⟨j+1,hit',st2.at' fun o e=>hs'.extBut a o hne e, ?_,fun z=>absurd z (Nat.succ_ne_zero 0),fun _=>rfl⟩ fun b o hb e=>hs'.extBut b o (fun h=>hb (by simp [h])) e
  ·rw [Ak,Array.getElem?_toList,getElem?_pos _ 0 h0];rfl
  ·obtain⟨o,t,ho,r⟩:=st3
   exact⟨o,t,hs'.extBut a o hne ho,r⟩
 done:=fun s Q E ⟨sl,st1,st2,st3,st4,st5⟩ hQ=>by
   refine b2S hh st1 st2 (fun A E Q q=>b52 hb st2 st3 h1 ?_) fun h' he'=>hQ h' s.toks fun b o hb e=>he' b o (fun h=>hb (by simp [h])) e
   by_cases h0:es.size=0
   ·have e0:es[SetTable.below pl sl]?=none:=getElem?_neg _ _ (by lia)
    rw [e0];exact q
   ·cases st5 h0
    obtain⟨j,rfl⟩:∃j,pl= #[j]:=by
     obtain⟨l⟩:=pl
     cases l with
     |nil=>simp at hp;lia
     |cons j l=>
      cases l with
      |nil=>exact⟨j,rfl⟩
      |cons k l=>simp at hp;lia
    have e1:SetTable.below #[j] ((#[j]:Array Nat).getD 0 0+1)=1:=b9a j
    rw [e1,getElem?_neg _ 1 (by lia)];exact q
 self:=fun _ _ _ _ ⟨_,st,_⟩ hQ=>a7o st hQ
theorem c0K(hh:A.handled=none)(I ft:AB)(hne:a≠I)(hnf:ft≠I){ps:List Nat}(hp:ps.Perm (AQ es.size)):
 Walks prog w A I [I,a,ft] [I] es.size (fun i v=>(ps.map fun p:Nat=>(es[p]?.map (·.2)).getD .none)[i]?=some v) (fun i h=>R0 h I (.ref ft) i a es.size ep/\E1 prog w h a es ep/\IsTup h ft (ps.map fun i:Nat=>rawInt i).toArray) where
 sub:=fun b hb=>by simp at hb;simp [hb]
 frame:=fun _ _ _ ⟨st1,st2,⟨o,ho,r⟩⟩ hk=>⟨st1.at' fun o e=>hk I (by simp) o e,st2.at' fun o e=>hk a (by simp) o e,⟨o,hk ft (by simp) o ho,r⟩⟩
 item:=fun i s Q E hi ⟨st1,st2,st3⟩ hQ=>by
  have hl:ps.length=es.size:=by have:=hp.length_eq;simpa using this
  have hi':i<ps.length:=by lia
  have hm:ps[i]<es.size:=List.mem_range.mp (hp.mem_iff.mp (List.getElem_mem hi'))
  refine b38 (pl:=ps[i]) (v:=es[ps[i]]) st1 st2 st3 (Aw hi') (getElem?_pos es ps[i] hm) fun h' hit' hs'=>hQ _ h' s.toks ?_ ⟨hit',st2.at' fun o e=>hs'.extBut a o hne e, ?_⟩ fun b o hb e=>hs'.extBut b o (fun h=>hb (by simp [h])) e
  ·rw [Ak,Aw hi',BE,getElem?_pos es ps[i] hm];rfl
  ·obtain⟨o,ho,r⟩:=st3
   exact⟨o,hs'.extBut ft o hnf ho,r⟩
 done:=fun s Q E ⟨st1,st2,st3⟩ hQ=>by
   have hl:ps.length=es.size:=by have:=hp.length_eq;simpa using this
   exact b6K hh st1 st2 st3 (List.getElem?_eq_none (by lia)) fun h' he'=>hQ h' s.toks fun b o hb e=>he' b o (fun h=>hb (by simp [h])) e
 self:=fun _ _ _ _ st hQ=>a7o st.1 hQ
theorem b0H{es:Array (Int×AA)}{ps:List Nat}(hp:ps.Perm (AQ es.size)):(ps.map fun p:Nat=>(es[p]?.map (·.2)).getD .none).Perm (es.toList.map (·.2)):=by
 refine(hp.map _).trans ?_
 have:(AQ es.size).map (fun p:Nat=>(es[p]?.map (·.2)).getD .none)=es.toList.map (·.2):=by
  apply List.ext_getElem
  ·simp
  ·intro i h1 h2
   simp only [AO,Ax] at h1
   simp [h1]
 rw [this]
theorem b7p{Q:Bool->AC->Prop}(hS:E1 prog w s.heap a es ep)(h:∀t:SetTable,(es.size≠0->t.plain=false)->Q (!byT w &&(!t.plain && decide (es.size>1))) s):AG (model prog w) A (setDrawn a) Q E s:=by
 obtain⟨o,t,ho,hex,hd,hel,hz,hf,hl,hpl⟩:=hS
 unfold setDrawn
 refine AE (wpAny_setState_of ho hd hf ?_)
 dsimp only
 refine AE (a80 ?_)
 exact AJ (h t hpl)
theorem b2c{Q:Nat->AC->Prop}(hS:E1 prog w s.heap a es ep)(h:Q ep s):AG (model prog w) A (setEpoch a) Q E s:=
 let ⟨_,_,ho,_,hd,_,_,hf,_⟩:=hS;wpAny_setEpoch_of ho hd hf h
theorem b9C{Q:AA->AC->Prop}(hS:E1 prog w s.heap a es ep)
 (h:∀(h':Heap) d I fp (St:Nat->Heap->Prop) (ord:List AA),(∀b o,s.heap.get? b=some o->h'.get? b=some o)->s.heap.objs.size<=I->(∀b∈fp,s.heap.objs.size<=b\/b=a)->ord.Perm (es.toList.map (·.2))->
  (∀A':AR,A'.handled=none->Walks prog w A' I fp [I] es.size (fun i v=>ord[i]?=some v) St)->St 0 h'->Q (.ref I) {s with heap:=h',drawn:=d}):AG (model prog w) A (pyIter (.ref a)) Q E s:=by
 have hlt:a<s.heap.objs.size:=let ⟨_,_,ho,_⟩:=hS;Ad ho
 refine wpAny_pyIter_slot hS.typeIs F.slot_set_iter (wpAny_call_entry F.slot_set_iter hS.typeIs a88 ?_ (F.args_set_iter_1 _))
 unfold Builtin.«frozenset.__iter__»
 refine AE (AJ ?_)
 show AG _ _ (Builtin.Frozenset.sizeOf a>>=_) _ _ s
 unfold Builtin.Frozenset.sizeOf
 refine AE (AE (a0C hS (AJ ?_)))
 refine AE (b7p hS fun t ht=> ?_)
 by_cases hd:(!byT w &&(!t.plain && decide (es.size>1)))=true
 ·rw [if_pos hd]
  simp only [Bool.and_eq_true,Bool.not_eq_true',decide_eq_true_eq] at hd
  refine AE (a8k es.size (AQ es.size) s _ (by simp) fun ps d hp=> ?_)
  simp only [newTuple]
  refine AE (wpAny_newObj_type ?_ ?_)
  ·have hk:∀b o,s.heap.get? b=some o->(s.heap.push {cls:= .type "tuple",data:= .seq (ps.map fun i:Nat=>rawInt i).toArray}).get? b=some o:=fun b o e=>AY _ e
   refine AE (b2c (hS.at' fun o e=>hk a o e) ?_)
   simp only [newFields]
   refine AE (wpAny_newObj_type ?_ (by size_fits))
   refine AJ ⟨_,rfl,"set_iterator",_,⟨_,An _ rfl,rfl⟩,r9.lookup, ?_⟩
   refine h _ d _ [s.heap.objs.size+1,a,s.heap.objs.size] (fun i h=>R0 h (s.heap.objs.size+1) (.ref s.heap.objs.size) i a es.size ep/\E1 prog w h a es ep/\IsTup h s.heap.objs.size (ps.map fun i:Nat=>rawInt i).toArray) _ (fun b o e=>AY _ (hk b o e)) (by rw [Heap.size_push];exact Nat.le_succ _) (fun b hb=> ?_) (b0H hp) (fun A' hA=> ?_) ?_
   rotate_left
   ·have:=c0K (prog:=prog) (w:=w) (ep:=ep) hA (s.heap.objs.size+1) s.heap.objs.size (Aj (Nat.lt_succ_of_lt hlt)) (Aj (Nat.lt_succ_self _)) hp
    rw [Heap.size_push]
    exact this
   ·have e1:(s.heap.push {cls:= .type "tuple",data:= .seq (ps.map fun i:Nat=>rawInt i).toArray}).objs.size=s.heap.objs.size+1:=Heap.size_push ..
    refine⟨⟨{cls:= .type "set_iterator",data:= .fields [.ref s.heap.objs.size,rawInt 0,.ref a,rawInt es.size,rawInt ep].toArray}, ?_,rfl,rfl⟩,hS.at' fun o e=>AY _ (hk a o e),_,AY _ (An _ rfl),rfl,_,rfl⟩
    rw [<-e1]
    exact An _ rfl
   ·simp only [AV,List.not_mem_nil,or_false] at hb
    rcases hb with rfl|rfl|rfl
    ·exact .inl (Nat.le_succ _)
    ·exact .inr rfl
    ·exact .inl (AM _)
  ·have hz:es.size<scanBound:=let ⟨_,_,_,_,_,_,hz,_⟩:=hS;hz
   have hl:ps.length=es.size:=by have:=hp.length_eq;simpa using this
   have hsl:=sizeLine_eq
   unfold scanBound at hz
   show(ps.map fun i:Nat=>rawInt i).toArray.size<=AL
   simp [hl]
   lia
 ·rw [if_neg hd]
  refine AE (AJ ?_)
  refine AE (b2c hS ?_)
  simp only [newFields]
  refine AE (wpAny_newObj_type ?_ (by size_fits))
  refine AJ ⟨_,rfl,"set_iterator",_,⟨_,An _ rfl,rfl⟩,r9.lookup, ?_⟩
  have hit:R0 (s.heap.push {cls:= .type "set_iterator",data:= .fields [rawInt 0,rawInt 0,.ref a,rawInt es.size,rawInt ep].toArray}) s.heap.objs.size (.int (0:Nat) 0) 0 a es.size ep:=⟨_,An _ rfl,rfl,rfl⟩
  have hS':=hS.at' (h':=s.heap.push {cls:= .type "set_iterator",data:= .fields [rawInt 0,rawInt 0,.ref a,rawInt es.size,rawInt ep].toArray}) fun o e=>AY _ e
  have hfp:∀b∈[s.heap.objs.size,a],s.heap.objs.size<=b\/b=a:=fun b hb=>by
   simp only [AV,List.not_mem_nil,or_false] at hb
   rcases hb with rfl|rfl
   ·exact .inl (AM _)
   ·exact .inr rfl
  cases hb:byT w with
  |true=>exact h _ s.drawn _ [s.heap.objs.size,a] _ _ (fun b o e=>AY _ e) (AM _) hfp ((X9 (w.params.setOrder a ep) es).map _) (fun A' hA=>c0L hb hA _ (Aj hlt)) ⟨hit,hS'⟩
  |false=>
   have h1:es.size<=1:=by
    rw [hb] at hd
    by_cases hz:es.size<=1
    ·exact hz
    ·exfalso
     rw [ht (by lia)] at hd
     simp at hd
     lia
   obtain⟨o,t',ho,hex,hdd,hel,hzz,hf,hl,hpl⟩:=id hS
   have hps:t'.place.size=es.size:=by
    simp only [SetTable.fits,Bool.and_eq_true,beq_iff_eq] at hf
    exact hf.1
   exact h _ s.drawn _ [s.heap.objs.size,a] _ _ (fun b o e=>AY _ e) (AM _) hfp (List.Perm.refl _) (fun A' hA=>c0J hb h1 hA _ (Aj hlt) hps) ⟨0,hit,hS',⟨o,t',AY _ ho,hdd,rfl⟩,fun _=>rfl,fun z=>absurd rfl z⟩
end
section
variable {prog:AN}{w:AI}{A:AR}{E:AA->AC->Prop}{s:AC}{a:AB}{ep:Nat}{es:Array (Int×AA)}
theorem b5o{r:AB}{Q:Bool->AC->Prop}(hT:s.TypeIs (.ref r) "set")(h:Q false s):AG (model prog w) A (Builtin.List.listLengthHint (.ref r)) Q E s:=by
 unfold Builtin.List.listLengthHint
 refine AE (wpAny_specialOf hT PySem.F.slot_set_len.lookup ?_)
 generalize hid:("set.__len__":String)=id0
 wp_delta
 rw [show splitId id0=some ("set","__len__") from by subst hid;decide+kernel]
 subst hid
 refine AE (wpAny_isInstance (T:="set") (b:=true) hT (by rw [isSubtype_type];kernel_rfl) ?_)
 refine wpAny_ite_split (fun hab=>absurd hab (by decide)) (fun _=> ?_)
 refine wpAny_ite_split (fun _=> ?_) (fun hab=>absurd (by decide+kernel) hab)
 refine AE (wpAny_typeOf hT ?_)
 exact AJ h
theorem b3e{Q:List AA->AC->Prop}(hh:A.handled=none)(hS:E1 prog w s.heap a es ep)
 (hQ:∀h' tk d ord,(∀b o,s.heap.get? b=some o->h'.get? b=some o)->ord.Perm (es.toList.map (·.2))->Q ord {s with heap:=h',toks:=tk,drawn:=d}):AG (model prog w) A (collect (.ref a)) Q E s:=by
 have hlt:a<s.heap.objs.size:=let ⟨_,_,ho,_⟩:=hS;Ad ho
 have hn:es.size<=AL:=by
  have hz:es.size<scanBound:=let ⟨_,_,_,_,_,_,hz,_⟩:=hS;hz
  have hsl:=sizeLine_eq
  unfold scanBound at hz
  lia
 unfold collect
 refine AE (wpAny_runValue (codeAny_builtin F.entry_proto_collect ?_));rw [Around.under_plainId F.plain_proto_collect _]
 show AG _ A.in1 (newList []>>=fun l=>again (.builtin "list.__iadd__" ⟨[l,.ref a],[]⟩)) _ _ s;refine AE (wpAny_newObj_type ?_)
 refine AJ ⟨plainId_quiet F.plain_list_iadd _,codeAny_builtin F.entry_list_iadd ?_⟩;rw [Around.under_plainId F.plain_list_iadd _]
 show AG _ A.in1 (Builtin.List.listExtendWith (.ref s.heap.objs.size) (.ref a) (.ref s.heap.objs.size)) _ _ _
 have hS0:(s.heap.push {cls:= .type "list",data:= .seq ([]:List AA).toArray}).get? s.heap.objs.size=some {cls:= .type "list",data:= .seq ([]:List AA).toArray}:=An _ rfl
 have hSX:=hS.at' (h':=s.heap.push {cls:= .type "list",data:= .seq ([]:List AA).toArray}) fun o e=>AY _ e
 have hk0:∀b o,s.heap.get? b=some o->(s.heap.push {cls:= .type "list",data:= .seq ([]:List AA).toArray}).get? b=some o:=fun b o e=>AY _ e
 have hsz:(s.heap.push {cls:= .type "list",data:= .seq ([]:List AA).toArray}).objs.size=s.heap.objs.size+1:=Heap.size_push ..
 generalize hH:s.heap.push {cls:= .type "list",data:= .seq ([]:List AA).toArray}=H at hS0 hSX hk0 hsz ⊢
 unfold Builtin.List.listExtendWith
 refine AE (wpAny_typeOf (T:="set") hSX.typeIs ?_)
 have hne:s.heap.objs.size≠a:=Nat.ne_of_gt hlt
 have h1:Builtin.List.listSameRef (.ref s.heap.objs.size) (.ref a)=false:=by simp [Builtin.List.listSameRef,hne]
 have h2:(Value.type "set"==Value.type "list")=false:=by decide
 have h3:(Value.type "set"==Value.type "tuple")=false:=by decide
 simp only [h1,h2,h3,Bool.or_false,Av,if_false]
 refine AE (b9C hSX fun h' d I fp St ord hk hI hfp hp W hst=> ?_)
 refine AE (wpAny_holding (b5o (hSX.at' fun o e=>hk _ _ e).typeIs ?_))
 have hSf:s.heap.objs.size∉fp:=fun hb=>by
  rcases hfp _ hb with h|h
  ·rw [hsz] at h;exact absurd h (Nat.not_le.mpr (Nat.lt_succ_self _))
  ·exact hne h
 have hIlt:s.heap.objs.size<I:=by
  have hI':s.heap.objs.size+1<=I:=by rw [<-hsz];exact hI
  exact hI'
 have key:∀(h2:Heap) (c₁:Nat),St 0 h2->(∀b o,b≠s.heap.objs.size->s.heap.get? b=some o->h2.get? b=some o)->h2.get? s.heap.objs.size=some {cls:= .type "list",data:= .seq #[] c₁}->
  codeAny (model prog w) A (.builtin "list.extend.loop" ⟨[.ref s.heap.objs.size,.ref I,.ref s.heap.objs.size],[]⟩) (fun r s'=>match r with| .ok (.ret v)=>AG (model prog w) A (match v with| .ref a=>(do let o<-load a;match o.data with| .seq xs _=>pure xs.toList|_=>unsupported "internal:collect")|_=>unsupported "internal:collect") Q E s'| .ok _=>False| .error e=>E e s') {s with heap:=h2,drawn:=d}:=by
  intro h2 c₁ hst2 hk2 hS2
  refine codeAny_extend_loopS (W A.in1 hh).toS hn s.heap.objs.size hSf _ es.size 0 _ #[] c₁ rfl (Nat.zero_le _) hst2 hS2 (ItemsOf.nil _) fun s' acc' c' hm hS' hacc=> ?_
  show AG _ A (load s.heap.objs.size>>=_) _ _ _
  refine AE (wpAny_load hS' ?_)
  have e:acc'.toList=ord:=by
   have hl:ord.length=es.size:=by have:=hp.length_eq;simpa using this
   apply List.ext_getElem?
   intro j
   by_cases hj:j<acc'.size
   ·have h1:j<acc'.size:=hj
    have:=hacc.2 j acc'[j] (by simp [h1])
    rw [this,Array.getElem?_toList,getElem?_pos acc' j h1]
   ·rw [Array.getElem?_toList,getElem?_neg acc' j hj,List.getElem?_eq_none (by rw [hl,<-hacc.1];lia)]
  refine AJ ?_
  obtain⟨h3,g3,d3,tk3,os3⟩:=s'
  have eg:g3=s.gens:=hm.gens
  have ed:d3=d:=hm.drawn
  have eo:os3=s.os:=hm.os
  subst eg;subst ed;subst eo
  show Q acc'.toList _
  rw [e]
  refine hQ h3 tk3 d3 ord (fun b o q=> ?_) hp
  have hblt:=Ad q
  refine hm.heap b o (fun hb=> ?_) (hk2 b o (Aj hblt) q)
  rcases AV.mp hb with h|h
  ·exact absurd hblt (by rw [h];exact Nat.lt_irrefl _)
  ·rw [List.mem_singleton.mp h] at hblt;exact absurd hblt (Nat.not_lt.mpr (BF hIlt))
 refine wpAny_ite_split (fun _=> ?_) (fun _=>AJ ⟨plainId_quiet PySem.F.plain_extend_loop _,key _ _ hst (fun b o hb q=>hk _ _ (hk0 _ _ q)) (hk _ _ hS0)⟩)
 refine AE (wpAny_rule ?_)
 refine AE ?_
 show AG _ _ (updateSeq s.heap.objs.size (·.push .none)>>=fun _=>updateSeq s.heap.objs.size (·.pop)) _ _ _
 have hS1:=hk _ _ hS0
 refine AE (wpAny_updateSeq hS1 rfl ?_)
 have hS₂:=Heap.get?_update_self (Obj.mapSeq (·.push Value.none)) hS1 rfl
 refine wpAny_updateSeq (hz:=by seq_fits) hS₂ rfl ?_
 have hS₃:=Heap.get?_update_self (Obj.mapSeq (·.pop)) hS₂ rfl
 refine AJ ⟨plainId_quiet PySem.F.plain_extend_loop _,key _ _ ?_ (fun b o hb e=> ?_) hS₃⟩
 ·refine(W A.in1 hh).frame 0 _ _ hst fun b hb o e=> ?_
  have hbS:b≠s.heap.objs.size:=fun h=>hSf (h▸hb)
  exact(Heap.get?_update_other _ _ (Ne.symm hbS)).trans ((Heap.get?_update_other _ _ (Ne.symm hbS)).trans e)
 ·exact(Heap.get?_update_other _ _ (Ne.symm hb)).trans ((Heap.get?_update_other _ _ (Ne.symm hb)).trans (hk _ _ (hk0 _ _ e)))
theorem b0O{l:AB}{C:List AA->Prop}{Q:AA->AC->Prop}
 (hcol:∀(Q':List AA->AC->Prop) (E':AA->AC->Prop),(∀h1 tk d vs,(∀b o,s.heap.get? b=some o->h1.get? b=some o)->C vs->Q' vs {s with heap:=h1,toks:=tk,drawn:=d})->AG (model prog w) A.in1 (collect (.ref l)) Q' E' s)
 (hC:∀vs,C vs->vs.length<64/\∃ss,StrsAre vs ss)
 (h:∀(h1 h':Heap) (tk:Tok) d (e:Nat) (vs us:List AA) (ss:List Str),(∀b o',s.heap.get? b=some o'->h1.get? b=some o')->(∀b o',h1.get? b=some o'->h'.get? b=some o')->C vs->StrsAre vs ss->StrsAre us (Y6 ss)->
  h'.get? h1.objs.size=some (seqObj "list" us.toArray e)->Q (.ref h1.objs.size) {s with heap:=h',toks:=tk,drawn:=d}):
 AG (model prog w) A (call (.builtin "sorted") [.ref l]) Q E s:=by
 refine Calls.call_function_entry kind_sorted plain_sorted entry_sorted (args_sorted1 _) ?_
 unfold Builtin.«sorted»
 refine AE (m:=checkCount "sorted" 1 1 _) (AJ ?_)
 refine AE (hcol _ _ fun h1 tk d vs k1 hv=> ?_)
 obtain⟨h64,ss,hS⟩:=hC vs hv
 refine AE (wpAny_newList ?_ (by rw [sizeLine_eq];lia))
 have hoL:(h1.push (seqObj "list" vs.toArray 0)).get? h1.objs.size=some (seqObj "list" vs.toArray 0):=An _ rfl
 show AG _ _ _ _ _ {s with heap:=h1.push (seqObj "list" vs.toArray 0),toks:=tk,drawn:=d}
 refine AE (wpAny_holding (wpAny_call_entry slot_list_sort ⟨_,hoL,rfl⟩ entry_list_sort (list_sort_treeK strKind_oneLt hoL hS.keysOf (fun v₁ v₂ B7 e=>keyKind_strs (by rw [<-e];exact hS)) h64 fun st' a1 a2=>⟨_,rfl, ?_⟩) (args_list_sort _)))
 obtain⟨ss',g1,g2,g3⟩:=sorted_out_str hS a1 a2
 have e1:ss'=Y6 ss:=a0k (a7t g3) (O9 ss) (g2.trans (M7 ss).symm)
 subst e1
 obtain⟨e,he⟩:=sortedHeap_at (out:=(arrOf st').map (·.2)) hoL
 refine AJ ⟨_,rfl,h h1 _ tk d e vs _ ss k1 (fun b o' hb1=> ?_) hv hS g1 (by rw [Array.toArray_toList];exact he)⟩
 have hlt:=Ad hb1
 rw [sortedHeap_old (Aj hlt) (by rw [size_push'];exact Nat.lt_succ_of_lt hlt),Heap.get?_push_ne _ _ _ (Aj hlt)]
 exact hb1
end
def b1q(x:Str):List Str->List Str
 |[]=>[x]
 |y::r=>if x=y then y::r else if y.cps.toList<x.cps.toList then y::b1q x r else x::y::r
def S1:List Str->List Str
 |[]=>[]
 |x::r=>b1q x (S1 r)
theorem a6v(x z:Str):∀l:List Str,z∈b1q x l↔z=x\/z∈l
 |[]=>by simp [b1q]
 |y::r=>by
  unfold b1q
  split
  ·rename_i c;subst c
   rw [AV]
   exact⟨fun h=> .inr h,fun h=>h.elim .inl id⟩
  ·split
   ·rw [AV,a6v x z r,AV]
    exact⟨fun h=>h.elim (fun h=> .inr (.inl h)) fun h=>h.elim .inl fun h=> .inr (.inr h),fun h=>h.elim (fun h=> .inr (.inl h)) fun h=>h.elim .inl fun h=> .inr (.inr h)⟩
   ·rw [AV]
theorem a4W(z:Str):∀l:List Str,z∈S1 l↔z∈l
 |[]=>Iff.rfl
 |x::r=>by unfold S1;rw [a6v,a4W z r,AV]
def ltS(a b:Str):Prop:=a.cps.toList<b.cps.toList
theorem b3L{a b c:Str}(h:ltS a b)(g:ltS b c):ltS a c:=List.lt_trans h g
theorem b2q(x:Str):∀{l:List Str},l.Pairwise ltS->(b1q x l).Pairwise ltS
 |[],_=>List.pairwise_singleton _ _
 |y::r,h=>by
  unfold b1q
  have h':=List.pairwise_cons.mp h
  split
  ·exact h
  ·rename_i c
   split
   ·rename_i c2
    refine List.pairwise_cons.mpr ⟨fun z hz=> ?_,b2q x h'.2⟩
    rcases(a6v x z r).mp hz with e|e
    ·subst e;exact c2
    ·exact h'.1 z e
   ·rename_i c2
    have hxy:ltS x y:=by
     have h1:leS x y:=c2
     rcases Classical.em (ltS x y) with h|h
     ·exact h
     ·exact absurd (a6H h1 h) c
    refine List.pairwise_cons.mpr ⟨fun z hz=> ?_,h⟩
    rcases AV.mp hz with e|e
    ·subst e;exact hxy
    ·exact b3L hxy (h'.1 z e)
theorem a32:∀l:List Str,(S1 l).Pairwise ltS
 |[]=>List.Pairwise.nil
 |x::r=>b2q x (a32 r)
theorem b7M(a:Str):¬ltS a a:=List.lt_irrefl _
theorem b0Y{l:List Str}(h:l.Pairwise ltS):l.Nodup:=h.imp fun {a b} c e=>by subst e;exact b7M a c
theorem c1H{l:List Str}(h:l.Pairwise ltS):l.Pairwise leS:=h.imp fun {a b} c=>List.lt_asymm c
theorem b1V{l zs:List Str}(h:l.Pairwise leS)(nd:l.Nodup)(m:∀x,x∈l↔x∈zs):l=S1 zs:=
 a0k h (c1H (a32 zs)) ((List.perm_ext_iff_of_nodup nd (b0Y (a32 zs))).mpr fun x=>(m x).trans (a4W x zs).symm)
def D2(z:Str):List Str:=z.cps.toList.map fun c=>(⟨#[c]⟩:Str)
theorem b8m(z x:Str):x∈sgs z z.cps.size↔x∈D2 z:=by
 unfold sgs D2
 rw [List.mem_reverse,AZ,AZ]
 constructor
 ·rintro⟨i,hi,rfl⟩
  have hi:=List.mem_range.mp hi
  refine⟨z.cps[i],by simp, ?_⟩
  unfold b37
  rw [Array.getD_eq_getD_getElem?,getElem?_pos z.cps i hi];rfl
 ·rintro⟨c,hc,rfl⟩
  obtain⟨i,hi,rfl⟩:=List.getElem_of_mem hc
  have hi':i<z.cps.size:=by simpa using hi
  refine⟨i,List.mem_range.mpr hi', ?_⟩
  unfold b37
  rw [Array.getD_eq_getD_getElem?,getElem?_pos z.cps i hi'];rfl
def a1T(x:d7):Option d7:=match x with
 | .val (.str z)=>if z.length+1<4096/\(S1 (D2 z)).length<64 then some (.own ((S1 (D2 z)).map .str)) else none
 |_=>none
theorem a7v:∀{vs:List AA},(∀v∈vs,∃x t,v= .str x t)->StrsAre vs (vs.map sOf)
 |[],_=> .nil
 |v::r,h=>by
  obtain⟨x,t,rfl⟩:=h v AX
  exact .cons x t (a7v fun u hu=>h u (Ac _ hu))
theorem a5n:∀{vs:List AA} {ss:List Str},StrsAre vs ss->ss=vs.map sOf
 |_,_,.nil=>rfl
 |_,_,.cons x t h=>by rw [AK,<-a5n h];rfl
section
variable {X:Cx}{pins:List (AB×Obj)}{σ:L2.St}{H:Hp}{s:AC}
theorem b7B(I:g9 X pins σ H s)(d:Drawn):g9 X pins σ H {s with drawn:=d}:=⟨I.ok,I.os,I.bare,I.base,I.loc,I.cell,I.free,I.freeC,I.pin,I.hok,I.len⟩
def c1o(X:Cx):List V->Hp->VK->Prop:=fun xs H Q=>∃z:Str,xs=[.str z]/\z.length+1<4096/\∀p es ep,H p=none->TxE es (D2 z)->es.size<=z.length->Q (.ref p) (upd H p (.ext fun h=>E1 X.prog X.w h p es ep))
theorem b3b(hc:X.calm=true):A6 X (.type "set") (c1o X):=by
 intro pins s σ H xs us Q I rv h
 obtain⟨z,rfl,hz,q⟩:=h
 obtain⟨u,rfl,ru⟩:=Y7 rv
 obtain⟨t,rfl⟩:=ru
 refine c1s (I.ok.hd hc) (by unfold scanBound;exact hz) fun h' tk es ep hS hT hle hk=> ?_
 refine⟨.ref s.heap.objs.size,_,I.laid (a:=s.heap.objs.size) (t':=tk) (o:= .ext fun h=>E1 X.prog X.w h s.heap.objs.size es ep) (fun b o e=>hk b o (Ad e) e) (AM _) ⟨hS, ?_, ?_⟩,rfl,q _ es ep (I.hok.fresh (AM _)) ⟨hT.all,hT.nd,fun x=>(hT.mem x).trans (b8m z x)⟩ hle⟩
 ·obtain⟨o,_,ho,_⟩:=hS;exact⟨o,ho⟩
 ·exact fun h1 h2 p k=>p.at' k
def c0l(X:Cx):List V->Hp->VK->Prop:=fun xs H Q=>∃p es ep zs,xs=[.ref p]/\H p=some (.ext fun h=>E1 X.prog X.w h p es ep)/\TxE es zs/\(S1 zs).length<64/\∀q,H q=none->Q (.ref q) (upd H q (.lst ((S1 zs).map V.str)))
theorem b1d(hc:X.calm=true):A6 X (.builtin "sorted") (c0l X):=by
 intro pins s σ H xs us Q I rv h
 obtain⟨p,es,ep,zs,rfl,hp,hT,h64,q⟩:=h
 obtain⟨u,rfl,ru⟩:=Y7 rv
 cases ru
 obtain⟨hS,_,_⟩:=(show y4 X.prog X.w H s.heap p (.ext fun h=>E1 X.prog X.w h p es ep) from I.hok p _ hp)
 have facts:∀vs:List AA,vs.Perm (es.toList.map (·.2))->StrsAre vs (vs.map sOf)/\Y6 (vs.map sOf)=S1 zs:=fun vs pm=>by
  refine⟨a7v fun v hv=> ?_, ?_⟩
  ·obtain⟨e,he,rfl⟩:=AZ.mp (pm.mem_iff.mp hv)
   exact hT.all e he
  ·have pk:(Y6 (vs.map sOf)).Perm (a6F es):=by
    refine(M7 _).trans ?_
    have:=pm.map sOf
    rw [As] at this
    exact this
   exact b1V (O9 _) (pk.nodup_iff.mpr hT.nd) fun x=>(pk.mem_iff).trans (hT.mem x)
 refine b0O (C:=fun vs=>vs.Perm (es.toList.map (·.2))) (fun Q' E' hq=>b3e (A:=X.A.in1) (I.ok.hd hc) hS fun h' tk d ord kp pm=>hq h' tk d ord kp pm) (fun vs pm=> ?_) fun hp1 hp2 tk d en vs us ss k1 k2 pm hs hu he=> ?_
 ·obtain⟨f1,f2⟩:=facts vs pm
  refine⟨?_,_,f1⟩
  have:=(M7 (vs.map sOf)).length_eq
  rw [f2,AO] at this
  lia
 ·obtain⟨f1,f2⟩:=facts vs pm
  cases a5n hs
  rw [f2] at hu
  have I1:g9 X pins σ H {s with heap:=hp1,toks:=tk,drawn:=d}:=b7B (I.kept (t':=tk) k1) d
  have hf:H hp1.objs.size=none:=I1.hok.fresh (AM _)
  exact⟨.ref hp1.objs.size,_,I1.laid (t':=tk) (h':=hp2) (o:= .lst ((S1 zs).map V.str)) k2 (AM _) ⟨by rw [AO,sizeLine_eq];lia,us,en,a4X hu,he⟩,rfl,q _ hf⟩
theorem b1h{e:AF}{m:M}{p p2 pos pos2:Pos}(hc:X.calm=true)(hg:Gl X "sorted")(hm:X.mg "sorted"=none)(hg2:Gl X "set")(hm2:X.mg "set"=none)(ha:EE X e m)
 (hv:bootBuiltins "sorted"=some (.builtin "sorted"):=by rfl) (hv2:bootBuiltins "set"=some (.type "set"):=by rfl)
 (hs:AT [e] X.env=(false,eval e X.env)::AT [] X.env:=by rfl) (hpl:(backTo pos2 (AT [] X.env)).any (·.1)=false:=by rfl)
 (hs2:AT [.Call (.Name "set" p2) [e] [] pos2] X.env=(false,eval (.Call (.Name "set" p2) [e] [] pos2) X.env)::AT [] X.env:=by rfl) (hpl2:(backTo pos (AT [] X.env)).any (·.1)=false:=by rfl):
 EE X (.Call (.Name "sorted" p) [.Call (.Name "set" p2) [e] [] pos2] [] pos) (m1 a1T m):=
 u0 (a3W (b1d hc) hg hm hv (x8 (a4K (b3b hc) hg2 hm2 hv2 (x8 ha K6 hs) (by decide) (by decide) hs hpl) K6 hs2) (by decide) (by decide) hs2 hpl2) fun σ H Q ⟨F,ρ,r,en,em,k⟩=>by
  obtain⟨rx,e1,e2⟩:=bind_some em
  refine⟨F,ρ,rx,en,e1,fun v F1 H1 o1=> ?_⟩
  unfold a1T at e2
  split at e2
  ·rename_i z
   split at e2
   ·rename_i c
    cases e2
    refine⟨z,by rw [show v=V.str z from o1.rep],c.1,fun p es ep hp hT hle=> ?_⟩
    refine⟨p,es,ep,D2 z,rfl,g5,hT,c.2,fun q hq=>k _ F1 _ ?_⟩
    have s1:j8 F1 (upd H1 p (.ext fun h=>E1 X.prog X.w h p es ep)):=o1.x.fh.trans (C5 hp)
    have x1:U4 F1 H1 F1 (upd H1 p (.ext fun h=>E1 X.prog X.w h p es ep)):=U4.layH o1.x.fh hp
    exact u6.trans (o1.x.trans x1) (u6.lst x1.fh hq (a4O _))
   ·cases e2
  ·cases e2
end
theorem b1m(z:Str):a1T (.val (.str z))=if z.length+1<4096/\(S1 (D2 z)).length<64 then some (.own ((S1 (D2 z)).map .str)) else none:=Eq.trans rfl rfl
open PySem PySem.Spec PyProof.Rows L2
theorem a4Y(k:g0):∀xs:List (g0×V),Q1 (xs.map s1) [k]=Q1 xs k
 |[]=>rfl
 |x::r=>by
  rw [AK]
  by_cases c:x.1=k
  ·rw [a0U (p:=x) c,a0U (p:=s1 x) (by show [x.1]=[k];rw [c])];rfl
  ·rw [a0T (p:=x) c,a0T (p:=s1 x) (by show ¬[x.1]=[k];intro h;exact c (List.cons.inj h).1),a4Y k r]
theorem b4w(k:g0):∀xs:List (g0×V),((xs.map s1).any fun kv=>decide (kv.1=[k]))=(xs.any fun kv=>decide (kv.1=k))
 |[]=>rfl
 |x::r=>by
  rw [AK,List.any_cons,List.any_cons,b4w k r]
  congr 1
  show decide ([x.1]=[k])=decide (x.1=k)
  simp
theorem b2N(k:g0)(v:V):∀xs:List (g0×V),(xs.map fun kv=>if kv.1=k then(kv.1,v) else kv).map s1=(xs.map s1).map fun kv=>if kv.1=[k] then(kv.1,v) else kv
 |[]=>rfl
 |x::r=>by
  rw [AK,AK,AK,AK,b2N k v r]
  congr 1
  by_cases c:x.1=k
  ·rw [if_pos c,if_pos (show(s1 x).1=[k] by show [x.1]=[k];rw [c])];rfl
  ·rw [if_neg c,if_neg (show ¬(s1 x).1=[k] by show ¬[x.1]=[k];intro h;exact c (List.cons.inj h).1)]
theorem c0h(k:g0)(v:V)(xs:List (g0×V)):(a1c xs k v).map s1=a1c (xs.map s1) [k] v:=by
 unfold a1c
 rw [b4w]
 split
 ·exact b2N k v xs
 ·rw [BC];rfl
theorem u6.txt{K:AD}{F H:Hp}{a:AB}(s:j8 F H)(n:H a=none):u6 K F H F (upd H a (.dK [])) (.ref a) (.ow (.txt [])):=
 ⟨U4.layH s n,⟨a,[],rfl,s.free n,g5,rfl⟩,fun _ _ _ e=>by cases e;exact n⟩
theorem a6E{K:AD}{F H:Hp}{r:d7}{x:Str}{v:V}(e:a9l r=some x)(h:M1 K F H v r):v=kV (.inr x):=by
 unfold a9l at e
 split at e
 ·cases e;exact h
 ·cases e
section
variable {X:Cx}
def b7P:M:=fun _=>some (.ow (.txt []))
theorem b46{pos:Pos}:EE X (.Dict [] [] pos) b7P:=
 u0 b6l fun σ H Q ⟨F,ρ,r,en,e,k⟩=>by
  cases e
  exact fun d hd=>k _ _ _ (u6.txt en.fh hd)
def b0V(i:Nat)(ρ:c7)(p:PV)(x:Str):Option Fl:=match ρ[i]? with
 |some (some (.ow (.txt kvs)))=>if kvs.length<AL then some (.nx (ρ.set i (some (.ow (.txt (L5 kvs [.inr x] p)))))) else none
 |_=>none
def b2z(i:Nat)(mk mv:M):MS:=fun ρ=>((mv ρ).bind d7.toVal).bind fun p=>((mk ρ).bind a9l).bind (b0V i ρ p)
theorem b2f(i:Nat){x:Str}{p tp2 pos:Pos}{ek e:AF}{mk mv:M}(hu:X.A.units+64<cLine)(hx:PE X (.Name x p) (C7 i))(hi:EE X ek mk)(he:EE X e mv)
 (hs:swapsWith e (some (.Subscript (.Name x p) ek tp2)) pos.line X.env=pure false:=by rfl):ES X (.Assign [.Subscript (.Name x p) ek tp2] e pos) (b2z i mk mv):=
 K7 (b2G (by lia) hx hi he hs) fun D σ H ⟨F0,H0,F,ρ,fl,so,e,fin⟩=>by
  obtain⟨q,e1,e⟩:=bind_some e
  obtain⟨r,e2,e3⟩:=bind_some e1
  obtain⟨k,e4,e⟩:=bind_some e
  obtain⟨rk,e4,e5⟩:=bind_some e4
  refine⟨F,ρ,r,so.e,e2,fun v F1 H1 o=> ?_⟩
  obtain⟨F2,o2⟩:=o.toVal e3
  have so2:=so.ext o2.x
  unfold b0V at e
  split at e
  ·rename_i kvs eo
   split at e
   ·rename_i hl
    cases e
    obtain⟨w,hw1,a,xs,rfl,fa,ha',rl⟩:=so2.e.at_ i _ eo
    refine⟨.ref a,hw1,F2,ρ,rk,so2.e,e4,fun y F3 H3 o3=> ?_⟩
    cases a6E e5 o3.rep
    have ha3:=o3.x.h _ _ ha'
    have so3:=so2.ext o3.x
    have hlen:xs.length=kvs.length:=by have:=rl.length;rwa [AO] at this
    refine⟨a,_,rfl,a9N.k (k:= .inr k) ha3 (by rw [hlen];exact hl), ?_⟩
    refine fin σ _ _ (o2.x.f.trans o3.x.f) (so3.putT eo hw1 ?_)
    rw [c0h]
    exact(u8.mono o3.x.f _ rl).put (x4.mono o3.x.f _ o2.rep)
   ·cases e
  ·cases e
def b0U(i:Nat)(ρ:c7)(x:Str):Option d7:=match ρ[i]? with
 |some (some (.ow (.txt kvs)))=>(n6 kvs [.inr x]).map .val
 |_=>none
def b2y(i:Nat)(mk:M):M:=fun ρ=>((mk ρ).bind a9l).bind (b0U i ρ)
theorem b7t(i:Nat){x:Str}{p pos:Pos}{ek:AF}{mk:M}(hu:X.A.units+64<cLine)(hx:PE X (.Name x p) (C7 i))(hi:EE X ek mk)(hs:b28 ek:=by intro _ _;rfl):EE X (.Subscript (.Name x p) ek pos) (b2y i mk):=
 u0 (a3X (by lia) hx hi hs) fun σ H Q ⟨F,ρ,r,en,e,k⟩=>by
  obtain⟨kk,e4,e⟩:=bind_some e
  obtain⟨rk,e4,e5⟩:=bind_some e4
  unfold b0U at e
  split at e
  ·rename_i kvs eo
   cases hv:n6 kvs [.inr kk] with
   |none=>rw [hv] at e;cases e
   |some q=>
    rw [hv] at e;cases e
    obtain⟨w,hw1,a,xs,rfl,fa,ha',rl⟩:=en.at_ i _ eo
    obtain⟨y,hy,ry⟩:=(rl.val (k:=[.inr kk])).1 q hv
    rw [a4Y] at hy
    refine⟨.ref a,hw1,F,ρ,rk,en,e4,fun z F3 H3 o3=> ?_⟩
    cases a6E e5 o3.rep
    exact⟨a,y,rfl,by rw [<-hy];exact a1x.k (o3.x.h _ _ ha'),k _ _ _ (u6.val o3.x (x4.mono o3.x.f _ ry))⟩
  ·cases e
def a7x(i:Nat)(ρ:c7)(x:Str)(d:PV):Option d7:=match ρ[i]? with
 |some (some (.ow (.txt kvs)))=>some (.val ((n6 kvs [.inr x]).getD d))
 |_=>none
def b1E(i:Nat)(mk md:M):M:=fun ρ=>((mk ρ).bind a9l).bind fun x=>((md ρ).bind d7.toVal).bind fun d=>a7x i ρ x d
theorem b44(i:Nat){x:Str}{p apos cpos:Pos}{ek f:AF}{mk:M}{md:M}(hu:X.A.units+64<cLine)(hx:PE X (.Name x p) (C7 i))(hi:EE X ek mk)(hf:EE X f md)
 (m:M2 X (.Name x p) "get" apos ek f cpos:=by exact⟨rfl,rfl,rfl,rfl⟩):EE X (.Call (.Attribute (.Name x p) "get" apos) [ek,f] [] cpos) (b1E i mk md):=
 u0 (b6k (by lia) hx hi hf m) fun σ H Q ⟨F,ρ,r,en,e,k⟩=>by
  obtain⟨kk,e4,e⟩:=bind_some e
  obtain⟨rk,e4,e5⟩:=bind_some e4
  obtain⟨d,e6,e⟩:=bind_some e
  obtain⟨rd,e6,e7⟩:=bind_some e6
  unfold a7x at e
  split at e
  ·rename_i kvs eo
   cases e
   obtain⟨w,hw1,a,xs,rfl,fa,ha',rl⟩:=en.at_ i _ eo
   refine⟨.ref a,hw1,a,rfl,.inl ⟨xs,.inl ha'⟩,F,ρ,rk,en,e4,fun y F3 H3 o3=> ?_⟩
   cases a6E e5 o3.rep
   refine⟨_,ρ,rd,en.ext o3.x,e6,fun z F4 H4 o4=> ?_⟩
   obtain⟨F5,o5⟩:=o4.toVal e7
   have x5:=o3.x.trans o5.x
   refine⟨_,a1x.k (k:= .inr kk) (o5.x.h _ _ (o3.x.h _ _ ha')),k _ _ _ (u6.val x5 ?_)⟩
   cases hv:n6 kvs [.inr kk] with
   |none=>
    have:=(rl.val (k:=[.inr kk])).2 hv
    rw [a4Y] at this
    rw [this]
    exact o5.rep
   |some q=>
    obtain⟨y,hy,ry⟩:=(rl.val (k:=[.inr kk])).1 q hv
    rw [a4Y] at hy
    rw [hy]
    exact x4.mono x5.f _ ry
  ·cases e
end
theorem b0v(ρ:c7):b7P ρ=some (.ow (.txt [])):=Eq.trans rfl rfl
theorem a8C(i:Nat)(mk mv:M)(ρ:c7):b2z i mk mv ρ=((mv ρ).bind d7.toVal).bind fun p=>((mk ρ).bind a9l).bind (b0V i ρ p):=Eq.trans rfl rfl
theorem b3O(i:Nat)(mk:M)(ρ:c7):b2y i mk ρ=((mk ρ).bind a9l).bind (b0U i ρ):=Eq.trans rfl rfl
theorem b1F(i:Nat)(mk md:M)(ρ:c7):b1E i mk md ρ=((mk ρ).bind a9l).bind fun x=>((md ρ).bind d7.toVal).bind fun d=>a7x i ρ x d:=Eq.trans rfl rfl
abbrev ItO(f0:AA)(f1:Bool)(d:AB)(i n ep:Nat)(ok ov:AA):Obj:={cls:= .type "dict_itemiterator",dict:=none,data:= .fields #[f0,.bool f1,.ref d,.int i 0,.int n 0,.int ep 0,ok,ov],slots:= #[]}
def ItA(h:Heap)(it d:AB)(i n ep:Nat):Prop:=∃f0 f1 ok ov,h.get? it=some (ItO f0 f1 d i n ep ok ov)/\((f0= .none/\f1=false)\/∃a o,f0=rawInt (a:Nat)/\h.get? a=some o/\a≠it)
theorem ItA.at'{h h':Heap}{it d:AB}{i n ep:Nat}(x:ItA h it d i n ep)(e:∀b o,h.get? b=some o->h'.get? b=some o):ItA h' it d i n ep:=by
 obtain⟨f0,f1,ok,ov,h1,h2⟩:=x
 refine⟨f0,f1,ok,ov,e _ _ h1, ?_⟩
 rcases h2 with h2|⟨a,o,h2,h3,h4⟩
 ·exact .inl h2
 ·exact .inr ⟨a,o,h2,e _ _ h3,h4⟩
section
variable {prog:AN}{w:AI}{K:Type}[DecidableEq K]{knd:KeyKind prog w K}{A:AR}{E:AA->AC->Prop}{s:AC}
end
section
variable {prog:AN}{w:AI}{A:AR}{E:AA->AC->Prop}{s:AC}
def b07(h:Heap)(lo:Nat)(v:AA)(kv:g0×AA):Prop:=∃a key,v= .ref a/\lo<=a/\a3I kv.1 key=true/\h.get? a=some {cls:= .type "tuple",data:= .seq #[key,kv.2]}
theorem b07.keep{h h':Heap}{lo:Nat}{v:AA}{kv:g0×AA}(x:b07 h lo v kv)(e:∀b o,lo<=b->(∀xs n,o.data= .seq xs n->o.cls= .type "tuple"->h.get? b=some o->h'.get? b=some o)):b07 h' lo v kv:=
 let ⟨a,key,r,l,k,g⟩:=x;⟨a,key,r,l,k,e a _ l _ _ rfl rfl g⟩
end
end PU
namespace TS
open PySem PySem.Spec PyProof.Rows L2 PU
section
variable {prog:AN}{w:AI}{A:AR}{E:AA->AC->Prop}{s:AC}
variable {κ:SortKind}{S:Heap->Keyed->Prop}{R:Heap->Keyed->Keyed->Bool}
end
end TS
namespace PU
open PySem PySem.Spec PyProof.Rows L2 PySem.W
section
variable {X:Cx}{pins:List (AB×Obj)}{σ:L2.St}{H H':Hp}{s:AC}{h':Heap}
theorem g9.many{t':Nat}(I:g9 X pins σ H s)(k:∀b u,s.heap.get? b=some u->h'.get? b=some u)(old:∀b,b<s.heap.objs.size->H' b=H b)(new:∀b o,s.heap.objs.size<=b->H' b=some o->y4 X.prog X.w H' h' b o):
 g9 X pins σ H' {s with heap:=h',toks:=t'}:=by
 have tr:∀b o,H b=some o->H' b=some o:=fun b o e=>by rw [old b (I.hok.lt e)];exact e
 refine I.un ⟨fun b u q _ _ _=>k b u q,fun b u q _ _ _=>⟨u.slots,k b u q⟩,fun b u q n _=>by rw [old b (Ad q)];exact n,fun b u q _=>⟨u,k b u q⟩,fun b xs q=>tr b _ q,fun b u xs q=>tr b _ q,fun b ps q=>⟨#[],by rw [tr b _ q];simp⟩⟩ fun b o e=> ?_
 rcases Nat.lt_or_ge b s.heap.objs.size with hb|hb
 ·rw [old b hb] at e
  exact(I.hok b o e).stay (fun c v _ q=>k c v q) (fun c q=>tr c _ q) fun c xs q=>tr c _ q
 ·exact new b o hb e
end
theorem b5y{k:g0}{u:AA}(h:a3I k u=true):m3 (kV k) u:=by
 rcases v7 h with⟨i,t,rfl,rfl⟩|⟨x,t,rfl,rfl⟩
 ·exact⟨t,rfl⟩
 ·exact⟨t,rfl⟩
section
variable {X:Cx}
end
section
variable {X:Cx}
end
open PySem PySem.Spec PyProof.Rows L2
section
variable {X:Cx}{pins:List (AB×Obj)}{σ:L2.St}{H:Hp}{s:AC}{a:AB}{kvs:List (g0×V)}{k:g0}{v:V}{u r:AA}{A:AR}{E:AA->AC->Prop}
end
theorem b6L{K:AD}{H:Hp}{a D:AB}{xs:List V}{kvs kvs':List (g0×V)}(e:H D=some (.dK kvs))(h:Z1 K H a xs):Z1 K (upd H D (.dK kvs')) a xs:=by
 rcases h with(h|⟨o,h⟩)|h
 ·exact .inl (.inl (by rw [d8 (E8 h e (fun z=>nomatch z))];exact h))
 ·exact .inl (.inr ⟨o,by rw [d8 (E8 h e (fun z=>nomatch z))];exact h⟩)
 ·exact .inr h
def b4n(K:AD)(H:Hp)(p:g0×V)(x:V):Prop:=∃a,x= .ref a/\Z1 K H a [kV p.1,p.2]
theorem b4n.upd{K:AD}{H:Hp}{D:AB}{kvs kvs':List (g0×V)}(e:H D=some (.dK kvs)){p:g0×V}{x:V}(h:b4n K H p x):b4n K (upd H D (.dK kvs')) p x:=
 let ⟨a,h1,h2⟩:=h
 ⟨a,h1,b6L e h2⟩
section
variable {X:Cx}{pins:List (AB×Obj)}{σ:L2.St}{A:AR}{R:Result->AC->Prop}
end
section
variable {X:Cx}
end
section
variable {X:Cx}
end
abbrev tv(kvs:List (List g0×PV)):PV:= .dict (kvs.map fun kv=>(PyData.tuple (kv.1.map kP),kv.2))
def b6a(kvs:List (List g0×PV)):Bool:=kvs.all fun kv=>kv.1.length==1
def tvw(i:Nat)(ρ:c7):Option (List (List g0×PV)):=match ρ[i]? with
 |some (some (.val (.dict es)))=>(unE es).bind fun kvs=>if b6a kvs=true then some kvs else none
 |_=>none
theorem c0F{i:Nat}{ρ:c7}{kvs:List (List g0×PV)}(h:ρ[i]?=some (some (.val (tv kvs))))(ho:b6a kvs=true):tvw i ρ=some kvs:=by
 unfold tvw
 rw [h]
 show(unE _).bind _=_
 rw [b1Z,AH,if_pos ho]
theorem b6W{K:AD}{F H:Hp}{σ:L2.St}{ρ:c7}(en:A3 K F H σ ρ){i:Nat}{kvs:List (List g0×PV)}(h:tvw i ρ=some kvs):∃a xs,σ[i]?=some (some (.ref a))/\F a=some (.dK xs)/\u8 K F kvs (xs.map s1):=by
 unfold tvw at h
 split at h
 ·rename_i es eo
  obtain⟨kvs',e1,h⟩:=bind_some h
  split at h
  ·rename_i ho
   cases h
   obtain⟨v,hv,hr⟩:=en.at_ i _ eo
   rcases hr with⟨a,ys,rfl,ha,hr⟩|⟨a,xs,rfl,ha,hr⟩|⟨x,t,e,_⟩
   ·obtain⟨kvs',h1,h2⟩:=a5W hr
    rw [e1] at h1
    cases h1
    exact⟨a,ys,hv,ha,h2⟩
   ·exfalso
    obtain⟨kvs',h1,h2⟩:=a5W hr
    rw [e1] at h1
    cases h1
    cases kvs with
    |nil=>cases h2
    |cons f fs=>
     obtain⟨k,p⟩:=f
     obtain⟨v,t,e,_⟩:=h2
     cases e
     simp [b6a] at ho
   ·subst e
    simp [unE] at e1
  ·cases h
 ·cases h
section
variable {X:Cx}
end
mutual
def nk:PV->Bool
 | .list ps=>nkL ps
 | .tuple ps=>nkL ps
 | .dict _=>false
 |_=>true
def nkL:List PV->Bool
 |[]=>true
 |p::ps=>nk p && nkL ps
end
def nkD:List (List g0×PV)->Bool
 |[]=>true
 |(_,p)::r=>nk p && nkD r
def d7.noK:d7->Bool
 | .val p=>nk p
 | .ow (.lst ps)=>nkL ps
 | .ow (.dct kvs)=>nkD kvs
 | .ow (.txt kvs)=>nkD kvs
 | .bo _=>false
section
variable {K:AD}{F:Hp}{a:AB}{xs:List (g0×V)}
mutual
theorem a69(ha:F a=some (.dK xs)):∀(p:PV) {v:V},x4 K F p v->nk p=true->x4 K (drp F a) p v
 | .none,_,h,_=>h
 | .bool _,_,h,_=>h
 | .int _,_,h,_=>h
 | .str _,_,h,_=>h
 | .list ps,_,⟨b,ys,e,q,r⟩,n=>⟨b,ys,e,(by
  rcases q with(q|⟨o,q⟩)|q
  ·exact .inl (.inl (by rw [K5 (E8 q ha (fun z=>nomatch z))];exact q))
  ·exact .inl (.inr ⟨o,by rw [K5 (E8 q ha (fun z=>nomatch z))];exact q⟩)
  ·exact .inr q),a2x ha ps r (by simpa [nk] using n)⟩
 | .tuple ps,_,⟨b,ys,e,q,r⟩,n=>⟨b,ys,e,(by
  rcases q with q|q
  ·exact .inl (by rw [K5 (E8 q ha (fun z=>nomatch z))];exact q)
  ·exact .inr q),a2x ha ps r (by simpa [nk] using n)⟩
 | .dict kvs,_,h,n=>by simp [nk] at n
theorem a2x(ha:F a=some (.dK xs)):∀(ps:List PV) {vs:List V},j0 K F ps vs->nkL ps=true->j0 K (drp F a) ps vs
 |[],_,h,_=>h
 |p::ps,_,⟨v,r,e,q,t⟩,n=>by
  simp only [nkL,Bool.and_eq_true] at n
  exact⟨v,r,e,a69 ha p q n.1,a2x ha ps t n.2⟩
end
theorem a4M(ha:F a=some (.dK xs)):∀(kvs:List (List g0×PV)) {ys:List (List g0×V)},u8 K F kvs ys->nkD kvs=true->u8 K (drp F a) kvs ys
 |[],_,h,_=>h
 |(k,p)::r,_,⟨v,t,e,q,h⟩,n=>by
  simp only [nkD,Bool.and_eq_true] at n
  exact⟨v,t,e,a69 ha p q n.1,a4M ha r h n.2⟩
theorem b35{H:Hp}{v:V}(ha:F a=some (.dK xs)):∀{r:d7},M1 K F H v r->r.noK=true->M1 K (drp F a) H v r
 | .val p,h,n=>a69 ha p h n
 | .ow (.lst ps),⟨b,ys,e,f,q,r⟩,n=>⟨b,ys,e,a0A f,q,a2x ha ps r n⟩
 | .ow (.dct kvs),⟨b,ys,e,f,q,r⟩,n=>⟨b,ys,e,a0A f,q,a4M ha kvs r n⟩
 | .ow (.txt kvs),⟨b,ys,e,f,q,r⟩,n=>⟨b,ys,e,a0A f,q,a4M ha kvs r n⟩
 | .bo _,_,n=>nomatch n
end
theorem b1y{K:AD}{F2 H1 F3 H3:Hp}{a:AB}{xs:List (g0×V)}{u:V}{r:d7}(fa:F2 a=none)(o3:u6 K (upd F2 a (.dK xs)) H1 F3 H3 u r)(c:r.noK=true):u6 K F2 H1 (drp F3 a) H3 u r:=by
 have up:j8 F2 (upd F2 a (.dK xs)):=C5 fa
 refine⟨⟨fun b o z=> ?_,o3.x.h,fun b o z=> ?_,fun b o z y t=> ?_,fun b w u z=> ?_⟩,b35 (o3.x.f _ _ g5) o3.rep c,o3.fr⟩
 ·have hb:b≠a:=j7 z fa
  rw [K5 hb];exact o3.x.f _ _ (up _ _ z)
 ·by_cases hb:b=a
  ·subst hb;rw [a0B] at z;cases z
  ·rw [K5 hb] at z;exact o3.x.fh _ _ z
 ·by_cases hb:b=a
  ·subst hb;exact a0B
  ·rw [K5 hb];exact o3.x.nw b o (by rw [d8 hb];exact z) y t
 ·by_cases hb:b=a
  ·subst hb;rw [a0B] at z;cases z
  ·rw [K5 hb] at z
   have:=o3.x.nf _ _ _ z
   rw [d8 hb] at this;exact this
theorem b5J{F2 H1:Hp}{a:AB}{xs:List (g0×V)}(fh:j8 F2 H1)(ha:H1 a=some (.dK xs)):j8 (upd F2 a (.dK xs)) H1:=fun b o z=>by
 by_cases hb:b=a
 ·subst hb;rw [g5] at z;cases z;exact ha
 ·rw [d8 hb] at z;exact fh _ _ z
theorem b3G{K:AD}{F2:Hp}{a:AB}{xs:List (g0×V)}{kvs:List (List g0×PV)}(fa:F2 a=none)(rl:u8 K F2 kvs (xs.map s1)):x4 K (upd F2 a (.dK xs)) (tv kvs) (.ref a):=Or.inl ⟨a,xs,rfl,g5,W3.of (C5 fa) rl⟩
def a5N(g:List PV->Option d7)(i:Nat)(m:M):M:=fun ρ=>((m ρ).bind d7.toVal).bind fun p=>match ρ[i]? with
 |some (some (.ow (.txt kvs)))=>(g [tv kvs,p]).bind fun r=>if r.noK=true then some r else none
 |_=>none
section
variable {X:Cx}
theorem b40(i:Nat){k k':Nat}{pa pb:Str}{g:List PV->Option d7}{x y:Str}{p py pos:Pos}{e:AF}{m:M}
 (d:t4 X.prog X.w X.K X.mg X.base x [pa,pb] k g) (hr:P4 k' X.A) (hk:k<=k') (hg:Gl X x) (hy:PE X (.Name y py) (C7 i)) (ha:EE X e m)
 (hdb:(x==("__debug__":Str))=false:=by decide) (he:AT [.Name y py,e] X.env=(false,eval (.Name y py) X.env)::AT [e] X.env:=by rfl) (he2:AT [e] X.env=(false,eval e X.env)::AT [] X.env:=by rfl)
 (hpl:(backTo pos (AT [e] X.env)).any (·.1)=false:=by rfl):
 EE X (.Call (.Name x p) [.Name y py,e] [] pos) (a5N g i m):=by
 obtain⟨f,fd,G,h1,h2,h3⟩:=d
 refine u0 (a9D G (hr.mono hk) hg h1 h2 h3 .nil b2D (x8 hy (x8 ha K6 he2) he) hdb he hpl) fun σ H Q ⟨F,ρ,r,en,hm,kq⟩=> ?_
 obtain⟨q,e1,hm⟩:=bind_some hm
 obtain⟨rq,e2,e3'⟩:=bind_some e1
 split at hm
 ·rename_i kvs eo
  obtain⟨r',e7,hm⟩:=bind_some hm
  split at hm
  ·rename_i c
   cases hm
   obtain⟨w0,hw0,a,xs0,rfl,_⟩:=en.at_ i _ eo
   refine⟨.ref a,hw0,F,ρ,rq,en,e2,fun v F1 H1 o1=> ?_⟩
   obtain⟨F2,o2⟩:=o1.toVal e3'
   have en2:=en.ext o2.x
   obtain⟨w,hw,a',xs,rfl,fa,ha',rl⟩:=en2.at_ i _ eo
   rw [hw0] at hw
   cases hw
   show spP X.K 2 g ([.ref a,v]++[]) H1 Q E0
   rw [Aq]
   have up:j8 F2 (upd F2 a (.dK xs)):=C5 fa
   exact⟨upd F2 a (.dK xs),[tv kvs,q],_,b5J o2.x.fh ha',⟨.ref a,[v],rfl,b3G fa rl,v,[],rfl,x4.mono up _ o2.rep,rfl⟩,rfl,e7,fun u F5 H5 o5=>kq u (drp F5 a) H5 (u6.trans o2.x (b1y fa o5 c))⟩
  ·cases hm
 ·cases hm
end
def a2z(F:Hp):Hp:=fun c=>match F c with
 |some (.tup ys)=>some (.tup ys)
 |_=>none
theorem b0l{F:Hp}:∀c ys,F c=some (.tup ys)->a2z F c=some (.tup ys):=fun c ys e=>by unfold a2z;rw [e]
theorem a6n{F:Hp}{c:AB}{o:HO}(e:a2z F c=some o):F c=some o/\∃ys,o= .tup ys:=by
 unfold a2z at e
 split at e
 ·rename_i ys z;cases e;exact⟨z,ys,rfl⟩
 ·cases e
theorem a8n{F:Hp}{c:AB}(f:F c=none):a2z F c=none:=by unfold a2z;rw [f]
theorem b5d{F:Hp}{c:AB}{xs:List V}(H:Hp)(s:j8 F H)(h:H c=some (.lst xs)):a2z F c=none:=by
 cases e:a2z F c with
 |none=>rfl
 |some o=>
  obtain⟨e1,ys,rfl⟩:=a6n e
  rw [s _ _ e1] at h;cases h
def b2h(A:List Nat)(ρ:c7):Bool:=A.all fun j=>match ρ[j]? with
 |some (some (.val p))=>a7L p
 |_=>false
theorem b3o{K:AD}{F H H':Hp}{σ σ':L2.St}{ρ:c7}{A:List Nat}(en:A3 K F H σ ρ)(fa:b2h A ρ=true)(hs:j8 (a2z F) H')(hl:σ'.length=σ.length)(hσ:∀j∈A,σ'[j]?=σ[j]?):A3 K (a2z F) H' σ' (keep A ρ):=by
 have at_:∀(j:Nat) (q:d7),(keep A ρ)[j]?=some (some q)->∃p v,q= .val p/\σ'[j]?=some (some v)/\x4 K (a2z F) p v:=fun j q z=>by
  obtain⟨z1,z2⟩:=a9k z
  have f1:=List.all_eq_true.mp fa j z1
  rw [z2] at f1
  cases q with
  |val p=>
   obtain⟨v,v1,v2⟩:=en.at_ j _ z2
   exact⟨p,v,rfl,by rw [hσ j z1];exact v1,b0K b0l p f1 v2⟩
  |ow c=>cases f1
  |bo c=>cases f1
 refine⟨hs,by rw [a6C,hl];exact en.len,fun j q z=> ?_,fun j c z=> ?_,fun j k c d a _ z=> ?_⟩
 ·obtain⟨p,v,rfl,h1,h2⟩:=at_ j q z
  exact⟨v,h1,h2⟩
 ·obtain⟨p,v,e,_⟩:=at_ j _ z;cases e
 ·obtain⟨p,v,e,_⟩:=at_ j _ z;cases e
theorem a1X{σ:L2.St}{i j:Nat}{v:Option V}(h:j≠i):(σ.set i v)[j]?=σ[j]?:=List.getElem?_set_ne (fun z=>h z.symm)
section
variable {X:Cx}
end
section
variable {prog:AN}{w:AI}{A:AR}{E:AA->AC->Prop}{s:AC}{z TI TO i1 i2:AB}{n1 n2 i:Nat}{P1 P2:Nat->AA->Prop}{St1 St2:Nat->Heap->Prop}{a b:AA}
end
section
variable {X:Cx}
end
section
variable {prog:AN}{w:AI}{K:Type}[DecidableEq K]{knd:KeyKind prog w K}{A:AR}{E:AA->AC->Prop}{s:AC}
end
section
variable {X:Cx}
end
theorem g9.retold{X:Cx}{pins:List (AB×Obj)}{σ:L2.St}{H H':Hp}{s:AC}(I:g9 X pins σ H s)(hn:∀b,H b=none->H' b=none)(tups:∀b xs,H b=some (.tup xs)->H' b=some (.tup xs))
 (frzs:∀b o u,X.H₀ b=some (.frz o u)->H' b=some (.frz o u)) (tbls:∀b ps,H b=some (.tbl ps)->H' b=some (.tbl ps)) (hok:HOk X.prog X.w H' s.heap):g9 X pins σ H' s:=
 ⟨I.ok,I.os,I.bare,⟨I.base.keep,I.base.slot,fun b o e n hx=>hn b (I.base.free b o e n hx),I.base.there,fun b xs e=>tups b xs (I.base.tups b xs e),frzs,fun b ps e=>let ⟨m,q⟩:=I.base.tbls b ps e;⟨m,tbls _ _ q⟩⟩,
  I.loc,I.cell,hn _ I.free,fun x c e=>hn _ (I.freeC x c e),fun p hp=>let ⟨a,b,c⟩:=I.pin p hp;⟨a,hn _ b,c⟩,hok,I.len⟩
theorem g9.frzD{X:Cx}{pins:List (AB×Obj)}{σ:L2.St}{H:Hp}{s:AC}{a:AB}{xs:List (g0×V)}(I:g9 X pins σ H s)(ha:H a=some (.dK xs)):∃o,g9 X pins σ (upd H a (.frz o (.dK xs))) s:=by
 have hd:=I.hok a _ ha
 obtain⟨o,ho⟩:∃o,s.heap.get? a=some o:=by obtain⟨_,_,_,_,o,_,_,e,_⟩:=hd;exact⟨o,e⟩
 refine⟨o,g9.retold I (fun b q=> ?_) (fun b ys q=> ?_) (fun b o' u q=> ?_) (fun b ps q=> ?_) (fun b u q=> ?_)⟩
 ·rw [d8 (fun z=>by rw [z,ha] at q;cases q)];exact q
 ·rw [d8 (E8 q ha (fun z=>nomatch z))];exact q
 ·have:=I.base.frzs b o' u q
  rw [d8 (E8 this ha (fun z=>nomatch z))];exact this
 ·rw [d8 (E8 q ha (fun z=>nomatch z))];exact q
 ·have st:∀c w,H c=some w->y4 X.prog X.w (upd H a (.frz o (.dK xs))) s.heap c w:=fun c w q=>(I.hok c w q).stay (fun _ _ _ e=>e) (fun d z=>by rw [d8 (E8 z ha (fun z=>nomatch z))];exact z) fun d ys z=>by rw [d8 (E8 z ha (fun z=>nomatch z))];exact z
  by_cases hb:b=a
  ·subst hb
   rw [g5] at q
   cases q
   exact⟨ho,st _ _ ha⟩
  ·rw [d8 hb] at q
   exact st _ _ q
theorem g9.unfrz{X:Cx}{pins:List (AB×Obj)}{σ:L2.St}{H:Hp}{s:AC}{a:AB}{o:Obj}{xs:List (g0×V)}(I:g9 X pins σ H s)(ha:H a=some (.frz o (.dK xs)))(h0:∀o u,X.H₀ a≠some (.frz o u)):g9 X pins σ (upd H a (.dK xs)) s:=by
 have st:∀c w,H c=some w->y4 X.prog X.w (upd H a (.dK xs)) s.heap c w:=fun c w q=>(I.hok c w q).stay (fun _ _ _ e=>e) (fun d z=>by rw [d8 (E8 z ha (fun z=>nomatch z))];exact z) fun d ys z=>by rw [d8 (E8 z ha (fun z=>nomatch z))];exact z
 refine g9.retold I (fun b q=> ?_) (fun b ys q=> ?_) (fun b o' u q=> ?_) (fun b ps q=> ?_) (fun b u q=> ?_)
 ·rw [d8 (fun z=>by rw [z,ha] at q;cases q)];exact q
 ·rw [d8 (E8 q ha (fun z=>nomatch z))];exact q
 ·rw [d8 (fun z=>by rw [z] at q;exact h0 _ _ q)];exact I.base.frzs b o' u q
 ·rw [d8 (E8 q ha (fun z=>nomatch z))];exact q
 ·by_cases hb:b=a
  ·subst hb
   rw [g5] at q
   cases q
   exact(st _ _ ha).2
  ·rw [d8 hb] at q
   exact st _ _ q
def Itk(a:AB)(o:Obj)(xs:List (g0×V)):It:=⟨fun i H=>H a=some (.frz o (.dK xs))/\i<xs.length,fun i H v H'=>H'=H/\∃p,xs[i]?=some p/\v=kV p.1,fun i H=>H a=some (.frz o (.dK xs))/\xs.length=i⟩
def epO(o:Obj):Nat:=match o.data with
 | .dict _ ep=>ep
 |_=>0
theorem b4R{X:Cx}{pins:List (AB×Obj)}{σ:L2.St}{H:Hp}{s:AC}{a:AB}{o:Obj}{xs:List (g0×V)}(I:g9 X pins σ H s)(ha:H a=some (.frz o (.dK xs))):(a==sysModules)=false/\∃vs,KV xs vs/\s.heap.DictAt (l7 X.prog X.w) a vs (epO o):=by
 obtain⟨ho,z,hd,vs,rel,o2,es,ep,e,c,d,r⟩:=(show y4 X.prog X.w H s.heap a (.frz o (.dK xs)) from I.hok a _ ha)
 have:o2=o:=by rw [ho] at e;exact(Option.some.inj e).symm
 subst this
 refine⟨hd,vs,rel,o2,es,e,c, ?_,r⟩
 rw [d]
 unfold epO
 rw [d]
theorem c1k{α β:Type}{F:α->β->Prop}:∀{l₁:List α} {l₂:List β} {i:Nat} {a:α},Paired F l₁ l₂->l₁[i]?=some a->∃b,l₂[i]?=some b/\F a b
 |_,_,_,_,.nil,h=>by simp at h
 |_,_,0,_,.cons r t,h=>by cases h;exact⟨_,rfl,r⟩
 |_,_,i+1,_,.cons r t,h=>c1k (i:=i) t h
theorem b4b{P:AN}{w:AI}{K:AD}{tg:AF}{it a:AB}{o:Obj}{xs:List (g0×V)}:b09 P w K tg (Itk a o xs) [it] it (fun i h=>h.IsKeyIter it a i xs.length (epO o)) where
 mem:=by simp
 obj:=fun i h st b hb=>by
  have hb:b=it:=by simpa using hb
  subst hb
  obtain⟨o,e,c,d⟩:=st
  exact⟨o,e,fun v z=>by rw [d] at z;cases z⟩
 keep:=fun i h h' st k=>st.at fun o e=>k it (by simp) o e
 item:=by
  intro X hP hw hK hc i pins s σ H E I hf st hg
  subst hP hw hK
  obtain⟨f0,f1,f2,f3,f4,f5⟩:=hf it (by simp)
  obtain⟨ha,hlt⟩:=hg
  obtain⟨hd,vs,rel,dd⟩:=b4R I ha
  have hl:vs.length=xs.length:=(Paired.length rel).symm
  have hx:xs[i]?=some xs[i]:=by simp [hlt]
  obtain⟨q,hq,rq⟩:=c1k rel hx
  rw [<-hl] at st
  refine wpAny_pyNext_dict_item st dd (k:=q.1) (v:=q.2) hq fun key h' kk st' sb=>⟨key,rfl, ?_⟩
  rw [hl] at st'
  have I1:g9 X pins σ H {s with heap:=h'}:=I.turned (t':=s.toks) (fun b o hb e=>(sb.2 b hb).trans e) f0 f1 f3 f4 f5
  obtain⟨o',e',c',d'⟩:=id st'
  refine b2p (s:={s with heap:=h'}) (n:="dict_keyiterator") e' c' d' (by decide) ⟨kV q.1,H,I1,b5y kk,⟨rfl,xs[i],hx,by rw [rq.1]⟩,st',fun b hb=>(hf b hb).1⟩
 done:=by
   intro X hP hw hK hc i pins s σ H E I hf st hg
   subst hP hw hK
   obtain⟨f0,f1,f2,f3,f4,f5⟩:=hf it (by simp)
   obtain⟨ha,hlt⟩:=hg
   obtain⟨hd,vs,rel,dd⟩:=b4R I ha
   have hl:vs.length=xs.length:=(Paired.length rel).symm
   rw [<-hl] at st
   exact wpAny_pyNext_dict_end (I.ok.hd hc) st dd (by simp;lia) fun h' eb=>⟨rfl,I.turned (t':=s.toks) (fun b o hb e=>eb b o hb e) f0 f1 f3 f4 f5⟩
 self:=fun _ _ _ _ _ st h=>wpAny_pyIter_keyiter st h
section
variable {X:Cx}{tg:AF}
def c1R(tl:TE):TI:=fun σ H R=>tl σ H fun x H1=>∃a o xs,x= .ref a/\H1 a=some (.frz o (.dK xs))/\R (Itk a o xs) H1
theorem b6p{l:AF}{tl:TE}(hl:PE X l tl):PI X tg l (c1R tl):=by
 intro pins s σ H R I h
 refine F8 (hl pins s σ H _ I h) fun v s1 ⟨x,H1,I1,r1,q1⟩=> ?_
 obtain⟨a,o,xs,e,ha,q⟩:=q1
 subst e
 obtain rfl:v=Value.ref a:=r1
 obtain⟨hd,vs,rel,dd⟩:=b4R I1 ha
 have hl:vs.length=xs.length:=(Paired.length rel).symm
 refine wpAny_pyIter_dict hd dd ⟨s1.heap.objs.size,[s1.heap.objs.size],_,_,H1,rfl,I1.kept (t':=s1.toks) fun b o e=>AY _ e,b4b,⟨_,An _ rfl,rfl,by rw [hl];rfl⟩,fun c hb=> ?_,q⟩
 have e:c=s1.heap.objs.size:=by simpa using hb
 subst e
 exact I1.fpOk (AM _) (I1.hok.fresh (AM _))
def Vls(xs:List (g0×V))(vs:List V):Prop:=vs.length=xs.length/\∀(j:Nat) p,xs[j]?=some p->∃v,vs[j]?=some v/\Q1 xs p.1=some v
def c0t(i:Nat):TE:=fun σ H Q=>∃a xs vs,σ[i]?=some (some (.ref a))/\H a=some (.dK xs)/\xs.length<AL/\Vls xs vs/\∀D,H D=none->Q (.ref D) (upd H D (.lst vs))
theorem b6j(i:Nat){x y:Str}{p p2 p3 p4 sp pos:Pos}{scope:Scope}{N0:List Str}(hx:∀e s,X.xe e s->False)(hc:X.calm=true)(S:A4 X.N N0 [y] X.env scope)
 (hd:PE X (.Name x p) (C7 i)) (hu:X.A.units+1<cLine) (hg:∀C fp pins s H,PG (m6 X N0 scope [y] C fp pins s H) (.Name y p2) (a2O X.N.length)) (he1:∀C fp pins s H,PE (m6 X N0 scope [y] C fp pins s H) (.Name x p3) (C7 i))
 (he2:∀C fp pins s H,PE (m6 X N0 scope [y] C fp pins s H) (.Name y p4) (C7 X.N.length)) (hs:∀x',foldedSetIterable (.Name x p) X.env x'=pure x':=by intro _;rfl):
 PE X (.ListComp (.Subscript (.Name x p3) (.Name y p4) sp) [⟨.Name y p2,.Name x p,[],0⟩] scope pos) (c0t i):=by
 intro pins s σ H Q I ⟨a,xs,vs,hσ,ha,hz,⟨hl,hv⟩,q⟩
 obtain⟨o,I1⟩:=g9.frzD I ha
 have h0:∀o u,X.H₀ a≠some (.frz o u):=fun o u z=>by have:=I.base.frzs a o u z;rw [ha] at this;cases this
 have hR:=a9E (X:=X) (pos:=pos) hx hc S (b6p hd) hg (fun C fp pins s H=>b2E) (fun C fp pins s H=>a3X (X:=m6 X N0 scope [y] C fp pins s H) (pos:=sp) hu (he1 C fp pins s H) (he2 C fp pins s H) (by intro _ _;rfl)) hs pins s σ (upd H a (.frz o (.dK xs)))
  (fun v H1=>∃D,v= .ref D/\H D=none/\H1=upd (upd H a (.frz o (.dK xs))) D (.lst vs)) I1 ?_
 ·refine F8 hR fun v s1 ⟨x',H1,I2,r2,D,ex,hD,eH⟩=> ?_
  subst ex eH
  have hne:D≠a:=fun z=>by rw [z,ha] at hD;cases hD
  refine⟨.ref D,upd H D (.lst vs), ?_,r2,q D hD⟩
  have hfa:upd (upd H a (.frz o (.dK xs))) D (.lst vs) a=some (.frz o (.dK xs)):=by rw [d8 (Ne.symm hne),g5]
  have:=g9.unfrz I2 hfa h0
  have eq:upd (upd (upd H a (.frz o (.dK xs))) D (.lst vs)) a (.dK xs)=upd H D (.lst vs):=by
   funext b
   unfold upd
   by_cases h1:b=a
   ·rw [if_pos h1,h1,if_neg (Ne.symm hne),ha]
   ·rw [if_neg h1,if_neg h1]
  rw [eq] at this
  exact this
 ·refine⟨.ref a,hσ,a,o,xs,rfl,g5,fun D hD=> ?_⟩
  have hDa:D≠a:=fun z=>by rw [z,g5] at hD;cases hD
  have hD':H D=none:=by rw [d8 hDa] at hD;exact hD
  refine⟨fun i m ys H2=>m=xs.length - i/\i<=xs.length/\ys=vs.take i/\H2=upd (upd H a (.frz o (.dK xs))) D (.lst ys),⟨xs.length,by simp,Nat.zero_le _,by simp,rfl⟩, ?_⟩
  rintro j m ys H2 ⟨rfl,hj,rfl,rfl⟩ -
  have hfa:∀zs,upd (upd H a (.frz o (.dK xs))) D (.lst zs) a=some (.frz o (.dK xs)):=fun zs=>by rw [d8 (Ne.symm hDa),g5]
  by_cases hlt:j<xs.length
  ·refine .inr ⟨⟨hfa _,hlt⟩,fun v H3 ⟨e3,pr,hp,e4⟩=> ?_⟩
   subst e3 e4
   obtain⟨v,hv1,hv2⟩:=hv j pr hp
   refine⟨fun jj w hw=> ?_, ?_⟩
   ·by_cases hjj:jj=X.N.length
    ·subst hjj
     rw [<-I.len] at hw
     simp at hw
    ·rw [List.getElem?_set_ne (Ne.symm hjj)];exact hw
   ·dsimp only [b8W]
    rw [if_pos rfl]
    have hil:i<σ.length:=(Am.mp hσ).1
    refine⟨.ref a, ?_,kV pr.1, ?_,a,v,rfl, ?_,g5, ?_,xs.length - (j+1),by lia,rfl,hlt, ?_, ?_⟩
    ·rw [List.getElem?_set_ne (by rw [<-I.len];lia),BA hil];exact hσ
    ·rw [BG (by rw [<-I.len];simp)]
    ·rw [<-hv2];exact .inl ⟨xs,pr.1,.inr ⟨o,hfa _⟩,rfl,rfl⟩
    ·rw [List.length_take];lia
    ·rw [List.take_succ,hv1];rfl
    ·rw [b20]
  ·have ej:j=xs.length:=by lia
   refine .inl ⟨⟨hfa _,ej.symm⟩,D,rfl,hD', ?_⟩
   rw [ej,<-hl,List.take_length]
theorem b6Z{K:AD}{F:Hp}{kvs:List (List g0×PV)}{xs:List (g0×V)}(rl:u8 K F kvs (xs.map s1)):∀{es:List (List g0×PV)} {ys:List (g0×V)} {rs:List PV},u8 K F es (ys.map s1)->(es.mapM fun e=>n6 kvs e.1)=some rs->
 ∃vs,j0 K F rs vs/\vs.length=ys.length/\∀(j:Nat) p,ys[j]?=some p->∃v,vs[j]?=some v/\Q1 xs p.1=some v
 |[],[],_,_,h=>by cases h;exact⟨[],rfl,rfl,fun j p z=>by simp at z⟩
 |[],y::ys,_,r,_=>by cases r
 |(k,q)::es,[],_,⟨_,_,e,_⟩,_=>by cases e
 |(k,q)::es,y::ys,rs,⟨v,t,e,rv,rt⟩,h=>by
  injection e with e1 e2
  subst e2
  have ek:[y.1]=k:=by have:=congrArg Prod.fst e1;exact this
  rw [List.mapM_cons] at h
  obtain⟨r1,h1,h⟩:=bind_some h
  obtain⟨rs',h2,h⟩:=bind_some h
  cases h
  obtain⟨vs,g1,g2,g3⟩:=b6Z rl rt h2
  have h1:n6 kvs [y.1]=some r1:=by rw [ek];exact h1
  obtain⟨u,hu,ru⟩:=(rl.val (k:=[y.1])).1 _ h1
  rw [a4Y] at hu
  refine⟨u::vs,⟨u,vs,rfl,ru,g1⟩,by rw [AU,AU,g2],fun j p z=> ?_⟩
  cases j with
  |zero=>cases z;exact⟨u,rfl,hu⟩
  |succ j=>exact g3 j p z
end
end PU
set_option maxHeartbeats 3200000
namespace PU
open PySem PySem.Spec PyProof.Rows L2 PySem.W
section
variable {prog:AN}{w:AI}{A:AR}{E:AA->AC->Prop}{s:AC}
end
end PU
set_option maxHeartbeats 1000000
namespace PU
open PySem PySem.Spec PyProof.Rows L2
theorem a5o{K:AD}{F:Hp}:∀{ps:List PV} {zs:List Str} {xs:List V},C6 ps=some zs->j0 K F ps xs->xs=zs.map V.str/\ps=zs.map PyData.str
 |[],_,_,h,r=>by cases h;cases r;exact⟨rfl,rfl⟩
 |p::ps,zs,xs,h,⟨v,vs,e,rv,rt⟩=>by
  subst e
  cases p with
  |str z=>
   cases hs:C6 ps with
   |none=>simp [C6,hs] at h
   |some zs'=>
    have h:zs=z::zs':=by simpa [C6,hs] using h.symm
    subst h
    obtain⟨e1,e2⟩:=a5o hs rt
    cases rv
    exact⟨by rw [e1];rfl,by rw [e2];rfl⟩
  |_=>simp [C6] at h
section
variable {X:Cx}
def c1n(X:Cx):List V->Hp->VK->Prop:=fun xs H Q=>∃(a:AB) (zs:List Str),xs=[.ref a]/\H a=some (.lst (zs.map V.str))/\zs.length+1<4096/\∀p es ep,H p=none->TxE es zs->es.size<=zs.length->Q (.ref p) (upd H p (.ext fun h=>E1 X.prog X.w h p es ep))
end
section
variable {X:Cx}
def a5P(i:Nat):M:=fun ρ=>(tvw i ρ).bind fun kvs=>if kvs.length<AL then(kvs.mapM fun e=>n6 kvs e.1).map .own else none
theorem b3m(i:Nat){x y:Str}{p p2 p3 p4 sp pos:Pos}{scope:Scope}{N0:List Str}(hx:∀e s,X.xe e s->False)(hc:X.calm=true)(S:A4 X.N N0 [y] X.env scope)
 (hd:PE X (.Name x p) (C7 i)) (hu:X.A.units+64<cLine) (hg:∀C fp pins s H,PG (m6 X N0 scope [y] C fp pins s H) (.Name y p2) (a2O X.N.length)) (he1:∀C fp pins s H,PE (m6 X N0 scope [y] C fp pins s H) (.Name x p3) (C7 i))
 (he2:∀C fp pins s H,PE (m6 X N0 scope [y] C fp pins s H) (.Name y p4) (C7 X.N.length)) (hs:∀x',foldedSetIterable (.Name x p) X.env x'=pure x':=by intro _;rfl):
 EE X (.ListComp (.Subscript (.Name x p3) (.Name y p4) sp) [⟨.Name y p2,.Name x p,[],0⟩] scope pos) (a5P i):=
 u0 (b6j i hx hc S hd (by lia) hg he1 he2 hs) fun σ H Q ⟨F,ρ,r,en,e,k⟩=>by
  obtain⟨kvs,eo,e⟩:=bind_some e
  split at e
  ·rename_i hl
   obtain⟨a,xs,hw1,ha',rl⟩:=b6W en eo
   cases hm:kvs.mapM fun e=>n6 kvs e.1 with
   |none=>rw [hm] at e;cases e
   |some rs=>
    rw [hm] at e
    cases e
    obtain⟨vs,g1,g2,g3⟩:=b6Z rl rl hm
    have hlen:xs.length=kvs.length:=by have:=rl.length;rwa [AO] at this
    exact⟨a,xs,vs,hw1,en.fh _ _ ha',by rw [hlen];exact hl,⟨g2,g3⟩,fun D hD=>k _ F _ (u6.lst en.fh hD g1)⟩
  ·cases e
theorem b2L{K:AD}{F:Hp}:∀{kvs:List (List g0×PV)} {xs:List (List g0×V)},u8 K F kvs xs->∀{q},q∈xs->∃e∈kvs,e.1=q.1
 |[],_,r,q,h=>by cases r;cases h
 |(k,p)::r,_,⟨v,t,e,rv,rt⟩,q,h=>by
  subst e
  rcases AV.mp h with rfl|h
  ·exact⟨(k,p),AX,rfl⟩
  ·obtain⟨e,he,e1⟩:=b2L rt h
   exact⟨e,Ac _ he,e1⟩
def qK(xs:List (g0×V))(z:Int)(p:g0×V):Bool:=decide (Q1 xs p.1=some (.int z))
def c0s(i j:Nat):TE:=fun σ H Q=>∃a xs z,σ[i]?=some (some (.ref a))/\σ[j]?=some (some (.int z))/\H a=some (.dK xs)/\xs.length<AL/\(∀p∈xs,∃k:Int,Q1 xs p.1=some (.int k))/\∀D,H D=none->Q (.ref D) (upd H D (.lst ((xs.filter (qK xs z)).map fun p=>kV p.1)))
theorem b0F(i j:Nat){x y u:Str}{p p2 p3 p4 p5 p6 sp cp pos:Pos}{scope:Scope}{N0:List Str}(hx:∀e s,X.xe e s->False)(hc:X.calm=true)(S:A4 X.N N0 [y] X.env scope)
 (hd:PE X (.Name x p) (C7 i)) (hu:X.A.units+1<cLine) (hg:∀C fp pins s H,PG (m6 X N0 scope [y] C fp pins s H) (.Name y p2) (a2O X.N.length)) (he1:∀C fp pins s H,PE (m6 X N0 scope [y] C fp pins s H) (.Name x p3) (C7 i))
 (he2:∀C fp pins s H,PE (m6 X N0 scope [y] C fp pins s H) (.Name y p4) (C7 X.N.length)) (he3:∀C fp pins s H,PE (m6 X N0 scope [y] C fp pins s H) (.Name u p5) (C7 j)) (he4:∀C fp pins s H,PE (m6 X N0 scope [y] C fp pins s H) (.Name y p6) (C7 X.N.length)) (hs:∀x',foldedSetIterable (.Name x p) X.env x'=pure x':=by intro _;rfl):
 PE X (.ListComp (.Name y p6) [⟨.Name y p2,.Name x p,[.Compare (.Subscript (.Name x p3) (.Name y p4) sp) [.Eq] [.Name u p5] cp],0⟩] scope pos) (c0s i j):=by
 intro pins s σ H Q I ⟨a,xs,z,hσ,hj,ha,hz,hv,q⟩
 obtain⟨o,I1⟩:=g9.frzD I ha
 have h0:∀o u,X.H₀ a≠some (.frz o u):=fun o u z=>by have:=I.base.frzs a o u z;rw [ha] at this;cases this
 have hR:=a9E (X:=X) (pos:=pos) hx hc S (b6p hd) hg (fun C fp pins s H=>b2F (b2I (X:=m6 X N0 scope [y] C fp pins s H) (pos:=cp) c1g (a3X (X:=m6 X N0 scope [y] C fp pins s H) (pos:=sp) hu (he1 C fp pins s H) (he2 C fp pins s H) (by intro _ _;rfl)) (he3 C fp pins s H) (y0 _))) he4 hs pins s σ (upd H a (.frz o (.dK xs)))
  (fun v H1=>∃D,v= .ref D/\H D=none/\H1=upd (upd H a (.frz o (.dK xs))) D (.lst ((xs.filter (qK xs z)).map fun p=>kV p.1))) I1 ?_
 ·refine F8 hR fun v s1 ⟨x',H1,I2,r2,D,ex,hD,eH⟩=> ?_
  subst ex eH
  have hne:D≠a:=fun z=>by rw [z,ha] at hD;cases hD
  refine⟨.ref D,upd H D (.lst ((xs.filter (qK xs z)).map fun p=>kV p.1)), ?_,r2,q D hD⟩
  have hfa:upd (upd H a (.frz o (.dK xs))) D (.lst ((xs.filter (qK xs z)).map fun p=>kV p.1)) a=some (.frz o (.dK xs)):=by rw [d8 (Ne.symm hne),g5]
  have:=g9.unfrz I2 hfa h0
  have eq:upd (upd (upd H a (.frz o (.dK xs))) D (.lst ((xs.filter (qK xs z)).map fun p=>kV p.1))) a (.dK xs)=upd H D (.lst ((xs.filter (qK xs z)).map fun p=>kV p.1)):=by
   funext b
   unfold upd
   by_cases h1:b=a
   ·rw [if_pos h1,h1,if_neg (Ne.symm hne),ha]
   ·rw [if_neg h1,if_neg h1]
  rw [eq] at this
  exact this
 ·refine⟨.ref a,hσ,a,o,xs,rfl,g5,fun D hD=> ?_⟩
  have hDa:D≠a:=fun z=>by rw [z,g5] at hD;cases hD
  have hD':H D=none:=by rw [d8 hDa] at hD;exact hD
  refine⟨fun i m ys H2=>m=xs.length - i/\i<=xs.length/\ys=((xs.take i).filter (qK xs z)).map (fun p=>kV p.1)/\H2=upd (upd H a (.frz o (.dK xs))) D (.lst ys),⟨xs.length,by simp,Nat.zero_le _,by simp,rfl⟩, ?_⟩
  rintro jj m ys H2 ⟨rfl,hjj,rfl,rfl⟩ -
  have hfa:∀zs,upd (upd H a (.frz o (.dK xs))) D (.lst zs) a=some (.frz o (.dK xs)):=fun zs=>by rw [d8 (Ne.symm hDa),g5]
  have hil:i<σ.length:=(Am.mp hσ).1
  have hjl:j<σ.length:=(Am.mp hj).1
  by_cases hlt:jj<xs.length
  ·refine .inr ⟨⟨hfa _,hlt⟩,fun v H3 ⟨e3,pr,hp,e4⟩=> ?_⟩
   subst e3 e4
   obtain⟨k,hk⟩:=hv pr (BD hp)
   have ht:xs.take (jj+1)=xs.take jj++[pr]:=by rw [List.take_succ,hp];rfl
   refine⟨fun q w hw=> ?_, ?_⟩
   ·by_cases hq:q=X.N.length
    ·subst hq
     rw [<-I.len] at hw
     simp at hw
    ·rw [List.getElem?_set_ne (Ne.symm hq)];exact hw
   ·refine⟨.ref a, ?_,kV pr.1, ?_,a,.int k,rfl, ?_,.int z, ?_,⟨rfl,_,rfl, ?_⟩⟩
    ·rw [List.getElem?_set_ne (by rw [<-I.len];lia),BA hil];exact hσ
    ·rw [BG (by rw [<-I.len];simp)]
    ·rw [<-hk];exact .inl ⟨xs,pr.1,.inr ⟨o,hfa _⟩,rfl,rfl⟩
    ·rw [List.getElem?_set_ne (by rw [<-I.len];lia),BA hjl];exact hj
    ·by_cases c:k=z
     ·subst c
      rw [show(decide (V.int k=V.int k))=true by simp]
      dsimp only
      rw [if_pos rfl]
      have hq:qK xs k pr=true:=by unfold qK;rw [hk];simp
      have hf:((xs.take (jj+1)).filter (qK xs k)).map (fun p=>kV p.1)=((xs.take jj).filter (qK xs k)).map (fun p=>kV p.1)++[kV pr.1]:=by
       rw [ht,List.filter_append,BC,List.filter_cons,if_pos hq];rfl
      refine⟨kV pr.1,by rw [BG (by rw [<-I.len];simp)],g5, ?_,xs.length - (jj+1),by lia,rfl,hlt,hf.symm, ?_⟩
      ·have h1:=List.length_filter_le (qK xs k) (xs.take jj)
       rw [AO]
       rw [List.length_take] at h1
       lia
      ·rw [b20]
     ·rw [show(decide (V.int k=V.int z))=false by simp [c]]
      dsimp only
      rw [if_neg At]
      have hq:¬qK xs z pr=true:=by unfold qK;rw [hk];simp [c]
      have hf:((xs.take (jj+1)).filter (qK xs z)).map (fun p=>kV p.1)=((xs.take jj).filter (qK xs z)).map (fun p=>kV p.1):=by
       rw [ht,List.filter_append,List.filter_cons,if_neg hq];simp
      exact⟨g5,xs.length - (jj+1),by lia,rfl,hlt,hf.symm,rfl⟩
  ·have ej:jj=xs.length:=by lia
   refine .inl ⟨⟨hfa _,ej.symm⟩,D,rfl,hD', ?_⟩
   rw [ej,List.take_length]
def kPV:List g0->PV
 |[.inr x]=> .str x
 |[.inl i]=> .int i
 |_=> .none
def qP(kvs:List (List g0×PV))(z:Int)(e:List g0×PV):Bool:=match n6 kvs e.1 with
 |some (.int k)=>decide (k=z)
 |_=>false
def b1b(kvs:List (List g0×PV)):Bool:=kvs.all fun e=>match n6 kvs e.1 with
 |some (.int _)=>true
 |_=>false
def a5O(i j:Nat):M:=fun ρ=>(tvw i ρ).bind fun kvs=>match ρ[j]? with
 |some (some (.val (.int z)))=>if kvs.length<AL/\b1b kvs=true then some (.own ((kvs.filter (qP kvs z)).map fun e=>kPV e.1)) else none
 |_=>none
theorem a9m{K:AD}{F:Hp}{kvs:List (List g0×PV)}{xs:List (g0×V)}(rl:u8 K F kvs (xs.map s1))(z:Int)(hall:∀p∈xs,∃k:Int,Q1 xs p.1=some (.int k)/\n6 kvs [p.1]=some (.int k)):∀{es:List (List g0×PV)} {ys:List (g0×V)},u8 K F es (ys.map s1)->(∀p∈ys,p∈xs)->
 j0 K F ((es.filter (qP kvs z)).map fun e=>kPV e.1) ((ys.filter (qK xs z)).map fun p=>kV p.1)
 |[],[],_,_=>rfl
 |[],y::ys,r,_=>by cases r
 |(k,q)::es,[],⟨_,_,e,_⟩,_=>by cases e
 |(k,q)::es,y::ys,⟨v,t,e,rv,rt⟩,hs=>by
  injection e with e1 e2
  subst e2
  have ek:[y.1]=k:=by have:=congrArg Prod.fst e1;exact this
  subst ek
  have ih:=a9m rl z hall rt fun p hp=>hs p (Ac _ hp)
  obtain⟨k,h1,h2⟩:=hall y (hs y AX)
  have a1:qK xs z y=decide (k=z):=by unfold qK;rw [h1];simp
  have a2:qP kvs z ([y.1],q)=decide (k=z):=by unfold qP;simp only [h2]
  rw [List.filter_cons,List.filter_cons,a1,a2]
  by_cases c:k=z
  ·rw [decide_eq_true c,if_pos rfl,if_pos rfl,AK,AK]
   refine⟨_,_,rfl, ?_,ih⟩
   cases hy:y.1 with
   |inl i=>exact rfl
   |inr x=>exact rfl
  ·rw [decide_eq_false c,if_neg At,if_neg At]
   exact ih
theorem b8P{K:AD}{F:Hp}{kvs:List (List g0×PV)}{xs:List (g0×V)}(rl:u8 K F kvs (xs.map s1))(c:b1b kvs=true)(p:g0×V)(hp:p∈xs):∃k:Int,Q1 xs p.1=some (.int k)/\n6 kvs [p.1]=some (.int k):=by
 have hk:∃e∈kvs,e.1=[p.1]:=b2L rl (AZ.mpr ⟨p,hp,rfl⟩)
 obtain⟨e,he,e1⟩:=hk
 have:=List.all_eq_true.mp c e he
 rw [e1] at this
 cases hv:n6 kvs [p.1] with
 |none=>rw [hv] at this;cases this
 |some q=>
  rw [hv] at this
  cases q with
  |int k=>
   obtain⟨u,hu,ru⟩:=(rl.val (k:=[p.1])).1 _ hv
   rw [a4Y] at hu
   cases ru
   exact⟨k,hu,rfl⟩
  |_=>cases this
theorem b3l(i j:Nat){x y u:Str}{p p2 p3 p4 p5 p6 sp cp pos:Pos}{scope:Scope}{N0:List Str}(hx:∀e s,X.xe e s->False)(hc:X.calm=true)(S:A4 X.N N0 [y] X.env scope)
 (hd:PE X (.Name x p) (C7 i)) (hu:X.A.units+64<cLine) (hg:∀C fp pins s H,PG (m6 X N0 scope [y] C fp pins s H) (.Name y p2) (a2O X.N.length)) (he1:∀C fp pins s H,PE (m6 X N0 scope [y] C fp pins s H) (.Name x p3) (C7 i))
 (he2:∀C fp pins s H,PE (m6 X N0 scope [y] C fp pins s H) (.Name y p4) (C7 X.N.length)) (he3:∀C fp pins s H,PE (m6 X N0 scope [y] C fp pins s H) (.Name u p5) (C7 j)) (he4:∀C fp pins s H,PE (m6 X N0 scope [y] C fp pins s H) (.Name y p6) (C7 X.N.length)) (hs:∀x',foldedSetIterable (.Name x p) X.env x'=pure x':=by intro _;rfl):
 EE X (.ListComp (.Name y p6) [⟨.Name y p2,.Name x p,[.Compare (.Subscript (.Name x p3) (.Name y p4) sp) [.Eq] [.Name u p5] cp],0⟩] scope pos) (a5O i j):=
 u0 (b0F i j hx hc S hd (by lia) hg he1 he2 he3 he4 hs) fun σ H Q ⟨F,ρ,r,en,e,k⟩=>by
  obtain⟨kvs,eo,e⟩:=bind_some e
  split at e
  ·rename_i z ez
   split at e
   ·rename_i c
    cases e
    obtain⟨a,xs,hw1,ha',rl⟩:=b6W en eo
    obtain⟨w,hz,rz⟩:=en.at_ j _ ez
    cases rz
    have hlen:xs.length=kvs.length:=by have:=rl.length;rwa [AO] at this
    have hall:=b8P rl c.2
    refine⟨a,xs,z,hw1,hz,en.fh _ _ ha',by rw [hlen];exact c.1,fun p hp=>let ⟨k,h,_⟩:=hall p hp;⟨k,h⟩,fun D hD=>k _ F _ (u6.lst en.fh hD (a9m rl z hall rl fun p hp=>hp))⟩
   ·cases e
  ·cases e
end
def a4n(x y:d7):Option d7:=match x,y with
 | .val (.str z),.val (.str y)=>some (.val (.int (Txt.count z y)))
 |_,_=>none
section
variable {X:Cx}
theorem b51:MtR X "str.count" (fun x xs H Q=>∃F y rx ry rz,xs=[y]/\j8 F H/\M1 X.K F H x rx/\M1 X.K F H y ry/\a4n rx ry=some rz/\∀v F' H',u6 X.K F H F' H' v rz->Q v H'):=by
 intro pins s σ H x xs v us Q I rx rv h
 obtain⟨F,y,ra,rb,rz,rfl,s0,h1,h2,h3,k⟩:=h
 obtain⟨u,rfl,ru⟩:=Y7 rv
 unfold a4n at h3
 split at h3
 ·rename_i z y
  cases h3
  cases h1
  cases h2
  obtain⟨t,rfl⟩:=rx
  obtain⟨t2,rfl⟩:=ru
  exact call_gives PySem.F.slot_str_count (typeIs_str _ _ _) PySem.F.entry_str_count (PySem.F.args_str_count_2 _ _) (gives_str_count z y t t2) ⟨.int _,H,I.tok _,⟨_,rfl⟩,k _ F H (u6.here s0 rfl)⟩
 ·cases h3
theorem b4Y{o e:AF}{m n:M}{apos cpos:Pos}(ho:EE X o m)(ha:EE X e n)
 (hbase:attributeBase o "count" X.env (eval o X.env)=eval o X.env:=by rfl)
 (hfew:((backTo cpos (AT [e] X.env)).all (fun x=> !x.1)&&(backToKw cpos (keywordEach [] X.env)).all (fun x=>x.1.isSome)
  && decide ([e].length+([]:List Keyword).length+(if([]:List Keyword).isEmpty then 0 else 1)<30))=true:=by rfl)
 (hline:(apos.endLine==cpos.line)=true:=by rfl) (hs:AT [e] X.env=(false,eval e X.env)::AT [] X.env:=by rfl) (hplain:(backTo cpos (AT [] X.env)).any (·.1)=false:=by rfl):
 EE X (.Call (.Attribute o "count" apos) [e] [] cpos) (m2 a4n m n):=
 u0 (a8H PySem.F.plainAttrs_str PySem.F.slot_str_count PySem.F.type_str_count b51 ho (x8 ha K6 hs) hbase hfew hline hs hplain) fun σ H Q ⟨F,ρ,r,he,hm,k⟩=>by
  obtain⟨rx,e1,hm⟩:=bind_some hm
  obtain⟨ry,e2,hm⟩:=bind_some hm
  refine⟨F,ρ,rx,he,e1,fun v F1 H1 o1=>⟨?_,⟨F1,ρ,ry,he.ext o1.x,e2,fun u F2 H2 o2=>⟨F2,u,rx,ry,r,rfl,o2.x.fh,o1.rep.ext o2.x,o2.rep,hm,fun z F3 H3 o3=>k z F3 H3 (u6.trans (o1.x.trans o2.x) o3)⟩⟩⟩⟩
  unfold a4n at hm
  split at hm
  ·cases o1.rep;rfl
  ·cases hm
def a1Y:List PV->Option (List Int)
 |[]=>some []
 | .int i::r=>(a1Y r).map (i::·)
 |_=>none
def a1r(is:List Int):Int:=is.getD (argBest (fun i j=>decide (is.getD i 0>is.getD j 0)) (is.length - 1)) 0
def a8p(x:d7):Option d7:=match x with
 | .ow (.lst ps)=>(a1Y ps).bind fun is=>if 0<is.length then some (.val (.int (a1r is))) else none
 |_=>none
theorem a6x{K:AD}{F:Hp}:∀{ps:List PV} {is:List Int} {xs:List V},a1Y ps=some is->j0 K F ps xs->xs=is.map V.int
 |[],_,_,h,r=>by cases h;cases r;rfl
 |p::ps,is,xs,h,⟨v,vs,e,rv,rt⟩=>by
  subst e
  cases p with
  |int z=>
   cases hs:a1Y ps with
   |none=>simp [a1Y,hs] at h
   |some is'=>
    have h:is=z::is':=by simpa [a1Y,hs] using h.symm
    subst h
    have e1:=a6x hs rt
    cases rv
    rw [e1];rfl
  |_=>simp [a1Y] at h
theorem a7B:∀{is:List Int} {its:List AA},j9 (is.map V.int) its->∃xs:List (Int×Tok),xs.map (·.1)=is/\its=xs.map fun p=>Value.int p.1 p.2
 |[],_,.nil=>⟨[],rfl,rfl⟩
 |i::is,_,.cons r t=>by
  obtain⟨xs,h1,h2⟩:=a7B t
  obtain⟨u,rfl⟩:=r
  exact⟨(i,u)::xs,by rw [AK,h1],by rw [AK,h2]⟩
theorem b17(hc:X.calm=true):A6 X (.builtin "max") (rC1 X.K a8p):=by
 intro pins s σ H xs us Q I rv h
 obtain⟨F,x,rx,rz,rfl,s0,h1,h2,k⟩:=h
 obtain⟨u,rfl,ru⟩:=Y7 rv
 unfold a8p at h2
 split at h2
 ·rename_i ps
  obtain⟨is,e1,h2⟩:=bind_some h2
  split at h2
  ·rename_i c
   cases h2
   obtain⟨a,ys,rfl,fa,ha,rl⟩:=h1
   cases ru
   have ey:=a6x e1 rl
   subst ey
   obtain⟨_,its,n,vv,e⟩:=(show y4 X.prog X.w H s.heap a (.lst (is.map V.int)) from I.hok a _ ha)
   obtain⟨zs,hz1,hz2⟩:=a7B vv
   have hit:its.toArray=intItems zs.toArray:=by rw [hz2];simp [intItems]
   have hat:∀i,numAt zs.toArray i=is.getD i 0:=fun i=>by
    unfold numAt
    rw [<-hz1,List.getD_eq_getElem?_getD,Ak]
    simp
   have hlen:zs.length=is.length:=by rw [<-hz1,AO]
   refine max_intList (l:=a) (xs:=zs.toArray) (I.ok.hd hc) ⟨_,e,rfl,n,by rw [hit]⟩ (by simp;lia) fun v h' tk hv hk=> ?_
   obtain⟨t,rfl⟩:=intItems_at hv
   have hb:numAt zs.toArray (argBest (fun i j=>decide (numAt zs.toArray i>numAt zs.toArray j)) (zs.toArray.size - 1))=a1r is:=by
    unfold a1r
    rw [hat,show zs.toArray.size=is.length by simp [hlen]]
    congr 2
    funext i j
    rw [hat,hat]
   rw [hb]
   exact⟨.int (a1r is),H,I.kept (t':=tk) hk,⟨t,rfl⟩,k _ F H (u6.here s0 rfl)⟩
  ·cases h2
 ·cases h2
end
def b5S:MS:=fun _=>none
theorem b48{X:Cx}{st:Stmt}:ES X st b5S:=K7 b6t fun D σ H ⟨F0,H0,F,ρ,fl,so,e,fin⟩=>by cases e
section
open AutoSeq1 (wpAny_loadPart')
open PySem.MeetsSeq3 (plain_eq_loop entry_eq_loop)
theorem b3M(l b:AB)(xs ys:Array AA)(n n2:Nat)(dd dd2:Option AB)(sl sl2:Array (Option AA))(e:Nat->Bool)(c:Bool)(k:Nat):
 ∀i:Nat,min xs.size ys.size - i=k->i<=min xs.size ys.size->(∀j,j<i->e j=true)->Meets (Builtin.«list.__eq__.loop» ⟨[.ref l,.ref b,rawInt i,rawInt 0],[]⟩)
  (fun A R s=>s.heap.get? l=some {cls:= .type "list",dict:=dd,data:= .seq xs n,slots:=sl}/\s.heap.get? b=some {cls:= .type "list",dict:=dd2,data:= .seq ys n2,slots:=sl2}/\
   (∀j (h1:j<xs.size) (h2:j<ys.size),SeqAt.EqAt A.in1 s xs[j] ys[j] (e j))/\(∀j (h1:j<xs.size) (h2:j<ys.size),(∀k,k<j->e k=true)->e j=false->a0m A.in1 s xs[j] ys[j] c)/\
   ((∀k,k<min xs.size ys.size->e k=true)->c=decide (xs.size<ys.size))/\R (.ok (.ret (.bool c))) s):=by
 induction k with
 |zero=>
  intro i hk hi hb4 prog w A R s h
  obtain⟨hp,g,d,tk,os⟩:=s;obtain⟨hl,hb,he,hlt,hce,h⟩:=h
  have hce':=hce fun k hk'=>hb4 k (by lia)
  wp_walk using wpAny_loadPart' hl,wpAny_loadPart' hb
  rcases Nat.lt_or_ge i xs.size with h1|h1
  ·have h2:ys.size<=i:=by lia
   have hi1:xs[((i:Nat):Int).toNat]?=some xs[i]:=by simp [h1]
   have hi2:ys[((i:Nat):Int).toNat]?=none:=by simp;lia
   rw [hi1,hi2]
   wp_walk using wpAny_loadPart' hl,wpAny_loadPart' hb
   show R (.ok (.ret (.bool (decide (xs.size<ys.size))))) _
   rw [<-hce'];exact h
  ·have hi1:xs[((i:Nat):Int).toNat]?=none:=by simp;lia
   rw [hi1]
   wp_walk using wpAny_loadPart' hl,wpAny_loadPart' hb
   show R (.ok (.ret (.bool (decide (xs.size<ys.size))))) _
   rw [<-hce'];exact h
 |succ k ih=>
  intro i hk hi hb4 prog w A R s h
  obtain⟨hp,g,d,tk,os⟩:=s;obtain⟨hl,hb,he,hlt,hce,h⟩:=h
  wp_walk using wpAny_loadPart' hl,wpAny_loadPart' hb
  have h1:i<xs.size:=by lia
  have h2:i<ys.size:=by lia
  have hi1:xs[((i:Nat):Int).toNat]?=some xs[i]:=by simp [h1]
  have hi2:ys[((i:Nat):Int).toNat]?=some ys[i]:=by simp [h2]
  have hc:((i:Int)+1)=((i+1:Nat):Int):=by push_cast;rfl
  rw [hi1,hi2]
  refine AE (he i h1 h2 prog w _ _ ?_)
  cases hq:e i with
  |true=>
   wp_walk
   rw [hc]
   exact⟨plainId_quiet plain_eq_loop _,codeAny_builtin entry_eq_loop (by
    rw [Around.under_plainId plain_eq_loop _]
    exact ih (i+1) (by lia) (by lia) (fun j hj=>by
     rcases Nat.lt_or_ge j i with h'|h'
     ·exact hb4 j h'
     ·rw [show j=i by lia];exact hq) prog w A R _ ⟨hl,hb,he,hlt,hce,h⟩)⟩
  |false=>
   have hl3:=hlt i h1 h2 hb4 hq
   wp_walk using wpAny_loadPart' hl,wpAny_loadPart' hb
   rw [hi1,hi2]
   show AG _ A.in1 (richCompare .Lt xs[i] ys[i]>>=fun v=>ret v) _ _ _
   refine AE (hl3 prog w _ _ ?_)
   exact AJ h
theorem a2R(l b:AB)(xs ys:Array AA)(n n2:Nat)(dd dd2:Option AB)(sl sl2:Array (Option AA))(e:Nat->Bool)(c:Bool):
 Meets (Builtin.«list.__lt__» ⟨[.ref l,.ref b],[]⟩)
  (fun A R s=>s.heap.get? l=some {cls:= .type "list",dict:=dd,data:= .seq xs n,slots:=sl}/\s.heap.get? b=some {cls:= .type "list",dict:=dd2,data:= .seq ys n2,slots:=sl2}/\
   (∀j (h1:j<xs.size) (h2:j<ys.size),SeqAt.EqAt A.in1 s xs[j] ys[j] (e j))/\(∀j (h1:j<xs.size) (h2:j<ys.size),(∀k,k<j->e k=true)->e j=false->a0m A.in1 s xs[j] ys[j] c)/\
   ((∀k,k<min xs.size ys.size->e k=true)->c=decide (xs.size<ys.size))/\R (.ok (.ret (.bool c))) s):=by
 intro prog w A R s h
 obtain⟨hp,g,d,tk,os⟩:=s;obtain⟨hl,hb,he,hlt,hce,h⟩:=h
 have f3:=AutoSeq1.sub_list_list
 wp_walk using wpAny_loadPart' hl,wpAny_loadPart' hb
 exact⟨plainId_quiet plain_eq_loop _,codeAny_builtin entry_eq_loop (by
  rw [Around.under_plainId plain_eq_loop _]
  exact b3M l b xs ys n n2 dd dd2 sl sl2 e c _ 0 rfl (Nat.zero_le _) (fun j hj=>by lia) prog w A R _ ⟨hl,hb,he,hlt,hce,h⟩)⟩
variable {A:AR}{s:AC}
theorem a0m.lists{l b:AB}{xs ys:Array AA}{e:Nat->Bool}{c:Bool}(hl:s.heap.IsList l xs)(hb:s.heap.IsList b ys)(hu:A.units<cLine)
 (he:∀j (h1:j<xs.size) (h2:j<ys.size),SeqAt.EqAt A.in1 s xs[j] ys[j] (e j)) (hlt:∀j (h1:j<xs.size) (h2:j<ys.size),(∀k,k<j->e k=true)->e j=false->a0m A.in1 s xs[j] ys[j] c)
 (hce:(∀k,k<min xs.size ys.size->e k=true)->c=decide (xs.size<ys.size)):a0m A s (.ref l) (.ref b) c:=fun prog w E Q h=>by
 obtain⟨⟨c1,d1,t1,s1⟩,o1,e1,n1,k1⟩:=id hl
 obtain⟨⟨c2,d2,t2,s2⟩,o2,e2,n2,k2⟩:=id hb
 simp only at e1 k1 e2 k2
 subst e1 k1 e2 k2
 exact richCompare_meets_room (op:= .Lt) ⟨_,o1,rfl⟩ ⟨_,o2,rfl⟩ PySem.F.slot_list_lt PySem.F.entry_list_lt (PySem.F.args_list_lt_2 _ _) (a2R l b xs ys n1 n2 d1 d2 s1 s2 e c)
  ⟨o1,o2,he,hlt,hce,show Value.bool c≠Value.notImplemented/\Q (.bool c) s from⟨(fun x=>nomatch x),h⟩⟩ hu
end
open PySem PySem.Spec PyProof.Rows L2 PySem.W
abbrev PtL:=List (Int×Int)
def plv(p:Int×Int):PV:= .tuple [.int p.1,.int p.2]
def llv(L:PtL):PV:= .list (L.map plv)
def b6x:PV->Option (Int×Int)
 | .tuple [.int a,.int b]=>some (a,b)
 |_=>none
def b3K:PV->Option PtL
 | .list qs=>qs.mapM b6x
 |_=>none
theorem b8d{p:PV}{q:Int×Int}(h:b6x p=some q):p=plv q:=by
 unfold b6x at h
 split at h
 ·cases h;rfl
 ·cases h
theorem a6M{α β:Type}{f:α->Option β}{g:β->α}(hf:∀a b,f a=some b->a=g b):∀{l:List α} {m:List β},l.mapM f=some m->l=m.map g
 |[],m,h=>by cases h;rfl
 |a::l,m,h=>by
  rw [List.mapM_cons] at h
  obtain⟨b,h1,h⟩:=bind_some h
  obtain⟨m',h2,h⟩:=bind_some h
  cases h
  rw [AK,hf a b h1,a6M hf h2]
theorem b7L{p:PV}{L:PtL}(h:b3K p=some L):p=llv L:=by
 unfold b3K at h
 split at h
 ·rename_i qs
  unfold llv
  rw [a6M (fun a b=>b8d) h]
 ·cases h
def flK(L:PtL):List g0:=L.flatMap fun p=>[.inl p.1,.inl p.2]
def ltF(a b:PtL):Bool:=O3 (flK a) (flK b)
theorem a0E(p:Int×Int)(L:PtL):flK (p::L)= .inl p.1:: .inl p.2::flK L:=rfl
theorem b2g:∀{a b:PtL},flK a=flK b->a=b
 |[],[],_=>rfl
 |[],p::r,h=>by rw [a0E] at h;cases h
 |p::r,[],h=>by rw [a0E] at h;cases h
 |p::r,q::t,h=>by
  rw [a0E,a0E] at h
  injection h with h1 h
  injection h with h2 h
  rw [b2g h,show p=q from Prod.ext (Sum.inl.inj h1) (Sum.inl.inj h2)]
theorem b2w:b06 ltF:=⟨fun a b c h1 h2=>X7.tr _ _ _ h1 h2,fun a b h=>X7.as _ _ h,fun a b h1 h2=>b2g (X7.an _ _ h1 h2)⟩
theorem b7u(p q:Int×Int):PyData.eqv (plv p) (plv q)=decide (p=q):=by
 obtain⟨a,b⟩:=p
 obtain⟨x,y⟩:=q
 rw [Bool.eq_iff_iff,decide_eq_true_eq,Prod.mk.injEq]
 simp [plv,PyData.eqv,PyData.eqvAll]
theorem b5O:∀L M:PtL,a27 (L.map plv) (M.map plv)=some (ltF L M)
 |[],[]=>rfl
 |[],q::t=>rfl
 |p::r,[]=>rfl
 |p::r,q::t=>by
  rw [AK,AK]
  unfold a27
  rw [b7u]
  unfold ltF
  rw [a0E,a0E]
  by_cases c:p=q
  ·subst c
   rw [decide_eq_true rfl,if_pos rfl,b5O r t]
   show _=some (O3 (.inl p.1:: .inl p.2::flK r) (.inl p.1:: .inl p.2::flK t))
   unfold O3
   rw [if_pos rfl]
   conv=>rhs;unfold O3
   rw [if_pos rfl]
   rfl
  ·rw [decide_eq_false c,if_neg At]
   show a27 [.int p.1,.int p.2] [.int q.1,.int q.2]=_
   unfold a27
   unfold O3
   by_cases c1:p.1=q.1
   ·have c2:p.2≠q.2:=fun e=>c (Prod.ext c1 e)
    rw [if_pos (show PyData.eqv (.int p.1) (.int q.1)=true by simp [PyData.eqv,c1]),if_pos (by rw [c1])]
    unfold a27 O3
    rw [if_neg (show ¬PyData.eqv (.int p.2) (.int q.2)=true by simp [PyData.eqv,c2]),if_neg (fun e=>c2 (Sum.inl.inj e))]
    rfl
   ·rw [if_neg (show ¬PyData.eqv (.int p.1) (.int q.1)=true by simp [PyData.eqv,c1]),if_neg (fun e=>c1 (Sum.inl.inj e))]
    rfl
def a5I(x:d7):Option d7:=match PyData.items? x.rd with
 |some ps=>(ps.mapM b3K).bind fun Ls=>if Ls.length<64 then some (.own ((a1v ltF Ls).map llv)) else none
 |none=>none
theorem b3Y{prog:AN}{w:AI}{A:AR}{E:AA->AC->Prop}{s:AC}{l b:AB}{xs ys:Array AA}{e:Nat->Bool}{c:Bool}{Q:Bool->AC->Prop}(hl:s.heap.IsList l xs)(hb:s.heap.IsList b ys)(hu:A.units<cLine)
 (he:∀j (h1:j<xs.size) (h2:j<ys.size),SeqAt.EqAt A.in1 s xs[j] ys[j] (e j)) (hlt:∀j (h1:j<xs.size) (h2:j<ys.size),(∀k,k<j->e k=true)->e j=false->a0m A.in1 s xs[j] ys[j] c)
 (hce:(∀k,k<min xs.size ys.size->e k=true)->c=decide (xs.size<ys.size)) (h:Q c s):AG (model prog w) A (oneLt' true (.ref l) (.ref b)) Q E s:=by
 obtain⟨⟨c1,d1,t1,s1⟩,o1,e1,n1,k1⟩:=id hl
 obtain⟨⟨c2,d2,t2,s2⟩,o2,e2,n2,k2⟩:=id hb
 simp only at e1 k1 e2 k2
 subst e1 k1 e2 k2
 rw [oneLt'_eq]
 simp only [if_true]
 refine AE (wpAny_cRoomFor hu ?_)
 refine AE (wpAny_callSpecialIfBound?_slot ⟨_,o1,rfl⟩ PySem.F.slot_list_lt (call_meets PySem.F.slot_list_lt ⟨_,o1,rfl⟩ PySem.F.entry_list_lt (PySem.F.args_list_lt_2 _ _) (a2R l b xs ys n1 n2 d1 d2 s1 s2 e c) ⟨o1,o2,he,hlt,hce, ?_⟩))
 exact wpAny_truthy_bool h
section
variable {X:Cx}{pins:List (AB×Obj)}{σ:L2.St}{H:Hp}{s:AC}
def Gd(X:Cx)(H:Hp)(v:AA)(L:PtL):Prop:=∃x,m3 x v/\x4 X.K H (llv L) x
theorem b76{p q:Int×Int}(h:plv p=plv q):p=q:=by
 unfold plv at h
 injection h with h
 injection h with h1 h
 injection h with h2 _
 injection h1 with h1
 injection h2 with h2
 exact Prod.ext h1 h2
theorem b7K{L M:PtL}(h:llv L=llv M):L=M:=by
 unfold llv at h
 injection h with h
 exact List.map_inj_right (fun _ _=>b76)|>.mp h
theorem Gd.uniq(I:g9 X pins σ H s){v:AA}{L M:PtL}(h:Gd X H v L)(g:Gd X H v M):L=M:=by
 obtain⟨x,r,h⟩:=h
 obtain⟨y,t,g⟩:=g
 obtain⟨a,xs,rfl,h1,h2⟩:=id h
 obtain⟨b,ys,rfl,g1,g2⟩:=id g
 cases r
 cases t
 exact b7K (x4.inj I _ _ h g)
def dec(X:Cx)(H:Hp)(v:AA):PtL:=by
 classical exact if h:∃L,Gd X H v L then h.choose else []
theorem a86(I:g9 X pins σ H s){v:AA}{L:PtL}(h:Gd X H v L):dec X H v=L:=by
 have hx:∃L,Gd X H v L:=⟨L,h⟩
 unfold dec
 rw [dif_pos hx]
 exact Gd.uniq I hx.choose_spec h
theorem a5Q{n:Nat}:∀{ps:List PV},(∀p∈ps,n4 p n=true)->z5 ps n=true
 |[],_=>by simp [z5]
 |p::ps,h=>by
  have h1:=h p AX
  have h2:=a5Q fun q hq=>h q (Ac _ hq)
  simp [z5,h1,h2]
theorem a5R(L:PtL)(n:Nat):z5 (L.map plv) (n+2)=true:=a5Q fun p hp=>by
 obtain⟨x,_,rfl⟩:=AZ.mp hp
 simp [plv,n4,z5]
theorem b3H(I:g9 X pins σ H s){A:AR}{E:AA->AC->Prop}(hu:A.units+16<cLine):TS.Cmp X.prog X.w A E s oneType' (fun x=>∃L,Gd X H x.1 L) (fun x y=>ltF (dec X H x.1) (dec X H y.1)) where
 lt:=by
  rintro⟨x,x'⟩ ⟨y,y'⟩ ⟨L,hL⟩ ⟨M,hM⟩ st Q hκ h
  dsimp only at*
  rw [a86 I hL,a86 I hM] at h
  rw [lt'_eq]
  refine wpS_bind (wpS_get ?_)
  rw [hκ]
  refine wpS_bind (wpS_lift (wpAny_attempt ?_))
  rw [keyLt'_oneType]
  obtain⟨vx,rx,a,xs,rfl,hs,r⟩:=hL
  obtain⟨vy,ry,b,ys,rfl,hs',r'⟩:=hM
  cases rx
  cases ry
  obtain⟨its,rv,pl,hz⟩:=I.list hs
  obtain⟨its2,rv',pl',hz'⟩:=I.list hs'
  have hle:its.toArray.size=L.length:=by rw [<-AO (f:=plv),<-r.length,rv.length];simp
  have hle':its2.toArray.size=M.length:=by rw [<-AO (f:=plv),<-r'.length,rv'.length];simp
  have hu1:A.in1.units+4<cLine:=by rw [V8];lia
  have he:=a36 (A:=A.in1) (s:=s) r r' rv rv' fun p q x y u w hp' hq' rp' rq' rx' ry'=>a6k I 4 A.in1 p q x y u w hu1 (x6 (a5R L 2) hp') (x6 (a5R M 2) hq') rp' rq' rx' ry'
  refine b3Y pl.isList pl'.isList (by lia) he (fun j h1 h2 hk hj=> ?_) (fun hk=> ?_) (c:=ltF L M) ?_
  ·have h1':j<its.length:=by simpa using h1
   have h2':j<its2.length:=by simpa using h2
   obtain⟨x,ex,rx⟩:=V5 rv h1'
   obtain⟨y,ey,ry⟩:=V5 rv' h2'
   obtain⟨p,ep,hp⟩:=r.getV ex
   obtain⟨q,eq,hq⟩:=r'.getV ey
   have:=b9M I 4 A.in1 p q x y _ _ (ltF L M) hu1 (x6 (a5R L 2) (BD ep)) (x6 (a5R M 2) (BD eq)) (a9s (b5O L M) j p q ep eq hk hj) hp hq rx ry
   simpa using this
  ·rw [hle,hle']
   have:=a6K (b5O L M) fun k hk'=>hk k (by rw [hle,hle'];simpa using hk')
   simpa using this
  ·exact⟨rfl,wpS_pure h⟩
 tr:=fun x y z _ _ _=>b2w.tr _ _ _
 as:=fun x y _ _=>b2w.as _ _
theorem b3g(hu:X.A.units+64<cLine):A6 X (.builtin "sorted") (rC1 X.K a5I):=by
 intro pins s σ H xs us Q I rv h
 obtain⟨F,x,rx,rz,rfl,s0,h1,h2,k⟩:=h
 unfold a5I at h2
 split at h2
 ·rename_i ps e
  obtain⟨Ls,e1,h2⟩:=bind_some h2
  split at h2
  ·rename_i c
   cases h2
   obtain⟨a,xs,rfl,hq,r⟩:=D8 s0 h1 e
   obtain⟨u,rfl,ru⟩:=Y7 rv
   cases ru
   have ep:=a6M (fun a b=>b7L) e1
   subst ep
   have fin:∀(its:List AA) (T:String) (o:Obj) (n:Nat),(T="list"\/T="tuple")->s.heap.get? a=some o->o.cls= .type T->o.data= .seq its.toArray n->j9 xs its->AG (model X.prog X.w) X.A (call (.builtin "sorted") [.ref a]) (EP X pins σ Q) X.xe s:=by
    intro its T o n hT ho hc hd rvv
    have hall:∀v∈its,∃L∈Ls,∃y,m3 y v/\x4 X.K F (llv L) y:=fun v hv=>by
     obtain⟨i,hi,rfl⟩:=List.getElem_of_mem hv
     obtain⟨y,ey,ry⟩:=V5 rvv hi
     obtain⟨p,ep,hp⟩:=r.getV ey
     rw [Ak] at ep
     cases hL:Ls[i]? with
     |none=>rw [hL] at ep;cases ep
     |some L=>
      rw [hL] at ep
      cases ep
      exact⟨L,BD hL,y,ry,hp⟩
    have hlen:its.length=Ls.length:=by rw [<-rvv.length,r.length,AO]
    have gd:∀v∈its,∃L,Gd X H v L:=fun v hv=>let ⟨L,_,y,ry,hp⟩:=hall v hv;⟨L,y,ry,x4.mono s0 _ hp⟩
    refine TS.a7u (κ:=oneType') (S:=fun x=>∃L,Gd X H x.1 L) (R:=fun x y=>ltF (dec X H x.1) (dec X H y.1)) hT ho hc hd (by first|(rw [hlen];exact c)|(rw [hlen];lia)) (fun h2 h' kp=>⟨fun Q' hq'=> ?_, ?_⟩) gd fun hp1 hp2 en us k1 k2 pm pw he=> ?_
    ·refine kas_kind (T:= .type "list") h2 (fun v hv=> ?_) (by decide) (by decide) hq'
     obtain⟨L,y,ry,hp⟩:=gd v hv
     obtain⟨b,ys,rfl,hs,_⟩:=id hp
     cases ry
     obtain⟨_,_,pl,_⟩:=I.list hs
     obtain⟨o',ho',hc',_⟩:=pl.isList
     rw [<-hc']
     exact(Looks.ld (kp _ _ ho')).andThen .now
    ·exact b3H (s:={s with heap:=h'}) (I.kept (t':=s.toks) kp) (by rw [V8,V8];lia)
    ·have I1:g9 X pins σ H {s with heap:=hp1}:=I.kept (t':=s.toks) k1
     have hdec:its.map (dec X H)=Ls:=by
      refine List.ext_getElem? fun i=> ?_
      rw [Ak]
      by_cases hi:i<its.length
      ·rw [Aw hi]
       obtain⟨y,ey,ry⟩:=V5 rvv hi
       obtain⟨p,ep,hp⟩:=r.getV ey
       rw [Ak] at ep
       cases hL:Ls[i]? with
       |none=>rw [hL] at ep;cases ep
       |some L=>
        rw [hL] at ep
        cases ep
        show some (dec X H its[i])=some L
        rw [a86 I ⟨y,ry,x4.mono s0 _ hp⟩]
      ·rw [List.getElem?_eq_none (by lia),List.getElem?_eq_none (by lia)];rfl
     have hsort:us.map (dec X H)=a1v ltF Ls:=by
      symm
      refine b0N b2w (List.pairwise_map.mpr pw) ?_
      have:=pm.map (dec X H)
      rw [hdec] at this
      exact this
     have back:∀{us:List AA},(∀u∈us,∃L y,m3 y u/\x4 X.K F (llv L) y)->∃ys,j9 ys us/\j0 X.K F ((us.map (dec X H)).map llv) ys:=fun {us} hu'=>by
      induction us with
      |nil=>exact⟨[],.nil,rfl⟩
      |cons u us ih=>
       obtain⟨ys,h1,h2⟩:=ih fun u' h'=>hu' u' (Ac _ h')
       obtain⟨L,y,h4,h5⟩:=hu' u AX
       refine⟨y::ys,.cons h4 h1,y,ys,rfl, ?_,h2⟩
       rw [a86 I ⟨y,h4,x4.mono s0 _ h5⟩]
       exact h5
     obtain⟨ys,v1,r1⟩:=back (us:=us) fun u hu'=>let ⟨L,_,y,ry,hp⟩:=hall u (pm.mem_iff.mp hu');⟨L,y,ry,hp⟩
     rw [hsort] at r1
     have hf:H hp1.objs.size=none:=I1.hok.fresh (AM _)
     have hyl:ys.length<=AL:=by rw [v1.length,pm.length_eq,hlen,sizeLine_eq];lia
     exact⟨.ref hp1.objs.size,_,I1.laid (t':=s.toks) (h':=hp2) (o:= .lst ys) k2 (AM _) ⟨hyl,us,en,v1,he⟩,rfl,k _ F _ (u6.lst s0 hf r1)⟩
   rcases hq with hq|hq
   ·obtain⟨its,r',pl,hz⟩:=I.list hq
    obtain⟨o,ho,hc,n,hd⟩:=pl.isList
    exact fin its "list" o n (.inl rfl) ho hc hd r'
   ·obtain⟨its,r',⟨o,ho,hc,n,hd⟩,hz⟩:=I.tuple hq
    exact fin its "tuple" o n (.inr rfl) ho hc hd r'
  ·cases h2
 ·cases h2
end
theorem a6D{ρ:c7}{j:Nat}{r:d7}(h:(keep [] ρ)[j]?=some (some r)):False:=by
 have:=(a9k h).1
 cases this
theorem a0b{K:AD}{H:Hp}{σ:L2.St}{ρ:c7}(h:σ.length=ρ.length):A3 K (fun _=>none) H σ (keep [] ρ):=
 ⟨fun _ _ z=>(nomatch z),by rw [a6C];exact h,fun _ _ z=>(a6D z).elim,fun _ _ z=>a6D z,fun _ _ _ _ _ _ z=>(a6D z).elim⟩
section
variable {X:Cx}
end
section
variable {X:Cx}
end
section
variable {X:Cx}
theorem b3S:MtR X "dict.values" (fun x xs H Q=>∃a kvs,x= .ref a/\xs=[]/\H a=some (.dK kvs)/\∀p,H p=none->Q (.ref p) (upd H p (.ext fun h=>h.IsValuesView p a))):=by
 intro pins s σ H x xs v us Q I rx rv h
 obtain⟨a,kvs,rfl,rfl,ha,q⟩:=h
 cases rx
 cases rv
 obtain⟨z,hd,vs,rel,dd⟩:=b4T I.hok ha
 refine call_meetsIn PySem.F.slot_dict_values dd.typeIs PySem.F.entry_dict_values (PySem.F.args_dict_values_1 _) (meets_dict_values (l7 X.prog X.w) a hd) ⟨⟨vs,dd⟩, ?_⟩
 refine⟨.ref s.heap.objs.size,_,I.laid (a:=s.heap.objs.size) (t':=s.toks) (o:= .ext fun h=>h.IsValuesView s.heap.objs.size a) (fun b o e=>AY _ e) (AM _) ⟨⟨_,An _ rfl,rfl,rfl⟩,⟨_,An _ rfl⟩,fun h1 h2 p k=> ?_⟩,rfl,q _ (I.hok.fresh (AM _))⟩
 obtain⟨o,ho,r⟩:=p
 exact⟨o,k _ ho,r⟩
theorem b5C:∀{ys:List (g0×V)} {vs:List (g0×AA)},KV ys vs->j9 (ys.map (·.2)) (vs.map (·.2))
 |_,_,.nil=> .nil
 |_,_,.cons r t=> .cons r.2 (b5C t)
def c0k:List V->Hp->VK->Prop:=fun xs H Q=>∃p a ys,xs=[.ref p]/\H p=some (.ext fun h=>h.IsValuesView p a)/\H a=some (.dK ys)/\ys.length<=AL/\∀q,H q=none->Q (.ref q) (upd H q (.lst (ys.map (·.2))))
theorem b1c(hc:X.calm=true):A6 X (.type "list") c0k:=by
 intro pins s σ H xs us Q I rv h
 obtain⟨p,a,ys,rfl,hp,ha,hz,q⟩:=h
 obtain⟨u,rfl,ru⟩:=Y7 rv
 cases ru
 obtain⟨hv,_,_⟩:=(show y4 X.prog X.w H s.heap p (.ext fun h=>h.IsValuesView p a) from I.hok p _ hp)
 obtain⟨z,hd,vals,rel,dd⟩:=b4T I.hok ha
 obtain⟨ep,hat⟩:=dd.dictAt
 refine kdl_call (kdl_values (r:=p) (d:=a) (kvs:=vals) (ep:=ep) (knd:=l7 X.prog X.w)) (I.ok.hd hc) ⟨hv,hat⟩ (by rw [<-Paired.length rel];exact hz) fun h' tk acc' c' kp hS hacc=> ?_
 have e2:=kdl_vals_eq acc'.toList (by rw [Array.length_toList];exact hacc.1) fun j v e=>hacc.2 j v (by rw [<-Array.getElem?_toList];exact e)
 have hw:j9 (ys.map (·.2)) acc'.toList:=by rw [e2];exact b5C rel
 exact⟨.ref s.heap.objs.size,_,I.laid (t':=tk) (o:= .lst (ys.map (·.2))) kp (AM _) ⟨by rw [AO];exact hz,acc'.toList,c',hw,by rw [hS]⟩,rfl,q _ (I.hok.fresh (AM _))⟩
theorem b2M{K:AD}{F:Hp}:∀{kvs:List (List g0×PV)} {xs:List (g0×V)},u8 K F kvs (xs.map s1)->j0 K F (kvs.map (·.2)) (xs.map (·.2))
 |[],[],_=>rfl
 |[],_::_,r=>by cases r
 |_::_,[],⟨_,_,e,_⟩=>by cases e
 |(k,q)::es,y::ys,⟨v,t,e,rv,rt⟩=>by
  injection e with e1 e2
  subst e2
  have ev:y.2=v:=congrArg Prod.snd e1
  subst ev
  exact⟨_,_,rfl,rv,b2M rt⟩
def a9u(i:Nat):M:=fun ρ=>match ρ[i]? with
 |some (some (.ow (.txt kvs)))=>if kvs.length<=AL then some (.own (kvs.map (·.2))) else none
 |_=>none
theorem b45(i:Nat){x:Str}{p p2 ap cp pos:Pos}(hc:X.calm=true)(hg:Gl X "list")(hm:X.mg "list"=none)(hx:PE X (.Name x p2) (C7 i))
 (hv:bootBuiltins "list"=some (.type "list"):=by rfl)
 (hbase:attributeBase (.Name x p2) "values" X.env (eval (.Name x p2) X.env)=eval (.Name x p2) X.env:=by rfl) (hline:(ap.endLine==cp.line)=true:=by rfl)
 (hs2:AT [.Call (.Attribute (.Name x p2) "values" ap) [] [] cp] X.env=(false,eval (.Call (.Attribute (.Name x p2) "values" ap) [] [] cp) X.env)::AT [] X.env:=by rfl) (hpl2:(backTo pos (AT [] X.env)).any (·.1)=false:=by rfl):
 EE X (.Call (.Name "list" p) [.Call (.Attribute (.Name x p2) "values" ap) [] [] cp] [] pos) (a9u i):=
 u0 (a4K (b1c hc) hg hm hv (x8 (b93 PySem.F.plainAttrs_dict PySem.F.slot_dict_values PySem.F.type_dict_values b3S hx hbase hline) K6 hs2) (by decide) (by decide) hs2 hpl2) fun σ H Q ⟨F,ρ,r,en,em,k⟩=>by
  unfold a9u at em
  split at em
  ·rename_i kvs eo
   split at em
   ·rename_i hz
    cases em
    obtain⟨w,hw1,a,xs,rfl,fa,ha',rl⟩:=en.at_ i _ eo
    refine⟨.ref a,hw1,.inr (.inr (.inl ⟨rfl,.inl ⟨xs,ha'⟩⟩)),a,xs,rfl,rfl,ha',fun p hp=> ?_⟩
    have hne:a≠p:=fun z=>by subst z;rw [ha'] at hp;cases hp
    have x1:U4 F H F (upd H p (.ext fun h=>h.IsValuesView p a)):=U4.layH en.fh hp
    have hlen:xs.length=kvs.length:=by have:=rl.length;rwa [AO] at this
    refine⟨p,a,xs,rfl,g5,by rw [d8 hne];exact ha',by rw [hlen];exact hz,fun q hq=>k _ F _ ?_⟩
    exact u6.trans x1 (u6.lst x1.fh hq (b2M rl))
   ·cases em
  ·cases em
def btT(ss:List Str)(i j:Nat):Bool:=match ss[i]?,ss[j]? with
 |some a,some b=>decide (a.cps.toList<b.cps.toList)
 |_,_=>false
def b2n(x:d7):Option d7:=match x with
 | .ow (.lst ps)=>(C6 ps).bind fun ss=>if 0<ss.length then(ss[argBest (btT ss) (ss.length - 1)]?).map fun z=> .val (.str z) else none
 |_=>none
theorem b7f(hc:X.calm=true):A6 X (.builtin "min") (rC1 X.K b2n):=by
 intro pins s σ H xs us Q I rv h
 obtain⟨F,x,rx,rz,rfl,s0,h1,h2,k⟩:=h
 obtain⟨u,rfl,ru⟩:=Y7 rv
 unfold b2n at h2
 split at h2
 ·rename_i ps
  obtain⟨ss,e1,h2⟩:=bind_some h2
  split at h2
  ·rename_i c
   cases hq:ss[argBest (btT ss) (ss.length - 1)]? with
   |none=>rw [hq] at h2;cases h2
   |some z=>
    rw [hq] at h2;cases h2
    obtain⟨a,ys,rfl,fa,ha,rl⟩:=h1
    cases ru
    obtain⟨_,its,n,vv,e⟩:=(show y4 X.prog X.w H s.heap a (.lst ys) from I.hok a _ ha)
    rw [(a5o e1 rl).1] at vv
    have hle:its.length=ss.length:=by rw [<-vv.length,AO]
    have at_:∀(i:Nat) (vi:AA),its.toArray[i]?=some vi->∃(a:Str) (t:Tok),ss[i]?=some a/\vi= .str a t:=fun i vi hi=>by
     have hi':its[i]?=some vi:=by simpa using hi
     obtain⟨hlt,e1⟩:=Am.mp hi'
     obtain⟨x,ex,rx⟩:=V5 vv hlt
     rw [Ak] at ex
     cases hs:ss[i]? with
     |none=>rw [hs] at ex;cases ex
     |some a=>
      rw [hs] at ex;cases ex
      rw [e1] at rx
      obtain⟨t,rfl⟩:=rx
      exact⟨a,t,rfl,rfl⟩
    refine b3Q (I.ok.hd hc) (l:=a) (vs:=its.toArray) ⟨_,e,rfl,n,rfl⟩ (by simp;lia) (btT ss) (fun h tk hK i j vi vj hi hj=> ?_) fun v h' tk hv hK=> ?_
    ·obtain⟨p,t,ep,rfl⟩:=at_ i vi hi
     obtain⟨q,t',eq,rfl⟩:=at_ j vj hj
     have:btT ss i j=decide (p.cps.toList<q.cps.toList):=by unfold btT;rw [ep,eq]
     rw [this]
     exact a0m.strs p q t t'
    ·have:its.toArray.size=ss.length:=by simp [hle]
     rw [this] at hv
     obtain⟨q,t,eq,rfl⟩:=at_ _ v hv
     rw [hq] at eq;cases eq
     exact⟨.str z,H,I.kept (t':=tk) hK,⟨t,rfl⟩,k _ F H (u6.here s0 rfl)⟩
  ·cases h2
 ·cases h2
def a9t(i j:Nat):M:=fun ρ=>match ρ[i]?,ρ[j]? with
 |some (some (.ow (.txt kvs))),some (some (.val (.int z)))=>if kvs.length<AL/\b1b kvs=true then some (.own ((kvs.filter (qP kvs z)).map fun e=>kPV e.1)) else none
 |_,_=>none
theorem b4X(i j:Nat){x y u:Str}{p p2 p3 p4 p5 p6 sp cp pos:Pos}{scope:Scope}{N0:List Str}(hx:∀e s,X.xe e s->False)(hc:X.calm=true)(S:A4 X.N N0 [y] X.env scope)
 (hd:PE X (.Name x p) (C7 i)) (hu:X.A.units+64<cLine) (hg:∀C fp pins s H,PG (m6 X N0 scope [y] C fp pins s H) (.Name y p2) (a2O X.N.length)) (he1:∀C fp pins s H,PE (m6 X N0 scope [y] C fp pins s H) (.Name x p3) (C7 i))
 (he2:∀C fp pins s H,PE (m6 X N0 scope [y] C fp pins s H) (.Name y p4) (C7 X.N.length)) (he3:∀C fp pins s H,PE (m6 X N0 scope [y] C fp pins s H) (.Name u p5) (C7 j)) (he4:∀C fp pins s H,PE (m6 X N0 scope [y] C fp pins s H) (.Name y p6) (C7 X.N.length)) (hs:∀x',foldedSetIterable (.Name x p) X.env x'=pure x':=by intro _;rfl):
 EE X (.ListComp (.Name y p6) [⟨.Name y p2,.Name x p,[.Compare (.Subscript (.Name x p3) (.Name y p4) sp) [.Eq] [.Name u p5] cp],0⟩] scope pos) (a9t i j):=
 u0 (b0F i j hx hc S hd (by lia) hg he1 he2 he3 he4 hs) fun σ H Q ⟨F,ρ,r,en,e,k⟩=>by
  unfold a9t at e
  split at e
  ·rename_i kvs z eo ez
   split at e
   ·rename_i c
    cases e
    obtain⟨w,hw1,a,xs,rfl,fa,ha',rl⟩:=en.at_ i _ eo
    obtain⟨w,hz,rz⟩:=en.at_ j _ ez
    cases rz
    have hlen:xs.length=kvs.length:=by have:=rl.length;rwa [AO] at this
    have hall:=b8P rl c.2
    refine⟨a,xs,z,hw1,hz,ha',by rw [hlen];exact c.1,fun p hp=>let ⟨k,h,_⟩:=hall p hp;⟨k,h⟩,fun D hD=>k _ F _ (u6.lst en.fh hD (a9m rl z hall rl fun p hp=>hp))⟩
   ·cases e
  ·cases e
end
def a3m(H:Hp)(b:AB)(xs:List V)(n:Nat):Prop:=∃e:List V,e.length<=n/\H b=some (.lst (xs++e))
theorem a3m.same{H H':Hp}{b:AB}{xs:List V}{n:Nat}(g:a3m H b xs n)(s:j8 H H'):a3m H' b xs n:=let ⟨e,l,h⟩:=g;⟨e,l,s _ _ h⟩
theorem a3m.app{H:Hp}{b c:AB}{xs ys:List V}{n:Nat}(g:a3m H b xs n)(h:H c=some (.lst ys))(w:V):a3m (upd H c (.lst (ys++[w]))) b xs (n+1):=by
 obtain⟨e,l,q⟩:=g
 by_cases hb:b=c
 ·subst hb
  rw [q] at h
  cases h
  exact⟨e++[w],by rw [Ai,List.length_singleton];lia,by rw [g5,List.append_assoc]⟩
 ·exact⟨e,by lia,by rw [d8 hb];exact q⟩
theorem b2U{K:AD}{H:Hp}{a b:AB}{xs ys:List V}{o:HO}(h:Z1 K H a xs)(hb:H b=some (.lst ys)):Z1 K (upd H b o) a xs:=by
 rcases h with(h|⟨u,h⟩)|h
 ·exact .inl (.inl (by rw [d8 (fun z=>by rw [z,hb] at h;cases h)];exact h))
 ·exact .inl (.inr ⟨u,by rw [d8 (fun z=>by rw [z,hb] at h;cases h)];exact h⟩)
 ·exact .inr h
theorem b4x{α:Type}(x:α)(xs:List α):L2.atI (x::xs) 0=some x:=by
 unfold L2.atI L2.ixN
 rw [if_pos (by lia)]
 simp
structure Pk(K:AD)(H:Hp)(ah a0 a3 b1 b2 b3:AB)(z0 z3 y1 y2 y3:List V)(J:Hp)(n:Nat):Prop where
 t0:Z1 K J a0 z0
 t3:Z1 K J a3 z3
 g1:a3m J b1 y1 n
 g2:a3m J b2 y2 n
 g3:a3m J b3 y3 n
 o:∀c u,c≠ah->H c=some u->J c=some u
section
variable {K:AD}{H J J':Hp}{ah a0 a3 b1 b2 b3 c:AB}{z0 z3 y1 y2 y3:List V}{n:Nat}
theorem Pk.same(p:Pk K H ah a0 a3 b1 b2 b3 z0 z3 y1 y2 y3 J n)(s:j8 J J'):Pk K H ah a0 a3 b1 b2 b3 z0 z3 y1 y2 y3 J' n:=
 ⟨p8 s p.t0,p8 s p.t3,p.g1.same s,p.g2.same s,p.g3.same s,fun c u h q=>s _ _ (p.o c u h q)⟩
theorem Pk.app{ys:List V}(p:Pk K H ah a0 a3 b1 b2 b3 z0 z3 y1 y2 y3 J n)(h:J c=some (.lst ys))(w:V)(hc:H c=none\/c=ah):Pk K H ah a0 a3 b1 b2 b3 z0 z3 y1 y2 y3 (upd J c (.lst (ys++[w]))) (n+1):=
 ⟨b2U p.t0 h,b2U p.t3 h,p.g1.app h w,p.g2.app h w,p.g3.app h w,fun d u hd q=>by
  have e:d≠c:=fun z=>hc.elim (fun i=>by
   rw [z,i] at q;cases q) fun i=>hd (z.trans i)
  rw [d8 e]
  exact p.o d u hd q⟩
end
theorem Y9.junk2{K:AD}{F0 H0 F H H':Hp}{σ:L2.St}{ρ:c7}{h x:Nat}{ah:AB}{L:List PV}(so:Y9 K F0 H0 F H σ ρ)(hh:ρ[h]?=some (some (.ow (.lst L))))(hs:σ[h]?=some (some (.ref ah)))(fa:F ah=none)(s:∀c u,c≠ah->H c=some u->H' c=some u)(v:Option V):
 Y9 K F0 H0 F H' (σ.set x v) ((ρ.set h none).set x none):=by
 have at_:∀{j:Nat} {r:d7},((ρ.set h none).set x none)[j]?=some (some r)->j≠x/\j≠h/\ρ[j]?=some (some r):=fun {j r} z=>by
  rcases a7l z with⟨_,z⟩|⟨z1,z⟩
  ·cases z
  ·rcases a7l z with⟨_,z⟩|⟨z2,z⟩
   ·cases z
   ·exact⟨z1,z2,z⟩
 have h0:H0 ah=none:=so.nw h _ ah hh hs
 refine⟨⟨so.x.f,fun b o z=>s b o (fun y=>by rw [y,h0] at z;cases z) (so.x.h _ _ z),fun b o z=>s b o (fun y=>by rw [y,fa] at z;cases z) (so.x.fh _ _ z),so.x.nw,so.x.nf⟩,⟨fun b o z=>s b o (fun y=>by rw [y,fa] at z;cases z) (so.e.fh _ _ z),by simp only [List.length_set];exact so.e.len,fun j r z=> ?_,fun j c z=>so.e.nb j c (at_ z).2.2,fun i j c d a hne z1 z2 z3 z4=> ?_⟩,fun j c a z1 z2=> ?_⟩
 ·obtain⟨q1,q2,z⟩:=at_ z
  obtain⟨w,g1,g2⟩:=so.e.at_ j r z
  refine⟨w,by rw [a1X q1];exact g1, ?_⟩
  cases r with
  |val p=>exact g2
  |bo c=>exact absurd z (so.e.nb j c)
  |ow c=>
   have g2:U5 K F H w c:=g2
   obtain⟨a',u,rfl,f1,h1,nt⟩:=b6g g2
   have hne:a'≠ah:=fun y=>by subst y;exact so.e.ap j h c (.lst L) a' q2 z hh g1 hs
   exact(show U5 K F H' (.ref a') c from b2K g2 (PU.j8.refl F) f1 fun o ho=>s _ _ hne ho)
 ·obtain⟨p1,_,z1⟩:=at_ z1
  obtain⟨p2,_,z2⟩:=at_ z2
  rw [a1X p1] at z3
  rw [a1X p2] at z4
  exact so.e.ap i j c d a hne z1 z2 z3 z4
 ·obtain⟨p1,_,z1⟩:=at_ z1
  rw [a1X p1] at z2
  exact so.nw j c a z1 z2
section
variable {X:Cx}
theorem b7w(i:Nat){st:List Stmt}{n:MS}(h:ESs X st n):ESs X st (S9 i n):=a5U h fun D σ H ⟨F0,H0,F,ρ,fl,so,e,fin⟩=>by
 unfold S9 at e
 split at e
 ·rename_i ps eo
  obtain⟨F',s,so'⟩:=so.frz eo
  exact⟨F0,H0,F',_,fl,so',e,fin.later s⟩
 ·exact⟨F0,H0,F,ρ,fl,so,e,fin⟩
end
structure ApS(X:Cx)(e a:AF)(ap cp p:Pos):Prop where
 base:attributeBase e "append" X.env (eval e X.env)=eval e X.env
 few:((backTo cp (AT [a] X.env)).all (fun x=> !x.1)&&(backToKw cp (keywordEach [] X.env)).all (fun x=>x.1.isSome)
  && decide ([a].length+([]:List Keyword).length+(if([]:List Keyword).isEmpty then 0 else 1)<30))=true
 line:(ap.endLine==cp.line)=true
 se:AT [a] X.env=(false,eval a X.env)::AT [] X.env
 plain:(backTo cp (AT [] X.env)).any (·.1)=false
 sw:swapsWith (.Call (.Attribute e "append" ap) [a] [] cp) none p.line X.env=pure false
def a4B(x h:Nat)(A:List Nat)(m1:M)(mc:MT)(n:MS):MS:=fun ρ=>
 if b2h A ρ=true then match ρ[h]? with
  |some (some (.ow (.lst L)))=>if a2N L=true then match m1 ((keep A ρ).set h (some (.val (.list L)))) with
   |some (.val (.tuple [p0,.list ps,.list (.tuple (.list cs::ts)::qs)]))=>
    if x<ρ.length/\(h==x)=false/\ps.length+5<AL/\cs.length+5<AL/\qs.length+5<AL/\mc ((ρ.set h (some (.val (.list L)))).set x (some (.val (.tuple [p0,.list ps,.list (.tuple (.list cs::ts)::qs)]))))=some false then n ((ρ.set h none).set x none) else none
   |_=>none
   else none
  |_=>none
 else none
section
variable {X:Cx}
theorem b49{x h:Nat}{A:List Nat}{nx:Str}{e1 c2 k1 k2 k3 k4 k5 ea eb ec:AF}{a2:List Stmt}{m1:M}{mc:MT}{n2 n:MS}{B7:List Stmt}{p1 p1' p2 p3 p4 p5 q1 q2 q3 s1 s2 s3 s4 s5 ap1 cp1 ap2 cp2 ap3 cp3:Pos}
 (hN:X.N.Nodup) (nl:b7U X.K=true)
 (h1:EE X e1 m1) (h2:ET X c2 mc) (ha2:ESs X a2 n2) (hv1:PE X (.Name nx q1) (C7 x)) (hk1:EE X k1 (mC (.int 1))) (hv2:PE X (.Name nx q2) (C7 x)) (hk2:EE X k2 (mC (.int 2))) (hk3:EE X k3 (mC (.int 0))) (hk4:EE X k4 (mC (.int 0))) (hv3:PE X (.Name nx q3) (C7 x)) (hk5:EE X k5 (mC (.int 2)))
 (hea:EE X ea (mC .none)) (heb:EE X eb (mC .none)) (hec:EE X ec (mC .none)) (hr:ESs X B7 n)
 (hi:X.N[x]?=some nx:=by rfl) (hx:Loc X.env.scope nx:=by exact Or.inl rfl) (hs:swapsWith e1 (some (.Name nx p1')) p1.line X.env=pure false:=by rfl) (hf:X.fn nx=true\/X.env.scope.names.lookup nx=some .local:=by first|exact .inl rfl|exact .inr rfl)
 (hp1:a0V k1:=by intro _ _;rfl) (hp2:a0V k2:=by intro _ _;rfl) (hp3:a0V k3:=by intro _ _;rfl) (hp4:a0V k4:=by intro _ _;rfl) (hp5:a0V k5:=by intro _ _;rfl)
 (b1:ApS X (.Subscript (.Name nx q1) k1 s1) ea ap1 cp1 p3:=by exact⟨rfl,rfl,rfl,rfl,rfl,rfl⟩) (b2:ApS X (.Subscript (.Subscript (.Subscript (.Name nx q2) k2 s2) k3 s3) k4 s4) eb ap2 cp2 p4:=by exact⟨rfl,rfl,rfl,rfl,rfl,rfl⟩) (b3:ApS X (.Subscript (.Name nx q3) k5 s5) ec ap3 cp3 p5:=by exact⟨rfl,rfl,rfl,rfl,rfl,rfl⟩):
 ESs X (.Assign [.Name nx p1'] e1 p1:: .If c2 a2 [] p2:: .Expr (.Call (.Attribute (.Subscript (.Name nx q1) k1 s1) "append" ap1) [ea] [] cp1) p3:: .Expr (.Call (.Attribute (.Subscript (.Subscript (.Subscript (.Name nx q2) k2 s2) k3 s3) k4 s4) "append" ap2) [eb] [] cp2) p4:: .Expr (.Call (.Attribute (.Subscript (.Name nx q3) k5 s5) "append" ap3) [ec] [] cp3) p5::B7) (a4B x h A m1 mc n):=by
 refine a5U (a0N (b6v hN hi hx h1 hs hf) (a0N (b8S h2 ha2 b2H)
  (a0N (a5T (a8H PySem.F.plainAttrs_list PySem.F.slot_list_append PySem.F.type_list_append a0L (a8I a6A hv1 hk1 hp1) (x8 hea K6 b1.se) b1.base b1.few b1.line b1.se b1.plain) b1.sw)
  (a0N (a5T (a8H PySem.F.plainAttrs_list PySem.F.slot_list_append PySem.F.type_list_append a0L (a8I a6A (a8I b2u (a8I a6A hv2 hk2 hp2) hk3 hp3) hk4 hp4) (x8 heb K6 b2.se) b2.base b2.few b2.line b2.se b2.plain) b2.sw)
  (a0N (a5T (a8H PySem.F.plainAttrs_list PySem.F.slot_list_append PySem.F.type_list_append a0L (a8I a6A hv3 hk5 hp5) (x8 hec K6 b3.se) b3.base b3.few b3.line b3.se b3.plain) b3.sw) hr))))) fun D σ H ⟨F0,H0,F,ρ,fl,so,e,fin⟩=> ?_
 unfold a4B at e
 split at e
 case isFalse=>cases e
 rename_i fA
 split at e
 case h_2=>cases e
 rename_i L eo
 split at e
 case isFalse=>cases e
 rename_i fL
 split at e
 case h_2=>cases e
 rename_i p0 ps cs ts qs q1e
 split at e
 case isFalse=>cases e
 rename_i hc
 obtain⟨hxr,hhx,hz1,hz3,hz2,tst⟩:=hc
 have hhx:h≠x:=by simpa using hhx
 have sFH:=so.e.fh
 have hlen:=so.e.len
 have sT:j8 (a2z F) H:=fun c o z=>sFH _ _ (a6n z).1
 obtain⟨w0,hw,ah,xs,rfl,fah,hah,rlh⟩:=so.e.at_ h _ eo
 have NTl:∀zs,NT (.lst zs):=fun zs _ h=>nomatch h
 have fT:a2z F ah=none:=a8n fah
 obtain⟨Fh,hFh⟩:∃Fh,Fh=upd (a2z F) ah (.lst xs):=⟨_,rfl⟩
 have up:j8 (a2z F) Fh:=by rw [hFh];exact C5 fT
 have fhh:Fh ah=some (.lst xs):=by rw [hFh];exact g5
 have fhn:∀b,b≠ah->Fh b=a2z F b:=fun b z=>by rw [hFh];exact d8 z
 have sFh:j8 Fh H:=fun c o z=>by
  by_cases hc:c=ah
  ·subst hc;rw [fhh] at z;cases z;exact hah
  ·rw [fhn c hc] at z;exact sT _ _ z
 have rH:x4 X.K Fh (.list L) (.ref ah):=⟨ah,xs,rfl,S2.of fhh,j0.mono up _ (a4N b0l L fL rlh)⟩
 have e0:=b3o (σ':=σ) so.e fA sT rfl fun _ _=>rfl
 have envH:A3 X.K Fh H σ ((keep A ρ).set h (some (.val (.list L)))):=by
  have cl:∀(y:Nat) (q:d7),((keep A ρ).set h (some (.val (.list L))))[y]?=some (some q)->∃p v,q= .val p/\σ[y]?=some (some v)/\x4 X.K Fh p v:=fun y q z=>by
   rcases a7l z with⟨rfl,b⟩|⟨_,z⟩
   ·cases b;exact⟨_,_,rfl,hw,rH⟩
   ·obtain⟨v,g1,g2⟩:=e0.at_ y q z
    obtain⟨z1,z2⟩:=a9k z
    have f1:=List.all_eq_true.mp fA y z1
    rw [z2] at f1
    cases q with
    |val p=>exact⟨p,v,rfl,g1,x4.mono up _ g2⟩
    |ow c=>cases f1
    |bo c=>cases f1
  refine⟨sFh,by rw [List.length_set,a6C];exact hlen,fun j q z=> ?_,fun j c z=> ?_,fun j k c d a _ z=> ?_⟩
  ·obtain⟨p,v,rfl,g1,g2⟩:=cl j q z
   exact⟨v,g1,g2⟩
  ·obtain⟨p,v,e,_⟩:=cl j _ z;cases e
  ·obtain⟨p,v,e,_⟩:=cl j _ z;cases e
 refine⟨Fh,_,_,envH,q1e,fun v1 F1 H1 o1=> ?_⟩
 have nofrz:∀b o u,F1 b≠some (.frz o u):=fun b o u z=>by
  have z:=o1.x.nf _ _ _ z
  by_cases hb:b=ah
  ·subst hb;rw [fhh] at z;cases z
  ·rw [fhn b hb] at z
   obtain⟨_,ys,e⟩:=a6n z
   cases e
 have inF:∀b ys,S2 X.K F1 b ys->F1 b=some (.lst ys):=fun b ys hq=>by
  rcases hq with(h|⟨w,h⟩)|⟨w,its,k,h1,h2,_⟩
  ·exact h
  ·exact absurd h (nofrz _ _ _)
  ·exact(b54 nl h1 h2).elim
 have old:∀b ys,F1 b=some (.lst ys)->H b=none\/b=ah:=fun b ys z=>by
  by_cases hb:b=ah
  ·exact .inr hb
  ·refine .inl ?_
   cases hHb:H b with
   |none=>rfl
   |some w=>
    have h1b:=o1.x.h _ _ hHb
    have hw':w= .lst ys:=by have:=o1.x.fh _ _ z;rw [h1b] at this;exact Option.some.inj this
    subst hw'
    have:=o1.x.nw b _ (by rw [fhn b hb];exact b5d H sFH hHb) hHb (NTl _)
    rw [z] at this;cases this
 have rep1:=o1.rep
 obtain⟨a0,z0,rfl,hq0,v0,r0,rfl,rp0,u1,r1,rfl,rp1,u2,r2,rfl,rp2,hnil⟩:=(show x4 X.K F1 (.tuple [p0,.list ps,.list (.tuple (.list cs::ts)::qs)]) v1 from rep1)
 cases hnil
 obtain⟨d1,y1,rfl,hl1,rl1⟩:=(show x4 X.K F1 (.list ps) u1 from rp1)
 obtain⟨d2,y2,rfl,hl2,t2,y2',rfl,ru2,rl2⟩:=(show x4 X.K F1 (.list (.tuple (.list cs::ts)::qs)) u2 from rp2)
 obtain⟨a3,z3,rfl,hq3,u3,z3',rfl,ru3,rl3⟩:=(show x4 X.K F1 (.tuple (.list cs::ts)) t2 from ru2)
 obtain⟨d3,y3,rfl,hl3,rl3'⟩:=(show x4 X.K F1 (.list cs) u3 from ru3)
 have f1:=inF _ _ hl1
 have f2:=inF _ _ hl2
 have f3:=inF _ _ hl3
 obtain⟨U,hU⟩:∃U:Hp,U=fun c=>match F c with|some u=>some u|none=>F1 c:=⟨_,rfl⟩
 have UF:j8 F U:=fun c u z=>by rw [hU];simp only [z]
 have UH:j8 U H1:=fun c u z=>by
  rw [hU] at z
  cases h:F c with
  |some w=>simp only [h] at z;cases z;exact o1.x.h _ _ (sFH _ _ h)
  |none=>simp only [h] at z;exact o1.x.fh _ _ z
 have UF1:j8 F1 U:=fun c u z=>by
  cases h:F c with
  |some w=>
   have a1:=o1.x.h _ _ (sFH _ _ h)
   have a2:=o1.x.fh _ _ z
   rw [a1] at a2
   rw [UF _ _ h];exact a2
  |none=>rw [hU];simp only [h,z]
 have envU:A3 X.K U H1 (σ.set x (some (.ref a0))) ((ρ.set h (some (.val (.list L)))).set x (some (.val (.tuple [p0,.list ps,.list (.tuple (.list cs::ts)::qs)])))):=by
  have cl:∀(y:Nat) (q:d7),((ρ.set h (some (.val (.list L)))).set x (some (.val (.tuple [p0,.list ps,.list (.tuple (.list cs::ts)::qs)]))))[y]?=some (some q)->(y=x/\q= .val (.tuple [p0,.list ps,.list (.tuple (.list cs::ts)::qs)]))\/(y≠x/\y=h/\q= .val (.list L))\/(y≠x/\y≠h/\ρ[y]?=some (some q)):=fun y q z=>by
   rcases a7l z with⟨a,b⟩|⟨a,b⟩
   ·exact .inl ⟨a,(Option.some.inj b).symm⟩
   ·rcases a7l b with⟨a',b'⟩|⟨a',b'⟩
    ·exact .inr (.inl ⟨a,a',(Option.some.inj b').symm⟩)
    ·exact .inr (.inr ⟨a,a',b'⟩)
  refine⟨UH,by simp only [List.length_set];exact hlen,fun y q z=> ?_,fun y c z=> ?_,fun y1 y2 c d b hne z1 z2 z3 z4=> ?_⟩
  ·have hyl:y<σ.length:=by have:=(Am.mp z).1;simp only [List.length_set] at this;lia
   rcases cl y q z with⟨rfl,rfl⟩|⟨hx',rfl,rfl⟩|⟨hx',hh',w⟩
   ·exact⟨.ref a0,by rw [BG hyl],x4.mono UF1 _ rep1⟩
   ·exact⟨.ref ah,by rw [a1X hx'];exact hw,x4.mono UF1 _ (x4.mono o1.x.f _ rH)⟩
   ·obtain⟨v,g1,g2⟩:=so.e.at_ y q w
    refine⟨v,by rw [a1X hx'];exact g1, ?_⟩
    cases q with
    |val p=>exact x4.mono UF _ g2
    |bo c=>exact absurd w (so.e.nb y c)
    |ow c=>
     have g2:U5 X.K F H v c:=g2
     obtain⟨a',u,rfl,f1',h1',nt⟩:=b6g g2
     have hne:a'≠ah:=fun z=>by subst z;exact so.e.ap y h c (.lst L) a' hh' w eo g1 hw
     have n1:F1 a'=none:=o1.x.nw a' u (by rw [fhn a' hne];exact a8n f1') h1' nt
     exact(show U5 X.K U H1 (.ref a') c from b2K g2 UF (by rw [hU];simp only [f1',n1]) fun o ho=>o1.x.h _ _ ho)
  ·rcases cl y _ z with⟨_,h⟩|⟨_,_,h⟩|⟨_,_,w⟩
   ·cases h
   ·cases h
   ·exact so.e.nb y c w
  ·rcases cl y1 _ z1 with⟨_,h⟩|⟨_,_,h⟩|⟨a1,a2',w⟩
   ·cases h
   ·cases h
   ·rcases cl y2 _ z2 with⟨_,h⟩|⟨_,_,h⟩|⟨c1,c2,w'⟩
    ·cases h
    ·cases h
    ·rw [a1X a1] at z3
     rw [a1X c1] at z4
     exact so.e.ap y1 y2 c d b hne w w' z3 z4
 refine⟨U,_,false,envU,tst,fun U3 H3 x3=>b3x ?_⟩
 have hlx:(σ.set x (some (V.ref a0))).length=ρ.length:=by rw [List.length_set];exact hlen
 have hxl:x<σ.length:=by lia
 have hσx:(σ.set x (some (V.ref a0)))[x]?=some (some (.ref a0)):=by rw [BG hxl]
 have nil:∀zs:List V,zs=zs++[]:=fun zs=>(Aq zs).symm
 have sF3:j8 F1 H3:=o1.x.fh.trans x3.h
 have k0:Pk X.K H ah a0 a3 d1 d2 d3 [v0,.ref d1,.ref d2] (.ref d3::z3') y1 (.ref a3::y2') y3 H3 0:=
  ⟨p8 sF3 hq0.sq,p8 sF3 hq3.sq,⟨[],AM _,by rw [<-nil];exact sF3 _ _ f1⟩,⟨[],AM _,by rw [<-nil];exact sF3 _ _ f2⟩,⟨[],AM _,by rw [<-nil];exact sF3 _ _ f3⟩,fun c u _ z=>x3.h _ _ (o1.x.h _ _ z)⟩
 have n1:=rl1.length
 have n2:=rl2.length
 have n3:=rl3'.length
 refine⟨.ref a0,hσx,_,_,_,a0b hlx,rfl,fun w1 G1 J1 i1=> ?_⟩
 cases(show w1= .int 1 from i1.rep)
 have k1:=k0.same i1.x.h
 refine⟨a0,_,1,.ref d1,rfl,rfl,k1.t0,rfl, ?_⟩
 obtain⟨g1,gl1,gh1⟩:=k1.g1
 refine⟨.inl ⟨rfl,_,S2.of gh1⟩,_,_,_,a0b hlx,rfl,fun w2 G2 J2 i2=> ?_⟩
 have gh1':=i2.x.h _ _ gh1
 refine⟨d1,_,w2,rfl,rfl,gh1',by rw [Ai];lia, ?_⟩
 have k2:=(k1.same i2.x.h).app gh1' w2 (old _ _ f1)
 refine⟨.ref a0,hσx,_,_,_,a0b hlx,rfl,fun w3 G3 J3 i3=> ?_⟩
 cases(show w3= .int 2 from i3.rep)
 have k3:=k2.same i3.x.h
 refine⟨a0,_,2,.ref d2,rfl,rfl,k3.t0,rfl, ?_⟩
 refine⟨_,_,_,a0b hlx,rfl,fun w4 G4 J4 i4=> ?_⟩
 cases(show w4= .int 0 from i4.rep)
 have k4:=k3.same i4.x.h
 obtain⟨g2,gl2,gh2⟩:=k4.g2
 refine⟨d2,_,0,.ref a3,rfl,rfl,S2.of gh2,b4x _ _, ?_⟩
 refine⟨_,_,_,a0b hlx,rfl,fun w5 G5 J5 i5=> ?_⟩
 cases(show w5= .int 0 from i5.rep)
 have k5:=k4.same i5.x.h
 refine⟨a3,_,0,.ref d3,rfl,rfl,k5.t3,b4x _ _, ?_⟩
 obtain⟨g3,gl3,gh3⟩:=k5.g3
 refine⟨.inl ⟨rfl,_,S2.of gh3⟩,_,_,_,a0b hlx,rfl,fun w6 G6 J6 i6=> ?_⟩
 have gh3':=i6.x.h _ _ gh3
 refine⟨d3,_,w6,rfl,rfl,gh3',by rw [Ai];lia, ?_⟩
 have k6:=(k5.same i6.x.h).app gh3' w6 (old _ _ f3)
 refine⟨.ref a0,hσx,_,_,_,a0b hlx,rfl,fun w7 G7 J7 i7=> ?_⟩
 cases(show w7= .int 2 from i7.rep)
 have k7:=k6.same i7.x.h
 refine⟨a0,_,2,.ref d2,rfl,rfl,k7.t0,rfl, ?_⟩
 obtain⟨g4,gl4,gh4⟩:=k7.g2
 refine⟨.inl ⟨rfl,_,S2.of gh4⟩,_,_,_,a0b hlx,rfl,fun w8 G8 J8 i8=> ?_⟩
 have gh4':=i8.x.h _ _ gh4
 refine⟨d2,_,w8,rfl,rfl,gh4',by rw [Ai,AU];lia, ?_⟩
 have k8:=(k7.same i8.x.h).app gh4' w8 (old _ _ f2)
 exact⟨F0,H0,F,_,fl,so.junk2 eo hw fah k8.o _,e,fin⟩
end
def Df0(K:AD)(x:Str)(st:Stmt):Prop:=∃f fd,PySem.W.nsIn K mainGlobals x=some (some (.ref f))/\Fun K x x st f fd
def Df(K:AD)(mg:Str->Option AA)(x:Str)(st:Stmt):Prop:=∃f fd,Fun K x x st f fd/\mg x=some (.ref f)
theorem b8J{K:AD}{x:Str}{st:Stmt}{f:AB}{oc:AA}{od an:Option AB}{osl:Array (Option AA)}{kV doc pm cdv ct:AA}(a:PySem.W.nsIn K mainGlobals x=some (some (.ref f)))
 (l:K.lookup f=some ⟨oc,od,.func (PySem.W.fnOf x x (Z7 st) (N7 st) (f9 st) .none kV doc pm an cdv ct),osl⟩) (c:PySem.W.codeIn K cdv x=true) (k:PySem.W.keepIn K (.ref f)=true):Df0 K x st:=⟨_,_,a,b9u l c k⟩
theorem Df0.to{K:AD}{h:Heap}{mg:Str->Option AA}{x:Str}{st:Stmt}(d:Df0 K x st)(X:K.In h)(G:h.Ns mainGlobals mg):Df K mg x st:=let ⟨f,fd,a,F⟩:=d;⟨f,fd,F,PySem.W.mg_of X G a⟩
theorem mkS{N P:List Str}{sc:Scope}(h1:sc.kind= .function:=by rfl)(h2:sc.isCoroutine=false:=by rfl)(h3:sc.isGenerator=false:=by rfl)(h4:N.Nodup:=by decide+kernel)(h5:N.take P.length=P:=by rfl)
 (h6:∀x∈P,sc.names.lookup x=some .local\/sc.names.lookup x=some .cell:=by decide+kernel) (h7:∀y∈sc.names,y.2≠.free:=by decide+kernel):l0 N P sc:=⟨h1,h2,h3,h4,h5,h6,h7⟩
section
variable {P:AN}{w:AI}{K:AD}{mg:Str->Option AA}{base:Heap}
theorem p9{x:Str}{st:Stmt}{N ps:List Str}{k:Nat}{m:MS}(D:Df K mg x st)(S:l0 N ps (f9 st))
 (hi:∀(kV doc pm:AA) (an:Option AB) (cdv ct:AA) (us:List AA),us.length=ps.length->bindArgs (PySem.W.fnOf x x (Z7 st) (N7 st) (f9 st) .none kV doc pm an cdv ct) ⟨us,[]⟩=pure (ps.zip us))
 (hb:∀(f:AB) (cdv:AA) (A:AR) (outer:List Env) (s:AC) (H:Hp) (E:XK),P4 k (A.deeper (envOfC x (f9 st) s.heap.objs.size f cdv))->ESs (b0a CX0 P w K mg base N x (f9 st) f cdv A outer s H E).nox (N7 st) m):
 t4 P w K mg base x ps (k+1) (D6 (N.length - ps.length) m):=
 let ⟨f,fd,F,hm⟩:=D
 ⟨f,fd,b8M F S (hb f),hm,F.kp,F.binds hi⟩
theorem b7E{fa:AB}{st:Stmt}{x:Str}{k:Nat}{g:List PV->Option d7}(D:Df K mg "law" st)(hfa:mg "law"=some (.ref fa))
 (hi:∀(kV doc pm:AA) (an:Option AB) (cdv ct v:AA),bindArgs (PySem.W.fnOf "law" "law" (Z7 st) (N7 st) (f9 st) .none kV doc pm an cdv ct) ⟨[v],[]⟩=pure [(x,v)])
 (main:∀ns:List Int,ns.length<=63->g [.list (ns.map .int)]=some (.val (.bool true)))
 (H:∀(base:Heap) (f:AB) (fd:FuncData),K.In base->Fun K "law" "law" st f fd->a0l P w K mg base CX0 k f fd [x] (spP K 1 g)):
 ∃fd:FuncData,(∀(s:AC) (v:AA),BindsTo s fd ⟨[v],[]⟩ [(x,v)])/\∀base:Heap,K.In base->base.Ns mainGlobals mg->a0l P w K mg base CX0 k fa fd [x] (b0Q K):=by
 obtain⟨f,fd,F,hm⟩:=D
 have e:=hfa.symm.trans hm
 cases e
 refine⟨fd,fun s v=> ?_,fun base kb _=>(H base _ fd kb F).imp (b7F main)⟩
 obtain⟨oc,od,kV,doc,pm,an,cdv,ct,osl,rfl,lk,hcd⟩:=F.ex
 exact .of_eq (hi kV doc pm an cdv ct v)
end
theorem el1{C:List AA->Prop}(h:∀a,C [a])(us:List AA)(e:us.length=1):C us:=by
 obtain⟨a,rfl⟩:=List.length_eq_one_iff.mp e
 exact h a
theorem elS{n:Nat}{us:List AA}(e:us.length=n+1):∃a t,us=a::t/\t.length=n:=by
 cases us with
 |nil=>cases e
 |cons a t=>exact⟨a,t,rfl,Nat.succ.inj e⟩
theorem el2{C:List AA->Prop}(h:∀a b,C [a,b])(us:List AA)(e:us.length=2):C us:=by
 obtain⟨a,t,rfl,z⟩:=elS e
 exact el1 (C:=fun t=>C (a::t)) (h a) t z
theorem el3{C:List AA->Prop}(h:∀a b c,C [a,b,c])(us:List AA)(e:us.length=3):C us:=by
 obtain⟨a,t,rfl,z⟩:=elS e
 exact el2 (C:=fun t=>C (a::t)) (h a) t z
theorem el4{C:List AA->Prop}(h:∀a b c d,C [a,b,c,d])(us:List AA)(e:us.length=4):C us:=by
 obtain⟨a,t,rfl,z⟩:=elS e
 exact el3 (C:=fun t=>C (a::t)) (h a) t z
def S(l:List Nat):Str:=⟨l.toArray⟩
theorem c0S(a b:List Nat):S a++S b=S (a++b):=by
 show Str.append (S a) (S b)=_
 simp [Str.append,S]
theorem a41(a:List Nat):(S a).length=a.length:=by simp [S,Str.length]
theorem a1z(a:List Nat):(S a).cps.toList=a:=by simp [S]
theorem b8F{a b:List Nat}(h:S a=S b):a=b:=by
 have:=congrArg (fun z:Str=>z.cps.toList) h
 simpa [S] using this
theorem c0T(a b:List Nat):(S a==S b)=(a==b):=by
 rw [Bool.eq_iff_iff]
 simp only [beq_iff_eq]
 exact⟨b8F,fun h=>by rw [h]⟩
def a6u(sep:List Nat):List (List Nat)->List Nat
 |[]=>[]
 |[x]=>x
 |x::y::r=>x++sep++a6u sep (y::r)
theorem a8r(sep:List Nat):∀(ls:List (List Nat)) (acc:List Nat),(ls.foldl (fun a p=>a++sep++p) acc)=if ls=[] then acc else acc++sep++a6u sep ls
 |[],acc=>rfl
 |[x],acc=>by simp [a6u]
 |x::y::r,acc=>by
  rw [List.foldl_cons,a8r sep (y::r)]
  simp [a6u]
theorem b2k(sep:List Nat):∀(ls:List (List Nat)) (acc:List Nat),(ls.map S).foldl (fun a (p:Str)=>a++(S sep).cps++p.cps) acc.toArray=(ls.foldl (fun a p=>a++sep++p) acc).toArray
 |[],acc=>rfl
 |x::r,acc=>by
  rw [AK,List.foldl_cons,List.foldl_cons]
  have:acc.toArray++(S sep).cps++(S x).cps=(acc++sep++x).toArray:=by simp [S]
  rw [this]
  exact b2k sep r (acc++sep++x)
theorem b9E(sep:List Nat)(ls:List (List Nat)):Txt.join (S sep) (ls.map S)=S (a6u sep ls):=by
 unfold Txt.join Builtin.Str.glued
 cases ls with
 |nil=>rfl
 |cons x r=>
  show(⟨((r.map S).foldl (fun acc (p:Str)=>acc++(S sep).cps++p.cps) (S x).cps)⟩:Str)=_
  rw [show(S x).cps=x.toArray from rfl,b2k,a8r]
  cases r with
  |nil=>rfl
  |cons y r=>rw [if_neg (by simp)];simp [S,a6u]
theorem a3H:∀ls:List (List Nat),a6u [] ls=ls.flatten
 |[]=>rfl
 |[x]=>by simp [a6u]
 |x::y::r=>by simp [a6u,a3H (y::r)]
theorem a1R:∀cs:List Nat,(cs.map fun c=>[c]).flatten=cs
 |[]=>rfl
 |c::cs=>by simp [a1R cs]
theorem a0Y{α:Type}{xs:List α}{i:Int}(h:0<=i):L2.atI xs i=xs[i.toNat]?:=by
 unfold L2.atI L2.ixN
 rw [if_pos h]
 by_cases c:i<xs.length
 ·rw [if_pos c];rfl
 ·rw [if_neg c]
  have:xs.length<=i.toNat:=by lia
  rw [List.getElem?_eq_none_iff.mpr this];rfl
theorem b4y{α:Type}{xs:List α}{k:Nat}:L2.atI xs (k:Int)=xs[k]?:=by
 rw [a0Y (by lia)];simp
theorem b8O{l:List Nat}{i:Int}{c:Nat}(hl:l.length<=16777216)(h:L2.atI l i=some c):z9 (.val (.str (S l))) (.val (.int i))=some (.val (.str (S [c]))):=by
 have hs:(S l).length<=AL:=by rw [a41,sizeLine_eq];exact hl
 unfold z9
 simp only [d7.rd,a1z,h,BE,if_pos hs]
 rfl
theorem b9v{l k:List Nat}(h:l.length+k.length<=16777216):E2 (.val (.str (S l))) (.val (.str (S k)))=some (.val (.str (S (l++k)))):=by
 rw [b5e (by rw [a41,a41,sizeLine_eq];exact h),c0S]
theorem a5G{l:List Nat}{c:Nat}(h:l.length<16777216):E2 (.val (.str (S l))) (.val (.str (S [c])))=some (.val (.str (S (l++[c])))):=b9v (by simp only [AU,Ap];lia)
theorem b7A{i j:Int}(h: -18446744073709551616<i/\i<18446744073709551616):b0n (.val (.int i)) (.val (.int j))=some (.val (.int (i*j))):=b9y h
theorem a4o(i j:Int):a25 (.val (.int i)) (.val (.int j))=some (.val (.bool (decide (i<j)))):=Eq.trans rfl rfl
theorem Q5{i j:Int}(h: -18446744073709551616<i/\i<18446744073709551616):N9 (.val (.int i)) (.val (.int j))=some (.val (.int (i*j))):=(show _=b0n (.val (.int i)) (.val (.int j)) from rfl).trans (b7A h)
abbrev row(l:List Nat):PV:= .str (S l)
def a6d(rows:List (List Nat)):PV:= .tuple (rows.map row)
theorem b7v(a b:List Nat):PyData.eqv (row a) (row b)=(a==b):=by
 show PyData.eqv (.str (S a)) (.str (S b))=_
 rw [show PyData.eqv (.str (S a)) (.str (S b))=(S a==S b) by simp only [PyData.eqv],c0T]
theorem b0h(a:List Nat)(n:Nat):n4 (row a) n=true:=by cases n<;>rfl
theorem b64:AS "abcdefghijklmnopqrstuvwxyz"=S ((AQ 26).map (97+·)):=by decide+kernel
theorem b4u{i:Int}(h0:0<=i)(h1:i<26):z9 (.val (.str (AS "abcdefghijklmnopqrstuvwxyz"))) (.val (.int i))=some (.val (row [97+i.toNat])):=by
 rw [b64]
 exact b8O (by decide) (by rw [a0Y h0,Ak,List.getElem?_range (by lia)];rfl)
theorem b0k{body:MS}{tg:PV->c7->Option c7}{I:Nat->c7->Prop}:∀{ps:List PV} {ρ:c7} (k:Nat),(∀(i:Nat) p,ps[i]?=some p->∀ρ,I (k+i) ρ->∃ρ1 ρ2,tg p ρ=some ρ1/\(body ρ1=some (.nx ρ2)\/body ρ1=some (.ct ρ2))/\I (k+i+1) ρ2)->I k ρ->∃ρ',B5 body tg ps ρ=some (.nx ρ')/\I (k+ps.length) ρ'
 |[],ρ,k,_,h=>⟨ρ,rfl,h⟩
 |p::ps,ρ,k,s,h=>by
  obtain⟨ρ1,ρ2,h1,h2,h3⟩:=s 0 p rfl ρ h
  obtain⟨ρ',h4,h5⟩:=b0k (ps:=ps) (ρ:=ρ2) (k+1) (fun i q hq ρ hi=>by
   have e:k+1+i=k+(i+1):=by lia
   rw [e] at hi ⊢
   exact s (i+1) q (by simpa using hq) ρ hi) h3
  refine⟨ρ', ?_,by rw [AU];have e:k+(ps.length+1)=k+1+ps.length:=by lia
                   rw [e];exact h5⟩
  unfold B5
  rw [h1]
  show(body ρ1).bind _=_
  rcases h2 with h2|h2<;>rw [h2]<;>exact h4
theorem B8{body:MS}{tg:PV->c7->Option c7}(I:Nat->c7->Prop){ps:List PV}{ρ:c7}(s:∀(i:Nat) p,ps[i]?=some p->∀ρ,I i ρ->∃ρ1 ρ2,tg p ρ=some ρ1/\(body ρ1=some (.nx ρ2)\/body ρ1=some (.ct ρ2))/\I (i+1) ρ2)(h:I 0 ρ):∃ρ',B5 body tg ps ρ=some (.nx ρ')/\I ps.length ρ':=by
 obtain⟨ρ',a,b⟩:=b0k (I:=I) 0 (fun i p hp ρ hi=>by rw [Nat.zero_add] at hi ⊢;exact s i p hp ρ hi) h
 rw [Nat.zero_add] at b
 exact⟨ρ',a,b⟩
theorem a1g{body:MS}{tg:PV->c7->Option c7}{I:c7->Prop}{p:PV}{ρ ρ1 ρ2:c7}(h1:tg p ρ=some ρ1)(h2:body ρ1=some (.nx ρ2))(h3:I ρ2):∃ρ1 ρ2,tg p ρ=some ρ1/\(body ρ1=some (.nx ρ2)\/body ρ1=some (.ct ρ2))/\I ρ2:=⟨ρ1,ρ2,h1,.inl h2,h3⟩
theorem a2y{lo hi:Int}{i:Nat}{p:PV}(h:(P9 lo hi)[i]?=some p):p= .int (lo+i)/\lo+i<hi:=by
 have hi':=(Am.mp h).1
 rw [Y0] at hi'
 rw [a7a hi'] at h
 cases h
 exact⟨rfl,by lia⟩
theorem b2O(n:Nat):P9 0 (n:Int)=(AQ n).map fun k=> .int (k:Nat):=by
 unfold P9
 have e:((n:Int) - 0).toNat=n:=by lia
 rw [e]
 exact List.map_congr_left fun k _=>by simp
theorem a8A(k:Nat)(it:MI)(tg:PV->c7->Option c7)(c:MT)(elt:M)(ρ:c7):O4 k it tg c elt ρ=(it ρ).bind fun ps=>if ps.length<=AL then(a2M c elt tg (ρ++AW k none) ps).bind fun r=>some (.own r) else none:=Eq.trans rfl rfl
theorem a8e{α:Type}{ι f:α->PV}{elt:M}{tg:PV->c7->Option c7}{ρ:c7}:∀{xs:List α},(∀x∈xs,∃ρ1,tg (ι x) ρ=some ρ1/\(elt ρ1).bind d7.toVal=some (f x))->a2M U1 elt tg ρ (xs.map ι)=some (xs.map f)
 |[],_=>rfl
 |x::xs,h=>by
  obtain⟨ρ1,h1,h2⟩:=h x AX
  rw [AK,AK]
  unfold a2M
  rw [h1,AH]
  show((elt ρ1).bind d7.toVal).bind _=_
  rw [h2,AH,a8e fun y hy=>h y (Ac _ hy),AH]
theorem V9{α:Type}{ι f:α->PV}{k:Nat}{it:MI}{elt:M}{tg:PV->c7->Option c7}{ρ:c7}(xs:List α)(h1:it ρ=some (xs.map ι))(h2:xs.length<=16777216)
 (h:∀x∈xs,∃ρ1,tg (ι x) (ρ++AW k none)=some ρ1/\(elt ρ1).bind d7.toVal=some (f x)):O4 k it tg U1 elt ρ=some (.own (xs.map f)):=by
 rw [a8A,h1,AH,if_pos (by rw [AO,sizeLine_eq];exact h2),a8e h,AH]
theorem a3v{α:Type}{ι f:α->PV}{q:α->Bool}{c:MT}{elt:M}{tg:PV->c7->Option c7}{ρ:c7}:∀{xs:List α},(∀x∈xs,∃ρ1,tg (ι x) ρ=some ρ1/\c ρ1=some (q x)/\(q x=true->(elt ρ1).bind d7.toVal=some (f x)))->a2M c elt tg ρ (xs.map ι)=some ((xs.filter q).map f)
 |[],_=>rfl
 |x::xs,h=>by
  obtain⟨ρ1,h1,h2,h3⟩:=h x AX
  have ih:=a3v (xs:=xs) fun y hy=>h y (Ac _ hy)
  rw [AK]
  unfold a2M
  rw [h1,AH,h2,AH]
  cases e:q x with
  |true=>rw [if_pos rfl,h3 e,AH,ih,AH,List.filter_cons_of_pos (by rw [e])];rfl
  |false=>rw [if_neg At,ih,List.filter_cons_of_neg (by rw [e];exact At)]
theorem P8(ps:List PV):PyData.items? (.list ps)=some ps:=Eq.trans rfl rfl
theorem x9(m:M)(ρ:c7):O5 m ρ=((m ρ).bind d7.toVal).bind PyData.items?:=Eq.trans rfl rfl
theorem a09(m:M)(lo hi:MO)(ρ:c7):a4D m lo hi ρ=(m ρ).bind fun r=>(lo ρ).bind fun l=>(hi ρ).bind fun h=>gSl r l h:=Eq.trans rfl rfl
theorem a1b(m:M)(ρ:c7):a29 m ρ=(m ρ).bind b2r:=Eq.trans rfl rfl
theorem a28(ρ:c7):a6N ρ=some none:=Eq.trans rfl rfl
theorem a5J(i:Int):b2r (.val (.int i))=some (some i):=Eq.trans rfl rfl
theorem a17{m:M}{ρ:c7}{r:d7}{ps:List PV}(h:m ρ=some r)(h2:PyData.items? r.rd=some ps):V2 m ρ=some ps:=by
 unfold V2
 rw [h,AH,h2]
theorem a4C{m:M}{ρ:c7}{n:Nat}(h:m ρ=some (.val (.int n)))(hn:n<4611686018427387904):B0 (c5 m e9) ρ=some ((AQ n).map fun k=> .int (k:Nat)):=by
 have e:c5 m e9 ρ=some [.int n]:=by rw [d0,h];rfl
 rw [y9,e,AH,K2 (j:=(n:Int)) ⟨by lia,by lia⟩,b2O]
theorem a24{sep:List Nat}{rows:List (List Nat)}{y:d7}(h:PyData.items? y.rd=some (rows.map row))(hl:(rows.map (·.length)).sum+rows.length*sep.length<=16777216):a0d (.val (.str (S sep))) y=some (.val (row (a6u sep rows))):=by
 have e1:C6 (rows.map row)=some (rows.map S):=by
  have:rows.map row=(rows.map S).map PyData.str:=by rw [As];rfl
  rw [this,a1h]
 have e2:((rows.map S).map (·.length))=rows.map (·.length):=by rw [As];exact List.map_congr_left fun a _=>a41 a
 unfold a0d
 simp only [h,e1,AH,e2,AO,a41,if_pos hl,b9E]
theorem a6s(ps:List PV):a1U (.own ps)=some (.val (.tuple ps)):=Eq.trans rfl rfl
theorem b1n(ps:List PV):a1U (.bor ps)=some (.val (.tuple ps)):=Eq.trans rfl rfl
theorem C8{i:Nat}{m:M}{ρ:c7}{r:d7}{p:PV}{ps:List PV}(h1:m ρ=some r)(h2:r.toVal=some p)(h3:ρ[i]?=some (some (.own ps)))(h:ps.length<16777216):E7 i m ρ=some (.nx (ρ.set i (some (.own (ps++[p]))))):=by
 unfold E7
 rw [h1,AH,h2,AH,h3]
 simp only [sizeLine_eq,if_pos h]
theorem a0h(p:d7)(ρ:c7):a0I 0 (some p::ρ)=some (.rt p):=Eq.trans rfl rfl
theorem a0i(n:Nat)(r:Option d7)(ρ:c7):a0I (n+1) (r::ρ)=a0I n ρ:=Eq.trans rfl rfl
theorem K3(k:List g0)(v:PV)(D:List (List g0×PV))(k':List g0):n6 ((k,v)::D) k'=if k=k' then some v else n6 D k':=by
 unfold n6
 rw [List.find?_cons]
 by_cases h:k=k'
 ·simp [h]
 ·simp [h]
theorem b0Z(k:List g0)(v:PV)(k':List g0):∀D:List (List g0×PV),n6 (D++[(k,v)]) k'=if(n6 D k').isSome=true then n6 D k' else if k=k' then some v else none
 |[]=>by rw [Ah,K3];rfl
 |(a,b)::D=>by
  rw [Al,K3,K3,b0Z k v k' D]
  by_cases h:a=k'
  ·simp [h]
  ·simp [h]
theorem a5D(k:List g0):∀D:List (List g0×PV),(D.any fun kv=>decide (kv.1=k))=(n6 D k).isSome
 |[]=>rfl
 |(a,b)::D=>by
  rw [List.any_cons,a5D k D,K3]
  by_cases h:a=k
  ·simp [h]
  ·simp [h]
theorem a8U(k:List g0)(v:PV)(k':List g0):∀D:List (List g0×PV),n6 (D.map fun kv=>if kv.1=k then(kv.1,v) else kv) k'=if k=k' then(n6 D k').map (fun _=>v) else n6 D k'
 |[]=>by simp [n6]
 |(a,b)::D=>by
  rw [AK]
  have ih:=a8U k v k' D
  by_cases h:a=k
  ·simp only [h,if_true]
   rw [K3,K3,ih]
   by_cases h2:k=k'
   ·simp [h2]
   ·simp [h2]
  ·simp only [h,if_false]
   rw [K3,K3,ih]
   by_cases h2:a=k'
   ·have:¬k=k':=fun z=>h (h2.trans z.symm)
    simp [h2,this]
   ·simp [h2]
theorem a7A(D:List (List g0×PV))(k:List g0)(v:PV)(k':List g0):n6 (L5 D k v) k'=if k=k' then some v else n6 D k':=by
 unfold L5
 rw [a5D]
 cases h:(n6 D k).isSome with
 |true=>
  rw [if_pos rfl,a8U]
  by_cases h2:k=k'
  ·subst h2
   rw [if_pos rfl,if_pos rfl]
   obtain⟨x,hx⟩:=Option.isSome_iff_exists.mp h
   rw [hx];rfl
  ·rw [if_neg h2,if_neg h2]
 |false=>
  rw [if_neg At,b0Z]
  by_cases h2:k=k'
  ·subst h2;rw [h];simp
  ·simp only [if_neg h2]
   cases h3:n6 D k'<;>simp
theorem a0O(D:List (List g0×PV))(k:List g0)(v:PV):(L5 D k v).length<=D.length+1:=by
 unfold L5
 split
 ·rw [AO];lia
 ·rw [Ai,List.length_singleton];lia
theorem a0z{i:Nat}{ρ:c7}{p:PV}{k:List g0}{D:List (List g0×PV)}(h:ρ[i]?=some (some (.ow (.dct D))))(hl:D.length<16777216):b0c i ρ p k=some (.nx (ρ.set i (some (.ow (.dct (L5 D k p)))))):=by
 unfold b0c
 rw [h]
 show(if D.length<AL then _ else none)=_
 rw [if_pos (by rw [sizeLine_eq];exact hl)]
theorem b4O{i:Nat}{ρ:c7}{k:List g0}{D:List (List g0×PV)}{p:PV}(h:ρ[i]?=some (some (.ow (.dct D))))(hv:n6 D k=some p):b18 i ρ k=some (.val p):=by
 unfold b18
 rw [h]
 show(n6 D k).map _=_
 rw [hv];rfl
theorem a1M(neg:Bool)(D:List (List g0×PV))(ρ:c7)(k:List g0):b3k neg 0 (some (.ow (.dct D))::ρ) k=some (.val (.bool (if neg then !(n6 D k).isSome else(n6 D k).isSome))):=Eq.trans rfl rfl
theorem a1N(neg:Bool)(i:Nat)(r:Option d7)(ρ:c7)(k:List g0):b3k neg (i+1) (r::ρ) k=b3k neg i ρ k:=Eq.trans rfl rfl
theorem b7O{i:Nat}{ma:MA}{ρ:c7}{a b:Int}{p:PV}{D:List (List g0×PV)}(h3:ma ρ=some [.int a,.int b])(h:ρ[i]?=some (some (.ow (.dct D))))(hv:n6 D [.inl a,.inl b]=some p):b2x i ma ρ=some (.val p):=by
 unfold b2x
 rw [h3,AH,if_pos (by rw [sizeLine_eq];simp),show keysOf [.int a,.int b]=some [.inl a,.inl b] from rfl,AH,b4O h hv]
theorem a2s(ρ:c7):a8B ρ=some (.ow (.dct [])):=Eq.trans rfl rfl
theorem a0X(i:Nat)(ρ:c7)(c:W1):b65 i ρ (.ow c)=some (.nx (ρ.set i (some (.ow c)))):=Eq.trans rfl rfl
theorem V1{α:Type}{ι f:α->PV}{q:α->Bool}{k:Nat}{it:MI}{c:MT}{elt:M}{tg:PV->c7->Option c7}{ρ:c7}(xs:List α)(h1:it ρ=some (xs.map ι))(h2:xs.length<=16777216)
 (h:∀x∈xs,∃ρ1,tg (ι x) (ρ++AW k none)=some ρ1/\c ρ1=some (q x)/\(q x=true->(elt ρ1).bind d7.toVal=some (f x))):O4 k it tg c elt ρ=some (.own ((xs.filter q).map f)):=by
 rw [a8A,h1,AH,if_pos (by rw [AO,sizeLine_eq];exact h2),a3v h,AH]
theorem a2l{c:MT}{body:MS}{I:Nat->c7->Prop}(s:∀m ρ,I m ρ->c ρ=some false\/(c ρ=some true/\∃ρ' m',body ρ=some (.nx ρ')/\m'<m/\I m' ρ')):∀(n m:Nat) (ρ:c7),m<n->I m ρ->∃ρ' m',P0 c body n ρ=some (.nx ρ')/\I m' ρ'/\c ρ'=some false
 |0,m,ρ,h,_=>by lia
 |n+1,m,ρ,h,hi=>by
  rcases s m ρ hi with hc|⟨hc,ρ',m',h1,h2,h3⟩
  ·refine⟨ρ,m, ?_,hi,hc⟩
   unfold P0
   rw [hc];rfl
  ·obtain⟨ρ2,m2,g1,g2,g3⟩:=a2l s n m' ρ' (by lia) h3
   refine⟨ρ2,m2, ?_,g2,g3⟩
   unfold P0
   rw [hc]
   show(body ρ).bind _=_
   rw [h1]
   exact g1
def c12(n:Nat):List (Nat×Nat):=(AQ n).flatMap fun r=>(AQ n).map fun c=>(r,c)
theorem a1Q{ps:List PV}{n:Nat}(h:∀p∈ps,n4 p n=true):z5 ps n=true:=by
 induction ps with
 |nil=>rfl
 |cons p ps ih=>simp [z5,h p AX,ih fun q hq=>h q (Ac _ hq)]
theorem b2o(a b:List Nat):gNe (.val (row a)) (.val (row b))=some (.val (.bool (!(a==b)))):=by
 rw [b1l (x:= .val (row a)) (y:= .val (row b)) ⟨b0h a 50,b0h b 50⟩,b1S,b1S,b7v]
end PU
set_option maxHeartbeats 4000000
namespace LW
open PySem PySem.Spec PyProof.Rows L2 PU
def E9:List (g0×PV):=[((.inr "stay"),(.tuple [(.int 1),(.int 0),(.int 0),(.int 1)])),((.inr "turn"),(.tuple [(.int 0),(.int 1),(.int (-1)),(.int 0)])),((.inr "half"),(.tuple [(.int (-1)),(.int 0),(.int 0),(.int (-1))])),((.inr "back"),(.tuple [(.int 0),(.int (-1)),(.int 1),(.int 0)])),((.inr "side"),(.tuple [(.int 1),(.int 0),(.int 0),(.int (-1))])),((.inr "flip"),(.tuple [(.int (-1)),(.int 0),(.int 0),(.int 1)])),((.inr "cross"),(.tuple [(.int 0),(.int 1),(.int 1),(.int 0)])),((.inr "other"),(.tuple [(.int 0),(.int (-1)),(.int (-1)),(.int 0)]))]
def a44:MS:=
 (E3 (m2 (gIc (fun _ j=>0<j) fun i j=> .int (i % j)) (m2 N9 (m2 E2 (m2 (gIc (fun _ j=>0<j) fun i j=> .int (i % j)) (c6 0) (mC (.int 2147483647))) (mC (.int 17))) (m2 E2 (mC (.int 48271)) (m2 N9 (m2 N9 (mC (.int 2)) (c6 1)) (c6 1)))) (mC (.int 2147483629))))
def y8:List PV->Option d7:=D6 0 a44
def a0H:M:=
 (m2 z9 (c6 2) (m2 (gIc (fun _ j=>0<j) fun i j=> .int (i % j)) (m2 E2 (c6 0) (m2 N9 (mC (.int 7)) (c6 3))) (mC (.int 26))))
def a2L:MS:=
 (m4 (t8 2 (mC (.str "abcdefghijklmnopqrstuvwxyz")))
 (E3 (O4 1 (B0 (c5 (c6 1) e9)) (g8 3) U1 a0H)))
def Q7:List PV->Option d7:=D6 1 a2L
def a2J:MS:=
 (m4 (T0 (mtB (m2 a25 (c6 1) (m1 J0 (c6 0)))) (E3 (m2 z9 (c6 0) (c6 1))) D4)
 (E3 (mC (.int 0))))
def L3:List PV->Option d7:=D6 0 a2J
def L9:MS:=
 (m4 (t8 8 (m2 E2 (m2 N9 (c6 5) (c6 1)) (c6 7)))
 (m4 (T0 (mtB (m2 gEq (m2 (gIc (fun _ j=>0<j) fun i j=> .int (i % j)) (c6 3) (mC (.int 4))) (mC (.int 1)))) (t8 8 (c6 7)) D4)
 (m4 (T0 (mtB (m2 gEq (m2 (gIc (fun _ j=>0<j) fun i j=> .int (i % j)) (c6 3) (mC (.int 4))) (mC (.int 2)))) (t8 8 (m2 (gIc (fun _ j=>0<j) fun i j=> .int (i % j)) (m2 E2 (c6 5) (c6 7)) (c6 1))) D4)
 (m4 (T0 (mtB (m2 gEq (m2 (gIc (fun _ j=>0<j) fun i j=> .int (i % j)) (c6 3) (mC (.int 4))) (mC (.int 3)))) (t8 8 (m2 E2 (m2 (gI fun i j=> .int (if j<i then j else i)) (c6 5) (m2 (gI fun i j=> .int (i - j)) (m2 (gI fun i j=> .int (i - j)) (c6 1) (mC (.int 1))) (c6 5))) (m2 N9 (c6 1) (m2 (gI fun i j=> .int (if j<i then j else i)) (c6 7) (m2 (gI fun i j=> .int (i - j)) (m2 (gI fun i j=> .int (i - j)) (c6 1) (mC (.int 1))) (c6 7)))))) D4)
 (t8 6 (m2 E2 (c6 6) (m2 z9 (c6 2) (m2 (gIc (fun _ j=>0<j) fun i j=> .int (i % j)) (o0 y8 (c5 (m2 z9 (c6 0) (m2 (gIc (fun _ j=>0<j) fun i j=> .int (i % j)) (c6 8) (m1 J0 (c6 0)))) (c5 (c6 8) e9))) (m1 J0 (c6 2))))))))))
def M0:MS:=
 (m4 (t8 6 (mC (.str "")))
 (m4 (P3 (B0 (c5 (c6 1) e9)) (g8 7) L9)
 (E7 4 (c6 6))))
def a3t:MS:=
 (m4 (t8 4 (a4A e9))
 (m4 (P3 (B0 (c5 (c6 1) e9)) (g8 5) M0)
 (E3 (m1 a1U (c6 4)))))
def U9:List PV->Option d7:=D6 5 a3t
def a9n:MS:=
 (E7 1 (a0J (c5 (c6 2) (c5 (c6 3) (c5 (c6 4) e9)))))
def a9o:MS:=
 (P3 (B0 (c5 (c6 0) e9)) (g8 4) a9n)
def a3L:MS:=
 (P3 (B0 (c5 (c6 0) e9)) (g8 3) a9o)
def a73:MS:=
 (m4 (t8 1 (a4A e9))
 (m4 (P3 (O5 (a4A (c5 (mC (.str "stay")) (c5 (mC (.str "turn")) (c5 (mC (.str "half")) (c5 (mC (.str "back")) (c5 (mC (.str "side")) (c5 (mC (.str "flip")) (c5 (mC (.str "cross")) (c5 (mC (.str "other")) e9)))))))))) (g8 2) a3L)
 (a0I 1)))
def a2p:List PV->Option d7:=D6 4 a73
def a1F:MS:=
 (E3 (m2 z9 (o0 a2p (c5 (c6 0) e9)) (m2 (gIc (fun _ j=>0<j) fun i j=> .int (i % j)) (c6 1) (m2 N9 (m2 N9 (mC (.int 8)) (c6 0)) (c6 0)))))
def G9:List PV->Option d7:=D6 0 a1F
def a0u:M:=
 (o0 G9 (c5 (c6 0) (c5 (o0 y8 (c5 (c6 1) (c5 (m2 E2 (mC (.int 20)) (c6 3)) e9))) e9)))
def a2X:MS:=
 (m4 (t8 2 (O4 1 (B0 (c5 (m2 (gIc (fun _ j=>0<j) fun i j=> .int (i % j)) (c6 1) (mC (.int 5))) e9)) (g8 3) U1 a0u))
 (m4 (T0 (mtB (m2 gEq (m2 (gIc (fun _ j=>0<j) fun i j=> .int (i % j)) (m2 (gIc a5r fun i j=> .int (i / j)) (c6 1) (mC (.int 5))) (mC (.int 4))) (mC (.int 0)))) (t8 2 (m2 E2 (c6 2) (a4D (c6 2) a6N (a29 (mC (.int 1)))))) D4)
 (a0I 2)))
def X3:List PV->Option d7:=D6 1 a2X
def a76:MS:=
 (m4 (b7Q [3,4] (c6 2))
 (m4 (b7Q [5,6,7] (c6 1))
 (m4 (T0 (mtB (m2 (a7M false) (c6 5) (a0J (c5 (mC (.str "turn")) (c5 (mC (.str "back")) (c5 (mC (.str "cross")) (c5 (mC (.str "other")) e9))))))) (b9N 3 4 (c5 (c6 4) (c5 (c6 3) e9))) D4)
 (m4 (T0 (mtB (m2 (a7M false) (c6 5) (a0J (c5 (mC (.str "half")) (c5 (mC (.str "flip")) (c5 (mC (.str "back")) (c5 (mC (.str "other")) e9))))))) (t8 3 (m2 (gI fun i j=> .int (i - j)) (mC (.int 0)) (c6 3))) D4)
 (m4 (T0 (mtB (m2 (a7M false) (c6 5) (a0J (c5 (mC (.str "half")) (c5 (mC (.str "side")) (c5 (mC (.str "turn")) (c5 (mC (.str "other")) e9))))))) (t8 4 (m2 (gI fun i j=> .int (i - j)) (mC (.int 0)) (c6 4))) D4)
 (E3 (a0J (c5 (m2 (gIc (fun _ j=>0<j) fun i j=> .int (i % j)) (m2 E2 (c6 3) (c6 6)) (c6 0)) (c5 (m2 (gIc (fun _ j=>0<j) fun i j=> .int (i % j)) (m2 E2 (c6 4) (c6 7)) (c6 0)) e9)))))))))
def V7:List PV->Option d7:=D6 5 a76
def o9:MS:=
 (m4 (t8 9 (o0 V7 (c5 (c6 0) (c5 (c6 8) (c5 (m2 z9 (c6 6) (c6 7)) e9)))))
 (T0 (mtB (a6L true 2 (c6 9))) (m4 (a0g 2 (c6 9) (mC (.bool true)))
 (E7 6 (c6 9))) D4))
def C0:MS:=
 (m4 (P3 (O5 (c6 1)) (g8 8) o9)
 (t8 7 (m2 E2 (c6 7) (mC (.int 1)))))
def C1:MS:=
 (m4 (t8 5 (m2 U7 (c6 4) (c6 0)))
 (T0 (mtB (a6L true 2 (c6 5))) (m4 (t8 6 (a4A (c5 (c6 5) e9)))
 (m4 (a0g 2 (c6 5) (mC (.bool true)))
 (m4 (t8 7 (mC (.int 0)))
 (m4 (P0 (mtB (m2 a25 (c6 7) (m1 J0 (c6 6)))) C0 100)
 (E7 3 (m1 a26 (c6 6))))))) D4))
def a2K:MS:=
 (m4 (t8 2 a8B)
 (m4 (t8 3 (a4A e9))
 (m4 (P3 (B0 (c5 (m2 N9 (c6 0) (c6 0)) e9)) (g8 4) C1)
 (E3 (m1 a5I (c6 3))))))
def Q6:List PV->Option d7:=D6 8 a2K
def V0:MS:=
 (b2z 2 (m2 z9 (m2 z9 (c6 0) (c6 3)) (c6 4)) (m2 E2 (b1E 2 (m2 z9 (m2 z9 (c6 0) (c6 3)) (c6 4)) (mC (.int 0))) (mC (.int 1))))
def a75:MS:=
 (m4 (t8 2 b7P)
 (m4 (P3 (O5 (c6 1)) (a2k [3,4]) V0)
 (a0I 2)))
def a2r:List PV->Option d7:=D6 3 a75
def K0:MS:=
 (m4 (t8 4 (o0 a2r (c5 (c6 0) (c5 (c6 3) e9))))
 (m4 (t8 5 (m1 a8p (a9u 4)))
 (E7 2 (a0J (c5 (c6 3) (c5 (m1 b2n (a9t 4 5)) (c5 (c6 5) e9)))))))
def a74:MS:=
 (m4 (t8 2 (a4A e9))
 (m4 (P3 (O5 (o0 Q6 (c5 (m1 J0 (c6 0)) (c5 (c6 1) e9)))) (g8 3) K0)
 (a0I 2)))
def a2q:List PV->Option d7:=D6 4 a74
def a6b:MS:=
 (m4 (t8 2 (b9O E9 (c6 0)))
 (E3 (a0J (c5 (m2 E2 (m2 N9 (m2 z9 (c6 2) (mC (.int 0))) (m2 z9 (c6 1) (mC (.int 0)))) (m2 N9 (m2 z9 (c6 2) (mC (.int 1))) (m2 z9 (c6 1) (mC (.int 1))))) (c5 (m2 E2 (m2 N9 (m2 z9 (c6 2) (mC (.int 2))) (m2 z9 (c6 1) (mC (.int 0)))) (m2 N9 (m2 z9 (c6 2) (mC (.int 3))) (m2 z9 (c6 1) (mC (.int 1))))) e9)))))
def X4:List PV->Option d7:=D6 1 a6b
def b8I:MS:=
 (m4 (t8 3 (o0 X4 (c5 (m2 z9 (c6 1) (mC (.int 0))) (c5 (c6 2) e9))))
 (E3 (a0J (c5 (m2 (gIc (fun _ j=>0<j) fun i j=> .int (i % j)) (m2 E2 (m2 z9 (c6 3) (mC (.int 0))) (m2 z9 (c6 1) (mC (.int 1)))) (c6 0)) (c5 (m2 (gIc (fun _ j=>0<j) fun i j=> .int (i % j)) (m2 E2 (m2 z9 (c6 3) (mC (.int 1))) (m2 z9 (c6 1) (mC (.int 2)))) (c6 0)) e9)))))
def a8q:List PV->Option d7:=D6 1 b8I
def o8:MS:=
 (m4 (t8 7 (o0 a8q (c5 (c6 0) (c5 (c6 6) (c5 (m2 z9 (c6 4) (c6 5)) e9)))))
 (T0 (mtB (a6L true 3 (c6 7))) (m4 (a0g 3 (c6 7) (mC (.bool true)))
 (E7 4 (c6 7))) D4))
def J9:MS:=
 (m4 (P3 (O5 (c6 1)) (g8 6) o8)
 (b5Q 5 (gI fun i j=> .int (i+j)) (mC (.int 1))))
def a2I:MS:=
 (m4 (t8 3 (b1C (c6 2) (mC (.bool true))))
 (m4 (t8 4 (a4A (c5 (c6 2) e9)))
 (m4 (t8 5 (mC (.int 0)))
 (m4 (P0 (mtB (m2 a25 (c6 5) (m1 J0 (c6 4)))) J9 100)
 (E3 (m1 a26 (c6 4)))))))
def y6:List PV->Option d7:=D6 5 a2I
def R5:MS:=
 (a0g 4 (c6 8) (mC (.bool true)))
def I0:MS:=
 (T0 (mtB (a6L true 4 (a0J (c5 (c6 5) (c5 (c6 6) e9))))) (m4 (t8 7 (a4z [("circle_from",y6)] 2 (c5 (c6 0) (c5 (c6 1) (c5 (a0J (c5 (c6 5) (c5 (c6 6) e9))) e9)))))
 (m4 (S9 7 (E7 3 (c6 7)))
 (S9 7 (P3 (O5 (c6 7)) (g8 8) R5)))) D4)
def R6:MS:=
 (P3 (B0 (c5 (c6 0) e9)) (g8 6) I0)
def a9Z:MS:=
 (m4 (t8 3 (a4A e9))
 (m4 (t8 4 a8B)
 (m4 (P3 (B0 (c5 (c6 0) e9)) (g8 5) R6)
 (a0I 3))))
def a3F:List PV->Option d7:=D6 6 a9Z
def a72:MS:=
 (E3 (o0 a3F (c5 (c6 0) (c5 (c6 1) (c5 (mC (G0 "circle_from")) e9)))))
def a2o:List PV->Option d7:=D6 0 a72
def E6:M:=
 (b1B 1 (c5 (c6 2) (c5 (c6 3) e9)))
def a1E:MS:=
 (E3 (m2 a0d (mC (.str "")) (O4 1 (B0 (c5 (c6 0) e9)) (g8 3) U1 E6)))
def O1:List PV->Option d7:=D6 0 a1E
def Q8:M:=
 (o0 O1 (c5 (c6 0) (c5 (c6 1) (c5 (c6 2) e9))))
def a59:MS:=
 (E3 (m1 a1U (O4 1 (B0 (c5 (c6 0) e9)) (g8 2) U1 Q8)))
def P7:List PV->Option d7:=D6 0 a59
def v8:MS:=
 (a0g 2 (c6 4) (m2 z9 (c6 3) (mC (.int 1))))
def v9:MS:=
 (P3 (O5 (m2 z9 (c6 3) (mC (.int 0)))) (g8 4) v8)
def Z5:MS:=
 (m4 (t8 2 a8B)
 (m4 (P3 (O5 (c6 1)) (g8 3) v9)
 (E3 (a5M P7 2 (c6 0)))))
def E4:List PV->Option d7:=D6 3 Z5
def a77:MS:=
 (E3 (a0J (c5 (m1 J0 (c6 0)) (c5 (m1 J0 (m2 z9 (c6 0) (mC (.int 0)))) e9))))
def a0G:List PV->Option d7:=D6 0 a77
def a1Z:MS:=
 (T0 (mtB (m2 gNe (c6 6) (m2 z9 (m2 z9 (c6 1) (c6 3)) (c6 5)))) (E7 2 (a0J (c5 (c6 3) (c5 (c6 5) e9)))) D4)
def a13:MS:=
 (P3 (b0u (c5 (c6 4) e9)) (a2k [5,6]) a1Z)
def a90:MS:=
 (m4 (T0 (mtB (m2 gNe (o0 a0G (c5 (c6 0) e9)) (o0 a0G (c5 (c6 1) e9)))) b5S D4)
 (m4 (t8 2 (a4A e9))
 (m4 (P3 (b0u (c5 (c6 0) e9)) (a2k [3,4]) a13)
 (a0I 2))))
def a3G:List PV->Option d7:=D6 5 a90
def a1q:MS:=
 (m4 (t8 2 (o0 E4 (c5 (m1 J0 (c6 0)) (c5 (c6 1) e9))))
 (E3 (a0J (c5 (c6 2) (c5 (o0 a3G (c5 (c6 0) (c5 (c6 2) e9))) (c5 (c6 1) e9))))))
def L7:List PV->Option d7:=D6 1 a1q
def a3s:MS:=
 (E3 (m1 a1T (m2 a0d (mC (.str "")) (c6 0))))
def U8:List PV->Option d7:=D6 0 a3s
def t5:MS:=
 (b2z 2 (c6 3) (m2 a4n (c6 1) (c6 3)))
def Z6:MS:=
 (m4 (t8 1 (m2 a0d (mC (.str "")) (c6 0)))
 (m4 (t8 2 b7P)
 (m4 (P3 (O5 (o0 U8 (c5 (c6 0) e9))) (g8 3) t5)
 (a0I 2))))
def E5:List PV->Option d7:=D6 3 Z6
def a1D:MS:=
 (m4 (t8 1 (m1 a8p (a5P 0)))
 (E3 (m1 a9d (a5O 0 1))))
def O0:List PV->Option d7:=D6 1 a1D
def a1n:MS:=
 (m4 (t8 2 (o0 O0 (c5 (c6 0) e9)))
 (m4 (T0 (mtB (m2 (a7M false) (c6 1) (c6 2))) (a0I 1) D4)
 (E3 (m2 z9 (c6 2) (mC (.int 0))))))
def A5:List PV->Option d7:=D6 1 a1n
def b4A:MS:=
 (m4 (t8 3 (m1 J0 (c6 0)))
 (E3 (m2 z9 (m2 z9 (c6 0) (m2 (gIc (fun _ j=>0<j) fun i j=> .int (i % j)) (c6 1) (c6 3))) (m2 (gIc (fun _ j=>0<j) fun i j=> .int (i % j)) (c6 2) (c6 3)))))
def a9e:List PV->Option d7:=D6 1 b4A
def a0t:M:=
 (o0 a9e (c5 (c6 0) (c5 (m2 z9 (c6 2) (mC (.int 0))) (c5 (m2 z9 (c6 2) (mC (.int 1))) e9))))
def a6a:MS:=
 (E3 (m2 a0d (mC (.str "")) (O4 1 (V2 (c6 1)) (g8 2) U1 a0t)))
def a06:List PV->Option d7:=D6 0 a6a
def a1p:MS:=
 (m4 (t8 3 (o0 E5 (c5 (a0J (c5 (o0 a06 (c5 (c6 0) (c5 (c6 1) e9))) e9)) e9)))
 (m4 (t8 4 (a5N A5 3 (c6 2)))
 (E3 (a0J (c5 (c6 1) (c5 (c6 4) (c5 (b2y 3 (c6 4)) e9)))))))
def D3:List PV->Option d7:=D6 2 a1p
def a15:M:=
 (o0 D3 (c5 (c6 0) (c5 (c6 3) (c5 (mC .none) e9))))
def a9Y:MS:=
 (m4 (t8 2 (o0 a2o (c5 (m1 J0 (c6 0)) (c5 (c6 1) e9))))
 (E3 (o0 L7 (c5 (c6 0) (c5 (O4 1 (V2 (c6 2)) (g8 3) U1 a15) e9)))))
def R3:List PV->Option d7:=D6 1 a9Y
def a9X:MS:=
 (E3 (b7N (m1 (a3B "int") (c6 0)) (c1c (m1 (a3B "bool") (c6 0)))))
def a1V:List PV->Option d7:=D6 0 a9X
def a14:M:=
 (c6 4)
def O2:MS:=
 (m4 (T0 (a5z (R9 (mtV (m1 (a3B "tuple") (c6 3)))) (a5z (R9 (mtV (m1 (a3B "list") (m2 z9 (c6 3) (mC (.int 0)))))) (R9 (mtV (m1 (a3B "str") (m2 z9 (c6 3) (mC (.int 1)))))))) (E3 (mC (.bool false))) D4)
 (T0 (a5z (R9 (mtV (o0 a1V (c5 (m2 z9 (c6 3) (mC (.int 2))) e9)))) (mtB (m2 gNe (O4 1 (V2 (m2 z9 (c6 3) (mC (.int 0)))) (g8 4) (R9 (mtV (m1 (a3B "tuple") (c6 4)))) a14) (a4A e9)))) (E3 (mC (.bool false))) D4))
def a45:MS:=
 (m4 (T0 (a5z (R9 (mtV (m1 (a3B "list") (c6 0)))) (mtB (m2 gNe (c6 0) (c6 2)))) (E3 (mC (.bool false))) D4)
 (m4 (P3 (O5 (c6 0)) (g8 3) O2)
 (E3 (mC (.bool true)))))
def a0e:List PV->Option d7:=D6 1 a45
def z7:MS:=
 (a0g 4 (c6 8) (c6 6))
def z8:MS:=
 (S9 5 (P3 (O5 (c6 5)) (g8 8) z7))
def X6:M:=
 (b2x 4 (c5 (c6 10) (c5 (c6 11) e9)))
def M5:M:=
 (m2 a0d (mC (.str "")) (O4 1 (B0 (c5 (c6 3) e9)) (g8 11) U1 X6))
def M6:M:=
 (m2 U7 (c6 10) (c6 3))
def a1o:MS:=
 (m4 (t8 3 (m1 J0 (c6 1)))
 (m4 (T0 (a5z (R9 (mtV (m1 (a3B "tuple") (c6 0)))) (a5z (mtB (m2 gNe (m1 J0 (c6 0)) (mC (.int 3)))) (R9 (mtV (o0 a0e (c5 (m2 z9 (c6 0) (mC (.int 2))) (c5 (c6 1) (c5 (c6 2) e9)))))))) (E3 (mC (.bool false))) D4)
 (m4 (t8 4 a8B)
 (m4 (P3 (O5 (c6 2)) (a2k [5,6,7]) z8)
 (m4 (t8 9 (m1 a1U (O4 1 (B0 (c5 (c6 3) e9)) (g8 10) U1 M5)))
 (m4 (t8 5 (O4 1 (B0 (c5 (m2 N9 (c6 3) (c6 3)) e9)) (g8 10) (mtB (m2 gNe (m2 z9 (m2 z9 (c6 9) (m2 (gIc a5r fun i j=> .int (i / j)) (c6 10) (c6 3))) (m2 (gIc (fun _ j=>0<j) fun i j=> .int (i % j)) (c6 10) (c6 3))) (m2 z9 (m2 z9 (c6 1) (m2 (gIc a5r fun i j=> .int (i / j)) (c6 10) (c6 3))) (m2 (gIc (fun _ j=>0<j) fun i j=> .int (i % j)) (c6 10) (c6 3))))) M6))
 (m4 (T0 (a5z (R9 (mtV (m1 (a3B "tuple") (m2 z9 (c6 0) (mC (.int 0)))))) (mtB (m2 gNe (m2 z9 (c6 0) (mC (.int 0))) (c6 9)))) (E3 (mC (.bool false))) D4)
 (E3 (b7N (m1 (a3B "list") (m2 z9 (c6 0) (mC (.int 1)))) (m2 gEq (m2 z9 (c6 0) (mC (.int 1))) (c6 5)))))))))))
def u7:List PV->Option d7:=D6 7 a1o
def a3K:MS:=
 (m4 (t8 6 (o0 y8 (c5 (m2 z9 (c6 4) (c6 5)) (c5 (m2 E2 (c6 5) (mC (.int 70))) e9))))
 (m4 (t8 7 (m2 E2 (mC (.int 1)) (m2 (gIc (fun _ j=>0<j) fun i j=> .int (i % j)) (m2 E2 (c6 1) (c6 5)) (mC (.int 6)))))
 (m4 (S9 3 (t8 8 (o0 U9 (c5 (m2 E2 (a4D (c6 4) (a29 (c6 5)) a6N) (a4D (c6 4) a6N (a29 (c6 5)))) (c5 (c6 7) (c5 (c6 3) (c5 (m2 (gIc a5r fun i j=> .int (i / j)) (c6 6) (mC (.int 7))) e9)))))))
 (m4 (t8 9 (o0 X3 (c5 (c6 7) (c5 (c6 6) e9))))
 (m4 (t8 10 (m1 a9b (c6 9)))
 (m4 (S9 9 (t8 11 (o0 a2q (c5 (c6 8) (c5 (c6 9) e9)))))
 (S9 11 (a4B 12 10 [8] (o0 R3 (c5 (c6 8) (c5 (c6 10) e9))) (a5z (R9 (mtV (o0 u7 (c5 (c6 12) (c5 (c6 8) (c5 (c6 11) e9)))))) (mtB (m2 gNe (c6 10) (c6 9))))
 (S9 9 (S9 11 (T0 (R9 (mtV (o0 u7 (c5 (o0 R3 (c5 (c6 8) (c5 (c6 9) e9))) (c5 (c6 8) (c5 (c6 11) e9)))))) (E3 (mC (.bool false))) D4)))))))))))
def b8H:MS:=
 (m4 (t8 1 (o0 y8 (c5 (o0 L3 (c5 (c6 0) (c5 (mC (.int 0)) e9))) (c5 (mC (.int 0)) e9))))
 (m4 (t8 2 (o0 y8 (c5 (o0 L3 (c5 (c6 0) (c5 (mC (.int 1)) e9))) (c5 (mC (.int 1)) e9))))
 (m4 (t8 3 (o0 Q7 (c5 (c6 2) (c5 (m2 E2 (mC (.int 1)) (m2 (gIc (fun _ j=>0<j) fun i j=> .int (i % j)) (m2 (gIc a5r fun i j=> .int (i / j)) (c6 2) (mC (.int 26))) (mC (.int 5)))) e9))))
 (m4 (t8 4 (m2 E2 (a4D (c6 0) (a29 (mC (.int 2))) (a29 (mC (.int 14)))) (a4A (c5 (m1 J0 (c6 0)) e9))))
 (m4 (P3 (B0 (c5 (m1 J0 (c6 4)) e9)) (g8 5) a3K)
 (E3 (mC (.bool true))))))))
def b5l:List PV->Option d7:=D6 12 b8H
end LW
set_option maxHeartbeats 1000000
namespace LW
open PySem PySem.Spec PyProof.Rows L2 PU
def u4:List Str:=[AS "stay",AS "turn",AS "half",AS "back",AS "side",AS "flip",AS "cross",AS "other"]
def U2(w:Str)(a b:Int):Int:=if w=AS "stay" then a else if w=AS "turn" then b else if w=AS "half" then -a else if w=AS "back" then -b else if w=AS "side" then a else if w=AS "flip" then -a else if w=AS "cross" then b else -b
def T9(w:Str)(a b:Int):Int:=if w=AS "stay" then b else if w=AS "turn" then -a else if w=AS "half" then -b else if w=AS "back" then a else if w=AS "side" then -b else if w=AS "flip" then b else if w=AS "cross" then a else -a
theorem X8{w:Str}(h:w∈u4):w=AS "stay"\/w=AS "turn"\/w=AS "half"\/w=AS "back"\/w=AS "side"\/w=AS "flip"\/w=AS "cross"\/w=AS "other":=by
 simpa [u4] using h
theorem c1T:U0 E9 (.inr (AS "stay"))=some (.tuple [.int 1,.int 0,.int 0,.int 1]):=by kernel_rfl
theorem c1U:U0 E9 (.inr (AS "turn"))=some (.tuple [.int 0,.int 1,.int (-1),.int 0]):=by kernel_rfl
theorem c1V:U0 E9 (.inr (AS "half"))=some (.tuple [.int (-1),.int 0,.int 0,.int (-1)]):=by kernel_rfl
theorem c1W:U0 E9 (.inr (AS "back"))=some (.tuple [.int 0,.int (-1),.int 1,.int 0]):=by kernel_rfl
theorem c1X:U0 E9 (.inr (AS "side"))=some (.tuple [.int 1,.int 0,.int 0,.int (-1)]):=by kernel_rfl
theorem c1Y:U0 E9 (.inr (AS "flip"))=some (.tuple [.int (-1),.int 0,.int 0,.int 1]):=by kernel_rfl
theorem c1Z:U0 E9 (.inr (AS "cross"))=some (.tuple [.int 0,.int 1,.int 1,.int 0]):=by kernel_rfl
theorem c10:U0 E9 (.inr (AS "other"))=some (.tuple [.int 0,.int (-1),.int (-1),.int 0]):=by kernel_rfl
theorem b0G{w:Str}(hw:w∈u4)(a b:Int):X4 [.str w,.tuple [.int a,.int b]]=some (.val (.tuple [.int (U2 w a b),.int (T9 w a b)])):=by
 have key:∀x y z t r c:Int,U0 E9 (.inr w)=some (.tuple [.int x,.int y,.int z,.int t])->(-2<x/\x<2)->(-2<y/\y<2)->(-2<z/\z<2)->(-2<t/\t<2)->x*a+y*b=r->z*a+t*b=c->
  X4 [.str w,.tuple [.int a,.int b]]=some (.val (.tuple [.int r,.int c])):=by
  intro x y z t r c h hx hy hz ht e1 e2
  subst e1 e2
  unfold X4 a6b
  simp (disch:=omega) only [z6,Q5,a6p,a6q,b0m,b5h,j5,l9,d5,f7,d6,d0,c8,D5,i9,u9,m7,C3,g7,h9,k9,m5,b5U,c0B,AH,BE,AK,Ae,Ag,Af,Al,Ah,Aa,Ab,AU,Ap,↓reduceIte,sz,Nat.reduceAdd,Au,h]
 rcases X8 hw with rfl|rfl|rfl|rfl|rfl|rfl|rfl|rfl
 ·exact key _ _ _ _ _ _ c1T (by decide) (by decide) (by decide) (by decide) (by show _=a;lia) (by show _=b;lia)
 ·exact key _ _ _ _ _ _ c1U (by decide) (by decide) (by decide) (by decide) (by show _=b;lia) (by show _= -a;lia)
 ·exact key _ _ _ _ _ _ c1V (by decide) (by decide) (by decide) (by decide) (by show _= -a;lia) (by show _= -b;lia)
 ·exact key _ _ _ _ _ _ c1W (by decide) (by decide) (by decide) (by decide) (by show _= -b;lia) (by show _=a;lia)
 ·exact key _ _ _ _ _ _ c1X (by decide) (by decide) (by decide) (by decide) (by show _=a;lia) (by show _= -b;lia)
 ·exact key _ _ _ _ _ _ c1Y (by decide) (by decide) (by decide) (by decide) (by show _= -a;lia) (by show _=b;lia)
 ·exact key _ _ _ _ _ _ c1Z (by decide) (by decide) (by decide) (by decide) (by show _=b;lia) (by show _=a;lia)
 ·exact key _ _ _ _ _ _ c10 (by decide) (by decide) (by decide) (by decide) (by show _= -b;lia) (by show _= -a;lia)
theorem b9J{w:Str}(hw:w∈u4){s:Int}(hs:0<s)(d r a b:Int):a8q [.int s,.tuple [.str w,.int d,.int r],.tuple [.int a,.int b]]=some (.val (.tuple [.int ((U2 w a b+d) % s),.int ((T9 w a b+r) % s)])):=by
 unfold a8q b8I
 simp (disch:=omega) only [z6,v5,a6p,a6q,b0m,j5,l9,d5,f7,d6,d0,c8,D5,j6,i9,u9,m7,C3,g7,h9,k9,m5,AH,AK,Ae,Ag,Af,Al,Ah,Aa,Ab,AU,Ap,↓reduceIte,sz,Nat.reduceAdd,Au,b0G hw a b]
abbrev T3(w:Str)(d r:Int):PV:= .tuple [.str w,.int d,.int r]
theorem b2P{w:Str}(hw:w∈u4)(a b x y:Int):U2 w (a+x) (b+y)=U2 w a b+U2 w x y:=by
 rcases X8 hw with rfl|rfl|rfl|rfl|rfl|rfl|rfl|rfl
 ·show a+x=a+x;rfl
 ·show b+y=b+y;rfl
 ·show -(a+x)= -a+ -x;lia
 ·show -(b+y)= -b+ -y;lia
 ·show a+x=a+x;rfl
 ·show -(a+x)= -a+ -x;lia
 ·show b+y=b+y;rfl
 ·show -(b+y)= -b+ -y;lia
theorem b16{w:Str}(hw:w∈u4)(a b x y:Int):T9 w (a+x) (b+y)=T9 w a b+T9 w x y:=by
 rcases X8 hw with rfl|rfl|rfl|rfl|rfl|rfl|rfl|rfl
 ·show b+y=b+y;rfl
 ·show -(a+x)= -a+ -x;lia
 ·show -(b+y)= -b+ -y;lia
 ·show a+x=a+x;rfl
 ·show -(b+y)= -b+ -y;lia
 ·show b+y=b+y;rfl
 ·show a+x=a+x;rfl
 ·show -(a+x)= -a+ -x;lia
theorem b6C{w:Str}(hw:w∈u4)(s x y:Int):∃k,U2 w (s*x) (s*y)=s*k:=by
 rcases X8 hw with rfl|rfl|rfl|rfl|rfl|rfl|rfl|rfl
 ·exact⟨x,rfl⟩
 ·exact⟨y,rfl⟩
 ·exact⟨-x,by show -(s*x)=s* -x;rw [Int.mul_neg]⟩
 ·exact⟨-y,by show -(s*y)=s* -y;rw [Int.mul_neg]⟩
 ·exact⟨x,rfl⟩
 ·exact⟨-x,by show -(s*x)=s* -x;rw [Int.mul_neg]⟩
 ·exact⟨y,rfl⟩
 ·exact⟨-y,by show -(s*y)=s* -y;rw [Int.mul_neg]⟩
theorem b4G{w:Str}(hw:w∈u4)(s x y:Int):∃k,T9 w (s*x) (s*y)=s*k:=by
 rcases X8 hw with rfl|rfl|rfl|rfl|rfl|rfl|rfl|rfl
 ·exact⟨y,rfl⟩
 ·exact⟨-x,by show -(s*x)=s* -x;rw [Int.mul_neg]⟩
 ·exact⟨-y,by show -(s*y)=s* -y;rw [Int.mul_neg]⟩
 ·exact⟨x,rfl⟩
 ·exact⟨-y,by show -(s*y)=s* -y;rw [Int.mul_neg]⟩
 ·exact⟨y,rfl⟩
 ·exact⟨x,rfl⟩
 ·exact⟨-x,by show -(s*x)=s* -x;rw [Int.mul_neg]⟩
theorem b0x(x s k d:Int):(x+s*k+d) % s=(x+d) % s:=by
 rw [Int.add_right_comm,Int.add_mul_emod_self_left]
theorem a9w(x s:Int):x % s=x+s*(-(x / s)):=by
 have:=Int.emod_add_mul_ediv x s
 rw [Int.mul_neg]
 lia
theorem b8j{w:Str}(hw:w∈u4)(s x y e:Int):(U2 w (x % s) (y % s)+e) % s=(U2 w x y+e) % s:=by
 rw [a9w x s,a9w y s,b2P hw]
 obtain⟨k,hk⟩:=b6C hw s (-(x / s)) (-(y / s))
 rw [hk,b0x]
theorem b7d{w:Str}(hw:w∈u4)(s x y e:Int):(T9 w (x % s) (y % s)+e) % s=(T9 w x y+e) % s:=by
 rw [a9w x s,a9w y s,b16 hw]
 obtain⟨k,hk⟩:=b4G hw s (-(x / s)) (-(y / s))
 rw [hk,b0x]
def bwW(w:Str):Str:=if w=AS "turn" then AS "back" else if w=AS "back" then AS "turn" else w
theorem b5z(x y:Int):keysOf [.int x,.int y]=some [.inl x,.inl y]:=rfl
theorem b9c:(u4.all fun a=>decide (bwW a∈u4)&& decide (bwW (bwW a)=a))=true:=by decide+kernel
theorem c0X{a:Str}(ha:a∈u4):bwW a∈u4/\bwW (bwW a)=a:=by
 have h:=List.all_eq_true.mp b9c a ha
 simp only [Bool.and_eq_true,decide_eq_true_eq] at h
 exact h
theorem b4C{w:Str}(hw:w∈u4)(x y:Int):U2 (bwW w) (U2 w x y) (T9 w x y)=x/\T9 (bwW w) (U2 w x y) (T9 w x y)=y:=by
 rcases X8 hw with rfl|rfl|rfl|rfl|rfl|rfl|rfl|rfl
 ·exact⟨by show x=x;rfl,by show y=y;rfl⟩
 ·exact⟨by show - -x=x;lia,by show y=y;rfl⟩
 ·exact⟨by show - -x=x;lia,by show - -y=y;lia⟩
 ·exact⟨by show x=x;rfl,by show - -y=y;lia⟩
 ·exact⟨by show x=x;rfl,by show - -y=y;lia⟩
 ·exact⟨by show - -x=x;lia,by show y=y;rfl⟩
 ·exact⟨by show x=x;rfl,by show y=y;rfl⟩
 ·exact⟨by show - -x=x;lia,by show - -y=y;lia⟩
def lr(s:Int)(w:Str)(d t a b:Int):Int:=(U2 w a b+d) % s
def lc(s:Int)(w:Str)(d t a b:Int):Int:=(T9 w a b+t) % s
def bd(n:Int)(w:Str)(d t:Int):Int:=U2 (bwW w) (-d) (-t) % n
def bt(n:Int)(w:Str)(d t:Int):Int:=T9 (bwW w) (-d) (-t) % n
theorem b6D{w:Str}(hw:w∈u4)(x y d t:Int):U2 w x y+U2 w (-d) (-t)=U2 w (x - d) (y - t):=by
 rw [<-b2P hw];congr 1
theorem b4H{w:Str}(hw:w∈u4)(x y d t:Int):T9 w x y+T9 w (-d) (-t)=T9 w (x - d) (y - t):=by
 rw [<-b16 hw];congr 1
theorem a91{n:Int}(hn:0<n){w:Str}(hw:w∈u4)(d t:Int){a b:Int}(ha:0<=a/\a<n)(hb:0<=b/\b<n):
 lr n (bwW w) (bd n w d t) (bt n w d t) (lr n w d t a b) (lc n w d t a b)=a/\lc n (bwW w) (bd n w d t) (bt n w d t) (lr n w d t a b) (lc n w d t a b)=b:=by
 have h1:=(c0X hw).1
 unfold lr lc bd bt
 constructor
 ·rw [Int.add_emod_emod,b8j h1,b6D h1,Int.add_sub_cancel,Int.add_sub_cancel,(b4C hw a b).1,Int.emod_eq_of_lt ha.1 ha.2]
 ·rw [Int.add_emod_emod,b7d h1,b4H h1,Int.add_sub_cancel,Int.add_sub_cancel,(b4C hw a b).2,Int.emod_eq_of_lt hb.1 hb.2]
def l8(n:Nat)(f:Nat->Nat->Nat):PV:=a6d ((AQ n).map fun r=>(AQ n).map fun c=>f r c)
theorem a0y(n:Nat)(f:Nat->Nat->Nat):J0 (.val (l8 n f))=some (.val (.int n)):=by
 show J0 (.val (.tuple _))=_
 rw [b5i,AO,AO,Ax]
theorem a2m{n:Nat}{f:Nat->Nat->Nat}{i:Int}(h0:0<=i)(h1:i<n):z9 (.val (l8 n f)) (.val (.int i))=some (.val (row ((AQ n).map fun c=>f i.toNat c))):=by
 refine a3D ?_
 rw [a0Y h0,Ak,Ak,List.getElem?_range (by lia)]
 rfl
theorem a7b{n:Nat}{g:Nat->Nat}{j:Int}(h0:0<=j)(h1:j<n)(hn:n<=16777216):z9 (.val (row ((AQ n).map g))) (.val (.int j))=some (.val (row [g j.toNat])):=by
 refine b8O (by rw [AO,Ax];exact hn) ?_
 rw [a0Y h0,Ak,List.getElem?_range (by lia)]
 rfl
theorem tn(k:Nat):((k:Nat):Int).toNat=k:=by lia
theorem b7I{w:Str}(hw:w∈u4){s:Int}(hs:0<s)(d r a b:Int):a8q [.int s,.tuple [.str w,.int d,.int r],.tuple [.int a,.int b]]=some (.val (.tuple [.int (lr s w d r a b),.int (lc s w d r a b)])):=b9J hw hs d r a b
theorem b50{n:Nat}(hn:0<n)(x:Int):0<=x % n/\x % n<n:=⟨Int.emod_nonneg _ (by lia),Int.emod_lt_of_pos _ (by lia)⟩
theorem b5A{n:Nat}(hn:0<n)(hn8:n<=100)(f:Nat->Nat->Nat)(r c:Int):a9e [l8 n f,.int r,.int c]=some (.val (row [f (r % n).toNat (c % n).toNat])):=by
 obtain⟨a1,a2⟩:=b50 hn r
 obtain⟨b1,b2⟩:=b50 hn c
 unfold a9e b4A
 simp (disch:=omega) only [v5,j5,t7,d5,f7,i9,u9,m7,C3,g7,h9,k9,m5,AH,AK,Ae,Ag,Af,Al,Ah,Aa,Ab,a0y,a2m a1 a2,a7b b1 b2 (by lia)]
theorem a7w:∀(l:List Nat) (g:Nat->Nat),((l.map fun c=>[g c]).map (·.length)).sum=l.length
 |[],_=>rfl
 |a::l,g=>by
  have:=a7w l g
  simp only [AK,AU,Ap,List.sum_cons] at this ⊢
  lia
theorem b3s(l:List Nat)(g:Nat->Nat):a6u [] (l.map fun c=>[g c])=l.map g:=by
 rw [a3H]
 have:(l.map fun c=>[g c])=((l.map g).map fun c=>[c]):=by rw [As];rfl
 rw [this,a1R]
theorem a6r{k:Nat}(hk:k<=10000)(g:Nat->Nat):a0d (.val (.str (S []))) (.own ((AQ k).map fun j=>row [g j]))=some (.val (row ((AQ k).map g))):=by
 rw [a24 (rows:=(AQ k).map fun j=>[g j]),b3s]
 ·show some _=some _
  rw [As];rfl
 ·rw [a7w,Ax,AO,Ax];simp only [Ap];lia
def Z0(ws:List Str)(n:Nat):List PV:=ws.flatMap fun w=>(AQ n).flatMap fun d=>(AQ n).map fun t=>T3 w (d:Nat) (t:Nat)
def c0D:MS:=E7 1 (a0J (c5 (c6 2) (c5 (c6 3) (c5 (c6 4) e9))))
def b8v:MS:=P3 (B0 (c5 (c6 0) e9)) (g8 4) c0D
def b8w:MS:=P3 (B0 (c5 (c6 0) e9)) (g8 3) b8v
theorem c1F{n:Nat}(hn8:n<=8)(w:Str)(d:Nat)(ps:List PV)(hl:ps.length<10000)(q4:Option d7):∃q4':Option d7,b8v [some (.val (.int n)),some (.own ps),some (.val (.str w)),some (.val (.int (d:Nat))),q4]=some (.nx [some (.val (.int n)),some (.own (ps++(AQ n).map fun t=>T3 w (d:Nat) (t:Nat))),some (.val (.str w)),some (.val (.int (d:Nat))),q4']):=by
 obtain⟨ρ1,e1,q,rfl⟩:=B8 (body:=c0D) (tg:=g8 4) (fun j ρ=>∃q:Option d7,ρ=[some (.val (.int n)),some (.own (ps++(AQ j).map fun t=>T3 w (d:Nat) (t:Nat))),some (.val (.str w)),some (.val (.int (d:Nat))),q])
  (ps:=P9 0 n) (ρ:=[some (.val (.int n)),some (.own ps),some (.val (.str w)),some (.val (.int (d:Nat))),q4])
  (by
   rintro j p hp ρ ⟨q,rfl⟩
   obtain⟨rfl,hj⟩:=a2y hp
   have hj':(0:Int)+(j:Int)=(j:Int):=by lia
   rw [hj'] at hj ⊢
   refine a1g rfl (ρ2:=[some (.val (.int n)),some (.own (ps++(AQ (j+1)).map fun t=>T3 w (d:Nat) (t:Nat))),some (.val (.str w)),some (.val (.int (d:Nat))),some (.val (.int (j:Nat)))]) ?_ ⟨_,rfl⟩
   unfold c0D
   rw [C8 (r:= .val (T3 w (d:Nat) (j:Nat))) (by simp (disch:=omega) only [d5,f7,d6,d0,c8,D5,AH,Aa,Ab,AU,Ap,↓reduceIte,sz,Nat.reduceAdd,Au]) rfl rfl (by rw [Ai,AO,Ax];lia),List.range_succ,BC,List.append_assoc]
   rfl) ⟨q4,by simp⟩
 rw [Y0,show((n:Int) - 0).toNat=n by lia] at e1
 refine⟨q, ?_⟩
 unfold b8v
 simp (disch:=omega) only [d5,d6,d0,c8,p7,y9,K2,AH]
 exact e1
theorem b2Z(n d:Nat)(w:Str):((AQ d).flatMap fun d=>(AQ n).map fun t=>T3 w (d:Nat) (t:Nat)).length=d*n:=by
 induction d with
 |zero=>simp
 |succ d ih=>rw [List.range_succ,List.flatMap_append,Ai,ih];simp [Nat.succ_mul]
theorem c1G{n:Nat}(hn8:n<=8)(w:Str)(ps:List PV)(hl:ps.length<5000)(q3 q4:Option d7):∃q3' q4':Option d7,b8w [some (.val (.int n)),some (.own ps),some (.val (.str w)),q3,q4]=some (.nx [some (.val (.int n)),some (.own (ps++(AQ n).flatMap fun d=>(AQ n).map fun t=>T3 w (d:Nat) (t:Nat))),some (.val (.str w)),q3',q4']):=by
 obtain⟨ρ1,e1,q3',q4',rfl⟩:=B8 (body:=b8v) (tg:=g8 3) (fun j ρ=>∃q3 q4:Option d7,ρ=[some (.val (.int n)),some (.own (ps++(AQ j).flatMap fun d=>(AQ n).map fun t=>T3 w (d:Nat) (t:Nat))),some (.val (.str w)),q3,q4])
  (ps:=P9 0 n) (ρ:=[some (.val (.int n)),some (.own ps),some (.val (.str w)),q3,q4])
  (by
   rintro j p hp ρ ⟨q3,q4,rfl⟩
   obtain⟨rfl,hj⟩:=a2y hp
   have hj':(0:Int)+(j:Int)=(j:Int):=by lia
   rw [hj'] at hj ⊢
   have hjn:j*n<=8*8:=Nat.mul_le_mul (by lia) hn8
   obtain⟨q4',e⟩:=c1F hn8 w j (ps++(AQ j).flatMap fun d=>(AQ n).map fun t=>T3 w (d:Nat) (t:Nat)) (by rw [Ai,b2Z];lia) q4
   refine a1g rfl e ⟨some (.val (.int (j:Nat))),q4', ?_⟩
   rw [List.range_succ,List.flatMap_append,List.append_assoc]
   simp) ⟨q3,q4,by simp⟩
 rw [Y0,show((n:Int) - 0).toNat=n by lia] at e1
 refine⟨q3',q4', ?_⟩
 unfold b8w
 simp (disch:=omega) only [d5,d6,d0,c8,p7,y9,K2,AH]
 exact e1
theorem a9W(ws:List Str)(n:Nat):(Z0 ws n).length=ws.length*(n*n):=by
 induction ws with
 |nil=>simp [Z0]
 |cons w ws ih=>
  have e:Z0 (w::ws) n=((AQ n).flatMap fun d=>(AQ n).map fun t=>T3 w (d:Nat) (t:Nat))++Z0 ws n:=rfl
  rw [e,Ai,ih,b2Z,AU,Nat.succ_mul,Nat.add_comm]
theorem b8x{n:Nat}(hn8:n<=8)(ws:List Str)(hw:ws.length<=8):∃q2 q3 q4:Option d7,B5 b8w (g8 2) (ws.map .str) [some (.val (.int n)),some (.own []),none,none,none]=some (.nx [some (.val (.int n)),some (.own (Z0 ws n)),q2,q3,q4]):=by
 have hnn:n*n<=8*8:=Nat.mul_le_mul hn8 hn8
 obtain⟨ρ1,e1,q2,q3,q4,rfl⟩:=B8 (body:=b8w) (tg:=g8 2) (fun j ρ=>∃q2 q3 q4:Option d7,ρ=[some (.val (.int n)),some (.own (Z0 (ws.take j) n)),q2,q3,q4])
  (ps:=ws.map .str) (ρ:=[some (.val (.int n)),some (.own []),none,none,none])
  (by
   rintro j p hp ρ ⟨q2,q3,q4,rfl⟩
   rw [Ak] at hp
   cases hj:ws[j]? with
   |none=>rw [hj] at hp;cases hp
   |some w=>
    rw [hj] at hp
    cases hp
    have hjl:j<ws.length:=(Am.mp hj).1
    have hl:(Z0 (ws.take j) n).length<5000:=by
     rw [a9W,List.length_take]
     have:min j ws.length*(n*n)<=8*(8*8):=Nat.mul_le_mul (by lia) hnn
     lia
    obtain⟨q3',q4',e⟩:=c1G hn8 w (Z0 (ws.take j) n) hl q3 q4
    refine a1g rfl e ⟨some (.val (.str w)),q3',q4', ?_⟩
    have ew:ws[j]=w:=(Am.mp hj).2
    rw [List.take_succ_eq_append_getElem hjl,ew]
    unfold Z0
    rw [List.flatMap_append]
    simp) ⟨none,none,none,by simp [Z0]⟩
 rw [AO,List.take_length] at e1
 exact⟨q2,q3,q4,e1⟩
theorem b5Y{ws:List Str}{n:Nat}{p:PV}:p∈Z0 ws n↔∃w∈ws,∃d t:Nat,d<n/\t<n/\p=T3 w (d:Nat) (t:Nat):=by
 unfold Z0
 constructor
 ·intro h
  obtain⟨w,hw,h⟩:=List.mem_flatMap.mp h
  obtain⟨d,hd,h⟩:=List.mem_flatMap.mp h
  obtain⟨t,ht,rfl⟩:=AZ.mp h
  exact⟨w,hw,d,t,List.mem_range.mp hd,List.mem_range.mp ht,rfl⟩
 ·rintro⟨w,hw,d,t,hd,ht,rfl⟩
  exact List.mem_flatMap.mpr ⟨w,hw,List.mem_flatMap.mpr ⟨d,List.mem_range.mpr hd,AZ.mpr ⟨t,List.mem_range.mpr ht,rfl⟩⟩⟩
def a3N(c k:Int):Int:=(c % 2147483647+17)*(48271+2*k*k) % 2147483629
theorem b5Z(c k:Int):0<=a3N c k/\a3N c k<2147483629:=by
 unfold a3N
 exact⟨Int.emod_nonneg _ (by decide),Int.emod_lt_of_pos _ (by decide)⟩
theorem W0{c k:Int}(hk:0<=k/\k<100000):y8 [.int c,.int k]=some (.val (.int (a3N c k))):=by
 unfold y8 a44 a3N
 simp (disch:=omega) only [z6,Q5,v5,j5,l9,d5,f7,m7,C3,k9,m5,AH,AK,Ae,Af,Aq]
theorem b0t(c:Int){m:Nat}(hm:m<1000):∃ls:List Nat,ls.length=m/\Q7 [.int c,.int m]=some (.own (ls.map fun x=>row [x])):=by
 refine⟨(AQ m).map fun(k:Nat)=>97+((c+7*(k:Int)) % 26).toNat,by simp, ?_⟩
 unfold Q7 a2L
 simp (disch:=omega) only [l9,i9,u9,m7,g7,h9,k9,AH,AK,Ae,Ag,Af,Al,Ah,Aa,Ab]
 rw [V9 (f:=fun k:Nat=>row [97+((c+7*(k:Int)) % 26).toNat]) (AQ m) (a4C (n:=m) rfl (by lia)) (by rw [Ax];lia)]
 ·simp (disch:=omega) only [a4P,m5,AH,As]
  rfl
 ·intro k hk
  have hk:=List.mem_range.mp hk
  refine⟨_,rfl, ?_⟩
  unfold a0H
  simp (disch:=omega) only [z6,Q5,v5,j5,l9,d5,f7,c8,AH,Ag,Af,Al,Ah,Aa,Ab,b4u (i:=(c+7*(k:Int)) % 26) (by lia) (by lia)]
theorem b2s{cs:List Int}(h:0<cs.length)(A:Int):∃c:Int,z9 (.val (.list (cs.map .int))) (.val (.int (A %(cs.length:Int))))=some (.val (.int c)):=by
 have h0:0<=A %(cs.length:Int):=Int.emod_nonneg _ (by lia)
 have h1:A %(cs.length:Int)<cs.length:=Int.emod_lt_of_pos _ (by lia)
 have hk:(A %(cs.length:Int)).toNat<cs.length:=by lia
 exact⟨cs[(A %(cs.length:Int)).toNat],a3C (by rw [a0Y h0,Ak,Aw hk];rfl)⟩
theorem b2v{ls:List Nat}(h:0<ls.length)(A:Int):∃x:Nat,z9 (.val (.list (ls.map fun x=>row [x]))) (.val (.int (A %(ls.length:Int))))=some (.val (row [x])):=by
 have h0:0<=A %(ls.length:Int):=Int.emod_nonneg _ (by lia)
 have h1:A %(ls.length:Int)<ls.length:=Int.emod_lt_of_pos _ (by lia)
 have hk:(A %(ls.length:Int)).toNat<ls.length:=by lia
 exact⟨ls[(A %(ls.length:Int)).toNat],a3C (by rw [a0Y h0,Ak,Aw hk];rfl)⟩
theorem b69{cs:List Int}(hcs:0<cs.length){ls:List Nat}(hls:0<ls.length){n:Nat}(hn:0<n)(hn8:n<=8)(seed:Int)(s4 q8:Option d7){r c:Nat}(hr:r<n)(hc:c<n){l:List Nat}(hl:l.length<1000):
 ∃(x:Nat) (q8':Option d7),L9 [some (.val (.list (cs.map .int))),some (.val (.int n)),some (.val (.list (ls.map fun x=>row [x]))),some (.val (.int seed)),s4,some (.val (.int (r:Nat))),some (.val (.str (S l))),some (.val (.int (c:Nat))),q8]
  =some (.nx [some (.val (.list (cs.map .int))),some (.val (.int n)),some (.val (.list (ls.map fun x=>row [x]))),some (.val (.int seed)),s4,some (.val (.int (r:Nat))),some (.val (.str (S (l++[x])))),some (.val (.int (c:Nat))),q8']):=by
 have m0:0<=(r:Int)*n:=Int.mul_nonneg (by lia) (by lia)
 have m1:(r:Int)*n<=8*8:=Int.mul_le_mul (by lia) (by lia) (by lia) (by lia)
 have fin:∀A:Int,0<=A/\A<1000->∃(x:Nat),(z9 (.val (.list (cs.map .int))) (.val (.int (A %(cs.length:Int))))).bind (fun y=>(d7.toVal y).bind fun p=>(y8 [p,.int A]).bind fun z=>(gIc (fun _ j=>0<j) (fun i j=> .int (i % j)) z (.val (.int (ls.length:Int)))).bind fun i=>z9 (.val (.list (ls.map fun x=>row [x]))) i)=some (.val (row [x])):=by
  intro A hA
  obtain⟨v,hv⟩:=b2s hcs A
  obtain⟨x,hx⟩:=b2v hls (a3N v A)
  refine⟨x, ?_⟩
  rw [hv]
  simp (disch:=omega) only [v5,c8,AH,W0 (c:=v) (k:=A) (by lia),hx]
 have key:∀A:Int,0<=A/\A<1000->∃(v:Int) (x:Nat),z9 (.val (.list (cs.map .int))) (.val (.int (A %(cs.length:Int))))=some (.val (.int v))/\y8 [.int v,.int A]=some (.val (.int (a3N v A)))/\z9 (.val (.list (ls.map fun x=>row [x]))) (.val (.int (a3N v A %(ls.length:Int))))=some (.val (row [x])):=by
  intro A hA
  obtain⟨v,hv⟩:=b2s hcs A
  obtain⟨x,hx⟩:=b2v hls (a3N v A)
  exact⟨v,x,hv,W0 (by lia),hx⟩
 have h4:seed % 4=0\/seed % 4=1\/seed % 4=2\/seed % 4=3:=by lia
 unfold L9
 rcases h4 with h|h|h|h
 ·obtain⟨v,x,e1,e2,e3⟩:=key ((r:Int)*n+c) (by lia)
  refine⟨x, ?_⟩
  simp (disch:=omega) only [z6,Q5,v5,P6,j5,t7,l9,d5,f7,d6,d0,c8,j6,i9,u9,g7,h9,m9,R4,t6,n0,v3,AH,Aa,Ab,AO,Int.reduceBEq,a8o,h,e1,e2,e3,a5G]
  exact⟨_,rfl⟩
 ·obtain⟨v,x,e1,e2,e3⟩:=key (c:Int) (by lia)
  refine⟨x, ?_⟩
  simp (disch:=omega) only [z6,Q5,v5,P6,j5,t7,l9,d5,f7,d6,d0,c8,j6,i9,u9,g7,h9,m9,a2P,R4,t6,n0,v3,AH,Aa,Ab,AO,beq_self_eq_true,Int.reduceBEq,a8o,h,e1,e2,e3,a5G]
  exact⟨_,rfl⟩
 ·have b0:0<=((r:Int)+c) % n:=Int.emod_nonneg _ (by lia)
  have b1:((r:Int)+c) % n<n:=Int.emod_lt_of_pos _ (by lia)
  obtain⟨v,x,e1,e2,e3⟩:=key (((r:Int)+c) % n) (by lia)
  refine⟨x, ?_⟩
  simp (disch:=omega) only [z6,Q5,v5,P6,j5,t7,l9,d5,f7,d6,d0,c8,j6,i9,u9,g7,h9,m9,a2P,R4,t6,n0,v3,AH,Aa,Ab,AO,beq_self_eq_true,Int.reduceBEq,a8o,h,e1,e2,e3,a5G]
  exact⟨_,rfl⟩
 ·obtain⟨A1,hA1,b1⟩:∃A:Int,(if(n:Int) - 1 - r<r then(n:Int) - 1 - r else(r:Int))=A/\0<=A/\A<8:=⟨_,rfl,by split<;>lia,by split<;>lia⟩
  obtain⟨A2,hA2,b2⟩:∃A:Int,(if(n:Int) - 1 - c<c then(n:Int) - 1 - c else(c:Int))=A/\0<=A/\A<8:=⟨_,rfl,by split<;>lia,by split<;>lia⟩
  have p0:0<=(n:Int)*A2:=Int.mul_nonneg (by lia) (by lia)
  have p1:(n:Int)*A2<=8*8:=Int.mul_le_mul (by lia) (by lia) (by lia) (by lia)
  obtain⟨v,x,e1,e2,e3⟩:=key (A1+(n:Int)*A2) (by lia)
  refine⟨x, ?_⟩
  simp (disch:=omega) only [z6,b5f,Q5,v5,P6,j5,t7,l9,d5,f7,d6,d0,c8,j6,i9,u9,g7,h9,m9,a2P,R4,t6,n0,v3,AH,Aa,Ab,AO,beq_self_eq_true,Int.reduceBEq,a8o,h,hA1,hA2,e1,e2,e3,a5G]
  exact⟨_,rfl⟩
theorem b7a{cs:List Int}(hcs:0<cs.length){ls:List Nat}(hls:0<ls.length){n:Nat}(hn:0<n)(hn8:n<=8)(seed:Int)(q6 q7 q8:Option d7){r:Nat}(hr:r<n){rows:List (List Nat)}(hR:rows.length<1000):
 ∃k:List Nat,k.length=n/\∃q6' q7' q8':Option d7,M0 [some (.val (.list (cs.map .int))),some (.val (.int n)),some (.val (.list (ls.map fun x=>row [x]))),some (.val (.int seed)),some (.own (rows.map row)),some (.val (.int (r:Nat))),q6,q7,q8]
  =some (.nx [some (.val (.list (cs.map .int))),some (.val (.int n)),some (.val (.list (ls.map fun x=>row [x]))),some (.val (.int seed)),some (.own ((rows++[k]).map row)),some (.val (.int (r:Nat))),q6',q7',q8']):=by
 obtain⟨ρ3,e5,k,hk1,r7,r8,rfl⟩:=B8 (body:=L9) (tg:=g8 7) (fun j ρ=>∃k:List Nat,k.length=j/\∃q7 q8:Option d7,ρ=[some (.val (.list (cs.map .int))),some (.val (.int n)),some (.val (.list (ls.map fun x=>row [x]))),some (.val (.int seed)),some (.own (rows.map row)),some (.val (.int (r:Nat))),some (.val (.str (S k))),q7,q8])
  (ps:=P9 0 n) (ρ:=[some (.val (.list (cs.map .int))),some (.val (.int n)),some (.val (.list (ls.map fun x=>row [x]))),some (.val (.int seed)),some (.own (rows.map row)),some (.val (.int (r:Nat))),some (.val (.str (S []))),q7,q8])
  (by
   rintro j p hp ρ ⟨k,hk1,q7,q8,rfl⟩
   obtain⟨rfl,hj⟩:=a2y hp
   have hj':(0:Int)+(j:Int)=(j:Int):=by lia
   rw [hj'] at hj ⊢
   obtain⟨x,b,e⟩:=b69 hcs hls hn hn8 seed (some (.own (rows.map row))) q8 hr (c:=j) (by lia) (l:=k) (by lia)
   exact⟨_,_,rfl,.inl e,k++[x],by simp [hk1],_,_,rfl⟩) ⟨[],rfl,q7,q8,rfl⟩
 rw [Y0] at hk1
 refine⟨k,by lia, ?_⟩
 unfold M0
 simp (disch:=omega) only [l9,d5,f7,d6,d0,c8,i9,u9,g7,h9,p7,y9,K2,AH,Aa,Ab,show AS ""=S [] from rfl,e5]
 rw [C8 rfl rfl rfl (by rw [AO];lia)]
 exact⟨_,_,_,by rw [BC];rfl⟩
theorem a96{rows:List (List Nat)}{n:Nat}(h1:rows.length=n)(h2:∀l∈rows,l.length=n):a6d rows=l8 n fun r c=>(rows.getD r []).getD c 0:=by
 unfold l8
 congr 1
 refine List.ext_getElem (by rw [AO,Ax,h1]) fun i hi hi'=> ?_
 rw [List.getElem_map,List.getElem_range]
 have hl:=h2 rows[i] (List.getElem_mem _)
 refine List.ext_getElem (by rw [AO,Ax,hl]) fun j hj hj'=> ?_
 rw [List.getElem_map,List.getElem_range]
 simp [List.getD,hi,hj]
theorem b4E{cs:List Int}(hcs:0<cs.length){ls:List Nat}(hls:0<ls.length){n:Nat}(hn:0<n)(hn8:n<=8)(seed:Int):∃f:Nat->Nat->Nat,U9 [.list (cs.map .int),.int n,.list (ls.map fun x=>row [x]),.int seed]=some (.val (l8 n f)):=by
 obtain⟨ρ2,e2,rows,hr1,hr2,q5,q6,q7,q8,rfl⟩:=B8 (body:=M0) (tg:=g8 5) (fun i ρ=>∃rows:List (List Nat),rows.length=i/\(∀l∈rows,l.length=n)/\∃q5 q6 q7 q8:Option d7,ρ=[some (.val (.list (cs.map .int))),some (.val (.int n)),some (.val (.list (ls.map fun x=>row [x]))),some (.val (.int seed)),some (.own (rows.map row)),q5,q6,q7,q8])
  (ps:=P9 0 n) (ρ:=[some (.val (.list (cs.map .int))),some (.val (.int n)),some (.val (.list (ls.map fun x=>row [x]))),some (.val (.int seed)),some (.own []),none,none,none,none])
  (by
   rintro i p hp ρ ⟨rows,h1,h2,q5,q6,q7,q8,rfl⟩
   obtain⟨rfl,hi⟩:=a2y hp
   have hi':(0:Int)+(i:Int)=(i:Int):=by lia
   rw [hi'] at hi ⊢
   obtain⟨l,hl1,a',b',c',e⟩:=b7a hcs hls hn hn8 seed q6 q7 q8 (r:=i) (by lia) (rows:=rows) (by lia)
   refine⟨_,_,rfl,.inl e,rows++[l],by simp [h1],fun x hx=> ?_,_,_,_,_,rfl⟩
   rcases Ar.mp hx with h|h
   ·exact h2 x h
   ·have:x=l:=by simpa using h
    rw [this];lia) ⟨[],rfl,(by intro x h;cases h),none,none,none,none,rfl⟩
 rw [Y0] at hr1
 have hrl:rows.length=n:=by lia
 refine⟨fun r c=>(rows.getD r []).getD c 0, ?_⟩
 unfold U9 a3t
 simp (disch:=omega) only [t7,d5,A0,f7,d6,d0,c8,L4,i9,P5,m7,C3,g7,h9,k9,m5,p7,y9,K2,AH,AK,Ae,Ag,Af,Al,Ah,Aa,Ab,Ap,↓reduceIte,b1n,sz,Au,e2]
 rw [<-a96 hrl hr2]
 rfl
theorem b62{n:Nat}(hn8:n<=8):a2p [.int n]=some (.own (Z0 u4 n)):=by
 obtain⟨q2,q3,q4,e⟩:=b8x hn8 u4 (by decide)
 unfold a2p a73
 simp (disch:=omega) only [l9,d6,d0,c8,Q0,L4,i9,P5,g7,h9,k9,p7,AH,AK,Ae,Ag,Af,Al,Ah,Aa,Ab,AU,Ap,↓reduceIte,P8,x9,sz,Nat.reduceAdd,Au]
 rw [show B5 a3L (g8 2) [.str (AS "stay"),.str (AS "turn"),.str (AS "half"),.str (AS "back"),.str (AS "side"),.str (AS "flip"),.str (AS "cross"),.str (AS "other")] [some (.val (.int n)),some (.own []),none,none,none]=_ from e]
 simp (disch:=omega) only [h9,m5,AH,a0h,a0i]
abbrev Pt:=Int×Int
abbrev pl(p:Pt):PV:= .tuple [.int p.1,.int p.2]
abbrev kp(p:Pt):List g0:=[.inl p.1,.inl p.2]
def nxt(n:Int)(w:Str)(d t:Int)(p:Pt):Pt:=(lr n w d t p.1 p.2,lc n w d t p.1 p.2)
theorem b9K{n:Nat}(hn:0<n){w:Str}(hw:w∈u4)(d t:Int)(p:Pt):a8q [.int n,T3 w d t,pl p]=some (.val (pl (nxt n w d t p))):=b7I hw (by lia) d t p.1 p.2
theorem b1A{x:Str}{g:List PV->Option d7}{i:Nat}{m:MA}{ρ:c7}{qs:List PV}{r:d7}{tab:List (Str×(List PV->Option d7))}(h:ρ[i]?=some (some (.val (G0 x))))(hl:tab.lookup x=some g)(hm:m ρ=some qs)(hg:g qs=some r):a4z tab i m ρ=some r:=by
 unfold a4z
 rw [h]
 show(tab.lookup x).bind (fun g=>(m ρ).bind g)=_
 rw [hl,AH,hm,AH,hg]
def Kn(D:List (List g0×PV))(K:List Pt):Prop:=∀p:Pt,(n6 D (kp p)).isSome=decide (p∈K)
theorem Kn.put{D:List (List g0×PV)}{K:List Pt}(h:Kn D K)(p:Pt)(v:PV):Kn (L5 D (kp p) v) (K++[p]):=fun q=>by
 rw [a7A]
 by_cases e:kp p=kp q
 ·have:p=q:=by
   injection e with e1 e2
   injection e2 with e2 _
   exact Prod.ext (Sum.inl.inj e1) (Sum.inl.inj e2)
  rw [if_pos e,this];simp
 ·rw [if_neg e,h q]
  have:q≠p:=fun z=>e (by rw [z])
  simp [this]
theorem b0I{q0 q1 q2 q3 q5 q6 q7:Option d7}:∀(L:List Pt) (D:List (List g0×PV)) (K:List Pt) (q8:Option d7),D.length+L.length<=1000000->Kn D K->∃D' q8',Kn D' (K++L)/\D'.length<=D.length+L.length/\
 B5 R5 (g8 8) (L.map pl) [q0,q1,q2,q3,some (.ow (.dct D)),q5,q6,q7,q8]=some (.nx [q0,q1,q2,q3,some (.ow (.dct D')),q5,q6,q7,q8'])
 |[],D,K,q8,_,h=>⟨D,q8,by rw [Aq];exact h,AM _,rfl⟩
 |p::L,D,K,q8,hl,h=>by
  have hp:=a0O D (kp p) (.bool true)
  rw [AU] at hl
  obtain⟨D',q8',h1,h2,h3⟩:=b0I L (L5 D (kp p) (.bool true)) (K++[p]) (some (.val (pl p))) (by lia) (h.put p _)
  refine⟨D',q8',by rw [List.append_assoc] at h1;exact h1,by rw [AU];lia, ?_⟩
  have hb:R5 [q0,q1,q2,q3,some (.ow (.dct D)),q5,q6,q7,some (.val (pl p))]=some (.nx [q0,q1,q2,q3,some (.ow (.dct (L5 D (kp p) (.bool true)))),q5,q6,q7,some (.val (pl p))]):=by
   unfold R5
   simp (disch:=omega) only [l9,d5,f7,c8,AH,N3,L8]
   rw [a0z rfl (by lia)]
   rfl
  rw [AK,B5]
  show(R5 [q0,q1,q2,q3,some (.ow (.dct D)),q5,q6,q7,some (.val (pl p))]).bind _=_
  rw [hb,AH]
  exact h3
abbrev A9(Ls:List (List Pt)):List PV:=Ls.map fun L=> .list (L.map pl)
def a1w(G:Pt->Option (List Pt)):List Pt->List (List Pt)->List Pt->Option (List (List Pt)×List Pt)
 |[],m,K=>some (m,K)
 |p::ps,m,K=>if p∈K then a1w G ps m K else(G p).bind fun L=>a1w G ps (m++[L]) (K++L)
theorem a7m{G:Pt->Option (List Pt)}:∀(ps qs:List Pt) (m:List (List Pt)) (K:List Pt),a1w G (ps++qs) m K=(a1w G ps m K).bind fun r=>a1w G qs r.1 r.2
 |[],_,_,_=>rfl
 |p::ps,qs,m,K=>by
  rw [Al,a1w,a1w]
  split
  ·exact a7m ps qs m K
  ·cases G p with
   |none=>rfl
   |some L=>rw [AH,AH];exact a7m ps qs (m++[L]) (K++L)
abbrev c1D:List (Str×(List PV->Option d7)):=[((AS "circle_from"),y6)]
structure Ans(n:Nat)(lead:PV)(x:Str)(G:Pt->Option (List Pt)):Prop where
 ex:∃g,c1D.lookup x=some g/\∀(p:Pt) (L:List Pt),G p=some L->g [.int n,lead,pl p]=some (.own (L.map pl))
 len:∀(p:Pt) (L:List Pt),G p=some L->L.length<=200
theorem a4b{n:Nat}{lead:PV}{x:Str}{G:Pt->Option (List Pt)}(A:Ans n lead x G)(r:Int):∀(cs:List Int) (m:List (List Pt)) (K:List Pt) (T:List PV) (D:List (List g0×PV)) (q6 q7 q8:Option d7) (m':List (List Pt)) (K':List Pt),Kn D K->T=A9 m->T.length+cs.length<=1000->D.length+200*cs.length<=900000->
 a1w G (cs.map fun c=>(r,c)) m K=some (m',K')->
 ∃T' D' q6' q7' q8',Kn D' K'/\T'=A9 m'/\T'.length<=T.length+cs.length/\D'.length<=D.length+200*cs.length/\B5 I0 (g8 6) (cs.map .int) [some (.val (.int n)),some (.val lead),some (.val (G0 x)),some (.own T),some (.ow (.dct D)),some (.val (.int r)),q6,q7,q8]
  =some (.nx [some (.val (.int n)),some (.val lead),some (.val (G0 x)),some (.own T'),some (.ow (.dct D')),some (.val (.int r)),q6',q7',q8'])
 |[],m,K,T,D,q6,q7,q8,m',K',hK,hT,_,_,h=>by
  cases h
  exact⟨T,D,q6,q7,q8,hK,hT,by simp,by simp,rfl⟩
 |c::cs,m,K,T,D,q6,q7,q8,m',K',hK,hT,hl,hd,h=>by
  rw [AU] at hl hd
  rw [AK,a1w] at h
  rw [AK,B5]
  show ∃T' D' q6' q7' q8',_/\_/\_/\_/\(I0 [some (.val (.int n)),some (.val lead),some (.val (G0 x)),some (.own T),some (.ow (.dct D)),some (.val (.int r)),some (.val (.int c)),q7,q8]).bind _=_
  have hin:=hK (r,c)
  by_cases e:(r,c)∈K
  ·rw [if_pos e] at h
   rw [decide_eq_true e] at hin
   have hb:I0 [some (.val (.int n)),some (.val lead),some (.val (G0 x)),some (.own T),some (.ow (.dct D)),some (.val (.int r)),some (.val (.int c)),q7,q8]=some (.nx [some (.val (.int n)),some (.val lead),some (.val (G0 x)),some (.own T),some (.ow (.dct D)),some (.val (.int r)),some (.val (.int c)),q7,q8]):=by
    unfold I0
    simp (disch:=omega) only [d5,f7,d6,d0,c8,D5,m9,R4,t6,n0,v3,AH,AU,Ap,↓reduceIte,Bool.not_true,sz,Nat.reduceAdd,Au,N2,L8,a1M,a1N,hin]
   rw [hb,AH]
   obtain⟨T',D',a,b,c',h1,h2,h3,h4,h5⟩:=a4b A r cs m K T D (some (.val (.int c))) q7 q8 m' K' hK hT (by lia) (by lia) h
   exact⟨T',D',a,b,c',h1,h2,by rw [AU];lia,by rw [AU];lia,h5⟩
  ·rw [if_neg e] at h
   rw [decide_eq_false e] at hin
   cases hs:G (r,c) with
   |none=>rw [hs] at h;cases h
   |some L=>
    rw [hs,AH] at h
    have hL:=A.len _ _ hs
    obtain⟨g,hg,hans⟩:=A.ex
    have hr:=hans (r,c) L hs
    obtain⟨D1,q8',hK1,hD1,hput⟩:=b0I (q0:=some (.val (.int n))) (q1:=some (.val lead)) (q2:=some (.val (G0 x))) (q3:=some (.own (T++[.list (L.map pl)]))) (q5:=some (.val (.int r))) (q6:=some (.val (.int c))) (q7:=some (.val (.list (L.map pl)))) L D K q8 (by lia) hK
    have hb:I0 [some (.val (.int n)),some (.val lead),some (.val (G0 x)),some (.own T),some (.ow (.dct D)),some (.val (.int r)),some (.val (.int c)),q7,q8]=some (.nx [some (.val (.int n)),some (.val lead),some (.val (G0 x)),some (.own (T++[.list (L.map pl)])),some (.ow (.dct D1)),some (.val (.int r)),some (.val (.int c)),some (.val (.list (L.map pl))),q8']):=by
     unfold I0
     have hcall:a4z c1D 2 (c5 (c6 0) (c5 (c6 1) (c5 (a0J (c5 (c6 5) (c5 (c6 6) e9))) e9))) [some (.val (.int n)),some (.val lead),some (.val (G0 x)),some (.own T),some (.ow (.dct D)),some (.val (.int r)),some (.val (.int c)),q7,q8]=some (.own (L.map pl)):=by
      exact b1A (x:=x) (qs:=[.int n,lead,pl (r,c)]) rfl hg (by simp (disch:=omega) only [d5,f7,d6,d0,c8,D5,AH,AU,Ap,↓reduceIte,sz,Nat.reduceAdd,Au]) hr
     simp (disch:=omega) only [d5,f7,d6,d0,c8,D5,i9,P5,g7,h9,m9,a2P,n0,v3,AH,Aa,Ab,AU,Ap,↓reduceIte,Bool.not_false,sz,Nat.reduceAdd,Au,N2,L8,a1M,a1N,hin,hcall]
     have z1:∀nn:MS,S9 7 nn [some (.val (.int n)),some (.val lead),some (.val (G0 x)),some (.own T),some (.ow (.dct D)),some (.val (.int r)),some (.val (.int c)),some (.own (L.map pl)),q8]=nn [some (.val (.int n)),some (.val lead),some (.val (G0 x)),some (.own T),some (.ow (.dct D)),some (.val (.int r)),some (.val (.int c)),some (.val (.list (L.map pl))),q8]:=fun _=>rfl
     have z2:∀nn:MS,S9 7 nn [some (.val (.int n)),some (.val lead),some (.val (G0 x)),some (.own (T++[.list (L.map pl)])),some (.ow (.dct D)),some (.val (.int r)),some (.val (.int c)),some (.val (.list (L.map pl))),q8]=nn [some (.val (.int n)),some (.val lead),some (.val (G0 x)),some (.own (T++[.list (L.map pl)])),some (.ow (.dct D)),some (.val (.int r)),some (.val (.int c)),some (.val (.list (L.map pl))),q8]:=fun _=>rfl
     rw [z1,C8 (r:= .val (.list (L.map pl))) (p:= .list (L.map pl)) rfl rfl rfl (by lia),AH,h9]
     show S9 7 _ [some (.val (.int n)),some (.val lead),some (.val (G0 x)),some (.own (T++[.list (L.map pl)])),some (.ow (.dct D)),some (.val (.int r)),some (.val (.int c)),some (.val (.list (L.map pl))),q8]=_
     rw [z2]
     simp (disch:=omega) only [d5,f7,c8,p7,AH,P8,x9,hput]
    rw [hb,AH]
    obtain⟨T',D',a,b,c',h1,h2,h3,h4,h5⟩:=a4b A r cs (m++[L]) (K++L) (T++[.list (L.map pl)]) D1 (some (.val (.int c))) (some (.val (.list (L.map pl)))) q8' m' K' hK1 (by rw [hT];unfold A9;rw [BC];rfl) (by rw [Ai,List.length_singleton];lia) (by lia) h
    rw [Ai,List.length_singleton] at h3
    exact⟨T',D',a,b,c',h1,h2,by rw [AU];lia,by rw [AU];lia,h5⟩
def a1J(n:Nat)(r:Int):List Pt:=((AQ n).map fun(c:Nat)=>(c:Int)).map fun c=>(r,c)
def b57(n:Nat):List Int:=(AQ n).map fun(c:Nat)=>(c:Int)
def pts(n:Nat):List Pt:=(b57 n).flatMap (a1J n)
theorem a8N{n:Nat}(hn8:n<=8){lead:PV}{x:Str}{G:Pt->Option (List Pt)}(A:Ans n lead x G):∀(rs:List Int) (m:List (List Pt)) (K:List Pt) (T:List PV) (D:List (List g0×PV)) (q5 q6 q7 q8:Option d7) (m':List (List Pt)) (K':List Pt),Kn D K->T=A9 m->T.length+8*rs.length<=1000->D.length+1600*rs.length<=900000->
 a1w G (rs.flatMap (a1J n)) m K=some (m',K')->
 ∃T' D' q5' q6' q7' q8',Kn D' K'/\T'=A9 m'/\B5 R6 (g8 5) (rs.map .int) [some (.val (.int n)),some (.val lead),some (.val (G0 x)),some (.own T),some (.ow (.dct D)),q5,q6,q7,q8]
  =some (.nx [some (.val (.int n)),some (.val lead),some (.val (G0 x)),some (.own T'),some (.ow (.dct D')),q5',q6',q7',q8'])
 |[],m,K,T,D,q5,q6,q7,q8,m',K',hK,hT,_,_,h=>by
  cases h
  exact⟨T,D,q5,q6,q7,q8,hK,hT,rfl⟩
 |r::rs,m,K,T,D,q5,q6,q7,q8,m',K',hK,hT,hl,hd,h=>by
  rw [AU] at hl hd
  rw [List.flatMap_cons,a7m] at h
  cases hs:a1w G (a1J n r) m K with
  |none=>rw [hs] at h;cases h
  |some z=>
   obtain⟨m1,K1⟩:=z
   rw [hs,AH] at h
   have hs':a1w G (((AQ n).map fun(c:Nat)=>(c:Int)).map fun c=>(r,c)) m K=some (m1,K1):=hs
   have hcl:((AQ n).map fun(c:Nat)=>(c:Int)).length=n:=by simp
   obtain⟨T1,D1,a6,a7,a8,h1,h2,h3,h4,h5⟩:=a4b A r ((AQ n).map fun(c:Nat)=>(c:Int)) m K T D q6 q7 q8 m1 K1 hK hT (by rw [hcl];lia) (by rw [hcl];lia) hs'
   rw [hcl] at h3 h4
   have hrng:((AQ n).map fun(c:Nat)=>(c:Int)).map PyData.int=P9 0 (n:Int):=by
    unfold P9
    rw [As]
    simp
   rw [hrng] at h5
   have hb:R6 [some (.val (.int n)),some (.val lead),some (.val (G0 x)),some (.own T),some (.ow (.dct D)),some (.val (.int r)),q6,q7,q8]=some (.nx [some (.val (.int n)),some (.val lead),some (.val (G0 x)),some (.own T1),some (.ow (.dct D1)),some (.val (.int r)),a6,a7,a8]):=by
    unfold R6
    simp (disch:=omega) only [d5,d6,d0,c8,p7,y9,K2,AH,h5]
   obtain⟨T',D',b5,b6,b7,b8,k1,k2,k3⟩:=a8N hn8 A rs m1 K1 T1 D1 (some (.val (.int r))) a6 a7 a8 m' K' h1 h2 (by lia) (by lia) h
   refine⟨T',D',b5,b6,b7,b8,k1,k2, ?_⟩
   rw [AK,B5]
   show(R6 [some (.val (.int n)),some (.val lead),some (.val (G0 x)),some (.own T),some (.ow (.dct D)),some (.val (.int r)),q6,q7,q8]).bind _=_
   rw [hb,AH]
   exact k3
theorem b31{n:Nat}(hn8:n<=8){lead:PV}{x:Str}{G:Pt->Option (List Pt)}(A:Ans n lead x G){m:List (List Pt)}{K:List Pt}(h:a1w G (pts n) [] []=some (m,K)):a3F [.int n,lead,G0 x]=some (.own (A9 m)):=by
 have h':a1w G (((AQ n).map fun(c:Nat)=>(c:Int)).flatMap (a1J n)) [] []=some (m,K):=h
 have hcl:((AQ n).map fun(c:Nat)=>(c:Int)).length=n:=by simp
 obtain⟨T,D,a5,a6,a7,a8,h1,h2,h3⟩:=a8N hn8 A ((AQ n).map fun(c:Nat)=>(c:Int)) [] [] [] [] none none none none m K (fun p=>by simp [n6]) rfl (by rw [hcl];simp;lia) (by rw [hcl];simp;lia) h'
 have hrng:((AQ n).map fun(c:Nat)=>(c:Int)).map PyData.int=P9 0 (n:Int):=by
  unfold P9
  rw [As]
  simp
 rw [hrng] at h3
 subst h2
 unfold a3F a9Z
 simp (disch:=omega) only [d5,d6,d0,c8,L4,i9,g7,h9,k9,m5,p7,y9,K2,AH,AK,Ae,Ag,Af,Al,Ah,Aa,Ab,Ap,↓reduceIte,a0h,a0i,sz,Au,a2s,a0X,h3]
def S7(n:Nat)(p:Pt):Prop:=(0<=p.1/\p.1<n)/\0<=p.2/\p.2<n
abbrev Tr:=Str×Nat×Nat
theorem b6o{α β:Type}{f:α->β}:∀{l:List β} {L:List α},(L.map f).Perm l->∃M:List α,M.Perm L/\M.map f=l:=by
 intro l L h
 generalize hK:L.map f=K at h
 induction h generalizing L with
 |nil=>exact⟨[],by rw [List.map_eq_nil_iff] at hK;rw [hK],rfl⟩
 |cons x _ ih=>
  cases L with
  |nil=>cases hK
  |cons y L=>
   rw [AK] at hK
   injection hK with h1 h2
   obtain⟨M,a,b⟩:=ih h2
   exact⟨y::M,a.cons y,by rw [AK,b,h1]⟩
 |swap x y l=>
  match L,hK with
  |a::b::L,hK=>
   injection hK with h1 h2
   injection h2 with h2 h3
   exact⟨b::a::L,List.Perm.swap a b L,by rw [AK,AK,h1,h2,h3]⟩
  |[_],hK=>cases hK
  |[],hK=>cases hK
 |trans _ _ ih1 ih2=>
  obtain⟨M,a,b⟩:=ih1 hK
  obtain⟨N,c,d⟩:=ih2 b
  exact⟨N,c.trans a,d⟩
theorem b0r:∀L:List Pt,a5c (L.map pl)=some (L.map kp)
 |[]=>rfl
 |x::L=>by
  show(keysOf [.int x.1,.int x.2]).bind (fun k=>(a5c (L.map pl)).map fun t=>k::t)=_
  rw [b0r L];rfl
theorem b9Q(L:List Pt):okK (L.map kp)=true:=by
 cases L with
 |nil=>rfl
 |cons x L=>
  show(!(kp x).isEmpty &&(L.map kp).all fun j=>j.map sgK==(kp x).map sgK)=true
  rw [Bool.and_eq_true]
  refine⟨rfl,List.all_eq_true.mpr fun j hj=> ?_⟩
  obtain⟨y,_,rfl⟩:=AZ.mp hj
  rfl
def ltP(p q:Pt):Prop:=p.1<q.1\/p.1=q.1/\p.2<q.2
theorem b5N{p q:Pt}(h:ltP p q):¬ltP q p:=fun g=>by
 unfold ltP at h g
 lia
theorem b5M{p q:Pt}(h:ltP p q)(a b:List g0):O3 (.inl p.1:: .inl p.2::a) (.inl q.1:: .inl q.2::b)=true:=by
 unfold O3
 rcases h with h|⟨h1,h2⟩
 ·rw [if_neg (fun e=>by have:=Sum.inl.inj e;lia)]
  exact decide_eq_true h
 ·rw [if_pos (by rw [h1])]
  unfold O3
  rw [if_neg (fun e=>by have:=Sum.inl.inj e;lia)]
  exact decide_eq_true h2
theorem b2T{L:List Pt}(h:L.length<64)(nd:L.Nodup)(x:d7)(hx:x.rd= .list (L.map pl)):∃M:List Pt,M.Perm L/\a26 x=some (.own (M.map pl))/\M.Pairwise ltP:=by
 have hp:=a1f (lt:=O3) (L.map kp)
 have hso:=V4 X7 (L.map kp)
 obtain⟨M,hP,hM⟩:=b6o hp.symm
 refine⟨M,hP, ?_, ?_⟩
 ·unfold a26
  rw [hx]
  show(a5c (L.map pl)).bind _=_
  rw [b0r]
  show(if okK (L.map kp)=true/\(L.map kp).length<64 then some (d7.own ((a1v O3 (L.map kp)).map kT)) else none)=_
  rw [if_pos ⟨b9Q L,by rw [AO];lia⟩,<-hM,As]
  rfl
 ·rw [<-hM] at hso
  have h1:=List.pairwise_map.mp hso
  refine(h1.and (hP.nodup_iff.mpr nd)).imp fun {a b} ⟨h2,h3⟩=> ?_
  apply Classical.byContradiction
  intro hno
  have:ltP b a:=by
   unfold ltP at hno ⊢
   have:¬(a.1=b.1/\a.2=b.2):=fun z=>h3 (Prod.ext z.1 z.2)
   lia
  have:=b5M this [] []
  rw [h2] at this
  cases this
abbrev st(n:Nat)(x:Tr)(p:Pt):Pt:=nxt n x.1 (x.2.1:Nat) (x.2.2:Nat) p
abbrev K8(ms:List Tr):List PV:=ms.map fun x=>T3 x.1 (x.2.1:Nat) (x.2.2:Nat)
def Clo(n:Nat)(ms:List Tr)(C:Pt->Prop):Prop:=∀p,C p->∀x∈ms,C (st n x p)
def Y8(n:Nat)(ms:List Tr)(p q:Pt):Prop:=∀C:Pt->Prop,Clo n ms C->C p->C q
theorem Y8.refl{n:Nat}{ms:List Tr}(p:Pt):Y8 n ms p p:=fun _ _ h=>h
theorem Y8.step{n:Nat}{ms:List Tr}{p q:Pt}(h:Y8 n ms p q){x:Tr}(hx:x∈ms):Y8 n ms p (st n x q):=fun C hC hp=>hC q (h C hC hp) x hx
theorem b0R{n:Nat}(hn:0<n)(x:Tr)(p:Pt):S7 n (st n x p):=
 ⟨⟨Int.emod_nonneg _ (by lia),Int.emod_lt_of_pos _ (by lia)⟩,Int.emod_nonneg _ (by lia),Int.emod_lt_of_pos _ (by lia)⟩
def unw(l:List Pt)(K:List Pt):Nat:=(l.filter fun q=> !decide (q∈K)).length
theorem b6Y(q:Pt)(K:List Pt):∀l:List Pt,unw l (K++[q])<=unw l K
 |[]=>AM _
 |a::l=>by
  have ih:=b6Y q K l
  unfold unw at ih ⊢
  rw [List.filter_cons,List.filter_cons]
  by_cases h:a∈K
  ·have:a∈K++[q]:=Ay _ h
   simp only [h,this,decide_true,Bool.not_true,Av,if_false]
   exact ih
  ·by_cases h2:a=q
   ·have:a∈K++[q]:=by rw [h2];simp
    simp only [h,this,decide_true,decide_false,Bool.not_true,Bool.not_false,Av,if_false,if_true,AU]
    lia
   ·have:a∉K++[q]:=by simp [h,h2]
    simp only [h,this,decide_false,Bool.not_false,if_true,AU]
    lia
theorem a7z{q:Pt}{K:List Pt}(hq:q∉K):∀{l:List Pt},q∈l->unw l (K++[q])<unw l K
 |[],h=>by cases h
 |a::l,h=>by
  have le:=b6Y q K l
  by_cases e:a=q
  ·unfold unw at le ⊢
   rw [List.filter_cons,List.filter_cons]
   have h1:a∈K++[q]:=by rw [e];simp
   have h2:a∉K:=by rw [e];exact hq
   simp only [h1,h2,decide_true,decide_false,Bool.not_true,Bool.not_false,Av,if_false,if_true,AU]
   lia
  ·have hl:q∈l:=by
    rcases AV.mp h with z|z
    ·exact absurd z.symm e
    ·exact z
   have ih:=a7z hq hl
   unfold unw at ih ⊢
   rw [List.filter_cons,List.filter_cons]
   by_cases h1:a∈K
   ·have h2:a∈K++[q]:=Ay _ h1
    simp only [h1,h2,decide_true,Bool.not_true,Av,if_false]
    exact ih
   ·have h2:a∉K++[q]:=by simp [h1,e]
    simp only [h1,h2,decide_false,Bool.not_false,if_true,AU]
    lia
theorem b1p{n:Nat}{p:Pt}(h:S7 n p):∃a b:Nat,a<n/\b<n/\p=((a:Int),(b:Int)):=by
 obtain⟨⟨h1,h2⟩,h3,h4⟩:=h
 obtain⟨x,y⟩:=p
 exact⟨x.toNat,y.toNat,by lia,by lia,by rw [Int.toNat_of_nonneg h1,Int.toNat_of_nonneg h3]⟩
theorem V3{n:Nat}{q:Pt}(h:S7 n q):q∈pts n:=by
 obtain⟨a,b,ha,hb,rfl⟩:=b1p h
 unfold pts b57
 exact List.mem_flatMap.mpr ⟨(a:Int),AZ.mpr ⟨a,List.mem_range.mpr ha,rfl⟩,AZ.mpr ⟨(b:Int),AZ.mpr ⟨b,List.mem_range.mpr hb,rfl⟩,rfl⟩⟩
theorem b6z{n:Nat}{q:Pt}(h:q∈pts n):S7 n q:=by
 unfold pts b57 at h
 obtain⟨r,hr,h⟩:=List.mem_flatMap.mp h
 obtain⟨a,ha,rfl⟩:=AZ.mp hr
 unfold a1J at h
 obtain⟨c,hc,rfl⟩:=AZ.mp h
 obtain⟨b,hb,rfl⟩:=AZ.mp hc
 have:=List.mem_range.mp ha
 have:=List.mem_range.mp hb
 exact⟨⟨by lia,by lia⟩,by lia,by lia⟩
theorem a2v(n:Nat):(pts n).length=n*n:=by
 unfold pts b57
 have:∀l:List Int,(l.flatMap (a1J n)).length=l.length*n:=by
  intro l
  induction l with
  |nil=>simp
  |cons a l ih=>rw [List.flatMap_cons,Ai,ih,AU,Nat.add_mul,Nat.one_mul];unfold a1J;simp;lia
 rw [this];simp
theorem b8X(l K:List Pt):unw l K<=l.length:=List.length_filter_le _ _
structure Fnd(n:Nat)(ms:List Tr)(p:Pt)(W:List Pt)(D:List (List g0×PV)):Prop where
 kn:Kn D W
 dl:D.length<=W.length
 b:W.length+unw (pts n) W<=n*n
 hp:p∈W
 all:∀q∈W,S7 n q/\Y8 n ms p q
 nd:W.Nodup
theorem Fnd.add{n:Nat}{ms:List Tr}{p:Pt}{W:List Pt}{D:List (List g0×PV)}(h:Fnd n ms p W D){q:Pt}(hq:q∉W)(hb:S7 n q)(hr:Y8 n ms p q):Fnd n ms p (W++[q]) (L5 D (kp q) (.bool true)) where
 kn:=h.kn.put q _
 dl:=by
  have:=a0O D (kp q) (.bool true)
  have:=h.dl
  rw [Ai,List.length_singleton];lia
 b:=by
  have:=a7z hq (V3 hb)
  have:=h.b
  rw [Ai,List.length_singleton];lia
 hp:=Ay _ h.hp
 all:=fun z hz=>by
  rcases Ar.mp hz with y|y
  ·exact h.all z y
  ·have:z=q:=by simpa using y
   rw [this];exact⟨hb,hr⟩
 nd:=by
  rw [List.nodup_append]
  refine⟨h.nd,by simp,fun a ha b hb'=> ?_⟩
  have:b=q:=by simpa using hb'
  rw [this]
  exact fun e=>hq (e▸ha)
theorem a84{n:Nat}(hn:0<n)(hn8:n<=8){ms:List Tr}{p p0:Pt}{i:Nat}(h0:Y8 n ms p p0){q1 q2:Option d7}:∀(xs:List Tr) (W:List Pt) (D:List (List g0×PV)) (q6 q7:Option d7),(∀x∈xs,x∈ms/\x.1∈u4)->W[i]?=some p0->Fnd n ms p W D->∃N D' q6' q7',Fnd n ms p (W++N) D'/\(∀x∈xs,st n x p0∈W++N)/\
 B5 o8 (g8 6) (K8 xs) [some (.val (.int n)),q1,q2,some (.ow (.dct D)),some (.own (W.map pl)),some (.val (.int (i:Int))),q6,q7]=some (.nx [some (.val (.int n)),q1,q2,some (.ow (.dct D')),some (.own ((W++N).map pl)),some (.val (.int (i:Int))),q6',q7'])
 |[],W,D,q6,q7,_,_,h=>⟨[],D,q6,q7,by rw [Aq];exact h,(fun x hx=>nomatch hx),by rw [Aq];rfl⟩
 |x::xs,W,D,q6,q7,hx,hi,h=>by
  have hxm:=hx x AX
  have hnn:n*n<=8*8:=Nat.mul_le_mul hn8 hn8
  have hb:=h.b
  have hdl:=h.dl
  have ix:z9 (.bor (W.map pl)) (.val (.int (i:Int)))=some (.val (pl p0)):=by
   refine a5H ?_
   rw [b4y,Ak,hi];rfl
  have hl:=b9K hn hxm.2 (x.2.1:Nat) (x.2.2:Nat) p0
  have hin:=h.kn (st n x p0)
  show ∃N D' q6' q7',_/\_/\B5 o8 (g8 6) (T3 x.1 (x.2.1:Nat) (x.2.2:Nat)::K8 xs) _=_
  by_cases e:st n x p0∈W
  ·rw [decide_eq_true e] at hin
   have hbd:o8 [some (.val (.int n)),q1,q2,some (.ow (.dct D)),some (.own (W.map pl)),some (.val (.int (i:Int))),some (.val (T3 x.1 (x.2.1:Nat) (x.2.2:Nat))),q7]=some (.nx [some (.val (.int n)),q1,q2,some (.ow (.dct D)),some (.own (W.map pl)),some (.val (.int (i:Int))),some (.val (T3 x.1 (x.2.1:Nat) (x.2.2:Nat))),some (.val (pl (st n x p0)))]):=by
    unfold o8
    simp (disch:=omega) only [j5,d5,A0,f7,d6,d0,c8,j6,i9,u9,g7,h9,m9,R4,t6,n0,v3,AH,Aa,Ab,↓reduceIte,Bool.not_true,ix,hl,N2,L8,a1M,a1N,hin]
   obtain⟨N,D',a6,a7,h1,h2,h3⟩:=a84 hn hn8 h0 xs W D (some (.val (T3 x.1 (x.2.1:Nat) (x.2.2:Nat)))) (some (.val (pl (st n x p0)))) (fun y hy=>hx y (Ac _ hy)) hi h
   refine⟨N,D',a6,a7,h1,fun y hy=> ?_, ?_⟩
   ·rcases AV.mp hy with rfl|hy
    ·exact Ay _ e
    ·exact h2 y hy
   ·rw [B5]
    show(o8 [some (.val (.int n)),q1,q2,some (.ow (.dct D)),some (.own (W.map pl)),some (.val (.int (i:Int))),some (.val (T3 x.1 (x.2.1:Nat) (x.2.2:Nat))),q7]).bind _=_
    rw [hbd,AH]
    exact h3
  ·rw [decide_eq_false e] at hin
   have hF:=h.add e (b0R hn x p0) (h0.step hxm.1)
   have hbd:o8 [some (.val (.int n)),q1,q2,some (.ow (.dct D)),some (.own (W.map pl)),some (.val (.int (i:Int))),some (.val (T3 x.1 (x.2.1:Nat) (x.2.2:Nat))),q7]=some (.nx [some (.val (.int n)),q1,q2,some (.ow (.dct (L5 D (kp (st n x p0)) (.bool true)))),some (.own ((W++[st n x p0]).map pl)),some (.val (.int (i:Int))),some (.val (T3 x.1 (x.2.1:Nat) (x.2.2:Nat))),some (.val (pl (st n x p0)))]):=by
    unfold o8
    simp (disch:=omega) only [j5,l9,d5,A0,f7,d6,d0,c8,j6,i9,u9,g7,h9,m9,a2P,n0,v3,AH,Aa,Ab,↓reduceIte,Bool.not_false,ix,hl,N2,L8,a1M,a1N,hin,N3]
    rw [a0z rfl (by lia),AH,h9]
    rw [C8 (r:= .val (pl (st n x p0))) (p:=pl (st n x p0)) rfl rfl rfl (by rw [AO];lia),BC]
    rfl
   obtain⟨N,D',a6,a7,h1,h2,h3⟩:=a84 hn hn8 h0 xs (W++[st n x p0]) (L5 D (kp (st n x p0)) (.bool true)) (some (.val (T3 x.1 (x.2.1:Nat) (x.2.2:Nat)))) (some (.val (pl (st n x p0)))) (fun y hy=>hx y (Ac _ hy)) (by
    rw [BA (Am.mp hi).1];exact hi) hF
   refine⟨[st n x p0]++N,D',a6,a7,by rw [<-List.append_assoc];exact h1,fun y hy=> ?_, ?_⟩
   ·rw [<-List.append_assoc]
    rcases AV.mp hy with rfl|hy
    ·exact Ay _ (by simp)
    ·exact h2 y hy
   ·rw [B5]
    show(o8 [some (.val (.int n)),q1,q2,some (.ow (.dct D)),some (.own (W.map pl)),some (.val (.int (i:Int))),some (.val (T3 x.1 (x.2.1:Nat) (x.2.2:Nat))),q7]).bind _=_
    rw [hbd,AH,<-List.append_assoc]
    exact h3
theorem b5R{i:Nat}{ρ:c7}{x y:Int}(h:ρ[i]?=some (some (.val (.int x)))):b5Q i (gI fun i j=> .int (i+j)) (mC (.int y)) ρ=some (.nx (ρ.set i (some (.val (.int (x+y)))))):=by
 unfold b5Q
 rw [h]
 rfl
theorem b3d{n:Nat}(hn:0<n)(hn7:n<=7){ms:List Tr}(hms:∀x∈ms,x.1∈u4){p:Pt}(hp:S7 n p):∃L:List Pt,L.length<=64/\(∀q,q∈L↔Y8 n ms p q)/\y6 [.int n,.list (K8 ms),pl p]=some (.own (L.map pl))/\L.Nodup/\L.Pairwise ltP:=by
 have hnn:n*n<=7*7:=Nat.mul_le_mul hn7 hn7
 have key:=a2l (c:=mtB (m2 a25 (c6 5) (m1 J0 (c6 4)))) (body:=J9) (I:=fun m ρ=>∃(W:List Pt) (D:List (List g0×PV)) (i:Nat) (q6 q7:Option d7),m=n*n - i/\i<=W.length/\Fnd n ms p W D/\(∀j q,j<i->W[j]?=some q->∀x∈ms,st n x q∈W)/\ρ=[some (.val (.int n)),some (.val (.list (K8 ms))),some (.val (pl p)),some (.ow (.dct D)),some (.own (W.map pl)),some (.val (.int (i:Int))),q6,q7])
  (by
   rintro m ρ ⟨W,D,i,q6,q7,hm,hi,hF,hC,rfl⟩
   have hb:=hF.b
   have hc:mtB (m2 a25 (c6 5) (m1 J0 (c6 4))) [some (.val (.int n)),some (.val (.list (K8 ms))),some (.val (pl p)),some (.ow (.dct D)),some (.own (W.map pl)),some (.val (.int (i:Int))),q6,q7]=some (decide ((i:Int)<(W.length:Int))):=by
    simp (disch:=omega) only [a4o,a3E,j5,t7,d5,A0,f7,n0,v3,AH,AO]
   by_cases e:i<W.length
   ·obtain⟨p0,hp0⟩:∃p0,W[i]?=some p0:=⟨W[i],Aw e⟩
    obtain⟨N,D',a6,a7,h1,h2,h3⟩:=a84 hn (by lia) (hF.all p0 (BD hp0)).2 (i:=i) (q1:=some (.val (.list (K8 ms)))) (q2:=some (.val (pl p))) ms W D q6 q7 (fun x hx=>⟨hx,hms x hx⟩) hp0 hF
    refine .inr ⟨by rw [hc,decide_eq_true (by lia)],[some (.val (.int n)),some (.val (.list (K8 ms))),some (.val (pl p)),some (.ow (.dct D')),some (.own ((W++N).map pl)),some (.val (.int ((i:Int)+1))),a6,a7],n*n - (i+1), ?_,by lia,W++N,D',i+1,a6,a7,rfl,by rw [Ai];lia,h1,fun j q hj hq x hx=> ?_,by rw [Int.natCast_add];rfl⟩
    ·unfold J9
     simp (disch:=omega) only [d5,f7,c8,g7,h9,p7,AH,P8,x9,h3]
     rw [b5R rfl]
     rfl
    ·by_cases hji:j<i
     ·have hjW:j<W.length:=by lia
      rw [BA hjW] at hq
      exact Ay _ (hC j q hji hq x hx)
     ·have:j=i:=by lia
      subst this
      rw [BA e,hp0] at hq
      cases hq
      exact h2 x hx
   ·exact .inl (by rw [hc,decide_eq_false (by lia)]))
  100 (n*n - 0) [some (.val (.int n)),some (.val (.list (K8 ms))),some (.val (pl p)),some (.ow (.dct [(kp p,.bool true)])),some (.own ([p].map pl)),some (.val (.int 0)),none,none] (by lia)
  ⟨[p],[(kp p,.bool true)],0,none,none,rfl,by simp,⟨fun q=>by
    by_cases e:q=p
    ·subst e;simp [n6]
    ·have:kp p≠kp q:=fun z=>by
      injection z with z1 z2
      injection z2 with z2 _
      exact e (Prod.ext (Sum.inl.inj z1).symm (Sum.inl.inj z2).symm)
     simp [n6,this,e],by simp,by
    have h:=a7z (q:=p) (K:=[]) (by simp) (V3 hp)
    have h2:=b8X (pts n) []
    rw [a2v] at h2
    rw [Ah] at h
    simp only [AU,Ap];lia,by simp,fun q hq=>by
    have:q=p:=by simpa using hq
    rw [this];exact⟨hp,Y8.refl p⟩,by simp⟩,fun j q hj=>by lia,rfl⟩
 obtain⟨ρ',m',e,⟨W,D,i,q6,q7,_,hi,hF,hC,rfl⟩,hc⟩:=key
 have hb:=hF.b
 have hc':mtB (m2 a25 (c6 5) (m1 J0 (c6 4))) [some (.val (.int n)),some (.val (.list (K8 ms))),some (.val (pl p)),some (.ow (.dct D)),some (.own (W.map pl)),some (.val (.int (i:Int))),q6,q7]=some (decide ((i:Int)<(W.length:Int))):=by
  simp (disch:=omega) only [a4o,a3E,j5,t7,d5,A0,f7,n0,v3,AH,AO]
 rw [hc'] at hc
 have hiW:i=W.length:=by
  have:¬((i:Int)<(W.length:Int)):=of_decide_eq_false (Option.some.inj hc)
  lia
 obtain⟨M,hM,es,hso⟩:=b2T (L:=W) (by lia) hF.nd (.bor (W.map pl)) rfl
 refine⟨M,by rw [hM.length_eq];lia,fun q=>⟨fun h=>(hF.all q (hM.mem_iff.mp h)).2,fun h=>hM.mem_iff.mpr (h (fun z=>z∈W) (fun z hz x hx=> ?_) hF.hp)⟩, ?_,hM.nodup_iff.mpr hF.nd,hso⟩
 ·obtain⟨j,hj⟩:=List.getElem?_of_mem hz
  exact hC j z (by have:=(Am.mp hj).1;lia) hj x hx
 ·unfold y6 a2I
  have e:P0 (mtB (m2 a25 (c6 5) (m1 J0 (c6 4)))) J9 100 [some (.val (.int n)),some (.val (.list (K8 ms))),some (.val (pl p)),some (.ow (.dct [(kp p,.bool true)])),some (.own [pl p]),some (.val (.int 0)),none,none]=_:=e
  simp (disch:=omega) only [t7,l9,d5,A0,f7,d6,d0,c8,L4,i9,u9,m7,a4P,g7,h9,k9,m5,AH,AK,Ae,Ag,Af,Al,Ah,Aa,Ab,AU,Ap,↓reduceIte,sz,Nat.reduceAdd,Au,b1D,L8,a0X,e,es]
theorem a3U{α:Type}[DecidableEq α]:∀{l m:List α},l.Nodup->(∀x∈l,x∈m)->l.length<=m.length
 |[],_,_,_=>Nat.zero_le _
 |x::l,m,hn,h=>by
  have hx:=h x AX
  have hn':=List.nodup_cons.mp hn
  have ih:=a3U (l:=l) (m:=m.erase x) hn'.2 fun y hy=>(List.mem_erase_of_ne (fun e:y=x=>hn'.1 (e▸hy))).mpr (h y (Ac _ hy))
  rw [List.length_erase_of_mem hx] at ih
  have:0<m.length:=List.length_pos_of_mem hx
  rw [AU];lia
theorem c0r{n:Nat}(hn:0<n){x:Tr}(hx:x.1∈u4){p q:Pt}(hp:S7 n p)(hq:S7 n q)(e:st n x p=st n x q):p=q:=by
 have a:=a91 (n:=(n:Int)) (by lia) hx (x.2.1:Nat) (x.2.2:Nat) hp.1 hp.2
 have b:=a91 (n:=(n:Int)) (by lia) hx (x.2.1:Nat) (x.2.2:Nat) hq.1 hq.2
 have e1:lr n x.1 (x.2.1:Nat) (x.2.2:Nat) p.1 p.2=lr n x.1 (x.2.1:Nat) (x.2.2:Nat) q.1 q.2:=congrArg Prod.fst e
 have e2:lc n x.1 (x.2.1:Nat) (x.2.2:Nat) p.1 p.2=lc n x.1 (x.2.1:Nat) (x.2.2:Nat) q.1 q.2:=congrArg Prod.snd e
 rw [e1,e2] at a
 exact Prod.ext (a.1.symm.trans b.1) (a.2.symm.trans b.2)
def itS(n:Nat)(x:Tr):Nat->Pt->Pt
 |0,p=>p
 |k+1,p=>st n x (itS n x k p)
theorem b1t{n:Nat}(hn:0<n)(x:Tr){p:Pt}(hp:S7 n p):∀k,S7 n (itS n x k p)
 |0=>hp
 |_+1=>b0R hn x _
theorem b2t{n:Nat}(hn:0<n){x:Tr}(hx:x.1∈u4){p:Pt}(hp:S7 n p)(m:Nat):∀i,itS n x (i+m) p=itS n x i p->itS n x m p=p
 |0,e=>by rw [Nat.zero_add] at e;exact e
 |i+1,e=>by
  rw [Nat.add_right_comm] at e
  exact b2t hn hx hp m i (c0r hn hx (b1t hn x hp _) (b1t hn x hp _) e)
theorem b5s{n:Nat}(hn:0<n){x:Tr}(hx:x.1∈u4){p:Pt}(hp:S7 n p):∃k,itS n x (k+1) p=p:=by
 apply Classical.byContradiction
 intro hno
 have hnd:((AQ (n*n+1)).map fun k=>itS n x k p).Nodup:=by
  refine List.Pairwise.map _ (fun a b (h:a<b) e=> ?_) List.pairwise_lt_range
  have:itS n x (a+(b - a - 1+1)) p=itS n x a p:=by rw [show a+(b - a - 1+1)=b by lia];exact e.symm
  exact hno ⟨_,b2t hn hx hp _ a this⟩
 have:=a3U (m:=pts n) hnd fun q hq=>by
  obtain⟨k,_,rfl⟩:=AZ.mp hq
  exact V3 (b1t hn x hp k)
 rw [a2v,AO,Ax] at this
 lia
theorem Y8.trans{n:Nat}{ms:List Tr}{p q r:Pt}(h:Y8 n ms p q)(g:Y8 n ms q r):Y8 n ms p r:=fun C hC hp=>g C hC (h C hC hp)
theorem Y8.inb{n:Nat}(hn:0<n){ms:List Tr}{p q:Pt}(h:Y8 n ms p q)(hp:S7 n p):S7 n q:=h (S7 n) (fun _ _ x _=>b0R hn x _) hp
theorem b6B{n:Nat}{ms:List Tr}{x:Tr}(hx:x∈ms)(p:Pt):∀k,Y8 n ms (st n x p) (itS n x (k+1) p)
 |0=>Y8.refl _
 |k+1=>(b6B hx p k).step hx
theorem Y8.symm{n:Nat}(hn:0<n){ms:List Tr}(hms:∀x∈ms,x.1∈u4){p q:Pt}(hp:S7 n p)(h:Y8 n ms p q):Y8 n ms q p:=
 (h (fun z=>S7 n z/\Y8 n ms z p) (fun z hz x hx=>⟨b0R hn x z,by
  obtain⟨k,e⟩:=b5s hn (hms x hx) hz.1
  have:=b6B (n:=n) hx z k
  rw [e] at this
  exact this.trans hz.2⟩) ⟨hp,Y8.refl p⟩).2
structure LN(n:Nat)(ms:List Tr)(m:List (List Pt)):Prop where
 lane:∀L∈m,L.length<=64/\∃p,S7 n p/\∀q,q∈L↔Y8 n ms p q
 dis:m.Pairwise fun A B=>∀q,q∈A->q∉B
 nd:∀L∈m,L.Nodup
 so:∀L∈m,L.Pairwise ltP
open Classical in
def a46(n:Nat)(ms:List Tr)(p:Pt):Option (List Pt):=if h:∃L:List Pt,L.length<=64/\(∀q,q∈L↔Y8 n ms p q)/\y6 [.int n,.list (K8 ms),pl p]=some (.own (L.map pl))/\L.Nodup/\L.Pairwise ltP then some (Classical.choose h) else none
theorem a00{n:Nat}{ms:List Tr}{p:Pt}{L:List Pt}(h:a46 n ms p=some L):L.length<=64/\(∀q,q∈L↔Y8 n ms p q)/\y6 [.int n,.list (K8 ms),pl p]=some (.own (L.map pl))/\L.Nodup/\L.Pairwise ltP:=by
 unfold a46 at h
 split at h
 ·rename_i z
  have:=Classical.choose_spec z
  cases h
  exact this
 ·cases h
theorem b4F{n:Nat}(hn:0<n)(hn8:n<=7){ms:List Tr}(hms:∀x∈ms,x.1∈u4){p:Pt}(hp:S7 n p):∃L,a46 n ms p=some L:=by
 have z:=b3d hn hn8 hms hp
 unfold a46
 rw [dif_pos z]
 exact⟨_,rfl⟩
theorem b4v{n:Nat}{ms:List Tr}:Ans n (.list (K8 ms)) (AS "circle_from") (a46 n ms) where
 ex:=⟨y6,List.lookup_cons_self,fun p L h=>(a00 h).2.2.1⟩
 len:=fun p L h=>by have:=(a00 h).1;lia
theorem a9I{n:Nat}(hn:0<n)(hn8:n<=7){ms:List Tr}(hms:∀x∈ms,x.1∈u4):∀(ps:List Pt) (m:List (List Pt)) (K:List Pt),(∀p∈ps,S7 n p)->LN n ms m->(∀q,q∈K↔∃L∈m,q∈L)->∃m' K',a1w (a46 n ms) ps m K=some (m',K')/\LN n ms m'/\(∀q,q∈K'↔∃L∈m',q∈L)/\(∀p∈ps,p∈K')/\(∀q∈K,q∈K')/\m'.length<=m.length+ps.length
 |[],m,K,_,hm,hK=>⟨m,K,rfl,hm,hK,(fun p hp=>nomatch hp),fun _ h=>h,AM _⟩
 |p::ps,m,K,hp,hm,hK=>by
  rw [a1w]
  have hp0:=hp p AX
  by_cases e:p∈K
  ·rw [if_pos e]
   obtain⟨m',K',h1,h2,h3,h4,h5,h6⟩:=a9I hn hn8 hms ps m K (fun q hq=>hp q (Ac _ hq)) hm hK
   refine⟨m',K',h1,h2,h3,fun q hq=> ?_,h5,by rw [AU];lia⟩
   rcases AV.mp hq with rfl|hq
   ·exact h5 _ e
   ·exact h4 q hq
  ·rw [if_neg e]
   obtain⟨L,eL⟩:=b4F hn hn8 hms hp0
   obtain⟨hl,hL,_,hnd,hso⟩:=a00 eL
   rw [eL,AH]
   obtain⟨m',K',h1,h2,h3,h4,h5,h6⟩:=a9I hn hn8 hms ps (m++[L]) (K++L) (fun q hq=>hp q (Ac _ hq))
    ⟨fun A hA=>by
     rcases Ar.mp hA with z|z
     ·exact hm.lane A z
     ·have:A=L:=by simpa using z
      rw [this];exact⟨hl,p,hp0,hL⟩,List.pairwise_append.mpr ⟨hm.dis,List.pairwise_singleton _ _,fun A hA B hB q hq hqB=>by
     have:B=L:=by simpa using hB
     rw [this] at hqB
     obtain⟨_,a,ha,hra⟩:=hm.lane A hA
     exact e ((hK p).mpr ⟨A,hA,(hra p).mpr (((hra q).mp hq).trans (Y8.symm hn hms hp0 ((hL q).mp hqB)))⟩)⟩,fun A hA=>by
     rcases Ar.mp hA with z|z
     ·exact hm.nd A z
     ·have:A=L:=by simpa using z
      rw [this];exact hnd,fun A hA=>by
     rcases Ar.mp hA with z|z
     ·exact hm.so A z
     ·have:A=L:=by simpa using z
      rw [this];exact hso⟩
    (fun q=>by
     rw [Ar,hK]
     constructor
     ·rintro(⟨A,h1,h2⟩|h)
      ·exact⟨A,Ay _ h1,h2⟩
      ·exact⟨L,by simp,h⟩
     ·rintro⟨A,h1,h2⟩
      rcases Ar.mp h1 with z|z
      ·exact .inl ⟨A,z,h2⟩
      ·have:A=L:=by simpa using z
       rw [this] at h2;exact .inr h2)
   rw [Ai,List.length_singleton] at h6
   refine⟨m',K',h1,h2,h3,fun q hq=> ?_,fun q hq=>h5 q (Ay _ hq),by rw [AU];lia⟩
   rcases AV.mp hq with rfl|hq
   ·exact h5 _ (Az _ ((hL _).mpr (Y8.refl _)))
   ·exact h4 q hq
theorem b8e(n:Nat):(pts n).Pairwise ltP:=by
 unfold pts b57 a1J
 rw [List.pairwise_flatMap]
 refine⟨fun r _=> ?_, ?_⟩
 ·refine List.pairwise_map.mpr (List.pairwise_map.mpr (List.pairwise_lt_range.imp fun {a b} h=> .inr ⟨rfl, ?_⟩))
  show(a:Int)<(b:Int)
  lia
 ·refine List.pairwise_map.mpr (List.pairwise_lt_range.imp fun {a b} h p hp q hq=> .inl ?_)
  obtain⟨c,_,rfl⟩:=AZ.mp hp
  obtain⟨d,_,rfl⟩:=AZ.mp hq
  show(a:Int)<(b:Int)
  lia
def RL(A B:List Pt):Prop:=∃a∈A,∀b∈B,ltP a b
theorem c0R{A B:List Pt}(h:RL A B):¬RL B A:=fun⟨b,hb,g⟩=>let ⟨a,ha,f⟩:=h;b5N (f b hb) (g a ha)
theorem a7n{n:Nat}(hn:0<n){ms:List Tr}(hms:∀x∈ms,x.1∈u4):∀(ps:List Pt) (m:List (List Pt)) (K:List Pt) (m':List (List Pt)) (K':List Pt),a1w (a46 n ms) ps m K=some (m',K')->ps.Pairwise ltP->(∀p∈ps,S7 n p)->(∀q,S7 n q->q∈ps\/q∈K)->(∀q∈K,S7 n q/\∀z,Y8 n ms q z->z∈K)->(∀A∈m,∃a∈A,∀p∈ps,ltP a p)->m.Pairwise RL->m'.Pairwise RL
 |[],m,K,m',K',h,_,_,_,_,_,hm=>by cases h;exact hm
 |p::ps,m,K,m',K',h,hs,hb,hc,hK,hf,hm=>by
  obtain⟨hs1,hs2⟩:=List.pairwise_cons.mp hs
  have hp0:=hb p AX
  have hb':∀q∈ps,S7 n q:=fun q hq=>hb q (Ac _ hq)
  rw [a1w] at h
  by_cases e:p∈K
  ·rw [if_pos e] at h
   refine a7n hn hms ps m K m' K' h hs2 hb' (fun q hq=> ?_) hK (fun A hA=> ?_) hm
   ·rcases hc q hq with z|z
    ·rcases AV.mp z with rfl|z
     ·exact .inr e
     ·exact .inl z
    ·exact .inr z
   ·obtain⟨a,ha,g⟩:=hf A hA
    exact⟨a,ha,fun q hq=>g q (Ac _ hq)⟩
  ·rw [if_neg e] at h
   cases eL:a46 n ms p with
   |none=>rw [eL] at h;cases h
   |some L=>
    rw [eL,AH] at h
    obtain⟨_,hL,_⟩:=a00 eL
    have hin:∀b∈L,S7 n b:=fun b hb=>((hL b).mp hb).inb hn hp0
    refine a7n hn hms ps (m++[L]) (K++L) m' K' h hs2 hb' (fun q hq=> ?_) (fun q hq=> ?_) (fun A hA=> ?_) (List.pairwise_append.mpr ⟨hm,List.pairwise_singleton _ _,fun A hA B hB=> ?_⟩)
    ·rcases hc q hq with z|z
     ·rcases AV.mp z with rfl|z
      ·exact .inr (Az _ ((hL _).mpr (Y8.refl _)))
      ·exact .inl z
     ·exact .inr (Ay _ z)
    ·rcases Ar.mp hq with z|z
     ·exact⟨(hK q z).1,fun y hy=>Ay _ ((hK q z).2 y hy)⟩
     ·exact⟨hin q z,fun y hy=>Az _ ((hL y).mpr (((hL q).mp z).trans hy))⟩
    ·rcases Ar.mp hA with z|z
     ·obtain⟨a,ha,g⟩:=hf A z
      exact⟨a,ha,fun q hq=>g q (Ac _ hq)⟩
     ·have:A=L:=by simpa using z
      rw [this]
      exact⟨p,(hL p).mpr (Y8.refl p),hs1⟩
    ·have:B=L:=by simpa using hB
     rw [this]
     obtain⟨a,ha,g⟩:=hf A hA
     refine⟨a,ha,fun b hb=> ?_⟩
     have hap:=g p AX
     rcases hc b (hin b hb) with z|z
     ·rcases AV.mp z with rfl|z
      ·exact hap
      ·exact g b (Ac _ z)
     ·exact absurd ((hK b z).2 p (Y8.symm hn hms hp0 ((hL b).mp hb))) e
theorem b1e{n:Nat}(hn:0<n)(hn8:n<=7){ms:List Tr}(hms:∀x∈ms,x.1∈u4):∃m,LN n ms m/\m.Pairwise RL/\(∀q,S7 n q->∃L∈m,q∈L)/\m.length<=n*n/\a2o [.int n,.list (K8 ms)]=some (.own (A9 m)):=by
 obtain⟨m,K,h1,h2,h3,h4,_,h6⟩:=a9I hn hn8 hms (pts n) [] [] (fun p hp=>b6z hp) ⟨fun L h=>(nomatch h),List.Pairwise.nil,fun L h=>(nomatch h),fun L h=>(nomatch h)⟩ fun q=>⟨fun h=>(nomatch h),fun⟨_,h,_⟩=>(nomatch h)⟩
 have e:=b31 (by lia) (b4v (n:=n) (ms:=ms)) h1
 rw [a2v] at h6
 refine⟨m,h2,a7n hn hms (pts n) [] [] m K h1 (b8e n) (fun p hp=>b6z hp) (fun q hq=> .inl (V3 hq)) (fun q hq=>(nomatch hq)) (fun A hA=>(nomatch hA)) List.Pairwise.nil,fun q hq=>(h3 q).mp (h4 q (V3 hq)),by simpa using h6, ?_⟩
 unfold a2o a72
 simp (disch:=omega) only [l9,d5,f7,d6,d0,c8,j6,m7,a4P,k9,m5,AH,AK,Ae,Af,Aq,e]
theorem b4p{a b:Nat}:S [a]=S [b]↔a=b:=⟨fun h=>(List.cons.inj (b8F h)).1,fun h=>by rw [h]⟩
theorem b0W{i:Nat}{ρ:c7}{p:PV}{x:Str}{D:List (List g0×PV)}(h:ρ[i]?=some (some (.ow (.txt D))))(hl:D.length<16777216):b0V i ρ p x=some (.nx (ρ.set i (some (.ow (.txt (L5 D [.inr x] p)))))):=by
 unfold b0V;rw [h];exact if_pos (by rw [sizeLine_eq];exact hl)
theorem b6U{i:Nat}{ρ:c7}{x:Str}{p:PV}{D:List (List g0×PV)}(h:ρ[i]?=some (some (.ow (.txt D))))(hv:n6 D [.inr x]=some p):b0U i ρ x=some (.val p):=by
 unfold b0U;rw [h];show(n6 D [.inr x]).map d7.val=_;rw [hv];rfl
theorem c1a{l:List Nat}(hl:l.length<=10000):a0d (.val (.str (AS ""))) (.own (l.map fun x=>row [x]))=some (.val (row l)):=by
 have e:AS ""=S []:=by decide+kernel
 have h1:(l.map fun x=>row [x])=(l.map fun x=>[x]).map row:=by rw [As];rfl
 rw [e,h1,a24 (sep:=[]) (rows:=l.map fun x=>[x]) rfl (by
  have:((l.map fun x=>[x]).map (·.length)).sum=l.length:=a7w l fun x=>x
  rw [this];simp;lia),a3H,a1R]
def A7(f:Nat->Nat->Nat)(q:Pt):Nat:=f q.1.toNat q.2.toNat
theorem b0s{n:Nat}(hn:0<n)(hn8:n<=8)(f:Nat->Nat->Nat){L:List Pt}(hl:L.length<=64)(hL:∀q∈L,S7 n q):a06 [l8 n f,.list (L.map pl)]=some (.val (row (L.map (A7 f)))):=by
 have c2:=V9 (ι:=pl) (f:=fun q=>row [A7 f q]) (k:=1) (elt:=a0t) (tg:=g8 2) (it:=V2 (c6 1)) (ρ:=[some (.val (l8 n f)),some (.val (.list (L.map pl)))]) L (a17 (r:= .val (.list (L.map pl))) rfl rfl) (by lia) fun q hq=>⟨_,rfl,by
  obtain⟨a,b,ha,hb,rfl⟩:=b1p (hL q hq)
  have e:=b5A hn (by lia) f (a:Int) (b:Int)
  rw [Int.emod_eq_of_lt (by lia) (by lia),Int.emod_eq_of_lt (by lia) (by lia)] at e
  unfold a0t
  simp (disch:=omega) only [a6p,a6q,j5,l9,d5,f7,d6,d0,c8,j6,AH,Ag,Af,Al,Ah,Aa,Ab,e]
  rfl⟩
 have e2:L.map (fun q=>row [A7 f q])=(L.map (A7 f)).map fun y=>row [y]:=by rw [As];rfl
 rw [e2] at c2
 unfold a06 a6a
 simp (disch:=omega) only [j5,l9,m7,C3,k9,m5,AH,AK,Ae,Af,Aq,AO,c2,c1a (l:=L.map (A7 f)) (by rw [AO];lia)]
theorem b8l{l:List Nat}(hl:l.length<64):∃U:List Nat,U.Nodup/\U.length<=l.length/\(∀x,x∈U↔x∈l)/\a1T (.val (row l))=some (.own (U.map fun x=>row [x])):=by
 have sg:D2 (S l)=l.map fun x=>S [x]:=by
  unfold D2
  rw [a1z];rfl
 have nd:=b0Y (a32 (D2 (S l)))
 have mem:∀z,z∈S1 (D2 (S l))↔∃x∈l,S [x]=z:=fun z=>by rw [a4W,sg,AZ]
 have len:(S1 (D2 (S l))).length<=l.length:=by
  have:=length_le_of_nodup_of_subset (S1 (D2 (S l))) (l.map fun x=>S [x]) nd fun z hz=>by
   obtain⟨x,hx,rfl⟩:=(mem z).mp hz
   exact AZ.mpr ⟨x,hx,rfl⟩
  rwa [AO] at this
 refine⟨(S1 (D2 (S l))).map fun z=>z.cps.toList.headD 0, ?_,by rw [AO];exact len,fun x=> ?_, ?_⟩
 ·refine List.pairwise_map.mpr ?_
  refine nd.imp_of_mem fun {a b} ha hb hne e=>hne ?_
  obtain⟨x,_,rfl⟩:=(mem a).mp ha
  obtain⟨y,_,rfl⟩:=(mem b).mp hb
  rw [a1z,a1z] at e
  have:x=y:=e
  rw [this]
 ·rw [AZ]
  constructor
  ·rintro⟨z,hz,e⟩
   obtain⟨y,hy,rfl⟩:=(mem z).mp hz
   rw [a1z] at e
   have:y=x:=e
   rw [<-this];exact hy
  ·intro hx
   exact⟨S [x],(mem _).mpr ⟨x,hx,rfl⟩,by rw [a1z];rfl⟩
 ·rw [b1m,if_pos ⟨by rw [a41];lia,by lia⟩,As]
  congr 2
  refine List.map_congr_left fun z hz=> ?_
  obtain⟨x,_,rfl⟩:=(mem z).mp hz
  show PyData.str (S [x])=row [(S [x]).cps.toList.headD 0]
  rw [a1z];rfl
def cD(l:List Nat)(U:List Nat):List (List g0×PV):=U.map fun x=>([.inr (S [x])],.int (cnt x l))
theorem a0Z(l:List Nat)(x:Nat):∀U:List Nat,n6 (cD l U) [.inr (S [x])]=if x∈U then some (.int (cnt x l)) else none
 |[]=>rfl
 |a::r=>by
  show n6 (([Sum.inr (S [a])],.int (cnt a l))::cD l r) _=_
  rw [K3]
  by_cases c:a=x
  ·subst c
   rw [if_pos rfl,if_pos AX]
  ·rw [if_neg (by intro h;exact c (b4p.mp (Sum.inr.inj (List.cons.inj h).1))),a0Z l x r]
   by_cases d:x∈r
   ·rw [if_pos d,if_pos (Ac _ d)]
   ·rw [if_neg d,if_neg (by simp [d];exact fun h=>c h.symm)]
theorem b4D{l U:List Nat}{x:Nat}(h:x∉U):L5 (cD l U) [.inr (S [x])] (.int (cnt x l))=cD l (U++[x]):=by
 have e:((cD l U).any fun kv=>decide (kv.1=[.inr (S [x])]))=false:=by rw [a5D,a0Z,if_neg h];rfl
 unfold L5
 rw [e,if_neg (by simp)]
 unfold cD
 rw [BC]
 rfl
theorem b4J(l:List Nat)(x:Nat):a4n (.val (row l)) (.val (row [x]))=some (.val (.int (cnt x l))):=by
 show some (d7.val (.int (Txt.count (S l) (S [x]))))=_
 have:Txt.count (S l) ⟨#[x]⟩=cnt x (S l).cps.toList:=count_is (S l) x
 rw [a1z] at this
 rw [show S [x]=⟨#[x]⟩ from rfl,this]
theorem b0p{c k:Option d7}{l:List Nat}(hk:k=some (.val (row l))):∀(V U:List Nat) (q:Option d7),(U++V).Nodup->U.length+V.length<1000->∃q',B5 t5 (g8 3) (V.map fun x=>row [x]) [c,k,some (.ow (.txt (cD l U))),q]=some (.nx [c,k,some (.ow (.txt (cD l (U++V)))),q'])
 |[],U,q,_,_=>⟨q,by rw [Aq];rfl⟩
 |x::V,U,q,nd,hl=>by
  subst hk
  have nx:x∉U:=fun h=>by
   rw [List.nodup_append] at nd
   exact nd.2.2 x h x AX rfl
  rw [AU] at hl
  obtain⟨q',e⟩:=b0p (c:=c) (k:=some (.val (row l))) (l:=l) rfl V (U++[x]) (some (.val (row [x]))) (by rw [List.append_assoc];exact nd) (by rw [Ai,List.length_singleton];lia)
  refine⟨q', ?_⟩
  have p2:=b0W (i:=2) (ρ:=[c,some (.val (row l)),some (.ow (.txt (cD l U))),some (.val (row [x]))]) (p:= .int (cnt x l)) (x:=S [x]) (D:=cD l U) rfl (by unfold cD;rw [AO];lia)
  rw [b4D nx] at p2
  have hb:t5 [c,some (.val (row l)),some (.ow (.txt (cD l U))),some (.val (row [x]))]=some (.nx [c,some (.val (row l)),some (.ow (.txt (cD l (U++[x])))),some (.val (row [x]))]):=by
   unfold t5
   rw [a8C]
   simp (disch:=omega) only [j5,d5,f7,c8,AH,b4J,b1w]
   exact p2
  rw [AK,B5]
  show(t5 [c,some (.val (row l)),some (.ow (.txt (cD l U))),some (.val (row [x]))]).bind _=_
  rw [hb,AH]
  show B5 t5 _ _ _=_
  rw [e,List.append_assoc]
  rfl
theorem b9F{l:List Nat}(hl:l.length<64):∃U:List Nat,U.Nodup/\U.length<=l.length/\(∀x,x∈U↔x∈l)/\E5 [.tuple [row l]]=some (.ow (.txt (cD l U))):=by
 obtain⟨U,nd,hU,mU,e⟩:=b8l hl
 have e0:AS ""=S []:=by decide+kernel
 have hj:a0d (.val (.str (AS ""))) (.val (.tuple [row l]))=some (.val (row l)):=by
  rw [e0,a24 (sep:=[]) (rows:=[l]) rfl (by simp;lia),a3H]
  simp
 have hc:U8 [.tuple [row l]]=some (.own (U.map fun x=>row [x])):=by
  unfold U8 a3s
  simp (disch:=omega) only [j5,t7,l9,d5,m7,a4P,k9,m5,AH,AK,Ae,Af,Aq,hj,e]
 obtain⟨q',lp⟩:=b0p (c:=some (.val (.tuple [row l]))) (k:=some (.val (row l))) (l:=l) rfl U [] none (by simpa using nd) (by simp;lia)
 rw [Ah,show cD l []=[] from rfl] at lp
 refine⟨U,nd,hU,mU, ?_⟩
 unfold E5 Z6
 simp (disch:=omega) only [j5,l9,d5,d6,d0,c8,Q0,j6,i9,u9,g7,h9,k9,m5,p7,AH,AK,Ae,Ag,Af,Al,Ah,Aa,Ab,P8,x9,a0h,a0i,hj,hc,b0v,a0X,lp]
theorem a93{bt:Nat->Nat->Bool}{K:Nat->Int}(h:∀i j,bt i j=decide (K i>K j)):∀m,argBest bt m<=m/\∀j,j<=m->K j<=K (argBest bt m)
 |0=>⟨AM _,fun j hj=>by
  have:j=0:=by lia
  subst this
  exact Int.le_refl _⟩
 |m+1=>by
  obtain⟨h1,h2⟩:=a93 h m
  have hb:=h (m+1) (argBest bt m)
  simp only [argBest]
  by_cases c:K (m+1)>K (argBest bt m)
  ·rw [hb,decide_eq_true c]
   simp only [if_true]
   refine⟨AM _,fun j hj=> ?_⟩
   rcases Nat.lt_or_ge j (m+1) with hj'|hj'
   ·have:=h2 j (by lia);lia
   ·have:j=m+1:=by lia
    subst this
    exact Int.le_refl _
  ·rw [hb,decide_eq_false c]
   simp only [Av,if_false]
   refine⟨by lia,fun j hj=> ?_⟩
   rcases Nat.lt_or_ge j (m+1) with hj'|hj'
   ·exact h2 j (by lia)
   ·have:j=m+1:=by lia
    subst this
    lia
theorem a78{is:List Int}(h0:0<is.length):a1r is∈is/\∀i∈is,i<=a1r is:=by
 obtain⟨h1,h2⟩:=a93 (bt:=fun i j=>decide (is.getD i 0>is.getD j 0)) (K:=fun i=>is.getD i 0) (fun i j=>rfl) (is.length - 1)
 have hb:argBest (fun i j=>decide (is.getD i 0>is.getD j 0)) (is.length - 1)<is.length:=by lia
 constructor
 ·unfold a1r
  rw [List.getD_eq_getElem?_getD,Aw hb]
  exact List.getElem_mem hb
 ·intro i hi
  obtain⟨j,hj,rfl⟩:=List.getElem_of_mem hi
  have:=h2 j (by lia)
  simp only [List.getD_eq_getElem?_getD,Aw hj] at this
  unfold a1r
  rw [List.getD_eq_getElem?_getD]
  simpa using this
theorem b67(l U:List Nat):b6a (cD l U)=true:=by
 unfold b6a cD
 rw [List.all_eq_true]
 intro e he
 obtain⟨x,_,rfl⟩:=AZ.mp he
 rfl
theorem b13(l:List Nat){U:List Nat}:∀V:List Nat,(∀x∈V,x∈U)->((cD l V).mapM fun e=>n6 (cD l U) e.1)=some (V.map fun x=> .int (cnt x l))
 |[],_=>rfl
 |x::V,h=>by
  show((([Sum.inr (S [x])],.int (cnt x l))::cD l V).mapM fun e=>n6 (cD l U) e.1)=_
  rw [List.mapM_cons,b13 l V fun y hy=>h y (Ac _ hy),a0Z,if_pos (h x AX)]
  rfl
theorem a4s:∀is:List Int,a1Y (is.map .int)=some is
 |[]=>rfl
 |i::is=>by rw [AK,a1Y,a4s is];rfl
theorem a39{l U:List Nat}{M:Int}:∀V:List Nat,(∀x∈V,x∈U)->(((cD l V).filter (qP (cD l U) M)).map fun e=>kPV e.1)=(V.filter fun x=>decide (cnt x l=M)).map fun x=>row [x]
 |[],_=>rfl
 |x::V,h=>by
  have ih:=a39 (l:=l) (U:=U) (M:=M) V fun y hy=>h y (Ac _ hy)
  show(((([Sum.inr (S [x])],PyData.int (cnt x l))::cD l V).filter (qP (cD l U) M)).map fun e=>kPV e.1)=_
  have hq:qP (cD l U) M ([Sum.inr (S [x])],PyData.int (cnt x l))=decide (cnt x l=M):=by
   unfold qP
   simp only [a0Z,if_pos (h x AX)]
  rw [List.filter_cons,List.filter_cons,hq]
  split
  ·rw [AK,AK,ih];rfl
  ·exact ih
theorem b66{l U:List Nat}(nd:U.Nodup)(hU:U.length<64)(h0:0<U.length):∃x∈U,(∀y∈U,cnt y l<=cnt x l)/\(∀y∈U,cnt y l=cnt x l->x<=y)/\∃B7:List PV,O0 [tv (cD l U)]=some (.own (row [x]::B7))/\B7.length<64/\∀p∈B7,∃z:Str,p= .str z:=by
 have tw:∀q:Option d7,tvw 0 [some (.val (tv (cD l U))),q]=some (cD l U):=fun q=>c0F rfl (b67 l U)
 have e1:a5P 0 [some (.val (tv (cD l U))),none]=some (.own ((U.map fun x=>cnt x l).map .int)):=by
  unfold a5P
  rw [tw,AH,if_pos (by rw [sizeLine_eq];unfold cD;rw [AO];lia),b13 l U fun x hx=>hx,As]
  rfl
 obtain⟨b1,b2⟩:=a78 (is:=U.map fun x=>cnt x l) (by rw [AO];exact h0)
 have e2:a8p (.own ((U.map fun x=>cnt x l).map .int))=some (.val (.int (a1r (U.map fun x=>cnt x l)))):=by
  show(a1Y _).bind _=_
  rw [a4s,AH,if_pos (by rw [AO];exact h0)]
 generalize hM:a1r (U.map fun x=>cnt x l)=M at b1 b2 e2
 have e3:a5O 0 1 [some (.val (tv (cD l U))),some (.val (.int M))]=some (.own ((U.filter fun x=>decide (cnt x l=M)).map fun x=>row [x])):=by
  unfold a5O
  rw [tw,AH]
  have ha:b1b (cD l U)=true:=by
   unfold b1b
   rw [List.all_eq_true]
   intro e he
   obtain⟨x,hx,rfl⟩:=AZ.mp he
   simp only [a0Z,if_pos hx]
  show(if _ then _ else _)=_
  rw [if_pos ⟨by rw [sizeLine_eq];unfold cD;rw [AO];lia,ha⟩]
  rw [a39 U fun x hx=>hx]
 obtain⟨x0,hx0,ex0⟩:=AZ.mp b1
 have hf:(U.filter fun x=>decide (cnt x l=M)).length<=U.length:=List.length_filter_le _ _
 have mf:x0∈U.filter fun x=>decide (cnt x l=M):=List.mem_filter.mpr ⟨hx0,decide_eq_true ex0⟩
 generalize hW:(U.filter fun x=>decide (cnt x l=M))=W at e3 hf mf
 have e4:a9d (.own (W.map fun x=>row [x]))=some (.own ((Y6 (W.map fun x=>S [x])).map .str)):=by
  have:C6 (W.map fun x=>row [x])=some (W.map fun x=>S [x]):=by
   have:=a1h (W.map fun x=>S [x])
   rw [As] at this
   exact this
  show(C6 (W.map fun x=>row [x])).bind _=_
  rw [this,AH,if_pos (by rw [AO];lia)]
 have pm:=M7 (W.map fun x=>S [x])
 have ps:=O9 (W.map fun x=>S [x])
 cases hs:Y6 (W.map fun x=>S [x]) with
 |nil=>
  exfalso
  have:=pm.length_eq
  rw [hs,AO] at this
  have:=List.length_pos_of_mem mf
  simp at*
  lia
 |cons z zs=>
  rw [hs] at e4 pm ps
  have hz:z∈W.map fun x=>S [x]:=pm.mem_iff.mp AX
  obtain⟨x,hx,rfl⟩:=AZ.mp hz
  have hxU:=List.mem_filter.mp (hW▸hx)
  refine⟨x,hxU.1,fun y hy=> ?_,fun y hy ey=> ?_,zs.map .str, ?_, ?_,fun p hp=> ?_⟩
  ·rw [of_decide_eq_true hxU.2]
   exact b2 _ (AZ.mpr ⟨y,hy,rfl⟩)
  ·have hyW:y∈W:=hW▸List.mem_filter.mpr ⟨hy,decide_eq_true (ey.trans (of_decide_eq_true hxU.2))⟩
   rcases AV.mp (pm.mem_iff.mpr (AZ.mpr ⟨y,hyW,rfl⟩)) with h|h
   ·rw [b4p.mp h];exact AM _
   ·have:=(List.pairwise_cons.mp ps).1 _ h
    unfold leS at this
    rw [a1z,a1z] at this
    apply Classical.byContradiction
    intro hno
    exact this (List.Lex.rel (by lia))
  ·unfold O0 a1D
   simp (disch:=omega) only [t7,i9,u9,m7,a4P,g7,h9,k9,m5,AH,AK,Ae,Ag,Af,Al,Ah,Aa,Ab,e1,e2,e3,e4]
  ·have:=pm.length_eq
   rw [AU,AO] at this
   rw [AO];lia
  ·obtain⟨s,_,rfl⟩:=AZ.mp hp
   exact⟨s,rfl⟩
theorem b7V{ps:List PV}(h:∀p∈ps,∃z:Str,p= .str z):a7M false (.val .none) (.bo (.lst ps))=some (.val (.bool false)):=by
 have ok:z5 ps 50=true:=a5Q fun p hp=>by
  obtain⟨z,rfl⟩:=h p hp
  rfl
 show gIn false (.val .none) (.bo (.lst ps))=_
 unfold gIn
 show(if n4 PyData.none 50=true/\z5 ps 50=true then _ else none)=_
 rw [if_pos ⟨rfl,ok⟩]
 have:(ps.any fun q=>PyData.eqv q (d7.val PyData.none).rd)=false:=by
  rw [List.any_eq_false]
  intro p hp
  obtain⟨z,rfl⟩:=h p hp
  simp [PyData.eqv,d7.rd]
 show some (d7.val (.bool (if false=true then !_ else(ps.any fun q=>PyData.eqv q (d7.val PyData.none).rd))))=_
 rw [this]
 rfl
theorem b3c{l U:List Nat}(nd:U.Nodup)(hU:U.length<64)(h0:0<U.length):∃x∈U,(∀y∈U,cnt y l<=cnt x l)/\(∀y∈U,cnt y l=cnt x l->x<=y)/\A5 [tv (cD l U),.none]=some (.val (row [x])):=by
 obtain⟨x,hx,hm,hle,B7,e,hr,hs⟩:=b66 (l:=l) nd hU h0
 refine⟨x,hx,hm,hle, ?_⟩
 have ni:=b7V (ps:=row [x]::B7) fun p hp=>by
  rcases AV.mp hp with rfl|hp
  ·exact⟨_,rfl⟩
  ·exact hs p hp
 have ix:z9 (.bo (.lst (row [x]::B7))) (.val (.int 0))=some (.val (row [x])):=a5H (p:=row [x]) (by rw [a0Y (Int.le_refl 0)];rfl)
 unfold A5 a1n
 simp (disch:=omega) only [j5,l9,d5,A0,f7,d6,d0,c8,j6,i9,P5,m7,C3,g7,h9,m9,R4,t6,k9,m5,n0,v3,AH,AK,Ae,Ag,Af,Al,Ah,Aa,Ab,e,ni,ix]
theorem b5X{n:Nat}(hn:0<n)(hn8:n<=8)(f:Nat->Nat->Nat){L:List Pt}(hl:L.length<64)(h0:0<L.length)(hL:∀q∈L,S7 n q):∃x∈L.map (A7 f),(∀y,cnt y (L.map (A7 f))<=cnt x (L.map (A7 f)))/\(∀y∈L.map (A7 f),cnt y (L.map (A7 f))=cnt x (L.map (A7 f))->x<=y)/\
 D3 [l8 n f,.list (L.map pl),.none]=some (.val (.tuple [.list (L.map pl),row [x],.int (cnt x (L.map (A7 f)))])):=by
 have ka:=b0s hn hn8 f (by lia) hL
 obtain⟨U,nd,hU,mU,ek⟩:=b9F (l:=L.map (A7 f)) (by rw [AO];exact hl)
 rw [AO] at hU
 have hp:0<U.length:=by
  cases L with
  |nil=>simp at h0
  |cons a r=>exact List.length_pos_of_mem ((mU (A7 f a)).mpr (AZ.mpr ⟨a,AX,rfl⟩))
 obtain⟨x,hx,hm,hle,ec⟩:=b3c (l:=L.map (A7 f)) nd (by lia) hp
 refine⟨x,(mU x).mp hx,fun y=> ?_,fun y hy=>hle y ((mU y).mpr hy), ?_⟩
 ·by_cases hy:y∈U
  ·exact hm y hy
  ·rw [cnt_none y _ fun h=>hy ((mU y).mpr h)]
   have pos:∀l:List Nat,0<=cnt x l:=fun l=>by
    induction l with
    |nil=>exact Int.le_refl _
    |cons a r ih=>rw [cnt_cons];split<;>lia
   exact pos _
 ·have tf:a5N A5 3 (c6 2) [some (.val (l8 n f)),some (.val (.list (L.map pl))),some (.val .none),some (.ow (.txt (cD (L.map (A7 f)) U))),none]=some (.val (row [x])):=by
   unfold a5N
   show(A5 [tv (cD (L.map (A7 f)) U),.none]).bind _=_
   rw [ec]
   rfl
  have tg:b2y 3 (c6 4) [some (.val (l8 n f)),some (.val (.list (L.map pl))),some (.val .none),some (.ow (.txt (cD (L.map (A7 f)) U))),some (.val (row [x]))]=some (.val (.int (cnt x (L.map (A7 f))))):=by
   rw [b3O]
   simp (disch:=omega) only [d5,f7,AH,b1w]
   rw [b6U (D:=cD (L.map (A7 f)) U) (p:= .int (cnt x (L.map (A7 f)))) rfl (by rw [a0Z,if_pos hx])]
  unfold D3 a1p
  simp (disch:=omega) only [d5,f7,d6,d0,c8,D5,j6,i9,u9,m7,C3,g7,h9,k9,m5,AH,AK,Ae,Ag,Af,Al,Ah,Aa,Ab,AU,Ap,↓reduceIte,sz,Nat.reduceAdd,Au,ka,ek,a0X,tf,tg]
theorem b5B{p q:Pt}(e:kp p=kp q):p=q:=by
 injection e with e1 e2
 injection e2 with e2 _
 exact Prod.ext (Sum.inl.inj e1) (Sum.inl.inj e2)
theorem a5V(n:Nat):P9 0 (n:Int)=(AQ n).map fun(c:Nat)=>PyData.int (c:Int):=by
 unfold P9
 simp
theorem b8i{n:Nat}(hn8:n<=8){D:List (List g0×PV)}{col:Pt->Nat}{r:Nat}(h:∀c:Nat,c<n->n6 D (kp ((r:Int),(c:Int)))=some (row [col ((r:Int),(c:Int))])):O1 [.int n,dv D,.int (r:Int)]=some (.val (row ((AQ n).map fun(c:Nat)=>col ((r:Int),(c:Int))))):=by
 have e:O4 1 (B0 (c5 (c6 0) e9)) (g8 3) U1 E6 [some (.val (.int n)),some (.val (dv D)),some (.val (.int (r:Int)))]=some (.own ((AQ n).map fun(c:Nat)=>row [col ((r:Int),(c:Int))])):=by
  have:=V1 (k:=1) (it:=B0 (c5 (c6 0) e9)) (c:=U1) (elt:=E6) (tg:=g8 3) (ρ:=[some (.val (.int n)),some (.val (dv D)),some (.val (.int (r:Int)))]) (ι:=fun(c:Nat)=>PyData.int (c:Int)) (f:=fun(c:Nat)=>row [col ((r:Int),(c:Int))]) (q:=fun _=>true) (AQ n) (by simp (disch:=omega) only [d5,d6,d0,c8,y9,K2,AH];exact congrArg some (a5V n)) (by rw [Ax];lia)
   (fun c hc=>⟨[some (.val (.int n)),some (.val (dv D)),some (.val (.int (r:Int))),some (.val (.int (c:Int)))],rfl,rfl,fun _=>by
    have hd:dvw 1 [some (.val (.int n)),some (.val (dv D)),some (.val (.int (r:Int))),some (.val (.int (c:Int)))]=some D:=b9m rfl
    have hv:=h c (List.mem_range.mp hc)
    unfold E6 b1B
    simp (disch:=omega) only [d5,f7,d6,d0,c8,AH,BE,AU,Ap,↓reduceIte,sz,Nat.reduceAdd,Au,b5z,hd,hv]⟩)
  rw [List.filter_eq_self.mpr (fun _ _=>rfl)] at this
  exact this
 have hj:=a6r (k:=n) (by lia) fun c=>col ((r:Int),(c:Int))
 unfold O1 a1E
 simp (disch:=omega) only [j5,l9,m7,k9,AH,AK,Ae,Af,Aq,e]
 rw [show(AS "")=S [] from rfl,hj]
 rfl
theorem a97{n:Nat}(hn8:n<=8){D:List (List g0×PV)}{col:Pt->Nat}(h:∀q,S7 n q->n6 D (kp q)=some (row [col q])):P7 [.int n,dv D]=some (.val (l8 n fun r c=>col ((r:Int),(c:Int)))):=by
 have e:O4 1 (B0 (c5 (c6 0) e9)) (g8 2) U1 Q8 [some (.val (.int n)),some (.val (dv D))]=some (.own ((AQ n).map fun(r:Nat)=>row ((AQ n).map fun(c:Nat)=>col ((r:Int),(c:Int))))):=by
  have:=V1 (k:=1) (it:=B0 (c5 (c6 0) e9)) (c:=U1) (elt:=Q8) (tg:=g8 2) (ρ:=[some (.val (.int n)),some (.val (dv D))]) (ι:=fun(c:Nat)=>PyData.int (c:Int)) (f:=fun(r:Nat)=>row ((AQ n).map fun(c:Nat)=>col ((r:Int),(c:Int)))) (q:=fun _=>true) (AQ n) (by simp (disch:=omega) only [d5,d6,d0,c8,y9,K2,AH];exact congrArg some (a5V n)) (by rw [Ax];lia)
   (fun r hr=>⟨[some (.val (.int n)),some (.val (dv D)),some (.val (.int (r:Int)))],rfl,rfl,fun _=>by
    have hr:=List.mem_range.mp hr
    have hc:=b8i hn8 (D:=D) (col:=col) (r:=r) fun c hc=>h _ ⟨⟨by show(0:Int)<=r;lia,by show(r:Int)<n;lia⟩,by show(0:Int)<=c;lia,by show(c:Int)<n;lia⟩
    unfold Q8
    simp (disch:=omega) only [d5,f7,d6,d0,c8,j6,AH,hc]⟩)
  rw [List.filter_eq_self.mpr (fun _ _=>rfl)] at this
  exact this
 unfold P7 a59
 simp (disch:=omega) only [t7,m7,C3,k9,m5,AH,AK,Ae,Af,Aq,a6s,e]
 unfold l8 a6d
 rw [As]
 rfl
theorem b2B:∀ls:List (List Nat),ndL (ls.map row)=true
 |[]=>rfl
 |l::ls=>by
  rw [AK,ndL,b2B ls]
  rfl
theorem b7T(n:Nat)(f:Nat->Nat->Nat):(d7.val (l8 n f)).noD=true:=by
 show nd (.tuple _)=true
 rw [nd,b2B]
abbrev Rec:=List Pt×Nat×Int
def mr(t:Rec):PV:= .tuple [.list (t.1.map pl),row [t.2.1],.int t.2.2]
theorem a8h{q0 q1:Option d7}{t:Rec}:∀(L:List Pt) (D:List (List g0×PV)) (q4:Option d7),D.length+L.length<=1000000->∃D' q4',(∀q,n6 D' (kp q)=if q∈L then some (row [t.2.1]) else n6 D (kp q))/\D'.length<=D.length+L.length/\
 B5 v8 (g8 4) (L.map pl) [q0,q1,some (.ow (.dct D)),some (.val (mr t)),q4]=some (.nx [q0,q1,some (.ow (.dct D')),some (.val (mr t)),q4'])
 |[],D,q4,_=>⟨D,q4,fun q=>by simp,AM _,rfl⟩
 |p::L,D,q4,hl=>by
  have hp:=a0O D (kp p) (row [t.2.1])
  rw [AU] at hl
  obtain⟨D',q4',h1,h2,h3⟩:=a8h (q0:=q0) (q1:=q1) (t:=t) L (L5 D (kp p) (row [t.2.1])) (some (.val (pl p))) (by lia)
  refine⟨D',q4',fun q=> ?_,by rw [AU];lia, ?_⟩
  ·rw [h1 q,a7A]
   by_cases e:q∈L
   ·rw [if_pos e,if_pos (Ac _ e)]
   ·rw [if_neg e]
    by_cases e2:p=q
    ·rw [if_pos (by rw [e2]),if_pos (by rw [e2];exact AX)]
    ·rw [if_neg (fun z=>e2 (b5B z)),if_neg (fun z=>by
      rcases AV.mp z with z|z
      ·exact e2 z.symm
      ·exact e z)]
  ·have ix:z9 (.val (mr t)) (.val (.int 1))=some (.val (row [t.2.1])):=rfl
   have hb:v8 [q0,q1,some (.ow (.dct D)),some (.val (mr t)),some (.val (pl p))]=some (.nx [q0,q1,some (.ow (.dct (L5 D (kp p) (row [t.2.1])))),some (.val (mr t)),some (.val (pl p))]):=by
    unfold v8
    simp (disch:=omega) only [j5,l9,d5,f7,c8,AH,N3,L8,ix]
    rw [a0z rfl (by lia)]
    rfl
   rw [AK,B5]
   show(v8 [q0,q1,some (.ow (.dct D)),some (.val (mr t)),some (.val (pl p))]).bind _=_
   rw [hb,AH]
   exact h3
theorem a62{q0 q1:Option d7}{col:Pt->Nat}:∀(T:List Rec) (D:List (List g0×PV)) (q3 q4:Option d7),(∀t∈T,∀q∈t.1,col q=t.2.1)->(∀t∈T,t.1.length<=64)->D.length+64*T.length<=100000->∃D' q3' q4',(∀q,(∃t∈T,q∈t.1)\/n6 D (kp q)=some (row [col q])->n6 D' (kp q)=some (row [col q]))/\
 B5 v9 (g8 3) (T.map mr) [q0,q1,some (.ow (.dct D)),q3,q4]=some (.nx [q0,q1,some (.ow (.dct D')),q3',q4'])
 |[],D,q3,q4,_,_,_=>⟨D,q3,q4,fun q h=>h.elim (fun⟨t,ht,_⟩=>nomatch ht) id,rfl⟩
 |t::T,D,q3,q4,hc,hs,hl=>by
  have hs1:=hs t AX
  rw [AU] at hl
  obtain⟨D1,q41,a1,a2,a3⟩:=a8h (q0:=q0) (q1:=q1) (t:=t) t.1 D q4 (by lia)
  obtain⟨D',q3',q4',b1,b2⟩:=a62 (q0:=q0) (q1:=q1) (col:=col) T D1 (some (.val (mr t))) q41 (fun t' ht'=>hc t' (Ac _ ht')) (fun t' ht'=>hs t' (Ac _ ht')) (by lia)
  refine⟨D',q3',q4',fun q h=>b1 q ?_, ?_⟩
  ·by_cases hq:q∈t.1
   ·right
    rw [a1 q,if_pos hq,hc t AX q hq]
   ·rcases h with⟨t',ht',h⟩|h
    ·rcases AV.mp ht' with rfl|ht'
     ·exact absurd h hq
     ·exact .inl ⟨t',ht',h⟩
    ·right
     rw [a1 q,if_neg hq];exact h
  ·have ix:z9 (.val (mr t)) (.val (.int 0))=some (.val (.list (t.1.map pl))):=rfl
   have hit:PyData.items? (.list (t.1.map pl))=some (t.1.map pl):=rfl
   have hb:v9 [q0,q1,some (.ow (.dct D)),some (.val (mr t)),q4]=some (.nx [q0,q1,some (.ow (.dct D1)),some (.val (mr t)),q41]):=by
    unfold v9
    simp (disch:=omega) only [j5,l9,d5,f7,c8,p7,AH,x9,ix,hit,a3]
   rw [AK,B5]
   show(v9 [q0,q1,some (.ow (.dct D)),some (.val (mr t)),q4]).bind _=_
   rw [hb,AH]
   exact b2
theorem b6i{n:Nat}(hn8:n<=8){col:Pt->Nat}{T:List Rec}(hc:∀t∈T,∀q∈t.1,col q=t.2.1)(hs:∀t∈T,t.1.length<=64)(hT:T.length<=64)(all:∀q,S7 n q->∃t∈T,q∈t.1):
 E4 [.int n,.list (T.map mr)]=some (.val (l8 n fun r c=>col ((r:Int),(c:Int)))):=by
 obtain⟨D',q3,q4,h1,h2⟩:=a62 (q0:=some (.val (.int n))) (q1:=some (.val (.list (T.map mr)))) (col:=col) T [] none none hc hs (by simp;lia)
 have hcol:=a97 (n:=n) hn8 (D:=D') (col:=col) fun q hq=>h1 q (.inl (all q hq))
 have hcd:a5M P7 2 (c6 0) [some (.val (.int n)),some (.val (.list (T.map mr))),some (.ow (.dct D')),q3,q4]=some (.val (l8 n fun r c=>col ((r:Int),(c:Int)))):=by
  unfold a5M
  show(P7 [.int n,dv D']).bind _=_
  rw [hcol]
  show(if _ then _ else _)=_
  rw [if_pos (b7T _ _)]
 unfold E4 Z5
 simp (disch:=omega) only [d5,f7,c8,i9,m7,C3,g7,h9,k9,m5,p7,AH,AK,Ae,Ag,Af,Al,Ah,Aa,Ab,P8,x9,a2s,a0X,h2,hcd]
def uf(n:Nat)(f g:Nat->Nat->Nat)(k:Nat):Option PV:=if f (k / n) (k % n)=g (k / n) (k % n) then none else some (.tuple [.int ((k / n:Nat):Int),.int ((k % n:Nat):Int)])
def Uk(n:Nat)(f g:Nat->Nat->Nat)(k:Nat):List PV:=(AQ k).filterMap (uf n f g)
theorem b61(n:Nat)(f g:Nat->Nat->Nat)(k:Nat):Uk n f g (k+1)=Uk n f g k++(uf n f g k).toList:=by
 unfold Uk
 rw [List.range_succ,List.filterMap_append]
 congr 1
theorem b4r(n:Nat)(f g:Nat->Nat->Nat)(k:Nat):(Uk n f g k).length<=k:=by
 have:=List.length_filterMap_le (uf n f g) (AQ k)
 rw [Ax] at this
 exact this
theorem b85{n:Nat}{f g:Nat->Nat->Nat}{k:Nat}{p:PV}(h:p∈Uk n f g k):∃a b:Nat,p= .tuple [.int (a:Int),.int (b:Int)]:=by
 obtain⟨j,_,e⟩:=List.mem_filterMap.mp h
 unfold uf at e
 split at e
 ·cases e
 ·cases e;exact⟨_,_,rfl⟩
theorem a92(a b:Nat):([a]==[b])=decide (a=b):=by
 rw [Bool.eq_iff_iff,beq_iff_eq,decide_eq_true_eq]
 simp
theorem b4z{n:Nat}{f g:Nat->Nat->Nat}{k r c:Nat}(hr:k / n=r)(hc:k % n=c)(hk:k<100){ma mb:M}{i:Nat}{mp:M}{ρ:c7}(h1:ma ρ=some (.val (row [f r c])))(h2:mb ρ=some (.val (row [g r c])))(h3:ρ[i]?=some (some (.own (Uk n f g k))))(h4:mp ρ=some (.val (.tuple [.int (r:Int),.int (c:Int)]))):
 ∃ρ2:c7,T0 (mtB (m2 gNe ma mb)) (E7 i mp) D4 ρ=some (.nx ρ2)/\ρ2=ρ.set i (some (.own (Uk n f g (k+1)))):=by
 have hl:=b4r n f g k
 rw [m9,n0,j5,h1,AH,h2,AH,b2o,a92,AH]
 rw [b61]
 unfold uf
 rw [hr,hc]
 by_cases e:f r c=g r c
 ·refine⟨ρ, ?_, ?_⟩
  ·rw [decide_eq_true e];rfl
  ·rw [if_pos e]
   show ρ=ρ.set i (some (.own (Uk n f g k++[])))
   rw [Aq]
   obtain⟨hi,e2⟩:=Am.mp h3
   rw [<-e2,List.set_getElem_self]
 ·refine⟨_, ?_,rfl⟩
  rw [decide_eq_false e,if_neg e]
  show E7 i mp ρ=_
  rw [C8 h4 rfl h3 (by lia)]
  rfl
theorem b4Q{n r c:Nat}(hc:c<n):(r*n+c)/ n=r/\(r*n+c) % n=c:=by
 have hn:0<n:=by lia
 constructor
 ·rw [Nat.add_comm,Nat.add_mul_div_right _ _ hn,Nat.div_eq_of_lt hc,Nat.zero_add]
 ·rw [Nat.add_comm,Nat.add_mul_mod_self_right,Nat.mod_eq_of_lt hc]
theorem c1e{n r c:Nat}(hn8:n<=8)(hr:r<n)(hc:c<n):r*n+c<100:=by
 have:r*n<=7*8:=Nat.mul_le_mul (by lia) (by lia)
 lia
theorem size_eq{n:Nat}(hn:0<n)(hn8:n<=8)(f:Nat->Nat->Nat):a0G [l8 n f]=some (.val (.tuple [.int n,.int n])):=by
 unfold a0G a77
 have e:J0 (.val (row ((AQ n).map fun c=>f 0 c)))=some (.val (.int n)):=by
  show(if(S ((AQ n).map fun c=>f 0 c)).length<=AL then some (d7.val (.int (S ((AQ n).map fun c=>f 0 c)).length)) else none)=_
  rw [if_pos (by rw [a41,sizeLine_eq];simp;lia),a41]
  simp
 simp (disch:=omega) only [j5,t7,l9,d5,d6,d0,c8,D5,m7,C3,k9,m5,AH,AK,Ae,Af,Aq,AU,Ap,↓reduceIte,sz,Nat.reduceAdd,Au,Int.reduceToNat,a0y,a2m (n:=n) (f:=f) (i:=0) (by lia) (by lia),e]
theorem b4e{n:Nat}(hn:0<n)(hn8:n<=8)(f g:Nat->Nat->Nat):a3G [l8 n f,l8 n g]=some (.own (Uk n f g (n*n))):=by
 have inner:∀(r:Nat),r<n->∀(q5 q6:Option d7),∃q5' q6':Option d7,B5 a1Z (a2k [5,6]) (M9 (((AQ n).map fun c=>f r c).map fun c=> .str (S [c]))) [some (.val (l8 n f)),some (.val (l8 n g)),some (.own (Uk n f g (r*n))),some (.val (.int (r:Int))),some (.val (row ((AQ n).map fun c=>f r c))),q5,q6]
  =some (.nx [some (.val (l8 n f)),some (.val (l8 n g)),some (.own (Uk n f g (r*n+n))),some (.val (.int (r:Int))),some (.val (row ((AQ n).map fun c=>f r c))),q5',q6']):=fun r hr q5 q6=>by
  obtain⟨ρ,e,a,b,rfl⟩:=B8 (body:=a1Z) (tg:=a2k [5,6]) (fun j ρ=>∃q5 q6:Option d7,ρ=[some (.val (l8 n f)),some (.val (l8 n g)),some (.own (Uk n f g (r*n+j))),some (.val (.int (r:Int))),some (.val (row ((AQ n).map fun c=>f r c))),q5,q6])
   (ps:=M9 (((AQ n).map fun c=>f r c).map fun c=> .str (S [c]))) (ρ:=[some (.val (l8 n f)),some (.val (l8 n g)),some (.own (Uk n f g (r*n))),some (.val (.int (r:Int))),some (.val (row ((AQ n).map fun c=>f r c))),q5,q6])
   (by
    rintro j p hp ρ ⟨q5,q6,rfl⟩
    rw [a4i,Ak,Ak] at hp
    have hj:j<n:=by
     cases h:(AQ n)[j]? with
     |none=>rw [h] at hp;cases hp
     |some z=>have:=(Am.mp h).1;simpa using this
    rw [List.getElem?_range hj] at hp
    cases hp
    obtain⟨d1,d2⟩:=b4Q (n:=n) (r:=r) hj
    obtain⟨ρ2,e,rfl⟩:=b4z (f:=f) (g:=g) d1 d2 (c1e hn8 hr hj) (ma:=c6 6) (mb:=m2 z9 (m2 z9 (c6 1) (c6 3)) (c6 5)) (i:=2) (mp:=a0J (c5 (c6 3) (c5 (c6 5) e9)))
     (ρ:=[some (.val (l8 n f)),some (.val (l8 n g)),some (.own (Uk n f g (r*n+j))),some (.val (.int (r:Int))),some (.val (row ((AQ n).map fun c=>f r c))),some (.val (.int (j:Int))),some (.val (row [f r j]))]) rfl
     (by simp (disch:=omega) only [j5,d5,f7,AH,a2m (n:=n) (f:=g) (i:=((r:Nat):Int)) (by lia) (by lia),a7b (n:=n) (g:=fun c=>g r c) (j:=((j:Nat):Int)) (by lia) (by lia) (by lia),tn]) rfl (by simp (disch:=omega) only [d5,f7,d6,d0,c8,D5,AH,AU,Ap,↓reduceIte,sz,Nat.reduceAdd,Au])
    exact⟨_,_,rfl,.inl e,some (.val (.int (j:Int))),some (.val (row [f r j])),rfl⟩) ⟨q5,q6,rfl⟩
  rw [a4j,AO,AO,Ax] at e
  exact⟨a,b,e⟩
 obtain⟨ρ,e,a3,a4,a5,a6,rfl⟩:=B8 (body:=a13) (tg:=a2k [3,4]) (fun i ρ=>∃q3 q4 q5 q6:Option d7,ρ=[some (.val (l8 n f)),some (.val (l8 n g)),some (.own (Uk n f g (i*n))),q3,q4,q5,q6])
  (ps:=M9 (((AQ n).map fun r=>(AQ n).map fun c=>f r c).map row)) (ρ:=[some (.val (l8 n f)),some (.val (l8 n g)),some (.own []),none,none,none,none])
  (by
   rintro i p hp ρ ⟨q3,q4,q5,q6,rfl⟩
   rw [a4i,Ak,Ak] at hp
   have hi:i<n:=by
    cases h:(AQ n)[i]? with
    |none=>rw [h] at hp;cases hp
    |some z=>have:=(Am.mp h).1;simpa using this
   rw [List.getElem?_range hi] at hp
   cases hp
   obtain⟨b5,b6,e⟩:=inner i hi q5 q6
   have em:b0u (c5 (c6 4) e9) [some (.val (l8 n f)),some (.val (l8 n g)),some (.own (Uk n f g (i*n))),some (.val (.int (i:Int))),some (.val (row ((AQ n).map fun c=>f i c))),q5,q6]=some (M9 (((AQ n).map fun c=>f i c).map fun c=> .str (S [c]))):=rfl
   refine⟨[some (.val (l8 n f)),some (.val (l8 n g)),some (.own (Uk n f g (i*n))),some (.val (.int (i:Int))),some (.val (row ((AQ n).map fun c=>f i c))),q5,q6],_,rfl,.inl ?_,some (.val (.int (i:Int))),some (.val (row ((AQ n).map fun c=>f i c))),b5,b6,rfl⟩
   unfold a13
   simp (disch:=omega) only [p7,AH,em,e]
   rw [Nat.add_mul,Nat.one_mul]) ⟨none,none,none,none,by rw [Nat.zero_mul];rfl⟩
 rw [a4j,AO,AO,Ax] at e
 have em:b0u (c5 (c6 0) e9) [some (.val (l8 n f)),some (.val (l8 n g)),some (.own []),none,none,none,none]=some (M9 (((AQ n).map fun r=>(AQ n).map fun c=>f r c).map row)):=rfl
 unfold a3G a90
 have hne:gNe (.val (.tuple [.int n,.int n])) (.val (.tuple [.int n,.int n]))=some (.val (.bool false)):=a1S (by rfl)
 simp (disch:=omega) only [j5,d5,f7,d6,d0,c8,L4,j6,i9,P5,g7,h9,m9,R4,t6,k9,m5,n0,v3,p7,AH,AK,Ae,Ag,Af,Al,Ah,Aa,Ab,Ap,↓reduceIte,a0h,a0i,sz,Au,size_eq hn hn8,hne,em,e]
theorem LN.len{n:Nat}(hn:0<n){ms:List Tr}(hms:∀x∈ms,x.1∈u4){m:List (List Pt)}(h:LN n ms m){L:List Pt}(hL:L∈m):L.length<=n*n/\(∀q∈L,S7 n q)/\0<L.length:=by
 obtain⟨_,p,hp,hr⟩:=h.lane L hL
 have hin:∀q∈L,S7 n q:=fun q hq=>((hr q).mp hq).inb hn hp
 refine⟨?_,hin,List.length_pos_of_mem ((hr p).mpr (Y8.refl p))⟩
 rw [<-a2v n]
 exact a3U (h.nd L hL) fun q hq=>V3 (hin q hq)
theorem b3E{m:List (List Pt)}(h:m.Pairwise fun A B=>∀q,q∈A->q∉B){A B:List Pt}(hA:A∈m)(hB:B∈m){q:Pt}(qA:q∈A)(qB:q∈B):A=B:=by
 induction m with
 |nil=>cases hA
 |cons C m ih=>
  obtain⟨h1,h2⟩:=List.pairwise_cons.mp h
  rcases AV.mp hA with eA|hA
  ·rcases AV.mp hB with eB|hB
   ·rw [eA,eB]
   ·exact absurd qB (h1 B hB q (eA▸qA))
  ·rcases AV.mp hB with eB|hB
   ·exact absurd qA (h1 A hA q (eB▸qB))
   ·exact ih h2 hA hB
def O6(f:Nat->Nat->Nat)(bx:List Pt->Nat)(L:List Pt):Rec:=(L,bx L,cnt (bx L) (L.map (A7 f)))
def Bst(f:Nat->Nat->Nat)(L:List Pt)(x:Nat):Prop:=x∈L.map (A7 f)/\(∀y,cnt y (L.map (A7 f))<=cnt x (L.map (A7 f)))/\∀y∈L.map (A7 f),cnt y (L.map (A7 f))=cnt x (L.map (A7 f))->x<=y
theorem Bst.uniq{f:Nat->Nat->Nat}{L:List Pt}{x y:Nat}(h:Bst f L x)(g:Bst f L y):x=y:=by
 have e:cnt x (L.map (A7 f))=cnt y (L.map (A7 f)):=Int.le_antisymm (g.2.1 x) (h.2.1 y)
 exact Nat.le_antisymm (h.2.2 y g.1 e.symm) (g.2.2 x h.1 e)
theorem b3P{n:Nat}(hn:0<n)(hn7:n<=7){ms:List Tr}(hms:∀x∈ms,x.1∈u4)(f:Nat->Nat->Nat):∃(m:List (List Pt)) (bx:List Pt->Nat) (col:Pt->Nat),LN n ms m/\(∀q,S7 n q->∃L∈m,q∈L)/\m.length<=n*n/\
 m.Pairwise RL/\(∀L∈m,Bst f L (bx L)/\∀q∈L,col q=bx L)/\
 R3 [l8 n f,.list (K8 ms)]=some (.val (.tuple [l8 n fun r c=>col ((r:Int),(c:Int)),.list (Uk n f (fun r c=>col ((r:Int),(c:Int))) (n*n)),.list ((m.map (O6 f bx)).map mr)])):=by
 have hnn:n*n<=7*7:=Nat.mul_le_mul hn7 hn7
 obtain⟨m,hm,hRL,hc,hl,ec⟩:=b1e hn hn7 hms
 have ex:∀L:List Pt,∃x:Nat,L∈m->Bst f L x/\D3 [l8 n f,.list (L.map pl),.none]=some (.val (mr (L,x,cnt x (L.map (A7 f))))):=fun L=>by
  by_cases hL:L∈m
  ·obtain⟨h1,h2,h3⟩:=hm.len hn hms hL
   obtain⟨x,hx0,hx,hle,e⟩:=b5X hn (by lia:n<=8) f (by lia) h3 h2
   exact⟨x,fun _=>⟨⟨hx0,hx,hle⟩,e⟩⟩
  ·exact⟨0,fun z=>absurd z hL⟩
 obtain⟨bx,hbx⟩:=Classical.skolem.mp ex
 have exc:∀q:Pt,∃x:Nat,∀L∈m,q∈L->x=bx L:=fun q=>by
  by_cases h:∃L∈m,q∈L
  ·obtain⟨L,hL,hq⟩:=h
   exact⟨bx L,fun L' hL' hq'=>by rw [b3E hm.dis hL hL' hq hq']⟩
  ·exact⟨0,fun L hL hq=>absurd ⟨L,hL,hq⟩ h⟩
 obtain⟨col,hcol⟩:=Classical.skolem.mp exc
 refine⟨m,bx,col,hm,hc,hl,hRL,fun L hL=>⟨(hbx L hL).1,fun q hq=>hcol q L hL hq⟩, ?_⟩
 have cm:=V9 (ι:=fun L:List Pt=> .list (L.map pl)) (f:=fun L=>mr (O6 f bx L)) (k:=1) (elt:=a15) (tg:=g8 3) (it:=V2 (c6 2)) (ρ:=[some (.val (l8 n f)),some (.val (.list (K8 ms))),some (.own (A9 m))]) m (a17 (r:= .bo (.lst (A9 m))) rfl rfl) (by lia) fun L hL=>⟨_,rfl,by
  unfold a15
  simp (disch:=omega) only [l9,d5,f7,d6,d0,c8,j6,AH,Ag,Af,Al,Ah,Aa,Ab,(hbx L hL).2]
  rfl⟩
 have e2:m.map (fun L=>mr (O6 f bx L))=(m.map (O6 f bx)).map mr:=by rw [As];rfl
 rw [e2] at cm
 have pe:=b6i (n:=n) (by lia) (col:=col) (T:=m.map (O6 f bx)) (fun t ht q hq=>by
  obtain⟨L,hL,rfl⟩:=AZ.mp ht
  exact hcol q L hL hq) (fun t ht=>by
  obtain⟨L,hL,rfl⟩:=AZ.mp ht
  exact(hm.lane L hL).1) (by rw [AO];lia) fun q hq=>by
  obtain⟨L,hL,h⟩:=hc q hq
  exact⟨_,AZ.mpr ⟨L,hL,rfl⟩,h⟩
 have un:=b4e hn (by lia:n<=8) f fun r c=>col ((r:Int),(c:Int))
 have to:L7 [l8 n f,.list ((m.map (O6 f bx)).map mr)]=some (.val (.tuple [l8 n fun r c=>col ((r:Int),(c:Int)),.list (Uk n f (fun r c=>col ((r:Int),(c:Int))) (n*n)),.list ((m.map (O6 f bx)).map mr)])):=by
  unfold L7 a1q
  simp (disch:=omega) only [t7,d5,f7,d6,d0,c8,Q0,D5,j6,i9,u9,m7,C3,g7,h9,k9,m5,AH,AK,Ae,Ag,Af,Al,Ah,Aa,Ab,AU,Ap,↓reduceIte,sz,Nat.reduceAdd,Au,a0y,pe,un]
 unfold R3 a9Y
 simp (disch:=omega) only [t7,d5,f7,d6,d0,c8,Q0,j6,i9,P5,m7,C3,g7,h9,k9,m5,AH,AK,Ae,Ag,Af,Al,Ah,Aa,Ab,a0y,ec,cm,to]
abbrev tA:PV:= .tuple [.str (AS "turn"),.str (AS "back"),.str (AS "cross"),.str (AS "other")]
abbrev tB:PV:= .tuple [.str (AS "half"),.str (AS "flip"),.str (AS "back"),.str (AS "other")]
abbrev tC:PV:= .tuple [.str (AS "half"),.str (AS "side"),.str (AS "turn"),.str (AS "other")]
theorem R7{w:Str}{x y z:Bool}(h1:a7M false (.val (.str w)) (.val tA)=some (.val (.bool x)))(h2:a7M false (.val (.str w)) (.val tB)=some (.val (.bool y)))(h3:a7M false (.val (.str w)) (.val tC)=some (.val (.bool z)))(n d t a b:Int)(hn:0<n):
 V7 [.int n,T3 w d t,.tuple [.int a,.int b]]=some (.val (.tuple [.int (((if y then 0 - (if x then b else a) else(if x then b else a))+d) % n),.int (((if z then 0 - (if x then a else b) else(if x then a else b))+t) % n)])):=by
 unfold V7 a76
 cases x<;>cases y<;>cases z<;>simp (disch:=omega) only [z6,b5f,b5T,b91,v5,j5,l9,d5,f7,d6,d0,c8,D5,i9,u9,m7,C3,g7,h9,m9,a2P,R4,t6,k9,m5,n0,v3,b5V,c0H,c0I,AH,AK,Ae,Ag,Af,Al,Ah,Aa,Ab,AU,Ap,↓reduceIte,Av,sz,Nat.reduceAdd,Au,h1,h2,h3]
theorem b7G{w:Str}(hw:w∈u4){n:Int}(hn:0<n)(d t a b:Int):V7 [.int n,T3 w d t,.tuple [.int a,.int b]]=some (.val (.tuple [.int (lr n w d t a b),.int (lc n w d t a b)])):=by
 unfold lr lc
 rcases X8 hw with rfl|rfl|rfl|rfl|rfl|rfl|rfl|rfl
 ·rw [R7 (x:=false) (y:=false) (z:=false) (by kernel_rfl) (by kernel_rfl) (by kernel_rfl) n d t a b hn];rfl
 ·rw [R7 (x:=true) (y:=false) (z:=true) (by kernel_rfl) (by kernel_rfl) (by kernel_rfl) n d t a b hn];show _=some (d7.val (.tuple [.int ((b+d) % n),.int ((-a+t) % n)]));rw [<-Int.zero_sub a];rfl
 ·rw [R7 (x:=false) (y:=true) (z:=true) (by kernel_rfl) (by kernel_rfl) (by kernel_rfl) n d t a b hn];show _=some (d7.val (.tuple [.int ((-a+d) % n),.int ((-b+t) % n)]));rw [<-Int.zero_sub a,<-Int.zero_sub b];rfl
 ·rw [R7 (x:=true) (y:=true) (z:=false) (by kernel_rfl) (by kernel_rfl) (by kernel_rfl) n d t a b hn];show _=some (d7.val (.tuple [.int ((-b+d) % n),.int ((a+t) % n)]));rw [<-Int.zero_sub b];rfl
 ·rw [R7 (x:=false) (y:=false) (z:=true) (by kernel_rfl) (by kernel_rfl) (by kernel_rfl) n d t a b hn];show _=some (d7.val (.tuple [.int ((a+d) % n),.int ((-b+t) % n)]));rw [<-Int.zero_sub b];rfl
 ·rw [R7 (x:=false) (y:=true) (z:=false) (by kernel_rfl) (by kernel_rfl) (by kernel_rfl) n d t a b hn];show _=some (d7.val (.tuple [.int ((-a+d) % n),.int ((b+t) % n)]));rw [<-Int.zero_sub a];rfl
 ·rw [R7 (x:=true) (y:=false) (z:=false) (by kernel_rfl) (by kernel_rfl) (by kernel_rfl) n d t a b hn];rfl
 ·rw [R7 (x:=true) (y:=true) (z:=true) (by kernel_rfl) (by kernel_rfl) (by kernel_rfl) n d t a b hn];show _=some (d7.val (.tuple [.int ((-b+d) % n),.int ((-a+t) % n)]));rw [<-Int.zero_sub a,<-Int.zero_sub b];rfl
def T7(n k:Nat):Pt:=(((k / n:Nat):Int),((k % n:Nat):Int))
def Qn(n:Nat):List Pt:=(AQ (n*n)).map (T7 n)
theorem b4o{n:Nat}(hn:0<n){q:Pt}:q∈Qn n↔S7 n q:=by
 unfold Qn
 rw [AZ]
 constructor
 ·rintro⟨k,hk,rfl⟩
  have hk:=List.mem_range.mp hk
  have d1:k / n<n:=Nat.div_lt_of_lt_mul hk
  have d2:k % n<n:=Nat.mod_lt _ hn
  exact⟨⟨Int.natCast_nonneg _,Int.ofNat_lt.mpr d1⟩,Int.natCast_nonneg _,Int.ofNat_lt.mpr d2⟩
 ·intro h
  obtain⟨a,b,ha,hb,rfl⟩:=b1p h
  refine⟨a*n+b,List.mem_range.mpr ?_, ?_⟩
  ·have:a*n+n<=n*n:=by
    rw [<-Nat.succ_mul]
    exact Nat.mul_le_mul_right n ha
   lia
  ·obtain⟨e1,e2⟩:=b4Q (n:=n) (r:=a) hb
   unfold T7
   rw [e1,e2]
theorem b7H{n:Nat}(hn:0<n){w:Str}(hw:w∈u4)(d t:Int)(p:Pt):V7 [.int n,T3 w d t,pl p]=some (.val (pl (nxt n w d t p))):=b7G hw (by lia) d t p.1 p.2
structure Fnl(n:Nat)(ms:List Tr)(p:Pt)(K:List Pt)(W:List Pt)(D:List (List g0×PV)):Prop where
 kn:Kn D (K++W)
 dl:D.length<=K.length+W.length
 b:W.length+unw (pts n) W<=n*n
 hp:p∈W
 all:∀q∈W,S7 n q/\Y8 n ms p q
 nd:W.Nodup
theorem Fnl.add{n:Nat}{ms:List Tr}{p:Pt}{K W:List Pt}{D:List (List g0×PV)}(h:Fnl n ms p K W D){q:Pt}(hq:q∉W)(hb:S7 n q)(hr:Y8 n ms p q):Fnl n ms p K (W++[q]) (L5 D (kp q) (.bool true)) where
 kn:=by rw [<-List.append_assoc];exact h.kn.put q _
 dl:=by
  have:=a0O D (kp q) (.bool true)
  have:=h.dl
  rw [Ai,List.length_singleton];lia
 b:=by
  have:=a7z hq (V3 hb)
  have:=h.b
  rw [Ai,List.length_singleton];lia
 hp:=Ay _ h.hp
 all:=fun z hz=>by
  rcases Ar.mp hz with y|y
  ·exact h.all z y
  ·have:z=q:=by simpa using y
   rw [this];exact⟨hb,hr⟩
 nd:=by
  rw [List.nodup_append]
  refine⟨h.nd,by simp,fun a ha b hb'=> ?_⟩
  have:b=q:=by simpa using hb'
  rw [this]
  exact fun e=>hq (e▸ha)
theorem b5F{n:Nat}(hn:0<n)(hn8:n<=8){ms:List Tr}{p p0:Pt}{i:Nat}(h0:Y8 n ms p p0){K:List Pt}(hK:∀q,Y8 n ms p q->q∉K)(hKl:K.length<=64){q1 q3 q4 q5:Option d7}:∀(xs:List Tr) (W:List Pt) (D:List (List g0×PV)) (q8 q9:Option d7),(∀x∈xs,x∈ms/\x.1∈u4)->W[i]?=some p0->Fnl n ms p K W D->∃N D' q8' q9',Fnl n ms p K (W++N) D'/\(∀x∈xs,st n x p0∈W++N)/\
 B5 o9 (g8 8) (K8 xs) [some (.val (.int n)),q1,some (.ow (.dct D)),q3,q4,q5,some (.own (W.map pl)),some (.val (.int (i:Int))),q8,q9]=some (.nx [some (.val (.int n)),q1,some (.ow (.dct D')),q3,q4,q5,some (.own ((W++N).map pl)),some (.val (.int (i:Int))),q8',q9'])
 |[],W,D,q8,q9,_,_,h=>⟨[],D,q8,q9,by rw [Aq];exact h,(fun x hx=>nomatch hx),by rw [Aq];rfl⟩
 |x::xs,W,D,q8,q9,hx,hi,h=>by
  have hxm:=hx x AX
  have hnn:n*n<=8*8:=Nat.mul_le_mul hn8 hn8
  have hb:=h.b
  have hdl:=h.dl
  have ix:z9 (.bor (W.map pl)) (.val (.int (i:Int)))=some (.val (pl p0)):=by
   refine a5H ?_
   rw [b4y,Ak,hi];rfl
  have hl:=b7H hn hxm.2 (x.2.1:Nat) (x.2.2:Nat) p0
  have hin:=h.kn (st n x p0)
  have hnk:st n x p0∉K:=hK _ (h0.step hxm.1)
  show ∃N D' q8' q9',_/\_/\B5 o9 (g8 8) (T3 x.1 (x.2.1:Nat) (x.2.2:Nat)::K8 xs) _=_
  by_cases e:st n x p0∈W
  ·rw [decide_eq_true (Az _ e)] at hin
   have hbd:o9 [some (.val (.int n)),q1,some (.ow (.dct D)),q3,q4,q5,some (.own (W.map pl)),some (.val (.int (i:Int))),some (.val (T3 x.1 (x.2.1:Nat) (x.2.2:Nat))),q9]=some (.nx [some (.val (.int n)),q1,some (.ow (.dct D)),q3,q4,q5,some (.own (W.map pl)),some (.val (.int (i:Int))),some (.val (T3 x.1 (x.2.1:Nat) (x.2.2:Nat))),some (.val (pl (st n x p0)))]):=by
    unfold o9
    simp (disch:=omega) only [j5,d5,A0,f7,d6,d0,c8,j6,i9,u9,g7,h9,m9,R4,t6,n0,v3,AH,Aa,Ab,↓reduceIte,Bool.not_true,ix,hl,N2,L8,a1M,a1N,hin]
   obtain⟨N,D',a8,a9,h1,h2,h3⟩:=b5F hn hn8 h0 hK hKl xs W D (some (.val (T3 x.1 (x.2.1:Nat) (x.2.2:Nat)))) (some (.val (pl (st n x p0)))) (fun y hy=>hx y (Ac _ hy)) hi h
   refine⟨N,D',a8,a9,h1,fun y hy=> ?_, ?_⟩
   ·rcases AV.mp hy with rfl|hy
    ·exact Ay _ e
    ·exact h2 y hy
   ·rw [B5]
    show(o9 [some (.val (.int n)),q1,some (.ow (.dct D)),q3,q4,q5,some (.own (W.map pl)),some (.val (.int (i:Int))),some (.val (T3 x.1 (x.2.1:Nat) (x.2.2:Nat))),q9]).bind _=_
    rw [hbd,AH]
    exact h3
  ·rw [decide_eq_false (fun z=>(Ar.mp z).elim hnk e)] at hin
   have hF:=h.add e (b0R hn x p0) (h0.step hxm.1)
   have hbd:o9 [some (.val (.int n)),q1,some (.ow (.dct D)),q3,q4,q5,some (.own (W.map pl)),some (.val (.int (i:Int))),some (.val (T3 x.1 (x.2.1:Nat) (x.2.2:Nat))),q9]=some (.nx [some (.val (.int n)),q1,some (.ow (.dct (L5 D (kp (st n x p0)) (.bool true)))),q3,q4,q5,some (.own ((W++[st n x p0]).map pl)),some (.val (.int (i:Int))),some (.val (T3 x.1 (x.2.1:Nat) (x.2.2:Nat))),some (.val (pl (st n x p0)))]):=by
    unfold o9
    simp (disch:=omega) only [j5,l9,d5,A0,f7,d6,d0,c8,j6,i9,u9,g7,h9,m9,a2P,n0,v3,AH,Aa,Ab,↓reduceIte,Bool.not_false,ix,hl,N2,L8,a1M,a1N,hin,N3]
    rw [a0z rfl (by lia),AH,h9]
    rw [C8 (r:= .val (pl (st n x p0))) (p:=pl (st n x p0)) rfl rfl rfl (by rw [AO];lia),BC]
    rfl
   obtain⟨N,D',a8,a9,h1,h2,h3⟩:=b5F hn hn8 h0 hK hKl xs (W++[st n x p0]) (L5 D (kp (st n x p0)) (.bool true)) (some (.val (T3 x.1 (x.2.1:Nat) (x.2.2:Nat)))) (some (.val (pl (st n x p0)))) (fun y hy=>hx y (Ac _ hy)) (by
    rw [BA (Am.mp hi).1];exact hi) hF
   refine⟨[st n x p0]++N,D',a8,a9,by rw [<-List.append_assoc];exact h1,fun y hy=> ?_, ?_⟩
   ·rw [<-List.append_assoc]
    rcases AV.mp hy with rfl|hy
    ·exact Ay _ (by simp)
    ·exact h2 y hy
   ·rw [B5]
    show(o9 [some (.val (.int n)),q1,some (.ow (.dct D)),q3,q4,q5,some (.own (W.map pl)),some (.val (.int (i:Int))),some (.val (T3 x.1 (x.2.1:Nat) (x.2.2:Nat))),q9]).bind _=_
    rw [hbd,AH,<-List.append_assoc]
    exact h3
theorem b5G{n:Nat}(hn:0<n)(hn8:n<=8){ms:List Tr}(hms:∀x∈ms,x.1∈u4){p:Pt}(hp:S7 n p){K:List Pt}(hK:∀q,Y8 n ms p q->q∉K)(hKl:K.length<=64){D0:List (List g0×PV)}(hD:Kn D0 K)(hDl:D0.length<=K.length)(q3 q4 q5 q8 q9:Option d7):
 ∃(W:List Pt) (D':List (List g0×PV)) (q7' q8' q9':Option d7),Fnl n ms p K W D'/\(∀q,q∈W↔Y8 n ms p q)/\P0 (mtB (m2 a25 (c6 7) (m1 J0 (c6 6)))) C0 100 [some (.val (.int n)),some (.val (.list (K8 ms))),some (.ow (.dct (L5 D0 (kp p) (.bool true)))),q3,q4,q5,some (.own ([p].map pl)),some (.val (.int 0)),q8,q9]
  =some (.nx [some (.val (.int n)),some (.val (.list (K8 ms))),some (.ow (.dct D')),q3,q4,q5,some (.own (W.map pl)),q7',q8',q9']):=by
 have hnn:n*n<=8*8:=Nat.mul_le_mul hn8 hn8
 have key:=a2l (c:=mtB (m2 a25 (c6 7) (m1 J0 (c6 6)))) (body:=C0) (I:=fun m ρ=>∃(W:List Pt) (D:List (List g0×PV)) (i:Nat) (q8 q9:Option d7),m=n*n - i/\i<=W.length/\Fnl n ms p K W D/\(∀j q,j<i->W[j]?=some q->∀x∈ms,st n x q∈W)/\ρ=[some (.val (.int n)),some (.val (.list (K8 ms))),some (.ow (.dct D)),q3,q4,q5,some (.own (W.map pl)),some (.val (.int (i:Int))),q8,q9])
  (by
   rintro m ρ ⟨W,D,i,q8,q9,hm,hi,hF,hC,rfl⟩
   have hb:=hF.b
   have hc:mtB (m2 a25 (c6 7) (m1 J0 (c6 6))) [some (.val (.int n)),some (.val (.list (K8 ms))),some (.ow (.dct D)),q3,q4,q5,some (.own (W.map pl)),some (.val (.int (i:Int))),q8,q9]=some (decide ((i:Int)<(W.length:Int))):=by
    simp (disch:=omega) only [a4o,a3E,j5,t7,d5,A0,f7,n0,v3,AH,AO]
   by_cases e:i<W.length
   ·obtain⟨p0,hp0⟩:∃p0,W[i]?=some p0:=⟨W[i],Aw e⟩
    obtain⟨N,D',a8,a9,h1,h2,h3⟩:=b5F hn hn8 (hF.all p0 (BD hp0)).2 hK hKl (i:=i) (q1:=some (.val (.list (K8 ms)))) (q3:=q3) (q4:=q4) (q5:=q5) ms W D q8 q9 (fun x hx=>⟨hx,hms x hx⟩) hp0 hF
    refine .inr ⟨by rw [hc,decide_eq_true (by lia)],[some (.val (.int n)),some (.val (.list (K8 ms))),some (.ow (.dct D')),q3,q4,q5,some (.own ((W++N).map pl)),some (.val (.int ((i:Int)+1))),a8,a9],n*n - (i+1), ?_,by lia,W++N,D',i+1,a8,a9,rfl,by rw [Ai];lia,h1,fun j q hj hq x hx=> ?_,by rw [Int.natCast_add];rfl⟩
    ·unfold C0
     simp (disch:=omega) only [z6,j5,l9,d5,f7,c8,i9,u9,g7,h9,p7,AH,Aa,Ab,P8,x9,h3]
    ·by_cases hji:j<i
     ·have hjW:j<W.length:=by lia
      rw [BA hjW] at hq
      exact Ay _ (hC j q hji hq x hx)
     ·have:j=i:=by lia
      subst this
      rw [BA e,hp0] at hq
      cases hq
      exact h2 x hx
   ·exact .inl (by rw [hc,decide_eq_false (by lia)]))
  100 (n*n - 0) [some (.val (.int n)),some (.val (.list (K8 ms))),some (.ow (.dct (L5 D0 (kp p) (.bool true)))),q3,q4,q5,some (.own ([p].map pl)),some (.val (.int 0)),q8,q9] (by lia)
  ⟨[p],L5 D0 (kp p) (.bool true),0,q8,q9,rfl,by simp,⟨hD.put p _,by
   have:=a0O D0 (kp p) (.bool true)
   simp only [AU,Ap];lia,by
    have h:=a7z (q:=p) (K:=[]) (by simp) (V3 hp)
    have h2:=b8X (pts n) []
    rw [a2v] at h2
    rw [Ah] at h
    simp only [AU,Ap];lia,by simp,fun q hq=>by
    have:q=p:=by simpa using hq
    rw [this];exact⟨hp,Y8.refl p⟩,by simp⟩,fun j q hj=>by lia,rfl⟩
 obtain⟨ρ',m',e,⟨W,D,i,a8,a9,_,hi,hF,hC,rfl⟩,hc⟩:=key
 have hc':mtB (m2 a25 (c6 7) (m1 J0 (c6 6))) [some (.val (.int n)),some (.val (.list (K8 ms))),some (.ow (.dct D)),q3,q4,q5,some (.own (W.map pl)),some (.val (.int (i:Int))),a8,a9]=some (decide ((i:Int)<(W.length:Int))):=by
  simp (disch:=omega) only [a4o,a3E,j5,t7,d5,A0,f7,n0,v3,AH,AO]
 rw [hc'] at hc
 have hiW:i=W.length:=by
  have:¬((i:Int)<(W.length:Int)):=of_decide_eq_false (Option.some.inj hc)
  lia
 refine⟨W,D,_,a8,a9,hF,fun q=>⟨fun h=>(hF.all q h).2,fun h=>h (fun z=>z∈W) (fun z hz x hx=> ?_) hF.hp⟩,e⟩
 obtain⟨j,hj⟩:=List.getElem?_of_mem hz
 exact hC j z (by have:=(Am.mp hj).1;lia) hj x hx
theorem LN.rch{n:Nat}(hn:0<n){ms:List Tr}(hms:∀x∈ms,x.1∈u4){m:List (List Pt)}(h:LN n ms m){L:List Pt}(hL:L∈m){a:Pt}(ha:a∈L):S7 n a/\∀q,q∈L↔Y8 n ms a q:=by
 obtain⟨_,p,hp,hr⟩:=h.lane L hL
 have hpa:=(hr a).mp ha
 exact⟨hpa.inb hn hp,fun q=>⟨fun hq=>(Y8.symm hn hms hp hpa).trans ((hr q).mp hq),fun hq=>(hr q).mpr (hpa.trans hq)⟩⟩
structure LcI(n:Nat)(ms:List Tr)(i:Nat)(Fs:List (List Pt))(K:List Pt)(D:List (List g0×PV)):Prop where
 ln:LN n ms Fs
 kn:Kn D K
 dl:D.length<=K.length
 nd:K.Nodup
 ink:∀q∈K,S7 n q
 mem:∀q,q∈K↔∃A∈Fs,q∈A
 all:∀j,j<i->T7 n j∈K
 len:Fs.length<=i
theorem LcI.klen{n:Nat}{ms:List Tr}{i:Nat}{Fs:List (List Pt)}{K:List Pt}{D:List (List g0×PV)}(h:LcI n ms i Fs K D):K.length<=n*n:=by
 rw [<-a2v n]
 exact a3U h.nd fun q hq=>V3 (h.ink q hq)
theorem b7c{n k:Nat}(hn:0<n)(hk:k<n*n):S7 n (T7 n k):=(b4o hn).mp (AZ.mpr ⟨k,List.mem_range.mpr hk,rfl⟩)
theorem b9I{n:Nat}(hn:0<n)(hn7:n<=7){ms:List Tr}(hms:∀x∈ms,x.1∈u4){i:Nat}(hi:i<n*n){Fs:List (List Pt)}{K:List Pt}{D:List (List g0×PV)}(h:LcI n ms i Fs K D)(q5 q6 q7 q8 q9:Option d7):
 ∃(Fs':List (List Pt)) (K':List Pt) (D':List (List g0×PV)) (q5' q6' q7' q8' q9':Option d7),LcI n ms (i+1) Fs' K' D'/\C1 [some (.val (.int n)),some (.val (.list (K8 ms))),some (.ow (.dct D)),some (.own (A9 Fs)),some (.val (.int (i:Int))),q5,q6,q7,q8,q9]
  =some (.nx [some (.val (.int n)),some (.val (.list (K8 ms))),some (.ow (.dct D')),some (.own (A9 Fs')),some (.val (.int (i:Int))),q5',q6',q7',q8',q9']):=by
 have hnn:n*n<=7*7:=Nat.mul_le_mul hn7 hn7
 have hkl:=h.klen
 have hin:=h.kn (T7 n i)
 have e1:(i:Int)/(n:Int)=((i / n:Nat):Int):=(Int.natCast_ediv i n).symm
 have e2:(i:Int) %(n:Int)=((i % n:Nat):Int):=(Int.natCast_emod i n).symm
 have dm:U7 (.val (.int (i:Int))) (.val (.int (n:Int)))=some (.val (pl (T7 n i))):=by
  show _=some (d7.val (.tuple [.int ((i / n:Nat):Int),.int ((i % n:Nat):Int)]))
  rw [<-e1,<-e2]
  unfold U7
  simp
  lia
 by_cases e:T7 n i∈K
 ·rw [decide_eq_true e] at hin
  refine⟨Fs,K,D,some (.val (pl (T7 n i))),q6,q7,q8,q9,⟨h.ln,h.kn,h.dl,h.nd,h.ink,h.mem,fun j hj=> ?_,by have:=h.len;lia⟩, ?_⟩
  ·rcases Nat.lt_or_ge j i with hj'|hj'
   ·exact h.all j hj'
   ·rw [show j=i by lia];exact e
  ·unfold C1
   simp (disch:=omega) only [j5,d5,f7,i9,u9,g7,h9,m9,R4,t6,n0,v3,AH,Aa,Ab,↓reduceIte,Bool.not_true,dm,N2,L8,a1M,a1N,hin]
 ·rw [decide_eq_false e] at hin
  have hp:=b7c hn hi
  have clo:∀q,Y8 n ms (T7 n i) q->q∉K:=fun q hq hqK=>by
   obtain⟨A,hA,hqA⟩:=(h.mem q).mp hqK
   obtain⟨_,hr⟩:=h.ln.rch hn hms hA hqA
   exact e ((h.mem _).mpr ⟨A,hA,(hr _).mpr (Y8.symm hn hms hp hq)⟩)
  obtain⟨W,D',a7,a8,a9,hF,hW,ew⟩:=b5G hn (by lia:n<=8) hms hp clo (by lia) h.kn h.dl (some (.own (A9 Fs))) (some (.val (.int (i:Int)))) (some (.val (pl (T7 n i)))) q8 q9
  have hWl:=hF.b
  obtain⟨M,hM,es,hso⟩:=b2T (L:=W) (by lia) hF.nd (.bor (W.map pl)) rfl
  have hmM:∀q,q∈M↔Y8 n ms (T7 n i) q:=fun q=>(hM.mem_iff).trans (hW q)
  refine⟨Fs++[M],K++W,D',some (.val (pl (T7 n i))),some (.own (W.map pl)),a7,a8,a9,⟨⟨fun A hA=> ?_,List.pairwise_append.mpr ⟨h.ln.dis,List.pairwise_singleton _ _,fun A hA B hB q hq hqB=> ?_⟩,fun A hA=> ?_,fun A hA=> ?_⟩,hF.kn,by rw [Ai];exact hF.dl, ?_,fun q hq=> ?_,fun q=> ?_,fun j hj=> ?_,by rw [Ai,List.length_singleton];have:=h.len;lia⟩, ?_⟩
  ·rcases Ar.mp hA with z|z
   ·exact h.ln.lane A z
   ·have:A=M:=by simpa using z
    rw [this];exact⟨by rw [hM.length_eq];lia,_,hp,hmM⟩
  ·have:B=M:=by simpa using hB
   rw [this] at hqB
   exact clo q ((hmM q).mp hqB) ((h.mem q).mpr ⟨A,hA,hq⟩)
  ·rcases Ar.mp hA with z|z
   ·exact h.ln.nd A z
   ·have:A=M:=by simpa using z
    rw [this];exact hM.nodup_iff.mpr hF.nd
  ·rcases Ar.mp hA with z|z
   ·exact h.ln.so A z
   ·have:A=M:=by simpa using z
    rw [this];exact hso
  ·rw [List.nodup_append]
   exact⟨h.nd,hF.nd,fun a ha b hb eab=>clo b ((hW b).mp hb) (eab▸ha)⟩
  ·rcases Ar.mp hq with z|z
   ·exact h.ink q z
   ·exact(hF.all q z).1
  ·rw [Ar,h.mem]
   constructor
   ·rintro(⟨A,h1,h2⟩|h2)
    ·exact⟨A,Ay _ h1,h2⟩
    ·exact⟨M,by simp,hM.mem_iff.mpr h2⟩
   ·rintro⟨A,h1,h2⟩
    rcases Ar.mp h1 with z|z
    ·exact .inl ⟨A,z,h2⟩
    ·have:A=M:=by simpa using z
     rw [this] at h2;exact .inr (hM.mem_iff.mp h2)
  ·rcases Nat.lt_or_ge j i with hj'|hj'
   ·exact Ay _ (h.all j hj')
   ·rw [show j=i by lia];exact Az _ hF.hp
  ·have hfl:=h.len
   have hdl:=h.dl
   unfold C1
   have ap:=C8 (i:=3) (m:=m1 a26 (c6 6)) (ρ:=[some (.val (.int n)),some (.val (.list (K8 ms))),some (.ow (.dct D')),some (.own (A9 Fs)),some (.val (.int (i:Int))),some (.val (pl (T7 n i))),some (.own (W.map pl)),a7,a8,a9]) (r:= .own (M.map pl)) (p:= .list (M.map pl)) (ps:=A9 Fs) (by simp (disch:=omega) only [t7,A0,f7,AH,es]) rfl rfl (by rw [AO];lia)
   simp (disch:=omega) only [j5,l9,d5,f7,d6,d0,c8,L4,i9,u9,P5,g7,h9,m9,a2P,n0,v3,AH,Aa,Ab,AU,Ap,↓reduceIte,Bool.not_false,sz,Nat.reduceAdd,Au,dm,N2,L8,a1M,a1N,hin,N3]
   rw [a0z rfl (by lia),AH,h9]
   have ew':P0 (mtB (m2 a25 (c6 7) (m1 J0 (c6 6)))) C0 100 [some (.val (.int n)),some (.val (.list (K8 ms))),some (.ow (.dct (L5 D (kp (T7 n i)) (.bool true)))),some (.own (A9 Fs)),some (.val (.int (i:Int))),some (.val (pl (T7 n i))),some (.own [pl (T7 n i)]),some (.val (.int 0)),q8,q9]=_:=ew
   have el:A9 (Fs++[M])=A9 Fs++[.list (M.map pl)]:=by unfold A9;rw [BC];rfl
   rw [el]
   simp (disch:=omega) only [l9,i9,u9,g7,h9,AH,Aa,Ab,ew',ap]
theorem b2J:∀L:List Pt,(L.map pl).mapM b6x=some L
 |[]=>rfl
 |p::L=>by
  rw [AK,List.mapM_cons,b2J L]
  rfl
theorem a8x:∀Fs:List (List Pt),(A9 Fs).mapM b3K=some Fs
 |[]=>rfl
 |A::Fs=>by
  have ih:=a8x Fs
  show((PyData.list (A.map pl))::A9 Fs).mapM b3K=_
  rw [List.mapM_cons,ih]
  show((A.map pl).mapM b6x).bind _=_
  rw [b2J]
  rfl
theorem c1p{A B:List Pt}(hA:0<A.length)(hB:0<B.length)(sB:B.Pairwise ltP)(h:ltF B A=false)(d:∀q,q∈A->q∉B):RL A B:=by
 cases A with
 |nil=>cases hA
 |cons a A=>
  cases B with
  |nil=>cases hB
  |cons b B=>
   have hne:a≠b:=fun e=>d a AX (e▸AX)
   have h1:¬ltP b a:=fun z=>by
    have:=b5M z (flK B) (flK A)
    rw [show O3 (.inl b.1:: .inl b.2::flK B) (.inl a.1:: .inl a.2::flK A)=ltF (b::B) (a::A) from rfl,h] at this
    cases this
   have hab:ltP a b:=by
    unfold ltP at h1 ⊢
    have:¬(a.1=b.1/\a.2=b.2):=fun z=>hne (Prod.ext z.1 z.2)
    lia
   refine⟨a,AX,fun c hc=> ?_⟩
   rcases AV.mp hc with rfl|hc
   ·exact hab
   ·have:=(List.pairwise_cons.mp sB).1 c hc
    unfold ltP at this hab ⊢
    lia
theorem a58{α:Type}{R:α->α->Prop}(as:∀{a b},R a b->¬R b a):∀{l m:List α},l.Pairwise R->m.Pairwise R->(∀x,x∈l↔x∈m)->l=m
 |[],[],_,_,_=>rfl
 |[],y::m,_,_,h=>nomatch (h y).mpr AX
 |x::l,[],_,_,h=>nomatch (h x).mp AX
 |x::l,y::m,hl,hm,h=>by
  obtain⟨l1,l2⟩:=List.pairwise_cons.mp hl
  obtain⟨m1,m2⟩:=List.pairwise_cons.mp hm
  have exy:x=y:=by
   rcases AV.mp ((h x).mp AX) with e|e
   ·exact e
   ·rcases AV.mp ((h y).mpr AX) with e'|e'
    ·exact e'.symm
    ·exact absurd (m1 x e) (as (l1 y e'))
  subst exy
  rw [a58 as l2 m2 fun z=>⟨fun hz=> ?_,fun hz=> ?_⟩]
  ·rcases AV.mp ((h z).mp (Ac _ hz)) with e|e
   ·subst e;exact absurd (l1 z hz) (as (l1 z hz))
   ·exact e
  ·rcases AV.mp ((h z).mpr (Ac _ hz)) with e|e
   ·subst e;exact absurd (m1 z hz) (as (m1 z hz))
   ·exact e
theorem b5K{n:Nat}(hn:0<n){ms:List Tr}(hms:∀x∈ms,x.1∈u4){m m':List (List Pt)}(h:LN n ms m)(h':LN n ms m')(c':∀q,S7 n q->∃L∈m',q∈L){L:List Pt}(hL:L∈m):L∈m':=by
 obtain⟨_,hin,hp⟩:=h.len hn hms hL
 obtain⟨a,ha⟩:=List.exists_mem_of_length_pos hp
 obtain⟨B,hB,haB⟩:=c' a (hin a ha)
 have e:L=B:=a58 b5N (h.so L hL) (h'.so B hB) fun q=>by rw [(h.rch hn hms hL ha).2 q,(h'.rch hn hms hB haB).2 q]
 rw [e];exact hB
theorem c1b{n:Nat}(hn:0<n){ms:List Tr}(hms:∀x∈ms,x.1∈u4){m m':List (List Pt)}(h:LN n ms m)(h':LN n ms m')(c:∀q,S7 n q->∃L∈m,q∈L)(c':∀q,S7 n q->∃L∈m',q∈L)(o:m.Pairwise RL)(o':m'.Pairwise RL):m=m':=
 a58 c0R o o' fun L=>⟨fun hL=>b5K hn hms h h' c' hL,fun hL=>b5K hn hms h' h c hL⟩
theorem b5H{n:Nat}(hn:0<n)(hn7:n<=7){ms:List Tr}(hms:∀x∈ms,x.1∈u4):∃m,LN n ms m/\m.Pairwise RL/\(∀q,S7 n q->∃L∈m,q∈L)/\m.length<=n*n/\Q6 [.int n,.list (K8 ms)]=some (.own (A9 m)):=by
 have hnn:n*n<=7*7:=Nat.mul_le_mul hn7 hn7
 obtain⟨ρ1,e1,Fs,K,D,q5,q6,q7,q8,q9,q4,hI,rfl⟩:=B8 (body:=C1) (tg:=g8 4) (fun i ρ=>∃(Fs:List (List Pt)) (K:List Pt) (D:List (List g0×PV)) (q5 q6 q7 q8 q9 q4:Option d7),LcI n ms i Fs K D/\ρ=[some (.val (.int n)),some (.val (.list (K8 ms))),some (.ow (.dct D)),some (.own (A9 Fs)),q4,q5,q6,q7,q8,q9])
  (ps:=P9 0 ((n*n:Nat):Int)) (ρ:=[some (.val (.int n)),some (.val (.list (K8 ms))),some (.ow (.dct [])),some (.own []),none,none,none,none,none,none])
  (by
   rintro i p hp ρ ⟨Fs,K,D,q5,q6,q7,q8,q9,q4,hI,rfl⟩
   obtain⟨rfl,hi⟩:=a2y hp
   have hi':(0:Int)+(i:Int)=(i:Int):=by lia
   rw [hi'] at hi ⊢
   obtain⟨Fs',K',D',a5,a6,a7,a8,a9,hI',e⟩:=b9I hn hn7 hms (i:=i) (by lia) hI q5 q6 q7 q8 q9
   exact a1g rfl e ⟨_,_,_,_,_,_,_,_,_,hI',rfl⟩)
  ⟨[],[],[],none,none,none,none,none,none,⟨⟨fun L h=>(nomatch h),List.Pairwise.nil,fun L h=>(nomatch h),fun L h=>(nomatch h)⟩,fun q=>by simp [n6],AM _,List.nodup_nil,fun q h=>(nomatch h),fun q=>⟨fun h=>(nomatch h),fun⟨_,h,_⟩=>(nomatch h)⟩,fun j hj=>by lia,AM _⟩,rfl⟩
 have hlen:(P9 0 ((n*n:Nat):Int)).length=n*n:=by rw [b2O,AO,Ax]
 rw [hlen] at hI
 have pm:=a1f (lt:=ltF) Fs
 have hl:=hI.len
 have es:a5I (.bo (.lst (A9 Fs)))=some (.own (A9 (a1v ltF Fs))):=by
  show((A9 Fs).mapM b3K).bind _=_
  rw [a8x,AH,if_pos (by lia)]
  rfl
 refine⟨a1v ltF Fs,⟨fun L hL=>hI.ln.lane L (pm.mem_iff.mp hL), ?_,fun L hL=>hI.ln.nd L (pm.mem_iff.mp hL),fun L hL=>hI.ln.so L (pm.mem_iff.mp hL)⟩, ?_,fun q hq=> ?_,by rw [pm.length_eq];exact hl, ?_⟩
 ·refine(pm.pairwise_iff fun {a b} h q hb ha=>h q ha hb).mpr hI.ln.dis
 ·refine List.Pairwise.imp_of_mem (fun {A B} hA hB ⟨h1,h2⟩=>c1p (hI.ln.len hn hms (pm.mem_iff.mp hA)).2.2 (hI.ln.len hn hms (pm.mem_iff.mp hB)).2.2 (hI.ln.so B (pm.mem_iff.mp hB)) h1 h2) ((V4 b2w Fs).and ((pm.pairwise_iff fun {a b} h q hb ha=>h q ha hb).mpr hI.ln.dis))
 ·obtain⟨k,hk,e⟩:=AZ.mp ((b4o hn).mpr hq)
  obtain⟨A,hA,h⟩:=(hI.mem q).mp (e▸hI.all k (List.mem_range.mp hk))
  exact⟨A,pm.mem_iff.mpr hA,h⟩
 ·have mm:(n:Int)*(n:Int)=((n*n:Nat):Int):=by rw [Int.natCast_mul]
  unfold Q6 a2K
  simp (disch:=omega) only [Q5,j5,t7,d5,A0,f7,d6,d0,c8,L4,i9,m7,a4P,g7,h9,k9,m5,p7,y9,K2,AH,AK,Ae,Ag,Af,Al,Ah,Aa,Ab,Ap,↓reduceIte,sz,Au,a2s,a0X,mm,e1,es]
theorem a5E(y a:Nat):∀l:List Nat,cnt y (l++[a])=cnt y l+if a=y then 1 else 0
 |[]=>by rw [Ah,cnt_cons];exact Int.add_comm _ _
 |b::l=>by rw [Al,cnt_cons,cnt_cons,a5E y a l];lia
theorem b68{l U:List Nat}{a:Nat}(h:a∉U):cD (l++[a]) U=cD l U:=by
 unfold cD
 refine List.map_congr_left fun x hx=> ?_
 have hne:¬a=x:=fun e=>h (e▸hx)
 rw [a5E,if_neg hne,Int.add_zero]
theorem b9f{l U:List Nat}{a:Nat}(h:a∈U):L5 (cD l U) [.inr (S [a])] (.int (cnt a l+1))=cD (l++[a]) U:=by
 have e:((cD l U).any fun kv=>decide (kv.1=[.inr (S [a])]))=true:=by rw [a5D,a0Z,if_pos h];rfl
 unfold L5
 rw [e,if_pos rfl]
 unfold cD
 rw [As]
 refine List.map_congr_left fun x hx=> ?_
 show(if [Sum.inr (S [x])]=[Sum.inr (S [a])] then([Sum.inr (S [x])],PyData.int (cnt a l+1)) else([Sum.inr (S [x])],PyData.int (cnt x l)))=_
 rw [a5E]
 by_cases c:a=x
 ·subst c;rw [if_pos rfl,if_pos rfl]
 ·rw [if_neg (fun z=>c (b4p.mp (Sum.inr.inj (List.cons.inj z).1)).symm),if_neg c,Int.add_zero]
theorem b9e{l U:List Nat}{a:Nat}(hU:∀x,x∈U↔x∈l):(n6 (cD l U) [.inr (S [a])]).getD (.int 0)= .int (cnt a l):=by
 rw [a0Z]
 by_cases h:a∈U
 ·rw [if_pos h];rfl
 ·rw [if_neg h,cnt_none a l fun z=>h ((hU a).mpr z)];rfl
theorem b6T{i:Nat}{ρ:c7}{x:Str}{d:PV}{D:List (List g0×PV)}(h:ρ[i]?=some (some (.ow (.txt D)))):a7x i ρ x d=some (.val ((n6 D [.inr x]).getD d)):=by
 unfold a7x;rw [h]
theorem b9z{n:Nat}(hn8:n<=8)(f:Nat->Nat->Nat){L:List Pt}(hl:L.length<64)(hL:∀q∈L,S7 n q):∃U:List Nat,U.Nodup/\U.length<=L.length/\(∀x,x∈U↔x∈L.map (A7 f))/\a2r [l8 n f,.list (L.map pl)]=some (.ow (.txt (cD (L.map (A7 f)) U))):=by
 obtain⟨ρ1,e1,U,q3,q4,h1,h2,h3,rfl⟩:=B8 (body:=V0) (tg:=a2k [3,4]) (fun i ρ=>∃(U:List Nat) (q3 q4:Option d7),U.Nodup/\(∀x,x∈U↔x∈(L.take i).map (A7 f))/\U.length<=i/\ρ=[some (.val (l8 n f)),some (.val (.list (L.map pl))),some (.ow (.txt (cD ((L.take i).map (A7 f)) U))),q3,q4])
  (ps:=L.map pl) (ρ:=[some (.val (l8 n f)),some (.val (.list (L.map pl))),some (.ow (.txt [])),none,none])
  (by
   rintro i p hp ρ ⟨U,q3,q4,h1,h2,h3,rfl⟩
   have hi:i<L.length:=by have:=(Am.mp hp).1;rwa [AO] at this
   have hq:L[i]?=some L[i]:=Aw hi
   rw [Ak,hq] at hp
   cases hp
   obtain⟨⟨b1,b2⟩,b3,b4⟩:=hL L[i] (List.getElem_mem hi)
   have et:(L.take (i+1)).map (A7 f)=(L.take i).map (A7 f)++[A7 f L[i]]:=by
    rw [List.take_succ,hq,BC];rfl
   have i1:=a2m (n:=n) (f:=f) (i:=L[i].1) b1 b2
   have i2:=a7b (n:=n) (g:=fun c=>f L[i].1.toNat c) (j:=L[i].2) b3 b4 (by lia)
   generalize (L.take i).map (A7 f)=l at h2 et ⊢
   obtain⟨a,ea⟩:∃a,A7 f L[i]=a:=⟨_,rfl⟩
   have ea':f L[i].1.toNat L[i].2.toNat=a:=ea
   rw [ea'] at i2
   rw [ea] at et
   have gt:=b6T (i:=2) (ρ:=[some (.val (l8 n f)),some (.val (.list (L.map pl))),some (.ow (.txt (cD l U))),some (.val (.int L[i].1)),some (.val (.int L[i].2))]) (x:=S [a]) (d:= .int 0) (D:=cD l U) rfl
   rw [b9e h2] at gt
   have hlen:(cD l U).length<16777216:=by unfold cD;rw [AO];lia
   have pt:=b0W (i:=2) (ρ:=[some (.val (l8 n f)),some (.val (.list (L.map pl))),some (.ow (.txt (cD l U))),some (.val (.int L[i].1)),some (.val (.int L[i].2))]) (p:= .int (cnt a l+1)) (x:=S [a]) (D:=cD l U) rfl hlen
   have hb:V0 [some (.val (l8 n f)),some (.val (.list (L.map pl))),some (.ow (.txt (cD l U))),some (.val (.int L[i].1)),some (.val (.int L[i].2))]=some (.nx [some (.val (l8 n f)),some (.val (.list (L.map pl))),some (.ow (.txt (L5 (cD l U) [.inr (S [a])] (.int (cnt a l+1))))),some (.val (.int L[i].1)),some (.val (.int L[i].2))]):=by
    unfold V0
    simp (disch:=omega) only [z6,j5,l9,d5,f7,c8,AH,a8C,b1F,i1,i2,b1w,gt]
    exact pt
   refine a1g rfl hb ?_
   by_cases c:a∈U
   ·refine⟨U,some (.val (.int L[i].1)),some (.val (.int L[i].2)),h1,fun x=> ?_,by lia,by rw [b9f c,et]⟩
    rw [et,Ar,<-h2 x]
    constructor
    ·exact fun h=> .inl h
    ·rintro(h|h)
     ·exact h
     ·have:x=a:=by simpa using h
      rw [this];exact c
   ·refine⟨U++[a],some (.val (.int L[i].1)),some (.val (.int L[i].2)), ?_,fun x=> ?_,by rw [Ai,List.length_singleton];lia, ?_⟩
    ·rw [List.nodup_append]
     refine⟨h1,by simp,fun x hx y hy=> ?_⟩
     have:y=a:=by simpa using hy
     rw [this];exact fun e=>c (e▸hx)
    ·rw [et,Ar,Ar,h2 x]
    ·have e0:cnt a l+1=cnt a (l++[a]):=by rw [a5E,if_pos rfl]
     rw [et,<-b68 (l:=l) c,e0,b4D c]) ⟨[],none,none,List.nodup_nil,fun x=>by simp,AM _,rfl⟩
 rw [AO,List.take_length] at*
 refine⟨U,h1,h3,h2, ?_⟩
 have hit:PyData.items? (.list (L.map pl))=some (L.map pl):=rfl
 unfold a2r a75
 simp (disch:=omega) only [d5,f7,c8,i9,g7,h9,k9,m5,p7,AH,AK,Ae,Ag,Af,Al,Ah,Aa,Ab,x9,a0h,a0i,b0v,a0X,hit,e1]
theorem a94{K:Nat->Nat}{bt:Nat->Nat->Bool}{N:Nat}(h:∀i j,i<N->j<N->bt i j=decide (K i<K j)):∀m,m<N->argBest bt m<=m/\∀j,j<=m->K (argBest bt m)<=K j
 |0,_=>⟨AM _,fun j hj=>by
  have:j=0:=by lia
  subst this
  exact AM _⟩
 |m+1,hm=>by
  obtain⟨h1,h2⟩:=a94 h m (by lia)
  have hb:=h (m+1) (argBest bt m) hm (by lia)
  simp only [argBest]
  by_cases c:K (m+1)<K (argBest bt m)
  ·rw [hb,decide_eq_true c]
   simp only [if_true]
   refine⟨AM _,fun j hj=> ?_⟩
   rcases Nat.lt_or_ge j (m+1) with hj'|hj'
   ·have:=h2 j (by lia)
    lia
   ·have:j=m+1:=by lia
    subst this
    exact AM _
  ·rw [hb,decide_eq_false c]
   simp only [Av,if_false]
   refine⟨by lia,fun j hj=> ?_⟩
   rcases Nat.lt_or_ge j (m+1) with hj'|hj'
   ·exact h2 j (by lia)
   ·have:j=m+1:=by lia
    subst this
    lia
theorem b7R{W:List Nat}(h0:0<W.length):∃x∈W,(∀y∈W,x<=y)/\b2n (.own (W.map fun x=>row [x]))=some (.val (row [x])):=by
 have hs:C6 (W.map fun x=>row [x])=some (W.map fun x=>S [x]):=by
  have:=a1h (W.map fun x=>S [x])
  rw [As] at this
  exact this
 have hb:∀i j,i<W.length->j<W.length->btT (W.map fun x=>S [x]) i j=decide (W.getD i 0<W.getD j 0):=by
  intro i j hi hj
  simp only [btT,Ak,Aw hi,Aw hj,List.getD,Option.getD_some,BE,a1z]
  rw [decide_eq_decide,List.cons_lt_cons_iff]
  simp
 obtain⟨g1,g2⟩:=a94 (K:=fun i=>W.getD i 0) hb (W.length - 1) (by lia)
 have hlt:argBest (btT (W.map fun x=>S [x])) (W.length - 1)<W.length:=by lia
 refine⟨W[argBest (btT (W.map fun x=>S [x])) (W.length - 1)],List.getElem_mem hlt,fun y hy=> ?_, ?_⟩
 ·obtain⟨j,hj,rfl⟩:=List.getElem_of_mem hy
  have:=g2 j (by lia)
  simpa [List.getD,hj,hlt] using this
 ·show(C6 (W.map fun x=>row [x])).bind _=_
  rw [hs,AH,if_pos (by rw [AO];exact h0),AO,Ak,Aw hlt]
  rfl
theorem b15(x:Nat):∀l:List Nat,0<=cnt x l
 |[]=>Int.le_refl _
 |a::r=>by rw [cnt_cons];have:=b15 x r;split<;>lia
open Classical in
def bxx(f:Nat->Nat->Nat)(L:List Pt):Nat:=if h:∃x,Bst f L x then Classical.choose h else 0
theorem b9d{f:Nat->Nat->Nat}{L:List Pt}{x:Nat}(h:Bst f L x):bxx f L=x:=by
 have z:∃x,Bst f L x:=⟨x,h⟩
 unfold bxx
 rw [dif_pos z]
 exact(Classical.choose_spec z).uniq h
theorem b7q{n:Nat}(hn8:n<=8)(f:Nat->Nat->Nat){L:List Pt}(hl:L.length<64)(h0:0<L.length)(hL:∀q∈L,S7 n q){q1:Option d7}{T:List PV}(hT:T.length<1000)(q4 q5:Option d7):
 ∃q4' q5',Bst f L (bxx f L)/\K0 [some (.val (l8 n f)),q1,some (.own T),some (.val (.list (L.map pl))),q4,q5]=some (.nx [some (.val (l8 n f)),q1,some (.own (T++[mr (O6 f (bxx f) L)])),some (.val (.list (L.map pl))),q4',q5']):=by
 obtain⟨U,nd,hU,mU,eh⟩:=b9z hn8 f hl hL
 unfold O6
 generalize hll:L.map (A7 f)=l at mU eh
 have hp:0<U.length:=by
  cases L with
  |nil=>simp at h0
  |cons a r=>exact List.length_pos_of_mem ((mU (A7 f a)).mpr (by rw [<-hll];exact AX))
 have hcl:(cD l U).length=U.length:=by unfold cD;rw [AO]
 have e1:a9u 4 [some (.val (l8 n f)),q1,some (.own T),some (.val (.list (L.map pl))),some (.ow (.txt (cD l U))),q5]=some (.own ((U.map fun x=>cnt x l).map .int)):=by
  show(if(cD l U).length<=AL then some (d7.own ((cD l U).map (·.2))) else none)=_
  rw [if_pos (by rw [hcl,sizeLine_eq];lia)]
  unfold cD
  rw [As,As]
  rfl
 obtain⟨b1,b2⟩:=a78 (is:=U.map fun x=>cnt x l) (by rw [AO];exact hp)
 have e2:a8p (.own ((U.map fun x=>cnt x l).map .int))=some (.val (.int (a1r (U.map fun x=>cnt x l)))):=by
  show(a1Y _).bind _=_
  rw [a4s,AH,if_pos (by rw [AO];exact hp)]
 generalize hM:a1r (U.map fun x=>cnt x l)=M at b1 b2 e2
 have ha:b1b (cD l U)=true:=by
  unfold b1b
  rw [List.all_eq_true]
  intro e he
  obtain⟨x,hx,rfl⟩:=AZ.mp he
  simp only [a0Z,if_pos hx]
 have e3:a9t 4 5 [some (.val (l8 n f)),q1,some (.own T),some (.val (.list (L.map pl))),some (.ow (.txt (cD l U))),some (.val (.int M))]=some (.own ((U.filter fun x=>decide (cnt x l=M)).map fun x=>row [x])):=by
  show(if _ then _ else _)=_
  rw [if_pos ⟨by rw [hcl,sizeLine_eq];lia,ha⟩,a39 U fun x hx=>hx]
 obtain⟨x0,hx0,ex0⟩:=AZ.mp b1
 have mf:x0∈U.filter fun x=>decide (cnt x l=M):=List.mem_filter.mpr ⟨hx0,decide_eq_true ex0⟩
 obtain⟨x,hx,hle,e4⟩:=b7R (List.length_pos_of_mem mf)
 obtain⟨hxU,hxM⟩:=List.mem_filter.mp hx
 have hxM:=of_decide_eq_true hxM
 have hB:Bst f L x:=by
  unfold Bst
  rw [hll]
  refine⟨(mU x).mp hxU,fun y=> ?_,fun y hy ey=>hle y (List.mem_filter.mpr ⟨(mU y).mpr hy,decide_eq_true (ey.trans hxM)⟩)⟩
  by_cases hy:y∈U
  ·rw [hxM];exact b2 _ (AZ.mpr ⟨y,hy,rfl⟩)
  ·rw [cnt_none y _ fun h=>hy ((mU y).mpr h)];exact b15 x l
 rw [b9d hB,hxM]
 have hT':T.length<16777216:=by lia
 refine⟨some (.ow (.txt (cD l U))),some (.val (.int M)),hB, ?_⟩
 unfold K0
 simp (disch:=omega) only [t7,d5,f7,d6,d0,c8,j6,i9,u9,g7,h9,AH,Aa,Ab,eh,a0X,e1,e2]
 rw [C8 (r:= .val (mr (L,x,M))) (p:=mr (L,x,M)) (by simp (disch:=omega) only [t7,d5,f7,d6,d0,c8,D5,AH,AU,Ap,↓reduceIte,sz,Nat.reduceAdd,Au,e3,e4];rfl) rfl rfl hT']
 rfl
theorem b0f{n:Nat}(hn8:n<=8)(f:Nat->Nat->Nat){q1:Option d7}:∀(m:List (List Pt)) (T:List PV) (q3 q4 q5:Option d7),(∀L∈m,L.length<64/\0<L.length/\∀q∈L,S7 n q)->T.length+m.length<1000->
 (∀L∈m,Bst f L (bxx f L))/\∃q3' q4' q5',B5 K0 (g8 3) (A9 m) [some (.val (l8 n f)),q1,some (.own T),q3,q4,q5]=some (.nx [some (.val (l8 n f)),q1,some (.own (T++(m.map (O6 f (bxx f))).map mr)),q3',q4',q5'])
 |[],T,q3,q4,q5,_,_=>⟨fun L h=>(nomatch h),q3,q4,q5,by rw [Ae,Ae,Aq];rfl⟩
 |L::m,T,q3,q4,q5,h,hl=>by
  rw [AU] at hl
  obtain⟨h1,h2,h3⟩:=h L AX
  obtain⟨a4,a5,hB,e⟩:=b7q hn8 f h1 h2 h3 (q1:=q1) (T:=T) (by lia) q4 q5
  obtain⟨hB',b3,b4,b5,e'⟩:=b0f hn8 f m (T++[mr (O6 f (bxx f) L)]) (some (.val (.list (L.map pl)))) a4 a5 (fun A hA=>h A (Ac _ hA)) (by rw [Ai,List.length_singleton];lia)
  refine⟨fun A hA=> ?_,b3,b4,b5, ?_⟩
  ·rcases AV.mp hA with rfl|hA
   ·exact hB
   ·exact hB' A hA
  ·show B5 K0 (g8 3) (.list (L.map pl)::A9 m) _=_
   rw [B5]
   show(K0 [some (.val (l8 n f)),q1,some (.own T),some (.val (.list (L.map pl))),q4,q5]).bind _=_
   rw [e,AH]
   rw [List.append_assoc] at e'
   exact e'
theorem b9k{n:Nat}(hn:0<n)(hn7:n<=7){ms:List Tr}(hms:∀x∈ms,x.1∈u4)(f:Nat->Nat->Nat):∃m,LN n ms m/\m.Pairwise RL/\(∀q,S7 n q->∃L∈m,q∈L)/\(∀L∈m,Bst f L (bxx f L))/\a2q [l8 n f,.list (K8 ms)]=some (.own ((m.map (O6 f (bxx f))).map mr)):=by
 have hnn:n*n<=7*7:=Nat.mul_le_mul hn7 hn7
 obtain⟨m,hm,ho,hc,hl,e⟩:=b5H hn hn7 hms
 obtain⟨hB,q3,q4,q5,el⟩:=b0f (n:=n) (by lia) f (q1:=some (.val (.list (K8 ms)))) m [] none none none (fun L hL=>by
  obtain⟨h1,h2,h3⟩:=hm.len hn hms hL
  exact⟨by lia,h3,h2⟩) (by simp;lia)
 refine⟨m,hm,ho,hc,hB, ?_⟩
 rw [Ah] at el
 have hit:PyData.items? (.list (A9 m))=some (A9 m):=rfl
 unfold a2q a74
 simp (disch:=omega) only [t7,d5,f7,d6,d0,c8,Q0,L4,j6,i9,P5,g7,h9,k9,m5,p7,AH,AK,Ae,Ag,Af,Al,Ah,Aa,Ab,Ap,↓reduceIte,x9,a0h,a0i,sz,Au,a0y,e,hit,el]
theorem b8B(n:Nat)(f g:Nat->Nat->Nat):uf n f g=uf n g f:=by
 funext k
 unfold uf
 by_cases c:f (k / n) (k % n)=g (k / n) (k % n)
 ·rw [if_pos c,if_pos c.symm]
 ·rw [if_neg c,if_neg (fun e=>c e.symm)]
theorem b60(n:Nat)(f g:Nat->Nat->Nat)(k:Nat):Uk n f g k=Uk n g f k:=by unfold Uk;rw [b8B]
theorem c0b(L:List Pt)(k:Nat):z5 (L.map pl) (k+3)=true:=a1Q fun p hp=>by
 obtain⟨q,_,rfl⟩:=AZ.mp hp
 rfl
theorem c1d(t:Rec):n4 (mr t) 49=true:=by
 show z5 [.list (t.1.map pl),row [t.2.1],.int t.2.2] 48=true
 refine a1Q fun p hp=> ?_
 simp only [AV,List.not_mem_nil,or_false] at hp
 rcases hp with rfl|rfl|rfl
 ·exact c0b t.1 44
 ·rfl
 ·rfl
theorem b8g(R:List Rec):n4 (.list (R.map mr)) 50=true:=by
 show z5 (R.map mr) 49=true
 exact a1Q fun p hp=>by
  obtain⟨t,_,rfl⟩:=AZ.mp hp
  exact c1d t
theorem b4f(k:Int):a1V [.int k]=some (.val (.bool true)):=rfl
theorem b3J{R:List Rec}(hs:∀t∈R,t.1.length<=64)(c:PV):a0e [.list (R.map mr),c,.list (R.map mr)]=some (.val (.bool true)):=by
 have ne:=a1S (b8g R)
 obtain⟨ρ1,e1,q3,rfl⟩:=B8 (body:=O2) (tg:=g8 3) (fun _ ρ=>∃q3,ρ=[some (.val (.list (R.map mr))),some (.val c),some (.val (.list (R.map mr))),q3])
  (ps:=R.map mr) (ρ:=[some (.val (.list (R.map mr))),some (.val c),some (.val (.list (R.map mr))),none])
  (by
   rintro i p hp ρ ⟨q3,rfl⟩
   obtain⟨t,ht,rfl⟩:=AZ.mp (BD hp)
   have i0:z9 (.val (mr t)) (.val (.int 0))=some (.val (.list (t.1.map pl))):=rfl
   have i1:z9 (.val (mr t)) (.val (.int 1))=some (.val (row [t.2.1])):=rfl
   have i2:z9 (.val (mr t)) (.val (.int 2))=some (.val (.int t.2.2)):=rfl
   have k0:S8 "tuple" (mr t)=true:=rfl
   have nf:a9i (mr t)=false:=rfl
   have k1:S8 "list" (.list (t.1.map pl))=true:=rfl
   have k2:S8 "str" (row [t.2.1])=true:=rfl
   have cm:=V1 (ι:=pl) (f:=pl) (q:=fun _=>false) (k:=1) (it:=V2 (m2 z9 (c6 3) (mC (.int 0)))) (elt:=a14) (tg:=g8 4) (c:=R9 (mtV (m1 (a3B "tuple") (c6 4))))
    (ρ:=[some (.val (.list (R.map mr))),some (.val c),some (.val (.list (R.map mr))),some (.val (mr t))]) t.1 (a17 (r:= .val (.list (t.1.map pl))) (by simp (disch:=omega) only [j5,l9,d5,f7,AH,i0]) rfl) (by have:=hs t ht;lia) fun q hq=>⟨_,rfl,rfl,fun h=>nomatch h⟩
   rw [List.filter_eq_nil_iff.mpr (by simp),Ae] at cm
   have ne0:gNe (.own []) (.own [])=some (.val (.bool false)):=rfl
   refine a1g rfl (ρ2:=[some (.val (.list (R.map mr))),some (.val c),some (.val (.list (R.map mr))),some (.val (mr t))]) ?_ ⟨_,rfl⟩
   show O2 [some (.val (.list (R.map mr))),some (.val c),some (.val (.list (R.map mr))),some (.val (mr t))]=_
   unfold O2
   simp (disch:=omega) only [j5,t7,l9,d5,f7,d6,d0,c8,L4,j6,g7,h9,m9,R4,t6,a3P,n0,v3,b0X,a0K,a3O,b2C,a6o,AH,BE,Ap,↓reduceIte,Bool.not_true,sz,Au,b5r,a6z,b4B,i0,i1,i2,nf,k0,k1,k2,b4f,cm,ne0]) ⟨none,rfl⟩
 have kl:S8 "list" (.list (R.map mr))=true:=rfl
 have hit:PyData.items? (.list (R.map mr))=some (R.map mr):=rfl
 unfold a0e a45
 simp (disch:=omega) only [j5,t7,l9,d5,f7,c8,m7,C3,g7,h9,m9,R4,t6,k9,m5,a3P,n0,v3,b0X,a0K,a3O,b2C,a6o,p7,AH,BE,AK,Ae,Ag,Af,Al,Ah,Bool.not_true,x9,a6z,b4B,kl,ne,hit,e1]
theorem b7b(n:Nat)(f:Nat->Nat->Nat):n4 (l8 n f) 50=true:=by
 unfold l8 a6d
 simp only [n4]
 refine a1Q fun p hp=> ?_
 obtain⟨a,_,rfl⟩:=AZ.mp hp
 rfl
theorem c0U(n:Nat)(f g:Nat->Nat->Nat)(k:Nat):n4 (.list (Uk n f g k)) 50=true:=by
 show z5 (Uk n f g k) 49=true
 exact a5Q fun p hp=>by
  obtain⟨a,b,rfl⟩:=b85 hp
  rfl
theorem a8S{q0 q1 q2 q3 q5 q7 q9:Option d7}{y:Nat}:∀(L:List Pt) (D:List (List g0×PV)) (q8:Option d7),D.length+L.length<=1000000->∃D' q8',(∀q,n6 D' (kp q)=if q∈L then some (row [y]) else n6 D (kp q))/\D'.length<=D.length+L.length/\
 B5 z7 (g8 8) (L.map pl) [q0,q1,q2,q3,some (.ow (.dct D)),q5,some (.val (row [y])),q7,q8,q9]=some (.nx [q0,q1,q2,q3,some (.ow (.dct D')),q5,some (.val (row [y])),q7,q8',q9])
 |[],D,q8,_=>⟨D,q8,fun q=>by simp,AM _,rfl⟩
 |p::L,D,q8,hl=>by
  have hp:=a0O D (kp p) (row [y])
  rw [AU] at hl
  obtain⟨D',q8',h1,h2,h3⟩:=a8S (q0:=q0) (q1:=q1) (q2:=q2) (q3:=q3) (q5:=q5) (q7:=q7) (q9:=q9) (y:=y) L (L5 D (kp p) (row [y])) (some (.val (pl p))) (by lia)
  refine⟨D',q8',fun q=> ?_,by rw [AU];lia, ?_⟩
  ·rw [h1 q,a7A]
   by_cases e:q∈L
   ·rw [if_pos e,if_pos (Ac _ e)]
   ·rw [if_neg e]
    by_cases e2:p=q
    ·rw [if_pos (by rw [e2]),if_pos (by rw [e2];exact AX)]
    ·rw [if_neg (fun z=>e2 (b5B z)),if_neg (fun z=>by
      rcases AV.mp z with z|z
      ·exact e2 z.symm
      ·exact e z)]
  ·have hb:z7 [q0,q1,q2,q3,some (.ow (.dct D)),q5,some (.val (row [y])),q7,some (.val (pl p)),q9]=some (.nx [q0,q1,q2,q3,some (.ow (.dct (L5 D (kp p) (row [y])))),q5,some (.val (row [y])),q7,some (.val (pl p)),q9]):=by
    unfold z7
    simp (disch:=omega) only [d5,f7,c8,AH,N3,L8]
    rw [a0z rfl (by lia)]
    rfl
   rw [AK,B5]
   show(z7 [q0,q1,q2,q3,some (.ow (.dct D)),q5,some (.val (row [y])),q7,some (.val (pl p)),q9]).bind _=_
   rw [hb,AH]
   exact h3
theorem a5p{q0 q1 q2 q3 q9:Option d7}{col:Pt->Nat}:∀(T:List Rec) (D:List (List g0×PV)) (q5 q6 q7 q8:Option d7),(∀t∈T,∀q∈t.1,col q=t.2.1)->(∀t∈T,t.1.length<=64)->D.length+64*T.length<=100000->∃D' q5' q6' q7' q8',(∀q,(∃t∈T,q∈t.1)\/n6 D (kp q)=some (row [col q])->n6 D' (kp q)=some (row [col q]))/\
 B5 z8 (a2k [5,6,7]) (T.map mr) [q0,q1,q2,q3,some (.ow (.dct D)),q5,q6,q7,q8,q9]=some (.nx [q0,q1,q2,q3,some (.ow (.dct D')),q5',q6',q7',q8',q9])
 |[],D,q5,q6,q7,q8,_,_,_=>⟨D,q5,q6,q7,q8,fun q h=>h.elim (fun⟨t,ht,_⟩=>nomatch ht) id,rfl⟩
 |t::T,D,q5,q6,q7,q8,hc,hs,hl=>by
  have hs1:=hs t AX
  rw [AU] at hl
  obtain⟨D1,q81,a1,a2,a3⟩:=a8S (q0:=q0) (q1:=q1) (q2:=q2) (q3:=q3) (q5:=some (.val (.list (t.1.map pl)))) (q7:=some (.val (.int t.2.2))) (q9:=q9) (y:=t.2.1) t.1 D q8 (by lia)
  obtain⟨D',q5',q6',q7',q8',b1,b2⟩:=a5p (q0:=q0) (q1:=q1) (q2:=q2) (q3:=q3) (q9:=q9) (col:=col) T D1 (some (.val (.list (t.1.map pl)))) (some (.val (row [t.2.1]))) (some (.val (.int t.2.2))) q81 (fun t' ht'=>hc t' (Ac _ ht')) (fun t' ht'=>hs t' (Ac _ ht')) (by lia)
  refine⟨D',q5',q6',q7',q8',fun q h=>b1 q ?_, ?_⟩
  ·by_cases hq:q∈t.1
   ·right
    rw [a1 q,if_pos hq,hc t AX q hq]
   ·rcases h with⟨t',ht',h⟩|h
    ·rcases AV.mp ht' with rfl|ht'
     ·exact absurd h hq
     ·exact .inl ⟨t',ht',h⟩
    ·right
     rw [a1 q,if_neg hq];exact h
  ·have hit:PyData.items? (.list (t.1.map pl))=some (t.1.map pl):=rfl
   have z:∀nn:MS,S9 5 nn [q0,q1,q2,q3,some (.ow (.dct D)),some (.val (.list (t.1.map pl))),some (.val (row [t.2.1])),some (.val (.int t.2.2)),q8,q9]=nn [q0,q1,q2,q3,some (.ow (.dct D)),some (.val (.list (t.1.map pl))),some (.val (row [t.2.1])),some (.val (.int t.2.2)),q8,q9]:=fun _=>rfl
   have hb:z8 [q0,q1,q2,q3,some (.ow (.dct D)),some (.val (.list (t.1.map pl))),some (.val (row [t.2.1])),some (.val (.int t.2.2)),q8,q9]=some (.nx [q0,q1,q2,q3,some (.ow (.dct D1)),some (.val (.list (t.1.map pl))),some (.val (row [t.2.1])),some (.val (.int t.2.2)),q81,q9]):=by
    unfold z8
    rw [z]
    simp (disch:=omega) only [d5,f7,c8,p7,AH,x9,hit,a3]
   rw [AK,B5]
   show(z8 [q0,q1,q2,q3,some (.ow (.dct D)),some (.val (.list (t.1.map pl))),some (.val (row [t.2.1])),some (.val (.int t.2.2)),q8,q9]).bind _=_
   rw [hb,AH]
   exact b2
theorem b8u{n:Nat}(hn:0<n)(hn8:n<=8)(f:Nat->Nat->Nat){col:Pt->Nat}{R:List Rec}(hc:∀t∈R,∀q∈t.1,col q=t.2.1)(hs:∀t∈R,t.1.length<=64)(hR:R.length<=64)(all:∀q,S7 n q->∃t∈R,q∈t.1):
 u7 [.tuple [l8 n fun r c=>col ((r:Int),(c:Int)),.list (Uk n f (fun r c=>col ((r:Int),(c:Int))) (n*n)),.list (R.map mr)],l8 n f,.list (R.map mr)]=some (.val (.bool true)):=by
 have hnn:n*n<=8*8:=Nat.mul_le_mul hn8 hn8
 obtain⟨g,hg⟩:∃g:Nat->Nat->Nat,g=fun(r c:Nat)=>col ((r:Int),(c:Int)):=⟨_,rfl⟩
 rw [<-hg]
 obtain⟨X,hX⟩:∃X:PV,X= .tuple [l8 n g,.list (Uk n f g (n*n)),.list (R.map mr)]:=⟨_,rfl⟩
 have i0:z9 (.val X) (.val (.int 0))=some (.val (l8 n g)):=by rw [hX];rfl
 have i1:z9 (.val X) (.val (.int 1))=some (.val (.list (Uk n f g (n*n)))):=by rw [hX];rfl
 have i2:z9 (.val X) (.val (.int 2))=some (.val (.list (R.map mr))):=by rw [hX];rfl
 have kT:S8 "tuple" X=true:=by rw [hX];rfl
 have nf:a9i X=false:=by rw [hX];rfl
 have l3:J0 (.val X)=some (.val (.int 3)):=by rw [hX];rfl
 have pk:=b3J hs (l8 n f)
 obtain⟨D,a5,a6,a7,a8,hD,e1⟩:=a5p (q0:=some (.val X)) (q1:=some (.val (l8 n f))) (q2:=some (.val (.list (R.map mr)))) (q3:=some (.val (.int n))) (q9:=none) (col:=col) R [] none none none none hc hs (by simp;lia)
 have hv:∀r c:Nat,r<n->c<n->n6 D [.inl (r:Nat),.inl (c:Nat)]=some (row [g r c]):=fun r c hr hc'=>by
  rw [hg]
  exact hD ((r:Int),(c:Int)) (.inl (all _ ⟨⟨by show(0:Int)<=(r:Int);lia,by show(r:Int)<n;lia⟩,by show(0:Int)<=(c:Int);lia,by show(c:Int)<n;lia⟩))
 have cm1:O4 1 (B0 (c5 (c6 3) e9)) (g8 10) U1 M5 [some (.val X),some (.val (l8 n f)),some (.val (.list (R.map mr))),some (.val (.int n)),some (.ow (.dct D)),a5,a6,a7,a8,none]=some (.own ((AQ n).map fun r=>row ((AQ n).map fun c=>g r c))):=by
  refine V9 (ι:=fun k:Nat=>PyData.int (k:Int)) (f:=fun r:Nat=>row ((AQ n).map fun(c:Nat)=>g r c)) (AQ n) (a4C (n:=n) rfl (by lia)) (by rw [Ax];lia) ?_
  intro r hr
  have hr:=List.mem_range.mp hr
  refine⟨_,rfl, ?_⟩
  unfold M5
  simp (disch:=omega) only [j5,l9,AH,Ag,Af,Al,Ah,Aa,Ab]
  rw [V9 (ι:=fun k:Nat=>PyData.int (k:Int)) (f:=fun c:Nat=>row [g r c]) (AQ n) (a4C (n:=n) rfl (by lia)) (by rw [Ax];lia)]
  ·simp (disch:=omega) only [c8,AH,show AS ""=S [] from rfl,a6r (k:=n) (by lia)]
  ·intro c hc
   have hc:=List.mem_range.mp hc
   refine⟨_,rfl, ?_⟩
   unfold X6
   rw [b7O (p:=row [g r c]) (by simp (disch:=omega) only [d5,f7,d6,d0,c8,AH,Ag,Af,Al,Ah,Aa,Ab]) rfl (hv r c hr hc)]
   rfl
 have ct:a1U (.own ((AQ n).map fun r=>row ((AQ n).map fun c=>g r c)))=some (.val (l8 n g)):=by
  simp (disch:=omega) only [a6s]
  unfold l8 a6d
  rw [As]
  rfl
 have rl:B0 (c5 (m2 N9 (c6 3) (c6 3)) e9) [some (.val X),some (.val (l8 n f)),some (.val (.list (R.map mr))),some (.val (.int n)),some (.ow (.dct D)),a5,a6,a7,a8,some (.val (l8 n g))]=some ((AQ (n*n)).map fun(k:Nat)=>PyData.int (k:Int)):=by
  rw [<-a5V]
  have:(n:Int)*(n:Int)=((n*n:Nat):Int):=by rw [Int.natCast_mul]
  simp (disch:=omega) only [Q5,j5,d5,f7,d6,d0,c8,y9,K2,AH,this]
 have cm:=V1 (ι:=fun(k:Nat)=>PyData.int (k:Int)) (f:=fun k=> .tuple [.int ((k / n:Nat):Int),.int ((k % n:Nat):Int)]) (q:=fun k=> !decide (g (k / n) (k % n)=f (k / n) (k % n))) (k:=1)
  (it:=B0 (c5 (m2 N9 (c6 3) (c6 3)) e9)) (elt:=M6) (tg:=g8 10)
  (c:=mtB (m2 gNe (m2 z9 (m2 z9 (c6 9) (m2 (gIc a5r fun i j=> .int (i / j)) (c6 10) (c6 3))) (m2 (gIc (fun _ j=>0<j) fun i j=> .int (i % j)) (c6 10) (c6 3))) (m2 z9 (m2 z9 (c6 1) (m2 (gIc a5r fun i j=> .int (i / j)) (c6 10) (c6 3))) (m2 (gIc (fun _ j=>0<j) fun i j=> .int (i % j)) (c6 10) (c6 3)))))
  (ρ:=[some (.val X),some (.val (l8 n f)),some (.val (.list (R.map mr))),some (.val (.int n)),some (.ow (.dct D)),a5,a6,a7,a8,some (.val (l8 n g))]) (AQ (n*n)) rl (by rw [Ax];lia) fun k hk=>by
  have hk':=List.mem_range.mp hk
  have d1:k / n<n:=Nat.div_lt_of_lt_mul hk'
  have d2:k % n<n:=Nat.mod_lt _ hn
  have e1:(k:Int)/(n:Int)=((k / n:Nat):Int):=(Int.natCast_ediv k n).symm
  have e2:(k:Int) %(n:Int)=((k % n:Nat):Int):=(Int.natCast_emod k n).symm
  refine⟨_,rfl, ?_,fun _=> ?_⟩
  ·have i1:=a2m (n:=n) (f:=g) (i:=((k / n:Nat):Int)) (Int.natCast_nonneg _) (Int.ofNat_lt.mpr d1)
   have i2:=a2m (n:=n) (f:=f) (i:=((k / n:Nat):Int)) (Int.natCast_nonneg _) (Int.ofNat_lt.mpr d1)
   have j1:=a7b (n:=n) (g:=fun c=>g (k / n) c) (j:=((k % n:Nat):Int)) (Int.natCast_nonneg _) (Int.ofNat_lt.mpr d2) (by lia)
   have j2:=a7b (n:=n) (g:=fun c=>f (k / n) c) (j:=((k % n:Nat):Int)) (Int.natCast_nonneg _) (Int.ofNat_lt.mpr d2) (by lia)
   rw [tn] at i1 i2 j1 j2
   show mtB _ [some (.val X),some (.val (l8 n f)),some (.val (.list (R.map mr))),some (.val (.int n)),some (.ow (.dct D)),a5,a6,a7,a8,some (.val (l8 n g)),some (.val (.int (k:Int)))]=_
   simp (disch:=omega) only [v5,a0F,j5,d5,f7,n0,v3,AH,e1,e2,i1,i2,j1,j2,b2o,a92]
  ·unfold M6
   have dm:U7 (.val (.int (k:Int))) (.val (.int (n:Int)))=some (.val (.tuple [.int ((k / n:Nat):Int),.int ((k % n:Nat):Int)])):=by
    rw [<-e1,<-e2]
    unfold U7
    simp
    lia
   show(m2 U7 (c6 10) (c6 3) [some (.val X),some (.val (l8 n f)),some (.val (.list (R.map mr))),some (.val (.int n)),some (.ow (.dct D)),a5,a6,a7,a8,some (.val (l8 n g)),some (.val (.int (k:Int)))]).bind d7.toVal=_
   simp (disch:=omega) only [j5,d5,f7,c8,AH,dm]
 have eU:((AQ (n*n)).filter fun k=> !decide (g (k / n) (k % n)=f (k / n) (k % n))).map (fun k=>PyData.tuple [.int ((k / n:Nat):Int),.int ((k % n:Nat):Int)])=Uk n g f (n*n):=by
  unfold Uk
  generalize AQ (n*n)=l
  induction l with
  |nil=>rfl
  |cons a r ih=>
   rw [List.filter_cons,List.filterMap_cons]
   by_cases c:g (a / n) (a % n)=f (a / n) (a % n)
   ·rw [if_neg (by simp [c])]
    have:uf n g f a=none:=by unfold uf;rw [if_pos c]
    rw [this];exact ih
   ·rw [if_pos (by simp [c]),AK,ih]
    have:uf n g f a=some (.tuple [.int ((a / n:Nat):Int),.int ((a % n:Nat):Int)]):=by unfold uf;rw [if_neg c]
    rw [this]
 rw [eU,b60] at cm
 have ne1:=a1S (b7b n g)
 have okU:=c0U n f g (n*n)
 have eq1:gEq (.val (.list (Uk n f g (n*n)))) (.bo (.lst (Uk n f g (n*n))))=some (.val (.bool true)):=by
  have h:=a1S okU
  rw [b9w (x:= .val (.list (Uk n f g (n*n)))) (y:= .bo (.lst (Uk n f g (n*n)))) ⟨okU,okU⟩]
  rw [b1l (x:= .val (.list (Uk n f g (n*n)))) (y:= .val (.list (Uk n f g (n*n)))) ⟨okU,okU⟩] at h
  have h:=Option.some.inj h
  injection h with h
  injection h with h
  show some (d7.val (.bool (PyData.eqv (.list (Uk n f g (n*n))) (.list (Uk n f g (n*n))))))=_
  have h':PyData.eqv (.list (Uk n f g (n*n))) (.list (Uk n f g (n*n)))=true:=by
   cases hh:PyData.eqv (.list (Uk n f g (n*n))) (.list (Uk n f g (n*n))) with
   |true=>rfl
   |false=>
    have h:(!PyData.eqv (.list (Uk n f g (n*n))) (.list (Uk n f g (n*n))))=false:=h
    rw [hh] at h;cases h
  rw [h']
 have kc:S8 "tuple" (l8 n g)=true:=rfl
 have nc:a9i (l8 n g)=false:=by unfold l8 a6d;cases n with
  |zero=>lia
  |succ n=>rfl
 have kU:S8 "list" (.list (Uk n f g (n*n)))=true:=rfl
 have hit:PyData.items? (.list (R.map mr))=some (R.map mr):=rfl
 show u7 [.tuple [l8 n g,.list (Uk n f g (n*n)),.list (R.map mr)],l8 n f,.list (R.map mr)]=_
 rw [<-hX]
 unfold u7 a1o
 simp (disch:=omega) only [j5,t7,l9,d5,A0,f7,d6,d0,c8,j6,i9,u9,m7,C3,g7,h9,m9,R4,t6,k9,m5,a3P,n0,v3,b0X,a0K,a3O,b2C,b5P,b88,a6o,p7,AH,BE,AK,Ae,Ag,Af,Al,Ah,Aa,Ab,Bool.not_true,x9,beq_self_eq_true,c05,a6z,b4B,a0y,kT,nf,l3,i0,i1,i2,pk,a2s,a0X,hit,e1,cm1,ct,cm,kc,nc,ne1,kU,eq1]
theorem a9x{n:Nat}(hn:0<n)(hn8:n<=8)(N:Int):∃w∈u4,∃d t:Nat,d<n/\t<n/\G9 [.int n,.int N]=some (.val (T3 w (d:Nat) (t:Nat))):=by
 have hl:=a9W u4 n
 have e8:u4.length=8:=rfl
 have hp:0<n*n:=Nat.mul_pos hn hn
 have ec:(8:Int)*n*n=((Z0 u4 n).length:Int):=by
  rw [hl,e8,Int.natCast_mul,Int.natCast_mul,Int.mul_assoc]
  rfl
 have hpl:0<(Z0 u4 n).length:=by rw [hl,e8];lia
 have h0:0<=N %((Z0 u4 n).length:Int):=Int.emod_nonneg _ (by lia)
 have h1:N %((Z0 u4 n).length:Int)<(Z0 u4 n).length:=Int.emod_lt_of_pos _ (by lia)
 have hk:(N %((Z0 u4 n).length:Int)).toNat<(Z0 u4 n).length:=by lia
 obtain⟨w,hw,d,t,hd,ht,e⟩:=b5Y.mp (List.getElem_mem hk)
 have ix:z9 (.ow (.lst (Z0 u4 n))) (.val (.int (N %((Z0 u4 n).length:Int))))=some (.val (T3 w (d:Nat) (t:Nat))):=by
  refine b7z (p:=T3 w (d:Nat) (t:Nat)) ?_
  rw [a0Y h0,Aw hk,e]
 have hpos:0<(8:Int)*n*n:=by rw [ec];lia
 refine⟨w,hw,d,t,hd,ht, ?_⟩
 unfold G9 a1F
 simp (disch:=omega) only [Q5,v5,j5,l9,d5,f7,d6,d0,c8,j6,m7,k9,AH,AK,Ae,Af,Aq,b62 hn8]
 rw [ec]
 simp (disch:=omega) only [C3,m5,AH,ix]
theorem a8d{ns:List Int}{k:Int}(h0:0<=k):∃c:Int,L3 [.list (ns.map .int),.int k]=some (.val (.int c)):=by
 unfold L3 a2J
 by_cases h:k<ns.length
 ·have hk:k.toNat<ns.length:=by lia
  have e:L2.atI (ns.map PyData.int) k=some (.int ns[k.toNat]):=by
   rw [a0Y h0,Ak,Aw hk];rfl
  refine⟨ns[k.toNat], ?_⟩
  simp (disch:=omega) only [a4o,P6,j5,t7,d5,f7,g7,m9,k9,n0,v3,AH,AK,Ae,Af,Aq,AO,a3C e]
  simp only [h,decide_true]
  simp (disch:=omega) only [j5,d5,f7,m7,C3,b8k,a2P,m5,AH,a3C e]
 ·refine⟨0, ?_⟩
  simp (disch:=omega) only [a4o,P6,j5,t7,d5,f7,g7,m9,k9,n0,v3,AH,AK,Ae,Af,Aq,AO]
  simp only [h,decide_false]
  simp (disch:=omega) only [l9,m7,C3,h9,R4,t6,m5,AH]
theorem b8n(cs:List Int)(lo hi:Option Int):gSl (.val (.list (cs.map .int))) lo hi=some (.own ((cut cs lo hi).map .int)):=by
 show some _=_
 rw [show cut (cs.map PyData.int) lo hi=(cut cs lo hi).map PyData.int by unfold cut;rw [AO,List.map_take,List.map_drop]]
abbrev mT(x:Tr):PV:=T3 x.1 (x.2.1:Nat) (x.2.2:Nat)
theorem b9g{cs:List Int}{k:Nat}(h:k<cs.length):0<(cut cs (some (k:Int)) none).length:=by
 unfold cut
 rw [HT.sIx_nat,HT.sIx_none,List.length_take,List.length_drop]
 lia
theorem b7i{α:Type}{xs:List α}{lo hi:Option Int}{x:α}(h:x∈cut xs lo hi):x∈xs:=List.mem_of_mem_drop (List.mem_of_mem_take h)
theorem b7j(ms:List Tr)(lo hi:Option Int):cut (K8 ms) lo hi=K8 (cut ms lo hi):=by
 unfold cut K8;rw [AO,List.map_take,List.map_drop]
theorem b8D{n:Nat}(hn:0<n)(hn8:n<=8){N:Int}(hN:0<=N):∃ms:List Tr,(∀x∈ms,x.1∈u4)/\ms.length<=10/\X3 [.int n,.int N]=some (.own (K8 ms)):=by
 obtain⟨v,ev,hv⟩:∃v:Nat,N % 5=(v:Int)/\v<5:=⟨(N % 5).toNat,by lia,by lia⟩
 have exw:∀k:Nat,∃x:Tr,k<5->x.1∈u4/\G9 [.int n,.int (a3N N (20+(k:Int)))]=some (.val (mT x)):=fun k=>by
  obtain⟨w,hw,d,t,_,_,e⟩:=a9x hn (by lia) (a3N N (20+(k:Int)))
  exact⟨(w,d,t),fun _=>⟨hw,e⟩⟩
 obtain⟨xw,hxw⟩:=Classical.skolem.mp exw
 have cw:=V9 (ι:=fun k:Nat=>PyData.int (k:Int)) (f:=fun k=>mT (xw k)) (k:=1) (it:=B0 (c5 (m2 (gIc (fun _ j=>0<j) fun i j=> .int (i % j)) (c6 1) (mC (.int 5))) e9)) (elt:=a0u) (tg:=g8 3)
  (ρ:=[some (.val (.int n)),some (.val (.int N)),none]) (AQ v)
  (by
   rw [<-a5V]
   simp (disch:=omega) only [v5,j5,l9,d5,f7,d6,d0,c8,y9,K2,AH,ev])
  (by rw [Ax];lia) fun k hk=>⟨_,rfl,by
   have hk:=List.mem_range.mp hk
   have xm:=W0 (c:=N) (k:=20+(k:Int)) (by lia)
   unfold a0u
   simp (disch:=omega) only [z6,j5,l9,d5,f7,d6,d0,c8,j6,AH,Ag,Af,Al,Ah,Aa,Ab,xm,(hxw k (by lia)).2]⟩
 have ew:(AQ v).map (fun k=>mT (xw k))=K8 ((AQ v).map xw):=by unfold K8;rw [As];rfl
 rw [ew] at cw
 have hms:∀x∈(AQ v).map xw,x.1∈u4:=fun x hx=>by
  obtain⟨k,hk,rfl⟩:=AZ.mp hx
  exact(hxw k (by have:=List.mem_range.mp hk;lia)).1
 have hmw:((AQ v).map xw).length<=5:=by rw [AO,Ax];lia
 generalize (AQ v).map xw=ms at cw hms hmw
 have hcl:=a3w ms none (some 1)
 have sl:gSl (.bo (.lst (K8 ms))) none (some 1)=some (.own (K8 (cut ms none (some 1)))):=by rw [<-b7j];rfl
 have ad:E2 (.bo (.lst (K8 ms))) (.own (K8 (cut ms none (some 1))))=some (.own (K8 (ms++cut ms none (some 1)))):=by
  have:=b7y (ps:=K8 ms) (qs:=K8 (cut ms none (some 1))) (by rw [sizeLine_eq,AO,AO];lia)
  rw [show K8 (ms++cut ms none (some 1))=K8 ms++K8 (cut ms none (some 1)) from BC]
  exact this
 by_cases c:N / 5 % 4=0
 ·refine⟨ms++cut ms none (some 1),fun x hx=> ?_,by rw [Ai];lia, ?_⟩
  ·rcases Ar.mp hx with h|h
   ·exact hms x h
   ·exact hms x (b7i h)
  ·unfold X3 a2X
   simp (disch:=omega) only [v5,a0F,j5,l9,d5,A0,f7,i9,P5,g7,h9,m9,a2P,k9,m5,n0,v3,AH,AK,Ae,Ag,Af,Al,Ah,Aa,Ab,a09,a1b,a28,a5J,a0h,a0i,beq_self_eq_true,a8o,cw,c,sl,ad]
 ·have c':(N / 5 % 4==0)=false:=by rw [beq_eq_false_iff_ne];exact c
  refine⟨ms,hms,by lia, ?_⟩
  unfold X3 a2X
  simp (disch:=omega) only [v5,a0F,j5,l9,d5,f7,i9,P5,g7,h9,m9,R4,t6,k9,m5,n0,v3,AH,AK,Ae,Ag,Af,Al,Ah,Aa,Ab,a0h,a0i,a8o,cw,c']
theorem b3N{x h:Nat}{A:List Nat}{m1:M}{mc:MT}{n:MS}{ρ:c7}{L:List PV}{p0:PV}{ps cs ts qs:List PV}(fA:b2h A ρ=true)(hh:ρ[h]?=some (some (.ow (.lst L))))(fL:a2N L=true)
 (e1:m1 ((keep A ρ).set h (some (.val (.list L))))=some (.val (.tuple [p0,.list ps,.list (.tuple (.list cs::ts)::qs)]))) (hx:x<ρ.length) (hhx:(h==x)=false) (h1:ps.length+5<16777216) (h2:cs.length+5<16777216) (h3:qs.length+5<16777216)
 (tst:mc ((ρ.set h (some (.val (.list L)))).set x (some (.val (.tuple [p0,.list ps,.list (.tuple (.list cs::ts)::qs)]))))=some false):a4B x h A m1 mc n ρ=n ((ρ.set h none).set x none):=by
 unfold a4B
 rw [if_pos fA,hh]
 show(if _ then _ else _)=_
 rw [if_pos fL,e1]
 show(if _ then _ else _)=_
 rw [if_pos ⟨hx,hhx,by rw [sizeLine_eq];exact h1,by rw [sizeLine_eq];exact h2,by rw [sizeLine_eq];exact h3,tst⟩]
theorem a4l{α:Type}{g:α->PV}(h:∀x,a7L (g x)=true):∀l:List α,a2N (l.map g)=true
 |[]=>rfl
 |x::l=>by rw [AK];unfold a2N;rw [h x,a4l h l];rfl
theorem b3p(n:Nat)(f:Nat->Nat->Nat):a7L (l8 n f)=true:=by
 unfold l8 a6d
 show a2N _=true
 exact a4l (fun _=>rfl) _
theorem b9P(ms:List Tr):n4 (.list (K8 ms)) 50=true:=by
 show z5 (K8 ms) 49=true
 exact a1Q fun p hp=>by
  obtain⟨x,_,rfl⟩:=AZ.mp hp
  rfl
section
variable (nn:MS)(s0 s1 s2 s3 s4 s5 s6 s7 s8 s9 q10 q11 q12:Option d7)(L:List PV)
theorem c1N:S9 3 nn [s0,s1,s2,some (.ow (.lst L)),s4,s5,s6,s7,s8,s9,q10,q11,q12]=nn [s0,s1,s2,some (.val (.list L)),s4,s5,s6,s7,s8,s9,q10,q11,q12]:=rfl
theorem c1O:S9 3 nn [s0,s1,s2,some (.val (.list L)),s4,s5,s6,s7,s8,s9,q10,q11,q12]=nn [s0,s1,s2,some (.val (.list L)),s4,s5,s6,s7,s8,s9,q10,q11,q12]:=rfl
theorem c03:S9 9 nn [s0,s1,s2,s3,s4,s5,s6,s7,s8,some (.ow (.lst L)),q10,q11,q12]=nn [s0,s1,s2,s3,s4,s5,s6,s7,s8,some (.val (.list L)),q10,q11,q12]:=rfl
theorem c1P:S9 9 nn [s0,s1,s2,s3,s4,s5,s6,s7,s8,some (.val (.list L)),q10,q11,q12]=nn [s0,s1,s2,s3,s4,s5,s6,s7,s8,some (.val (.list L)),q10,q11,q12]:=rfl
theorem c04:S9 11 nn [s0,s1,s2,s3,s4,s5,s6,s7,s8,s9,q10,some (.ow (.lst L)),q12]=nn [s0,s1,s2,s3,s4,s5,s6,s7,s8,s9,q10,some (.val (.list L)),q12]:=rfl
theorem c1Q:S9 11 nn [s0,s1,s2,s3,s4,s5,s6,s7,s8,s9,q10,some (.val (.list L)),q12]=nn [s0,s1,s2,s3,s4,s5,s6,s7,s8,s9,q10,some (.val (.list L)),q12]:=rfl
end
theorem b79{n:Nat}(hn:0<n)(hn7:n<=7)(f:Nat->Nat->Nat){ms:List Tr}(hms:∀x∈ms,x.1∈u4){m:List (List Pt)}(hm:LN n ms m)(ho:m.Pairwise RL)(hc:∀q,S7 n q->∃L∈m,q∈L)(hB:∀L∈m,Bst f L (bxx f L))(s0 s1 s2 s3 s4 s5 s6 s7 q12:Option d7):
 (a4B 12 10 [8] (o0 R3 (c5 (c6 8) (c5 (c6 10) e9))) (a5z (R9 (mtV (o0 u7 (c5 (c6 12) (c5 (c6 8) (c5 (c6 11) e9)))))) (mtB (m2 gNe (c6 10) (c6 9))))
 (S9 9 (S9 11 (T0 (R9 (mtV (o0 u7 (c5 (o0 R3 (c5 (c6 8) (c5 (c6 9) e9))) (c5 (c6 8) (c5 (c6 11) e9)))))) (E3 (mC (.bool false))) D4))))
  [s0,s1,s2,s3,s4,s5,s6,s7,some (.val (l8 n f)),some (.val (.list (K8 ms))),some (.own (K8 ms)),some (.val (.list ((m.map (O6 f (bxx f))).map mr))),q12]
 =some (.nx [s0,s1,s2,s3,s4,s5,s6,s7,some (.val (l8 n f)),some (.val (.list (K8 ms))),none,some (.val (.list ((m.map (O6 f (bxx f))).map mr))),none]):=by
 have hnn:n*n<=7*7:=Nat.mul_le_mul hn7 hn7
 obtain⟨m',bx,col,hm',hc',hl,ho',hb,em⟩:=b3P hn hn7 hms f
 have e:m'=m:=c1b hn hms hm' hm hc' hc ho' ho
 subst e
 have er:m'.map (O6 f bx)=m'.map (O6 f (bxx f)):=List.map_congr_left fun L hL=>by
  unfold O6
  rw [(hb L hL).1.uniq (hB L hL)]
 rw [er] at em
 have tw:=b8u hn (by lia:n<=8) f (col:=col) (R:=m'.map (O6 f (bxx f))) (fun t ht q hq=>by
  obtain⟨L,hL,rfl⟩:=AZ.mp ht
  rw [(hb L hL).2 q hq]
  exact(hb L hL).1.uniq (hB L hL)) (fun t ht=>by
  obtain⟨L,hL,rfl⟩:=AZ.mp ht
  exact(hm'.lane L hL).1) (by rw [AO];lia) fun q hq=>by
  obtain⟨L,hL,h⟩:=hc' q hq
  exact⟨_,AZ.mpr ⟨L,hL,rfl⟩,h⟩
 have ne:=a1S (b9P ms)
 have hUl:=b4r n f (fun r c=>col ((r:Int),(c:Int))) (n*n)
 obtain⟨L0,hL0,_⟩:=hc' ((0:Int),(0:Int)) ⟨⟨Int.le_refl _,by show(0:Int)<n;lia⟩,Int.le_refl _,by show(0:Int)<n;lia⟩
 cases m' with
 |nil=>cases hL0
 |cons A m'=>
  have hAl:=(hm'.lane A AX).1
  rw [AU] at hl
  have hT:((A::m').map (O6 f (bxx f))).map mr= .tuple (.list (A.map pl)::[row [bxx f A],.int (cnt (bxx f A) (A.map (A7 f)))])::(m'.map (O6 f (bxx f))).map mr:=rfl
  have fA:b2h [8] [s0,s1,s2,s3,s4,s5,s6,s7,some (.val (l8 n f)),some (.val (.list (K8 ms))),some (.own (K8 ms)),some (.val (.list (((A::m').map (O6 f (bxx f))).map mr))),q12]=true:=by
   show(a7L (l8 n f)&& true)=true
   rw [b3p];rfl
  rw [b3N (L:=K8 ms) (p0:=l8 n fun r c=>col ((r:Int),(c:Int))) (ps:=Uk n f (fun r c=>col ((r:Int),(c:Int))) (n*n)) (cs:=A.map pl) (ts:=[row [bxx f A],.int (cnt (bxx f A) (A.map (A7 f)))]) (qs:=(m'.map (O6 f (bxx f))).map mr) fA rfl (a4l (fun _=>rfl) ms) ?_ (by simp) rfl (by lia) (by rw [AO];lia) (by rw [AO,AO];lia) ?_]
  ·show S9 9 _ [s0,s1,s2,s3,s4,s5,s6,s7,some (.val (l8 n f)),some (.val (.list (K8 ms))),none,some (.val (.list (((A::m').map (O6 f (bxx f))).map mr))),none]=_
   generalize ((A::m').map (O6 f (bxx f))).map mr=T at em tw ⊢
   rw [c1P,c1Q]
   simp (disch:=omega) only [d5,f7,d6,d0,c8,j6,m9,R4,t6,a3P,b0X,a0K,AH,BE,Bool.not_true,em,tw]
  ·rw [<-hT]
   show o0 R3 (c5 (c6 8) (c5 (c6 10) e9)) [none,none,none,none,none,none,none,none,some (.val (l8 n f)),none,some (.val (.list (K8 ms))),none,none]=_
   generalize ((A::m').map (O6 f (bxx f))).map mr=T at em tw ⊢
   simp (disch:=omega) only [d5,f7,d6,d0,c8,j6,AH,em]
  ·rw [<-hT]
   show a5z _ _ [s0,s1,s2,s3,s4,s5,s6,s7,some (.val (l8 n f)),some (.val (.list (K8 ms))),some (.val (.list (K8 ms))),some (.val (.list (((A::m').map (O6 f (bxx f))).map mr))),some (.val (.tuple [l8 n fun r c=>col ((r:Int),(c:Int)),.list (Uk n f (fun r c=>col ((r:Int),(c:Int))) (n*n)),.list (((A::m').map (O6 f (bxx f))).map mr)]))]=_
   generalize ((A::m').map (O6 f (bxx f))).map mr=T at em tw ⊢
   simp (disch:=omega) only [j5,d5,f7,d6,d0,c8,j6,a3P,n0,v3,b0X,a0K,a3O,b2C,AH,BE,Bool.not_true,tw,ne]
theorem b5E{cs:List Int}{ls:List Nat}(hls:0<ls.length)(hcs:cs.length<100){i:Nat}(hi:i<cs.length){A:Int}(hA:0<=A)(s0 s2:Option d7){s3:d7}(h3:s3= .ow (.lst (ls.map fun x=>row [x]))\/s3= .val (.list (ls.map fun x=>row [x])))(q6 q7 q8 q9 q10 q11 q12:Option d7):
 ∃q6' q7' q8' q9' q10' q11' q12',a3K [s0,some (.val (.int A)),s2,some s3,some (.own (cs.map .int)),some (.val (.int (i:Int))),q6,q7,q8,q9,q10,q11,q12]=some (.nx [s0,some (.val (.int A)),s2,some (.val (.list (ls.map fun x=>row [x]))),some (.own (cs.map .int)),some (.val (.int (i:Int))),q6',q7',q8',q9',q10',q11',q12']):=by
 have ix:z9 (.bo (.lst (cs.map .int))) (.val (.int (i:Int)))=some (.val (.int cs[i])):=a5H (by rw [b4y,Ak,Aw hi];rfl)
 have xm:=W0 (c:=cs[i]) (k:=(i:Int)+70) (by lia)
 have hN:=(b5Z cs[i] ((i:Int)+70)).1
 generalize a3N cs[i] ((i:Int)+70)=N at xm hN
 obtain⟨n,en,hn,hn7⟩:∃n:Nat,1+(A+(i:Int)) % 6=(n:Int)/\0<n/\n<=7:=⟨(1+(A+(i:Int)) % 6).toNat,by lia,by lia,by lia⟩
 have sl1:gSl (.bo (.lst (cs.map .int))) (some (i:Int)) none=some (.own ((cut cs (some (i:Int)) none).map .int)):=by
  show some _=_
  rw [show cut (cs.map PyData.int) (some (i:Int)) none=(cut cs (some (i:Int)) none).map PyData.int by unfold cut;rw [AO,List.map_take,List.map_drop]]
 have sl2:gSl (.bo (.lst (cs.map .int))) none (some (i:Int))=some (.own ((cut cs none (some (i:Int))).map .int)):=by
  show some _=_
  rw [show cut (cs.map PyData.int) none (some (i:Int))=(cut cs none (some (i:Int))).map PyData.int by unfold cut;rw [AO,List.map_take,List.map_drop]]
 have c1:=a3w cs (some (i:Int)) none
 have c2:=a3w cs none (some (i:Int))
 have ad:E2 (.own ((cut cs (some (i:Int)) none).map .int)) (.own ((cut cs none (some (i:Int))).map .int))=some (.own ((cut cs (some (i:Int)) none++cut cs none (some (i:Int))).map .int)):=by
  rw [b2l (by rw [AO,AO,sizeLine_eq];lia),BC]
 have cne:=b9g hi
 obtain⟨f,ef⟩:=b4E (cs:=cut cs (some (i:Int)) none++cut cs none (some (i:Int))) (by rw [Ai];lia) (ls:=ls) hls hn (by lia) (N / 7)
 obtain⟨ms,hms,hml,ew⟩:=b8D hn (by lia:n<=8) hN
 have gl:a9b (.bo (.lst (K8 ms)))=some (.own (K8 ms)):=rfl
 obtain⟨m,hm,ho,hc,hB,ed⟩:=b9k hn hn7 hms f
 have pk:=b79 hn hn7 f hms hm ho hc hB s0 (some (.val (.int A))) s2 (some (.val (.list (ls.map fun x=>row [x])))) (some (.own (cs.map .int))) (some (.val (.int (i:Int)))) (some (.val (.int N))) (some (.val (.int (n:Int)))) q12
 refine⟨some (.val (.int N)),some (.val (.int (n:Int))),some (.val (l8 n f)),some (.val (.list (K8 ms))),none,some (.val (.list ((m.map (O6 f (bxx f))).map mr))),none, ?_⟩
 unfold a3K
 rcases h3 with rfl|rfl
 ·simp (disch:=omega) only [z6,v5,a0F,j5,t7,l9,d5,A0,f7,d6,d0,c8,Q0,j6,i9,u9,P5,g7,h9,AH,Aa,Ab,a09,a1b,a28,a5J,ix,xm,en,c1N,sl1,sl2,ad,ef,ew,gl,c03,ed,c04,pk]
 ·simp (disch:=omega) only [z6,v5,a0F,j5,t7,l9,d5,A0,f7,d6,d0,c8,Q0,j6,i9,u9,P5,g7,h9,AH,Aa,Ab,a09,a1b,a28,a5J,ix,xm,en,c1O,sl1,sl2,ad,ef,ew,gl,c03,ed,c04,pk]
theorem main:∀ns:List Int,ns.length<=63->b5l [.list (ns.map .int)]=some (.val (.bool true)):=by
 intro ns hl
 obtain⟨c0,hc0⟩:=a8d (ns:=ns) (k:=0) (by lia)
 obtain⟨c1,hc1⟩:=a8d (ns:=ns) (k:=1) (by lia)
 have x0:=W0 (c:=c0) (k:=0) (by lia)
 have x1:=W0 (c:=c1) (k:=1) (by lia)
 have hA0:=(b5Z c0 0).1
 generalize a3N c0 0=A at x0 hA0
 generalize a3N c1 1=B at x1
 obtain⟨j,ej,hj⟩:∃j:Nat,1+B / 26 % 5=(j:Int)/\0<j/\j<10:=⟨(1+B / 26 % 5).toNat,by lia,by lia,by lia⟩
 obtain⟨ls,hls,els⟩:=b0t B (m:=j) (by lia)
 have hcut:(cut ns (some 2) (some 14)).length<=ns.length:=a3w _ _ _
 have gs:=b8n ns (some 2) (some 14)
 have cat:E2 (.own ((cut ns (some 2) (some 14)).map .int)) (.own [.int (ns.length:Int)])=some (.own ((cut ns (some 2) (some 14)++[(ns.length:Int)]).map .int)):=by
  rw [b2l (by rw [AO,sizeLine_eq];simp only [AU,Ap];lia),BC]
  rfl
 have hcs:(cut ns (some 2) (some 14)++[(ns.length:Int)]).length<100:=by rw [Ai,List.length_singleton];lia
 generalize cut ns (some 2) (some 14)++[(ns.length:Int)]=cs at cat hcs
 obtain⟨ρ1,e1,s3,q5,q6,q7,q8,q9,q10,q11,q12,_,rfl⟩:=B8 (body:=a3K) (tg:=g8 5) (fun _ ρ=>∃(s3:d7) (q5 q6 q7 q8 q9 q10 q11 q12:Option d7),(s3= .ow (.lst (ls.map fun x=>row [x]))\/s3= .val (.list (ls.map fun x=>row [x])))/\ρ=[some (.val (.list (ns.map .int))),some (.val (.int A)),some (.val (.int B)),some s3,some (.own (cs.map .int)),q5,q6,q7,q8,q9,q10,q11,q12])
  (ps:=P9 0 cs.length) (ρ:=[some (.val (.list (ns.map .int))),some (.val (.int A)),some (.val (.int B)),some (.own (ls.map fun x=>row [x])),some (.own (cs.map .int)),none,none,none,none,none,none,none,none])
  (by
   rintro i p hp ρ ⟨s3,q5,q6,q7,q8,q9,q10,q11,q12,h3,rfl⟩
   obtain⟨rfl,hi⟩:=a2y hp
   have hi':(0:Int)+(i:Int)=(i:Int):=by lia
   rw [hi'] at hi ⊢
   obtain⟨a6,a7,a8,a9,a10,a11,a12,e⟩:=b5E (cs:=cs) (ls:=ls) (by lia) hcs (i:=i) (by lia) hA0 (some (.val (.list (ns.map .int)))) (some (.val (.int B))) h3 q6 q7 q8 q9 q10 q11 q12
   exact a1g rfl e ⟨_,_,_,_,_,_,_,_,_,.inr rfl,rfl⟩) ⟨_,none,none,none,none,none,none,none,none,.inl rfl,rfl⟩
 have gc:J0 (.bo (.lst (cs.map .int)))=some (.val (.int cs.length)):=by
  show some _=_
  rw [AO]
 unfold b5l b8H
 simp (disch:=omega) only [z6,v5,a0F,P6,j5,t7,l9,d5,A0,f7,d6,d0,c8,L4,j6,i9,u9,P5,m7,C3,g7,h9,k9,m5,p7,y9,K2,AH,AK,Ae,Ag,Af,Al,Ah,Aa,Ab,AU,Ap,↓reduceIte,a09,a1b,a5J,AO,sz,Nat.reduceAdd,Au,hc0,x0,hc1,x1,ej,els,gs,cat,gc,e1]
end LW
set_option maxHeartbeats 4000000
namespace LW
open PySem PySem.Spec PyProof.Rows L2 PU
def top(i:Nat):Stmt:=PySem.Challenge.pw_carpetkin_k91_mended.main.body.getD i (.Pass ⟨0,0,0,0⟩)
abbrev a2c:Stmt:=top 31
theorem a3Z:l0 ["_law_cell","_law_k"] ["_law_cell","_law_k"] (f9 a2c):=mkS
theorem a4E:List.Nodup (α:=Str) ["_law_seed","_law_many","_law_letters_here","_law_k"]:=by decide+kernel
abbrev a0x:Stmt:=top 37
theorem a2i:l0 ["_law_seed","_law_many","_law_letters_here"] ["_law_seed","_law_many"] (f9 a0x):=mkS
abbrev a0v:Stmt:=top 29
theorem a2g:l0 ["_law_script","_law_k"] ["_law_script","_law_k"] (f9 a0v):=mkS
abbrev a1e:Stmt:=top 38
theorem a2U:l0 ["_law_cells","_law_n","_law_letters_here","_law_seed","_law_rows","_law_r","_law_row","_law_c","_law_at"] ["_law_cells","_law_n","_law_letters_here","_law_seed"] (f9 a1e):=mkS
abbrev a4R:Stmt:=top 34
theorem a7g:l0 ["_law_n","_law_found","_law_way","_law_south","_law_east"] ["_law_n"] (f9 a4R):=mkS
abbrev Y3:Stmt:=top 35
theorem a1u:l0 ["_law_n","_law_cell"] ["_law_n","_law_cell"] (f9 Y3):=mkS
theorem a7R:List.Nodup (α:=Str) ["_law_n","_law_cell","_law_found","_law_j"]:=by decide+kernel
abbrev a3i:Stmt:=top 44
theorem a5l:l0 ["_law_n","_law_cell","_law_found"] ["_law_n","_law_cell"] (f9 a3i):=mkS
abbrev a4U:Stmt:=top 32
theorem a7j:l0 ["_law_n","_law_movement_here","_law_place","_law_r","_law_c","_law_way","_law_south","_law_east"] ["_law_n","_law_movement_here","_law_place"] (f9 a4U):=mkS
abbrev a0w:Stmt:=top 39
theorem a2h:l0 ["_law_n","_law_wish_here","_law_met","_law_found","_law_k","_law_first","_law_spots","_law_at","_law_movement_here","_law_goal"] ["_law_n","_law_wish_here"] (f9 a0w):=mkS
abbrev a4T:Stmt:=top 40
theorem a7i:l0 ["_law_carpet_here","_law_spots","_law_had_here","_law_r","_law_c"] ["_law_carpet_here","_law_spots"] (f9 a4T):=mkS
theorem a9y:List.Nodup (α:=Str) ["_law_carpet_here","_law_wish_here","_law_found","_law_spots","_law_had_here","_law_many","_law_colour"]:=by decide+kernel
abbrev a4S:Stmt:=top 43
theorem a7h:l0 ["_law_carpet_here","_law_wish_here","_law_found","_law_spots","_law_had_here","_law_many"] ["_law_carpet_here","_law_wish_here"] (f9 a4S):=mkS
abbrev a3j:Stmt:=top 8
theorem a5m:l0 ["way","place","lead"] ["way","place"] (f9 a3j):=mkS
abbrev b6G:Stmt:=top 9
theorem b6I:l0 ["side","movement","place","found"] ["side","movement","place"] (f9 b6G):=mkS
abbrev D9:Stmt:=top 11
theorem a2f:l0 ["n","movements","place","known","waiting","at","movement","come"] ["n","movements","place"] (f9 D9):=mkS
abbrev a7d:Stmt:=top 12
theorem a8P:l0 ["n","leading","places_from","told","known","r","c","places","place"] ["n","leading","places_from"] (f9 a7d):=mkS
abbrev a4Q:Stmt:=top 13
theorem a7f:l0 ["n","movements"] ["n","movements"] (f9 a4Q):=mkS
theorem a3S:List.Nodup (α:=Str) ["n","colours","r","c"]:=by decide+kernel
abbrev Y2:Stmt:=top 14
theorem a1t:l0 ["n","colours","r"] ["n","colours","r"] (f9 Y2):=mkS
theorem a7P:List.Nodup (α:=Str) ["n","colours","r"]:=by decide+kernel
abbrev a3g:Stmt:=top 15
theorem a5j:l0 ["n","colours"] ["n","colours"] (f9 a3g):=mkS
abbrev O7:Stmt:=top 25
theorem Y4:l0 ["side","paper","colours","circle","place"] ["side","paper"] (f9 O7):=mkS
abbrev a4V:Stmt:=top 4
theorem a7k:l0 ["cloth"] ["cloth"] (f9 a4V):=mkS
abbrev a7e:Stmt:=top 19
theorem a8Q:l0 ["one","other","places","r","row","c","colour"] ["one","other"] (f9 a7e):=mkS
abbrev T6:Stmt:=top 26
theorem a0S:l0 ["carpet","paper","come"] ["carpet","paper"] (f9 T6):=mkS
abbrev a1d:Stmt:=top 17
theorem a2T:l0 ["cloth"] ["cloth"] (f9 a1d):=mkS
abbrev O8:Stmt:=top 18
theorem Y5:l0 ["cloth","knots","many","colour"] ["cloth"] (f9 O8):=mkS
theorem a3Q:List.Nodup (α:=Str) ["many_by_colour","most","colour"]:=by decide+kernel
theorem a3R:List.Nodup (α:=Str) ["many_by_colour","most","colour"]:=by decide+kernel
abbrev Y1:Stmt:=top 22
theorem a1s:l0 ["many_by_colour","most"] ["many_by_colour"] (f9 Y1):=mkS
abbrev T2:Stmt:=top 23
theorem a0P:l0 ["many_by_colour","liked","best"] ["many_by_colour","liked"] (f9 T2):=mkS
abbrev b1T:Stmt:=top 5
theorem b2R:l0 ["carpet","r","c","side"] ["carpet","r","c"] (f9 b1T):=mkS
theorem a7Q:List.Nodup (α:=Str) ["carpet","places","place"]:=by decide+kernel
abbrev a3h:Stmt:=top 21
theorem a5k:l0 ["carpet","places"] ["carpet","places"] (f9 a3h):=mkS
abbrev T5:Stmt:=top 24
theorem a0R:l0 ["carpet","places","liked","many_by_colour","colour"] ["carpet","places","liked"] (f9 T5):=mkS
theorem b0y:List.Nodup (α:=Str) ["carpet","wish","found","places"]:=by decide+kernel
abbrev a7c:Stmt:=top 27
theorem a8O:l0 ["carpet","wish","found"] ["carpet","wish"] (f9 a7c):=mkS
abbrev a2e:Stmt:=top 30
theorem a31:l0 ["_law_found"] ["_law_found"] (f9 a2e):=mkS
theorem a6O:List.Nodup (α:=Str) ["_law_found","_law_carpet_here","_law_due_here","_law_row","_law_spot"]:=by decide+kernel
abbrev a2d:Stmt:=top 41
theorem a30:l0 ["_law_found","_law_carpet_here","_law_due_here","_law_row"] ["_law_found","_law_carpet_here","_law_due_here"] (f9 a2d):=mkS
theorem a3a:List.Nodup (α:=Str) ["_law_found","_law_carpet_here","_law_due_here","_law_n","_law_knots","_law_spots","_law_colour","_law_many","_law_spot","_law_rows","_law_r"]:=by decide+kernel
theorem a3b:List.Nodup (α:=Str) ["_law_found","_law_carpet_here","_law_due_here","_law_n","_law_knots","_law_spots","_law_colour","_law_many","_law_spot","_law_rows","_law_r","_law_c"]:=by decide+kernel
theorem a3c:List.Nodup (α:=Str) ["_law_found","_law_carpet_here","_law_due_here","_law_n","_law_knots","_law_spots","_law_colour","_law_many","_law_spot","_law_rows","_law_k"]:=by decide+kernel
abbrev T4:Stmt:=top 42
theorem a0Q:l0 ["_law_found","_law_carpet_here","_law_due_here","_law_n","_law_knots","_law_spots","_law_colour","_law_many","_law_spot","_law_rows"] ["_law_found","_law_carpet_here","_law_due_here"] (f9 T4):=mkS
abbrev b6F:Stmt:=top 45
theorem b6H:l0 ["_law_script","_law_seed","_law_other","_law_letters_here","_law_cells","_law_k","_law_cell","_law_n","_law_carpet_here","_law_wish_here","_law_handed","_law_due_here","_law_found"] ["_law_script"] (f9 b6F):=mkS
structure Mo(K:AD)(mg:Str->Option AA):Prop where
 z_bool:mg "bool"=none
 z_divmod:mg "divmod"=none
 z_enumerate:mg "enumerate"=none
 z_int:mg "int"=none
 z_isinstance:mg "isinstance"=none
 z_len:mg "len"=none
 z_list:mg "list"=none
 z_max:mg "max"=none
 z_min:mg "min"=none
 z_range:mg "range"=none
 z_set:mg "set"=none
 z_sorted:mg "sorted"=none
 z_str:mg "str"=none
 z_tuple:mg "tuple"=none
 nk:a5e K=true
 nl:b7U K=true
section
variable (P:AN)(w:AI)(K:AD)(mg:Str->Option AA)(base:Heap)
abbrev Z4:Prop:=t4 P w K mg base "_law_mixed" ["_law_cell","_law_k"] 1 y8
abbrev a2G:Prop:=t4 P w K mg base "_law_letters" ["_law_seed","_law_many"] 1 Q7
abbrev a2E:Prop:=t4 P w K mg base "_law_cell_at" ["_law_script","_law_k"] 1 L3
abbrev a3p:Prop:=t4 P w K mg base "_law_carpet" ["_law_cells","_law_n","_law_letters_here","_law_seed"] 2 U9
abbrev a7W:Prop:=t4 P w K mg base "_law_all" ["_law_n"] 1 a2p
abbrev a1C:Prop:=t4 P w K mg base "_law_movement" ["_law_n","_law_cell"] 2 G9
abbrev a53:Prop:=t4 P w K mg base "_law_wish" ["_law_n","_law_cell"] 3 X3
abbrev a7Z:Prop:=t4 P w K mg base "_law_led" ["_law_n","_law_movement_here","_law_place"] 1 V7
abbrev a2F:Prop:=t4 P w K mg base "_law_circles" ["_law_n","_law_wish_here"] 2 Q6
abbrev a7Y:Prop:=t4 P w K mg base "_law_had" ["_law_carpet_here","_law_spots"] 1 a2r
abbrev a7X:Prop:=t4 P w K mg base "_law_due" ["_law_carpet_here","_law_wish_here"] 3 a2q
abbrev a54:Prop:=t4 P w K mg base "place_by" ["way","place"] 1 X4
abbrev b8G:Prop:=t4 P w K mg base "led" ["side","movement","place"] 2 a8q
abbrev a0n:Prop:=t4 P w K mg base "circle_from" ["n","movements","place"] 3 y6
abbrev a9T:Prop:=t4 P w K mg base "parted" ["n","leading","places_from"] 4 a3F
abbrev a7V:Prop:=t4 P w K mg base "circles" ["n","movements"] 5 a2o
abbrev a1B:Prop:=t4 P w K mg base "coloured_row" ["n","colours","r"] 1 O1
abbrev a51:Prop:=t4 P w K mg base "coloured" ["n","colours"] 2 P7
abbrev Z2:Prop:=t4 P w K mg base "carpet_of_paper" ["side","paper"] 3 E4
abbrev a70:Prop:=t4 P w K mg base "size_of" ["cloth"] 1 a0G
abbrev a9U:Prop:=t4 P w K mg base "unlike" ["one","other"] 2 a3G
abbrev a1m:Prop:=t4 P w K mg base "told_of_paper" ["carpet","paper"] 4 L7
abbrev a3o:Prop:=t4 P w K mg base "colours_of" ["cloth"] 1 U8
abbrev Z3:Prop:=t4 P w K mg base "knots_by_colour" ["cloth"] 2 E5
abbrev a1A:Prop:=t4 P w K mg base "best_colours" ["many_by_colour"] 1 O0
abbrev a1j:Prop:=t4 P w K mg base "chosen_colour" ["many_by_colour","liked"] 2 A5
abbrev b4q:Prop:=t4 P w K mg base "knot" ["carpet","r","c"] 1 a9e
abbrev a52:Prop:=t4 P w K mg base "knots_at" ["carpet","places"] 2 a06
abbrev a1l:Prop:=t4 P w K mg base "mended_circle" ["carpet","places","liked"] 3 D3
abbrev a9S:Prop:=t4 P w K mg base "mended" ["carpet","wish"] 6 R3
abbrev a43:Prop:=t4 P w K mg base "_law_whole" ["_law_found"] 1 a1V
abbrev a42:Prop:=t4 P w K mg base "_law_paper" ["_law_found","_law_carpet_here","_law_due_here"] 2 a0e
abbrev a1k:Prop:=t4 P w K mg base "_law_told_well" ["_law_found","_law_carpet_here","_law_due_here"] 3 u7
end
section
variable (P:AN)(w:AI){K:AD}{mg:Str->Option AA}(base:Heap)
theorem a9z(D:Df K mg "_law_mixed" a2c):Z4 P w K mg base:=by
 refine p9 (k:=0) D a3Z (fun _ _ _ _ _ _=>el2 (fun _ _=>rfl)) fun f cdv A outer s H E hr=> ?_
 have S:=a3Z
 have hu:=hr.units
 refine f6 ?_
 refine n8 ?_
 refine g6 v4 ?_ ?_
 ·refine g6 B1 ?_ ?_
  ·exact(g6 u5 (g6 v4 (b9 0 (pv 0)) f8) f8)
  exact(g6 u5 f8 (g6 B1 (g6 B1 f8 (b9 1 (pv 1))) (b9 1 (pv 1))))
 exact f8
theorem a6Z(D:Df K mg "_law_letters" a0x)(M:Mo K mg):a2G P w K mg base:=by
 refine p9 (k:=0) D a2i (fun _ _ _ _ _ _=>el2 (fun _ _=>rfl)) fun f cdv A outer s H E hr=> ?_
 have S:=a2i
 have hu:=hr.units
 refine d4 ?_ ?_
 ·exact(j4 (i:=2) S.nd v6 rfl (Or.inr rfl))
 refine f6 ?_
 refine n8 ?_
 refine Z9 (ys:=["_law_k"]) (N0:=["_law_seed","_law_many","_law_letters_here"]) (fun _ _ h=>h) ?_ ⟨by kernel_rfl,rfl,of_decide_eq_true rfl,of_decide_eq_true rfl,of_decide_eq_true rfl⟩ ?_ (fun C fp pins s H=>j3 (i:=3) a4E rfl (Or.inl rfl)) (fun n h=>B6 (i:=3) (Nat.le_of_eq h)) (fun C fp pins s H=>a1O) ?_
 ·exact rfl
 ·exact(a04 rfl M.z_range (c4 (b9 1 (pv 1)) d9))
 intro C fp pins s H
 exact(n5 (b9 2 (pv 2)) (g6 v4 (g6 u5 (b9 0 (pv 0)) (g6 B1 f8 (b9 3 (pv 3)))) f8))
theorem a6X(D:Df K mg "_law_cell_at" a0v)(M:Mo K mg):a2E P w K mg base:=by
 refine p9 (k:=0) D a2g (fun _ _ _ _ _ _=>el2 (fun _ _=>rfl)) fun f cdv A outer s H E hr=> ?_
 have S:=a2g
 have hu:=hr.units
 refine d4 ?_ ?_
 ·refine K9 ?_ ?_ ?_
  ·exact(C9 a9C (b9 1 (pv 1)) (K4 M3 rfl M.z_len (by rfl) (b9 0 (pv 0))) (by first|rfl|exact y0 _))
  ·exact(f6 (n8 (n5 (b9 0 (pv 0)) (b9 1 (pv 1)))))
  exact B4
 exact(f6 (n8 f8))
theorem a7T(D:Df K mg "_law_carpet" a1e)(M:Mo K mg)(A8:Z4 P w K mg base):a3p P w K mg base:=by
 refine p9 (k:=1) D a2U (fun _ _ _ _ _ _=>el4 (fun _ _ _ _=>rfl)) fun f cdv A outer s H E hr=> ?_
 have S:=a2U
 have hu:=hr.units
 refine d4 ?_ ?_
 ·exact(j4 (i:=4) S.nd (W8 d9))
 refine d4 ?_ ?_
 ·refine R1 PassesOwn.never ?_ ?_ M.z_range ?_ ?_ (r6 5) ?_
  ·exact rfl
  ·exact rfl
  ·exact(c4 (b9 1 (pv 1)) d9)
  ·exact(j3 (i:=5) S.nd rfl (Or.inl rfl))
  refine d4 ?_ ?_
  ·exact(j4 (i:=6) S.nd v6)
  refine d4 ?_ ?_
  ·refine R1 PassesOwn.never ?_ ?_ M.z_range ?_ ?_ (r6 7) ?_
   ·exact rfl
   ·exact rfl
   ·exact(c4 (b9 1 (pv 1)) d9)
   ·exact(j3 (i:=7) S.nd rfl (Or.inl rfl))
   refine d4 ?_ ?_
   ·exact(j4 (i:=8) S.nd (g6 u5 (g6 B1 (b9 5 (pv 5)) (b9 1 (pv 1))) (b9 7 (pv 7))))
   refine d4 ?_ ?_
   ·refine K9 ?_ ?_ ?_
    ·exact(C9 (a60 hu) (g6 v4 (b9 3 (pv 3)) f8) f8 (by first|rfl|exact y0 _))
    ·exact(f6 (j4 (i:=8) S.nd (b9 7 (pv 7))))
    exact B4
   refine d4 ?_ ?_
   ·refine K9 ?_ ?_ ?_
    ·exact(C9 (a60 hu) (g6 v4 (b9 3 (pv 3)) f8) f8 (by first|rfl|exact y0 _))
    ·exact(f6 (j4 (i:=8) S.nd (g6 v4 (g6 u5 (b9 5 (pv 5)) (b9 7 (pv 7))) (b9 1 (pv 1)))))
    exact B4
   refine d4 ?_ ?_
   ·refine K9 ?_ ?_ ?_
    ·exact(C9 (a60 hu) (g6 v4 (b9 3 (pv 3)) f8) f8 (by first|rfl|exact y0 _))
    ·refine f6 ?_
     refine j4 (i:=8) ?_ ?_
     ·exact S.nd
     refine g6 u5 ?_ ?_
     ·exact(b2a (b4L rfl) rfl M.z_min (by rfl) (b9 5 (pv 5)) (g6 a2t (g6 a2t (b9 1 (pv 1)) f8) (b9 5 (pv 5))))
     refine g6 B1 ?_ ?_
     ·exact(b9 1 (pv 1))
     exact(b2a (b4L rfl) rfl M.z_min (by rfl) (b9 7 (pv 7)) (g6 a2t (g6 a2t (b9 1 (pv 1)) f8) (b9 7 (pv 7))))
    exact B4
   refine f6 ?_
   refine j4 (i:=6) ?_ ?_
   ·exact S.nd
   refine g6 u5 ?_ ?_
   ·exact(b9 6 (pv 6))
   refine n5 ?_ ?_
   ·exact(b9 2 (pv 2))
   refine g6 v4 ?_ ?_
   ·refine m8 A8 hr ?_ ?_ ?_ ?_
    ·decide
    ·exact rfl
    ·exact(c9 (c9 l6))
    refine c4 ?_ ?_
    ·exact(n5 (b9 0 (pv 0)) (g6 v4 (b9 8 (pv 8)) (K4 M3 rfl M.z_len (by rfl) (b9 0 (pv 0)))))
    exact(c4 (b9 8 (pv 8)) d9)
   exact(K4 M3 rfl M.z_len (by rfl) (b9 2 (pv 2)))
  exact(f6 (N1 4 (pv 4) (b9 6 (pv 6))))
 exact(f6 (n8 (b2b a6e rfl M.z_tuple (by rfl) (b9 4 (pv 4)))))
theorem b1I(D:Df K mg "_law_all" a4R)(M:Mo K mg):a7W P w K mg base:=by
 refine p9 (k:=0) D a7g (fun _ _ _ _ _ _=>el1 (fun _=>rfl)) fun f cdv A outer s H E hr=> ?_
 have S:=a7g
 have hu:=hr.units
 refine d4 ?_ ?_
 ·exact(j4 (i:=1) S.nd (W8 d9))
 refine d4 ?_ ?_
 ·refine S6 PassesOwn.never ?_ ?_ ?_ (r6 2) ?_
  ·exact rfl
  ·refine W8 ?_
   exact(c4 v6 (c4 v6 (c4 v6 (c4 v6 (c4 v6 (c4 v6 (c4 v6 (c4 v6 d9))))))))
  ·exact(j3 (i:=2) S.nd rfl (Or.inl rfl))
  refine f6 ?_
  refine R1 PassesOwn.never ?_ ?_ M.z_range ?_ ?_ (r6 3) ?_
  ·exact rfl
  ·exact rfl
  ·exact(c4 (b9 0 (pv 0)) d9)
  ·exact(j3 (i:=3) S.nd rfl (Or.inl rfl))
  refine f6 ?_
  refine R1 PassesOwn.never ?_ ?_ M.z_range ?_ ?_ (r6 4) ?_
  ·exact rfl
  ·exact rfl
  ·exact(c4 (b9 0 (pv 0)) d9)
  ·exact(j3 (i:=4) S.nd rfl (Or.inl rfl))
  exact(f6 (N1 1 (pv 1) (M4 (c4 (b9 2 (pv 2)) (c4 (b9 3 (pv 3)) (c4 (b9 4 (pv 4)) d9))))))
 exact(f6 (a0c 1 (pv 1)))
theorem a5C(D:Df K mg "_law_movement" Y3)(a4d:a7W P w K mg base):a1C P w K mg base:=by
 refine p9 (k:=1) D a1u (fun _ _ _ _ _ _=>el2 (fun _ _=>rfl)) fun f cdv A outer s H E hr=> ?_
 have S:=a1u
 have hu:=hr.units
 refine f6 ?_
 refine n8 ?_
 refine n5 ?_ ?_
 ·exact(m8 a4d hr (by decide) rfl (c9 l6) (c4 (b9 0 (pv 0)) d9))
 exact(g6 v4 (b9 1 (pv 1)) (g6 B1 (g6 B1 f8 (b9 0 (pv 0))) (b9 0 (pv 0))))
theorem b0C(D:Df K mg "_law_wish" a3i)(M:Mo K mg)(W7:a1C P w K mg base)(A8:Z4 P w K mg base):a53 P w K mg base:=by
 refine p9 (k:=2) D a5l (fun _ _ _ _ _ _=>el2 (fun _ _=>rfl)) fun f cdv A outer s H E hr=> ?_
 have S:=a5l
 have hu:=hr.units
 refine d4 ?_ ?_
 ·refine b2d (i:=2) (ys:=["_law_j"]) (N0:=["_law_n","_law_cell","_law_found"]) ?_ (fun _ _ h=>h) ?_ ⟨by kernel_rfl,rfl,of_decide_eq_true rfl,of_decide_eq_true rfl,of_decide_eq_true rfl⟩ ?_ (fun C fp pins s H=>j3 (i:=3) a7R rfl (Or.inl rfl)) (fun n h=>B6 (i:=3) (Nat.le_of_eq h)) (fun C fp pins s H=>a1O) ?_
  ·exact S.nd
  ·exact rfl
  ·exact(a04 rfl M.z_range (c4 (g6 v4 (b9 1 (pv 1)) f8) d9))
  intro C fp pins s H
  refine m8 W7 hr ?_ ?_ ?_ ?_
  ·decide
  ·exact rfl
  ·exact(c9 (c9 l6))
  refine c4 ?_ ?_
  ·exact(b9 0 (pv 0))
  refine c4 ?_ ?_
  ·refine m8 A8 hr ?_ ?_ ?_ ?_
   ·decide
   ·exact rfl
   ·exact(c9 (c9 l6))
   exact(c4 (b9 1 (pv 1)) (c4 (g6 u5 f8 (b9 3 (pv 3))) d9))
  exact d9
 refine d4 ?_ ?_
 ·refine K9 ?_ ?_ ?_
  ·exact(C9 (a60 hu) (g6 v4 (g6 a19 (b9 1 (pv 1)) f8) f8) f8 (by first|rfl|exact y0 _))
  ·exact(f6 (j4 (i:=2) S.nd (g6 u5 (b9 2 (pv 2)) (a3z (b9 2 (pv 2)) a89 (a3A f8)))))
  exact B4
 exact(f6 (a0c 2 (pv 2)))
theorem b1L(D:Df K mg "_law_led" a4U):a7Z P w K mg base:=by
 refine p9 (k:=0) D a7j (fun _ _ _ _ _ _=>el3 (fun _ _ _=>rfl)) fun f cdv A outer s H E hr=> ?_
 have S:=a7j
 have hu:=hr.units
 refine d4 ?_ ?_
 ·refine b5a (is:=[3,4]) ?_ ?_ ?_
  ·exact rfl
  ·exact(b9 2 (pv 2))
  exact(B2 (j3 (i:=3) S.nd rfl (Or.inl rfl)) (B2 (j3 (i:=4) S.nd rfl (Or.inl rfl)) a2u))
 refine d4 ?_ ?_
 ·refine b5a (is:=[5,6,7]) ?_ ?_ ?_
  ·exact rfl
  ·exact(b9 1 (pv 1))
  refine B2 ?_ ?_
  ·exact(j3 (i:=5) S.nd rfl (Or.inl rfl))
  exact(B2 (j3 (i:=6) S.nd rfl (Or.inl rfl)) (B2 (j3 (i:=7) S.nd rfl (Or.inl rfl)) a2u))
 refine d4 ?_ ?_
 ·refine K9 ?_ ?_ ?_
  ·refine C9 (a5S hu) ?_ ?_ ?_
   ·exact(b9 5 (pv 5))
   ·exact(M4 (c4 v6 (c4 v6 (c4 v6 (c4 v6 d9)))))
   first|rfl|exact y0 _
  ·exact(f6 (b9r 3 4 S.nd rfl (c4 (b9 4 (pv 4)) (c4 (b9 3 (pv 3)) d9))))
  exact B4
 refine d4 ?_ ?_
 ·refine K9 ?_ ?_ ?_
  ·refine C9 (a5S hu) ?_ ?_ ?_
   ·exact(b9 5 (pv 5))
   ·exact(M4 (c4 v6 (c4 v6 (c4 v6 (c4 v6 d9)))))
   first|rfl|exact y0 _
  ·exact(f6 (j4 (i:=3) S.nd (g6 a2t f8 (b9 3 (pv 3)))))
  exact B4
 refine d4 ?_ ?_
 ·refine K9 ?_ ?_ ?_
  ·refine C9 (a5S hu) ?_ ?_ ?_
   ·exact(b9 5 (pv 5))
   ·exact(M4 (c4 v6 (c4 v6 (c4 v6 (c4 v6 d9)))))
   first|rfl|exact y0 _
  ·exact(f6 (j4 (i:=4) S.nd (g6 a2t f8 (b9 4 (pv 4)))))
  exact B4
 refine f6 ?_
 refine n8 ?_
 refine M4 ?_
 refine c4 ?_ ?_
 ·exact(g6 v4 (g6 u5 (b9 3 (pv 3)) (b9 6 (pv 6))) (b9 0 (pv 0)))
 exact(c4 (g6 v4 (g6 u5 (b9 4 (pv 4)) (b9 7 (pv 7))) (b9 0 (pv 0))) d9)
theorem a6Y(D:Df K mg "_law_circles" a0w)(M:Mo K mg)(a4g:a7Z P w K mg base):a2F P w K mg base:=by
 refine p9 (k:=1) D a2h (fun _ _ _ _ _ _=>el2 (fun _ _=>rfl)) fun f cdv A outer s H E hr=> ?_
 have S:=a2h
 have hu:=hr.units
 refine d4 ?_ ?_
 ·exact(j4 (i:=2) S.nd a5F)
 refine d4 ?_ ?_
 ·exact(j4 (i:=3) S.nd (W8 d9))
 refine d4 ?_ ?_
 ·refine R1 PassesOwn.never ?_ ?_ M.z_range ?_ ?_ (r6 4) ?_
  ·exact rfl
  ·exact rfl
  ·exact(c4 (g6 B1 (b9 0 (pv 0)) (b9 0 (pv 0))) d9)
  ·exact(j3 (i:=4) S.nd rfl (Or.inl rfl))
  refine d4 ?_ ?_
  ·exact(j4 (i:=5) S.nd (b2a a8i rfl M.z_divmod (by rfl) (b9 4 (pv 4)) (b9 0 (pv 0))))
  refine f6 ?_
  refine K9 ?_ ?_ ?_
  ·exact(a05 2 hu M.nk (pv 2) (b9 5 (pv 5)) (by first|rfl|exact y0 _))
  ·refine d4 ?_ ?_
   ·exact(j4 (i:=6) S.nd (W8 (c4 (b9 5 (pv 5)) d9)))
   refine d4 ?_ ?_
   ·exact(V6 2 hu M.nk (pv 2) (b9 5 (pv 5)) Z8)
   refine d4 ?_ ?_
   ·exact(j4 (i:=7) S.nd f8)
   refine d4 ?_ ?_
   ·refine b0j 100 PassesOwn.never ?_ ?_
    ·exact(C9 a9C (b9 7 (pv 7)) (K4 M3 rfl M.z_len (by rfl) (b9 6 (pv 6))) (by first|rfl|exact y0 _))
    refine d4 ?_ ?_
    ·refine S6 PassesOwn.never ?_ ?_ ?_ (r6 8) ?_
     ·exact rfl
     ·exact(b9 1 (pv 1))
     ·exact(j3 (i:=8) S.nd rfl (Or.inl rfl))
     refine d4 ?_ ?_
     ·refine j4 (i:=9) ?_ ?_
      ·exact S.nd
      refine m8 a4g hr ?_ ?_ ?_ ?_
      ·decide
      ·exact rfl
      ·exact(c9 (c9 (c9 l6)))
      exact(c4 (b9 0 (pv 0)) (c4 (b9 8 (pv 8)) (c4 (n5 (b9 6 (pv 6)) (b9 7 (pv 7))) d9)))
     refine f6 ?_
     refine K9 ?_ ?_ ?_
     ·exact(a05 2 hu M.nk (pv 2) (b9 9 (pv 9)) (by first|rfl|exact y0 _))
     ·exact(d4 (V6 2 hu M.nk (pv 2) (b9 9 (pv 9)) Z8) (f6 (N1 6 (pv 6) (b9 9 (pv 9)))))
     exact B4
    exact(f6 (j4 (i:=7) S.nd (g6 u5 (b9 7 (pv 7)) f8)))
   exact(f6 (N1 3 (pv 3) (K4 a98 rfl M.z_sorted (by rfl) (b9 6 (pv 6)))))
  exact B4
 exact(f6 (n8 (K4 (b3g hu) rfl M.z_sorted (by rfl) (b9 3 (pv 3)))))
theorem b1K(D:Df K mg "_law_had" a4T):a7Y P w K mg base:=by
 refine p9 (k:=0) D a7i (fun _ _ _ _ _ _=>el2 (fun _ _=>rfl)) fun f cdv A outer s H E hr=> ?_
 have S:=a7i
 have hu:=hr.units
 refine d4 ?_ ?_
 ·exact(j4 (i:=2) S.nd b46)
 refine d4 ?_ ?_
 ·refine S6 PassesOwn.never ?_ ?_ ?_ (a35 [3,4]) ?_
  ·exact rfl
  ·exact(b9 1 (pv 1))
  ·exact(a63 rfl (B2 (j3 (i:=3) S.nd rfl (Or.inl rfl)) (B2 (j3 (i:=4) S.nd rfl (Or.inl rfl)) a2u)))
  refine f6 ?_
  refine b2f 2 ?_ (pv 2) ?_ ?_
  ·exact hu
  ·exact(n5 (n5 (b9 0 (pv 0)) (b9 3 (pv 3))) (b9 4 (pv 4)))
  exact(g6 u5 (b44 2 hu (pv 2) (n5 (n5 (b9 0 (pv 0)) (b9 3 (pv 3))) (b9 4 (pv 4))) f8) f8)
 exact(f6 (a0c 2 (pv 2)))
theorem b1J(D:Df K mg "_law_due" a4S)(M:Mo K mg)(a0q:a2F P w K mg base)(a4f:a7Y P w K mg base):a7X P w K mg base:=by
 refine p9 (k:=2) D a7h (fun _ _ _ _ _ _=>el2 (fun _ _=>rfl)) fun f cdv A outer s H E hr=> ?_
 have S:=a7h
 have hu:=hr.units
 refine d4 ?_ ?_
 ·exact(j4 (i:=2) S.nd (W8 d9))
 refine d4 ?_ ?_
 ·refine S6 PassesOwn.never ?_ ?_ ?_ (r6 3) ?_
  ·exact rfl
  ·refine m8 a0q hr ?_ ?_ ?_ ?_
   ·decide
   ·exact rfl
   ·exact(c9 (c9 l6))
   exact(c4 (K4 M3 rfl M.z_len (by rfl) (b9 0 (pv 0))) (c4 (b9 1 (pv 1)) d9))
  ·exact(j3 (i:=3) S.nd rfl (Or.inl rfl))
  refine d4 ?_ ?_
  ·refine j4 (i:=4) ?_ ?_ ?_ (Or.inr rfl)
   ·exact S.nd
   ·exact(m8 a4f hr (by decide) rfl (c9 (c9 l6)) (c4 (b9 0 (pv 0)) (c4 (b9 3 (pv 3)) d9)))
   exact rfl
  refine d4 ?_ ?_
  ·exact(j4 (i:=5) S.nd (K4 (b17 rfl) rfl M.z_max (by rfl) (b45 4 rfl rfl M.z_list (pv 4))) rfl (Or.inr rfl))
  refine f6 ?_
  refine N1 2 (pv 2) ?_
  refine M4 ?_
  refine c4 ?_ ?_
  ·exact(b9 3 (pv 3))
  refine c4 ?_ ?_
  ·refine K4 (b7f rfl) ?_ M.z_min ?_ ?_
   ·exact rfl
   ·rfl
   refine b4X 4 5 (N0:=["_law_carpet_here","_law_wish_here","_law_found","_law_spots","_law_had_here","_law_many"]) (fun _ _ h=>h) ?_ ⟨by kernel_rfl,rfl,of_decide_eq_true rfl,of_decide_eq_true rfl,of_decide_eq_true rfl⟩ (pv 4) ?_ (fun C fp pins s H=>j3 (i:=6) a9y rfl (Or.inl rfl)) (fun C fp pins s H=>pv 4) (fun C fp pins s H=>pv 6) (fun C fp pins s H=>pv 5) (fun C fp pins s H=>pv 6)
   ·exact rfl
   exact hu
  exact(c4 (b9 5 (pv 5)) d9)
 exact(f6 (a0c 2 (pv 2)))
theorem b0D(D:Df K mg "place_by" a3j){a_LEADS:AB}(m_LEADS:mg "LEADS"=some (.ref a_LEADS))(t_LEADS:Tab P w K a_LEADS E9):a54 P w K mg base:=by
 refine p9 (k:=0) D a5m (fun _ _ _ _ _ _=>el2 (fun _ _=>rfl)) fun f cdv A outer s H E hr=> ?_
 have S:=a5m
 have hu:=hr.units
 refine d4 ?_ ?_
 ·exact(j4 (i:=2) S.nd (b9p t_LEADS rfl m_LEADS (b9 0 (pv 0))))
 refine f6 ?_
 refine n8 ?_
 refine M4 ?_
 refine c4 ?_ ?_
 ·refine g6 u5 ?_ ?_
  ·exact(g6 B1 (n5 (b9 2 (pv 2)) f8) (n5 (b9 1 (pv 1)) f8))
  exact(g6 B1 (n5 (b9 2 (pv 2)) f8) (n5 (b9 1 (pv 1)) f8))
 refine c4 ?_ ?_
 ·refine g6 u5 ?_ ?_
  ·exact(g6 B1 (n5 (b9 2 (pv 2)) f8) (n5 (b9 1 (pv 1)) f8))
  exact(g6 B1 (n5 (b9 2 (pv 2)) f8) (n5 (b9 1 (pv 1)) f8))
 exact d9
theorem b9S(D:Df K mg "led" b6G)(a21:a54 P w K mg base):b8G P w K mg base:=by
 refine p9 (k:=1) D b6I (fun _ _ _ _ _ _=>el3 (fun _ _ _=>rfl)) fun f cdv A outer s H E hr=> ?_
 have S:=b6I
 have hu:=hr.units
 refine d4 ?_ ?_
 ·refine j4 (i:=3) ?_ ?_
  ·exact S.nd
  exact(m8 a21 hr (by decide) rfl (c9 (c9 l6)) (c4 (n5 (b9 1 (pv 1)) f8) (c4 (b9 2 (pv 2)) d9)))
 refine f6 ?_
 refine n8 ?_
 refine M4 ?_
 refine c4 ?_ ?_
 ·exact(g6 v4 (g6 u5 (n5 (b9 3 (pv 3)) f8) (n5 (b9 1 (pv 1)) f8)) (b9 0 (pv 0)))
 exact(c4 (g6 v4 (g6 u5 (n5 (b9 3 (pv 3)) f8) (n5 (b9 1 (pv 1)) f8)) (b9 0 (pv 0))) d9)
theorem a6W(D:Df K mg "circle_from" D9)(M:Mo K mg)(b4N:b8G P w K mg base):a0n P w K mg base:=by
 refine p9 (k:=2) D a2f (fun _ _ _ _ _ _=>el3 (fun _ _ _=>rfl)) fun f cdv A outer s H E hr=> ?_
 have S:=a2f
 have hu:=hr.units
 refine d4 ?_ ?_
 ·exact(j4 (i:=3) S.nd (b42 hu M.nk (b9 2 (pv 2)) Z8))
 refine d4 ?_ ?_
 ·exact(j4 (i:=4) S.nd (W8 (c4 (b9 2 (pv 2)) d9)))
 refine d4 ?_ ?_
 ·exact(j4 (i:=5) S.nd f8)
 refine d4 ?_ ?_
 ·refine b0j 100 PassesOwn.never ?_ ?_
  ·exact(C9 a9C (b9 5 (pv 5)) (K4 M3 rfl M.z_len (by rfl) (b9 4 (pv 4))) (by first|rfl|exact y0 _))
  refine d4 ?_ ?_
  ·refine S6 PassesOwn.never ?_ ?_ ?_ (r6 6) ?_
   ·exact rfl
   ·exact(b9 1 (pv 1))
   ·exact(j3 (i:=6) S.nd rfl (Or.inl rfl))
   refine d4 ?_ ?_
   ·refine j4 (i:=7) ?_ ?_
    ·exact S.nd
    refine m8 b4N hr ?_ ?_ ?_ ?_
    ·decide
    ·exact rfl
    ·exact(c9 (c9 (c9 l6)))
    exact(c4 (b9 0 (pv 0)) (c4 (b9 6 (pv 6)) (c4 (n5 (b9 4 (pv 4)) (b9 5 (pv 5))) d9)))
   refine f6 ?_
   refine K9 ?_ ?_ ?_
   ·exact(a05 3 hu M.nk (pv 3) (b9 7 (pv 7)) (by first|rfl|exact y0 _))
   ·exact(d4 (V6 3 hu M.nk (pv 3) (b9 7 (pv 7)) Z8) (f6 (N1 4 (pv 4) (b9 7 (pv 7)))))
   exact B4
  exact(f6 (b9q (i:=5) S.nd f8 b6c))
 exact(f6 (n8 (K4 a98 rfl M.z_sorted (by rfl) (b9 4 (pv 4)))))
theorem b3W(D:Df K mg "parted" a7d)(M:Mo K mg){X1:AB}(B9:FnV K mg "circle_from" X1)(Q3:a0n P w K mg base):a9T P w K mg base:=by
 refine p9 (k:=3) D a8P (fun _ _ _ _ _ _=>el3 (fun _ _ _=>rfl)) fun f cdv A outer s H E hr=> ?_
 have S:=a8P
 have hu:=hr.units
 refine d4 ?_ ?_
 ·exact(j4 (i:=3) S.nd (W8 d9))
 refine d4 ?_ ?_
 ·exact(j4 (i:=4) S.nd a5F)
 refine d4 ?_ ?_
 ·refine R1 PassesOwn.never ?_ ?_ M.z_range ?_ ?_ (r6 5) ?_
  ·exact rfl
  ·exact rfl
  ·exact(c4 (b9 0 (pv 0)) d9)
  ·exact(j3 (i:=5) S.nd rfl (Or.inl rfl))
  refine f6 ?_
  refine R1 PassesOwn.never ?_ ?_ M.z_range ?_ ?_ (r6 6) ?_
  ·exact rfl
  ·exact rfl
  ·exact(c4 (b9 0 (pv 0)) d9)
  ·exact(j3 (i:=6) S.nd rfl (Or.inl rfl))
  refine f6 ?_
  refine K9 ?_ ?_ ?_
  ·exact(a05 4 hu M.nk (pv 4) (M4 (c4 (b9 5 (pv 5)) (c4 (b9 6 (pv 6)) d9))) (by first|rfl|exact y0 _))
  ·refine d4 ?_ ?_
   ·refine j4 (i:=7) ?_ ?_
    ·exact S.nd
    refine b4W 2 (b1k Q3 B9 (by decide) rfl b3q) hr (pv 2) ?_ ?_
    ·exact(c9 (c9 (c9 l6)))
    exact(c4 (b9 0 (pv 0)) (c4 (b9 1 (pv 1)) (c4 (M4 (c4 (b9 5 (pv 5)) (c4 (b9 6 (pv 6)) d9))) d9)))
   refine d4 ?_ ?_
   ·exact(a23 7 (N1 3 (pv 3) (b9 7 (pv 7))))
   refine f6 ?_
   refine a23 7 ?_
   refine S6 PassesOwn.never ?_ ?_ ?_ (r6 8) ?_
   ·exact rfl
   ·exact(b9 7 (pv 7))
   ·exact(j3 (i:=8) S.nd rfl (Or.inl rfl))
   exact(f6 (V6 4 hu M.nk (pv 4) (b9 8 (pv 8)) Z8))
  exact B4
 exact(f6 (a0c 3 (pv 3)))
theorem b1H(D:Df K mg "circles" a4Q){X1:AB}(B9:FnV K mg "circle_from" X1)(a6g:a9T P w K mg base)(Q3:a0n P w K mg base):a7V P w K mg base:=by
 refine p9 (k:=4) D a7f (fun _ _ _ _ _ _=>el2 (fun _ _=>rfl)) fun f cdv A outer s H E hr=> ?_
 have S:=a7f
 have hu:=hr.units
 refine f6 ?_
 refine n8 ?_
 refine m8 a6g hr ?_ ?_ ?_ ?_
 ·decide
 ·exact rfl
 ·exact(c9 (c9 (c9 l6)))
 exact(c4 (b9 0 (pv 0)) (c4 (b9 1 (pv 1)) (c4 (c0Z B9) d9)))
theorem a5B(D:Df K mg "coloured_row" Y2)(M:Mo K mg):a1B P w K mg base:=by
 refine p9 (k:=0) D a1t (fun _ _ _ _ _ _=>el3 (fun _ _ _=>rfl)) fun f cdv A outer s H E hr=> ?_
 have S:=a1t
 have hu:=hr.units
 refine f6 ?_
 refine n8 ?_
 refine a3y ?_ ?_
 ·exact v6
 refine Z9 (ys:=["c"]) (N0:=["n","colours","r"]) (fun _ _ h=>h) ?_ ⟨by kernel_rfl,rfl,of_decide_eq_true rfl,of_decide_eq_true rfl,of_decide_eq_true rfl⟩ ?_ (fun C fp pins s H=>j3 (i:=3) a3S rfl (Or.inl rfl)) (fun n h=>B6 (i:=3) (Nat.le_of_eq h)) (fun C fp pins s H=>a1O) ?_
 ·exact rfl
 ·exact(a04 rfl M.z_range (c4 (b9 0 (pv 0)) d9))
 intro C fp pins s H
 exact(b41 1 hu (pv 1) (c4 (b9 2 (pv 2)) (c4 (b9 3 (pv 3)) d9)))
theorem b0A(D:Df K mg "coloured" a3g)(M:Mo K mg)(W6:a1B P w K mg base):a51 P w K mg base:=by
 refine p9 (k:=1) D a5j (fun _ _ _ _ _ _=>el2 (fun _ _=>rfl)) fun f cdv A outer s H E hr=> ?_
 have S:=a5j
 have hu:=hr.units
 refine f6 ?_
 refine n8 ?_
 refine b2b a6e ?_ M.z_tuple ?_ ?_
 ·exact rfl
 ·rfl
 refine Z9 (ys:=["r"]) (N0:=["n","colours"]) (fun _ _ h=>h) ?_ ⟨by kernel_rfl,rfl,of_decide_eq_true rfl,of_decide_eq_true rfl,of_decide_eq_true rfl⟩ ?_ (fun C fp pins s H=>j3 (i:=2) a7P rfl (Or.inl rfl)) (fun n h=>B6 (i:=2) (Nat.le_of_eq h)) (fun C fp pins s H=>a1O) ?_
 ·exact rfl
 ·exact(a04 rfl M.z_range (c4 (b9 0 (pv 0)) d9))
 intro C fp pins s H
 refine m8 W6 hr ?_ ?_ ?_ ?_
 ·decide
 ·exact rfl
 ·exact(c9 (c9 (c9 l6)))
 exact(c4 (b9 0 (pv 0)) (c4 (b9 1 (pv 1)) (c4 (b9 2 (pv 2)) d9)))
theorem a3d(D:Df K mg "carpet_of_paper" O7)(M:Mo K mg)(a2Y:a51 P w K mg base):Z2 P w K mg base:=by
 refine p9 (k:=2) D Y4 (fun _ _ _ _ _ _=>el2 (fun _ _=>rfl)) fun f cdv A outer s H E hr=> ?_
 have S:=Y4
 have hu:=hr.units
 refine d4 ?_ ?_
 ·exact(j4 (i:=2) S.nd a5F)
 refine d4 ?_ ?_
 ·refine S6 PassesOwn.never ?_ ?_ ?_ (r6 3) ?_
  ·exact rfl
  ·exact(b9 1 (pv 1))
  ·exact(j3 (i:=3) S.nd rfl (Or.inl rfl))
  refine f6 ?_
  refine S6 PassesOwn.never ?_ ?_ ?_ (r6 4) ?_
  ·exact rfl
  ·exact(n5 (b9 3 (pv 3)) f8)
  ·exact(j3 (i:=4) S.nd rfl (Or.inl rfl))
  exact(f6 (V6 2 hu M.nk (pv 2) (b9 4 (pv 4)) (n5 (b9 3 (pv 3)) f8)))
 exact(f6 (n8 (b4Z 2 a2Y hr (by decide) rfl (b9 0 (pv 0)) (pv 2))))
theorem b1M(D:Df K mg "size_of" a4V)(M:Mo K mg):a70 P w K mg base:=by
 refine p9 (k:=0) D a7k (fun _ _ _ _ _ _=>el1 (fun _=>rfl)) fun f cdv A outer s H E hr=> ?_
 have S:=a7k
 have hu:=hr.units
 refine f6 ?_
 refine n8 ?_
 refine M4 ?_
 exact(c4 (K4 M3 rfl M.z_len (by rfl) (b9 0 (pv 0))) (c4 (K4 M3 rfl M.z_len (by rfl) (n5 (b9 0 (pv 0)) f8)) d9))
theorem b3X(D:Df K mg "unlike" a7e)(M:Mo K mg)(a2n:a70 P w K mg base):a9U P w K mg base:=by
 refine p9 (k:=1) D a8Q (fun _ _ _ _ _ _=>el2 (fun _ _=>rfl)) fun f cdv A outer s H E hr=> ?_
 have S:=a8Q
 have hu:=hr.units
 refine d4 ?_ ?_
 ·refine K9 ?_ ?_ ?_
  ·refine C9 (a2a hu) ?_ ?_ ?_
   ·exact(m8 a2n hr (by decide) rfl (c9 l6) (c4 (b9 0 (pv 0)) d9))
   ·exact(m8 a2n hr (by decide) rfl (c9 l6) (c4 (b9 1 (pv 1)) d9))
   first|rfl|exact y0 _
  ·exact(f6 b48)
  exact B4
 refine d4 ?_ ?_
 ·exact(j4 (i:=2) S.nd (W8 d9))
 refine d4 ?_ ?_
 ·refine b2e PassesOwn.never ?_ ?_ M.z_enumerate ?_ ?_ (a35 [3,4]) ?_
  ·exact rfl
  ·exact rfl
  ·exact(c4 (b9 0 (pv 0)) d9)
  ·exact(a63 rfl (B2 (j3 (i:=3) S.nd rfl (Or.inl rfl)) (B2 (j3 (i:=4) S.nd rfl (Or.inl rfl)) a2u)))
  refine f6 ?_
  refine b2e PassesOwn.never ?_ ?_ M.z_enumerate ?_ ?_ (a35 [5,6]) ?_
  ·exact rfl
  ·exact rfl
  ·exact(c4 (b9 4 (pv 4)) d9)
  ·exact(a63 rfl (B2 (j3 (i:=5) S.nd rfl (Or.inl rfl)) (B2 (j3 (i:=6) S.nd rfl (Or.inl rfl)) a2u)))
  refine f6 ?_
  refine K9 ?_ ?_ ?_
  ·exact(C9 (a2a hu) (b9 6 (pv 6)) (n5 (n5 (b9 1 (pv 1)) (b9 3 (pv 3))) (b9 5 (pv 5))) (by first|rfl|exact y0 _))
  ·exact(f6 (N1 2 (pv 2) (M4 (c4 (b9 3 (pv 3)) (c4 (b9 5 (pv 5)) d9)))))
  exact B4
 exact(f6 (a0c 2 (pv 2)))
theorem a4J(D:Df K mg "told_of_paper" T6)(M:Mo K mg)(N5:Z2 P w K mg base)(a6h:a9U P w K mg base):a1m P w K mg base:=by
 refine p9 (k:=3) D a0S (fun _ _ _ _ _ _=>el2 (fun _ _=>rfl)) fun f cdv A outer s H E hr=> ?_
 have S:=a0S
 have hu:=hr.units
 refine d4 ?_ ?_
 ·refine j4 (i:=2) ?_ ?_
  ·exact S.nd
  refine m8 N5 hr ?_ ?_ ?_ ?_
  ·decide
  ·exact rfl
  ·exact(c9 (c9 l6))
  exact(c4 (K4 M3 rfl M.z_len (by rfl) (b9 0 (pv 0))) (c4 (b9 1 (pv 1)) d9))
 refine f6 ?_
 refine n8 ?_
 refine M4 ?_
 refine c4 ?_ ?_
 ·exact(b9 2 (pv 2))
 refine c4 ?_ ?_
 ·exact(m8 a6h hr (by decide) rfl (c9 (c9 l6)) (c4 (b9 0 (pv 0)) (c4 (b9 2 (pv 2)) d9)))
 exact(c4 (b9 1 (pv 1)) d9)
theorem a7S(D:Df K mg "colours_of" a1d)(M:Mo K mg):a3o P w K mg base:=by
 refine p9 (k:=0) D a2T (fun _ _ _ _ _ _=>el1 (fun _=>rfl)) fun f cdv A outer s H E hr=> ?_
 have S:=a2T
 have hu:=hr.units
 exact(f6 (n8 (b1h rfl rfl M.z_sorted rfl M.z_set (a3y v6 (b9 0 (pv 0))))))
theorem a3e(D:Df K mg "knots_by_colour" O8)(a02:a3o P w K mg base):Z3 P w K mg base:=by
 refine p9 (k:=1) D Y5 (fun _ _ _ _ _ _=>el1 (fun _=>rfl)) fun f cdv A outer s H E hr=> ?_
 have S:=Y5
 have hu:=hr.units
 refine d4 ?_ ?_
 ·exact(j4 (i:=1) S.nd (a3y v6 (b9 0 (pv 0))))
 refine d4 ?_ ?_
 ·exact(j4 (i:=2) S.nd b46)
 refine d4 ?_ ?_
 ·refine S6 PassesOwn.never ?_ ?_ ?_ (r6 3) ?_
  ·exact rfl
  ·exact(m8 a02 hr (by decide) rfl (c9 l6) (c4 (b9 0 (pv 0)) d9))
  ·exact(j3 (i:=3) S.nd rfl (Or.inl rfl))
  exact(f6 (b2f 2 hu (pv 2) (b9 3 (pv 3)) (b4Y (b9 1 (pv 1)) (b9 3 (pv 3)))))
 exact(f6 (a0c 2 (pv 2)))
theorem a5A(D:Df K mg "best_colours" Y1)(M:Mo K mg):a1A P w K mg base:=by
 refine p9 (k:=0) D a1s (fun _ _ _ _ _ _=>el1 (fun _=>rfl)) fun f cdv A outer s H E hr=> ?_
 have S:=a1s
 have hu:=hr.units
 refine d4 ?_ ?_
 ·refine j4 (i:=1) ?_ ?_ ?_ (Or.inr rfl)
  ·exact S.nd
  ·refine K4 (b17 rfl) ?_ M.z_max ?_ ?_
   ·exact rfl
   ·rfl
   refine b3m 0 (N0:=["many_by_colour","most"]) (fun _ _ h=>h) ?_ ⟨by kernel_rfl,rfl,of_decide_eq_true rfl,of_decide_eq_true rfl,of_decide_eq_true rfl⟩ (pv 0) ?_ (fun C fp pins s H=>j3 (i:=2) a3Q rfl (Or.inl rfl)) (fun C fp pins s H=>pv 0) (fun C fp pins s H=>pv 2)
   ·exact rfl
   exact hu
  exact rfl
 refine f6 ?_
 refine n8 ?_
 refine K4 b4M ?_ M.z_sorted ?_ ?_
 ·exact rfl
 ·rfl
 refine b3l 0 1 (N0:=["many_by_colour","most"]) (fun _ _ h=>h) ?_ ⟨by kernel_rfl,rfl,of_decide_eq_true rfl,of_decide_eq_true rfl,of_decide_eq_true rfl⟩ (pv 0) ?_ (fun C fp pins s H=>j3 (i:=2) a3R rfl (Or.inl rfl)) (fun C fp pins s H=>pv 0) (fun C fp pins s H=>pv 2) (fun C fp pins s H=>pv 1) (fun C fp pins s H=>pv 2)
 ·exact rfl
 exact hu
theorem a4G(D:Df K mg "chosen_colour" T2)(W5:a1A P w K mg base):a1j P w K mg base:=by
 refine p9 (k:=1) D a0P (fun _ _ _ _ _ _=>el2 (fun _ _=>rfl)) fun f cdv A outer s H E hr=> ?_
 have S:=a0P
 have hu:=hr.units
 refine d4 ?_ ?_
 ·exact(j4 (i:=2) S.nd (m8 W5 hr (by decide) rfl (c9 l6) (c4 (b9 0 (pv 0)) d9)))
 refine d4 ?_ ?_
 ·exact(K9 (C9 (a5S hu) (b9 1 (pv 1)) (b9 2 (pv 2)) (by first|rfl|exact y0 _)) (f6 (a0c 1 (pv 1))) B4)
 exact(f6 (n8 (n5 (b9 2 (pv 2)) f8)))
theorem b7X(D:Df K mg "knot" b1T)(M:Mo K mg):b4q P w K mg base:=by
 refine p9 (k:=0) D b2R (fun _ _ _ _ _ _=>el3 (fun _ _ _=>rfl)) fun f cdv A outer s H E hr=> ?_
 have S:=b2R
 have hu:=hr.units
 refine d4 ?_ ?_
 ·exact(j4 (i:=3) S.nd (K4 M3 rfl M.z_len (by rfl) (b9 0 (pv 0))))
 refine f6 ?_
 exact(n8 (n5 (n5 (b9 0 (pv 0)) (g6 v4 (b9 1 (pv 1)) (b9 3 (pv 3)))) (g6 v4 (b9 2 (pv 2)) (b9 3 (pv 3)))))
theorem b0B(D:Df K mg "knots_at" a3h)(b1g:b4q P w K mg base):a52 P w K mg base:=by
 refine p9 (k:=1) D a5k (fun _ _ _ _ _ _=>el2 (fun _ _=>rfl)) fun f cdv A outer s H E hr=> ?_
 have S:=a5k
 have hu:=hr.units
 refine f6 ?_
 refine n8 ?_
 refine a3y ?_ ?_
 ·exact v6
 refine Z9 (ys:=["place"]) (N0:=["carpet","places"]) (fun _ _ h=>h) ?_ ⟨by kernel_rfl,rfl,of_decide_eq_true rfl,of_decide_eq_true rfl,of_decide_eq_true rfl⟩ ?_ (fun C fp pins s H=>j3 (i:=2) a7Q rfl (Or.inl rfl)) (fun n h=>B6 (i:=2) (Nat.le_of_eq h)) (fun C fp pins s H=>a1O) ?_
 ·exact rfl
 ·exact(b1i (b9 1 (pv 1)))
 intro C fp pins s H
 refine m8 b1g hr ?_ ?_ ?_ ?_
 ·decide
 ·exact rfl
 ·exact(c9 (c9 (c9 l6)))
 exact(c4 (b9 0 (pv 0)) (c4 (n5 (b9 2 (pv 2)) f8) (c4 (n5 (b9 2 (pv 2)) f8) d9)))
theorem a4I(D:Df K mg "mended_circle" T5)(N6:Z3 P w K mg base)(S3:a1j P w K mg base)(a2Z:a52 P w K mg base):a1l P w K mg base:=by
 refine p9 (k:=2) D a0R (fun _ _ _ _ _ _=>el3 (fun _ _ _=>rfl)) fun f cdv A outer s H E hr=> ?_
 have S:=a0R
 have hu:=hr.units
 refine d4 ?_ ?_
 ·refine j4 (i:=3) ?_ ?_
  ·exact S.nd
  refine m8 N6 hr ?_ ?_ ?_ ?_
  ·decide
  ·exact rfl
  ·exact(c9 l6)
  refine c4 ?_ ?_
  ·refine M4 ?_
   exact(c4 (m8 a2Z hr (by decide) rfl (c9 (c9 l6)) (c4 (b9 0 (pv 0)) (c4 (b9 1 (pv 1)) d9))) d9)
  exact d9
 refine d4 ?_ ?_
 ·exact(j4 (i:=4) S.nd (b40 3 S3 hr (by decide) rfl (pv 3) (b9 2 (pv 2))))
 exact(f6 (n8 (M4 (c4 (b9 1 (pv 1)) (c4 (b9 4 (pv 4)) (c4 (b7t 3 hu (pv 3) (b9 4 (pv 4))) d9))))))
theorem b3V(D:Df K mg "mended" a7c)(M:Mo K mg)(a4c:a7V P w K mg base)(S5:a1m P w K mg base)(S4:a1l P w K mg base):a9S P w K mg base:=by
 refine p9 (k:=5) D a8O (fun _ _ _ _ _ _=>el2 (fun _ _=>rfl)) fun f cdv A outer s H E hr=> ?_
 have S:=a8O
 have hu:=hr.units
 refine d4 ?_ ?_
 ·refine j4 (i:=2) ?_ ?_
  ·exact S.nd
  refine m8 a4c hr ?_ ?_ ?_ ?_
  ·decide
  ·exact rfl
  ·exact(c9 (c9 l6))
  exact(c4 (K4 M3 rfl M.z_len (by rfl) (b9 0 (pv 0))) (c4 (b9 1 (pv 1)) d9))
 refine f6 ?_
 refine n8 ?_
 refine m8 S5 hr ?_ ?_ ?_ ?_
 ·decide
 ·exact rfl
 ·exact(c9 (c9 l6))
 refine c4 ?_ ?_
 ·exact(b9 0 (pv 0))
 refine c4 ?_ ?_
 ·refine Z9 (ys:=["places"]) (N0:=["carpet","wish","found"]) (fun _ _ h=>h) ?_ ⟨by kernel_rfl,rfl,of_decide_eq_true rfl,of_decide_eq_true rfl,of_decide_eq_true rfl⟩ ?_ (fun C fp pins s H=>j3 (i:=3) b0y rfl (Or.inl rfl)) (fun n h=>B6 (i:=3) (Nat.le_of_eq h)) (fun C fp pins s H=>a1O) ?_
  ·exact rfl
  ·exact(b1i (b9 2 (pv 2)))
  intro C fp pins s H
  refine m8 S4 hr ?_ ?_ ?_ ?_
  ·decide
  ·exact rfl
  ·exact(c9 (c9 (c9 l6)))
  exact(c4 (b9 0 (pv 0)) (c4 (b9 3 (pv 3)) (c4 a87 d9)))
 exact d9
theorem a9B(D:Df K mg "_law_whole" a2e)(M:Mo K mg):a43 P w K mg base:=by
 refine p9 (k:=0) D a31 (fun _ _ _ _ _ _=>el1 (fun _=>rfl)) fun f cdv A outer s H E hr=> ?_
 have S:=a31
 have hu:=hr.units
 refine f6 ?_
 refine n8 ?_
 refine b4V ?_ ?_
 ·exact(a0s (.inl rfl) rfl M.z_isinstance (b9 0 (pv 0)) (Q9 rfl M.z_int (by rfl) rfl))
 exact(b43 (b9o (a0s (.inr (.inl rfl)) rfl M.z_isinstance (b9 0 (pv 0)) (Q9 rfl M.z_bool (by rfl) rfl))))
theorem a9A(D:Df K mg "_law_paper" a2d)(M:Mo K mg)(a1L:a43 P w K mg base):a42 P w K mg base:=by
 refine p9 (k:=1) D a30 (fun _ _ _ _ _ _=>el3 (fun _ _ _=>rfl)) fun f cdv A outer s H E hr=> ?_
 have S:=a30
 have hu:=hr.units
 refine d4 ?_ ?_
 ·refine K9 (PW.pt (a48 (W9 (X0 (a0s (.inr (.inr (.inr (.inl rfl)))) rfl M.z_isinstance (b9 0 (pv 0)) (Q9 rfl M.z_list (by rfl) rfl)))) (a4k (C9 (a2a hu) (b9 0 (pv 0)) (b9 2 (pv 2)) (by first|rfl|exact y0 _))))) ?_ ?_
  ·exact(f6 (n8 Z8))
  exact B4
 refine d4 ?_ ?_
 ·refine S6 PassesOwn.never ?_ ?_ ?_ (r6 3) ?_
  ·exact rfl
  ·exact(b9 0 (pv 0))
  ·exact(j3 (i:=3) S.nd rfl (Or.inl rfl))
  refine d4 ?_ ?_
  ·refine K9 (PW.pt (a48 (W9 (X0 (a0s (.inr (.inr (.inr (.inr (.inl rfl))))) rfl M.z_isinstance (b9 3 (pv 3)) (Q9 rfl M.z_tuple (by rfl) rfl)))) (a48 (W9 (X0 (a0s (.inr (.inr (.inr (.inl rfl)))) rfl M.z_isinstance (n5 (b9 3 (pv 3)) f8) (Q9 rfl M.z_list (by rfl) rfl)))) (a4k (W9 (X0 (a0s (.inr (.inr (.inl rfl))) rfl M.z_isinstance (n5 (b9 3 (pv 3)) f8) (Q9 rfl M.z_str (by rfl) rfl)))))))) ?_ ?_
   ·exact(f6 (n8 Z8))
   exact B4
  refine f6 ?_
  refine K9 (PW.pt (a48 (W9 (X0 (m8 a1L hr (by decide) rfl (c9 l6) (c4 (n5 (b9 3 (pv 3)) f8) d9)))) (a4k (C9 (a2a hu) (Z9 (ys:=["_law_spot"]) (N0:=["_law_found","_law_carpet_here","_law_due_here","_law_row"]) (fun _ _ h=>h) rfl ⟨by kernel_rfl,rfl,of_decide_eq_true rfl,of_decide_eq_true rfl,of_decide_eq_true rfl⟩ (b1i (n5 (b9 3 (pv 3)) f8)) (fun C fp pins s H=>j3 (i:=4) a6O rfl (Or.inl rfl)) (fun n h=>B6 (i:=4) (Nat.le_of_eq h)) (fun C fp pins s H=>(b4U (W9 (X0 (a0s (.inr (.inr (.inr (.inr (.inl rfl))))) rfl M.z_isinstance (b9 4 (pv 4)) (Q9 rfl M.z_tuple (by rfl) rfl)))))) (fun C fp pins s H=>(b9 4 (pv 4)))) (W8 d9) (by first|rfl|exact y0 _))))) ?_ ?_
  ·exact(f6 (n8 Z8))
  exact B4
 exact(f6 (n8 Z8))
theorem a4H(D:Df K mg "_law_told_well" T4)(M:Mo K mg)(a1K:a42 P w K mg base):a1k P w K mg base:=by
 refine p9 (k:=2) D a0Q (fun _ _ _ _ _ _=>el3 (fun _ _ _=>rfl)) fun f cdv A outer s H E hr=> ?_
 have S:=a0Q
 have hu:=hr.units
 refine d4 ?_ ?_
 ·exact(j4 (i:=3) S.nd (K4 M3 rfl M.z_len (by rfl) (b9 1 (pv 1))) rfl (Or.inr rfl))
 refine d4 ?_ ?_
 ·refine K9 (PW.pt (a48 (W9 (X0 (a0s (.inr (.inr (.inr (.inr (.inl rfl))))) rfl M.z_isinstance (b9 0 (pv 0)) (Q9 rfl M.z_tuple (by rfl) rfl)))) (a48 (C9 (a2a hu) (K4 M3 rfl M.z_len (by rfl) (b9 0 (pv 0))) f8 (by first|rfl|exact y0 _)) (a4k (W9 (X0 (m8 a1K hr (by decide) rfl (c9 (c9 (c9 l6))) (c4 (n5 (b9 0 (pv 0)) f8) (c4 (b9 1 (pv 1)) (c4 (b9 2 (pv 2)) d9)))))))))) ?_ ?_
  ·exact(f6 (n8 Z8))
  exact B4
 refine d4 ?_ ?_
 ·exact(j4 (i:=4) S.nd a5F rfl (Or.inr rfl))
 refine d4 ?_ ?_
 ·refine S6 PassesOwn.never ?_ ?_ ?_ (a35 [5,6,7]) ?_
  ·exact rfl
  ·exact(b9 2 (pv 2))
  ·refine a63 ?_ ?_
   ·exact rfl
   refine B2 ?_ ?_
   ·exact(j3 (i:=5) S.nd rfl (Or.inl rfl))
   exact(B2 (j3 (i:=6) S.nd rfl (Or.inl rfl)) (B2 (j3 (i:=7) S.nd rfl (Or.inl rfl)) a2u))
  refine f6 ?_
  refine a23 5 ?_
  refine S6 PassesOwn.never ?_ ?_ ?_ (r6 8) ?_
  ·exact rfl
  ·exact(b9 5 (pv 5))
  ·exact(j3 (i:=8) S.nd rfl (Or.inl rfl))
  exact(f6 (V6 4 hu M.nk (pv 4) (b9 8 (pv 8)) (b9 6 (pv 6))))
 refine d4 ?_ ?_
 ·refine j4 (i:=9) ?_ ?_ ?_ (Or.inr rfl)
  ·exact S.nd
  ·refine b2b a6e ?_ M.z_tuple ?_ ?_
   ·exact rfl
   ·rfl
   refine Z9 (ys:=["_law_r"]) (N0:=["_law_found","_law_carpet_here","_law_due_here","_law_n","_law_knots","_law_spots","_law_colour","_law_many","_law_spot","_law_rows"]) (fun _ _ h=>h) ?_ ⟨by kernel_rfl,rfl,of_decide_eq_true rfl,of_decide_eq_true rfl,of_decide_eq_true rfl⟩ ?_ (fun C fp pins s H=>j3 (i:=10) a3a rfl (Or.inr rfl)) (fun n h=>B6 (i:=10) (Nat.le_of_eq h)) (fun C fp pins s H=>a1O) ?_
   ·exact rfl
   ·exact(a04 rfl M.z_range (c4 (b9 3 (pv 3)) d9))
   intro C fp pins s H
   refine a3y ?_ ?_
   ·exact v6
   refine Z9 (ys:=["_law_c"]) (N0:=["_law_found","_law_carpet_here","_law_due_here","_law_n","_law_knots","_law_spots","_law_colour","_law_many","_law_spot","_law_rows","_law_r"]) (fun _ _ h=>h) ?_ ⟨by kernel_rfl,rfl,of_decide_eq_true rfl,of_decide_eq_true rfl,of_decide_eq_true rfl⟩ ?_ (fun C fp pins s H=>j3 (i:=11) a3b rfl (Or.inl rfl)) (fun n h=>B6 (i:=11) (Nat.le_of_eq h)) (fun C fp pins s H=>a1O) ?_
   ·exact rfl
   ·exact(a04 rfl M.z_range (c4 (b9 3 (pv 3)) d9))
   intro C fp pins s H
   exact(b7s 4 hu (pv 4) (c4 (b9 10 (pv 10)) (c4 (b9 11 (pv 11)) d9)))
  exact rfl
 refine d4 ?_ ?_
 ·refine b2d (i:=5) (ys:=["_law_k"]) (N0:=["_law_found","_law_carpet_here","_law_due_here","_law_n","_law_knots","_law_spots","_law_colour","_law_many","_law_spot","_law_rows"]) ?_ (fun _ _ h=>h) ?_ ⟨by kernel_rfl,rfl,of_decide_eq_true rfl,of_decide_eq_true rfl,of_decide_eq_true rfl⟩ ?_ (fun C fp pins s H=>j3 (i:=10) a3c rfl (Or.inl rfl)) (fun n h=>B6 (i:=10) (Nat.le_of_eq h)) ?_ ?_
  ·exact S.nd
  ·exact rfl
  ·exact(a04 rfl M.z_range (c4 (g6 B1 (b9 3 (pv 3)) (b9 3 (pv 3))) d9))
  ·intro C fp pins s H
   refine b4U ?_
   refine C9 (a2a hu) ?_ ?_ ?_
   ·exact(n5 (n5 (b9 9 (pv 9)) (g6 a19 (b9 10 (pv 10)) (b9 3 (pv 3)))) (g6 v4 (b9 10 (pv 10)) (b9 3 (pv 3))))
   ·exact(n5 (n5 (b9 1 (pv 1)) (g6 a19 (b9 10 (pv 10)) (b9 3 (pv 3)))) (g6 v4 (b9 10 (pv 10)) (b9 3 (pv 3))))
   first|rfl|exact y0 _
  intro C fp pins s H
  exact(b2a a8i rfl M.z_divmod (by rfl) (b9 10 (pv 10)) (b9 3 (pv 3)))
 refine d4 ?_ ?_
 ·refine K9 (PW.pt (a48 (W9 (X0 (a0s (.inr (.inr (.inr (.inr (.inl rfl))))) rfl M.z_isinstance (n5 (b9 0 (pv 0)) f8) (Q9 rfl M.z_tuple (by rfl) rfl)))) (a4k (C9 (a2a hu) (n5 (b9 0 (pv 0)) f8) (b9 9 (pv 9)) (by first|rfl|exact y0 _))))) ?_ ?_
  ·exact(f6 (n8 Z8))
  exact B4
 refine f6 ?_
 refine n8 ?_
 refine b4V ?_ ?_
 ·exact(a0s (.inr (.inr (.inr (.inl rfl)))) rfl M.z_isinstance (n5 (b9 0 (pv 0)) f8) (Q9 rfl M.z_list (by rfl) rfl))
 exact(b43 (b9n (a60 hu) (n5 (b9 0 (pv 0)) f8) (b9 5 (pv 5)) (by first|rfl|exact y0 _)))
theorem b9R{f:AB}{fd:FuncData}(F:Fun K "law" "law" b6F f fd)(M:Mo K mg)(A8:Z4 P w K mg base)(a0r:a2G P w K mg base)(Q4:a2E P w K mg base)(a03:a3p P w K mg base)(a20:a53 P w K mg base)(a4e:a7X P w K mg base)(a3x:a9S P w K mg base)(L6:a1k P w K mg base):a0l P w K mg base CX0 7 f fd ["_law_script"] (spP K 1 b5l):=by
 refine b8M (k:=6) F b6H fun cdv A outer s H E hr=> ?_
 have S:=b6H
 have hu:=hr.units
 refine d4 ?_ ?_
 ·refine j4 (i:=1) ?_ ?_
  ·exact S.nd
  refine m8 A8 hr ?_ ?_ ?_ ?_
  ·decide
  ·exact rfl
  ·exact(c9 (c9 l6))
  refine c4 ?_ ?_
  ·exact(m8 Q4 hr (by decide) rfl (c9 (c9 l6)) (c4 (b9 0 (pv 0)) (c4 f8 d9)))
  exact(c4 f8 d9)
 refine d4 ?_ ?_
 ·refine j4 (i:=2) ?_ ?_
  ·exact S.nd
  refine m8 A8 hr ?_ ?_ ?_ ?_
  ·decide
  ·exact rfl
  ·exact(c9 (c9 l6))
  refine c4 ?_ ?_
  ·exact(m8 Q4 hr (by decide) rfl (c9 (c9 l6)) (c4 (b9 0 (pv 0)) (c4 f8 d9)))
  exact(c4 f8 d9)
 refine d4 ?_ ?_
 ·refine j4 (i:=3) ?_ ?_
  ·exact S.nd
  refine m8 a0r hr ?_ ?_ ?_ ?_
  ·decide
  ·exact rfl
  ·exact(c9 (c9 l6))
  exact(c4 (b9 2 (pv 2)) (c4 (g6 u5 f8 (g6 v4 (g6 a19 (b9 2 (pv 2)) f8) f8)) d9))
 refine d4 ?_ ?_
 ·refine j4 (i:=4) ?_ ?_
  ·exact S.nd
  refine g6 u5 ?_ ?_
  ·exact(a3z (b9 0 (pv 0)) (a3A f8) (a3A f8))
  exact(W8 (c4 (K4 M3 rfl M.z_len (by rfl) (b9 0 (pv 0))) d9))
 refine d4 ?_ ?_
 ·refine R1 PassesOwn.never ?_ ?_ M.z_range ?_ ?_ (r6 5) ?_
  ·exact rfl
  ·exact rfl
  ·exact(c4 (K4 M3 rfl M.z_len (by rfl) (b9 4 (pv 4))) d9)
  ·exact(j3 (i:=5) S.nd rfl (Or.inl rfl))
  refine d4 ?_ ?_
  ·refine j4 (i:=6) ?_ ?_
   ·exact S.nd
   refine m8 A8 hr ?_ ?_ ?_ ?_
   ·decide
   ·exact rfl
   ·exact(c9 (c9 l6))
   exact(c4 (n5 (b9 4 (pv 4)) (b9 5 (pv 5))) (c4 (g6 u5 (b9 5 (pv 5)) f8) d9))
  refine d4 ?_ ?_
  ·exact(j4 (i:=7) S.nd (g6 u5 f8 (g6 v4 (g6 u5 (b9 1 (pv 1)) (b9 5 (pv 5))) f8)))
  refine d4 ?_ ?_
  ·refine a23 3 ?_
   refine j4 (i:=8) ?_ ?_
   ·exact S.nd
   refine m8 a03 hr ?_ ?_ ?_ ?_
   ·decide
   ·exact rfl
   ·exact(c9 (c9 (c9 (c9 l6))))
   refine c4 ?_ ?_
   ·exact(g6 u5 (a3z (b9 4 (pv 4)) (a3A (b9 5 (pv 5))) a89) (a3z (b9 4 (pv 4)) a89 (a3A (b9 5 (pv 5)))))
   exact(c4 (b9 7 (pv 7)) (c4 (b9 3 (pv 3)) (c4 (g6 a19 (b9 6 (pv 6)) f8) d9)))
  refine d4 ?_ ?_
  ·refine j4 (i:=9) ?_ ?_
   ·exact S.nd
   exact(m8 a20 hr (by decide) rfl (c9 (c9 l6)) (c4 (b9 7 (pv 7)) (c4 (b9 6 (pv 6)) d9)))
  refine d4 ?_ ?_
  ·exact(j4 (i:=10) S.nd (b2b (b4K rfl) rfl M.z_list (by rfl) (b9 9 (pv 9))))
  refine d4 ?_ (b7w 11 (b49 (x:=12) (h:=10) (A:=[8]) S.nd M.nl (m8 a3x hr (by decide) rfl (c9 (c9 l6)) (c4 (b9 8 (pv 8)) (c4 (b9 10 (pv 10)) d9))) (PW.pt (a48 (W9 (X0 (m8 L6 hr (by decide) rfl (c9 (c9 (c9 l6))) (c4 (b9 12 (pv 12)) (c4 (b9 8 (pv 8)) (c4 (b9 11 (pv 11)) d9)))))) (a4k (C9 (a2a hu) (b9 10 (pv 10)) (b9 9 (pv 9)) (by first|rfl|exact y0 _))))) (f6 (n8 Z8)) (pv 12) f8 (pv 12) f8 f8 f8 (pv 12) f8 a87 a87 a87 (f6 (a23 9 (a23 11 (K9 (W9 (X0 (m8 L6 hr (by decide) rfl (c9 (c9 (c9 l6))) (c4 (m8 a3x hr (by decide) rfl (c9 (c9 l6)) (c4 (b9 8 (pv 8)) (c4 (b9 9 (pv 9)) d9))) (c4 (b9 8 (pv 8)) (c4 (b9 11 (pv 11)) d9)))))) (f6 (n8 Z8)) B4))))))
  refine a23 9 ?_
  refine j4 (i:=11) ?_ ?_
  ·exact S.nd
  exact(m8 a4e hr (by decide) rfl (c9 (c9 l6)) (c4 (b9 8 (pv 8)) (c4 (b9 9 (pv 9)) d9)))
 exact(f6 (n8 Z8))
end
theorem b87{l:PySem.W.OpenLaw}{w:AI}{K:AD}{h:Heap}{mg:Str->Option AA}{fa:AB}(X:K.In h)(G:h.Ns mainGlobals mg)(hfa:mg "law"=some (.ref fa))
 {L1:AB} {a6V a56:Option AB} {a7p:Array (Option AA)} {a6U a6B a6i a65 a1H a6f:AA}
 {aa_LEADS:AB}
 (A8:Df0 K "_law_mixed" a2c)
 (a0r:Df0 K "_law_letters" a0x)
 (Q4:Df0 K "_law_cell_at" a0v)
 (a03:Df0 K "_law_carpet" a1e)
 (a4d:Df0 K "_law_all" a4R)
 (W7:Df0 K "_law_movement" Y3)
 (a20:Df0 K "_law_wish" a3i)
 (a4g:Df0 K "_law_led" a4U)
 (a0q:Df0 K "_law_circles" a0w)
 (a4f:Df0 K "_law_had" a4T)
 (a4e:Df0 K "_law_due" a4S)
 (a21:Df0 K "place_by" a3j)
 (b4N:Df0 K "led" b6G)
 (a2H:PySem.W.nsIn K mainGlobals "circle_from"=some (some (.ref L1))) (a2Q:K.lookup L1=some ⟨a6U,a6V,.func (PySem.W.fnOf "circle_from" "circle_from" (Z7 D9) (N7 D9) (f9 D9) .none a6B a6i a65 a56 a1H a6f),a7p⟩) (a7H:PySem.W.codeIn K a1H "circle_from"=true) (a7N:PySem.W.keepIn K (.ref L1)=true) (a6m:b6b K "circle_from" L1=true)
 (a6g:Df0 K "parted" a7d)
 (a4c:Df0 K "circles" a4Q)
 (W6:Df0 K "coloured_row" Y2)
 (a2Y:Df0 K "coloured" a3g)
 (N5:Df0 K "carpet_of_paper" O7)
 (a2n:Df0 K "size_of" a4V)
 (a6h:Df0 K "unlike" a7e)
 (S5:Df0 K "told_of_paper" T6)
 (a02:Df0 K "colours_of" a1d)
 (N6:Df0 K "knots_by_colour" O8)
 (W5:Df0 K "best_colours" Y1)
 (S3:Df0 K "chosen_colour" T2)
 (b1g:Df0 K "knot" b1T)
 (a2Z:Df0 K "knots_at" a3h)
 (S4:Df0 K "mended_circle" T5)
 (a3x:Df0 K "mended" a7c)
 (a1L:Df0 K "_law_whole" a2e)
 (a1K:Df0 K "_law_paper" a2d)
 (L6:Df0 K "_law_told_well" T4)
 (c0Y:Df0 K "law" b6F)
 (nk:a5e K=true)
 (nl:b7U K=true)
 (z_bool:PySem.W.nsIn K mainGlobals "bool"=some none)
 (z_divmod:PySem.W.nsIn K mainGlobals "divmod"=some none)
 (z_enumerate:PySem.W.nsIn K mainGlobals "enumerate"=some none)
 (z_int:PySem.W.nsIn K mainGlobals "int"=some none)
 (z_isinstance:PySem.W.nsIn K mainGlobals "isinstance"=some none)
 (z_len:PySem.W.nsIn K mainGlobals "len"=some none)
 (z_list:PySem.W.nsIn K mainGlobals "list"=some none)
 (z_max:PySem.W.nsIn K mainGlobals "max"=some none)
 (z_min:PySem.W.nsIn K mainGlobals "min"=some none)
 (z_range:PySem.W.nsIn K mainGlobals "range"=some none)
 (z_set:PySem.W.nsIn K mainGlobals "set"=some none)
 (z_sorted:PySem.W.nsIn K mainGlobals "sorted"=some none)
 (z_str:PySem.W.nsIn K mainGlobals "str"=some none)
 (z_tuple:PySem.W.nsIn K mainGlobals "tuple"=some none)
 (e_LEADS:PySem.W.nsIn K mainGlobals "LEADS"=some (some (.ref aa_LEADS)))
 (t_LEADS:c0A K 9 aa_LEADS=some E9) (h_LEADS:a9f K aa_LEADS=E9.map (fun kv=>b3z w kv.1))
 :∃fd:FuncData,(∀(s:AC) (v:AA),BindsTo s fd ⟨[v],[]⟩ [("_law_script",v)])/\∀base:Heap,K.In base->base.Ns mainGlobals mg->a0l l.prog w K mg base CX0 7 fa fd ["_law_script"] (b0Q K):=by
 have B9:FnV K mg "circle_from" L1:=b9t (PySem.W.mg_of X G a2H) a2Q rfl a6m
 have Q3:Df0 K "circle_from" D9:=b8J a2H a2Q a7H a7N
 have M:Mo K mg:=⟨PySem.W.mg_none_of X G z_bool,PySem.W.mg_none_of X G z_divmod,PySem.W.mg_none_of X G z_enumerate,PySem.W.mg_none_of X G z_int,PySem.W.mg_none_of X G z_isinstance,PySem.W.mg_none_of X G z_len,PySem.W.mg_none_of X G z_list,PySem.W.mg_none_of X G z_max,PySem.W.mg_none_of X G z_min,PySem.W.mg_none_of X G z_range,PySem.W.mg_none_of X G z_set,PySem.W.mg_none_of X G z_sorted,PySem.W.mg_none_of X G z_str,PySem.W.mg_none_of X G z_tuple,nk,nl⟩
 have mm_LEADS:=PySem.W.mg_of X G e_LEADS
 have tt_LEADS:Tab l.prog w K aa_LEADS E9:=c0C 9 t_LEADS h_LEADS (by decide+kernel)
 refine b7E (c0Y.to X G) hfa (fun _ _ _ _ _ _ _=>rfl) main fun base f fd kb F=> ?_
 have a1y:=a9z l.prog w base (A8.to X G)
 have a7F:=a6Z l.prog w base (a0r.to X G) M
 have a7D:=a6X l.prog w base (Q4.to X G) M
 have a8Y:=a7T l.prog w base (a03.to X G) M a1y
 have b23:=b1I l.prog w base (a4d.to X G) M
 have a50:=a5C l.prog w base (W7.to X G) b23
 have b03:=b0C l.prog w base (a20.to X G) M a50 a1y
 have b26:=b1L l.prog w base (a4g.to X G)
 have a7E:=a6Y l.prog w base (a0q.to X G) M b26
 have b25:=b1K l.prog w base (a4f.to X G)
 have b24:=b1J l.prog w base (a4e.to X G) M a7E b25
 have b04:=b0D l.prog w base (a21.to X G) mm_LEADS tt_LEADS
 have c0P:=b9S l.prog w base (b4N.to X G) b04
 have a2D:=a6W l.prog w base (Q3.to X G) M c0P
 have b4h:=b3W l.prog w base (a6g.to X G) M B9 a2D
 have b22:=b1H l.prog w base (a4c.to X G) B9 b4h a2D
 have a5Z:=a5B l.prog w base (W6.to X G) M
 have b01:=b0A l.prog w base (a2Y.to X G) M a5Z
 have a3k:=a3d l.prog w base (N5.to X G) M b01
 have b27:=b1M l.prog w base (a2n.to X G) M
 have b4i:=b3X l.prog w base (a6h.to X G) M b27
 have a5v:=a4J l.prog w base (S5.to X G) M a3k b4i
 have a8X:=a7S l.prog w base (a02.to X G) M
 have a3l:=a3e l.prog w base (N6.to X G) a8X
 have a5Y:=a5A l.prog w base (W5.to X G) M
 have a5s:=a4G l.prog w base (S3.to X G) a5Y
 have b8Z:=b7X l.prog w base (b1g.to X G) M
 have b02:=b0B l.prog w base (a2Z.to X G) b8Z
 have a5u:=a4I l.prog w base (S4.to X G) a3l a5s b02
 have b4g:=b3V l.prog w base (a3x.to X G) M b22 a5v a5u
 have a9P:=a9B l.prog w base (a1L.to X G) M
 have a9O:=a9A l.prog w base (a1K.to X G) M a9P
 have a5t:=a4H l.prog w base (L6.to X G) M a9O
 exact b9R l.prog w base F M a1y a7F a7D a8Y b03 b24 b4g a5t
end LW
namespace PySem.W.Fast
def tw1845674102481492990:=()
def tw2140088535892304189:=()
def tw17839291620800057496:=()
def tw8465775664876383701:=()
def tw16735283159506863843:=()
def tw9310504672364855993:=()
def tw6136245229638219811:=()
def tw9606432078248880638:=()
def tw2623818003212394908:=()
def tw14649129656117155512:=()
def tw7516975915372787947:=()
def tw5956632569702896641:=()
def tw3906643025514112175:=()
def tw8345852912045597310:=()
def tw15824390912342719663:=()
def tw14176905865352016296:=()
def tw13430358500317182272:=()
def tw5302623141322108146:=()
def tw12994898052107305250:=()
end PySem.W.Fast
open PySem PySem.W PyProof.Rows
set_option maxRecDepth 100000 in
set_option maxHeartbeats 0 in
theorem PySem.Challenge.cw_carpetkin_k91_mended_holds : PySem.Challenge.rw_carpetkin_k91_mended.Holds := by
 w_on;o_law;k_head;(case hw=>w_witness2)
 k_fill
 refine PU.c2k (k:=7) (x:="_law_script") (l:=PySem.Challenge.rw_carpetkin_k91_mended) (by decide) rfl rfl (fun w h Y=>PySem.W.kIn_of Y) ?F
 case F=>
  intro w mg fa h KX G hmg
  refine' LW.b87 KX G hmg ?_ ?_ ?_ ?_ ?_ ?_ ?_ ?_ ?_ ?_ ?_ ?_ ?_ ?_ ?_ ?_ ?_ ?_ ?_ ?_ ?_ ?_ ?_ ?_ ?_ ?_ ?_ ?_ ?_ ?_ ?_ ?_ ?_ ?_ ?_ ?_ ?_ ?_ ?_ ?_ ?_ ?_ ?_ ?_ ?_ ?_ ?_ ?_ ?_ ?_ ?_ ?_ ?_ ?_ ?_ ?_ ?_
  all_goals first|(apply PU.b8J<;>k_is)|k_is|kernel_rfl|skip
