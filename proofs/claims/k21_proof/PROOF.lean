import PyProof.Rows.All
import Wide.All
import OpenK.AllK
import Wide.FinOn
import Lean
import PyProof.EqAt
import PyProof.EqKinds
import PyProof.TupleCall
import PyProof.Rows.SortPure
import PyProof.Rows.SortWalk
import PyProof.AttrMissHeap
import KE.KDictOf
import KE.KIntText
import PyProof.StrBlockH
import PyProof.CallStr
import PyProof.StrLawsIn
import PyProof.StrLawsOcc
import PyProof.StationsW
import PyProof.ExcClass2
import PyProof.ExcBaseAll.ValueError
import PyProof.RulesTry
import PyProof.Rows.CatchBare
import PyProof.Rows.CatchOwn
import OpenK.KOwn
import PyProof.NsDelKeeps
import PyProof.Rows.RuleDivmod
import PyProof.Rows.SumAny
import PySem.Challenge.RW_carpetkin_k21_motifs_written
set_option Elab.async false
set_option linter.all false
set_option maxRecDepth 100000
noncomputable section
open PySem renaming Value -> AA
open PySem renaming Addr -> AB
open PySem.Str renaming ofString -> AC
open PySem renaming wpAny_bind -> AD
open PySem.W renaming Frag -> AE
open PySem renaming wpAny -> AF
open PySem renaming Shared -> AG
open Option renaming bind_some -> AH
open PySem renaming wpAny_pure -> AI
open PySem renaming starEach -> AJ
open List renaming map_cons -> AK
open PySem renaming sizeLine -> AL
open List renaming length_cons -> AM
open List renaming map_nil -> AN
open List renaming replicate_zero -> AO
open List renaming length_append -> AQ
open Nat renaming le_refl -> AR
open PySem renaming Expr -> AS
open PySem.Heap renaming get?_push_of_some -> AT
open PySem renaming World -> AU
open List renaming replicate -> AV
open PySem.Heap renaming lt_size -> AW
open List renaming replicate_succ -> AX
open List renaming cons_append -> AY
open List renaming mem_cons -> AZ
open List renaming nil_append -> Aa
open List renaming mem_cons_self -> Ab
open PySem renaming Program -> Ac
open List renaming length_nil -> Ae
open List renaming set_cons_zero -> Af
open List renaming set_cons_succ -> Ag
open List renaming mem_cons_of_mem -> Ah
open Option renaming map_some -> Ai
open List renaming append_nil -> Aj
open List renaming length_map -> Ak
open PySem renaming Around -> Al
open Nat renaming ne_of_lt -> Am
open PySem.Heap renaming get?_push_size -> An
open List renaming range -> Ao
open List renaming size_toArray -> Aq
open Bool renaming false_ne_true -> Ar
open List renaming getElem?_map -> As
open Nat renaming lt_of_lt_of_le -> At
open List renaming mem_map -> Au
open List renaming mem_append -> Av
open List renaming getElem?_eq_some_iff -> Aw
open List renaming mem_append_right -> Ax
open Nat renaming reduceLeDiff -> Ay
open List renaming getElem?_eq_getElem -> Az
open List renaming map_map -> BA
open List renaming getElem?_append_left -> BB
open Bool renaming false_eq_true -> BC
open Nat renaming le_of_lt -> BD
open Int renaming toNat_natCast -> BE
open List renaming map_append -> BF
open List renaming mem_append_left -> BG
open List renaming mem_of_getElem? -> BH
open List renaming length_range -> BI
namespace L2
open PySem PySem.Spec PyProof.Rows
abbrev Key:=Sum Int Str
def a87:Key->AA->Bool
 | .inl k,v=>Value.isInt k v
 | .inr x,v=>Value.isStrOf x v
def c4Y(w:AU):Key->Int
 | .inl k=>hashInt k
 | .inr x=>hashStr w x
theorem J5:∀{k:Key} {v:AA},a87 k v=true->(∃i t,k=Sum.inl i/\v=Value.int i t)\/(∃x t,k=Sum.inr x/\v=Value.str x t)
 | .inl i,v,h=>by
   obtain⟨t,e⟩:=Value.isInt_shape (k:=i) (v:=v) h
   exact .inl ⟨i,t,rfl,e⟩
 | .inr x,v,h=>by
   obtain⟨t,e⟩:=Value.isStrOf_shape (x:=x) (v:=v) h
   exact .inr ⟨x,t,rfl,e⟩
def b6S(i:Int)(t:Tok):a87 (.inl i) (.int i t)=true:=by simp [a87,Value.isInt]
def b6T(x:Str)(t:Tok):a87 (.inr x) (.str x t)=true:=by simp [a87,Value.isStrOf]
def c2K(a b:Int):decide ((Sum.inl a:Key)=Sum.inl b)=(a==b):=by
 by_cases e:a=b
 ·subst e;simp
 ·have h:¬(Sum.inl a:Key)=Sum.inl b:=fun q=>e (Sum.inl.inj q)
  rw [decide_eq_false h]
  exact(beq_eq_false_iff_ne.mpr e).symm
def c2N(a b:Str):decide ((Sum.inr a:Key)=Sum.inr b)=decide (a=b):=by
 by_cases e:a=b
 ·subst e;simp
 ·have h:¬(Sum.inr a:Key)=Sum.inr b:=fun q=>e (Sum.inr.inj q)
  rw [decide_eq_false h,decide_eq_false e]
def c2L(a:Int)(b:Str):decide ((Sum.inl a:Key)=Sum.inr b)=false:=decide_eq_false (fun q=>nomatch q)
def c2M(a:Str)(b:Int):decide ((Sum.inr a:Key)=Sum.inl b)=false:=decide_eq_false (fun q=>nomatch q)
def B3(prog:Ac)(w:AU):PySem.KeyKind prog w Key where
 is:=a87
 hash:=c4Y w
 inj:=fun v a b ha hb=>by
  rcases J5 ha with⟨i,t,rfl,rfl⟩|⟨x,t,rfl,rfl⟩
  ·rcases J5 hb with⟨j,u,rfl,e⟩|⟨y,u,rfl,e⟩
   ·injection e with e1 _;rw [e1]
   ·exact nomatch e
  ·rcases J5 hb with⟨j,u,rfl,e⟩|⟨y,u,rfl,e⟩
   ·exact nomatch e
   ·injection e with e1 _;rw [e1]
 byValue:=fun k v h=>by
   rcases J5 h with⟨i,t,rfl,rfl⟩|⟨x,t,rfl,rfl⟩<;>rfl
 pyHash:=fun hv h=>by
  rcases J5 hv with⟨i,t,rfl,rfl⟩|⟨x,t,rfl,rfl⟩
  ·exact wpAny_pyHash_int h
  ·exact wpAny_pyHash_str h
 eqBool:=fun hu hv h=>by
  rcases J5 hu with⟨i,t,rfl,rfl⟩|⟨x,t,rfl,rfl⟩
  ·rcases J5 hv with⟨j,u,rfl,rfl⟩|⟨y,u,rfl,rfl⟩
   ·rw [c2K] at h;exact wpAny_eqBool_int h
   ·rw [c2L] at h;exact SeqAt.EqAt.int_str i t y u _ _ _ _ h
  ·rcases J5 hv with⟨j,u,rfl,rfl⟩|⟨y,u,rfl,rfl⟩
   ·rw [c2M] at h;exact SeqAt.EqAt.str_int x t j u _ _ _ _ h
   ·rw [c2N] at h;exact wpAny_eqBool_str h
 «strs»:=fun k x t v h=>by
  rcases J5 h with⟨i,u,rfl,e⟩|⟨y,u,rfl,e⟩
  ·exact nomatch e
  ·injection e with e1 _
   subst e1
   cases v<;>rfl
def b3w(prog:Ac)(w:AU)(i:Int)(t:Tok):(B3 prog w).is (.inl i) (.int i t)=true:=b6S i t
def a2g(prog:Ac)(w:AU)(x:Str)(t:Tok):(B3 prog w).is (.inr x) (.str x t)=true:=b6T x t
inductive V where
 |non|bl (b:Bool)|int (i:Int)|str (x:Str)|byt (b:Array UInt8)|flt (b:UInt64)|ref (a:AB)|ty (n:String)
 deriving DecidableEq
def A8:V->AA->Prop
 | .non,u=>u=Value.none
 | .bl b,u=>u=Value.bool b
 | .int i,u=>∃t,u=Value.int i t
 | .str x,u=>∃t,u=Value.str x t
 | .byt b,u=>∃t,u=Value.bytes b t
 | .flt b,u=>∃t,u=Value.float b t
 | .ref a,u=>u=Value.ref a
 | .ty n,u=>u=Value.type n
abbrev y9:List V->List AA->Prop:=Paired A8
def y9.length(r:y9 xs us):xs.length=us.length:=Paired.length r
theorem y9.get:∀{xs:List V} {us:List AA} {i:Nat} {x:V},y9 xs us->xs[i]?=some x->∃u,us[i]?=some u/\A8 x u
 |_,_,_,_,.nil,e=>by simp at e
 |_,_,0,_,.cons r _,e=>by simp at e;subst e;exact⟨_,rfl,r⟩
 |_,_,i+1,x,.cons _ t,e=>by
  obtain⟨u,h1,h2⟩:=y9.get (i:=i) (x:=x) t (by simpa using e)
  exact⟨u,by simpa using h1,h2⟩
theorem y9.append:∀{xs ys:List V} {us ws:List AA},y9 xs us->y9 ys ws->y9 (xs++ys) (us++ws)
 |_,_,_,_,.nil,s=>s
 |_,_,_,_,.cons r t,s=> .cons r (y9.append t s)
theorem y9.take:∀{xs:List V} {us:List AA} (n:Nat),y9 xs us->y9 (xs.take n) (us.take n)
 |_,_,0,_=> .nil
 |_,_,_+1,.nil=> .nil
 |_,_,n+1,.cons r t=> .cons r (y9.take n t)
theorem y9.drop:∀{xs:List V} {us:List AA} (n:Nat),y9 xs us->y9 (xs.drop n) (us.drop n)
 |_,_,0,r=>r
 |_,_,_+1,.nil=> .nil
 |_,_,n+1,.cons _ t=>y9.drop n t
def a6u:Option V->Option AA->Prop
 |some v,some u=>A8 v u
 |none,none=>True
 |_,_=>False
def KV:List (κ×V)->List (κ×AA)->Prop:=Paired fun(p:κ×V) (q:κ×AA)=>p.1=q.1/\A8 p.2 q.2
def kV:Key->V
 | .inl i=> .int i
 | .inr x=> .str x
inductive HO where
 |lst (xs:List V)
 |tup (xs:List V)
 |dK (kvs:List (Key×V))|dT (kvs:List (List Key×V))
 |set (S:Int->Bool) (n:Nat)
 |ins (C dx:AB) (fs:List (Str×V))
 |own (x:AB)
 |xd (fs:List (Str×V))
 |met (f x:AB)
 |rng (lo hi:Int)
 |frz (o:Obj) (u:HO)
 |tbl (ps:Array AA)
 |ext (φ:Heap->Prop)
abbrev Hp:=AB->Option HO
def K7(H:Hp)(a:AB)(o:HO):Hp:=fun b=>if b=a then some o else H b
def z9{H:Hp}{a:AB}{o:HO}:K7 H a o a=some o:=by unfold K7;rw [if_pos rfl]
def w4{H:Hp}{a b:AB}{o:HO}(h:b≠a):K7 H a o b=H b:=by unfold K7;rw [if_neg h]
def b6u:K7 (K7 H a o) a u=K7 H a u:=by
 funext b;unfold K7;split<;>rfl
def x9{H:Hp}{a b:AB}{o:HO}(h:H a=some o)(h':H b=none):a≠b:=by
 intro e;subst e;rw [h] at h';cases h'
section
variable (P:Ac)(w:AU)
def K3(H:Hp)(h:Heap)(a:AB):HO->Prop
 | .lst xs=>xs.length<=AL/\∃(its:List AA) (n:Nat),y9 xs its/\h.get? a=some {cls:= .type "list",data:= .seq its.toArray n}
 | .tup xs=>xs.length<=AL/\∃its:List AA,y9 xs its/\IsTup h a its.toArray
 | .dK kvs=>kvs.length<=AL/\(a==sysModules)=false/\∃vs,KV kvs vs/\h.DictOf (B3 P w) a vs
 | .dT kvs=>kvs.length<=AL/\(a==sysModules)=false/\∃xs:List (List Key×AB×AA),
  Paired (fun(p:List Key×V) (q:List Key×AB×AA)=>p.1=q.1/\H q.2.1=some (.tup (p.1.map kV))/\A8 p.2 q.2.2) kvs xs/\
  ∃o es ep,h.get? a=some o/\o.ExactDict/\o.data= .dict es ep/\es.toList=xs.map (entryOfKey (tupleKind (B3 P w)))/\(xs.map (·.1)).Nodup
 | .set S n=>h.SetOf (intKind P w) a S n
 | .ins C dx fs=>H dx=some (.own a)/\fs.length<=1000/\dx≠a/\h.get? a=some (W.instObj C dx)/\
  ∃mA,h.Ns1 dx mA/\(∀f,a6u (fs.lookup f) (mA f))/\PySem.Within mA (fs.map (·.1))
 | .own _=>∃o,h.get? a=some o
 | .xd fs=>∃mA,h.Ns1 a mA/\∀f,a6u (fs.lookup f) (mA f)
 | .rng lo hi=>∃t u v,h.get? a=some {cls:= .type "range",data:= .fields #[.int lo t,.int hi u,.int 1 v]}
 | .frz o u=>h.get? a=some o/\K3 H h a u
 | .tbl ps=>h.get? a=some {cls:= .none,data:= .fields ps}
 | .met f x=>h.get? a=some (W.methodObj (.ref f) (.ref x))
 | .ext φ=>φ h/\(∃o,h.get? a=some o)/\∀h1 h2:Heap,φ h1->(∀o,h1.get? a=some o->h2.get? a=some o)->φ h2
def HOk(H:Hp)(h:Heap):Prop:=∀a o,H a=some o->K3 P w H h a o
end
def K3.lt(x:K3 P w H h a o):a<h.objs.size:=by
 cases o with
 |lst xs=>obtain⟨_,_,_,_,e⟩:=x;exact AW e
 |tup xs=>obtain⟨_,_,_,p⟩:=x;exact p.lt
 |dK kvs=>obtain⟨_,_,_,_,o,_,_,e,_⟩:=x;exact AW e
 |dT kvs=>obtain⟨_,_,_,_,o,_,_,e,_⟩:=x;exact AW e
 |set S n=>obtain⟨o,_,_,_,e,_⟩:=x;exact AW e
 |ins C dx fs=>obtain⟨_,_,_,e,_⟩:=x;exact AW e
 |own y=>obtain⟨_,e⟩:=x;exact AW e
 |xd fs=>obtain⟨_,⟨_,_,_,e,_⟩,_⟩:=x;exact AW e
 |rng lo hi=>obtain⟨_,_,_,e⟩:=x;exact AW e
 |frz ob u=>obtain⟨e,_⟩:=x;exact AW e
 |tbl ps=>exact AW (show h.get? a=some _ from x)
 |met f y=>exact AW (show h.get? a=some _ from x)
 |ext φ=>obtain⟨_,⟨_,e⟩,_⟩:=x;exact AW e
theorem Paired.mapP:∀{l₁:List α} {l₂:List β},Paired F l₁ l₂->(∀a b,F a b->G a b)->Paired G l₁ l₂
 |_,_,.nil,_=> .nil
 |_,_,.cons r t,f=> .cons (f _ _ r) (Paired.mapP t f)
def K3.stay(x:K3 P w H h a o)(k:∀b u,(b=a\/H b=some (.own a))->h.get? b=some u->h'.get? b=some u)
 (ho:∀b,H b=some (.own a)->H' b=some (.own a)) (ht:∀b xs,H b=some (.tup xs)->H' b=some (.tup xs)):K3 P w H' h' a o:=by
 induction o with
 |lst xs=>obtain⟨z,its,n,r,e⟩:=x;exact⟨z,its,n,r,k _ _ (.inl rfl) e⟩
 |tup xs=>obtain⟨z,its,r,ob,e,c⟩:=x;exact⟨z,its,r,ob,k _ _ (.inl rfl) e,c⟩
 |dK kvs=>obtain⟨z,y,vs,r,ob,es,ep,e,c⟩:=x;exact⟨z,y,vs,r,ob,es,ep,k _ _ (.inl rfl) e,c⟩
 |dT kvs=>
  obtain⟨z,y,xs,r,ob,es,ep,e,c⟩:=x
  exact⟨z,y,xs,Paired.mapP r fun p q z=>⟨z.1,ht _ _ z.2.1,z.2.2⟩,ob,es,ep,k _ _ (.inl rfl) e,c⟩
 |set S n=>obtain⟨ob,es,ep,t,e,c⟩:=x;exact⟨ob,es,ep,t,k _ _ (.inl rfl) e,c⟩
 |ins C dx fs=>
  obtain⟨d,z,ne,e,mA,⟨od,es,ep,e2,c⟩,r⟩:=x
  exact⟨ho _ d,z,ne,k _ _ (.inl rfl) e,mA,⟨od,es,ep,k _ _ (.inr d) e2,c⟩,r⟩
 |own y=>obtain⟨ob,e⟩:=x;exact⟨ob,k _ _ (.inl rfl) e⟩
 |xd fs=>obtain⟨mA,⟨od,es,ep,e,c⟩,r⟩:=x;exact⟨mA,⟨od,es,ep,k _ _ (.inl rfl) e,c⟩,r⟩
 |rng lo hi=>obtain⟨t,u,v,e⟩:=x;exact⟨t,u,v,k _ _ (.inl rfl) e⟩
 |frz ob u ih=>obtain⟨e,q⟩:=x;exact⟨k _ _ (.inl rfl) e,ih q⟩
 |tbl ps=>
  have e:h.get? a=some {cls:= .none,data:= .fields ps}:=x
  show h'.get? a=some {cls:= .none,data:= .fields ps}
  exact k a _ (.inl rfl) e
 |met f y=>
  have e:h.get? a=some (W.methodObj (.ref f) (.ref y)):=x
  show h'.get? a=some (W.methodObj (.ref f) (.ref y))
  exact k a _ (.inl rfl) e
 |ext φ=>obtain⟨p,⟨o,e⟩,st⟩:=x;exact⟨st _ _ p fun o q=>k _ _ (.inl rfl) q,⟨o,k _ _ (.inl rfl) e⟩,st⟩
def HOk.lt(x:HOk P w H h)(e:H a=some o):a<h.objs.size:=(x a o e).lt
def HOk.fresh(x:HOk P w H h)(e:h.objs.size<=a):H a=none:=by
 cases q:H a with
 |none=>rfl
 |some u=>exact absurd (At (x.lt q) e) (Nat.lt_irrefl _)
def HOk.kept(x:HOk P w H h)(k:∀b u,h.get? b=some u->h'.get? b=some u):HOk P w H h':=fun a o e=>
 (x a o e).stay (fun b u _ q=>k b u q) (fun _ q=>q) fun _ _ q=>q
def HOk.laid(x:HOk P w H h)(k:∀b u,h.get? b=some u->h'.get? b=some u)(hp:h.objs.size<=a)(new:K3 P w (K7 H a o) h' a o):HOk P w (K7 H a o) h':=fun b u e=>by
 have hn:=x.fresh hp
 by_cases hb:b=a
 ·subst hb;rw [z9] at e;cases e;exact new
 ·rw [w4 hb] at e
  exact(x b u e).stay (fun c v _ q=>k c v q) (fun c q=>by rw [w4 (x9 q hn)];exact q) fun c xs q=>by rw [w4 (x9 q hn)];exact q
def Rd(H:Hp)(a:AB)(u:HO):Prop:=H a=some u\/∃o,H a=some (.frz o u)
def Rd.ok{P:Ac}{w:AU}{H:Hp}{h:Heap}{a:AB}{u:HO}(r:Rd H a u)(x:HOk P w H h):K3 P w H h a u:=by
 rcases r with r|⟨o,r⟩
 ·exact x a u r
 ·obtain⟨_,q⟩:=x a _ r
  exact q
def Mut:Option HO->Prop
 |some (.lst _)=>True
 |some (.dK _)=>True
 |some (.dT _)=>True
 |some (.set _ _)=>True
 |some (.ins _ _ _)=>True
 |some (.ext _)=>True
 |_=>False
def HOk.write(ok:HOk P w H h)(mu:Mut (H x))(he:e=x\/H e=some (.own x))(k:∀b u,b≠e->h.get? b=some u->h'.get? b=some u)(heo:∃u,h'.get? e=some u)
 (new:K3 P w (K7 H x o') h' x o'):HOk P w (K7 H x o') h':=fun b u q=>by
 have nown:∀c y,H c=some (.own y)->c≠x:=fun c y r z=>by subst z;rw [r] at mu;exact mu
 have ntup:∀c xs,H c=some (.tup xs)->c≠x:=fun c xs r z=>by subst z;rw [r] at mu;exact mu
 by_cases hb:b=x
 ·subst hb;rw [z9] at q;cases q;exact new
 ·rw [w4 hb] at q
  by_cases hbe:b=e
  ·have q':H b=some (.own x):=by
    rcases he with z|z
    ·exact absurd (hbe.trans z) hb
    ·rw [hbe];exact z
   rw [q] at q';cases q'
   obtain⟨v,hv⟩:=heo
   exact⟨v,by rw [hbe];exact hv⟩
  ·refine(ok b u q).stay (fun c v hc r=>k c v ?_ r) (fun c r=>by rw [w4 (nown c b r)];exact r) fun c xs r=>by rw [w4 (ntup c xs r)];exact r
   rcases hc with rfl|hc
   ·exact hbe
   ·rintro rfl
    rcases he with z|z
    ·exact nown c b hc z
    ·rw [hc] at z;cases z;exact hb rfl
structure Un(fs ex:List AB)(H H':Hp)(h h':Heap):Prop where
 keep:∀b o,h.get? b=some o->H b=none->b∉fs->b∉ex->h'.get? b=some o
 slot:∀b o,h.get? b=some o->H b=none->b∈fs->b∉ex->∃sl,h'.get? b=some {o with slots:=sl}
 free:∀b o,h.get? b=some o->H b=none->b∉ex->H' b=none
 there:∀b o,h.get? b=some o->b∉ex->∃o',h'.get? b=some o'
 tups:∀b xs,H b=some (.tup xs)->H' b=some (.tup xs)
 frzs:∀b o u,H b=some (.frz o u)->H' b=some (.frz o u)
 tbls:∀b ps,H b=some (.tbl ps)->∃more,H' b=some (.tbl (ps++more))
def Un.any(u:Un fs ex H H1 h h1)(q:h.get? b=some ob)(n:H b=none)(hx:b∉ex):∃sl,h1.get? b=some {ob with slots:=sl}:=by
 by_cases hb:b∈fs
 ·exact u.slot b ob q n hb hx
 ·exact⟨ob.slots,u.keep b ob q n hb hx⟩
def Un.kept(k:∀b u,h.get? b=some u->h'.get? b=some u):Un fs ex H H h h':=
 ⟨fun b ob q _ _ _=>k b ob q,fun b ob q _ _ _=>⟨ob.slots,k b ob q⟩,fun _ _ _ n _=>n,fun b ob q _=>⟨ob,k b ob q⟩,fun _ _ q=>q,fun _ _ _ q=>q,fun _ ps q=>⟨#[],by rw [q];simp⟩⟩
def Un.refl:Un fs ex H H h h:=Un.kept fun _ _ q=>q
def Un.laid(k:∀b u,h.get? b=some u->h'.get? b=some u)(hp:h.objs.size<=a)(hn:H a=none):Un fs ex H (K7 H a o) h h' where
 keep:=fun b u q _ _ _=>k b u q
 slot:=fun b u q _ _ _=>⟨u.slots,k b u q⟩
 free:=fun b u q n _=>by rw [w4 (Am (At (AW q) hp))];exact n
 there:=fun b u q _=>⟨u,k b u q⟩
 tups:=fun b xs q=>by rw [w4 (x9 q hn)];exact q
 frzs:=fun b u xs q=>by rw [w4 (x9 q hn)];exact q
 tbls:=fun b ps q=>⟨#[],by rw [w4 (x9 q hn),q];simp⟩
def Un.write(mu:Mut (H x))(he:e=x\/H e=some (.own x))(k:∀b u,b≠e->h.get? b=some u->h'.get? b=some u)(heo:∃u,h'.get? e=some u):Un fs ex H (K7 H x o) h h':=by
 have hx:∀b,H b=none->b≠x:=fun b n z=>by subst z;rw [n] at mu;exact mu
 have hb:∀b,H b=none->b≠e:=fun b n z=>by
  subst z
  rcases he with r|r
  ·exact hx b n r
  ·rw [n] at r;cases r
 have hm:∀b u,H b=some u->¬Mut (some u)->b≠x:=fun b u q nm z=>by subst z;rw [q] at mu;exact nm mu
 refine⟨fun b u q n _ _=>k b u (hb b n) q,fun b u q n _ _=>⟨u.slots,k b u (hb b n) q⟩,fun b u q n _=>by rw [w4 (hx b n)];exact n,fun b u q _=> ?_,
  fun b xs q=>by rw [w4 (hm b _ q fun z=>z)];exact q,fun b u xs q=>by rw [w4 (hm b _ q fun z=>z)];exact q,fun b ps q=>⟨#[],by rw [w4 (hm b _ q fun z=>z),q];simp⟩⟩
 by_cases hbe:b=e
 ·subst hbe;exact heo
 ·exact⟨u,k b u hbe q⟩
def trk(h:Heap)(H:Hp):List AB:=(Ao h.objs.size).filter fun a=>(H a).isSome
def b12(h:Heap)(H:Hp):Heap:=W.hideAll h (trk h H)
def b6M(h:Heap)(H:Hp):(b12 h H).objs.size=h.objs.size:=W.hideAll_size _ _
def b8g(e:h.get? b=some o)(n:H b=none):(b12 h H).get? b=some o:=
 W.hideAll_get _ e fun hm=>by
  have q:(H b).isSome=true:=(List.mem_filter.mp hm).2
  rw [n] at q;simp at q
def c0V(e:(b12 h H).get? b=some o):h.get? b=some o/\H b=none:=by
 have e':h.get? b=some o:=W.of_hideAll (trk h H) e
 refine⟨e', ?_⟩
 cases q:H b with
 |none=>rfl
 |some x=>
  have hm:b∈trk h H:=List.mem_filter.mpr ⟨List.mem_range.mpr (AW e'),by simp [q]⟩
  have z:(b12 h H).get? b=none:=W.hideAll_none (trk h H) hm
  rw [z] at e;cases e
structure Mod(K:AE)(mg:Str->Option AA)(base:Heap):Prop where
 kin:K.In base
 glob:base.Ns mainGlobals mg
 blt:∃mb,base.Ns builtinsNs mb/\∀x:Str,x≠"__name__"->mb x=bootBuiltins x
 nolimit:base.NoLimit
structure Cx where
 prog:Ac
 w:AU
 K:AE
 mg:Str->Option AA
 base:Heap
 A:Al
 N:List Str
 s₀:AG
 H₀:Hp
 env:Env
 outer:List Env
 stack:List Env
 ex:List AB
 fn:Str->Bool
 calm:Bool
 pn:List (AB×Obj)
 xe:AA->AG->Prop
def frs(l:List Env):List AB:=l.filterMap (·.frame)
abbrev Cx.fs(X:Cx):List AB:=frs X.outer
def Vis(sc:Scope)(x:Str):Prop:=sc.names.lookup x=some .local\/sc.names.lookup x=some .cell\/sc.names.lookup x=some .free
def Loc(sc:Scope)(x:Str):Prop:=sc.names.lookup x=some .local\/sc.names.lookup x=some .cell
def c4R(env:Env)(h:Heap)(m:Str->Option AA)(x:Str)(u:AA):Prop:=
 (env.kindOf x=some .local/\m x=some u)\/((env.kindOf x=some .cell\/env.kindOf x=some .free)/\∃c,env.cells.lookup x=some c/\h.IsCell c (some u))
structure Cx.Ok(X:Cx):Prop where
 mod:Mod X.K X.mg X.base
 kind:X.env.scope.kind= .function
 glob:X.env.globals=mainGlobals
 blt:X.env.builtins=builtinsNs
 above:X.s₀.heap.objs.size<=X.env.locals
 inj:∀x y c,X.env.cells.lookup x=some c->X.env.cells.lookup y=some c->x=y
 has:∀x,(X.env.kindOf x=some .cell\/X.env.kindOf x=some .free)->∃c,X.env.cells.lookup x=some c
 cab:∀x c,X.fn x=true->X.env.cells.lookup x=some c->X.s₀.heap.objs.size<=c
 hd:X.calm=true->X.A.handled=none
 frames:X.A.frames=some X.stack
 stk:X.stack=X.outer\/(X.stack=X.env::X.outer/\X.env.frame=some X.env.locals)
 exf:∀b∈X.ex,b≠X.env.locals/\∀x c,X.env.cells.lookup x=some c->c≠b
 bs:∀b o,X.base.get? b=some o->X.s₀.heap.get? b=some o/\X.H₀ b=none
 bsz:X.base.objs.size<=X.s₀.heap.objs.size
 noex:∀b o,X.base.get? b=some o->b∉X.ex
 exfs:∀b∈X.ex,b∉X.fs
 funs:X.s₀.heap.FunFrames X.base X.outer
 frf:∀b∈X.fs,X.H₀ b=none
structure Inv(X:Cx)(pins:List (AB×Obj))(σ:List (Option V))(H:Hp)(s:AG):Prop where
 ok:X.Ok
 os:s.os=X.s₀.os
 bare:AllBare s.gens
 base:Un X.fs X.ex X.H₀ H X.s₀.heap s.heap
 loc:∃m,s.heap.Ns X.env.locals m/\∀(i:Nat) (x:Str) (v:V),X.N[i]?=some x->σ[i]?=some (some v)->Vis X.env.scope x->∃u,A8 v u/\c4R X.env s.heap m x u
 cell:∀x c,X.env.cells.lookup x=some c->∃v,s.heap.IsCell c v
 free:H X.env.locals=none
 freeC:∀x c,X.env.cells.lookup x=some c->H c=none
 pin:∀p∈X.pn++pins,s.heap.get? p.1=some p.2/\H p.1=none/\p.1≠X.env.locals/\p.1∉X.fs/\∀v,p.2.data≠.cell v
 hok:HOk X.prog X.w H s.heap
 len:σ.length=X.N.length
section
variable {X:Cx}{pins:List (AB×Obj)}{σ:List (Option V)}{H H':Hp}{s:AG}{h':Heap}
def Cx.Ok.nofr(ok:X.Ok)(e:X.base.get? b=some o):b∉X.fs:=fun hb=>by
 have:=(ok.funs.mem hb).1
 rw [e] at this;cases this
def Inv.bs(I:Inv X pins σ H s):∀b o,X.base.get? b=some o->s.heap.get? b=some o/\H b=none:=fun b o e=>
 ⟨I.base.keep b o (I.ok.bs b o e).1 (I.ok.bs b o e).2 (I.ok.nofr e) (I.ok.noex b o e),I.base.free b o (I.ok.bs b o e).1 (I.ok.bs b o e).2 (I.ok.noex b o e)⟩
def Inv.bk(I:Inv X pins σ H s):∀b o,X.base.get? b=some o->s.heap.get? b=some o:=fun b o e=>(I.bs b o e).1
def Inv.mod(I:Inv X pins σ H s):Mod X.K X.mg X.base:=I.ok.mod
def Inv.kIn(I:Inv X pins σ H s):X.K.In s.heap:=I.ok.mod.kin.keeps I.bk
def Inv.lt(I:Inv X pins σ H s):X.env.locals<s.heap.objs.size:=let ⟨_,hn,_⟩:=I.loc;hn.lt
def Inv.sz(I:Inv X pins σ H s):X.s₀.heap.objs.size<=s.heap.objs.size:=Nat.le_trans I.ok.above (BD I.lt)
def Inv.nofs(I:Inv X pins σ H s)(h:s.heap.objs.size<=a):a∉X.fs:=fun hb=>by
 obtain⟨_,o,ho,_⟩:=I.ok.funs.mem hb
 exact absurd (At (AW ho) (Nat.le_trans I.sz h)) (Nat.lt_irrefl _)
def Inv.cne(I:Inv X pins σ H s):∀x c,X.env.cells.lookup x=some c->c≠X.env.locals:=fun x c e z=>by
 obtain⟨v,o,ho,hd⟩:=I.cell x c e
 obtain⟨m,⟨o',es,ep,ho',hd',_⟩,_⟩:=I.loc
 rw [z,ho'] at ho;cases ho;rw [hd'] at hd;cases hd
def Inv.funs(I:Inv X pins σ H s):s.heap.FunFrames X.base X.outer:=by
 have all:∀(l:List Env),(∀b∈frs l,b∈X.fs)->X.s₀.heap.FunFrames X.base l->s.heap.FunFrames X.base l:=by
  intro l
  induction l with
  |nil=>intro _ _;trivial
  |cons env r ih=>
   intro hs hl
   obtain⟨hk,⟨L,o,hf,hn,ho,hd⟩,hr⟩:=hl
   have hL:L∈X.fs:=hs L (by unfold frs;rw [List.filterMap_cons,hf];exact Ab)
   obtain⟨sl,e⟩:=I.base.slot L o ho (I.ok.frf L hL) hL fun z=>I.ok.exfs L z hL
   exact⟨hk,⟨L,_,hf,hn,e,hd⟩,ih (fun b hb=>hs b (by unfold frs;rw [List.filterMap_cons,hf];exact Ah _ hb)) hr⟩
 exact all X.outer (fun _ hb=>hb) I.ok.funs
def Inv.stack(I:Inv X pins σ H s):s.heap.FunFrames X.base X.stack:=by
 rcases I.ok.stk with e|⟨e,hf⟩
 ·rw [e];exact I.funs
 ·rw [e]
  obtain⟨m,hn,_⟩:=I.loc
  refine .cons (by rw [I.ok.kind];decide) hf hn ?_ I.funs
  exact Heap.get?_none_of_le (Nat.le_trans I.ok.bsz I.ok.above)
def Inv.stkSub(I:Inv X pins σ H s):∀b∈frs X.stack,b∈X.env.locals::X.fs:=fun b hb=>by
 rcases I.ok.stk with e|⟨e,hf⟩
 ·rw [e] at hb;exact Ah _ hb
 ·rw [e] at hb
  unfold frs at hb
  rw [List.filterMap_cons,hf] at hb
  exact hb
def Inv.stkFree(I:Inv X pins σ H s):∀b∈frs X.stack,H b=none:=fun b hb=>by
 rcases AZ.mp (I.stkSub b hb) with e|hb
 ·rw [e];exact I.free
 ·obtain⟨_,o,ho,_⟩:=I.ok.funs.mem hb
  exact I.base.free b o ho (I.ok.frf b hb) fun z=>I.ok.exfs b z hb
def Inv.step{g':Array GenState}{t':Nat}{d':Drawn}{ch:List AB}(I:Inv X pins σ H s)
 (hch:∀b∈ch,(b∈X.ex\/X.s₀.heap.objs.size<=b)/\b≠X.env.locals/\(∀x c,X.env.cells.lookup x=some c->c≠b)/\∀p∈X.pn++pins,p.1≠b)
 (keep:∀b o,b≠X.env.locals->b∉X.fs->b∉ch->s.heap.get? b=some o->H b=none->h'.get? b=some o)
 (slot:∀b o,b≠X.env.locals->b∈X.fs->b∉ch->s.heap.get? b=some o->H b=none->∃sl,h'.get? b=some {o with slots:=sl}) (free:∀b o,b∉ch->s.heap.get? b=some o->H b=none->H' b=none)
 (there:∀b o,b∉ch->s.heap.get? b=some o->∃o',h'.get? b=some o')
 (tups:∀b xs,H b=some (.tup xs)->H' b=some (.tup xs)) (frzs:∀b o u,H b=some (.frz o u)->H' b=some (.frz o u)) (tbls:∀b ps,H b=some (.tbl ps)->∃more,H' b=some (.tbl (ps++more)))
 (ns:∀m,s.heap.Ns X.env.locals m->h'.Ns X.env.locals m) (hok:HOk X.prog X.w H' h') (hg:AllBare g'):
 Inv X pins σ H' {s with heap:=h',gens:=g',drawn:=d',toks:=t'}:=by
 have neL:∀b o,X.s₀.heap.get? b=some o->b≠X.env.locals:=fun b o e=>Am (At (AW e) I.ok.above)
 have neC:∀b o,X.s₀.heap.get? b=some o->b∉X.ex->b∉ch:=fun b o e hx hb=>by
  rcases(hch b hb).1 with z|z
  ·exact hx z
  ·exact absurd (At (AW e) z) (Nat.lt_irrefl _)
 have cellK:∀x c,X.env.cells.lookup x=some c->∀v,s.heap.IsCell c v->h'.IsCell c v:=fun x c e v ⟨o,ho,hd⟩=>by
  have nch:c∉ch:=fun z=>(hch c z).2.2.1 x c e rfl
  by_cases hc:c∈X.fs
  ·obtain⟨sl,q⟩:=slot c o (I.cne x c e) hc nch ho (I.freeC x c e)
   exact⟨_,q,hd⟩
  ·exact⟨o,keep c o (I.cne x c e) hc nch ho (I.freeC x c e),hd⟩
 refine⟨I.ok,I.os,hg,⟨fun b o e n hb hx=> ?_,fun b o e n hb hx=> ?_,fun b o e n hx=> ?_,fun b o e hx=> ?_,fun b xs e=>tups b xs (I.base.tups b xs e),fun b o xs e=>frzs b o xs (I.base.frzs b o xs e),fun b ps e=> ?_⟩, ?_,fun x c e=> ?_, ?_,fun x c e=> ?_,fun p hp=> ?_,hok,I.len⟩
 ·exact keep b o (neL b o e) hb (neC b o e hx) (I.base.keep b o e n hb hx) (I.base.free b o e n hx)
 ·obtain⟨sl,e1⟩:=I.base.slot b o e n hb hx
  obtain⟨sl',e2⟩:=slot b _ (neL b o e) hb (neC b o e hx) e1 (I.base.free b o e n hx)
  exact⟨sl',e2⟩
 ·obtain⟨o',e1⟩:=I.base.there b o e hx
  exact free b o' (neC b o e hx) e1 (I.base.free b o e n hx)
 ·obtain⟨o',e1⟩:=I.base.there b o e hx
  exact there b o' (neC b o e hx) e1
 ·obtain⟨m1,e1⟩:=I.base.tbls b ps e
  obtain⟨m2,e2⟩:=tbls b _ e1
  exact⟨m1++m2,by rw [e2,Array.append_assoc]⟩
 ·obtain⟨m,hn,hl⟩:=I.loc
  refine⟨m,ns m hn,fun i x v e1 e2 e3=> ?_⟩
  obtain⟨u,r,l⟩:=hl i x v e1 e2 e3
  refine⟨u,r, ?_⟩
  rcases l with l|⟨k,c,e,z⟩
  ·exact .inl l
  ·exact .inr ⟨k,c,e,cellK x c e _ z⟩
 ·obtain⟨v,z⟩:=I.cell x c e
  exact⟨v,cellK x c e v z⟩
 ·obtain⟨m,⟨o,_,_,ho,_⟩,_⟩:=I.loc
  exact free _ o (fun z=>(hch _ z).2.1 rfl) ho I.free
 ·obtain⟨v,o,ho,hd⟩:=I.cell x c e
  exact free c o (fun z=>(hch c z).2.2.1 x c e rfl) ho (I.freeC x c e)
 ·obtain⟨e,n,ne,nf,d⟩:=I.pin p hp
  have nch:p.1∉ch:=fun z=>(hch p.1 z).2.2.2 p hp rfl
  exact⟨keep p.1 p.2 ne nf nch e n,free p.1 p.2 nch e n,ne,nf,d⟩
def Inv.un{t':Nat}(I:Inv X pins σ H s)(u:Un X.fs [] H H' s.heap h')(hok:HOk X.prog X.w H' h'):Inv X pins σ H' {s with heap:=h',toks:=t'}:=by
 obtain⟨m,⟨o,es,ep,ho,r⟩,_⟩:=id I.loc
 obtain⟨sl,hL⟩:=u.any ho I.free (by simp)
 exact I.step (g':=s.gens) (d':=s.drawn) (ch:=[]) (fun _ z=>nomatch z) (fun b o _ hb _ e n=>u.keep b o e n hb (by simp)) (fun b o _ hb _ e n=>u.slot b o e n hb (by simp)) (fun b o _ e n=>u.free b o e n (by simp)) (fun b o _ e=>u.there b o e (by simp)) u.tups u.frzs u.tbls (fun m' hm=>by
  obtain⟨o',es',ep',ho',r'⟩:=hm
  rw [ho] at ho';cases ho'
  exact⟨_,es',ep',hL,r'⟩) hok I.bare
def Inv.call{g':Array GenState}{t':Nat}{d':Drawn}{ch:List AB}(I:Inv X pins σ H s)(u:Un (frs X.stack) ch H H' s.heap h')(hok:HOk X.prog X.w H' h')(hg:AllBare g')
 (hch:∀b∈ch,(b∈X.ex\/X.s₀.heap.objs.size<=b)/\b≠X.env.locals/\(∀x c,X.env.cells.lookup x=some c->c≠b)/\∀p∈X.pn++pins,p.1≠b):
 Inv X pins σ H' {s with heap:=h',gens:=g',drawn:=d',toks:=t'}:=by
 obtain⟨m,⟨o,es,ep,ho,r⟩,_⟩:=id I.loc
 obtain⟨sl,hL⟩:=u.any ho I.free fun z=>(hch _ z).2.1 rfl
 exact I.step (ch:=ch) hch (fun b o hL hb hc e n=>u.keep b o e n (fun z=>(AZ.mp (I.stkSub b z)).elim hL hb) hc) (fun b o _ _ hc e n=>u.any e n hc) (fun b o hc e n=>u.free b o e n hc) (fun b o hc e=>u.there b o e hc) u.tups u.frzs u.tbls (fun m' hm=>by
  obtain⟨o',es',ep',ho',r'⟩:=hm
  rw [ho] at ho';cases ho'
  exact⟨_,es',ep',hL,r'⟩) hok hg
def Inv.turned{t':Nat}{it:AB}(I:Inv X pins σ H s)(k:∀b o,b≠it->s.heap.get? b=some o->h'.get? b=some o)(hn:H it=none)(hL:it≠X.env.locals)
 (h1:it∈X.ex\/X.s₀.heap.objs.size<=it) (h2:∀x c,X.env.cells.lookup x=some c->c≠it) (h3:∀p∈X.pn++pins,p.1≠it):Inv X pins σ H {s with heap:=h',toks:=t'}:=by
 have nit:∀b u,H b=some u->b≠it:=fun b u e z=>by rw [z,hn] at e;cases e
 refine I.step (g':=s.gens) (d':=s.drawn) (ch:=[it]) (fun b hb=> ?_) (fun b o _ _ hc e _=>k b o (fun z=>hc (by simp [z])) e) (fun b o _ _ hc e _=>⟨o.slots,k b o (fun z=>hc (by simp [z])) e⟩) (fun _ _ _ _ n=>n)
  (fun b o hc e=>⟨o,k b o (fun z=>hc (by simp [z])) e⟩) (fun _ _ e=>e) (fun _ _ _ e=>e) (fun b ps e=>⟨#[],by rw [e];simp⟩) (fun m hm=> ?_) (fun b u e=> ?_) I.bare
 ·have e:b=it:=by simpa using hb
  subst e
  exact⟨h1,hL,h2,h3⟩
 ·obtain⟨o,es,ep,ho,r⟩:=hm
  exact⟨o,es,ep,k _ o (Ne.symm hL) ho,r⟩
 ·refine(I.hok b u e).stay (fun c v hc q=>k c v ?_ q) (fun _ q=>q) fun _ _ q=>q
  rcases hc with z|z
  ·rw [z];exact nit b u e
  ·exact nit c _ z
def Inv.tok(I:Inv X pins σ H s)(t:Nat):Inv X pins σ H {s with toks:=t}:=I.un (h':=s.heap) (t':=t) Un.refl I.hok
def Inv.kept(I:Inv X pins σ H s)(k:∀b u,s.heap.get? b=some u->h'.get? b=some u):Inv X pins σ H {s with heap:=h',toks:=t'}:=I.un (Un.kept k) (I.hok.kept k)
def Inv.laid{a:AB}{o:HO}{t':Nat}(I:Inv X pins σ H s)(k:∀b u,s.heap.get? b=some u->h'.get? b=some u)(hp:s.heap.objs.size<=a)(new:K3 X.prog X.w (K7 H a o) h' a o):
 Inv X pins σ (K7 H a o) {s with heap:=h',toks:=t'}:=I.un (Un.laid k hp (I.hok.fresh hp)) (I.hok.laid k hp new)
def Inv.write(I:Inv X pins σ H s)(mu:Mut (H x))(he:e=x\/H e=some (.own x))(k:∀b u,b≠e->s.heap.get? b=some u->h'.get? b=some u)(heo:∃u,h'.get? e=some u)
 (new:K3 X.prog X.w (K7 H x o) h' x o):Inv X pins σ (K7 H x o) {s with heap:=h',toks:=t'}:=I.un (Un.write mu he k heo) (I.hok.write mu he k heo new)
def Inv.weak(I:Inv X pins σ H s)(hl:σ'.length=σ.length)(w:∀(i:Nat) v,σ'[i]?=some (some v)->σ[i]?=some (some v)):Inv X pins σ' H s:=
 ⟨I.ok,I.os,I.bare,I.base,let ⟨m,hn,hl'⟩:=I.loc;⟨m,hn,fun i x v e1 e2 e3=>hl' i x v e1 (w i v e2) e3⟩,I.cell,I.free,I.freeC,I.pin,I.hok,hl.trans I.len⟩
def Inv.pins_of(I:Inv X pins σ H s)(h:∀p∈pins',s.heap.get? p.1=some p.2/\H p.1=none/\p.1≠X.env.locals/\p.1∉X.fs/\∀v,p.2.data≠.cell v):Inv X pins' σ H s:=
 ⟨I.ok,I.os,I.bare,I.base,I.loc,I.cell,I.free,I.freeC,fun p hp=>(Av.mp hp).elim (fun z=>I.pin p (BG _ z)) (h p),I.hok,I.len⟩
def b3C{N:List Str}(hN:N.Nodup){i j:Nat}{x:Str}(a:N[i]?=some x)(b:N[j]?=some x):i=j:=by
 obtain⟨h1,e1⟩:=Aw.mp a
 obtain⟨h2,e2⟩:=Aw.mp b
 exact(List.getElem_inj hN).mp (e1.trans e2.symm)
def b1u{M:Model}{A:Al}{E:AA->AG->Prop}{i:Nat}{x:Str}{v:V}{u:AA}{Q:Unit->AG->Prop}(I:Inv X pins σ H s)(hN:X.N.Nodup)(hi:X.N[i]?=some x)(hx:Loc X.env.scope x)(r:A8 v u)
 (h:∀s',Inv X pins (σ.set i (some v)) H s'->(∃a,Heap.SameBut a s.heap s'.heap/\(a=X.env.locals\/X.env.cells.lookup x=some a))->Q () s') (hf:X.fn x=true\/X.env.scope.names.lookup x=some .local:=by first|exact .inl rfl|exact .inr rfl|assumption):AF M A (storeName X.env x u) Q E s:=by
 obtain⟨m,hn,hl⟩:=id I.loc
 have hcls:(X.env.scope.kind== .class||(X.env.scope.kind== .module && X.env.locals !=X.env.globals))=false:=by rw [I.ok.kind];rfl
 have hiσ:i<σ.length:=by rw [I.len];exact(Aw.mp hi).1
 have cne:=I.cne
 have tracked:∀{a:AB} {h':Heap},(∃o,s.heap.get? a=some o/\H a=none)->Heap.SameBut a s.heap h'->HOk X.prog X.w H h':=fun {a h'} ha hs b ob e=>by
  obtain⟨_,_,hfree⟩:=ha
  refine(I.hok b ob e).stay (fun c w' hc q=>(hs.2 c ?_).trans q) (fun _ q=>q) fun _ _ q=>q
  rintro rfl
  rcases hc with rfl|hc
  ·rw [hfree] at e;cases e
  ·rw [hfree] at hc;cases hc
 rcases hx with hk|hk
 ·refine wpAny_storeName_local hk hn (fun h' hn' hs=> ?_) hcls
  obtain⟨oL,_,_,hoL,_⟩:=id hn
  refine h _ ⟨I.ok,I.os,I.bare,⟨fun b o e n hb hx=> ?_,fun b o e n hb hx=> ?_,I.base.free,fun b o e hx=> ?_,I.base.tups,I.base.frzs,I.base.tbls⟩,⟨_,hn',fun j y v' e1 e2 e3=> ?_⟩,fun y c e=> ?_,I.free,I.freeC,fun p hp=> ?_,tracked ⟨oL,hoL,I.free⟩ hs,by simpa using I.len⟩ ⟨_,hs,.inl rfl⟩
  ·exact(hs.2 b (Am (At (AW e) I.ok.above))).trans (I.base.keep b o e n hb hx)
  ·obtain⟨sl,e1⟩:=I.base.slot b o e n hb hx
   exact⟨sl,(hs.2 b (Am (At (AW e) I.ok.above))).trans e1⟩
  ·obtain⟨o',e1⟩:=I.base.there b o e hx
   exact⟨o',(hs.2 b (Am (At (AW e) I.ok.above))).trans e1⟩
  ·by_cases hj:j=i
   ·subst hj
    rw [hi] at e1;cases e1
    rw [List.getElem?_set_self hiσ] at e2
    cases e2
    exact⟨u,r,.inl ⟨hk,by simp⟩⟩
   ·rw [List.getElem?_set_ne (Ne.symm hj)] at e2
    obtain⟨u',r',q⟩:=hl j y v' e1 e2 e3
    refine⟨u',r', ?_⟩
    rcases q with⟨k,e⟩|⟨k,c,e,z⟩
    ·refine .inl ⟨k, ?_⟩
     have:y≠x:=fun e=>hj (b3C hN e1 (e▸hi))
     simp [this,e]
    ·exact .inr ⟨k,c,e,z.sameBut hs (cne y c e)⟩
  ·obtain⟨w',z⟩:=I.cell y c e
   exact⟨w',z.sameBut hs (cne y c e)⟩
  ·obtain⟨e,n,ne,nf,d⟩:=I.pin p hp
   exact⟨(hs.2 p.1 ne).trans e,n,ne,nf,d⟩
 ·have hfn:X.fn x=true:=by
   rcases hf with z|z
   ·exact z
   ·rw [z] at hk;cases hk
  obtain⟨c,hc⟩:=I.ok.has x (.inl hk)
  obtain⟨w',z⟩:=I.cell x c hc
  refine wpAny_storeName_cell I.ok.kind hk hc z (fun h' hc' hs=> ?_)
  obtain⟨oc,hoc,hocd⟩:=id z
  refine h {s with heap:=h'} ⟨I.ok,I.os,I.bare,⟨fun b o e n hb hx=> ?_,fun b o e n hb hx=> ?_,I.base.free,fun b o e hx=> ?_,I.base.tups,I.base.frzs,I.base.tbls⟩,⟨m,hn.sameBut hs (Ne.symm (cne x c hc)),fun j y v' e1 e2 e3=> ?_⟩,fun y c' e=> ?_,I.free,I.freeC,fun p hp=> ?_,tracked ⟨oc,hoc,I.freeC x c hc⟩ hs,by simpa using I.len⟩ ⟨c,hs,.inr hc⟩
  ·exact(hs.2 b (Am (At (AW e) (I.ok.cab x c hfn hc)))).trans (I.base.keep b o e n hb hx)
  ·obtain⟨sl,e1⟩:=I.base.slot b o e n hb hx
   exact⟨sl,(hs.2 b (Am (At (AW e) (I.ok.cab x c hfn hc)))).trans e1⟩
  ·obtain⟨o',e1⟩:=I.base.there b o e hx
   exact⟨o',(hs.2 b (Am (At (AW e) (I.ok.cab x c hfn hc)))).trans e1⟩
  ·by_cases hj:j=i
   ·subst hj
    rw [hi] at e1;cases e1
    rw [List.getElem?_set_self hiσ] at e2
    cases e2
    exact⟨u,r,.inr ⟨.inl hk,c,hc,hc'⟩⟩
   ·rw [List.getElem?_set_ne (Ne.symm hj)] at e2
    obtain⟨u',r',q⟩:=hl j y v' e1 e2 e3
    refine⟨u',r', ?_⟩
    rcases q with q|⟨k,c',e,z'⟩
    ·exact .inl q
    ·refine .inr ⟨k,c',e,z'.sameBut hs ?_⟩
     rintro rfl
     exact hj (b3C hN e1 (I.ok.inj _ _ _ e hc▸hi))
  ·by_cases hcc:c'=c
   ·subst hcc;exact⟨_,hc'⟩
   ·obtain⟨w2,z2⟩:=I.cell y c' e
    exact⟨w2,z2.sameBut hs hcc⟩
  ·obtain⟨e,n,ne,nf,d⟩:=I.pin p hp
   refine⟨(hs.2 p.1 ?_).trans e,n,ne,nf,d⟩
   intro q
   rw [q,hoc] at e
   have q':oc=p.2:=Option.some.inj e
   exact d w' (by rw [<-q'];exact hocd)
def a91(I:Inv X pins σ H s)(hN:X.N.Nodup)(hi:X.N[i]?=some x)(hx:Loc X.env.scope x)(r:A8 v u)
 (h:∀s',Inv X pins (σ.set i (some v)) H s'->Q () s') (hf:X.fn x=true\/X.env.scope.names.lookup x=some .local:=by first|exact .inl rfl|exact .inr rfl|assumption):AF M A (storeName X.env x u) Q E s:=
 b1u I hN hi hx r (fun s' I' _=>h s' I') hf
def Inv.call'(I:Inv X pins σ H s)(ho:s'.os=s.os)(u:Un (frs X.stack) ch H H' s.heap s'.heap)(hok:HOk X.prog X.w H' s'.heap)(hg:AllBare s'.gens)
 (hch:∀b∈ch,(b∈X.ex\/X.s₀.heap.objs.size<=b)/\b≠X.env.locals/\(∀x c,X.env.cells.lookup x=some c->c≠b)/\∀p∈X.pn++pins,p.1≠b):Inv X pins σ H' s':=by
 obtain⟨h',g',d',t',o'⟩:=s'
 have e:o'=s.os:=ho
 subst e
 exact I.call (g':=g') (t':=t') (d':=d') u hok hg hch
end
abbrev XK:=AA->Option AB->Hp->Prop
abbrev St:=List (Option V)
abbrev VK:=V->Hp->Prop
abbrev TE:=St->Hp->VK->Prop
abbrev TT:=St->Hp->(Bool->Hp->Prop)->Prop
abbrev TA:=St->Hp->(List V->Hp->Prop)->Prop
structure a3Z where
 nx:St->Hp->Prop
 rt:VK
 bk:St->Hp->Prop:=fun _ _=>False
 ct:St->Hp->Prop:=fun _ _=>False
abbrev TS:=a3Z->St->Hp->Prop
def EP(X:Cx)(pins:List (AB×Obj))(σ:St)(Q:VK)(u:AA)(s':AG):Prop:=∃v H',Inv X pins σ H' s'/\A8 v u/\Q v H'
def TP(X:Cx)(pins:List (AB×Obj))(σ:St)(Q:Bool->Hp->Prop)(b:Bool)(s':AG):Prop:=∃H',Inv X pins σ H' s'/\Q b H'
def AP(X:Cx)(pins:List (AB×Obj))(σ:St)(Q:List V->Hp->Prop)(us:List AA)(s':AG):Prop:=∃vs H',Inv X pins σ H' s'/\y9 vs us/\Q vs H'
def SP(X:Cx)(pins:List (AB×Obj))(D:a3Z)(f:Flow)(s':AG):Prop:=
 match f with
 | .next=>∃σ' H',Inv X pins σ' H' s'/\D.nx σ' H'
 | .brk=>∃σ' H',Inv X pins σ' H' s'/\D.bk σ' H'
 | .cont=>∃σ' H',Inv X pins σ' H' s'/\D.ct σ' H'
 | .ret u=>∃v σ' H',Inv X pins σ' H' s'/\A8 v u/\D.rt v H'
def PE(X:Cx)(e:AS)(t:TE):Prop:=
 ∀(pins:List (AB×Obj)) (s:AG) (σ:St) (H:Hp) (Q:VK),Inv X pins σ H s->t σ H Q->AF (model X.prog X.w) X.A (eval e X.env) (EP X pins σ Q) X.xe s
def PT(X:Cx)(e:AS)(t:TT):Prop:=
 ∀(pins:List (AB×Obj)) (s:AG) (σ:St) (H:Hp) (Q:Bool->Hp->Prop),Inv X pins σ H s->t σ H Q->AF (model X.prog X.w) X.A (isTrue e X.env (eval e X.env)) (TP X pins σ Q) X.xe s
def PW(X:Cx)(e:AS)(t:TT):Prop:=
 ∀(whole:Sem AA) (pins:List (AB×Obj)) (s:AG) (σ:St) (H:Hp) (Q:Bool->Hp->Prop),Inv X pins σ H s->t σ H Q->AF (model X.prog X.w) X.A (isTrue e X.env whole) (TP X pins σ Q) X.xe s
def PW.pt(h:PW X e t):PT X e t:=h _
def PA(X:Cx)(es:List AS)(t:TA):Prop:=
 ∀(pos:Pos) (pins:List (AB×Obj)) (s:AG) (σ:St) (H:Hp) (Q:List V->Hp->Prop),Inv X pins σ H s->t σ H Q->AF (model X.prog X.w) X.A (spliced (backTo pos (AJ es X.env))) (AP X pins σ Q) X.xe s
def PS(X:Cx)(st:Stmt)(t:TS):Prop:=
 ∀(pins:List (AB×Obj)) (s:AG) (σ:St) (H:Hp) (D:a3Z),Inv X pins σ H s->t D σ H->AF (model X.prog X.w) X.A (exec st X.env) (SP X pins D) X.xe s
def PSs(X:Cx)(st:List Stmt)(t:TS):Prop:=
 ∀(pins:List (AB×Obj)) (s:AG) (σ:St) (H:Hp) (D:a3Z),Inv X pins σ H s->t D σ H->AF (model X.prog X.w) X.A (execs st X.env) (SP X pins D) X.xe s
def Q3(h:AF M A t Q E s)(hQ:∀a s,Q a s->Q' a s):AF M A t Q' E s:=wpAny_mono h hQ fun _ _ x=>x
def b2E(i:Nat):TE:=fun σ H Q=>∃v,σ[i]?=some (some v)/\Q v H
def tC(v:V):TE:=fun _ H Q=>Q v H
def c3j(hN:X.N[i]?=some x)(hv:Vis X.env.scope x)(hd:(x==("__debug__":Str))=false:=by decide)(hcd:(x==("__classdict__":Str))=false:=by decide):PE X (.Name x pos) (b2E i):=by
 intro pins s σ H Q I h
 obtain⟨v,e,h⟩:=h
 obtain⟨m,hn,hl⟩:=I.loc
 obtain⟨u,r,l⟩:=hl i x v hN e hv
 have fin:EP X pins σ Q u s:=⟨v,H,I,r,h⟩
 rcases l with⟨hk,hm⟩|⟨hk,c,hc,hcell⟩
 ·exact wpAny_Name (wpAny_loadName_local I.ok.kind hk hn hm fin) hd
 ·rcases hk with hk|hk
  ·exact wpAny_Name (wpAny_loadName_cell I.ok.kind hk hc hcell fin) hd
  ·exact wpAny_Name (wpAny_loadName_free I.ok.kind hk hc hcell fin hcd) hd
def b85{i j pos}:PE X (.Constant (.int i) j pos) (tC (.int i)):=fun _ _ _ H _ I h=>wpAny_Constant_int ⟨.int i,H,I.tok _,⟨_,rfl⟩,h⟩
def c4q{b j pos}:PE X (.Constant (.bool b) j pos) (tC (.bl b)):=fun _ _ _ H _ I h=>Constant_bool ⟨.bl b,H,I,rfl,h⟩
def c3e{j pos}:PE X (.Constant .none j pos) (tC .non):=fun _ _ _ H _ I h=>Constant_none ⟨.non,H,I,rfl,h⟩
def c3h{x j pos}:PE X (.Constant (.str x) j pos) (tC (.str x)):=fun _ _ _ H _ I h=>Calls.Constant_str ⟨.str x,H,I.tok _,⟨_,rfl⟩,h⟩
def Gl(X:Cx)(x:Str):Prop:=X.env.kindOf x=some .globalImplicit
def a3s(I:Inv X pins σ H s)(hg:Gl X x)(hm:X.mg x=some u)(h:Q u s)
 (hd:(x==("__debug__":Str))=false:=by decide):AF (model X.prog X.w) X.A (eval (.Name x pos) X.env) Q E s:=
 Calls.Name_function_global I.ok.kind hg (Calls.loadGlobal_global (by rw [I.ok.glob];exact I.mod.glob.keeps I.bk) hm h) hd
def a7q(I:Inv X pins σ H s)(hg:Gl X x)(hm:X.mg x=none)(hv:bootBuiltins x=some u)(h:Q u s)
 (hn:x≠"__name__":=by decide) (hd:(x==("__debug__":Str))=false:=by decide):AF (model X.prog X.w) X.A (eval (.Name x pos) X.env) Q E s:=by
 obtain⟨mb,h1,h2⟩:=I.mod.blt
 exact Calls.Name_function_global I.ok.kind hg (Calls.loadGlobal_builtin (by rw [I.ok.glob];exact I.mod.glob.keeps I.bk) hm (by rw [I.ok.blt];exact h1.keeps I.bk) ((h2 x hn).trans hv) h) hd
def a0D(hg:Gl X x)(hm:X.mg x=some u)(r:A8 v u)(hd:(x==("__debug__":Str))=false:=by decide):PE X (.Name x pos) (tC v):=
 fun _ _ _ H _ I h=>a3s I hg hm ⟨v,H,I,r,h⟩ hd
def V5(hg:Gl X x)(hm:X.mg x=none)(hv:bootBuiltins x=some u)(r:A8 v u)(hn:x≠"__name__":=by decide)(hd:(x==("__debug__":Str))=false:=by decide):PE X (.Name x pos) (tC v):=
 fun _ _ _ H _ I h=>a7q I hg hm hv ⟨v,H,I,r,h⟩ hn hd
def c49(t u:TT):TT:=fun σ H Q=>t σ H fun c H1=>if c=true then u σ H1 Q else Q false H1
def tOr(t u:TT):TT:=fun σ H Q=>t σ H fun c H1=>if c=true then Q true H1 else u σ H1 Q
def c5g(t:TT):TT:=fun σ H Q=>t σ H fun c H1=>Q (!c) H1
def c1f(ha:PT X a tA):PW X (.BoolOp .And [a] pos) tA:=by
 intro wh pins s σ H Q I h
 refine isTrue_and (Q3 (ha pins s σ H Q I h) fun c s1 e=> ?_)
 cases c with
 |true=>exact isTrue_and_nil e
 |false=>exact e
def c3r(ha:PT X a tA):PW X (.BoolOp .Or [a] pos) tA:=by
 intro wh pins s σ H Q I h
 refine isTrue_or (Q3 (ha pins s σ H Q I h) fun c s1 e=> ?_)
 cases c with
 |false=>exact isTrue_or_nil e
 |true=>exact e
def c3q(ha:PT X a tA)(hb:PW X (.BoolOp .And (b::rest) pos) tB'):PW X (.BoolOp .And (a::b::rest) pos) (c49 tA tB'):=by
 intro wh pins s σ H Q I h
 refine isTrue_and (Q3 (ha pins s σ H _ I h) fun c s1 ⟨H1,I1,q1⟩=> ?_)
 cases c with
 |true=>exact hb wh pins s1 σ H1 Q I1 q1
 |false=>exact⟨H1,I1,q1⟩
def c4v(ha:PT X a tA)(hb:PW X (.BoolOp .Or (b::rest) pos) tB'):PW X (.BoolOp .Or (a::b::rest) pos) (tOr tA tB'):=by
 intro wh pins s σ H Q I h
 refine isTrue_or (Q3 (ha pins s σ H _ I h) fun c s1 ⟨H1,I1,q1⟩=> ?_)
 cases c with
 |true=>exact⟨H1,I1,q1⟩
 |false=>exact hb wh pins s1 σ H1 Q I1 q1
def c3p(ha:PT X a tA):PT X (.UnaryOp .Not a pos) (c5g tA):=by
 intro pins s σ H Q I h
 exact isTrue_not (ha pins s σ H (fun c H1=>Q (!c) H1) I h)
def c4E(ta tb:TE):TE:=fun σ H Q=>ta σ H fun x H1=>∃c,x= .bl c/\if c=true then tb σ H1 Q else Q (.bl false) H1
def c4H(ta:TE):TE:=fun σ H Q=>ta σ H fun x H1=>∃c,x= .bl c/\Q (.bl (!c)) H1
def c3g{op}(h:PE X a t):PE X (.BoolOp op [a] pos) t:=fun pins s σ H Q I hw=>BoolOp_one (h pins s σ H Q I hw)
def c3b(ha:PE X a ta)(hb:PE X (.BoolOp .And (b::rest) pos) tb):PE X (.BoolOp .And (a::b::rest) pos) (c4E ta tb):=by
 intro pins s σ H Q I h
 refine BoolOp_and (Q3 (ha pins s σ H _ I h) fun v s1 ⟨x,H1,I1,r1,q1⟩=> ?_)
 obtain⟨c,rfl,q1⟩:=q1
 cases r1
 refine wpAny_truthy_bool ?_
 cases c with
 |true=>exact hb pins s1 σ H1 Q I1 q1
 |false=>exact⟨.bl false,H1,I1,rfl,q1⟩
def c3f(ha:PE X a ta):PE X (.UnaryOp .Not a pos) (c4H ta):=by
 intro pins s σ H Q I h
 refine UnaryOp_ (Q3 (ha pins s σ H _ I h) fun v s1 ⟨x,H1,I1,r1,q1⟩=> ?_)
 obtain⟨c,rfl,q1⟩:=q1
 cases r1
 exact not_of (wpAny_truthy_bool ⟨.bl (!c),H1,I1,rfl,q1⟩)
def SqL(K:AE)(H:Hp)(a:AB)(xs:List V):Prop:=
 Rd H a (.lst xs)\/
  ∃(o:Obj) (its:Array AA) (n:Nat),K.lookup a=some o/\o.cls= .type "list"/\o.dict=none/\o.data= .seq its n/\its.size<=AL/\y9 xs its.toList
def SqT(K:AE)(H:Hp)(a:AB)(xs:List V):Prop:=
 Rd H a (.tup xs)\/
  ∃(o:Obj) (its:Array AA) (n:Nat),K.lookup a=some o/\o.cls= .type "tuple"/\o.data= .seq its n/\its.size<=AL/\y9 xs its.toList
def c4U:AA->Option V
 | .none=>some .non
 | .bool b=>some (.bl b)
 | .int i _=>some (.int i)
 | .str x _=>some (.str x)
 | .bytes b _=>some (.byt b)
 | .float b _=>some (.flt b)
 | .ref a=>some (.ref a)
 | .type n=>some (.ty n)
 |_=>none
def A8.abs(r:A8 x u):c4U u=some x:=by
 cases x with
 |non=>cases r;rfl
 |bl _=>cases r;rfl
 |int _=>obtain⟨t,rfl⟩:=r;rfl
 |str _=>obtain⟨t,rfl⟩:=r;rfl
 |byt _=>obtain⟨t,rfl⟩:=r;rfl
 |flt _=>obtain⟨t,rfl⟩:=r;rfl
 |ref _=>cases r;rfl
 |ty _=>cases r;rfl
def A8.inj(r:A8 x u)(q:A8 y u):x=y:=Option.some.inj (r.abs.symm.trans q.abs)
theorem y9.inj:∀{xs ys:List V} {us:List AA},y9 xs us->y9 ys us->xs=ys
 |_,_,_,.nil,.nil=>rfl
 |_,_,_,.cons r t,.cons r' t'=>by rw [r.inj r',y9.inj t t']
def SqL.of{K:AE}(h:H a=some (.lst xs)):SqL K H a xs:= .inl (.inl h)
def Inv.list(I:Inv X pins σ H s)(h:SqL X.K H a xs):∃its:List AA,y9 xs its/\PlainL s.heap a its.toArray/\xs.length<=AL:=by
 rcases h with h|⟨o,its,n,hk,hc,hd,hs,hz,r⟩
 ·obtain⟨z,its,n,r,e⟩:=h.ok I.hok
  exact⟨its,r,⟨_,n,e,rfl,rfl,rfl⟩,z⟩
 ·refine⟨its.toList,r,⟨o,n,I.kIn a o hk,hc,hd,by simpa using hs⟩, ?_⟩
  have e:=r.length
  simp only [Array.length_toList] at e
  lia
def Inv.tuple(I:Inv X pins σ H s)(h:SqT X.K H a xs):∃its:List AA,y9 xs its/\IsTup s.heap a its.toArray/\xs.length<=AL:=by
 rcases h with h|⟨o,its,n,hk,hc,hs,hz,r⟩
 ·obtain⟨z,its,r,p⟩:=h.ok I.hok
  exact⟨its,r,p,z⟩
 ·refine⟨its.toList,r,⟨o,I.kIn a o hk,hc,n,by simpa using hs⟩, ?_⟩
  have e:=r.length
  simp only [Array.length_toList] at e
  lia
def Inv.list_inj(I:Inv X pins σ H s)(h:SqL X.K H a xs)(h':SqL X.K H a ys):xs=ys:=by
 obtain⟨its,r,⟨o,n,e,_,_,d⟩,_⟩:=I.list h
 obtain⟨its',r',⟨o',n',e',_,_,d'⟩,_⟩:=I.list h'
 rw [e] at e';cases e'
 rw [d] at d'
 injection d' with d1 _
 have:its=its':=by simpa using congrArg Array.toList d1
 subst this
 exact r.inj r'
def Inv.tuple_inj(I:Inv X pins σ H s)(h:SqT X.K H a xs)(h':SqT X.K H a ys):xs=ys:=by
 obtain⟨its,r,⟨o,e,_,n,d⟩,_⟩:=I.tuple h
 obtain⟨its',r',⟨o',e',_,n',d'⟩,_⟩:=I.tuple h'
 rw [e] at e';cases e'
 rw [d] at d'
 injection d' with d1 _
 have:its=its':=by simpa using congrArg Array.toList d1
 subst this
 exact r.inj r'
abbrev Cx.wish(X:Cx)(E:AA->AG->Prop):Cx:={X with xe:=E}
abbrev Cx.nox(X:Cx):Cx:=X.wish fun _ _=>False
def Cx.Ok.wish{X:Cx}(ok:X.Ok)(E:AA->AG->Prop):(X.wish E).Ok:=
 ⟨ok.mod,ok.kind,ok.glob,ok.blt,ok.above,ok.inj,ok.has,ok.cab,ok.hd,ok.frames,ok.stk,ok.exf,ok.bs,ok.bsz,ok.noex,ok.exfs,ok.funs,ok.frf⟩
def Cx.Ok.unwish{X:Cx}{E:AA->AG->Prop}(ok:(X.wish E).Ok):X.Ok:=
 ⟨ok.mod,ok.kind,ok.glob,ok.blt,ok.above,ok.inj,ok.has,ok.cab,ok.hd,ok.frames,ok.stk,ok.exf,ok.bs,ok.bsz,ok.noex,ok.exfs,ok.funs,ok.frf⟩
def Inv.wish(I:Inv X pins σ H s)(E:AA->AG->Prop):Inv (X.wish E) pins σ H s:=⟨I.ok.wish E,I.os,I.bare,I.base,I.loc,I.cell,I.free,I.freeC,I.pin,I.hok,I.len⟩
def Inv.unwish(I:Inv (X.wish E) pins σ H s):Inv X pins σ H s:=⟨I.ok.unwish,I.os,I.bare,I.base,I.loc,I.cell,I.free,I.freeC,I.pin,I.hok,I.len⟩
def SP.unwish{D:a3Z}{f:Flow}{s':AG}(h:SP (X.wish E) pins D f s'):SP X pins D f s':=by
 cases f with
 |next=>obtain⟨σ',H',I,q⟩:=h;exact⟨σ',H',I.unwish,q⟩
 |brk=>obtain⟨σ',H',I,q⟩:=h;exact⟨σ',H',I.unwish,q⟩
 |cont=>obtain⟨σ',H',I,q⟩:=h;exact⟨σ',H',I.unwish,q⟩
 |ret u=>obtain⟨v,σ',H',I,r,q⟩:=h;exact⟨v,σ',H',I.unwish,r,q⟩
def PSs.nox{st:List Stmt}{t:TS}(h:PSs X.nox st t):PSs X st t:=fun pins s σ H D I hw=>
 wpAny_mono (h pins s σ H D (I.wish _) hw) (fun _ _ q=>q.unwish) fun _ _ z=>False.elim z
section
variable {X:Cx}{st:Stmt}{rest:List Stmt}{t u:TS}{e:AS}{te:TE}{pos:Pos}
def c1V:TS:=fun D σ H=>D.nx σ H
def c4J(t u:TS):TS:=fun D σ H=>t {D with nx:=u D} σ H
def a1p:PSs X [] c1V:=fun _ _ σ H _ I h=>wpAny_execs_nil ⟨σ,H,I,h⟩
def K1(h1:PS X st t)(h2:PSs X rest u):PSs X (st::rest) (c4J t u):=by
 intro pins s σ H D I h
 refine wpAny_execs_cons (Q3 (h1 pins s σ H {D with nx:=u D} I h) fun f s1 q=> ?_)
 cases f with
 |next=>
  obtain⟨σ',H',I',q⟩:=q
  exact h2 pins s1 σ' H' D I' q
 |ret v=>exact q
 |brk=>exact q
 |cont=>exact q
def b6l(h1:PS X st t):PSs X [st] t:=by
 intro pins s σ H D I h
 refine wpAny_execs_cons (Q3 (h1 pins s σ H D I h) fun f s1 q=> ?_)
 cases f with
 |next=>exact wpAny_execs_nil q
 |ret v=>exact q
 |brk=>exact q
 |cont=>exact q
def Inv.quiet(I:Inv X pins σ H s):interactive X.env=false:=by simp [interactive,I.ok.kind]
def c4F(te:TE):TS:=fun D σ H=>te σ H fun _ H1=>D.nx σ H1
def b6k(he:PE X e te)(hs:swapsWith e none pos.line X.env=pure false:=by rfl):PS X (.Expr e pos) (c4F te):=by
 intro pins s σ H D I h
 exact wpAny_Expr_any (Q3 (he pins s σ H _ I h) fun v s1 ⟨x,H1,I1,r1,q1⟩=>⟨σ,H1,I1,q1⟩) I.quiet hs
def c5h(te:TE):TS:=fun D σ H=>te σ H D.rt
def b9e(he:PE X e te):PS X (.Return (some e) pos) (c5h te):=by
 intro pins s σ H D I h
 exact wpAny_Return_some (Q3 (he pins s σ H _ I h) fun v s1 ⟨x,H1,I1,r1,q1⟩=>⟨x,σ,H1,I1,r1,q1⟩)
def c5e(c:TT)(t u:TS):TS:=fun D σ H=>c σ H fun b H1=>if b=true then t D σ H1 else u D σ H1
def c1R(hc:PT X c tc)(ha:PSs X a t)(hb:PSs X b u):PS X (.If c a b pos) (c5e tc t u):=by
 intro pins s σ H D I h
 refine wpAny_If (Q3 (hc pins s σ H _ I h) fun d s1 ⟨H1,I1,q1⟩=> ?_)
 cases d with
 |true=>exact ha pins s1 σ H1 D I1 q1
 |false=>exact hb pins s1 σ H1 D I1 q1
end
abbrev TG:=V->St->Hp->(St->Hp->Prop)->Prop
abbrev TGs:=List V->St->Hp->(St->Hp->Prop)->Prop
def PG(X:Cx)(target:AS)(t:TG):Prop:=
 ∀(pins:List (AB×Obj)) (s:AG) (σ:St) (H:Hp) (v:V) (u:AA) (Q:St->Hp->Prop),Inv X pins σ H s->A8 v u->t v σ H Q->
  AF (model X.prog X.w) X.A (assign target X.env u) (fun _ s'=>∃σ' H',Inv X pins σ' H' s'/\Q σ' H') X.xe s
def PGs(X:Cx)(ts:List AS)(t:TGs):Prop:=
 ∀(pins:List (AB×Obj)) (s:AG) (σ:St) (H:Hp) (vs:List V) (us:List AA) (Q:St->Hp->Prop),Inv X pins σ H s->y9 vs us->t vs σ H Q->
  AF (model X.prog X.w) X.A (assignInOrder ((assignEach ts X.env).map (·.2)) us) (fun _ s'=>∃σ' H',Inv X pins σ' H' s'/\Q σ' H') X.xe s
abbrev TIp:=V->V->Hp->VK->Prop
def PIp(X:Cx)(op:Operator)(t:TIp):Prop:=
 ∀(pins:List (AB×Obj)) (s:AG) (σ:St) (H:Hp) (x y:V) (v u:AA) (Q:VK),Inv X pins σ H s->A8 x v->A8 y u->t x y H Q->
  AF (model X.prog X.w) X.A (inplaceOp op v u) (EP X pins σ Q) X.xe s
def b3c(i:Nat):TG:=fun v σ H Q=>Q (σ.set i (some v)) H
def E6(hN:X.N.Nodup)(hi:X.N[i]?=some x)(hx:Loc X.env.scope x)(hf:X.fn x=true\/X.env.scope.names.lookup x=some .local:=by first|exact .inl rfl|exact .inr rfl|assumption):PG X (.Name x pos) (b3c i):=by
 intro pins s σ H v u Q I r h
 exact wpAny_assign_Name (a91 I hN hi hx r (fun s' I'=>⟨_,H,I',h⟩) hf)
def c37:TGs:=fun vs σ H Q=>vs=[]/\Q σ H
def c1J(t:TG)(u:TGs):TGs:=fun vs σ H Q=>∃v r,vs=v::r/\t v σ H fun σ' H'=>u r σ' H' Q
def c09:PGs X [] c37:=by
 intro pins s σ H vs us Q I r h
 obtain⟨e,h⟩:=h
 subst e
 cases r
 exact assignInOrder_nil ⟨σ,H,I,h⟩
def b3U(h1:PG X e t)(h2:PGs X es u)
 (hs:(assignEach (e::es) X.env).map (·.2)=assign e X.env::(assignEach es X.env).map (·.2):=by rfl):PGs X (e::es) (c1J t u):=by
 intro pins s σ H vs us Q I r h
 obtain⟨v,vr,e1,h⟩:=h
 subst e1
 cases r with
 |cons r rr=>
  rw [hs]
  refine assignInOrder_cons (Q3 (h1 pins s σ H _ _ _ I r h) fun _ s1 ⟨σ1,H1,I1,q1⟩=> ?_)
  exact h2 pins s1 σ1 H1 _ _ Q I1 rr q1
def c38(K:AE)(n:Nat)(t:TGs):TG:=fun v σ H Q=>∃a xs,v= .ref a/\SqT K H a xs/\xs.length=n/\t xs σ H Q
def c3k(hc:X.calm=true)(h:PGs X es t)
 (hn:(assignEach es X.env).length=n:=by rfl) (hst:(assignEach es X.env).findIdx? (·.1)=none:=by rfl):PG X (.Tuple es k pos) (c38 X.K n t):=by
 intro pins s σ H v u Q I r hw
 obtain⟨a,xs,e1,hq,hl,hw⟩:=hw
 subst e1
 cases r
 obtain⟨its,rv,ht,hz⟩:=I.tuple hq
 refine assign_Tuple_tuple (I.ok.hd hc) ht (by simp [hn,<-hl,rv.length]) hst fun h' hx=> ?_
 have I1:Inv X pins σ H {s with heap:=h'}:=I.kept (t':=s.toks) fun b o e=>hx b o (Am (AW e)) e
 exact h pins _ σ H xs _ Q I1 (by simpa using rv) hw
def c5a(te:TE)(g:TG):TS:=fun D σ H=>te σ H fun x H1=>g x σ H1 D.nx
def b9f(hN:X.N.Nodup)(hi:X.N[i]?=some x)(hx:Loc X.env.scope x)(he:PE X e te)(hs:swapsWith e (some (.Name x pos')) pos.line X.env=pure false:=by rfl)(hf:X.fn x=true\/X.env.scope.names.lookup x=some .local:=by first|exact .inl rfl|exact .inr rfl|assumption):
 PS X (.Assign [.Name x pos'] e pos) (c5a te (b3c i)):=by
 intro pins s σ H D I h
 refine wpAny_Assign_Name (Q3 (he pins s σ H _ I h) fun v s1 ⟨y,H1,I1,r1,q1⟩=> ?_) hs
 exact a91 I1 hN hi hx r1 (fun s2 I2=>⟨_,H1,I2,q1⟩) hf
def c5b(i:Nat)(te:TE)(ti:TIp):TS:=fun D σ H=>∃x,σ[i]?=some (some x)/\te σ H fun y H1=>ti x y H1 fun z H2=>D.nx (σ.set i (some z)) H2
def c3n(hN:X.N.Nodup)(hi:X.N[i]?=some x)(hx:Loc X.env.scope x)(he:PE X e te)(ho:PIp X op ti)(hf:X.fn x=true\/X.env.scope.names.lookup x=some .local:=by first|exact .inl rfl|exact .inr rfl|assumption):
 PS X (.AugAssign (.Name x pos') op e pos) (c5b i te ti):=by
 intro pins s σ H D I h
 obtain⟨v,e1,h⟩:=h
 obtain⟨m,hn,hl⟩:=I.loc
 have vis:Vis X.env.scope x:=by rcases hx with k|k;exact .inl k;exact .inr (.inl k)
 obtain⟨u,r,l⟩:=hl i x v hi e1 vis
 refine wpAny_AugAssign_Name ?_
 have go:AF (model X.prog X.w) X.A (eval e X.env) (fun w s₂=>AF (model X.prog X.w) X.A (inplaceOp op u w) (fun r s₃=>AF (model X.prog X.w) X.A (storeName X.env x r) (fun _=>SP X pins D .next) X.xe s₃) X.xe s₂) X.xe s:=by
  refine Q3 (he pins s σ H _ I h) fun w s1 ⟨y,H1,I1,r1,q1⟩=> ?_
  refine Q3 (ho pins s1 σ H1 v y u w _ I1 r r1 q1) fun z s2 ⟨zv,H2,I2,r2,q2⟩=> ?_
  exact a91 I2 hN hi hx r2 (fun s3 I3=>⟨_,H2,I3,q2⟩) hf
 rcases l with⟨hk,hm⟩|⟨hk,c,hc,hcell⟩
 ·exact wpAny_loadName_local I.ok.kind hk hn hm go
 ·rcases hk with hk|hk
  ·exact wpAny_loadName_cell I.ok.kind hk hc hcell go
  ·rcases hx with k|k
   ·have:X.env.scope.names.lookup x=some .free:=hk
    rw [k] at this;cases this
   ·have:X.env.scope.names.lookup x=some .free:=hk
    rw [k] at this;cases this
def c3C(c:TT)(tb:TS):TS:=fun D σ H=>∃W:Nat->St->Hp->Prop,(∃m,W m σ H)/\∀m σ H,W m σ H->
 c σ H fun b H1=>if b=true then ∃N:St->Hp->Prop,(∀σ' H',N σ' H'->∃m',m'<m/\W m' σ' H')/\tb {D with nx:=N,ct:=N,bk:=D.nx} σ H1 else D.nx σ H1
def b9g(hp:PassesOwn (model X.prog X.w) X.A X.env X.xe)(hc:PT X c tc)(hb:PSs X body tb):PS X (.While c body [] pos) (c3C tc tb):=by
 intro pins s σ H D I h
 obtain⟨W,⟨m0,w0⟩,turn⟩:=h
 refine wpAny_While (codeAny_whileLoop (fun n s'=>∃σ' H',Inv X pins σ' H' s'/\W n σ' H') ?_ m0 ⟨σ,H,I,w0⟩)
 rintro n s1 ⟨σ1,H1,I1,w1⟩
 refine wpAny_passesOwn hp (Q3 (hc pins s1 σ1 H1 _ I1 (turn n σ1 H1 w1)) fun b s2 ⟨H2,I2,q2⟩=> ?_)
 cases b with
 |true=>
  obtain⟨N,hN,q2⟩:=q2
  rw [if_pos rfl]
  refine wpAny_passesOwn hp (Q3 (hb pins s2 σ1 H2 _ I2 q2) fun f s3 q3=> ?_)
  cases f with
  |next=>
   obtain⟨σ3,H3,I3,n3⟩:=q3
   obtain⟨m',hm,w3⟩:=hN σ3 H3 n3
   exact⟨m',hm,σ3,H3,I3,w3⟩
  |cont=>
   obtain⟨σ3,H3,I3,n3⟩:=q3
   obtain⟨m',hm,w3⟩:=hN σ3 H3 n3
   exact⟨m',hm,σ3,H3,I3,w3⟩
  |brk=>exact q3
  |ret v=>exact q3
 |false=>
  rw [if_neg Ar]
  exact wpAny_execs_nil ⟨σ1,H2,I2,q2⟩
structure It where
 go:Nat->Hp->Prop
 yld:Nat->Hp->V->Hp->Prop
 stop:Nat->Hp->Prop
def a8B(X:Cx)(pins:List (AB×Obj))(H:Hp)(b:AB):Prop:=
 H b=none/\b≠X.env.locals/\b∉X.fs/\(b∈X.ex\/X.s₀.heap.objs.size<=b)/\(∀x c,X.env.cells.lookup x=some c->c≠b)/\∀p∈X.pn++pins,p.1≠b
def Inv.fpOk(I:Inv X pins σ H s)(hb:s.heap.objs.size<=b)(hn:H' b=none):a8B X pins H' b:=by
 refine⟨hn,Nat.ne_of_gt (At I.lt hb),I.nofs hb,.inr (Nat.le_trans I.sz hb),fun x c e z=> ?_,fun p hp z=> ?_⟩
 ·obtain⟨v,q⟩:=I.cell x c e
  exact absurd (At q.lt (by rw [z];exact hb)) (Nat.lt_irrefl _)
 ·exact absurd (At (AW (I.pin p hp).1) (by rw [z];exact hb)) (Nat.lt_irrefl _)
structure b4t(P:Ac)(w:AU)(K:AE)(tg:AS)(J:It)(fp:List AB)(it:AB)(tn:Nat->Heap->Prop):Prop where
 mem:it∈fp
 obj:∀i h,tn i h->∀b∈fp,∃o,h.get? b=some o/\∀v,o.data≠.cell v
 keep:∀i h h',tn i h->(∀b∈fp,∀o,h.get? b=some o->h'.get? b=some o)->tn i h'
 item:∀(X:Cx),X.prog=P->X.w=w->X.K=K->X.calm=true->∀(i:Nat) (pins:List (AB×Obj)) (s:AG) (σ:St) (H:Hp) (E:AA->AG->Prop),Inv X pins σ H s->(∀b∈fp,a8B X pins H b)->tn i s.heap->J.go i H->
  AF (model P w) X.A (pyNext (.ref it)) (fun r s1=>∃u,r=some u/\
   AF (model P w) X.A (letOwnedTupleGo tg (.ref it) u) (fun _ s2=>∃x H',Inv X pins σ H' s2/\A8 x u/\J.yld i H x H'/\tn (i+1) s2.heap/\∀b∈fp,H' b=none) E s1) E s
 done:∀(X:Cx),X.prog=P->X.w=w->X.K=K->X.calm=true->∀(i:Nat) (pins:List (AB×Obj)) (s:AG) (σ:St) (H:Hp) (E:AA->AG->Prop),Inv X pins σ H s->(∀b∈fp,a8B X pins H b)->tn i s.heap->J.stop i H->
   AF (model P w) X.A (pyNext (.ref it)) (fun r s1=>r=none/\Inv X pins σ H s1) E s
 self:∀(A:Al) (i:Nat) (s:AG) (Q:AA->AG->Prop) (E:AA->AG->Prop),tn i s.heap->Q (.ref it) s->AF (model P w) A (pyIter (.ref it)) Q E s
abbrev TI:=St->Hp->(It->Hp->Prop)->Prop
def PIE(X:Cx)(pins:List (AB×Obj))(σ:St)(tg:AS)(R:It->Hp->Prop)(itv:AA)(s2:AG):Prop:=
 ∃(it:AB) (fp:List AB) (tn:Nat->Heap->Prop) (J:It) (H':Hp),itv= .ref it/\Inv X pins σ H' s2/\b4t X.prog X.w X.K tg J fp it tn/\tn 0 s2.heap/\(∀b∈fp,a8B X pins H' b)/\R J H'
def PI(X:Cx)(tg iter:AS)(wi:TI):Prop:=
 ∀(pins:List (AB×Obj)) (s:AG) (σ:St) (H:Hp) (R:It->Hp->Prop),Inv X pins σ H s->wi σ H R->
  AF (model X.prog X.w) X.A (eval iter X.env) (fun v s1=>AF (model X.prog X.w) X.A (pyIter v) (PIE X pins σ tg R) X.xe s1) X.xe s
def b5Y(ho:s.heap.get? it=some o)(hc:o.cls= .type n)(hd:o.data= .fields vs)
 (hn:["enumerate","zip","dict_itemiterator","dict_reverseitemiterator","odict_iterator","itertools.zip_longest","itertools.pairwise"].contains n=false) (hQ:Q () s):AF M A (letOwnedTupleGo tg (.ref it) u) Q E s:=by
 unfold letOwnedTupleGo
 cases tg<;>first
  |exact AI hQ
  |(cases u<;>first
   |exact AI hQ
   |(refine AD (wpAny_load ho ?_)
     rw [hc,hd]
     show AF M A (if(["enumerate","zip","dict_itemiterator","dict_reverseitemiterator","odict_iterator","itertools.zip_longest","itertools.pairwise"].contains n && vs[0]?==some (rawInt _))=true then _ else _) Q E s
     rw [if_neg (by intro h;rw [hn,Bool.false_and] at h;cases h)]
     exact AI hQ))
def Itl(K:AE)(a:AB):It:=
 ⟨fun i H=>∃xs x,SqL K H a xs/\xs[i]?=some x,fun i H x H'=>H'=H/\∀xs,SqL K H a xs->xs[i]?=some x,fun i H=>∃xs,SqL K H a xs/\xs.length<=i⟩
def Itt(K:AE)(a:AB):It:=
 ⟨fun i H=>∃xs x,SqT K H a xs/\xs[i]?=some x,fun i H x H'=>H'=H/\∀xs,SqT K H a xs->xs[i]?=some x,fun i H=>∃xs,SqT K H a xs/\xs.length<=i⟩
def Itr(lo:Int)(n:Nat):It:=⟨fun i _=>i<n,fun i H x H'=>H'=H/\x= .int (lo+i),fun i _=>n<=i⟩
def b7u{P:Ac}{w:AU}{K:AE}{tg:AS}(a it:AB):b4t P w K tg (Itl K a) [it] it (fun i h=>h.IsListIter it a i) where
 mem:=by simp
 obj:=fun i h st b hb=>by
  have e:b=it:=by simpa using hb
  subst e
  obtain⟨o,e,c,d⟩:=st
  exact⟨o,e,fun v z=>by rw [d] at z;cases z⟩
 keep:=fun i h h' st k=>st.at fun o e=>k it (by simp) o e
 item:=by
  intro X hP hw hK hc i pins s σ H E I hf st hg
  subst hP hw hK
  obtain⟨xs,x,hq,hx⟩:=hg
  obtain⟨its,rv,p,hz⟩:=I.list hq
  obtain⟨u,hu,ru⟩:=rv.get hx
  obtain⟨f0,f1,f2,f3,f4,f5⟩:=hf it (by simp)
  refine wpAny_pyNext_list_item st p.isList (x:=u) (by simpa using hu) fun h' st' sb=> ?_
  have I1:Inv X pins σ H {s with heap:=h'}:=I.turned (t':=s.toks) (fun b o hb e=>(sb.2 b hb).trans e) f0 f1 f3 f4 f5
  obtain⟨o,e,c,d⟩:=id st'
  exact⟨u,rfl,b5Y (s:={s with heap:=h'}) e c d (by decide) ⟨x,H,I1,ru,⟨rfl,fun ys hy=>by rw [I.list_inj hy hq];exact hx⟩,st',fun b hb=>(hf b hb).1⟩⟩
 done:=by
   intro X hP hw hK hc i pins s σ H E I hf st hg
   subst hP hw hK
   obtain⟨xs,hq,hx⟩:=hg
   obtain⟨its,rv,p,hz⟩:=I.list hq
   obtain⟨f0,f1,f2,f3,f4,f5⟩:=hf it (by simp)
   have hl:=rv.length
   exact wpAny_pyNext_list_end (I.ok.hd hc) st p.isList (by simp;lia) fun h' eb=>⟨rfl,I.turned (t':=s.toks) (fun b o hb e=>eb b o hb e) f0 f1 f3 f4 f5⟩
 self:=fun _ _ _ _ _ st h=>wpAny_pyIter_listiter st h
def b5z{P:Ac}{w:AU}{K:AE}{tg:AS}(a it:AB):b4t P w K tg (Itt K a) [it] it (fun i h=>h.IsTupleIter it a i) where
 mem:=by simp
 obj:=fun i h st b hb=>by
  have e:b=it:=by simpa using hb
  subst e
  obtain⟨o,e,c,d⟩:=st
  exact⟨o,e,fun v z=>by rw [d] at z;cases z⟩
 keep:=fun i h h' st k=>st.at fun o e=>k it (by simp) o e
 item:=by
  intro X hP hw hK hc i pins s σ H E I hf st hg
  subst hP hw hK
  obtain⟨xs,x,hq,hx⟩:=hg
  obtain⟨its,rv,p,hz⟩:=I.tuple hq
  obtain⟨u,hu,ru⟩:=rv.get hx
  obtain⟨f0,f1,f2,f3,f4,f5⟩:=hf it (by simp)
  refine wpAny_pyNext_tuple_item st (show s.heap.IsTuple a its.toArray from p) (x:=u) (by simpa using hu) fun h' st' sb=> ?_
  have I1:Inv X pins σ H {s with heap:=h'}:=I.turned (t':=s.toks) (fun b o hb e=>(sb.2 b hb).trans e) f0 f1 f3 f4 f5
  obtain⟨o,e,c,d⟩:=id st'
  exact⟨u,rfl,b5Y (s:={s with heap:=h'}) e c d (by decide) ⟨x,H,I1,ru,⟨rfl,fun ys hy=>by rw [I.tuple_inj hy hq];exact hx⟩,st',fun b hb=>(hf b hb).1⟩⟩
 done:=by
   intro X hP hw hK hc i pins s σ H E I hf st hg
   subst hP hw hK
   obtain⟨xs,hq,hx⟩:=hg
   obtain⟨its,rv,p,hz⟩:=I.tuple hq
   obtain⟨f0,f1,f2,f3,f4,f5⟩:=hf it (by simp)
   have hl:=rv.length
   exact wpAny_pyNext_tuple_end (I.ok.hd hc) st (show s.heap.IsTuple a its.toArray from p) (by simp;lia) fun h' eb=>⟨rfl,I.turned (t':=s.toks) (fun b o hb e=>eb b o hb e) f0 f1 f3 f4 f5⟩
 self:=fun _ _ _ _ _ st h=>wpAny_pyIter_tupleiter st h
def b5y{P:Ac}{w:AU}{K:AE}{tg:AS}(it:AB)(lo:Int)(n:Nat):b4t P w K tg (Itr lo n) [it] it (fun i h=>IsRangeIter h it (lo+(i:Nat)*1) ((n:Int) - (i:Nat)) 1) where
 mem:=by simp
 obj:=fun i h st b hb=>by
  have e:b=it:=by simpa using hb
  subst e
  exact⟨_,st,fun v z=>by
   have z':Data.fields _=Data.cell v:=z
   cases z'⟩
 keep:=fun i h h' st k=>k it (by simp) _ st
 item:=by
  intro X hP hw hK hc i pins s σ H E I hf st hg
  subst hP hw hK
  obtain⟨f0,f1,f2,f3,f4,f5⟩:=hf it (by simp)
  have W:=Walks.range (prog:=X.prog) (w:=X.w) (I.ok.hd hc) it lo 1 n
  refine W.item i s _ _ hg st fun v h' tk hv st' kk=> ?_
  obtain⟨t,rfl⟩:=hv
  have I1:Inv X pins σ H {s with heap:=h',toks:=tk}:=I.turned (fun b o hb e=>kk b o (by simpa using hb) e) f0 f1 f3 f4 f5
  refine⟨_,rfl,b5Y (s:={s with heap:=h',toks:=tk}) (n:="range_iterator") st' rfl rfl (by decide) ⟨.int (lo+i),H,I1,⟨t, ?_⟩,⟨rfl,rfl⟩,st',fun b hb=>(hf b hb).1⟩⟩
  rw [Int.mul_one]
 done:=by
   intro X hP hw hK hc i pins s σ H E I hf st hg
   subst hP hw hK
   obtain⟨f0,f1,f2,f3,f4,f5⟩:=hf it (by simp)
   exact wpAny_pyNext_range_end (I.ok.hd hc) st (by have:n<=i:=hg;lia) fun h' eb=>⟨rfl,I.turned (t':=s.toks) (fun b o hb e=>eb b o hb e) f0 f1 f3 f4 f5⟩
 self:=fun _ _ _ _ _ st h=>wpAny_pyIter_rangeiter st h
def b9l{pins:List (AB×Obj)}{σ:St}{H:Hp}{s:AG}{R:It->Hp->Prop}{E:AA->AG->Prop}{lo hi:Int}{t u v:Tok}{tk:Nat}(I:Inv X pins σ H s)(h1: -(2 ^ 62)<=lo)(h2:lo<2 ^ 62)(h3: -(2 ^ 62)<=hi)(h4:hi<2 ^ 62)
 (q:R (Itr lo (hi - lo).toNat) H):AF (model X.prog X.w) X.A (pyIter (.ref s.heap.objs.size)) (PIE X pins σ tg R) E {s with heap:=s.heap.push {cls:= .type "range",data:= .fields #[.int lo t,.int hi u,.int 1 v]},toks:=tk}:=by
 refine wpAny_pyIter_range (IsRange.new ..) (small_one h1 h2 h3 h4) ?_
 have I1:Inv X pins σ H {s with heap:=s.heap.push {cls:= .type "range",data:= .fields #[.int lo t,.int hi u,.int 1 v]},toks:=tk}:=I.kept fun b o e=>AT _ e
 refine⟨(s.heap.push {cls:= .type "range",data:= .fields #[.int lo t,.int hi u,.int 1 v]}).objs.size,[(s.heap.push {cls:= .type "range",data:= .fields #[.int lo t,.int hi u,.int 1 v]}).objs.size],_,_,H,rfl,
  I1.kept (t':=tk) fun b o e=>AT _ e,b5y _ lo (hi - lo).toNat, ?_,fun b hb=> ?_,q⟩
 ·have e1:lo+((0:Nat):Int)*1=lo:=by simp
  have e2:(((hi - lo).toNat:Nat):Int) - ((0:Nat):Int)=Builtin.Range.rangeSize lo hi 1:=by rw [rangeSize_one];split<;>lia
  show IsRangeIter _ _ (lo+((0:Nat):Int)*1) ((((hi - lo).toNat:Nat):Int) - ((0:Nat):Int)) 1
  rw [e1,e2]
  exact An _ rfl
 ·have e:b=(s.heap.push {cls:= .type "range",data:= .fields #[.int lo t,.int hi u,.int 1 v]}).objs.size:=by simpa using hb
  subst e
  exact I1.fpOk (AR _) (I1.hok.fresh (AR _))
def c39(ta:TA):TI:=fun σ H R=>ta σ H fun vs H1=>∃j:Int,vs=[.int j]/\ -(2 ^ 62)<=j/\j<2 ^ 62/\R (Itr 0 j.toNat) H1
def b7h{a:AS}{ta:TA}{p pos:Pos}(hg:Gl X "range")(hm:X.mg "range"=none)(ha:PA X [a] ta)(hs:AJ [a] X.env=[(false,eval a X.env)]:=by rfl):PI X tg (.Call (.Name "range" p) [a] [] pos) (c39 ta):=by
 intro pins s σ H R I h
 refine Call_ (a7q I hg hm boot_range (PyProof.Rows.callWith_type1 (Q3 (ha pos pins s σ H _ I h) fun us s1 ⟨vs,H1,I1,r1,q1⟩=> ?_) hs rfl))
 obtain⟨j,e,q1,q2,q⟩:=q1
 subst e
 cases r1 with
 |cons r rr=>
  cases rr
  obtain⟨t,rfl⟩:=r
  exact call_range_1 (b9l I1 (by lia) (by lia) q1 q2 (by simpa using q))
def c5d(wi:TI)(g:TG)(tb:TS):TS:=fun D σ H=>wi σ H fun J H1=>∃W:Nat->Nat->St->Hp->Prop,(∃m,W 0 m σ H1)/\∀i m σ H,W i m σ H->
 (J.stop i H/\D.nx σ H)\/(J.go i H/\∃N:St->Hp->Prop,(∀σ' H',N σ' H'->∃m',m'<m/\W (i+1) m' σ' H')/\∀x H',J.yld i H x H'->g x σ H' fun σ2 H2=>tb {D with nx:=N,ct:=N,bk:=D.nx} σ2 H2)
def a9N(fp:List AB)(h:Heap):List (AB×Obj):=fp.filterMap fun b=>(h.get? b).map fun o=>(b,o)
def a3t(hb:b∈fp)(e:h.get? b=some o):(b,o)∈a9N fp h:=List.mem_filterMap.mpr ⟨b,hb,by rw [e];rfl⟩
def b7b(hp:p∈a9N fp h):p.1∈fp/\h.get? p.1=some p.2:=by
 obtain⟨b,hb,e⟩:=List.mem_filterMap.mp hp
 cases q:h.get? b with
 |none=>rw [q] at e;cases e
 |some o=>
  rw [q] at e
  have e':(b,o)=p:=Option.some.inj e
  subst e'
  exact⟨hb,q⟩
def Inv.pinned(I:Inv X pins σ H s)(hf:∀b∈fp,a8B X pins H b)(ho:∀b∈fp,∃o,s.heap.get? b=some o/\∀v,o.data≠.cell v):Inv X (pins++a9N fp s.heap) σ H s:=
 I.pins_of fun p hp=>(Av.mp hp).elim (fun z=>I.pin p (Ax _ z)) fun z=>by
  obtain⟨hb,e⟩:=b7b z
  obtain⟨f0,f1,f2,_⟩:=hf p.1 hb
  obtain⟨o,e',d⟩:=ho p.1 hb
  rw [e] at e';cases e'
  exact⟨e,f0,f1,f2,d⟩
def Inv.unpinned(I:Inv X (pins++pl) σ H s):Inv X pins σ H s:=I.pins_of fun p hp=>I.pin p (Ax _ (BG _ hp))
def b5n(hp:PassesOwn (model X.prog X.w) X.A X.env X.xe)(hc:X.calm=true)(hi:PI X tg iter wi)(hg:PG X tg g)(hb:PSs X body tb)
 (hs:∀x,foldedSetIterable iter X.env x=pure x:=by intro _;rfl):PS X (.For tg iter body [] pos) (c5d wi g tb):=by
 intro pins s σ H D I h
 refine wpAny_For (Q3 (hi pins s σ H _ I h) fun v s1 h1=>Q3 h1 fun itv s2 h2=> ?_) hs
 obtain⟨it,fp,tn,J,H2,e,I2,T,st2,f2,W,⟨m0,w0⟩,turn⟩:=h2
 subst e
 have stat:∀{H':Hp},(∀b∈fp,H' b=none)->∀b∈fp,a8B X pins H' b:=fun hn b hb=>⟨hn b hb,(f2 b hb).2⟩
 refine codeAny_forLoop_any (fun n s'=>∃i σ' H',Inv X pins σ' H' s'/\tn i s'.heap/\(∀b∈fp,H' b=none)/\W i n σ' H') ?_ m0 ⟨0,σ,H2,I2,st2,fun b hb=>(f2 b hb).1,w0⟩
 rintro n s3 ⟨i,σ3,H3,I3,st3,fr3,w3⟩
 rcases turn i n σ3 H3 w3 with⟨stop,qn⟩|⟨go,N,hN,step⟩
 ·refine wpAny_passesOwn hp (Q3 (T.done X rfl rfl rfl hc i pins s3 σ3 H3 X.xe I3 (stat fr3) st3 stop) fun r s4 ⟨hr,I4⟩=> ?_)
  subst hr
  exact wpAny_execs_nil ⟨σ3,H3,I4,qn⟩
 ·refine wpAny_passesOwn hp (Q3 (T.item X rfl rfl rfl hc i pins s3 σ3 H3 X.xe I3 (stat fr3) st3 go) fun r s4 ⟨u,hr,h4⟩=> ?_)
  subst hr
  refine wpAny_passesOwn hp (Q3 h4 fun _ s5 ⟨x,H5,I5,r5,y5,st5,fr5⟩=> ?_)
  have I5':=I5.pinned (stat fr5) (T.obj _ _ st5)
  refine wpAny_passesOwn hp (Q3 (hg _ s5 σ3 H5 x u _ I5' r5 (step x H5 y5)) fun _ s6 ⟨σ6,H6,I6,q6⟩=> ?_)
  refine wpAny_passesOwn hp (Q3 (hb _ s6 σ6 H6 _ I6 q6) fun f s7 q7=> ?_)
  have again:∀{σ7:St} {H7:Hp},Inv X (pins++a9N fp s5.heap) σ7 H7 s7->N σ7 H7->∃m,m<n/\∃i σ' H',Inv X pins σ' H' s7/\tn i s7.heap/\(∀b∈fp,H' b=none)/\W i m σ' H':=fun {σ7 H7} I7 n7=>by
   obtain⟨m',hm,w7⟩:=hN σ7 H7 n7
   refine⟨m',hm,i+1,σ7,H7,I7.unpinned,T.keep _ _ _ st5 fun b hb o e=>(I7.pin (b,o) (Ax _ (Ax _ (a3t hb e)))).1,fun b hb=> ?_,w7⟩
   obtain⟨o,e,d⟩:=T.obj _ _ st5 b hb
   exact(I7.pin (b,o) (Ax _ (Ax _ (a3t hb e)))).2.1
  cases f with
  |next=>obtain⟨σ7,H7,I7,n7⟩:=q7;exact again I7 n7
  |cont=>obtain⟨σ7,H7,I7,n7⟩:=q7;exact again I7 n7
  |brk=>obtain⟨σ7,H7,I7,q7⟩:=q7;exact⟨σ7,H7,I7.unpinned,q7⟩
  |ret v=>obtain⟨x7,σ7,H7,I7,r7,q7⟩:=q7;exact⟨x7,σ7,H7,I7.unpinned,r7,q7⟩
def b71{K:AE}{a:AB}{xs:List V}{g:TG}{tb:TS}{D:a3Z}{σ:St}{H:Hp}(Pv:Nat->St->Hp->Prop)(h0:Pv 0 σ H)(hl:∀i σ H,i<=xs.length->Pv i σ H->SqL K H a xs)
 (hs:∀i x σ H,xs[i]?=some x->Pv i σ H->g x σ H fun σ2 H2=>tb {D with nx:=Pv (i+1),ct:=Pv (i+1),bk:=D.nx} σ2 H2) (hd:∀σ H,Pv xs.length σ H->D.nx σ H):
 ∃W:Nat->Nat->St->Hp->Prop,(∃m,W 0 m σ H)/\∀i m σ H,W i m σ H->
  ((Itl K a).stop i H/\D.nx σ H)\/((Itl K a).go i H/\∃N:St->Hp->Prop,(∀σ' H',N σ' H'->∃m',m'<m/\W (i+1) m' σ' H')/\∀x H',(Itl K a).yld i H x H'->g x σ H' fun σ2 H2=>tb {D with nx:=N,ct:=N,bk:=D.nx} σ2 H2):=by
 refine⟨fun i m σ H=>m=xs.length - i/\i<=xs.length/\Pv i σ H,⟨xs.length,by simp,Nat.zero_le _,h0⟩, ?_⟩
 rintro i m σ H ⟨rfl,hi,p⟩
 have q:=hl i σ H hi p
 by_cases hlt:i<xs.length
 ·refine .inr ⟨⟨xs,xs[i],q,by simp [hlt]⟩,Pv (i+1),fun σ' H' p'=>⟨xs.length - (i+1),by lia,rfl,hlt,p'⟩,fun x H' y=> ?_⟩
  obtain⟨e,y⟩:=y
  subst e
  exact hs i x σ _ (y xs q) p
 ·have e:i=xs.length:=by lia
  subst e
  exact .inl ⟨⟨xs,q,AR _⟩,hd σ H p⟩
def c0h{K:AE}{a:AB}{xs:List V}{g:TG}{tb:TS}{D:a3Z}{σ:St}{H:Hp}(Pv:Nat->St->Hp->Prop)(h0:Pv 0 σ H)(hl:∀i σ H,i<=xs.length->Pv i σ H->SqT K H a xs)
 (hs:∀i x σ H,xs[i]?=some x->Pv i σ H->g x σ H fun σ2 H2=>tb {D with nx:=Pv (i+1),ct:=Pv (i+1),bk:=D.nx} σ2 H2) (hd:∀σ H,Pv xs.length σ H->D.nx σ H):
 ∃W:Nat->Nat->St->Hp->Prop,(∃m,W 0 m σ H)/\∀i m σ H,W i m σ H->
  ((Itt K a).stop i H/\D.nx σ H)\/((Itt K a).go i H/\∃N:St->Hp->Prop,(∀σ' H',N σ' H'->∃m',m'<m/\W (i+1) m' σ' H')/\∀x H',(Itt K a).yld i H x H'->g x σ H' fun σ2 H2=>tb {D with nx:=N,ct:=N,bk:=D.nx} σ2 H2):=by
 refine⟨fun i m σ H=>m=xs.length - i/\i<=xs.length/\Pv i σ H,⟨xs.length,by simp,Nat.zero_le _,h0⟩, ?_⟩
 rintro i m σ H ⟨rfl,hi,p⟩
 have q:=hl i σ H hi p
 by_cases hlt:i<xs.length
 ·refine .inr ⟨⟨xs,xs[i],q,by simp [hlt]⟩,Pv (i+1),fun σ' H' p'=>⟨xs.length - (i+1),by lia,rfl,hlt,p'⟩,fun x H' y=> ?_⟩
  obtain⟨e,y⟩:=y
  subst e
  exact hs i x σ _ (y xs q) p
 ·have e:i=xs.length:=by lia
  subst e
  exact .inl ⟨⟨xs,q,AR _⟩,hd σ H p⟩
def b6J{lo:Int}{n:Nat}{g:TG}{tb:TS}{D:a3Z}{σ:St}{H:Hp}(Pv:Nat->St->Hp->Prop)(h0:Pv 0 σ H)
 (hs:∀i σ H,i<n->Pv i σ H->g (.int (lo+i)) σ H fun σ2 H2=>tb {D with nx:=Pv (i+1),ct:=Pv (i+1),bk:=D.nx} σ2 H2) (hd:∀σ H,Pv n σ H->D.nx σ H):
 ∃W:Nat->Nat->St->Hp->Prop,(∃m,W 0 m σ H)/\∀i m σ H,W i m σ H->
  ((Itr lo n).stop i H/\D.nx σ H)\/((Itr lo n).go i H/\∃N:St->Hp->Prop,(∀σ' H',N σ' H'->∃m',m'<m/\W (i+1) m' σ' H')/\∀x H',(Itr lo n).yld i H x H'->g x σ H' fun σ2 H2=>tb {D with nx:=N,ct:=N,bk:=D.nx} σ2 H2):=by
 refine⟨fun i m σ H=>m=n - i/\i<=n/\Pv i σ H,⟨n,by simp,Nat.zero_le _,h0⟩, ?_⟩
 rintro i m σ H ⟨rfl,hi,p⟩
 by_cases hlt:i<n
 ·refine .inr ⟨hlt,Pv (i+1),fun σ' H' p'=>⟨n - (i+1),by lia,rfl,hlt,p'⟩,fun x H' y=> ?_⟩
  obtain⟨e,y⟩:=y
  subst e y
  exact hs i σ _ hlt p
 ·have e:i=n:=by lia
  subst e
  exact .inl ⟨AR _,hd σ H p⟩
abbrev R2:=V->V->Hp->VK->Prop
def OpR(X:Cx)(f:AA->AA->Sem AA)(r:R2):Prop:=
 ∀(pins:List (AB×Obj)) (s:AG) (σ:St) (H:Hp) (x y:V) (v u:AA) (Q:VK),Inv X pins σ H s->A8 x v->A8 y u->r x y H Q->
  AF (model X.prog X.w) X.A (f v u) (EP X pins σ Q) X.xe s
def UnR(X:Cx)(f:AA->Sem AA)(r:V->Hp->VK->Prop):Prop:=
 ∀(pins:List (AB×Obj)) (s:AG) (σ:St) (H:Hp) (x:V) (v:AA) (Q:VK),Inv X pins σ H s->A8 x v->r x H Q->
  AF (model X.prog X.w) X.A (f v) (EP X pins σ Q) X.xe s
def R0(X:Cx)(f:AA)(r:List V->Hp->VK->Prop):Prop:=
 ∀(pins:List (AB×Obj)) (s:AG) (σ:St) (H:Hp) (xs:List V) (us:List AA) (Q:VK),Inv X pins σ H s->y9 xs us->r xs H Q->
  AF (model X.prog X.w) X.A (call f us) (EP X pins σ Q) X.xe s
def c4T(X:Cx)(r:V->Hp->(Bool->Hp->Prop)->Prop):Prop:=
 ∀(pins:List (AB×Obj)) (s:AG) (σ:St) (H:Hp) (x:V) (v:AA) (Q:Bool->Hp->Prop),Inv X pins σ H s->A8 x v->r x H Q->
  AF (model X.prog X.w) X.A (truthy v) (TP X pins σ Q) X.xe s
def tOp(r:R2)(ta tb:TE):TE:=fun σ H Q=>ta σ H fun x H1=>tb σ H1 fun y H2=>r x y H2 Q
def tUn(r:V->Hp->VK->Prop)(ta:TE):TE:=fun σ H Q=>ta σ H fun x H1=>r x H1 Q
def rI(C:Int->Int->Prop)(g:Int->Int->V):R2:=fun x y H Q=>∃i j,x= .int i/\y= .int j/\C i j/\Q (g i j) H
def rI0(g:Int->Int->V):R2:=fun x y H Q=>∃i j,x= .int i/\y= .int j/\Q (g i j) H
def rU(g:Int->V):V->Hp->VK->Prop:=fun x H Q=>∃i,x= .int i/\Q (g i) H
def c2d(ha:PE X a ta)(hb:PE X b tb){pins:List (AB×Obj)}{s:AG}{σ:St}{H:Hp}{R:V->V->Hp->Prop}(I:Inv X pins σ H s)
 (h:ta σ H fun x H1=>tb σ H1 fun y H2=>R x y H2) {Q:AA->AG->Prop} {f:AA->AA->Sem AA}
 (hf:∀v u s2 x y H2,Inv X pins σ H2 s2->A8 x v->A8 y u->R x y H2->AF (model X.prog X.w) X.A (f v u) Q X.xe s2):
 AF (model X.prog X.w) X.A (eval a X.env) (fun v s₁=>AF (model X.prog X.w) X.A (eval b X.env) (fun u s₂=>AF (model X.prog X.w) X.A (f v u) Q X.xe s₂) X.xe s₁) X.xe s:=by
 refine Q3 (ha pins s σ H _ I h) fun v s1 ⟨x,H1,I1,r1,q1⟩=> ?_
 refine Q3 (hb pins s1 σ H1 _ I1 q1) fun u s2 ⟨y,H2,I2,r2,q2⟩=> ?_
 exact hf v u s2 x y H2 I2 r1 r2 q2
def c4s{op:Operator}{r:R2}(ho:OpR X (binaryOp op) r)(ha:PE X a ta)(hb:PE X b tb):PE X (.BinOp a op b pos) (tOp r ta tb):=by
 intro pins s σ H Q I h
 exact wpAny_BinOp (c2d ha hb I h fun v u s2 x y H2 I2 rx ry q=>ho pins s2 σ H2 x y v u Q I2 rx ry q)
def c4t(ho:UnR X (unaryOp op) r)(ha:PE X a ta):PE X (.UnaryOp op a pos) (tUn r ta):=by
 intro pins s σ H Q I h
 exact UnaryOp_ (Q3 (ha pins s σ H _ I h) fun v s1 ⟨x,H1,I1,r1,q1⟩=>ho pins s1 σ H1 x v Q I1 r1 q1)
def opI{f:AA->AA->Sem AA}{C:Int->Int->Prop}{g:Int->Int->Int}
 (rule:∀(i j:Int) (t u:Tok) (s:AG) (Q:AA->AG->Prop) (E:AA->AG->Prop),C i j->Q (.int (g i j) s.toks) {s with toks:=s.toks+1}->AF (model X.prog X.w) X.A (f (.int i t) (.int j u)) Q E s):
 OpR X f (rI C fun i j=> .int (g i j)):=by
 intro pins s σ H x y v u Q I rx ry h
 obtain⟨i,j,rfl,rfl,hc,q⟩:=h
 obtain⟨t,rfl⟩:=rx
 obtain⟨t',rfl⟩:=ry
 exact rule i j t t' s _ _ hc ⟨.int (g i j),H,I.tok _,⟨_,rfl⟩,q⟩
def c20{f:AA->AA->Sem AA}{g:Int->Int->Int}
 (rule:∀(i j:Int) (t u:Tok) (s:AG) (Q:AA->AG->Prop) (E:AA->AG->Prop),Q (.int (g i j) s.toks) {s with toks:=s.toks+1}->AF (model X.prog X.w) X.A (f (.int i t) (.int j u)) Q E s):
 OpR X f (rI0 fun i j=> .int (g i j)):=by
 intro pins s σ H x y v u Q I rx ry h
 obtain⟨i,j,rfl,rfl,q⟩:=h
 obtain⟨t,rfl⟩:=rx
 obtain⟨t',rfl⟩:=ry
 exact rule i j t t' s _ _ ⟨.int (g i j),H,I.tok _,⟨_,rfl⟩,q⟩
def c2Z{f:AA->AA->Sem AA}{g:Int->Int->Bool}
 (rule:∀(i j:Int) (t u:Tok) (s:AG) (Q:AA->AG->Prop) (E:AA->AG->Prop),Q (.bool (g i j)) s->AF (model X.prog X.w) X.A (f (.int i t) (.int j u)) Q E s):
 OpR X f (rI0 fun i j=> .bl (g i j)):=by
 intro pins s σ H x y v u Q I rx ry h
 obtain⟨i,j,rfl,rfl,q⟩:=h
 obtain⟨t,rfl⟩:=rx
 obtain⟨t',rfl⟩:=ry
 exact rule i j t t' s _ _ ⟨.bl (g i j),H,I,rfl,q⟩
def b2K(i j:Int):Prop:=0<j/\j<1073741824
def b6x(i j:Int):Prop:=0<=j/\j<=1000000/\i.natAbs<2 ^ 64
def b4f(i j:Int):Prop:=(-(2 ^ 64)<i/\i<2 ^ 64)\/(-(2 ^ 64)<j/\j<2 ^ 64)
def b4f.ok{i j:Int}(h:b4f i j):IntMulOk i j:=by
 rcases h with⟨h1,h2⟩|⟨h1,h2⟩
 ·exact .of_left (intBits_le_64 h1 h2)
 ·exact .of_right (intBits_le_64 h1 h2)
def c21:OpR X (binaryOp .Add) (rI0 fun i j=> .int (i+j)):=c20 fun _ _ _ _ _ _ _ q=>add_int q
def c29:OpR X (binaryOp .Sub) (rI0 fun i j=> .int (i - j)):=c20 fun _ _ _ _ _ _ _ q=>sub_int q
def c26:OpR X (binaryOp .Mult) (rI b4f fun i j=> .int (i*j)):=opI fun _ _ _ _ _ _ _ hc q=>mul_int q hc.ok
def c0X:OpR X (binaryOp .FloorDiv) (rI b2K fun i j=> .int (i / j)):=opI fun i j _ _ _ _ _ hc q=>by
 have h1:(0:Int)<j:=hc.1
 have h2:j<1073741824:=hc.2
 exact floordiv_int (by lia) (by rw [Int.fdiv_eq_ediv_of_nonneg i (by lia)];exact q) (.inl (PyProof.noPylong_small (by lia)))
def c25:OpR X (binaryOp .Mod) (rI (fun _ j=>0<j) fun i j=> .int (i % j)):=opI fun i j _ _ _ _ _ hc q=>by
 have h1:(0:Int)<j:=hc
 exact mod_int' (by lia) (by rw [Int.fmod_eq_emod_of_nonneg i (by lia)];exact q)
def c27:OpR X (binaryOp .Pow) (rI b6x fun i j=> .int (i ^ j.toNat)):=opI fun _ _ _ _ _ _ _ hc q=>pow_int_small hc.1 hc.2.1 hc.2.2 q
def c0s:OpR X (inplaceOp .Add) (rI0 fun i j=> .int (i+j)):=c20 fun _ _ _ _ _ _ _ q=>iadd_int q
def unI{f:AA->Sem AA}{g:Int->Int}
 (rule:∀(i:Int) (t:Tok) (s:AG) (Q:AA->AG->Prop) (E:AA->AG->Prop),Q (.int (g i) s.toks) {s with toks:=s.toks+1}->AF (model X.prog X.w) X.A (f (.int i t)) Q E s):
 UnR X f (rU fun i=> .int (g i)):=by
 intro pins s σ H x v Q I rx h
 obtain⟨i,rfl,q⟩:=h
 obtain⟨t,rfl⟩:=rx
 exact rule i t s _ _ ⟨.int (g i),H,I.tok _,⟨_,rfl⟩,q⟩
def c3I:UnR X (unaryOp .USub) (rU fun i=> .int (-i)):=unI fun _ _ _ _ _ q=>neg_int q
def b1X(I:Inv X pins σ H s)(q:Q (.bl k) H)(e:k=k'):EP X pins σ Q (.bool k') s:=by
 subst e
 exact⟨.bl k,H,I,rfl,q⟩
def c4o:OpR X (compareOp .Lt) (rI0 fun i j=> .bl (decide (i<j))):=c2Z fun _ _ _ _ _ _ _ q=>lt_int q
def c4n:OpR X (compareOp .LtE) (rI0 fun i j=> .bl (decide (i<=j))):=c2Z fun _ _ _ _ _ _ _ q=>le_int q
def c4m:OpR X (compareOp .Gt) (rI0 fun i j=> .bl (decide (j<i))):=c2Z fun _ _ _ _ _ _ _ q=>gt_int q
def b7f:OpR X (compareOp .Lt) (fun x y H Q=>∃i j,x= .str i/\y= .str j/\Q (.bl (decide (i.cps.toList<j.cps.toList))) H):=by
 intro pins s σ H x y v u Q I rx ry h
 obtain⟨i,j,rfl,rfl,q⟩:=h
 obtain⟨t,rfl⟩:=rx
 obtain⟨t',rfl⟩:=ry
 exact lt_str (b1X I q rfl)
def b7e:OpR X (compareOp .In) (fun x y H Q=>∃i j,x= .str i/\y= .str j/\Q (.bl (!(Builtin.Str.occurrences j i 0 j.length 1).isEmpty)) H):=by
 intro pins s σ H x y v u Q I rx ry h
 obtain⟨i,j,rfl,rfl,q⟩:=h
 obtain⟨t,rfl⟩:=rx
 obtain⟨t',rfl⟩:=ry
 exact in_str (b1X I q rfl)
def c23:OpR X (compareOp .Is) (fun x y H Q=>y= .non/\Q (.bl (decide (x= .non))) H):=by
 intro pins s σ H x y v u Q I rx ry h
 obtain⟨rfl,q⟩:=h
 cases ry
 refine is_none_gen (b1X I q ?_)
 cases x<;>first
  |(cases rx;rfl)
  |(obtain⟨t,rfl⟩:=rx;rfl)
def b2s:OpR X (compareOp .NotIn) (fun x y H Q=>∃i j,x= .str i/\y= .str j/\Q (.bl (!(!(Builtin.Str.occurrences j i 0 j.length 1).isEmpty))) H):=by
 intro pins s σ H x y v u Q I rx ry h
 obtain⟨i,j,rfl,rfl,q⟩:=h
 obtain⟨t,rfl⟩:=rx
 obtain⟨t',rfl⟩:=ry
 exact notIn_str (b1X I q rfl)
def c06(ho:OpR X (compareOp op) r)(ha:PE X a ta)(hb:PE X b tb)(hm:behindInMarks op b=false):PE X (.Compare a [op] [b] pos) (tOp r ta tb):=by
 intro pins s σ H Q I h
 exact wpAny_Compare1 (c2d ha hb I h fun v u s2 x y H2 I2 rx ry q=>ho pins s2 σ H2 x y v u Q I2 rx ry q) hm
def c1W(t:TE):TT:=fun σ H Q=>t σ H fun x H'=>∃k,x= .bl k/\Q k H'
def c1e(ho:OpR X (compareOp op) r)(ha:PE X a ta)(hb:PE X b tb)(hm:behindInMarks op b=false):PT X (.Compare a [op] [b] pos) (c1W (tOp r ta tb)):=by
 intro pins s σ H Q I h
 refine wpAny_isTrue_Compare1 (Q3 (ha pins s σ H _ I h) fun v s1 ⟨x,H1,I1,r1,q1⟩=>Q3 (hb pins s1 σ H1 _ I1 q1) fun u s2 ⟨y,H2,I2,r2,q2⟩=>
  Q3 (ho pins s2 σ H2 x y v u _ I2 r1 r2 q2) fun c s3 ⟨z,H3,I3,r3,k,e,q3⟩=> ?_) hm
 subst e
 cases r3
 exact wpAny_truthy_bool ⟨H3,I3,q3⟩
def b5x(r r':R2)(ta tb tc:TE):TE:=fun σ H Q=>ta σ H fun x H1=>tb σ H1 fun y H2=>r x y H2 fun z H3=>∃k,z= .bl k/\
 (if k=true then tc σ H3 fun w' H4=>r' y w' H4 Q else Q (.bl false) H3)
def b82(ho:OpR X (compareOp op) r)(ho':OpR X (compareOp op') r')(ha:PE X a ta)(hb:PE X b tb)(hc:PE X c tc)
 (hm:lastMarks [op,op'] [b,c]=false:=by with_unfolding_all rfl):PE X (.Compare a [op,op'] [b,c] pos) (b5x r r' ta tb tc):=by
 intro pins s σ H Q I h
 refine Compare_chain (Q3 (ha pins s σ H _ I h) fun v s1 ⟨x,H1,I1,r1,q1⟩=>chain_link (Q3 (hb pins s1 σ H1 _ I1 q1) fun u s2 ⟨y,H2,I2,r2,q2⟩=>
  Q3 (ho pins s2 σ H2 x y v u _ I2 r1 r2 q2) fun d s3 ⟨z,H3,I3,r3,k,e,q3⟩=> ?_)) hm
 subst e
 cases r3
 refine wpAny_truthy_bool ?_
 cases k with
 |false=>exact ite_ff ⟨.bl false,H3,I3,rfl,q3⟩
 |true=>exact ite_tt (chain_last (Q3 (hc pins s3 σ H3 _ I3 q3) fun w' s4 ⟨z',H4,I4,r4,q4⟩=>ho' pins s4 σ H4 y z' u w' Q I4 r2 r4 q4))
def b9h(ho:OpR X (compareOp op) r)(ho':OpR X (compareOp op') r')(ha:PE X a ta)(hb:PE X b tb)(hc:PE X c tc)
 (hm:lastMarks [op,op'] [b,c]=false:=by with_unfolding_all rfl):PT X (.Compare a [op,op'] [b,c] pos) (c1W (b5x r r' ta tb tc)):=by
 intro pins s σ H Q I h
 refine isTrue_chain (Q3 (ha pins s σ H _ I h) fun v s1 ⟨x,H1,I1,r1,q1⟩=>test_link (Q3 (hb pins s1 σ H1 _ I1 q1) fun u s2 ⟨y,H2,I2,r2,q2⟩=>
  Q3 (ho pins s2 σ H2 x y v u _ I2 r1 r2 q2) fun d s3 ⟨z,H3,I3,r3,k,e,q3⟩=> ?_)) hm
 subst e
 cases r3
 refine wpAny_truthy_bool ?_
 cases k with
 |false=>
  obtain⟨k',e',q'⟩:=q3
  cases e'
  exact ite_ff ⟨H3,I3,q'⟩
 |true=>
  refine ite_tt (test_last (Q3 (hc pins s3 σ H3 _ I3 q3) fun w' s4 ⟨z',H4,I4,r4,q4⟩=>Q3 (ho' pins s4 σ H4 y z' u w' _ I4 r2 r4 q4) fun d' s5 ⟨z2,H5,I5,r5,k2,e2,q5⟩=> ?_))
  subst e2
  cases r5
  exact wpAny_truthy_bool ⟨H5,I5,q5⟩
def c13(K:AE)(x:V)(H:Hp)(k:Bool):Prop:=
 match x with
 | .non=>k=false
 | .bl b=>k=b
 | .int i=>k=(i !=0)
 | .str y=>y.length<=AL/\k=((y.length:Int) !=0)
 | .byt y=>y.size<=AL/\k=((y.size:Int) !=0)
 | .ref p=>(∃xs,SqL K H p xs/\k= !xs.isEmpty)\/(∃xs,SqT K H p xs/\k= !xs.isEmpty)\/∃kvs,H p=some (.dK kvs)/\k= !kvs.isEmpty
 |_=>False
def b4S(r:KV kvs vs):(!vs.isEmpty)= !kvs.isEmpty:=by
 cases r<;>rfl
def a84(r:y9 xs its):(!its.toArray.isEmpty)= !xs.isEmpty:=by
 cases r<;>simp
def a7r:(AL:Nat)<2 ^ 63:=by rw [sizeLine_eq];decide
def c3D:c4T X (fun x H Q=>∃k,c13 X.K x H k/\Q k H):=by
 intro pins s σ H x v Q I rx h
 obtain⟨k,e,q⟩:=h
 have hl:=a7r
 have hs:AL=16777216:=sizeLine_eq
 cases x with
 |non=>
  cases rx
  have e':k=false:=e
  subst e'
  exact truthy_none ⟨H,I,q⟩
 |bl b=>
  cases rx
  have e':k=b:=e
  subst e'
  exact wpAny_truthy_bool ⟨H,I,q⟩
 |int i=>
  obtain⟨t,rfl⟩:=rx
  have e':k=(i !=0):=e
  subst e'
  exact PySem.P.truthy_int ⟨H,I,q⟩
 |str y=>
  obtain⟨t,rfl⟩:=rx
  obtain⟨hy,e'⟩:y.length<=AL/\k=((y.length:Int) !=0):=e
  subst e'
  exact PySem.P.truthy_str (by lia) ⟨H,I.tok _,q⟩
 |byt y=>
  obtain⟨t,rfl⟩:=rx
  obtain⟨hy,e'⟩:y.size<=AL/\k=((y.size:Int) !=0):=e
  subst e'
  exact W.truthy_bytes (by lia) ⟨H,I.tok _,q⟩
 |ref p=>
  cases rx
  have e':(∃xs,SqL X.K H p xs/\k= !xs.isEmpty)\/(∃xs,SqT X.K H p xs/\k= !xs.isEmpty)\/∃kvs,H p=some (.dK kvs)/\k= !kvs.isEmpty:=e
  rcases e' with⟨xs,hx,e'⟩|⟨xs,hx,e'⟩|⟨kvs,hx,e'⟩
  ·subst e'
   obtain⟨its,r,pl,hz⟩:=I.list hx
   have hlen:=r.length
   exact wpAny_truthy_list pl.isList (by simp only [Aq];lia) ⟨H,I.tok _,by rw [a84 r];exact q⟩
  ·subst e'
   obtain⟨its,r,pl,hz⟩:=I.tuple hx
   have hlen:=r.length
   exact truthy_tuple pl (by simp only [Aq];lia) ⟨H,I.tok _,by rw [a84 r];exact q⟩
  ·subst e'
   obtain⟨hz,hS,vs,r,m⟩:kvs.length<=AL/\(p==sysModules)=false/\∃vs,KV kvs vs/\s.heap.DictOf (B3 X.prog X.w) p vs:=I.hok p _ hx
   have hlen:kvs.length=vs.length:=Paired.length r
   exact wpAny_truthy_dict hS m (by lia) ⟨H,I.tok _,by rw [b4S r];exact q⟩
 |_=>exact(show False from e).elim
def b9i(ha:PE X a ta)(he:∀whole,isTrue a X.env whole=(do let v<-whole;standAt a.pos;holding [v] (truthy v))):
 PT X a (fun σ H Q=>ta σ H fun x H'=>∃k,c13 X.K x H' k/\Q k H'):=by
 intro pins s σ H Q I h
 exact isTrue_plain (Q3 (ha pins s σ H _ I h) fun v s1 ⟨x,H1,I1,r1,q1⟩=>c3D pins s1 σ H1 x v Q I1 r1 q1) (he _)
def b5j:OpR X (binaryOp .Add) (fun x y H Q=>∃i j,x= .str i/\y= .str j/\i.length+j.length<=AL/\Q (.str (i++j)) H):=by
 intro pins s σ H x y v u Q I rx ry h
 obtain⟨i,j,rfl,rfl,hz,q⟩:=h
 obtain⟨t,rfl⟩:=rx
 obtain⟨t',rfl⟩:=ry
 exact add_str (fun t' tk=>⟨.str (i++j),H,I.tok _,⟨_,rfl⟩,q⟩) hz
def a1i(r:y9 [x] us):∃u,us=[u]/\A8 x u:=by
 cases r with
 |cons r1 r2=>cases r2;exact⟨_,rfl,r1⟩
def c4O(r:y9 [x,y] us):∃u w',us=[u,w']/\A8 x u/\A8 y w':=by
 cases r with
 |cons r1 r2=>
  cases r2 with
  |cons r3 r4=>cases r4;exact⟨_,_,rfl,r1,r3⟩
def b6A(hc:X.calm=true):R0 X (.builtin "min") (fun xs H Q=>∃i j,xs=[.int i,.int j]/\Q (.int (if j<i then j else i)) H):=by
 intro pins s σ H xs us Q I r h
 obtain⟨i,j,rfl,q⟩:=h
 obtain⟨u,w',rfl,⟨t,rfl⟩,⟨t',rfl⟩⟩:=c4O r
 refine min_two_ints (I.ok.hd hc) fun h' tk k=>⟨_,H,I.kept k, ?_,q⟩
 by_cases hj:j<i
 ·rw [if_pos hj,if_pos hj];exact⟨_,rfl⟩
 ·rw [if_neg hj,if_neg hj];exact⟨_,rfl⟩
structure b4n(h:Heap)(x dx C:AB)(mA:Str->Option AA):Prop where
 obj:h.get? x=some (W.instObj C dx)
 ns:h.Ns1 dx mA
 ne:dx≠x
def b6X{h:Heap}{dx:AB}{mA:Str->Option AA}(n:h.Ns1 dx mA):∃od,h.get? dx=some od/\∀name,W.lookIn name od=some (mA name):=by
 obtain⟨o,es,ep,ho,hd,hk,_,hm⟩:=n
 refine⟨o,ho,fun name=> ?_⟩
 have e:=hm name
 unfold nsFind findBy at e
 rw [<-Array.find?_toList] at e
 unfold W.lookIn
 rw [hd]
 dsimp only
 split
 ·rename_i y q
  rw [q] at e
  exact congrArg some e
 ·rename_i q
  rw [q] at e
  have a:es.toList.any (·.refKey)=false:=by
   rw [List.any_eq_false]
   intro y hy
   obtain⟨z,t,hkey⟩:=hk y (Array.mem_toList_iff.mp hy)
   simp [DictEntry.refKey,hkey]
  have a':¬es.toList.any (·.refKey)=true:=by rw [a];exact Ar
  rw [if_neg a']
  exact congrArg some e
def b4n.look(I:b4n h x dx C mA):∃od,W.InstAt h x (W.instObj C dx) C (some od)/\∀name,W.lookIn name od=some (mA name):=
 let ⟨od,ho,hl⟩:=b6X I.ns
 ⟨od,⟨I.obj,rfl,rfl,ho⟩,hl⟩
section
variable {prog:Ac}{w:AU}{A:Al}{E:AA->AG->Prop}{s:AG}{K:AE}{x dx C f:AB}{mA:Str->Option AA}{name:Str}{v:AA}
def c0o(X:K.In s.heap)(I:b4n s.heap x dx C mA)(hg:W.plainGet K C name=true)(hh:W.hasDictIn K C=true)
 (ha:W.findIn K (.ref C) name=some none) (hv:mA name=some v) (hv':W.handedIn v=true) (h:Q v {s with toks:=s.toks+1}):
 AF (model prog w) A (getAttr (.ref x) name expr) Q E s:=by
 obtain⟨od,J,hl⟩:=I.look
 exact W.get_value X J (W.plainGet_of hg).1 (W.findObj_own hh ha rfl (by rw [hl,hv])) hv' h
def b8d(X:K.In s.heap)(I:b4n s.heap x dx C mA)(hg:W.plainGet K C name=true)
 (hf:W.findIn K (.ref C) name=some (some (.ref f))) (ht:W.isFn K (.ref f)=true) (hv:mA name=none) (h:Q (.ref f,[.ref x]) s):
 AF (model prog w) A (getMethod (.ref x) name pl) Q E s:=by
 obtain⟨od,J,hl⟩:=I.look
 exact W.method_fn X J (W.plainGet_of hg).1 (W.plainGet_of hg).2 hf (beq_iff_eq.mp ht) (by show(W.lookIn name od).map (·.isSome)=some false;rw [hl,hv];rfl) h
def c1p(X:K.In s.heap)(I:b4n s.heap x dx C mA)
 (hs:W.findIn K (.ref C) "__setattr__"=some (some (.builtin "object.__setattr__"))) (hp:W.plainOver K C=true) (ht:W.takerIn K C name=some none) (hh:W.hasDictIn K C=true)
 (hw:PySem.Within mA ns) (hsz:ns.length<=AL)
 (h:∀h',b4n h' x dx C (fun y=>if y=name then some v else mA y)->Heap.SameBut dx s.heap h'->Q () {s with heap:=h',toks:=s.toks+2}):
 AF (model prog w) A (setAttr (.ref x) name v) Q E s:=by
 obtain⟨od,J,hl⟩:=I.look
 refine W.set_plain X J hs (W.osa_open (s:={s with toks:=s.toks+1}) (r:=none) X J hp ht fun b=> ?_)
 obtain⟨cd,hc,hd'⟩:=W.any_some hh
 have hx:s.heap.get? x=some ⟨.ref C,some dx,.plain, #[]⟩:=I.obj
 refine AD (AI (AD (AD (wpAny_loadPart hx (AD (W.Looks.here (s:={s with toks:=s.toks+1}) (W.looks_clsIn X hc) ?_))))))
 rw [hd']
 refine AI (a:=some dx) (AD (AI (AD ?_)))
 refine wpAny_nsSet1 (s:={s with toks:=s.toks+1}) I.ns fun h' hn2 hs2=> ?_
 obtain⟨oD,esD,epD,hoD,hdD,hcD⟩:=hn2.count (PySem.Within.cons name v hw)
 refine AD (wpAny_lookBehind hoD (by rw [hdD];exact pastItsLine_dict (Nat.le_trans hcD (by rw [AM];lia))) ?_)
 exact AI (h _ ⟨(hs2.2 _ (Ne.symm I.ne)).trans I.obj,hn2,I.ne⟩ hs2)
def b8B(X:K.In s.heap)(hm:W.makesIn K C=true)
 (hi:W.findIn K (.ref C) "__init__"=some (some (.ref f))) (hf:W.typeIn K (.ref f)=some (.type "function"))
 (h:codeAny (model prog w) (A.under (.builtin "type.__call__" ⟨.ref C::vs,kw⟩)) (.call (.ref f) ⟨.ref (s.heap.objs.size+1)::vs,kw⟩) (W.InitBack (s.heap.objs.size+1) R)
  {s with heap:=(s.heap.push W.emptyDict).push (W.instObj C s.heap.objs.size)}):
 codeAny (model prog w) A (.call (.ref C) ⟨vs,kw⟩) R s:=by
 obtain⟨hh,g,d,t,os⟩:=s
 exact W.make_core (W.makes_of X hm) (W.looks_findIn X hi) (fun self=>W.bind_fn X self hf) (.inl rfl) h
end
def a4K(f:Str)(v:V):List (Str×V)->List (Str×V)
 |[]=>[(f,v)]
 |(g,x)::r=>if g=f then(g,v)::r else(g,x)::a4K f v r
theorem a7W(f g:Str)(v:V):∀fs:List (Str×V),(a4K f v fs).lookup g=if g=f then some v else fs.lookup g
 |[]=>by
  show List.lookup g [(f,v)]=_
  by_cases h:g=f
  ·have hb:(g==f)=true:=beq_iff_eq.mpr h
   simp only [List.lookup,hb,if_pos h]
  ·have hb:(g==f)=false:=beq_eq_false_iff_ne.mpr h
   simp only [List.lookup,hb,if_neg h]
 |(k,x)::r=>by
  have ih:=a7W f g v r
  rw [show a4K f v ((k,x)::r)=(if k=f then(k,v)::r else(k,x)::a4K f v r) from rfl]
  by_cases hk:k=f
  ·rw [if_pos hk]
   by_cases h:g=k
   ·have hb:(g==k)=true:=beq_iff_eq.mpr h
    simp only [List.lookup,hb,if_pos (h.trans hk)]
   ·have hb:(g==k)=false:=beq_eq_false_iff_ne.mpr h
    simp only [List.lookup,hb,if_neg (fun e:g=f=>h (e.trans hk.symm))]
  ·rw [if_neg hk]
   by_cases h:g=k
   ·have hb:(g==k)=true:=beq_iff_eq.mpr h
    simp only [List.lookup,hb,if_neg (fun e:g=f=>hk (h.symm.trans e))]
   ·have hb:(g==k)=false:=beq_eq_false_iff_ne.mpr h
    simp only [List.lookup,hb]
    exact ih
theorem a7o(f:Str)(v:V):∀fs:List (Str×V),f∈(a4K f v fs).map (·.1)/\∀g,g∈fs.map (·.1)->g∈(a4K f v fs).map (·.1)
 |[]=>⟨by simp [a4K],fun g h=>by simp at h⟩
 |(k,x)::r=>by
  obtain⟨i1,i2⟩:=a7o f v r
  rw [show a4K f v ((k,x)::r)=(if k=f then(k,v)::r else(k,x)::a4K f v r) from rfl]
  by_cases hk:k=f
  ·rw [if_pos hk]
   subst hk
   exact⟨by simp,fun g h=>by simpa using h⟩
  ·rw [if_neg hk]
   refine⟨?_,fun g h=> ?_⟩
   ·rw [AK]
    exact Ah _ i1
   ·rw [AK] at h ⊢
    rcases AZ.mp h with e|e
    ·exact AZ.mpr (.inl e)
    ·exact Ah _ (i2 g e)
theorem a7U(f:Str)(v:V):∀fs:List (Str×V),(a4K f v fs).length<=fs.length+1
 |[]=>by simp [a4K]
 |(k,x)::r=>by
  have ih:=a7U f v r
  rw [show a4K f v ((k,x)::r)=(if k=f then(k,v)::r else(k,x)::a4K f v r) from rfl]
  by_cases hk:k=f
  ·rw [if_pos hk,AM,AM];lia
  ·rw [if_neg hk,AM,AM];lia
def a6u.some_of(r:a6u (some v) o):∃u,o=some u/\A8 v u:=by
 cases o with
 |none=>exact(show False from r).elim
 |some u=>exact⟨u,rfl,r⟩
def a6u.none_of(r:a6u none o):o=none:=by
 cases o with
 |none=>rfl
 |some u=>exact(show False from r).elim
def b6L(r:A8 v u):W.handedIn u=true:=by
 cases v with
 |non=>cases(show u=Value.none from r);rfl
 |bl b=>cases(show u=Value.bool b from r);rfl
 |int i=>obtain⟨t,e⟩:=(show ∃t,u=Value.int i t from r);cases e;rfl
 |str x=>obtain⟨t,e⟩:=(show ∃t,u=Value.str x t from r);cases e;rfl
 |byt b=>obtain⟨t,e⟩:=(show ∃t,u=Value.bytes b t from r);cases e;rfl
 |flt b=>obtain⟨t,e⟩:=(show ∃t,u=Value.float b t from r);cases e;rfl
 |ref a=>cases(show u=Value.ref a from r);rfl
 |ty n=>cases(show u=Value.type n from r);rfl
def a8r(hok:HOk P w H h)(e:H a=some (.ins C dx fs)):∃mA,b4n h a dx C mA/\(∀f,a6u (fs.lookup f) (mA f))/\PySem.Within mA (fs.map (·.1))/\fs.length<=1000/\H dx=some (.own a):=by
 obtain⟨d,z,ne,ob,mA,n,r,q⟩:=(show K3 P w H h a (.ins C dx fs) from hok a _ e)
 exact⟨mA,⟨ob,n,ne⟩,r,q,z,d⟩
structure Cls(K:AE)(C:AB):Prop where
 pg:W.plainGet K C Str.empty=true
 hd:W.hasDictIn K C=true
 po:W.plainOver K C=true
 sa:W.findIn K (.ref C) "__setattr__"=some (some (.builtin "object.__setattr__"))
def Cls.get{K:AE}{C:AB}(c:Cls K C)(f:Str):W.plainGet K C f=true:=c.pg
def a03(K:AE)(C:AB)(f:Str):Prop:=W.findIn K (.ref C) f=some none
def a03.taker{K:AE}{C:AB}{f:Str}(n:a03 K C f):W.takerIn K C f=some none:=by
 unfold W.takerIn
 rw [show W.findIn K (.ref C) f=some none from n]
 rfl
structure c3P(K:AE)(C:AB)(m:Str)(f:AB):Prop where
 at_:W.findIn K (.ref C) m=some (some (.ref f))
 fn:W.isFn K (.ref f)=true
 kp:W.keepIn K (.ref f)=true
def b4O(I:Inv X pins σ H s)(e:H a=some (.ins C dx fs))(c:Cls X.K C)(n:a03 X.K C f)(l:fs.lookup f=some v)
 (h:∀u s',Inv X pins σ H s'->A8 v u->Q u s'):AF (model X.prog X.w) A (getAttr (.ref a) f b) Q E s:=by
 obtain⟨mA,O,r,_,_,_⟩:=a8r I.hok e
 obtain⟨u,hu,ru⟩:=a6u.some_of (v:=v) (o:=mA f) (by rw [<-l];exact r f)
 exact c0o I.kIn O (c.get f) c.hd n hu (b6L ru) (h u _ (I.tok _) ru)
def b4P(I:Inv X pins σ H s)(e:H a=some (.ins C dx fs))(c:Cls X.K C)(k:c3P X.K C m g)(l:fs.lookup m=none)
 (h:Q (.ref g,[.ref a]) s):AF (model X.prog X.w) A (getMethod (.ref a) m pl) Q E s:=by
 obtain⟨mA,O,r,_,_,_⟩:=a8r I.hok e
 have hn:mA m=none:=a6u.none_of (by rw [<-l];exact r m)
 exact b8d I.kIn O (c.get m) k.at_ k.fn hn h
def b5u(I:Inv X pins σ H s)(e:H a=some (.ins C dx fs))(c:Cls X.K C)(n:a03 X.K C f)(hl:fs.length<1000)(ry:A8 y u)
 (h:∀s',Inv X pins σ (K7 H a (.ins C dx (a4K f y fs))) s'->Q () s'):AF (model X.prog X.w) A (setAttr (.ref a) f u) Q E s:=by
 obtain⟨mA,O,r,wi,_,ho⟩:=a8r I.hok e
 have hz:(fs.map (·.1)).length<=AL:=by rw [Ak,sizeLine_eq];lia
 refine c1p I.kIn O c.sa c.po n.taker c.hd wi hz fun h' O' sb=>h _ ?_
 have hd:∃o,h'.get? dx=some o:=let ⟨o,_,_,e',_⟩:=O'.ns;⟨o,e'⟩
 refine I.write (x:=a) (e:=dx) (by rw [e];exact True.intro) (.inr ho) (fun b q hb z=>(sb.2 b hb).trans z) hd ?_
 refine⟨by rw [w4 O.ne];exact ho, ?_,O.ne,O'.obj,_,O'.ns,fun g=> ?_,fun g hg=> ?_⟩
 ·have:=a7U f y fs;lia
 ·show a6u ((a4K f y fs).lookup g) (if g=f then some u else mA g)
  rw [a7W]
  by_cases q:g=f
  ·rw [if_pos q,if_pos q];exact ry
  ·rw [if_neg q,if_neg q];exact r g
 ·by_cases q:g=f
  ·rw [q];exact(a7o f y fs).1
  ·refine(a7o f y fs).2 g (wi g fun z=>hg ?_)
   show(if g=f then some u else mA g)=none
   rw [if_neg q];exact z
def Inv.made(I:Inv X pins σ H s):Inv X pins σ (K7 (K7 H s.heap.objs.size (.own (s.heap.objs.size+1))) (s.heap.objs.size+1) (.ins C s.heap.objs.size []))
 {s with heap:=(s.heap.push W.emptyDict).push (W.instObj C s.heap.objs.size)}:=by
 have e1:(s.heap.push W.emptyDict).get? s.heap.objs.size=some W.emptyDict:=An s.heap rfl
 have e2:((s.heap.push W.emptyDict).push (W.instObj C s.heap.objs.size)).get? (s.heap.objs.size+1)=some (W.instObj C s.heap.objs.size):=by
  have:=An (s.heap.push W.emptyDict) (o:=W.instObj C s.heap.objs.size) rfl
  rwa [Heap.size_push] at this
 have e3:(s.heap.push W.emptyDict).Ns s.heap.objs.size (fun _=>none):=⟨W.emptyDict, #[],_,e1,rfl,(fun e he=>absurd he (by simp)),fun _=>rfl⟩
 have I1:=I.laid (a:=s.heap.objs.size) (o:= .own (s.heap.objs.size+1)) (h':=s.heap.push W.emptyDict) (t':=s.toks) (fun b u q=>AT _ q) (AR _) ⟨_,e1⟩
 refine I1.laid (a:=s.heap.objs.size+1) (o:= .ins C s.heap.objs.size []) (t':=s.toks) (fun b u q=>AT _ q) (Nat.le_of_eq (Heap.size_push _ _)) ?_
 have ne:s.heap.objs.size≠s.heap.objs.size+1:=Am (Nat.lt_succ_self _)
 refine⟨by rw [w4 ne,z9],Nat.zero_le _,ne,e2,fun _=>none,(Heap.Ns1.of_empty e3).at fun o q=>AT _ q,fun _=>True.intro,fun y hy=>absurd rfl hy⟩
def b9W(hb:attributeBase e f env (eval e env)=eval e env)
 (h:AF (model prog w) A (eval e env) (fun o s₁=>AF (model prog w) A (getAttr o f true) Q E s₁) E s):AF (model prog w) A (eval (.Attribute e f pos) env) Q E s:=
 Attribute_any_ h (by rw [arm_eval_Attribute,hb])
def c5c(K:AE)(ta:TE)(f:Str):TE:=fun σ H Q=>ta σ H fun x H1=>∃a C dx fs v,x= .ref a/\H1 a=some (.ins C dx fs)/\Cls K C/\a03 K C f/\fs.lookup f=some v/\Q v H1
def c4A(K:AE)(ta tv:TE)(f:Str):TS:=fun D σ H=>tv σ H fun y H1=>ta σ H1 fun x H2=>∃a C dx fs,x= .ref a/\H2 a=some (.ins C dx fs)/\Cls K C/\a03 K C f/\fs.length<1000/\
 D.nx σ (K7 H2 a (.ins C dx (a4K f y fs)))
def c3c(he:PE X e ta)(hb:attributeBase e f X.env (eval e X.env)=eval e X.env):PE X (.Attribute e f pos) (c5c X.K ta f):=by
 intro pins s σ H Q I h
 refine b9W hb (Q3 (he pins s σ H _ I h) fun u s1 ⟨x,H1,I1,rx,a,C,dx,fs,v,ex,ea,c,n,l,q⟩=> ?_)
 subst ex
 obtain rfl:u=Value.ref a:=rx
 exact b4O I1 ea c n l fun u' s2 I2 ru=>⟨v,H1,I2,ru,q⟩
def a0k(ha:PE X o ta)(hv:PE X value tv)(hs:swapsWith value (some (.Attribute o f pos')) pos.line X.env=pure false):PS X (.Assign [.Attribute o f pos'] value pos) (c4A X.K ta tv f):=by
 intro pins s σ H D I h
 refine plainObj_wpAny_Assign_Attribute (Q3 (hv pins s σ H _ I h) fun u s1 ⟨y,H1,I1,ry,q⟩=>Q3 (ha pins s1 σ H1 _ I1 q) fun ov s2 ⟨x,H2,I2,rx,a,C,dx,fs,ex,ea,c,n,l,q2⟩=> ?_) hs
 subst ex
 obtain rfl:ov=Value.ref a:=rx
 exact b5u I2 ea c n l ry fun s3 I3=>⟨σ,_,I3,q2⟩
inductive a8b (K:AE) (H:Hp):V->AA->Prop where
 |non:a8b K H .non (.type "NoneType")
 |bl (x:Bool):a8b K H (.bl x) (.type "bool")
 |int (i:Int):a8b K H (.int i) (.type "int")
 |str (x:Str):a8b K H (.str x) (.type "str")
 |flt (x:UInt64):a8b K H (.flt x) (.type "float")
 |lst {a:AB} {xs:List V} (e:H a=some (.lst xs)):a8b K H (.ref a) (.type "list")
 |frz {a:AB} {o:Obj} {xs:List V} (e:H a=some (.frz o (.lst xs))):a8b K H (.ref a) (.type "list")
 |tup {a:AB} {xs:List V} (e:H a=some (.tup xs)):a8b K H (.ref a) (.type "tuple")
 |dK {a:AB} {kvs:List (Key×V)} (e:H a=some (.dK kvs)):a8b K H (.ref a) (.type "dict")
 |dT {a:AB} {kvs:List (List Key×V)} (e:H a=some (.dT kvs)):a8b K H (.ref a) (.type "dict")
 |ins {a C dx:AB} {fs:List (Str×V)} (e:H a=some (.ins C dx fs)) (cl:Cls K C) (ha:W.findIn K (.ref C) "__class__"=some (some (.builtin "object.__class__")))
  (hn:W.specialIn K (.builtin "object.__class__") "__get__"=some (some (.builtin "getset_descriptor.__get__"))) (htk:W.takesIn K (.builtin "object.__class__")=some true)
  (hm:W.mroIn K C (.type "object")=some true):a8b K H (.ref a) (.ref C)
def b6Q(I:Inv X pins σ H s)(rx:A8 x u)(ty:a8b X.K H x t)(e:W.kitOne X.K t c=some b)(h:∀tk,Q (.bool b) {s with toks:=tk}):
 AF (model X.prog X.w) A (call (.builtin "isinstance") [u,c]) Q E s:=by
 cases ty with
 |non=>cases(show u=Value.none from rx);exact W.kia_one W.kitx_none I.kIn True.intro e (fun z=>nomatch z) h
 |bl y=>cases(show u=Value.bool y from rx);exact W.kia_one W.kitx_bool I.kIn True.intro e (fun z=>nomatch z) h
 |int i=>obtain⟨t,q⟩:=(show ∃t,u=Value.int i t from rx);cases q;exact W.kia_one W.kitx_int I.kIn True.intro e (fun z=>nomatch z) h
 |str y=>obtain⟨t,q⟩:=(show ∃t,u=Value.str y t from rx);cases q;exact W.kia_one W.kitx_str I.kIn True.intro e (fun z=>nomatch z) h
 |flt y=>obtain⟨t,q⟩:=(show ∃t,u=Value.float y t from rx);cases q;exact W.kia_one W.kitx_float I.kIn True.intro e (fun z=>nomatch z) h
 | @lst a xs ea=>
   cases(show u=Value.ref a from rx)
   obtain⟨_,_,n,_,h1⟩:=(show K3 X.prog X.w H s.heap a (.lst xs) from I.hok a _ ea)
   exact W.kia_one W.kitx_list I.kIn ⟨_,h1,rfl⟩ e (fun z=>nomatch z) h
 | @frz a ob xs ea=>
   cases(show u=Value.ref a from rx)
   obtain⟨_,_,_,n,_,h1⟩:=(show K3 X.prog X.w H s.heap a (.frz ob (.lst xs)) from I.hok a _ ea)
   exact W.kia_one W.kitx_list I.kIn ⟨_,h1,rfl⟩ e (fun z=>nomatch z) h
 | @tup a xs ea=>
   cases(show u=Value.ref a from rx)
   obtain⟨_,_,_,p⟩:=(show K3 X.prog X.w H s.heap a (.tup xs) from I.hok a _ ea)
   obtain⟨o,h1,h2,_⟩:=p
   exact W.kia_one W.kitx_tuple I.kIn ⟨o,h1,h2⟩ e (fun z=>nomatch z) h
 | @dK a kvs ea=>
   cases(show u=Value.ref a from rx)
   obtain⟨_,_,vs,_,p⟩:=(show K3 X.prog X.w H s.heap a (.dK kvs) from I.hok a _ ea)
   obtain⟨o,es,ep,h1,h2,_⟩:=p
   exact W.kia_one W.kitx_dict I.kIn ⟨o,h1,h2.1⟩ e (fun z=>nomatch z) h
 | @dT a kvs ea=>
   cases(show u=Value.ref a from rx)
   obtain⟨_,_,xs,_,o,es,ep,h1,h2,_⟩:=(show K3 X.prog X.w H s.heap a (.dT kvs) from I.hok a _ ea)
   exact W.kia_one W.kitx_dict I.kIn ⟨o,h1,h2.1⟩ e (fun z=>nomatch z) h
 | @ins a C dx fs ea cl ha hn htk hm=>
   cases(show u=Value.ref a from rx)
   obtain⟨mA,O,_⟩:=a8r I.hok ea
   obtain⟨od,J,_⟩:=O.look
   exact W.kia_one (W.kitx_own (cl.get _) cl.hd ha hn htk hm) I.kIn J e (fun z=>nomatch z) h
structure O9(k:Nat)(A:Al):Prop where
 hd:A.handled=none
 dp:A.depth+3*k+5<recursionLimit
 un:A.units+16*k+200<cLine
def O9.mono(r:O9 k A)(h:j<=k):O9 j A:=⟨r.hd,by have:=r.dp;lia,by have:=r.un;lia⟩
def O9.deeper(r:O9 (k+1) A)(env:Env):O9 k (A.deeper env):=
 ⟨r.hd,by have:=r.dp;show A.depth+1+3*k+5<_;lia,by have:=r.un;show A.units+3+16*k+200<_;lia⟩
def b45{A:Al}{C:AB}{us:List AA}{kw:List (Str×AA)}:(A.under (.builtin "type.__call__" ⟨.ref C::us,kw⟩)).depth=A.depth+1:=by
 first|rfl|simp [Around.under,Code.weight,Code.isCreation,Code.isGuard,Code.isCaller,Code.frames,Code.isFrame,guardIds]
def b46{A:Al}{C:AB}{us:List AA}{kw:List (Str×AA)}:(A.under (.builtin "type.__call__" ⟨.ref C::us,kw⟩)).units=A.units+1:=by
 first|rfl|simp [Around.under,Code.cUnits,Code.frames,Code.isFrame]
def O9.make(r:O9 (k+1) A)(C:AB)(us:List AA)(kw:List (Str×AA)):O9 k (A.under (.builtin "type.__call__" ⟨.ref C::us,kw⟩)):=
 ⟨r.hd,by have:=r.dp;rw [b45];lia,by have:=r.un;rw [b46];lia⟩
def O9.depth(r:O9 k A):A.depth<recursionLimit:=by have:=r.dp;lia
def O9.units(r:O9 k A):A.units+64<cLine:=by have:=r.un;lia
def b9H:TA:=fun _ H Q=>Q [] H
def b39(ta:TE)(tr:TA):TA:=fun σ H Q=>ta σ H fun x H1=>tr σ H1 fun xs H2=>Q (x::xs) H2
def W3:PA X [] b9H:=fun _ _ _ _ H Q I h=>Calls.spliced_nil ⟨[],H,I,.nil,h⟩
def G1(ha:PE X e te)(hr:PA X es t)(hs:AJ (e::es) X.env=(false,eval e X.env)::AJ es X.env:=by rfl):PA X (e::es) (b39 te t):=by
 intro pos pins s σ H Q I h
 rw [hs]
 show AF _ _ (spliced ((false,eval e X.env)::backTo pos (AJ es X.env))) _ _ s
 refine Calls.spliced_cons (Q3 (ha pins s σ H _ I h) fun u s1 ⟨x,H1,I1,r1,q1⟩=> ?_)
 exact Q3 (hr pos pins s1 σ H1 _ I1 q1) fun us s2 ⟨xs,H2,I2,r2,q2⟩=>⟨x::xs,H2,I2,.cons r1 r2,q2⟩
def c5i(t:TA):TE:=fun σ H Q=>t σ H fun xs H1=>xs.length<=AL/\∀p,H1 p=none->Q (.ref p) (K7 H1 p (.tup xs))
def c5f(t:TA):TE:=fun σ H Q=>t σ H fun xs H1=>xs.length<=AL/\∀p,H1 p=none->Q (.ref p) (K7 H1 p (.lst xs))
def c3i{x1}(h:PA X es t):PE X (.Tuple es x1 pos) (c5i t):=by
 intro pins s σ H Q I hq
 refine wpAny_Tuple_spliced (Q3 (h pos pins s σ H _ I hq) fun us s1 ⟨xs,H1,I1,r,z,q⟩=>⟨by rw [<-r.length];exact z, ?_⟩)
 have hf:H1 s1.heap.objs.size=none:=I1.hok.fresh (AR _)
 refine⟨.ref s1.heap.objs.size,K7 H1 s1.heap.objs.size (.tup xs),I1.laid (t':=s1.toks) (fun b u e=>AT _ e) (AR _) ?_,rfl,q _ hf⟩
 exact⟨z,us,r,⟨_,An _ rfl,rfl,_,rfl⟩⟩
def c3d(h:PA X es t):PE X (.List es pos) (c5f t):=by
 intro pins s σ H Q I hq
 refine wpAny_List_spliced (Q3 (h pos pins s σ H _ I hq) fun us s1 ⟨xs,H1,I1,r,z,q⟩=>⟨by rw [<-r.length];exact z, ?_⟩)
 have hf:H1 s1.heap.objs.size=none:=I1.hok.fresh (AR _)
 refine⟨.ref s1.heap.objs.size,K7 H1 s1.heap.objs.size (.lst xs),I1.laid (t':=s1.toks) (fun b u e=>AT _ e) (AR _) ?_,rfl,q _ hf⟩
 exact⟨z,us,0,r,An _ rfl⟩
abbrev Sp:=List V->Hp->VK->XK->Prop
abbrev CXT:=List Env->Hp->AG->XK->AA->AG->Prop
structure b4m(P:Ac)(w:AU)(K:AE)(mg:Str->Option AA)(base:Heap)(A:Al)(outer:List Env)(s:AG)(H:Hp):Prop where
 frames:A.frames=some outer
 mod:Mod K mg base
 bs:∀b o,base.get? b=some o->s.heap.get? b=some o/\H b=none
 bsz:base.objs.size<=s.heap.objs.size
 funs:s.heap.FunFrames base outer
 frf:∀b∈frs outer,H b=none
 hok:HOk P w H s.heap
 bare:AllBare s.gens
def CE(outer:List Env)(P:Ac)(w:AU)(H:Hp)(s:AG)(Q:VK)(u:AA)(s':AG):Prop:=
 ∃v H',s'.os=s.os/\AllBare s'.gens/\Un (frs outer) [] H H' s.heap s'.heap/\HOk P w H' s'.heap/\A8 v u/\Q v H'
def CR(CX:CXT)(outer:List Env)(P:Ac)(w:AU)(H:Hp)(s:AG)(Q:VK)(E:XK)(r:Result)(s':AG):Prop:=
 match r with
 | .ok (.ret u)=>CE outer P w H s Q u s'
 | .ok _=>False
 | .error e=>CX outer H s E e s'
structure U0(P:Ac)(w:AU)(K:AE)(mg:Str->Option AA)(base:Heap)(CX:CXT)(k:Nat)(f:AB)(fd:FuncData)(ps:List Str)(sp:Sp):Prop where
 len:∀vs H Q E,sp vs H Q E->vs.length=ps.length
 run:∀(A:Al) (outer:List Env) (s:AG) (H:Hp) (args:Args) (us:List AA) (vs:List V) (Q:VK) (E:XK),O9 k A->b4m P w K mg base A outer s H->BindsTo s fd args (ps.zip us)->y9 vs us->sp vs H Q E->
  codeAny (model P w) A (.call (.ref f) args) (CR CX outer P w H s Q E) s
def U0.mono{P:Ac}{w:AU}{K:AE}{mg:Str->Option AA}{base:Heap}{CX:CXT}{j k:Nat}{f:AB}{fd:FuncData}{ps:List Str}{sp:Sp}(F:U0 P w K mg base CX j f fd ps sp)(h:j<=k):
 U0 P w K mg base CX k f fd ps sp:=⟨F.len,fun A outer s H args us vs Q E hr=>F.run A outer s H args us vs Q E (hr.mono h)⟩
def U0.imp{P:Ac}{w:AU}{K:AE}{mg:Str->Option AA}{base:Heap}{CX:CXT}{k:Nat}{f:AB}{fd:FuncData}{ps:List Str}{sp sp':Sp}(F:U0 P w K mg base CX k f fd ps sp)
 (h:∀vs H Q E,sp' vs H Q E->sp vs H Q E):U0 P w K mg base CX k f fd ps sp':=
 ⟨fun vs H Q E q=>F.len vs H Q E (h _ _ _ _ q),fun A outer s H args us vs Q E hr he hb hv hs=>F.run A outer s H args us vs Q E hr he hb hv (h _ _ _ _ hs)⟩
def b4m.make{P:Ac}{w:AU}{K:AE}{mg:Str->Option AA}{base:Heap}{A:Al}{outer:List Env}{s:AG}{H:Hp}(e:b4m P w K mg base A outer s H)(C:AB)(us:List AA)(kw:List (Str×AA)):
 b4m P w K mg base (A.under (.builtin "type.__call__" ⟨.ref C::us,kw⟩)) outer s H:=⟨by first|exact e.frames|(simpa [Around.under,Code.envs,Code.isFrame,pushEnvs] using e.frames),e.mod,e.bs,e.bsz,e.funs,e.frf,e.hok,e.bare⟩
def Inv.env0(I:Inv X pins σ H s):b4m X.prog X.w X.K X.mg X.base X.A X.stack s H:=
 ⟨I.ok.frames,I.ok.mod,I.bs,Nat.le_trans I.ok.bsz I.sz,I.stack,I.stkFree,I.hok,I.bare⟩
def Inv.after(I:Inv X pins σ H s)(h:CE X.stack X.prog X.w H s Q u s'):EP X pins σ Q u s':=by
 obtain⟨v,H',os,bare,un,hok,r,q⟩:=h
 obtain⟨hh,g,d,t,os'⟩:=s'
 obtain rfl:os'=s.os:=os
 exact⟨v,H',I.call (h':=hh) (g':=g) (d':=d) (t':=t) (ch:=[]) un hok bare (fun b z=>absurd z (by simp)),r,q⟩
def c1U(sp:Sp)(dvs:List V)(E:XK)(t:TA):TE:=fun σ H Q=>t σ H fun vs H1=>sp (vs++dvs) H1 Q E
def c4G(C:AB)(sp:Sp)(dvs:List V)(E:XK)(t:TA):TE:=fun σ H Q=>t σ H fun vs H1=>∀x dx,H1 x=none->H1 dx=none->dx≠x->
 sp (.ref x::(vs++dvs)) (K7 (K7 H1 dx (.own x)) x (.ins C dx [])) (fun v H2=>v= .non/\Q (.ref x) H2) E
def a0K(K:AE)(fd:FuncData)(ps:List Str)(ds:List AA):Prop:=
 ∀(s:AG) (us:List AA),K.In s.heap->(us++ds).length=ps.length->BindsTo s fd ⟨us,[]⟩ (ps.zip (us++ds))
def a0K.all{K:AE}{fd:FuncData}{ps:List Str}(h:∀us:List AA,us.length=ps.length->bindArgs fd ⟨us,[]⟩=pure (ps.zip us)):a0K K fd ps []:=fun s us _ hl=>by
 rw [Aj] at hl ⊢
 exact .of_eq (h us hl)
def a5W(CX:CXT)(X:Cx)(E:XK):Prop:=∀(pins:List (AB×Obj)) (σ:St) (H:Hp) (s:AG) (e:AA) (s':AG),Inv X pins σ H s->CX X.stack H s E e s'->X.xe e s'
def b5q(F:U0 X.prog X.w X.K X.mg X.base CX k f fd ps sp)(hr:O9 k X.A)(hb:a0K X.K fd ps ds)(hd:y9 dvs ds)(hx:a5W CX X E)
 (I:Inv X pins σ H s) (r:y9 vs us) (h:sp (vs++dvs) H Q E):AF (model X.prog X.w) X.A (call (.ref f) us) (EP X pins σ Q) X.xe s:=by
 have r2:y9 (vs++dvs) (us++ds):=r.append hd
 have hl:(us++ds).length=ps.length:=by rw [<-r2.length];exact F.len _ _ _ _ h
 refine wpAny_call (codeAny_mono (F.run X.A X.stack s H ⟨us,[]⟩ (us++ds) (vs++dvs) Q E hr I.env0 (hb s us I.kIn hl) r2 h) fun r s' hq=> ?_)
 cases r with
 |error e=>exact hx pins σ H s e s' I hq
 |ok fl=>
  cases fl with
  |ret u=>exact I.after hq
  |next=>exact False.elim hq
  |brk=>exact False.elim hq
  |cont=>exact False.elim hq
def c05(F:U0 X.prog X.w X.K X.mg X.base CX k f fd ps sp)(hr:O9 k X.A)(hg:Gl X x)(hm:X.mg x=some (.ref f))(hk:W.keepIn X.K (.ref f)=true)(hb:a0K X.K fd ps ds)(hd:y9 dvs ds)(hx:a5W CX X E)
 (ha:PA X (e::es) t) (hdb:(x==("__debug__":Str))=false:=by decide) (he:AJ (e::es) X.env=(false,eval e X.env)::AJ es X.env:=by rfl) (hpl:(backTo pos (AJ es X.env)).any (·.1)=false:=by rfl):
 PE X (.Call (.Name x p) (e::es) [] pos) (c1U sp dvs E t):=by
 intro pins s σ H Q I h
 refine wpAny_Call_Name_kw (a3s I hg hm ?_ hdb)
 refine W.callWith_K (h₀:=X.base) I.ok.mod.kin hk (Q3 (ha pos pins s σ H _ I h) fun us s1 ⟨vs,H1,I1,r,q⟩=>⟨I1.kIn, ?_⟩) he hpl
 exact b5q F hr hb hd hx I1 r q
def b80(F:U0 X.prog X.w X.K X.mg X.base CX k f fd ps sp)(hr:O9 k X.A)(hg:Gl X x)(hm:X.mg x=some (.ref f))(hk:W.keepIn X.K (.ref f)=true)(hb:a0K X.K fd ps ds)(hd:y9 dvs ds)(hx:a5W CX X E)
 (hdb:(x==("__debug__":Str))=false:=by decide):PE X (.Call (.Name x p) [] [] pos) (c1U sp dvs E b9H):=by
 intro pins s σ H Q I h
 refine wpAny_Call_Name_kw (a3s I hg hm ?_ hdb)
 exact W.callWith_K0 I.kIn hk (b5q (us:=[]) F hr hb hd hx I .nil h)
structure Mk(K:AE)(C f:AB):Prop where
 makes:W.makesIn K C=true
 init:W.findIn K (.ref C) "__init__"=some (some (.ref f))
 fn:W.isFn K (.ref f)=true
 kp:W.keepIn K (.ref C)=true
def b9v(M:Mk X.K C f)(F:U0 X.prog X.w X.K X.mg X.base CX k f fd ps sp)(hr:O9 (k+1) X.A)(hb:a0K X.K fd ps ds)(hd:y9 dvs ds)
 (hx:a5W CX X E) (I:Inv X pins σ H s) (r:y9 vs us)
 (h:∀x dx,H x=none->H dx=none->dx≠x->sp (.ref x::(vs++dvs)) (K7 (K7 H dx (.own x)) x (.ins C dx [])) (fun v H2=>v= .non/\Q (.ref x) H2) E):
 AF (model X.prog X.w) X.A (call (.ref C) us) (EP X pins σ Q) X.xe s:=by
 have hq:=h (s.heap.objs.size+1) s.heap.objs.size (I.hok.fresh (Nat.le_succ _)) (I.hok.fresh (AR _)) (Am (Nat.lt_succ_self _))
 have I2:=Inv.made (C:=C) I
 have r2:y9 (V.ref (s.heap.objs.size+1)::(vs++dvs)) (Value.ref (s.heap.objs.size+1)::(us++ds)):= .cons rfl (r.append hd)
 have hl:(Value.ref (s.heap.objs.size+1)::us++ds).length=ps.length:=by
  have e:=r2.length
  rw [F.len _ _ _ _ hq] at e
  exact e.symm
 refine wpAny_call (b8B (f:=f) I.kIn M.makes M.init (beq_iff_eq.mp M.fn) (codeAny_mono (F.run _ X.stack _ _ ⟨Value.ref (s.heap.objs.size+1)::us,[]⟩ (Value.ref (s.heap.objs.size+1)::(us++ds)) _ _ E (hr.make C us [])
  (I2.env0.make C us []) (hb _ (Value.ref (s.heap.objs.size+1)::us) I2.kIn hl) r2 hq) fun r s' hq'=> ?_))
 cases r with
 |error e=>exact hx pins σ _ _ e s' I2 hq'
 |ok fl=>
  cases fl with
  |ret u=>
   obtain⟨v,H',I3,rv,ev,q3⟩:=I2.after hq'
   subst ev
   exact⟨rv,⟨V.ref (s.heap.objs.size+1),H',I3,rfl,q3⟩⟩
  |next=>exact False.elim hq'
  |brk=>exact False.elim hq'
  |cont=>exact False.elim hq'
def c08(M:Mk X.K C f)(F:U0 X.prog X.w X.K X.mg X.base CX k f fd ps sp)(hr:O9 (k+1) X.A)(hg:Gl X x)(hm:X.mg x=some (.ref C))(hb:a0K X.K fd ps ds)(hd:y9 dvs ds)(hx:a5W CX X E)
 (ha:PA X (e::es) t) (hdb:(x==("__debug__":Str))=false:=by decide) (he:AJ (e::es) X.env=(false,eval e X.env)::AJ es X.env:=by rfl) (hpl:(backTo pos (AJ es X.env)).any (·.1)=false:=by rfl):
 PE X (.Call (.Name x p) (e::es) [] pos) (c4G C sp dvs E t):=by
 intro pins s σ H Q I h
 refine wpAny_Call_Name_kw (a3s I hg hm ?_ hdb)
 refine W.callWith_K (h₀:=X.base) I.ok.mod.kin M.kp (Q3 (ha pos pins s σ H _ I h) fun us s1 ⟨vs,H1,I1,r,q⟩=>⟨I1.kIn, ?_⟩) he hpl
 exact b9v M F hr hb hd hx I1 r q
def PK(X:Cx)(kws:List Keyword)(t:TA):Prop:=
 ∀(pos:Pos) (pins:List (AB×Obj)) (s:AG) (σ:St) (H:Hp) (Q:List V->Hp->Prop),Inv X pins σ H s->t σ H Q->AF (model X.prog X.w) X.A (evalAll ((backToKw pos (keywordEach kws X.env)).map (·.2))) (AP X pins σ Q) X.xe s
def c3m:PK X [] b9H:=fun _ _ _ _ H Q I h=>wpAny_evalAll_nil ⟨[],H,I,.nil,h⟩
def c1a(ha:PE X e te)(hr:PK X kws t):PK X (⟨nm,e,kpos⟩::kws) (b39 te t):=by
 intro pos pins s σ H Q I h
 show AF _ _ (evalAll ((do let v<-eval e X.env;standAt pos;pure v)::(backToKw pos (keywordEach kws X.env)).map (·.2))) _ _ s
 refine wpAny_evalAll_cons (AD (Q3 (ha pins s σ H _ I h) fun u s1 ⟨x,H1,I1,r1,q1⟩=>AD (wpAny_standAt (AI ?_))))
 exact Q3 (hr pos pins s1 σ H1 _ I1 q1) fun us s2 ⟨xs,H2,I2,r2,q2⟩=>⟨x::xs,H2,I2,.cons r1 r2,q2⟩
structure j0(N P:List Str)(sc:Scope):Prop where
 kind:sc.kind= .function
 co:sc.isCoroutine=false
 gen:sc.isGenerator=false
 nd:N.Nodup
 pre:N.take P.length=P
 par:∀x∈P,sc.names.lookup x=some .local\/sc.names.lookup x=some .cell
 nofree:∀y∈sc.names,y.2≠.free
theorem b0K{kindOf:Str->Option NameKind}{x:Str}:∀{binds:List (Str×AA)} {m:Str->Option AA},(∀v,(x,v)∉binds)->bindL kindOf binds m x=m x
 |[],_,_=>rfl
 |(n,v)::r,m,h=>by
  unfold bindL
  rw [b0K fun w hw=>h w (Ah _ hw)]
  split
  ·have:x≠n:=by rintro rfl;exact h v Ab
   simp [this]
  ·rfl
theorem b0I{kindOf:Str->Option NameKind}{x:Str}:∀{binds:List (Str×AA)} {m:Str->Option AA},(∀v,(x,v)∉binds)->bindC kindOf binds m x=m x
 |[],_,_=>rfl
 |(n,v)::r,m,h=>by
  unfold bindC
  rw [b0I fun w hw=>h w (Ah _ hw)]
  split
  ·rfl
  ·have:x≠n:=by rintro rfl;exact h v Ab
   simp [this]
theorem b0J{kindOf:Str->Option NameKind}{x:Str}{v:AA}:∀{P:List Str} {vs:List AA} {i:Nat} {m:Str->Option AA},P.Nodup->P[i]?=some x->vs[i]?=some v->kindOf x=some .local->
 bindL kindOf (P.zip vs) m x=some v
 |[],_,_,_,_,h,_,_=>by simp at h
 |_::_,[],_,_,_,_,h,_=>by simp at h
 |p::P,w::vs,0,m,nd,h1,h2,hk=>by
  simp at h1 h2;subst h1;subst h2
  show bindL kindOf ((p,w)::P.zip vs) m p=_
  unfold bindL
  rw [b0K fun v hv=>(List.nodup_cons.mp nd).1 (List.of_mem_zip hv).1,if_pos hk]
  simp
 |p::P,w::vs,i+1,m,nd,h1,h2,hk=>by
  show bindL kindOf ((p,w)::P.zip vs) m x=_
  unfold bindL
  exact b0J (i:=i) (List.nodup_cons.mp nd).2 (by simpa using h1) (by simpa using h2) hk
theorem b0H{kindOf:Str->Option NameKind}{x:Str}{v:AA}:∀{P:List Str} {vs:List AA} {i:Nat} {m:Str->Option AA},P.Nodup->P[i]?=some x->vs[i]?=some v->kindOf x≠some .local->
 bindC kindOf (P.zip vs) m x=some v
 |[],_,_,_,_,h,_,_=>by simp at h
 |_::_,[],_,_,_,_,h,_=>by simp at h
 |p::P,w::vs,0,m,nd,h1,h2,hk=>by
  simp at h1 h2;subst h1;subst h2
  show bindC kindOf ((p,w)::P.zip vs) m p=_
  unfold bindC
  rw [b0I fun v hv=>(List.nodup_cons.mp nd).1 (List.of_mem_zip hv).1,if_neg hk]
  simp
 |p::P,w::vs,i+1,m,nd,h1,h2,hk=>by
  show bindC kindOf ((p,w)::P.zip vs) m x=_
  unfold bindC
  exact b0H (i:=i) (List.nodup_cons.mp nd).2 (by simpa using h1) (by simpa using h2) hk
def a3Y(N:List Str)(vs:List V):St:=vs.map some++AV (N.length - vs.length) none
def a30(CX:CXT)(P:Ac)(w:AU)(K:AE)(mg:Str->Option AA)(base:Heap)(N:List Str)(qual:Str)(scope:Scope)(f:AB)(cd:AA)(A:Al)(outer:List Env)(s:AG)(H:Hp)(E:XK):Cx where
 prog:=P
 w:=w
 K:=K
 mg:=mg
 base:=base
 A:=A.deeper (envOfC qual scope s.heap.objs.size f cd)
 N:=N
 s₀:=s
 H₀:=H
 env:=envOfC qual scope s.heap.objs.size f cd
 outer:=outer
 stack:=envOfC qual scope s.heap.objs.size f cd::outer
 ex:=[]
 calm:=true
 fn:=fun _=>true
 pn:=[]
 xe:=fun e s'=>AF (model P w) (A.deeper (envOfC qual scope s.heap.objs.size f cd)) (leaving (envOfC qual scope s.heap.objs.size f cd) e) (fun _ s''=>CX outer H s E e s'') (fun e' s''=>CX outer H s E e' s'') s'
def b2Z{sc:Scope}{n:Nat}{x:Str}(h:sc.names.lookup x=some .cell):∃c,(cellsFrom n sc.names []).lookup x=some c:=by
 have q:=W.cellsFrom_some sc.names n [] (.inl h)
 exact Option.isSome_iff_exists.mp q
def b6O{CX:CXT}{P:Ac}{w:AU}{K:AE}{mg:Str->Option AA}{base:Heap}{N ps:List Str}{qual:Str}{scope:Scope}{f:AB}{cd:AA}{A:Al}{outer:List Env}{s s1:AG}{H:Hp}{E:XK}{us:List AA}{vs:List V}
 (S:j0 N ps scope) (hd:A.handled=none) (e0:b4m P w K mg base A outer s H) (hl:vs.length=ps.length) (r:y9 vs us)
 (x:InCallC s s.heap.objs.size (bindL (envOfC qual scope s.heap.objs.size f cd).kindOf (ps.zip us) fun _=>none) (cellsFrom (s.heap.objs.size+1) scope.names []) (bindC (envOfC qual scope s.heap.objs.size f cd).kindOf (ps.zip us) fun _=>none) s1):
 Inv (a30 CX P w K mg base N qual scope f cd A outer s H E) [] (a3Y N vs) H s1:=by
 have hpl:ps.length<=N.length:=by have:=congrArg List.length S.pre;rw [List.length_take] at this;lia
 obtain⟨h1,tk,rfl,hk⟩:=x.done
 have noA:∀b:AB,b∉(a30 CX P w K mg base N qual scope f cd A outer s H E).ex:=fun b z=>absurd (show b∈([]:List AB) from z) (by simp)
 refine⟨⟨e0.mod,S.kind,rfl,rfl,AR _,fun y z c h1 h2=> ?_,fun y hy=> ?_,fun y c _ h=> ?_,fun _=>hd,Around.frames_deeper e0.frames,.inr ⟨rfl,rfl⟩,fun b z=>absurd z (noA b),e0.bs,e0.bsz,fun b _ _=>noA b,fun b z=>absurd z (noA b),e0.funs,e0.frf⟩,
  rfl,e0.bare,Un.kept hk,⟨_,x.toInCall.ns,fun i y v h1 h2 h3=> ?_⟩,fun y c h=>⟨_,x.cell y c h⟩,e0.hok.fresh (AR _),fun y c h=> ?_,fun p hp=>absurd (show p∈([]:List (AB×Obj)) from hp) (by simp),e0.hok.kept hk, ?_⟩
 ·exact name_of_addr x.apart (PySem.mem_of_lookup h1) (PySem.mem_of_lookup h2)
 ·have hy:scope.names.lookup y=some .cell\/scope.names.lookup y=some .free:=hy
  rcases hy with hy|hy
  ·exact b2Z hy
  ·exact absurd rfl (S.nofree _ (PySem.mem_of_lookup hy))
 ·exact BD (x.above y c (PySem.mem_of_lookup h))
 ·have hi:i<vs.length:=by
   unfold a3Y at h2
   by_cases hi:i<vs.length
   ·exact hi
   ·rw [List.getElem?_append_right (by simpa using hi)] at h2
    rw [List.getElem?_replicate] at h2
    split at h2<;>cases h2
  have ha:vs[i]?=some v:=by
   unfold a3Y at h2
   rw [BB (by simpa using hi),As] at h2
   cases e:vs[i]? with
   |none=>rw [e] at h2;cases h2
   |some a=>rw [e] at h2;cases h2;rfl
  obtain⟨u,hu,rv⟩:=r.get ha
  have hp:ps[i]?=some y:=by
   rw [<-S.pre,List.getElem?_take_of_lt (by lia)];exact h1
  have ndP:ps.Nodup:=by rw [<-S.pre];exact S.nd.sublist (List.take_sublist _ _)
  refine⟨u,rv, ?_⟩
  rcases S.par y (BH hp) with k|k
  ·exact .inl ⟨k,b0J ndP hp hu k⟩
  ·obtain⟨c,e⟩:=b2Z (n:=s.heap.objs.size+1) k
   refine .inr ⟨.inl k,c,e, ?_⟩
   have q:=x.cell y c e
   rw [b0H ndP hp hu (by show scope.names.lookup y≠_;rw [k];decide)] at q
   exact q
 ·exact e0.hok.fresh (BD (x.above y c (PySem.mem_of_lookup h)))
 ·unfold a3Y
  show _=N.length
  rw [AQ,Ak,List.length_replicate]
  lia
def c1I{CX:CXT}{P:Ac}{w:AU}{K:AE}{mg:Str->Option AA}{base:Heap}{k:Nat}{f:AB}{name qual:Str}{params:Arguments}{body:List Stmt}{scope:Scope}{dV kV doc pm cdv ct oc:AA}{an od:Option AB}
 {osl:Array (Option AA)} {N ps:List Str} {sp:Sp} (lk:K.lookup f=some ⟨oc,od,.func (W.fnOf name qual params body scope dV kV doc pm an cdv ct),osl⟩) (hcd:W.codeIn K cdv qual=true) (S:j0 N ps scope)
 (len:∀vs H Q E,sp vs H Q E->vs.length=ps.length)
 (hbody:∀(A:Al) (outer:List Env) (s:AG) (H:Hp) (vs:List V) (Q:VK) (E:XK),O9 k (A.deeper (envOfC qual scope s.heap.objs.size f cdv))->sp vs H Q E->
  ∃t,PSs (a30 CX P w K mg base N qual scope f cdv A outer s H E) body t/\t {nx:=fun _ H'=>Q .non H',rt:=Q} (a3Y N vs) H):
 U0 P w K mg base CX (k+1) f (W.fnOf name qual params body scope dV kV doc pm an cdv ct) ps sp:=by
 refine⟨len,fun A outer s H args us vs Q E hr e0 hb r hsp=> ?_⟩
 have hl:=len _ _ _ _ hsp
 have KX:K.In s.heap:=e0.mod.kin.keeps fun b o e=>(e0.bs b o e).1
 have lim:s.heap.NoLimit:=e0.mod.nolimit.keeps fun b o e=>(e0.bs b o e).1
 have hkind:∀y∈ps.zip us,scope.names.lookup y.1=some .local\/(scope.names.lookup y.1=some .cell/\((cellsFrom (s.heap.objs.size+1) scope.names []).lookup y.1).isSome=true):=fun⟨n,v⟩ hy=>by
  rcases S.par n (List.of_mem_zip hy).1 with q|q
  ·exact .inl q
  ·exact .inr ⟨q,W.cellsFrom_some _ _ _ (.inl q)⟩
 refine codeAny_call_function hr.depth (KX _ _ lk) rfl S.co S.gen rfl (W.codeRec_of KX hcd) (hb _ _ _ _ ?_)
 refine wpAny_newFunctionEnv_cells S.kind hkind fun env he s1 x=> ?_
 subst he
 refine⟨lim.keeps x.toInCall.keep,codeAny_func ?_⟩
 obtain⟨t,ht,hq⟩:=hbody A outer s H vs Q E (hr.deeper _) hsp
 have I:Inv (a30 CX P w K mg base N qual scope f cdv A outer s H E) [] (a3Y N vs) H s1:=b6O S hr.hd e0 hl r x
 refine wpAny_mono (ht [] s1 (a3Y N vs) H _ I hq) (fun fl s' hs=> ?_) fun e s' hs=>hs
 have fin:∀{σ':St} {H':Hp} {v:V} {u:AA},Inv (a30 CX P w K mg base N qual scope f cdv A outer s H E) [] σ' H' s'->A8 v u->Q v H'->CE outer P w H s Q u s':=
  fun {σ' H' v u} J rv q=>⟨v,H',J.os,J.bare,J.base,J.hok,rv,q⟩
 cases fl with
 |ret u=>
  obtain⟨v,σ',H',J,rv,q⟩:=hs
  exact fin J rv q
 |next=>
  obtain⟨σ',H',J,q⟩:=hs
  exact fin (v:=V.non) (u:=Value.none) J rfl q
 |brk=>
  obtain⟨_,_,_,q⟩:=hs
  exact False.elim q
 |cont=>
  obtain⟨_,_,_,q⟩:=hs
  exact False.elim q
section
variable {X:Cx}{x:Str}{p pos:Pos}{e:AS}{es:List AS}{t:TA}{id T:String}{r:List V->Hp->VK->Prop}
def tCB(r:List V->Hp->VK->Prop)(t:TA):TE:=fun σ H Q=>t σ H fun vs H1=>r vs H1 Q
def a4I(hc:R0 X (.builtin id) r)(hg:Gl X x)(hm:X.mg x=none)(hv:bootBuiltins x=some (.builtin id))(ha:PA X (e::es) t)(hn:x≠"__name__":=by decide)(hdb:(x==("__debug__":Str))=false:=by decide)
 (he:AJ (e::es) X.env=(false,eval e X.env)::AJ es X.env:=by rfl) (hpl:(backTo pos (AJ es X.env)).any (·.1)=false:=by rfl):PE X (.Call (.Name x p) (e::es) [] pos) (tCB r t):=by
 intro pins s σ H Q I h
 refine wpAny_Call_Name_kw (a7q I hg hm hv ?_ hn hdb)
 exact PyProof.Rows.callWith_builtin1 (Q3 (ha pos pins s σ H _ I h) fun us s1 ⟨vs,H1,I1,r1,q1⟩=>hc pins s1 σ H1 vs us Q I1 r1 q1) he hpl
def b1k(hc:R0 X (.type T) r)(hg:Gl X x)(hm:X.mg x=none)(hv:bootBuiltins x=some (.type T))(ha:PA X (e::es) t)(hn:x≠"__name__":=by decide)(hdb:(x==("__debug__":Str))=false:=by decide)
 (he:AJ (e::es) X.env=(false,eval e X.env)::AJ es X.env:=by rfl) (hpl:(backTo pos (AJ es X.env)).any (·.1)=false:=by rfl):PE X (.Call (.Name x p) (e::es) [] pos) (tCB r t):=by
 intro pins s σ H Q I h
 refine wpAny_Call_Name_kw (a7q I hg hm hv ?_ hn hdb)
 exact PyProof.Rows.callWith_type1 (Q3 (ha pos pins s σ H _ I h) fun us s1 ⟨vs,H1,I1,r1,q1⟩=>hc pins s1 σ H1 vs us Q I1 r1 q1) he hpl
end
end L2
namespace HT
open PySem PyProof.Rows
section
open PySem.SeqAt
open PySem.AutoSeq1 (wpAny_loadPart')
open PySem.MeetsSeq PySem.MeetsSeq2 PySem.MeetsSeq3
end
def cat_tup(ht:IsTup s.heap t vs.toArray)(hb:IsTup s.heap b ws.toArray)(hv:vs≠[])
 (h1:ws=[]->Q (.ref t) s) (h2:ws≠[]->Q (.ref s.heap.objs.size) {s with heap:=s.heap.push {cls:= .type "tuple",data:= .seq (vs++ws).toArray}})
 (hsz:vs.length+ws.length<=AL):AF (model prog w) A (binaryOp .Add (.ref t) (.ref b)) Q E s:=by
 obtain⟨⟨cls,dd,data,sl⟩,ho,hc,n,hd⟩:=id ht
 obtain⟨⟨cls2,dd2,data2,sl2⟩,ho2,hc2,n2,hd2⟩:=id hb
 simp only at hc hd hc2 hd2
 subst hc hd hc2 hd2
 have e:vs.toArray++ws.toArray=(vs++ws).toArray:=by simp
 by_cases hw:ws=[]
 ·exact concat_meets ⟨_,ho,rfl⟩ ⟨_,ho2,rfl⟩ noFill_tuple_add seq_tuple_add PySem.F.slot_tuple_add PySem.F.entry_tuple_add (PySem.F.args_tuple_add_2 _ _)
   (tuple_addW1 t b vs.toArray ws.toArray n n2 dd dd2 sl sl2 (by simpa using hv) (by simp [hw])) ⟨ho,ho2,h1 hw⟩
 ·refine concat_meets ⟨_,ho,rfl⟩ ⟨_,ho2,rfl⟩ noFill_tuple_add seq_tuple_add PySem.F.slot_tuple_add PySem.F.entry_tuple_add (PySem.F.args_tuple_add_2 _ _)
   (tuple_addW2 t b vs.toArray ws.toArray n n2 dd dd2 sl sl2 (by simpa using hv) (by simpa using hw) (by rw [Aq,Aq];exact hsz)) ⟨ho,ho2, ?_⟩
  rw [e]
  exact h2 hw
def sIx(n d:Nat):Option Int->Nat
 |none=>d
 |some v=>if v<0 then(v+(n:Int)).toNat else min v.toNat n
def sIx_nat(n d k:Nat):sIx n d (some (k:Int))=min k n:=by
 show(if(k:Int)<0 then((k:Int)+(n:Int)).toNat else min (k:Int).toNat n)=min k n
 rw [if_neg (by lia),BE]
def sIx_le(n d:Nat)(hd:d<=n)(o:Option Int):sIx n d o<=n:=by
 cases o with
 |none=>exact hd
 |some v=>
  show(if v<0 then(v+(n:Int)).toNat else min v.toNat n)<=n
  by_cases hv:v<0
  ·rw [if_pos hv];lia
  ·rw [if_neg hv];exact Nat.min_le_right _ _
def b5I(v:Int)(n d:Nat):(if v<0 then max (v+(n:Int)) 0 else min v (n:Int))=((sIx n d (some v):Nat):Int):=by
 show(if v<0 then max (v+(n:Int)) 0 else min v (n:Int))=(((if v<0 then(v+(n:Int)).toNat else min v.toNat n):Nat):Int)
 by_cases hv:v<0
 ·simp only [if_pos hv];lia
 ·simp only [if_neg hv];lia
def b4v(lo hi:Option Int)(n:Nat):Builtin.Slice.sliceAdjust lo hi 1 (n:Int)=(((sIx n 0 lo:Nat):Int),((sIx n n hi:Nat):Int)):=by
 have h1:¬((1:Int)<0):=by lia
 unfold Builtin.Slice.sliceAdjust
 simp only [h1,if_false]
 refine Prod.ext ?_ ?_
 ·cases lo with
  |none=>rfl
  |some v=>exact b5I v n 0
 ·cases hi with
  |none=>rfl
  |some v=>exact b5I v n n
def b5k(i j:Nat):Builtin.Slice.slicePlaces (i:Int) (j:Int) 1=j - i:=by
 unfold Builtin.Slice.slicePlaces
 have h1:(1:Int)>0:=by lia
 simp only [h1,if_true,Int.ediv_one]
 split<;>lia
def a9X(p:IsPart v o)(h:Q o s):AF (model prog w) A (Builtin.Slice.slicePartIndex v) Q E s:=by
 cases p with
 |none=>exact slicePart_none h
 |int i t=>exact slicePart_int h
def sliceApplied_gen{sl:AB}{vl vu:AA}{lo hi:Option Int}{n:Nat}{Q:Int×Int×Nat->AG->Prop}(hs:s.heap.IsSliceOf sl vl vu .none)(pl:IsPart vl lo)(pu:IsPart vu hi)
 (h:Q (((sIx n 0 lo:Nat):Int),1,sIx n n hi - sIx n 0 lo) s):AF (model prog w) A (Builtin.Slice.sliceApplied (.ref sl) (pure (n:Int))) Q E s:=by
 obtain⟨os,hos,hcs,hds⟩:=id hs
 unfold Builtin.Slice.sliceApplied Builtin.Slice.sliceFields
 refine AD (AD (wpAny_field hos hds (x:=vl) rfl (AD (wpAny_field hos hds (x:=vu) rfl (AD (wpAny_field hos hds (x:= .none) rfl (AI ?_)))))))
 refine AD (slicePart_none ?_)
 show AF _ _ (if((1:Int)==0)=true then _ else _) _ _ s
 rw [if_neg (by decide)]
 refine AD (a9X pl (AD (a9X pu (AD (AI ?_)))))
 show AF _ _ (match Builtin.Slice.sliceAdjust lo hi 1 (n:Int) with|(lo,hi)=>pure (lo,(1:Int),Builtin.Slice.slicePlaces lo hi 1)) _ _ s
 rw [b4v lo hi n]
 show AF _ _ (pure (((sIx n 0 lo:Nat):Int),(1:Int),Builtin.Slice.slicePlaces ((sIx n 0 lo:Nat):Int) ((sIx n n hi:Nat):Int) 1)) _ _ s
 rw [b5k]
 exact AI h
def b88(xs:Array AA)(i k:Nat):((Ao k).filterMap fun(m:Nat)=>xs[((i:Int)+(m:Int)*1).toNat]?).toArray=((xs.toList.drop i).take k).toArray:=by
 have e:(fun(m:Nat)=>xs[((i:Int)+(m:Int)*1).toNat]?)=fun m=>xs[i+m]?:=by
  funext m
  have:((i:Int)+(m:Int)*1).toNat=i+m:=by lia
  rw [this]
 rw [e]
 have:=pick_run xs i k
 rw [List.filterMap_map] at this
 have e2:((fun x=>xs[x]?)∘fun x=>i+x)=fun m=>xs[i+m]?:=rfl
 rw [e2] at this
 rw [this]
def getItem_tuple_cut{t sl:AB}{items:Array AA}{vl vu:AA}{lo hi:Option Int}{Q:AA->AG->Prop}(ht:IsTup s.heap t items)(hs:s.heap.IsSliceOf sl vl vu .none)(pl:IsPart vl lo)(pu:IsPart vu hi)
 (hw:¬(sIx items.size 0 lo=0/\sIx items.size items.size hi=items.size))
 (h:Q (.ref s.heap.objs.size) {s with heap:=s.heap.push {cls:= .type "tuple",data:= .seq ((items.toList.drop (sIx items.size 0 lo)).take (sIx items.size items.size hi - sIx items.size 0 lo)).toArray}})
 (hsz:items.size<=AL):AF (model prog w) A (getItem (.ref t) (.ref sl)) Q E s:=by
 have htake:sizeOk (.seq ((items.toList.drop (sIx items.size 0 lo)).take (sIx items.size items.size hi - sIx items.size 0 lo)).toArray):=by
  show((items.toList.drop (sIx items.size 0 lo)).take (sIx items.size items.size hi - sIx items.size 0 lo)).toArray.size<=AL
  rw [Aq,List.length_take,List.length_drop,Array.length_toList]
  lia
 have hj:sIx items.size items.size hi<=items.size:=sIx_le _ _ (AR _) hi
 obtain⟨os,hos,hcs,hds⟩:=id hs
 have hTs:s.TypeIs (.ref sl) "slice":=⟨os,hos,hcs⟩
 unfold getItem
 try with_reducible refine wpAny_holding ?_
 first|refine AD (AI ?_)|skip
 refine AD (wpAny_sequenceKey ht.typeIs (by decide) ?_)
 refine AD (wpAny_callSpecial?_slot (name:=AC "__getitem__") ht.typeIs PyProof.Rows.slot_tuple_getitem
  (wpAny_call_entry PyProof.Rows.slot_tuple_getitem ht.typeIs entry_tuple_getitem ?_ (args_tuple_getitem _ _)))
 show AF _ _ (Builtin.Tuple.tupleItemsOf (.ref t)>>=_) _ _ s
 refine AD (tupleItemsOf_ ht ?_)
 refine AD (wpAny_typeOf hTs ?_)
 rw [if_pos (by decide)]
 refine AD (sliceApplied_gen hs pl pu ?_)
 have hno:¬((((sIx items.size 0 lo:Nat):Int)==0 &&(1:Int)==1 &&(sIx items.size items.size hi - sIx items.size 0 lo)==items.size)=true):=by
  intro q
  rw [Bool.and_eq_true,Bool.and_eq_true] at q
  have q1:((sIx items.size 0 lo:Nat):Int)=0:=eq_of_beq q.1.1
  have q2:sIx items.size items.size hi - sIx items.size 0 lo=items.size:=eq_of_beq q.2
  exact hw ⟨by lia,by lia⟩
 show AF _ _ (if(((sIx items.size 0 lo:Nat):Int)==0 &&(1:Int)==1 &&(sIx items.size items.size hi - sIx items.size 0 lo)==items.size)=true then _ else _) _ _ s
 rw [if_neg hno,b88]
 first
  |exact AD (m:=Builtin.Tuple.tupleExact _) (wpAny_newObj_type (AI ⟨_,rfl,AI h⟩) htake)
  |exact AD (m:=Builtin.Tuple.tupleExact _) (wpAny_newObj_type (AD (AI (AI ⟨_,rfl,AI h⟩))) htake)
  |exact AD (AD (m:=Builtin.Tuple.tupleExact _) (wpAny_newObj_type (AI (AI ⟨_,rfl,AI h⟩)) htake))
  |exact AD (AD (m:=Builtin.Tuple.tupleExact _) (wpAny_newObj_type (AI ⟨_,rfl,AI h⟩) htake))
end HT
namespace L2
open PySem PySem.Spec PyProof.Rows
abbrev TO:=St->Hp->(Option Int->Hp->Prop)->Prop
def PO(X:Cx)(e:Option AS)(t:TO):Prop:=
 ∀(pins:List (AB×Obj)) (s:AG) (σ:St) (H:Hp) (Q:Option Int->Hp->Prop),Inv X pins σ H s->t σ H Q->
  AF (model X.prog X.w) X.A (evalPart e X.env) (fun u s'=>∃o H',Inv X pins σ H' s'/\IsPart u o/\Q o H') X.xe s
def c1t:TO:=fun _ H Q=>Q none H
def c4I(t:TE):TO:=fun σ H Q=>t σ H fun x H1=>∃i,x= .int i/\Q (some i) H1
section
variable {X:Cx}{e:AS}{te:TE}{lo hi:Option AS}{tl th:TO}{pos p2:Pos}
def c1b:PO X none c1t:=by
 intro pins s σ H Q I h
 rw [evalPart_none]
 exact AI ⟨none,H,I,.none,h⟩
def c1c(h:PE X e te):PO X (some e) (c4I te):=by
 intro pins s σ H Q I hw
 rw [evalPart_some]
 refine Q3 (h pins s σ H _ I hw) fun u s1 ⟨x,H1,I1,r1,q1⟩=> ?_
 obtain⟨i,rfl,q⟩:=q1
 obtain⟨t,rfl⟩:=r1
 exact⟨some i,H1,I1,.int i t,q⟩
def SlR(X:Cx)(r:V->Option Int->Option Int->Hp->VK->Prop):Prop:=
 ∀(pins:List (AB×Obj)) (s:AG) (σ:St) (H:Hp) (x:V) (v vl vu:AA) (lo hi:Option Int) (sl:AB) (Q:VK),Inv X pins σ H s->A8 x v->s.heap.IsSliceOf sl vl vu .none->IsPart vl lo->IsPart vu hi->r x lo hi H Q->
  ∃T id,typeLookup (.type T) "__getitem__"=pure (some (.builtin id))/\s.TypeIs v T/\AF (model X.prog X.w) X.A (getItem v (.ref sl)) (EP X pins σ Q) X.xe s
def tSl(r:V->Option Int->Option Int->Hp->VK->Prop)(te:TE)(tl th:TO):TE:=fun σ H Q=>te σ H fun x H1=>tl σ H1 fun l H2=>th σ H2 fun u H3=>r x l u H3 Q
def b86(hr:SlR X r)(he:PE X e te)(hl:PO X lo tl)(hu:PO X hi th):PE X (.Subscript e (.Slice lo hi none p2) pos) (tSl r te tl th):=by
 intro pins s σ H Q I h
 refine Subscript_ (Q3 (he pins s σ H _ I h) fun v s1 ⟨x,H1,I1,r1,q1⟩=> ?_)
 refine wpAny_Slice (Q3 (hl pins s1 σ H1 _ I1 q1) fun vl s2 ⟨l,H2,I2,pl,q2⟩=>Q3 (hu pins s2 σ H2 _ I2 q2) fun vu s3 ⟨u,H3,I3,pu,q3⟩=> ?_)
 rw [evalPart_none]
 refine AI ?_
 have I4:Inv X pins σ H3 {s3 with heap:=s3.heap.push {cls:= .type "slice",data:= .fields #[vl,vu,.none]}}:=I3.kept (t':=s3.toks) fun b ob q=>AT _ q
 obtain⟨T,id,hT,ht,hg⟩:=hr pins {s3 with heap:=s3.heap.push {cls:= .type "slice",data:= .fields #[vl,vu,.none]}} σ H3 x v vl vu l u s3.heap.objs.size Q I4 r1 (Heap.IsSliceOf.new ..) pl pu q3
 show AF (model X.prog X.w) X.A (subscriptTail e (.Slice lo hi none p2) v (.ref s3.heap.objs.size)) (EP X pins σ Q) X.xe {s3 with heap:=s3.heap.push {cls:= .type "slice",data:= .fields #[vl,vu,.none]}}
 exact tail_any (ops:=[.ref s3.heap.objs.size,v]) ht hT hg (by with_unfolding_all rfl)
def b90(xs:List V)(lo hi:Option Int):List V:=(xs.drop (HT.sIx xs.length 0 lo)).take (HT.sIx xs.length xs.length hi - HT.sIx xs.length 0 lo)
def b22(xs:List V)(lo hi:Option Int):(b90 xs lo hi).length<=xs.length:=by
 unfold b90
 rw [List.length_take,List.length_drop]
 lia
def c46(K:AE):V->Option Int->Option Int->Hp->VK->Prop:=fun x lo hi H Q=>∃a xs,x= .ref a/\SqT K H a xs/\
 ¬(HT.sIx xs.length 0 lo=0/\HT.sIx xs.length xs.length hi=xs.length)/\∀p,H p=none->Q (.ref p) (K7 H p (.tup (b90 xs lo hi)))
def c3y:SlR X (c46 X.K):=by
 intro pins s σ H x v vl vu lo hi sl Q I rx hs pl pu h
 obtain⟨a,xs,rfl,hx,hw,q⟩:=h
 cases rx
 obtain⟨its,r,ht,hz⟩:=I.tuple hx
 have hlen:its.toArray.size=xs.length:=by rw [Aq];exact r.length.symm
 refine⟨"tuple",_,PyProof.Rows.slot_tuple_getitem.lookup,ht.typeIs, ?_⟩
 refine HT.getItem_tuple_cut ht hs pl pu (by rw [hlen];exact hw) ?_ (by rw [hlen];exact hz)
 rw [hlen]
 refine⟨.ref s.heap.objs.size,_,I.laid (t':=s.toks) (o:= .tup (b90 xs lo hi)) (fun b ob q=>AT _ q) (AR _) ?_,rfl,q _ (I.hok.fresh (AR _))⟩
 exact⟨Nat.le_trans (b22 xs lo hi) hz,_,(r.drop (HT.sIx xs.length 0 lo)).take (HT.sIx xs.length xs.length hi - HT.sIx xs.length 0 lo),IsTup.new _ _⟩
def c4w(K:AE):R2:=fun x y H Q=>∃a b xs ys,x= .ref a/\y= .ref b/\SqT K H a xs/\SqT K H b ys/\xs≠[]/\xs.length+ys.length<=AL/\
 (ys=[]->Q (.ref a) H)/\(ys≠[]->∀p,H p=none->Q (.ref p) (K7 H p (.tup (xs++ys))))
def y9.nil_iff(r:y9 xs us):us=[]↔xs=[]:=by
 cases r with
 |nil=>simp
 |cons _ _=>simp
def c0W:OpR X (binaryOp .Add) (c4w X.K):=by
 intro pins s σ H x y v u Q I rx ry h
 obtain⟨a,b,xs,ys,rfl,rfl,ha,hb,hx,hz,q1,q2⟩:=h
 cases rx
 cases ry
 obtain⟨its,r1,p1,_⟩:=I.tuple ha
 obtain⟨its2,r2,p2,_⟩:=I.tuple hb
 refine HT.cat_tup p1 p2 (fun z=>hx (r1.nil_iff.mp z)) (fun z=>⟨.ref a,H,I,rfl,q1 (r2.nil_iff.mp z)⟩) (fun z=> ?_) (by rw [<-r1.length,<-r2.length];exact hz)
 refine⟨.ref s.heap.objs.size,_,I.laid (t':=s.toks) (o:= .tup (xs++ys)) (fun b ob q=>AT _ q) (AR _) ?_,rfl,q2 (fun w=>z (r2.nil_iff.mpr w)) _ (I.hok.fresh (AR _))⟩
 exact⟨by rw [AQ];exact hz,_,r1.append r2,IsTup.new _ _⟩
end
def ixN(n:Nat)(i:Int):Option Nat:=if 0<=i then(if i<n then some i.toNat else none) else if -(n:Int)<=i then some (i+n).toNat else none
def atI(xs:List α)(i:Int):Option α:=(ixN xs.length i).bind fun j=>xs[j]?
def c0u(h:ixN n i=some j):seqIndex? i n=some j/\j<n/\ -(n:Int)<=i/\i<n:=by
 unfold ixN at h
 by_cases h0:0<=i
 ·rw [if_pos h0] at h
  by_cases h1:i<n
  ·rw [if_pos h1] at h
   have e:i.toNat=j:=Option.some.inj h
   exact⟨by rw [seqIndex_of h0 h1,e],by lia,by lia,h1⟩
  ·rw [if_neg h1] at h;cases h
 ·rw [if_neg h0] at h
  by_cases h1: -(n:Int)<=i
  ·rw [if_pos h1] at h
   have e:(i+n).toNat=j:=Option.some.inj h
   exact⟨by rw [seqIndex_neg (by lia) h1,e],by lia,h1,by lia⟩
  ·rw [if_neg h1] at h;cases h
def b1G(h:atI xs i=some v):∃j,seqIndex? i xs.length=some j/\xs[j]?=some v/\j<xs.length/\ -(xs.length:Int)<=i/\i<xs.length:=by
 unfold atI at h
 cases e:ixN xs.length i with
 |none=>rw [e] at h;cases h
 |some j=>
  rw [e] at h
  obtain⟨h1,h2,h3,h4⟩:=c0u e
  exact⟨j,h1,h,h2,h3,h4⟩
def b5E(b:AS):Prop:=∀o i,subscripted b false o i=operate [o,i] (getItem o i)
def IxR(X:Cx)(r:R2):Prop:=
 ∀(value slice:AS) (pins:List (AB×Obj)) (s:AG) (σ:St) (H:Hp) (x y:V) (v u:AA) (Q:VK),Inv X pins σ H s->A8 x v->A8 y u->r x y H Q->
  subscripted slice false v u=operate [v,u] (getItem v u)->AF (model X.prog X.w) X.A (subscriptTail value slice v u) (EP X pins σ Q) X.xe s
def MtR(X:Cx)(id:String)(r:V->List V->Hp->VK->Prop):Prop:=
 ∀(pins:List (AB×Obj)) (s:AG) (σ:St) (H:Hp) (x:V) (xs:List V) (v:AA) (us:List AA) (Q:VK),Inv X pins σ H s->A8 x v->y9 xs us->r x xs H Q->
  AF (model X.prog X.w) X.A (call (.builtin id) (v::us)) (EP X pins σ Q) X.xe s
section
variable {X:Cx}{a b:AS}{ta tb:TE}{pos:Pos}
def c4r(hr:IxR X r)(ha:PE X a ta)(hb:PE X b tb)(hs:b5E b):PE X (.Subscript a b pos) (tOp r ta tb):=by
 intro pins s σ H Q I h
 exact Subscript_ (c2d ha hb I h fun v u s2 x y H2 I2 rx ry q=>hr a b pins s2 σ H2 x y v u Q I2 rx ry q (hs _ _))
def c42(K:AE):R2:=fun x y H Q=>∃p xs i v,x= .ref p/\y= .int i/\SqL K H p xs/\atI xs i=some v/\Q v H
def c44(K:AE):R2:=fun x y H Q=>∃p xs i v,x= .ref p/\y= .int i/\SqT K H p xs/\atI xs i=some v/\Q v H
def c43:R2:=fun x y H Q=>∃z i c,x= .str z/\y= .int i/\z.length<=AL/\atI z.cps.toList i=some c/\Q (.str ⟨#[c]⟩) H
def c0v:IxR X (c42 X.K):=by
 intro value slice pins s σ H x y v u Q I rx ry h hs
 obtain⟨p,xs,i,z,rfl,rfl,hq,he,q⟩:=h
 cases rx
 obtain⟨t,rfl⟩:=ry
 obtain⟨its,r,pl,hz⟩:=I.list hq
 obtain⟨j,h1,h2,h3,h4,h5⟩:=b1G he
 obtain⟨w,ew,rw'⟩:=r.get h2
 have hl:=r.length
 have hn:=a7r
 have fin:EP X pins σ Q w s:=⟨z,H,I,rw',q⟩
 by_cases h0:0<=i
 ·have hj:i.toNat=j:=by
   rw [seqIndex_of h0 h5] at h1
   exact Option.some.inj h1
  exact item_listR pl.isList h0 (by lia) (by rw [hj];simpa using ew) fin hs
 ·have hj:(i+(its.toArray.size:Int)).toNat=j:=by
   rw [seqIndex_neg (by lia) h4] at h1
   rw [Aq,<-hl]
   exact Option.some.inj h1
  exact subscriptTail_builtinR (x:=w) pl.isList.typeIs slot_list_getitem.lookup
   (wpAny_getItem_list_neg (Q:=fun r s'=>r=w/\EP X pins σ Q r s') pl.isList (by lia) (by rw [Aq]<;>lia) (by lia) (by rw [hj];simpa using ew) ⟨rfl,fin⟩) hs
def c2I:IxR X (c44 X.K):=by
 intro value slice pins s σ H x y v u Q I rx ry h hs
 obtain⟨p,xs,i,z,rfl,rfl,hq,he,q⟩:=h
 cases rx
 obtain⟨t,rfl⟩:=ry
 obtain⟨its,r,pl,hz⟩:=I.tuple hq
 obtain⟨j,h1,h2,h3,h4,h5⟩:=b1G he
 obtain⟨w,ew,rw'⟩:=r.get h2
 have hl:=r.length
 have hn:=a7r
 have fin:EP X pins σ Q w s:=⟨z,H,I,rw',q⟩
 exact subscriptTail_builtinR (x:=w) pl.typeIs slot_tuple_getitem.lookup
  (getItem_tuple (j:=j) (Q:=fun r s'=>r=w/\EP X pins σ Q r s') pl (by lia) (by lia) (by rw [Aq,<-hl];exact h1) (by simpa using ew) ⟨rfl,fin⟩) hs
def c2H:IxR X c43:=by
 intro value slice pins s σ H x y v u Q I rx ry h hs
 obtain⟨z,i,c,rfl,rfl,hz,he,q⟩:=h
 obtain⟨t,rfl⟩:=rx
 obtain⟨t',rfl⟩:=ry
 obtain⟨j,h1,h2,h3,h4,h5⟩:=b1G he
 have hl:z.cps.toList.length=z.length:=by simp [Str.length]
 rw [hl] at h1 h4 h5
 have hn:=a7r
 exact tail_any (typeIs_str s z t) slot_str_getitem.lookup (getItem_str (c:=c) (by
  have e1:decide (i< -(2 ^ 63:Int))=false:=decide_eq_false (by lia)
  have e2:decide (i>=2 ^ 63)=false:=decide_eq_false (by lia)
  rw [e1,e2,Bool.or_false]) (by rw [h1];simpa using h2) ⟨.str ⟨#[c]⟩,H,I.tok _,⟨_,rfl⟩,q⟩) hs
def b1M:R0 X (.builtin "len") (fun xs H Q=>∃p ys,xs=[.ref p]/\(SqL X.K H p ys\/SqT X.K H p ys)/\Q (.int ys.length) H):=by
 intro pins s σ H xs us Q I r h
 obtain⟨p,ys,rfl,hq,q⟩:=h
 obtain⟨u,rfl,rx⟩:=a1i r
 cases rx
 have hn:=a7r
 rcases hq with hq|hq
 ·obtain⟨its,r',pl,hz⟩:=I.list hq
  have hlen:=r'.length
  exact Calls.call_len_list pl.isList (by simp only [Aq]<;>lia) ⟨.int ys.length,H,I.tok _,⟨s.toks+1,by rw [Aq,hlen]⟩,q⟩
 ·obtain⟨its,r',pl,hz⟩:=I.tuple hq
  have hlen:=r'.length
  exact len_tuple pl (by simp only [Aq]<;>lia) ⟨.int ys.length,H,I.tok _,⟨s.toks+1,by rw [Aq,hlen]⟩,q⟩
def b1N:R0 X (.builtin "len") (fun xs H Q=>∃z,xs=[.str z]/\z.length<=AL/\Q (.int z.length) H):=by
 intro pins s σ H xs us Q I r h
 obtain⟨z,rfl,hz,q⟩:=h
 obtain⟨u,rfl,t,rfl⟩:=a1i r
 have hn:=a7r
 exact len_str (by lia) ⟨.int z.length,H,I.tok _,⟨_,rfl⟩,q⟩
def b0g:R0 X (.type "tuple") (fun xs H Q=>∃p ys,xs=[.ref p]/\((SqL X.K H p ys/\∀l,H l=none->Q (.ref l) (K7 H l (.tup ys)))\/(SqT X.K H p ys/\Q (.ref p) H))):=by
 intro pins s σ H xs us Q I r h
 obtain⟨p,ys,rfl,h⟩:=h
 obtain⟨u,rfl,rx⟩:=a1i r
 cases rx
 rcases h with⟨hq,q⟩|⟨hq,q⟩
 ·obtain⟨its,r',pl,hz⟩:=I.list hq
  have hlen:=r'.length
  refine call_tuple_list pl.isList (fun h' kp=> ?_) (by simp only [Aq]<;>lia)
  have I1:Inv X pins σ H {s with heap:=h'}:=I.kept (t':=s.toks) kp
  have I2:Inv X pins σ (K7 H h'.objs.size (.tup ys)) {s with heap:=h'.push {cls:= .type "tuple",data:= .seq its.toArray}}:=
   I1.laid (t':=s.toks) (fun b o e=>AT _ e) (AR _) (show K3 X.prog X.w _ _ _ (.tup ys) from⟨hz,its,r',IsTup.new _ _⟩)
  exact⟨.ref h'.objs.size,_,I2,rfl,q _ (I1.hok.fresh (AR _))⟩
 ·obtain⟨its,r',pl,hz⟩:=I.tuple hq
  exact call_tuple_same pl ⟨.ref p,H,I,rfl,q⟩
def tyV(K:AE)(T:String)(x:V)(H:Hp):Prop:=match x with
 | .str _=>T="str"
 | .int _=>T="int"
 | .ref p=>(T="list"/\∃xs,SqL K H p xs)\/(T="tuple"/\∃o,K.lookup p=some o/\o.cls= .type "tuple"/\o.dict=none)\/
  (T="dict"/\((∃kvs,H p=some (.dK kvs))\/∃kvs,H p=some (.dT kvs)))\/(T="set"/\∃S n,H p=some (.set S n))
 |_=>False
def c3H(I:Inv X pins σ H s)(r:A8 x v)(ty:tyV X.K T x H):
 s.TypeIs v T/\∀a,v= .ref a->∃ob,s.heap.get? a=some ob/\ob.dict=none:=by
 cases x with
 |str z=>
  obtain⟨t,rfl⟩:=r
  cases(show T="str" from ty)
  exact⟨typeIs_str s z t,fun _ e=>nomatch e⟩
 |int i=>
  obtain⟨t,rfl⟩:=r
  cases(show T="int" from ty)
  exact⟨typeIs_int s i t,fun _ e=>nomatch e⟩
 |ref p=>
  cases r
  rcases ty with⟨rfl,xs,hq⟩|⟨rfl,o,hk,hc,hd⟩|⟨rfl,hk⟩|⟨rfl,S,n,hk⟩
  ·obtain⟨its,_,pl,_⟩:=I.list hq
   refine⟨pl.isList.typeIs,fun a e=> ?_⟩
   cases e
   obtain⟨o,n,e,c,hd,_⟩:=pl
   exact⟨o,e,hd⟩
  ·refine⟨⟨o,I.kIn p o hk,hc⟩,fun a e=> ?_⟩
   cases e
   exact⟨o,I.kIn _ o hk,hd⟩
  ·have z:∃o,s.heap.get? p=some o/\o.ExactDict:=by
    rcases hk with⟨kvs,hk⟩|⟨kvs,hk⟩
    ·obtain⟨_,_,_,_,o,_,_,e,ex,_⟩:=I.hok p _ hk
     exact⟨o,e,ex⟩
    ·obtain⟨_,_,_,_,o,_,_,e,ex,_⟩:=I.hok p _ hk
     exact⟨o,e,ex⟩
   obtain⟨o,e,ex⟩:=z
   refine⟨⟨o,e,ex.1⟩,fun a e2=> ?_⟩
   cases e2
   exact⟨o,e,ex.2.1⟩
  ·obtain⟨o,_,_,_,e,ex,_⟩:=I.hok p _ hk
   refine⟨⟨o,e,ex.1⟩,fun a e2=> ?_⟩
   cases e2
   exact⟨o,e,ex.2.1⟩
 |_=>exact False.elim ty
def tBM(K:AE)(T:String)(r:V->List V->Hp->VK->Prop)(to:TE)(t:TA):TE:=fun σ H Q=>to σ H fun x H1=>tyV K T x H1/\t σ H1 fun xs H2=>r x xs H2 Q
variable {o e:AS}{es:List AS}{to:TE}{t:TA}{name:Str}{apos cpos:Pos}{T id:String}{r:V->List V->Hp->VK->Prop}
def b1j(pa:PlainAttrs T)(slot:Slot T name id)(hty:typeOf (.builtin id)=pure (.type "method_descriptor"))(hm:MtR X id r)(ho:PE X o to)(ha:PA X (e::es) t)
 (hbase:attributeBase o name X.env (eval o X.env)=eval o X.env:=by rfl)
 (hfew:((backTo cpos (AJ (e::es) X.env)).all (fun x=> !x.1)&&(backToKw cpos (keywordEach [] X.env)).all (fun x=>x.1.isSome)
  && decide ((e::es).length+([]:List Keyword).length+(if([]:List Keyword).isEmpty then 0 else 1)<30))=true:=by rfl)
 (hline:(apos.endLine==cpos.line)=true:=by rfl) (hs:AJ (e::es) X.env=(false,eval e X.env)::AJ es X.env:=by rfl) (hplain:(backTo cpos (AJ es X.env)).any (·.1)=false:=by rfl):
 PE X (.Call (.Attribute o name apos) (e::es) [] cpos) (tBM X.K T r to t):=by
 intro pins s σ H Q I h
 refine wpAny_Call_method_late hbase hfew hline rfl (Q3 (ho pins s σ H _ I h) fun v s1 ⟨x,H1,I1,r1,ty,q1⟩=> ?_)
 obtain⟨h1,h2⟩:=c3H I1 r1 ty
 refine⟨T,id,pa,slot,hty,h1,h2, ?_⟩
 have hA:=ha cpos pins s1 σ H1 _ I1 q1
 rw [hs] at hA ⊢
 refine Calls.callWith_builtin (by show(false||(backTo cpos (AJ es X.env)).any (·.1))=false;rw [hplain]<;>rfl) (Calls.evalArgs_plain ?_)
 exact Q3 hA fun us s2 ⟨vs,H2,I2,r2,q2⟩=>hm pins s2 σ H2 x vs v us Q I2 r1 r2 q2
end
def MtM(X:Cx)(id:String)(r:V->List V->Hp->VK->Prop):Prop:=
 ∀(pins:List (AB×Obj)) (s:AG) (σ:St) (H:Hp) (x:V) (xs:List V) (v:AA) (us:List AA) (Q:VK),Inv X pins σ H s->A8 x v->y9 xs us->r x xs H Q->
  AF (model X.prog X.w) X.A (call (.builtin id) (v::us)) (EP X pins σ Q) X.xe s
theorem y9.one:∀{x:V} {us:List AA},y9 [x] us->∃u,us=[u]/\A8 x u
 |_,_,.cons r .nil=>⟨_,rfl,r⟩
theorem y9.rep(h:y9 xs us):∀k:Nat,y9 (AV k xs).flatten (AV k us).flatten
 |0=> .nil
 |k+1=>by
  rw [AX,AX,List.flatten_cons,List.flatten_cons]
  exact y9.append h (y9.rep h k)
theorem a7k(its:List AA):∀(k:Nat) (acc:List AA),
 List.foldl (fun x1 x2=>x1++x2) acc.toArray (AV k its.toArray)=(acc++(AV k its).flatten).toArray
 |0,acc=>by simp
 |k+1,acc=>by
  have e:acc.toArray++its.toArray=(acc++its).toArray:=by simp
  have e2:(acc++its)++(AV k its).flatten=acc++(AV (k+1) its).flatten:=by
   rw [AX,List.flatten_cons,List.append_assoc]
  rw [<-e2,<-a7k its k (acc++its),<-e,AX,List.foldl_cons]
def Inv.lset{its its':List AA}{n:Nat}{f:Array AA->Array AA}{t':Nat}(I:Inv X pins σ H s)(hH:H l=some (.lst xs))
 (e:s.heap.get? l=some {cls:= .type "list",data:= .seq its.toArray n}) (hf:f its.toArray=its'.toArray) (hv:y9 ys its') (hz:ys.length<=AL):
 Inv X pins σ (K7 H l (.lst ys)) {s with heap:=s.heap.update l (Obj.mapSeq f),toks:=t'}:=by
 have q:=PySem.IsL.update e f
 rw [hf] at q
 refine I.write (x:=l) (e:=l) (by rw [hH];exact trivial) (.inl rfl) (fun b' u hb hu=>(Heap.get?_update_other s.heap (Obj.mapSeq f) (Ne.symm hb)).trans hu) ⟨_,q⟩ ?_
 exact⟨hz,its',_,hv,q⟩
def Inv.lnew(I:Inv X pins σ H s)(hv:y9 ys its)(hz:ys.length<=AL):
 Inv X pins σ (K7 H s.heap.objs.size (.lst ys)) {s with heap:=s.heap.push {cls:= .type "list",data:= .seq its.toArray},toks:=t'}:=
 I.laid (fun _ _ q=>AT _ q) (AR _) ⟨hz,its,0,hv,An _ rfl⟩
def Inv.fresh(I:Inv X pins σ H s):H s.heap.objs.size=none:=I.hok.fresh (AR _)
def Inv.lstM(I:Inv X pins σ H s)(hH:H l=some (.lst xs)):xs.length<=AL/\∃(its:List AA) (n:Nat),y9 xs its/\xs.length=its.length/\s.heap.get? l=some {cls:= .type "list",data:= .seq its.toArray n}:=by
 obtain⟨z,its,n,r,e⟩:=I.hok l _ hH
 exact⟨z,its,n,r,r.length,e⟩
def b3D{n:Nat}(h:n<=AL):Builtin.List.listTooLong n=false:=by
 unfold Builtin.List.listTooLong
 exact decide_eq_false (by lia)
def c1g:V->List V->Hp->VK->Prop:=fun x vs H Q=>∃l xs y,x= .ref l/\vs=[y]/\H l=some (.lst xs)/\xs.length<AL/\Q .non (K7 H l (.lst (xs++[y])))
def b1a:MtM X "list.append" c1g:=by
 intro pins s σ H x vs v us Q I rx rv h
 obtain⟨l,xs,y,rfl,rfl,hH,hz,q⟩:=h
 cases rx
 obtain⟨u,rfl,ru⟩:=rv.one
 obtain⟨z,its,n,r,hl,e⟩:=I.lstM hH
 refine call_meets F.slot_list_append ⟨_,e,rfl⟩ F.entry_list_append (F.args_list_append_2 _ _) (PySem.list_append l its.toArray n u (by rw [Aq];lia)) ⟨e, ?_⟩
 refine⟨.non,_,I.lset (its':=its++[u]) hH e (by simp) (r.append (.cons ru .nil)) ?_,rfl,q⟩
 rw [AQ,List.length_singleton]
 lia
def c1h:V->List V->Hp->VK->Prop:=fun x vs H Q=>∃l b xs zs,x= .ref l/\vs=[.ref b]/\H l=some (.lst xs)/\H b=some (.lst zs)/\xs.length+zs.length<=AL/\Q .non (K7 H l (.lst (xs++zs)))
def b66:MtM X "list.extend" c1h:=by
 intro pins s σ H x vs v us Q I rx rv h
 obtain⟨l,b,xs,zs,rfl,rfl,hH,hB,hz,q⟩:=h
 cases rx
 obtain⟨u,rfl,ru⟩:=rv.one
 cases ru
 obtain⟨z,its,n,r,hl,e⟩:=I.lstM hH
 obtain⟨z2,its2,n2,r2,hl2,e2⟩:=I.lstM hB
 have hsz:its.toArray.size+its2.toArray.size<=AL:=by rw [Aq,Aq];lia
 have hlong:¬(!its.toArray.isEmpty && Builtin.List.listTooLong (its.toArray.size+its2.toArray.size))=true:=by
  rw [b3D hsz,Bool.and_false]
  exact Ar
 refine call_meets F.slot_list_extend ⟨_,e,rfl⟩ F.entry_list_extend (F.args_list_extend_2 _ _)
  (AutoSeq1.list_extend_list_list_0 l its.toArray n b its2.toArray n2 hlong (by rw [Aq];lia) (by lia)) ⟨e,e2, ?_⟩
 refine⟨.non,_,I.lset (its':=its++its2) hH e (by simp) (r.append r2) ?_,rfl,q⟩
 rw [AQ]
 lia
def c41:R2:=fun x y H Q=>∃l b xs zs,x= .ref l/\y= .ref b/\H l=some (.lst xs)/\H b=some (.lst zs)/\xs.length+zs.length<=AL/\∀p,H p=none->Q (.ref p) (K7 H p (.lst (xs++zs)))
def c22:OpR X (binaryOp .Add) c41:=by
 intro pins s σ H x y v u Q I rx ry h
 obtain⟨l,b,xs,zs,rfl,rfl,hH,hB,hz,q⟩:=h
 cases rx
 cases ry
 obtain⟨z,its,n,r,hl,e⟩:=I.lstM hH
 obtain⟨z2,its2,n2,r2,hl2,e2⟩:=I.lstM hB
 refine PySem.P.add_list e e2 ?_ (by rw [Aq,Aq];lia)
 have ea:its.toArray++its2.toArray=(its++its2).toArray:=by simp
 rw [ea]
 exact⟨.ref _,_,I.lnew (t':=s.toks) (r.append r2) (by rw [AQ];lia),rfl,q _ I.fresh⟩
def c45:R2:=fun x y H Q=>∃l k xs,x= .ref l/\y= .int k/\H l=some (.lst xs)/\ -(2 ^ 63)<=k/\k<2 ^ 63/\xs.length*k.toNat<=AL/\
 ∀p,H p=none->Q (.ref p) (K7 H p (.lst (AV k.toNat xs).flatten))
def b17(xs:List α)(k:Nat):(AV k xs).flatten.length=k*xs.length:=by
 induction k with
 |zero=>simp
 |succ k ih=>rw [AX,List.flatten_cons,AQ,ih,Nat.succ_mul,Nat.add_comm]
def c28:OpR X (binaryOp .Mult) c45:=by
 intro pins s σ H x y v u Q I rx ry h
 obtain⟨l,k,xs,rfl,rfl,hH,h1,h2,hz,q⟩:=h
 cases rx
 obtain⟨t,rfl⟩:=ry
 obtain⟨z,its,n,r,hl,e⟩:=I.lstM hH
 have hlen:its.toArray.size*k.toNat<=AL:=by rw [Aq,<-hl];exact hz
 have hcap:¬its.toArray.size*k.toNat>(2 ^ 63 - 1)/ 8:=by
  have:(AL:Nat)<=(2 ^ 63 - 1)/ 8:=by decide
  lia
 have hfit:¬(!Builtin.List.listFitsIndex k)=true:=by
  rw [fitsIndex_both h1 h2]
  exact Ar
 have hlong:¬Builtin.List.listTooLong (its.toArray.size*k.toNat)=true:=by
  rw [b3D hlen]
  exact Ar
 have hnew:List.foldl (fun x1 x2=>x1++x2) #[] (AV (if its.toArray.isEmpty=true then 0 else k.toNat) its.toArray)=(AV k.toNat its).flatten.toArray:=by
  have f0:∀m:Nat,List.foldl (fun x1 x2=>x1++x2) #[] (AV m its.toArray)=(AV m its).flatten.toArray:=fun m=>by
   have:=a7k its m []
   rw [Aa] at this
   exact this
  rw [f0]
  cases its with
  |nil=>simp
  |cons a r'=>rw [if_neg (by simp)]
 refine wpAny_binaryOp_repeat_ref (T:="list") (U:="int") (by decide) ⟨_,e,rfl⟩ (fun s'=>typeIs_int s' k t) noFill_list_mul F.fills_int_mul F.slot_int_rmul repeat_list F.slot_int_index.lookup
  (call_meets F.slot_int_rmul (typeIs_int s k t) F.entry_int_rmul (F.args_int_rmul_2 _ _) (int___rmul___int_list k t l its.toArray n)
   ⟨e,rfl,⟨_,e,rfl⟩,call_meets F.slot_list_mul ⟨_,e,rfl⟩ F.entry_list_mul (F.args_list_mul_2 _ _) (AutoListH.list___mul___list_int_3 l its.toArray n k t hfit hcap hlong) ⟨e, ?_⟩⟩)
 rw [hnew]
 exact⟨.ref _,_,I.lnew (t':=s.toks) (r.rep k.toNat) (by rw [b17,Nat.mul_comm];exact hz),rfl,q _ I.fresh⟩
end L2
namespace Att
open PySem PySem.W PySem.Calls PyProof.Rows
def a8d:∀(ns:List Int) (vs:List AA),WellAll P h vs (ns.map WData.int)->IntsAre vs ns:=by
 intro ns
 induction ns with
 |nil=>
  intro vs w
  rw [AN] at w
  cases w
  exact .nil
 |cons n ns ih=>
  intro vs w
  rw [AK] at w
  cases w with
  |cons a b=>
   cases a
   exact .cons _ _ (ih _ b)
def b7q{l:OpenLaw}{n:Nat}(hn:l.most=some n){P:Params}{h:Heap}{args:List WData}{vals:List AA}
 (hpre:l.row.toRowW.claim.pre args=true) (hwl:WellAll P h vals args):
 ∃a vs ns,vals=[Value.ref a]/\args=[WData.list (ns.map WData.int)]/\h.get? a=some {cls:= .type "list",data:= .seq vs.toArray}/\IntsAre vs ns/\ns.length<=n:=by
 have hsh:WShape.hasAll [] args [.list .int]=true:=(pre_splitW hpre).1
 have hc:l.pre.holds [] {args:=args}=true:=(pre_splitW hpre).2
 obtain⟨d,r,rfl,h1,h2⟩:=hasAllW_cons hsh
 obtain rfl:=hasAllW_nil h2
 obtain⟨xs,rfl,h3⟩:=hasW_list h1
 obtain⟨ns,rfl⟩:=items_int h3
 have hlen:ns.length<=n:=by
  unfold OpenLaw.pre at hc
  have h4:(WTm.not (.lt (.lit (.int (n:Int))) (.len (.arg 0)))).holds [] {args:=[.list (ns.map .int)]}=true:=by
   have h4:=(holds_andW hc).1
   rw [hn] at h4
   exact h4
  have h5:=condW_of h4 (w_not (w_lt w_lit (w_len_list (w_arg rfl))))
  rw [Ak] at h5
  refine Nat.le_of_not_lt fun q=> ?_
  have q':(n:Int)<((ns.length:Nat):Int):=by lia
  first
   |(rw [decide_eq_true q'] at h5;exact absurd h5 (by decide))
   |(simp at h5;lia)
 cases hwl with
 |cons w1 w2=>
  cases w2
  cases w1 with
  |list ho hall=>exact⟨_,_,ns,rfl,rfl,ho,a8d ns _ hall,hlen⟩
def b7k(l:OpenLaw)(args:List WData):l.row.toRowW.claim.post args (.bool true) args=true:=
 postW_of (r:=l.row.toRowW) (X:=(true==true))
  (show WShape.has [] (.bool true) .bool=true by first|rfl|decide|simp [WShape.has,WShape.arms,WShape.armsAll])
  (show(WTm.eq .res (.lit (.bool true))).value [] {args:=args,res:=some (.bool true),after:=args}=some (.bool (true==true)) from w_eq_bool (w_res rfl) w_lit) rfl
def attach_call{l:OpenLaw}{n:Nat}{q:Ac}{loose:List Str}{XP:(Str->Option AA)->Heap->Prop}{YP:AU->Heap->Prop}{d:DefRec}
 (hn:l.most=some n) (hdf:d.params.defaults=[])
 (call:∀(w:AU) (s₀ s₁:AG) (mg mb:Str->Option AA) (fa:AB) (o:Obj) (pm cd doc:AA) (a:AB) (vs:List AA) (ns:List Int),
  Ground q loose [] XP w s₀ mg mb s₁.heap->YP w s₁.heap->
  s₁.heap.get? fa=some o->o.data= .func (docDef d.name d.params d.body d.scope pm cd doc)->s₁.heap.CodeRec cd d.name->mg d.name=some (.ref fa)->
  s₁.heap.get? a=some {cls:= .type "list",data:= .seq vs.toArray}->IntsAre vs ns->ns.length<=n->s₁.gens= #[]->
  codeAny (model l.prog w) callerA (.call (.ref fa) ⟨[.ref a],[]⟩) (fun r s'=>r= .ok (.ret (.bool true))/\OldK s₁.heap s'.heap/\s'.os=s₁.os/\AllBare s'.gens) s₁):
 WalkO q loose XP YP l.row.toRowW d [] (fun f vs=>PySem.call f vs):=by
 intro w s₀ s₁ mg mb G Y fa o pm cd doc dV kV ho hd hcd hD hmg hg args vals as hpre hlay hrd hwl hlo
 obtain rfl:dV= .none:=Dflts.none hD hdf
 obtain rfl:kV= .none:=Dflts.noKw hD
 obtain⟨a,vs,ns,rfl,rfl,hobj,hints,hlen⟩:=b7q hn hpre hwl
 refine enter_call (codeAny_mono (call w s₀ s₁ mg mb fa o pm cd doc a vs ns G Y ho (fd_plain hd) hcd hmg hobj hints hlen hg) fun r s' hq=> ?_)
 obtain⟨rfl,h2,h3,h4⟩:=hq
 exact⟨.inl ⟨.bool true,.bool true,[],rfl,fun _=>rfl,.bool true,b7k l _,fun _=>⟨List.Pairwise.nil,fun _ hm=>(nomatch hm)⟩⟩,h2,h3,h4⟩
end Att
namespace L2
open PySem PySem.Spec PyProof.Rows
theorem b1w:∀{vs:List AA} {ns:List Int},IntsAre vs ns->y9 (ns.map V.int) vs
 |_,_,.nil=> .nil
 |_,_,.cons n t h=> .cons ⟨t,rfl⟩ (b1w h)
def c12(H:Hp):Prop:=∀b,H b=none\/∃o xs,H b=some (.frz o (.lst xs))
def b8t{P:Ac}{w:AU}{K:AE}{mg mb:Str->Option AA}{CX:CXT}{k:Nat}{fa a:AB}{fd:FuncData}{x:Str}{sp:Sp}{s₁:AG}{vs:List AA}{ns:List Int}
 (KX:K.In s₁.heap) (hns:s₁.heap.Ns mainGlobals mg) (hb:s₁.heap.Ns builtinsNs mb) (hbb:∀x:Str,x≠"__name__"->mb x=bootBuiltins x) (hlim:s₁.heap.NoLimit) (hg:s₁.gens= #[])
 (ha:s₁.heap.get? a=some {cls:= .type "list",data:= .seq vs.toArray}) (hi:IntsAre vs ns) (hl:ns.length<=AL) (hr:O9 k callerA)
 (F:∀base:Heap,K.In base->base.Ns mainGlobals mg->U0 P w K mg base CX k fa fd [x] sp) (hbind:∀(s:AG) (u:AA),BindsTo s fd ⟨[u],[]⟩ [(x,u)])
 (hsp:∀H:Hp,c12 H->SqL K H a (ns.map V.int)->sp [.ref a] H (fun v _=>v= .bl true) fun _ _ _=>False)
 (hCX:∀H e s',CX [] H s₁ (fun _ _ _=>False) e s'->False):
 codeAny (model P w) callerA (.call (.ref fa) ⟨[.ref a],[]⟩) (fun r s'=>r= .ok (.ret (.bool true))/\OldK s₁.heap s'.heap/\s'.os=s₁.os/\AllBare s'.gens) s₁:=by
 have rv:=b1w hi
 have lenV:=hi.length
 have core:∀H:Hp,c12 H->SqL K H a (ns.map V.int)->HOk P w H s₁.heap->(∀b,H b≠none->b=a)->(H a≠none->K.lookup a=none)->
  codeAny (model P w) callerA (.call (.ref fa) ⟨[.ref a],[]⟩) (fun r s'=>r= .ok (.ret (.bool true))/\OldK s₁.heap s'.heap/\s'.os=s₁.os/\AllBare s'.gens) s₁:=by
  intro H hO hS hok hA hK
  have base_of:∀{b:AB} {o:Obj},s₁.heap.get? b=some o->H b=none->(b12 s₁.heap H).get? b=some o:=fun e n=>b8g e n
  have noA:∀{b:AB} {o:Obj} {es:Array DictEntry} {ep:Nat},s₁.heap.get? b=some o->o.data= .dict es ep->H b=none:=fun {b o es ep} e d=>by
   cases q:H b with
   |none=>rfl
   |some u=>
    have e':b=a:=hA b (by rw [q];simp)
    subst e'
    rw [ha] at e;cases e
    have d':Data.seq vs.toArray _=Data.dict es ep:=d
    cases d'
  have nsK:∀{b:AB} {m:Str->Option AA},s₁.heap.Ns b m->(b12 s₁.heap H).Ns b m:=fun {b m} ⟨o,es,ep,e,d,r⟩=>⟨o,es,ep,base_of e (noA e d),d,r⟩
  have hKb:K.In (b12 s₁.heap H):=fun b o e=>base_of (KX b o e) (by
   cases q:H b with
   |none=>rfl
   |some u=>
    have e':b=a:=hA b (by rw [q];simp)
    subst e'
    rw [hK (by rw [q];simp)] at e;cases e)
  have hM:Mod K mg (b12 s₁.heap H):=⟨hKb,nsK hns,⟨mb,nsK hb,hbb⟩,let ⟨mc,h1,h2⟩:=hlim;⟨mc,nsK h1,h2⟩⟩
  have e0:b4m P w K mg (b12 s₁.heap H) callerA [] s₁ H:=⟨rfl,hM,fun b o e=>c0V e,Nat.le_of_eq (b6M _ _),trivial,fun b hb=>absurd (show b∈([]:List AB) from hb) (by simp),hok,.of_eq hg⟩
  refine codeAny_mono ((F _ hKb (nsK hns)).run callerA [] s₁ H ⟨[.ref a],[]⟩ [.ref a] [.ref a] _ _ hr e0 (hbind s₁ (.ref a)) (.cons rfl .nil) (hsp H hO hS)) fun r s' h=> ?_
  cases r with
  |error e=>exact(hCX H e s' h).elim
  |ok fl=>
   cases fl with
   |next=>exact False.elim h
   |brk=>exact False.elim h
   |cont=>exact False.elim h
   |ret u=>
    obtain⟨v,H',os,bare,un,hok',r',q⟩:=h
    have q':v= .bl true:=q
    subst q'
    obtain rfl:u=Value.bool true:=r'
    refine⟨rfl,OldK.of_keep fun b o e=> ?_,os,bare⟩
    cases q:H b with
    |none=>exact un.keep b o e q (by intro z;exact absurd (show b∈([]:List AB) from z) (by simp)) (by simp)
    |some u=>
     rcases hO b with z|⟨ob,xs,z⟩
     ·rw [q] at z;cases z
     ·have z2:=un.frzs b ob _ z
      obtain⟨e1,_⟩:=hok b _ z
      obtain⟨e2,_⟩:=hok' b _ z2
      rw [e] at e1;cases e1
      exact e2
 cases hk:K.lookup a with
 |some o=>
  have e:=KX a o hk
  rw [ha] at e
  cases e
  refine core (fun _=>none) (fun _=> .inl rfl) (.inr ⟨_,vs.toArray,_,hk,rfl,rfl,rfl,by rw [Aq,lenV];exact hl,by simpa using rv⟩) (fun b u z=>by have z':(none:Option HO)=some u:=z;cases z') (fun b z=>absurd rfl z) fun z=>absurd rfl z
 |none=>
  refine core (fun b=>if b=a then some (.frz {cls:= .type "list",data:= .seq vs.toArray} (.lst (ns.map V.int))) else none) (fun b=> ?_) (.inl (.inr ⟨{cls:= .type "list",data:= .seq vs.toArray},if_pos rfl⟩)) (fun b u z=> ?_) (fun b z=> ?_) fun _=>hk
  ·by_cases hb:b=a
   ·exact .inr ⟨_,_,if_pos hb⟩
   ·exact .inl (if_neg hb)
  ·by_cases hb:b=a
   ·have z':=(if_pos hb).symm.trans z
    cases z'
    subst hb
    exact⟨ha,by rw [Ak];exact hl,vs,_,rv,ha⟩
   ·have z':=(if_neg hb).symm.trans z
    cases z'
  ·by_cases hb:b=a
   ·exact hb
   ·exact absurd (if_neg hb) z
def c1C{l:W.OpenLaw}{n k:Nat}{q:Ac}{loose:List Str}{XP:(Str->Option AA)->Heap->Prop}{YP:AU->Heap->Prop}{d:DefRec}{K:Params->AE}{CX:AU->CXT}{sp:AU->Sp}{x:Str}
 (hn:l.most=some n) (hn2:n<=AL) (hdf:d.params.defaults=[]) (hr:O9 k callerA)
 (hY:∀(w:AU) (h:Heap),YP w h->(K w.params).In h)
 (F:∀(w:AU) (mg:Str->Option AA) (fa:AB) (h:Heap),(K w.params).In h->h.Ns mainGlobals mg->mg d.name=some (.ref fa)->
  ∃fd:FuncData,(∀(s:AG) (u:AA),BindsTo s fd ⟨[u],[]⟩ [(x,u)])/\
   ∀base:Heap,(K w.params).In base->base.Ns mainGlobals mg->U0 l.prog w (K w.params) mg base (CX w) k fa fd [x] (sp w))
 (hsp:∀(w:AU) (H:Hp) (a:AB) (ns:List Int),ns.length<=n->c12 H->SqL (K w.params) H a (ns.map V.int)->sp w [.ref a] H (fun v _=>v= .bl true) fun _ _ _=>False)
 (hCX:∀(w:AU) (H:Hp) (s:AG) (e:AA) (s':AG),CX w [] H s (fun _ _ _=>False) e s'->False):
 W.WalkO q loose XP YP l.row.toRowW d [] (fun f vs=>PySem.call f vs):=by
 refine Att.attach_call hn hdf fun w s₀ s₁ mg mb fa o pm cd doc a vs ns G Y ho hd hcd hmg hobj hints hlen hg=> ?_
 have KX:=hY w _ Y
 obtain⟨fd,hb,hF⟩:=F w mg fa _ KX G.T.g hmg
 exact b8t KX G.T.g G.T.b G.T.builtins G.T.nolimit hg hobj hints (Nat.le_trans hlen hn2) hr hF hb (fun H hO hS=>hsp w H a ns hlen hO hS) fun H e s'=>hCX w H s₁ e s'
def Y4(s:Stmt):Arguments:=match s with
 | .FunctionDef _ a _ _ _ _ _ _ _ _=>a
 |_=>{posonlyargs:=[],args:=[],vararg:=none,kwonlyargs:=[],kw_defaults:=[],kwarg:=none,defaults:=[]}
def G9(s:Stmt):List Stmt:=match s with
 | .FunctionDef _ _ b _ _ _ _ _ _ _=>b
 |_=>[]
def d5(s:Stmt):Scope:=match s with
 | .FunctionDef _ _ _ _ _ _ sc _ _ _=>sc
 |_=>{kind:= .function,names:=[],isGenerator:=false,isCoroutine:=false}
abbrev CX0:CXT:=fun _ _ _ _ _ _=>False
abbrev E0:XK:=fun _ _ _=>False
def b6j:a5W CX0 X E0:=fun _ _ _ _ _ _ _ h=>h.elim
structure Fun(K:AE)(x qual:Str)(st:Stmt)(f:AB)(fd:FuncData):Prop where
 ex:∃(oc:AA) (od:Option AB) (kV doc pm:AA) (an:Option AB) (cdv ct:AA) (osl:Array (Option AA)),
  fd=W.fnOf x qual (Y4 st) (G9 st) (d5 st) .none kV doc pm an cdv ct/\K.lookup f=some ⟨oc,od,.func fd,osl⟩/\W.codeIn K cdv qual=true
 kp:W.keepIn K (.ref f)=true
section
variable {P:Ac}{w:AU}{K:AE}{mg:Str->Option AA}{base:Heap}
def Fun.ok{x qual:Str}{st:Stmt}{f:AB}{fd:FuncData}{N ps:List Str}{k:Nat}{sp:Sp}(F:Fun K x qual st f fd)(S:j0 N ps (d5 st))(len:∀vs H Q E,sp vs H Q E->vs.length=ps.length)
 (hbody:∀(cdv:AA) (A:Al) (outer:List Env) (s:AG) (H:Hp) (vs:List V) (Q:VK) (E:XK),O9 k (A.deeper (envOfC qual (d5 st) s.heap.objs.size f cdv))->sp vs H Q E->
  ∃t,PSs (a30 CX0 P w K mg base N qual (d5 st) f cdv A outer s H E).nox (G9 st) t/\t {nx:=fun _ H'=>Q .non H',rt:=Q} (a3Y N vs) H):U0 P w K mg base CX0 (k+1) f fd ps sp:=by
 obtain⟨oc,od,kV,doc,pm,an,cdv,ct,osl,rfl,lk,hcd⟩:=F.ex
 refine c1I lk hcd S len fun A outer s H vs Q E hr hsp=> ?_
 obtain⟨t,h,q⟩:=hbody cdv A outer s H vs Q E hr hsp
 exact⟨t,h.nox,q⟩
def Fun.binds{x qual:Str}{st:Stmt}{f:AB}{fd:FuncData}{ps:List Str}(F:Fun K x qual st f fd)
 (h:∀(kV doc pm:AA) (an:Option AB) (cdv ct:AA) (us:List AA),us.length=ps.length->bindArgs (W.fnOf x qual (Y4 st) (G9 st) (d5 st) .none kV doc pm an cdv ct) ⟨us,[]⟩=pure (ps.zip us)):a0K K fd ps []:=by
 obtain⟨oc,od,kV,doc,pm,an,cdv,ct,osl,rfl,lk,hcd⟩:=F.ex
 exact .all (h kV doc pm an cdv ct)
def b73{x qual:Str}{st:Stmt}{f:AB}{oc:AA}{od an:Option AB}{osl:Array (Option AA)}{kV doc pm cdv ct:AA}(l:K.lookup f=some ⟨oc,od,.func (W.fnOf x qual (Y4 st) (G9 st) (d5 st) .none kV doc pm an cdv ct),osl⟩)
 (c:W.codeIn K cdv qual=true) (k:W.keepIn K (.ref f)=true):Fun K x qual st f (W.fnOf x qual (Y4 st) (G9 st) (d5 st) .none kV doc pm an cdv ct):=⟨⟨oc,od,kV,doc,pm,an,cdv,ct,osl,rfl,l,c⟩,k⟩
end
def b7s(h:n<=1000):n<AL:=Nat.lt_of_le_of_lt h (by decide)
def pv(i:Nat)(hN:X.N[i]?=some x:=by rfl)(hv:Vis X.env.scope x:=by first|exact Or.inl rfl|exact Or.inr (Or.inl rfl)|exact Or.inr (Or.inr rfl))(hd:(x==("__debug__":Str))=false:=by decide)
 (hcd:(x==("__classdict__":Str))=false:=by decide):PE X (.Name x pos) (b2E i):=c3j hN hv hd hcd
def b3m{A B:Prop}(h:B):if false=true then A else B:=by
 rw [if_neg Ar]
 exact h
def b3n{A B:Prop}(h:A):if true=true then A else B:=by
 rw [if_pos rfl]
 exact h
def y4(H H':Hp):Prop:=∀b o,H b=some o->H' b=some o
def y4.trans(a:y4 H H1)(b:y4 H1 H2):y4 H H2:=fun c o h=>b c o (a c o h)
def y4.free{H H':Hp}(e:y4 H H'){l:AB}(h:H' l=Option.none):H l=Option.none:=by
 cases q:H l with
 |none=>rfl
 |some o=>
  rw [e l o q] at h
  cases h
section
variable (P:Ac)(w:AU)
end
section
variable {κ:Type}[DecidableEq κ]
def a5c(kvs:List (κ×V))(k:κ):Option V:=(kvs.find? fun kv=>decide (kv.1=k)).map (·.2)
def a5e{p:κ×V}{r:List (κ×V)}{k:κ}(e:p.1=k):a5c (p::r) k=some p.2:=by simp [a5c,List.find?_cons,e]
def a5d{p:κ×V}{r:List (κ×V)}{k:κ}(e:¬p.1=k):a5c (p::r) k=a5c r k:=by simp [a5c,List.find?_cons,e]
def a6u.getD(r:a6u o u)(rd:A8 d d'):A8 (o.getD d) (u.getD d'):=by
 cases o with
 |none=>cases u with
  |none=>exact rd
  |some _=>exact(show False from r).elim
 |some _=>cases u with
  |none=>exact(show False from r).elim
  |some _=>exact r
def KV.val{kvs:List (κ×V)}{vs:List (κ×AA)}(r:KV kvs vs)(k:κ):a6u (a5c kvs k) (valueAt vs k):=by
 unfold KV at r
 induction r with
 |nil=>exact True.intro
 | @cons p q ps qs h t ih=>
   obtain⟨h1,h2⟩:=h
   by_cases e:p.1=k
   ·have e':q.1=k:=h1.symm.trans e
    have b:valueAt (q::qs) k=some q.2:=by simp [valueAt,List.find?_cons,e']
    rw [a5e e,b];exact h2
   ·have e':¬q.1=k:=fun z=>e (h1.trans z)
    have b:valueAt (q::qs) k=valueAt qs k:=by simp [valueAt,List.find?_cons,e']
    rw [a5d e,b];exact ih
end
def c1O(r:A8 (kV k) u):(B3 P w).is k u=true:=by
 cases k with
 |inl i=>obtain⟨t,e⟩:=(show ∃t,u=Value.int i t from r);subst e;exact b3w P w i t
 |inr x=>obtain⟨t,e⟩:=(show ∃t,u=Value.str x t from r);subst e;exact a2g P w x t
theorem b02:∀{ks:List Key} {us:List AA},y9 (ks.map kV) us->ItemsAre (B3 P w) ks us
 |[],_,r=>by rw [AN] at r;cases r;exact .nil
 |k::ks,_,r=>by
  rw [AK] at r
  cases r with
  |cons h t=>exact .cons (c1O h) (b02 t)
abbrev KT(H:Hp):List (List Key×V)->List (List Key×AB×AA)->Prop:=Paired fun p q=>p.1=q.1/\H q.2.1=some (.tup (p.1.map kV))/\A8 p.2 q.2.2
def KT.val{H:Hp}{kvs:List (List Key×V)}{xs:List (List Key×AB×AA)}(r:KT H kvs xs)(k:List Key):a6u (a5c kvs k) ((atKey xs k).map (·.2)):=by
 induction r with
 |nil=>exact True.intro
 | @cons p q ps qs h t ih=>
   obtain⟨h1,_,h2⟩:=h
   by_cases e:p.1=k
   ·have e':q.1=k:=h1.symm.trans e
    have b:atKey (q::qs) k=some q.2:=by simp [atKey,List.find?_cons,e']
    rw [a5e e,b];exact h2
   ·have e':¬q.1=k:=fun z=>e (h1.trans z)
    have b:atKey (q::qs) k=atKey qs k:=by simp [atKey,List.find?_cons,e']
    rw [a5d e,b];exact ih
def c1S(ok:HOk P w H h)(e:Rd H a u):K3 P w H h a u:=e.ok ok
def c1F(ok:HOk P w H h)(e:Rd H a (.dK kvs)):kvs.length<=AL/\(a==sysModules)=false/\∃vs,KV kvs vs/\h.DictOf (B3 P w) a vs:=
 show K3 P w H h a (.dK kvs) from c1S ok e
def b8r(ok:HOk P w H h)(e:H a=some (.tup (ks.map kV))):(tupleKind (B3 P w)).is h ks a:=by
 obtain⟨_,its,r,o,h1,h2,n,h3⟩:=(show K3 P w H h a (.tup (ks.map kV)) from ok a _ e)
 exact⟨o,its.toArray,n,h1,h2,h3,by simpa using b02 r⟩
def c1G(ok:HOk P w H h)(e:Rd H a (.dT kvs)):kvs.length<=AL/\(a==sysModules)=false/\
 ∃xs,KT H kvs xs/\h.DictOfH (tupleKind (B3 P w)) a xs:=by
 obtain⟨z,y,xs,r,o,es,ep,h1,h2,h3,h4,h5⟩:=(show K3 P w H h a (.dT kvs) from c1S ok e)
 refine⟨z,y,xs,r,o,es,ep,h1,h2,h3,h4,fun x hx=> ?_,h5⟩
 have all:∀{l:List (List Key×V)} {m:List (List Key×AB×AA)},KT H l m->∀x∈m,(tupleKind (B3 P w)).is h x.1 x.2.1:=by
  intro l m q
  induction q with
  |nil=>intro x hx;exact nomatch hx
  | @cons p q ps qs hq t ih=>
    intro x hx
    rcases AZ.mp hx with e|hx
    ·subst e
     exact b8r ok (by rw [<-hq.1];exact hq.2.1)
    ·exact ih x hx
 exact all r x hx
def b7y(H:Hp)(a:AB)(y:V)(r:Option V):Prop:=
 (∃kvs k,Rd H a (.dK kvs)/\y=kV k/\r=a5c kvs k)\/∃kvs k b,Rd H a (.dT kvs)/\y= .ref b/\H b=some (.tup (k.map kV))/\r=a5c kvs k
def b7y.k{H:Hp}{a:AB}{kvs:List (Key×V)}{k:Key}(e:H a=some (.dK kvs)):b7y H a (kV k) (a5c kvs k):= .inl ⟨kvs,k,.inl e,rfl,rfl⟩
def Inv.big(I:Inv X pins σ H s):sysModules<s.heap.objs.size:=by
 have h:mainGlobals<s.heap.objs.size:=(I.mod.glob.keeps I.bk).lt
 exact Nat.lt_trans (by decide) h
def b7P(h:Heap)(hb:sysModules<h.objs.size):K3 P w H (h.push {cls:= .type "dict",data:= .dict #[]}) h.objs.size (.dK []):=
 ⟨Nat.zero_le _,beq_eq_false_iff_ne.mpr (Ne.symm (Am hb)),[],.nil,Heap.DictOf.new h⟩
def c3B:TE:=fun _ H Q=>∀p,H p=none->Q (.ref p) (K7 H p (.dK []))
def b84:PE X (.Dict [] [] pos) c3B:=fun pins s σ H Q I h=>
 wpAny_Dict_empty ⟨.ref s.heap.objs.size,_,I.laid (a:=s.heap.objs.size) (o:= .dK []) (t':=s.toks) (fun _ _ q=>AT _ q) (AR _) (b7P s.heap I.big),rfl,h _ (I.hok.fresh (AR _))⟩
structure M2(X:Cx)(o:AS)(m:Str)(apos:Pos)(e f:AS)(cpos:Pos):Prop where
 base:attributeBase o m X.env (eval o X.env)=eval o X.env
 few:((backTo cpos (AJ [e,f] X.env)).all (fun x=> !x.1)&&(backToKw cpos (keywordEach [] X.env)).all (fun x=>x.1.isSome)
  && decide (([e,f]:List AS).length+([]:List Keyword).length+(if([]:List Keyword).isEmpty then 0 else 1)<30))=true
 line:(apos.endLine==cpos.line)=true
 trees:backTo cpos (AJ [e,f] X.env)=[(false,eval e X.env),(false,eval f X.env)]
def IsD(H:Hp)(a:AB):Prop:=(∃kvs,Rd H a (.dK kvs))\/∃kvs,Rd H a (.dT kvs)
def c2E(I:Inv X pins σ H s)(d:IsD H a):
 s.TypeIs (.ref a) "dict"/\(∀b,Value.ref a= .ref b->∃ob,s.heap.get? b=some ob/\ob.dict=none)/\(a==sysModules)=false:=by
 rcases d with⟨kvs,e⟩|⟨kvs,e⟩
 ·obtain⟨_,hd,vs,_,dd⟩:=c1F I.hok e
  refine⟨dd.typeIs,fun b q=> ?_,hd⟩
  cases q
  obtain⟨ob,_,_,h1,h2,_⟩:=dd
  exact⟨ob,h1,h2.2.1⟩
 ·obtain⟨_,hd,xs,_,dd⟩:=c1G I.hok e
  refine⟨dd.typeIs,fun b q=> ?_,hd⟩
  cases q
  obtain⟨ob,_,_,h1,h2,_⟩:=dd
  exact⟨ob,h1,h2.2.1⟩
def c2g(hu:A.units+1<cLine)(I:Inv X pins σ H s)(g:b7y H a y o)(ry:A8 y u)(rd:A8 d r)(h:∀w' s',Inv X pins σ H s'->A8 (o.getD d) w'->Q w' s'):
 AF (model X.prog X.w) A (call (.builtin "dict.get") [.ref a,u,r]) Q E s:=by
 rcases g with⟨kvs,k,e,ey,l⟩|⟨kvs,k,b,e,ey,eb,l⟩
 ·subst ey
  obtain⟨z,hd,vs,rel,dd⟩:=c1F I.hok e
  refine call_meetsIn PySem.F.slot_dict_get dd.typeIs PySem.F.entry_dict_get (PySem.F.args_dict_get_3 _ _ _) (meets_dict_get_default (B3 X.prog X.w) a (c1O ry) hd r) ⟨_,dd.mapOf,h _ _ (I.tok _) ?_⟩
  rw [l]
  exact(rel.val k).getD rd
 ·subst ey
  cases(show u=Value.ref b from ry)
  obtain⟨z,hd,xs,rel,dd⟩:=c1G I.hok e
  refine call_meetsIn PySem.F.slot_dict_get dd.typeIs PySem.F.entry_dict_get (PySem.F.args_dict_get_3 _ _ _) (meetsH_dict_get_default (tupleKind (B3 X.prog X.w)) a b hd r) ⟨tupleKind_room_in1 hu,k,xs,b8r I.hok eb,dd,h _ _ (I.tok _) ?_⟩
  rw [l]
  exact(rel.val k).getD rd
def c3A(td ty tx:TE):TE:=fun σ H Q=>td σ H fun x H1=>∃a,x= .ref a/\IsD H1 a/\ty σ H1 fun y H2=>tx σ H2 fun z H3=>∃o,b7y H3 a y o/\Q (o.getD z) H3
def b83(hu:X.A.units+1<cLine)(ho:PE X o td)(he:PE X e ty)(hf:PE X f tx)(m:M2 X o "get" apos e f cpos):PE X (.Call (.Attribute o "get" apos) [e,f] [] cpos) (c3A td ty tx):=by
 intro pins s σ H Q I h
 refine wpAny_Call_method m.base m.few m.line PySem.F.plainAttrs_dict PySem.F.slot_dict_get PySem.F.type_dict_get (Q3 (ho pins s σ H _ I h) fun u s1 ⟨x,H1,I1,rx,a,ex,d,q1⟩=> ?_)
 subst ex
 obtain rfl:u=Value.ref a:=rx
 obtain⟨t1,t2,_⟩:=c2E I1 d
 refine⟨t1,t2, ?_⟩
 rw [m.trees]
 refine Calls.callWith_builtin rfl (Calls.evalArgs_plain (Calls.spliced_cons (Q3 (he pins s1 σ H1 _ I1 q1) fun iv s2 ⟨y,H2,I2,ry,q2⟩=>
  Calls.spliced_cons (Q3 (hf pins s2 σ H2 _ I2 q2) fun fv s3 ⟨z,H3,I3,rz,ov,g,q3⟩=>Calls.spliced_nil ?_))))
 exact c2g hu I3 g ry rz fun w' s4 I4 rw'=>⟨_,H3,I4,rw',q3⟩
end L2
namespace Att
open PySem PySem.W PySem.Calls PyProof.Rows
end Att
namespace L2
open PySem PySem.Spec PyProof.Rows
section
variable {κ:Type}[DecidableEq κ]
end
end L2
set_option maxHeartbeats 4000000
namespace PU
open PySem PySem.Spec PyProof.Rows L2
abbrev PV:=PyData
def TqT(K:AE)(H:Hp)(a:AB)(xs:List V):Prop:=
 H a=some (.tup xs)\/∃(o:Obj) (its:Array AA) (n:Nat),K.lookup a=some o/\o.cls= .type "tuple"/\o.data= .seq its n/\its.size<=AL/\y9 xs its.toList
def TqT.of{K:AE}{H:Hp}{a:AB}{xs:List V}(h:H a=some (.tup xs)):TqT K H a xs:= .inl h
def TqT.sq{K:AE}{H:Hp}{a:AB}{xs:List V}(h:TqT K H a xs):SqT K H a xs:=h.elim (fun h=> .inl (.inl h)) .inr
def c1o{K:AE}{H H':Hp}{a:AB}{xs:List V}(s:y4 H H')(h:TqT K H a xs):TqT K H' a xs:=h.elim (fun h=> .inl (s _ _ h)) .inr
def b7B(K:AE)(x:Str)(v:V):Prop:=∃(a:AB) (oc:AA) (od:Option AB) (fd:FuncData) (osl:Array (Option AA)),v= .ref a/\K.lookup a=some ⟨oc,od,.func fd,osl⟩/\fd.name=x
def X6(K:AE)(x:Str)(C:AB):Prop:=W.nsIn K mainGlobals x=some (some (.ref C))/\∃(oc:AA) (od:Option AB) (cd:ClassData) (osl:Array (Option AA)),K.lookup C=some ⟨oc,od,.cls cd,osl⟩/\cd.name=x
def X6.inj{K:AE}{x y:Str}{C:AB}(h:X6 K x C)(h':X6 K y C):x=y:=by
 obtain⟨_,_,_,_,_,k,n⟩:=h
 obtain⟨_,_,_,_,_,k',n'⟩:=h'
 rw [k] at k';cases k'
 rw [<-n,n']
def X6.uniq{K:AE}{x:Str}{C D:AB}(h:X6 K x C)(h':X6 K x D):C=D:=by
 have:=h.1.symm.trans h'.1
 cases this;rfl
def c14(K:AE)(H:Hp)(x:Str)(v:V):Prop:=∃(a C:AB) (φ:Heap->Prop),v= .ref a/\H a=some (.ext φ)/\
 (∀h:Heap,φ h->∃oe vs,h.get? a=some oe/\oe.cls= .ref C/\oe.data= .fields vs/\oe.dict=none)/\X6 K x C
def a7b(K:AE)(H:Hp)(x:Str)(t:PV)(v:V):Prop:=(t= .none/\b7B K x v)\/(t= .bool true/\c14 K H x v)
def a7b.ref{K:AE}{H:Hp}{x:Str}{t:PV}{v:V}(h:a7b K H x t v):∃a,v= .ref a:=by
 rcases h with⟨_,a,_,_,_,_,e,_⟩|⟨_,a,_,_,e,_⟩<;>exact⟨a,e⟩
def a7b.mono{K:AE}{H H':Hp}{x:Str}{t:PV}{v:V}(s:y4 H H')(h:a7b K H x t v):a7b K H' x t v:=by
 rcases h with h|⟨z,a,C,φ,e,q,r⟩
 ·exact .inl h
 ·exact .inr ⟨z,a,C,φ,e,s _ _ q,r⟩
def a6t(K:AE)(H:Hp)(x:Str)(m:V)(fs:List (Str×V))(v:V):Prop:=
 (m= .bl false/\∃a C dx,v= .ref a/\H a=some (.ins C dx fs)/\X6 K x C)\/
 (m= .int 0/\∃(a C dx:AB) (φ:Heap->Prop),v= .ref a/\H a=some (.ext φ)/\(∀h:Heap,φ h->∃oe vs,h.get? a=some oe/\oe.cls= .ref C/\oe.data= .fields vs/\oe.dict=some dx)/\H dx=some (.xd fs)/\X6 K x C)
def a6t.ref{K:AE}{H:Hp}{x:Str}{m:V}{fs:List (Str×V)}{v:V}(h:a6t K H x m fs v):∃a,v= .ref a:=by
 rcases h with⟨_,a,_,_,e,_⟩|⟨_,a,_,_,_,e,_⟩<;>exact⟨a,e⟩
def a6t.mono{K:AE}{H H':Hp}{x:Str}{m:V}{fs:List (Str×V)}{v:V}(s:y4 H H')(h:a6t K H x m fs v):a6t K H' x m fs v:=by
 rcases h with⟨z,a,C,dx,e,q,n⟩|⟨z,a,C,dx,φ,e,q,r,d,n⟩
 ·exact .inl ⟨z,a,C,dx,e,s _ _ q,n⟩
 ·exact .inr ⟨z,a,C,dx,φ,e,s _ _ q,r,s _ _ d,n⟩
def kP:Key->PV
 | .inl i=> .int i
 | .inr x=> .str x
def s1(kv:Key×α):List Key×α:=([kv.1],kv.2)
mutual
def T7(K:AE)(H:Hp):PV->V->Prop
 | .none,v=>v= .non
 | .bool b,v=>v= .bl b
 | .int i,v=>v= .int i
 | .str x,v=>v= .str x
 | .tuple ps,v=>∃a xs,v= .ref a/\TqT K H a xs/\w8 K H ps xs
 | .list ps,v=>∃a xs,v= .ref a/\SqL K H a xs/\w8 K H ps xs
 | .dict kvs,v=>(∃a ys,v= .ref a/\H a=some (.dK ys)/\a2p K H kvs (ys.map s1))\/(∃a xs,v= .ref a/\H a=some (.dT xs)/\a2p K H kvs (([],.non)::xs))\/(∃x t,kvs=[(.str x,t)]/\a7b K H x t v)\/(∃x m fs,a6t K H x m fs v/\a39 K H kvs ((x,m)::fs))
def w8(K:AE)(H:Hp):List PV->List V->Prop
 |[],vs=>vs=[]
 |p::ps,vs=>∃v r,vs=v::r/\T7 K H p v/\w8 K H ps r
def a2p(K:AE)(H:Hp):List (PV×PV)->List (List Key×V)->Prop
 |[],ys=>ys=[]
 |(k,p)::r,ys=>∃kk v t,ys=(kk,v)::t/\k= .tuple (kk.map kP)/\T7 K H p v/\a2p K H r t
def a39(K:AE)(H:Hp):List (PV×PV)->List (Str×V)->Prop
 |[],ys=>ys=[]
 |(k,p)::r,ys=>∃f v t,ys=(f,v)::t/\k= .str f/\T7 K H p v/\a39 K H r t
end
def G6{K:AE}{H H':Hp}{a:AB}{xs:List V}(s:y4 H H')(h:SqT K H a xs):SqT K H' a xs:=by
 rcases h with(h|⟨o,h⟩)|h
 ·exact .inl (.inl (s _ _ h))
 ·exact .inl (.inr ⟨o,s _ _ h⟩)
 ·exact .inr h
def S2{K:AE}{H H':Hp}{a:AB}{xs:List V}(s:y4 H H')(h:SqL K H a xs):SqL K H' a xs:=by
 rcases h with(h|⟨o,h⟩)|h
 ·exact .inl (.inl (s _ _ h))
 ·exact .inl (.inr ⟨o,s _ _ h⟩)
 ·exact .inr h
mutual
theorem T7.mono{K:AE}{H H':Hp}(s:y4 H H'):∀(p:PV) {v:V},T7 K H p v->T7 K H' p v
 | .none,_,h=>h
 | .bool _,_,h=>h
 | .int _,_,h=>h
 | .str _,_,h=>h
 | .dict kvs,_,.inl ⟨a,ys,q,h,r⟩=> .inl ⟨a,ys,q,s _ _ h,a2p.mono s kvs r⟩
 | .dict kvs,_,.inr (.inl ⟨a,xs,q,h,r⟩)=> .inr (.inl ⟨a,xs,q,s _ _ h,a2p.mono s kvs r⟩)
 | .dict _,_,.inr (.inr (.inl ⟨x,t,e,h⟩))=> .inr (.inr (.inl ⟨x,t,e,h.mono s⟩))
 | .dict kvs,_,.inr (.inr (.inr ⟨x,m,fs,h,r⟩))=> .inr (.inr (.inr ⟨x,m,fs,h.mono s,a39.mono s kvs r⟩))
 | .tuple ps,_,⟨a,xs,e,q,r⟩=>⟨a,xs,e,c1o s q,w8.mono s ps r⟩
 | .list ps,_,⟨a,xs,e,q,r⟩=>⟨a,xs,e,S2 s q,w8.mono s ps r⟩
theorem w8.mono{K:AE}{H H':Hp}(s:y4 H H'):∀(ps:List PV) {vs:List V},w8 K H ps vs->w8 K H' ps vs
 |[],_,h=>h
 |p::ps,_,⟨v,r,e,q,t⟩=>⟨v,r,e,T7.mono s p q,w8.mono s ps t⟩
theorem a2p.mono{K:AE}{H H':Hp}(s:y4 H H'):∀(es:List (PV×PV)) {ys:List (List Key×V)},a2p K H es ys->a2p K H' es ys
 |[],_,h=>h
 |(k,p)::es,_,⟨kk,v,r,e,z,q,t⟩=>⟨kk,v,r,e,z,T7.mono s p q,a2p.mono s es t⟩
theorem a39.mono{K:AE}{H H':Hp}(s:y4 H H'):∀(es:List (PV×PV)) {ys:List (Str×V)},a39 K H es ys->a39 K H' es ys
 |[],_,h=>h
 |(k,p)::es,_,⟨kk,v,r,e,z,q,t⟩=>⟨kk,v,r,e,z,T7.mono s p q,a39.mono s es t⟩
end
theorem w8.length{K:AE}{H:Hp}:∀{ps:List PV} {vs:List V},w8 K H ps vs->vs.length=ps.length
 |[],_,h=>by cases h;rfl
 |_::ps,_,⟨v,r,e,_,t⟩=>by subst e;rw [AM,AM,w8.length t]
theorem w8.get{K:AE}{H:Hp}:∀{ps:List PV} {vs:List V} {i:Nat} {p:PV},w8 K H ps vs->ps[i]?=some p->∃v,vs[i]?=some v/\T7 K H p v
 |[],_,_,_,_,h=>by simp at h
 |q::ps,_,0,p,⟨v,r,e,a,t⟩,h=>by subst e;simp at h;subst h;exact⟨v,rfl,a⟩
 |q::ps,_,i+1,p,⟨v,r,e,a,t⟩,h=>by subst e;exact w8.get (i:=i) t (by simpa using h)
theorem w8.getV{K:AE}{H:Hp}:∀{ps:List PV} {vs:List V} {i:Nat} {v:V},w8 K H ps vs->vs[i]?=some v->∃p,ps[i]?=some p/\T7 K H p v
 |[],_,_,_,h,e=>by cases h;simp at e
 |q::ps,_,0,v,⟨w,r,e,a,t⟩,h=>by subst e;simp at h;subst h;exact⟨q,rfl,a⟩
 |q::ps,_,i+1,v,⟨w,r,e,a,t⟩,h=>by subst e;exact w8.getV (i:=i) t (by simpa using h)
theorem w8.append{K:AE}{H:Hp}:∀{ps qs:List PV} {vs ws:List V},w8 K H ps vs->w8 K H qs ws->w8 K H (ps++qs) (vs++ws)
 |[],_,_,_,h,t=>by cases h;exact t
 |_::ps,_,_,_,⟨v,r,e,a,t⟩,s=>by subst e;exact⟨v,_,rfl,a,w8.append t s⟩
theorem w8.drop{K:AE}{H:Hp}:∀{ps:List PV} {vs:List V} (n:Nat),w8 K H ps vs->w8 K H (ps.drop n) (vs.drop n)
 |_,_,0,h=>h
 |[],_,n+1,h=>by cases h;rfl
 |_::ps,_,n+1,⟨v,r,e,a,t⟩=>by subst e;exact w8.drop n t
theorem w8.take{K:AE}{H:Hp}:∀{ps:List PV} {vs:List V} (n:Nat),w8 K H ps vs->w8 K H (ps.take n) (vs.take n)
 |_,_,0,h=>rfl
 |[],_,n+1,h=>by cases h;rfl
 |_::ps,_,n+1,⟨v,r,e,a,t⟩=>by subst e;exact⟨v,_,rfl,a,w8.take n t⟩
def a38(K:AE)(H:Hp):List (List Key×PV)->List (List Key×V)->Prop
 |[],ys=>ys=[]
 |(k,p)::r,ys=>∃v t,ys=(k,v)::t/\T7 K H p v/\a38 K H r t
theorem a38.mono{K:AE}{H H':Hp}(s:y4 H H'):∀(kvs:List (List Key×PV)) {ys:List (List Key×V)},a38 K H kvs ys->a38 K H' kvs ys
 |[],_,h=>h
 |(k,p)::r,_,⟨v,t,e,q,h⟩=>⟨v,t,e,T7.mono s p q,a38.mono s r h⟩
inductive a32 where
 |lst (ps:List PV)|dct (kvs:List (List Key×PV))|txt (kvs:List (List Key×PV))
inductive g6 where
 |val (p:PV)|ow (c:a32)|bo (c:a32)
abbrev g6.own(ps:List PV):g6:= .ow (.lst ps)
abbrev g6.bor(ps:List PV):g6:= .bo (.lst ps)
def a37(K:AE)(F H:Hp)(v:V):a32->Prop
 | .lst ps=>∃a xs,v= .ref a/\F a=none/\H a=some (.lst xs)/\w8 K F ps xs
 | .dct kvs=>∃a xs,v= .ref a/\F a=none/\H a=some (.dT xs)/\a38 K F kvs xs
 | .txt kvs=>∃a xs,v= .ref a/\F a=none/\H a=some (.dK xs)/\a38 K F kvs (xs.map s1)
def U1(K:AE)(F H:Hp)(v:V):g6->Prop
 | .val p=>T7 K F p v
 | .ow c=>a37 K F H v c
 | .bo c=>a37 K F H v c
theorem a37.at_{K:AE}{F H:Hp}{v:V}:∀{c:a32},a37 K F H v c->∃a o,v= .ref a/\F a=none/\H a=some o
 | .lst _,⟨a,_,e,n,q,_⟩=>⟨a,_,e,n,q⟩
 | .dct _,⟨a,_,e,n,q,_⟩=>⟨a,_,e,n,q⟩
 | .txt _,⟨a,_,e,n,q,_⟩=>⟨a,_,e,n,q⟩
def NT(o:HO):Prop:=∀xs,o≠.tup xs
structure Ext(F H F' H':Hp):Prop where
 f:y4 F F'
 h:y4 H H'
 fh:y4 F' H'
 nw:∀b o,F b=none->H b=some o->NT o->F' b=none
 nf:∀b o u,F' b=some (.frz o u)->F b=some (.frz o u)
def y4.refl(H:Hp):y4 H H:=fun _ _ e=>e
def Ext.refl(s:y4 F H):Ext F H F H:=⟨y4.refl F,y4.refl H,s,fun _ _ e _ _=>e,fun _ _ _ e=>e⟩
def Ext.trans{F H F1 H1 F2 H2:Hp}(a:Ext F H F1 H1)(b:Ext F1 H1 F2 H2):Ext F H F2 H2:=
 ⟨a.f.trans b.f,a.h.trans b.h,b.fh,fun c o e q t=>b.nw c o (a.nw c o e q t) (a.h c o q) t,fun c o u e=>a.nf c o u (b.nf c o u e)⟩
def b8L{F0 F:Hp}{a:AB}{xs:List V}(h:∀b o u,F b=some (.frz o u)->F0 b=some (.frz o u)):∀b o u,K7 F a (.lst xs) b=some (.frz o u)->F0 b=some (.frz o u):=fun b o u z=>by
 by_cases hb:b=a
 ·subst hb;rw [z9] at z;cases z
 ·rw [w4 hb] at z;exact h _ _ _ z
theorem a37.ext{K:AE}{F H F' H':Hp}{v:V}(x:Ext F H F' H'):∀{c:a32},a37 K F H v c->a37 K F' H' v c
 | .lst _,⟨a,xs,e,n,q,r⟩=>⟨a,xs,e,x.nw _ _ n q (fun _ h=>nomatch h),x.h _ _ q,w8.mono x.f _ r⟩
 | .dct _,⟨a,xs,e,n,q,r⟩=>⟨a,xs,e,x.nw _ _ n q (fun _ h=>nomatch h),x.h _ _ q,a38.mono x.f _ r⟩
 | .txt _,⟨a,xs,e,n,q,r⟩=>⟨a,xs,e,x.nw _ _ n q (fun _ h=>nomatch h),x.h _ _ q,a38.mono x.f _ r⟩
theorem U1.ext{K:AE}{F H F' H':Hp}{v:V}(x:Ext F H F' H'):∀{r:g6},U1 K F H v r->U1 K F' H' v r
 | .val p,h=>T7.mono x.f p h
 | .ow _,h=>a37.ext x h
 | .bo _,h=>a37.ext x h
def a32.rd:a32->PV
 | .lst ps=> .list ps
 | .dct kvs=> .dict ((.tuple [],.none)::kvs.map fun kv=>(.tuple (kv.1.map kP),kv.2))
 | .txt kvs=> .dict (kvs.map fun kv=>(.tuple (kv.1.map kP),kv.2))
def g6.rd:g6->PV
 | .val p=>p
 | .ow c=>c.rd
 | .bo c=>c.rd
def g6.toVal:g6->Option PV
 | .val p=>some p
 | .ow (.lst ps)=>some (.list ps)
 | .ow (.dct _)=>none
 | .ow (.txt _)=>none
 | .bo _=>none
theorem a2p.of{K:AE}{F H:Hp}(s:y4 F H):∀{kvs:List (List Key×PV)} {xs:List (List Key×V)},a38 K F kvs xs->a2p K H (kvs.map fun kv=>(PyData.tuple (kv.1.map kP),kv.2)) xs
 |[],_,h=>h
 |(k,p)::r,_,⟨v,t,e,q,h⟩=>⟨k,v,t,e,rfl,T7.mono s p q,a2p.of s h⟩
theorem a37.rd{K:AE}{F H:Hp}{v:V}(s:y4 F H):∀{c:a32},a37 K F H v c->T7 K H c.rd v
 | .lst ps,⟨a,xs,e,n,q,r⟩=>⟨a,xs,e,SqL.of q,w8.mono s _ r⟩
 | .dct kvs,⟨a,xs,e,n,q,r⟩=> .inr (.inl ⟨a,xs,e,q,[],.non,xs,rfl,rfl,rfl,a2p.of s r⟩)
 | .txt kvs,⟨a,xs,e,n,q,r⟩=> .inl ⟨a,xs,e,q,a2p.of s r⟩
theorem U1.rd{K:AE}{F H:Hp}{v:V}(s:y4 F H):∀{r:g6},U1 K F H v r->T7 K H r.rd v
 | .val p,h=>T7.mono s p h
 | .ow _,h=>a37.rd s h
 | .bo _,h=>a37.rd s h
structure C0(K:AE)(F H F' H':Hp)(v:V)(r:g6):Prop where
 x:Ext F H F' H'
 rep:U1 K F' H' v r
 fr:∀c a,r= .ow c->v= .ref a->H a=none
def C0.val{K:AE}{F H F' H':Hp}{v:V}{p:PV}(x:Ext F H F' H')(r:T7 K F' p v):C0 K F H F' H' v (.val p):=⟨x,r,fun _ _ e=>nomatch e⟩
def C0.here{K:AE}{F H:Hp}{v:V}{p:PV}(s:y4 F H)(r:T7 K F p v):C0 K F H F H v (.val p):=C0.val (Ext.refl s) r
def C0.trans{K:AE}{F H F1 H1 F2 H2:Hp}{v:V}{r:g6}(a:Ext F H F1 H1)(b:C0 K F1 H1 F2 H2 v r):C0 K F H F2 H2 v r:=
 ⟨a.trans b.x,b.rep,fun ps c e q=>a.h.free (b.fr ps c e q)⟩
theorem C0.toVal{K:AE}{F H F' H':Hp}{v:V}{p:PV}:∀{r:g6},C0 K F H F' H' v r->r.toVal=some p->∃F2,C0 K F H F2 H' v (.val p)
 | .val q,o,e=>by cases e;exact⟨F',o⟩
 | .bo _,_,e=>nomatch e
 | .ow (.dct _),_,e=>nomatch e
 | .ow (.txt _),_,e=>nomatch e
 | .ow (.lst ps),o,e=>by
   cases e
   obtain⟨a,xs,rfl,n,q,r⟩:=o.rep
   have fr:=o.fr _ a rfl rfl
   have up:y4 F' (K7 F' a (.lst xs)):=fun b u z=>by rw [w4 (x9 z n)];exact z
   refine⟨K7 F' a (.lst xs),C0.val ⟨o.x.f.trans up,o.x.h,fun b u z=> ?_,fun b u z y t=> ?_,b8L o.x.nf⟩ ⟨a,xs,rfl,SqL.of z9,w8.mono up _ r⟩⟩
   ·by_cases hb:b=a
    ·subst hb;rw [z9] at z;cases z;exact q
    ·rw [w4 hb] at z;exact o.x.fh _ _ z
   ·rw [w4 (x9 y fr)];exact o.x.nw b u z y t
def a4V(n:H a=none):y4 H (K7 H a o):=fun b u z=>by rw [w4 (x9 z n)];exact z
def Ext.lay(s:y4 F H)(n:H a=none)(hf:∀x u,o≠.frz x u:=by intro _ _ h;cases h):Ext F H (K7 F a o) (K7 H a o):=
 ⟨a4V (s.free n),a4V n,fun b u z=>by
  by_cases hb:b=a
  ·subst hb;rw [z9] at z ⊢;exact z
  ·rw [w4 hb] at z ⊢;exact s _ _ z,fun b u z y _=>by rw [w4 (x9 y n)];exact z,fun b w u z=>by
  by_cases hb:b=a
  ·subst hb;rw [z9] at z;exact absurd (Option.some.inj z) (hf w u)
  ·rw [w4 hb] at z;exact z⟩
def Ext.layH(s:y4 F H)(n:H a=none):Ext F H F (K7 H a o):=
 ⟨y4.refl F,a4V n,fun b u z=>by rw [w4 (x9 (s _ _ z) n)];exact s _ _ z,fun b u z y _=>z,fun _ _ _ z=>z⟩
def C0.tup{K:AE}{F H:Hp}{a:AB}{xs:List V}{ps:List PV}(s:y4 F H)(n:H a=none)(r:w8 K F ps xs):C0 K F H (K7 F a (.tup xs)) (K7 H a (.tup xs)) (.ref a) (.val (.tuple ps)):=
 C0.val (Ext.lay s n) ⟨a,xs,rfl,TqT.of z9,w8.mono (a4V (s.free n)) _ r⟩
def C0.lst{K:AE}{F H:Hp}{a:AB}{xs:List V}{ps:List PV}(s:y4 F H)(n:H a=none)(r:w8 K F ps xs):C0 K F H F (K7 H a (.lst xs)) (.ref a) (.own ps):=
 ⟨Ext.layH s n,⟨a,xs,rfl,s.free n,z9,r⟩,fun _ _ _ e=>by cases e;exact n⟩
abbrev e9:=List (Option g6)
structure W7(K:AE)(F H:Hp)(σ:L2.St)(ρ:e9):Prop where
 fh:y4 F H
 len:σ.length=ρ.length
 at_:∀(i:Nat) (r:g6),ρ[i]?=some (some r)->∃v,σ[i]?=some (some v)/\U1 K F H v r
 nb:∀(i:Nat) (c:a32),ρ[i]?≠some (some (.bo c))
 ap:∀(i j:Nat) (c d:a32) (a:AB),i≠j->ρ[i]?=some (some (.ow c))->ρ[j]?=some (some (.ow d))->σ[i]?=some (some (.ref a))->σ[j]?≠some (some (.ref a))
def W7.ext{K:AE}{F H F' H':Hp}{σ:L2.St}{ρ:e9}(e:W7 K F H σ ρ)(x:Ext F H F' H'):W7 K F' H' σ ρ:=
 ⟨x.fh,e.len,fun i r q=>let ⟨v,a,b⟩:=e.at_ i r q;⟨v,a,b.ext x⟩,e.nb,e.ap⟩
abbrev M:=e9->Option g6
def tM(K:AE)(m:M):TE:=fun σ H Q=>∃F ρ r,W7 K F H σ ρ/\m ρ=some r/\∀v F' H',C0 K F H F' H' v r->Q v H'
abbrev EE(X:Cx)(e:AS)(m:M):Prop:=PE X e (tM X.K m)
def D3(h:PE X e t)(i:∀σ H Q,t' σ H Q->t σ H Q):PE X e t':=fun pins s σ H Q I q=>h pins s σ H Q I (i σ H Q q)
def b2w(h:PT X e t)(i:∀σ H Q,t' σ H Q->t σ H Q):PT X e t':=fun pins s σ H Q I q=>h pins s σ H Q I (i σ H Q q)
def b9k(h:PW X e t)(i:∀σ H Q,t' σ H Q->t σ H Q):PW X e t':=fun wh pins s σ H Q I q=>h wh pins s σ H Q I (i σ H Q q)
def b8X(h:PA X e t)(i:∀σ H Q,t' σ H Q->t σ H Q):PA X e t':=fun pos pins s σ H Q I q=>h pos pins s σ H Q I (i σ H Q q)
def S1(h:PS X e t)(i:∀D σ H,t' D σ H->t D σ H):PS X e t':=fun pins s σ H D I q=>h pins s σ H D I (i D σ H q)
def a8w(h:PSs X e t)(i:∀D σ H,t' D σ H->t D σ H):PSs X e t':=fun pins s σ H D I q=>h pins s σ H D I (i D σ H q)
def mC(p:PV):M:=fun _=>some (.val p)
def a9(i:Nat):M:=fun ρ=>match ρ[i]? with
 |some (some (.ow c))=>some (.bo c)
 |some (some r)=>some r
 |_=>none
def a4p(h:PE X e (tC v))(r:∀H,T7 X.K H p v):EE X e (mC p):=
 D3 h fun σ H Q ⟨F,ρ,q,he,hm,k⟩=>by
  cases hm
  exact k v F H (C0.here he.fh (r F))
def b7{i j pos}:EE X (.Constant (.int i) j pos) (mC (.int i)):=a4p b85 fun _=>rfl
def a0c{b j pos}:EE X (.Constant (.bool b) j pos) (mC (.bool b)):=a4p c4q fun _=>rfl
def C4{j pos}:EE X (.Constant .none j pos) (mC .none):=a4p c3e fun _=>rfl
def d6{x j pos}:EE X (.Constant (.str x) j pos) (mC (.str x)):=a4p c3h fun _=>rfl
def c2l(i:Nat)(h:PE X (.Name x pos) (b2E i)):EE X (.Name x pos) (a9 i):=
 D3 h fun σ H Q ⟨F,ρ,r,he,hm,k⟩=>by
  unfold a9 at hm
  split at hm
  ·rename_i ps e
   cases hm
   obtain⟨v,e1,rr⟩:=he.at_ i _ e
   exact⟨v,e1,k v F H ⟨Ext.refl he.fh,rr,fun _ _ z=>nomatch z⟩⟩
  ·rename_i r' nn e
   cases hm
   obtain⟨v,e1,rr⟩:=he.at_ i _ e
   exact⟨v,e1,k v F H ⟨Ext.refl he.fh,rr,fun ps _ z=>absurd z (nn ps)⟩⟩
  ·cases hm
def rM2(K:AE)(g:g6->g6->Option g6):R2:=fun x y H Q=>∃F rx ry rz,y4 F H/\U1 K F H x rx/\U1 K F H y ry/\g rx ry=some rz/\∀v F' H',C0 K F H F' H' v rz->Q v H'
abbrev OpM(X:Cx)(f:AA->AA->Sem AA)(g:g6->g6->Option g6):Prop:=OpR X f (rM2 X.K g)
def m2(g:g6->g6->Option g6)(ma mb:M):M:=fun ρ=>(ma ρ).bind fun x=>(mb ρ).bind fun y=>g x y
def bind_some{α β:Type}{o:Option α}{f:α->Option β}{b:β}(h:o.bind f=some b):∃a,o=some a/\f a=some b:=by
 cases o with
 |none=>cases h
 |some a=>exact⟨a,rfl,h⟩
def b2F{K:AE}{g:g6->g6->Option g6}{σ:L2.St}{H:Hp}{Q:VK}(h:tM K (m2 g ma mb) σ H Q):tOp (rM2 K g) (tM K ma) (tM K mb) σ H Q:=by
 obtain⟨F,ρ,r,he,hm,k⟩:=h
 obtain⟨rx,e1,hm⟩:=bind_some hm
 obtain⟨ry,e2,hm⟩:=bind_some hm
 exact⟨F,ρ,rx,he,e1,fun v F1 H1 o1=>⟨F1,ρ,ry,he.ext o1.x,e2,fun u F2 H2 o2=>⟨F2,rx,ry,r,o2.x.fh,o1.rep.ext o2.x,o2.rep,hm,fun z F3 H3 o3=>k z F3 H3 (C0.trans (o1.x.trans o2.x) o3)⟩⟩⟩
def g7(ho:OpM X (binaryOp op) g)(ha:EE X a ma)(hb:EE X b mb):EE X (.BinOp a op b pos) (m2 g ma mb):=
 D3 (c4s ho ha hb) fun _ _ _ h=>b2F h
def c2j(ho:OpM X (compareOp op) g)(ha:EE X a ma)(hb:EE X b mb)(hm:behindInMarks op b=false):EE X (.Compare a [op] [b] pos) (m2 g ma mb):=
 D3 (c06 ho ha hb hm) fun _ _ _ h=>b2F h
def a7z(h:OpR X f r)
 (i:∀F H x y rx ry rz,y4 F H->U1 X.K F H x rx->U1 X.K F H y ry->g rx ry=some rz->∀Q:VK,(∀v F' H',C0 X.K F H F' H' v rz->Q v H')->r x y H Q):OpM X f g:=
 fun pins s σ H x y v u Q I rx ry ⟨F,ra,rb,rz,s0,h1,h2,h3,k⟩=>h pins s σ H x y v u Q I rx ry (i F H x y ra rb rz s0 h1 h2 h3 Q k)
def gI(f:Int->Int->PV):g6->g6->Option g6
 | .val (.int i),.val (.int j)=>some (.val (f i j))
 |_,_=>none
def b8O:∃f:(Int->Int->Prop)->Int->Int->Bool,∀C i j,f C i j=true↔C i j:=⟨fun C i j=> @decide (C i j) (Classical.propDecidable _),fun C i j=> @decide_eq_true_iff (C i j) (Classical.propDecidable _)⟩
def okC:(Int->Int->Prop)->Int->Int->Bool:=b8O.choose
def a2h:okC C i j=true↔C i j:=b8O.choose_spec C i j
def O6(C:Int->Int->Prop)[∀i j,Decidable (C i j)](f:Int->Int->PV):g6->g6->Option g6
 | .val (.int i),.val (.int j)=>if okC C i j=true then some (.val (f i j)) else none
 |_,_=>none
def b5V(h:gI f rx ry=some rz):∃i j,rx= .val (.int i)/\ry= .val (.int j)/\rz= .val (f i j):=by
 unfold gI at h
 split at h
 ·cases h;exact⟨_,_,rfl,rfl,rfl⟩
 ·cases h
def b76 [∀i j,Decidable (C i j)](h:O6 C f rx ry=some rz):∃i j,rx= .val (.int i)/\ry= .val (.int j)/\C i j/\rz= .val (f i j):=by
 unfold O6 at h
 split at h
 ·split at h
  ·rename_i c;cases h;exact⟨_,_,rfl,rfl,a2h.mp c,rfl⟩
  ·cases h
 ·cases h
def b8R(h:OpR X f (rI0 g))(e:∀i j H,T7 X.K H (g' i j) (g i j)):OpM X f (gI g'):=
 a7z h fun F H x y rx ry rz s h1 h2 h3 Q k=>by
  obtain⟨i,j,rfl,rfl,rfl⟩:=b5V h3
  exact⟨i,j,h1,h2,k _ F H (C0.here s (e i j F))⟩
def b2t [∀i j,Decidable (C i j)](h:OpR X f (rI C g))(e:∀i j H,T7 X.K H (g' i j) (g i j)):OpM X f (O6 C g'):=
 a7z h fun F H x y rx ry rz s h1 h2 h3 Q k=>by
  obtain⟨i,j,rfl,rfl,c,rfl⟩:=b76 h3
  exact⟨i,j,h1,h2,c,k _ F H (C0.here s (e i j F))⟩
section
variable {X:Cx}{pins:List (AB×Obj)}{σ:L2.St}{H:Hp}{s:AG}
def a4G(I:Inv X pins σ H s)(h:SqL X.K H a xs)(h':SqT X.K H a ys):False:=by
 obtain⟨its,r,p,_⟩:=I.list h
 obtain⟨its',r',p',_⟩:=I.tuple h'
 exact SeqAt.ne_of_list_tuple p.isList (show s.heap.IsTuple a its'.toArray from p') rfl
def a7Y(I:Inv X pins σ H s)(h:H a=some (.dK ys))(h':SqL X.K H a xs):False:=by
 obtain⟨its,r,⟨o,n,e,c,_⟩,_⟩:=I.list h'
 obtain⟨_,_,_,_,o',_,_,e',ex,_⟩:=I.hok a _ h
 rw [e] at e';cases e'
 have:=ex.1
 rw [c] at this;exact absurd this (by simp)
def a7Z(I:Inv X pins σ H s)(h:H a=some (.dK ys))(h':SqT X.K H a xs):False:=by
 obtain⟨its,r,⟨o,e,c,_⟩,_⟩:=I.tuple h'
 obtain⟨_,_,_,_,o',_,_,e',ex,_⟩:=I.hok a _ h
 rw [e] at e';cases e'
 have:=ex.1
 rw [c] at this;exact absurd this (by simp)
def a9m(I:Inv X pins σ H s)(h:H a=some (.dT ys))(h':SqL X.K H a xs):False:=by
 obtain⟨its,r,⟨o,n,e,c,_⟩,_⟩:=I.list h'
 obtain⟨_,_,_,_,o',_,_,e',ex,_⟩:=I.hok a _ h
 rw [e] at e';cases e'
 have:=ex.1
 rw [c] at this;exact absurd this (by simp)
def a9n(I:Inv X pins σ H s)(h:H a=some (.dT ys))(h':SqT X.K H a xs):False:=by
 obtain⟨its,r,⟨o,e,c,_⟩,_⟩:=I.tuple h'
 obtain⟨_,_,_,_,o',_,_,e',ex,_⟩:=I.hok a _ h
 rw [e] at e';cases e'
 have:=ex.1
 rw [c] at this;exact absurd this (by simp)
def b5T(I:Inv X pins σ H s)(h:b7B X.K x v):∃(a:AB) (o:Obj) (fd:FuncData),v= .ref a/\s.heap.get? a=some o/\o.data= .func fd/\fd.name=x:=by
 obtain⟨a,oc,od,fd,osl,e,k,n⟩:=h
 exact⟨a,_,fd,e,I.kIn a _ k,rfl,n⟩
def a69(I:Inv X pins σ H s)(h:c14 X.K H x v):∃(a C:AB) (o:Obj) (vs:Array AA),v= .ref a/\s.heap.get? a=some o/\o.cls= .ref C/\o.data= .fields vs/\X6 X.K x C/\o.dict=none:=by
 obtain⟨a,C,φ,e,q,k,n⟩:=h
 obtain⟨oe,vs,h1,h2,h3,h4⟩:=k _ (I.hok a _ q).1
 exact⟨a,C,oe,vs,e,h1,h2,h3,n,h4⟩
def a9q(I:Inv X pins σ H s)(h:a7b X.K H x t (.ref a))(h':SqT X.K H a xs):False:=by
 obtain⟨its,r,⟨o',e',c',n',d'⟩,_⟩:=I.tuple h'
 rcases h with⟨_,h⟩|⟨_,h⟩
 ·obtain⟨b,o,fd,e,g,d,_⟩:=b5T I h
  cases e
  rw [g] at e';cases e'
  rw [d] at d';cases d'
 ·obtain⟨b,C,o,vs,e,g,c,d,_⟩:=a69 I h
  cases e
  rw [g] at e';cases e'
  rw [d] at d';cases d'
def a9p(I:Inv X pins σ H s)(h:a7b X.K H x t (.ref a))(h':SqL X.K H a xs):False:=by
 obtain⟨its,r,pl,_⟩:=I.list h'
 obtain⟨o',e',c',n',d'⟩:=pl.isList
 rcases h with⟨_,h⟩|⟨_,h⟩
 ·obtain⟨b,o,fd,e,g,d,_⟩:=b5T I h
  cases e
  rw [g] at e';cases e'
  rw [d] at d';cases d'
 ·obtain⟨b,C,o,vs,e,g,c,d,_⟩:=a69 I h
  cases e
  rw [g] at e';cases e'
  rw [d] at d';cases d'
def a9o(I:Inv X pins σ H s)(h:a7b X.K H x t (.ref a))(h':H a=some (.dK ys)):False:=by
 rcases h with⟨_,b,oc,od,fd,osl,e,k,_⟩|⟨_,b,C,φ,e,q,_⟩
 ·cases e
  have:=(I.bs a _ (I.ok.mod.kin a _ k)).2
  rw [this] at h';cases h'
 ·cases e
  rw [q] at h';cases h'
def b1c(I:Inv X pins σ H s)(h:a7b X.K H x t (.ref a))(h':H a=some (.dT ys)):False:=by
 rcases h with⟨_,b,oc,od,fd,osl,e,k,_⟩|⟨_,b,C,φ,e,q,_⟩
 ·cases e
  have:=(I.bs a _ (I.ok.mod.kin a _ k)).2
  rw [this] at h';cases h'
 ·cases e
  rw [q] at h';cases h'
def b1d(I:Inv X pins σ H s)(h:b7B X.K x v)(h':c14 X.K H y v):False:=by
 obtain⟨b,oc,od,fd,osl,e,k,_⟩:=h
 obtain⟨b',C,φ,e',q,_⟩:=h'
 rw [e] at e';cases e'
 have:=(I.bs b _ (I.ok.mod.kin b _ k)).2
 rw [this] at q;cases q
def c36(I:Inv X pins σ H s)(h:a7b X.K H x t v)(h':a7b X.K H y u v):x=y/\t=u:=by
 rcases h with⟨rfl,h⟩|⟨rfl,h⟩<;>rcases h' with⟨rfl,h'⟩|⟨rfl,h'⟩
 all_goals first|refine⟨?_,rfl⟩|skip
 ·obtain⟨b,oc,od,fd,osl,e,k,n⟩:=h
  obtain⟨b',oc',od',fd',osl',e',k',n'⟩:=h'
  rw [e] at e';cases e'
  rw [k] at k';cases k'
  rw [<-n,n']
 ·exact(b1d I h h').elim
 ·exact(b1d I h' h).elim
 ·obtain⟨b,C,o,vs,e,g,c,d,n,_⟩:=a69 I h
  obtain⟨b',C',o',vs',e',g',c',d',n',_⟩:=a69 I h'
  rw [e] at e';cases e'
  rw [g] at g';cases g'
  rw [c] at c';cases c'
  exact n.inj n'
def b6h(I:Inv X pins σ H s)(h:a6t X.K H x m fs v):∃(a C:AB) (o:Obj),v= .ref a/\s.heap.get? a=some o/\o.cls= .ref C/\X6 X.K x C:=by
 rcases h with⟨_,a,C,dx,e,q,n⟩|⟨_,a,C,dx,φ,e,q,r,d,n⟩
 ·obtain⟨_,_,_,g,_⟩:=I.hok a _ q
  exact⟨a,C,_,e,g,rfl,n⟩
 ·obtain⟨oe,vs,h1,h2,_⟩:=r _ (I.hok a _ q).1
  exact⟨a,C,oe,e,h1,h2,n⟩
def a9t(I:Inv X pins σ H s)(h:a6t X.K H x m fs (.ref a))(h':SqT X.K H a xs):False:=by
 obtain⟨its,r,⟨o',e',c',n',d'⟩,_⟩:=I.tuple h'
 obtain⟨b,C,o,e,g,c,_⟩:=b6h I h
 cases e
 rw [g] at e';cases e'
 rw [c] at c';cases c'
def a9s(I:Inv X pins σ H s)(h:a6t X.K H x m fs (.ref a))(h':SqL X.K H a xs):False:=by
 obtain⟨its,r,pl,_⟩:=I.list h'
 obtain⟨o',e',c',n',d'⟩:=pl.isList
 obtain⟨b,C,o,e,g,c,_⟩:=b6h I h
 cases e
 rw [g] at e';cases e'
 rw [c] at c';cases c'
def a9r(h:a6t X.K H x m fs (.ref a))(h':H a=some (.dK ys)):False:=by
 rcases h with⟨_,b,C,dx,e,q,n⟩|⟨_,b,C,dx,φ,e,q,r,d,n⟩
 ·cases e;rw [q] at h';cases h'
 ·cases e;rw [q] at h';cases h'
def b1e(h:a6t X.K H x m fs (.ref a))(h':H a=some (.dT ys)):False:=by
 rcases h with⟨_,b,C,dx,e,q,n⟩|⟨_,b,C,dx,φ,e,q,r,d,n⟩
 ·cases e;rw [q] at h';cases h'
 ·cases e;rw [q] at h';cases h'
def b1f(I:Inv X pins σ H s)(h:a6t X.K H x m fs v)(h':a7b X.K H y t v):False:=by
 rcases h' with⟨_,h'⟩|⟨_,h'⟩
 ·obtain⟨b,oc,od,fd,osl,e,k,_⟩:=h'
  have nn:=(I.bs b _ (I.ok.mod.kin b _ k)).2
  rcases h with⟨_,b',C,dx,e',q,n⟩|⟨_,b',C,dx,φ,e',q,r,d,n⟩
  ·rw [e] at e';cases e';rw [nn] at q;cases q
  ·rw [e] at e';cases e';rw [nn] at q;cases q
 ·obtain⟨b,C,o,vs,e,g,c,d,n,dn⟩:=a69 I h'
  rcases h with⟨_,b',C',dx,e',q,n'⟩|⟨_,b',C',dx,φ,e',q,r,d',n'⟩
  ·rw [e] at e';cases e'
   obtain⟨_,_,_,g',_⟩:=I.hok _ _ q
   rw [g] at g';cases g'
   cases dn
  ·rw [e] at e';cases e'
   obtain⟨oe,vs',h1,h2,h3,h4⟩:=r _ (I.hok _ _ q).1
   rw [g] at h1;cases h1
   rw [dn] at h4;cases h4
def c4j(I:Inv X pins σ H s)(h:a6t X.K H x m fs v)(h':a6t X.K H y m' fs' v):(x,m)::fs=(y,m')::fs':=by
 rcases h with⟨rfl,b,C,dx,e,q,n⟩|⟨rfl,b,C,dx,φ,e,q,r,d,n⟩<;>rcases h' with⟨rfl,b',C',dx',e',q',n'⟩|⟨rfl,b',C',dx',φ',e',q',r',d',n'⟩
 ·rw [e] at e';cases e';rw [q] at q';cases q';rw [n.inj n']
 ·rw [e] at e';cases e';rw [q] at q';cases q'
 ·rw [e] at e';cases e';rw [q] at q';cases q'
 ·rw [e] at e';cases e';rw [q] at q';cases q'
  obtain⟨o1,v1,a1,a2,a3,a4⟩:=r _ (I.hok _ _ q).1
  obtain⟨o2,v2,b1,b2,b3,b4⟩:=r' _ (I.hok _ _ q).1
  rw [a1] at b1;cases b1
  rw [a2] at b2;cases b2
  rw [a4] at b4;cases b4
  rw [d] at d';cases d'
  rw [n.inj n']
mutual
theorem T7.inj(I:Inv X pins σ H s):∀(p q:PV) {v:V},T7 X.K H p v->T7 X.K H q v->p=q
 | .tuple ps,q,v,⟨a,xs,e,h,r⟩,h'=>by
   subst e
   cases q with
   |tuple qs=>
    obtain⟨a',xs',e',h',r'⟩:=h'
    cases e'
    cases I.tuple_inj h.sq h'.sq
    rw [w8.inj I ps qs r r']
   |list qs=>obtain⟨a',xs',e',h',r'⟩:=h';cases e';exact(a4G I h' h.sq).elim
   |dict qs=>
    rcases h' with⟨a',_,e',h',_⟩|⟨a',_,e',h',_⟩|⟨x,t,_,h'⟩|⟨x,m,fs,h',_⟩
    ·cases e';exact(a7Z I h' h.sq).elim
    ·cases e';exact(a9n I h' h.sq).elim
    ·exact(a9q I h' h.sq).elim
    ·exact(a9t I h' h.sq).elim
   |_=>cases h'
 | .list ps,q,v,⟨a,xs,e,h,r⟩,h'=>by
   subst e
   cases q with
   |list qs=>
    obtain⟨a',xs',e',h',r'⟩:=h'
    cases e'
    cases I.list_inj h h'
    rw [w8.inj I ps qs r r']
   |tuple qs=>obtain⟨a',xs',e',h',r'⟩:=h';cases e';exact(a4G I h h'.sq).elim
   |dict qs=>
    rcases h' with⟨a',_,e',h',_⟩|⟨a',_,e',h',_⟩|⟨x,t,_,h'⟩|⟨x,m,fs,h',_⟩
    ·cases e';exact(a7Y I h' h).elim
    ·cases e';exact(a9m I h' h).elim
    ·exact(a9p I h' h).elim
    ·exact(a9s I h' h).elim
   |_=>cases h'
 | .dict ps,q,v,.inl ⟨a,ys,e,h,hr⟩,h'=>by
   subst e
   cases q with
   |tuple qs=>obtain⟨a',xs',e',h',r'⟩:=h';cases e';exact(a7Z I h h'.sq).elim
   |list qs=>obtain⟨a',xs',e',h',r'⟩:=h';cases e';exact(a7Y I h h').elim
   |dict qs=>
    rcases h' with⟨a',_,e',h',r'⟩|⟨a',_,e',h',_⟩|⟨x,t,_,h'⟩|⟨x,m,fs,h',_⟩
    ·cases e';rw [h] at h';cases h';rw [a2p.inj I ps qs hr r']
    ·cases e';rw [h] at h';cases h'
    ·exact(a9o I h' h).elim
    ·exact(a9r h' h).elim
   |_=>cases h'
 | .dict ps,q,v,.inr (.inl ⟨a,ys,e,h,hr⟩),h'=>by
   subst e
   cases q with
   |tuple qs=>obtain⟨a',xs',e',h',r'⟩:=h';cases e';exact(a9n I h h'.sq).elim
   |list qs=>obtain⟨a',xs',e',h',r'⟩:=h';cases e';exact(a9m I h h').elim
   |dict qs=>
    rcases h' with⟨a',_,e',h',_⟩|⟨a',_,e',h',r'⟩|⟨x,t,_,h'⟩|⟨x,m,fs,h',_⟩
    ·cases e';rw [h] at h';cases h'
    ·cases e';rw [h] at h';cases h';rw [a2p.inj I ps qs hr r']
    ·exact(b1c I h' h).elim
    ·exact(b1e h' h).elim
   |_=>cases h'
 | .dict ps,q,v,.inr (.inr (.inr ⟨x,m,fs,h,hr⟩)),h'=>by
   cases q with
   |tuple qs=>obtain⟨a',xs',e',h',r'⟩:=h';subst e';exact(a9t I h h'.sq).elim
   |list qs=>obtain⟨a',xs',e',h',r'⟩:=h';subst e';exact(a9s I h h').elim
   |dict qs=>
    rcases h' with⟨a',_,e',h',_⟩|⟨a',_,e',h',_⟩|⟨y,u,e1,h'⟩|⟨y,m',fs',h',hr'⟩
    ·subst e';exact(a9r h h').elim
    ·subst e';exact(b1e h h').elim
    ·exact(b1f I h h').elim
    ·have z:=c4j I h h'
     rw [z] at hr
     rw [a39.inj I ps qs hr hr']
   |none=>obtain⟨_,e⟩:=h.ref;rw [e] at h';cases h'
   |bool _=>obtain⟨_,e⟩:=h.ref;rw [e] at h';cases h'
   |int _=>obtain⟨_,e⟩:=h.ref;rw [e] at h';cases h'
   |str _=>obtain⟨_,e⟩:=h.ref;rw [e] at h';cases h'
 | .dict ps,q,v,.inr (.inr (.inl ⟨x,t,e0,h⟩)),h'=>by
   subst e0
   cases q with
   |tuple qs=>obtain⟨a',xs',e',h',r'⟩:=h';subst e';exact(a9q I h h'.sq).elim
   |list qs=>obtain⟨a',xs',e',h',r'⟩:=h';subst e';exact(a9p I h h').elim
   |dict qs=>
    rcases h' with⟨a',_,e',h',_⟩|⟨a',_,e',h',_⟩|⟨y,u,e1,h'⟩|⟨y,m,fs,h',_⟩
    ·subst e';exact(a9o I h h').elim
    ·subst e';exact(b1c I h h').elim
    ·obtain⟨z1,z2⟩:=c36 I h h';rw [e1,z1,z2]
    ·exact(b1f I h' h).elim
   |none=>obtain⟨_,e⟩:=h.ref;rw [e] at h';cases h'
   |bool _=>obtain⟨_,e⟩:=h.ref;rw [e] at h';cases h'
   |int _=>obtain⟨_,e⟩:=h.ref;rw [e] at h';cases h'
   |str _=>obtain⟨_,e⟩:=h.ref;rw [e] at h';cases h'
 | .none,q,v,h,h'=>by
   cases h
   cases q with
   |none=>rfl
   |tuple _=>obtain⟨_,_,e,_⟩:=h';cases e
   |list _=>obtain⟨_,_,e,_⟩:=h';cases e
   |dict _=>
    rcases h' with⟨_,_,e,_,_⟩|⟨_,_,e,_⟩|⟨_,_,_,h'⟩|⟨_,_,_,h',_⟩
    ·cases e
    ·cases e
    ·obtain⟨_,e⟩:=h'.ref;cases e
    ·obtain⟨_,e⟩:=h'.ref;cases e
   |_=>cases h'
 | .bool _,q,v,h,h'=>by
   cases h
   cases q with
   |bool _=>cases h';rfl
   |tuple _=>obtain⟨_,_,e,_⟩:=h';cases e
   |list _=>obtain⟨_,_,e,_⟩:=h';cases e
   |dict _=>
    rcases h' with⟨_,_,e,_,_⟩|⟨_,_,e,_⟩|⟨_,_,_,h'⟩|⟨_,_,_,h',_⟩
    ·cases e
    ·cases e
    ·obtain⟨_,e⟩:=h'.ref;cases e
    ·obtain⟨_,e⟩:=h'.ref;cases e
   |_=>cases h'
 | .int _,q,v,h,h'=>by
   cases h
   cases q with
   |int _=>cases h';rfl
   |tuple _=>obtain⟨_,_,e,_⟩:=h';cases e
   |list _=>obtain⟨_,_,e,_⟩:=h';cases e
   |dict _=>
    rcases h' with⟨_,_,e,_,_⟩|⟨_,_,e,_⟩|⟨_,_,_,h'⟩|⟨_,_,_,h',_⟩
    ·cases e
    ·cases e
    ·obtain⟨_,e⟩:=h'.ref;cases e
    ·obtain⟨_,e⟩:=h'.ref;cases e
   |_=>cases h'
 | .str _,q,v,h,h'=>by
   cases h
   cases q with
   |str _=>cases h';rfl
   |tuple _=>obtain⟨_,_,e,_⟩:=h';cases e
   |list _=>obtain⟨_,_,e,_⟩:=h';cases e
   |dict _=>
    rcases h' with⟨_,_,e,_,_⟩|⟨_,_,e,_⟩|⟨_,_,_,h'⟩|⟨_,_,_,h',_⟩
    ·cases e
    ·cases e
    ·obtain⟨_,e⟩:=h'.ref;cases e
    ·obtain⟨_,e⟩:=h'.ref;cases e
   |_=>cases h'
theorem w8.inj(I:Inv X pins σ H s):∀(ps qs:List PV) {vs:List V},w8 X.K H ps vs->w8 X.K H qs vs->ps=qs
 |[],qs,vs,h,h'=>by
  cases h
  cases qs with
  |nil=>rfl
  |cons q qs=>obtain⟨_,_,e,_⟩:=h';cases e
 |p::ps,qs,vs,⟨v,r,e,h,t⟩,h'=>by
  subst e
  cases qs with
  |nil=>cases h'
  |cons q qs=>
   obtain⟨v',r',e',h',t'⟩:=h'
   cases e'
   rw [T7.inj I p q h h',w8.inj I ps qs t t']
theorem a2p.inj(I:Inv X pins σ H s):∀(es fs:List (PV×PV)) {ys:List (List Key×V)},a2p X.K H es ys->a2p X.K H fs ys->es=fs
 |[],fs,ys,h,h'=>by
  cases h
  cases fs with
  |nil=>rfl
  |cons f fs=>obtain⟨k,p⟩:=f;obtain⟨_,_,_,e,_⟩:=h';cases e
 |(k,p)::es,fs,ys,⟨kk,v,r,e,z,q,t⟩,h'=>by
  subst e
  cases fs with
  |nil=>cases h'
  |cons f fs=>
   obtain⟨k',p'⟩:=f
   obtain⟨kk',v',r',e',z',q',t'⟩:=h'
   cases e'
   rw [z,z',T7.inj I p p' q q',a2p.inj I es fs t t']
theorem a39.inj(I:Inv X pins σ H s):∀(es fs:List (PV×PV)) {ys:List (Str×V)},a39 X.K H es ys->a39 X.K H fs ys->es=fs
 |[],fs,ys,h,h'=>by
  cases h
  cases fs with
  |nil=>rfl
  |cons f fs=>obtain⟨k,p⟩:=f;obtain⟨_,_,_,e,_⟩:=h';cases e
 |(k,p)::es,fs,ys,⟨kk,v,r,e,z,q,t⟩,h'=>by
  subst e;subst z
  cases fs with
  |nil=>cases h'
  |cons f fs=>
   obtain⟨k',p'⟩:=f
   obtain⟨kk',v',r',e',z',q',t'⟩:=h'
   cases e';subst z'
   rw [T7.inj I p p' q q',a39.inj I es fs t t']
end
end
mutual
def B7:PV->Nat->Bool
 | .list xs,n+1=>L4 xs n
 | .tuple xs,n+1=>L4 xs n
 | .list _,0=>false
 | .tuple _,0=>false
 | .dict _,_=>false
 | .none,_=>true
 | .bool _,_=>true
 | .int _,_=>true
 | .str _,_=>true
def L4:List PV->Nat->Bool
 |[],_=>true
 |x::xs,n=>B7 x n && L4 xs n
end
mutual
theorem a8S:∀(p:PV) (n:Nat),B7 p n=true->PyData.eqv p p=true
 | .none,_,_=>by simp [PyData.eqv]
 | .bool _,_,_=>by simp [PyData.eqv]
 | .int _,_,_=>by simp [PyData.eqv]
 | .str _,_,_=>by simp [PyData.eqv]
 | .list xs,n+1,h=>by simp only [PyData.eqv];exact a2R xs n (by simpa [B7] using h)
 | .tuple xs,n+1,h=>by simp only [PyData.eqv];exact a2R xs n (by simpa [B7] using h)
 | .list xs,0,h=>by simp [B7] at h
 | .tuple xs,0,h=>by simp [B7] at h
 | .dict _,_,h=>by simp [B7] at h
theorem a2R:∀(ps:List PV) (n:Nat),L4 ps n=true->PyData.eqvAll ps ps=true
 |[],_,_=>by simp [PyData.eqvAll]
 |x::xs,n,h=>by
  have h':B7 x n=true/\L4 xs n=true:=by simpa [L4] using h
  simp only [PyData.eqvAll,a8S x n h'.1,a2R xs n h'.2,Bool.and_self]
end
def eAt(ps qs:List PV)(j:Nat):Bool:=match ps[j]?,qs[j]? with
 |some p,some q=>PyData.eqv p q
 |_,_=>false
theorem a1m:∀(ps qs:List PV),PyData.eqvAll ps qs=((Ao (min ps.length qs.length)).all (eAt ps qs)&& ps.length==qs.length)
 |[],[]=>by simp [PyData.eqvAll]
 |[],_::_=>by simp [PyData.eqvAll]
 |_::_,[]=>by simp [PyData.eqvAll]
 |p::ps,q::qs=>by
  have e:min (p::ps).length (q::qs).length=min ps.length qs.length+1:=by simp only [AM];lia
  rw [e,List.range_succ_eq_map,List.all_cons,List.all_map]
  have h0:eAt (p::ps) (q::qs) 0=PyData.eqv p q:=rfl
  have h1:(eAt (p::ps) (q::qs)∘Nat.succ)=eAt ps qs:=by funext j;simp [eAt,Function.comp]
  rw [h0,h1]
  simp only [PyData.eqvAll,a1m ps qs,AM,Bool.and_assoc]
  have e2:(ps.length+1==qs.length+1)=(ps.length==qs.length):=by
   rw [Bool.eq_iff_iff];simp
  rw [e2]
section
variable {X:Cx}{pins:List (AB×Obj)}{σ:L2.St}{H:Hp}{s:AG}
structure b7A(A:Al)(s:AG)(u w:AA)(b:Bool):Prop where
 rc:SeqAt.RcAt A s u w b
 ne:SeqAt.RcNeAt A s u w (!b)
 eq:SeqAt.EqAt A s u w b
def b0Y(A:Al):A.in1.units=A.units+1:=rfl
def b6v(r:y9 xs its)(h:j<its.length):∃x,xs[j]?=some x/\A8 x its[j]:=by
 have hx:j<xs.length:=by rw [r.length];exact h
 obtain⟨u,h1,h2⟩:=r.get (i:=j) (x:=xs[j]) (by simp [hx])
 rw [Az h] at h1
 cases h1
 exact⟨xs[j],by simp [hx],h2⟩
def b4c(r:w8 X.K H ps xs)(r':w8 X.K H qs ys)(rv:y9 xs its)(rv':y9 ys its2)
 (ih:∀p q x y u w,p∈ps->q∈qs->T7 X.K H p x->T7 X.K H q y->A8 x u->A8 y w->b7A A s u w (PyData.eqv p q)):
 ∀j (h1:j<its.toArray.size) (h2:j<its2.toArray.size),SeqAt.EqAt A s its.toArray[j] its2.toArray[j] (eAt ps qs j):=by
 intro j h1 h2
 have h1':j<its.length:=by simpa using h1
 have h2':j<its2.length:=by simpa using h2
 obtain⟨x,ex,rx⟩:=b6v rv h1'
 obtain⟨y,ey,ry⟩:=b6v rv' h2'
 obtain⟨p,ep,hp⟩:=r.getV ex
 obtain⟨q,eq,hq⟩:=r'.getV ey
 have:eAt ps qs j=PyData.eqv p q:=by simp [eAt,ep,eq]
 rw [this]
 have z:=(ih p q x y _ _ (BH ep) (BH eq) hp hq rx ry).eq
 simpa using z
theorem a1t:∀{ps:List PV} {n:Nat} {p:PV},L4 ps n=true->p∈ps->B7 p n=true
 |[],_,_,_,h=>by cases h
 |x::xs,n,p,h,hp=>by
  have h':B7 x n=true/\L4 xs n=true:=by simpa [L4] using h
  rcases AZ.mp hp with rfl|hp
  ·exact h'.1
  ·exact a1t h'.2 hp
def b4F(I:Inv X pins σ H s):∀(n:Nat) (A:Al) (p q:PV) (x y:V) (u w:AA),A.units+n<cLine->B7 p n=true->B7 q n=true->T7 X.K H p x->T7 X.K H q y->A8 x u->A8 y w->b7A A s u w (PyData.eqv p q):=by
 intro n
 induction n with
 |zero=>
  intro A p q x y u w hu hp hq rp rq rx ry
  cases p with
  |none=>
   cases rp;cases rx
   cases q with
   |none=>cases rq;cases ry;simp only [PyData.eqv];exact⟨.none_none,.none_none,.same _⟩
   |bool j=>cases rq;cases ry;simp only [PyData.eqv];exact⟨.none_bool _,.none_bool _,.none_bool _⟩
   |int j=>cases rq;obtain⟨ty,rfl⟩:=ry;simp only [PyData.eqv];exact⟨.none_int _ _,.none_int _ _,.none_int _ _⟩
   |str j=>cases rq;obtain⟨ty,rfl⟩:=ry;simp only [PyData.eqv];exact⟨.none_str _ _,.none_str _ _,.none_str _ _⟩
   |dict _=>simp [B7] at hq
   |list _=>simp [B7] at hq
   |tuple _=>simp [B7] at hq
  |bool i=>
   cases rp;cases rx
   cases q with
   |none=>cases rq;cases ry;simp only [PyData.eqv];exact⟨.bool_none _,.bool_none _,.bool_none _⟩
   |bool j=>cases rq;cases ry;simp only [PyData.eqv];exact⟨.bool_bool _ _,.bool_bool _ _,.bool_bool _ _⟩
   |int j=>cases rq;obtain⟨ty,rfl⟩:=ry;simp only [PyData.eqv];exact⟨.bool_int _ _ _,.bool_int _ _ _,.bool_int _ _ _⟩
   |str j=>cases rq;obtain⟨ty,rfl⟩:=ry;simp only [PyData.eqv];exact⟨.bool_str _ _ _,.bool_str _ _ _,.bool_str _ _ _⟩
   |dict _=>simp [B7] at hq
   |list _=>simp [B7] at hq
   |tuple _=>simp [B7] at hq
  |int i=>
   cases rp;obtain⟨tx,rfl⟩:=rx
   cases q with
   |none=>cases rq;cases ry;simp only [PyData.eqv];exact⟨.int_none _ _,.int_none _ _,.int_none _ _⟩
   |bool j=>cases rq;cases ry;simp only [PyData.eqv];exact⟨.int_bool _ _ _,.int_bool _ _ _,.int_bool _ _ _⟩
   |int j=>cases rq;obtain⟨ty,rfl⟩:=ry;simp only [PyData.eqv];exact⟨.int_int _ _ _ _,.int_int _ _ _ _,.int_int _ _ _ _⟩
   |str j=>cases rq;obtain⟨ty,rfl⟩:=ry;simp only [PyData.eqv];exact⟨.int_str _ _ _ _,.int_str _ _ _ _,.int_str _ _ _ _⟩
   |dict _=>simp [B7] at hq
   |list _=>simp [B7] at hq
   |tuple _=>simp [B7] at hq
  |str i=>
   cases rp;obtain⟨tx,rfl⟩:=rx
   cases q with
   |none=>cases rq;cases ry;simp only [PyData.eqv];exact⟨.str_none _ _,.str_none _ _,.str_none _ _⟩
   |bool j=>cases rq;cases ry;simp only [PyData.eqv];exact⟨.str_bool _ _ _,.str_bool _ _ _,.str_bool _ _ _⟩
   |int j=>cases rq;obtain⟨ty,rfl⟩:=ry;simp only [PyData.eqv];exact⟨.str_int _ _ _ _,.str_int _ _ _ _,.str_int _ _ _ _⟩
   |str j=>cases rq;obtain⟨ty,rfl⟩:=ry;simp only [PyData.eqv];exact⟨.str_str _ _ _ _,.str_str _ _ _ _,.str_str _ _ _ _⟩
   |dict _=>simp [B7] at hq
   |list _=>simp [B7] at hq
   |tuple _=>simp [B7] at hq
  |dict _=>simp [B7] at hp
  |list _=>simp [B7] at hp
  |tuple _=>simp [B7] at hp
 |succ n ih=>
  intro A p q x y u w hu hp hq rp rq rx ry
  have hu0:A.units<cLine:=by lia
  have hu1:A.in1.units+n<cLine:=by rw [b0Y];lia
  cases p with
  |dict _=>simp [B7] at hp
  |list ps=>
   obtain⟨a,xs,rfl,hs,r⟩:=rp
   cases rx
   obtain⟨its,rv,pl,hz⟩:=I.list hs
   have okp:L4 ps n=true:=by simpa [B7] using hp
   cases q with
   |dict _=>simp [B7] at hq
   |list qs=>
    obtain⟨b,ys,rfl,hs',r'⟩:=rq
    cases ry
    obtain⟨its2,rv',pl',hz'⟩:=I.list hs'
    have okq:L4 qs n=true:=by simpa [B7] using hq
    have hle:its.toArray.size=ps.length:=by rw [<-r.length,rv.length];simp
    have hle':its2.toArray.size=qs.length:=by rw [<-r'.length,rv'.length];simp
    have he:=b4c (A:=A.in1) (s:=s) r r' rv rv' fun p q x y u w hp' hq' rp' rq' rx' ry'=>ih A.in1 p q x y u w hu1 (a1t okp hp') (a1t okq hq') rp' rq' rx' ry'
    simp only [PyData.eqv]
    have main:SeqAt.RcAt A s (.ref a) (.ref b) (PyData.eqvAll ps qs)/\SeqAt.RcNeAt A s (.ref a) (.ref b) (!PyData.eqvAll ps qs):=by
     by_cases e:its.toArray.size=its2.toArray.size
     ·have el:ps.length=qs.length:=by rw [<-hle,<-hle',e]
      have e3:PyData.eqvAll ps qs=(Ao its.toArray.size).all (eAt ps qs):=by
       rw [a1m,el,Nat.min_self,hle,el];simp
      rw [e3]
      exact⟨.lists pl.isList pl'.isList e hu0 he,.lists pl.isList pl'.isList e hu0 he⟩
     ·have e3:PyData.eqvAll ps qs=false:=by
       rw [a1m]
       have:(ps.length==qs.length)=false:=by
        rw [beq_eq_false_iff_ne];intro z;exact e (by rw [hle,hle',z])
       rw [this,Bool.and_false]
      have e4:(its.toArray.size !=its2.toArray.size)=true:=by simpa using e
      rw [e3]
      exact⟨.lists_lengths pl.isList pl'.isList e4 hu0,.lists_lengths pl.isList pl'.isList e4 hu0⟩
    refine⟨main.1,main.2, ?_⟩
    by_cases hab:a=b
    ·subst hab
     cases I.list_inj hs hs'
     cases w8.inj I ps qs r r'
     rw [a2R ps n okp]
     exact .same _
    ·exact .of_refs hab main.1
   |tuple qs=>
    obtain⟨b,ys,rfl,hs',r'⟩:=rq
    cases ry
    obtain⟨its2,rv',pl',hz'⟩:=I.tuple hs'.sq
    simp only [PyData.eqv]
    exact⟨.list_tuple pl.isList pl' hu0,.list_tuple pl.isList pl' hu0,.list_tuple pl.isList pl' hu0⟩
   |none=>cases rq;cases ry;simp only [PyData.eqv];exact⟨.list_none pl.isList hu0,.list_none pl.isList hu0,.list_none pl.isList hu0⟩
   |bool k=>cases rq;cases ry;simp only [PyData.eqv];exact⟨.list_bool _ pl.isList hu0,.list_bool _ pl.isList hu0,.list_bool _ pl.isList hu0⟩
   |int k=>cases rq;obtain⟨t,rfl⟩:=ry;simp only [PyData.eqv];exact⟨.list_int _ _ pl.isList hu0,.list_int _ _ pl.isList hu0,.list_int _ _ pl.isList hu0⟩
   |str k=>cases rq;obtain⟨t,rfl⟩:=ry;simp only [PyData.eqv];exact⟨.list_str _ _ pl.isList hu0,.list_str _ _ pl.isList hu0,.list_str _ _ pl.isList hu0⟩
  |tuple ps=>
   obtain⟨a,xs,rfl,hs,r⟩:=rp
   cases rx
   obtain⟨its,rv,pl,hz⟩:=I.tuple hs.sq
   have okp:L4 ps n=true:=by simpa [B7] using hp
   cases q with
   |dict _=>simp [B7] at hq
   |tuple qs=>
    obtain⟨b,ys,rfl,hs',r'⟩:=rq
    cases ry
    obtain⟨its2,rv',pl',hz'⟩:=I.tuple hs'.sq
    have okq:L4 qs n=true:=by simpa [B7] using hq
    have hle:its.toArray.size=ps.length:=by rw [<-r.length,rv.length];simp
    have hle':its2.toArray.size=qs.length:=by rw [<-r'.length,rv'.length];simp
    have he:=b4c (A:=A.in1) (s:=s) r r' rv rv' fun p q x y u w hp' hq' rp' rq' rx' ry'=>ih A.in1 p q x y u w hu1 (a1t okp hp') (a1t okq hq') rp' rq' rx' ry'
    simp only [PyData.eqv]
    have e3:PyData.eqvAll ps qs=((Ao (min its.toArray.size its2.toArray.size)).all (eAt ps qs)&& its.toArray.size==its2.toArray.size):=by
     rw [a1m,hle,hle']
    have main:SeqAt.RcAt A s (.ref a) (.ref b) (PyData.eqvAll ps qs)/\SeqAt.RcNeAt A s (.ref a) (.ref b) (!PyData.eqvAll ps qs):=by
     rw [e3]
     exact⟨.tuples pl pl' hu0 he,.tuples pl pl' hu0 he⟩
    refine⟨main.1,main.2, ?_⟩
    by_cases hab:a=b
    ·subst hab
     cases I.tuple_inj hs.sq hs'.sq
     cases w8.inj I ps qs r r'
     rw [a2R ps n okp]
     exact .same _
    ·exact .of_refs hab main.1
   |list qs=>
    obtain⟨b,ys,rfl,hs',r'⟩:=rq
    cases ry
    obtain⟨its2,rv',pl',hz'⟩:=I.list hs'
    simp only [PyData.eqv]
    exact⟨.tuple_list pl pl'.isList hu0,.tuple_list pl pl'.isList hu0,.tuple_list pl pl'.isList hu0⟩
   |none=>cases rq;cases ry;simp only [PyData.eqv];exact⟨.tuple_none pl hu0,.tuple_none pl hu0,.tuple_none pl hu0⟩
   |bool k=>cases rq;cases ry;simp only [PyData.eqv];exact⟨.tuple_bool _ pl hu0,.tuple_bool _ pl hu0,.tuple_bool _ pl hu0⟩
   |int k=>cases rq;obtain⟨t,rfl⟩:=ry;simp only [PyData.eqv];exact⟨.tuple_int _ _ pl hu0,.tuple_int _ _ pl hu0,.tuple_int _ _ pl hu0⟩
   |str k=>cases rq;obtain⟨t,rfl⟩:=ry;simp only [PyData.eqv];exact⟨.tuple_str _ _ pl hu0,.tuple_str _ _ pl hu0,.tuple_str _ _ pl hu0⟩
  |none=>
   cases q with
   |list qs=>
    obtain⟨b,ys,rfl,hs',r'⟩:=rq;cases ry;obtain⟨its2,rv',pl',hz'⟩:=I.list hs';cases rp;cases rx;simp only [PyData.eqv]
    exact⟨.none_list pl'.isList hu0,.none_list pl'.isList hu0,.none_list pl'.isList hu0⟩
   |tuple qs=>
    obtain⟨b,ys,rfl,hs',r'⟩:=rq;cases ry;obtain⟨its2,rv',pl',hz'⟩:=I.tuple hs'.sq;cases rp;cases rx;simp only [PyData.eqv]
    exact⟨.none_tuple pl' hu0,.none_tuple pl' hu0,.none_tuple pl' hu0⟩
   |dict _=>simp [B7] at hq
   |_=>exact ih A _ _ x y u w (by lia) (by simp [B7]) (by simp [B7]) rp rq rx ry
  |bool k=>
   cases q with
   |list qs=>
    obtain⟨b,ys,rfl,hs',r'⟩:=rq;cases ry;obtain⟨its2,rv',pl',hz'⟩:=I.list hs';cases rp;cases rx;simp only [PyData.eqv]
    exact⟨.bool_list _ pl'.isList hu0,.bool_list _ pl'.isList hu0,.bool_list _ pl'.isList hu0⟩
   |tuple qs=>
    obtain⟨b,ys,rfl,hs',r'⟩:=rq;cases ry;obtain⟨its2,rv',pl',hz'⟩:=I.tuple hs'.sq;cases rp;cases rx;simp only [PyData.eqv]
    exact⟨.bool_tuple _ pl' hu0,.bool_tuple _ pl' hu0,.bool_tuple _ pl' hu0⟩
   |dict _=>simp [B7] at hq
   |_=>exact ih A _ _ x y u w (by lia) (by simp [B7]) (by simp [B7]) rp rq rx ry
  |int k=>
   cases q with
   |list qs=>
    obtain⟨b,ys,rfl,hs',r'⟩:=rq;cases ry;obtain⟨its2,rv',pl',hz'⟩:=I.list hs';cases rp;obtain⟨t,rfl⟩:=rx;simp only [PyData.eqv]
    exact⟨.int_list _ _ pl'.isList hu0,.int_list _ _ pl'.isList hu0,.int_list _ _ pl'.isList hu0⟩
   |tuple qs=>
    obtain⟨b,ys,rfl,hs',r'⟩:=rq;cases ry;obtain⟨its2,rv',pl',hz'⟩:=I.tuple hs'.sq;cases rp;obtain⟨t,rfl⟩:=rx;simp only [PyData.eqv]
    exact⟨.int_tuple _ _ pl' hu0,.int_tuple _ _ pl' hu0,.int_tuple _ _ pl' hu0⟩
   |dict _=>simp [B7] at hq
   |_=>exact ih A _ _ x y u w (by lia) (by simp [B7]) (by simp [B7]) rp rq rx ry
  |str k=>
   cases q with
   |list qs=>
    obtain⟨b,ys,rfl,hs',r'⟩:=rq;cases ry;obtain⟨its2,rv',pl',hz'⟩:=I.list hs';cases rp;obtain⟨t,rfl⟩:=rx;simp only [PyData.eqv]
    exact⟨.str_list _ _ pl'.isList hu0,.str_list _ _ pl'.isList hu0,.str_list _ _ pl'.isList hu0⟩
   |tuple qs=>
    obtain⟨b,ys,rfl,hs',r'⟩:=rq;cases ry;obtain⟨its2,rv',pl',hz'⟩:=I.tuple hs'.sq;cases rp;obtain⟨t,rfl⟩:=rx;simp only [PyData.eqv]
    exact⟨.str_tuple _ _ pl' hu0,.str_tuple _ _ pl' hu0,.str_tuple _ _ pl' hu0⟩
   |dict _=>simp [B7] at hq
   |_=>exact ih A _ _ x y u w (by lia) (by simp [B7]) (by simp [B7]) rp rq rx ry
end
end PU
set_option maxHeartbeats 1000000
namespace PU
open PySem PySem.Spec PyProof.Rows L2
instance (i j:Int):Decidable (b4f i j):=by unfold b4f;infer_instance
instance (i j:Int):Decidable (b2K i j):=by unfold b2K;infer_instance
instance (i j:Int):Decidable (b6x i j):=by unfold b6x;infer_instance
def g6.mine:g6->Option (List PV)
 | .ow (.lst ps)=>some ps
 | .bo (.lst ps)=>some ps
 |_=>none
def b3v{K:AE}{F H:Hp}{v:V}{r:g6}{ps:List PV}(h:U1 K F H v r)(e:r.mine=some ps):∃a xs,v= .ref a/\F a=none/\H a=some (.lst xs)/\w8 K F ps xs:=by
 cases r with
 |val _=>cases e
 |ow c=>cases c<;>cases e;exact h
 |bo c=>cases c<;>cases e;exact h
def v6(x y:g6):Option g6:=match x,y with
 | .val (.int i),.val (.int j)=>some (.val (.int (i+j)))
 | .val (.str i),.val (.str j)=>if i.length+j.length<=AL then some (.val (.str (i++j))) else none
 | .val (.tuple ps),.val (.tuple qs)=>if(ps.length≠0/\qs.length≠0)/\ps.length+qs.length<=AL then some (.val (.tuple (ps++qs))) else none
 |x,y=>match x.mine,y.mine with
  |some ps,some qs=>if ps.length+qs.length<=AL then some (.own (ps++qs)) else none
  |_,_=>none
section
variable {X:Cx}
def j6:OpM X (binaryOp .Add) v6:=by
 intro pins s σ H x y v u Q I rx ry h
 obtain⟨F,ra,rb,rz,s0,h1,h2,h3,k⟩:=h
 unfold v6 at h3
 split at h3
 ·cases h3
  cases h1;cases h2
  exact c21 pins s σ H _ _ v u Q I rx ry ⟨_,_,rfl,rfl,k _ F H (C0.here s0 rfl)⟩
 ·rename_i i j
  split at h3
  ·rename_i c
   cases h3
   cases h1;cases h2
   exact b5j pins s σ H _ _ v u Q I rx ry ⟨i,j,rfl,rfl,c,k _ F H (C0.here s0 rfl)⟩
  ·cases h3
 ·rename_i ps qs
  split at h3
  ·rename_i c
   cases h3
   obtain⟨a,xs,rfl,hq,r⟩:=h1
   obtain⟨b,ys,rfl,hq',r'⟩:=h2
   refine c0W pins s σ H _ _ v u Q I rx ry ⟨a,b,xs,ys,rfl,rfl,G6 s0 hq.sq,G6 s0 hq'.sq, ?_,by rw [r.length,r'.length];exact c.2, ?_⟩
   ·intro z
    subst z
    exact c.1.1 r.length.symm
   ·refine⟨fun z=> ?_,fun _ p hp=>k _ _ _ (C0.tup s0 hp (r.append r'))⟩
    subst z
    exact absurd r'.length.symm c.1.2
  ·cases h3
 ·split at h3
  ·rename_i ps qs e1 e2
   split at h3
   ·rename_i c
    cases h3
    obtain⟨a,xs,rfl,_,hq,r⟩:=b3v h1 e1
    obtain⟨b,ys,rfl,_,hq',r'⟩:=b3v h2 e2
    refine c22 pins s σ H _ _ v u Q I rx ry ⟨a,b,xs,ys,rfl,rfl,hq,hq',by rw [r.length,r'.length];exact c,fun p hp=> ?_⟩
    exact k _ _ _ (C0.lst s0 hp (r.append r'))
   ·cases h3
  ·cases h3
def c02:OpM X (binaryOp .Sub) (gI fun i j=> .int (i - j)):=b8R c29 fun _ _ _=>rfl
def c00:OpM X (binaryOp .Mult) (O6 b4f fun i j=> .int (i*j)):=b2t c26 fun _ _ _=>rfl
def C3:OpM X (binaryOp .Mod) (O6 (fun _ j=>0<j) fun i j=> .int (i % j)):=b2t c25 fun _ _ _=>rfl
def b8S:OpM X (binaryOp .FloorDiv) (O6 b2K fun i j=> .int (i / j)):=b2t c0X fun _ _ _=>rfl
def c01:OpM X (binaryOp .Pow) (O6 b6x fun i j=> .int (i ^ j.toNat)):=b2t c27 fun _ _ _=>rfl
def b2u:OpM X (compareOp .Gt) (gI fun i j=> .bool (decide (j<i))):=b8R c4m fun _ _ _=>rfl
def M1(x y:g6):Option g6:=if B7 x.rd 50=true/\B7 y.rd 50=true then some (.val (.bool (PyData.eqv x.rd y.rd))) else none
def gNe(x y:g6):Option g6:=if B7 x.rd 50=true/\B7 y.rd 50=true then some (.val (.bool (!PyData.eqv x.rd y.rd))) else none
def r6(hu:X.A.units+64<cLine):OpM X (compareOp .Eq) M1:=by
 intro pins s σ H x y v u Q I rx ry h
 obtain⟨F,ra,rb,rz,s0,h1,h2,h3,k⟩:=h
 unfold M1 at h3
 split at h3
 ·rename_i c
  cases h3
  have z:=b4F I 50 X.A _ _ x y v u (by lia) c.1 c.2 (h1.rd s0) (h2.rd s0) rx ry
  exact z.rc _ _ _ _ ⟨.bl _,H,I,rfl,k _ F H (C0.here s0 rfl)⟩
 ·cases h3
def T5(hu:X.A.units+64<cLine):OpM X (compareOp .NotEq) gNe:=by
 intro pins s σ H x y v u Q I rx ry h
 obtain⟨F,ra,rb,rz,s0,h1,h2,h3,k⟩:=h
 unfold gNe at h3
 split at h3
 ·rename_i c
  cases h3
  have z:=b4F I 50 X.A _ _ x y v u (by lia) c.1 c.2 (h1.rd s0) (h2.rd s0) rx ry
  exact z.ne _ _ _ _ ⟨.bl _,H,I,rfl,k _ F H (C0.here s0 rfl)⟩
 ·cases h3
open Classical in
def a5t(K:AE)(H:Hp)(q:PV)(u:AA):Bool:=if h:∃p v,A8 v u/\T7 K H p v then PyData.eqv h.choose q else false
def b5L(I:Inv X pins σ H s)(r:A8 v u)(h:T7 X.K H p v):a5t X.K H q u=PyData.eqv p q:=by
 have hx:∃p v,A8 v u/\T7 X.K H p v:=⟨p,v,r,h⟩
 unfold a5t
 rw [dif_pos hx]
 obtain⟨v',r',h'⟩:=hx.choose_spec
 cases r.inj r'
 rw [T7.inj I _ _ h' h]
theorem a4c(I:Inv X pins σ H s):∀{ps:List PV} {xs:List V} {us:List AA},w8 X.K H ps xs->y9 xs us->us.any (a5t X.K H q)=ps.any fun p=>PyData.eqv p q
 |[],_,_,r,v=>by cases r;cases v;rfl
 |p::ps,_,_,⟨x,r,e,h,t⟩,v=>by
  subst e
  cases v with
  |cons a b=>rw [List.any_cons,List.any_cons,b5L I a h,a4c I t b]
theorem b6f:∀{ps:List PV} {xs:List V} {us:List AA} {u:AA},w8 X.K H ps xs->y9 xs us->u∈us->∃p x,p∈ps/\A8 x u/\T7 X.K H p x
 |[],_,_,_,r,v,h=>by cases r;cases v;cases h
 |p::ps,_,_,u,⟨x,r,e,hp,t⟩,v,h=>by
  subst e
  cases v with
  |cons a b=>
   rcases AZ.mp h with rfl|h
   ·exact⟨p,x,Ab,a,hp⟩
   ·obtain⟨p',x',h1,h2,h3⟩:=b6f t b h
    exact⟨p',x',Ah _ h1,h2,h3⟩
def PyData.items?:PV->Option (List PV)
 | .list ps=>some ps
 | .tuple ps=>some ps
 |_=>none
def gIn(neg:Bool)(x y:g6):Option g6:=match PyData.items? y.rd with
 |some ps=>if B7 x.rd 50=true/\L4 ps 50=true then some (.val (.bool (if neg then !(ps.any fun p=>PyData.eqv p x.rd) else ps.any fun p=>PyData.eqv p x.rd))) else none
 |none=>none
def a6M(I:Inv X pins σ H s)(hu:X.A.units+64<cLine)(hq:B7 q 50=true)(hp:L4 ps 50=true)
 (rq:T7 X.K H q x) (rx:A8 x v) (r:w8 X.K H ps xs) (rv:y9 xs us):∀y,y∈us.toArray->SeqAt.EqAt X.A.in1 s y v (a5t X.K H q y):=by
 intro y hy
 have hy':y∈us:=by simpa using hy
 obtain⟨p,z,h1,h2,h3⟩:=b6f r rv hy'
 rw [b5L I h2 h3]
 exact(b4F I 50 X.A.in1 p q z x y v (by rw [b0Y];lia) (a1t hp h1) hq h3 rq h2 rx).eq
def S9(s0:y4 F H)(h:U1 X.K F H v r)(e:PyData.items? r.rd=some ps):∃a xs,v= .ref a/\(SqL X.K H a xs\/SqT X.K H a xs)/\w8 X.K F ps xs:=by
 cases r with
 |val p=>
  cases p with
  |list qs=>cases e;obtain⟨a,xs,rfl,hq,r⟩:=h;exact⟨a,xs,rfl,.inl (S2 s0 hq),r⟩
  |tuple qs=>cases e;obtain⟨a,xs,rfl,hq,r⟩:=h;exact⟨a,xs,rfl,.inr (G6 s0 hq.sq),r⟩
  |_=>cases e
 |ow c=>cases c<;>cases e;obtain⟨a,xs,rfl,_,hq,r⟩:=h;exact⟨a,xs,rfl,.inl (SqL.of hq),r⟩
 |bo c=>cases c<;>cases e;obtain⟨a,xs,rfl,_,hq,r⟩:=h;exact⟨a,xs,rfl,.inl (SqL.of hq),r⟩
def c3a(hu:X.A.units+64<cLine):OpM X (compareOp .In) (gIn false):=by
 intro pins s σ H x y v u Q I rx ry h
 obtain⟨F,ra,rb,rz,s0,h1,h2,h3,k⟩:=h
 unfold gIn at h3
 split at h3
 ·rename_i ps e
  split at h3
  ·rename_i c
   cases h3
   obtain⟨a,xs,rfl,hq,r⟩:=S9 s0 h2 e
   cases ry
   have rH:=w8.mono s0 _ r
   rcases hq with hq|hq
   ·obtain⟨its,rv,pl,hz⟩:=I.list hq
    refine SeqAt.in_listAt (a5t X.K H ra.rd) pl.isList (a6M I hu c.1 c.2 (h1.rd s0) rx rH rv) ⟨.bl _,H,I,rfl, ?_⟩
    rw [show its.toArray.any (a5t X.K H ra.rd)=its.any (a5t X.K H ra.rd) by simp,a4c I rH rv]
    exact k _ F H (C0.here s0 rfl)
   ·obtain⟨its,rv,pl,hz⟩:=I.tuple hq
    refine SeqAt.in_tupleAt (a5t X.K H ra.rd) pl (a6M I hu c.1 c.2 (h1.rd s0) rx rH rv) ⟨.bl _,H,I,rfl, ?_⟩
    rw [show its.toArray.any (a5t X.K H ra.rd)=its.any (a5t X.K H ra.rd) by simp,a4c I rH rv]
    exact k _ F H (C0.here s0 rfl)
  ·cases h3
 ·cases h3
def b7g(hu:X.A.units+64<cLine):OpM X (compareOp .NotIn) (gIn true):=by
 intro pins s σ H x y v u Q I rx ry h
 obtain⟨F,ra,rb,rz,s0,h1,h2,h3,k⟩:=h
 unfold gIn at h3
 split at h3
 ·rename_i ps e
  split at h3
  ·rename_i c
   cases h3
   obtain⟨a,xs,rfl,hq,r⟩:=S9 s0 h2 e
   cases ry
   have rH:=w8.mono s0 _ r
   rcases hq with hq|hq
   ·obtain⟨its,rv,pl,hz⟩:=I.list hq
    refine SeqAt.notIn_listAt (a5t X.K H ra.rd) pl.isList (a6M I hu c.1 c.2 (h1.rd s0) rx rH rv) ⟨.bl _,H,I,rfl, ?_⟩
    rw [show its.toArray.any (a5t X.K H ra.rd)=its.any (a5t X.K H ra.rd) by simp,a4c I rH rv]
    exact k _ F H (C0.here s0 rfl)
   ·obtain⟨its,rv,pl,hz⟩:=I.tuple hq
    refine SeqAt.notIn_tupleAt (a5t X.K H ra.rd) pl (a6M I hu c.1 c.2 (h1.rd s0) rx rH rv) ⟨.bl _,H,I,rfl, ?_⟩
    rw [show its.toArray.any (a5t X.K H ra.rd)=its.any (a5t X.K H ra.rd) by simp,a4c I rH rv]
    exact k _ F H (C0.here s0 rfl)
  ·cases h3
 ·cases h3
def c2y(neg:Bool)(x y:g6):Option g6:=match y with
 | .val .none=>(match x.rd with
   | .none=>some (.val (.bool (!neg)))
   |_=>some (.val (.bool neg)))
 |_=>none
def PyData.isNone:PV->Bool
 | .none=>true
 |_=>false
def c1k{K:AE}{H:Hp}{p:PV}{v:V}(h:T7 K H p v):decide (v=V.non)=PyData.isNone p:=by
 cases p with
 |none=>cases h;rfl
 |bool _=>cases h;rfl
 |int _=>cases h;rfl
 |str _=>cases h;rfl
 |list _=>obtain⟨_,_,rfl,_⟩:=h;rfl
 |tuple _=>obtain⟨_,_,rfl,_⟩:=h;rfl
 |dict _=>
  rcases h with⟨_,_,rfl,_⟩|⟨_,_,rfl,_⟩|⟨_,_,_,h⟩|⟨_,_,_,h,_⟩
  ·rfl
  ·rfl
  ·obtain⟨_,rfl⟩:=h.ref;rfl
  ·obtain⟨_,rfl⟩:=h.ref;rfl
def c0Z:OpM X (compareOp .Is) (c2y false):=
 a7z c23 fun F H x y rx ry rz s0 h1 h2 h3 Q k=>by
  unfold c2y at h3
  split at h3
  ·cases h2
   have e:=c1k (h1.rd s0)
   refine⟨rfl, ?_⟩
   rw [e]
   cases hp:rx.rd<;>rw [hp] at h3<;>cases h3<;>exact k _ F H (C0.here s0 rfl)
  ·cases h3
def c2R(m:M):M:=fun ρ=>(m ρ).bind fun r=>match r with
 | .val (.int i)=>some (.val (.int (-i)))
 |_=>none
def b7U(ha:EE X a ma):EE X (.UnaryOp .USub a pos) (c2R ma):=
 D3 (c4t c3I ha) fun σ H Q ⟨F,ρ,r,he,hm,k⟩=>by
  obtain⟨rx,e1,hm⟩:=bind_some hm
  refine⟨F,ρ,rx,he,e1,fun v F1 H1 o1=> ?_⟩
  split at hm
  ·cases hm
   exact⟨_,o1.rep,k _ F1 H1 (C0.trans o1.x (C0.here o1.x.fh rfl))⟩
  ·cases hm
def v9(x y:g6):Option g6:=match y with
 | .val (.int i)=>(match x.rd with
   | .str z=>if z.length<=AL then(atI z.cps.toList i).map fun c=> .val (.str ⟨#[c]⟩) else none
   |p=>match PyData.items? p with
    |some ps=>(atI ps i).map .val
    |none=>none)
 |_=>none
def w8.atI{K:AE}{H:Hp}{ps:List PV}{xs:List V}{i:Int}{p:PV}(r:w8 K H ps xs)(e:L2.atI ps i=some p):∃v,L2.atI xs i=some v/\T7 K H p v:=by
 unfold L2.atI at e ⊢
 rw [r.length]
 obtain⟨j,e1,e2⟩:=bind_some e
 rw [e1]
 exact r.get e2
def ixm:IxR X (rM2 X.K v9):=by
 intro value slice pins s σ H x y v u Q I rx ry h hs
 obtain⟨F,ra,rb,rz,s0,h1,h2,h3,k⟩:=h
 unfold v9 at h3
 split at h3
 ·rename_i i
  cases h2
  split at h3
  ·rename_i z ez
   split at h3
   ·rename_i c
    have rr:=h1.rd s0
    rw [ez] at rr
    cases rr
    cases ea:L2.atI z.cps.toList i with
    |none=>rw [ea] at h3;cases h3
    |some ch=>
     rw [ea] at h3;cases h3
     exact c2H value slice pins s σ H _ _ v u Q I rx ry ⟨z,i,ch,rfl,rfl,c,ea,k _ F H (C0.here s0 rfl)⟩ hs
   ·cases h3
  ·split at h3
   ·rename_i ps e
    cases ea:L2.atI ps i with
    |none=>rw [ea] at h3;cases h3
    |some p=>
     rw [ea] at h3;cases h3
     obtain⟨a,xs,rfl,hq,r⟩:=S9 s0 h1 e
     obtain⟨z,ez,rp⟩:=r.atI ea
     rcases hq with hq|hq
     ·exact c0v value slice pins s σ H _ _ v u Q I rx ry ⟨a,xs,i,z,rfl,rfl,hq,ez,k _ F H (C0.here s0 rp)⟩ hs
     ·exact c2I value slice pins s σ H _ _ v u Q I rx ry ⟨a,xs,i,z,rfl,rfl,hq,ez,k _ F H (C0.here s0 rp)⟩ hs
   ·cases h3
 ·cases h3
def k7(ha:EE X a ma)(hb:EE X b mb)(hs:b5E b:=by intro _ _;rfl):EE X (.Subscript a b pos) (m2 v9 ma mb):=
 D3 (c4r ixm ha hb hs) fun _ _ _ h=>b2F h
abbrev MA:=e9->Option (List PV)
def tMA(K:AE)(m:MA):TA:=fun σ H Q=>∃F ρ ps,W7 K F H σ ρ/\m ρ=some ps/\∀vs F' H',Ext F H F' H'->w8 K F' ps vs->Q vs H'
abbrev EA(X:Cx)(es:List AS)(m:MA):Prop:=PA X es (tMA X.K m)
def b8:MA:=fun _=>some []
def a0(m:M)(r:MA):MA:=fun ρ=>((m ρ).bind g6.toVal).bind fun p=>(r ρ).bind fun ps=>some (p::ps)
def c9:EA X [] b8:=b8X W3 fun σ H Q ⟨F,ρ,ps,he,hm,k⟩=>by
 cases hm
 exact k [] F H (Ext.refl he.fh) rfl
def a8(ha:EE X e m)(hr:EA X es r)(hs:AJ (e::es) X.env=(false,eval e X.env)::AJ es X.env:=by rfl):EA X (e::es) (a0 m r):=
 b8X (G1 ha hr hs) fun σ H Q ⟨F,ρ,ps,he,hm,k⟩=>by
  obtain⟨p,e1,hm⟩:=bind_some hm
  obtain⟨r1,e1,e2⟩:=bind_some e1
  obtain⟨qs,e3,hm⟩:=bind_some hm
  cases hm
  refine⟨F,ρ,r1,he,e1,fun v F1 H1 o1=> ?_⟩
  obtain⟨F2,o2⟩:=o1.toVal e2
  exact⟨F2,ρ,qs,he.ext o2.x,e3,fun vs F3 H3 x3 rl=>k _ F3 H3 (o2.x.trans x3) ⟨v,vs,rfl,T7.mono x3.f _ o2.rep,rl⟩⟩
def A9(m:MA):M:=fun ρ=>(m ρ).bind fun ps=>if ps.length<=AL then some (.val (.tuple ps)) else none
def O2(m:MA):M:=fun ρ=>(m ρ).bind fun ps=>if ps.length<=AL then some (.own ps) else none
def y0(h:EA X es m):EE X (.Tuple es x1 pos) (A9 m):=
 D3 (c3i h) fun σ H Q ⟨F,ρ,r,he,hm,k⟩=>by
  obtain⟨ps,e1,hm⟩:=bind_some hm
  split at hm
  ·rename_i c
   cases hm
   exact⟨F,ρ,ps,he,e1,fun vs F1 H1 x rl=>⟨by rw [rl.length];exact c,fun p hp=>k _ _ _ (C0.trans x (C0.tup x.fh hp rl))⟩⟩
  ·cases hm
def I0(h:EA X es m):EE X (.List es pos) (O2 m):=
 D3 (c3d h) fun σ H Q ⟨F,ρ,r,he,hm,k⟩=>by
  obtain⟨ps,e1,hm⟩:=bind_some hm
  split at hm
  ·rename_i c
   cases hm
   exact⟨F,ρ,ps,he,e1,fun vs F1 H1 x rl=>⟨by rw [rl.length];exact c,fun p hp=>k _ _ _ (C0.trans x (C0.lst x.fh hp rl))⟩⟩
  ·cases hm
def spP(K:AE)(n:Nat)(g:List PV->Option g6):Sp:=fun vs H Q _=>∃F ps r,y4 F H/\w8 K F ps vs/\ps.length=n/\g ps=some r/\∀v F' H',C0 K F H F' H' v r->Q v H'
def m4(g:List PV->Option g6)(m:MA):M:=fun ρ=>(m ρ).bind g
def b96
 (G:U0 X.prog X.w X.K X.mg X.base CX0 k f fd ps (spP X.K n g)) (hr:O9 k X.A) (hg:Gl X x) (hm:X.mg x=some (.ref f)) (hk:W.keepIn X.K (.ref f)=true) (hb:a0K X.K fd ps []) (hn:∀ρ ps,m ρ=some ps->ps.length=n) (ha:EA X (e::es) m)
 (hdb:(x==("__debug__":Str))=false:=by decide) (he:AJ (e::es) X.env=(false,eval e X.env)::AJ es X.env:=by rfl) (hpl:(backTo pos (AJ es X.env)).any (·.1)=false:=by rfl):
 EE X (.Call (.Name x p) (e::es) [] pos) (m4 g m):=
 D3 (c05 G hr hg hm hk hb .nil b6j ha hdb he hpl) fun σ H Q ⟨F,ρ,r,he,hm,k⟩=>by
  obtain⟨qs,e1,hm⟩:=bind_some hm
  refine⟨F,ρ,qs,he,e1,fun vs F1 H1 x rl=> ?_⟩
  show spP X.K n g (vs++[]) H1 Q E0
  rw [Aj]
  exact⟨F1,qs,r,x.fh,rl,hn _ _ e1,hm,fun v F2 H2 o=>k v F2 H2 (C0.trans x o)⟩
def b7S
 (G:U0 X.prog X.w X.K X.mg X.base CX0 k f fd ps (spP X.K 0 g)) (hr:O9 k X.A) (hg:Gl X x) (hm:X.mg x=some (.ref f)) (hk:W.keepIn X.K (.ref f)=true) (hb:a0K X.K fd ps [])
 (hdb:(x==("__debug__":Str))=false:=by decide):
 EE X (.Call (.Name x p) [] [] pos) (fun _=>g []):=
 D3 (b80 G hr hg hm hk hb .nil b6j hdb) fun σ H Q ⟨F,ρ,r,he,hm,k⟩=>by
  exact⟨F,[],r,he.fh,rfl,rfl,hm,k⟩
def g9:∀ρ ps,b8 ρ=some ps->ps.length=0:=fun _ _ h=>by cases h;rfl
def b6(h:∀ρ ps,r ρ=some ps->ps.length=n):∀ρ ps,a0 m r ρ=some ps->ps.length=n+1:=fun ρ ps e=>by
 obtain⟨p,e1,e⟩:=bind_some e
 obtain⟨qs,e3,e⟩:=bind_some e
 cases e
 rw [AM,h ρ qs e3]
end
mutual
def Y0(K:AE):Nat->AA->Option PV
 |0,_=>none
 |_+1,.none=>some .none
 |_+1,.bool b=>some (.bool b)
 |_+1,.int i _=>some (.int i)
 |_+1,.str x _=>some (.str x)
 |n+1,.ref a=>match K.lookup a with
  |some ⟨.type "tuple",_,.seq its _,_⟩=>if its.size<=1000 then(a6y K n its.toList).map .tuple else none
  |some ⟨.type "list",none,.seq its _,_⟩=>if its.size<=1000 then(a6y K n its.toList).map .list else none
  |_=>none
 |_+1,_=>none
def a6y(K:AE):Nat->List AA->Option (List PV)
 |0,_=>none
 |_+1,[]=>some []
 |n+1,u::us=>(Y0 K n u).bind fun p=>(a6y K n us).bind fun ps=>some (p::ps)
end
def a9Y(h:n<=1000):n<=AL:=BD (b7s h)
def b7G(K:AE):∀(n:Nat),(∀(u:AA) (p:PV),Y0 K n u=some p->∃v,A8 v u/\∀H,T7 K H p v)/\(∀(us:List AA) (ps:List PV),a6y K n us=some ps->∃vs,y9 vs us/\∀H,w8 K H ps vs):=by
 intro n
 induction n with
 |zero=>exact⟨fun u p h=>by simp [Y0] at h,fun u p h=>by simp [a6y] at h⟩
 |succ n ih=>
  constructor
  ·intro u p h
   cases u with
   |none=>simp only [Y0] at h;cases h;exact⟨.non,rfl,fun _=>rfl⟩
   |bool b=>simp only [Y0] at h;cases h;exact⟨.bl b,rfl,fun _=>rfl⟩
   |int i t=>simp only [Y0] at h;cases h;exact⟨.int i,⟨t,rfl⟩,fun _=>rfl⟩
   |str x t=>simp only [Y0] at h;cases h;exact⟨.str x,⟨t,rfl⟩,fun _=>rfl⟩
   |ref a=>
    simp only [Y0] at h
    split at h
    ·rename_i d its m sl e
     split at h
     ·rename_i c
      cases q:a6y K n its.toList with
      |none=>rw [q] at h;cases h
      |some ps=>
       rw [q] at h;cases h
       obtain⟨vs,h1,h2⟩:=ih.2 _ _ q
       exact⟨.ref a,rfl,fun H=>⟨a,vs,rfl,.inr ⟨_,its,m,e,rfl,rfl,a9Y c,h1⟩,h2 H⟩⟩
     ·cases h
    ·rename_i its m sl e
     split at h
     ·rename_i c
      cases q:a6y K n its.toList with
      |none=>rw [q] at h;cases h
      |some ps=>
       rw [q] at h;cases h
       obtain⟨vs,h1,h2⟩:=ih.2 _ _ q
       exact⟨.ref a,rfl,fun H=>⟨a,vs,rfl,.inr ⟨_,its,m,e,rfl,rfl,rfl,a9Y c,h1⟩,h2 H⟩⟩
     ·cases h
    ·cases h
   |_=>simp [Y0] at h
  ·intro us ps h
   cases us with
   |nil=>simp only [a6y] at h;cases h;exact⟨[],.nil,fun _=>rfl⟩
   |cons u us=>
    simp only [a6y] at h
    obtain⟨p,e1,h⟩:=bind_some h
    obtain⟨qs,e2,h⟩:=bind_some h
    cases h
    obtain⟨v,r1,r2⟩:=ih.1 _ _ e1
    obtain⟨vs,r3,r4⟩:=ih.2 _ _ e2
    exact⟨v::vs,.cons r1 r3,fun H=>⟨v,vs,rfl,r2 H,r4 H⟩⟩
def a1l(hg:Gl X x)(hm:X.mg x=some u)(ha:Y0 X.K n u=some p)(hd:(x==("__debug__":Str))=false:=by decide):EE X (.Name x pos) (mC p):=by
 obtain⟨v,r,h⟩:=(b7G X.K n).1 u p ha
 exact a4p (a0D hg hm r hd) h
def c4e:PV->Option Key
 | .int i=>some (.inl i)
 | .str x=>some (.inr x)
 |_=>none
def keysOf:List PV->Option (List Key)
 |[]=>some []
 |p::ps=>(c4e p).bind fun k=>(keysOf ps).bind fun ks=>some (k::ks)
section
variable {X:Cx}
abbrev MT:=e9->Option Bool
def tMT(K:AE)(c:MT):TT:=fun σ H Q=>∃F ρ b,W7 K F H σ ρ/\c ρ=some b/\∀F' H',Ext F H F' H'->Q b H'
abbrev ET(X:Cx)(e:AS)(c:MT):Prop:=PT X e (tMT X.K c)
abbrev EW(X:Cx)(e:AS)(c:MT):Prop:=PW X e (tMT X.K c)
def b0C:g6->Option Bool
 | .val (.bool b)=>some b
 |_=>none
def tru(r:g6):Option Bool:=match r.rd with
 | .none=>some false
 | .bool b=>some b
 | .int i=>some (i !=0)
 | .str z=>if z.length<=AL then some ((z.length:Int) !=0) else none
 | .list ps=>some (!ps.isEmpty)
 | .tuple ps=>some (!ps.isEmpty)
 | .dict _=>none
def mtV(m:M):MT:=fun ρ=>(m ρ).bind tru
def A6(m:M):MT:=fun ρ=>(m ρ).bind b0C
def w8.empty{K:AE}{H:Hp}{ps:List PV}{vs:List V}(r:w8 K H ps vs):vs.isEmpty=ps.isEmpty:=by
 cases ps with
 |nil=>cases r;rfl
 |cons p ps=>obtain⟨_,_,e,_⟩:=r;subst e;rfl
def c1w{H:Hp}{r:g6}{v:V}{b:Bool}(h:T7 X.K H r.rd v)(e:tru r=some b):c13 X.K v H b:=by
 unfold tru at e
 cases hp:r.rd with
 |none=>rw [hp] at h e;cases h;cases e;exact rfl
 |bool k=>rw [hp] at h e;cases h;cases e;exact rfl
 |int i=>rw [hp] at h e;cases h;cases e;exact rfl
 |str z=>
  rw [hp] at h e;cases h
  dsimp only at e
  split at e
  ·rename_i c;cases e;exact⟨c,rfl⟩
  ·cases e
 |list ps=>rw [hp] at h e;obtain⟨a,xs,rfl,hq,rl⟩:=h;cases e;exact .inl ⟨xs,hq,by rw [rl.empty]⟩
 |tuple ps=>rw [hp] at h e;obtain⟨a,xs,rfl,hq,rl⟩:=h;cases e;exact .inr (.inl ⟨xs,hq.sq,by rw [rl.empty]⟩)
 |dict _=>rw [hp] at e;cases e
def B8(h:EE X e m)(he:∀whole,isTrue e X.env whole=(do let v<-whole;standAt e.pos;holding [v] (truthy v)):=by intro _;rfl):ET X e (mtV m):=
 b2w (b9i h he) fun σ H Q ⟨F,ρ,b,h1,h2,k⟩=>by
  obtain⟨r,e1,e2⟩:=bind_some h2
  exact⟨F,ρ,r,h1,e1,fun v F1 H1 o=>⟨b,c1w (o.rep.rd o.x.fh) e2,k F1 H1 o.x⟩⟩
def a4N{K:AE}{F H:Hp}{r:g6}{v:V}{b:Bool}(h:U1 K F H v r)(e:b0C r=some b):v= .bl b:=by
 unfold b0C at e
 split at e
 ·cases e;exact h
 ·cases e
def c2o{a b:AS}{ma mb:M}{pos:Pos}{op:CmpOp}{g:g6->g6->Option g6}(ho:OpM X (compareOp op) g)(ha:EE X a ma)(hb:EE X b mb)(hm:behindInMarks op b=false):ET X (.Compare a [op] [b] pos) (A6 (m2 g ma mb)):=
 b2w (c1e ho ha hb hm) fun σ H Q ⟨F,ρ,k,h1,h2,q⟩=>by
  obtain⟨r,e1,e2⟩:=bind_some h2
  exact b2F ⟨F,ρ,r,h1,e1,fun v F1 H1 o=>⟨k,a4N o.rep e2,q F1 H1 o.x⟩⟩
def G5(c:MT):MT:=fun ρ=>(c ρ).map not
def D6(ha:ET X a c):ET X (.UnaryOp .Not a pos) (G5 c):=
 b2w (c3p ha) fun σ H Q ⟨F,ρ,k,h1,h2,q⟩=>by
  unfold G5 at h2
  cases e:c ρ with
  |none=>rw [e] at h2;cases h2
  |some b=>rw [e] at h2;cases h2;exact⟨F,ρ,b,h1,e,q⟩
def a1P(c d:MT):MT:=fun ρ=>(c ρ).bind fun b=>if b=true then d ρ else some false
def Q9(c d:MT):MT:=fun ρ=>(c ρ).bind fun b=>if b=true then some true else d ρ
def a6G(ha:ET X a c):EW X (.BoolOp .And [a] pos) c:=c1f ha
def D7(ha:ET X a c):EW X (.BoolOp .Or [a] pos) c:=c3r ha
def a8T(ha:ET X a c)(hb:EW X (.BoolOp .And (b::rest) pos) d):EW X (.BoolOp .And (a::b::rest) pos) (a1P c d):=
 b9k (c3q ha hb) fun σ H Q ⟨F,ρ,k,h1,h2,q⟩=>by
  obtain⟨b,e1,e2⟩:=bind_some h2
  refine⟨F,ρ,b,h1,e1,fun F1 H1 x=> ?_⟩
  cases b with
  |true=>exact b3n ⟨F1,ρ,k,h1.ext x,e2,fun F2 H2 y=>q F2 H2 (x.trans y)⟩
  |false=>cases e2;exact b3m (q F1 H1 x)
def N7(ha:ET X a c)(hb:EW X (.BoolOp .Or (b::rest) pos) d):EW X (.BoolOp .Or (a::b::rest) pos) (Q9 c d):=
 b9k (c4v ha hb) fun σ H Q ⟨F,ρ,k,h1,h2,q⟩=>by
  obtain⟨b,e1,e2⟩:=bind_some h2
  refine⟨F,ρ,b,h1,e1,fun F1 H1 x=> ?_⟩
  cases b with
  |false=>exact b3m ⟨F1,ρ,k,h1.ext x,e2,fun F2 H2 y=>q F2 H2 (x.trans y)⟩
  |true=>cases e2;exact b3n (q F1 H1 x)
def a6P(m n:M):M:=fun ρ=>(m ρ).bind fun r=>(b0C r).bind fun b=>if b=true then n ρ else some (.val (.bool false))
def b8z(m:M):M:=fun ρ=>(m ρ).bind fun r=>(b0C r).bind fun b=>some (.val (.bool (!b)))
def a54(h:EE X a m):EE X (.BoolOp op [a] pos) m:=c3g h
def a53{a b:AS}{rest:List AS}{m n:M}{pos:Pos}(ha:EE X a m)(hb:EE X (.BoolOp .And (b::rest) pos) n):EE X (.BoolOp .And (a::b::rest) pos) (a6P m n):=
 D3 (c3b ha hb) fun σ H Q ⟨F,ρ,r,h1,h2,q⟩=>by
  obtain⟨r1,e1,h2⟩:=bind_some h2
  obtain⟨b,e2,h2⟩:=bind_some h2
  refine⟨F,ρ,r1,h1,e1,fun v F1 H1 o=>⟨b,a4N o.rep e2, ?_⟩⟩
  cases b with
  |true=>exact b3n ⟨F1,ρ,r,h1.ext o.x,h2,fun w F2 H2 y=>q w F2 H2 (C0.trans o.x y)⟩
  |false=>cases h2;exact b3m (q _ F1 H1 (C0.val o.x rfl))
def c2k{a:AS}{m:M}{pos:Pos}(ha:EE X a m):EE X (.UnaryOp .Not a pos) (b8z m):=
 D3 (c3f ha) fun σ H Q ⟨F,ρ,r,h1,h2,q⟩=>by
  obtain⟨r1,e1,h2⟩:=bind_some h2
  obtain⟨b,e2,h2⟩:=bind_some h2
  cases h2
  exact⟨F,ρ,r1,h1,e1,fun v F1 H1 o=>⟨b,a4N o.rep e2,q _ F1 H1 (C0.val o.x rfl)⟩⟩
def W2(g g':g6->g6->Option g6)(ma mb mc:M):M:=fun ρ=>(ma ρ).bind fun x=>(mb ρ).bind fun y=>(g x y).bind fun z=>(b0C z).bind fun b=>if b=true then(mc ρ).bind fun w=>g' y w else some (.val (.bool false))
def b20{ma mb mc:M}{g g':g6->g6->Option g6}{σ:L2.St}{H:Hp}{Q:VK}(h:tM X.K (W2 g g' ma mb mc) σ H Q):b5x (rM2 X.K g) (rM2 X.K g') (tM X.K ma) (tM X.K mb) (tM X.K mc) σ H Q:=by
 obtain⟨F,ρ,r,he,hm,k⟩:=h
 obtain⟨rx,e1,hm⟩:=bind_some hm
 obtain⟨ry,e2,hm⟩:=bind_some hm
 obtain⟨rz,e3,hm⟩:=bind_some hm
 obtain⟨b,e4,hm⟩:=bind_some hm
 refine⟨F,ρ,rx,he,e1,fun v F1 H1 o1=>⟨F1,ρ,ry,he.ext o1.x,e2,fun u F2 H2 o2=>⟨F2,rx,ry,rz,o2.x.fh,o1.rep.ext o2.x,o2.rep,e3,fun z F3 H3 o3=>⟨b,a4N o3.rep e4, ?_⟩⟩⟩⟩
 have x3:=(o1.x.trans o2.x).trans o3.x
 cases b with
 |true=>
  rw [if_pos rfl] at hm
  obtain⟨rw',e5,hm⟩:=bind_some hm
  exact b3n ⟨F3,ρ,rw',he.ext x3,e5,fun w F4 H4 o4=>⟨F4,ry,rw',r,o4.x.fh,(o2.rep.ext o3.x).ext o4.x,o4.rep,hm,fun z F5 H5 o5=>k z F5 H5 (C0.trans (x3.trans o4.x) o5)⟩⟩
 |false=>
  rw [if_neg Ar] at hm
  cases hm
  exact b3m (k _ F3 H3 (C0.val x3 rfl))
def b24(ho:OpM X (compareOp op) g)(ho':OpM X (compareOp op') g')(ha:EE X a ma)(hb:EE X b mb)(hc:EE X c mc)
 (hm:lastMarks [op,op'] [b,c]=false:=by with_unfolding_all rfl):EE X (.Compare a [op,op'] [b,c] pos) (W2 g g' ma mb mc):=
 D3 (b82 ho ho' ha hb hc hm) fun _ _ _ h=>b20 h
def a2S{a b c:AS}{ma mb mc:M}{pos:Pos}{op op':CmpOp}{g g':g6->g6->Option g6}(ho:OpM X (compareOp op) g)(ho':OpM X (compareOp op') g')(ha:EE X a ma)(hb:EE X b mb)(hc:EE X c mc)
 (hm:lastMarks [op,op'] [b,c]=false:=by with_unfolding_all rfl):ET X (.Compare a [op,op'] [b,c] pos) (A6 (W2 g g' ma mb mc)):=
 b2w (b9h ho ho' ha hb hc hm) fun σ H Q ⟨F,ρ,k,h1,h2,q⟩=>by
  obtain⟨r,e1,e2⟩:=bind_some h2
  exact b20 ⟨F,ρ,r,h1,e1,fun v F1 H1 o=>⟨k,a4N o.rep e2,q F1 H1 o.x⟩⟩
end
inductive Fl where
 |nx (ρ:e9)|rt (r:g6)|bk (ρ:e9)|ct (ρ:e9)
abbrev MS:=e9->Option Fl
structure SOk(K:AE)(F0 H0 F H:Hp)(σ:L2.St)(ρ:e9):Prop where
 x:Ext F0 H0 F H
 e:W7 K F H σ ρ
 nw:∀(i:Nat) (c:a32) (a:AB),ρ[i]?=some (some (.ow c))->σ[i]?=some (some (.ref a))->H0 a=none
def Fin(K:AE)(F0 H0 F:Hp)(D:a3Z):Fl->Prop
 | .nx ρ=>∀σ' F' H',y4 F F'->SOk K F0 H0 F' H' σ' ρ->D.nx σ' H'
 | .rt r=>∀v F' H',C0 K F0 H0 F' H' v r->D.rt v H'
 | .bk ρ=>∀σ' F' H',y4 F F'->SOk K F0 H0 F' H' σ' ρ->D.bk σ' H'
 | .ct ρ=>∀σ' F' H',y4 F F'->SOk K F0 H0 F' H' σ' ρ->D.ct σ' H'
theorem Fin.later{K:AE}{F0 H0 F F1:Hp}{D:a3Z}(s:y4 F F1):∀{fl:Fl},Fin K F0 H0 F D fl->Fin K F0 H0 F1 D fl
 | .nx _,h=>fun σ' F' H' s' so=>h σ' F' H' (s.trans s') so
 | .rt _,h=>h
 | .bk _,h=>fun σ' F' H' s' so=>h σ' F' H' (s.trans s') so
 | .ct _,h=>fun σ' F' H' s' so=>h σ' F' H' (s.trans s') so
def tMS(K:AE)(m:MS):TS:=fun D σ H=>∃F0 H0 F ρ fl,SOk K F0 H0 F H σ ρ/\m ρ=some fl/\Fin K F0 H0 F D fl
abbrev ES(X:Cx)(st:Stmt)(m:MS):Prop:=PS X st (tMS X.K m)
abbrev ESs(X:Cx)(st:List Stmt)(m:MS):Prop:=PSs X st (tMS X.K m)
def SOk.ext{K:AE}{F0 H0 F H F' H':Hp}{σ:L2.St}{ρ:e9}(s:SOk K F0 H0 F H σ ρ)(x:Ext F H F' H'):SOk K F0 H0 F' H' σ ρ:=⟨s.x.trans x,s.e.ext x,s.nw⟩
def g6.nb:g6->Bool
 | .bo _=>false
 |_=>true
def SOk.set{K:AE}{F0 H0 F H F' H':Hp}{σ:L2.St}{ρ:e9}{v:V}{r:g6}(s:SOk K F0 H0 F H σ ρ)(o:C0 K F H F' H' v r)(hb:r.nb=true)(i:Nat):SOk K F0 H0 F' H' (σ.set i (some v)) (ρ.set i (some r)):=by
 have s1:=s.ext o.x
 have le:=s.e.len
 refine⟨s1.x,⟨s1.e.fh,by simp [le],fun j q e=> ?_,fun j ps e=> ?_,fun j k ps qs a hjk e1 e2 e3 e4=> ?_⟩,fun j ps a e1 e2=> ?_⟩
 ·rw [List.getElem?_set] at e ⊢
  by_cases hij:i=j
  ·subst hij
   rw [if_pos rfl] at e ⊢
   rw [le]
   split at e
   ·rename_i c;cases e;rw [if_pos c];exact⟨v,rfl,o.rep⟩
   ·cases e
  ·rw [if_neg hij] at e ⊢
   exact s1.e.at_ j q e
 ·rw [List.getElem?_set] at e
  by_cases hij:i=j
  ·subst hij
   rw [if_pos rfl] at e
   split at e
   ·cases e;cases hb
   ·cases e
  ·rw [if_neg hij] at e
   exact s1.e.nb j ps e
 ·rw [List.getElem?_set] at e1 e2 e3 e4
  by_cases hij:i=j
  ·subst hij
   rw [if_pos rfl] at e1 e3
   rw [if_neg hjk] at e2 e4
   split at e1
   ·cases e1
    split at e3
    ·cases e3
     have fr:=o.fr ps a rfl rfl
     obtain⟨w,h1,rr⟩:=s.e.at_ k _ e2
     obtain⟨a',xs,h2,_,h3⟩:=a37.at_ rr
     rw [e4] at h1;cases h1
     cases h2
     rw [fr] at h3;cases h3
    ·cases e3
   ·cases e1
  ·rw [if_neg hij] at e1 e3
   by_cases hik:i=k
   ·subst hik
    rw [if_pos rfl] at e2 e4
    split at e2
    ·cases e2
     split at e4
     ·cases e4
      have fr:=o.fr qs a rfl rfl
      obtain⟨w,h1,rr⟩:=s.e.at_ j _ e1
      obtain⟨a',xs,h2,_,h3⟩:=a37.at_ rr
      rw [e3] at h1;cases h1
      cases h2
      rw [fr] at h3;cases h3
     ·cases e4
    ·cases e2
   ·rw [if_neg hik] at e2 e4
    exact s1.e.ap j k ps qs a hjk e1 e2 e3 e4
 ·rw [List.getElem?_set] at e1 e2
  by_cases hij:i=j
  ·subst hij
   rw [if_pos rfl] at e1 e2
   split at e1
   ·cases e1
    split at e2
    ·cases e2;exact s.x.h.free (o.fr ps a rfl rfl)
    ·cases e2
   ·cases e1
  ·rw [if_neg hij] at e1 e2
   exact s.nw j ps a e1 e2
def m7:MS:=fun ρ=>some (.nx ρ)
def j5(m n:MS):MS:=fun ρ=>(m ρ).bind fun fl=>match fl with
 | .nx ρ'=>n ρ'
 |f=>some f
def j8:ESs X [] m7:=a8w a1p fun D σ H ⟨F0,H0,F,ρ,fl,so,e,fin⟩=>by
 cases e
 exact fin σ F H (PU.y4.refl F) so
def c7{st:Stmt}{rest:List Stmt}{m n:MS}(h1:ES X st m)(h2:ESs X rest n):ESs X (st::rest) (j5 m n):=
 a8w (K1 h1 h2) fun D σ H ⟨F0,H0,F,ρ,fl,so,e,fin⟩=>by
  obtain⟨f1,e1,e⟩:=bind_some e
  cases f1 with
  |nx ρ'=>exact⟨F0,H0,F,ρ,.nx ρ',so,e1,fun σ' F' H' s so'=>⟨F0,H0,F',ρ',fl,so',e,fin.later s⟩⟩
  |rt r=>cases e;exact⟨F0,H0,F,ρ,_,so,e1,fin⟩
  |bk r=>cases e;exact⟨F0,H0,F,ρ,_,so,e1,fin⟩
  |ct r=>cases e;exact⟨F0,H0,F,ρ,_,so,e1,fin⟩
def d0{st:Stmt}{m:MS}(h1:ES X st m):ESs X [st] m:=b6l h1
def z6(i:Nat)(m:M):MS:=fun ρ=>(m ρ).bind fun r=>if r.nb=true then some (.nx (ρ.set i (some r))) else none
def u0(hN:X.N.Nodup)(he:EE X e m)(hi:X.N[i]?=some x:=by rfl)(hx:Loc X.env.scope x:=by exact Or.inl rfl)(hs:swapsWith e (some (.Name x pos')) pos.line X.env=pure false:=by rfl)(hf:X.fn x=true\/X.env.scope.names.lookup x=some .local:=by first|exact .inl rfl|exact .inr rfl|assumption):
 ES X (.Assign [.Name x pos'] e pos) (z6 i m):=
 S1 (b9f hN hi hx he hs hf) fun D σ H ⟨F0,H0,F,ρ,fl,so,e,fin⟩=>by
  obtain⟨r,e1,e⟩:=bind_some e
  split at e
  ·rename_i c
   cases e
   exact⟨F,ρ,r,so.e,e1,fun v F' H' o=>fin _ F' H' o.x.f (so.set o c i)⟩
  ·cases e
def l9(m:M):MS:=fun ρ=>(m ρ).bind fun r=>if r.nb=true then some (.rt r) else none
def d9(he:EE X e m):ES X (.Return (some e) pos) (l9 m):=
 S1 (b9e he) fun D σ H ⟨F0,H0,F,ρ,fl,so,e,fin⟩=>by
  obtain⟨r,e1,e⟩:=bind_some e
  split at e
  ·rename_i c
   cases e
   exact⟨F,ρ,r,so.e,e1,fun v F' H' o=>fin v F' H' (C0.trans so.x o)⟩
  ·cases e
def a0d(i:Nat):MS:=fun ρ=>match ρ[i]? with
 |some (some r)=>some (.rt r)
 |_=>none
def a0y(i:Nat)(h:PE X (.Name x p) (b2E i)):ES X (.Return (some (.Name x p)) pos) (a0d i):=
 S1 (b9e h) fun D σ H ⟨F0,H0,F,ρ,fl,so,e,fin⟩=>by
  unfold a0d at e
  split at e
  ·rename_i r er
   cases e
   obtain⟨v,e1,rr⟩:=so.e.at_ i _ er
   exact⟨v,e1,fin v F H ⟨so.x,rr,fun ps a z1 z2=>by subst z1;subst z2;exact so.nw i ps a er e1⟩⟩
  ·cases e
def u6(c:MT)(m n:MS):MS:=fun ρ=>(c ρ).bind fun b=>if b=true then m ρ else n ρ
def p7(hc:ET X c mc)(ha:ESs X a m)(hb:ESs X b n):ES X (.If c a b pos) (u6 mc m n):=
 S1 (c1R hc ha hb) fun D σ H ⟨F0,H0,F,ρ,fl,so,e,fin⟩=>by
  obtain⟨b,e1,e⟩:=bind_some e
  refine⟨F,ρ,b,so.e,e1,fun F1 H1 x=> ?_⟩
  cases b with
  |true=>exact b3n ⟨F0,H0,F1,ρ,fl,so.ext x,e,fin.later x.f⟩
  |false=>exact b3m ⟨F0,H0,F1,ρ,fl,so.ext x,e,fin.later x.f⟩
def setAll:List (Option α)->List Nat->List α->List (Option α)
 |σ,i::is,x::xs=>setAll (σ.set i (some x)) is xs
 |σ,_,_=>σ
def b4M:List Nat->TGs
 |[]=>c37
 |i::is=>c1J (b3c i) (b4M is)
theorem b0W:∀{is:List Nat} {xs:List V} {σ:L2.St} {H:Hp} {Q:L2.St->Hp->Prop},xs.length=is.length->Q (setAll σ is xs) H->b4M is xs σ H Q
 |[],[],_,_,_,_,q=>⟨rfl,q⟩
 |[],_::_,_,_,_,h,_=>by cases h
 |_::_,[],_,_,_,h,_=>by cases h
 |i::is,x::xs,σ,H,Q,h,q=>⟨x,xs,rfl,b0W (is:=is) (xs:=xs) (by simpa using h) q⟩
theorem SOk.setAll{K:AE}{F0 H0 F H:Hp}:∀{is:List Nat} {xs:List V} {ps:List PV} {σ:L2.St} {ρ:e9},SOk K F0 H0 F H σ ρ->w8 K F ps xs->SOk K F0 H0 F H (PU.setAll σ is xs) (PU.setAll ρ is (ps.map .val))
 |[],xs,ps,σ,ρ,s,r=>by
  have e1:PU.setAll σ [] xs=σ:=by cases xs<;>rfl
  have e2:PU.setAll ρ [] (ps.map g6.val)=ρ:=by cases ps<;>rfl
  rw [e1,e2];exact s
 |i::is,xs,[],σ,ρ,s,r=>by cases r;exact s
 |i::is,xs,p::ps,σ,ρ,s,⟨v,t,e,rp,rl⟩=>by
  subst e
  exact SOk.setAll (is:=is) (s.set (C0.here s.e.fh rp) rfl i) rl
def a07(body:MS)(tg:PV->e9->Option e9):List PV->e9->Option Fl
 |[],ρ=>some (.nx ρ)
 |p::ps,ρ=>(tg p ρ).bind fun ρ1=>(body ρ1).bind fun fl=>match fl with
  | .nx ρ'=>a07 body tg ps ρ'
  | .ct ρ'=>a07 body tg ps ρ'
  | .bk ρ'=>some (.nx ρ')
  | .rt r=>some (.rt r)
def u3(i:Nat):PV->e9->Option e9:=fun p ρ=>some (ρ.set i (some (.val p)))
def b4b(is:List Nat):PV->e9->Option e9:=fun p ρ=>match p with
 | .tuple ps=>if ps.length=is.length then some (setAll ρ is (ps.map .val)) else none
 |_=>none
def b2T(K:AE)(g:TG)(tg:PV->e9->Option e9):Prop:=
 ∀F0 H0 F H σ ρ ρ1 p x (Q:L2.St->Hp->Prop),SOk K F0 H0 F H σ ρ->T7 K F p x->tg p ρ=some ρ1->(∀σ',SOk K F0 H0 F H σ' ρ1->Q σ' H)->g x σ H Q
def a0o{K:AE}(i:Nat):b2T K (b3c i) (u3 i):=fun F0 H0 F H σ ρ ρ1 p x Q so r e k=>by
 cases e
 exact k _ (so.set (C0.here so.e.fh r) rfl i)
def b9J{K:AE}(is:List Nat):b2T K (c38 K is.length (b4M is)) (b4b is):=fun F0 H0 F H σ ρ ρ1 p x Q so r e k=>by
 unfold b4b at e
 split at e
 ·split at e
  ·rename_i c
   cases e
   obtain⟨a,xs,rfl,hq,rl⟩:=r
   have hl:xs.length=is.length:=by rw [rl.length];exact c
   exact⟨a,xs,rfl,G6 so.e.fh hq.sq,hl,b0W hl (k _ (so.setAll rl))⟩
  ·cases e
 ·cases e
def b0T(h:a07 body tg (p::ps) ρ=some fl):∃ρ1 f1,tg p ρ=some ρ1/\body ρ1=some f1/\(match f1 with
 | .nx ρ'=>a07 body tg ps ρ'
 | .ct ρ'=>a07 body tg ps ρ'
 | .bk ρ'=>some (.nx ρ')
 | .rt r=>some (.rt r))=some fl:=by
 unfold a07 at h
 obtain⟨ρ1,e1,h⟩:=bind_some h
 obtain⟨f1,e2,h⟩:=bind_some h
 exact⟨ρ1,f1,e1,e2,h⟩
def PvL(K:AE)(F0 H0 F1:Hp)(body:MS)(tg:PV->e9->Option e9)(ps:List PV)(fl:Fl)(k:Nat)(σ:L2.St)(H:Hp):Prop:=
 ∃F ρ,y4 F1 F/\SOk K F0 H0 F H σ ρ/\a07 body tg (ps.drop k) ρ=some fl
def a7s{K:AE}{F0 H0 F1:Hp}{body:MS}{tg:PV->e9->Option e9}{g:TG}{ps:List PV}{fl:Fl}{D:a3Z}{k:Nat}{p:PV}{x:V}{σ:L2.St}{H:Hp}(T:b2T K g tg)(fin:Fin K F0 H0 F1 D fl)(ep:ps[k]?=some p)
 (hp:PvL K F0 H0 F1 body tg ps fl k σ H) (rx:∀F,y4 F1 F->T7 K F p x):
 g x σ H fun σ2 H2=>tMS K body {D with nx:=PvL K F0 H0 F1 body tg ps fl (k+1),ct:=PvL K F0 H0 F1 body tg ps fl (k+1),bk:=D.nx} σ2 H2:=by
 obtain⟨F,ρ,s,so,e⟩:=hp
 have hk:k<ps.length:=(Aw.mp ep).1
 have hd:ps.drop k=p::ps.drop (k+1):=by
  rw [List.drop_eq_getElem_cons hk]
  congr 1
  exact(Aw.mp ep).2
 rw [hd] at e
 obtain⟨ρ1,f1,e1,e2,e3⟩:=b0T e
 refine T F0 H0 F H σ ρ ρ1 p x _ so (rx F s) e1 fun σ' so'=>⟨F0,H0,F,ρ1,f1,so',e2, ?_⟩
 cases f1 with
 |nx ρ'=>exact fun σ2 F2 H2 s2 so2=>⟨F2,ρ',s.trans s2,so2,e3⟩
 |ct ρ'=>exact fun σ2 F2 H2 s2 so2=>⟨F2,ρ',s.trans s2,so2,e3⟩
 |bk ρ'=>cases e3;exact fun σ2 F2 H2 s2 so2=>fin σ2 F2 H2 (s.trans s2) so2
 |rt r=>cases e3;exact fin
def a6O{K:AE}{F0 H0 F1:Hp}{body:MS}{tg:PV->e9->Option e9}{ps:List PV}{fl:Fl}{D:a3Z}{σ:L2.St}{H:Hp}(fin:Fin K F0 H0 F1 D fl)
 (hp:PvL K F0 H0 F1 body tg ps fl ps.length σ H):D.nx σ H:=by
 obtain⟨F,ρ,s,so,e⟩:=hp
 rw [List.drop_length] at e
 cases e
 exact fin σ F H s so
abbrev MI:=e9->Option (List PV)
def a4C(m:M):MI:=fun ρ=>((m ρ).bind g6.toVal).bind PyData.items?
def c4V(K:AE)(tl:TE):TI:=fun σ H R=>tl σ H fun x H1=>∃a,x= .ref a/\(((∃xs,SqL K H1 a xs)/\R (Itl K a) H1)\/((∃xs,SqT K H1 a xs)/\R (Itt K a) H1))
def b87(hl:PE X l tl):PI X tg l (c4V X.K tl):=by
 intro pins s σ H R I h
 refine Q3 (hl pins s σ H _ I h) fun v s1 ⟨x,H1,I1,r1,q1⟩=> ?_
 obtain⟨a,e,q⟩:=q1
 subst e
 cases r1
 rcases q with⟨⟨xs,hq⟩,q⟩|⟨⟨xs,hq⟩,q⟩
 ·obtain⟨its,rv,p,hz⟩:=I1.list hq
  refine wpAny_pyIter_list p.isList ?_
  refine⟨s1.heap.objs.size,[s1.heap.objs.size],_,_,H1,rfl,I1.kept (t':=s1.toks) fun b o e=>AT _ e,b7u a _,⟨_,An _ rfl,rfl,rfl⟩,fun b hb=> ?_,q⟩
  have e:b=s1.heap.objs.size:=by simpa using hb
  subst e
  exact I1.fpOk (AR _) (I1.hok.fresh (AR _))
 ·obtain⟨its,rv,p,hz⟩:=I1.tuple hq
  refine wpAny_pyIter_tuple (show s1.heap.IsTuple a its.toArray from p) ?_
  refine⟨s1.heap.objs.size,[s1.heap.objs.size],_,_,H1,rfl,I1.kept (t':=s1.toks) fun b o e=>AT _ e,b5z a _,⟨_,An _ rfl,rfl,rfl⟩,fun b hb=> ?_,q⟩
  have e:b=s1.heap.objs.size:=by simpa using hb
  subst e
  exact I1.fpOk (AR _) (I1.hok.fresh (AR _))
def a5v(it:MI)(tg:PV->e9->Option e9)(body:MS):MS:=fun ρ=>(it ρ).bind fun ps=>a07 body tg ps ρ
def b4G{tg iter:AS}{body:List Stmt}{m:M}{g:TG}{t:PV->e9->Option e9}{b:MS}{pos:Pos}(hp:PassesOwn (model X.prog X.w) X.A X.env X.xe)(hc:X.calm=true)(hi:EE X iter m)(hg:PG X tg g)(T:b2T X.K g t)(hb:ESs X body b)
 (hs:∀x,foldedSetIterable iter X.env x=pure x:=by intro _;rfl):ES X (.For tg iter body [] pos) (a5v (a4C m) t b):=
 S1 (b5n hp hc (b87 hi) hg hb hs) fun D σ H ⟨F0,H0,F,ρ,fl,so,e,fin⟩=>by
  obtain⟨ps,e1,e⟩:=bind_some e
  obtain⟨q,e1,e2⟩:=bind_some e1
  obtain⟨r,e1,e3⟩:=bind_some e1
  refine⟨F,ρ,r,so.e,e1,fun v F' H' o=> ?_⟩
  obtain⟨F1,o1⟩:=o.toVal e3
  have fin1:=fin.later o1.x.f
  have so1:=so.ext o1.x
  obtain⟨a,xs,rfl,hq,rl⟩:=S9 (F:=F1) (H:=F1) (PU.y4.refl F1) (show U1 X.K F1 F1 v (.val q) from o1.rep) e2
  have hlen:=rl.length
  have get:∀k x,xs[k]?=some x->∃p,ps[k]?=some p/\∀F,y4 F1 F->T7 X.K F p x:=fun k x ex=>by
   obtain⟨p,ep,rp⟩:=rl.getV ex
   exact⟨p,ep,fun F s=>T7.mono s _ rp⟩
  rcases hq with hq|hq
  ·refine⟨a,rfl,.inl ⟨⟨xs,S2 o1.x.fh hq⟩,b71 (K:=X.K) (a:=a) (xs:=xs) (PvL X.K F0 H0 F1 b t ps fl) ⟨F1,ρ,PU.y4.refl F1,so1,e⟩ (fun k σ H _ ⟨F,_,s,so2,_⟩=>S2 (s.trans so2.e.fh) hq) (fun k x σ H ex hp=> ?_) (fun σ H hp=> ?_)⟩⟩
   ·obtain⟨p,ep,rp⟩:=get k x ex
    exact a7s T fin1 ep hp rp
   ·rw [hlen] at hp
    exact a6O fin1 hp
  ·refine⟨a,rfl,.inr ⟨⟨xs,G6 o1.x.fh hq⟩,c0h (K:=X.K) (a:=a) (xs:=xs) (PvL X.K F0 H0 F1 b t ps fl) ⟨F1,ρ,PU.y4.refl F1,so1,e⟩ (fun k σ H _ ⟨F,_,s,so2,_⟩=>G6 (s.trans so2.e.fh) hq) (fun k x σ H ex hp=> ?_) (fun σ H hp=> ?_)⟩⟩
   ·obtain⟨p,ep,rp⟩:=get k x ex
    exact a7s T fin1 ep hp rp
   ·rw [hlen] at hp
    exact a6O fin1 hp
def a8n(lo hi:Int):List PV:=(Ao (hi - lo).toNat).map fun k=> .int (lo+(k:Nat))
def b8k:∃f:Int->Bool,∀j,f j=decide (-(2 ^ 62)<=j/\j<2 ^ 62):=⟨_,fun _=>rfl⟩
def inR:Int->Bool:=b8k.choose
def c2B(j:Int):inR j=decide (-(2 ^ 62)<=j/\j<2 ^ 62):=b8k.choose_spec j
def b5Z:inR j=true↔(-(2 ^ 62)<=j/\j<2 ^ 62):=by rw [c2B,decide_eq_true_iff]
def a4E(m:MA):MI:=fun ρ=>(m ρ).bind fun ps=>match ps with
 |[.int j]=>if inR j=true then some (a8n 0 j) else none
 |_=>none
def b9o{lo hi:Int}{k:Nat}(h:k<(hi - lo).toNat):(a8n lo hi)[k]?=some (.int (lo+k)):=by
 simp [a8n,h]
def b9p(lo hi:Int):(a8n lo hi).length=(hi - lo).toNat:=by simp [a8n]
def a6F{tg a:AS}{body:List Stmt}{m:MA}{g:TG}{t:PV->e9->Option e9}{b:MS}{p rp pos:Pos}(hp:PassesOwn (model X.prog X.w) X.A X.env X.xe)(hc:X.calm=true)(hgl:Gl X "range")(hm:X.mg "range"=none)(ha:EA X [a] m)(hg:PG X tg g)(T:b2T X.K g t)(hb:ESs X body b)
 (hst:AJ [a] X.env=[(false,eval a X.env)]:=by rfl) (hs:∀x,foldedSetIterable (.Call (.Name "range" p) [a] [] rp) X.env x=pure x:=by intro _;rfl):ES X (.For tg (.Call (.Name "range" p) [a] [] rp) body [] pos) (a5v (a4E m) t b):=
 S1 (b5n hp hc (b7h hgl hm ha hst) hg hb hs) fun D σ H ⟨F0,H0,F,ρ,fl,so,e,fin⟩=>by
  obtain⟨ps,e1,e⟩:=bind_some e
  obtain⟨qs,e1,e2⟩:=bind_some e1
  refine⟨F,ρ,qs,so.e,e1,fun vs F1 H1 x rl=> ?_⟩
  split at e2
  ·rename_i j
   split at e2
   ·rename_i c
    have c:=b5Z.mp c
    cases e2
    obtain⟨v,r,rfl,rv,rr⟩:=rl
    cases rv
    cases rr
    have fin1:=fin.later x.f
    have hz:(j - 0).toNat=j.toNat:=by lia
    refine⟨j,rfl,c.1,c.2,b6J (lo:=0) (n:=j.toNat) (PvL X.K F0 H0 F1 b t (a8n 0 j) fl) ⟨F1,ρ,PU.y4.refl F1,so.ext x,e⟩ (fun k σ H hk hp=> ?_) (fun σ H hp=> ?_)⟩
    ·exact a7s T fin1 (b9o (by lia)) hp fun _ _=>rfl
    ·have:j.toNat=(a8n 0 j).length:=by rw [b9p,hz]
     rw [this] at hp
     exact a6O fin1 hp
   ·cases e2
  ·cases e2
def W6(c:MT)(body:MS):Nat->e9->Option Fl
 |0,_=>none
 |n+1,ρ=>(c ρ).bind fun b=>if b=true then(body ρ).bind fun fl=>match fl with
  | .nx ρ'=>W6 c body n ρ'
  | .ct ρ'=>W6 c body n ρ'
  | .bk ρ'=>some (.nx ρ')
  | .rt r=>some (.rt r) else some (.nx ρ)
def b27(n:Nat)(hp:PassesOwn (model X.prog X.w) X.A X.env X.xe)(hc:ET X c mc)(hb:ESs X body b):ES X (.While c body [] pos) (W6 mc b n):=
 S1 (b9g hp hc hb) fun D σ H ⟨F0,H0,F,ρ,fl,so,e,fin⟩=>by
  refine⟨fun k σ H=>∃F1 ρ,y4 F F1/\SOk X.K F0 H0 F1 H σ ρ/\W6 mc b k ρ=some fl,⟨n,F,ρ,PU.y4.refl F,so,e⟩, ?_⟩
  rintro k σ H ⟨F1,ρ,s,so,e⟩
  cases k with
  |zero=>cases e
  |succ k=>
   unfold W6 at e
   obtain⟨d,e1,e⟩:=bind_some e
   refine⟨F1,ρ,d,so.e,e1,fun F2 H2 x=> ?_⟩
   have s2:=s.trans x.f
   cases d with
   |true=>
    rw [if_pos rfl] at e
    obtain⟨f1,e2,e⟩:=bind_some e
    refine b3n ⟨fun σ' H'=>∃F1 ρ,y4 F F1/\SOk X.K F0 H0 F1 H' σ' ρ/\W6 mc b k ρ=some fl,fun σ' H' h=>⟨k,Nat.lt_succ_self k,h⟩,⟨F0,H0,F2,ρ,f1,so.ext x,e2, ?_⟩⟩
    cases f1 with
    |nx ρ'=>exact fun σ3 F3 H3 s3 so3=>⟨F3,ρ',s2.trans s3,so3,e⟩
    |ct ρ'=>exact fun σ3 F3 H3 s3 so3=>⟨F3,ρ',s2.trans s3,so3,e⟩
    |bk ρ'=>cases e;exact fun σ3 F3 H3 s3 so3=>fin σ3 F3 H3 (s2.trans s3) so3
    |rt r=>cases e;exact fin
   |false=>
    rw [if_neg Ar] at e
    cases e
    exact b3m (fin σ F2 H2 s2 (so.ext x))
def n6(n:Nat)(body:MS)(ps:List PV):Option g6:=(body (ps.map (fun p=>some (g6.val p))++AV n none)).bind fun fl=>match fl with
 | .rt r=>some r
 | .nx _=>some (.val .none)
 |_=>none
def b37{K:AE}{F H:Hp}{ps:List PV}{vs:List V}(n:Nat)(s:y4 F H)(r:w8 K F ps vs):SOk K F H F H (vs.map some++AV n none) (ps.map (fun p=>some (g6.val p))++AV n none):=by
 have hl:=r.length
 have key:∀(i:Nat) (q:g6),(ps.map (fun p=>some (g6.val p))++AV n none)[i]?=some (some q)->∃p v,q= .val p/\(vs.map some++AV n none)[i]?=some (some v)/\T7 K F p v:=by
  intro i q e
  by_cases h:i<ps.length
  ·rw [BB (by simpa using h),As] at e
   rw [BB (by rw [Ak,hl];exact h),As]
   cases q':ps[i]? with
   |none=>rw [q'] at e;cases e
   |some p=>
    rw [q'] at e
    cases e
    obtain⟨v,h1,h2⟩:=r.get q'
    exact⟨p,v,rfl,by rw [h1];rfl,h2⟩
  ·rw [List.getElem?_append_right (by simpa using h),List.getElem?_replicate] at e
   split at e<;>cases e
 refine⟨Ext.refl s,⟨s,by simp [hl],fun i q e=> ?_,fun i qs e=> ?_,fun i j qs _ a _ e=> ?_⟩,fun i qs a e=> ?_⟩
 ·obtain⟨p,v,rfl,h1,h2⟩:=key i q e;exact⟨v,h1,h2⟩
 ·obtain⟨p,v,z,_⟩:=key i _ e;cases z
 ·obtain⟨p,v,z,_⟩:=key i _ e;cases z
 ·obtain⟨p,v,z,_⟩:=key i _ e;cases z
def b70{P:Ac}{w:AU}{K:AE}{mg:Str->Option AA}{base:Heap}{x qual:Str}{st:Stmt}{f:AB}{fd:FuncData}{N ps:List Str}{k:Nat}{m:MS}(F:Fun K x qual st f fd)(S:j0 N ps (d5 st))
 (hb:∀(cdv:AA) (A:Al) (outer:List Env) (s:AG) (H:Hp) (E:XK),O9 k (A.deeper (envOfC qual (d5 st) s.heap.objs.size f cdv))->ESs (a30 CX0 P w K mg base N qual (d5 st) f cdv A outer s H E).nox (G9 st) m):
 U0 P w K mg base CX0 (k+1) f fd ps (spP K ps.length (n6 (N.length - ps.length) m)):=by
 refine F.ok S (fun vs H Q E h=> ?_) (fun cdv A outer s H vs Q E hr h=> ?_)
 ·obtain⟨_,qs,_,_,r,h2,_⟩:=h
  rw [r.length,h2]
 ·obtain⟨F1,qs,r,s1,rl,hl,e,k⟩:=h
  refine⟨_,hb cdv A outer s H E hr, ?_⟩
  unfold n6 at e
  obtain⟨fl,e1,e2⟩:=bind_some e
  have hv:vs.length=ps.length:=by rw [rl.length,hl]
  refine⟨F1,H,F1,_,fl, ?_,e1, ?_⟩
  ·have:=b37 (N.length - ps.length) s1 rl
   unfold L2.a3Y
   rw [hv]
   exact this
  ·cases fl with
   |rt q=>cases e2;exact fun v F' H' o=>k v F' H' o
   |nx ρ=>cases e2;exact fun σ' F' H' _ so=>k .non F' H' (C0.val so.x rfl)
   |bk ρ=>cases e2
   |ct ρ=>cases e2
section
variable {X:Cx}
def rC1(K:AE)(g:g6->Option g6):List V->Hp->VK->Prop:=fun xs H Q=>∃F x rx rz,xs=[x]/\y4 F H/\U1 K F H x rx/\g rx=some rz/\∀v F' H',C0 K F H F' H' v rz->Q v H'
def rC2(K:AE)(g:g6->g6->Option g6):List V->Hp->VK->Prop:=fun xs H Q=>∃F x y rx ry rz,xs=[x,y]/\y4 F H/\U1 K F H x rx/\U1 K F H y ry/\g rx ry=some rz/\∀v F' H',C0 K F H F' H' v rz->Q v H'
def m1(g:g6->Option g6)(m:M):M:=fun ρ=>(m ρ).bind g
def b8Q(h:tM X.K (m1 g m) σ H Q):tCB (rC1 X.K g) (b39 (tM X.K m) b9H) σ H Q:=by
 obtain⟨F,ρ,r,he,hm,k⟩:=h
 obtain⟨rx,e1,hm⟩:=bind_some hm
 exact⟨F,ρ,rx,he,e1,fun v F1 H1 o1=>⟨F1,v,rx,r,rfl,o1.x.fh,o1.rep,hm,fun z F2 H2 o2=>k z F2 H2 (C0.trans o1.x o2)⟩⟩
def c1z(h:tM X.K (m2 g m n) σ H Q):tCB (rC2 X.K g) (b39 (tM X.K m) (b39 (tM X.K n) b9H)) σ H Q:=by
 obtain⟨F,ρ,r,he,hm,k⟩:=h
 obtain⟨rx,e1,hm⟩:=bind_some hm
 obtain⟨ry,e2,hm⟩:=bind_some hm
 exact⟨F,ρ,rx,he,e1,fun v F1 H1 o1=>⟨F1,ρ,ry,he.ext o1.x,e2,fun u F2 H2 o2=>⟨F2,v,u,rx,ry,r,rfl,o2.x.fh,o1.rep.ext o2.x,o2.rep,hm,fun z F3 H3 o3=>k z F3 H3 (C0.trans (o1.x.trans o2.x) o3)⟩⟩⟩
def N6{id:String}{x:Str}{p pos:Pos}{e:AS}{g:g6->Option g6}{m:M}(hc:R0 X (.builtin id) (rC1 X.K g))(hg:Gl X x)(hm:X.mg x=none)(hv:bootBuiltins x=some (.builtin id))(ha:EE X e m)(hn:x≠"__name__":=by decide)(hdb:(x==("__debug__":Str))=false:=by decide)
 (he:AJ [e] X.env=(false,eval e X.env)::AJ [] X.env:=by rfl) (hpl:(backTo pos (AJ [] X.env)).any (·.1)=false:=by rfl):EE X (.Call (.Name x p) [e] [] pos) (m1 g m):=
 D3 (a4I hc hg hm hv (G1 ha W3 he) hn hdb he hpl) fun _ _ _ h=>b8Q h
def c34{id:String}{x:Str}{p pos:Pos}{e e2:AS}{g:g6->g6->Option g6}{m n:M}(hc:R0 X (.builtin id) (rC2 X.K g))(hg:Gl X x)(hm:X.mg x=none)(hv:bootBuiltins x=some (.builtin id))(ha:EE X e m)(hb:EE X e2 n)(hn:x≠"__name__":=by decide)(hdb:(x==("__debug__":Str))=false:=by decide)
 (he:AJ [e,e2] X.env=(false,eval e X.env)::AJ [e2] X.env:=by rfl) (he2:AJ [e2] X.env=(false,eval e2 X.env)::AJ [] X.env:=by rfl) (hpl:(backTo pos (AJ [e2] X.env)).any (·.1)=false:=by rfl):EE X (.Call (.Name x p) [e,e2] [] pos) (m2 g m n):=
 D3 (a4I hc hg hm hv (G1 ha (G1 hb W3 he2) he) hn hdb he hpl) fun _ _ _ h=>c1z h
def a4q(hc:R0 X (.type T) (rC1 X.K g))(hg:Gl X x)(hm:X.mg x=none)(hv:bootBuiltins x=some (.type T))(ha:EE X e m)(hn:x≠"__name__":=by decide)(hdb:(x==("__debug__":Str))=false:=by decide)
 (he:AJ [e] X.env=(false,eval e X.env)::AJ [] X.env:=by rfl) (hpl:(backTo pos (AJ [] X.env)).any (·.1)=false:=by rfl):EE X (.Call (.Name x p) [e] [] pos) (m1 g m):=
 D3 (b1k hc hg hm hv (G1 ha W3 he) hn hdb he hpl) fun _ _ _ h=>b8Q h
def N8(x:g6):Option g6:=match x.rd with
 | .str z=>if z.length<=AL then some (.val (.int z.length)) else none
 |p=>match PyData.items? p with
  |some ps=>some (.val (.int ps.length))
  |none=>none
def N4:R0 X (.builtin "len") (rC1 X.K N8):=by
 intro pins s σ H xs us Q I rv h
 obtain⟨F,x,rx,rz,rfl,s0,h1,h2,k⟩:=h
 unfold N8 at h2
 split at h2
 ·rename_i z ez
  split at h2
  ·rename_i c
   cases h2
   have rr:=h1.rd s0
   rw [ez] at rr
   cases rr
   exact b1N pins s σ H _ us Q I rv ⟨z,rfl,c,k _ F H (C0.here s0 rfl)⟩
  ·cases h2
 ·split at h2
  ·rename_i ps e
   cases h2
   obtain⟨a,xs,rfl,hq,r⟩:=S9 s0 h1 e
   refine b1M pins s σ H _ us Q I rv ⟨a,xs,rfl,hq, ?_⟩
   rw [r.length]
   exact k _ F H (C0.here s0 rfl)
  ·cases h2
def c2f(hc:X.calm=true):R0 X (.builtin "min") (rC2 X.K (gI fun i j=> .int (if j<i then j else i))):=by
 intro pins s σ H xs us Q I rv h
 obtain⟨F,x,y,rx,ry,rz,rfl,s0,h1,h2,h3,k⟩:=h
 obtain⟨i,j,rfl,rfl,rfl⟩:=b5V h3
 cases h1;cases h2
 exact b6A hc pins s σ H _ us Q I rv ⟨i,j,rfl,k _ F H (C0.here s0 rfl)⟩
def a08(x:g6):Option g6:=match PyData.items? x.rd with
 |some ps=>some (.val (.tuple ps))
 |none=>none
def b6R(s0:y4 F H)(h:U1 X.K F H v r)(e:PyData.items? r.rd=some ps):∃a xs,v= .ref a/\(SqL X.K H a xs\/(SqT X.K H a xs/\T7 X.K F (.tuple ps) v))/\w8 X.K F ps xs:=by
 cases r with
 |val p=>
  cases p with
  |list qs=>cases e;obtain⟨a,xs,rfl,hq,r⟩:=h;exact⟨a,xs,rfl,.inl (S2 s0 hq),r⟩
  |tuple qs=>cases e;obtain⟨a,xs,rfl,hq,r⟩:=h;exact⟨a,xs,rfl,.inr ⟨G6 s0 hq.sq,⟨a,xs,rfl,hq,r⟩⟩,r⟩
  |_=>cases e
 |ow c=>cases c<;>cases e;obtain⟨a,xs,rfl,_,hq,r⟩:=h;exact⟨a,xs,rfl,.inl (SqL.of hq),r⟩
 |bo c=>cases c<;>cases e;obtain⟨a,xs,rfl,_,hq,r⟩:=h;exact⟨a,xs,rfl,.inl (SqL.of hq),r⟩
def a4l:R0 X (.type "tuple") (rC1 X.K a08):=by
 intro pins s σ H xs us Q I rv h
 obtain⟨F,x,rx,rz,rfl,s0,h1,h2,k⟩:=h
 unfold a08 at h2
 split at h2
 ·rename_i ps e
  cases h2
  obtain⟨a,xs,rfl,hq,r⟩:=b6R s0 h1 e
  refine b0g pins s σ H _ us Q I rv ⟨a,xs,rfl, ?_⟩
  rcases hq with hq|⟨hq,rp⟩
  ·exact .inl ⟨hq,fun l hl=>k _ _ _ (C0.tup s0 hl r)⟩
  ·exact .inr ⟨hq,k _ F H (C0.here s0 rp)⟩
 ·cases h2
def kindOf:PV->String
 | .none=>"NoneType"
 | .bool _=>"bool"
 | .int _=>"int"
 | .str _=>"str"
 | .list _=>"list"
 | .tuple _=>"tuple"
 | .dict _=>"dict"
def a4z(T:String)(p:PV):Bool:=kindOf p==T||(kindOf p=="bool" && T=="int")
def isFn:PV->Bool
 | .dict ((.str _,_)::_)=>true
 |_=>false
def a1n(T:String)(x:g6):Option g6:=bif isFn x.rd then none else some (.val (.bool (a4z T x.rd)))
def b7D(T:String):Prop:=T="int"\/T="bool"\/T="str"\/T="list"\/T="tuple"\/T="dict"
def b6U{K:AE}{T:String}(h:b7D T):∀p:PV,W.kitOne K (.type (kindOf p)) (.type T)=some (a4z T p):=by
 intro p
 rcases h with rfl|rfl|rfl|rfl|rfl|rfl<;>cases p<;>kernel_rfl
def a06{T:String}{e:AS}{m:M}{p p2 pos:Pos}(kt:b7D T)(hg:Gl X "isinstance")(hm:X.mg "isinstance"=none)(ha:EE X e m)(hT:PE X (.Name (AC T) p2) (tC (.ty T)))
 (he:AJ [e,.Name (AC T) p2] X.env=(false,eval e X.env)::AJ [.Name (AC T) p2] X.env:=by rfl) (he2:AJ [.Name (AC T) p2] X.env=(false,eval (.Name (AC T) p2) X.env)::AJ [] X.env:=by rfl) (hpl:(backTo pos (AJ [.Name (AC T) p2] X.env)).any (·.1)=false:=by rfl)
 (hv:bootBuiltins "isinstance"=some (.builtin "isinstance"):=by rfl):
 EE X (.Call (.Name "isinstance" p) [e,.Name (AC T) p2] [] pos) (m1 (a1n T) m):=by
 have hc:R0 X (.builtin "isinstance") (fun xs H Q=>∃F x rx,xs=[x,.ty T]/\y4 F H/\U1 X.K F H x rx/\isFn rx.rd=false/\Q (.bl (a4z T rx.rd)) H):=by
  intro pins s σ H xs us Q I rv h
  obtain⟨F,x,rx,rfl,s0,h1,nf,q⟩:=h
  obtain⟨u,u2,rfl,ru,ru2⟩:∃u1 u2,us=[u1,u2]/\A8 x u1/\A8 (.ty T) u2:=by
   cases rv with
   |cons p q=>
    cases q with
    |cons p' q'=>
     cases q'
     exact⟨_,_,rfl,p,p'⟩
  cases ru2
  have rr:=h1.rd s0
  have kk:=b6U (K:=X.K) kt rx.rd
  have fin:∀tk,EP X pins σ Q (.bool (a4z T rx.rd)) {s with toks:=tk}:=fun tk=>⟨.bl _,H,I.tok tk,rfl,q⟩
  cases hp:rx.rd with
  |none=>rw [hp] at rr kk fin;cases rr;cases ru;exact W.kia_one W.kitx_none I.kIn True.intro kk (fun z=>nomatch z) fin
  |bool b=>rw [hp] at rr kk fin;cases rr;cases ru;exact W.kia_one W.kitx_bool I.kIn True.intro kk (fun z=>nomatch z) fin
  |int b=>rw [hp] at rr kk fin;cases rr;obtain⟨t,rfl⟩:=ru;exact W.kia_one W.kitx_int I.kIn True.intro kk (fun z=>nomatch z) fin
  |str b=>rw [hp] at rr kk fin;cases rr;obtain⟨t,rfl⟩:=ru;exact W.kia_one W.kitx_str I.kIn True.intro kk (fun z=>nomatch z) fin
  |list ps=>
   rw [hp] at rr kk fin
   obtain⟨a,ys,rfl,hq,_⟩:=rr
   cases ru
   obtain⟨its,_,⟨o,n,e1,e2,_⟩,_⟩:=I.list hq
   exact W.kia_one W.kitx_list I.kIn ⟨o,e1,e2⟩ kk (fun z=>nomatch z) fin
  |tuple ps=>
   rw [hp] at rr kk fin
   obtain⟨a,ys,rfl,hq,_⟩:=rr
   cases ru
   obtain⟨its,_,⟨o,e1,e2,_⟩,_⟩:=I.tuple hq.sq
   exact W.kia_one W.kitx_tuple I.kIn ⟨o,e1,e2⟩ kk (fun z=>nomatch z) fin
  |dict ps=>
   rw [hp] at rr kk fin nf
   rcases rr with⟨a,_,rfl,hq,_⟩|⟨a,_,rfl,hq,_⟩|⟨x,_,rfl,_⟩|⟨x,m,fs,_,hf⟩
   ·cases ru
    obtain⟨_,_,_,_,o,_,_,e1,e2,_⟩:=I.hok a _ hq
    exact W.kia_one W.kitx_dict I.kIn ⟨o,e1,e2.1⟩ kk (fun z=>nomatch z) fin
   ·cases ru
    obtain⟨_,_,_,_,o,_,_,e1,e2,_⟩:=I.hok a _ hq
    exact W.kia_one W.kitx_dict I.kIn ⟨o,e1,e2.1⟩ kk (fun z=>nomatch z) fin
   ·cases nf
   ·cases ps with
    |nil=>cases hf
    |cons f ps=>obtain⟨k,p⟩:=f;obtain⟨_,_,_,_,z,_⟩:=hf;subst z;cases nf
 exact D3 (a4I hc hg hm hv (G1 ha (G1 hT W3 he2) he) (by decide) (by decide) he hpl) fun σ H Q ⟨F,ρ,r,h1,h2,k⟩=>by
  obtain⟨rx,e1,h2⟩:=bind_some h2
  unfold a1n at h2
  cases nf:isFn rx.rd with
  |true=>rw [nf] at h2;cases h2
  |false=>
   rw [nf] at h2
   cases h2
   exact⟨F,ρ,rx,h1,e1,fun v F1 H1 o=>⟨F1,v,rx,rfl,o.x.fh,o.rep,nf,k _ F1 H1 (C0.val o.x rfl)⟩⟩
def SOk.putC{K:AE}{F0 H0 F H:Hp}{σ:L2.St}{ρ:e9}{i:Nat}{c d:a32}{a:AB}{o:HO}(s:SOk K F0 H0 F H σ ρ)(e:ρ[i]?=some (some (.ow c)))(ea:σ[i]?=some (some (.ref a)))(r:F a=none->a37 K F (K7 H a o) (.ref a) d):
 SOk K F0 H0 F (K7 H a o) σ (ρ.set i (some (.ow d))):=by
 obtain⟨v,h1,rr0⟩:=s.e.at_ i _ e
 obtain⟨a',xs,rfl,fa,ha⟩:=a37.at_ rr0
 rw [ea] at h1;cases h1
 have na:H0 a=none:=s.nw i c a e ea
 have hi:i<ρ.length:=(Aw.mp e).1
 refine⟨⟨s.x.f,fun b o z=>by rw [w4 (x9 z na)];exact s.x.h _ _ z,fun b o z=>by rw [w4 (x9 z fa)];exact s.x.fh _ _ z,s.x.nw,s.x.nf⟩,⟨fun b o z=>by rw [w4 (x9 z fa)];exact s.e.fh _ _ z,by simp [s.e.len],fun j q ej=> ?_,fun j z ej=> ?_,fun j k z1 z2 c' hjk e1 e2 e3 e4=> ?_⟩,fun j z c' e1 e2=> ?_⟩
 ·rw [List.getElem?_set] at ej
  by_cases hij:i=j
  ·subst hij
   rw [if_pos rfl,if_pos hi] at ej
   cases ej
   exact⟨.ref a,ea,r fa⟩
  ·rw [if_neg hij] at ej
   obtain⟨v,h1,rr⟩:=s.e.at_ j q ej
   refine⟨v,h1, ?_⟩
   cases q with
   |val p=>exact rr
   |bo z=>exact absurd ej (s.e.nb j z)
   |ow z=>
    have key:∀b,v= .ref b->b≠a:=fun b hb hab=>by subst hab;subst hb;exact s.e.ap i j c z b hij e ej ea h1
    cases z with
    |lst z=>
     obtain⟨b,zs,rfl,fb,hb,rz⟩:=rr
     exact⟨b,zs,rfl,fb,by rw [w4 (key b rfl)];exact hb,rz⟩
    |dct z=>
     obtain⟨b,zs,rfl,fb,hb,rz⟩:=rr
     exact⟨b,zs,rfl,fb,by rw [w4 (key b rfl)];exact hb,rz⟩
    |txt z=>
     obtain⟨b,zs,rfl,fb,hb,rz⟩:=rr
     exact⟨b,zs,rfl,fb,by rw [w4 (key b rfl)];exact hb,rz⟩
 ·rw [List.getElem?_set] at ej
  by_cases hij:i=j
  ·subst hij;rw [if_pos rfl,if_pos hi] at ej;cases ej
  ·rw [if_neg hij] at ej;exact s.e.nb j z ej
 ·have own_at:∀(j:Nat) (z:a32),(ρ.set i (some (g6.ow d)))[j]?=some (some (g6.ow z))->∃z':a32,ρ[j]?=some (some (g6.ow z')):=fun j z h=>by
   rw [List.getElem?_set] at h
   by_cases hij:i=j
   ·subst hij;exact⟨c,e⟩
   ·rw [if_neg hij] at h;exact⟨z,h⟩
  obtain⟨y1,h1⟩:=own_at j z1 e1
  obtain⟨y2,h2⟩:=own_at k z2 e2
  exact s.e.ap j k y1 y2 c' hjk h1 h2 e3 e4
 ·rw [List.getElem?_set] at e1
  by_cases hij:i=j
  ·subst hij;rw [ea] at e2;cases e2;exact na
  ·rw [if_neg hij] at e1;exact s.nw j z c' e1 e2
def SOk.put{K:AE}{F0 H0 F H:Hp}{σ:L2.St}{ρ:e9}{i:Nat}{ps qs:List PV}{a:AB}{ys:List V}(s:SOk K F0 H0 F H σ ρ)(e:ρ[i]?=some (some (.own ps)))(ea:σ[i]?=some (some (.ref a)))(r:w8 K F qs ys):
 SOk K F0 H0 F (K7 H a (.lst ys)) σ (ρ.set i (some (.own qs))):=s.putC e ea fun fa=>⟨a,ys,rfl,fa,z9,r⟩
def a2e(i:Nat)(m:M):MS:=fun ρ=>(m ρ).bind fun r=>r.toVal.bind fun p=>match ρ[i]? with
 |some (some (.ow (.lst ps)))=>if ps.length<AL then some (.nx (ρ.set i (some (.own (ps++[p]))))) else none
 |_=>none
def a7h(i:Nat){x:Str}{p apos cpos pos:Pos}{e:AS}{m:M}(hx:PE X (.Name x p) (b2E i))(ha:EE X e m)
 (hbase:attributeBase (.Name x p) "append" X.env (eval (.Name x p) X.env)=eval (.Name x p) X.env:=by rfl)
 (hfew:((backTo cpos (AJ [e] X.env)).all (fun x=> !x.1)&&(backToKw cpos (keywordEach [] X.env)).all (fun x=>x.1.isSome)
  && decide ([e].length+([]:List Keyword).length+(if([]:List Keyword).isEmpty then 0 else 1)<30))=true:=by rfl)
 (hline:(apos.endLine==cpos.line)=true:=by rfl) (hs:AJ [e] X.env=(false,eval e X.env)::AJ [] X.env:=by rfl) (hplain:(backTo cpos (AJ [] X.env)).any (·.1)=false:=by rfl)
 (hsw:swapsWith (.Call (.Attribute (.Name x p) "append" apos) [e] [] cpos) none pos.line X.env=pure false:=by rfl):
 ES X (.Expr (.Call (.Attribute (.Name x p) "append" apos) [e] [] cpos) pos) (a2e i m):=
 S1 (b6k (b1j PySem.F.plainAttrs_list PySem.F.slot_list_append PySem.F.type_list_append b1a hx (G1 ha W3 hs) hbase hfew hline hs hplain) hsw) fun D σ H ⟨F0,H0,F,ρ,fl,so,e,fin⟩=>by
  obtain⟨r,e1,e⟩:=bind_some e
  obtain⟨q,e2,e⟩:=bind_some e
  split at e
  ·rename_i ps eo
   split at e
   ·rename_i c
    cases e
    obtain⟨v,h1,a,xs,rfl,fa,ha',rl⟩:=so.e.at_ i _ eo
    refine⟨.ref a,h1,.inl ⟨rfl,xs,SqL.of ha'⟩,F,ρ,r,so.e,e1,fun w F1 H1 o=> ?_⟩
    obtain⟨F2,o2⟩:=o.toVal e2
    have so2:=so.ext o2.x
    refine⟨a,xs,w,rfl,rfl,o.x.h _ _ ha',by rw [rl.length];exact c, ?_⟩
    exact fin σ F2 _ o2.x.f (so2.put eo h1 ((w8.mono o2.x.f _ rl).append ⟨w,[],rfl,o2.rep,rfl⟩))
   ·cases e
  ·cases e
def c0E(i:Nat)(g:g6->g6->Option g6)(m:M):MS:=fun ρ=>match ρ[i]? with
 |some (some (.val x))=>(m ρ).bind fun y=>(g (.val x) y).bind fun z=>if z.nb=true then some (.nx (ρ.set i (some z))) else none
 |_=>none
def c2m(hN:X.N.Nodup)(he:EE X e m)(ho:OpM X (inplaceOp op) g)(hi:X.N[i]?=some x:=by rfl)(hx:Loc X.env.scope x:=by exact Or.inl rfl)(hf:X.fn x=true\/X.env.scope.names.lookup x=some .local:=by first|exact .inl rfl|exact .inr rfl|assumption):
 ES X (.AugAssign (.Name x pos') op e pos) (c0E i g m):=
 S1 (c3n hN hi hx he (ti:=rM2 X.K g) ho hf) fun D σ H ⟨F0,H0,F,ρ,fl,so,e,fin⟩=>by
  unfold c0E at e
  split at e
  ·rename_i p ep
   obtain⟨y,e1,e⟩:=bind_some e
   obtain⟨z,e2,e⟩:=bind_some e
   split at e
   ·rename_i c
    cases e
    obtain⟨v,h1,rv⟩:=so.e.at_ i _ ep
    exact⟨v,h1,F,ρ,y,so.e,e1,fun u F1 H1 o=>⟨F1,.val p,y,z,o.x.fh,rv.ext o.x,o.rep,e2,fun t F2 H2 o2=>fin _ F2 H2 (o.x.f.trans o2.x.f) ((so.ext o.x).set o2 c i)⟩⟩
   ·cases e
  ·cases e
def b8T:OpM X (inplaceOp .Add) (gI fun i j=> .int (i+j)):=b8R c0s fun _ _ _=>rfl
def b43(i:Nat)(n:MS):MS:=fun ρ=>match ρ[i]? with
 |some (some (.ow (.lst ps)))=>n (ρ.set i (some (.val (.list ps))))
 |_=>n ρ
def SOk.frz{K:AE}{F0 H0 F H:Hp}{σ:L2.St}{ρ:e9}{i:Nat}{ps:List PV}(s:SOk K F0 H0 F H σ ρ)(e:ρ[i]?=some (some (.own ps))):∃F',y4 F F'/\SOk K F0 H0 F' H σ (ρ.set i (some (.val (.list ps)))):=by
 obtain⟨v,h1,a,xs,rfl,fa,ha,rl⟩:=s.e.at_ i _ e
 have na:H0 a=none:=s.nw i _ a e h1
 have hi:i<ρ.length:=(Aw.mp e).1
 have up:y4 F (K7 F a (.lst xs)):=a4V fa
 have fh:y4 (K7 F a (.lst xs)) H:=fun b o z=>by
  by_cases hb:b=a
  ·subst hb;rw [z9] at z;cases z;exact ha
  ·rw [w4 hb] at z;exact s.e.fh _ _ z
 refine⟨K7 F a (.lst xs),up,⟨⟨s.x.f.trans up,s.x.h,fh,fun b o z y t=>by rw [w4 (x9 y na)];exact s.x.nw b o z y t,b8L s.x.nf⟩,⟨fh,by simp [s.e.len],fun j q ej=> ?_,fun j z ej=> ?_,fun j k z1 z2 c hjk e1 e2 e3 e4=> ?_⟩,fun j z c e1 e2=> ?_⟩⟩
 ·rw [List.getElem?_set] at ej
  by_cases hij:i=j
  ·subst hij
   rw [if_pos rfl,if_pos hi] at ej
   cases ej
   exact⟨.ref a,h1,a,xs,rfl,SqL.of z9,w8.mono up _ rl⟩
  ·rw [if_neg hij] at ej
   obtain⟨v,h2,rr⟩:=s.e.at_ j q ej
   refine⟨v,h2, ?_⟩
   cases q with
   |val p=>exact T7.mono up p rr
   |bo z=>exact absurd ej (s.e.nb j z)
   |ow z=>
    have key:∀b,v= .ref b->b≠a:=fun b hb hab=>by subst hab;subst hb;exact s.e.ap i j _ z b hij e ej h1 h2
    cases z with
    |lst z=>
     obtain⟨b,zs,rfl,fb,hb,rz⟩:=rr
     exact⟨b,zs,rfl,by rw [w4 (key b rfl)];exact fb,hb,w8.mono up _ rz⟩
    |dct z=>
     obtain⟨b,zs,rfl,fb,hb,rz⟩:=rr
     exact⟨b,zs,rfl,by rw [w4 (key b rfl)];exact fb,hb,a38.mono up _ rz⟩
    |txt z=>
     obtain⟨b,zs,rfl,fb,hb,rz⟩:=rr
     exact⟨b,zs,rfl,by rw [w4 (key b rfl)];exact fb,hb,a38.mono up _ rz⟩
 ·rw [List.getElem?_set] at ej
  by_cases hij:i=j
  ·subst hij;rw [if_pos rfl,if_pos hi] at ej;cases ej
  ·rw [if_neg hij] at ej;exact s.e.nb j z ej
 ·have own_at:∀(j:Nat) (z:a32),(ρ.set i (some (g6.val (.list ps))))[j]?=some (some (g6.ow z))->ρ[j]?=some (some (g6.ow z)):=fun j z h=>by
   rw [List.getElem?_set] at h
   by_cases hij:i=j
   ·subst hij;rw [if_pos rfl,if_pos hi] at h;cases h
   ·rw [if_neg hij] at h;exact h
  exact s.e.ap j k z1 z2 c hjk (own_at j z1 e1) (own_at k z2 e2) e3 e4
 ·rw [List.getElem?_set] at e1
  by_cases hij:i=j
  ·subst hij;rw [if_pos rfl,if_pos hi] at e1;cases e1
  ·rw [if_neg hij] at e1;exact s.nw j z c e1 e2
def b4H(i:Nat){st:Stmt}{n:MS}(h:ES X st n):ES X st (b43 i n):=S1 h fun D σ H ⟨F0,H0,F,ρ,fl,so,e,fin⟩=>by
 unfold b43 at e
 split at e
 ·rename_i ps eo
  obtain⟨F',s,so'⟩:=so.frz eo
  exact⟨F0,H0,F',_,fl,so',e,fin.later s⟩
 ·exact⟨F0,H0,F,ρ,fl,so,e,fin⟩
end
def u7(P:Ac)(w:AU)(K:AE)(mg:Str->Option AA)(base:Heap)(x:Str)(ps:List Str)(k:Nat)(g:List PV->Option g6):Prop:=
 ∃f fd,U0 P w K mg base CX0 k f fd ps (spP K ps.length g)/\mg x=some (.ref f)/\W.keepIn K (.ref f)=true/\a0K K fd ps []
def m8
 (d:u7 X.prog X.w X.K X.mg X.base x ps k g) (hr:O9 k' X.A) (hk:k<=k') (hg:Gl X x) (hn:∀ρ qs,m ρ=some qs->qs.length=ps.length) (ha:EA X (e::es) m)
 (hdb:(x==("__debug__":Str))=false:=by decide) (he:AJ (e::es) X.env=(false,eval e X.env)::AJ es X.env:=by rfl) (hpl:(backTo pos (AJ es X.env)).any (·.1)=false:=by rfl):
 EE X (.Call (.Name x p) (e::es) [] pos) (m4 g m):=by
 obtain⟨f,fd,G,h1,h2,h3⟩:=d
 exact b96 G (hr.mono hk) hg h1 h2 h3 hn ha hdb he hpl
def b97
 (d:u7 X.prog X.w X.K X.mg X.base x [] k g) (hr:O9 k' X.A) (hk:k<=k') (hg:Gl X x) (hdb:(x==("__debug__":Str))=false:=by decide):
 EE X (.Call (.Name x p) [] [] pos) (fun _=>g []):=by
 obtain⟨f,fd,G,h1,h2,h3⟩:=d
 exact b7S G (hr.mono hk) hg h1 h2 h3 hdb
def b36(K:AE):Sp:=fun vs H Q _=>∃(a:AB) (ns:List Int),vs=[.ref a]/\SqL K H a (ns.map V.int)/\ns.length<=63/\∀H',Q (.bl true) H'
theorem b1n{K:AE}{H:Hp}:∀ns:List Int,w8 K H (ns.map PyData.int) (ns.map V.int)
 |[]=>rfl
 |n::ns=>⟨.int n,_,rfl,rfl,b1n ns⟩
def c0C{K:AE}{g:List PV->Option g6}(h:∀ns:List Int,ns.length<=63->g [.list (ns.map .int)]=some (.val (.bool true))):∀vs H Q E,b36 K vs H Q E->spP K 1 g vs H Q E:=
 fun vs H Q E ⟨a,ns,e,hs,hl,k⟩=>by
  subst e
  exact⟨H,[.list (ns.map .int)],_,PU.y4.refl H,⟨.ref a,[],rfl,⟨a,_,rfl,hs,b1n ns⟩,rfl⟩,rfl,h ns hl,fun v F' H' o=>by
   have:v= .bl true:=o.rep
   subst this
   exact k H'⟩
def c0k(x y:g6):Option g6:=O6 b4f (fun i j=> .int (i*j)) x y
def b8U:OpM X (binaryOp .Mult) c0k:=c00
def D4(i j:Int):v6 (.val (.int i)) (.val (.int j))=some (.val (.int (i+j))):=Eq.trans rfl rfl
def b74(h:i.length+j.length<=AL):v6 (.val (.str i)) (.val (.str j))=some (.val (.str (i++j))):=by simp [v6,h]
def b4I(f:Int->Int->PV)(i j:Int):gI f (.val (.int i)) (.val (.int j))=some (.val (f i j)):=Eq.trans rfl rfl
def a8q [∀i j,Decidable (C i j)](f:Int->Int->PV)(h:C i j):O6 C f (.val (.int i)) (.val (.int j))=some (.val (f i j)):=by
 show(if okC C i j=true then some (g6.val (f i j)) else none)=_
 rw [if_pos (a2h.mpr h)]
def c2z(h: -18446744073709551616<i/\i<18446744073709551616):c0k (.val (.int i)) (.val (.int j))=some (.val (.int (i*j))):=a8q _ (.inl (by lia))
def c2A(h: -18446744073709551616<j/\j<18446744073709551616):c0k (.val (.int i)) (.val (.int j))=some (.val (.int (i*j))):=a8q _ (.inr (by lia))
def b8a(h:0<j):O6 (fun _ j=>0<j) f (.val (.int i)) (.val (.int j))=some (.val (f i j)):=a8q _ h
def b8c(h:(0<=j/\j<=1000000)/\i.natAbs<18446744073709551616):O6 b6x f (.val (.int i)) (.val (.int j))=some (.val (f i j)):=a8q _ ⟨h.1.1,h.1.2,h.2⟩
def b75(h:B7 x.rd 50=true/\B7 y.rd 50=true):M1 x y=some (.val (.bool (PyData.eqv x.rd y.rd))):=by simp [M1,h]
def b4L(h:B7 x.rd 50=true/\B7 y.rd 50=true):gNe x y=some (.val (.bool (!PyData.eqv x.rd y.rd))):=by simp [gNe,h]
def a8X(ps:List PV):N8 (.val (.tuple ps))=some (.val (.int ps.length)):=Eq.trans rfl rfl
def c0j(h:L2.atI ps i=some p):v9 (.val (.tuple ps)) (.val (.int i))=some (.val p):=by simp [v9,g6.rd,a32.rd,PyData.items?,h]
def b77(p:PV)(ps:List PV):v9 (.val (.tuple (p::ps))) (.val (.int 0))=some (.val p):=by
 refine c0j ?_
 have h:(0:Int)<(((p::ps).length:Nat):Int):=by simp only [AM];lia
 unfold L2.atI L2.ixN
 rw [if_pos (by decide),if_pos h]
 rfl
def m9(g:g6->g6->Option g6)(ma mb:M)(ρ:e9):m2 g ma mb ρ=(ma ρ).bind fun x=>(mb ρ).bind fun y=>g x y:=Eq.trans rfl rfl
def B9(g:g6->Option g6)(ma:M)(ρ:e9):m1 g ma ρ=(ma ρ).bind g:=Eq.trans rfl rfl
def j9(p:PV)(ρ:e9):mC p ρ=some (.val p):=Eq.trans rfl rfl
def i3(p:PV)(ρ:e9):a9 0 (some (.val p)::ρ)=some (.val p):=Eq.trans rfl rfl
def c0H(p:List PV)(ρ:e9):a9 0 (some (.own p)::ρ)=some (.bor p):=Eq.trans rfl rfl
def n4(n:Nat)(r:Option g6)(ρ:e9):a9 (n+1) (r::ρ)=a9 n ρ:=Eq.trans rfl rfl
def f9(ρ:e9):b8 ρ=some []:=Eq.trans rfl rfl
def d8(m:M)(r:MA)(ρ:e9):a0 m r ρ=((m ρ).bind g6.toVal).bind fun p=>(r ρ).bind fun ps=>some (p::ps):=Eq.trans rfl rfl
def e8(p:PV):(g6.val p).toVal=some p:=Eq.trans rfl rfl
def V2(m:MA)(ρ:e9):A9 m ρ=(m ρ).bind fun ps=>if ps.length<=AL then some (.val (.tuple ps)) else none:=Eq.trans rfl rfl
def b8y(m:MA)(ρ:e9):O2 m ρ=(m ρ).bind fun ps=>if ps.length<=AL then some (.own ps) else none:=Eq.trans rfl rfl
def i9(g:List PV->Option g6)(m:MA)(ρ:e9):m4 g m ρ=(m ρ).bind g:=Eq.trans rfl rfl
def c19(i:Nat)(ρ:e9)(r:g6):Option Fl:=if r.nb=true then some (.nx (ρ.set i (some r))) else none
def r9(i:Nat)(m:M)(ρ:e9):z6 i m ρ=(m ρ).bind (c19 i ρ):=Eq.trans rfl rfl
def y6(i:Nat)(ρ:e9)(p:PV):c19 i ρ (.val p)=some (.nx (ρ.set i (some (.val p)))):=Eq.trans rfl rfl
def c2a(i:Nat)(ρ:e9)(p:List PV):c19 i ρ (.own p)=some (.nx (ρ.set i (some (.own p)))):=Eq.trans rfl rfl
def c4y(r:g6):Option Fl:=if r.nb=true then some (.rt r) else none
def i4(m:M)(ρ:e9):l9 m ρ=(m ρ).bind c4y:=Eq.trans rfl rfl
def o8(p:PV):c4y (.val p)=some (.rt (.val p)):=Eq.trans rfl rfl
def c3v(n:MS):Fl->Option Fl
 | .nx ρ=>n ρ
 |f=>some f
def j1(m n:MS)(ρ:e9):j5 m n ρ=(m ρ).bind (c3v n):=Eq.trans rfl rfl
def o9(n:MS)(ρ:e9):c3v n (.nx ρ)=n ρ:=Eq.trans rfl rfl
def u5(n:MS)(r:g6):c3v n (.rt r)=some (.rt r):=Eq.trans rfl rfl
def ifK(m n:MS)(ρ:e9)(b:Bool):Option Fl:=if b=true then m ρ else n ρ
def j7(c:MT)(m n:MS)(ρ:e9):u6 c m n ρ=(c ρ).bind (ifK m n ρ):=Eq.trans rfl rfl
def C2(m n:MS)(ρ:e9):ifK m n ρ true=m ρ:=Eq.trans rfl rfl
def D8(m n:MS)(ρ:e9):ifK m n ρ false=n ρ:=Eq.trans rfl rfl
def o0(ρ:e9):m7 ρ=some (.nx ρ):=Eq.trans rfl rfl
def c4z:Fl->Option g6
 | .rt r=>some r
 | .nx _=>some (.val .none)
 |_=>none
def i8(n:Nat)(b:MS)(ps:List PV):n6 n b ps=(b (ps.map (fun p=>some (g6.val p))++AV n none)).bind c4z:=Eq.trans rfl rfl
def k9(r:g6):c4z (.rt r)=some r:=Eq.trans rfl rfl
def A7(m:M)(ρ:e9):mtV m ρ=(m ρ).bind tru:=Eq.trans rfl rfl
def m6(m:M)(ρ:e9):A6 m ρ=(m ρ).bind b0C:=Eq.trans rfl rfl
def t7(b:Bool):b0C (.val (.bool b))=some b:=Eq.trans rfl rfl
def O4(b:Bool):tru (.val (.bool b))=some b:=Eq.trans rfl rfl
def t8(c:MT)(ρ:e9):G5 c ρ=(c ρ).map not:=Eq.trans rfl rfl
def orK(d:MT)(ρ:e9)(b:Bool):Option Bool:=if b=true then some true else d ρ
def c17(d:MT)(ρ:e9)(b:Bool):Option Bool:=if b=true then d ρ else some false
def t6(c d:MT)(ρ:e9):Q9 c d ρ=(c ρ).bind (orK d ρ):=Eq.trans rfl rfl
def X2(c d:MT)(ρ:e9):a1P c d ρ=(c ρ).bind (c17 d ρ):=Eq.trans rfl rfl
def a4H(d:MT)(ρ:e9):orK d ρ true=some true:=Eq.trans rfl rfl
def K4(d:MT)(ρ:e9):orK d ρ false=d ρ:=Eq.trans rfl rfl
def a8H(d:MT)(ρ:e9):c17 d ρ true=d ρ:=Eq.trans rfl rfl
def b4w(d:MT)(ρ:e9):c17 d ρ false=some false:=Eq.trans rfl rfl
def c18(n:M)(ρ:e9)(r:g6):Option g6:=(b0C r).bind fun b=>if b=true then n ρ else some (.val (.bool false))
def a1O(m n:M)(ρ:e9):a6P m n ρ=(m ρ).bind (c18 n ρ):=Eq.trans rfl rfl
def b4x(n:M)(ρ:e9):c18 n ρ (.val (.bool true))=n ρ:=Eq.trans rfl rfl
def b1F(n:M)(ρ:e9):c18 n ρ (.val (.bool false))=some (.val (.bool false)):=Eq.trans rfl rfl
def a6I(T:String)(p:PV):a1n T (.val p)=bif isFn p then none else some (.val (.bool (a4z T p))):=Eq.trans rfl rfl
def b3h(i:Str):isFn (.str i)=false:=Eq.trans rfl rfl
def b3i(ps:List PV):isFn (.tuple ps)=false:=Eq.trans rfl rfl
def b5G(a b:α):(bif false then a else b)=b:=Eq.trans rfl rfl
def b2x(p:PV):(g6.val p).rd=p:=Eq.trans rfl rfl
def c1T:List PV->Option (List PV)
 |[.int j]=>if inR j=true then some (a8n 0 j) else none
 |_=>none
def b6Z(m:MA)(ρ:e9):a4E m ρ=(m ρ).bind c1T:=Eq.trans rfl rfl
def c1l(h: -4611686018427387904<=j/\j<4611686018427387904):c1T [.int j]=some (a8n 0 j):=by
 show(if inR j=true then some (a8n 0 j) else none)=_
 rw [if_pos (b5Z.mpr (by lia))]
def b8b(i j:Int):gNe (.val (.int i)) (.val (.int j))=some (.val (.bool (!(i==j)))):=Eq.trans rfl rfl
def b0U(i j:Int):M1 (.val (.int i)) (.val (.int j))=some (.val (.bool (i==j))):=Eq.trans rfl rfl
def a4s(h:B7 p 50=true):M1 (.val p) (.val p)=some (.val (.bool true)):=by
 rw [b75 (x:= .val p) (y:= .val p) ⟨h,h⟩,b2x,a8S p 50 h]
def a1I(h:B7 p 50=true):gNe (.val p) (.val p)=some (.val (.bool false)):=by
 rw [b4L (x:= .val p) (y:= .val p) ⟨h,h⟩,b2x,a8S p 50 h]
 rfl
def a8s(ps:List PV):a4z "tuple" (.tuple ps)=true:=Eq.trans rfl rfl
def sz(n:Nat):(n<=AL)=(n<=16777216):=by rw [sizeLine_eq]
end PU
namespace L2
open PySem PySem.Spec PyProof.Rows
theorem P9:∀(names:List (Str×NameKind)) (n:Nat) (acc:List (Str×AB)),cellsFrom n names acc=cellsFrom n names []++acc
 |[],_,_=>rfl
 |(x,k)::r,n,acc=>by
  unfold cellsFrom
  split
  ·rw [P9 r (n+1) ((x,n)::acc),P9 r (n+1) [(x,n)],List.append_assoc];rfl
  ·exact P9 r n acc
theorem Y3:∀{names:List (Str×NameKind)} {n:Nat} {x:Str} {c:AB},(x,c)∈cellsFrom n names []->n<=c/\(x,NameKind.cell)∈names
 |[],_,_,_,h=>nomatch h
 |(y,k)::r,n,x,c,h=>by
  unfold cellsFrom at h
  split at h
  ·rename_i hk
   rw [P9] at h
   rcases Av.mp h with h|h
   ·obtain⟨a,b⟩:=Y3 h
    exact⟨by lia,Ah _ b⟩
   ·have e:(x,c)=(y,n):=by simpa using h
    cases e
    have:k= .cell:=by simpa using hk
    subst this
    exact⟨AR _,Ab⟩
  ·obtain⟨a,b⟩:=Y3 h
   exact⟨a,Ah _ b⟩
def a9a{α:Type}:∀{l:List (Str×α)} {x:Str},(∀c,(x,c)∉l)->l.lookup x=none:=fun {l x} h=>by
 cases e:l.lookup x with
 |none=>rfl
 |some c=>exact absurd (PySem.mem_of_lookup e) (h c)
theorem a5L:∀{l r:List (Str×α)} {x:Str},l.lookup x=none->(l++r).lookup x=r.lookup x
 |[],_,_,_=>rfl
 |(y,v)::l,r,x,h=>by
  rw [AY,List.lookup_cons]
  rw [List.lookup_cons] at h
  cases e:x==y with
  |true=>rw [e] at h;cases h
  |false=>rw [e] at h;exact a5L h
def a1e(cells:List (Str×AB)):List (Str×NameKind)->List (Str×AB)->List (Str×AB)
 |[],acc=>acc
 |(x,k)::r,acc=>if k== .free then a1e cells r ((x,(cells.lookup x).getD 0)::acc) else a1e cells r acc
theorem a7g:∀{names:List (Str×NameKind)} {acc:List (Str×AB)} {x:Str} {c:AB},(x,c)∈a1e cells names acc->(x,c)∈acc\/((x,NameKind.free)∈names/\c=(cells.lookup x).getD 0)
 |[],_,_,_,h=> .inl h
 |(y,k)::r,acc,x,c,h=>by
  unfold a1e at h
  split at h
  ·rename_i hk
   rcases a7g h with h|⟨h1,h2⟩
   ·rcases AZ.mp h with e|h
    ·cases e
     have:k= .free:=by simpa using hk
     subst this
     exact .inr ⟨Ab,rfl⟩
    ·exact .inl h
   ·exact .inr ⟨Ah _ h1,h2⟩
  ·rcases a7g h with h|⟨h1,h2⟩
   ·exact .inl h
   ·exact .inr ⟨Ah _ h1,h2⟩
theorem a4k:∀{names:List (Str×NameKind)} {acc:List (Str×AB)} {x:Str},x∉names.map (·.1)->(a1e cells names acc).lookup x=acc.lookup x
 |[],_,_,_=>rfl
 |(y,k)::r,acc,x,h=>by
  have h':¬(x=y)/\x∉r.map (·.1):=by simpa using h
  unfold a1e
  split
  ·rw [a4k h'.2,List.lookup_cons]
   have e:(x==y)=false:=by simpa using h'.1
   rw [e]
  ·exact a4k h'.2
theorem a3b:∀{names:List (Str×NameKind)} {acc:List (Str×AB)} {x:Str},(names.map (·.1)).Nodup->names.lookup x=some .free->(a1e cells names acc).lookup x=some ((cells.lookup x).getD 0)
 |[],_,_,_,h=>by cases h
 |(y,k)::r,acc,x,nd,h=>by
  have nd':y∉r.map (·.1)/\(r.map (·.1)).Nodup:=List.nodup_cons.mp nd
  rw [List.lookup_cons] at h
  unfold a1e
  cases e:x==y with
  |true=>
   rw [e] at h
   have hk:k= .free:=by simpa using h
   subst hk
   have exy:x=y:=by simpa using e
   subst exy
   rw [if_pos (show(NameKind.free==NameKind.free)=true from rfl),a4k nd'.1,List.lookup_cons,e]
  |false=>
   rw [e] at h
   split
   ·exact a3b nd'.2 h
   ·exact a3b nd'.2 h
theorem a2u(f:Str×NameKind->List (Str×AB)->Sem (ForInStep (List (Str×AB))))(hf:∀x k cs,f (x,k) cs=if k== .free then(do let c<-cellOf env x;pure (.yield ((x,c)::cs))) else pure (.yield cs)):
 ∀(names:List (Str×NameKind)) (acc:List (Str×AB)),(∀x∈names,x.2= .free->(env.cells.lookup x.1).isSome=true)->forIn names acc f=pure (a1e env.cells names acc)
 |[],acc,_=>rfl
 |(x,k)::r,acc,h=>by
  rw [List.forIn_cons,hf]
  unfold a1e
  have hr:=fun y hy=>h y (Ah _ hy)
  split
  ·rename_i hk
   have:=h (x,k) Ab (by simpa using hk)
   obtain⟨c,hc⟩:=Option.isSome_iff_exists.mp this
   unfold cellOf
   rw [hc]
   show forIn r ((x,c)::acc) f=_
   exact a2u f hf r _ hr
  ·exact a2u f hf r acc hr
def b0h(h:∀x∈scope.names,x.2= .free->(env.cells.lookup x.1).isSome=true):closureFor scope env=pure (a1e env.cells scope.names []):=by
 unfold closureFor
 have e:=a2u (env:=env) (fun(x:Str×NameKind) (cs:List (Str×AB))=>if x.2== .free then(do let c<-cellOf env x.1;pure (.yield ((x.1,c)::cs))) else pure (.yield cs)) (fun _ _ _=>rfl) scope.names [] h
 show(forIn scope.names [] _>>=fun r=>pure r)=_
 refine Eq.trans (congrArg (· >>=fun r=>pure r) (Eq.trans (congrArg (forIn scope.names []) ?_) e)) rfl
 funext x cs
 cases x with
 |mk n k=>cases k<;>rfl
theorem a4M{env:Env}{x:Str}:∀{names:List (Str×NameKind)},(names.map fun(p:Str×NameKind)=>if(p.2==NameKind.free && env.scope.kind== .function && env.kindOf p.1==some .cell) then(p.1,NameKind.cell) else(p.1,p.2)).lookup x
 =(names.lookup x).map fun k=>if(k==NameKind.free && env.scope.kind== .function && env.kindOf x==some .cell) then NameKind.cell else k
 |[]=>rfl
 |(n,k)::r=>by
  rw [AK]
  have ih:= @a4M env x r
  show List.lookup x ((if(k==NameKind.free && env.scope.kind== .function && env.kindOf n==some .cell)=true then(n,NameKind.cell) else(n,k))::_)=_
  cases hx:x==n with
  |true=>
   have e:x=n:=by simpa using hx
   subst e
   by_cases c:(k==NameKind.free && env.scope.kind== .function && env.kindOf x==some .cell)=true
   ·rw [if_pos c,List.lookup_cons,hx,List.lookup_cons,hx];exact congrArg some (if_pos c).symm
   ·rw [if_neg c,List.lookup_cons,hx,List.lookup_cons,hx];exact congrArg some (if_neg c).symm
  |false=>
   by_cases c:(k==NameKind.free && env.scope.kind== .function && env.kindOf n==some .cell)=true
   ·rw [if_pos c,List.lookup_cons,hx,List.lookup_cons,hx];exact ih
   ·rw [if_neg c,List.lookup_cons,hx,List.lookup_cons,hx];exact ih
def W8(scope:Scope)(C:AB)(env:Env):Env:=
 {scope:=relabel scope env,locals:=C,globals:=env.globals,cells:=cellsFrom (C+1) scope.names (a1e env.cells scope.names []),qual:=env.qual,func:=none,code:=env.code,frame:=env.frame,builtins:=env.builtins}
def hid(ys:List Str)(x:Str):Str:=if ys.contains x=true then AC "0"++x else x
def R5(X:Cx)(N0:List Str)(scope:Scope)(ys:List Str)(C:AB)(fp:List AB)(pins:List (AB×Obj))(s₃:AG)(H₃:Hp):Cx:=
 {X with N:=N0++ys,s₀:=s₃,H₀:=H₃,env:=W8 scope C X.env,outer:=X.stack,ex:=fp,fn:=fun x=>scope.names.lookup x==some .cell,pn:=X.pn++pins}
def a1C{scope:Scope}{C:AB}{env:Env}{x:Str}:(W8 scope C env).kindOf x=(scope.names.lookup x).map fun k=>if(k==NameKind.free && env.scope.kind== .function && env.kindOf x==some .cell) then NameKind.cell else k:=
 a4M
structure a0e(N N0 ys:List Str)(env:Env)(scope:Scope):Prop where
 eq:N0=N.map (hid ys)
 kind:scope.kind= .function
 nd:(scope.names.map (·.1)).Nodup
 fr:∀x∈scope.names,x.2= .free->env.kindOf x.1=some .cell\/env.kindOf x.1=some .free
 ou:∀x∈N,(ys.contains x=true->scope.names.lookup (hid ys x)=none)/\(ys.contains x=false->scope.names.lookup x=none\/scope.names.lookup x=some .free\/scope.names.lookup x=some .globalImplicit)
theorem O1:∀{l:List (Str×α)} {x:Str} {v:α},(l.map (·.1)).Nodup->(x,v)∈l->l.lookup x=some v
 |[],_,_,_,h=>nomatch h
 |(y,w)::r,x,v,nd,h=>by
  have nd':y∉r.map (·.1)/\(r.map (·.1)).Nodup:=List.nodup_cons.mp nd
  rw [List.lookup_cons]
  rcases AZ.mp h with e|h
  ·cases e;simp
  ·have:x≠y:=fun e=>nd'.1 (by rw [<-e];exact Au.mpr ⟨_,h,rfl⟩)
   have e:(x==y)=false:=by simpa using this
   rw [e]
   exact O1 nd'.2 h
def a5w
 (h:Q (newEnv scope s.heap.objs.size globals (cellsFrom (s.heap.objs.size+1) scope.names cl) qual none .none (some env) builtins) {s with heap:=pushCells (s.heap.push {cls:= .type "dict",data:= .dict #[]}) scope.names}):
 AF M A (newFunctionEnv scope globals cl [] qual none .none (some env) builtins) Q E s:=by
 simp only [newFunctionEnv,Option.isSome_some,if_true]
 refine AD (wpAny_alloc ?_)
 refine AD (wpAny_layCells _ (fun name kind cells=>by cases hkc:kind==NameKind.cell<;>simp [hkc]) _ _ _ _ ?_)
 rw [show({s with heap:=s.heap.push {cls:= .type "dict",data:= .dict #[]}}:AG).heap.objs.size=s.heap.objs.size+1 from Heap.size_push ..]
 exact AD (AI (AI h))
def a5s(I:Nat->AG->Prop)
 (turn:∀n s,I n s->AF (model prog w) A (pyNext it) (fun r s₁=>match r with
  |none=>R (.ok .next) s₁
  |some v=>AF (model prog w) A (letOwnedTupleGo target it v) (fun _ s₁'=>AF (model prog w) A (assign target env v) (fun _ s₂=>
   AF (model prog w) A (forIn ifs true fun c r=>if r=true then do let ok<-isTrue c env (eval c env);pure (ForInStep.yield ok) else pure (ForInStep.yield r)) (fun ok s₃=>
    if ok=true then AF (model prog w) A (eval elt env) (fun x s₄=>
     AF (model prog w) A (call (.builtin "list.append") [acc,x]) (fun _ s₅=>∃m,m<n/\I m s₅) (fun _ _=>False) s₄) (fun _ _=>False) s₃
    else ∃m,m<n/\I m s₃) (fun _ _=>False) s₂) (fun _ _=>False) s₁') (fun _ _=>False) s₁) (fun _ _=>False) s)
 (n:Nat) (h:I n s):
 codeAny (model prog w) A (.compLoop (.ListComp elt [⟨target,iter,ifs,0⟩] scope pos) 0 it acc env) R s:=by
 refine codeAny_loop rfl I (fun n s hI=> ?_) n h
 show AF _ A ((compTurn (.ListComp elt [⟨target,iter,ifs,0⟩] scope pos) 0 it acc env).onRaise (fun x=>do noteFrame x env;theTreesLotGoes x)) _ _ s
 refine wpAny_noted ?_
 rw [compTurn_list]
 refine AD (wpAny_standAt (AD (wpAny_mono (turn n s hI) (fun r s₁ h₁=> ?_) fun _ _ h'=>h'.elim)))
 cases r with
 |none=>exact AI h₁
 |some v=>
  refine AD (wpAny_mono h₁ (fun _ s₁' h₁'=> ?_) fun _ _ h'=>h'.elim)
  refine AD (wpAny_mono h₁' (fun _ s₂ h₂=>AD (wpAny_mono h₂ (fun ok s₃ h₃=> ?_) fun _ _ h'=>h'.elim)) fun _ _ h'=>h'.elim)
  cases ok with
  |false=>exact AI ⟨rfl,h₃⟩
  |true=>
   exact AD (AD (wpAny_mono h₃ (fun x s₄ h₄=>AD (wpAny_mono h₄ (fun _ s₅ h₅=>AI (AI ⟨rfl,h₅⟩)) fun _ _ h'=>h'.elim)) fun _ _ h'=>h'.elim))
def PCs(X:Cx)(ifs:List AS)(t:TT):Prop:=
 ∀(pins:List (AB×Obj)) (s:AG) (σ:St) (H:Hp) (Q:Bool->Hp->Prop),Inv X pins σ H s->t σ H Q->
  AF (model X.prog X.w) X.A (forIn ifs true fun c r=>if r=true then do let ok<-isTrue c X.env (eval c X.env);pure (ForInStep.yield ok) else pure (ForInStep.yield r)) (TP X pins σ Q) X.xe s
def c4K:TT:=fun _ H Q=>Q true H
def c03:PCs X [] c4K:=fun pins s σ H Q I h=>wpAny_tests_nil ⟨H,I,h⟩
def c04(h:PT X c t):PCs X [c] t:=fun pins s σ H Q I hq=>wpAny_tests_one (h pins s σ H Q I hq)
def b6s(wi:TI)(g:TG)(tc:TT)(te:TE)(k:Nat):TE:=fun σ H Q=>wi σ H fun J H1=>∀D,H1 D=none->∃W:Nat->Nat->List V->Hp->Prop,(∃m,W 0 m [] (K7 H1 D (.lst [])))/\∀i m xs H2,W i m xs H2->H2 D=some (.lst xs)->
 (J.stop i H2/\Q (.ref D) H2)\/(J.go i H2/\∀x H3,J.yld i H2 x H3->g x (σ++AV k none) H3 fun σ4 H4=>(∀(j:Nat) v,(σ++AV k none)[j]?=some (some v)->σ4[j]?=some (some v))/\tc σ4 H4 fun b H5=>if b=true then te σ4 H5 fun v H6=>H6 D=some (.lst xs)/\xs.length<AL/\∃m',m'<m/\W (i+1) m' (xs++[v]) (K7 H6 D (.lst (xs++[v])))
  else H5 D=some (.lst xs)/\∃m',m'<m/\W (i+1) m' xs H5)
def a3q(I:Inv X pins σ H s)(S:a0e X.N N0 ys X.env scope)(h:(x,NameKind.free)∈scope.names):∃c,X.env.cells.lookup x=some c:=I.ok.has x (S.fr _ h rfl)
def b4B(S:a0e X.N N0 ys X.env scope)(I:Inv X pins σ H s)(hf:∀b∈fp,a8B X pins H b)(ho:∀b∈fp,∃o,s.heap.get? b=some o/\∀v,o.data≠.cell v):
 Inv (R5 X N0 scope ys s.heap.objs.size fp pins s H) [] (σ++AV ys.length none) H {s with heap:=pushCells (s.heap.push {cls:= .type "dict",data:= .dict #[]}) scope.names}:=by
 have up:∀b o,s.heap.get? b=some o->(pushCells (s.heap.push {cls:= .type "dict",data:= .dict #[]}) scope.names).get? b=some o:=fun b o e=>pushCells_keeps _ _ b o (AT _ e)
 have okc:=cellsFrom_ok scope.names (s.heap.push {cls:= .type "dict",data:= .dict #[]}) (s.heap.objs.size+1) [] ⟨fun _ _ hm=>(nomatch hm),List.Pairwise.nil⟩ (by rw [Heap.size_push];exact AR _)
 rw [Heap.size_push] at okc
 have cel:∀x c,(W8 scope s.heap.objs.size X.env).cells.lookup x=some c->((x,c)∈cellsFrom (s.heap.objs.size+1) scope.names []/\(x,NameKind.cell)∈scope.names/\s.heap.objs.size<c)\/(X.env.cells.lookup x=some c/\(x,NameKind.free)∈scope.names):=fun x c e=>by
  have m:=PySem.mem_of_lookup e
  have m:(x,c)∈cellsFrom (s.heap.objs.size+1) scope.names (a1e X.env.cells scope.names []):=m
  rw [P9] at m
  rcases Av.mp m with m|m
  ·obtain⟨h1,h2⟩:=Y3 m
   exact .inl ⟨m,h2,h1⟩
  ·rcases a7g m with m|⟨m,e⟩
   ·exact nomatch m
   ·obtain⟨c',hc'⟩:=a3q I S m
    rw [hc'] at e
    exact .inr ⟨by rw [hc',e];rfl,m⟩
 have celLt:∀x c,X.env.cells.lookup x=some c->c<s.heap.objs.size:=fun x c e=>let ⟨_,h⟩:=I.cell x c e;h.lt
 have fpLt:∀b∈fp,b<s.heap.objs.size:=fun b hb=>let ⟨_,e,_⟩:=ho b hb;AW e
 have cellNo:∀x,(x,NameKind.cell)∉scope.names->(cellsFrom (s.heap.objs.size+1) scope.names []).lookup x=none:=fun x hx=>a9a fun c m=>hx (Y3 m).2
 have look:∀x,(x,NameKind.free)∈scope.names->(W8 scope s.heap.objs.size X.env).cells.lookup x=X.env.cells.lookup x:=fun x m=>by
  have hl:=O1 S.nd m
  have hn:(x,NameKind.cell)∉scope.names:=fun z=>by
   have:=O1 S.nd z
   rw [hl] at this;cases this
  show(cellsFrom (s.heap.objs.size+1) scope.names (a1e X.env.cells scope.names [])).lookup x=_
  rw [P9,a5L (cellNo x hn),a3b S.nd hl]
  obtain⟨c,hc⟩:=a3q I S m
  rw [hc];rfl
 have kindF:∀x,scope.names.lookup x=some .free->X.env.kindOf x=some .cell\/X.env.kindOf x=some .free:=fun x h=>S.fr _ (PySem.mem_of_lookup h) rfl
 refine⟨⟨I.mod,S.kind,I.ok.glob,I.ok.blt,AR _,fun x y c h1 h2=> ?_,fun x h=> ?_,fun x c h1 h2=> ?_,I.ok.hd,I.ok.frames,.inl rfl,fun b hb=> ?_,I.bs,Nat.le_trans I.ok.bsz I.sz,fun b o e hb=> ?_,fun b hb hz=> ?_,I.stack,I.stkFree⟩,
  rfl,I.bare,Un.kept up,⟨fun _=>none, ?_,fun i x v h1 h2 h3=> ?_⟩,fun x c e=> ?_,I.hok.fresh (AR _),fun x c e=> ?_,fun p hp=> ?_,I.hok.kept up, ?_⟩
 ·rcases cel x c h1 with⟨a1,b1,c1⟩|⟨a1,b1⟩
  ·rcases cel y c h2 with⟨a2,b2,c2⟩|⟨a2,b2⟩
   ·exact name_of_addr okc.apart a1 a2
   ·exact absurd (Nat.lt_trans c1 (celLt y c a2)) (Nat.lt_irrefl _)
  ·rcases cel y c h2 with⟨a2,b2,c2⟩|⟨a2,b2⟩
   ·exact absurd (Nat.lt_trans c2 (celLt x c a1)) (Nat.lt_irrefl _)
   ·exact I.ok.inj x y c a1 a2
 ·have hk:(W8 scope s.heap.objs.size X.env).kindOf x=some .cell\/(W8 scope s.heap.objs.size X.env).kindOf x=some .free:=h
  rw [a1C] at hk
  cases e:scope.names.lookup x with
  |none=>rw [e] at hk;rcases hk with z|z<;>cases z
  |some k=>
   rw [e] at hk
   have hk':k= .cell\/k= .free:=by
    by_cases c:(k==NameKind.free && X.env.scope.kind== .function && X.env.kindOf x==some .cell)=true
    ·have:(k==NameKind.free)=true:=by
      rw [Bool.and_eq_true,Bool.and_eq_true] at c;exact c.1.1
     exact .inr (by simpa using this)
    ·simp only [Ai] at hk
     rw [if_neg c] at hk
     rcases hk with z|z
     ·cases z;exact .inl rfl
     ·cases z;exact .inr rfl
   rcases hk' with rfl|rfl
   ·have q:=W.cellsFrom_some (x:=x) scope.names (s.heap.objs.size+1) (a1e X.env.cells scope.names []) (.inl e)
    exact Option.isSome_iff_exists.mp q
   ·obtain⟨c,hc⟩:=a3q I S (PySem.mem_of_lookup e)
    exact⟨c,by show(W8 scope s.heap.objs.size X.env).cells.lookup x=_;rw [look x (PySem.mem_of_lookup e)];exact hc⟩
 ·rcases cel x c h2 with⟨_,_,c1⟩|⟨_,b1⟩
  ·exact BD c1
  ·have h1':(scope.names.lookup x==some .cell)=true:=h1
   rw [O1 S.nd b1] at h1'
   cases h1'
 ·refine⟨Am (fpLt b hb),fun x c e z=> ?_⟩
  rcases cel x c e with⟨_,_,c1⟩|⟨a1,_⟩
  ·rw [z] at c1;exact absurd (Nat.lt_trans c1 (fpLt b hb)) (Nat.lt_irrefl _)
  ·exact(hf b hb).2.2.2.2.1 x c a1 z
 ·have hb:b∈fp:=hb
  rcases(hf b hb).2.2.2.1 with z|z
  ·exact I.ok.noex b o e z
  ·have h1:=(I.ok.bs b o e).1
   have:=AW h1
   exact absurd (At this z) (Nat.lt_irrefl _)
 ·have hb:b∈fp:=hb
  have hz:b∈frs X.stack:=hz
  rcases AZ.mp (I.stkSub b hz) with z|z
  ·exact(hf b hb).2.1 z
  ·exact(hf b hb).2.2.1 z
 ·exact(Heap.Ns.new s.heap (.type "dict")).keeps (pushCells_keeps _ _)
 ·have h1:(N0++ys)[i]?=some x:=h1
  rw [S.eq] at h1
  have hi:i<σ.length:=by
   by_cases hi:i<σ.length
   ·exact hi
   ·rw [List.getElem?_append_right (by lia),List.getElem?_replicate] at h2
    split at h2<;>cases h2
  rw [BB hi] at h2
  rw [BB (by rw [Ak,<-I.len];exact hi),As] at h1
  have hvis:Vis (W8 scope s.heap.objs.size X.env).scope x:=h3
  have hkn:scope.names.lookup x=none->False:=fun z=>by
   have hk:∀k,(W8 scope s.heap.objs.size X.env).kindOf x=some k->scope.names.lookup x≠none:=fun k z e=>by
    rw [a1C,e] at z;cases z
   rcases hvis with e|e|e<;>exact absurd z (hk _ e)
  have h1:X.N[i]?=some x/\ys.contains x=false:=by
   cases e0:X.N[i]? with
   |none=>rw [e0] at h1;cases h1
   |some x0=>
    rw [e0] at h1
    have h1:hid ys x0=x:=Option.some.inj h1
    have ho:=S.ou x0 (BH e0)
    cases hc:ys.contains x0 with
    |true=>exact(hkn (by rw [<-h1];exact ho.1 hc)).elim
    |false=>
     have hx:x0=x:=by rw [<-h1];unfold hid;rw [if_neg (by rw [hc];exact Ar)]
     subst hx
     exact⟨rfl,hc⟩
  obtain⟨h1,hys⟩:=h1
  have hfree:scope.names.lookup x=some .free:=by
   have hk:∀k,(W8 scope s.heap.objs.size X.env).kindOf x=some k->scope.names.lookup x≠none:=fun k z e=>by
    rw [a1C,e] at z;cases z
   rcases(S.ou x (BH h1)).2 hys with z|z|z
   ·rcases hvis with e|e|e<;>exact absurd z (hk _ e)
   ·exact z
   ·have hg:(W8 scope s.heap.objs.size X.env).kindOf x=some .globalImplicit:=by
     rw [a1C,z];rfl
    rcases hvis with e|e|e
    ·have e:(W8 scope s.heap.objs.size X.env).kindOf x=some .local:=e
     rw [hg] at e;cases e
    ·have e:(W8 scope s.heap.objs.size X.env).kindOf x=some .cell:=e
     rw [hg] at e;cases e
    ·have e:(W8 scope s.heap.objs.size X.env).kindOf x=some .free:=e
     rw [hg] at e;cases e
  obtain⟨m,hn,hl⟩:=I.loc
  have hv:Vis X.env.scope x:=by
   rcases kindF x hfree with z|z
   ·exact .inr (.inl z)
   ·exact .inr (.inr z)
  obtain⟨u,r,l⟩:=hl i x v h1 h2 hv
  refine⟨u,r, ?_⟩
  rcases l with⟨k,_⟩|⟨k,c,e,z⟩
  ·rcases kindF x hfree with q|q<;>rw [q] at k<;>cases k
  ·refine .inr ⟨?_,c,by show(W8 scope s.heap.objs.size X.env).cells.lookup x=_;rw [look x (PySem.mem_of_lookup hfree)];exact e,z.keeps up⟩
   show(W8 scope s.heap.objs.size X.env).kindOf x=some .cell\/(W8 scope s.heap.objs.size X.env).kindOf x=some .free
   rw [a1C,hfree]
   by_cases cc:((NameKind.free==NameKind.free)&& X.env.scope.kind== .function && X.env.kindOf x==some .cell)=true
   ·exact .inl (congrArg some (if_pos cc))
   ·exact .inr (congrArg some (if_neg cc))
 ·rcases cel x c e with⟨a1,_,_⟩|⟨a1,_⟩
  ·exact⟨none,(okc.empty x c a1).1⟩
  ·obtain⟨v,z⟩:=I.cell x c a1
   exact⟨v,z.keeps up⟩
 ·rcases cel x c e with⟨_,_,c1⟩|⟨a1,_⟩
  ·exact I.hok.fresh (BD c1)
  ·exact I.freeC x c a1
 ·have hp:p∈(X.pn++pins)++[]:=hp
  rw [Aj] at hp
  obtain⟨e,n,ne,nf,d⟩:=I.pin p hp
  refine⟨up _ _ e,n,Am (AW e),fun hz=> ?_,d⟩
  have hz:p.1∈frs X.stack:=hz
  rcases AZ.mp (I.stkSub p.1 hz) with z|z
  ·exact ne z
  ·exact nf z
 ·show(σ++AV ys.length none).length=(N0++ys).length
  rw [AQ,List.length_replicate,AQ,S.eq,Ak,I.len]
def b7C(X:Cx)(pins:List (AB×Obj))(C:AB):Prop:=C≠X.env.locals/\X.s₀.heap.objs.size<=C/\(∀x c,X.env.cells.lookup x=some c->c≠C)/\∀p∈X.pn++pins,p.1≠C
def b0P(hx:∀e s,X.xe e s->False)(hc:X.calm=true)(S:a0e X.N N0 ys X.env scope)(hi:PI X tg iter wi)
 (hg:∀C fp pins s H,PG (R5 X N0 scope ys C fp pins s H) tg g) (ht:∀C fp pins s H,PCs (R5 X N0 scope ys C fp pins s H) ifs tc) (he:∀C fp pins s H,PE (R5 X N0 scope ys C fp pins s H) elt te)
 (hs:∀x,foldedSetIterable iter X.env x=pure x) (I:Inv X pins σ H s) (h:b6s wi g tc te ys.length σ H Q)
 (fin:∀D C s' H' m,Inv X pins σ H' s'->s'.heap.Ns C m->H' C=none->b7C X pins C->Q (.ref D) H'->compPost (model X.prog X.w) X.A X.xe use QQ (.ref D) C (.ok .next) s'):
 AF (model X.prog X.w) X.A (comprehension (.ListComp elt [⟨tg,iter,ifs,0⟩] scope pos) scope X.env pos' (newList []) false (eval iter X.env) use) QQ X.xe s:=by
 have hcl:closureFor scope X.env=pure (a1e X.env.cells scope.names []):=b0h fun x hx' hk=>by
  obtain⟨c,e⟩:=a3q (ys:=ys) I S (x:=x.1) (by rw [<-hk];exact hx')
  rw [e];rfl
 refine wpAny_comprehension_free (use:=use) rfl hs hcl S.kind (fun x hx' hk=>O1 S.nd (by rw [<-hk];exact hx')) (Q3 (hi pins s σ H _ I h) fun v s1 h1=>Q3 h1 fun itv s2 h2=> ?_)
 obtain⟨it,fp,tn,J,H2,e,I2,T,st2,f2,hW⟩:=h2
 subst e
 have hfr:=I2.hok.fresh (AR _)
 obtain⟨W,⟨m0,w0⟩,turn⟩:=hW s2.heap.objs.size hfr
 have fpLt:∀b∈fp,b<s2.heap.objs.size:=fun b hb=>let ⟨_,e,_⟩:=T.obj _ _ st2 b hb;AW e
 refine wpAny_newObj_type ?_
 have I3:Inv X pins σ (K7 H2 s2.heap.objs.size (.lst [])) {s2 with heap:=s2.heap.push {cls:= .type "list",data:= .seq ([]:List AA).toArray}}:=
  I2.laid (t':=s2.toks) (fun b o e=>AT _ e) (AR _) ⟨by decide,[],0,.nil,An _ rfl⟩
 have up3:∀b o,s2.heap.get? b=some o->(s2.heap.push {cls:= .type "list",data:= .seq ([]:List AA).toArray}).get? b=some o:=fun b o e=>AT _ e
 have st3:tn 0 (s2.heap.push {cls:= .type "list",data:= .seq ([]:List AA).toArray}):=T.keep _ _ _ st2 fun b _ o e=>up3 b o e
 have f3:∀b∈fp,a8B X pins (K7 H2 s2.heap.objs.size (.lst [])) b:=fun b hb=>⟨by rw [w4 (Am (fpLt b hb))];exact(f2 b hb).1,(f2 b hb).2⟩
 generalize hs3:({s2 with heap:=s2.heap.push {cls:= .type "list",data:= .seq ([]:List AA).toArray}}:AG)=s3 at I3
 have hs3h:s3.heap=s2.heap.push {cls:= .type "list",data:= .seq ([]:List AA).toArray}:=by rw [<-hs3]
 rw [<-hs3h] at st3 up3
 refine a5w ?_
 have I4:=b4B S I3 f3 (T.obj _ _ st3)
 generalize hs4:({s3 with heap:=pushCells (s3.heap.push {cls:= .type "dict",data:= .dict #[]}) scope.names}:AG)=s4 at I4 ⊢
 have hs4h:s4.heap=pushCells (s3.heap.push {cls:= .type "dict",data:= .dict #[]}) scope.names:=by rw [<-hs4]
 have st4:tn 0 s4.heap:=T.keep _ _ _ st3 fun b _ o e=>by rw [hs4h];exact pushCells_keeps _ _ b o (AT _ e)
 generalize hX:R5 X N0 scope ys s3.heap.objs.size fp pins s3 (K7 H2 s2.heap.objs.size (.lst []))=Y at I4
 have Yp:Y.prog=X.prog:=by rw [<-hX];rfl
 have Yw:Y.w=X.w:=by rw [<-hX];rfl
 have YK:Y.K=X.K:=by rw [<-hX];rfl
 have YA:Y.A=X.A:=by rw [<-hX];rfl
 have Yc:Y.calm=true:=by rw [<-hX];exact hc
 have Yx:Y.xe=X.xe:=by rw [<-hX];rfl
 have YL:Y.env.locals=s3.heap.objs.size:=by rw [<-hX];rfl
 have Yf:Y.fs=frs X.stack:=by rw [<-hX];rfl
 have Ye:Y.ex=fp:=by rw [<-hX];rfl
 have Yn:Y.pn=X.pn++pins:=by rw [<-hX];rfl
 have Ys:Y.s₀=s3:=by rw [<-hX];rfl
 have YH:Y.H₀=K7 H2 s2.heap.objs.size (.lst []):=by rw [<-hX];rfl
 have YE:Y.env=W8 scope s3.heap.objs.size X.env:=by rw [<-hX];rfl
 have hgY:PG Y tg g:=by rw [<-hX];exact hg _ _ _ _ _
 have htY:PCs Y ifs tc:=by rw [<-hX];exact ht _ _ _ _ _
 have heY:PE Y elt te:=by rw [<-hX];exact he _ _ _ _ _
 have nlen:(σ++AV ys.length none).length=Y.N.length:=I4.len
 have exf:=I4.ok.exf
 have exfs:=I4.ok.exfs
 have stat:∀{H':Hp},(∀b∈fp,H' b=none)->∀b∈fp,a8B Y [] H' b:=fun {H'} hn b hb=>by
  have hb':b∈Y.ex:=by rw [Ye];exact hb
  refine⟨hn b hb,(exf b hb').1,exfs b hb',.inl hb',(exf b hb').2,fun p hp=> ?_⟩
  rw [Aj,Yn] at hp
  exact(f2 b hb).2.2.2.2.2 p hp
 have TY:b4t Y.prog Y.w Y.K tg J fp it tn:=by rw [Yp,Yw,YK];exact T
 have noX:∀e s,Y.xe e s->False:=fun e s h=>hx e s (by rw [<-Yx];exact h)
 have loop:∀R:Result->AG->Prop,(∀s' H' m,Inv X pins σ H' s'->s'.heap.Ns s3.heap.objs.size m->H' s3.heap.objs.size=none->b7C X pins s3.heap.objs.size->Q (.ref s2.heap.objs.size) H'->R (.ok .next) s')->
  codeAny (model X.prog X.w) X.A (.compLoop (.ListComp elt [⟨tg,iter,ifs,0⟩] scope pos) 0 (.ref it) (.ref s2.heap.objs.size) (W8 scope s3.heap.objs.size X.env)) R s4:=by
  intro R hR
  refine a5s (fun n s'=>∃i xs H' σ',Inv Y [] σ' H' s'/\(∀(j:Nat) v,(σ++AV ys.length none)[j]?=some (some v)->σ'[j]?=some (some v))/\tn i s'.heap/\(∀b∈fp,H' b=none)/\H' s2.heap.objs.size=some (.lst xs)/\W i n xs H') ?_ m0
   ⟨0,[],_,_,I4,fun _ _ e=>e,st4,fun b hb=>(f3 b hb).1,z9,w0⟩
  rintro n s5 ⟨i,xs,H5,σ5,I5,k5,st5,fr5,hD5,w5⟩
  have I5:Inv Y [] (σ++AV ys.length none) H5 s5:=I5.weak (by rw [nlen,I5.len]) k5
  rw [<-Yp,<-Yw,<-YA]
  rcases turn i n xs H5 w5 hD5 with⟨stop,q⟩|⟨go,step⟩
  ·refine wpAny_mono (TY.done Y rfl rfl rfl Yc i [] s5 _ H5 (fun _ _=>False) I5 (stat fr5) st5 stop) (fun r s6 ⟨hr,I6⟩=> ?_) fun _ _ z=>z
   subst hr
   obtain⟨m,hn,_⟩:=I6.loc
   have un:=I6.base
   rw [Yf,Ye,Ys,YH] at un
   rw [YL] at hn
   have hfC:=I6.free
   rw [YL] at hfC
   refine hR s6 H5 m (I3.call' (ch:=fp) (by rw [I6.os,Ys]) un (by have z:=I6.hok;rw [Yp,Yw] at z;exact z) I6.bare fun b hb=>⟨(f3 b hb).2.2.2.1,(f3 b hb).2.1,(f3 b hb).2.2.2.2.1,(f3 b hb).2.2.2.2.2⟩) hn hfC ⟨Nat.ne_of_gt I3.lt,I3.sz,fun x c e=> ?_,fun p hp=> ?_⟩ q
   ·obtain⟨v,z⟩:=I3.cell x c e
    exact Am z.lt
   ·exact Am (AW (I3.pin p hp).1)
  ·refine wpAny_mono (TY.item Y rfl rfl rfl Yc i [] s5 _ H5 (fun _ _=>False) I5 (stat fr5) st5 go) (fun r s6 ⟨u,hr,h6⟩=> ?_) fun _ _ z=>z
   subst hr
   dsimp only
   refine wpAny_mono h6 (fun _ s7 ⟨x,H7,I7,r7,y7,st7,fr7⟩=> ?_) fun _ _ z=>z
   have I7':=I7.pinned (stat fr7) (T.obj _ _ st7)
   rw [<-YE]
   have keepT:∀{σ8:St} {H8:Hp} {s8:AG},Inv Y ([]++a9N fp s7.heap) σ8 H8 s8->tn (i+1) s8.heap/\∀b∈fp,H8 b=none:=fun {σ8 H8 s8} I8=>by
    refine⟨T.keep _ _ _ st7 fun b hb o e=>(I8.pin (b,o) (Ax _ (Ax _ (a3t hb e)))).1,fun b hb=> ?_⟩
    obtain⟨o,e,d⟩:=T.obj _ _ st7 b hb
    exact(I8.pin (b,o) (Ax _ (Ax _ (a3t hb e)))).2.1
   refine wpAny_mono (hgY _ s7 _ H7 x u _ I7' r7 (step x H7 y7)) (fun _ s8 ⟨σ8,H8,I8,k8,q8⟩=> ?_) fun e s z=>noX e s z
   refine wpAny_mono (htY _ s8 σ8 H8 _ I8 q8) (fun b s9 ⟨H9,I9,q9⟩=> ?_) fun e s z=>noX e s z
   cases b with
   |false=>
    rw [if_neg Ar] at q9 ⊢
    obtain⟨hD9,m',lt,w9⟩:=q9
    obtain⟨t9,n9⟩:=keepT I9
    exact⟨m',lt,i+1,xs,H9,σ8,I9.pins_of (fun p hp=>nomatch hp),k8,t9,n9,hD9,w9⟩
   |true=>
    rw [if_pos rfl] at q9 ⊢
    refine wpAny_mono (heY _ s9 σ8 H9 _ I9 q9) (fun y s10 ⟨v,H10,I10,r10,hD10,hz,m',lt,w10⟩=> ?_) fun e s z=>noX e s z
    refine wpAny_mono (b1a _ s10 σ8 H10 (.ref s2.heap.objs.size) [v] (.ref s2.heap.objs.size) [y] (fun _ H'=>H'=K7 H10 s2.heap.objs.size (.lst (xs++[v]))) I10 rfl (.cons r10 .nil) ⟨_,xs,v,rfl,rfl,hD10,hz,rfl⟩) (fun _ s11 ⟨_,H11,I11,_,e11⟩=> ?_) fun e s z=>noX e s z
    subst e11
    obtain⟨t11,n11⟩:=keepT I11
    exact⟨m',lt,i+1,xs++[v],_,σ8,I11.pins_of (fun p hp=>nomatch hp),k8,t11,n11,z9,w10⟩
 show codeAny _ _ (.compStart _ 0 _ _ (W8 scope s3.heap.objs.size X.env)) _ _
 refine codeAny_compStart_list (loop _ fun s' H' m a b c d e=>fin _ _ s' H' m a b c d e) (T.self _ 0 _ _ _ st4 (loop _ fun s' H' m a b c d e=>fin _ _ s' H' m a b c d e))
def c07(hx:∀e s,X.xe e s->False)(hc:X.calm=true)(S:a0e X.N N0 ys X.env scope)(hi:PI X tg iter wi)
 (hg:∀C fp pins s H,PG (R5 X N0 scope ys C fp pins s H) tg g) (ht:∀C fp pins s H,PCs (R5 X N0 scope ys C fp pins s H) ifs tc) (he:∀C fp pins s H,PE (R5 X N0 scope ys C fp pins s H) elt te)
 (hs:∀x,foldedSetIterable iter X.env x=pure x:=by intro _;rfl):PE X (.ListComp elt [⟨tg,iter,ifs,0⟩] scope pos) (b6s wi g tc te ys.length):=by
 intro pins s σ H Q I h
 rw [eval_ListComp]
 refine b0P hx hc S hi hg ht he hs I h fun D C s' H' m I' hn hC a31 q=>⟨m,hn,fun h' hs'=>⟨.ref D,H', ?_,rfl,q⟩⟩
 obtain⟨g1,g2,g3,g4⟩:=a31
 exact I'.turned (t':=s'.toks) (fun b o hb e=>hs'.extBut b o hb e) hC g1 (.inr g2) g3 g4
def c1d(hx:∀e s,X.xe e s->False)(hc:X.calm=true)(S:a0e X.N N0 ys X.env scope)(hi:PI X tg iter wi)
 (hg:∀C fp pins s H,PG (R5 X N0 scope ys C fp pins s H) tg g) (ht:∀C fp pins s H,PCs (R5 X N0 scope ys C fp pins s H) ifs tc) (he:∀C fp pins s H,PE (R5 X N0 scope ys C fp pins s H) elt te)
 (hN:X.N.Nodup) (hiy:X.N[i]?=some y) (hy:X.env.scope.names.lookup y=some .local)
 (hsw:swapsWith (.ListComp elt [⟨tg,iter,ifs,0⟩] scope pos) (some (.Name y py)) spos.line X.env=pure true)
 (hs:∀x,foldedSetIterable iter X.env x=pure x:=by intro _;rfl):PS X (.Assign [.Name y py] (.ListComp elt [⟨tg,iter,ifs,0⟩] scope pos) spos) (fun D σ H=>b6s wi g tc te ys.length σ H fun v H'=>D.nx (σ.set i (some v)) H'):=by
 intro pins s σ H D I h
 rw [exec_Assign_Name_used _ _ _ _ hsw]
 refine AD (wpAny_standAt (AD ?_))
 show AF _ X.A (do let _<-comprehension (.ListComp elt [⟨tg,iter,ifs,0⟩] scope pos) scope X.env _ (newList []) false (eval iter X.env) (some (assign (.Name y py) X.env))) _ _ s
 refine AD (wpAny_mono (b0P (QQ:=fun _ s'=>SP X pins D .next s') hx hc S hi hg ht he hs I h fun L C s' H' m I' hn hC a31 q=> ?_) (fun _ s' hq=>AI (AI hq)) fun _ _ e=>e)
 obtain⟨g1,g2,g3,g4⟩:=a31
 show AF _ X.A (assign (.Name y py) X.env (.ref L)) _ _ _
 refine wpAny_assign_Name (b1u (v:= .ref L) I' hN hiy (.inl hy) rfl (fun s2 I2 ⟨a,sb,ha⟩=> ?_) (.inr hy))
 have hCa:C≠a:=by
  rcases ha with z|z
  ·rw [z];exact g1
  ·exact fun e=>g3 y a z e.symm
 refine⟨m,hn.sameBut sb hCa,fun h' hs'=>⟨_,H',I2.turned (t':=s2.toks) (fun b o hb e=>hs'.extBut b o hb e) hC g1 (.inr g2) g3 g4,q⟩⟩
end L2
namespace PU
open PySem PySem.Spec PyProof.Rows L2
def a16(c:MT)(elt:M)(tg:PV->e9->Option e9)(ρ:e9):List PV->Option (List PV)
 |[]=>some []
 |p::ps=>(tg p ρ).bind fun ρ1=>(c ρ1).bind fun b=>if b=true then((elt ρ1).bind g6.toVal).bind fun q=>(a16 c elt tg ρ ps).bind fun r=>some (q::r) else a16 c elt tg ρ ps
def P8:MT:=fun _=>some true
def F9(k:Nat)(it:MI)(tg:PV->e9->Option e9)(c:MT)(elt:M):M:=fun ρ=>(it ρ).bind fun ps=>if ps.length<=AL then(a16 c elt tg (ρ++AV k none) ps).bind fun r=>some (.own r) else none
def b0F(K:AE)(n:Nat)(g:TG)(tg:PV->e9->Option e9):Prop:=
 ∀F H σ ρ ρ1 p x (Q:L2.St->Hp->Prop),W7 K F H σ ρ->T7 K F p x->tg p ρ=some ρ1->(∀σ',W7 K F H σ' ρ1->(∀(j:Nat),j<n->σ'[j]?=σ[j]?)->Q σ' H)->g x σ H Q
def W7.set{K:AE}{F H:Hp}{σ:L2.St}{ρ:e9}{p:PV}{x:V}(e:W7 K F H σ ρ)(r:T7 K F p x)(i:Nat):W7 K F H (σ.set i (some x)) (ρ.set i (some (.val p))):=by
 refine⟨e.fh,by simp [e.len],fun j q h=> ?_,fun j ps h=> ?_,fun j k ps qs a hjk h1 h2 h3 h4=> ?_⟩
 ·rw [List.getElem?_set] at h ⊢
  by_cases hij:i=j
  ·subst hij
   rw [if_pos rfl] at h ⊢
   rw [e.len]
   split at h
   ·rename_i c;cases h;rw [if_pos c];exact⟨x,rfl,r⟩
   ·cases h
  ·rw [if_neg hij] at h ⊢;exact e.at_ j q h
 ·rw [List.getElem?_set] at h
  by_cases hij:i=j
  ·subst hij
   rw [if_pos rfl] at h
   split at h<;>cases h
  ·rw [if_neg hij] at h;exact e.nb j ps h
 ·have get:∀(j:Nat) (ps:a32),(ρ.set i (some (g6.val p)))[j]?=some (some (g6.ow ps))->i≠j/\ρ[j]?=some (some (g6.ow ps)):=fun j ps h=>by
   rw [List.getElem?_set] at h
   by_cases hij:i=j
   ·subst hij
    rw [if_pos rfl] at h
    split at h<;>cases h
   ·rw [if_neg hij] at h;exact⟨hij,h⟩
  obtain⟨n1,h1⟩:=get j ps h1
  obtain⟨n2,h2⟩:=get k qs h2
  rw [List.getElem?_set_ne n1] at h3
  rw [List.getElem?_set_ne n2] at h4
  exact e.ap j k ps qs a hjk h1 h2 h3 h4
def G3{K:AE}{n i:Nat}(h:n<=i):b0F K n (b3c i) (u3 i):=fun F H σ ρ ρ1 p x Q e r q k=>by
 cases q
 exact k _ (e.set r i) fun j hj=>by rw [List.getElem?_set_ne (by lia)]
def W7.more{K:AE}{F H:Hp}{σ:L2.St}{ρ:e9}(e:W7 K F H σ ρ)(k:Nat):W7 K F H (σ++AV k none) (ρ++AV k none):=by
 have key:∀(j:Nat) (q:g6),(ρ++AV k none)[j]?=some (some q)->ρ[j]?=some (some q)/\(σ++AV k none)[j]?=σ[j]?:=fun j q h=>by
  by_cases hj:j<ρ.length
  ·rw [BB hj] at h
   rw [BB (by rw [e.len];exact hj)]
   exact⟨h,rfl⟩
  ·rw [List.getElem?_append_right (by lia),List.getElem?_replicate] at h
   split at h<;>cases h
 refine⟨e.fh,by simp [e.len],fun j q h=> ?_,fun j ps h=>e.nb j ps (key j _ h).1,fun j k' ps qs a hjk h1 h2 h3 h4=> ?_⟩
 ·obtain⟨h1,h2⟩:=key j q h
  rw [h2];exact e.at_ j q h1
 ·obtain⟨a1,b1⟩:=key j _ h1
  obtain⟨a2,b2⟩:=key k' _ h2
  rw [b1] at h3
  rw [b2] at h4
  exact e.ap j k' ps qs a hjk a1 a2 h3 h4
def WC(K:AE)(F H:Hp)(D:AB)(c:MT)(elt:M)(tg:PV->e9->Option e9)(ρ:e9)(ps r:List PV)(i m:Nat)(xs:List V)(H':Hp):Prop:=
 ∃F' done rest,i<=ps.length/\m=ps.length - i/\Ext F H F' H'/\F' D=none/\w8 K F' done xs/\done.length<=i/\a16 c elt tg ρ (ps.drop i)=some rest/\done++rest=r
def b6D{K:AE}{F H:Hp}{D:AB}{c:MT}{elt:M}{tg:PV->e9->Option e9}{g:TG}{σ:L2.St}{ρ:e9}{k:Nat}{ps r:List PV}{i m:Nat}{xs:List V}{H':Hp}{p:PV}{x:V}
 (T:b0F K ρ.length g tg) (en:W7 K F H σ ρ) (hD:H D=none) (hsz:ps.length<=AL) (W:WC K F H D c elt tg (ρ++AV k none) ps r i m xs H') (hx:H' D=some (.lst xs)) (ep:ps[i]?=some p) (rx:T7 K F p x):
 g x (σ++AV k none) H' fun σ4 H4=>(∀(j:Nat) v,(σ++AV k none)[j]?=some (some v)->σ4[j]?=some (some v))/\tMT K c σ4 H4 fun b H5=>if b=true then tM K elt σ4 H5 fun v H6=>H6 D=some (.lst xs)/\xs.length<AL/\∃m',m'<m/\WC K F H D c elt tg (ρ++AV k none) ps r (i+1) m' (xs++[v]) (K7 H6 D (.lst (xs++[v])))
  else H5 D=some (.lst xs)/\∃m',m'<m/\WC K F H D c elt tg (ρ++AV k none) ps r (i+1) m' xs H5:=by
 obtain⟨F',done,rest,hi,hm,ex,fD,rl,dl,hc,hr⟩:=W
 have hk:i<ps.length:=(Aw.mp ep).1
 have hd:ps.drop i=p::ps.drop (i+1):=by
  rw [List.drop_eq_getElem_cons hk]
  congr 1
  exact(Aw.mp ep).2
 rw [hd] at hc
 unfold a16 at hc
 obtain⟨ρ1,e1,hc⟩:=bind_some hc
 obtain⟨b,e2,hc⟩:=bind_some hc
 have en':=(en.ext ex).more k
 refine T F' H' _ _ ρ1 p x _ en' (T7.mono ex.f _ rx) e1 fun σ4 en4 keep=>⟨fun j v e=> ?_, ?_⟩
 ·by_cases hj:j<ρ.length
  ·rw [keep j hj];exact e
  ·rw [List.getElem?_append_right (by rw [en.len];lia),List.getElem?_replicate] at e
   split at e<;>cases e
 refine⟨F',ρ1,b,en4,e2,fun F5 H5 x5=> ?_⟩
 have ex5:=ex.trans x5
 have fD5:F5 D=none:=x5.nw D _ fD hx (fun _ h=>nomatch h)
 cases b with
 |false=>
  rw [if_neg Ar] at hc
  refine b3m ⟨x5.h _ _ hx,ps.length - (i+1),by lia,F5,done,rest,by lia,rfl,ex5,fD5,w8.mono x5.f _ rl,by lia,hc,hr⟩
 |true=>
  rw [if_pos rfl] at hc
  obtain⟨q,e3,hc⟩:=bind_some hc
  obtain⟨rt,e4,hc⟩:=bind_some hc
  cases hc
  obtain⟨re,e5,e6⟩:=bind_some e3
  refine b3n ⟨F5,ρ1,re,en4.ext x5,e5,fun v F6 H6 o6=> ?_⟩
  obtain⟨F7,o7⟩:=o6.toVal e6
  have hx6:H6 D=some (.lst xs):=o6.x.h _ _ (x5.h _ _ hx)
  have fD7:F7 D=none:=o7.x.nw D _ fD5 (x5.h _ _ hx) (fun _ h=>nomatch h)
  have ex7:=ex5.trans o7.x
  have hlen:=rl.length
  refine⟨hx6,by lia,ps.length - (i+1),by lia,F7,done++[q],rt,by lia,rfl,⟨ex7.f,fun a o z=> ?_,fun a o z=> ?_,ex7.nw,ex7.nf⟩,fD7,w8.append (w8.mono (x5.f.trans o7.x.f) _ rl) ⟨v,[],rfl,o7.rep,rfl⟩,by simp;lia,e4,by rw [List.append_assoc];exact hr⟩
  ·rw [w4 (x9 z hD)];exact ex7.h _ _ z
  ·rw [w4 (x9 z fD7)];exact ex7.fh _ _ z
def b7N{K:AE}{F H:Hp}{D:AB}{c:MT}{elt:M}{tg:PV->e9->Option e9}{ρ:e9}{ps r:List PV}{m:Nat}{xs:List V}{H':Hp}(hD:H D=none)(W:WC K F H D c elt tg ρ ps r ps.length m xs H')(hx:H' D=some (.lst xs)):∃F',C0 K F H F' H' (.ref D) (.own r):=by
 obtain⟨F',done,rest,hi,hm,ex,fD,rl,dl,hc,hr⟩:=W
 rw [List.drop_length] at hc
 cases hc
 rw [Aj] at hr
 subst hr
 exact⟨F',ex,⟨D,xs,rfl,fD,hx,rl⟩,fun _ _ _ e=>by cases e;exact hD⟩
structure Src(K:AE)(F0 F H:Hp)(J:It)(ps:List PV):Prop where
 st:∀i H',y4 H H'->ps.length<=i->J.stop i H'
 go:∀i p H',y4 H H'->ps[i]?=some p->J.go i H'
 yd:∀i p x H' H'',y4 H H'->ps[i]?=some p->J.yld i H' x H''->H''=H'/\T7 K F p x
def SI(K:AE)(mi:MI)(wi:TI):Prop:=∀F H σ ρ ps (R:It->Hp->Prop),W7 K F H σ ρ->mi ρ=some ps->(∀F1 H1 J,Ext F H F1 H1->Src K F F1 H1 J ps->R J H1)->wi σ H R
abbrev EI(X:Cx)(tg iter:AS)(mi:MI):Prop:=∃wi,PI X tg iter wi/\SI X.K mi wi
section
variable {X:Cx}{tg:AS}
def w6(m:M):MI:=fun ρ=>(m ρ).bind fun r=>PyData.items? r.rd
def a1H(h:EE X l m):EI X tg l (w6 m):=⟨_,b87 h,fun F H σ ρ ps R en e k=>by
 obtain⟨r,e1,e2⟩:=bind_some e
 refine⟨F,ρ,r,en,e1,fun v F1 H1 o1=> ?_⟩
 obtain⟨a,xs,rfl,hq,rl⟩:=S9 o1.x.fh o1.rep e2
 have hlen:=rl.length
 rcases hq with hq|hq
 ·refine⟨a,rfl,.inl ⟨⟨xs,hq⟩,k F1 H1 _ o1.x ⟨fun i H2 s h=>⟨xs,S2 s hq,by lia⟩,fun i p H2 s h=> ?_,fun i p x H2 H3 s h y=> ?_⟩⟩⟩
  ·obtain⟨v,ev,_⟩:=rl.get h
   exact⟨xs,v,S2 s hq,ev⟩
  ·obtain⟨v,ev,rv⟩:=rl.get h
   obtain⟨e,y⟩:=y
   have:=y xs (S2 s hq)
   rw [ev] at this;cases this
   exact⟨e,rv⟩
 ·refine⟨a,rfl,.inr ⟨⟨xs,hq⟩,k F1 H1 _ o1.x ⟨fun i H2 s h=>⟨xs,G6 s hq,by lia⟩,fun i p H2 s h=> ?_,fun i p x H2 H3 s h y=> ?_⟩⟩⟩
  ·obtain⟨v,ev,_⟩:=rl.get h
   exact⟨xs,v,G6 s hq,ev⟩
  ·obtain⟨v,ev,rv⟩:=rl.get h
   obtain⟨e,y⟩:=y
   have:=y xs (G6 s hq)
   rw [ev] at this;cases this
   exact⟨e,rv⟩⟩
abbrev EC(X:Cx)(ifs:List AS)(c:MT):Prop:=PCs X ifs (tMT X.K c)
def a2w:EC X [] P8:=fun pins s σ H Q I ⟨F,ρ,b,en,e,k⟩=>by
 cases e
 exact c03 pins s σ H Q I (k F H (Ext.refl en.fh))
def b7R(h:ET X c mc):EC X [c] mc:=c04 h
def b0Q{mi:MI}{wi:TI}{g:TG}{c:MT}{elt:M}{t:PV->e9->Option e9}{N:List Str}{k:Nat}(hi:SI X.K mi wi)(T:∀n,n=N.length->b0F X.K n g t){σ:L2.St}{H:Hp}{Q:VK}(hl:σ.length=N.length)(h:tM X.K (F9 k mi t c elt) σ H Q):b6s wi g (tMT X.K c) (tM X.K elt) k σ H Q:=by
 obtain⟨F,ρ,r,en,e,kk⟩:=h
 obtain⟨ps,e1,e⟩:=bind_some e
 split at e
 ·rename_i hsz
  obtain⟨rs,e2,e⟩:=bind_some e
  cases e
  refine hi F H σ ρ ps _ en e1 fun F1 H1 J x1 S D hD=> ?_
  have en1:=en.ext x1
  have T':b0F X.K ρ.length g t:=T _ (by rw [<-en.len,hl])
  refine⟨WC X.K F1 H1 D c elt t (ρ++AV k none) ps rs,⟨ps.length,F1,[],rs,Nat.zero_le _,rfl,Ext.layH x1.fh hD,x1.fh.free hD,rfl,AR _,e2,rfl⟩,fun i m xs H2 W hx=> ?_⟩
  have W':=W
  obtain⟨F',done,rest,hi',hm,ex,fD,rl,dl,hc,hr⟩:=W'
  have sF:y4 H1 H2:=ex.h
  by_cases hlt:i<ps.length
  ·refine .inr ⟨S.go i ps[i] H2 sF (by simp [hlt]),fun x H3 y=> ?_⟩
   obtain⟨e3,rx⟩:=S.yd i ps[i] x H2 H3 sF (by simp [hlt]) y
   subst e3
   exact b6D T' en1 hD hsz W hx (by simp [hlt]) rx
  ·have e3:i=ps.length:=by lia
   subst e3
   refine .inl ⟨S.st _ H2 sF (AR _), ?_⟩
   obtain⟨F2,o⟩:=b7N hD W hx
   exact kk _ F2 H2 (C0.trans x1 o)
 ·cases e
def a0x{elt iter:AS}{ifs:List AS}{scope:Scope}{N0 ys:List Str}{mi:MI}{g:TG}{c:MT}{m:M}{t:PV->e9->Option e9}{pos:Pos}(hx:∀e s,X.xe e s->False)(hc:X.calm=true)(S:a0e X.N N0 ys X.env scope)(hi:EI X tg iter mi)
 (hg:∀C fp pins s H,PG (R5 X N0 scope ys C fp pins s H) tg g) (T:∀n,n=X.N.length->b0F X.K n g t) (ht:∀C fp pins s H,EC (R5 X N0 scope ys C fp pins s H) ifs c) (he:∀C fp pins s H,EE (R5 X N0 scope ys C fp pins s H) elt m)
 (hs:∀x,foldedSetIterable iter X.env x=pure x:=by intro _;rfl):EE X (.ListComp elt [⟨tg,iter,ifs,0⟩] scope pos) (F9 ys.length mi t c m):=by
 obtain⟨wi,h1,h2⟩:=hi
 intro pins s σ H Q I h
 exact c07 hx hc S h1 hg ht he hs pins s σ H Q I (b0Q (N:=X.N) h2 T I.len h)
def b5O{i:Nat}{y:Str}{elt iter:AS}{ifs:List AS}{scope:Scope}{N0 ys:List Str}{mi:MI}{g:TG}{c:MT}{m:M}{t:PV->e9->Option e9}{pos py spos:Pos}(hN:X.N.Nodup)(hx:∀e s,X.xe e s->False)(hc:X.calm=true)(S:a0e X.N N0 ys X.env scope)(hi:EI X tg iter mi)
 (hg:∀C fp pins s H,PG (R5 X N0 scope ys C fp pins s H) tg g) (T:∀n,n=X.N.length->b0F X.K n g t) (ht:∀C fp pins s H,EC (R5 X N0 scope ys C fp pins s H) ifs c) (he:∀C fp pins s H,EE (R5 X N0 scope ys C fp pins s H) elt m)
 (hiy:X.N[i]?=some y:=by rfl) (hy:X.env.scope.names.lookup y=some .local:=by rfl) (hsw:swapsWith (.ListComp elt [⟨tg,iter,ifs,0⟩] scope pos) (some (.Name y py)) spos.line X.env=pure true:=by rfl)
 (hs:∀x,foldedSetIterable iter X.env x=pure x:=by intro _;rfl):ES X (.Assign [.Name y py] (.ListComp elt [⟨tg,iter,ifs,0⟩] scope pos) spos) (z6 i (F9 ys.length mi t c m)):=by
 obtain⟨wi,h1,h2⟩:=hi
 intro pins s σ H D I ⟨F0,H0,F,ρ,fl,so,e,fin⟩
 obtain⟨r,e1,e⟩:=bind_some e
 split at e
 ·rename_i c
  cases e
  exact c1d hx hc S h1 hg ht he hN hiy hy hsw hs pins s σ H D I (b0Q (N:=X.N) h2 T I.len ⟨F,ρ,r,so.e,e1,fun v F' H' o=>fin _ F' H' o.x.f (so.set o c i)⟩)
 ·cases e
end
def N1:List PV->Option (List Str)
 |[]=>some []
 | .str x::r=>(N1 r).map (x::·)
 |_=>none
theorem a93:∀xs:List Str,N1 (xs.map .str)=some xs
 |[]=>rfl
 |x::xs=>by rw [AK];simp only [N1,a93 xs,Ai]
theorem a3N{K:AE}{H:Hp}:∀{ps:List PV} {ys:List Str} {xs:List V} {us:List AA},N1 ps=some ys->w8 K H ps xs->y9 xs us->StrsAre us ys
 |[],_,_,_,h,r,v=>by cases h;cases r;cases v;exact .nil
 |p::ps,ys,_,_,h,⟨x,r,e,hp,t⟩,v=>by
  subst e
  cases p with
  |str z=>
   simp only [N1] at h
   cases q:N1 ps with
   |none=>rw [q] at h;cases h
   |some zs=>
    rw [q] at h;cases h
    cases hp
    cases v with
    |cons a b=>
     obtain⟨tk,rfl⟩:=a
     exact .cons z tk (a3N q t b)
  |_=>simp [N1] at h
def a19(x y:g6):Option g6:=match x with
 | .val (.str z)=>(match PyData.items? y.rd with
   |some ps=>(N1 ps).bind fun ys=>if(ys.map (·.length)).sum+ys.length*z.length<=16777216 then some (.val (.str (Txt.join z ys))) else none
   |none=>none)
 |_=>none
def c0Q:MtR X "str.join" (fun x xs H Q=>∃F y rx ry rz,xs=[y]/\y4 F H/\U1 X.K F H x rx/\U1 X.K F H y ry/\a19 rx ry=some rz/\∀v F' H',C0 X.K F H F' H' v rz->Q v H'):=by
 intro pins s σ H x xs v us Q I rx rv h
 obtain⟨F,y,ra,rb,rz,rfl,s0,h1,h2,h3,k⟩:=h
 obtain⟨u,rfl,ru⟩:=a1i rv
 unfold a19 at h3
 split at h3
 ·rename_i z
  split at h3
  ·rename_i ps e
   obtain⟨ys,e2,h3⟩:=bind_some h3
   split at h3
   ·rename_i c
    cases h3
    cases h1
    obtain⟨t,rfl⟩:=rx
    obtain⟨a,xs,rfl,hq,r⟩:=S9 s0 h2 e
    cases ru
    rcases hq with hq|hq
    ·obtain⟨its,rv,pl,hz⟩:=I.list hq
     exact join_list pl.isList (by simpa using a3N e2 r rv) c fun t' k'=>⟨.str _,H,I.tok _,⟨_,rfl⟩,k _ F H (C0.here s0 rfl)⟩
    ·obtain⟨its,rv,pl,hz⟩:=I.tuple hq
     exact join_tuple pl (by simpa using a3N e2 r rv) c fun t' k'=>⟨.str _,H,I.tok _,⟨_,rfl⟩,k _ F H (C0.here s0 rfl)⟩
   ·cases h3
  ·cases h3
 ·cases h3
def a8p(ho:EE X o m)(ha:EE X e n)
 (hbase:attributeBase o "join" X.env (eval o X.env)=eval o X.env:=by rfl)
 (hfew:((backTo cpos (AJ [e] X.env)).all (fun x=> !x.1)&&(backToKw cpos (keywordEach [] X.env)).all (fun x=>x.1.isSome)
  && decide ([e].length+([]:List Keyword).length+(if([]:List Keyword).isEmpty then 0 else 1)<30))=true:=by rfl)
 (hline:(apos.endLine==cpos.line)=true:=by rfl) (hs:AJ [e] X.env=(false,eval e X.env)::AJ [] X.env:=by rfl) (hplain:(backTo cpos (AJ [] X.env)).any (·.1)=false:=by rfl):
 EE X (.Call (.Attribute o "join" apos) [e] [] cpos) (m2 a19 m n):=
 D3 (b1j PySem.F.plainAttrs_str PySem.F.slot_str_join PySem.F.type_str_join c0Q ho (G1 ha W3 hs) hbase hfew hline hs hplain) fun σ H Q ⟨F,ρ,r,he,hm,k⟩=>by
  obtain⟨rx,e1,hm⟩:=bind_some hm
  obtain⟨ry,e2,hm⟩:=bind_some hm
  refine⟨F,ρ,rx,he,e1,fun v F1 H1 o1=>⟨?_,⟨F1,ρ,ry,he.ext o1.x,e2,fun u F2 H2 o2=>⟨F2,u,rx,ry,r,rfl,o2.x.fh,o1.rep.ext o2.x,o2.rep,hm,fun z F3 H3 o3=>k z F3 H3 (C0.trans (o1.x.trans o2.x) o3)⟩⟩⟩⟩
  unfold a19 at hm
  split at hm
  ·cases o1.rep;rfl
  ·cases hm
def cut(xs:List α)(lo hi:Option Int):List α:=(xs.drop (HT.sIx xs.length 0 lo)).take (HT.sIx xs.length xs.length hi - HT.sIx xs.length 0 lo)
def a6D(n d:Nat)(hd:d<=n)(o:Option Int):(match o with|none=>(d:Int)|some i=>max 0 (min (if i<0 then i+n else i) n))=((HT.sIx n d o:Nat):Int):=by
 cases o with
 |none=>rfl
 |some i=>unfold HT.sIx;dsimp only;split<;>lia
def b91(n:Nat)(lo hi:Option Int):Builtin.Str.strSliceIndices lo hi 1 n=(Ao (HT.sIx n n hi - HT.sIx n 0 lo)).map (HT.sIx n 0 lo+·):=by
 have h1:=a6D n 0 (Nat.zero_le _) lo
 have h2:=a6D n n (AR _) hi
 have key:∀a b:Int,a=((HT.sIx n 0 lo:Nat):Int)->b=((HT.sIx n n hi:Nat):Int)->sliceRange a b 1=(Ao (HT.sIx n n hi - HT.sIx n 0 lo)).map (HT.sIx n 0 lo+·):=fun a b ha hb=>by rw [ha,hb,sliceRange_one]
 refine key _ _ ?_ ?_
 ·cases lo with
  |none=>rfl
  |some i=>exact h1
 ·cases hi with
  |none=>rfl
  |some i=>exact h2
def c1r(z:Str)(lo hi:Option Int):Txt.slice z lo hi=⟨(cut z.cps.toList lo hi).toArray⟩:=by
 have hz:z.cps.toList.length=z.length:=by simp [Str.length]
 unfold Txt.slice
 rw [b91,pick_run z.cps]
 split
 ·rename_i c
  have c':HT.sIx z.length z.length hi - HT.sIx z.length 0 lo=z.length:=by
   simpa using c
  have hle:=HT.sIx_le z.length z.length (AR _) hi
  unfold cut
  rw [hz,c']
  have:HT.sIx z.length 0 lo=0\/z.length=0:=by lia
  cases z with
  |mk a=>
   congr 1
   rcases this with h|h
   ·rw [h,List.drop_zero]
    have:a.toList.length=(⟨a⟩:Str).length:=hz
    rw [<-this,List.take_length]
   ·have h0:a.toList=[]:=List.length_eq_zero_iff.mp (by rw [<-h];exact hz)
    have:a= #[]:=by
     apply Array.ext'
     rw [h0]
    subst this
    simp
 ·unfold cut
  rw [hz]
def b0D(items:Array AA)(lo hi:Option Int):slicePick items lo hi none=(cut items.toList lo hi).toArray:=by
 have hz:items.toList.length=items.size:=by simp
 unfold slicePick cut
 rw [hz]
 have key:∀a b:Int,a=((HT.sIx items.size 0 lo:Nat):Int)->b=((HT.sIx items.size items.size hi:Nat):Int)->(List.filterMap (items[·]?) (sliceRange a b 1)).toArray=((items.toList.drop (HT.sIx items.size 0 lo)).take (HT.sIx items.size items.size hi - HT.sIx items.size 0 lo)).toArray:=fun a b ha hb=>by rw [ha,hb,sliceRange_one,pick_run]
 refine key _ _ ?_ ?_
 ·cases lo with
  |none=>rfl
  |some i=>exact a6D items.size 0 (Nat.zero_le _) (some i)
 ·cases hi with
  |none=>rfl
  |some i=>exact a6D items.size items.size (AR _) (some i)
def w8.cut{K:AE}{H:Hp}{ps:List PV}{xs:List V}(r:w8 K H ps xs)(lo hi:Option Int):w8 K H (PU.cut ps lo hi) (PU.cut xs lo hi):=by
 unfold PU.cut
 rw [r.length]
 exact(r.drop _).take _
def b92(xs:List α)(lo hi:Option Int):(cut xs lo hi).length<=xs.length:=by
 unfold cut
 rw [List.length_take,List.length_drop];lia
def a5u{prog:Ac}{w:AU}{A:Al}{E:AA->AG->Prop}{s:AG}{t sl:AB}{items:Array AA}{vl vu:AA}{lo hi:Option Int}{Q:AA->AG->Prop}(ht:IsTup s.heap t items)(hs:s.heap.IsSliceOf sl vl vu .none)(pl:IsPart vl lo)(pu:IsPart vu hi)
 (hw:HT.sIx items.size 0 lo=0/\HT.sIx items.size items.size hi=items.size)
 (h:Q (.ref t) s):AF (model prog w) A (getItem (.ref t) (.ref sl)) Q E s:=by
 obtain⟨os,hos,hcs,hds⟩:=id hs
 have hTs:s.TypeIs (.ref sl) "slice":=⟨os,hos,hcs⟩
 unfold getItem
 try with_reducible refine wpAny_holding ?_
 first|refine AD (AI ?_)|skip
 refine AD (wpAny_sequenceKey ht.typeIs (by decide) ?_)
 refine AD (wpAny_callSpecial?_slot (name:=AC "__getitem__") ht.typeIs PyProof.Rows.slot_tuple_getitem
  (wpAny_call_entry PyProof.Rows.slot_tuple_getitem ht.typeIs entry_tuple_getitem ?_ (args_tuple_getitem _ _)))
 show AF _ _ (Builtin.Tuple.tupleItemsOf (.ref t)>>=_) _ _ s
 refine AD (tupleItemsOf_ ht ?_)
 refine AD (wpAny_typeOf hTs ?_)
 rw [if_pos (by decide)]
 refine AD (HT.sliceApplied_gen hs pl pu ?_)
 have hno:(((HT.sIx items.size 0 lo:Nat):Int)==0 &&(1:Int)==1 &&(HT.sIx items.size items.size hi - HT.sIx items.size 0 lo)==items.size)=true:=by
  rw [hw.1,hw.2];simp
 show AF _ _ (if(((HT.sIx items.size 0 lo:Nat):Int)==0 &&(1:Int)==1 &&(HT.sIx items.size items.size hi - HT.sIx items.size 0 lo)==items.size)=true then _ else _) _ _ s
 rw [if_pos hno]
 refine AD (AD (m:=typeOf (.ref t)) (wpAny_typeOf ht.typeIs (AI ?_)))
 rw [if_pos (by decide)]
 wp_walk
 exact⟨_,rfl,AI h⟩
def c1q:SlR X (fun x lo hi H Q=>∃a xs,x= .ref a/\SqT X.K H a xs/\(HT.sIx xs.length 0 lo=0/\HT.sIx xs.length xs.length hi=xs.length)/\Q (.ref a) H):=by
 intro pins s σ H x v vl vu lo hi sl Q I rx hs pl pu h
 obtain⟨a,xs,rfl,hx,hw,q⟩:=h
 cases rx
 obtain⟨its,r,ht,hz⟩:=I.tuple hx
 have hlen:its.toArray.size=xs.length:=by rw [Aq];exact r.length.symm
 refine⟨"tuple",_,PyProof.Rows.slot_tuple_getitem.lookup,ht.typeIs, ?_⟩
 exact a5u ht hs pl pu (by rw [hlen];exact hw) ⟨.ref a,H,I,rfl,q⟩
def b6E{α:Type}{xs:List α}{lo hi:Option Int}(h:HT.sIx xs.length 0 lo=0/\HT.sIx xs.length xs.length hi=xs.length):cut xs lo hi=xs:=by
 unfold cut
 rw [h.1,h.2,List.drop_zero,Nat.sub_zero,List.take_length]
def b4T{h:Heap}{sl:AB}{vl vu:AA}{lo hi:Option Int}(hs:h.IsSliceOf sl vl vu .none)(pl:IsPart vl lo)(pu:IsPart vu hi):∃l u:Option (Int×Tok),h.IsSlice sl l u none/\l.map (·.1)=lo/\u.map (·.1)=hi:=by
 obtain⟨o,ho,hc,hd⟩:=hs
 cases pl with
 |none=>
  cases pu with
  |none=>exact⟨none,none,⟨o,ho,hc,hd⟩,rfl,rfl⟩
  |int j t=>exact⟨none,some (j,t),⟨o,ho,hc,hd⟩,rfl,rfl⟩
 |int i t=>
  cases pu with
  |none=>exact⟨some (i,t),none,⟨o,ho,hc,hd⟩,rfl,rfl⟩
  |int j t'=>exact⟨some (i,t),some (j,t'),⟨o,ho,hc,hd⟩,rfl,rfl⟩
def c3x:SlR X (fun x lo hi H Q=>∃z,x= .str z/\z.length<=AL/\Q (.str (Txt.slice z lo hi)) H):=by
 intro pins s σ H x v vl vu lo hi sl Q I rx hs pl pu h
 obtain⟨z,rfl,hz,q⟩:=h
 obtain⟨t,rfl⟩:=rx
 obtain⟨l,u,hs',e1,e2⟩:=b4T hs pl pu
 subst e1 e2
 exact⟨"str",_,PySem.F.slot_str_getitem.lookup,typeIs_str _ _ _,wpAny_getItem_str_slice hs' rfl (post_val_or_str ⟨Nat.le_trans (Txt.slice_le z _ _) hz,fun t' k=>⟨.str _,H,I.tok _,⟨_,rfl⟩,q⟩⟩)⟩
def c3w:SlR X (fun x lo hi H Q=>∃a xs,x= .ref a/\SqL X.K H a xs/\∀p,H p=none->Q (.ref p) (K7 H p (.lst (PU.cut xs lo hi)))):=by
 intro pins s σ H x v vl vu lo hi sl Q I rx hs pl pu h
 obtain⟨a,xs,rfl,hx,q⟩:=h
 cases rx
 obtain⟨its,r,pl',hz⟩:=I.list hx
 have hlen:=r.length
 refine⟨"list",_,list_getitem_lookup,pl'.isList.typeIs, ?_⟩
 refine wpAny_getItem_list_slice pl'.isList hs pl pu .none (by simp) ?_ (by rw [Aq];lia)
 rw [b0D]
 refine⟨.ref s.heap.objs.size,_,I.laid (t':=s.toks) (o:= .lst (PU.cut xs lo hi)) (fun b ob q=>AT _ q) (AR _) ?_,rfl,q _ (I.hok.fresh (AR _))⟩
 refine⟨Nat.le_trans (b92 xs lo hi) hz,PU.cut its lo hi,0, ?_,An _ rfl⟩
 unfold PU.cut
 rw [hlen]
 exact(r.drop _).take _
def gSl(x:g6)(lo hi:Option Int):Option g6:=match x with
 | .val (.str z)=>if z.length<=AL then some (.val (.str ⟨(cut z.cps.toList lo hi).toArray⟩)) else none
 | .val (.tuple ps)=>some (.val (.tuple (cut ps lo hi)))
 | .val (.list ps)=>some (.own (cut ps lo hi))
 | .ow (.lst ps)=>some (.own (cut ps lo hi))
 | .bo (.lst ps)=>some (.own (cut ps lo hi))
 |_=>none
def rSl(K:AE):V->Option Int->Option Int->Hp->VK->Prop:=fun x lo hi H Q=>∃F rx rz,y4 F H/\U1 K F H x rx/\gSl rx lo hi=some rz/\∀v F' H',C0 K F H F' H' v rz->Q v H'
def slm:SlR X (rSl X.K):=by
 intro pins s σ H x v vl vu lo hi sl Q I rx hs pl pu h
 obtain⟨F,ra,rz,s0,h1,h2,k⟩:=h
 have lst:∀ps,PyData.items? ra.rd=some ps->(∃a xs,x= .ref a/\SqL X.K H a xs/\w8 X.K F ps xs)->rz= .own (cut ps lo hi)->∃T id,typeLookup (.type T) "__getitem__"=pure (some (.builtin id))/\s.TypeIs v T/\AF (model X.prog X.w) X.A (getItem v (.ref sl)) (EP X pins σ Q) X.xe s:=fun ps e ⟨a,xs,e1,hq,rl⟩ e2=>by
  subst e2
  exact c3w pins s σ H x v vl vu lo hi sl Q I rx hs pl pu ⟨a,xs,e1,hq,fun p hp=>k _ _ _ (C0.lst s0 hp (rl.cut lo hi))⟩
 unfold gSl at h2
 split at h2
 ·rename_i z
  split at h2
  ·rename_i c
   cases h2
   cases h1
   refine c3x pins s σ H _ v vl vu lo hi sl Q I rx hs pl pu ⟨z,rfl,c, ?_⟩
   rw [c1r]
   exact k _ F H (C0.here s0 rfl)
  ·cases h2
 ·rename_i ps
  cases h2
  by_cases c:HT.sIx ps.length 0 lo=0/\HT.sIx ps.length ps.length hi=ps.length
  ·obtain⟨a,xs,rfl,hq,rl⟩:=h1
   have hlen:=rl.length
   refine c1q pins s σ H _ v vl vu lo hi sl Q I rx hs pl pu ⟨a,xs,rfl,G6 s0 hq.sq,by rw [hlen];exact c, ?_⟩
   rw [b6E c] at k
   exact k _ F H (C0.here s0 ⟨a,xs,rfl,hq,rl⟩)
  ·obtain⟨a,xs,rfl,hq,rl⟩:=h1
   have hlen:=rl.length
   refine c3y pins s σ H _ v vl vu lo hi sl Q I rx hs pl pu ⟨a,xs,rfl,G6 s0 hq.sq,by rw [hlen];exact c,fun p hp=> ?_⟩
   exact k _ _ _ (C0.tup s0 hp (rl.cut lo hi))
 ·rename_i ps
  cases h2
  obtain⟨a,xs,e1,hq,rl⟩:=h1
  exact lst ps rfl ⟨a,xs,e1,S2 s0 hq,rl⟩ rfl
 ·rename_i ps
  cases h2
  obtain⟨a,xs,e1,_,hq,rl⟩:=h1
  exact lst ps rfl ⟨a,xs,e1,SqL.of hq,rl⟩ rfl
 ·rename_i ps
  cases h2
  obtain⟨a,xs,e1,_,hq,rl⟩:=h1
  exact lst ps rfl ⟨a,xs,e1,SqL.of hq,rl⟩ rfl
 ·cases h2
abbrev MO:=e9->Option (Option Int)
def tMO(K:AE)(m:MO):TO:=fun σ H Q=>∃F ρ o,W7 K F H σ ρ/\m ρ=some o/\∀F' H',Ext F H F' H'->Q o H'
abbrev EO(X:Cx)(e:Option AS)(m:MO):Prop:=PO X e (tMO X.K m)
def a4F:MO:=fun _=>some none
def b52:g6->Option (Option Int)
 | .val (.int i)=>some (some i)
 |_=>none
def K0(m:M):MO:=fun ρ=>(m ρ).bind b52
def b1T:EO X none a4F:=fun pins s σ H Q I ⟨F,ρ,o,en,e,k⟩=>by
 cases e
 exact c1b pins s σ H Q I (k F H (Ext.refl en.fh))
def Y6(h:EE X e m):EO X (some e) (K0 m):=fun pins s σ H Q I ⟨F,ρ,o,en,e1,k⟩=>by
 obtain⟨r,e2,e3⟩:=bind_some e1
 refine c1c h pins s σ H Q I ⟨F,ρ,r,en,e2,fun v F1 H1 o1=> ?_⟩
 unfold b52 at e3
 split at e3
 ·cases e3
  exact⟨_,o1.rep,k F1 H1 o1.x⟩
 ·cases e3
def R9(m:M)(lo hi:MO):M:=fun ρ=>(m ρ).bind fun r=>(lo ρ).bind fun l=>(hi ρ).bind fun h=>gSl r l h
def a1G{e:AS}{lo hi:Option AS}{m:M}{ml mh:MO}{pos p2:Pos}(he:EE X e m)(hl:EO X lo ml)(hh:EO X hi mh):EE X (.Subscript e (.Slice lo hi none p2) pos) (R9 m ml mh):=
 D3 (b86 slm he hl hh) fun σ H Q ⟨F,ρ,r,en,e,k⟩=>by
  obtain⟨ra,e1,e⟩:=bind_some e
  obtain⟨l,e2,e⟩:=bind_some e
  obtain⟨h,e3,e⟩:=bind_some e
  exact⟨F,ρ,ra,en,e1,fun v F1 H1 o1=>⟨F1,ρ,l,en.ext o1.x,e2,fun F2 H2 x2=>⟨F2,ρ,h,(en.ext o1.x).ext x2,e3,fun F3 H3 x3=>⟨F3,ra,r,x3.fh,(o1.rep.ext x2).ext x3,e,fun z F4 H4 o4=>k z F4 H4 (C0.trans ((o1.x.trans x2).trans x3) o4)⟩⟩⟩⟩
def Its(x:Str):It:=⟨fun i _=>i<x.cps.size,fun i H v H'=>H'=H/\∃c,x.cps[i]?=some c/\v= .str ⟨#[c]⟩,fun i _=>x.cps.size<=i⟩
def b9L{P:Ac}{w:AU}{K:AE}{tg:AS}(b:Bool)(it:AB)(x:Str)(t:Tok):b4t P w K tg (Its x) [it] it (fun i h=>h.IsStrIter it (if b then "str_ascii_iterator" else "str_iterator") x t i) where
 mem:=by simp
 obj:=fun i h st c hb=>by
  have e:c=it:=by simpa using hb
  subst e
  obtain⟨o,e,c,d⟩:=st
  exact⟨o,e,fun v z=>by rw [d] at z;cases z⟩
 keep:=fun i h h' st k=>let ⟨o,e,r⟩:=st;⟨o,k it (by simp) o e,r⟩
 item:=by
  intro X hP hw hK hc i pins s σ H E I hf st hg
  subst hP hw hK
  obtain⟨f0,f1,f2,f3,f4,f5⟩:=hf it (by simp)
  have hg:i<x.cps.size:=hg
  have hx:x.cps[i]?=some x.cps[i]:=by simp [hg]
  have fin:∀h':Heap,h'.IsStrIter it (if b then "str_ascii_iterator" else "str_iterator") x t (i+1)->Heap.SameBut it s.heap h'->∃u,some (Value.str ⟨#[x.cps[i]]⟩ s.toks)=some u/\
   AF (model X.prog X.w) X.A (letOwnedTupleGo tg (.ref it) u) (fun _ s2=>∃y H',Inv X pins σ H' s2/\A8 y u/\(Its x).yld i H y H'/\s2.heap.IsStrIter it (if b then "str_ascii_iterator" else "str_iterator") x t (i+1)/\∀b∈[it],H' b=none) E {s with heap:=h',toks:=s.toks+1}:=fun h' st' sb=>by
   have I1:Inv X pins σ H {s with heap:=h',toks:=s.toks+1}:=I.turned (fun b o hb e=>(sb.2 b hb).trans e) f0 f1 f3 f4 f5
   obtain⟨o,e,c,d⟩:=id st'
   refine⟨_,rfl,b5Y (s:={s with heap:=h',toks:=s.toks+1}) (n:=if b then "str_ascii_iterator" else "str_iterator") e c d (by cases b<;>decide) ⟨.str ⟨#[x.cps[i]]⟩,H,I1,⟨_,rfl⟩,⟨rfl,_,hx,rfl⟩,st',fun b hb=>(hf b hb).1⟩⟩
  cases b with
  |true=>exact wpAny_pyNext_ascii_item st hx fun h' a b=>fin h' a b
  |false=>exact wpAny_pyNext_wide_item st hx fun h' a b=>fin h' a b
 done:=by
   intro X hP hw hK hc i pins s σ H E I hf st hg
   subst hP hw hK
   obtain⟨f0,f1,f2,f3,f4,f5⟩:=hf it (by simp)
   have hg:x.cps.size<=i:=hg
   have hx:x.cps[i]?=none:=by simp [hg]
   cases b with
   |true=>exact wpAny_pyNext_ascii_end (I.ok.hd hc) st hx fun h' eb=>⟨rfl,I.turned (t':=s.toks) (fun b o hb e=>eb b o hb e) f0 f1 f3 f4 f5⟩
   |false=>exact wpAny_pyNext_wide_end (I.ok.hd hc) st hx fun h' eb=>⟨rfl,I.turned (t':=s.toks) (fun b o hb e=>eb b o hb e) f0 f1 f3 f4 f5⟩
 self:=fun _ _ _ _ _ st h=>by
  cases b with
  |true=>exact wpAny_pyIter_striter_ascii st h
  |false=>exact wpAny_pyIter_striter_wide st h
def c4W(tl:TE):TI:=fun σ H R=>tl σ H fun x H1=>∃z,x= .str z/\R (Its z) H1
def c3l{l:AS}{tl:TE}(hl:PE X l tl):PI X tg l (c4W tl):=by
 intro pins s σ H R I h
 refine Q3 (hl pins s σ H _ I h) fun v s1 ⟨x,H1,I1,r1,q1⟩=> ?_
 obtain⟨z,e,q⟩:=q1
 subst e
 obtain⟨t,rfl⟩:=r1
 have fin:∀b:Bool,PIE X pins σ tg R (.ref s1.heap.objs.size) {s1 with heap:=s1.heap.push {cls:= .type (if b then "str_ascii_iterator" else "str_iterator"),data:= .fields #[.str z t,.int 0 0]}}:=fun b=>by
  refine⟨s1.heap.objs.size,[s1.heap.objs.size],_,_,H1,rfl,I1.kept (t':=s1.toks) fun b o e=>AT _ e,b9L b _ z t,⟨_,An _ rfl,rfl,rfl⟩,fun c hb=> ?_,q⟩
  have e:c=s1.heap.objs.size:=by simpa using hb
  subst e
  exact I1.fpOk (AR _) (I1.hok.fresh (AR _))
 cases ha:z.cps.all (· <128)
 ·exact wpAny_pyIter_wide ha (fin false)
 ·exact wpAny_pyIter_ascii ha (fin true)
structure c4S(K:AE)(F:Hp)(J:It)(ps:List PV):Prop where
 st:∀i H',y4 F H'->ps.length<=i->J.stop i H'
 go:∀i p H',y4 F H'->ps[i]?=some p->J.go i H'
 yd:∀i p x H' H'',y4 F H'->ps[i]?=some p->J.yld i H' x H''->H''=H'/\T7 K F p x
def SIF(K:AE)(mi:MI)(wi:TI):Prop:=∀F H σ ρ ps (R:It->Hp->Prop),W7 K F H σ ρ->mi ρ=some ps->(∀F1 H1 J,Ext F H F1 H1->c4S K F1 J ps->R J H1)->wi σ H R
abbrev EIF(X:Cx)(tg iter:AS)(mi:MI):Prop:=∃wi,PI X tg iter wi/\SIF X.K mi wi
def EIF.ei(h:EIF X tg iter mi):EI X tg iter mi:=by
 obtain⟨wi,h1,h2⟩:=h
 exact⟨wi,h1,fun F H σ ρ ps R en e k=>h2 F H σ ρ ps R en e fun F1 H1 J x S=>k F1 H1 J x ⟨fun i H' s=>S.st i H' (x.fh.trans s),fun i p H' s=>S.go i p H' (x.fh.trans s),fun i p y H' H'' s=>S.yd i p y H' H'' (x.fh.trans s)⟩⟩
def a9e(m:M):MI:=fun ρ=>(m ρ).bind fun r=>match r with
 | .val (.str z)=>some (z.cps.toList.map fun c=> .str ⟨#[c]⟩)
 |_=>none
def b99(h:EE X l m):EIF X tg l (a9e m):=⟨_,c3l h,fun F H σ ρ ps R en e k=>by
 obtain⟨r,e1,e2⟩:=bind_some e
 refine⟨F,ρ,r,en,e1,fun v F1 H1 o1=> ?_⟩
 split at e2
 ·rename_i z
  cases e2
  cases o1.rep
  refine⟨z,rfl,k F1 H1 _ o1.x ⟨fun i H2 s h=> ?_,fun i p H2 s h=> ?_,fun i p x H2 H3 s h y=> ?_⟩⟩
  ·have h:z.cps.size<=i:=by simpa using h
   exact h
  ·have:=(Aw.mp h).1
   have h:i<z.cps.size:=by simpa using this
   exact h
  ·obtain⟨e,c,hc,rfl⟩:=y
   refine⟨e, ?_⟩
   rw [As,Array.getElem?_toList,hc] at h
   cases h
   rfl
 ·cases e2⟩
def Y2:List PV->Option (List Bool)
 |[]=>some []
 | .bool b::r=>(Y2 r).map (b::·)
 |_=>none
theorem a7P:∀bs:List Bool,Y2 (bs.map .bool)=some bs
 |[]=>rfl
 |b::bs=>by rw [AK];simp only [Y2,a7P bs,Ai]
theorem a7Q{K:AE}{H:Hp}:∀{ps:List PV} {bs:List Bool} {xs:List V} {us:List AA},Y2 ps=some bs->w8 K H ps xs->y9 xs us->us=bs.map Value.bool
 |[],_,_,_,h,r,v=>by cases h;cases r;cases v;rfl
 |p::ps,bs,_,_,h,⟨x,r,e,hp,t⟩,v=>by
  subst e
  cases p with
  |bool z=>
   simp only [Y2] at h
   cases q:Y2 ps with
   |none=>rw [q] at h;cases h
   |some zs=>
    rw [q] at h;cases h
    cases hp
    cases v with
    |cons a b=>rw [a7Q q t b,show _=_ from a];rfl
  |_=>simp [Y2] at h
def b6K(x:g6):Option g6:=match x.rd with
 | .list ps=>(Y2 ps).map fun bs=> .val (.bool (bs.all id))
 |_=>none
def b7l(bs:List Bool):(Ao bs.length).all (fun i=>bs.getD i false)=bs.all id:=by
 rw [Bool.eq_iff_iff,List.all_eq_true,List.all_eq_true]
 constructor
 ·intro h b hb
  obtain⟨i,hi,rfl⟩:=List.getElem_of_mem hb
  have:=h i (List.mem_range.mpr hi)
  simpa [List.getD,hi] using this
 ·intro h i hi
  have hi:=List.mem_range.mp hi
  have:=h bs[i] (List.getElem_mem _)
  simpa [List.getD,hi] using this
def b7m(bs:List Bool):(Ao bs.length).any (fun i=>bs.getD i false)=bs.any id:=by
 rw [Bool.eq_iff_iff,List.any_eq_true,List.any_eq_true]
 constructor
 ·rintro⟨i,hi,h⟩
  have hi:=List.mem_range.mp hi
  exact⟨bs[i],List.getElem_mem _,by simpa [List.getD,hi] using h⟩
 ·rintro⟨b,hb,h⟩
  obtain⟨i,hi,rfl⟩:=List.getElem_of_mem hb
  exact⟨i,List.mem_range.mpr hi,by simpa [List.getD,hi] using h⟩
def b4y{pins:List (AB×Obj)}{σ:L2.St}{H:Hp}{s:AG}{a:AB}{xs:List V}{ps:List PV}{bs:List Bool}{F:Hp}(hc:X.calm=true)(I:Inv X pins σ H s)(hq:SqL X.K H a xs)(r:w8 X.K F ps xs)(e:Y2 ps=some bs){E:AA->AG->Prop}{Q:AA->AG->Prop}(c:Bool)
 (h:∀h' tk,(∀b o,b∉[s.heap.objs.size]->(s.heap.push {cls:= .type "list_iterator",data:= .fields #[.ref a,.int 0 0]}).get? b=some o->h'.get? b=some o)->Q (.bool (if c then bs.all id else bs.any id)) {s with heap:=h',toks:=tk}):
 AF (model X.prog X.w) X.A.in1 (pyIter (.ref a)) (fun it s₂=>∃I fp wr n P St tr,it= .ref I/\Walks X.prog X.w X.A.in1 I fp wr n P St/\St 0 s₂.heap/\TruthOf X.prog X.w X.A.in1 P tr/\
  ∀h' tk,(∀b o,b∉wr->s₂.heap.get? b=some o->h'.get? b=some o)->Q (.bool (if c then(Ao n).all tr else(Ao n).any tr)) {s₂ with heap:=h',toks:=tk}) E s:=by
 obtain⟨its,rv,pl,hz⟩:=I.list hq
 have eb:=a7Q e r rv
 have hlt:a<s.heap.objs.size:=by obtain⟨_,e,_⟩:=pl.isList;exact AW e
 refine wpAny_pyIter_list pl.isList ?_
 refine⟨s.heap.objs.size,[s.heap.objs.size,a],[s.heap.objs.size],its.toArray.size,_,_,fun i=>bs.getD i false,rfl,Walks.list (by show X.A.handled=none;exact I.ok.hd hc) s.heap.objs.size a (Am hlt) its.toArray,⟨⟨_,An _ rfl,rfl,rfl⟩,pl.isList.push _⟩,fun i v s' Q E hv hQ=> ?_,fun h' tk hk=> ?_⟩
 ·rw [eb] at hv
  have hv:(bs.map Value.bool)[i]?=some v:=by simpa using hv
  rw [As] at hv
  cases q:bs[i]? with
  |none=>rw [q] at hv;cases hv
  |some z=>
   rw [q] at hv;cases hv
   have:bs.getD i false=z:=by simp [List.getD,q]
   have hQ:Q (bs.getD i false) s':=hQ
   rw [this] at hQ
   exact AI hQ
 ·have hn:its.toArray.size=bs.length:=by rw [eb];simp
  rw [hn,b7l,b7m]
  exact h h' tk hk
def b4C(hc:X.calm=true):R0 X (.builtin "all") (rC1 X.K b6K):=by
 intro pins s σ H xs us Q I rv h
 obtain⟨F,x,rx,rz,rfl,s0,h1,h2,k⟩:=h
 obtain⟨u,rfl,ru⟩:=a1i rv
 unfold b6K at h2
 split at h2
 ·rename_i ps ep
  cases e:Y2 ps with
  |none=>rw [e] at h2;cases h2
  |some bs=>
   rw [e] at h2;cases h2
   obtain⟨a,xs,rfl,hq,r⟩:=S9 (ps:=ps) s0 h1 (by rw [ep];rfl)
   have hq:SqL X.K H a xs:=by
    have rr:=h1.rd s0
    rw [ep] at rr
    obtain⟨a',xs',e1,hq',rl⟩:=rr
    cases e1
    rcases hq with hq|hq
    ·exact hq
    ·exact(a4G I hq' hq).elim
   cases ru
   exact call_all_walk (b4y hc I hq r e true fun h' tk hk=>⟨.bl _,H,I.turned (it:=s.heap.objs.size) (fun b o hb e=>hk b o (by simpa using hb) (AT _ e)) (I.hok.fresh (AR _)) (Nat.ne_of_gt I.lt) (.inr I.sz) (fun x c e=>by obtain⟨v,z⟩:=I.cell x c e;exact Am z.lt) (fun p hp=>Am (AW (I.pin p hp).1)),rfl,k _ F H (C0.here s0 rfl)⟩)
 ·cases h2
def a6J:g6->g6->Option g6
 | .val (.int i),.val (.int j)=>some (.val (.bool (decide (i<j))))
 | .val (.str i),.val (.str j)=>some (.val (.bool (decide (i.cps.toList<j.cps.toList))))
 |_,_=>none
def Y7:g6->g6->Option g6
 | .val (.int i),.val (.int j)=>some (.val (.bool (decide (i<=j))))
 | .val (.str i),.val (.str j)=>some (.val (.bool (!decide (j.cps.toList<i.cps.toList))))
 |_,_=>none
def a8v:OpM X (compareOp .Lt) a6J:=by
 intro pins s σ H x y v u Q I rx ry h
 obtain⟨F,ra,rb,rz,s0,h1,h2,h3,k⟩:=h
 unfold a6J at h3
 split at h3
 ·cases h3;cases h1;cases h2
  exact c4o pins s σ H _ _ v u Q I rx ry ⟨_,_,rfl,rfl,k _ F H (C0.here s0 rfl)⟩
 ·cases h3;cases h1;cases h2
  exact b7f pins s σ H _ _ v u Q I rx ry ⟨_,_,rfl,rfl,k _ F H (C0.here s0 rfl)⟩
 ·cases h3
def M0:OpM X (compareOp .LtE) Y7:=by
 intro pins s σ H x y v u Q I rx ry h
 obtain⟨F,ra,rb,rz,s0,h1,h2,h3,k⟩:=h
 unfold Y7 at h3
 split at h3
 ·cases h3;cases h1;cases h2
  exact c4n pins s σ H _ _ v u Q I rx ry ⟨_,_,rfl,rfl,k _ F H (C0.here s0 rfl)⟩
 ·cases h3;cases h1;cases h2
  obtain⟨t,rfl⟩:=rx
  obtain⟨t',rfl⟩:=ry
  exact PySem.P.le_str ⟨.bl _,H,I,rfl,k _ F H (C0.here s0 rfl)⟩
 ·cases h3
def a12(neg:Bool)(x y:g6):Option g6:=match x,y with
 | .val (.str i),.val (.str j)=>some (.val (.bool (if neg then !(!(Builtin.Str.occurrences j i 0 j.length 1).isEmpty) else !(Builtin.Str.occurrences j i 0 j.length 1).isEmpty)))
 |x,y=>gIn neg x y
def b6i(hu:X.A.units+64<cLine):OpM X (compareOp .In) (a12 false):=by
 intro pins s σ H x y v u Q I rx ry h
 obtain⟨F,ra,rb,rz,s0,h1,h2,h3,k⟩:=h
 unfold a12 at h3
 split at h3
 ·cases h3;cases h1;cases h2
  exact b7e pins s σ H _ _ v u Q I rx ry ⟨_,_,rfl,rfl,k _ F H (C0.here s0 rfl)⟩
 ·exact c3a hu pins s σ H x y v u Q I rx ry ⟨F,_,_,rz,s0,h1,h2,h3,k⟩
def a9I(hu:X.A.units+64<cLine):OpM X (compareOp .NotIn) (a12 true):=by
 intro pins s σ H x y v u Q I rx ry h
 obtain⟨F,ra,rb,rz,s0,h1,h2,h3,k⟩:=h
 unfold a12 at h3
 split at h3
 ·cases h3;cases h1;cases h2
  exact b2s pins s σ H _ _ v u Q I rx ry ⟨_,_,rfl,rfl,k _ F H (C0.here s0 rfl)⟩
 ·exact b7g hu pins s σ H x y v u Q I rx ry ⟨F,_,_,rz,s0,h1,h2,h3,k⟩
def a3h(neg:Bool)(x y:g6):Option g6:=match x,y with
 | .val (.bool a),.val (.bool b)=>some (.val (.bool (if neg then !(a==b) else a==b)))
 |x,y=>c2y neg x y
def b8n{a b:Bool}{M:Model}{A:Al}{E:AA->AG->Prop}{s:AG}{Q:AA->AG->Prop}(h:Q (.bool (a==b)) s):AF M A (compareOp .Is (.bool a) (.bool b)) Q E s:=by
 refine wpAny_is_plain (by cases a<;>cases b<;>rfl) ?_
 have e:(Value.bool a==Value.bool b)=(a==b):=by cases a<;>cases b<;>rfl
 rw [e];exact h
def a0C:OpM X (compareOp .Is) (a3h false):=by
 intro pins s σ H x y v u Q I rx ry h
 obtain⟨F,ra,rb,rz,s0,h1,h2,h3,k⟩:=h
 unfold a3h at h3
 split at h3
 ·cases h3;cases h1;cases h2;cases rx;cases ry
  exact b8n ⟨.bl _,H,I,rfl,k _ F H (C0.here s0 rfl)⟩
 ·exact c0Z pins s σ H x y v u Q I rx ry ⟨F,_,_,rz,s0,h1,h2,h3,k⟩
def a8Y:g6->g6->Option g6
 | .val (.str z),.val (.int k)=>if okC (fun k n=>0<=k/\k<=1000000/\n*k<=16777216) k z.length=true then some (.val (.str ⟨(AV k.toNat z.cps.toList).flatten.toArray⟩)) else none
 | .ow (.lst ps),.val (.int k)=>if okC (fun k n=>0<=k/\k<=1000000/\n*k<=16777216) k ps.length=true then some (.own (AV k.toNat ps).flatten) else none
 |x,y=>c0k x y
theorem a8V(xs:List Nat):∀(m:Nat) (acc:Array Nat),(AV m xs.toArray).foldl (· ++·) acc=acc++(AV m xs).flatten.toArray
 |0,acc=>by simp
 |m+1,acc=>by
  rw [AX,List.foldl_cons,a8V xs m,AX,List.flatten_cons]
  apply Array.ext'
  simp
def c1A(h0:0<=k):Txt.mul z k=⟨(AV k.toNat z.cps.toList).flatten.toArray⟩:=by
 unfold Txt.mul
 by_cases h1:k<1
 ·have:k=0:=by lia
  subst this
  rfl
 ·rw [if_neg h1]
  by_cases h2:(k==1||z.length==0)=true
  ·rw [if_pos h2]
   rw [Bool.or_eq_true] at h2
   cases z with
   |mk a=>
    rcases h2 with h2|h2
    ·have:k=1:=by simpa using h2
     subst this
     show(⟨a⟩:Str)=_
     congr 1
     apply Array.ext'
     simp
    ·have ha:a.size=0:=by simpa [Str.length] using h2
     have:a= #[]:=Array.eq_empty_of_size_eq_zero ha
     subst this
     congr 1
     apply Array.ext'
     simp
  ·rw [if_neg h2]
   have e:z.cps=z.cps.toList.toArray:=by simp
   congr 1
   rw [e,a8V]
   simp
theorem a9P{K:AE}{H:Hp}{ps:List PV}{xs:List V}(r:w8 K H ps xs):∀m:Nat,w8 K H (AV m ps).flatten (AV m xs).flatten
 |0=>rfl
 |m+1=>by
  rw [AX,AX,List.flatten_cons,List.flatten_cons]
  exact r.append (a9P r m)
def b8V:OpM X (binaryOp .Mult) a8Y:=by
 intro pins s σ H x y v u Q I rx ry h
 obtain⟨F,ra,rb,rz,s0,h1,h2,h3,k⟩:=h
 unfold a8Y at h3
 split at h3
 ·rename_i z n
  split at h3
  ·rename_i c
   obtain⟨c0,c1,c2⟩:=a2h.mp c
   cases h3;cases h1;cases h2
   obtain⟨t,rfl⟩:=rx
   obtain⟨t',rfl⟩:=ry
   have hz:z.length*n.toNat<=AL:=by
    rw [sizeLine_eq]
    have:((z.length*n.toNat:Nat):Int)=z.length*n:=by rw [Int.natCast_mul,Int.toNat_of_nonneg c0]
    lia
   refine SB.mul ⟨?_,fun h4 h5 h6=> ?_,fun h4 h5=> ?_⟩ fun t' k'=>⟨.str _,H,I.tok _,⟨_,rfl⟩, ?_⟩
   ·have e1:¬n< -(2 ^ 63:Int):=by lia
    have e2:¬n>=2 ^ 63:=by lia
    simp [e1,e2]
    lia
   ·have h7:(2 ^ 63 - 1:Int)/ n<z.length:=h6
    have h8:(2 ^ 63 - 1:Int)<(z.length:Int)*n:=by
     have:=Int.lt_mul_of_ediv_lt (a:=(2 ^ 63 - 1:Int)) (b:=(z.length:Int)) (c:=n) (by lia) h7
     exact this
    lia
   ·unfold Builtin.Str.tooLong
    rw [decide_eq_false (by lia)]
   ·rw [c1A c0]
    exact k _ F H (C0.here s0 rfl)
  ·cases h3
 ·rename_i ps n
  split at h3
  ·rename_i c
   obtain⟨c0,c1,c2⟩:=a2h.mp c
   cases h3;cases h2
   obtain⟨a,xs,rfl,fa,hq,rl⟩:=h1
   have hlen:=rl.length
   have hz:xs.length*n.toNat<=AL:=by
    rw [sizeLine_eq,hlen]
    have:((ps.length*n.toNat:Nat):Int)=ps.length*n:=by rw [Int.natCast_mul,Int.toNat_of_nonneg c0]
    lia
   exact c28 pins s σ H _ _ v u Q I rx ry ⟨a,n,xs,rfl,rfl,hq,by lia,by lia,hz,fun p hp=>k _ _ _ (C0.lst s0 hp (a9P rl _))⟩
  ·cases h3
 ·exact b8U pins s σ H x y v u Q I rx ry ⟨F,_,_,rz,s0,h1,h2,h3,k⟩
def b42:M:=fun _=>some (.val (.dict []))
def b7T:EE X (.Dict [] [] pos) b42:=
 D3 b84 fun σ H Q ⟨F,ρ,r,en,e,k⟩=>by
  cases e
  exact fun d hd=>k _ _ _ (C0.val (Ext.lay en.fh hd) (Or.inl ⟨d,[],rfl,z9,rfl⟩))
def a7u:fillsNumberSlot (.type "tuple") "mul"=pure false:=
 PySem.fillsNumberSlot_seq (id:="tuple.__mul__") (r:=some (.builtin "tuple.__rmul__")) PySem.F.slot_tuple_mul.lookup (by decide+kernel) PySem.F.slot_tuple_rmul.lookup (by decide+kernel)
def b2z:seqRepeat? (.type "tuple")=pure (some (.builtin "tuple.__mul__")):=by
 unfold seqRepeat?
 rw [PySem.seqSlot_of (T:="tuple") (name:="__mul__") (id:="tuple.__mul__") PySem.F.slot_tuple_mul.lookup (by decide+kernel),PySem.seqSlot_of (T:="tuple") (name:="__rmul__") (id:="tuple.__rmul__") PySem.F.slot_tuple_rmul.lookup (by decide+kernel)]
 rfl
def a83(a:Int)(t:Tok)(l:AB)(items:Array AA)(n:Nat)(dd:Option AB)(sl:Array (Option AA)):Meets (Builtin.«int.__rmul__» ⟨[.int a t,.ref l],[]⟩) (fun _ R s=>s.heap.get? l=some {cls:= .type "tuple",dict:=dd,data:= .seq items n,slots:=sl}/\R (.ok (.ret Value.notImplemented)) s):=
 .of_wp fun prog w A R s h=>by obtain⟨hp,g,d,tk,os⟩:=s;obtain⟨hl,h⟩:=h;wp_walk;exact⟨_,rfl,h⟩
def a96(l:AB)(items:Array AA)(n:Nat)(dd:Option AB)(sl:Array (Option AA))(x:Int)(u:Tok)(hc0:(decide (x< -(2 ^ 63))||decide (x>=2 ^ 63))=false)(hc1:(items.isEmpty||x==1)=false)(hc2:(decide (x<=0)||items.isEmpty)=false)(hc3:¬(items.size:Int)*x>(2 ^ 63 - 1)/ 8)(hc4:Builtin.Tuple.tupleTooMany ((items.size:Int)*x)=false)(hz:((AV x.toNat items).foldl (· ++·) #[]).size<=AL):
 Meets (Builtin.«tuple.__mul__» ⟨[.ref l,.int x u],[]⟩) (fun _ R s=>s.heap.get? l=some {cls:= .type "tuple",dict:=dd,data:= .seq items n,slots:=sl}/\R (.ok (.ret (Value.ref s.heap.objs.size))) {s with heap:=s.heap.push {cls:=Value.type "tuple",data:=Data.seq ((AV x.toNat items).foldl (· ++·) #[])},toks:=s.toks}):=
 .of_wp fun prog w A R s h=>by
  obtain⟨hp,g,d,tk,os⟩:=s;obtain⟨hl,h⟩:=h
  wp_walk
  have ht:IsTup hp l items:=⟨_,hl,rfl,n,rfl⟩
  rw [if_neg (by rw [hc0];exact Ar)]
  wp_walk
  rw [if_neg hc3]
  wp_walk
  exact⟨_,rfl,h⟩
def c0Y:OpR X (binaryOp .Mult) (fun x y H Q=>∃a xs n,x= .ref a/\y= .int n/\SqT X.K H a xs/\xs≠[]/\2<=n/\n<=1000000/\xs.length*n.toNat<=AL/\∀p,H p=none->Q (.ref p) (K7 H p (.tup (AV n.toNat xs).flatten))):=by
 intro pins s σ H x y v u Q I rx ry h
 obtain⟨a,xs,n,rfl,rfl,hx,hne,h1,h2,hz,q⟩:=h
 cases rx
 obtain⟨t,rfl⟩:=ry
 obtain⟨its,r,ht,_⟩:=I.tuple hx
 have hlen:its.toArray.size=xs.length:=by rw [Aq];exact r.length.symm
 have hie:its.toArray.isEmpty=false:=by
  cases its with
  |nil=>exact absurd (r.nil_iff.mp rfl) hne
  |cons _ _=>rfl
 have hnew:List.foldl (fun x1 x2=>x1++x2) #[] (AV n.toNat its.toArray)=(AV n.toNat its).flatten.toArray:=by
  have:=a7k its n.toNat []
  rw [Aa] at this
  exact this
 have hc:((xs.length*n.toNat:Nat):Int)=(xs.length:Int)*n:=by rw [Int.natCast_mul,Int.toNat_of_nonneg (by lia)]
 have hsl:=sizeLine_eq
 obtain⟨⟨cls,dd,data,sl⟩,ho,hc',m,hd⟩:=id ht
 simp only at hc' hd
 subst hc' hd
 have hzz:(List.foldl (fun x1 x2=>x1++x2) #[] (AV n.toNat its.toArray)).size<=AL:=by
  rw [hnew,Aq,b17,Nat.mul_comm,<-r.length];exact hz
 refine wpAny_binaryOp_repeat_ref (T:="tuple") (U:="int") (by decide) ht.typeIs (fun s'=>typeIs_int s' n t) a7u F.fills_int_mul F.slot_int_rmul b2z F.slot_int_index.lookup
  (call_meets F.slot_int_rmul (typeIs_int s n t) F.entry_int_rmul (F.args_int_rmul_2 _ _) (a83 n t a its.toArray m dd sl)
   ⟨ho,rfl,ht.typeIs,call_meets PySem.F.slot_tuple_mul ht.typeIs PySem.F.entry_tuple_mul (PySem.F.args_tuple_mul_2 _ _) (a96 a its.toArray m dd sl n t ?_ ?_ ?_ ?_ ?_ hzz) ⟨ho, ?_⟩⟩)
 ·have e1:¬n< -(2 ^ 63:Int):=by lia
  have e2:¬n>=2 ^ 63:=by lia
  simp [e1,e2]
  lia
 ·rw [hie]
  have:n≠1:=by lia
  simp [this]
 ·rw [hie]
  have:¬n<=0:=by lia
  simp [this]
 ·rw [hlen,<-hc]
  lia
 ·rw [hlen,<-hc]
  unfold Builtin.Tuple.tupleTooMany
  rw [decide_eq_false (by lia)]
 ·rw [hnew]
  refine⟨.ref s.heap.objs.size,_,I.laid (t':=s.toks) (o:= .tup (AV n.toNat xs).flatten) (fun b ob q=>AT _ q) (AR _) ?_,rfl,q _ (I.hok.fresh (AR _))⟩
  exact⟨by rw [b17,Nat.mul_comm];exact hz,_,r.rep n.toNat,IsTup.new _ _⟩
def B1:g6->g6->Option g6
 | .val (.tuple ps),.val (.int k)=>if okC (fun k n=>2<=k/\k<=1000000/\1<=n/\n*k<=16777216) k ps.length=true then some (.val (.tuple (AV k.toNat ps).flatten)) else none
 |x,y=>a8Y x y
def C9:OpM X (binaryOp .Mult) B1:=by
 intro pins s σ H x y v u Q I rx ry h
 obtain⟨F,ra,rb,rz,s0,h1,h2,h3,k⟩:=h
 unfold B1 at h3
 split at h3
 ·rename_i ps n
  split at h3
  ·rename_i c
   obtain⟨c0,c1,c2,c3⟩:=a2h.mp c
   cases h3;cases h2
   obtain⟨a,xs,rfl,hq,rl⟩:=h1
   have hlen:=rl.length
   have hz:xs.length*n.toNat<=AL:=by
    rw [sizeLine_eq,hlen]
    have:((ps.length*n.toNat:Nat):Int)=ps.length*n:=by rw [Int.natCast_mul,Int.toNat_of_nonneg (by lia)]
    lia
   refine c0Y pins s σ H _ _ v u Q I rx ry ⟨a,xs,n,rfl,rfl,G6 s0 hq.sq, ?_,by lia,by lia,hz,fun p hp=>k _ _ _ (C0.tup s0 hp (a9P rl _))⟩
   intro e
   rw [e] at hlen
   simp at hlen
   lia
  ·cases h3
 ·exact b8V pins s σ H x y v u Q I rx ry ⟨F,_,_,rz,s0,h1,h2,h3,k⟩
def b2I(kvs:List (List Key×PV))(k:List Key):Option PV:=(kvs.find? fun kv=>decide (kv.1=k)).map (·.2)
theorem a38.val{K:AE}{H:Hp}{k:List Key}:∀{kvs:List (List Key×PV)} {ys:List (List Key×V)},a38 K H kvs ys->(∀p,b2I kvs k=some p->∃v,a5c ys k=some v/\T7 K H p v)/\(b2I kvs k=none->a5c ys k=none)
 |[],_,h=>by cases h;exact⟨fun p e=>(nomatch e),fun _=>rfl⟩
 |(k',p)::r,_,⟨v,t,e,q,h⟩=>by
  subst e
  by_cases c:k'=k
  ·have e1:b2I ((k',p)::r) k=some p:=by simp [b2I,List.find?_cons,c]
   have e2:a5c ((k',v)::t) k=some v:=a5e c
   rw [e1,e2]
   exact⟨fun p' e'=>(by cases e';exact⟨v,rfl,q⟩),fun e'=>(nomatch e')⟩
  ·have e1:b2I ((k',p)::r) k=b2I r k:=by simp [b2I,List.find?_cons,c]
   have e2:a5c ((k',v)::t) k=a5c t k:=a5d c
   rw [e1,e2]
   exact a38.val h
def c2J(r:g6):Option Str:=match r with
 | .val (.str x)=>some x
 |_=>none
def b6N(x:Str):List Str->List Str
 |[]=>[x]
 |y::r=>if y.cps.toList<x.cps.toList then y::b6N x r else x::y::r
def a2m:List Str->List Str
 |[]=>[]
 |x::r=>b6N x (a2m r)
theorem a7n(x:Str):∀l:List Str,(b6N x l).Perm (x::l)
 |[]=>List.Perm.refl _
 |y::r=>by
  unfold b6N
  split
  ·exact((a7n x r).cons y).trans (List.Perm.swap x y r)
  ·exact List.Perm.refl _
theorem S4:∀l:List Str,(a2m l).Perm l
 |[]=>List.Perm.refl _
 |x::r=>(a7n x (a2m r)).trans ((S4 r).cons x)
def leS(a b:Str):Prop:=¬b.cps.toList<a.cps.toList
def b3p(h:leS a b)(g:leS b a):a=b:=by
 have e:a.cps.toList=b.cps.toList:=List.le_antisymm h g
 cases a;cases b
 simp at e ⊢
 exact e
def b05(h:leS a b)(g:leS b c):leS a c:=List.le_trans h g
theorem a7S(x:Str):∀{l:List Str},l.Pairwise leS->(b6N x l).Pairwise leS
 |[],_=>List.pairwise_singleton _ _
 |y::r,h=>by
  unfold b6N
  have h':=List.pairwise_cons.mp h
  split
  ·rename_i c
   refine List.pairwise_cons.mpr ⟨fun z hz=> ?_,a7S x h'.2⟩
   rcases AZ.mp ((a7n x r).mem_iff.mp hz) with e|e
   ·subst e;exact List.lt_asymm c
   ·exact h'.1 z e
  ·rename_i c
   refine List.pairwise_cons.mpr ⟨fun z hz=> ?_,h⟩
   rcases AZ.mp hz with e|e
   ·subst e;exact c
   ·exact b05 c (h'.1 z e)
theorem Z7:∀l:List Str,(a2m l).Pairwise leS
 |[]=>List.Pairwise.nil
 |x::r=>a7S x (Z7 r)
theorem a2n:∀{l m:List Str},l.Pairwise leS->m.Pairwise leS->l.Perm m->l=m
 |[],m,_,_,p=>(List.Perm.nil_eq p)
 |a::l,[],_,_,p=>by have:=p.length_eq;simp at this
 |a::l,b::m,hl,hm,p=>by
  have hl':=List.pairwise_cons.mp hl
  have hm':=List.pairwise_cons.mp hm
  have e:a=b:=by
   have m1:a∈b::m:=p.mem_iff.mp Ab
   have m2:b∈a::l:=p.mem_iff.mpr Ab
   rcases AZ.mp m1 with e|e
   ·exact e
   ·rcases AZ.mp m2 with g|g
    ·exact g.symm
    ·exact b3p (hl'.1 b g) (hm'.1 a e)
  subst e
  rw [a2n hl'.2 hm'.2 (List.Perm.cons_inv p)]
theorem b1o:∀{p:Str} {l:List Str},risingS p l=true->(p::l).Pairwise leS
 |p,[],_=>List.pairwise_singleton _ _
 |p,x::r,h=>by
  unfold risingS at h
  rw [Bool.and_eq_true] at h
  have ih:=b1o h.2
  have h1:leS p x:=by
   have:=h.1
   rw [ltCps_eq] at this
   unfold leS
   simpa using this
  refine List.pairwise_cons.mpr ⟨fun z hz=> ?_,ih⟩
  rcases AZ.mp hz with e|e
  ·subst e;exact h1
  ·exact b05 h1 ((List.pairwise_cons.mp ih).1 z e)
theorem a9Z:∀{l:List Str},sortedS l=true->l.Pairwise leS
 |[],_=>List.Pairwise.nil
 |x::r,h=>b1o h
def b5v(hT:T="list"\/T="tuple")(ho:s.heap.get? l=some o)(hc:o.cls= .type T)(hd:o.data= .seq vs.toArray n)(hS:StrsAre vs ss)(h64:vs.length<64)
 (h:∀(h1 h':Heap) (e:Nat) (us:List AA),(∀b o',s.heap.get? b=some o'->h1.get? b=some o')->(∀b o',h1.get? b=some o'->h'.get? b=some o')->StrsAre us (a2m ss)->h'.get? h1.objs.size=some (seqObj "list" us.toArray e)->Q (.ref h1.objs.size) {s with heap:=h'}):
 AF (model prog w) A (call (.builtin "sorted") [.ref l]) Q E s:=by
 refine Calls.call_function_entry kind_sorted plain_sorted entry_sorted (args_sorted1 _) ?_
 unfold Builtin.«sorted»
 refine AD (m:=checkCount "sorted" 1 1 _) (AI ?_)
 refine AD (wpAny_collect_seq l hT ho hc hd (fun h1 k1=> ?_) (by rw [Aq,sizeLine_eq];lia))
 have ev:vs.toArray.toList=vs:=by simp
 rw [ev]
 refine AD (wpAny_newList ?_)
 have hoL:(h1.push (seqObj "list" vs.toArray 0)).get? h1.objs.size=some (seqObj "list" vs.toArray 0):=An _ rfl
 show AF _ _ _ _ _ {s with heap:=h1.push (seqObj "list" vs.toArray 0)}
 refine AD (wpAny_holding (wpAny_call_entry slot_list_sort ⟨_,hoL,rfl⟩ entry_list_sort (list_sort_treeK strKind_oneLt hoL hS.keysOf (fun v₁ v₂ rest e=>keyKind_strs (by rw [<-e];exact hS)) h64 fun st' a1 a2=>⟨_,rfl, ?_⟩) (args_list_sort _)))
 obtain⟨ss',g1,g2,g3⟩:=sorted_out_str hS a1 a2
 have e1:ss'=a2m ss:=a2n (a9Z g3) (Z7 ss) (g2.trans (S4 ss).symm)
 subst e1
 obtain⟨e,he⟩:=sortedHeap_at (out:=(arrOf st').map (·.2)) hoL
 refine AI ⟨_,rfl,h h1 _ e _ k1 (fun b o' hb1=> ?_) g1 (by rw [Array.toArray_toList];exact he)⟩
 have hlt:=AW hb1
 rw [sortedHeap_old (Am hlt) (by rw [size_push'];exact Nat.lt_succ_of_lt hlt),Heap.get?_push_ne _ _ _ (Am hlt)]
 exact hb1
theorem a7E:∀{us:List AA} {ss:List Str},StrsAre us ss->y9 (ss.map V.str) us
 |_,_,.nil=> .nil
 |_,_,.cons x t h=>by rw [AK];exact .cons ⟨t,rfl⟩ (a7E h)
theorem b38:∀{us:List AA} {ss:List Str},StrsAre us ss->us.length=ss.length
 |_,_,.nil=>rfl
 |_,_,.cons x t h=>by rw [AM,AM,b38 h]
theorem a2Y{K:AE}{H:Hp}:∀ss:List Str,w8 K H (ss.map PyData.str) (ss.map V.str)
 |[]=>rfl
 |x::r=>⟨_,_,rfl,rfl,a2Y r⟩
def a8Z(x:g6):Option g6:=match PyData.items? x.rd with
 |some ps=>(N1 ps).bind fun ss=>if ss.length<64 then some (.own ((a2m ss).map .str)) else none
 |none=>none
def b7O:R0 X (.builtin "sorted") (rC1 X.K a8Z):=by
 intro pins s σ H xs us Q I rv h
 obtain⟨F,x,rx,rz,rfl,s0,h1,h2,k⟩:=h
 unfold a8Z at h2
 split at h2
 ·rename_i ps e
  obtain⟨ss,e1,h2⟩:=bind_some h2
  split at h2
  ·rename_i c
   cases h2
   obtain⟨a,xs,rfl,hq,r⟩:=S9 s0 h1 e
   obtain⟨u,rfl,ru⟩:=a1i rv
   cases ru
   have fin:∀(its:List AA) (T:String) (o:Obj) (n:Nat),(T="list"\/T="tuple")->s.heap.get? a=some o->o.cls= .type T->o.data= .seq its.toArray n->y9 xs its->AF (model X.prog X.w) X.A (call (.builtin "sorted") [.ref a]) (EP X pins σ Q) X.xe s:=by
    intro its T o n hT ho hc hd rvv
    have hS:=a3N e1 r rvv
    refine b5v hT ho hc hd hS (by rw [b38 hS];exact c) fun hp1 hp2 en us k1 k2 hs he=> ?_
    have I1:Inv X pins σ H {s with heap:=hp1}:=I.kept (t':=s.toks) k1
    have hlen:(a2m ss).length=ss.length:=(S4 ss).length_eq
    have hf:H hp1.objs.size=none:=I1.hok.fresh (AR _)
    refine⟨.ref hp1.objs.size,_,I1.laid (t':=s.toks) (h':=hp2) (o:= .lst ((a2m ss).map V.str)) k2 (AR _) ⟨by rw [Ak,hlen,sizeLine_eq];lia,us,en,a7E hs,he⟩,rfl,k _ F _ (C0.lst s0 hf (a2Y _))⟩
   rcases hq with hq|hq
   ·obtain⟨its,r',pl,hz⟩:=I.list hq
    obtain⟨o,ho,hc,n,hd⟩:=pl.isList
    exact fin its "list" o n (.inl rfl) ho hc hd r'
   ·obtain⟨its,r',⟨o,ho,hc,n,hd⟩,hz⟩:=I.tuple hq
    exact fin its "tuple" o n (.inr rfl) ho hc hd r'
  ·cases h2
 ·cases h2
section
open AutoSeq1 (wpAny_loadPart')
end
end PU
namespace TS
open PySem PyProof.Rows
open PySem PySem.Spec PyProof.Rows
open PySem PySem.Spec PyProof.Rows L2 PU
end TS
namespace PU
open PySem PySem.Spec PyProof.Rows L2
open PySem PySem.Spec PyProof.Rows L2 PySem.W
def b2a(i:Nat)(m:M):MS:=fun ρ=>(m ρ).bind fun r=>match r with
 | .ow (.lst qs)=>match ρ[i]? with
   |some (some (.ow (.lst ps)))=>if ps.length+qs.length<=AL then some (.nx (ρ.set i (some (.own (ps++qs))))) else none
   |_=>none
 |_=>none
def b6H(i:Nat)(hx:PE X (.Name x p) (b2E i))(ha:EE X e m)
 (hbase:attributeBase (.Name x p) "extend" X.env (eval (.Name x p) X.env)=eval (.Name x p) X.env:=by rfl)
 (hfew:((backTo cpos (AJ [e] X.env)).all (fun x=> !x.1)&&(backToKw cpos (keywordEach [] X.env)).all (fun x=>x.1.isSome)
  && decide ([e].length+([]:List Keyword).length+(if([]:List Keyword).isEmpty then 0 else 1)<30))=true:=by rfl)
 (hline:(apos.endLine==cpos.line)=true:=by rfl) (hs:AJ [e] X.env=(false,eval e X.env)::AJ [] X.env:=by rfl) (hplain:(backTo cpos (AJ [] X.env)).any (·.1)=false:=by rfl)
 (hsw:swapsWith (.Call (.Attribute (.Name x p) "extend" apos) [e] [] cpos) none pos.line X.env=pure false:=by rfl):
 ES X (.Expr (.Call (.Attribute (.Name x p) "extend" apos) [e] [] cpos) pos) (b2a i m):=
 S1 (b6k (b1j PySem.F.plainAttrs_list PySem.F.slot_list_extend PySem.F.type_list_extend b66 hx (G1 ha W3 hs) hbase hfew hline hs hplain) hsw) fun D σ H ⟨F0,H0,F,ρ,fl,so,e,fin⟩=>by
  obtain⟨r,e1,e⟩:=bind_some e
  split at e
  ·rename_i qs
   split at e
   ·rename_i ps eo
    split at e
    ·rename_i c
     cases e
     obtain⟨v,h1,a,xs,rfl,fa,ha',rl⟩:=so.e.at_ i _ eo
     refine⟨.ref a,h1,.inl ⟨rfl,xs,SqL.of ha'⟩,F,ρ,_,so.e,e1,fun w F1 H1 o=> ?_⟩
     obtain⟨b,zs,rfl,fb,hb,rb⟩:=o.rep
     have so2:=so.ext o.x
     refine⟨a,b,xs,zs,rfl,rfl,o.x.h _ _ ha',hb,by rw [rl.length,rb.length];exact c, ?_⟩
     exact fin σ F1 _ o.x.f (so2.put eo h1 ((w8.mono o.x.f _ rl).append rb))
    ·cases e
   ·cases e
  ·cases e
end PU
namespace TS
open PySem PySem.Spec PyProof.Rows L2 PU
end TS
namespace PU
open PySem PySem.Spec PyProof.Rows L2 PySem.W
open PySem PySem.Spec PyProof.Rows L2
open Builtin Builtin.Str
def b4A(hy:(y.length==0)=false)
 (hq:∀l k,l.map (·.1)=Txt.split x y->Q (.ref s.heap.objs.size) {s with heap:=s.heap.push {cls:= .type "list",data:= .seq (strValues l).toArray},toks:=k})
 (hsz:x.length<=AL) (hsz2:(Txt.split x y).length<=AL):
 AF (model prog w) A (call (.builtin "str.split") [.str x t,.str y u]) Q E s:=by
 cases h1:(decide (x.length<y.length)||decide (strKind x<strKind y))
 ·cases hf:(occurrences x y 0 x.length (x.length+1)).isEmpty
  ·have e:Txt.split x y=partsBetween x (occurrences x y 0 x.length (x.length+1)) y.length:=(if_neg (ne_true_of_eq_false h1)).trans (if_neg (ne_true_of_eq_false hf))
   refine call_meets F.slot_str_split (typeIs_str _ _ _) F.entry_str_split (F.args_str_split_2 _ _) (meets_str_split_sep x y t u h1 hy hf hsz (by rw [<-e];exact hsz2)) ?_
   show wants Q E _ {s with toks:=_,heap:=s.heap.push {cls:= .type "list",data:= .seq (strsFrom s.toks (partsBetween x (occurrences x y 0 x.length (x.length+1)) y.length)).toArray}}
   rw [strsFrom_eq]
   exact hq (numbered s.toks _) _ ((numbered_texts _ _).trans e.symm)
  ·exact call_meets F.slot_str_split (typeIs_str _ _ _) F.entry_str_split (F.args_str_split_2 _ _) (meets_str_split_not_found x y t u h1 hy hf)
    (hq [(x,t)] s.toks ((if_neg (ne_true_of_eq_false h1)).trans (if_pos hf)).symm)
 ·exact call_meets F.slot_str_split (typeIs_str _ _ _) F.entry_str_split (F.args_str_split_2 _ _) (meets_str_split_cannot_occur x y t u h1)
   (hq [(x,t)] s.toks (if_pos h1).symm)
def a7l(x y:g6):Option g6:=match x,y with
 | .val (.str z),.val (.str y)=>if(y.length==0)=false/\z.length<=AL/\(Txt.split z y).length<=AL then some (.own ((Txt.split z y).map .str)) else none
 |_,_=>none
theorem b1x:∀(l:List (Str×Tok)),y9 ((l.map (·.1)).map V.str) (strValues l)
 |[]=> .nil
 |p::l=> .cons ⟨p.2,rfl⟩ (b1x l)
def b8D:MtR X "str.split" (fun x xs H Q=>∃F y rx ry rz,xs=[y]/\y4 F H/\U1 X.K F H x rx/\U1 X.K F H y ry/\a7l rx ry=some rz/\∀v F' H',C0 X.K F H F' H' v rz->Q v H'):=by
 intro pins s σ H x xs v us Q I rx rv h
 obtain⟨F,y,ra,rb,rz,rfl,s0,h1,h2,h3,k⟩:=h
 obtain⟨u,rfl,ru⟩:=a1i rv
 unfold a7l at h3
 split at h3
 ·rename_i z y
  split at h3
  ·rename_i c
   cases h3
   cases h1
   cases h2
   obtain⟨t,rfl⟩:=rx
   obtain⟨t2,rfl⟩:=ru
   refine b4A c.1 (fun l k' hl=> ?_) c.2.1 c.2.2
   have hf:=I.hok.fresh (AR s.heap.objs.size)
   refine⟨.ref s.heap.objs.size,_,I.laid (t':=k') (o:= .lst ((Txt.split z y).map V.str)) (fun b ob q=>AT _ q) (AR _) ⟨by rw [Ak];exact c.2.2,strValues l,0, ?_,An _ rfl⟩,rfl,k _ F _ (C0.lst s0 hf (a2Y _))⟩
   rw [<-hl]
   exact b1x l
  ·cases h3
 ·cases h3
def b7V(ho:EE X o m)(ha:EE X e n)
 (hbase:attributeBase o "split" X.env (eval o X.env)=eval o X.env:=by rfl)
 (hfew:((backTo cpos (AJ [e] X.env)).all (fun x=> !x.1)&&(backToKw cpos (keywordEach [] X.env)).all (fun x=>x.1.isSome)
  && decide ([e].length+([]:List Keyword).length+(if([]:List Keyword).isEmpty then 0 else 1)<30))=true:=by rfl)
 (hline:(apos.endLine==cpos.line)=true:=by rfl) (hs:AJ [e] X.env=(false,eval e X.env)::AJ [] X.env:=by rfl) (hplain:(backTo cpos (AJ [] X.env)).any (·.1)=false:=by rfl):
 EE X (.Call (.Attribute o "split" apos) [e] [] cpos) (m2 a7l m n):=
 D3 (b1j PySem.F.plainAttrs_str PySem.F.slot_str_split PySem.F.type_str_split b8D ho (G1 ha W3 hs) hbase hfew hline hs hplain) fun σ H Q ⟨F,ρ,r,he,hm,k⟩=>by
  obtain⟨rx,e1,hm⟩:=bind_some hm
  obtain⟨ry,e2,hm⟩:=bind_some hm
  refine⟨F,ρ,rx,he,e1,fun v F1 H1 o1=>⟨?_,⟨F1,ρ,ry,he.ext o1.x,e2,fun u F2 H2 o2=>⟨F2,u,rx,ry,r,rfl,o2.x.fh,o1.rep.ext o2.x,o2.rep,hm,fun z F3 H3 o3=>k z F3 H3 (C0.trans (o1.x.trans o2.x) o3)⟩⟩⟩⟩
  unfold a7l at hm
  split at hm
  ·cases o1.rep;rfl
  ·cases hm
def b0i(x:g6):Option g6:=match x with
 | .val (.int i)=>if i.natAbs.log2<1920 then some (.val (.str (AC (toString i)))) else none
 |_=>none
def b4D:R0 X (.type "str") (rC1 X.K b0i):=by
 intro pins s σ H xs us Q I rv h
 obtain⟨F,x,rx,rz,rfl,s0,h1,h2,k⟩:=h
 obtain⟨u,rfl,ru⟩:=a1i rv
 unfold b0i at h2
 split at h2
 ·rename_i i
  split at h2
  ·rename_i c
   cases h2
   cases h1
   obtain⟨t,rfl⟩:=ru
   exact PySem.P.str_of_int c ⟨.str _,H,I.tok _,⟨_,rfl⟩,k _ F H (C0.here s0 rfl)⟩
  ·cases h2
 ·cases h2
def b3b(x:g6):Option g6:=match x with
 | .val (.str z)=>if z.length<=640 then(PySem.intText? z).map fun n=> .val (.int n) else none
 |_=>none
def b5J:R0 X (.type "int") (rC1 X.K b3b):=by
 intro pins s σ H xs us Q I rv h
 obtain⟨F,x,rx,rz,rfl,s0,h1,h2,k⟩:=h
 obtain⟨u,rfl,ru⟩:=a1i rv
 unfold b3b at h2
 split at h2
 ·rename_i z
  split at h2
  ·rename_i c
   cases hn:PySem.intText? z with
   |none=>rw [hn] at h2;cases h2
   |some n=>
    rw [hn] at h2
    cases h2
    cases h1
    obtain⟨t,rfl⟩:=ru
    exact W.KIN.call_text hn c ⟨.int n,H,I.tok _,⟨_,rfl⟩,k _ F H (C0.here s0 rfl)⟩
  ·cases h2
 ·cases h2
structure Chg(fs ex:List AB)(h h':Heap):Prop where
 keep:∀b o,h.get? b=some o->b∉fs->b∉ex->h'.get? b=some o
 slot:∀b o,h.get? b=some o->b∈fs->b∉ex->∃sl,h'.get? b=some {o with slots:=sl}
 size:h.objs.size<=h'.objs.size
structure ExT(h:Heap)(e C T:AB)(fl:AA):Prop where
 obj:∃oe vs,h.get? e=some oe/\oe.cls= .ref C/\oe.data= .fields vs/\vs[1]?=some (.ref T)/\oe.dict=none
 ne:T≠e
 tb:∃oT ts,h.get? T=some oT/\oT.data= .fields ts/\ts[3]?=some fl
def Ex0(h:Heap)(e C:AB):Prop:=∃oe vs,h.get? e=some oe/\oe.cls= .ref C/\oe.data= .fields vs/\vs[1]?=some .none/\oe.dict=none
def b6F(f:Array AA->Array AA)(o:Obj):(Obj.mapFields f o).dict=o.dict:=by
 obtain⟨c,d,dt,sl⟩:=o
 cases dt<;>rfl
section
variable {M:Model}{A:Al}{E:AA->AG->Prop}{s:AG}{base:Heap}{env:Env}{outer:List Env}{L e C:AB}
def b1b(hfr:A.frames=some (env::outer))(hl:s.heap.FunFrames base (env::outer))(hf:env.frame=some L)
 (he:s.heap.get? e=some oe) (hc:oe.cls= .ref C) (hd:oe.data= .fields vs) (hdn:oe.dict=none) (hsz:1<vs.size)
 (k:∀T h',s.heap.objs.size<=T->ExT h' e C T (rawInt L)->Chg ((env::outer).filterMap (·.frame)) [e] s.heap h'->Q () {s with heap:=h'}):
 AF M A (do let a<-frameOf env;let pl<-entryPlaceOf L hadNext;let b<-EntryCells.newEntry head a .none (rawInt L) .none pl;setField (.ref e) 1 b) Q E s:=by
 have hef:e∉(env::outer).filterMap (·.frame):=fun hm=>by
  obtain⟨_,o,ho,hnf⟩:=hl.mem hm
  rw [he] at ho
  cases ho
  exact hnf vs hd
 refine AD (wpAny_frameOf_fun hfr hl hf fun h₁ hs₁=> ?_)
 refine AD (wpAny_entryPlaceOf fun pl hpl=> ?_)
 unfold EntryCells.newEntry newFields
 refine AD (wpAny_newObj_type ?_ (hpl.sizeOk5 _ _ _ _ _))
 generalize hT:({cls:= .type "traceback",dict:=none,data:= .fields ([head,.ref L,.none,rawInt L,.none]++(if pl.isEmpty then AV 6 Value.none else pl)).toArray}:Obj)=oT
 have he₁:h₁.get? e=some oe:=(hs₁.2.1 e hef).trans he
 have he₂:=AT (h:=h₁) oT he₁
 have hTe:h₁.objs.size≠e:=Nat.ne_of_gt (AW he₁)
 have hd₃:=Obj.data_mapFields hd (·.setIfInBounds 1 (Value.ref h₁.objs.size))
 have he₃:=Heap.get?_update_self (Obj.mapFields (·.setIfInBounds 1 (Value.ref h₁.objs.size))) he₂ (Obj.isFreed_of_fields hd₃)
 have oth:∀b o,b≠e->h₁.get? b=some o->((h₁.push oT).update e (Obj.mapFields (·.setIfInBounds 1 (Value.ref h₁.objs.size)))).get? b=some o:=fun b o hb hbo=>by
  rw [Heap.get?_update_other _ _ (Ne.symm hb)]
  exact AT _ hbo
 have hT3:((h₁.push oT).update e (Obj.mapFields (·.setIfInBounds 1 (Value.ref h₁.objs.size)))).get? h₁.objs.size=some oT:=by
  rw [Heap.get?_update_other _ _ (Ne.symm hTe)]
  exact An h₁ (by rw [<-hT];rfl)
 refine wpAny_setField he₂ hd hsz (k h₁.objs.size _ (Nat.le_of_eq hs₁.1.symm) ⟨⟨_,_,he₃,(Obj.cls_mapFields _ _).trans hc,hd₃,by simp [hsz],(b6F _ _).trans hdn⟩,hTe,oT,_,hT3,by rw [<-hT], ?_⟩ ⟨fun b o hb hbf hbe=> ?_,fun b o hb hbf hbe=> ?_, ?_⟩)
 ·rcases hpl with rfl|⟨_,_,_,_,_,_,_,rfl⟩<;>simp
 ·exact oth b o (fun z=>hbe (by rw [z];exact List.mem_singleton.mpr rfl)) ((hs₁.2.1 b hbf).trans hb)
 ·obtain⟨sl,hs⟩:=hs₁.2.2 b o hb
  exact⟨sl,oth b _ (fun z=>hbe (by rw [z];exact List.mem_singleton.mpr rfl)) hs⟩
 ·rw [Heap.size_update,Heap.size_push,hs₁.1];lia
def b5c(hfr:A.frames=some (env::outer))(hl:s.heap.FunFrames base (env::outer))(hf:env.frame=some L)(x:Ex0 s.heap e C)
 (k:∀T h',s.heap.objs.size<=T->ExT h' e C T (rawInt L)->Chg ((env::outer).filterMap (·.frame)) [e] s.heap h'->Q () {s with heap:=h'}):AF M A (noteFrame (.ref e) env) Q E s:=by
 obtain⟨oe,vs,he,hc,hd,h1,hdn⟩:=x
 unfold noteFrame
 simp only [hf]
 refine AD (wpAny_field he hd h1 ?_)
 rw [if_neg (by decide)]
 exact b1b hfr hl hf he hc hd hdn (Array.getElem?_eq_some_iff.mp h1).1 k
def b10(x:ExT s.heap e C T fl)(fr:Option AB)(k:∀h',ExT h' e C T (fr.elim .none fun f=>rawInt f)->Chg [] [T] s.heap h'->h'.objs.size=s.heap.objs.size->Q () {s with heap:=h'}):AF M A (setFlight (.ref e) fr) Q E s:=by
 obtain⟨⟨oe,vs,he,hc,hd,h1,hdn⟩,hne,oT,ts,hT,hdT,h3⟩:=x
 have hsz:=(Array.getElem?_eq_some_iff.mp h3).1
 unfold setFlight
 refine AD (wpAny_field he hd h1 ?_)
 rw [if_pos (show(Value.ref T !=Value.none)=true from by simp)]
 refine wpAny_setField hT hdT hsz (k _ ⟨⟨oe,vs, ?_,hc,hd,h1,hdn⟩,hne,_,_,Heap.get?_update_self _ hT (Obj.isFreed_of_fields (Obj.data_mapFields hdT _)),Obj.data_mapFields hdT _,by simp [hsz]⟩ ⟨fun b o hb _ hbe=> ?_,(fun b o _ hb=>nomatch hb), ?_⟩ ?_)
 ·rw [Heap.get?_update_other _ _ hne];exact he
 ·rw [Heap.get?_update_other _ _ (fun z=>hbe (by rw [<-z];exact List.mem_singleton.mpr rfl))];exact hb
 ·rw [Heap.size_update];exact AR _
 ·rw [Heap.size_update]
def Chg.trans(x:Chg fs ex h h1)(y:Chg fs ex' h1 h2):Chg fs (ex++ex') h h2 where
 keep:=fun b o e hf hx=>y.keep b o (x.keep b o e hf fun z=>hx (BG _ z)) hf fun z=>hx (Ax _ z)
 slot:=fun b o e hf hx=>by
  obtain⟨sl,e1⟩:=x.slot b o e hf fun z=>hx (BG _ z)
  obtain⟨sl2,e2⟩:=y.slot b {o with slots:=sl} e1 hf fun z=>hx (Ax _ z)
  exact⟨sl2,e2⟩
 size:=Nat.le_trans x.size y.size
def Chg.more(x:Chg fs ex h h')(hf:∀b∈fs,b∈fs')(he:∀b∈ex,b∈ex'):Chg fs' ex' h h' where
 keep:=fun b o e h1 h2=>x.keep b o e (fun z=>h1 (hf b z)) fun z=>h2 (he b z)
 slot:=fun b o e h1 h2=>by
  by_cases hb:b∈fs
  ·exact x.slot b o e hb fun z=>h2 (he b z)
  ·exact⟨o.slots,x.keep b o e hb fun z=>h2 (he b z)⟩
 size:=x.size
def Chg.funs(x:Chg fs ex h h')(hl:h.FunFrames base l)(hx:∀b∈ex,∀o,h.get? b=some o->∃vs,o.data= .fields vs):h'.FunFrames base l:=
 hl.of_keeps fun b o hb hnf=>by
  have hbx:b∉ex:=fun z=>by
   obtain⟨vs,hd⟩:=hx b z o hb
   exact hnf vs hd
  by_cases hbf:b∈fs
  ·obtain⟨sl,e⟩:=x.slot b o hb hbf hbx
   exact⟨_,e,rfl⟩
  ·exact⟨o,x.keep b o hb hbf hbx,rfl⟩
def b1g(hfr:A.frames=some (env::outer))(hl:s.heap.FunFrames base (env::outer))(hf:env.frame=some L)(x:ExT s.heap e C T fl)(hne:fl≠rawInt L)
 (k:∀T' h',s.heap.objs.size<=T'->ExT h' e C T' (rawInt L)->Chg ((env::outer).filterMap (·.frame)) [T,e] s.heap h'->Q () {s with heap:=h'}):AF M A (noteFrame (.ref e) env) Q E s:=by
 obtain⟨⟨oe,vs,he,hc,hd,h1,hdn⟩,hTe,oT,ts,hT,hdT,h3⟩:=x
 have hsz:=(Array.getElem?_eq_some_iff.mp h3).1
 unfold noteFrame
 simp only [hf]
 refine AD (wpAny_field he hd h1 ?_)
 rw [if_pos (show(Value.ref T !=Value.none)=true from by simp)]
 refine AD (wpAny_field hT hdT h3 ?_)
 rw [if_neg (by simpa using hne)]
 refine AD (wpAny_setField hT hdT hsz ?_)
 have c1:Chg ((env::outer).filterMap (·.frame)) [T] s.heap (s.heap.update T (Obj.mapFields (·.setIfInBounds 3 Value.none))):=⟨fun b o hb _ hbe=>by
  rw [Heap.get?_update_other _ _ (fun z=>hbe (by rw [<-z];exact List.mem_singleton.mpr rfl))];exact hb,fun b o hb _ hbe=>⟨o.slots,by
  rw [Heap.get?_update_other _ _ (fun z=>hbe (by rw [<-z];exact List.mem_singleton.mpr rfl))];exact hb⟩,by rw [Heap.size_update];exact AR _⟩
 have hl':=c1.funs hl fun b hb o ho=>by
  rw [List.mem_singleton.mp hb,hT] at ho
  cases ho
  exact⟨ts,hdT⟩
 refine b1b (s:={s with heap:=s.heap.update T (Obj.mapFields (·.setIfInBounds 3 Value.none))}) hfr hl' hf (by rw [Heap.get?_update_other _ _ hTe];exact he) hc hd hdn (Array.getElem?_eq_some_iff.mp h1).1 fun T' h' hT' x' c'=>k T' h' ?_ x' (c1.trans c')
 have:(s.heap.update T (Obj.mapFields (·.setIfInBounds 3 Value.none))).objs.size=s.heap.objs.size:=Heap.size_update ..
 rw [<-this];exact hT'
end
def CX1(P:Ac)(w:AU):CXT:=fun outer H s E e s'=>∃a C T H',e= .ref a/\s'.os=s.os/\AllBare s'.gens/\Un (frs outer) [] H H' s.heap s'.heap/\HOk P w H' s'.heap/\
 s.heap.get? a=none/\s.heap.get? T=none/\H' a=none/\H' T=none/\ExT s'.heap a C T .none/\E (.ref a) (some C) H'
def ExT.thereT(x:ExT h e C T fl):∃o,h.get? T=some o:=let ⟨o,_,h1,_⟩:=x.tb;⟨o,h1⟩
def b13(x:HOk P w H h)(c:Chg fs ex h h')(hf:∀b∈fs,H b=none)(he:∀b∈ex,H b=none):HOk P w H h':=fun a o e=>
 (x a o e).stay (fun b u hb q=>by
  have hn:∃z,H b=some z:=by
   rcases hb with rfl|hb
   ·exact⟨_,e⟩
   ·exact⟨_,hb⟩
  obtain⟨z,hz⟩:=hn
  exact c.keep b u q (fun m=>by rw [hf b m] at hz;cases hz) fun m=>by rw [he b m] at hz;cases hz) (fun _ q=>q) fun _ _ q=>q
def b9M(u:Un fs [] H H1 h h1)(c:Chg fs' ex h1 h2)(hfs:∀b∈fs',b∈fs\/h.objs.size<=b)(hex:∀b∈ex,h.get? b=none):Un fs [] H H1 h h2 where
 keep:=fun b o e hn hf hx=>by
  have hlt:b<h.objs.size:=AW e
  refine c.keep b o (u.keep b o e hn hf hx) (fun m=> ?_) fun m=>by rw [hex b m] at e;cases e
  rcases hfs b m with h|h
  ·exact hf h
  ·exact Nat.lt_irrefl _ (At hlt h)
 slot:=fun b o e hn hf hx=>by
  have hlt:b<h.objs.size:=AW e
  obtain⟨sl,e1⟩:=u.slot b o e hn hf hx
  by_cases hb:b∈fs'
  ·obtain⟨sl2,e2⟩:=c.slot b {o with slots:=sl} e1 hb fun m=>by rw [hex b m] at e;cases e
   exact⟨sl2,e2⟩
  ·exact⟨sl,c.keep b _ e1 hb fun m=>by rw [hex b m] at e;cases e⟩
 free:=u.free
 there:=fun b o e hx=>by
  obtain⟨o1,e1⟩:=u.there b o e hx
  by_cases hb:b∈ex
  ·rw [hex b hb] at e;cases e
  ·by_cases hb2:b∈fs'
   ·obtain⟨sl,e2⟩:=c.slot b o1 e1 hb2 hb
    exact⟨_,e2⟩
   ·exact⟨_,c.keep b o1 e1 hb2 hb⟩
 tups:=u.tups
 frzs:=u.frzs
 tbls:=u.tbls
section
variable {P:Ac}{w:AU}{K:AE}{mg:Str->Option AA}{base:Heap}{N:List Str}{qual:Str}{scope:Scope}{f:AB}{cd:AA}{A:Al}{outer:List Env}{s:AG}{H:Hp}{E:XK}
def a7T(I:Inv (a30 (CX1 P w) P w K mg base N qual scope f cd A outer s H E) pins σ H2 s2)(x:Ex0 s2.heap a C)(ha:s.heap.get? a=none)(hn:H2 a=none)(hE:E (.ref a) (some C) H2):
 (a30 (CX1 P w) P w K mg base N qual scope f cd A outer s H E).xe (.ref a) s2:=by
 show AF (model P w) _ (leaving (envOfC qual scope s.heap.objs.size f cd) (.ref a)) _ _ s2
 unfold leaving
 have hfree:∀b∈(envOfC qual scope s.heap.objs.size f cd::outer).filterMap (·.frame),H2 b=none:=I.stkFree
 refine AD (b5c I.ok.frames I.stack rfl x fun T h1 hT x1 c1=> ?_)
 refine b10 x1 none fun h2 x2 c2 _=> ?_
 have hTn:H2 T=none:=I.hok.fresh hT
 have c:Chg ((envOfC qual scope s.heap.objs.size f cd::outer).filterMap (·.frame)) ([a]++[T]) s2.heap h2:=c1.trans (c2.more (fun b hb=>nomatch hb) fun b hb=>hb)
 have hsz:s.heap.objs.size<=s2.heap.objs.size:=I.sz
 have hex:∀b∈[a]++[T],s.heap.get? b=none:=fun b hb=>by
  rcases Av.mp hb with h|h<;>rw [List.mem_singleton.mp h]
  ·exact ha
  ·exact Heap.get?_none_of_le (Nat.le_trans hsz hT)
 refine⟨a,C,T,H2,rfl,I.os,I.bare,b9M I.base c (fun b hb=> ?_) hex,b13 I.hok c hfree fun b hb=> ?_,ha,Heap.get?_none_of_le (Nat.le_trans hsz hT),hn,hTn,x2,hE⟩
 ·rcases AZ.mp (I.stkSub b hb) with h|h
  ·exact .inr (by rw [h];exact I.ok.above)
  ·exact .inl h
 ·rcases Av.mp hb with h|h<;>rw [List.mem_singleton.mp h]
  ·exact hn
  ·exact hTn
def b4V:a5W (CX1 P w) (a30 (CX1 P w) P w K mg base N qual scope f cd A outer s H E) E:=by
 intro pins σ H1 s1 e s' I h
 obtain⟨a,C,T,H2,rfl,ho,hb,un,hok,ha,hT,hn,hTn,x,hE⟩:=h
 have J:Inv (a30 (CX1 P w) P w K mg base N qual scope f cd A outer s H E) pins σ H2 s':=I.call' (ch:=[]) ho un hok hb fun b z=>nomatch z
 show AF (model P w) _ (leaving (envOfC qual scope s.heap.objs.size f cd) (.ref a)) _ _ s'
 unfold leaving
 have hfree:∀b∈(envOfC qual scope s.heap.objs.size f cd::outer).filterMap (·.frame),H2 b=none:=J.stkFree
 refine AD (b1g J.ok.frames J.stack rfl x (by simp [rawInt]) fun T' h1 hT' x1 c1=> ?_)
 refine b10 x1 none fun h2 x2 c2 _=> ?_
 have hTn':H2 T'=none:=J.hok.fresh hT'
 have c:Chg ((envOfC qual scope s.heap.objs.size f cd::outer).filterMap (·.frame)) ([T,a]++[T']) s'.heap h2:=c1.trans (c2.more (fun b hb=>nomatch hb) fun b hb=>hb)
 have hsz:s.heap.objs.size<=s'.heap.objs.size:=J.sz
 have back:∀b,s1.heap.get? b=none->s.heap.get? b=none:=fun b hb=>by
  cases h:s.heap.get? b with
  |none=>rfl
  |some o=>
   obtain⟨o',e⟩:=I.base.there b o h (fun z=>nomatch z)
   rw [hb] at e;cases e
 have mem:∀b∈[T,a]++[T'],b=T\/b=a\/b=T':=fun b hb=>by simpa using hb
 obtain⟨oT,hoT⟩:=x.thereT
 refine⟨a,C,T',H2,rfl,J.os,J.bare,b9M J.base c (fun b hb=> ?_) (fun b hb=> ?_),b13 J.hok c hfree fun b hb=> ?_,back a ha,Heap.get?_none_of_le (Nat.le_trans hsz hT'),hn,hTn',x2,hE⟩
 ·rcases AZ.mp (J.stkSub b hb) with h|h
  ·exact .inr (by rw [h];exact J.ok.above)
  ·exact .inl h
 ·rcases mem b hb with rfl|rfl|rfl
  ·exact back _ hT
  ·exact back _ ha
  ·exact Heap.get?_none_of_le (Nat.le_trans hsz hT')
 ·rcases mem b hb with rfl|rfl|rfl
  ·exact hTn
  ·exact hn
  ·exact hTn'
end
theorem b4o:∀{o:HO},K3 P w H h a o->∃ob,h.get? a=some ob
 | .lst _,⟨_,_,_,_,e⟩=>⟨_,e⟩
 | .tup _,⟨_,_,_,o,e,_⟩=>⟨_,e⟩
 | .dK _,⟨_,_,_,_,o,_,_,e,_⟩=>⟨_,e⟩
 | .dT _,⟨_,_,_,_,o,_,_,e,_⟩=>⟨_,e⟩
 | .set _ _,⟨o,_,_,_,e,_⟩=>⟨_,e⟩
 | .ins _ _ _,⟨_,_,_,e,_⟩=>⟨_,e⟩
 | .own _,⟨_,e⟩=>⟨_,e⟩
 | .xd _,⟨_,⟨_,_,_,e,_⟩,_⟩=>⟨_,e⟩
 | .rng _ _,⟨_,_,_,e⟩=>⟨_,e⟩
 | .frz _ _,⟨e,_⟩=>⟨_,e⟩
 | .tbl _,e=>⟨_,e⟩
 | .met _ _,e=>⟨_,e⟩
 | .ext _,⟨_,e,_⟩=>e
def b2c:List AA:=[.type "ValueError",.type "Exception",.type "BaseException",.type "object"]
def b4u(C:AB)(h:Heap):Prop:=∃tl N nm q bs hdct sn sub ab col dd k0 k1 k2 k3 k5 mN,
 h.get? C=some (excClassObj nm q C N bs tl hdct sn sub ab col dd k0 k1 k2 k3 k5 "ValueError.__new__")/\h.Ns N mN/\mN "__init__"=none/\OwnTail h b2c tl
section
variable {X:Cx}{x:Str}{C:AB}{np cpos pos:Pos}{e₀:AS}{rest:List AS}{t:TA}{W:AB->Hp->Prop}
def b9d(hc:X.calm=true)(hx0:X.ex=[])(hg:Gl X x)(hm:X.mg x=some (.ref C))(hX:b4u C X.base)(ha:PA X (e₀::rest) t)
 (hxe:∀(pins:List (AB×Obj)) (σ:L2.St) (H:Hp) (s:AG) (a:AB),Inv X pins σ H s->Ex0 s.heap a C->X.s₀.heap.get? a=none->H a=none->W a H->X.xe (.ref a) s)
 (he:AJ (e₀::rest) X.env=(false,eval e₀ X.env)::AJ rest X.env:=by rfl) (hplain:(backTo cpos (AJ rest X.env)).any (·.1)=false:=by rfl) (hdb:(x==("__debug__":Str))=false:=by decide):
 PS X (.Raise (some (.Call (.Name x np) (e₀::rest) [] cpos)) none pos) (fun _ σ H=>t σ H fun vs H1=>vs.length<=AL/\∀a,H1 a=none->W a H1):=by
 intro pins s σ H D I h
 obtain⟨tl,N,nm,q,bs,hdct,sn,sub,ab,col,dd,k0,k1,k2,k3,k5,mN,hC,hN,hni,T⟩:=hX
 have FB:=F.excBase_ValueError
 refine wpAny_Raise_call_subT (C:=C) (nm:=nm) (q:=q) (N:=N) (bs:=bs) (bm:=tl) (hdct:=hdct) (sn:=sn) (sub:=sub) (ab:=ab) (col:=col) (dd:=dd) (k0:=k0) (k1:=k1) (k2:=k2) (k3:=k3) (k5:=k5)
  FB (mN:=mN) (T.hasType FB.hasBase) (I.ok.hd hc) (by rw [he];show(false||(backTo cpos (AJ rest X.env)).any (·.1))=false;rw [hplain];rfl) hni (a3s I hg hm ⟨rfl, ?_⟩ hdb)
 have hA:=ha cpos pins s σ H _ I h
 rw [he] at hA ⊢
 refine Calls.evalArgs_plain (Q3 hA fun us s2 ⟨vs,H2,I2,r2,hl,q2⟩=>⟨rfl,by rw [<-r2.length];exact hl,I2.bk _ _ hC,hN.keeps I2.bk,T.keeps I2.bk,fun h' a hmk=> ?_⟩)
 obtain⟨tt,h1,_,_⟩:=hmk.there
 have hn:H2 a=none:=by
  cases h:H2 a with
  |none=>rfl
  |some o=>
   obtain⟨ob,e⟩:=b4o (I2.hok a o h)
   rw [hmk.new] at e;cases e
 have h0:X.s₀.heap.get? a=none:=by
  cases h:X.s₀.heap.get? a with
  |none=>rfl
  |some o=>
   obtain⟨o',e⟩:=I2.base.there a o h (fun z=>by rw [hx0] at z;cases z)
   rw [hmk.new] at e;cases e
 have I3:Inv X pins σ H2 {s2 with heap:=h'}:=I2.kept (t':=s2.toks) hmk.keeps
 exact hxe pins σ H2 {s2 with heap:=h'} a I3 ⟨_,_,h1,rfl,rfl,rfl,rfl⟩ h0 hn (q2 a hn)
end
def c1B(u:Un fs ex0 H H1 h h1)(c:Chg fs' ex h1 h2)(hfs:∀b∈fs',b∈fs\/h.objs.size<=b)(hex:∀b∈ex,h.get? b=none):Un fs ex0 H H1 h h2 where
 keep:=fun b o e hn hf hx=>by
  have hlt:b<h.objs.size:=AW e
  refine c.keep b o (u.keep b o e hn hf hx) (fun m=> ?_) fun m=>by rw [hex b m] at e;cases e
  rcases hfs b m with h|h
  ·exact hf h
  ·exact Nat.lt_irrefl _ (At hlt h)
 slot:=fun b o e hn hf hx=>by
  obtain⟨sl,e1⟩:=u.slot b o e hn hf hx
  by_cases hb:b∈fs'
  ·obtain⟨sl2,e2⟩:=c.slot b {o with slots:=sl} e1 hb fun m=>by rw [hex b m] at e;cases e
   exact⟨sl2,e2⟩
  ·exact⟨sl,c.keep b _ e1 hb fun m=>by rw [hex b m] at e;cases e⟩
 free:=u.free
 there:=fun b o e hx=>by
  obtain⟨o1,e1⟩:=u.there b o e hx
  by_cases hb:b∈ex
  ·rw [hex b hb] at e;cases e
  ·by_cases hb2:b∈fs'
   ·obtain⟨sl,e2⟩:=c.slot b o1 e1 hb2 hb
    exact⟨_,e2⟩
   ·exact⟨_,c.keep b o1 e1 hb2 hb⟩
 tups:=u.tups
 frzs:=u.frzs
 tbls:=u.tbls
def Chg.any(c:Chg fs ex h h')(e:h.get? b=some o)(hb:b∉ex):∃sl,h'.get? b=some {o with slots:=sl}:=by
 by_cases hf:b∈fs
 ·exact c.slot b o e hf hb
 ·exact⟨o.slots,c.keep b o e hf hb⟩
def Inv.chg(I:Inv X pins σ H s)(c:Chg (frs X.stack) ex s.heap h')(h0:∀b∈ex,X.s₀.heap.get? b=none)(hn:∀b∈ex,H b=none)
 (hL:∀b∈ex,b≠X.env.locals) (hc:∀b∈ex,∀x z,X.env.cells.lookup x=some z->z≠b) (hp:∀b∈ex,∀p∈X.pn++pins,p.1≠b):Inv X pins σ H {s with heap:=h'} where
 ok:=I.ok
 os:=I.os
 bare:=I.bare
 base:=c1B I.base c (fun b hb=>by
  rcases AZ.mp (I.stkSub b hb) with h|h
  ·exact .inr (by rw [h];exact I.ok.above)
  ·exact .inl h) h0
 loc:=by
  obtain⟨m,⟨o,es,ep,ho,hd,r⟩,hm⟩:=I.loc
  obtain⟨sl,e⟩:=c.any ho fun z=>hL _ z rfl
  refine⟨m,⟨_,es,ep,e,hd,r⟩,fun i x v h1 h2 h3=> ?_⟩
  obtain⟨u,ru,hk⟩:=hm i x v h1 h2 h3
  refine⟨u,ru, ?_⟩
  rcases hk with hk|⟨hk,z,hz,oz,hoz,hdz⟩
  ·exact .inl hk
  ·obtain⟨sl2,e2⟩:=c.any hoz fun m=>hc _ m x z hz rfl
   exact .inr ⟨hk,z,hz,_,e2,hdz⟩
 cell:=fun x z hz=>by
  obtain⟨v,oz,hoz,hdz⟩:=I.cell x z hz
  obtain⟨sl2,e2⟩:=c.any hoz fun m=>hc _ m x z hz rfl
  exact⟨v,_,e2,hdz⟩
 free:=I.free
 freeC:=I.freeC
 pin:=fun p hpm=>by
  obtain⟨h1,h2,h3,h4,h5⟩:=I.pin p hpm
  refine⟨c.keep _ _ h1 (fun m=> ?_) fun m=>hp _ m p hpm rfl,h2,h3,h4,h5⟩
  rcases AZ.mp (I.stkSub _ m) with h|h
  ·exact h3 h
  ·exact h4 h
 hok:=b13 I.hok c (fun b hb=>I.stkFree b hb) hn
 len:=I.len
inductive FX where
 |fl (f:Fl)|rz (c:Str) (ρ:e9)
abbrev MX:=e9->Option FX
def b9T(K:AE)(mg:Str->Option AA)(E:L2.St->XK)(F0 H0 F:Hp)(σ0:L2.St)(D:a3Z):FX->Prop
 | .fl f=>Fin K F0 H0 F D f
 | .rz c ρ=>∃C,mg c=some (.ref C)/\∀σ a F' H',y4 F F'->SOk K F0 H0 F' H' σ ρ->H' a=none->E σ (.ref a) (some C) H'
theorem b9T.later{K:AE}{mg:Str->Option AA}{E:L2.St->XK}{F0 H0 F F1:Hp}{σ0 σ1:L2.St}{D:a3Z}(s:y4 F F1):∀{fx:FX},b9T K mg E F0 H0 F σ0 D fx->b9T K mg E F0 H0 F1 σ1 D fx
 | .fl _,h=>Fin.later s h
 | .rz _ _,⟨C,h1,h2⟩=>⟨C,h1,fun σ a F' H' s' so hn=>h2 σ a F' H' (s.trans s') so hn⟩
def tMX(K:AE)(mg:Str->Option AA)(E:L2.St->XK)(m:MX):TS:=fun D σ H=>∃F0 H0 F ρ fx,SOk K F0 H0 F H σ ρ/\m ρ=some fx/\b9T K mg E F0 H0 F σ D fx
abbrev EX(X:Cx)(E:L2.St->XK)(st:Stmt)(m:MX):Prop:=PS X st (tMX X.K X.mg E m)
abbrev EXs(X:Cx)(E:L2.St->XK)(st:List Stmt)(m:MX):Prop:=PSs X st (tMX X.K X.mg E m)
def a9i(m:MS):MX:=fun ρ=>(m ρ).map .fl
def b3y(m n:MX):MX:=fun ρ=>(m ρ).bind fun fx=>match fx with
 | .fl (.nx ρ')=>n ρ'
 |f=>some f
def c0T(c:MT)(m n:MX):MX:=fun ρ=>(c ρ).bind fun b=>if b=true then m ρ else n ρ
def b8F(c:Str)(ma:MA):MX:=fun ρ=>(ma ρ).bind fun ps=>if ps.length<=AL then some (.rz c ρ) else none
section
variable {X:Cx}{E:L2.St->XK}
def c1X(h:tMX X.K X.mg E (a9i m) D σ H):tMS X.K m D σ H:=by
 obtain⟨F0,H0,F,ρ,fx,so,e,fin⟩:=h
 unfold a9i at e
 cases hm:m ρ with
 |none=>rw [hm] at e;cases e
 |some f=>rw [hm] at e;cases e;exact⟨F0,H0,F,ρ,f,so,hm,fin⟩
def c35{st:Stmt}{m:MS}(h:ES X st m):EX X E st (a9i m):=S1 h fun _ _ _ q=>c1X q
def c2r{st:List Stmt}{m:MS}(h:ESs X st m):EXs X E st (a9i m):=a8w h fun _ _ _ q=>c1X q
def b1V{st:Stmt}{m:MX}(h:EX X E st m):EXs X E [st] m:=b6l h
def a8U{st:Stmt}{rest:List Stmt}{m n:MX}(h1:EX X E st m)(h2:EXs X E rest n):EXs X E (st::rest) (b3y m n):=
 a8w (K1 h1 h2) fun D σ H ⟨F0,H0,F,ρ,fx,so,e,fin⟩=>by
  obtain⟨f1,e1,e⟩:=bind_some e
  cases f1 with
  |rz c ρ1=>cases e;exact⟨F0,H0,F,ρ,.rz c ρ1,so,e1,fin⟩
  |fl f=>
   cases f with
   |nx ρ'=>exact⟨F0,H0,F,ρ,.fl (.nx ρ'),so,e1,fun σ' F' H' s so'=>⟨F0,H0,F',ρ',fx,so',e,fin.later s⟩⟩
   |rt r=>cases e;exact⟨F0,H0,F,ρ,_,so,e1,fin⟩
   |bk r=>cases e;exact⟨F0,H0,F,ρ,_,so,e1,fin⟩
   |ct r=>cases e;exact⟨F0,H0,F,ρ,_,so,e1,fin⟩
def c1H(hc:ET X c mc)(ha:EXs X E a m)(hb:EXs X E b n):EX X E (.If c a b pos) (c0T mc m n):=
 S1 (c1R hc ha hb) fun D σ H ⟨F0,H0,F,ρ,fx,so,e,fin⟩=>by
  obtain⟨b,e1,e⟩:=bind_some e
  refine⟨F,ρ,b,so.e,e1,fun F1 H1 x=> ?_⟩
  cases b with
  |true=>exact b3n ⟨F0,H0,F1,ρ,fx,so.ext x,e,fin.later x.f⟩
  |false=>exact b3m ⟨F0,H0,F1,ρ,fx,so.ext x,e,fin.later x.f⟩
end
def spX(K:AE)(mg:Str->Option AA)(n:Nat)(g:List PV->Option (g6 ⊕ Str)):Sp:=fun vs H Q E=>∃F ps r,y4 F H/\w8 K F ps vs/\ps.length=n/\g ps=some r/\(match r with
 | .inl r=>∀v F' H',C0 K F H F' H' v r->Q v H'
 | .inr c=>∃C,mg c=some (.ref C)/\∀a F' H',Ext F H F' H'->H' a=none->E (.ref a) (some C) H')
def a27(CX:CXT)(X:Cx)(E:L2.St->XK):Prop:=∀(pins:List (AB×Obj)) (σ:L2.St) (H:Hp) (s:AG) (e:AA) (s':AG),Inv X pins σ H s->CX X.stack H s (E σ) e s'->X.xe e s'
section
variable {X:Cx}{E:L2.St->XK}{CX:CXT}
def b81(F:U0 X.prog X.w X.K X.mg X.base CX k f fd ps sp)(hr:O9 k X.A)(hg:Gl X x)(hm:X.mg x=some (.ref f))(hk:W.keepIn X.K (.ref f)=true)(hb:a0K X.K fd ps [])(hx:a27 CX X E)
 (ha:PA X (e::es) t) (hdb:(x==("__debug__":Str))=false:=by decide) (he:AJ (e::es) X.env=(false,eval e X.env)::AJ es X.env:=by rfl) (hpl:(backTo pos (AJ es X.env)).any (·.1)=false:=by rfl):
 PE X (.Call (.Name x p) (e::es) [] pos) (fun σ H Q=>t σ H fun vs H1=>sp vs H1 Q (E σ)):=by
 intro pins s σ H Q I h
 refine wpAny_Call_Name_kw (a3s I hg hm ?_ hdb)
 refine W.callWith_K (h₀:=X.base) I.ok.mod.kin hk (Q3 (ha pos pins s σ H _ I h) fun us s1 ⟨vs,H1,I1,r,q⟩=>⟨I1.kIn, ?_⟩) he hpl
 have hl:(us++[]).length=ps.length:=by rw [Aj,<-r.length];exact F.len _ _ _ _ q
 have hb':=hb s1 us I1.kIn hl
 rw [Aj] at hb'
 refine wpAny_call (codeAny_mono (F.run X.A X.stack s1 H1 ⟨us,[]⟩ us vs Q (E σ) hr I1.env0 hb' r q) fun r s' hq=> ?_)
 cases r with
 |error e=>exact hx pins σ H1 s1 e s' I1 hq
 |ok fl=>
  cases fl with
  |ret u=>exact I1.after hq
  |next=>exact False.elim hq
  |brk=>exact False.elim hq
  |cont=>exact False.elim hq
def b5H(g:List PV->Option (g6 ⊕ Str))(m:MA):e9->Option (g6 ⊕ Str):=fun ρ=>(m ρ).bind g
def a6S(i:Nat)(g:List PV->Option (g6 ⊕ Str))(m:MA):MX:=fun ρ=>(b5H g m ρ).bind fun r=>match r with
 | .inl r=>if r.nb=true then some (.fl (.nx (ρ.set i (some r)))) else none
 | .inr c=>some (.rz c ρ)
def b9Y(so:SOk X.K F0 H0 F H σ ρ)(hn:∀ρ ps,m ρ=some ps->ps.length=n)(e:b5H g m ρ=some r)
 (k:match r with
  | .inl r=>∀v F' H',C0 X.K F H F' H' v r->Q v H'
  | .inr c=>∃C,X.mg c=some (.ref C)/\∀a F' H',Ext F H F' H'->H' a=none->E σ (.ref a) (some C) H'):
 tMA X.K m σ H fun vs H1=>spX X.K X.mg n g vs H1 Q (E σ):=by
 obtain⟨qs,e1,e2⟩:=bind_some e
 refine⟨F,ρ,qs,so.e,e1,fun vs F1 H1 x rl=>⟨F1,qs,r,x.fh,rl,hn _ _ e1,e2, ?_⟩⟩
 cases r with
 |inl r=>exact fun v F2 H2 o=>k v F2 H2 (C0.trans x o)
 |inr c=>
  obtain⟨C,h1,h2⟩:=k
  exact⟨C,h1,fun a F2 H2 y hn=>h2 a F2 H2 (x.trans y) hn⟩
def c2p(hN:X.N.Nodup)
 (G:U0 X.prog X.w X.K X.mg X.base CX k f fd ps (spX X.K X.mg n g)) (hr:O9 k X.A) (hg:Gl X x) (hm:X.mg x=some (.ref f)) (hk:W.keepIn X.K (.ref f)=true) (hb:a0K X.K fd ps []) (hx:a27 CX X E) (hn:∀ρ ps,m ρ=some ps->ps.length=n) (ha:EA X (e::es) m)
 (hi:X.N[i]?=some y:=by rfl) (hy:Loc X.env.scope y:=by exact Or.inl rfl) (hs:swapsWith (.Call (.Name x p) (e::es) [] pos) (some (.Name y pos')) pos2.line X.env=pure false:=by rfl) (hf:X.fn y=true\/X.env.scope.names.lookup y=some .local:=by first|exact .inl rfl|exact .inr rfl|assumption)
 (hdb:(x==("__debug__":Str))=false:=by decide) (he:AJ (e::es) X.env=(false,eval e X.env)::AJ es X.env:=by rfl) (hpl:(backTo pos (AJ es X.env)).any (·.1)=false:=by rfl):
 EX X E (.Assign [.Name y pos'] (.Call (.Name x p) (e::es) [] pos) pos2) (a6S i g m):=
 S1 (b9f hN hi hy (b81 (E:=E) G hr hg hm hk hb hx ha hdb he hpl) hs hf) fun D σ H ⟨F0,H0,F,ρ,fx,so,e,fin⟩=>by
  obtain⟨r,e1,e⟩:=bind_some e
  refine b9Y so hn e1 ?_
  cases r with
  |inl r=>
   have e:(if r.nb=true then some (FX.fl (.nx (ρ.set i (some r)))) else none)=some fx:=e
   split at e
   ·rename_i c
    cases e
    exact fun v F' H' o=>fin _ F' H' o.x.f (so.set o c i)
   ·cases e
  |inr c=>
   cases e
   obtain⟨C,h1,h2⟩:=fin
   exact⟨C,h1,fun a F' H' y hn=>h2 σ a F' H' y.f (so.ext y) hn⟩
def b28(hc:X.calm=true)(hx0:X.ex=[])(hg:Gl X x)(hm:X.mg x=some (.ref C))(hX:b4u C X.base)(ha:EA X (e₀::rest) m)
 (hxe:∀(pins:List (AB×Obj)) (σ:L2.St) (H:Hp) (s:AG) (a:AB),Inv X pins σ H s->Ex0 s.heap a C->X.s₀.heap.get? a=none->H a=none->E1 (.ref a) (some C) H->X.xe (.ref a) s)
 (he:AJ (e₀::rest) X.env=(false,eval e₀ X.env)::AJ rest X.env:=by rfl) (hplain:(backTo cpos (AJ rest X.env)).any (·.1)=false:=by rfl) (hdb:(x==("__debug__":Str))=false:=by decide):
 EX X (fun _=>E1) (.Raise (some (.Call (.Name x np) (e₀::rest) [] cpos)) none pos) (b8F x m):=
 S1 (b9d (W:=fun a H=>E1 (.ref a) (some C) H) hc hx0 hg hm hX ha hxe he hplain hdb) fun D σ H ⟨F0,H0,F,ρ,fx,so,e,fin⟩=>by
  obtain⟨qs,e1,e⟩:=bind_some e
  split at e
  ·rename_i c
   cases e
   obtain⟨C',h1,h2⟩:=fin
   rw [hm] at h1
   cases h1
   refine⟨F,ρ,qs,so.e,e1,fun vs F1 H1 y rl=>⟨by rw [rl.length];exact c,fun a hn=>h2 σ a F1 H1 y.f (so.ext y) hn⟩⟩
  ·cases e
end
def b9q(n:Nat)(body:MX)(ps:List PV):Option (g6 ⊕ Str):=(body (ps.map (fun p=>some (g6.val p))++AV n none)).bind fun fx=>match fx with
 | .fl (.rt r)=>some (.inl r)
 | .fl (.nx _)=>some (.inl (.val .none))
 | .rz c _=>some (.inr c)
 |_=>none
def c2u{P:Ac}{w:AU}{K:AE}{mg:Str->Option AA}{base:Heap}{x qual:Str}{st:Stmt}{f:AB}{fd:FuncData}{N ps:List Str}{k:Nat}{m:MX}(F:Fun K x qual st f fd)(S:j0 N ps (d5 st))
 (hb:∀(cdv:AA) (A:Al) (outer:List Env) (s:AG) (H:Hp) (E:XK),O9 k (A.deeper (envOfC qual (d5 st) s.heap.objs.size f cdv))->EXs (a30 (CX1 P w) P w K mg base N qual (d5 st) f cdv A outer s H E) (fun _=>E) (G9 st) m):
 U0 P w K mg base (CX1 P w) (k+1) f fd ps (spX K mg ps.length (b9q (N.length - ps.length) m)):=by
 obtain⟨oc,od,kV,doc,pm,an,cdv,ct,osl,rfl,lk,hcd⟩:=F.ex
 refine c1I lk hcd S (fun vs H Q E h=> ?_) fun A outer s H vs Q E hr h=> ?_
 ·obtain⟨_,qs,_,_,r,h2,_⟩:=h
  rw [r.length,h2]
 ·obtain⟨F1,qs,r,s1,rl,hl,e,k⟩:=h
  refine⟨_,hb cdv A outer s H E hr, ?_⟩
  unfold b9q at e
  obtain⟨fx,e1,e2⟩:=bind_some e
  have hv:vs.length=ps.length:=by rw [rl.length,hl]
  refine⟨F1,H,F1,_,fx, ?_,e1, ?_⟩
  ·have:=b37 (N.length - ps.length) s1 rl
   unfold L2.a3Y
   rw [hv]
   exact this
  ·cases fx with
   |rz c ρ1=>
    cases e2
    obtain⟨C,h1,h2⟩:=k
    exact⟨C,h1,fun _ a F' H' _ so' hn=>h2 a F' H' so'.x hn⟩
   |fl f=>
    cases f with
    |rt q=>cases e2;exact fun v F' H' o=>k v F' H' o
    |nx ρ=>cases e2;exact fun σ' F' H' _ so=>k .non F' H' (C0.val so.x rfl)
    |bk ρ=>cases e2
    |ct ρ=>cases e2
def b4l(P:Ac)(w:AU)(K:AE)(mg:Str->Option AA)(base:Heap)(x:Str)(ps:List Str)(k:Nat)(g:List PV->Option (g6 ⊕ Str)):Prop:=
 ∃f fd,U0 P w K mg base (CX1 P w) k f fd ps (spX K mg ps.length g)/\mg x=some (.ref f)/\W.keepIn K (.ref f)=true/\a0K K fd ps []
abbrev _root_.L2.Cx.aim(X:Cx)(Y:AA->AG->Prop)(pn:List (AB×Obj)):Cx:={X with xe:=Y,pn:=pn}
def c15(I:Inv X pins σ H s):Inv (X.aim Y (X.pn++pins)) [] σ H s:=⟨⟨I.ok.mod,I.ok.kind,I.ok.glob,I.ok.blt,I.ok.above,I.ok.inj,I.ok.has,I.ok.cab,I.ok.hd,I.ok.frames,I.ok.stk,I.ok.exf,I.ok.bs,I.ok.bsz,I.ok.noex,I.ok.exfs,I.ok.funs,I.ok.frf⟩,I.os,I.bare,I.base,I.loc,I.cell,I.free,I.freeC,fun p hp=>I.pin p (by simpa using hp),I.hok,I.len⟩
def a5f(I:Inv (X.aim Y (X.pn++pins)) pins1 σ H s):Inv X pins σ H s:=⟨⟨I.ok.mod,I.ok.kind,I.ok.glob,I.ok.blt,I.ok.above,I.ok.inj,I.ok.has,I.ok.cab,I.ok.hd,I.ok.frames,I.ok.stk,I.ok.exf,I.ok.bs,I.ok.bsz,I.ok.noex,I.ok.exfs,I.ok.funs,I.ok.frf⟩,I.os,I.bare,I.base,I.loc,I.cell,I.free,I.freeC,fun p hp=>I.pin p (BG _ hp),I.hok,I.len⟩
def Ap(X:Cx)(pins:List (AB×Obj))(b:AB):Prop:=X.s₀.heap.get? b=none/\b≠X.env.locals/\(∀x z,X.env.cells.lookup x=some z->z≠b)/\∀p∈X.pn++pins,p.1≠b
def Hnd(X:Cx)(hs:List ExceptHandler)(th:AB->AB->TS):Prop:=
 ∀(pins:List (AB×Obj)) (s:AG) (σ:L2.St) (H:Hp) (D:a3Z) (a C T:AB),Inv X pins σ H s->ExT s.heap a C T .none->H a=none->H T=none->Ap X pins a->Ap X pins T->th a C D σ H->
  AF (model X.prog X.w) X.A (handleBy (.ref a) X.env hs) (SP X pins D) X.xe s
def apart(I:Inv X pins σ H s)(hx0:X.ex=[])(h:s.heap.get? b=none):X.s₀.heap.get? b=none/\b≠X.env.locals/\(∀x z,X.env.cells.lookup x=some z->z≠b)/\∀p∈X.pn++pins,p.1≠b:=by
 refine⟨?_,fun e=> ?_,fun x z hz e=> ?_,fun p hp e=> ?_⟩
 ·cases h0:X.s₀.heap.get? b with
  |none=>rfl
  |some o=>
   obtain⟨o',e⟩:=I.base.there b o h0 (fun z=>by rw [hx0] at z;cases z)
   rw [h] at e;cases e
 ·obtain⟨m,⟨o,_,_,ho,_⟩,_⟩:=I.loc
  rw [<-e,h] at ho;cases ho
 ·obtain⟨v,o,ho,_⟩:=I.cell x z hz
  rw [e,h] at ho;cases ho
 ·have:=(I.pin p hp).1
  rw [e,h] at this;cases this
def c3o{body:List Stmt}{h₀:ExceptHandler}{hs:List ExceptHandler}{pos:Pos}{tb:(L2.St->XK)->TS}{th:AB->AB->TS}(hx0:X.ex=[])(hst:X.stack=X.env::X.outer)(hfr:X.env.frame=some X.env.locals)
 (hb:∀(Y:AA->AG->Prop) (pn:List (AB×Obj)) (E:L2.St->XK),a27 (CX1 X.prog X.w) (X.aim Y pn) E->PSs (X.aim Y pn) body (tb E)) (hh:Hnd X (h₀::hs) th):
 PS X (.Try body (h₀::hs) [] [] pos) (fun D σ H=>tb (fun σ1 v oc H1=>∃a C,v= .ref a/\oc=some C/\th a C D σ1 H1) D σ H):=by
 intro pins s σ H D I h
 refine wpAny_Try_except ?_
 have key:=hb (fun e s₁=>AF (model X.prog X.w) X.A (noteFrame e X.env) (fun _ s₂=>AF (model X.prog X.w) X.A (setFlight e none) (fun _ s₃=>AF (model X.prog X.w) X.A (handleBy e X.env (h₀::hs)) (SP X pins D) X.xe s₃) X.xe s₂) X.xe s₁) (X.pn++pins) _ ?_ [] s σ H D (c15 I) h
 ·refine Q3 key fun fl s1 hq=> ?_
  cases fl with
  |next=>
   obtain⟨σ',H',J,q⟩:=hq
   exact wpAny_execs_nil ⟨σ',H',a5f J,q⟩
  |brk=>obtain⟨σ',H',J,q⟩:=hq;exact⟨σ',H',a5f J,q⟩
  |cont=>obtain⟨σ',H',J,q⟩:=hq;exact⟨σ',H',a5f J,q⟩
  |ret u=>obtain⟨v,σ',H',J,r,q⟩:=hq;exact⟨v,σ',H',a5f J,r,q⟩
 ·intro pins1 σ1 H1 s1 e s' I1 hx
  obtain⟨a,C,T,H2,rfl,ho,hbare,un,hok,ha,hT,hn,hTn,x,a',C',e1,e2,ht⟩:=hx
  cases e1
  cases e2
  have J1:=I1.call' (ch:=[]) ho un hok hbare fun b z=>nomatch z
  have J:Inv X pins σ1 H2 s':=a5f J1
  have J0:Inv X pins σ1 H1 s1:=a5f I1
  show AF (model X.prog X.w) X.A (noteFrame (.ref a) X.env) _ X.xe s'
  have fr:X.A.frames=some (X.env::X.outer):=by rw [<-hst];exact J.ok.frames
  have fn:s'.heap.FunFrames X.base (X.env::X.outer):=by rw [<-hst];exact J.stack
  refine b1g fr fn hfr x (by simp [rawInt]) fun T' h1 hT' x1 c1=> ?_
  refine b10 x1 none fun h2 x2 c2 _=> ?_
  have hTn':H2 T'=none:=J.hok.fresh hT'
  have c:Chg (frs X.stack) ([T,a]++[T']) s'.heap h2:=by
   rw [hst]
   exact c1.trans (c2.more (fun b hb=>nomatch hb) fun b hb=>hb)
  have mem:∀b∈[T,a]++[T'],b=T\/b=a\/b=T':=fun b hb=>by simpa using hb
  have q1:=apart J0 hx0 hT
  have q2:=apart J0 hx0 ha
  have q3:=apart J hx0 (Heap.get?_none_of_le hT')
  have K:Inv X pins σ1 H2 {s' with heap:=h2}:=Inv.chg J c (fun b hb=> ?_) (fun b hb=> ?_) (fun b hb=> ?_) (fun b hb=> ?_) (fun b hb=> ?_)
  ·exact hh pins _ σ1 H2 D a C T' K x2 hn hTn' q2 q3 ht
  all_goals rcases mem b hb with rfl|rfl|rfl
  ·exact q1.1
  ·exact q2.1
  ·exact q3.1
  ·exact hTn
  ·exact hn
  ·exact hTn'
  ·exact q1.2.1
  ·exact q2.2.1
  ·exact q3.2.1
  ·exact q1.2.2.1
  ·exact q2.2.2.1
  ·exact q3.2.2.1
  ·exact q1.2.2.2
  ·exact q2.2.2.2
  ·exact q3.2.2.2
def b6I{M:Model}{A:Al}{E:AA->AG->Prop}{h:Heap}{g:Array GenState}{d:Drawn}{t:Nat}{os:OsState}{e C B:AB}{oe:Obj}{Q:Bool->AG->Prop}(hC:b4u C h)(hB:b4u B h)
 (he:h.get? e=some oe) (hcls:oe.cls= .ref C) (hq:∀tl:List AA,OwnTail h b2c tl->(∃N nm q bs hdct sn sub ab col dd k0 k1 k2 k3 k5,h.get? C=some (excClassObj nm q C N bs tl hdct sn sub ab col dd k0 k1 k2 k3 k5 "ValueError.__new__"))->Q ((Value.ref C::tl).contains (.ref B)) ⟨h,g,d,t,os⟩):AF M A (excMatches (.ref e) (.ref B)) Q E ⟨h,g,d,t,os⟩:=by
 obtain⟨tl,N,nm,q,bs,hdct,sn,sub,ab,col,dd,k0,k1,k2,k3,k5,mN,hC,hN,hni,T⟩:=hC
 obtain⟨tl',N',nm',q',bs',hdct',sn',sub',ab',col',dd',k0',k1',k2',k3',k5',mN',hB,hN',hni',T'⟩:=hB
 have hq':=hq tl T ⟨_,_,_,_,_,_,_,_,_,_,_,_,_,_,_,hC⟩
 have hcB:(Value.ref B::tl').contains (.type "BaseException")=true:=by rw [List.contains_cons,T'.hasType (show b2c.contains (.type "BaseException")=true by decide),Bool.or_true]
 have f:=tc_notTuple
 unfold excMatches
 repeat (first|(with_reducible refine wpAny_loadPart_at he ?_;rw [hcls])|with_reducible refine wpAny_loadPart_at hB ?_|(with_reducible refine wpAny_isSubtype_exc hB ?_;rw [hcB])|with_reducible refine wpAny_isSubtype_exc hC ?_|wp_step)
 cases hb:(Value.ref C::tl).contains (.ref B)<;>(rw [hb] at hq';wp_walk;exact hq')
def b1z(X:Cx)(C B:AB)(b:Bool):Prop:=∀h:Heap,X.K.In h->b4u C h/\b4u B h/\∀(tl:List AA) N nm q bs hdct sn sub ab col dd k0 k1 k2 k3 k5,h.get? C=some (excClassObj nm q C N bs tl hdct sn sub ab col dd k0 k1 k2 k3 k5 "ValueError.__new__")->(Value.ref C::tl).contains (.ref B)=b
abbrev _root_.L2.Cx.caught(X:Cx)(a:AB)(Y:AA->AG->Prop):Cx:={X with A:=X.A.mark (some (.ref a)),calm:=false,xe:=Y}
def b0L(I:Inv X pins σ H s):Inv (X.caught a Y) pins σ H s:=⟨⟨I.ok.mod,I.ok.kind,I.ok.glob,I.ok.blt,I.ok.above,I.ok.inj,I.ok.has,I.ok.cab,(fun z=>nomatch z),I.ok.frames,I.ok.stk,I.ok.exf,I.ok.bs,I.ok.bsz,I.ok.noex,I.ok.exfs,I.ok.funs,I.ok.frf⟩,I.os,I.bare,I.base,I.loc,I.cell,I.free,I.freeC,I.pin,I.hok,I.len⟩
def a3a(hd:X.calm=true->X.A.handled=none)(I:Inv (X.caught a Y) pins σ H s):Inv X pins σ H s:=⟨⟨I.ok.mod,I.ok.kind,I.ok.glob,I.ok.blt,I.ok.above,I.ok.inj,I.ok.has,I.ok.cab,hd,I.ok.frames,I.ok.stk,I.ok.exf,I.ok.bs,I.ok.bsz,I.ok.noex,I.ok.exfs,I.ok.funs,I.ok.frf⟩,I.os,I.bare,I.base,I.loc,I.cell,I.free,I.freeC,I.pin,I.hok,I.len⟩
def b8j(hg:Gl X x)(hm:X.mg x=some (.ref B))(hdb:(x==("__debug__":Str))=false)(hs:∀a Y,PSs (X.caught a Y) (b₀::suite) ts):
 Hnd X (.ExceptHandler (some (.Name x np)) none (b₀::suite) pos::rest) (fun _ C D σ H=>b1z X C B true/\ts D σ H):=by
 intro pins s σ H D a C T I ex hn hTn apA apT ⟨hbl,q⟩
 have J:Inv (X.caught a (notedBy (model X.prog X.w) (X.A.mark (some (.ref a))) X.env (cameBackBy (model X.prog X.w) X.A X.env X.xe))) pins σ H s:=b0L I
 refine wpAny_handleBy_cons (codeAny_handlers_test (a3s (X:=X.caught a _) J hg hm ?_ hdb)) (by intro q;cases q)
 obtain⟨hC,hB,hin⟩:=hbl s.heap I.kIn
 obtain⟨oe,vs,he,hcls,_⟩:=ex.obj
 obtain⟨hh,g,d,tk,os⟩:=s
 refine b6I hC hB he hcls fun tl T0 ⟨N,nm,q0,bs,hdct,sn,sub,ab,col,dd,k0,k1,k2,k3,k5,hc⟩=> ?_
 rw [hin tl N nm q0 bs hdct sn sub ab col dd k0 k1 k2 k3 k5 hc]
 refine codeAny_handlers_suite ?_
 refine b10 (s:=⟨hh,g,d,tk,os⟩) ex none fun h2 x2 c2 hsz=> ?_
 have one:∀b∈[T],b=T:=fun b hb=>List.mem_singleton.mp hb
 have K:Inv X pins σ H ⟨h2,g,d,tk,os⟩:=Inv.chg I (c2.more (fun b hb=>nomatch hb) fun b hb=>hb) (fun b hb=>by rw [one b hb];exact apT.1) (fun b hb=>by rw [one b hb];exact hTn) (fun b hb=>by rw [one b hb];exact apT.2.1) (fun b hb=>by rw [one b hb];exact apT.2.2.1) (fun b hb=>by rw [one b hb];exact apT.2.2.2)
 refine Q3 (hs a _ pins _ σ H D (b0L K) q) fun fl s1 hq=> ?_
 show SP X pins D fl s1
 cases fl with
 |next=>obtain⟨σ',H',J,q⟩:=hq;exact⟨σ',H',a3a I.ok.hd J,q⟩
 |brk=>obtain⟨σ',H',J,q⟩:=hq;exact⟨σ',H',a3a I.ok.hd J,q⟩
 |cont=>obtain⟨σ',H',J,q⟩:=hq;exact⟨σ',H',a3a I.ok.hd J,q⟩
 |ret u=>obtain⟨v,σ',H',J,r,q⟩:=hq;exact⟨v,σ',H',a3a I.ok.hd J,r,q⟩
def a8z{K:AE}{h:Heap}{C:AB}(X:K.In h)(q:W.excIn K C b2c "ValueError.__new__"=true):b4u C h:=by
 unfold W.excIn at q
 cases hk:K.lookup C with
 |none=>rw [hk] at q;cases q
 |some o=>
  rw [hk] at q
  split at q
  ·rename_i dd cd sl e
   cases e
   obtain⟨nm,bs,mro,ns,qn,hd,sn,sub,ab,col,del⟩:=cd
   obtain⟨l⟩:=sl
   split at q
   ·rename_i C' bm k0 k1 k2 k3 n k5 hm hs
    have hm:mro= .ref C'::bm:=hm
    have hs:l=[k0,k1,k2,k3,some (.builtin n),k5]:=hs
    subst hm hs
    rw [Bool.and_eq_true,Bool.and_eq_true,Bool.and_eq_true,Bool.and_eq_true,Bool.and_eq_true] at q
    obtain⟨⟨⟨⟨⟨c1,c2⟩,c3⟩,c4⟩,c5⟩,c6⟩:=q
    have c3':del=false:=by simpa using c3
    cases(beq_iff_eq.mp c1)
    cases(beq_iff_eq.mp c2)
    clear c3
    subst c3'
    exact⟨bm,ns,nm,qn,bs,hd,sn,sub,ab,col,dd,k0,k1,k2,k3,k5,_,X _ _ hk,.of_isNs (W.isNs_of_in X c5),W.nsMap_none_of_in X c5 (beq_iff_eq.mp c6),W.tail_of_in X c4⟩
   ·cases q
  ·cases q
def b3g(K:AE)(C B:AB):Bool:=match K.lookup C with
 |some ⟨_,_,.cls cd,_⟩=>cd.mro.contains (.ref B)
 |_=>false
def b7L(q1:W.excIn X.K C b2c "ValueError.__new__"=true)(q2:W.excIn X.K B b2c "ValueError.__new__"=true):b1z X C B (b3g X.K C B):=fun h I=>⟨a8z I q1,a8z I q2,fun tl N nm q bs hdct sn sub ab col dd k0 k1 k2 k3 k5 hc=>by
 cases hk:X.K.lookup C with
 |none=>unfold W.excIn at q1;rw [hk] at q1;cases q1
 |some o=>
  have:=I _ _ hk
  rw [hc] at this
  cases this
  unfold b3g
  rw [hk]⟩
def b44(b:MX)(inm:Str->Bool)(hd:MS):MS:=fun ρ=>(b ρ).bind fun fx=>match fx with
 | .fl f=>some f
 | .rz c ρ'=>if inm c=true then hd ρ' else none
def c2n(hx0:X.ex=[])(hst:X.stack=X.env::X.outer)(hfr:X.env.frame=some X.env.locals)
 (hg:Gl X x) (hm:X.mg x=some (.ref B)) (hdb:(x==("__debug__":Str))=false) (hin:∀c,inm c=true->∃C,X.mg c=some (.ref C)/\b1z X C B true)
 (hb:∀(Y:AA->AG->Prop) (pn:List (AB×Obj)) (E:L2.St->XK),a27 (CX1 X.prog X.w) (X.aim Y pn) E->EXs (X.aim Y pn) E body b) (hs:∀a Y,ESs (X.caught a Y) (b₀::suite) hd):
 ES X (.Try body [.ExceptHandler (some (.Name x np)) none (b₀::suite) hpos] [] [] pos) (b44 b inm hd):=
 S1 (c3o hx0 hst hfr (tb:=fun E=>tMX X.K X.mg E b) hb (b8j (ts:=tMS X.K hd) hg hm hdb fun a Y=>hs a Y)) fun D σ H ⟨F0,H0,F,ρ,fl,so,e,fin⟩=>by
  obtain⟨fx,e1,e⟩:=bind_some e
  cases fx with
  |fl f=>cases e;exact⟨F0,H0,F,ρ,.fl _,so,e1,fin⟩
  |rz c ρ1=>
   have e:(if inm c=true then hd ρ1 else none)=some fl:=e
   split at e
   ·rename_i hc
    obtain⟨C,h1,h2⟩:=hin c hc
    exact⟨F0,H0,F,ρ,.rz c ρ1,so,e1,C,h1,fun σ1 a F' H' s' so' hn=>⟨a,C,rfl,rfl,h2,F0,H0,F',ρ1,fl,so',e,fin.later s'⟩⟩
   ·cases e
def c0b(hN:X.N.Nodup)
 (d:b4l X.prog X.w X.K X.mg X.base x ps k g) (hr:O9 k' X.A) (hk:k<=k') (hg:Gl X x) (hx:a27 (CX1 X.prog X.w) X E) (hn:∀ρ qs,m ρ=some qs->qs.length=ps.length) (ha:EA X (e::es) m)
 (hi:X.N[i]?=some y:=by rfl) (hy:Loc X.env.scope y:=by exact Or.inl rfl) (hs:swapsWith (.Call (.Name x p) (e::es) [] pos) (some (.Name y pos')) pos2.line X.env=pure false:=by rfl) (hf:X.fn y=true\/X.env.scope.names.lookup y=some .local:=by first|exact .inl rfl|exact .inr rfl|assumption)
 (hdb:(x==("__debug__":Str))=false:=by decide) (he:AJ (e::es) X.env=(false,eval e X.env)::AJ es X.env:=by rfl) (hpl:(backTo pos (AJ es X.env)).any (·.1)=false:=by rfl):
 EX X E (.Assign [.Name y pos'] (.Call (.Name x p) (e::es) [] pos) pos2) (a6S i g m):=by
 obtain⟨f,fd,G,h1,h2,h3⟩:=d
 exact c2p hN G (hr.mono hk) hg h1 h2 h3 hx hn ha hi hy hs hf hdb he hpl
def a7t(K:AE)(C:AB)(x:Str):Bool:=match K.lookup C with
 |some ⟨_,_,.cls cd,_⟩=>cd.name==x
 |_=>false
structure XC(K:AE)(mg:Str->Option AA)(c:Str)(C:AB):Prop where
 mg:mg c=some (.ref C)
 named:X6 K c C
 exc:W.excIn K C b2c "ValueError.__new__"=true
def c4Q{K:AE}{mg:Str->Option AA}{h:Heap}{c:Str}{C:AB}(X:K.In h)(G:h.Ns mainGlobals mg)(e:W.nsIn K mainGlobals c=some (some (.ref C)))(q:(a7t K C c && W.excIn K C b2c "ValueError.__new__")=true):XC K mg c C:=by
 rw [Bool.and_eq_true] at q
 obtain⟨q1,q3⟩:=q
 refine⟨W.mg_of X G e,⟨e, ?_⟩,q3⟩
 unfold a7t at q1
 split at q1
 ·rename_i oc od cd sl hk
  exact⟨oc,od,cd,sl,hk,beq_iff_eq.mp q1⟩
 ·cases q1
def inL(l:List Str)(c:Str):Bool:=l.contains c
def Hin(X:Cx)(B:AB)(l:List Str):Prop:=∀c,inL l c=true->∃C,X.mg c=some (.ref C)/\b1z X C B true/\X6 X.K c C
def c0q:Hin X B []:=fun _ h=>nomatch h
def b8h(xB:XC X.K X.mg b B)(x:XC X.K X.mg c C)(e:b3g X.K C B=true)(h:Hin X B l):Hin X B (c::l):=fun c1 q=>by
 unfold inL at q
 rw [List.contains_cons,Bool.or_eq_true] at q
 rcases q with q|q
 ·rw [beq_iff_eq.mp q]
  exact⟨C,x.mg,by rw [<-e];exact b7L x.exc xB.exc,x.named⟩
 ·exact h c1 q
def c0a(xB:XC X.K X.mg x B)(hin:Hin X B l)
 (hb:∀(Y:AA->AG->Prop) (pn:List (AB×Obj)) (E:L2.St->XK),a27 (CX1 X.prog X.w) (X.aim Y pn) E->EXs (X.aim Y pn) E body b) (hs:∀a Y,ESs (X.caught a Y) (b₀::suite) hd)
 (hx0:X.ex=[]:=by rfl) (hst:X.stack=X.env::X.outer:=by rfl) (hfr:X.env.frame=some X.env.locals:=by rfl) (hg:Gl X x:=by rfl) (hdb:(x==("__debug__":Str))=false:=by decide):
 ES X (.Try body [.ExceptHandler (some (.Name x np)) none (b₀::suite) hpos] [] [] pos) (b44 b (inL l) hd):=
 c2n hx0 hst hfr hg xB.mg hdb (fun c q=>let ⟨C,h1,h2,_⟩:=hin c q;⟨C,h1,h2⟩) hb hs
def b1W{E:L2.St->XK}{st:List Stmt}{m:MS}(h:ESs X.nox st m):EXs X E st (a9i m):=c2r (PSs.nox h)
def c2q{E:L2.St->XK}{st:Stmt}{m:MS}(h:ES X.nox st m):EX X E st (a9i m):=c35 fun pins s σ H D I hw=>
 wpAny_mono (h pins s σ H D (I.wish _) hw) (fun fl s1 hq=>by
  cases fl with
  |next=>obtain⟨σ',H',J,q⟩:=hq;exact⟨σ',H',J.unwish,q⟩
  |brk=>obtain⟨σ',H',J,q⟩:=hq;exact⟨σ',H',J.unwish,q⟩
  |cont=>obtain⟨σ',H',J,q⟩:=hq;exact⟨σ',H',J.unwish,q⟩
  |ret u=>obtain⟨v,σ',H',J,r,q⟩:=hq;exact⟨v,σ',H',J.unwish,r,q⟩) fun _ _ z=>z.elim
def unE:List (PV×PV)->Option (List (List Key×PV))
 |[]=>some []
 |(.tuple ks,p)::r=>(keysOf ks).bind fun k=>(unE r).map fun t=>(k,p)::t
 |_::_=>none
theorem a4A:∀k:List Key,keysOf (k.map kP)=some k
 |[]=>rfl
 | .inl i::k=>by
   rw [AK]
   unfold keysOf
   rw [a4A k]
   rfl
 | .inr x::k=>by
   rw [AK]
   unfold keysOf
   rw [a4A k]
   rfl
theorem b2G{K:AE}{F:Hp}:∀{es:List (PV×PV)} {xs:List (List Key×V)},a2p K F es xs->∃kvs,unE es=some kvs/\a38 K F kvs xs
 |[],_,h=>by cases h;exact⟨[],rfl,rfl⟩
 |(k,p)::es,_,⟨kk,v,t,e,z,q,h⟩=>by
  subst e
  subst z
  obtain⟨kvs,h1,h2⟩:=b2G h
  refine⟨(kk,p)::kvs, ?_,v,t,rfl,q,h2⟩
  unfold unE
  rw [a4A,h1]
  rfl
section
variable {prog:Ac}{w:AU}{K:Type}[DecidableEq K]{kd:KeyKind prog w K}{A:Al}{E:AA->AG->Prop}{s:AG}
end
def b4J(x:g6):Option g6:=match x with
 | .val (.bool b)=>some (.val (.int (if b then 1 else 0)))
 |_=>none
def c2e:R0 X (.type "int") (rC1 X.K b4J):=by
 intro pins s σ H xs us Q I rv h
 obtain⟨F,x,rx,rz,rfl,s0,h1,h2,k⟩:=h
 obtain⟨u,rfl,ru⟩:=a1i rv
 unfold b4J at h2
 split at h2
 ·rename_i b
  cases h2
  cases h1
  cases(show u=Value.bool b from ru)
  exact PySem.call_int_bool ⟨.int _,H,I.tok _,⟨_,rfl⟩,k _ F H (C0.here s0 rfl)⟩
 ·cases h2
def byT(w:AU):Bool:=w.params.followText "set-order"
def Q7(prog:Ac)(w:AU)(h:Heap)(a:AB)(es:Array (Int×AA))(ep:Nat):Prop:=
 ∃o t,h.get? a=some o/\o.ExactSet/\o.data= .set es ep t/\ElemsOf (B3 prog w) es.toList/\es.size<scanBound/\t.fits es.size=true/\t.led= !byT w/\(es.size≠0->t.plain=false)
def sOf:AA->Str
 | .str x _=>x
 |_=>⟨#[]⟩
abbrev a88(es:Array (Int×AA)):List Str:=es.toList.map fun e=>sOf e.2
structure TxE(es:Array (Int×AA))(zs:List Str):Prop where
 all:∀e∈es.toList,∃x t,e.2= .str x t
 nd:(a88 es).Nodup
 mem:∀x,x∈a88 es↔x∈zs
def Q7.at'(x:Q7 prog w h a es ep)(e:∀o,h.get? a=some o->h'.get? a=some o):Q7 prog w h' a es ep:=
 let ⟨o,t,ho,r⟩:=x;⟨o,t,e _ ho,r⟩
def b4U(t:SetTable)(es:Array (Int×AA))(h:Int)(x:AA):(layNew t es h x).2.1.led=t.led:=by
 unfold layNew
 split
 ·show(SetTable.orStandIn _ _).led=t.led
  unfold SetTable.orStandIn
  split<;>rfl
 ·rfl
def b2y(t:SetTable)(es:Array (Int×AA))(n:Nat):(relayAll t es n).2.1.led=t.led:=by
 unfold relayAll
 split
 ·rename_i t' order e
  unfold SetTable.relaid SetTable.laid at e
  obtain⟨ow,e1,e2⟩:=bind_some e
  cases e2
  dsimp only
  split<;>rfl
 ·rfl
def a9O(t:SetTable)(es:Array (Int×AA))(n:Nat)(hp:t.plain=false):(relayAll t es n).2.1.plain=false:=by
 unfold relayAll
 split
 ·rename_i t' order e
  unfold SetTable.relaid SetTable.laid at e
  obtain⟨ow,e1,e2⟩:=bind_some e
  cases e2
  dsimp only
  split
  ·exact hp
  ·rfl
 ·rfl
def b6r{h:Heap}{a:AB}{o:Obj}{es:Array (Int×AA)}{ep:Nat}{t:SetTable}(ho:h.get? a=some o)(hex:o.ExactSet)(hd:o.data= .set es ep t)
 {es':Array (Int×AA)} {t':SetTable} (hel:ElemsOf (B3 prog w) es'.toList) (hb:es'.size<scanBound) (hf:t'.fits es'.size=true) (hl:t'.led= !byT w) (hp:t'.plain=false):
 (h.update a (Obj.putSet es' t')).get? a=some {o with data:= .set es' (ep+1) t'}/\Q7 prog w (h.update a (Obj.putSet es' t')) a es' (ep+1):=by
 have hg:(h.update a (Obj.putSet es' t')).get? a=some {o with data:= .set es' (ep+1) t'}:=by
  have:=Heap.get?_update_self (Obj.putSet es' t') ho (by rw [putSet_of es' t' hd];rfl)
  rw [putSet_of es' t' hd] at this;exact this
 exact⟨hg,_,t',hg,hex,rfl,hel,hb,hf,hl,fun _=>hp⟩
def b9I{g:Bool->Sem Unit}(hg:∀(b:Bool) (s₁:AG) (Q':Unit->AG->Prop),Q' () s₁->AF (model prog w) A (g b) Q' E s₁)
 {a:AB} {o:Obj} {es:Array (Int×AA)} {ep:Nat} {t:SetTable} (ho:s.heap.get? a=some o) (hex:o.ExactSet) (hd:o.data= .set es ep t)
 {es1:Array (Int×AA)} {t2:SetTable} (hel1:ElemsOf (B3 prog w) es1.toList) (hb1:es1.size<scanBound) (hf2:t2.fits es1.size=true) (hl:t2.led= !byT w) (hpl:t2.plain=false) {wasDummy:Bool} {R:Option Bool->AG->Prop}
 (h:∀h' es' ep',Heap.SameBut a s.heap h'->es'.toList.Perm es1.toList->Q7 prog w h' a es' ep'->R (some true) {s with heap:=h'}):
 AF (model prog w) A (do
  storeSet a es1 t2
  if(!wasDummy && t2.tooFull)=true then do
     g (relayAll t2 es1 (SetTable.grown es1.size)).2.2
     storeSet a (relayAll t2 es1 (SetTable.grown es1.size)).1 (relayAll t2 es1 (SetTable.grown es1.size)).2.1
     pure (some true)
   else pure (some true)) R E s:=by
 refine AD (wpAny_storeSet_of ho hd ?_ (fits_of_scanBound hb1))
 obtain⟨ho1,hS1⟩:=b6r (prog:=prog) (w:=w) ho hex hd hel1 hb1 hf2 hl hpl
 have hsb1:=Heap.SameBut.update s.heap a (Obj.putSet es1 t2)
 split
 ·have hp:=relayAll_perm t2 es1 (SetTable.grown es1.size)
  have hfr:=relayAll_fits t2 es1 (SetTable.grown es1.size)
  have hl2:=b2y t2 es1 (SetTable.grown es1.size)
  have hp2:=a9O t2 es1 (SetTable.grown es1.size) hpl
  generalize hRl:relayAll t2 es1 (SetTable.grown es1.size)=Rl at hp hfr hl2 hp2 ⊢
  obtain⟨es2,t3,gave2⟩:=Rl
  dsimp only at hp hfr hl2 hp2 ⊢
  have hel2:ElemsOf (B3 prog w) es2.toList:=hel1.perm hp
  have hsz:es2.size=es1.size:=by rw [<-Array.length_toList,hp.length_eq,Array.length_toList]
  have hb2:es2.size<scanBound:=by rw [hsz];exact hb1
  refine AD (hg _ _ _ ?_)
  refine AD (wpAny_storeSet_of ho1 rfl ?_ (fits_of_scanBound hb2))
  obtain⟨_,hS2⟩:=b6r (prog:=prog) (w:=w) ho1 hex rfl hel2 hb2 hfr (hl2.trans hl) hp2
  exact AI (h _ _ _ (hsb1.trans (Heap.SameBut.update _ a _)) hp hS2)
 ·exact AI (h _ _ _ hsb1 (List.Perm.refl _) hS1)
def TxE.perm(p:es'.toList.Perm es.toList)(T:TxE es zs):TxE es' zs where
 all:=fun e he=>T.all e (p.mem_iff.mp he)
 nd:=((p.map _).nodup_iff).mpr T.nd
 mem:=fun x=>((p.map _).mem_iff).trans (T.mem x)
def c3U(hS:Q7 prog w s.heap a es ep)(T:TxE es zs)(hroom:es.size+1<scanBound)
 (h:∀h' es' ep' b,Heap.SameBut a s.heap h'->Q7 prog w h' a es' ep'->TxE es' (x::zs)->es'.size<=es.size+1->Q b {s with heap:=h'}):
 AF (model prog w) A (setAddHashed a (.str x tk) ((B3 prog w).hash (.inr x))) Q E s:=by
 obtain⟨o,t,ho,hex,hd,hel,hb,hf,hl,hpl⟩:=hS
 have hsc:(Value.str x tk).scannable=true:=rfl
 have hkey:(B3 prog w).is (.inr x) (.str x tk)=true:=a2g prog w x tk
 unfold setAddHashed setAddHashedIn
 refine wpAny_holding (AD (wpAny_setState_of ho hd hf ?_))
 dsimp only
 rw [byScan_of hsc hb hel]
 simp only [↓reduceIte]
 unfold setAddByScan
 refine AD ?_
 refine AD (wpAny_rule ?_)
 refine AD (wpAny_setScan_of hkey ho hd hf hel ?_)
 cases hr:List.findIdx? (fun e=>(B3 prog w).is (.inr x) e.2) es.toList with
 |some j=>
  dsimp only
  obtain⟨hj,hpj,_⟩:=List.findIdx?_eq_some_iff_getElem.mp hr
  have hm:x∈a88 es:=by
   refine Au.mpr ⟨es.toList[j],List.getElem_mem hj, ?_⟩
   rcases J5 (show a87 (.inr x) es.toList[j].2=true from hpj) with⟨i,u,q,_⟩|⟨y,u,q,e2⟩
   ·exact nomatch q
   ·cases q;rw [e2];rfl
  refine AI (AI ?_)
  have e:s={s with heap:=s.heap}:=by cases s;rfl
  rw [e]
  exact h s.heap es ep false (Heap.SameBut.refl a s.heap) ⟨o,t,ho,hex,hd,hel,hb,hf,hl,hpl⟩ ⟨T.all,T.nd,fun y=>by
   rw [T.mem y,AZ]
   exact⟨.inr,fun z=>z.elim (fun z=>by rw [z];exact(T.mem x).mp hm) id⟩⟩ (Nat.le_succ _)
 |none=>
  dsimp only
  have hgw:∀(b:Bool) {s₁:AG} {Q':Unit->AG->Prop},Q' () s₁->AF (model prog w) A (match b with|true=>rule "set.scan.the-table-gave-way"|false=>pure ()) Q' E s₁:=
   fun b s₁ Q' hq=>by cases b<;>first|exact AI hq|exact wpAny_rule hq
  have hperm:=layNew_perm t es ((B3 prog w).hash (.inr x)) (.str x tk)
  have hfits:=layNew_fits t es ((B3 prog w).hash (.inr x)) (.str x tk)
  have hled:=b4U t es ((B3 prog w).hash (.inr x)) (.str x tk)
  generalize hL:layNew t es ((B3 prog w).hash (.inr x)) (.str x tk)=L at hperm hfits hled ⊢
  obtain⟨es1,t1,wasDummy,gave⟩:=L
  dsimp only at hperm hfits hled ⊢
  rw [Array.toList_push] at hperm
  have hel1:ElemsOf (B3 prog w) es1.toList:=(hel.push hkey hsc).perm hperm
  have hb1':es1.size<scanBound:=by rw [<-Array.length_toList,hperm.length_eq,AQ,Array.length_toList];simpa using hroom
  have hn:x∉a88 es:=fun hm=>by
   obtain⟨e,he,e2⟩:=Au.mp hm
   obtain⟨y,u,ey⟩:=T.all e he
   have:=List.findIdx?_eq_none_iff.mp hr e he
   rw [ey] at e2 this
   cases(show y=x from e2)
   rw [a2g] at this
   cases this
  have T1:TxE es1 (x::zs):=by
   refine⟨fun e he=> ?_, ?_,fun y=> ?_⟩
   ·rcases Av.mp (hperm.mem_iff.mp he) with h|h
    ·exact T.all e h
    ·rw [List.mem_singleton] at h;subst h;exact⟨x,tk,rfl⟩
   ·refine((hperm.map _).nodup_iff).mpr ?_
    rw [BF]
    refine List.nodup_append.mpr ⟨T.nd,by simp,fun y hy z hz=> ?_⟩
    simp only [AK,AN,List.mem_singleton] at hz
    intro e
    subst e
    subst hz
    exact hn hy
   ·rw [(hperm.map _).mem_iff,BF,Av,T.mem y,AZ]
    simp only [AK,AN,List.mem_singleton]
    exact⟨fun z=>z.elim .inr (fun z=> .inl z),fun z=>z.elim (fun z=> .inr z) .inl⟩
  have hsz1:es1.size=es.size+1:=by rw [<-Array.length_toList,hperm.length_eq,AQ,Array.length_toList];rfl
  refine AD (hgw _ ?_)
  have hend:∀h' es' ep',Heap.SameBut a s.heap h'->es'.toList.Perm es1.toList->Q7 prog w h' a es' ep'->Q true {s with heap:=h'}:=fun h' es' ep' hsb p hS'=>by
   refine h h' es' ep' true hsb hS' (T1.perm p) ?_
   rw [<-Array.length_toList,p.length_eq,Array.length_toList,hsz1];exact AR _
  split
  ·rename_i hpt
   refine AD ?_
   rw [hashByValue_scannable 8 hsc]
   refine AI ?_
   have hpk:plainKind (Value.str x tk)=false:=rfl
   simp only [hpk,BC,↓reduceIte]
   refine b9I ?_ ho hex hd hel1 hb1' (SetTable.fits_plain_off hfits) (hled.trans hl) rfl ?_
   ·intro b s₁ Q' hq;cases b<;>first|exact AI hq|exact wpAny_rule hq
   ·intro h' es' ep' hsb p hS';dsimp only;exact AI (hend h' es' ep' hsb p hS')
  ·rename_i hpt
   refine AD (AI ?_)
   simp only [↓reduceIte]
   refine b9I ?_ ho hex hd hel1 hb1' hfits (hled.trans hl) (by simpa using hpt) ?_
   ·intro b s₁ Q' hq;cases b<;>first|exact AI hq|exact wpAny_rule hq
   ·intro h' es' ep' hsb p hS';dsimp only;exact AI (hend h' es' ep' hsb p hS')
end PU
set_option maxHeartbeats 3200000
namespace PU
open PySem PySem.Spec PyProof.Rows L2 PySem.W
abbrev V7(w:AU):Obj:={cls:= .type "set",dict:=none,data:= .set #[] 0 (.fresh 0 0 (!byT w))}
def c4h(a:AA)(h:Q₁ (.ref s.heap.objs.size) {s with heap:=s.heap.push (V7 w)}):
 codeAny (model prog w) A (.call (.builtin "set.__new__") ⟨[.type "set",a],[]⟩) (wants Q₁ E) s:=by
 refine codeAny_of_tree ?_
 show AF _ A.in1 (do checkBuiltinCall "set.__new__" ⟨[.type "set",a],[]⟩;again (.builtin "set.__new__" ⟨[.type "set",a],[]⟩)) _ _ s
 refine AD (wpAny_of_eq (F.newCall_set_1 a) (AI ⟨plainId_quiet F.plain_set_new _,codeAny_builtin F.entry_set_new ?_⟩))
 rw [Around.under_plainId F.plain_set_new _]
 unfold Builtin.«set.__new__» Builtin.Frozenset.newClass
 have hsub:=sub_set_self
 obtain⟨hp,g,d,tk,os⟩:=s
 dsimp only
 wp_walk
 refine wpAny_askSetting (AI ?_)
 dsimp only
 simp only [newObj]
 refine AD (wpAny_alloc (AI ?_))
 exact AI h
end PU
set_option maxHeartbeats 1000000
namespace PU
open PySem PySem.Spec PyProof.Rows L2 PySem.W
def B5:Slot "set_iterator" "__next__" "set_iterator.__next__":=
 .of (owner:="set_iterator") (n:="__next__") (by rw [typeLookup_type,builtinLookup_eq_fast];kernel_rfl) (by decide+kernel) (by decide+kernel) (by decide+kernel)
  (by first|exact .inl (by decide+kernel)|exact .inr (by decide+kernel)) (by rw [isSubtype_type];kernel_rfl)
def a5U:Slot "set_iterator" "__iter__" "set_iterator.__iter__":=
 .of (owner:="set_iterator") (n:="__iter__") (by rw [typeLookup_type,builtinLookup_eq_fast];kernel_rfl) (by decide+kernel) (by decide+kernel) (by decide+kernel)
  (by first|exact .inl (by decide+kernel)|exact .inr (by decide+kernel)) (by rw [isSubtype_type];kernel_rfl)
def Y5:entryFor table "set_iterator.__next__"=some Builtin.«set_iterator.__next__»:=entryFor_of_tree (by kernel_rfl)
def a8Q:entryFor table "set_iterator.__iter__"=some Builtin.«dict_keyiterator.__iter__»:=entryFor_alias (id':="dict_keyiterator.__iter__") (by kernel_rfl) rfl (by decide+kernel) (by kernel_rfl)
def b1S:entryFor table "set.__iter__"=some Builtin.«frozenset.__iter__»:=entryFor_alias (id':="frozenset.__iter__") (by kernel_rfl) rfl (by decide+kernel) (by kernel_rfl)
def b1h:Manifest.owners.lookup (String.ofList ['r', 'o', 't', 'a', 'r', 'e', 't', 'i', '_', 't', 'e', 's'].reverse)=some Manifest.sig_set_iterator:=by kernel_rfl
def a0u(a:AA):argsOk "set_iterator.__next__" ⟨[a],[]⟩:=by
 unfold argsOk;rw [signature?_of (id:="set_iterator.__next__") (n:=['_', '_', 't', 'x', 'e', 'n', '_', '_']) (o:=['r', 'o', 't', 'a', 'r', 'e', 't', 'i', '_', 't', 'e', 's']) (by kernel_rfl) b1h];kernel_rfl
def b0d(a:AA):argsOk "set_iterator.__iter__" ⟨[a],[]⟩:=by
 unfold argsOk;rw [signature?_of (id:="set_iterator.__iter__") (n:=['_', '_', 'r', 'e', 't', 'i', '_', '_']) (o:=['r', 'o', 't', 'a', 'r', 'e', 't', 'i', '_', 't', 'e', 's']) (by kernel_rfl) b1h];kernel_rfl
def a0L(h:Heap)(it:AB)(first:AA)(i:Nat)(a:AB)(n ep:Nat):Prop:=∃o,h.get? it=some o/\o.cls= .type "set_iterator"/\o.data= .fields #[first,.int i 0,.ref a,.int n 0,.int ep 0]
def a0L.typeIs{s:AG}{it:AB}{first:AA}{i:Nat}{a:AB}{n ep:Nat}(x:a0L s.heap it first i a n ep):s.TypeIs (.ref it) "set_iterator":=let ⟨o,ho,hc,_⟩:=x;⟨o,ho,hc⟩
def a0L.at'(x:a0L h it first i a n ep)(e:∀o,h.get? it=some o->h'.get? it=some o):a0L h' it first i a n ep:=let ⟨o,ho,r⟩:=x;⟨o,e _ ho,r⟩
theorem a55:∀{l:List α} {i:Nat} (h:i<l.length),(l[i]::l.eraseIdx i).Perm l
 |x::l,0,h=>List.Perm.refl _
 |x::l,i+1,h=>by
  have ih:=a55 (l:=l) (i:=i) (by simpa using h)
  show(l[i]'(by simpa using h)::x::l.eraseIdx i).Perm (x::l)
  exact(List.Perm.swap _ _ _).trans (ih.cons x)
theorem b1l(f:Nat->Nat):∀(n k:Nat) (left:List α) (out:Array α),left.length=n->(pickOrder.go f n k left out).toList.Perm (out.toList++left)
 |0,k,left,out,h=>by
  cases left with
  |nil=>rw [Aj];exact List.Perm.refl _
  |cons a l=>cases h
 |n+1,k,left,out,h=>by
  unfold pickOrder.go
  have hlt:f k % left.length<left.length:=Nat.mod_lt _ (by lia)
  rw [Az hlt]
  dsimp only
  refine(b1l f n (k+1) _ _ (by rw [List.length_eraseIdx];split<;>lia)).trans ?_
  rw [Array.toList_push,List.append_assoc]
  exact List.Perm.append_left _ (a55 hlt)
def a1Q(f:Nat->Nat)(xs:Array α):(pickOrder f xs).toList.Perm xs.toList:=by
 have:=b1l f xs.size 0 xs.toList #[] (by simp)
 simpa [pickOrder] using this
section
variable {prog:Ac}{w:AU}{A:Al}{E:AA->AG->Prop}{s:AG}{it a:AB}{i ep:Nat}{es:Array (Int×AA)}
def b2J(hn:n≠0)(h:∀i,i<n->Q i {s with drawn:=s.drawn.bump src}):AF (model prog w) A (choose src n) Q E s:=
 fun _ _ _=>⟨hn,h _ (Nat.mod_lt _ (Nat.pos_of_ne_zero hn))⟩
theorem b0R:∀(n:Nat) (xs:List α) (s:AG) (Q:List α->AG->Prop),xs.length=n->(∀ys d,ys.Perm xs->Q ys {s with drawn:=d})->AF (model prog w) A (drawOrder n xs) Q E s
 |0,xs,s,Q,h,k=>by
  unfold drawOrder
  cases xs with
  |nil=>exact AI (k [] s.drawn (List.Perm.refl _))
  |cons a l=>cases h
 |n+1,[],s,Q,h,k=>by cases h
 |n+1,x::l,s,Q,h,k=>by
  unfold drawOrder
  refine AD (b2J (by simp) fun i hi=> ?_)
  rw [Az hi]
  dsimp only
  refine AD (b0R n _ _ _ (by rw [List.length_eraseIdx];split<;>lia) fun ys d p=> ?_)
  refine AI ?_
  exact k _ d ((p.cons _).trans (a55 hi))
def b1L(h:Q (byT w) s):AF (model prog w) A setsByText Q E s:=by
 unfold setsByText
 exact AD (wpAny_askSetting (AI h))
def Q7.typeIs(x:Q7 prog w s.heap a es ep):s.TypeIs (.ref a) "set":=let ⟨o,_,ho,hc,_⟩:=x;⟨o,ho,hc.1⟩
def c1Q(hb:byT w=true)(hS:Q7 prog w s.heap a es ep)(h:Q (((pickOrder (w.params.setOrder a ep) es)[i]?).map fun e=>(e.2,sl)) s):AF (model prog w) A (setNext a sl i ep) Q E s:=by
 obtain⟨o,t,ho,hex,hd,hel,hz,hf,hl,hpl⟩:=hS
 unfold setNext
 refine AD (wpAny_setState_of ho hd hf ?_)
 dsimp only
 refine AD (b1L ?_)
 rw [hb]
 simp only [↓reduceIte,bne_self_eq_false,BC]
 unfold setWalk
 refine AD (AD (wpAny_setState_of ho hd hf ?_))
 dsimp only
 refine AD (b1L ?_)
 rw [hb]
 simp only [↓reduceIte]
 refine AD (wpAny_askSetting ?_)
 exact AI (AI h)
end
def a2Q(hS:Q7 prog w s.heap a es ep)(h:Q es s):AF (model prog w) A (setEntries a) Q E s:=
 let ⟨_,_,ho,_,hd,_,_,hf,_⟩:=hS;wpAny_setEntries_of ho hd hf h
def b34{sl nxt:Nat}{v:AA}{Q:Option AA->AG->Prop}(hit:a0L s.heap it (.int sl 0) i a es.size ep)(hS:Q7 prog w s.heap a es ep)
 (hN:∀(A:Al) (E:AA->AG->Prop) (Q:Option (AA×Nat)->AG->Prop),Q (some (v,nxt)) s->AF (model prog w) A (setNext a sl i ep) Q E s)
 (hQ:∀h',a0L h' it (.int nxt 0) (i+1) a es.size ep->Heap.SameBut it s.heap h'->Q (some v) {s with heap:=h'}):AF (model prog w) A (pyNext (.ref it)) Q E s:=by
 obtain⟨o,ho,hc,hd⟩:=id hit
 unfold pyNext
 refine AD (wpAny_attempt (wpAny_callSpecial?_slot (name:=AC "__next__") hit.typeIs B5 (wpAny_call_entry B5 hit.typeIs Y5 ?_ (a0u _))))
 unfold Builtin.«set_iterator.__next__»
 refine AD (AI ?_)
 refine AD (wpAny_fieldsOf ho hd ?_)
 show AF _ _ (setEntries a>>=_) _ _ s
 refine AD (a2Q hS ?_)
 rw [if_neg (by simp)]
 refine AD (hN _ _ _ ?_)
 dsimp only
 refine AD (wpAny_setField ho hd (by simp) ?_)
 have hg1:=Heap.get?_update_self (Obj.mapFields (·.setIfInBounds 0 (rawInt nxt))) ho (Obj.isFreed_of_fields (Obj.data_mapFields hd _))
 have hd1:=Obj.data_mapFields hd (·.setIfInBounds 0 (rawInt nxt))
 refine AD (wpAny_setField hg1 hd1 (by simp) ?_)
 have hg2:=Heap.get?_update_self (Obj.mapFields (·.setIfInBounds 1 (rawInt ((i:Int)+1)))) hg1 (Obj.isFreed_of_fields (Obj.data_mapFields hd1 _))
 have hd2:=Obj.data_mapFields hd1 (·.setIfInBounds 1 (rawInt ((i:Int)+1)))
 refine AI ⟨_,rfl,AI (hQ _ ⟨_,hg2, ?_, ?_⟩ ((Heap.SameBut.update ..).trans (Heap.SameBut.update ..)))⟩
 ·exact(Obj.cls_mapFields ..).trans ((Obj.cls_mapFields ..).trans hc)
 ·rw [hd2];simp [rawInt]
def b6p{sl:Nat}{Q:Option AA->AG->Prop}(hh:A.handled=none)(hit:a0L s.heap it (.int sl 0) i a es.size ep)(hS:Q7 prog w s.heap a es ep)
 (hN:∀(A:Al) (E:AA->AG->Prop) (Q:Option (AA×Nat)->AG->Prop),Q none s->AF (model prog w) A (setNext a sl i ep) Q E s)
 (hQ:∀h',Heap.ExtBut it s.heap h'->Q none {s with heap:=h'}):AF (model prog w) A (pyNext (.ref it)) Q E s:=by
 obtain⟨o,ho,hc,hd⟩:=id hit
 unfold pyNext
 refine AD (wpAny_attempt (wpAny_callSpecial?_slot (name:=AC "__next__") hit.typeIs B5 (wpAny_call_entry B5 hit.typeIs Y5 ?_ (a0u _))))
 unfold Builtin.«set_iterator.__next__»
 refine AD (AI ?_)
 refine AD (wpAny_fieldsOf ho hd ?_)
 show AF _ _ (setEntries a>>=_) _ _ s
 refine AD (a2Q hS ?_)
 rw [if_neg (by simp)]
 refine AD (hN _ _ _ ?_)
 dsimp only
 refine AD (wpAny_setField ho hd (by simp) ?_)
 refine AD ?_
 simp only [newExc,newTuple];refine AD (wpAny_newObj_type ?_ (by size_fits))
 refine AD (m:=firstArgMember _ _) (wpAny_of_eq (a:=Value.none) (by first|rfl|(simp only [firstArgMember];rfl)) (wpAny_newObj_type ?_ (by size_fits)))
 simp only [raiseNew];refine AD (wpAny_handled ?_);rw [show A.in1.handled=none from hh]
 refine AD (AI (wpAny_throw ?_));refine AD (wpAny_isInstance (T:="StopIteration") (b:=true) ⟨_,An _ rfl,rfl⟩ isSubtype_stop ?_)
 exact AI (hQ _ (((Heap.SameBut.update ..).extBut.push _).push _))
def b7r{ft:AB}{ps:List Nat}{pl:Nat}{v:Int×AA}{Q:Option AA->AG->Prop}(hit:a0L s.heap it (.ref ft) i a es.size ep)(hS:Q7 prog w s.heap a es ep)(hf:IsTup s.heap ft (ps.map fun i:Nat=>rawInt i).toArray)
 (hp:ps[i]?=some pl) (hv:es[pl]?=some v)
 (hQ:∀h',a0L h' it (.ref ft) (i+1) a es.size ep->Heap.SameBut it s.heap h'->Q (some v.2) {s with heap:=h'}):AF (model prog w) A (pyNext (.ref it)) Q E s:=by
 obtain⟨o,ho,hc,hd⟩:=id hit
 obtain⟨oq,tq,hoq,hexq,hdq,helq,hzq,hfq,hlq,hplq⟩:=id hS
 obtain⟨of,hof,hcf,nf,hdf⟩:=id hf
 unfold pyNext
 refine AD (wpAny_attempt (wpAny_callSpecial?_slot (name:=AC "__next__") hit.typeIs B5 (wpAny_call_entry B5 hit.typeIs Y5 ?_ (a0u _))))
 unfold Builtin.«set_iterator.__next__»
 refine AD (AI ?_)
 refine AD (wpAny_fieldsOf ho hd ?_)
 show AF _ _ (setEntries a>>=_) _ _ s
 refine AD (a2Q hS ?_)
 rw [if_neg (by simp)]
 show AF _ _ (seqItems? (.ref ft)>>=_) _ _ s
 refine AD (wpAny_seqItems hof hdf ?_)
 have hg:((ps.map fun i:Nat=>rawInt i).toArray)[i]?=some (rawInt pl):=by
  rw [List.getElem?_toArray,As,hp];rfl
 dsimp only
 rw [show((i:Int).toNat)=i from BE i,hg]
 show AF _ _ (setNextDrawn a ((pl:Int).toNat) ((ep:Int).toNat)>>=_) _ _ s
 unfold setNextDrawn
 refine AD (AD (wpAny_setState_of hoq hdq hfq ?_))
 dsimp only
 rw [show((ep:Int).toNat)=ep from BE ep,show((pl:Int).toNat)=pl from BE pl,hv]
 simp only [bne_self_eq_false,BC,↓reduceIte]
 refine AI ?_
 refine AD (wpAny_setField ho hd (by simp) ?_)
 have hg1:=Heap.get?_update_self (Obj.mapFields (·.setIfInBounds 1 (rawInt ((i:Int)+1)))) ho (Obj.isFreed_of_fields (Obj.data_mapFields hd _))
 have hd1:=Obj.data_mapFields hd (·.setIfInBounds 1 (rawInt ((i:Int)+1)))
 refine AI ⟨_,rfl,AI (hQ _ ⟨_,hg1, ?_, ?_⟩ (Heap.SameBut.update ..))⟩
 ·exact(Obj.cls_mapFields ..).trans hc
 ·rw [hd1];simp [rawInt]
def b9D{ft:AB}{ps:List Nat}{Q:Option AA->AG->Prop}(hh:A.handled=none)(hit:a0L s.heap it (.ref ft) i a es.size ep)(hS:Q7 prog w s.heap a es ep)(hf:IsTup s.heap ft (ps.map fun i:Nat=>rawInt i).toArray)
 (hp:ps[i]?=none)
 (hQ:∀h',Heap.ExtBut it s.heap h'->Q none {s with heap:=h'}):AF (model prog w) A (pyNext (.ref it)) Q E s:=by
 obtain⟨o,ho,hc,hd⟩:=id hit
 obtain⟨of,hof,hcf,nf,hdf⟩:=id hf
 unfold pyNext
 refine AD (wpAny_attempt (wpAny_callSpecial?_slot (name:=AC "__next__") hit.typeIs B5 (wpAny_call_entry B5 hit.typeIs Y5 ?_ (a0u _))))
 unfold Builtin.«set_iterator.__next__»
 refine AD (AI ?_)
 refine AD (wpAny_fieldsOf ho hd ?_)
 show AF _ _ (setEntries a>>=_) _ _ s
 refine AD (a2Q hS ?_)
 rw [if_neg (by simp)]
 show AF _ _ (seqItems? (.ref ft)>>=_) _ _ s
 refine AD (wpAny_seqItems hof hdf ?_)
 have hg:((ps.map fun i:Nat=>rawInt i).toArray)[i]?=none:=by
  rw [List.getElem?_toArray,As,hp];rfl
 dsimp only
 rw [show((i:Int).toNat)=i from BE i,hg]
 dsimp only
 refine AD (wpAny_setField ho hd (by simp) ?_)
 have hg1:=Heap.get?_update_self (Obj.mapFields (·.setIfInBounds 0 (rawInt 0))) ho (Obj.isFreed_of_fields (Obj.data_mapFields hd _))
 have hd1:=Obj.data_mapFields hd (·.setIfInBounds 0 (rawInt 0))
 refine AD (wpAny_setField hg1 hd1 (by simp) ?_)
 refine AD ?_
 simp only [newExc,newTuple];refine AD (wpAny_newObj_type ?_ (by size_fits))
 refine AD (m:=firstArgMember _ _) (wpAny_of_eq (a:=Value.none) (by first|rfl|(simp only [firstArgMember];rfl)) (wpAny_newObj_type ?_ (by size_fits)))
 simp only [raiseNew];refine AD (wpAny_handled ?_);rw [show A.in1.handled=none from hh]
 refine AD (AI (wpAny_throw ?_));refine AD (wpAny_isInstance (T:="StopIteration") (b:=true) ⟨_,An _ rfl,rfl⟩ isSubtype_stop ?_)
 exact AI (hQ _ ((((Heap.SameBut.update ..).trans (Heap.SameBut.update ..)).extBut.push _).push _))
def a9W(hit:a0L s.heap it first i a n ep)(h:Q (.ref it) s):AF (model prog w) A (pyIter (.ref it)) Q E s:=by
 refine wpAny_pyIter_slot hit.typeIs a5U (wpAny_call_entry a5U hit.typeIs a8Q ?_ (b0d _))
 show AF _ _ (ret (.ref it)) _ _ s
 exact AI ⟨_,rfl,"set_iterator",_,hit.typeIs,B5.lookup,h⟩
def PlX(h:Heap)(a:AB)(es:Array (Int×AA))(ep:Nat)(pl:Array Nat):Prop:=∃o t,h.get? a=some o/\o.data= .set es ep t/\t.place=pl
def b8J(hb:byT w=false)(hS:Q7 prog w s.heap a es ep)(hP:PlX s.heap a es ep pl)(h1:es.size<=1)
 (h:Q (match es[SetTable.below pl sl]?,pl[SetTable.below pl sl]? with|some (_,x),some j=>some (x,j+1)|_,_=>none) s):AF (model prog w) A (setNext a sl i ep) Q E s:=by
 obtain⟨o,t,ho,hex,hd,hel,hz,hf,hl,hpl⟩:=hS
 obtain⟨o',t',ho',hd',ep'⟩:=hP
 rw [ho] at ho';cases ho'
 rw [hd] at hd';cases hd'
 subst ep'
 rw [hb] at hl
 unfold setNext
 refine AD (wpAny_setState_of ho hd hf ?_)
 dsimp only
 refine AD (b1L ?_)
 rw [hb]
 simp only [BC,↓reduceIte]
 show AF _ _ (if(!t.plain && decide (es.size>1))=true then _ else _) _ _ s
 rw [if_neg (by simp;lia)]
 show AF _ _ ((if(!t.led && !es.isEmpty)=true then _ else _)>>=_) _ _ s
 rw [hl]
 refine AD (AI ?_)
 exact AI h
def c2b(j:Nat):SetTable.below #[j] 0=0:=by simp [SetTable.below,SetTable.below.go]
def c2c(j:Nat):SetTable.below #[j] (j+1)=1:=by simp [SetTable.below,SetTable.below.go]
def c3L(hb:byT w=true)(hh:A.handled=none)(I:AB)(hne:a≠I):Walks prog w A I [I,a] [I] es.size (fun i v=>((pickOrder (w.params.setOrder a ep) es).toList.map (·.2))[i]?=some v) (fun i h=>a0L h I (.int (0:Nat) 0) i a es.size ep/\Q7 prog w h a es ep) where
 sub:=fun b hb=>by simp at hb;simp [hb]
 frame:=fun _ _ _ st hk=>⟨st.1.at' fun o e=>hk I (by simp) o e,st.2.at' fun o e=>hk a (by simp) o e⟩
 item:=fun i s Q E hi st hQ=>by
  have hz:(pickOrder (w.params.setOrder a ep) es).size=es.size:=by
   have:=(a1Q (w.params.setOrder a ep) es).length_eq
   simpa using this
  have hi':i<(pickOrder (w.params.setOrder a ep) es).size:=by lia
  refine b34 (nxt:=0) (v:=(pickOrder (w.params.setOrder a ep) es)[i].2) st.1 st.2 (fun A E Q q=>c1Q hb st.2 (by rw [getElem?_pos _ i hi'];exact q)) fun h' hit' hs'=>hQ _ h' s.toks ?_ ⟨hit',st.2.at' fun o e=>hs'.extBut a o hne e⟩ fun b o hb e=>hs'.extBut b o (fun h=>hb (by simp [h])) e
  rw [As,Array.getElem?_toList,getElem?_pos _ i hi'];rfl
 done:=fun s Q E st hQ=>by
   have hz:(pickOrder (w.params.setOrder a ep) es).size=es.size:=by
    have:=(a1Q (w.params.setOrder a ep) es).length_eq
    simpa using this
   exact b6p hh st.1 st.2 (fun A E Q q=>c1Q hb st.2 (by rw [getElem?_neg _ es.size (by lia)];exact q)) fun h' he'=>hQ h' s.toks fun b o hb e=>he' b o (fun h=>hb (by simp [h])) e
 self:=fun _ _ _ _ st hQ=>a9W st.1 hQ
def c3J(hb:byT w=false)(h1:es.size<=1)(hh:A.handled=none)(I:AB)(hne:a≠I)(hp:pl.size=es.size):
 Walks prog w A I [I,a] [I] es.size (fun i v=>(es.toList.map (·.2))[i]?=some v) (fun i h=>∃sl:Nat,a0L h I (.int sl 0) i a es.size ep/\Q7 prog w h a es ep/\PlX h a es ep pl/\(i=0->sl=0)/\(i≠0->sl=pl.getD 0 0+1)) where
 sub:=fun b hb=>by simp at hb;simp [hb]
 frame:=fun _ _ _ ⟨sl,st1,st2,⟨o,t,ho,r⟩,st4,st5⟩ hk=>⟨sl,st1.at' fun o e=>hk I (by simp) o e,st2.at' fun o e=>hk a (by simp) o e,⟨o,t,hk a (by simp) o ho,r⟩,st4,st5⟩
 item:=fun i s Q E hi ⟨sl,st1,st2,st3,st4,st5⟩ hQ=>by
  have hi0:i=0:=by lia
  subst hi0
  cases st4 rfl
  have hs1:es.size=1:=by lia
  obtain⟨j,rfl⟩:∃j,pl= #[j]:=by
   obtain⟨l⟩:=pl
   cases l with
   |nil=>simp at hp;lia
   |cons j l=>
    cases l with
    |nil=>exact⟨j,rfl⟩
    |cons k l=>simp at hp;lia
  have h0:0<es.size:=by lia
  refine b34 (nxt:=j+1) (v:=es[0].2) st1 st2 (fun A E Q q=>b8J hb st2 st3 h1 (by rw [c2b,getElem?_pos _ 0 h0];exact q)) fun h' hit' hs'=>hQ _ h' s.toks ?_ ⟨j+1,hit',st2.at' fun o e=>hs'.extBut a o hne e, ?_,fun z=>absurd z (Nat.succ_ne_zero 0),fun _=>rfl⟩ fun b o hb e=>hs'.extBut b o (fun h=>hb (by simp [h])) e
  ·rw [As,Array.getElem?_toList,getElem?_pos _ 0 h0];rfl
  ·obtain⟨o,t,ho,r⟩:=st3
   exact⟨o,t,hs'.extBut a o hne ho,r⟩
 done:=fun s Q E ⟨sl,st1,st2,st3,st4,st5⟩ hQ=>by
   refine b6p hh st1 st2 (fun A E Q q=>b8J hb st2 st3 h1 ?_) fun h' he'=>hQ h' s.toks fun b o hb e=>he' b o (fun h=>hb (by simp [h])) e
   by_cases h0:es.size=0
   ·have e0:es[SetTable.below pl sl]?=none:=getElem?_neg _ _ (by lia)
    rw [e0];exact q
   ·cases st5 h0
    obtain⟨j,rfl⟩:∃j,pl= #[j]:=by
     obtain⟨l⟩:=pl
     cases l with
     |nil=>simp at hp;lia
     |cons j l=>
      cases l with
      |nil=>exact⟨j,rfl⟩
      |cons k l=>simp at hp;lia
    have e1:SetTable.below #[j] ((#[j]:Array Nat).getD 0 0+1)=1:=c2c j
    rw [e1,getElem?_neg _ 1 (by lia)];exact q
 self:=fun _ _ _ _ ⟨_,st,_⟩ hQ=>a9W st hQ
def c3K(hh:A.handled=none)(I ft:AB)(hne:a≠I)(hnf:ft≠I){ps:List Nat}(hp:ps.Perm (Ao es.size)):
 Walks prog w A I [I,a,ft] [I] es.size (fun i v=>(ps.map fun p:Nat=>(es[p]?.map (·.2)).getD .none)[i]?=some v) (fun i h=>a0L h I (.ref ft) i a es.size ep/\Q7 prog w h a es ep/\IsTup h ft (ps.map fun i:Nat=>rawInt i).toArray) where
 sub:=fun b hb=>by simp at hb;simp [hb]
 frame:=fun _ _ _ ⟨st1,st2,⟨o,ho,r⟩⟩ hk=>⟨st1.at' fun o e=>hk I (by simp) o e,st2.at' fun o e=>hk a (by simp) o e,⟨o,hk ft (by simp) o ho,r⟩⟩
 item:=fun i s Q E hi ⟨st1,st2,st3⟩ hQ=>by
  have hl:ps.length=es.size:=by have:=hp.length_eq;simpa using this
  have hi':i<ps.length:=by lia
  have hm:ps[i]<es.size:=List.mem_range.mp (hp.mem_iff.mp (List.getElem_mem hi'))
  refine b7r (pl:=ps[i]) (v:=es[ps[i]]) st1 st2 st3 (Az hi') (getElem?_pos es ps[i] hm) fun h' hit' hs'=>hQ _ h' s.toks ?_ ⟨hit',st2.at' fun o e=>hs'.extBut a o hne e, ?_⟩ fun b o hb e=>hs'.extBut b o (fun h=>hb (by simp [h])) e
  ·rw [As,Az hi',Ai,getElem?_pos es ps[i] hm];rfl
  ·obtain⟨o,ho,r⟩:=st3
   exact⟨o,hs'.extBut ft o hnf ho,r⟩
 done:=fun s Q E ⟨st1,st2,st3⟩ hQ=>by
   have hl:ps.length=es.size:=by have:=hp.length_eq;simpa using this
   exact b9D hh st1 st2 st3 (List.getElem?_eq_none (by lia)) fun h' he'=>hQ h' s.toks fun b o hb e=>he' b o (fun h=>hb (by simp [h])) e
 self:=fun _ _ _ _ st hQ=>a9W st.1 hQ
def b3V{es:Array (Int×AA)}{ps:List Nat}(hp:ps.Perm (Ao es.size)):(ps.map fun p:Nat=>(es[p]?.map (·.2)).getD .none).Perm (es.toList.map (·.2)):=by
 refine(hp.map _).trans ?_
 have:(Ao es.size).map (fun p:Nat=>(es[p]?.map (·.2)).getD .none)=es.toList.map (·.2):=by
  apply List.ext_getElem
  ·simp
  ·intro i h1 h2
   simp only [Ak,BI] at h1
   simp [h1]
 rw [this]
def b94(hS:Q7 prog w s.heap a es ep)(h:∀t:SetTable,(es.size≠0->t.plain=false)->Q (!byT w &&(!t.plain && decide (es.size>1))) s):AF (model prog w) A (setDrawn a) Q E s:=by
 obtain⟨o,t,ho,hex,hd,hel,hz,hf,hl,hpl⟩:=hS
 unfold setDrawn
 refine AD (wpAny_setState_of ho hd hf ?_)
 dsimp only
 refine AD (b1L ?_)
 exact AI (h t hpl)
def b5N(hS:Q7 prog w s.heap a es ep)(h:Q ep s):AF (model prog w) A (setEpoch a) Q E s:=
 let ⟨_,_,ho,_,hd,_,_,hf,_⟩:=hS;wpAny_setEpoch_of ho hd hf h
def c2G{Q:AA->AG->Prop}(hS:Q7 prog w s.heap a es ep)
 (h:∀(h':Heap) d I fp (St:Nat->Heap->Prop) (ord:List AA),(∀b o,s.heap.get? b=some o->h'.get? b=some o)->s.heap.objs.size<=I->(∀b∈fp,s.heap.objs.size<=b\/b=a)->ord.Perm (es.toList.map (·.2))->
  (∀A':Al,A'.handled=none->Walks prog w A' I fp [I] es.size (fun i v=>ord[i]?=some v) St)->St 0 h'->Q (.ref I) {s with heap:=h',drawn:=d}):AF (model prog w) A (pyIter (.ref a)) Q E s:=by
 have hlt:a<s.heap.objs.size:=let ⟨_,_,ho,_⟩:=hS;AW ho
 refine wpAny_pyIter_slot hS.typeIs F.slot_set_iter (wpAny_call_entry F.slot_set_iter hS.typeIs b1S ?_ (F.args_set_iter_1 _))
 unfold Builtin.«frozenset.__iter__»
 refine AD (AI ?_)
 show AF _ _ (Builtin.Frozenset.sizeOf a>>=_) _ _ s
 unfold Builtin.Frozenset.sizeOf
 refine AD (AD (a2Q hS (AI ?_)))
 refine AD (b94 hS fun t ht=> ?_)
 by_cases hd:(!byT w &&(!t.plain && decide (es.size>1)))=true
 ·rw [if_pos hd]
  simp only [Bool.and_eq_true,Bool.not_eq_true',decide_eq_true_eq] at hd
  refine AD (b0R es.size (Ao es.size) s _ (by simp) fun ps d hp=> ?_)
  simp only [newTuple]
  refine AD (wpAny_newObj_type ?_ ?_)
  ·have hk:∀b o,s.heap.get? b=some o->(s.heap.push {cls:= .type "tuple",data:= .seq (ps.map fun i:Nat=>rawInt i).toArray}).get? b=some o:=fun b o e=>AT _ e
   refine AD (b5N (hS.at' fun o e=>hk a o e) ?_)
   simp only [newFields]
   refine AD (wpAny_newObj_type ?_ (by size_fits))
   refine AI ⟨_,rfl,"set_iterator",_,⟨_,An _ rfl,rfl⟩,B5.lookup, ?_⟩
   refine h _ d _ [s.heap.objs.size+1,a,s.heap.objs.size] (fun i h=>a0L h (s.heap.objs.size+1) (.ref s.heap.objs.size) i a es.size ep/\Q7 prog w h a es ep/\IsTup h s.heap.objs.size (ps.map fun i:Nat=>rawInt i).toArray) _ (fun b o e=>AT _ (hk b o e)) (by rw [Heap.size_push];exact Nat.le_succ _) (fun b hb=> ?_) (b3V hp) (fun A' hA=> ?_) ?_
   rotate_left
   ·have:=c3K (prog:=prog) (w:=w) (ep:=ep) hA (s.heap.objs.size+1) s.heap.objs.size (Am (Nat.lt_succ_of_lt hlt)) (Am (Nat.lt_succ_self _)) hp
    rw [Heap.size_push]
    exact this
   ·have e1:(s.heap.push {cls:= .type "tuple",data:= .seq (ps.map fun i:Nat=>rawInt i).toArray}).objs.size=s.heap.objs.size+1:=Heap.size_push ..
    refine⟨⟨{cls:= .type "set_iterator",data:= .fields [.ref s.heap.objs.size,rawInt 0,.ref a,rawInt es.size,rawInt ep].toArray}, ?_,rfl,rfl⟩,hS.at' fun o e=>AT _ (hk a o e),_,AT _ (An _ rfl),rfl,_,rfl⟩
    rw [<-e1]
    exact An _ rfl
   ·simp only [AZ,List.not_mem_nil,or_false] at hb
    rcases hb with rfl|rfl|rfl
    ·exact .inl (Nat.le_succ _)
    ·exact .inr rfl
    ·exact .inl (AR _)
  ·have hz:es.size<scanBound:=let ⟨_,_,_,_,_,_,hz,_⟩:=hS;hz
   have hl:ps.length=es.size:=by have:=hp.length_eq;simpa using this
   have hsl:=sizeLine_eq
   unfold scanBound at hz
   show(ps.map fun i:Nat=>rawInt i).toArray.size<=AL
   simp [hl]
   lia
 ·rw [if_neg hd]
  refine AD (AI ?_)
  refine AD (b5N hS ?_)
  simp only [newFields]
  refine AD (wpAny_newObj_type ?_ (by size_fits))
  refine AI ⟨_,rfl,"set_iterator",_,⟨_,An _ rfl,rfl⟩,B5.lookup, ?_⟩
  have hit:a0L (s.heap.push {cls:= .type "set_iterator",data:= .fields [rawInt 0,rawInt 0,.ref a,rawInt es.size,rawInt ep].toArray}) s.heap.objs.size (.int (0:Nat) 0) 0 a es.size ep:=⟨_,An _ rfl,rfl,rfl⟩
  have hS':=hS.at' (h':=s.heap.push {cls:= .type "set_iterator",data:= .fields [rawInt 0,rawInt 0,.ref a,rawInt es.size,rawInt ep].toArray}) fun o e=>AT _ e
  have hfp:∀b∈[s.heap.objs.size,a],s.heap.objs.size<=b\/b=a:=fun b hb=>by
   simp only [AZ,List.not_mem_nil,or_false] at hb
   rcases hb with rfl|rfl
   ·exact .inl (AR _)
   ·exact .inr rfl
  cases hb:byT w with
  |true=>exact h _ s.drawn _ [s.heap.objs.size,a] _ _ (fun b o e=>AT _ e) (AR _) hfp ((a1Q (w.params.setOrder a ep) es).map _) (fun A' hA=>c3L hb hA _ (Am hlt)) ⟨hit,hS'⟩
  |false=>
   have h1:es.size<=1:=by
    rw [hb] at hd
    by_cases hz:es.size<=1
    ·exact hz
    ·exfalso
     rw [ht (by lia)] at hd
     simp at hd
     lia
   obtain⟨o,t',ho,hex,hdd,hel,hzz,hf,hl,hpl⟩:=id hS
   have hps:t'.place.size=es.size:=by
    simp only [SetTable.fits,Bool.and_eq_true,beq_iff_eq] at hf
    exact hf.1
   exact h _ s.drawn _ [s.heap.objs.size,a] _ _ (fun b o e=>AT _ e) (AR _) hfp (List.Perm.refl _) (fun A' hA=>c3J hb h1 hA _ (Am hlt) hps) ⟨0,hit,hS',⟨o,t',AT _ ho,hdd,rfl⟩,fun _=>rfl,fun z=>absurd rfl z⟩
def b8i(hT:s.TypeIs (.ref r) "set")(h:Q false s):AF (model prog w) A (Builtin.List.listLengthHint (.ref r)) Q E s:=by
 unfold Builtin.List.listLengthHint
 refine AD (wpAny_specialOf hT PySem.F.slot_set_len.lookup ?_)
 generalize hid:("set.__len__":String)=id0
 wp_delta
 rw [show splitId id0=some ("set","__len__") from by subst hid;decide+kernel]
 subst hid
 refine AD (wpAny_isInstance (T:="set") (b:=true) hT (by rw [isSubtype_type];kernel_rfl) ?_)
 refine wpAny_ite_split (fun hab=>absurd hab (by decide)) (fun _=> ?_)
 refine wpAny_ite_split (fun _=> ?_) (fun hab=>absurd (by decide+kernel) hab)
 refine AD (wpAny_typeOf hT ?_)
 exact AI h
def b6C(hh:A.handled=none)(hS:Q7 prog w s.heap a es ep)
 (hQ:∀h' tk d ord,(∀b o,s.heap.get? b=some o->h'.get? b=some o)->ord.Perm (es.toList.map (·.2))->Q ord {s with heap:=h',toks:=tk,drawn:=d}):AF (model prog w) A (collect (.ref a)) Q E s:=by
 have hlt:a<s.heap.objs.size:=let ⟨_,_,ho,_⟩:=hS;AW ho
 have hn:es.size<=AL:=by
  have hz:es.size<scanBound:=let ⟨_,_,_,_,_,_,hz,_⟩:=hS;hz
  have hsl:=sizeLine_eq
  unfold scanBound at hz
  lia
 unfold collect
 refine AD (wpAny_runValue (codeAny_builtin F.entry_proto_collect ?_));rw [Around.under_plainId F.plain_proto_collect _]
 show AF _ A.in1 (newList []>>=fun l=>again (.builtin "list.__iadd__" ⟨[l,.ref a],[]⟩)) _ _ s;refine AD (wpAny_newObj_type ?_)
 refine AI ⟨plainId_quiet F.plain_list_iadd _,codeAny_builtin F.entry_list_iadd ?_⟩;rw [Around.under_plainId F.plain_list_iadd _]
 show AF _ A.in1 (Builtin.List.listExtendWith (.ref s.heap.objs.size) (.ref a) (.ref s.heap.objs.size)) _ _ _
 have hS0:(s.heap.push {cls:= .type "list",data:= .seq ([]:List AA).toArray}).get? s.heap.objs.size=some {cls:= .type "list",data:= .seq ([]:List AA).toArray}:=An _ rfl
 have hSX:=hS.at' (h':=s.heap.push {cls:= .type "list",data:= .seq ([]:List AA).toArray}) fun o e=>AT _ e
 have hk0:∀b o,s.heap.get? b=some o->(s.heap.push {cls:= .type "list",data:= .seq ([]:List AA).toArray}).get? b=some o:=fun b o e=>AT _ e
 have hsz:(s.heap.push {cls:= .type "list",data:= .seq ([]:List AA).toArray}).objs.size=s.heap.objs.size+1:=Heap.size_push ..
 generalize hH:s.heap.push {cls:= .type "list",data:= .seq ([]:List AA).toArray}=H at hS0 hSX hk0 hsz ⊢
 unfold Builtin.List.listExtendWith
 refine AD (wpAny_typeOf (T:="set") hSX.typeIs ?_)
 have hne:s.heap.objs.size≠a:=Nat.ne_of_gt hlt
 have h1:Builtin.List.listSameRef (.ref s.heap.objs.size) (.ref a)=false:=by simp [Builtin.List.listSameRef,hne]
 have h2:(Value.type "set"==Value.type "list")=false:=by decide
 have h3:(Value.type "set"==Value.type "tuple")=false:=by decide
 simp only [h1,h2,h3,Bool.or_false,BC,if_false]
 refine AD (c2G hSX fun h' d I fp St ord hk hI hfp hp W hst=> ?_)
 refine AD (wpAny_holding (b8i (hSX.at' fun o e=>hk _ _ e).typeIs ?_))
 have hSf:s.heap.objs.size∉fp:=fun hb=>by
  rcases hfp _ hb with h|h
  ·rw [hsz] at h;exact absurd h (Nat.not_le.mpr (Nat.lt_succ_self _))
  ·exact hne h
 have hIlt:s.heap.objs.size<I:=by
  have hI':s.heap.objs.size+1<=I:=by rw [<-hsz];exact hI
  exact hI'
 have key:∀(h2:Heap) (c₁:Nat),St 0 h2->(∀b o,b≠s.heap.objs.size->s.heap.get? b=some o->h2.get? b=some o)->h2.get? s.heap.objs.size=some {cls:= .type "list",data:= .seq #[] c₁}->
  codeAny (model prog w) A (.builtin "list.extend.loop" ⟨[.ref s.heap.objs.size,.ref I,.ref s.heap.objs.size],[]⟩) (fun r s'=>match r with| .ok (.ret v)=>AF (model prog w) A (match v with| .ref a=>(do let o<-load a;match o.data with| .seq xs _=>pure xs.toList|_=>unsupported "internal:collect")|_=>unsupported "internal:collect") Q E s'| .ok _=>False| .error e=>E e s') {s with heap:=h2,drawn:=d}:=by
  intro h2 c₁ hst2 hk2 hS2
  refine codeAny_extend_loopS (W A.in1 hh).toS hn s.heap.objs.size hSf _ es.size 0 _ #[] c₁ rfl (Nat.zero_le _) hst2 hS2 (ItemsOf.nil _) fun s' acc' c' hm hS' hacc=> ?_
  show AF _ A (load s.heap.objs.size>>=_) _ _ _
  refine AD (wpAny_load hS' ?_)
  have e:acc'.toList=ord:=by
   have hl:ord.length=es.size:=by have:=hp.length_eq;simpa using this
   apply List.ext_getElem?
   intro j
   by_cases hj:j<acc'.size
   ·have h1:j<acc'.size:=hj
    have:=hacc.2 j acc'[j] (by simp [h1])
    rw [this,Array.getElem?_toList,getElem?_pos acc' j h1]
   ·rw [Array.getElem?_toList,getElem?_neg acc' j hj,List.getElem?_eq_none (by rw [hl,<-hacc.1];lia)]
  refine AI ?_
  obtain⟨h3,g3,d3,tk3,os3⟩:=s'
  have eg:g3=s.gens:=hm.gens
  have ed:d3=d:=hm.drawn
  have eo:os3=s.os:=hm.os
  subst eg;subst ed;subst eo
  show Q acc'.toList _
  rw [e]
  refine hQ h3 tk3 d3 ord (fun b o q=> ?_) hp
  have hblt:=AW q
  refine hm.heap b o (fun hb=> ?_) (hk2 b o (Am hblt) q)
  rcases AZ.mp hb with h|h
  ·exact absurd hblt (by rw [h];exact Nat.lt_irrefl _)
  ·rw [List.mem_singleton.mp h] at hblt;exact absurd hblt (Nat.not_lt.mpr (BD hIlt))
 refine wpAny_ite_split (fun _=> ?_) (fun _=>AI ⟨plainId_quiet PySem.F.plain_extend_loop _,key _ _ hst (fun b o hb q=>hk _ _ (hk0 _ _ q)) (hk _ _ hS0)⟩)
 refine AD (wpAny_rule ?_)
 refine AD ?_
 show AF _ _ (updateSeq s.heap.objs.size (·.push .none)>>=fun _=>updateSeq s.heap.objs.size (·.pop)) _ _ _
 have hS1:=hk _ _ hS0
 refine AD (wpAny_updateSeq hS1 rfl ?_)
 have hS₂:=Heap.get?_update_self (Obj.mapSeq (·.push Value.none)) hS1 rfl
 refine wpAny_updateSeq (hz:=by seq_fits) hS₂ rfl ?_
 have hS₃:=Heap.get?_update_self (Obj.mapSeq (·.pop)) hS₂ rfl
 refine AI ⟨plainId_quiet PySem.F.plain_extend_loop _,key _ _ ?_ (fun b o hb e=> ?_) hS₃⟩
 ·refine(W A.in1 hh).frame 0 _ _ hst fun b hb o e=> ?_
  have hbS:b≠s.heap.objs.size:=fun h=>hSf (h▸hb)
  exact(Heap.get?_update_other _ _ (Ne.symm hbS)).trans ((Heap.get?_update_other _ _ (Ne.symm hbS)).trans e)
 ·exact(Heap.get?_update_other _ _ (Ne.symm hb)).trans ((Heap.get?_update_other _ _ (Ne.symm hb)).trans (hk _ _ (hk0 _ _ e)))
def b35{l:AB}{C:List AA->Prop}{Q:AA->AG->Prop}
 (hcol:∀(Q':List AA->AG->Prop) (E':AA->AG->Prop),(∀h1 tk d vs,(∀b o,s.heap.get? b=some o->h1.get? b=some o)->C vs->Q' vs {s with heap:=h1,toks:=tk,drawn:=d})->AF (model prog w) A.in1 (collect (.ref l)) Q' E' s)
 (hC:∀vs,C vs->vs.length<64/\∃ss,StrsAre vs ss)
 (h:∀(h1 h':Heap) (tk:Tok) d (e:Nat) (vs us:List AA) (ss:List Str),(∀b o',s.heap.get? b=some o'->h1.get? b=some o')->(∀b o',h1.get? b=some o'->h'.get? b=some o')->C vs->StrsAre vs ss->StrsAre us (a2m ss)->
  h'.get? h1.objs.size=some (seqObj "list" us.toArray e)->Q (.ref h1.objs.size) {s with heap:=h',toks:=tk,drawn:=d}):
 AF (model prog w) A (call (.builtin "sorted") [.ref l]) Q E s:=by
 refine Calls.call_function_entry kind_sorted plain_sorted entry_sorted (args_sorted1 _) ?_
 unfold Builtin.«sorted»
 refine AD (m:=checkCount "sorted" 1 1 _) (AI ?_)
 refine AD (hcol _ _ fun h1 tk d vs k1 hv=> ?_)
 obtain⟨h64,ss,hS⟩:=hC vs hv
 refine AD (wpAny_newList ?_ (by rw [sizeLine_eq];lia))
 have hoL:(h1.push (seqObj "list" vs.toArray 0)).get? h1.objs.size=some (seqObj "list" vs.toArray 0):=An _ rfl
 show AF _ _ _ _ _ {s with heap:=h1.push (seqObj "list" vs.toArray 0),toks:=tk,drawn:=d}
 refine AD (wpAny_holding (wpAny_call_entry slot_list_sort ⟨_,hoL,rfl⟩ entry_list_sort (list_sort_treeK strKind_oneLt hoL hS.keysOf (fun v₁ v₂ rest e=>keyKind_strs (by rw [<-e];exact hS)) h64 fun st' a1 a2=>⟨_,rfl, ?_⟩) (args_list_sort _)))
 obtain⟨ss',g1,g2,g3⟩:=sorted_out_str hS a1 a2
 have e1:ss'=a2m ss:=a2n (a9Z g3) (Z7 ss) (g2.trans (S4 ss).symm)
 subst e1
 obtain⟨e,he⟩:=sortedHeap_at (out:=(arrOf st').map (·.2)) hoL
 refine AI ⟨_,rfl,h h1 _ tk d e vs _ ss k1 (fun b o' hb1=> ?_) hv hS g1 (by rw [Array.toArray_toList];exact he)⟩
 have hlt:=AW hb1
 rw [sortedHeap_old (Am hlt) (by rw [size_push'];exact Nat.lt_succ_of_lt hlt),Heap.get?_push_ne _ _ _ (Am hlt)]
 exact hb1
def b4R(x:Str):List Str->List Str
 |[]=>[x]
 |y::r=>if x=y then y::r else if y.cps.toList<x.cps.toList then y::b4R x r else x::y::r
def z0:List Str->List Str
 |[]=>[]
 |x::r=>b4R x (z0 r)
theorem a82(x z:Str):∀l:List Str,z∈b4R x l↔z=x\/z∈l
 |[]=>by simp [b4R]
 |y::r=>by
  unfold b4R
  split
  ·rename_i c;subst c
   rw [AZ]
   exact⟨fun h=> .inr h,fun h=>h.elim .inl id⟩
  ·split
   ·rw [AZ,a82 x z r,AZ]
    exact⟨fun h=>h.elim (fun h=> .inr (.inl h)) fun h=>h.elim .inl fun h=> .inr (.inr h),fun h=>h.elim (fun h=> .inr (.inl h)) fun h=>h.elim .inl fun h=> .inr (.inr h)⟩
   ·rw [AZ]
theorem a20(z:Str):∀l:List Str,z∈z0 l↔z∈l
 |[]=>Iff.rfl
 |x::r=>by unfold z0;rw [a82,a20 z r,AZ]
def ltS(a b:Str):Prop:=a.cps.toList<b.cps.toList
def b6Y(h:ltS a b)(g:ltS b c):ltS a c:=List.lt_trans h g
theorem b51(x:Str):∀{l:List Str},l.Pairwise ltS->(b4R x l).Pairwise ltS
 |[],_=>List.pairwise_singleton _ _
 |y::r,h=>by
  unfold b4R
  have h':=List.pairwise_cons.mp h
  split
  ·exact h
  ·rename_i c
   split
   ·rename_i c2
    refine List.pairwise_cons.mpr ⟨fun z hz=> ?_,b51 x h'.2⟩
    rcases(a82 x z r).mp hz with e|e
    ·subst e;exact c2
    ·exact h'.1 z e
   ·rename_i c2
    have hxy:ltS x y:=by
     have h1:leS x y:=c2
     rcases Classical.em (ltS x y) with h|h
     ·exact h
     ·exact absurd (b3p h1 h) c
    refine List.pairwise_cons.mpr ⟨fun z hz=> ?_,h⟩
    rcases AZ.mp hz with e|e
    ·subst e;exact hxy
    ·exact b6Y hxy (h'.1 z e)
theorem a21:∀l:List Str,(z0 l).Pairwise ltS
 |[]=>List.Pairwise.nil
 |x::r=>b51 x (a21 r)
def c0D(a:Str):¬ltS a a:=List.lt_irrefl _
def a97{l:List Str}(h:l.Pairwise ltS):l.Nodup:=h.imp fun {a b} c e=>by subst e;exact c0D a c
def c1Y{l:List Str}(h:l.Pairwise ltS):l.Pairwise leS:=h.imp fun {a b} c=>List.lt_asymm c
def a6m{l zs:List Str}(h:l.Pairwise leS)(nd:l.Nodup)(m:∀x,x∈l↔x∈zs):l=z0 zs:=
 a2n h (c1Y (a21 zs)) ((List.perm_ext_iff_of_nodup nd (a97 (a21 zs))).mpr fun x=>(m x).trans (a20 x zs).symm)
theorem a92:∀{vs:List AA},(∀v∈vs,∃x t,v= .str x t)->StrsAre vs (vs.map sOf)
 |[],_=> .nil
 |v::r,h=>by
  obtain⟨x,t,rfl⟩:=h v Ab
  exact .cons x t (a92 fun u hu=>h u (Ah _ hu))
theorem a79:∀{vs:List AA} {ss:List Str},StrsAre vs ss->ss=vs.map sOf
 |_,_,.nil=>rfl
 |_,_,.cons x t h=>by rw [AK,<-a79 h];rfl
def c0r(I:Inv X pins σ H s)(d:Drawn):Inv X pins σ H {s with drawn:=d}:=⟨I.ok,I.os,I.bare,I.base,I.loc,I.cell,I.free,I.freeC,I.pin,I.hok,I.len⟩
def c3s(X:Cx):List V->Hp->VK->Prop:=fun xs H Q=>∃p es ep zs,xs=[.ref p]/\H p=some (.ext fun h=>Q7 X.prog X.w h p es ep)/\TxE es zs/\(z0 zs).length<64/\∀q,H q=none->Q (.ref q) (K7 H q (.lst ((z0 zs).map V.str)))
def b4z(hc:X.calm=true):R0 X (.builtin "sorted") (c3s X):=by
 intro pins s σ H xs us Q I rv h
 obtain⟨p,es,ep,zs,rfl,hp,hT,h64,q⟩:=h
 obtain⟨u,rfl,ru⟩:=a1i rv
 cases ru
 obtain⟨hS,_,_⟩:=(show K3 X.prog X.w H s.heap p (.ext fun h=>Q7 X.prog X.w h p es ep) from I.hok p _ hp)
 have facts:∀vs:List AA,vs.Perm (es.toList.map (·.2))->StrsAre vs (vs.map sOf)/\a2m (vs.map sOf)=z0 zs:=fun vs pm=>by
  refine⟨a92 fun v hv=> ?_, ?_⟩
  ·obtain⟨e,he,rfl⟩:=Au.mp (pm.mem_iff.mp hv)
   exact hT.all e he
  ·have pk:(a2m (vs.map sOf)).Perm (a88 es):=by
    refine(S4 _).trans ?_
    have:=pm.map sOf
    rw [BA] at this
    exact this
   exact a6m (Z7 _) (pk.nodup_iff.mpr hT.nd) fun x=>(pk.mem_iff).trans (hT.mem x)
 refine b35 (C:=fun vs=>vs.Perm (es.toList.map (·.2))) (fun Q' E' hq=>b6C (A:=X.A.in1) (I.ok.hd hc) hS fun h' tk d ord kp pm=>hq h' tk d ord kp pm) (fun vs pm=> ?_) fun hp1 hp2 tk d en vs us ss k1 k2 pm hs hu he=> ?_
 ·obtain⟨f1,f2⟩:=facts vs pm
  refine⟨?_,_,f1⟩
  have:=(S4 (vs.map sOf)).length_eq
  rw [f2,Ak] at this
  lia
 ·obtain⟨f1,f2⟩:=facts vs pm
  cases a79 hs
  rw [f2] at hu
  have I1:Inv X pins σ H {s with heap:=hp1,toks:=tk,drawn:=d}:=c0r (I.kept (t':=tk) k1) d
  have hf:H hp1.objs.size=none:=I1.hok.fresh (AR _)
  exact⟨.ref hp1.objs.size,_,I1.laid (t':=tk) (h':=hp2) (o:= .lst ((z0 zs).map V.str)) k2 (AR _) ⟨by rw [Ak,sizeLine_eq];lia,us,en,a7E hu,he⟩,rfl,q _ hf⟩
open PySem PySem.Spec PyProof.Rows L2
theorem b5B(k:Key):∀xs:List (Key×V),a5c (xs.map s1) [k]=a5c xs k
 |[]=>rfl
 |x::r=>by
  rw [AK]
  by_cases c:x.1=k
  ·rw [a5e (p:=x) c,a5e (p:=s1 x) (by show [x.1]=[k];rw [c])];rfl
  ·rw [a5d (p:=x) c,a5d (p:=s1 x) (by show ¬[x.1]=[k];intro h;exact c (List.cons.inj h).1),b5B k r]
def b8q{K:AE}{F H:Hp}{r:g6}{x:Str}{v:V}(e:c2J r=some x)(h:U1 K F H v r):v=kV (.inr x):=by
 unfold c2J at e
 split at e
 ·cases e;exact h
 ·cases e
section
variable {prog:Ac}{w:AU}{K:Type}[DecidableEq K]{knd:KeyKind prog w K}{A:Al}{E:AA->AG->Prop}{s:AG}
end
end PU
namespace TS
open PySem PySem.Spec PyProof.Rows L2 PU
end TS
namespace PU
open PySem PySem.Spec PyProof.Rows L2 PySem.W
open PySem PySem.Spec PyProof.Rows L2
def c4l(kvs:List (List Key×PV)):Bool:=kvs.all fun kv=>kv.1.length==1
def tvw(i:Nat)(ρ:e9):Option (List (List Key×PV)):=match ρ[i]? with
 |some (some (.val (.dict es)))=>(unE es).bind fun kvs=>if c4l kvs=true then some kvs else none
 |_=>none
def c3G{K:AE}{F H:Hp}{σ:L2.St}{ρ:e9}(en:W7 K F H σ ρ){i:Nat}{kvs:List (List Key×PV)}(h:tvw i ρ=some kvs):∃a xs,σ[i]?=some (some (.ref a))/\F a=some (.dK xs)/\a38 K F kvs (xs.map s1):=by
 unfold tvw at h
 split at h
 ·rename_i es eo
  obtain⟨kvs',e1,h⟩:=bind_some h
  split at h
  ·rename_i ho
   cases h
   obtain⟨v,hv,hr⟩:=en.at_ i _ eo
   rcases hr with⟨a,ys,rfl,ha,hr⟩|⟨a,xs,rfl,ha,hr⟩|⟨x,t,e,_⟩|⟨x,m,fs,_,hr⟩
   ·obtain⟨kvs',h1,h2⟩:=b2G hr
    rw [e1] at h1
    cases h1
    exact⟨a,ys,hv,ha,h2⟩
   ·exfalso
    obtain⟨kvs',h1,h2⟩:=b2G hr
    rw [e1] at h1
    cases h1
    cases kvs with
    |nil=>cases h2
    |cons f fs=>
     obtain⟨k,p⟩:=f
     obtain⟨v,t,e,_⟩:=h2
     cases e
     simp [c4l] at ho
   ·subst e
    simp [unE] at e1
   ·cases es with
    |nil=>cases hr
    |cons f es=>obtain⟨k,p⟩:=f;obtain⟨_,_,_,_,z,_⟩:=hr;subst z;simp [unE] at e1
  ·cases h
 ·cases h
section
variable {prog:Ac}{w:AU}{K:Type}[DecidableEq K]{knd:KeyKind prog w K}{A:Al}{E:AA->AG->Prop}{s:AG}
end
end PU
set_option maxHeartbeats 3200000
namespace PU
open PySem PySem.Spec PyProof.Rows L2 PySem.W
def sgl(zs:List Str)(i:Nat):List Str:=(zs.take i).reverse
def b9B(h:zs[i]?=some z):sgl zs (i+1)=z::sgl zs i:=by
 unfold sgl
 rw [List.take_succ,h]
 simp
def b5D{I:AB}{fp wr:List AB}{G:Array GenState->Array GenState->Prop}{n:Nat}{P P':Nat->AA->Prop}{St:Nat->AG->Prop}(W:WalksS prog w A I fp wr G n P St)(h:∀i v,P i v->P' i v):WalksS prog w A I fp wr G n P' St:=
 {W with item:=fun i s Q E hi st hQ=>W.item i s Q E hi st fun v s' p=>hQ v s' (h i v p)}
def c2Q{R:Result->AG->Prop}{I:AB}{fp wr:List AB}{G:Array GenState->Array GenState->Prop}{n:Nat}{St:Nat->AG->Prop}{zs:List Str}
 (W:WalksS prog w A.in1 I fp wr G n (fun i v=>∃z u,zs[i]?=some z/\v=Value.str z u) St) (S:AB) (hSf:S∉fp) (hb:n+1<scanBound):
 ∀(k i:Nat) (s:AG) (es:Array (Int×AA)) (ep:Nat),n - i=k->i<=n->St i s->Q7 prog w s.heap S es ep->TxE es (sgl zs i)->es.size<=i->
  (∀s' es' ep',Moved (S::wr) G s s'->Q7 prog w s'.heap S es' ep'->TxE es' (sgl zs n)->es'.size<=n->R (.ok (.ret .none)) s')->
  codeAny (model prog w) A (.builtin "set.update.loop" ⟨[.ref S,.ref I],[]⟩) R s:=by
 have hSw:S∉wr:=fun h=>hSf (W.sub _ h)
 have hsub:∀b∈wr,b∈S::wr:=fun b hb=>Ah _ hb
 intro k
 induction k with
 |zero=>
  intro i s es ep hk hi hst hS hT hz hR
  have hin:i=n:=by lia
  subst hin
  refine codeAny_builtin F.entry_set_update_loop ?_
  rw [Around.under_plainId F.plain_set_update_loop _]
  show AF _ A.in1 (pyNext (.ref I)>>=_) _ _ s
  refine AD (W.done s _ _ hst fun s' hm=> ?_)
  show AF _ A.in1 (ret Value.none) _ _ s'
  exact AI (hR s' es ep (hm.mono hsub) (hS.at' fun o e=>hm.heap S _ hSw e) hT hz)
 |succ k ih=>
  intro i s es ep hk hi hst hS hT hz hR
  have hlt:i<n:=by lia
  refine codeAny_builtin F.entry_set_update_loop ?_
  rw [Around.under_plainId F.plain_set_update_loop _]
  show AF _ A.in1 (pyNext (.ref I)>>=_) _ _ s
  refine AD (W.item i s _ _ hlt hst fun v s' hP hst' hm=> ?_)
  obtain⟨z,u,hc,rfl⟩:=hP
  have hS':Q7 prog w s'.heap S es ep:=hS.at' fun o e=>hm.heap S _ hSw e
  show AF _ A.in1 (holding [Value.str z u] (setAdd S (.str z u))>>=_) _ _ s'
  refine AD (wpAny_holding ?_)
  unfold setAdd
  refine wpAny_holding ?_
  refine AD ((B3 prog w).pyHash (k:= .inr z) (a2g _ _ _ _) ?_)
  refine c3U (s:={s' with toks:=s'.toks+1}) hS' hT (by lia) fun h' es' ep' b hsb hS2 hT2 hz2=> ?_
  rw [<-b9B hc] at hT2
  refine AI ⟨plainId_quiet F.plain_set_update_loop _,ih (i+1) _ es' ep' (by lia) hlt (W.frame _ s' _ _ hst' (Nat.le_succ _) fun b hb o e=> ?_) hS2 hT2 (by lia) fun s'' es'' ep'' hm'' hS'' hT'' hz''=> ?_⟩
  ·rw [hsb.2 b (fun h:b=S=>hSf (by rw [<-h];exact hb))];exact e
  ·refine hR s'' es'' ep'' (Moved.trans W.gtrans ((hm.mono hsub).then_heap (Nat.le_succ _) fun b o hb e=> ?_) hm'') hS'' hT'' hz''
   rw [hsb.2 b (fun h:b=S=>hb (by rw [h];exact Ab))];exact e
def c4B(hh:A.handled=none)(hl:s.heap.IsList l items)(hi:∀(i:Nat) v,items[i]?=some v->∃z u,zs[i]?=some z/\v=Value.str z u)(hn:items.size=zs.length)(hb:items.size+1<scanBound)
 (h:∀(h':Heap) (tk:Nat) es ep,Q7 prog w h' s.heap.objs.size es ep->TxE es (sgl zs items.size)->es.size<=items.size->
  (∀b o,b<s.heap.objs.size->s.heap.get? b=some o->h'.get? b=some o)->Q (.ref s.heap.objs.size) {s with heap:=h',toks:=tk}):
 AF (model prog w) A (call (.type "set") [.ref l]) Q E s:=by
 obtain⟨c,tl,hmro⟩:=F.called_set.mro
 have hmade:=F.called_set.made
 have hsub:=F.called_set.sub
 refine wpAny_call (codeAny_of_tree ?_)
 show AF _ _ (callAny (.type "set") _) _ _ _
 refine AI ⟨Code.quiet_builtin _ (by decide+kernel),codeAny_builtin F.entry_type_call ?_⟩
 rw [Around.under_plain (weight_type_call_type "set" [.ref l] []) rfl]
 have h1:=F.called_set.notType
 have h2:=F.called_set.canCreate
 have hct:=F.typeCall_set_1 (.ref l)
 repeat (any_goals (first|assumption|wp_step))
 refine codeAny_mono (c4h (.ref l) (E:=E) (Q₁:=fun obj s₁=>obj= .ref s.heap.objs.size/\s₁={s with heap:=s.heap.push (V7 w)}) ⟨rfl,rfl⟩) fun r s₁ hr=> ?_
 cases r with
 |error e=>exact hr
 |ok fl=>
  cases fl with
  |ret obj=>
   obtain⟨rfl,rfl⟩:=hr
   have hS:(s.heap.push (V7 w)).get? s.heap.objs.size=some (V7 w):=An _ rfl
   have hT:Shared.TypeIs {s with heap:=s.heap.push (V7 w)} (.ref s.heap.objs.size) "set":=⟨_,hS,rfl⟩
   have hli:=F.called_set.init.lookup
   have hbi:=F.called_set.init.bind (.ref s.heap.objs.size)
   repeat (any_goals (first|assumption|wp_step))
   refine codeAny_mono (codeAny_call_builtin (R:=wants (fun r s₂=>r= .none/\∃h' tk es ep,s₂={s with heap:=h',toks:=tk}/\
    Q7 prog w h' s.heap.objs.size es ep/\TxE es (sgl zs items.size)/\es.size<=items.size/\
    (∀b o,b<s.heap.objs.size->s.heap.get? b=some o->h'.get? b=some o)) E) F.called_set.init.plain F.entry_set_init (check_set_init_1 hT ?_)) fun r₂ s₂ hr₂=> ?_
   ·obtain⟨ol,hol,hcl,nl,hdl⟩:=hl
    obtain⟨ocls,odict,odata,oslots⟩:=ol
    simp only at hcl hdl
    subst hcl;subst hdl
    have hol':(s.heap.push (V7 w)).get? l=some {cls:= .type "list",dict:=odict,data:= .seq items nl,slots:=oslots}:=AT _ hol
    have hsls:=F.sub_list_set
    have hslf:=F.sub_list_frozenset
    have hne:(Value.type "list"==Value.type "dict")=false:=by decide
    have hl1:(s.heap.push (V7 w)).IsList l items:=⟨_,hol',rfl,nl,rfl⟩
    unfold Builtin.«set.__init__» noKeywords Builtin.Frozenset.updateFrom
    generalize hPI:pyIter=PI
    wp_walk
    subst hPI
    refine wpAny_pyIter_list hl1 ?_
    refine AD (wpAny_runValue ?_)
    have hlS:l<s.heap.objs.size:=AW hol
    have hh3:A.in1.in1.in1.handled=none:=by simp [hh]
    have hneI:l≠(s.heap.push (V7 w)).objs.size:=by
     rw [Heap.size_push];exact Am (Nat.lt_succ_of_lt hlS)
    have hSf:s.heap.objs.size∉[(s.heap.push (V7 w)).objs.size,l]:=by
     rw [Heap.size_push];simp only [AZ,List.mem_singleton,List.not_mem_nil,or_false,not_or]
     exact⟨Am (Nat.lt_succ_self _),Nat.ne_of_gt hlS⟩
    have WW:=(Walks.list (prog:=prog) (w:=w) hh3 (s.heap.push (V7 w)).objs.size l hneI items).toS
    refine c2Q (b5D WW hi) s.heap.objs.size hSf hb (items.size - 0) 0 _ #[] 0 (by lia) (Nat.zero_le _) ⟨⟨_,An _ rfl,rfl,rfl⟩,(hl1.push _)⟩ ?hS0 ⟨fun e he=>by simp at he,by simp [a88],fun y=>by simp [a88,sgl]⟩ (AR _) ?hR
    case hS0=>
     exact⟨V7 w,_,AT _ hS,⟨rfl,rfl,rfl⟩,rfl,fun e he=>by simp at he,by decide,by rfl,rfl,fun z=>absurd rfl z⟩
    case hR=>
     intro s' es ep hm hS' hT' hz'
     obtain⟨h',g',d',tk',os'⟩:=s'
     have eg:g'=s.gens:=hm.gens
     have ed:d'=s.drawn:=hm.drawn
     have eo:os'=s.os:=hm.os
     subst eg;subst ed;subst eo
     show AF _ _ _ _ _ _
     refine AI ?_
     show AF _ _ (ret Value.none) _ _ _
     refine AI ⟨rfl,h',tk',es,ep,rfl,hS',hT',hz',fun b o hb e=> ?_⟩
     have hb1:b≠s.heap.objs.size:=Am hb
     have hb2:b≠(s.heap.push (V7 w)).objs.size:=by
      rw [Heap.size_push];exact Am (Nat.lt_succ_of_lt hb)
     exact hm.heap b o (by simp only [AZ,List.mem_singleton,List.not_mem_nil,or_false,not_or];exact⟨hb1,hb2⟩) (AT _ (AT _ e))
   ·cases r₂ with
    |error e=>exact hr₂
    |ok fl₂=>
     cases fl₂ with
     |ret r=>
      obtain⟨rfl,h',tk,es,ep,rfl,hS',hT',hz',hk'⟩:=hr₂
      repeat (any_goals (first|assumption|wp_step))
      exact h _ _ es ep hS' hT' hz' hk'
     |_=>exact hr₂.elim
  |_=>exact hr.elim
end PU
set_option maxHeartbeats 1000000
namespace PU
open PySem PySem.Spec PyProof.Rows L2
theorem a5a{K:AE}{F:Hp}:∀{ps:List PV} {zs:List Str} {xs:List V},N1 ps=some zs->w8 K F ps xs->xs=zs.map V.str/\ps=zs.map PyData.str
 |[],_,_,h,r=>by cases h;cases r;exact⟨rfl,rfl⟩
 |p::ps,zs,xs,h,⟨v,vs,e,rv,rt⟩=>by
  subst e
  cases p with
  |str z=>
   cases hs:N1 ps with
   |none=>simp [N1,hs] at h
   |some zs'=>
    have h:zs=z::zs':=by simpa [N1,hs] using h.symm
    subst h
    obtain⟨e1,e2⟩:=a5a hs rt
    cases rv
    exact⟨by rw [e1];rfl,by rw [e2];rfl⟩
  |_=>simp [N1] at h
def c4x(X:Cx):List V->Hp->VK->Prop:=fun xs H Q=>∃(a:AB) (zs:List Str),xs=[.ref a]/\H a=some (.lst (zs.map V.str))/\zs.length+1<4096/\∀p es ep,H p=none->TxE es zs->es.size<=zs.length->Q (.ref p) (K7 H p (.ext fun h=>Q7 X.prog X.w h p es ep))
theorem b1y:∀{zs:List Str} {its:List AA},y9 (zs.map V.str) its->its.length=zs.length/\∀(i:Nat) v,its[i]?=some v->∃z u,zs[i]?=some z/\v=Value.str z u
 |[],_,.nil=>⟨rfl,fun i v h=>by simp at h⟩
 |z::zs,_,.cons r t=>by
  obtain⟨h1,h2⟩:=b1y t
  obtain⟨u,rfl⟩:=r
  refine⟨by rw [AM,AM,h1],fun i v h=> ?_⟩
  cases i with
  |zero=>cases h;exact⟨z,u,rfl,rfl⟩
  |succ i=>exact h2 i v h
def b6B(hc:X.calm=true):R0 X (.type "set") (c4x X):=by
 intro pins s σ H xs us Q I rv h
 obtain⟨a,zs,rfl,ha,hz,q⟩:=h
 obtain⟨u,rfl,ru⟩:=a1i rv
 cases ru
 obtain⟨_,its,n,vv,e⟩:=(show K3 X.prog X.w H s.heap a (.lst (zs.map V.str)) from I.hok a _ ha)
 obtain⟨hl,hv⟩:=b1y vv
 have hsz:its.toArray.size=zs.length:=by simp [hl]
 refine c4B (l:=a) (items:=its.toArray) (zs:=zs) (I.ok.hd hc) ⟨_,e,rfl,n,rfl⟩ (fun i v h=>hv i v (by simpa using h)) hsz (by rw [hsz];unfold scanBound;exact hz) fun h' tk es ep hS hT hle hk=> ?_
 refine⟨.ref s.heap.objs.size,_,I.laid (a:=s.heap.objs.size) (t':=tk) (o:= .ext fun h=>Q7 X.prog X.w h s.heap.objs.size es ep) (fun b o e=>hk b o (AW e) e) (AR _) ⟨hS, ?_, ?_⟩,rfl,q _ es ep (I.hok.fresh (AR _)) ⟨hT.all,hT.nd,fun x=>(hT.mem x).trans ?_⟩ (by rw [<-hsz];exact hle)⟩
 ·obtain⟨o,_,ho,_⟩:=hS;exact⟨o,ho⟩
 ·exact fun h1 h2 p k=>p.at' k
 ·rw [hsz];simp [sgl]
def a2V:List PV->Option (List Int)
 |[]=>some []
 | .int i::r=>(a2V r).map (i::·)
 |_=>none
def a0O(is:List Int):Int:=is.getD (argBest (fun i j=>decide (is.getD i 0>is.getD j 0)) (is.length - 1)) 0
def b79(x:g6):Option g6:=match x with
 | .ow (.lst ps)=>(a2V ps).bind fun is=>if 0<is.length then some (.val (.int (a0O is))) else none
 |_=>none
theorem a3r{K:AE}{F:Hp}:∀{ps:List PV} {is:List Int} {xs:List V},a2V ps=some is->w8 K F ps xs->xs=is.map V.int
 |[],_,_,h,r=>by cases h;cases r;rfl
 |p::ps,is,xs,h,⟨v,vs,e,rv,rt⟩=>by
  subst e
  cases p with
  |int z=>
   cases hs:a2V ps with
   |none=>simp [a2V,hs] at h
   |some is'=>
    have h:is=z::is':=by simpa [a2V,hs] using h.symm
    subst h
    have e1:=a3r hs rt
    cases rv
    rw [e1];rfl
  |_=>simp [a2V] at h
theorem a3O:∀{is:List Int} {its:List AA},y9 (is.map V.int) its->∃xs:List (Int×Tok),xs.map (·.1)=is/\its=xs.map fun p=>Value.int p.1 p.2
 |[],_,.nil=>⟨[],rfl,rfl⟩
 |i::is,_,.cons r t=>by
  obtain⟨xs,h1,h2⟩:=a3O t
  obtain⟨u,rfl⟩:=r
  exact⟨(i,u)::xs,by rw [AK,h1],by rw [AK,h2]⟩
def b9Z(hc:X.calm=true):R0 X (.builtin "max") (rC1 X.K b79):=by
 intro pins s σ H xs us Q I rv h
 obtain⟨F,x,rx,rz,rfl,s0,h1,h2,k⟩:=h
 obtain⟨u,rfl,ru⟩:=a1i rv
 unfold b79 at h2
 split at h2
 ·rename_i ps
  obtain⟨is,e1,h2⟩:=bind_some h2
  split at h2
  ·rename_i c
   cases h2
   obtain⟨a,ys,rfl,fa,ha,rl⟩:=h1
   cases ru
   have ey:=a3r e1 rl
   subst ey
   obtain⟨_,its,n,vv,e⟩:=(show K3 X.prog X.w H s.heap a (.lst (is.map V.int)) from I.hok a _ ha)
   obtain⟨zs,hz1,hz2⟩:=a3O vv
   have hit:its.toArray=intItems zs.toArray:=by rw [hz2];simp [intItems]
   have hat:∀i,numAt zs.toArray i=is.getD i 0:=fun i=>by
    unfold numAt
    rw [<-hz1,List.getD_eq_getElem?_getD,As]
    simp
   have hlen:zs.length=is.length:=by rw [<-hz1,Ak]
   refine max_intList (l:=a) (xs:=zs.toArray) (I.ok.hd hc) ⟨_,e,rfl,n,by rw [hit]⟩ (by simp;lia) fun v h' tk hv hk=> ?_
   obtain⟨t,rfl⟩:=intItems_at hv
   have hb:numAt zs.toArray (argBest (fun i j=>decide (numAt zs.toArray i>numAt zs.toArray j)) (zs.toArray.size - 1))=a0O is:=by
    unfold a0O
    rw [hat,show zs.toArray.size=is.length by simp [hlen]]
    congr 2
    funext i j
    rw [hat,hat]
   rw [hb]
   exact⟨.int (a0O is),H,I.kept (t':=tk) hk,⟨t,rfl⟩,k _ F H (C0.here s0 rfl)⟩
  ·cases h2
 ·cases h2
section
open AutoSeq1 (wpAny_loadPart')
open PySem.MeetsSeq3 (plain_eq_loop entry_eq_loop)
end
open PySem PySem.Spec PyProof.Rows L2 PySem.W
end PU
namespace L2
open PySem PySem.Spec PyProof.Rows
end L2
namespace PU
open PySem PySem.Spec PyProof.Rows L2
open PySem.W (Looks InstAt looks_findIn looks_find looks_subIn looks_mroIn)
end PU
namespace ZT
open PySem PySem.Spec PyProof.Rows L2 PU
structure ZA(z TI TO i1 i2:AB):Prop where
 TIz:TI≠z
 TOz:TO≠z
 i1z:i1≠z
 i2z:i2≠z
 TITO:TI≠TO
 TIi1:TI≠i1
 TIi2:TI≠i2
 TOi1:TO≠i1
 TOi2:TO≠i2
 i12:i1≠i2
def LA(z TO i1 i2 l:AB):Prop:=l≠z/\l≠TO/\l≠i1/\l≠i2
section
variable {prog:Ac}{w:AU}{A:Al}{E:AA->AG->Prop}{s:AG}{z TI TO i1 i2:AB}{n1 n2 i:Nat}{P1 P2:Nat->AA->Prop}{St1 St2:Nat->Heap->Prop}{a b:AA}{l1 l2:AB}
def b7x{Q:AA->AG->Prop}(D:ZA z TI TO i1 i2)(D1:∀A',A'.handled=none->Draws prog w A' i1 [i1,l1] n1 P1 St1)(D2:∀A',A'.handled=none->Draws prog w A' i2 [i2,l2] n2 P2 St2)(hh:A.handled=none)(a1:LA z TO i1 i2 l1)(a2:LA z TO i1 i2 l2)
 (hz:IsZip s.heap z TI TO .none) (hTI:IsPair s.heap TI (.ref i1) (.ref i2)) (hTO:IsPair s.heap TO a b) (h1:St1 i s.heap) (h2:St2 i s.heap) (m1:i<n1) (m2:i<n2)
 (hQ:∀x y h' tk,P1 i x->P2 i y->IsZip h' z TI TO (rawInt s.heap.objs.size)->IsPair h' TO x y->St1 (i+1) h'->St2 (i+1) h'->IsPair h' s.heap.objs.size x y->h'.objs.size=s.heap.objs.size+1->
  (∀c o,c≠z->c≠TO->c≠i1->c≠i2->s.heap.get? c=some o->h'.get? c=some o)->Q (.ref s.heap.objs.size) {s with heap:=h',toks:=tk}):
 AF (model prog w) A (Builtin.«zip.__next__» ⟨[.ref z],[]⟩) (fun fin s'=>∃v,fin= .done (.ret v)/\Q v s') E s:=by
 show AF _ _ (field (.ref z) 2>>=_) _ _ _
 refine AD (wpAny_field hz rfl (x:= .bool false) rfl ?_)
 show AF _ _ (field (.ref z) 3>>=_) _ _ _
 refine AD (wpAny_field hz rfl (x:= .ref TI) rfl ?_)
 refine AD (wpAny_seqItems hTI rfl ?_)
 show AF _ _ (Builtin.SmallTypes.ownedTupleIsFree (.ref z)>>=_) _ _ _
 refine AD ?_
 unfold Builtin.SmallTypes.ownedTupleIsFree
 refine AD (wpAny_field hz rfl (x:= .none) rfl (AI ?_))
 simp only [if_true]
 refine AD (wpAny_rule ?_)
 refine AD (wpAny_field hz rfl (x:= .ref TO) rfl ?_)
 refine AD (wpAny_setField_rec hz (by simp) fun h₁ hz₁ hs₁=> ?_)
 replace hz₁:IsZip h₁ z TI TO .ellipsis:=hz₁
 refine AD ?_
 simp only [List.zipIdx_cons,List.zipIdx_nil,List.forIn_cons,List.forIn_nil]
 have f1:∀{x:AB} {h h':Heap} {i},x≠i1->x≠l1->Heap.SameBut x h h'->St1 i h->St1 i h':=fun n n' k st=>(D1 A hh).frame _ _ _ st fun b hb o e=>by
  have hb:b=i1\/b=l1:=by simpa using hb
  rcases hb with hb|hb
  ·exact k.extBut _ _ (by rw [hb];exact Ne.symm n) e
  ·exact k.extBut _ _ (by rw [hb];exact Ne.symm n') e
 have f2:∀{x:AB} {h h':Heap} {i},x≠i2->x≠l2->Heap.SameBut x h h'->St2 i h->St2 i h':=fun n n' k st=>(D2 A hh).frame _ _ _ st fun b hb o e=>by
  have hb:b=i2\/b=l2:=by simpa using hb
  rcases hb with hb|hb
  ·exact k.extBut _ _ (by rw [hb];exact Ne.symm n) e
  ·exact k.extBut _ _ (by rw [hb];exact Ne.symm n') e
 refine AD (AD (wpAny_onRaise ?_))
 show AF _ _ (Builtin.SmallTypes.nextOf (.ref i1)>>=_) _ _ _
 refine AD ((D1 _ hh).item i _ _ _ m1 (f1 D.i1z.symm (Ne.symm a1.1) hs₁ h1) fun x h₂ tk₂ px h1₂ hs₂=>AI ?_)
 have hTO₂:IsPair h₂ TO a b:=hs₂.extBut _ _ D.TOi1 (hs₁.extBut _ _ D.TOz hTO)
 refine AD (wpAny_seqItems hTO₂ rfl ?_)
 refine AD (wpAny_updateSeq_pair hTO₂ fun h₃ hTO₃ hs₃=> ?_)
 replace hTO₃:IsPair h₃ TO x b:=hTO₃
 refine AD (wpAny_letGo (AI ?_))
 refine AD (AD (wpAny_onRaise ?_))
 show AF _ _ (Builtin.SmallTypes.nextOf (.ref i2)>>=_) _ _ _
 refine AD ((D2 _ hh).item i _ _ _ m2 (f2 D.TOi2 (Ne.symm a2.2.1) hs₃ (f2 D.i12 (Ne.symm a2.2.2.1) hs₂ (f2 D.i2z.symm (Ne.symm a2.1) hs₁ h2))) fun y h₄ tk₄ py h2₄ hs₄=>AI ?_)
 have hTO₄:IsPair h₄ TO x b:=hs₄.extBut _ _ D.TOi2 hTO₃
 refine AD (wpAny_seqItems hTO₄ rfl ?_)
 refine AD (wpAny_updateSeq_pair hTO₄ fun h₅ hTO₅ hs₅=> ?_)
 replace hTO₅:IsPair h₅ TO x y:=hTO₅
 refine AD (wpAny_letGo (AI (AI ?_)))
 refine AD (wpAny_seqItems hTO₅ rfl ?_)
 refine AD (wpAny_newTuple ?_)
 have hsz:h₅.objs.size=s.heap.objs.size:=by rw [hs₅.1,hs₄.1,hs₃.1,hs₂.1,hs₁.1]
 have hz₅:IsZip h₅ z TI TO .ellipsis:=hs₅.extBut _ _ D.TOz.symm (hs₄.extBut _ _ D.i2z.symm (hs₃.extBut _ _ D.TOz.symm (hs₂.extBut _ _ D.i1z.symm hz₁)))
 have hk₅:∀c o,c≠z->c≠TO->c≠i1->c≠i2->s.heap.get? c=some o->h₅.get? c=some o:=fun c o c1 c2 c3 c4 e=>
  hs₅.extBut _ _ c2 (hs₄.extBut _ _ c4 (hs₃.extBut _ _ c2 (hs₂.extBut _ _ c3 (hs₁.extBut _ _ c1 e))))
 have h1₅:St1 (i+1) h₅:=f1 D.TOi1 (Ne.symm a1.2.1) hs₅ (f1 D.i12.symm (Ne.symm a1.2.2.2) hs₄ (f1 D.TOi1 (Ne.symm a1.2.1) hs₃ h1₂))
 have h2₅:St2 (i+1) h₅:=f2 D.TOi2 (Ne.symm a2.2.1) hs₅ h2₄
 have hzlt:z<h₅.objs.size:=AW hz₅
 have hTOlt:TO<h₅.objs.size:=AW hTO₅
 have hi1lt:i1<h₅.objs.size:=by obtain⟨_,e⟩:=(D1 A hh).live _ _ h1₅;exact AW e
 have hi2lt:i2<h₅.objs.size:=by obtain⟨_,e⟩:=(D2 A hh).live _ _ h2₅;exact AW e
 show AF _ _ (Builtin.SmallTypes.ownedTupleHandOut (.ref z) (.ref h₅.objs.size)>>=_) _ _ _
 refine AD ?_
 unfold Builtin.SmallTypes.ownedTupleHandOut
 have hz₆:IsZip (h₅.push {cls:= .type "tuple",data:= .seq #[x,y]}) z TI TO .ellipsis:=AT _ hz₅
 refine AD (wpAny_setField_rec hz₆ (by simp) fun h₇ hz₇ hs₇=> ?_)
 replace hz₇:IsZip h₇ z TI TO (rawInt h₅.objs.size):=hz₇
 refine wpAny_setField_rec hz₇ (by simp) fun h₈ hz₈ hs₈=> ?_
 replace hz₈:IsZip h₈ z TI TO (rawInt h₅.objs.size):=hz₈
 have up:∀c o,c≠z->h₅.get? c=some o->h₈.get? c=some o:=fun c o c1 e=>hs₈.extBut _ _ c1 (hs₇.extBut _ _ c1 (AT _ e))
 have hT₈:IsPair h₈ h₅.objs.size x y:=hs₈.extBut _ _ (Nat.ne_of_gt hzlt) (hs₇.extBut _ _ (Nat.ne_of_gt hzlt) (An _ rfl))
 have hz8:h₈.objs.size=h₅.objs.size+1:=by rw [hs₈.1,hs₇.1,Heap.size_push]
 rw [hsz] at hz₈ hT₈ hz8
 refine AI ⟨_,rfl, ?_⟩
 show Q (.ref h₅.objs.size) _
 rw [hsz]
 refine hQ x y h₈ _ px py hz₈ (up _ _ D.TOz hTO₅) ?_ ?_ hT₈ hz8 fun c o c1 c2 c3 c4 e=>up c o c1 (hk₅ c o c1 c2 c3 c4 e)
 ·refine(D1 A hh).frame _ _ _ h1₅ fun b hb o e=>up b o ?_ e
  have hb:b=i1\/b=l1:=by simpa using hb
  rcases hb with hb|hb
  ·rw [hb];exact D.i1z
  ·rw [hb];exact a1.1
 ·refine(D2 A hh).frame _ _ _ h2₅ fun b hb o e=>up b o ?_ e
  have hb:b=i2\/b=l2:=by simpa using hb
  rcases hb with hb|hb
  ·rw [hb];exact D.i2z
  ·rw [hb];exact a2.1
def b9S(D:ZA z TI TO i1 i2)(D1:∀A',A'.handled=none->Draws prog w A' i1 [i1,l1] n1 P1 St1)(D2:∀A',A'.handled=none->Draws prog w A' i2 [i2,l2] n2 P2 St2)(hh:A.handled=none)(a1:LA z TO i1 i2 l1)(a2:LA z TO i1 i2 l2)
 (hz:IsZip s.heap z TI TO .none) (hTI:IsPair s.heap TI (.ref i1) (.ref i2)) (hTO:IsPair s.heap TO a b) (h1:St1 i s.heap) (h2:St2 i s.heap) (m1:i<=n1) (m2:i<=n2) (hend:i=n1\/i=n2)
 (hE:∀h' e tk,(∀c o,c≠z->c≠TO->c≠i1->c≠i2->s.heap.get? c=some o->h'.get? c=some o)->(∃o,h'.get? e=some o/\o.cls= .type "StopIteration")->E (.ref e) {s with heap:=h',toks:=tk}):
 AF (model prog w) A (Builtin.«zip.__next__» ⟨[.ref z],[]⟩) Q E s:=by
 show AF _ _ (field (.ref z) 2>>=_) _ _ _
 refine AD (wpAny_field hz rfl (x:= .bool false) rfl ?_)
 show AF _ _ (field (.ref z) 3>>=_) _ _ _
 refine AD (wpAny_field hz rfl (x:= .ref TI) rfl ?_)
 refine AD (wpAny_seqItems hTI rfl ?_)
 show AF _ _ (Builtin.SmallTypes.ownedTupleIsFree (.ref z)>>=_) _ _ _
 refine AD ?_
 unfold Builtin.SmallTypes.ownedTupleIsFree
 refine AD (wpAny_field hz rfl (x:= .none) rfl (AI ?_))
 simp only [if_true]
 refine AD (wpAny_rule ?_)
 refine AD (wpAny_field hz rfl (x:= .ref TO) rfl ?_)
 refine AD (wpAny_setField_rec hz (by simp) fun h₁ hz₁ hs₁=> ?_)
 replace hz₁:IsZip h₁ z TI TO .ellipsis:=hz₁
 refine AD ?_
 simp only [List.zipIdx_cons,List.zipIdx_nil,List.forIn_cons,List.forIn_nil]
 have f1:∀{x:AB} {h h':Heap} {i},x≠i1->x≠l1->Heap.SameBut x h h'->St1 i h->St1 i h':=fun n n' k st=>(D1 A hh).frame _ _ _ st fun b hb o e=>by
  have hb:b=i1\/b=l1:=by simpa using hb
  rcases hb with hb|hb
  ·exact k.extBut _ _ (by rw [hb];exact Ne.symm n) e
  ·exact k.extBut _ _ (by rw [hb];exact Ne.symm n') e
 have f2:∀{x:AB} {h h':Heap} {i},x≠i2->x≠l2->Heap.SameBut x h h'->St2 i h->St2 i h':=fun n n' k st=>(D2 A hh).frame _ _ _ st fun b hb o e=>by
  have hb:b=i2\/b=l2:=by simpa using hb
  rcases hb with hb|hb
  ·exact k.extBut _ _ (by rw [hb];exact Ne.symm n) e
  ·exact k.extBut _ _ (by rw [hb];exact Ne.symm n') e
 refine AD (AD (wpAny_onRaise ?_))
 show AF _ _ (Builtin.SmallTypes.nextOf (.ref i1)>>=_) _ _ _
 by_cases hx:i=n1
 ·subst hx
  refine AD ((D1 _ hh).done _ _ _ (f1 D.i1z.symm (Ne.symm a1.1) hs₁ h1) fun h₂ e hs₂ he=> ?_)
  obtain⟨oe,hoe,hce⟩:=he
  have hz₂:IsZip h₂ z TI TO .ellipsis:=hs₂ _ _ D.i1z.symm hz₁
  have hez:e≠z:=fun x=>by subst x;rw [hz₂] at hoe;cases hoe;simp at hce
  exact wpAny_setField_rec hz₂ (by simp) fun h₃ _ hs₃=>hE h₃ e _ (fun c o c1 _ c3 _ x=>hs₃.extBut _ _ c1 (hs₂ _ _ c3 (hs₁.extBut _ _ c1 x))) ⟨oe,hs₃.extBut _ _ hez hoe,hce⟩
 ·have hy:i=n2:=hend.resolve_left hx
  subst hy
  refine AD ((D1 _ hh).item i _ _ _ (Nat.lt_of_le_of_ne m1 hx) (f1 D.i1z.symm (Ne.symm a1.1) hs₁ h1) fun x h₂ tk₂ px h1₂ hs₂=>AI ?_)
  have hTO₂:IsPair h₂ TO a b:=hs₂.extBut _ _ D.TOi1 (hs₁.extBut _ _ D.TOz hTO)
  refine AD (wpAny_seqItems hTO₂ rfl ?_)
  refine AD (wpAny_updateSeq_pair hTO₂ fun h₃ hTO₃ hs₃=> ?_)
  refine AD (wpAny_letGo (AI ?_))
  refine AD (AD (wpAny_onRaise ?_))
  show AF _ _ (Builtin.SmallTypes.nextOf (.ref i2)>>=_) _ _ _
  refine AD ((D2 _ hh).done _ _ _ (f2 D.TOi2 (Ne.symm a2.2.1) hs₃ (f2 D.i12 (Ne.symm a2.2.2.1) hs₂ (f2 D.i2z.symm (Ne.symm a2.1) hs₁ h2))) fun h₄ e hs₄ he=> ?_)
  obtain⟨oe,hoe,hce⟩:=he
  have hz₄:IsZip h₄ z TI TO .ellipsis:=hs₄ _ _ D.i2z.symm (hs₃.extBut _ _ D.TOz.symm (hs₂.extBut _ _ D.i1z.symm hz₁))
  have hez:e≠z:=fun x=>by subst x;rw [hz₄] at hoe;cases hoe;simp at hce
  exact wpAny_setField_rec hz₄ (by simp) fun h₅ _ hs₅=>hE h₅ e _ (fun c o c1 c2 c3 c4 x=>hs₅.extBut _ _ c1 (hs₄ _ _ c4 (hs₃.extBut _ _ c2 (hs₂.extBut _ _ c3 (hs₁.extBut _ _ c1 x))))) ⟨oe,hs₅.extBut _ _ hez hoe,hce⟩
def pyNext_zip_itemD{Q:Option AA->AG->Prop}(D:ZA z TI TO i1 i2)(D1:∀A',A'.handled=none->Draws prog w A' i1 [i1,l1] n1 P1 St1)(D2:∀A',A'.handled=none->Draws prog w A' i2 [i2,l2] n2 P2 St2)(hh:A.handled=none)(a1:LA z TO i1 i2 l1)(a2:LA z TO i1 i2 l2)
 (hz:IsZip s.heap z TI TO .none) (hTI:IsPair s.heap TI (.ref i1) (.ref i2)) (hTO:IsPair s.heap TO a b) (h1:St1 i s.heap) (h2:St2 i s.heap) (m1:i<n1) (m2:i<n2)
 (hQ:∀x y h' tk,P1 i x->P2 i y->IsZip h' z TI TO (rawInt s.heap.objs.size)->IsPair h' TO x y->St1 (i+1) h'->St2 (i+1) h'->IsPair h' s.heap.objs.size x y->h'.objs.size=s.heap.objs.size+1->
  (∀c o,c≠z->c≠TO->c≠i1->c≠i2->s.heap.get? c=some o->h'.get? c=some o)->Q (some (.ref s.heap.objs.size)) {s with heap:=h',toks:=tk}):
 AF (model prog w) A (pyNext (.ref z)) Q E s:=by
 have hT:s.TypeIs (.ref z) "zip":=⟨_,hz,rfl⟩
 unfold pyNext
 exact AD (wpAny_attempt (wpAny_callSpecial?_slot (name:=AC "__next__") hT F.slot_zip_next
  (wpAny_call_entry F.slot_zip_next hT F.entry_zip_next
   (b7x D D1 D2 hh a1 a2 hz hTI hTO h1 h2 m1 m2 fun x y h' tk p1 p2 a1 a2 a3 a4 a5 a6 a7=>AI (hQ x y h' tk p1 p2 a1 a2 a3 a4 a5 a6 a7)) (F.args_zip_next_1 _))))
def pyNext_zip_endD(D:ZA z TI TO i1 i2)(D1:∀A',A'.handled=none->Draws prog w A' i1 [i1,l1] n1 P1 St1)(D2:∀A',A'.handled=none->Draws prog w A' i2 [i2,l2] n2 P2 St2)(hh:A.handled=none)(a1:LA z TO i1 i2 l1)(a2:LA z TO i1 i2 l2)
 (hz:IsZip s.heap z TI TO .none) (hTI:IsPair s.heap TI (.ref i1) (.ref i2)) (hTO:IsPair s.heap TO a b) (h1:St1 i s.heap) (h2:St2 i s.heap) (m1:i<=n1) (m2:i<=n2) (hend:i=n1\/i=n2)
 (hQ:∀h' tk,(∀c o,c≠z->c≠TO->c≠i1->c≠i2->s.heap.get? c=some o->h'.get? c=some o)->Q none {s with heap:=h',toks:=tk}):AF (model prog w) A (pyNext (.ref z)) Q E s:=by
 have hT:s.TypeIs (.ref z) "zip":=⟨_,hz,rfl⟩
 unfold pyNext
 refine AD (wpAny_attempt (wpAny_callSpecial?_slot (name:=AC "__next__") hT F.slot_zip_next
  (wpAny_call_entry F.slot_zip_next hT F.entry_zip_next (b9S D D1 D2 hh a1 a2 hz hTI hTO h1 h2 m1 m2 hend fun h' e tk hk he=> ?_) (F.args_zip_next_1 _))))
 obtain⟨o,ho,hc⟩:=he
 refine AD (wpAny_isInstance (T:="StopIteration") (b:=true) ⟨o,ho,hc⟩ isSubtype_stop ?_)
 exact AI (hQ _ _ hk)
end
def b69(hit:s.heap.IsTupleIter it t i)
 (ht:s.heap.IsTuple t items) (hx:items[i]?=some x)
 (hQ:∀h',h'.IsTupleIter it t (i+1)->Heap.SameBut it s.heap h'->Q x {s with heap:=h'}):
 AF (model prog w) A (Builtin.SmallTypes.nextOf (.ref it)) Q E s:=by
 obtain⟨o,ho,hc,hd⟩:=id hit
 obtain⟨ol,hol,_,nl,hdl⟩:=ht
 unfold Builtin.SmallTypes.nextOf
 refine AD (wpAny_callSpecial?_slot (name:=AC "__next__") hit.typeIs F.slot_tuple_iterator_next
  (wpAny_call_entry F.slot_tuple_iterator_next hit.typeIs F.entry_tuple_iterator_next ?_ (F.args_tuple_iterator_next_1 _)))
 show AF _ _ (field (.ref it) 0>>=_) _ _ s
 refine AD (wpAny_field ho hd (x:= .ref t) rfl ?_)
 show AF _ _ (if(Value.ref t==Value.none)=true then _ else _) _ _ s
 rw [if_neg (show ¬((Value.ref t==Value.none)=true) from Ar)]
 show AF _ _ (field (.ref it) 1>>=_) _ _ s
 refine AD (wpAny_field ho hd (x:= .int i 0) rfl ?_)
 show AF _ _ (seqItems? (.ref t)>>=_) _ _ s
 refine AD (wpAny_seqItems hol hdl ?_)
 simp only [BE,hx]
 refine AD (wpAny_setField ho hd (by simp) (AI ⟨x,rfl,AI (hQ _ ?_ (Heap.SameBut.update ..))⟩))
 exact⟨_,Heap.get?_update_self _ ho (Obj.isFreed_of_fields (Obj.data_mapFields hd _)),(Obj.cls_mapFields ..).trans hc,by
  rw [Obj.data_mapFields hd];simp [rawInt]⟩
def b8K(hh:A.handled=none)
 (hit:s.heap.IsTupleIter it t i) (ht:s.heap.IsTuple t items) (hx:items[i]?=none)
 (hE:∀h' e,Heap.ExtBut it s.heap h'->(∃o,h'.get? e=some o/\o.cls= .type "StopIteration")->E (.ref e) {s with heap:=h'}):
 AF (model prog w) A (Builtin.SmallTypes.nextOf (.ref it)) Q E s:=by
 obtain⟨o,ho,hc,hd⟩:=id hit
 obtain⟨ol,hol,_,nl,hdl⟩:=ht
 unfold Builtin.SmallTypes.nextOf
 refine AD (wpAny_callSpecial?_slot (name:=AC "__next__") hit.typeIs F.slot_tuple_iterator_next
  (wpAny_call_entry F.slot_tuple_iterator_next hit.typeIs F.entry_tuple_iterator_next ?_ (F.args_tuple_iterator_next_1 _)))
 show AF _ _ (field (.ref it) 0>>=_) _ _ s
 refine AD (wpAny_field ho hd (x:= .ref t) rfl ?_)
 show AF _ _ (if(Value.ref t==Value.none)=true then _ else _) _ _ s
 rw [if_neg (show ¬((Value.ref t==Value.none)=true) from Ar)]
 show AF _ _ (field (.ref it) 1>>=_) _ _ s
 refine AD (wpAny_field ho hd (x:= .int i 0) rfl ?_)
 show AF _ _ (seqItems? (.ref t)>>=_) _ _ s
 refine AD (wpAny_seqItems hol hdl ?_)
 simp only [BE,hx]
 refine AD (wpAny_rule (AD (wpAny_setField ho hd (by simp) ?_)))
 show AF _ _ (newExc (.type "StopIteration") []>>=_) _ _ _
 refine AD ?_
 simp only [newExc,newTuple]
 refine AD (wpAny_newObj_type ?_ (by size_fits))
 refine AD (m:=firstArgMember _ _) (wpAny_of_eq (a:=Value.none) (by first|rfl|(simp only [firstArgMember];rfl)) ?_)
 refine wpAny_newObj_type ?_ (by size_fits)
 simp only [raiseNew]
 refine AD (wpAny_handled ?_)
 first|rw [show A.in1.handled=none from hh]|rw [hh]
 refine AD (AI (wpAny_throw ?_))
 exact hE _ _ (((Heap.SameBut.update ..).extBut.push _).push _) ⟨_,An _ rfl,rfl⟩
def b0S(hh:A.handled=none)(hne:l≠it)(items:Array AA):
 Draws prog w A it [it,l] items.size (fun i v=>items[i]?=some v) (fun i h=>h.IsTupleIter it l i/\h.IsTuple l items) where
 live:=fun _ _ st=>let ⟨o,ho,_⟩:=st.1;⟨o,ho⟩
 frame:=fun _ _ _ st hk=>⟨let ⟨o,ho,r⟩:=st.1;⟨o,hk it (by simp) o ho,r⟩,let ⟨o,ho,r⟩:=st.2;⟨o,hk l (by simp) o ho,r⟩⟩
 item:=fun i s Q E hi st hQ=>by
  refine b69 st.1 st.2 (x:=items[i]) (by simp [hi]) fun h' hit' hs'=> ?_
  exact hQ _ h' s.toks (by simp [hi]) ⟨hit',st.2.extBut hs'.extBut hne⟩ hs'
 done:=fun s Q E st hE=>b8K hh st.1 st.2 (by simp) hE
def Inv.turnedTupN{X:Cx}{pins:List (AB×Obj)}{σ:L2.St}{H:Hp}{s:AG}{h':Heap}{t':Nat}{ch:List AB}{xs:List V}(I:Inv X pins σ H s)(f:∀b∈ch,a8B X pins H b)
 (k:∀b o,b∉ch->s.heap.get? b=some o->h'.get? b=some o) (new:K3 X.prog X.w (K7 H s.heap.objs.size (.tup xs)) h' s.heap.objs.size (.tup xs)):
 Inv X pins σ (K7 H s.heap.objs.size (.tup xs)) {s with heap:=h',toks:=t'}:=by
 have hn:H s.heap.objs.size=none:=I.hok.fresh (AR _)
 have nb:∀b u,H b=some u->b∉ch:=fun b u q z=>by rw [(f b z).1] at q;cases q
 refine I.step (g':=s.gens) (d':=s.drawn) (ch:=ch) (fun b hb=>⟨(f b hb).2.2.2.1,(f b hb).2.1,(f b hb).2.2.2.2.1,(f b hb).2.2.2.2.2⟩) (fun b o _ _ hc q _=>k b o hc q) (fun b o _ _ hc q _=>⟨o.slots,k b o hc q⟩)
  (fun b o _ q n=>by rw [w4 (Am (AW q))];exact n) (fun b o hc q=>⟨o,k b o hc q⟩)
  (fun b xs q=>by rw [w4 (x9 q hn)];exact q) (fun b o u q=>by rw [w4 (x9 q hn)];exact q) (fun b ps q=>⟨#[],by rw [w4 (x9 q hn),q];simp⟩) (fun m hm=> ?_) (fun b u q=> ?_) I.bare
 ·obtain⟨o,es,ep,ho,r⟩:=hm
  exact⟨o,es,ep,k _ o (fun z=>(f _ z).2.1 rfl) ho,r⟩
 ·by_cases hb:b=s.heap.objs.size
  ·subst hb
   rw [z9] at q
   cases q
   exact new
  ·rw [w4 hb] at q
   refine(I.hok b u q).stay (fun c v hc y=>k c v ?_ y) (fun c y=>by rw [w4 (x9 y hn)];exact y) fun c ys y=>by rw [w4 (x9 y hn)];exact y
   rcases hc with z|z
   ·rw [z];exact nb b u q
   ·exact nb c _ z
def Inv.turnedN{X:Cx}{pins:List (AB×Obj)}{σ:L2.St}{H:Hp}{s:AG}{h':Heap}{t':Nat}{ch:List AB}(I:Inv X pins σ H s)(f:∀b∈ch,a8B X pins H b)
 (k:∀b o,b∉ch->s.heap.get? b=some o->h'.get? b=some o):Inv X pins σ H {s with heap:=h',toks:=t'}:=by
 have nb:∀b u,H b=some u->b∉ch:=fun b u q z=>by rw [(f b z).1] at q;cases q
 refine I.step (g':=s.gens) (d':=s.drawn) (ch:=ch) (fun b hb=>⟨(f b hb).2.2.2.1,(f b hb).2.1,(f b hb).2.2.2.2.1,(f b hb).2.2.2.2.2⟩) (fun b o _ _ hc q _=>k b o hc q) (fun b o _ _ hc q _=>⟨o.slots,k b o hc q⟩)
  (fun _ _ _ _ n=>n) (fun b o hc q=>⟨o,k b o hc q⟩) (fun _ _ e=>e) (fun _ _ _ e=>e) (fun b ps e=>⟨#[],by rw [e];simp⟩) (fun m hm=> ?_) (fun b u q=> ?_) I.bare
 ·obtain⟨o,es,ep,ho,r⟩:=hm
  exact⟨o,es,ep,k _ o (fun z=>(f _ z).2.1 rfl) ho,r⟩
 ·refine(I.hok b u q).stay (fun c v hc y=>k c v ?_ y) (fun _ y=>y) fun _ _ y=>y
  rcases hc with z|z
  ·rw [z];exact nb b u q
  ·exact nb c _ z
def boot_zip:bootBuiltins "zip"=some (.type "zip"):=by decide+kernel
def za_new(n:Nat):ZA (n+4) (n+2) (n+3) n (n+1):=by
 exact⟨(by lia:(n+2:Nat)≠n+4),(by lia:(n+3:Nat)≠n+4),(by lia:(n:Nat)≠n+4),(by lia:(n+1:Nat)≠n+4),(by lia:(n+2:Nat)≠n+3),(by lia:(n+2:Nat)≠n),(by lia:(n+2:Nat)≠n+1),
  (by lia:(n+3:Nat)≠n),(by lia:(n+3:Nat)≠n+1),(by lia:(n:Nat)≠n+1)⟩
def la_new{n l:Nat}(h:l<n):LA (n+4) (n+3) n (n+1) l:=⟨(by lia:(l:Nat)≠n+4),(by lia:(l:Nat)≠n+3),(by lia:(l:Nat)≠n),(by lia:(l:Nat)≠n+1)⟩
end ZT
namespace PU
open PySem PySem.Spec PyProof.Rows L2
def Df0(K:AE)(x:Str)(st:Stmt):Prop:=∃f fd,W.nsIn K mainGlobals x=some (some (.ref f))/\Fun K x x st f fd
def Df(K:AE)(mg:Str->Option AA)(x:Str)(st:Stmt):Prop:=∃f fd,Fun K x x st f fd/\mg x=some (.ref f)
def c30{K:AE}{x:Str}{st:Stmt}{f:AB}{oc:AA}{od an:Option AB}{osl:Array (Option AA)}{kV doc pm cdv ct:AA}(a:W.nsIn K mainGlobals x=some (some (.ref f)))
 (l:K.lookup f=some ⟨oc,od,.func (W.fnOf x x (Y4 st) (G9 st) (d5 st) .none kV doc pm an cdv ct),osl⟩) (c:W.codeIn K cdv x=true) (k:W.keepIn K (.ref f)=true):Df0 K x st:=⟨_,_,a,b73 l c k⟩
def Df0.to{K:AE}{h:Heap}{mg:Str->Option AA}{x:Str}{st:Stmt}(d:Df0 K x st)(X:K.In h)(G:h.Ns mainGlobals mg):Df K mg x st:=let ⟨f,fd,a,F⟩:=d;⟨f,fd,F,W.mg_of X G a⟩
def T8(h1:sc.kind= .function:=by rfl)(h2:sc.isCoroutine=false:=by rfl)(h3:sc.isGenerator=false:=by rfl)(h4:N.Nodup:=by decide+kernel)(h5:N.take P.length=P:=by rfl)
 (h6:∀x∈P,sc.names.lookup x=some .local\/sc.names.lookup x=some .cell:=by decide+kernel) (h7:∀y∈sc.names,y.2≠.free:=by decide+kernel):j0 N P sc:=⟨h1,h2,h3,h4,h5,h6,h7⟩
section
variable {P:Ac}{w:AU}{K:AE}{mg:Str->Option AA}{base:Heap}
def u4{x:Str}{st:Stmt}{N ps:List Str}{k:Nat}{m:MS}(D:Df K mg x st)(S:j0 N ps (d5 st))
 (hi:∀(kV doc pm:AA) (an:Option AB) (cdv ct:AA) (us:List AA),us.length=ps.length->bindArgs (W.fnOf x x (Y4 st) (G9 st) (d5 st) .none kV doc pm an cdv ct) ⟨us,[]⟩=pure (ps.zip us))
 (hb:∀(f:AB) (cdv:AA) (A:Al) (outer:List Env) (s:AG) (H:Hp) (E:XK),O9 k (A.deeper (envOfC x (d5 st) s.heap.objs.size f cdv))->ESs (a30 CX0 P w K mg base N x (d5 st) f cdv A outer s H E).nox (G9 st) m):
 u7 P w K mg base x ps (k+1) (n6 (N.length - ps.length) m):=
 let ⟨f,fd,F,hm⟩:=D
 ⟨f,fd,b70 F S (hb f),hm,F.kp,F.binds hi⟩
def c0B{fa:AB}{st:Stmt}{x:Str}{k:Nat}{g:List PV->Option g6}(D:Df K mg "law" st)(hfa:mg "law"=some (.ref fa))
 (hi:∀(kV doc pm:AA) (an:Option AB) (cdv ct v:AA),bindArgs (W.fnOf "law" "law" (Y4 st) (G9 st) (d5 st) .none kV doc pm an cdv ct) ⟨[v],[]⟩=pure [(x,v)])
 (main:∀ns:List Int,ns.length<=63->g [.list (ns.map .int)]=some (.val (.bool true)))
 (H:∀(base:Heap) (f:AB) (fd:FuncData),K.In base->Fun K "law" "law" st f fd->U0 P w K mg base CX0 k f fd [x] (spP K 1 g)):
 ∃fd:FuncData,(∀(s:AG) (v:AA),BindsTo s fd ⟨[v],[]⟩ [(x,v)])/\∀base:Heap,K.In base->base.Ns mainGlobals mg->U0 P w K mg base CX0 k fa fd [x] (b36 K):=by
 obtain⟨f,fd,F,hm⟩:=D
 have e:=hfa.symm.trans hm
 cases e
 refine⟨fd,fun s v=> ?_,fun base kb _=>(H base _ fd kb F).imp (c0C main)⟩
 obtain⟨oc,od,kV,doc,pm,an,cdv,ct,osl,rfl,lk,hcd⟩:=F.ex
 exact .of_eq (hi kV doc pm an cdv ct v)
end
def el0{C:List AA->Prop}(h:C [])(us:List AA)(e:us.length=0):C us:=List.length_eq_zero_iff.mp e▸h
def el1{C:List AA->Prop}(h:∀a,C [a])(us:List AA)(e:us.length=1):C us:=by
 obtain⟨a,rfl⟩:=List.length_eq_one_iff.mp e
 exact h a
def elS(e:us.length=n+1):∃a t,us=a::t/\t.length=n:=by
 cases us with
 |nil=>cases e
 |cons a t=>exact⟨a,t,rfl,Nat.succ.inj e⟩
def el2{C:List AA->Prop}(h:∀a b,C [a,b])(us:List AA)(e:us.length=2):C us:=by
 obtain⟨a,t,rfl,z⟩:=elS e
 exact el1 (C:=fun t=>C (a::t)) (h a) t z
def el3{C:List AA->Prop}(h:∀a b c,C [a,b,c])(us:List AA)(e:us.length=3):C us:=by
 obtain⟨a,t,rfl,z⟩:=elS e
 exact el2 (C:=fun t=>C (a::t)) (h a) t z
def el4{C:List AA->Prop}(h:∀a b c d,C [a,b,c,d])(us:List AA)(e:us.length=4):C us:=by
 obtain⟨a,t,rfl,z⟩:=elS e
 exact el3 (C:=fun t=>C (a::t)) (h a) t z
def z8{st:List Stmt}:ESs X st (fun _=>none):=fun pins s σ H D I h=>by
 obtain⟨F0,H0,F,ρ,fl,so,e,fin⟩:=h
 cases e
def Q6(x y z:g6):Option g6:=match x,y,z with
 | .val (.str a),.val (.str b),.val (.int i)=>some (.val (.bool (fromIndex a.length i+b.length<=a.length && Builtin.Str.subAt a b (fromIndex a.length i))))
 |_,_,_=>none
def m3(g:g6->g6->g6->Option g6)(a b c:M):M:=fun ρ=>(a ρ).bind fun x=>(b ρ).bind fun y=>(c ρ).bind fun z=>g x y z
def b67:MtR X "str.startswith" (fun x xs H Q=>∃F y z rx ry rz r,xs=[y,z]/\y4 F H/\U1 X.K F H x rx/\U1 X.K F H y ry/\U1 X.K F H z rz/\Q6 rx ry rz=some r/\∀v F' H',C0 X.K F H F' H' v r->Q v H'):=by
 intro pins s σ H x xs v us Q I rx rv h
 obtain⟨F,y,z,ra,rb,rc,r,rfl,s0,h1,h2,h3,h4,k⟩:=h
 cases rv with
 |cons ru rv=>
  cases rv with
  |cons ru2 rv=>
   cases rv
   unfold Q6 at h4
   split at h4
   ·rename_i a b i
    cases h4
    cases h1
    cases h2
    cases h3
    obtain⟨t,rfl⟩:=rx
    obtain⟨t2,rfl⟩:=ru
    obtain⟨t3,rfl⟩:=ru2
    exact call_gives PySem.F.slot_str_startswith (typeIs_str _ _ _) PySem.F.entry_str_startswith (PySem.F.args_str_startswith_3 _ _ _) (gives_str_startswith_from a b i t t2 t3) ⟨.bl _,H,I,rfl,k _ F H (C0.here s0 rfl)⟩
   ·cases h4
def a0h(ho:EE X o m)(ha:EE X e n)(hb:EE X f l)
 (hbase:attributeBase o "startswith" X.env (eval o X.env)=eval o X.env:=by rfl)
 (hfew:((backTo cpos (AJ [e,f] X.env)).all (fun x=> !x.1)&&(backToKw cpos (keywordEach [] X.env)).all (fun x=>x.1.isSome)
  && decide ([e,f].length+([]:List Keyword).length+(if([]:List Keyword).isEmpty then 0 else 1)<30))=true:=by rfl)
 (hline:(apos.endLine==cpos.line)=true:=by rfl) (hs:AJ [e,f] X.env=(false,eval e X.env)::AJ [f] X.env:=by rfl) (hs2:AJ [f] X.env=(false,eval f X.env)::AJ [] X.env:=by rfl) (hplain:(backTo cpos (AJ [f] X.env)).any (·.1)=false:=by rfl):
 EE X (.Call (.Attribute o "startswith" apos) [e,f] [] cpos) (m3 Q6 m n l):=
 D3 (b1j PySem.F.plainAttrs_str PySem.F.slot_str_startswith PySem.F.type_str_startswith b67 ho (G1 ha (G1 hb W3 hs2) hs) hbase hfew hline hs hplain) fun σ H Q ⟨F,ρ,r,he,hm,k⟩=>by
  obtain⟨rx,e1,hm⟩:=bind_some hm
  obtain⟨ry,e2,hm⟩:=bind_some hm
  obtain⟨rz,e3,hm⟩:=bind_some hm
  refine⟨F,ρ,rx,he,e1,fun v F1 H1 o1=>⟨?_,⟨F1,ρ,ry,he.ext o1.x,e2,fun u F2 H2 o2=>⟨F2,ρ,rz,(he.ext o1.x).ext o2.x,e3,fun w F3 H3 o3=>⟨F3,u,w,rx,ry,rz,r,rfl,o3.x.fh,(o1.rep.ext o2.x).ext o3.x,o2.rep.ext o3.x,o3.rep,hm,fun z F4 H4 o4=>k z F4 H4 (C0.trans ((o1.x.trans o2.x).trans o3.x) o4)⟩⟩⟩⟩⟩
  unfold Q6 at hm
  split at hm
  ·cases o1.rep;rfl
  ·cases hm
abbrev obV(x:Str)(es:List (PV×PV)):PV:= .dict ((.str x,.bool false)::es)
def b1Z(f:Str):List (PV×PV)->Option PV
 |[]=>none
 |(.str g,p)::r=>if f==g then some p else b1Z f r
 |_::_=>none
def c3O:List Str->List PV->List (PV×PV)
 |f::fs,q::qs=>(.str f,q)::c3O fs qs
 |_,_=>[]
section
variable {K:AE}{F:Hp}
theorem b5S:∀{es:List (PV×PV)} {fs:List (Str×V)} {p:PV},a39 K F es fs->b1Z f es=some p->∃v,fs.lookup f=some v/\T7 K F p v
 |[],_,_,_,h=>by cases h
 |(k,q)::es,_,p,⟨g,v,t,e,z,r,rt⟩,h=>by
  subst e;subst z
  unfold b1Z at h
  rw [List.lookup_cons]
  cases hg:f==g with
  |true=>rw [hg] at h;cases h;exact⟨v,rfl,r⟩
  |false=>rw [hg] at h;exact b5S rt h
theorem b29:∀{es:List (PV×PV)} {fs:List (Str×V)},a39 K F es fs->b1Z f es=none->fs.lookup f=none
 |[],_,h,_=>by cases h;rfl
 |(k,q)::es,_,⟨g,v,t,e,z,r,rt⟩,h=>by
  subst e;subst z
  unfold b1Z at h
  rw [List.lookup_cons]
  cases hg:f==g with
  |true=>rw [hg] at h;cases h
  |false=>rw [hg] at h;exact b29 rt h
theorem b3X:∀{fs:List Str} {qs:List PV} {vs:List V},w8 K F qs vs->a39 K F (c3O fs qs) (fs.zip vs)
 |[],qs,vs,_=>rfl
 |f::fs,[],vs,h=>by cases h;rfl
 |f::fs,q::qs,vs,⟨v,t,e,r,rt⟩=>by subst e;exact⟨f,v,_,rfl,rfl,r,b3X rt⟩
def b8N(h:T7 K F (obV x es) v):∃a C dx fs,v= .ref a/\F a=some (.ins C dx fs)/\X6 K x C/\a39 K F es fs:=by
 rcases h with⟨a,ys,_,_,kk,w,t,_,z,_⟩|⟨a,ys,_,_,kk,w,t,_,z,_⟩|⟨y,t,e,h⟩|⟨y,m,fs,ho,hf⟩
 ·cases z
 ·cases z
 ·cases e
  rcases h with⟨z,_⟩|⟨z,_⟩<;>cases z
 ·obtain⟨g,v',t,e,z,r,rt⟩:=hf
  cases e;cases z
  rcases ho with⟨rfl,a,C,dx,e,q,n⟩|⟨rfl,_⟩
  ·exact⟨a,C,dx,fs,e,q,n,rt⟩
  ·cases r
end
def b9N(h:H a=some o):K7 H a o=H:=by
 funext b;unfold K7;split
 ·rename_i e;rw [e,h]
 ·rfl
theorem b3W:∀{gs:List (Str×V)},f∉gs.map (·.1)->a4K f v gs=gs++[(f,v)]
 |[],_=>rfl
 |(g,x)::r,h=>by
  simp only [AK,AZ,not_or] at h
  show(if g=f then _ else _)=_
  rw [if_neg fun e=>h.1 e.symm,b3W h.2];rfl
def tFl(K:AE):Nat->List Str->TS
 |_,[]=>c1V
 |i,f::r=>c4J (c4A K (b2E 0) (b2E i) f) (tFl K (i+1) r)
theorem b6t{K:AE}{C:AB}(c:Cls K C){a dx:AB}{D:a3Z}{σ:L2.St}(h0:σ[0]?=some (some (.ref a))):∀(fs:List Str) (i:Nat) (gs:List (Str×V)) (ws:List V) (H:Hp),
 (∀f∈fs,a03 K C f)->fs.Nodup->(∀f∈fs,f∉gs.map (·.1))->gs.length+fs.length<=1000->ws.length=fs.length->(∀j w,ws[j]?=some w->σ[i+j]?=some (some w))->H a=some (.ins C dx gs)->
 D.nx σ (K7 H a (.ins C dx (gs++fs.zip ws)))->tFl K i fs D σ H
 |[],i,gs,ws,H,_,_,_,_,_,_,hH,k=>by
  rw [List.zip_nil_left,Aj,b9N hH] at k
  exact k
 |f::fs,i,gs,ws,H,hn,nd,hd,hl,hw,hs,hH,k=>by
  cases ws with
  |nil=>cases hw
  |cons w ws=>
   have hl':gs.length+(fs.length+1)<=1000:=hl
   refine⟨w,hs 0 w rfl,.ref a,h0,a,C,dx,gs,rfl,hH,c,hn f Ab,by lia, ?_⟩
   have hp:=b3W (v:=w) (hd f Ab)
   rw [hp]
   rw [List.nodup_cons] at nd
   refine b6t c h0 fs (i+1) (gs++[(f,w)]) ws _ (fun g hg=>hn g (Ah _ hg)) nd.2 (fun g hg=> ?_) (by simp only [AQ,AM,Ae];lia) (Nat.succ.inj hw) (fun j u hj=> ?_) z9 ?_
   ·simp only [BF,AK,AN,Av,List.mem_singleton,not_or]
    exact⟨hd g (Ah _ hg),fun e=>nd.1 (e▸hg)⟩
   ·have:=hs (j+1) u (by simpa using hj)
    rwa [show i+(j+1)=i+1+j by lia] at this
   ·rw [b6u,List.append_assoc]
    exact k
def spI(C:AB)(fs:List Str):Sp:=fun vs H Q _=>∃a dx ws,vs= .ref a::ws/\ws.length=fs.length/\H a=some (.ins C dx [])/\Q .non (K7 H a (.ins C dx (fs.zip ws)))
def c2v{P:Ac}{w:AU}{K:AE}{mg:Str->Option AA}{base:Heap}{qual:Str}{st:Stmt}{f C:AB}{fd:FuncData}{ps fs:List Str}{k:Nat}(F:Fun K "__init__" qual st f fd)(S:j0 ps ps (d5 st))(hl:ps.length=fs.length+1)
 (c:Cls K C) (na:∀f∈fs,a03 K C f) (nd:fs.Nodup) (hs:fs.length<=1000)
 (hb:∀(cdv:AA) (A:Al) (outer:List Env) (s:AG) (H:Hp) (E:XK),O9 k (A.deeper (envOfC qual (d5 st) s.heap.objs.size f cdv))->PSs (a30 CX0 P w K mg base ps qual (d5 st) f cdv A outer s H E).nox (G9 st) (tFl K 1 fs)):
 U0 P w K mg base CX0 (k+1) f fd ps (spI C fs):=by
 refine F.ok S (fun vs H Q E h=> ?_) (fun cdv A outer s H vs Q E hr h=> ?_)
 ·obtain⟨a,dx,ws,rfl,h2,_⟩:=h
  rw [AM,h2,hl]
 ·obtain⟨a,dx,ws,rfl,h2,hH,q⟩:=h
  refine⟨_,hb cdv A outer s H E hr, ?_⟩
  refine b6t (σ:=a3Y ps (.ref a::ws)) c rfl fs 1 [] ws H na nd (fun _ _ z=>nomatch z) (by simpa using hs) h2 (fun j u hj=> ?_) hH q
  unfold L2.a3Y
  rw [BB (by rw [Ak,AM];have:=(Aw.mp hj).1;lia),Nat.add_comm,AK,List.getElem?_cons_succ,As,hj]
  rfl
def Q1(P:Ac)(w:AU)(K:AE)(mg:Str->Option AA)(base:Heap)(x:Str)(fs:List Str)(k:Nat):Prop:=
 ∃C f fd ps,Mk K C f/\U0 P w K mg base CX0 k f fd ps (spI C fs)/\mg x=some (.ref C)/\a0K K fd ps []/\X6 K x C
def P4(x:Str)(fs:List Str)(m:MA):M:=fun ρ=>(m ρ).bind fun qs=>some (.val (obV x (c3O fs qs)))
section
variable {X:Cx}
def T4
 (d:Q1 X.prog X.w X.K X.mg X.base x fs k) (hr:O9 k' X.A) (hk:k+1<=k') (hg:Gl X x) (hn:∀ρ qs,m ρ=some qs->qs.length=fs.length) (ha:EA X (e::es) m)
 (hdb:(x==("__debug__":Str))=false:=by decide) (he:AJ (e::es) X.env=(false,eval e X.env)::AJ es X.env:=by rfl) (hpl:(backTo pos (AJ es X.env)).any (·.1)=false:=by rfl):
 EE X (.Call (.Name x p) (e::es) [] pos) (P4 x fs m):=by
 obtain⟨C,f,fd,ps,M,G,hm,hb,nm⟩:=d
 refine D3 (c08 M G (hr.mono hk) hg hm hb .nil b6j ha hdb he hpl) fun σ H Q ⟨F,ρ,r,en,em,kk⟩=> ?_
 obtain⟨qs,e1,e2⟩:=bind_some em
 cases e2
 refine⟨F,ρ,qs,en,e1,fun vs F1 H1 x1 rl=> ?_⟩
 intro y dx hy hdx hne
 refine⟨y,dx,vs,by rw [Aj],by rw [rl.length,hn _ _ e1],z9,rfl, ?_⟩
 rw [b6u]
 have x2:Ext F1 H1 F1 (K7 H1 dx (.own y)):=Ext.layH x1.fh hdx
 have hy2:K7 H1 dx (.own y) y=none:=by rw [w4 fun z=>hne z.symm];exact hy
 have x3:Ext F1 (K7 H1 dx (.own y)) (K7 F1 y (.ins C dx (fs.zip vs))) (K7 (K7 H1 dx (.own y)) y (.ins C dx (fs.zip vs))):=Ext.lay x2.fh hy2
 refine kk _ _ _ (C0.trans (x1.trans x2) (C0.val x3 ?_))
 refine .inr (.inr (.inr ⟨x,.bl false,fs.zip vs,.inl ⟨rfl,y,C,dx,rfl,z9,nm⟩,x,.bl false,_,rfl,rfl,rfl, ?_⟩))
 exact a39.mono x3.f _ (b3X rl)
def a02(K:AE)(tab:List Str)(f:Str):Prop:=∀x,tab.contains x=true->∀C,X6 K x C->Cls K C/\a03 K C f
def A5(tab:List Str)(f:Str)(r:g6):Option g6:=match r with
 | .val (.dict ((.str x,.bool false)::es))=>if tab.contains x=true then(b1Z f es).map .val else none
 |_=>none
def A4(T:a02 X.K tab f)(ha:EE X e m)(hb:attributeBase e f X.env (eval e X.env)=eval e X.env:=by rfl):EE X (.Attribute e f pos) (m1 (A5 tab f) m):=
 D3 (c3c ha hb) fun σ H Q ⟨F,ρ,r,en,em,k⟩=>by
  obtain⟨rx,e1,e2⟩:=bind_some em
  refine⟨F,ρ,rx,en,e1,fun v F1 H1 o=> ?_⟩
  unfold A5 at e2
  split at e2
  ·rename_i x es
   split at e2
   ·rename_i hc
    cases hp:b1Z f es with
    |none=>rw [hp] at e2;cases e2
    |some q=>
     rw [hp] at e2;cases e2
     obtain⟨a,C,dx,fs,rfl,ha,nm,hr⟩:=b8N o.rep
     obtain⟨v,hl,rv⟩:=b5S hr hp
     obtain⟨c,n⟩:=T x hc C nm
     exact⟨a,C,dx,fs,v,rfl,o.x.fh _ _ ha,c,n,hl,k v F1 H1 (C0.val o.x rv)⟩
   ·cases e2
  ·cases e2
def a8o(X:Cx)(m:Str)(n k':Nat)(tab:List (Str×(List PV->Option g6))):Prop:=∀x g,tab.lookup x=some g->∀C,X6 X.K x C->∃f fd ps k,Cls X.K C/\c3P X.K C m f/\U0 X.prog X.w X.K X.mg X.base CX0 k f fd ps (spP X.K ps.length g)/\k<=k'/\a0K X.K fd ps []/\ps.length=n+1
def D0(P:Ac)(w:AU)(K:AE)(mg:Str->Option AA)(base:Heap)(f:AB)(ps:List Str)(k:Nat)(g:List PV->Option g6):Prop:=
 ∃fd,U0 P w K mg base CX0 k f fd ps (spP K ps.length g)/\W.isFn K (.ref f)=true/\W.keepIn K (.ref f)=true/\a0K K fd ps []
structure KC(K:AE)(x:Str)(C:AB):Prop where
 named:X6 K x C
 cls:Cls K C
def B2:a8o X m n k' []:=fun _ _ h=>nomatch h
def b5(d:D0 X.prog X.w X.K X.mg X.base f ps k g)(c:KC X.K x C)(h:W.findIn X.K (.ref C) m=some (some (.ref f)))(hk:k<=k')(hn:ps.length=n+1)(T:a8o X m n k' t):a8o X m n k' ((x,g)::t):=fun y g' q D nm=>by
 rw [List.lookup_cons] at q
 split at q
 ·rename_i z
  cases q
  rw [beq_iff_eq.mp z] at nm
  cases nm.uniq c.named
  obtain⟨fd,G,h1,h2,h3⟩:=d
  exact⟨f,fd,ps,k,c.cls,⟨h,h1,h2⟩,G,hk,h3,hn⟩
 ·exact T y g' q D nm
def O3(tab:List (Str×(List PV->Option g6)))(m:Str)(mo:M)(ma:MA):M:=fun ρ=>(mo ρ).bind fun r=>match r with
 | .val (.dict ((.str x,.bool false)::es))=>if(b1Z m es).isNone=true then(tab.lookup x).bind fun g=>(ma ρ).bind fun qs=>g (obV x es::qs) else none
 |_=>none
def c0M(h:O3 tab m mo ma ρ=some r):∃x es g qs,mo ρ=some (.val (obV x es))/\b1Z m es=none/\tab.lookup x=some g/\ma ρ=some qs/\g (obV x es::qs)=some r:=by
 unfold O3 at h
 obtain⟨r1,e1,h⟩:=bind_some h
 split at h
 ·rename_i x es
  split at h
  ·rename_i hn
   obtain⟨g,e2,h⟩:=bind_some h
   obtain⟨qs,e3,h⟩:=bind_some h
   exact⟨x,es,g,qs,e1,Option.isNone_iff_eq_none.mp hn,e2,e3,h⟩
  ·cases h
 ·cases h
def L3(T:a8o X m 0 k' tab)(hr:O9 k' X.A)(ho:EE X o mo)
 (ht:eval (.Call (.Attribute o m apos) [] [] pos) X.env=(do
  let ov<-eval o X.env
  standAt apos.atName
  let (f,first)<-holding [ov] (getMethod ov m pl)
  callWith pos f first (backTo pos (AJ [] X.env)) (backToKw pos (keywordEach [] X.env))):=by rfl):
 EE X (.Call (.Attribute o m apos) [] [] pos) (O3 tab m mo b8):=by
 intro pins s σ H Q I ⟨F,ρ,r,env,hm,k⟩
 obtain⟨x,fe,g,qs,e1,e2,e3,e4,e5⟩:=c0M hm
 cases e4
 refine W.methodCall_KW (pl:=pl) (Q3 (ho pins s σ H _ I ⟨F,ρ,_,env,e1,fun v F1 H1 o1=>(⟨F1,o1⟩:∃F1,C0 X.K F H F1 H1 v (.val (obV x fe)))⟩) fun u s1 ⟨v,H1,I1,rx,F1,o1⟩=> ?_) ht
 obtain⟨a,C,dx,fs,rfl,ha',nm,hf⟩:=b8N o1.rep
 obtain rfl:u=Value.ref a:=rx
 obtain⟨f,fd,ps,kk,c,hM,G,hk,hb,hl⟩:=T x g e3 C nm
 refine b4P I1 (o1.x.fh _ _ ha') c hM (b29 hf e2) ?_
 refine W.callWith_K0 (first:=[.ref a]) I1.kIn hM.kp ?_
 refine b5q (us:=[.ref a]) (vs:=[.ref a]) (dvs:=[]) (ds:=[]) (sp:=spP X.K ps.length g) (E:=E0) G (hr.mono hk) hb .nil b6j I1 (.cons rfl .nil) ?_
 show spP X.K ps.length g ([.ref a]++[]) H1 Q E0
 rw [Aj]
 exact⟨F1,[obV x fe],r,o1.x.fh,⟨.ref a,[],rfl,o1.rep,rfl⟩,by rw [hl];rfl,e5,fun v F3 H3 o=>k v F3 H3 (C0.trans o1.x o)⟩
end
section
variable {P:Ac}{w:AU}{K:AE}{mg:Str->Option AA}{base:Heap}
def Dm(K:AE)(x qual:Str)(st:Stmt)(f:AB):Prop:=W.isFn K (.ref f)=true/\∃fd,Fun K x qual st f fd
def c31{x qual:Str}{st:Stmt}{f:AB}{oc:AA}{od an:Option AB}{osl:Array (Option AA)}{kV doc pm cdv ct:AA}
 (l:K.lookup f=some ⟨oc,od,.func (W.fnOf x qual (Y4 st) (G9 st) (d5 st) .none kV doc pm an cdv ct),osl⟩) (c:W.codeIn K cdv qual=true) (k:W.keepIn K (.ref f)=true) (i:W.isFn K (.ref f)=true):Dm K x qual st f:=⟨i,_,b73 l c k⟩
def B0{x qual:Str}{st:Stmt}{N ps:List Str}{k:Nat}{m:MS}{f:AB}(D:Dm K x qual st f)(S:j0 N ps (d5 st))
 (hi:∀(kV doc pm:AA) (an:Option AB) (cdv ct:AA) (us:List AA),us.length=ps.length->bindArgs (W.fnOf x qual (Y4 st) (G9 st) (d5 st) .none kV doc pm an cdv ct) ⟨us,[]⟩=pure (ps.zip us))
 (hb:∀(cdv:AA) (A:Al) (outer:List Env) (s:AG) (H:Hp) (E:XK),O9 k (A.deeper (envOfC qual (d5 st) s.heap.objs.size f cdv))->ESs (a30 CX0 P w K mg base N qual (d5 st) f cdv A outer s H E).nox (G9 st) m):
 D0 P w K mg base f ps (k+1) (n6 (N.length - ps.length) m):=
 let ⟨i,fd,F⟩:=D
 ⟨fd,b70 F S hb,i,F.kp,F.binds hi⟩
def a00{x qual:Str}{st:Stmt}{ps fs:List Str}{k:Nat}{f C:AB}(D:Dm K "__init__" qual st f)(S:j0 ps ps (d5 st))(hl:ps.length=fs.length+1)(c:KC K x C)(hm:mg x=some (.ref C))(M:Mk K C f)(na:∀f∈fs,a03 K C f)(nd:fs.Nodup)(hs:fs.length<=1000)
 (hi:∀(kV doc pm:AA) (an:Option AB) (cdv ct:AA) (us:List AA),us.length=ps.length->bindArgs (W.fnOf "__init__" qual (Y4 st) (G9 st) (d5 st) .none kV doc pm an cdv ct) ⟨us,[]⟩=pure (ps.zip us))
 (hb:∀(cdv:AA) (A:Al) (outer:List Env) (s:AG) (H:Hp) (E:XK),O9 k (A.deeper (envOfC qual (d5 st) s.heap.objs.size f cdv))->PSs (a30 CX0 P w K mg base ps qual (d5 st) f cdv A outer s H E).nox (G9 st) (tFl K 1 fs)):
 Q1 P w K mg base x fs (k+1):=
 let ⟨i,fd,F⟩:=D
 ⟨C,f,fd,ps,M,c2v F S hl c.cls na nd hs hb,hm,F.binds hi,c.named⟩
end
def R7{K:AE}{f:Str}:a02 K [] f:=fun _ h=>nomatch h
def C1{K:AE}{f x:Str}{C:AB}{t:List Str}(c:KC K x C)(n:a03 K C f)(h:a02 K t f):a02 K (x::t) f:=fun y q D nm=>by
 rw [List.contains_cons,Bool.or_eq_true] at q
 rcases q with q|q
 ·rw [beq_iff_eq.mp q] at nm
  cases nm.uniq c.named
  exact⟨c.cls,n⟩
 ·exact h y q D nm
structure KI(K:AE)(C:AB):Prop where
 ha:W.findIn K (.ref C) "__class__"=some (some (.builtin "object.__class__"))
 hn:W.specialIn K (.builtin "object.__class__") "__get__"=some (some (.builtin "getset_descriptor.__get__"))
 htk:W.takesIn K (.builtin "object.__class__")=some true
 hm:W.mroIn K C (.type "object")=some true
def X5(K:AE)(cv:AA)(tab:List (Str×Bool)):Prop:=∀x b,tab.lookup x=some b->∀C,X6 K x C->Cls K C/\KI K C/\W.kitOne K (.ref C) cv=some b
def a85{K:AE}{cv:AA}:X5 K cv []:=fun _ _ h=>nomatch h
def b3l{K:AE}{cv:AA}{x:Str}{b:Bool}{C:AB}{t:List (Str×Bool)}(c:KC K x C)(i:KI K C)(e:W.kitOne K (.ref C) cv=some b)(h:X5 K cv t):X5 K cv ((x,b)::t):=fun y b' q D nm=>by
 rw [List.lookup_cons] at q
 split at q
 ·rename_i z
  cases q
  rw [beq_iff_eq.mp z] at nm
  cases nm.uniq c.named
  exact⟨c.cls,i,e⟩
 ·exact h y b' q D nm
def a8W(tab:List (Str×Bool))(r:g6):Option g6:=match r with
 | .val (.dict ((.str x,.bool false)::_))=>(tab.lookup x).map fun b=> .val (.bool b)
 |_=>none
section
variable {X:Cx}
def a3g(T:X5 X.K cv tab)(rv:∀u,A8 cV u->u=cv)(hg:Gl X "isinstance")(hm:X.mg "isinstance"=none)(ha:EE X e m)(hT:PE X (.Name n p2) (tC cV))
 (he:AJ [e,.Name n p2] X.env=(false,eval e X.env)::AJ [.Name n p2] X.env:=by rfl) (he2:AJ [.Name n p2] X.env=(false,eval (.Name n p2) X.env)::AJ [] X.env:=by rfl) (hpl:(backTo pos (AJ [.Name n p2] X.env)).any (·.1)=false:=by rfl)
 (hv:bootBuiltins "isinstance"=some (.builtin "isinstance"):=by rfl):
 EE X (.Call (.Name "isinstance" p) [e,.Name n p2] [] pos) (m1 (a8W tab) m):=by
 have hc:R0 X (.builtin "isinstance") (fun xs H Q=>∃a C dx fs b,xs=[.ref a,cV]/\H a=some (.ins C dx fs)/\Cls X.K C/\KI X.K C/\W.kitOne X.K (.ref C) cv=some b/\Q (.bl b) H):=by
  intro pins s σ H xs us Q I rv0 h
  obtain⟨a,C,dx,fs,b,rfl,h1,c,ki,kk,q⟩:=h
  obtain⟨u,u2,rfl,ru,ru2⟩:∃u1 u2,us=[u1,u2]/\A8 (.ref a) u1/\A8 cV u2:=by
   cases rv0 with
   |cons p q=>
    cases q with
    |cons p' q'=>
     cases q'
     exact⟨_,_,rfl,p,p'⟩
  cases rv _ ru2
  exact b6Q I ru (.ins h1 c ki.ha ki.hn ki.htk ki.hm) kk fun tk=>⟨.bl _,H,I.tok tk,rfl,q⟩
 exact D3 (a4I hc hg hm hv (G1 ha (G1 hT W3 he2) he) (by decide) (by decide) he hpl) fun σ H Q ⟨F,ρ,r,h1,h2,k⟩=>by
  obtain⟨rx,e1,h2⟩:=bind_some h2
  refine⟨F,ρ,rx,h1,e1,fun v F1 H1 o=> ?_⟩
  unfold a8W at h2
  split at h2
  ·rename_i x es
   cases hl:tab.lookup x with
   |none=>rw [hl] at h2;cases h2
   |some b=>
    rw [hl] at h2
    cases h2
    obtain⟨a,C,dx,fs,rfl,ha,nm,hr⟩:=b8N o.rep
    obtain⟨c,ki,kk⟩:=T x b hl C nm
    exact⟨a,C,dx,fs,b,rfl,o.x.fh _ _ ha,c,ki,kk,k _ F1 H1 (C0.val o.x rfl)⟩
  ·cases h2
end
def O5(st:Stmt)(j:Nat):Stmt:=match st with
 | .ClassDef _ _ _ body _ _ _ _ _ _ _=>body.getD j st
 |_=>st
end PU
set_option maxHeartbeats 2000000
namespace PU
open PySem PySem.Spec PyProof.Rows L2 PySem.W
abbrev kwD(d:AA):List (Str×AA):=[(AC "default",d)]
def b62(a d:AA):argsOk "max" ⟨[a],kwD d⟩:=by unfold argsOk;kernel_rfl
def b63(d:AA):Builtin.Builtins.bindParams "max" ["key","default"] 0 ⟨[],kwD d⟩=pure [none,some d]:=rfl
def a8u:(toString "max"++toString ".loop":String)="max.loop":=by decide
def c0J{R:Result->AG->Prop}{I:AB}{fp wr:List AB}{n:Nat}{P:Nat->AA->Prop}{St:Nat->Heap->Prop}{d:AA}(bt:Nat->Nat->Bool)(W:Walks prog w A.in1 I fp wr n P St)(cm:CmpOf prog w A.in1 .Gt P bt){B:AB}(nB:B∉fp)(m:Nat):
 ∀(i:Nat) (t:AG) (b:AA) (cc:Nat),i+1+m=n->St (i+1) t.heap->P (argBest bt i) b->t.heap.get? B=some {cls:= .type "list",dict:=none,data:= .seq #[b,b] cc,slots:= #[]}->
  (∀r g z,P (argBest bt (n - 1)) r->(∀c o,c∉wr->c≠B->t.heap.get? c=some o->g.get? c=some o)->R (.ok (.ret r)) {t with heap:=g,toks:=z})->
  codeAny (model prog w) A (.builtin "max.loop" ⟨[.ref I,.none,.ref B],kwD d⟩) R t:=by
 have wB:B∉wr:=fun q=>nB (W.sub _ q)
 induction m with
 |zero=>
  intro i t b cc e st pb oB fin
  refine codeAny_builtin F.entry_max_loop (by
   rw [Around.under_plainId F.plain_max_loop _]
   refine AD (wpAny_seqItems oB rfl (AD (wpAny_tryCatch (W.done t _ _ (by rw [<-e];exact st) fun g z kp=> ?_))))
   refine AD (wpAny_updateSeq (kp B _ wB oB) rfl (AD (wpAny_letGo (AI (fin b _ z (by rw [<-e];exact pb) fun c o c1 c2 q=> ?_)))))
   exact(Heap.get?_update_other _ _ fun y=>c2 y.symm).trans (kp c o c1 q))
 |succ m ih=>
  intro i t b cc e st pb oB fin
  refine codeAny_builtin F.entry_max_loop (by
   rw [Around.under_plainId F.plain_max_loop _]
   refine AD (wpAny_seqItems oB rfl (AD (wpAny_tryCatch (W.item (i+1) t _ _ (by lia) st fun r g z pr st' kp=> ?_))))
   have oB':=kp B _ wB oB
   refine AD (AI ?_)
   refine AD (wpAny_tryCatch (wpAny_holding (AD (cm (i+1) (argBest bt i) r b _ _ _ pr pb (AD (wpAny_holding (wpAny_truthy_bool (AD (wpAny_letGo (AI ?_))))))))))
   cases q:bt (i+1) (argBest bt i) with
   |true=>
    rw [if_pos rfl]
    refine AD (wpAny_updateSeq oB' rfl (AD (wpAny_letGo ?_)))
    rw [a8u]
    refine AI ⟨plainId_quiet F.plain_max_loop _,ih (i+1) _ r _ (by lia) (W.frame _ _ _ st' fun c h o y=>(Heap.get?_update_other _ _ fun x:B=c=>nB (x▸h)).trans y) (by rw [argBest,q];exact pr) (Heap.get?_update_self _ oB' rfl) fun r' g' z' p' kp'=>fin r' g' z' p' fun c o c1 c2 y=>kp' c o c1 c2 ((Heap.get?_update_other _ _ fun x=>c2 x.symm).trans (kp c o c1 y))⟩
   |false=>
    rw [if_neg Ar]
    refine AD (wpAny_letGo ?_)
    rw [a8u]
    exact AI ⟨plainId_quiet F.plain_max_loop _,ih (i+1) _ b cc (by lia) st' (by rw [argBest,q];exact pb) oB' fun r' g' z' p' kp'=>fin r' g' z' p' fun c o c1 c2 y=>kp' c o c1 c2 (kp c o c1 y)⟩)
def b64{l:AB}{xs:Array (Int×Tok)}{d:AA}{Q:AA->AG->Prop}(hh:A.handled=none)(hl:s.heap.IsList l (intItems xs))
 (h0:xs.size=0->∀h' tk,(∀b o,s.heap.get? b=some o->h'.get? b=some o)->Q d {s with heap:=h',toks:=tk})
 (h:0<xs.size->∀v h' tk,(intItems xs)[argBest (fun i j=>decide (numAt xs i>numAt xs j)) (xs.size - 1)]?=some v->(∀b o,s.heap.get? b=some o->h'.get? b=some o)->Q v {s with heap:=h',toks:=tk}):
 AF (model prog w) A (call (.builtin "max") [.ref l] (kwD d)) Q E s:=by
 refine kmb_tree F.kind_max F.plain_max F.entry_max (b62 _ _) ?_
 refine AD (wpAny_of_eq (b63 d) (AD (AI (AD (iter_intList hl fun s₂ e st hfp hlI=> ?_)))))
 subst e
 have W:=Walks.list (prog:=prog) (w:=w) (A:=A.in1) hh _ l hlI (intItems xs)
 refine AD (wpAny_newList ?_ (Nat.zero_le _))
 rw [a8u]
 have hsz:(intItems xs).size=xs.size:=by simp [intItems]
 generalize hs2:({s with heap:=s.heap.push {cls:= .type "list_iterator",data:= .fields #[.ref l,.int 0 0]}}:AG)=t at*
 have hk1:∀b o,s.heap.get? b=some o->t.heap.get? b=some o:=fun b o q=>by rw [<-hs2];exact AT _ q
 have nB:t.heap.objs.size∉[s.heap.objs.size,l]:=fun q=>Nat.lt_irrefl _ (hfp _ q)
 have oB:(t.heap.push (seqObj "list" #[] 0)).get? t.heap.objs.size=some (seqObj "list" #[] 0):=An _ rfl
 have wB:t.heap.objs.size∉[s.heap.objs.size]:=fun q=>nB (AZ.mpr (.inl (List.mem_singleton.mp q)))
 have kept:∀{g:Heap},(∀c o,c∉[s.heap.objs.size]->c≠t.heap.objs.size->(t.heap.push (seqObj "list" #[] 0)).get? c=some o->g.get? c=some o)->∀b o,s.heap.get? b=some o->g.get? b=some o:=fun {g} y b o q=>
  y b o (fun z=>absurd (List.mem_singleton.mp z▸AW q) (Nat.lt_irrefl _)) (Am (AW (hk1 b o q))) (AT _ (hk1 b o q))
 have st1:=W.frame _ _ (t.heap.push (seqObj "list" #[] 0)) st fun b _ o q=>AT _ q
 refine AI ⟨plainId_quiet F.plain_max_loop _,codeAny_builtin F.entry_max_loop ?_⟩
 rw [Around.under_plainId F.plain_max_loop _]
 refine AD (wpAny_seqItems oB rfl ?_)
 by_cases hn:xs.size=0
 ·refine AD (wpAny_tryCatch (W.done _ _ _ (by rw [hsz,hn];exact st1) fun g z kp=> ?_))
  refine AD (wpAny_rule (AI ?_))
  have:=h0 hn g z (kept fun c o c1 c2 q=>kp c o c1 q)
  rw [<-hs2]
  exact this
 ·refine AD (wpAny_tryCatch (W.item 0 _ _ _ (by rw [hsz];lia) st1 fun r g z pr st' kp=> ?_))
  have oB':=kp _ _ wB oB
  refine AD (AI ?_)
  refine AD (wpAny_updateSeq oB' rfl ?_)
  rw [a8u]
  refine AI ⟨plainId_quiet F.plain_max_loop _,c0J _ W (CmpOf.ints_gt (numAt xs) (fun _ _=>intItems_at)) nB (xs.size - 1) 0 _ r _ (by rw [hsz];lia) (W.frame _ _ _ st' fun c hc o y=>(Heap.get?_update_other _ _ fun x:t.heap.objs.size=c=>nB (x▸hc)).trans y) pr (Heap.get?_update_self _ oB' rfl) fun r' g' z' p' kp'=> ?_⟩
  have:=h (by lia) r' g' z' (by rw [hsz] at p';exact p') (kept fun c o c1 c2 q=>kp' c o c1 c2 ((Heap.get?_update_other _ _ fun x=>c2 x.symm).trans (kp c o c1 q)))
  rw [<-hs2]
  exact this
def a5I(x:g6):Option g6:=match x with
 | .ow (.lst ps)=>(a2V ps).bind fun is=>if is.length<=1000 then some (.val (.int (if is.length=0 then 0 else a0O is))) else none
 |_=>none
def b5M(hc:X.calm=true)(hg:Gl X "max")(hm:X.mg "max"=none)(ha:EE X e m)(hv:bootBuiltins "max"=some (.builtin "max"):=by rfl)
 (he:AJ [e] X.env=(false,eval e X.env)::AJ [] X.env:=by rfl) (he2:backTo pos (AJ [e] X.env)=(false,eval e X.env)::backTo pos (AJ [] X.env):=by rfl)
 (hp:(backTo pos (AJ [e] X.env)).any (·.1)=false:=by rfl):
 EE X (.Call (.Name "max" p) [e] [⟨some "default",.Constant (.int 0) j cp,kp⟩] pos) (m1 a5I m):=by
 intro pins s σ H Q I ⟨F,ρ,r,en,em,k⟩
 obtain⟨rx,e1,e2⟩:=bind_some em
 unfold a5I at e2
 split at e2
 ·rename_i ps
  obtain⟨is,e3,e2⟩:=bind_some e2
  split at e2
  ·rename_i hz
   cases e2
   refine wpAny_Call_Name_kw (a7q I hg hm hv ?_ (by decide) (by decide))
   refine callWith_kw (Q3 ((G1 ha W3 he) pos pins s σ H (fun vs H1=>∃v F1,vs=[v]/\C0 X.K F H F1 H1 v (.own ps)) I ⟨F,ρ,_,en,e1,fun v F1 H1 o=>⟨v,F1,rfl,o⟩⟩) fun us s1 ⟨vs,H1,I1,rv,v,F1,ev,o⟩=> ?_) he2 hp rfl rfl
   subst ev
   obtain⟨u,rfl,ru⟩:=a1i rv
   refine Q3 ((c1a (b85 (i:=0)) c3m) pos pins s1 σ H1 (fun ws H2=>ws=[.int 0]/\H2=H1) I1 ⟨rfl,rfl⟩) fun us2 s2 ⟨ws,H2,I2,rw2,ew,eH⟩=> ?_
   subst ew;subst eH
   obtain⟨u2,rfl,ru2⟩:=a1i rw2
   obtain⟨t2,rfl⟩:=ru2
   obtain⟨a,ys,rfl,fa,ha',rl⟩:=o.rep
   cases ru
   have ey:=a3r e3 rl
   subst ey
   obtain⟨_,its,n,vv,ea⟩:=(show K3 X.prog X.w H2 s2.heap a (.lst (is.map V.int)) from I2.hok a _ ha')
   obtain⟨zs,hz1,hz2⟩:=a3O vv
   have hit:its.toArray=intItems zs.toArray:=by rw [hz2];simp [intItems]
   have hat:∀i,numAt zs.toArray i=is.getD i 0:=fun i=>by
    unfold numAt
    rw [<-hz1,List.getD_eq_getElem?_getD,As]
    simp
   have hlen:zs.length=is.length:=by rw [<-hz1,Ak]
   refine b64 (l:=a) (xs:=zs.toArray) (I2.ok.hd hc) ⟨_,ea,rfl,n,by rw [hit]⟩ (fun h0 h' tk hk=> ?_) (fun h0 v h' tk hv hk=> ?_)
   ·have hi0:is.length=0:=by rw [<-hlen];simpa using h0
    refine⟨.int 0,H2,I2.kept (t':=tk) hk,⟨t2,rfl⟩, ?_⟩
    have:=k (.int 0) F1 H2 (C0.trans o.x (C0.here o.x.fh (by rw [if_pos hi0];rfl)))
    exact this
   ·have hi0:¬is.length=0:=by rw [<-hlen];have:=h0;simp at this;lia
    obtain⟨t,rfl⟩:=intItems_at hv
    have hb:numAt zs.toArray (argBest (fun i j=>decide (numAt zs.toArray i>numAt zs.toArray j)) (zs.toArray.size - 1))=a0O is:=by
     unfold a0O
     rw [hat,show zs.toArray.size=is.length by simp [hlen]]
     congr 2
     funext i j
     rw [hat,hat]
    rw [hb]
    exact⟨.int (a0O is),H2,I2.kept (t':=tk) hk,⟨t,rfl⟩,k _ F1 H2 (C0.trans o.x (C0.here o.x.fh (by rw [if_neg hi0];rfl)))⟩
  ·cases e2
 ·cases e2
def a2T(x:g6):Option g6:=match x with
 | .ow (.lst ps)=>(N1 ps).bind fun zs=>if zs.length+1<4096/\(z0 zs).length<64 then some (.own ((z0 zs).map .str)) else none
 | .bo (.lst ps)=>(N1 ps).bind fun zs=>if zs.length+1<4096/\(z0 zs).length<64 then some (.own ((z0 zs).map .str)) else none
 |_=>none
def b25(hc:X.calm=true)(hg:Gl X "sorted")(hm:X.mg "sorted"=none)(hg2:Gl X "set")(hm2:X.mg "set"=none)(ha:EE X e m)
 (hv:bootBuiltins "sorted"=some (.builtin "sorted"):=by rfl) (hv2:bootBuiltins "set"=some (.type "set"):=by rfl)
 (hs:AJ [e] X.env=(false,eval e X.env)::AJ [] X.env:=by rfl) (hpl:(backTo pos2 (AJ [] X.env)).any (·.1)=false:=by rfl)
 (hs2:AJ [.Call (.Name "set" p2) [e] [] pos2] X.env=(false,eval (.Call (.Name "set" p2) [e] [] pos2) X.env)::AJ [] X.env:=by rfl) (hpl2:(backTo pos (AJ [] X.env)).any (·.1)=false:=by rfl):
 EE X (.Call (.Name "sorted" p) [.Call (.Name "set" p2) [e] [] pos2] [] pos) (m1 a2T m):=
 D3 (a4I (b4z hc) hg hm hv (G1 (b1k (b6B hc) hg2 hm2 hv2 (G1 ha W3 hs) (by decide) (by decide) hs hpl) W3 hs2) (by decide) (by decide) hs2 hpl2) fun σ H Q ⟨F,ρ,r,en,em,k⟩=>by
  obtain⟨rx,e1,e2⟩:=bind_some em
  refine⟨F,ρ,rx,en,e1,fun v F1 H1 o1=> ?_⟩
  unfold a2T at e2
  split at e2
  ·rename_i ps
   obtain⟨zs,e3,e2⟩:=bind_some e2
   split at e2
   ·rename_i c
    cases e2
    obtain⟨a,xs,rfl,fa,ha',rl⟩:=o1.rep
    obtain⟨rfl,rfl⟩:=a5a e3 rl
    refine⟨a,zs,rfl,ha',c.1,fun p es ep hp hT hle=> ?_⟩
    refine⟨p,es,ep,zs,rfl,z9,hT,c.2,fun q hq=>k _ F1 _ ?_⟩
    have x1:Ext F1 H1 F1 (K7 H1 p (.ext fun h=>Q7 X.prog X.w h p es ep)):=Ext.layH o1.x.fh hp
    exact C0.trans (o1.x.trans x1) (C0.lst x1.fh hq (a2Y _))
   ·cases e2
  ·rename_i ps
   obtain⟨zs,e3,e2⟩:=bind_some e2
   split at e2
   ·rename_i c
    cases e2
    obtain⟨a,xs,rfl,fa,ha',rl⟩:=o1.rep
    obtain⟨rfl,rfl⟩:=a5a e3 rl
    refine⟨a,zs,rfl,ha',c.1,fun p es ep hp hT hle=> ?_⟩
    refine⟨p,es,ep,zs,rfl,z9,hT,c.2,fun q hq=>k _ F1 _ ?_⟩
    have x1:Ext F1 H1 F1 (K7 H1 p (.ext fun h=>Q7 X.prog X.w h p es ep)):=Ext.layH o1.x.fh hp
    exact C0.trans (o1.x.trans x1) (C0.lst x1.fh hq (a2Y _))
   ·cases e2
  ·cases e2
def b5Q(a b:Str)(i:Int):Int:=match Builtin.Str.occurrences a b (fromIndex a.length i) a.length 1 with
 |k::_=>(k:Int)
 |[]=> -1
def b0V(x y z:g6):Option g6:=match x,y,z with
 | .val (.str a),.val (.str b),.val (.int i)=>some (.val (.int (b5Q a b i)))
 |_,_,_=>none
def c0P:MtR X "str.find" (fun x xs H Q=>∃F y z rx ry rz r,xs=[y,z]/\y4 F H/\U1 X.K F H x rx/\U1 X.K F H y ry/\U1 X.K F H z rz/\b0V rx ry rz=some r/\∀v F' H',C0 X.K F H F' H' v r->Q v H'):=by
 intro pins s σ H x xs v us Q I rx rv h
 obtain⟨F,y,z,ra,rb,rc,r,rfl,s0,h1,h2,h3,h4,k⟩:=h
 cases rv with
 |cons ru rv=>
  cases rv with
  |cons ru2 rv=>
   cases rv
   unfold b0V at h4
   split at h4
   ·rename_i a b i
    cases h4
    cases h1
    cases h2
    cases h3
    obtain⟨t,rfl⟩:=rx
    obtain⟨t2,rfl⟩:=ru
    obtain⟨t3,rfl⟩:=ru2
    exact call_gives PySem.F.slot_str_find (typeIs_str _ _ _) PySem.F.entry_str_find (PySem.F.args_str_find_3 _ _ _) (gives_str_find_from a b i t t2 t3) ⟨.int _,H,I.tok _,⟨_,rfl⟩,k _ F H (C0.here s0 rfl)⟩
   ·cases h4
def b98(ho:EE X o m)(ha:EE X e n)(hb:EE X f l)
 (hbase:attributeBase o "find" X.env (eval o X.env)=eval o X.env:=by rfl)
 (hfew:((backTo cpos (AJ [e,f] X.env)).all (fun x=> !x.1)&&(backToKw cpos (keywordEach [] X.env)).all (fun x=>x.1.isSome)
  && decide ([e,f].length+([]:List Keyword).length+(if([]:List Keyword).isEmpty then 0 else 1)<30))=true:=by rfl)
 (hline:(apos.endLine==cpos.line)=true:=by rfl) (hs:AJ [e,f] X.env=(false,eval e X.env)::AJ [f] X.env:=by rfl) (hs2:AJ [f] X.env=(false,eval f X.env)::AJ [] X.env:=by rfl) (hplain:(backTo cpos (AJ [f] X.env)).any (·.1)=false:=by rfl):
 EE X (.Call (.Attribute o "find" apos) [e,f] [] cpos) (m3 b0V m n l):=
 D3 (b1j PySem.F.plainAttrs_str PySem.F.slot_str_find PySem.F.type_str_find c0P ho (G1 ha (G1 hb W3 hs2) hs) hbase hfew hline hs hplain) fun σ H Q ⟨F,ρ,r,he,hm,k⟩=>by
  obtain⟨rx,e1,hm⟩:=bind_some hm
  obtain⟨ry,e2,hm⟩:=bind_some hm
  obtain⟨rz,e3,hm⟩:=bind_some hm
  refine⟨F,ρ,rx,he,e1,fun v F1 H1 o1=>⟨?_,⟨F1,ρ,ry,he.ext o1.x,e2,fun u F2 H2 o2=>⟨F2,ρ,rz,(he.ext o1.x).ext o2.x,e3,fun w F3 H3 o3=>⟨F3,u,w,rx,ry,rz,r,rfl,o3.x.fh,(o1.rep.ext o2.x).ext o3.x,o2.rep.ext o3.x,o3.rep,hm,fun z F4 H4 o4=>k z F4 H4 (C0.trans ((o1.x.trans o2.x).trans o3.x) o4)⟩⟩⟩⟩⟩
  unfold b0V at hm
  split at hm
  ·cases o1.rep;rfl
  ·cases hm
def b6d(i:Nat)(mk md:M):M:=fun ρ=>((mk ρ).bind c2J).bind fun x=>((md ρ).bind g6.toVal).bind fun d=>(tvw i ρ).bind fun kvs=>some (.val ((b2I kvs [.inr x]).getD d))
def b6G(i:Nat)(hu:X.A.units+64<cLine)(hx:PE X (.Name x p) (b2E i))(hi:EE X ek mk)(hf:EE X f md)
 (m:M2 X (.Name x p) "get" apos ek f cpos:=by exact⟨rfl,rfl,rfl,rfl⟩):EE X (.Call (.Attribute (.Name x p) "get" apos) [ek,f] [] cpos) (b6d i mk md):=
 D3 (b83 (by lia) hx hi hf m) fun σ H Q ⟨F,ρ,r,en,e,k⟩=>by
  obtain⟨kk,e4,e⟩:=bind_some e
  obtain⟨rk,e4,e5⟩:=bind_some e4
  obtain⟨d,e6,e⟩:=bind_some e
  obtain⟨rd,e6,e7⟩:=bind_some e6
  obtain⟨kvs,e3,e⟩:=bind_some e
  cases e
  obtain⟨a,xs,hw1,ha',rl⟩:=c3G en e3
  have hH:=en.fh _ _ ha'
  refine⟨.ref a,hw1,a,rfl,.inl ⟨xs,.inl hH⟩,F,ρ,rk,en,e4,fun y F3 H3 o3=> ?_⟩
  cases b8q e5 o3.rep
  refine⟨_,ρ,rd,en.ext o3.x,e6,fun z F4 H4 o4=> ?_⟩
  obtain⟨F5,o5⟩:=o4.toVal e7
  have x5:=o3.x.trans o5.x
  refine⟨_,b7y.k (k:= .inr kk) (o5.x.h _ _ (o3.x.h _ _ hH)),k _ _ _ (C0.val x5 ?_)⟩
  cases hv:b2I kvs [.inr kk] with
  |none=>
   have:=(rl.val (k:=[.inr kk])).2 hv
   rw [b5B] at this
   rw [this]
   exact o5.rep
  |some q=>
   obtain⟨y,hy,ry⟩:=(rl.val (k:=[.inr kk])).1 q hv
   rw [b5B] at hy
   rw [hy]
   exact T7.mono x5.f _ ry
section
variable {P:Ac}{w:AU}{K:AE}{mg:Str->Option AA}{base:Heap}
def c0g{x:Str}{st:Stmt}{N ps:List Str}{k:Nat}{m:MX}(D:Df K mg x st)(S:j0 N ps (d5 st))
 (hi:∀(kV doc pm:AA) (an:Option AB) (cdv ct:AA) (us:List AA),us.length=ps.length->bindArgs (W.fnOf x x (Y4 st) (G9 st) (d5 st) .none kV doc pm an cdv ct) ⟨us,[]⟩=pure (ps.zip us))
 (hb:∀(f:AB) (cdv:AA) (A:Al) (outer:List Env) (s:AG) (H:Hp) (E:XK),O9 k (A.deeper (envOfC x (d5 st) s.heap.objs.size f cdv))->a27 (CX1 P w) (a30 (CX1 P w) P w K mg base N x (d5 st) f cdv A outer s H E) (fun _=>E)->EXs (a30 (CX1 P w) P w K mg base N x (d5 st) f cdv A outer s H E) (fun _=>E) (G9 st) m):
 b4l P w K mg base x ps (k+1) (b9q (N.length - ps.length) m):=
 let ⟨f,fd,F,hm⟩:=D
 ⟨f,fd,c2u F S fun cdv A outer s H E hr=>hb f cdv A outer s H E hr fun pins σ H s e s' I h=>b4V pins σ H s e s' I h,hm,F.kp,F.binds hi⟩
end
def c4P{l:W.OpenLaw}{q:Ac}{loose:List Str}{XP:(Str->Option AA)->Heap->Prop}{YP:AU->Heap->Prop}{d:DefRec}{K:Params->AE}{x:Str}{k:Nat}(hk:k<=200)(hn:l.most=some 63)(hdf:d.params.defaults=[])
 (hY:∀(w:AU) (h:Heap),YP w h->(K w.params).In h)
 (F:∀(w:AU) (mg:Str->Option AA) (fa:AB) (h:Heap),(K w.params).In h->h.Ns mainGlobals mg->mg d.name=some (.ref fa)->
  ∃fd:FuncData,(∀(s:AG) (u:AA),BindsTo s fd ⟨[u],[]⟩ [(x,u)])/\∀base:Heap,(K w.params).In base->base.Ns mainGlobals mg->U0 l.prog w (K w.params) mg base CX0 k fa fd [x] (b36 (K w.params))):
 W.WalkO q loose XP YP l.row.toRowW d [] (fun f vs=>PySem.call f vs):=
 L2.c1C (n:=63) (k:=200) (x:=x) (CX:=fun _=>CX0) (sp:=fun w=>b36 (K w.params)) hn (by decide) hdf ⟨rfl,by decide,by decide⟩ hY (fun w mg fa h a b c=>let ⟨fd,h1,h2⟩:=F w mg fa h a b c;⟨fd,h1,fun base x y=>(h2 base x y).mono hk⟩) (fun _ _ a ns hl _ hS=>⟨a,ns,rfl,hS,hl,fun _=>rfl⟩) fun _ _ _ _ _ z=>z
def c4d{K:AE}{x:Str}{C:AB}(e:W.nsIn K mainGlobals x=some (some (.ref C)))(q:a7t K C x=true)(o1:W.plainGet K C Str.empty=true)(o2:W.hasDictIn K C=true)(o3:W.plainOver K C=true)
 (o4:W.findIn K (.ref C) "__setattr__"=some (some (.builtin "object.__setattr__"))):KC K x C:=by
 refine⟨⟨e, ?_⟩,o1,o2,o3,o4⟩
 unfold a7t at q
 split at q
 ·rename_i oc od cd sl hk
  exact⟨oc,od,cd,sl,hk,beq_iff_eq.mp q⟩
 ·cases q
open PySem PySem.Spec PyProof.Rows L2
end PU
set_option maxHeartbeats 1000000
namespace ZL
open PySem PySem.Spec PyProof.Rows L2 PU ZT
abbrev tIt(l:AB):Obj:={cls:= .type "tuple_iterator",data:= .fields #[.ref l,.int 0 0]}
abbrev lIt(l:AB):Obj:={cls:= .type "list_iterator",data:= .fields #[.ref l,.int 0 0]}
abbrev tH2(h:Heap)(x y:AB):Heap:=(h.push (tIt x)).push (lIt y)
abbrev tH3(h:Heap)(x y:AB):Heap:=(tH2 h x y).push {cls:= .type "tuple",data:= .seq #[.ref h.objs.size,.ref (h.push (tIt x)).objs.size]}
abbrev tH4(h:Heap)(x y:AB):Heap:=(tH3 h x y).push {cls:= .type "tuple",data:= .seq #[.none,.none]}
abbrev tH5(h:Heap)(x y:AB):Heap:=(tH4 h x y).push {cls:= .type "zip",data:= .fields #[.none,.bool false,.bool false,.ref (tH2 h x y).objs.size,.ref (tH3 h x y).objs.size]}
def a9f(x y:AB)(p q:Array AA):
 Meets (Builtin.«zip.__new__» ⟨[.type "zip",.ref x,.ref y],[]⟩) (fun _ R s=>(s.heap.IsTuple x p/\s.heap.IsList y q)/\R (.ok (.ret (.ref (tH4 s.heap x y).objs.size))) {s with heap:=tH5 s.heap x y}):=
 .of_wp fun prog w A R s h=>by
  obtain⟨hp,g,d,tk,os⟩:=s
  obtain⟨⟨hx,hy⟩,h⟩:=h
  have hy2:=hy.push (tIt x)
  have hsub:=sub_zip
  wp_walk using wpAny_pyIter_tuple hx,wpAny_pyIter_list hy2
  exact⟨_,rfl,h⟩
def b2Y(hx:s.heap.IsTuple x p)(hy:s.heap.IsList y q)
 (h:∀h',IsZip h' (s.heap.objs.size+4) (s.heap.objs.size+2) (s.heap.objs.size+3) .none->IsPair h' (s.heap.objs.size+2) (.ref s.heap.objs.size) (.ref (s.heap.objs.size+1))->
  IsPair h' (s.heap.objs.size+3) .none .none->h'.IsTupleIter s.heap.objs.size x 0->h'.IsListIter (s.heap.objs.size+1) y 0->h'.objs.size=s.heap.objs.size+5->
  (∀c o,s.heap.get? c=some o->h'.get? c=some o)->Q (.ref (s.heap.objs.size+4)) {s with heap:=h'}):
 AF (model prog w) A (call (.type "zip") [.ref x,.ref y]) Q E s:=by
 refine callType_new F.called_zip (by decide) (F.typeCall_zip_2 _ _) (F.newCall_zip_2 _ _) (fun obj=>F.args_object_init_3 obj _ _) F.entry_zip_new
  (a9f x y p q) ?_
 have z1:(s.heap.push (tIt x)).objs.size=s.heap.objs.size+1:=Heap.size_push ..
 have z2:(tH2 s.heap x y).objs.size=s.heap.objs.size+2:=by rw [Heap.size_push,z1]
 have z3:(tH3 s.heap x y).objs.size=s.heap.objs.size+3:=by rw [Heap.size_push,z2]
 have z4:(tH4 s.heap x y).objs.size=s.heap.objs.size+4:=by rw [Heap.size_push,z3]
 have z5:(tH5 s.heap x y).objs.size=s.heap.objs.size+5:=by rw [Heap.size_push,z4]
 have g5:(tH5 s.heap x y).get? (tH4 s.heap x y).objs.size=some _:=An _ rfl
 have g4:(tH5 s.heap x y).get? (tH3 s.heap x y).objs.size=some _:=AT _ (An _ rfl)
 have g3:(tH5 s.heap x y).get? (tH2 s.heap x y).objs.size=some _:=AT _ (AT _ (An _ rfl))
 have g2:(tH5 s.heap x y).get? (s.heap.push (tIt x)).objs.size=some _:=AT _ (AT _ (AT _ (An _ rfl)))
 have g1:(tH5 s.heap x y).get? s.heap.objs.size=some _:=AT _ (AT _ (AT _ (AT _ (An _ rfl))))
 refine⟨⟨hx,hy⟩, ?_⟩
 show _/\_
 rw [z2,z3,z4] at g5
 rw [z1,z2] at g3
 rw [z3] at g4
 rw [z1] at g2
 rw [z4]
 exact⟨⟨_,g5,rfl⟩,h _ g5 g3 g4 ⟨_,g1,rfl,rfl⟩ ⟨_,g2,rfl,rfl⟩ z5 fun c o x=>
  AT _ (AT _ (AT _ (AT _ (AT _ x))))⟩
def Itl(K:AE)(a b:AB)(xs ys:List V):It:=⟨fun i H=>(SqT K H a xs/\SqL K H b ys)/\i<xs.length/\i<ys.length,fun i H v H'=>∃x y t,xs[i]?=some x/\ys[i]?=some y/\H t=none/\v= .ref t/\H'=K7 H t (.tup [x,y]),fun i H=>(SqT K H a xs/\SqL K H b ys)/\i<=xs.length/\i<=ys.length/\(i=xs.length\/i=ys.length)⟩
def tnL(z TI TO i1 i2 l1 l2:AB)(i:Nat)(h:Heap):Prop:=
 IsZip h z TI TO .none/\IsPair h TI (.ref i1) (.ref i2)/\(∃a b,IsPair h TO a b)/\h.IsTupleIter i1 l1 i/\h.IsListIter i2 l2 i
def b7v{P:Ac}{w:AU}{K:AE}{z TI TO i1 i2 l1 l2:AB}{xs ys:List V}{elts:List AS}{x1}{pos:Pos}(D:ZT.ZA z TI TO i1 i2)(A1:LA z TO i1 i2 l1)(A2:LA z TO i1 i2 l2):
 b4t P w K (.Tuple elts x1 pos) (Itl K l1 l2 xs ys) [z,TI,TO,i1,i2] z (tnL z TI TO i1 i2 l1 l2) where
 mem:=by simp
 obj:=fun i h ⟨hz,hI,⟨a,b,hO⟩,⟨o1,e1,c1,d1⟩,⟨o2,e2,c2,d2⟩⟩ b' hb=>by
  simp only [AZ,List.not_mem_nil,or_false] at hb
  rcases hb with rfl|rfl|rfl|rfl|rfl
  ·exact⟨_,hz,fun v z=>by cases z⟩
  ·exact⟨_,hI,fun v z=>by cases z⟩
  ·exact⟨_,hO,fun v z=>by cases z⟩
  ·exact⟨_,e1,fun v z=>by rw [d1] at z;cases z⟩
  ·exact⟨_,e2,fun v z=>by rw [d2] at z;cases z⟩
 keep:=fun i h h' ⟨hz,hI,⟨a,b,hO⟩,⟨o1,e1,r1⟩,⟨o2,e2,r2⟩⟩ k=>
  ⟨k z (by simp) _ hz,k TI (by simp) _ hI,⟨a,b,k TO (by simp) _ hO⟩,⟨o1,k i1 (by simp) _ e1,r1⟩,⟨o2,k i2 (by simp) _ e2,r2⟩⟩
 item:=by
  intro X hP hw hK hc i pins s σ H E I hf ⟨hz,hI,⟨a,b,hO⟩,s1,s2⟩ hg
  subst hP hw hK
  have hd:X.A.handled=none:=I.ok.hd hc
  obtain⟨⟨q1,q2⟩,m1,m2⟩:=hg
  obtain⟨its1,rv1,pt1,_⟩:=I.tuple q1
  obtain⟨its2,rv2,pl2,_⟩:=I.list q2
  have pt2:=pl2.isList
  have e1:=rv1.length
  have e2:=rv2.length
  refine ZT.pyNext_zip_itemD D (fun A' hh=>b0S hh A1.2.2.1 its1.toArray) (fun A' hh=>Draws.list hh _ _ A2.2.2.2 its2.toArray) hd A1 A2 hz hI hO ⟨s1,pt1⟩ ⟨s2,pt2⟩ (by simp;lia) (by simp;lia) fun v1 v2 h' tk p1 p2 a1 a2 a3 a4 a5 a6 a7=>⟨_,rfl, ?_⟩
  have g1:xs[i]?=some xs[i]:=by simp [m1]
  have g2:ys[i]?=some ys[i]:=by simp [m2]
  obtain⟨u1,f1,r1⟩:=rv1.get g1
  obtain⟨u2,f2,r2⟩:=rv2.get g2
  have w1:v1=u1:=by
   have:its1[i]?=some v1:=by simpa using p1
   rw [f1] at this;exact(Option.some.inj this).symm
  have w2:v2=u2:=by
   have:its2[i]?=some v2:=by simpa using p2
   rw [f2] at this;exact(Option.some.inj this).symm
  subst w1 w2
  refine wpAny_letOwnedTupleGo_zip a1 fun h2 hz2 hs2=> ?_
  have zlt:z<s.heap.objs.size:=AW hz
  have htup:h2.get? s.heap.objs.size=some {cls:= .type "tuple",data:= .seq #[v1,v2]}:=(hs2.2 _ (Nat.ne_of_gt zlt)).trans a5
  have up:∀c o,c∉[z,TI,TO,i1,i2]->s.heap.get? c=some o->h2.get? c=some o:=fun c o hc q=>by
   simp only [AZ,List.not_mem_nil,or_false,not_or] at hc
   exact(hs2.2 c hc.1).trans (a7 c o hc.1 hc.2.2.1 hc.2.2.2.1 hc.2.2.2.2 q)
  have I2:Inv X pins σ (K7 H s.heap.objs.size (.tup [xs[i],ys[i]])) {s with heap:=h2,toks:=tk}:=
   ZT.Inv.turnedTupN I hf up ⟨by rw [sizeLine_eq];simp,[v1,v2],.cons r1 (.cons r2 .nil),⟨_,htup,rfl,0,rfl⟩⟩
  refine⟨.ref s.heap.objs.size,_,I2,rfl,⟨xs[i],ys[i],s.heap.objs.size,g1,g2,I.hok.fresh (AR _),rfl,rfl⟩,
   ⟨hz2,(hs2.2 _ D.TIz).trans (a7 _ _ D.TIz D.TITO D.TIi1 D.TIi2 hI),⟨_,_,(hs2.2 _ D.TOz).trans a2⟩,let ⟨o,e,r⟩:=a3.1;⟨o,(hs2.2 _ D.i1z).trans e,r⟩,let ⟨o,e,r⟩:=a4.1;⟨o,(hs2.2 _ D.i2z).trans e,r⟩⟩,fun b hb=> ?_⟩
  have hlt:b<s.heap.objs.size:=by
   obtain⟨o1,e1,r1⟩:=s1
   obtain⟨o2,e2,r2⟩:=s2
   simp only [AZ,List.not_mem_nil,or_false] at hb
   rcases hb with rfl|rfl|rfl|rfl|rfl
   ·exact zlt
   ·exact AW hI
   ·exact AW hO
   ·exact AW e1
   ·exact AW e2
  rw [w4 (Am hlt)]
  exact(hf b hb).1
 done:=by
   intro X hP hw hK hc i pins s σ H E I hf ⟨hz,hI,⟨a,b,hO⟩,s1,s2⟩ hg
   subst hP hw hK
   have hd:X.A.handled=none:=I.ok.hd hc
   obtain⟨⟨q1,q2⟩,m1,m2,m3⟩:=hg
   obtain⟨its1,rv1,pt1,_⟩:=I.tuple q1
   obtain⟨its2,rv2,pl2,_⟩:=I.list q2
   have pt2:=pl2.isList
   have e1:=rv1.length
   have e2:=rv2.length
   refine ZT.pyNext_zip_endD D (fun A' hh=>b0S hh A1.2.2.1 its1.toArray) (fun A' hh=>Draws.list hh _ _ A2.2.2.2 its2.toArray) hd A1 A2 hz hI hO ⟨s1,pt1⟩ ⟨s2,pt2⟩ (by simp;lia) (by simp;lia) (by simp;lia) fun h' tk k=>⟨rfl,ZT.Inv.turnedN I hf fun c o hc q=> ?_⟩
   simp only [AZ,List.not_mem_nil,or_false,not_or] at hc
   exact k c o hc.1 hc.2.2.1 hc.2.2.2.1 hc.2.2.2.2 q
 self:=fun _ _ _ _ _ st h=>wpAny_pyIter_zip st.1 h
def iZl(K:AE)(ta:TA):TI:=fun σ H R=>ta σ H fun vs H1=>∃a b xs ys,vs=[.ref a,.ref b]/\SqT K H1 a xs/\SqL K H1 b ys/\R (Itl K a b xs ys) H1
def pi_zipL{a b:AS}{ta:TA}{p pos tpos:Pos}{elts:List AS}{x1}(hg:Gl X "zip")(hm:X.mg "zip"=none)(ha:PA X [a,b] ta)(hs:AJ [a,b] X.env=[(false,eval a X.env),(false,eval b X.env)]:=by rfl)
 (hs2:AJ [b] X.env=[(false,eval b X.env)]:=by rfl):PI X (.Tuple elts x1 tpos) (.Call (.Name "zip" p) [a,b] [] pos) (iZl X.K ta):=by
 intro pins s σ H R I h
 refine Call_ (a7q I hg hm ZT.boot_zip (PyProof.Rows.callWith_type1 (Q3 (ha pos pins s σ H _ I h) fun us s1 ⟨vs,H1,I1,r1,q1⟩=> ?_) (by rw [hs,hs2]) (by rw [hs2];rfl)))
 obtain⟨x,y,xs,ys,rfl,h1,h2,q⟩:=q1
 cases r1 with
 |cons r rr=>
  cases rr with
  |cons r' rr=>
   cases rr
   cases r
   cases r'
   obtain⟨its1,rv1,pt1,_⟩:=I1.tuple h1
   obtain⟨its2,rv2,pl2,_⟩:=I1.list h2
   have pt2:=pl2.isList
   have l1:x<s1.heap.objs.size:=by obtain⟨o,e,_⟩:=pt1;exact AW e
   have l2:y<s1.heap.objs.size:=by obtain⟨o,e,_⟩:=pt2;exact AW e
   refine b2Y pt1 pt2 fun h' hz hI hO hi1 hi2 hsz hk=> ?_
   refine wpAny_pyIter_zip (s:={s1 with heap:=h'}) hz ?_
   refine⟨s1.heap.objs.size+4,_,_,_,H1,rfl,I1.kept (t':=s1.toks) hk,b7v (ZT.za_new _) (ZT.la_new l1) (ZT.la_new l2),⟨hz,hI,⟨_,_,hO⟩,hi1,hi2⟩,fun b hb=> ?_,q⟩
   have hle:s1.heap.objs.size<=b:=by
    simp only [AZ,List.not_mem_nil,or_false] at hb
    rcases hb with rfl|rfl|rfl|rfl|rfl<;>lia
   exact I1.fpOk hle (I1.hok.fresh hle)
end ZL
namespace PU
open PySem PySem.Spec PyProof.Rows L2
def a11(ps qs:List PV):List PV:=List.zipWith (fun p q=>PyData.tuple [p,q]) ps qs
def b9R(ps qs:List PV):(a11 ps qs).length=min ps.length qs.length:=by simp [a11]
def b6e(m:MA):MI:=fun ρ=>(m ρ).bind fun as=>match as with
 |[.tuple ps,.list qs]=>some (a11 ps qs)
 |_=>none
def b4Y{K:AE}{F0 H0 F1:Hp}{body:MS}{tg:PV->e9->Option e9}{g:TG}{ps qs:List PV}{xs ys:List V}{x y:V}{fl:Fl}{D:a3Z}{k:Nat}{t:AB}{σ:L2.St}{H:Hp}(T:b2T K g tg)(fin:Fin K F0 H0 F1 D fl)(rp:w8 K F1 ps xs)(rq:w8 K F1 qs ys)(ex:xs[k]?=some x)(ey:ys[k]?=some y)
 (hp:PvL K F0 H0 F1 body tg (a11 ps qs) fl k σ H) (hn:H t=none):
 g (.ref t) σ (K7 H t (.tup [x,y])) fun σ2 H2=>tMS K body {D with nx:=PvL K F0 H0 F1 body tg (a11 ps qs) fl (k+1),ct:=PvL K F0 H0 F1 body tg (a11 ps qs) fl (k+1),bk:=D.nx} σ2 H2:=by
 obtain⟨F,ρ,s,so,e⟩:=hp
 obtain⟨p,ep,rpx⟩:=rp.getV ex
 obtain⟨q,eq',rqy⟩:=rq.getV ey
 have eq:(a11 ps qs)[k]?=some (.tuple [p,q]):=by
  unfold a11
  rw [List.getElem?_zipWith,ep,eq']
 have hk:k<(a11 ps qs).length:=(Aw.mp eq).1
 have hd:(a11 ps qs).drop k= .tuple [p,q]::(a11 ps qs).drop (k+1):=by
  rw [List.drop_eq_getElem_cons hk]
  congr 1
  exact(Aw.mp eq).2
 rw [hd] at e
 obtain⟨ρ1,f1,e1,e2,e3⟩:=b0T e
 have xl:Ext F H (K7 F t (.tup [x,y])) (K7 H t (.tup [x,y])):=Ext.lay so.e.fh hn
 have up:y4 F1 (K7 F t (.tup [x,y])):=s.trans xl.f
 refine T F0 H0 _ _ σ ρ ρ1 _ (.ref t) _ (so.ext xl) (show T7 K (K7 F t (.tup [x,y])) (.tuple [p,q]) (.ref t) from⟨t,[x,y],rfl,TqT.of z9,⟨x,_,rfl,T7.mono up _ rpx,⟨y,_,rfl,T7.mono up _ rqy,rfl⟩⟩⟩) e1 fun σ' so'=>⟨F0,H0,_,ρ1,f1,so',e2, ?_⟩
 cases f1 with
 |nx ρ'=>exact fun σ2 F2 H2 s2 so2=>⟨F2,ρ',up.trans s2,so2,e3⟩
 |ct ρ'=>exact fun σ2 F2 H2 s2 so2=>⟨F2,ρ',up.trans s2,so2,e3⟩
 |bk ρ'=>cases e3;exact fun σ2 F2 H2 s2 so2=>fin σ2 F2 H2 (up.trans s2) so2
 |rt r=>cases e3;exact fin
def b72{K:AE}{F0 H0 F1:Hp}{body:MS}{tg:PV->e9->Option e9}{g:TG}{ps qs:List PV}{xs ys:List V}{a b:AB}{fl:Fl}{D:a3Z}{σ:L2.St}{H:Hp}(T:b2T K g tg)(fin:Fin K F0 H0 F1 D fl)(rp:w8 K F1 ps xs)(rq:w8 K F1 qs ys)(ha:SqT K F1 a xs)(hb:SqL K F1 b ys)(h0:PvL K F0 H0 F1 body tg (a11 ps qs) fl 0 σ H):
 ∃W:Nat->Nat->L2.St->Hp->Prop,(∃m,W 0 m σ H)/\∀i m σ H,W i m σ H->
  ((ZL.Itl K a b xs ys).stop i H/\D.nx σ H)\/((ZL.Itl K a b xs ys).go i H/\∃N:L2.St->Hp->Prop,(∀σ' H',N σ' H'->∃m',m'<m/\W (i+1) m' σ' H')/\∀v H',(ZL.Itl K a b xs ys).yld i H v H'->g v σ H' fun σ2 H2=>tMS K body {D with nx:=N,ct:=N,bk:=D.nx} σ2 H2):=by
 have hl:=b9R ps qs
 have l1:=rp.length
 have l2:=rq.length
 refine⟨fun i m σ H=>m=(a11 ps qs).length - i/\i<=(a11 ps qs).length/\PvL K F0 H0 F1 body tg (a11 ps qs) fl i σ H,⟨(a11 ps qs).length,by simp,Nat.zero_le _,h0⟩, ?_⟩
 rintro i m σ H ⟨rfl,hi,pv⟩
 have sq:SqT K H a xs/\SqL K H b ys:=by
  obtain⟨F,ρ,s,so,e⟩:=pv
  have s2:=s.trans so.e.fh
  exact⟨G6 s2 ha,S2 s2 hb⟩
 by_cases hlt:i<(a11 ps qs).length
 ·refine .inr ⟨⟨sq,by lia,by lia⟩,PvL K F0 H0 F1 body tg (a11 ps qs) fl (i+1),fun σ' H' p'=>⟨(a11 ps qs).length - (i+1),by lia,rfl,hlt,p'⟩,fun v H' yl=> ?_⟩
  obtain⟨x,y,t,ex,ey,hn,rfl,rfl⟩:=yl
  exact b4Y T fin rp rq ex ey pv hn
 ·refine .inl ⟨⟨sq,by lia,by lia,by lia⟩, ?_⟩
  have ei:i=(a11 ps qs).length:=by lia
  rw [ei] at pv
  exact a6O fin pv
def b7W{x1}(hp:PassesOwn (model X.prog X.w) X.A X.env X.xe)(hc:X.calm=true)(hgl:Gl X "zip")(hm:X.mg "zip"=none)(ha:EA X [a,b] m)(hg:PG X (.Tuple elts x1 tpos) g)(T:b2T X.K g t)(hb:ESs X body bd)
 (hst:AJ [a,b] X.env=[(false,eval a X.env),(false,eval b X.env)]:=by rfl) (hst2:AJ [b] X.env=[(false,eval b X.env)]:=by rfl) (hs:∀x,foldedSetIterable (.Call (.Name "zip" p) [a,b] [] rp) X.env x=pure x:=by intro _;rfl):ES X (.For (.Tuple elts x1 tpos) (.Call (.Name "zip" p) [a,b] [] rp) body [] pos) (a5v (b6e m) t bd):=
 S1 (b5n hp hc (ZL.pi_zipL hgl hm ha hst hst2) hg hb hs) fun D σ H ⟨F0,H0,F,ρ,fl,so,e,fin⟩=>by
  obtain⟨es,e1,e⟩:=bind_some e
  obtain⟨as,e3,e2⟩:=bind_some e1
  split at e2
  ·rename_i ps qs
   cases e2
   refine⟨F,ρ,_,so.e,e3,fun vs F1 H1 xx rl=> ?_⟩
   obtain⟨v,r,rfl,rq,rr⟩:=rl
   obtain⟨v',r',rfl,rq',rr'⟩:=rr
   cases rr'
   obtain⟨a1,xs,rfl,h1,r1⟩:=rq
   obtain⟨b1,ys,rfl,h2,r2⟩:=rq'
   exact⟨a1,b1,xs,ys,rfl,G6 xx.fh h1.sq,S2 xx.fh h2,b72 (g:=g) (σ:=σ) (H:=H1) T (fin.later xx.f) r1 r2 h1.sq h2 ⟨F1,ρ,PU.y4.refl F1,so.ext xx,e⟩⟩
  ·cases e2
def a4t(x:g6):Option g6:=match x with
 | .val (.tuple ps)=>(a2V ps).bind fun is=>if 0<is.length then some (.val (.int (a0O is))) else none
 |x=>b79 x
def c0K(hh:A.handled=none)(ht:s.heap.IsTuple t (intItems xs))(hn:0<xs.size)
 (h:∀v h' tk,(intItems xs)[argBest (fun i j=>decide (numAt xs i>numAt xs j)) (xs.size - 1)]?=some v->(∀b o,s.heap.get? b=some o->h'.get? b=some o)->Q v {s with heap:=h',toks:=tk}):
 AF (model prog w) A (call (.builtin "max") [.ref t]) Q E s:=by
 obtain⟨o,ho,_⟩:=id ht
 have ne:t≠s.heap.objs.size:=Am (AW ho)
 have hz:(intItems xs).size=xs.size:=by simp [intItems]
 refine call_max_walk (wpAny_pyIter_tuple ht ⟨s.heap.objs.size,_,_,_,_,_,_,rfl,Walks.tuple (A:=A.in1) hh s.heap.objs.size t ne (intItems xs),⟨⟨_,An _ rfl,rfl,rfl⟩,ht.at fun o e=>AT _ e⟩,fun b hb=> ?_,by rw [hz];exact hn,CmpOf.ints_gt (numAt xs) (fun _ _=>intItems_at),fun v h' tk hP hk=> ?_⟩)
 ·rcases AZ.mp hb with rfl|hb
  ·exact AW (An _ rfl)
  ·rw [List.mem_singleton.mp hb];exact AW (AT _ ho)
 ·exact h v h' tk (by rw [hz] at hP;exact hP) fun b o e=>hk b o (fun hb=>absurd (AW e) (List.mem_singleton.mp hb▸Nat.lt_irrefl _)) (AT _ e)
def b1Q(hc:X.calm=true):R0 X (.builtin "max") (rC1 X.K a4t):=by
 intro pins s σ H xs us Q I rv h
 obtain⟨F,x,rx,rz,rfl,s0,h1,h2,k⟩:=h
 unfold a4t at h2
 split at h2
 ·rename_i ps
  obtain⟨u,rfl,ru⟩:=a1i rv
  obtain⟨is,e1,h2⟩:=bind_some h2
  split at h2
  ·rename_i c
   cases h2
   obtain⟨a,ys,rfl,hq,rl⟩:=(show T7 X.K F (.tuple ps) x from h1)
   cases ru
   have ey:=a3r e1 rl
   subst ey
   obtain⟨its,rvs,pt,_⟩:=I.tuple (G6 s0 hq.sq)
   obtain⟨zs,hz1,hz2⟩:=a3O rvs
   have hit:its.toArray=intItems zs.toArray:=by rw [hz2];simp [intItems]
   have hat:∀i,numAt zs.toArray i=is.getD i 0:=fun i=>by
    unfold numAt
    rw [<-hz1,List.getD_eq_getElem?_getD,As]
    simp
   have hlen:zs.length=is.length:=by rw [<-hz1,Ak]
   rw [hit] at pt
   refine c0K (t:=a) (xs:=zs.toArray) (I.ok.hd hc) pt (by simp;lia) fun v h' tk hv hk=> ?_
   obtain⟨t,rfl⟩:=intItems_at hv
   have hb:numAt zs.toArray (argBest (fun i j=>decide (numAt zs.toArray i>numAt zs.toArray j)) (zs.toArray.size - 1))=a0O is:=by
    unfold a0O
    rw [hat,show zs.toArray.size=is.length by simp [hlen]]
    congr 2
    funext i j
    rw [hat,hat]
   rw [hb]
   exact⟨.int (a0O is),H,I.kept (t':=tk) hk,⟨t,rfl⟩,k _ F H (C0.here s0 rfl)⟩
  ·cases h2
 ·exact b9Z hc pins s σ H _ us Q I rv ⟨F,x,_,rz,rfl,s0,h1,h2,k⟩
def ckC(K:AE)(C:AB)(x:Str)(f:AB)(fs:List Str):Bool:=a7t K C x &&(W.plainGet K C Str.empty &&(W.hasDictIn K C &&(W.plainOver K C &&(W.findIn K (.ref C) "__setattr__"==some (some (.builtin "object.__setattr__"))
 &&(W.makesIn K C &&(W.isFn K (.ref f)&&(W.keepIn K (.ref C)&&(W.findIn K (.ref C) "__class__"==some (some (.builtin "object.__class__"))&&(W.mroIn K C (.type "object")==some true
 && fs.all fun g=>W.findIn K (.ref C) g==some none)))))))))
section
variable {K:AE}{C f:AB}{x:Str}{fs:List Str}
structure CkC(K:AE)(C:AB)(x:Str)(f:AB)(fs:List Str):Prop where
 kc:KC K x C
 mo:Mk K C f
 h8:W.findIn K (.ref C) "__class__"=some (some (.builtin "object.__class__"))
 h9:W.mroIn K C (.type "object")=some true
 na:∀g∈fs,a03 K C g
def a7R(e:W.nsIn K mainGlobals x=some (some (.ref C)))(i:W.findIn K (.ref C) "__init__"=some (some (.ref f)))(h:ckC K C x f fs=true):CkC K C x f fs:=by
 unfold ckC at h
 simp only [Bool.and_eq_true,beq_iff_eq,List.all_eq_true] at h
 obtain⟨h0,h1,h2,h3,h4,h5,h6,h7,h8,h9,h10⟩:=h
 exact⟨c4d e h0 h1 h2 h3 h4,⟨h5,i,h6,h7⟩,h8,h9,h10⟩
def CkC.ki(c:CkC K C x f fs)(k2:W.specialIn K (.builtin "object.__class__") "__get__"=some (some (.builtin "getset_descriptor.__get__")))(k3:W.takesIn K (.builtin "object.__class__")=some true):KI K C:=⟨c.h8,k2,k3,c.h9⟩
end
def KKs(K:AE)(l:List (Str×AB)):Prop:=∀p∈l,KC K p.1 p.2/\KI K p.2
def c0w{K:AE}:KKs K []:=fun _ h=>nomatch h
def a01{K:AE}{x:Str}{C:AB}{l:List (Str×AB)}(c:KC K x C)(i:KI K C)(h:KKs K l):KKs K ((x,C)::l):=fun p hp=>(AZ.mp hp).elim (fun e=>e▸⟨c,i⟩) (h p)
def a8e(K:AE)(cv:AA):List (Str×AB)->List Bool->Bool
 |(_,C)::l,b::bs=>W.kitOne K (.ref C) cv==some b && a8e K cv l bs
 |_,_=>true
def c4b:List (Str×AB)->List Bool->List (Str×Bool)
 |(x,_)::l,b::bs=>(x,b)::c4b l bs
 |_,_=>[]
theorem a2z{K:AE}{cv:AA}:∀{l:List (Str×AB)} {bs:List Bool},KKs K l->a8e K cv l bs=true->X5 K cv (c4b l bs)
 |[],_,_,_=>a85
 |_::_,[],_,_=>a85
 |(x,C)::l,b::bs,h,e=>by
  rw [a8e,Bool.and_eq_true,beq_iff_eq] at e
  have h0:=h _ Ab
  exact b3l h0.1 h0.2 e.1 (a2z (fun p hp=>h p (Ah _ hp)) e.2)
section
variable {X:Cx}
def p6{a b:AS}{ma mb:M}{pos:Pos}{op:CmpOp}{g:g6->g6->Option g6}(ho:OpM X (compareOp op) g)(ha:EE X a ma)(hb:EE X b mb)(hm:behindInMarks op b=false:=by first|rfl|exact nomark _):ET X (.Compare a [op] [b] pos) (A6 (m2 g ma mb)):=c2o ho ha hb hm
def a17{a b:AS}{ma mb:M}{pos:Pos}{op:CmpOp}{g:g6->g6->Option g6}(ho:OpM X (compareOp op) g)(ha:EE X a ma)(hb:EE X b mb)(hm:behindInMarks op b=false:=by first|rfl|exact nomark _):EE X (.Compare a [op] [b] pos) (m2 g ma mb):=c2j ho ha hb hm
def g8(i:Nat){x:Str}{pos:Pos}(hN:X.N[i]?=some x:=by rfl)(hv:Vis X.env.scope x:=by first|exact Or.inl rfl|exact Or.inr (Or.inl rfl)|exact Or.inr (Or.inr rfl))(hd:(x==("__debug__":Str))=false:=by decide)(hcd:(x==("__classdict__":Str))=false:=by decide):EE X (.Name x pos) (a9 i):=c2l i (pv i hN hv hd hcd)
end
def S(l:List Nat):Str:=⟨l.toArray⟩
def c1E(z:Str):S z.cps.toList=z:=by cases z;simp [S]
def c3Q(a b:List Nat):S a++S b=S (a++b):=by
 show Str.append (S a) (S b)=_
 simp [Str.append,S]
def a0M(a:List Nat):(S a).length=a.length:=by simp [S,Str.length]
def a3P(a:List Nat):(S a).cps.toList=a:=by simp [S]
def b7E(h:S a=S b):a=b:=by
 have:=congrArg (fun z:Str=>z.cps.toList) h
 simpa [S] using this
def c3R(a b:List Nat):(S a==S b)=(a==b):=by
 rw [Bool.eq_iff_iff]
 simp only [beq_iff_eq]
 exact⟨b7E,fun h=>by rw [h]⟩
def z7(sep:List Nat):List (List Nat)->List Nat
 |[]=>[]
 |[x]=>x
 |x::y::r=>x++sep++z7 sep (y::r)
theorem b0X(sep:List Nat):∀(ls:List (List Nat)) (acc:List Nat),(ls.foldl (fun a p=>a++sep++p) acc)=if ls=[] then acc else acc++sep++z7 sep ls
 |[],acc=>rfl
 |[x],acc=>by simp [z7]
 |x::y::r,acc=>by
  rw [List.foldl_cons,b0X sep (y::r)]
  simp [z7]
theorem b5U(sep:List Nat):∀(ls:List (List Nat)) (acc:List Nat),(ls.map S).foldl (fun a (p:Str)=>a++(S sep).cps++p.cps) acc.toArray=(ls.foldl (fun a p=>a++sep++p) acc).toArray
 |[],acc=>rfl
 |x::r,acc=>by
  rw [AK,List.foldl_cons,List.foldl_cons]
  have:acc.toArray++(S sep).cps++(S x).cps=(acc++sep++x).toArray:=by simp [S]
  rw [this]
  exact b5U sep r (acc++sep++x)
def b8p(sep:List Nat)(ls:List (List Nat)):Txt.join (S sep) (ls.map S)=S (z7 sep ls):=by
 unfold Txt.join Builtin.Str.glued
 cases ls with
 |nil=>rfl
 |cons x r=>
  show(⟨((r.map S).foldl (fun acc (p:Str)=>acc++(S sep).cps++p.cps) (S x).cps)⟩:Str)=_
  rw [show(S x).cps=x.toArray from rfl,b5U,b0X]
  cases r with
  |nil=>rfl
  |cons y r=>rw [if_neg (by simp)];simp [S,z7]
def b7J(h:0<=i):L2.atI xs i=xs[i.toNat]?:=by
 unfold L2.atI L2.ixN
 rw [if_pos h]
 by_cases c:i<xs.length
 ·rw [if_pos c];rfl
 ·rw [if_neg c]
  have:xs.length<=i.toNat:=by lia
  rw [List.getElem?_eq_none_iff.mpr this];rfl
def b7I{α:Type}{xs:List α}{k:Nat}:L2.atI xs (k:Int)=xs[k]?:=by
 rw [b7J (by lia)];simp
def c1K(hl:l.length<=16777216)(h:L2.atI l i=some c):v9 (.val (.str (S l))) (.val (.int i))=some (.val (.str (S [c]))):=by
 have hs:(S l).length<=AL:=by rw [a0M,sizeLine_eq];exact hl
 unfold v9
 simp only [g6.rd,a3P,h,Ai,if_pos hs]
 rfl
def c2x(h:l.length+k.length<=16777216):v6 (.val (.str (S l))) (.val (.str (S k)))=some (.val (.str (S (l++k)))):=by
 rw [b74 (by rw [a0M,a0M,sizeLine_eq];exact h),c3Q]
def c0l(h: -18446744073709551616<i/\i<18446744073709551616):a8Y (.val (.int i)) (.val (.int j))=some (.val (.int (i*j))):=c2z h
def c0m(h: -18446744073709551616<j/\j<18446744073709551616):a8Y (.val (.int i)) (.val (.int j))=some (.val (.int (i*j))):=c2A h
def a57(i j:Int):a6J (.val (.int i)) (.val (.int j))=some (.val (.bool (decide (i<j)))):=Eq.trans rfl rfl
def M5(i j:Int):Y7 (.val (.int i)) (.val (.int j))=some (.val (.bool (decide (i<=j)))):=Eq.trans rfl rfl
def b78(a b:List Nat):Y7 (.val (.str (S a))) (.val (.str (S b)))=some (.val (.bool (!decide (b<a)))):=by
 show some (g6.val (.bool (!decide ((S b).cps.toList<(S a).cps.toList))))=_
 rw [a3P,a3P]
def b5W(h: -18446744073709551616<i/\i<18446744073709551616):B1 (.val (.int i)) (.val (.int j))=some (.val (.int (i*j))):=(show _=a8Y (.val (.int i)) (.val (.int j)) from rfl).trans (c0l h)
def b5X(h: -18446744073709551616<j/\j<18446744073709551616):B1 (.val (.int i)) (.val (.int j))=some (.val (.int (i*j))):=(show _=a8Y (.val (.int i)) (.val (.int j)) from rfl).trans (c0m h)
def a56(bs:List Bool):b6K (.own (bs.map .bool))=some (.val (.bool (bs.all id))):=by
 show(Y2 _).map _=_
 rw [a7P];rfl
def b8A(h:m ρ=some (.val (.str (S l)))):a9e m ρ=some (l.map fun c=> .str (S [c])):=by
 unfold a9e
 rw [h,AH]
 show some ((S l).cps.toList.map _)=_
 rw [a3P]
 rfl
def chK(g':g6->g6->Option g6)(mc:M)(ρ:e9)(y z:g6):Option g6:=(b0C z).bind fun b=>if b=true then(mc ρ).bind fun w=>g' y w else some (.val (.bool false))
def l8(g g':g6->g6->Option g6)(ma mb mc:M)(ρ:e9):W2 g g' ma mb mc ρ=(ma ρ).bind fun x=>(mb ρ).bind fun y=>(g x y).bind (chK g' mc ρ y):=Eq.trans rfl rfl
def a0P(g':g6->g6->Option g6)(mc:M)(ρ:e9)(y:g6):chK g' mc ρ y (.val (.bool true))=(mc ρ).bind fun w=>g' y w:=Eq.trans rfl rfl
def b0M(g':g6->g6->Option g6)(mc:M)(ρ:e9)(y:g6):chK g' mc ρ y (.val (.bool false))=some (.val (.bool false)):=Eq.trans rfl rfl
abbrev row(l:List Nat):PV:= .str (S l)
def b1U(a b:List Nat):PyData.eqv (row a) (row b)=(a==b):=by
 show PyData.eqv (.str (S a)) (.str (S b))=_
 rw [show PyData.eqv (.str (S a)) (.str (S b))=(S a==S b) by simp only [PyData.eqv],c3R]
def b26(a:List Nat)(n:Nat):B7 (row a) n=true:=by cases n<;>rfl
theorem b3a{body:MS}{tg:PV->e9->Option e9}{I:Nat->e9->Prop}:∀{ps:List PV} {ρ:e9} (k:Nat),(∀(i:Nat) p,ps[i]?=some p->∀ρ,I (k+i) ρ->∃ρ1 ρ2,tg p ρ=some ρ1/\(body ρ1=some (.nx ρ2)\/body ρ1=some (.ct ρ2))/\I (k+i+1) ρ2)->I k ρ->∃ρ',a07 body tg ps ρ=some (.nx ρ')/\I (k+ps.length) ρ'
 |[],ρ,k,_,h=>⟨ρ,rfl,h⟩
 |p::ps,ρ,k,s,h=>by
  obtain⟨ρ1,ρ2,h1,h2,h3⟩:=s 0 p rfl ρ h
  obtain⟨ρ',h4,h5⟩:=b3a (ps:=ps) (ρ:=ρ2) (k+1) (fun i q hq ρ hi=>by
   have e:k+1+i=k+(i+1):=by lia
   rw [e] at hi ⊢
   exact s (i+1) q (by simpa using hq) ρ hi) h3
  refine⟨ρ', ?_,by rw [AM];have e:k+(ps.length+1)=k+1+ps.length:=by lia
                   rw [e];exact h5⟩
  unfold a07
  rw [h1]
  show(body ρ1).bind _=_
  rcases h2 with h2|h2<;>rw [h2]<;>exact h4
def a5j(I:Nat->e9->Prop)(s:∀(i:Nat) p,ps[i]?=some p->∀ρ,I i ρ->∃ρ1 ρ2,tg p ρ=some ρ1/\(body ρ1=some (.nx ρ2)\/body ρ1=some (.ct ρ2))/\I (i+1) ρ2)(h:I 0 ρ):∃ρ',a07 body tg ps ρ=some (.nx ρ')/\I ps.length ρ':=by
 obtain⟨ρ',a,b⟩:=b3a (I:=I) 0 (fun i p hp ρ hi=>by rw [Nat.zero_add] at hi ⊢;exact s i p hp ρ hi) h
 rw [Nat.zero_add] at b
 exact⟨ρ',a,b⟩
def a8x{body:MS}{tg:PV->e9->Option e9}{I:e9->Prop}{p:PV}{ρ ρ1 ρ2:e9}(h1:tg p ρ=some ρ1)(h2:body ρ1=some (.nx ρ2))(h3:I ρ2):∃ρ1 ρ2,tg p ρ=some ρ1/\(body ρ1=some (.nx ρ2)\/body ρ1=some (.ct ρ2))/\I ρ2:=⟨ρ1,ρ2,h1,.inl h2,h3⟩
def c1m(n:Nat):a8n 0 (n:Int)=(Ao n).map fun k=> .int (k:Nat):=by
 unfold a8n
 have e:((n:Int) - 0).toNat=n:=by lia
 rw [e]
 exact List.map_congr_left fun k _=>by simp
def b08(k:Nat)(it:MI)(tg:PV->e9->Option e9)(c:MT)(elt:M)(ρ:e9):F9 k it tg c elt ρ=(it ρ).bind fun ps=>if ps.length<=AL then(a16 c elt tg (ρ++AV k none) ps).bind fun r=>some (.own r) else none:=Eq.trans rfl rfl
theorem b0O:∀{xs:List α},(∀x∈xs,∃ρ1,tg (ι x) ρ=some ρ1/\(elt ρ1).bind g6.toVal=some (f x))->a16 P8 elt tg ρ (xs.map ι)=some (xs.map f)
 |[],_=>rfl
 |x::xs,h=>by
  obtain⟨ρ1,h1,h2⟩:=h x Ab
  rw [AK,AK]
  unfold a16
  rw [h1,AH]
  show((elt ρ1).bind g6.toVal).bind _=_
  rw [h2,AH,b0O fun y hy=>h y (Ah _ hy),AH]
def T2(xs:List α)(h1:it ρ=some (xs.map ι))(h2:xs.length<=16777216)
 (h:∀x∈xs,∃ρ1,tg (ι x) (ρ++AV k none)=some ρ1/\(elt ρ1).bind g6.toVal=some (f x)):F9 k it tg P8 elt ρ=some (.own (xs.map f)):=by
 rw [b08,h1,AH,if_pos (by rw [Ak,sizeLine_eq];exact h2),b0O h,AH]
theorem a6E:∀{xs:List α},(∀x∈xs,∃ρ1,tg (ι x) ρ=some ρ1/\c ρ1=some (q x)/\(q x=true->(elt ρ1).bind g6.toVal=some (f x)))->a16 c elt tg ρ (xs.map ι)=some ((xs.filter q).map f)
 |[],_=>rfl
 |x::xs,h=>by
  obtain⟨ρ1,h1,h2,h3⟩:=h x Ab
  have ih:=a6E (xs:=xs) fun y hy=>h y (Ah _ hy)
  rw [AK]
  unfold a16
  rw [h1,AH,h2,AH]
  cases e:q x with
  |true=>rw [if_pos rfl,h3 e,AH,ih,AH,List.filter_cons_of_pos (by rw [e])];rfl
  |false=>rw [if_neg Ar,ih,List.filter_cons_of_neg (by rw [e];exact Ar)]
def a9d(m:M)(ρ:e9):a4C m ρ=((m ρ).bind g6.toVal).bind PyData.items?:=Eq.trans rfl rfl
def a4D(m:M)(ρ:e9):w6 m ρ=(m ρ).bind fun r=>PyData.items? r.rd:=Eq.trans rfl rfl
def M7(m:M)(lo hi:MO)(ρ:e9):R9 m lo hi ρ=(m ρ).bind fun r=>(lo ρ).bind fun l=>(hi ρ).bind fun h=>gSl r l h:=Eq.trans rfl rfl
def M8(m:M)(ρ:e9):K0 m ρ=(m ρ).bind b52:=Eq.trans rfl rfl
def a0z(i:Int):b52 (.val (.int i))=some (some i):=Eq.trans rfl rfl
def a7X(h:m ρ=some r)(h2:PyData.items? r.rd=some ps):w6 m ρ=some ps:=by
 unfold w6
 rw [h,AH,h2]
def a5m(h:m ρ=some (.val (.int n)))(hn:n<4611686018427387904):a4E (a0 m b8) ρ=some ((Ao n).map fun k=> .int (k:Nat)):=by
 have e:a0 m b8 ρ=some [.int n]:=by rw [d8,h];rfl
 rw [b6Z,e,AH,c1l (j:=(n:Int)) ⟨by lia,by lia⟩,c1m]
def a3i(h:PyData.items? y.rd=some (rows.map row))(hl:(rows.map (·.length)).sum+rows.length*sep.length<=16777216):a19 (.val (.str (S sep))) y=some (.val (row (z7 sep rows))):=by
 have e1:N1 (rows.map row)=some (rows.map S):=by
  have:rows.map row=(rows.map S).map PyData.str:=by rw [BA];rfl
  rw [this,a93]
 have e2:((rows.map S).map (·.length))=rows.map (·.length):=by rw [BA];exact List.map_congr_left fun a _=>a0M a
 unfold a19
 simp only [h,e1,AH,e2,Ak,a0M,if_pos hl,b8p]
def b4N(ps:List PV):a08 (.own ps)=some (.val (.tuple ps)):=Eq.trans rfl rfl
def b3s(h1:m ρ=some r)(h2:r.toVal=some p)(h3:ρ[i]?=some (some (.own ps)))(h:ps.length<16777216):a2e i m ρ=some (.nx (ρ.set i (some (.own (ps++[p]))))):=by
 unfold a2e
 rw [h1,AH,h2,AH,h3]
 simp only [sizeLine_eq,if_pos h]
def a6Q(p:g6)(ρ:e9):a0d 0 (some p::ρ)=some (.rt p):=Eq.trans rfl rfl
def a6R(n:Nat)(r:Option g6)(ρ:e9):a0d (n+1) (r::ρ)=a0d n ρ:=Eq.trans rfl rfl
def b19(xs:List α)(h1:it ρ=some (xs.map ι))(h2:xs.length<=16777216)
 (h:∀x∈xs,∃ρ1,tg (ι x) (ρ++AV k none)=some ρ1/\c ρ1=some (q x)/\(q x=true->(elt ρ1).bind g6.toVal=some (f x))):F9 k it tg c elt ρ=some (.own ((xs.filter q).map f)):=by
 rw [b08,h1,AH,if_pos (by rw [Ak,sizeLine_eq];exact h2),a6E h,AH]
def a8R(h:∀p∈ps,B7 p n=true):L4 ps n=true:=by
 induction ps with
 |nil=>rfl
 |cons p ps ih=>simp [L4,h p Ab,ih fun q hq=>h q (Ah _ hq)]
def c0n(a b:List Nat):gNe (.val (row a)) (.val (row b))=some (.val (.bool (!(a==b)))):=by
 rw [b4L (x:= .val (row a)) (y:= .val (row b)) ⟨b26 a 50,b26 b 50⟩,b2x,b2x,b1U]
end PU
set_option maxHeartbeats 4000000
namespace LW
open PySem PySem.Spec PyProof.Rows L2 PU
def a1v:PV:=(.int 24)
def a0a:PV:=(.int 4)
def Z9:PV:=(.int 8)
def a8y:PV:=(.tuple [(.str "beside"),(.str "above"),(.str "across"),(.str "down"),(.str "turn"),(.str "half"),(.str "back"),(.str "side"),(.str "flip"),(.str "cross"),(.str "other"),(.str "dye")])
def a22:PV:=(.tuple [(.str "turn"),(.str "half"),(.str "back"),(.str "side"),(.str "flip"),(.str "cross"),(.str "other")])
def a5r:PV:=(.int 8)
def a0b:PV:=(.int 6)
def a1s:PV:=(.int 24)
def a6A:MS:=
 (l9 (m2 v6 (m2 B1 (m2 (O6 (fun _ j=>0<j) fun i j=> .int (i % j)) (a9 0) (m2 (O6 b6x fun i j=> .int (i ^ j.toNat)) (mC (.int 10)) (mC (.int 18)))) (m2 v6 (m2 B1 (mC (.int 2)) (a9 1)) (mC (.int 3)))) (m2 B1 (a9 1) (a9 1))))
def Z0:List PV->Option g6:=n6 0 a6A
def b0j(D5:List PV->Option g6):M:=
 (m4 D5 (a0 (a9 2) b8))
def b0k(D5:List PV->Option g6):M:=
 (m4 D5 (a0 (a9 2) b8))
def a1z(D5:List PV->Option g6):MS:=
 (j5 (z6 1 (m2 v9 (a9 0) (mC (.int 0))))
 (j5 (u6 (A6 (m2 M1 (a9 1) (mC (.str "plain")))) (l9 (P4 "Plain" ["rows"] (a0 (m2 v9 (a9 0) (mC (.int 1))) b8))) m7)
 (j5 (u6 (A6 (m2 M1 (a9 1) (mC (.str "name")))) (l9 (P4 "Named" ["name"] (a0 (m2 v9 (a9 0) (mC (.int 1))) b8))) m7)
 (j5 (u6 (A6 (m2 M1 (a9 1) (mC (.str "beside")))) (l9 (P4 "Beside" ["parts"] (a0 (m1 a08 (F9 1 (w6 (m2 v9 (a9 0) (mC (.int 1)))) (u3 2) P8 (b0j D5))) b8))) m7)
 (j5 (u6 (A6 (m2 M1 (a9 1) (mC (.str "above")))) (l9 (P4 "Above" ["parts"] (a0 (m1 a08 (F9 1 (w6 (m2 v9 (a9 0) (mC (.int 1)))) (u3 2) P8 (b0k D5))) b8))) m7)
 (j5 (u6 (A6 (m2 M1 (a9 1) (mC (.str "across")))) (l9 (P4 "Across" ["many","part"] (a0 (m2 v9 (a9 0) (mC (.int 1))) (a0 (m4 D5 (a0 (m2 v9 (a9 0) (mC (.int 2))) b8)) b8)))) m7)
 (j5 (u6 (A6 (m2 M1 (a9 1) (mC (.str "down")))) (l9 (P4 "Down" ["many","part"] (a0 (m2 v9 (a9 0) (mC (.int 1))) (a0 (m4 D5 (a0 (m2 v9 (a9 0) (mC (.int 2))) b8)) b8)))) m7)
 (j5 (u6 (A6 (m2 M1 (a9 1) (mC (.str "turned")))) (l9 (P4 "Turned" ["way","part"] (a0 (m2 v9 (a9 0) (mC (.int 1))) (a0 (m4 D5 (a0 (m2 v9 (a9 0) (mC (.int 2))) b8)) b8)))) m7)
 (l9 (P4 "Dyed" ["one","other","part"] (a0 (m2 v9 (a9 0) (mC (.int 1))) (a0 (m2 v9 (a9 0) (mC (.int 2))) (a0 (m4 D5 (a0 (m2 v9 (a9 0) (mC (.int 3))) b8)) b8)))))))))))))
def a71:Nat->(List PV->Option g6)
 |0=>(n6 1 (fun _=>none))
 |n+1=>(n6 1 (a1z ((a71 n))))
def a4v(n:Nat):List PV->Option g6:=(a71 n)
def a59:List PV->Option g6:=a4v 12
def a0B(O8:List PV->Option g6):M:=
 (m4 O8 (a0 (a9 2) b8))
def a1B(O8:List PV->Option g6):MS:=
 (j5 (z6 1 (m2 v9 (a9 0) (mC (.int 0))))
 (j5 (u6 (A6 (m2 M1 (a9 1) (mC (.str "plain")))) (l9 (m2 v6 (m2 v6 (mC (.str "[")) (m2 a19 (mC (.str "/")) (m2 v9 (a9 0) (mC (.int 1))))) (mC (.str "]")))) m7)
 (j5 (u6 (A6 (m2 M1 (a9 1) (mC (.str "name")))) (l9 (m2 v9 (a9 0) (mC (.int 1)))) m7)
 (j5 (u6 (Q9 (A6 (m2 M1 (a9 1) (mC (.str "beside")))) (A6 (m2 M1 (a9 1) (mC (.str "above"))))) (l9 (m2 v6 (m2 v6 (m2 v6 (a9 1) (mC (.str "("))) (m2 a19 (mC (.str ", ")) (F9 1 (w6 (m2 v9 (a9 0) (mC (.int 1)))) (u3 2) P8 (a0B O8)))) (mC (.str ")")))) m7)
 (j5 (u6 (Q9 (A6 (m2 M1 (a9 1) (mC (.str "across")))) (A6 (m2 M1 (a9 1) (mC (.str "down"))))) (l9 (m2 v6 (m2 v6 (m2 v6 (m2 v6 (m2 v6 (a9 1) (mC (.str "("))) (m1 b0i (m2 v9 (a9 0) (mC (.int 1))))) (mC (.str ", "))) (m4 O8 (a0 (m2 v9 (a9 0) (mC (.int 2))) b8))) (mC (.str ")")))) m7)
 (j5 (u6 (A6 (m2 M1 (a9 1) (mC (.str "turned")))) (l9 (m2 v6 (m2 v6 (m2 v6 (m2 v9 (a9 0) (mC (.int 1))) (mC (.str "("))) (m4 O8 (a0 (m2 v9 (a9 0) (mC (.int 2))) b8))) (mC (.str ")")))) m7)
 (l9 (m2 v6 (m2 v6 (m2 v6 (m2 v6 (m2 v6 (m2 v6 (mC (.str "dye(")) (m2 v9 (a9 0) (mC (.int 1)))) (mC (.str ", "))) (m2 v9 (a9 0) (mC (.int 2)))) (mC (.str ", "))) (m4 O8 (a0 (m2 v9 (a9 0) (mC (.int 3))) b8))) (mC (.str ")"))))))))))
def a73:Nat->(List PV->Option g6)
 |0=>(n6 1 (fun _=>none))
 |n+1=>(n6 1 (a1B ((a73 n))))
def a4x(n:Nat):List PV->Option g6:=(a73 n)
def W0:List PV->Option g6:=a4x 12
def a1o:MS:=
 (c0E 4 (gI fun i j=> .int (i+j)) (mC (.int 1)))
def a7f:MS:=
 (j5 (z6 4 (a9 1))
 (j5 (W6 (a1P (A6 (m2 a6J (a9 4) (m1 N8 (a9 0)))) (A6 (W2 Y7 Y7 (a9 2) (m2 v9 (a9 0) (a9 4)) (a9 3)))) a1o 500)
 (a0d 4)))
def a2U:List PV->Option g6:=n6 1 a7f
def a5G:MS:=
 (l9 (m4 a2U (a0 (a9 0) (a0 (a9 1) (a0 (mC (.str "a")) (a0 (mC (.str "z")) b8))))))
def M6:List PV->Option g6:=n6 0 a5G
def a3R:MS:=
 (l9 (a6P (W2 Y7 Y7 (mC (.int 1)) (m1 N8 (a9 0)) (mC Z9)) (m2 M1 (m4 M6 (a0 (a9 0) (a0 (mC (.int 0)) b8))) (m1 N8 (a9 0)))))
def V3:List PV->Option g6:=n6 0 a3R
def b0G:MS:=
 (l9 (a6P (m4 V3 (a0 (a9 0) b8)) (m2 (a12 true) (a9 0) (mC a8y))))
def a5k:List PV->Option g6:=n6 0 b0G
def a4B:M:=
 (W2 Y7 Y7 (mC (.str "a")) (a9 1) (mC (.str "z")))
def b2V:MS:=
 (j5 (u6 (Q9 (G5 (mtV (m1 (a1n "str") (a9 0)))) (G5 (A6 (W2 Y7 Y7 (mC (.int 1)) (m1 N8 (a9 0)) (mC a1v))))) (l9 (mC (.bool false))) m7)
 (l9 (m1 b6K (F9 1 (a9e (a9 0)) (u3 1) P8 a4B))))
def a4u:List PV->Option g6:=n6 0 b2V
def a2A:M:=
 (m4 a4u (a0 (a9 1) b8))
def a2B:M:=
 (m2 M1 (m1 N8 (a9 1)) (m1 N8 (m2 v9 (a9 0) (mC (.int 0)))))
def a8L:MS:=
 (j5 (u6 (Q9 (G5 (mtV (m1 (a1n "tuple") (a9 0)))) (G5 (A6 (W2 Y7 Y7 (mC (.int 1)) (m1 N8 (a9 0)) (mC a1v))))) (l9 (mC (.bool false))) m7)
 (j5 (u6 (G5 (mtV (m1 b6K (F9 1 (w6 (a9 0)) (u3 1) P8 a2A)))) (l9 (mC (.bool false))) m7)
 (l9 (m1 b6K (F9 1 (w6 (a9 0)) (u3 1) P8 a2B)))))
def a3j:List PV->Option g6:=n6 0 a8L
def a6B:MX:=
 (b3y (c0T (G5 (mtV (m1 (a1n "str") (a9 0)))) (b8F "NoCloth" (a0 (mC (.str "what is no text writes no cloth")) b8)) (a9i m7))
 (b3y (a9i (z6 1 (m1 a08 (m2 a7l (a9 0) (mC (.str "/"))))))
 (b3y (c0T (G5 (mtV (m4 a3j (a0 (a9 1) b8)))) (b8F "NoCloth" (a0 (mC (.str "the text writes no cloth")) b8)) (a9i m7))
 (a9i (a0d 1)))))
def S8:List PV->Option (g6 ⊕ Str):=b9q 1 a6B
def a8O:MS:=
 (j5 (z6 2 (m3 b0V (a9 0) (mC (.str "]")) (a9 1)))
 (j5 (u6 (A6 (m2 a6J (a9 2) (mC (.int 0)))) (l9 (mC .none)) m7)
 (j5 (b44 (a6S 3 S8 (a0 (R9 (a9 0) (K0 (m2 v6 (a9 1) (mC (.int 1)))) (K0 (a9 2))) b8)) (inL ["NoCloth"]) (l9 (mC .none)))
 (l9 (A9 (a0 (P4 "Plain" ["rows"] (a0 (a9 3) b8)) (a0 (m2 v6 (a9 2) (mC (.int 1))) b8)))))))
def a3m:List PV->Option g6:=n6 2 a8O
def a5F:MS:=
 (l9 (m4 a2U (a0 (a9 0) (a0 (a9 1) (a0 (mC (.str "0")) (a0 (mC (.str "9")) b8))))))
def Q0:List PV->Option g6:=n6 0 a5F
def a7N:MS:=
 (j5 (u6 (Q9 (G5 (A6 (W2 Y7 Y7 (mC (.int 1)) (m1 N8 (a9 0)) (mC a0a)))) (A6 (m2 gNe (m4 Q0 (a0 (a9 0) (a0 (mC (.int 0)) b8))) (m1 N8 (a9 0))))) (l9 (mC .none)) m7)
 (j5 (u6 (a1P (A6 (m2 M1 (m2 v9 (a9 0) (mC (.int 0))) (mC (.str "0")))) (A6 (m2 (gI fun i j=> .bool (decide (j<i))) (m1 N8 (a9 0)) (mC (.int 1))))) (l9 (mC .none)) m7)
 (l9 (m1 b3b (a9 0)))))
def a2d:List PV->Option g6:=n6 0 a7N
def a2N:MS:=
 (j5 (z6 3 (m4 a2d (a0 (a9 0) b8)))
 (j5 (u6 (Q9 (A6 (m2 (a3h false) (a9 3) (mC .none))) (G5 (A6 (W2 Y7 Y7 (a9 1) (a9 3) (a9 2))))) (l9 (mC .none)) m7)
 (a0d 3)))
def S7:List PV->Option g6:=n6 1 a2N
def a7O:MS:=
 (j5 (z6 2 (m4 Q0 (a0 (a9 0) (a0 (a9 1) b8))))
 (j5 (u6 (Q9 (A6 (m2 (a3h false) (m4 S7 (a0 (R9 (a9 0) (K0 (a9 1)) (K0 (a9 2))) (a0 (mC (.int 1)) (a0 (mC a1s) b8)))) (mC .none))) (G5 (mtV (m3 Q6 (a9 0) (mC (.str ", ")) (a9 2))))) (l9 (mC .none)) m7)
 (a0d 2)))
def a0Y:List PV->Option g6:=n6 1 a7O
def a4f:MS:=
 (l9 (a6P (m2 M1 (m4 M6 (a0 (a9 0) (a0 (a9 1) b8))) (m2 v6 (a9 1) (mC (.int 1)))) (m3 Q6 (a9 0) (mC (.str ", ")) (m2 v6 (a9 1) (mC (.int 1))))))
def N9:List PV->Option g6:=n6 0 a4f
def a5g(R_dyed_at R_laid_at R_last_part_at R_made_of_parts_at m5 R_parts_at R_repeated_at R_turned_at:List PV->Option g6):MS:=
 (j5 (u6 (Q9 (G5 (mtV (m4 N9 (a0 (a9 0) (a0 (a9 1) b8))))) (G5 (mtV (m4 N9 (a0 (a9 0) (a0 (m2 v6 (a9 1) (mC (.int 3))) b8)))))) (l9 (mC .none)) m7)
 (j5 (z6 3 (m4 R_last_part_at (a0 (a9 0) (a0 (m2 v6 (a9 1) (mC (.int 6))) (a0 (a9 2) b8)))))
 (j5 (u6 (A6 (m2 (a3h false) (a9 3) (mC .none))) (l9 (mC .none)) m7)
 (l9 (A9 (a0 (P4 "Dyed" ["one","other","part"] (a0 (m2 v9 (a9 0) (a9 1)) (a0 (m2 v9 (a9 0) (m2 v6 (a9 1) (mC (.int 3)))) (a0 (m2 v9 (a9 3) (mC (.int 0))) b8)))) (a0 (m2 v9 (a9 3) (mC (.int 1))) b8)))))))
def a5h(R_dyed_at R_laid_at R_last_part_at R_made_of_parts_at m5 R_parts_at R_repeated_at R_turned_at:List PV->Option g6):MS:=
 (j5 (z6 4 (m4 R_parts_at (a0 (a9 0) (a0 (a9 2) (a0 (a9 3) b8)))))
 (j5 (u6 (Q9 (A6 (m2 (a3h false) (a9 4) (mC .none))) (G5 (mtV (m3 Q6 (a9 0) (mC (.str ")")) (m2 v9 (a9 4) (mC (.int 1))))))) (l9 (mC .none)) m7)
 (j5 (u6 (G5 (A6 (W2 Y7 Y7 (mC (.int 2)) (m1 N8 (m2 v9 (a9 4) (mC (.int 0)))) (mC a0b)))) (l9 (mC .none)) m7)
 (j5 (u6 (A6 (m2 M1 (a9 1) (mC (.str "beside")))) (l9 (A9 (a0 (P4 "Beside" ["parts"] (a0 (m2 v9 (a9 4) (mC (.int 0))) b8)) (a0 (m2 v6 (m2 v9 (a9 4) (mC (.int 1))) (mC (.int 1))) b8)))) m7)
 (l9 (A9 (a0 (P4 "Above" ["parts"] (a0 (m2 v9 (a9 4) (mC (.int 0))) b8)) (a0 (m2 v6 (m2 v9 (a9 4) (mC (.int 1))) (mC (.int 1))) b8))))))))
def Y1(R_dyed_at R_laid_at R_last_part_at R_made_of_parts_at m5 R_parts_at R_repeated_at R_turned_at:List PV->Option g6):MS:=
 (j5 (z6 3 (m4 m5 (a0 (a9 0) (a0 (a9 1) (a0 (a9 2) b8)))))
 (j5 (u6 (Q9 (A6 (m2 (a3h false) (a9 3) (mC .none))) (G5 (mtV (m3 Q6 (a9 0) (mC (.str ")")) (m2 v9 (a9 3) (mC (.int 1))))))) (l9 (mC .none)) m7)
 (l9 (A9 (a0 (m2 v9 (a9 3) (mC (.int 0))) (a0 (m2 v6 (m2 v9 (a9 3) (mC (.int 1))) (mC (.int 1))) b8))))))
def J8(R_dyed_at R_laid_at R_last_part_at R_made_of_parts_at m5 R_parts_at R_repeated_at R_turned_at:List PV->Option g6):MS:=
 (j5 (u6 (Q9 (A6 (m2 M1 (a9 1) (mC (.str "beside")))) (A6 (m2 M1 (a9 1) (mC (.str "above"))))) (l9 (m4 R_laid_at (a0 (a9 0) (a0 (a9 1) (a0 (a9 2) (a0 (a9 3) b8)))))) m7)
 (j5 (u6 (Q9 (A6 (m2 M1 (a9 1) (mC (.str "across")))) (A6 (m2 M1 (a9 1) (mC (.str "down"))))) (l9 (m4 R_repeated_at (a0 (a9 0) (a0 (a9 1) (a0 (a9 2) (a0 (a9 3) b8)))))) m7)
 (j5 (u6 (A6 (m2 (a12 false) (a9 1) (mC a22))) (l9 (m4 R_turned_at (a0 (a9 0) (a0 (a9 1) (a0 (a9 2) (a0 (a9 3) b8)))))) m7)
 (j5 (u6 (A6 (m2 M1 (a9 1) (mC (.str "dye")))) (l9 (m4 R_dyed_at (a0 (a9 0) (a0 (a9 2) (a0 (a9 3) b8))))) m7)
 (l9 (mC .none))))))
def V8(R_dyed_at R_laid_at R_last_part_at R_made_of_parts_at m5 R_parts_at R_repeated_at R_turned_at:List PV->Option g6):MS:=
 (j5 (u6 (A6 (m2 M1 (a9 2) (mC (.int 0)))) (l9 (mC .none)) m7)
 (j5 (u6 (mtV (m3 Q6 (a9 0) (mC (.str "[")) (a9 1))) (l9 (m4 a3m (a0 (a9 0) (a0 (a9 1) b8)))) m7)
 (j5 (z6 3 (m4 M6 (a0 (a9 0) (a0 (a9 1) b8))))
 (j5 (z6 4 (R9 (a9 0) (K0 (a9 1)) (K0 (a9 3))))
 (j5 (u6 (mtV (m3 Q6 (a9 0) (mC (.str "(")) (a9 3))) (b43 4 (l9 (m4 R_made_of_parts_at (a0 (a9 0) (a0 (a9 4) (a0 (m2 v6 (a9 3) (mC (.int 1))) (a0 (m2 (gI fun i j=> .int (i - j)) (a9 2) (mC (.int 1))) b8))))))) m7)
 (j5 (b43 4 (u6 (mtV (m4 a5k (a0 (a9 4) b8))) (l9 (A9 (a0 (P4 "Named" ["name"] (a0 (a9 4) b8)) (a0 (a9 3) b8)))) m7))
 (l9 (mC .none))))))))
def E5(R_dyed_at R_laid_at R_last_part_at R_made_of_parts_at m5 R_parts_at R_repeated_at R_turned_at:List PV->Option g6):MS:=
 (j5 (z6 4 (m4 m5 (a0 (a9 0) (a0 (a9 1) (a0 (a9 2) b8)))))
 (j5 (u6 (A6 (m2 (a3h false) (a9 4) (mC .none))) (l9 (mC .none)) m7)
 (j5 (a2e 3 (m2 v9 (a9 4) (mC (.int 0))))
 (j5 (u6 (G5 (mtV (m3 Q6 (a9 0) (mC (.str ", ")) (m2 v9 (a9 4) (mC (.int 1)))))) (l9 (A9 (a0 (m1 a08 (a9 3)) (a0 (m2 v9 (a9 4) (mC (.int 1))) b8)))) m7)
 (z6 1 (m2 v6 (m2 v9 (a9 4) (mC (.int 1))) (mC (.int 2))))))))
def a29(R_dyed_at R_laid_at R_last_part_at R_made_of_parts_at m5 R_parts_at R_repeated_at R_turned_at:List PV->Option g6):MS:=
 (j5 (z6 3 (O2 b8))
 (W6 (mtV (mC (.bool true))) (E5 R_dyed_at R_laid_at R_last_part_at R_made_of_parts_at m5 R_parts_at R_repeated_at R_turned_at) 500))
def a0v(R_dyed_at R_laid_at R_last_part_at R_made_of_parts_at m5 R_parts_at R_repeated_at R_turned_at:List PV->Option g6):MS:=
 (j5 (z6 4 (m4 a0Y (a0 (a9 0) (a0 (a9 2) b8))))
 (j5 (u6 (A6 (m2 (a3h false) (a9 4) (mC .none))) (l9 (mC .none)) m7)
 (j5 (z6 5 (m4 R_last_part_at (a0 (a9 0) (a0 (m2 v6 (a9 4) (mC (.int 2))) (a0 (a9 3) b8)))))
 (j5 (u6 (A6 (m2 (a3h false) (a9 5) (mC .none))) (l9 (mC .none)) m7)
 (j5 (z6 6 (m1 b3b (R9 (a9 0) (K0 (a9 2)) (K0 (a9 4)))))
 (j5 (u6 (A6 (m2 M1 (a9 1) (mC (.str "across")))) (l9 (A9 (a0 (P4 "Across" ["many","part"] (a0 (a9 6) (a0 (m2 v9 (a9 5) (mC (.int 0))) b8))) (a0 (m2 v9 (a9 5) (mC (.int 1))) b8)))) m7)
 (l9 (A9 (a0 (P4 "Down" ["many","part"] (a0 (a9 6) (a0 (m2 v9 (a9 5) (mC (.int 0))) b8))) (a0 (m2 v9 (a9 5) (mC (.int 1))) b8))))))))))
def a15(R_dyed_at R_laid_at R_last_part_at R_made_of_parts_at m5 R_parts_at R_repeated_at R_turned_at:List PV->Option g6):MS:=
 (j5 (z6 4 (m4 R_last_part_at (a0 (a9 0) (a0 (a9 2) (a0 (a9 3) b8)))))
 (j5 (u6 (A6 (m2 (a3h false) (a9 4) (mC .none))) (l9 (mC .none)) m7)
 (l9 (A9 (a0 (P4 "Turned" ["way","part"] (a0 (a9 1) (a0 (m2 v9 (a9 4) (mC (.int 0))) b8))) (a0 (m2 v9 (a9 4) (mC (.int 1))) b8))))))
def d7:Nat->(List PV->Option g6)×(List PV->Option g6)×(List PV->Option g6)×(List PV->Option g6)×(List PV->Option g6)×(List PV->Option g6)×(List PV->Option g6)×(List PV->Option g6)
 |0=>(n6 1 (fun _=>none),n6 1 (fun _=>none),n6 1 (fun _=>none),n6 0 (fun _=>none),n6 2 (fun _=>none),n6 2 (fun _=>none),n6 3 (fun _=>none),n6 1 (fun _=>none))
 |n+1=>(n6 1 (a5g ((d7 n).1) ((d7 n).2.1) ((d7 n).2.2.1) ((d7 n).2.2.2.1) ((d7 n).2.2.2.2.1) ((d7 n).2.2.2.2.2.1) ((d7 n).2.2.2.2.2.2.1) ((d7 n).2.2.2.2.2.2.2)),n6 1 (a5h ((d7 n).1) ((d7 n).2.1) ((d7 n).2.2.1) ((d7 n).2.2.2.1) ((d7 n).2.2.2.2.1) ((d7 n).2.2.2.2.2.1) ((d7 n).2.2.2.2.2.2.1) ((d7 n).2.2.2.2.2.2.2)),n6 1 (Y1 ((d7 n).1) ((d7 n).2.1) ((d7 n).2.2.1) ((d7 n).2.2.2.1) ((d7 n).2.2.2.2.1) ((d7 n).2.2.2.2.2.1) ((d7 n).2.2.2.2.2.2.1) ((d7 n).2.2.2.2.2.2.2)),n6 0 (J8 ((d7 n).1) ((d7 n).2.1) ((d7 n).2.2.1) ((d7 n).2.2.2.1) ((d7 n).2.2.2.2.1) ((d7 n).2.2.2.2.2.1) ((d7 n).2.2.2.2.2.2.1) ((d7 n).2.2.2.2.2.2.2)),n6 2 (V8 ((d7 n).1) ((d7 n).2.1) ((d7 n).2.2.1) ((d7 n).2.2.2.1) ((d7 n).2.2.2.2.1) ((d7 n).2.2.2.2.2.1) ((d7 n).2.2.2.2.2.2.1) ((d7 n).2.2.2.2.2.2.2)),n6 2 (a29 ((d7 n).1) ((d7 n).2.1) ((d7 n).2.2.1) ((d7 n).2.2.2.1) ((d7 n).2.2.2.2.1) ((d7 n).2.2.2.2.2.1) ((d7 n).2.2.2.2.2.2.1) ((d7 n).2.2.2.2.2.2.2)),n6 3 (a0v ((d7 n).1) ((d7 n).2.1) ((d7 n).2.2.1) ((d7 n).2.2.2.1) ((d7 n).2.2.2.2.1) ((d7 n).2.2.2.2.2.1) ((d7 n).2.2.2.2.2.2.1) ((d7 n).2.2.2.2.2.2.2)),n6 1 (a15 ((d7 n).1) ((d7 n).2.1) ((d7 n).2.2.1) ((d7 n).2.2.2.1) ((d7 n).2.2.2.2.1) ((d7 n).2.2.2.2.2.1) ((d7 n).2.2.2.2.2.2.1) ((d7 n).2.2.2.2.2.2.2)))
def a6b(n:Nat):List PV->Option g6:=(d7 n).1
def a6c(n:Nat):List PV->Option g6:=(d7 n).2.1
def V4(n:Nat):List PV->Option g6:=(d7 n).2.2.1
def N2(n:Nat):List PV->Option g6:=(d7 n).2.2.2.1
def X0(n:Nat):List PV->Option g6:=(d7 n).2.2.2.2.1
def a6a:List PV->Option g6:=X0 40
def a4y(n:Nat):List PV->Option g6:=(d7 n).2.2.2.2.2.1
def a1N(n:Nat):List PV->Option g6:=(d7 n).2.2.2.2.2.2.1
def a3p(n:Nat):List PV->Option g6:=(d7 n).2.2.2.2.2.2.2
def a6C:MS:=
 (j5 (u6 (G5 (mtV (m1 (a1n "str") (a9 0)))) (l9 (mC .none)) m7)
 (j5 (z6 1 (m4 a6a (a0 (a9 0) (a0 (mC (.int 0)) (a0 (mC a5r) b8)))))
 (j5 (u6 (Q9 (A6 (m2 (a3h false) (a9 1) (mC .none))) (A6 (m2 gNe (m2 v9 (a9 1) (mC (.int 1))) (m1 N8 (a9 0))))) (l9 (mC .none)) m7)
 (l9 (m2 v9 (a9 1) (mC (.int 0)))))))
def Z1:List PV->Option g6:=n6 1 a6C
def a7M:MS:=
 (j5 (u6 (Q9 (A6 (m2 M1 (m2 v9 (a9 0) (mC (.int 0))) (mC (.str "plain")))) (A6 (m2 M1 (m2 v9 (a9 0) (mC (.int 0))) (mC (.str "name"))))) (l9 (O2 b8)) m7)
 (j5 (u6 (Q9 (A6 (m2 M1 (m2 v9 (a9 0) (mC (.int 0))) (mC (.str "beside")))) (A6 (m2 M1 (m2 v9 (a9 0) (mC (.int 0))) (mC (.str "above"))))) (l9 (m2 v9 (a9 0) (mC (.int 1)))) m7)
 (l9 (O2 (a0 (m2 v9 (a9 0) (c2R (mC (.int 1)))) b8)))))
def L7:List PV->Option g6:=n6 0 a7M
def L9(E7:List PV->Option g6):M:=
 (a9 3)
def L8(E7:List PV->Option g6):MS:=
 (z6 1 (m2 v6 (a9 1) (F9 1 (w6 (m4 E7 (a0 (a9 2) b8))) (u3 3) (A6 (m2 (a12 true) (a9 3) (a9 1))) (L9 E7))))
def N3(E7:List PV->Option g6):MS:=
 (j5 (u6 (A6 (m2 M1 (m2 v9 (a9 0) (mC (.int 0))) (mC (.str "name")))) (l9 (O2 (a0 (m2 v9 (a9 0) (mC (.int 1))) b8))) m7)
 (j5 (z6 1 (O2 b8))
 (j5 (a5v (a4C (m4 L7 (a0 (a9 0) b8))) (u3 2) (L8 E7))
 (a0d 1))))
def a3T:Nat->(List PV->Option g6)
 |0=>(n6 2 (fun _=>none))
 |n+1=>(n6 2 (N3 ((a3T n))))
def G2(n:Nat):List PV->Option g6:=(a3T n)
def Y9:List PV->Option g6:=G2 12
def V1(a0f:List PV->Option g6):M:=
 (m4 a0f (a0 (a9 1) b8))
def a8M(a0f:List PV->Option g6):MS:=
 (l9 (m2 v6 (mC (.int 1)) (m1 a5I (F9 1 (w6 (m4 L7 (a0 (a9 0) b8))) (u3 1) P8 (V1 a0f)))))
def a70:Nat->(List PV->Option g6)
 |0=>(n6 0 (fun _=>none))
 |n+1=>(n6 0 (a8M ((a70 n))))
def W9(n:Nat):List PV->Option g6:=(a70 n)
def a58:List PV->Option g6:=W9 12
def X1(X7:List PV->Option g6):MS:=
 (u6 (G5 (mtV (m4 X7 (a0 (a9 4) (a0 (a9 5) b8))))) (l9 (mC (.bool false))) m7)
def a4h(X7:List PV->Option g6):MS:=
 (j5 (z6 2 (m2 v9 (a9 1) (mC (.int 0))))
 (j5 (u6 (G5 (mtV (m1 (a8W [("Plain",true),("Named",true),("Beside",true),("Above",true),("Across",true),("Down",true),("Turned",true),("Dyed",true)]) (a9 0)))) (l9 (mC (.bool false))) m7)
 (j5 (u6 (A6 (m2 M1 (a9 2) (mC (.str "plain")))) (j5 (u6 (Q9 (G5 (mtV (m1 (a8W [("Plain",true),("Named",false),("Beside",false),("Above",false),("Across",false),("Down",false),("Turned",false),("Dyed",false)]) (a9 0)))) (G5 (mtV (m1 (a1n "tuple") (m1 (A5 ["Plain"] "rows") (a9 0)))))) (l9 (mC (.bool false))) m7)
 (l9 (m2 M1 (m1 (A5 ["Plain"] "rows") (a9 0)) (m2 v9 (a9 1) (mC (.int 1)))))) m7)
 (j5 (u6 (A6 (m2 M1 (a9 2) (mC (.str "name")))) (l9 (a6P (m1 (a8W [("Plain",false),("Named",true),("Beside",false),("Above",false),("Across",false),("Down",false),("Turned",false),("Dyed",false)]) (a9 0)) (m2 M1 (m1 (A5 ["Named"] "name") (a9 0)) (m2 v9 (a9 1) (mC (.int 1)))))) m7)
 (j5 (u6 (Q9 (A6 (m2 M1 (a9 2) (mC (.str "beside")))) (A6 (m2 M1 (a9 2) (mC (.str "above"))))) (j5 (z6 3 (O2 (a0 (m1 (a8W [("Plain",false),("Named",false),("Beside",true),("Above",false),("Across",false),("Down",false),("Turned",false),("Dyed",false)]) (a9 0)) (a0 (m1 (a8W [("Plain",false),("Named",false),("Beside",false),("Above",true),("Across",false),("Down",false),("Turned",false),("Dyed",false)]) (a9 0)) b8))))
 (j5 (u6 (A6 (m2 gNe (a9 3) (O2 (a0 (m2 M1 (a9 2) (mC (.str "beside"))) (a0 (m2 M1 (a9 2) (mC (.str "above"))) b8))))) (l9 (mC (.bool false))) m7)
 (j5 (u6 (Q9 (G5 (mtV (m1 (a1n "tuple") (m1 (A5 ["Beside","Above"] "parts") (a9 0))))) (A6 (m2 gNe (m1 N8 (m1 (A5 ["Beside","Above"] "parts") (a9 0))) (m1 N8 (m2 v9 (a9 1) (mC (.int 1))))))) (l9 (mC (.bool false))) m7)
 (j5 (a5v (b6e (a0 (m1 (A5 ["Beside","Above"] "parts") (a9 0)) (a0 (m2 v9 (a9 1) (mC (.int 1))) b8))) (b4b [4,5]) (X1 X7))
 (l9 (mC (.bool true))))))) m7)
 (j5 (u6 (A6 (m2 M1 (a9 2) (mC (.str "turned")))) (j5 (u6 (Q9 (G5 (mtV (m1 (a8W [("Plain",false),("Named",false),("Beside",false),("Above",false),("Across",false),("Down",false),("Turned",true),("Dyed",false)]) (a9 0)))) (A6 (m2 gNe (m1 (A5 ["Turned"] "way") (a9 0)) (m2 v9 (a9 1) (mC (.int 1)))))) (l9 (mC (.bool false))) m7)
 (l9 (m4 X7 (a0 (m1 (A5 ["Across","Down","Turned","Dyed"] "part") (a9 0)) (a0 (m2 v9 (a9 1) (mC (.int 2))) b8))))) m7)
 (j5 (u6 (A6 (m2 M1 (a9 2) (mC (.str "dye")))) (j5 (u6 (G5 (mtV (m1 (a8W [("Plain",false),("Named",false),("Beside",false),("Above",false),("Across",false),("Down",false),("Turned",false),("Dyed",true)]) (a9 0)))) (l9 (mC (.bool false))) m7)
 (j5 (u6 (Q9 (A6 (m2 gNe (m1 (A5 ["Dyed"] "one") (a9 0)) (m2 v9 (a9 1) (mC (.int 1))))) (A6 (m2 gNe (m1 (A5 ["Dyed"] "other") (a9 0)) (m2 v9 (a9 1) (mC (.int 2)))))) (l9 (mC (.bool false))) m7)
 (l9 (m4 X7 (a0 (m1 (A5 ["Across","Down","Turned","Dyed"] "part") (a9 0)) (a0 (m2 v9 (a9 1) (mC (.int 3))) b8)))))) m7)
 (j5 (z6 3 (O2 (a0 (m1 (a8W [("Plain",false),("Named",false),("Beside",false),("Above",false),("Across",true),("Down",false),("Turned",false),("Dyed",false)]) (a9 0)) (a0 (m1 (a8W [("Plain",false),("Named",false),("Beside",false),("Above",false),("Across",false),("Down",true),("Turned",false),("Dyed",false)]) (a9 0)) b8))))
 (j5 (u6 (Q9 (A6 (m2 gNe (a9 3) (O2 (a0 (m2 M1 (a9 2) (mC (.str "across"))) (a0 (m2 M1 (a9 2) (mC (.str "down"))) b8))))) (mtV (m1 (a1n "bool") (m1 (A5 ["Across","Down"] "many") (a9 0))))) (l9 (mC (.bool false))) m7)
 (l9 (a6P (m2 M1 (m1 (A5 ["Across","Down"] "many") (a9 0)) (m2 v9 (a9 1) (mC (.int 1)))) (m4 X7 (a0 (m1 (A5 ["Across","Down","Turned","Dyed"] "part") (a9 0)) (a0 (m2 v9 (a9 1) (mC (.int 2))) b8))))))))))))))
def b1m:Nat->(List PV->Option g6)
 |0=>(n6 4 (fun _=>none))
 |n+1=>(n6 4 (a4h ((b1m n))))
def a7m(n:Nat):List PV->Option g6:=(b1m n)
def a80:List PV->Option g6:=a7m 12
def b0f:MS:=
 (l9 (A9 b8))
def x8:List PV->Option g6:=n6 0 b0f
def a8J:MS:=
 (l9 (m1 (A5 ["Beside","Above"] "parts") (a9 0)))
def E9:List PV->Option g6:=n6 0 a8J
def b0e:MS:=
 (l9 (m1 (A5 ["Beside","Above"] "parts") (a9 0)))
def J4:List PV->Option g6:=n6 0 b0e
def a8I:MS:=
 (l9 (A9 (a0 (m1 (A5 ["Across","Down","Turned","Dyed"] "part") (a9 0)) b8)))
def E8:List PV->Option g6:=n6 0 a8I
def b1H:MS:=
 (l9 (A9 (a0 (m1 (A5 ["Across","Down","Turned","Dyed"] "part") (a9 0)) b8)))
def L5:List PV->Option g6:=n6 0 b1H
def a8K:MS:=
 (l9 (A9 (a0 (m1 (A5 ["Across","Down","Turned","Dyed"] "part") (a9 0)) b8)))
def F8:List PV->Option g6:=n6 0 a8K
def b1I:MS:=
 (l9 (A9 (a0 (m1 (A5 ["Across","Down","Turned","Dyed"] "part") (a9 0)) b8)))
def L6:List PV->Option g6:=n6 0 b1I
def a5E:MS:=
 (l9 (O2 (a0 (m1 (A5 ["Named"] "name") (a9 0)) b8)))
def C5:List PV->Option g6:=n6 0 a5E
def O0(A0:List PV->Option g6):MS:=
 (b2a 1 (O3 [("Plain",A0),("Named",C5),("Beside",A0),("Above",A0),("Across",A0),("Down",A0),("Turned",A0),("Dyed",A0)] "names" (a9 2) b8))
def U5(A0:List PV->Option g6):MS:=
 (j5 (z6 1 (O2 b8))
 (j5 (a5v (a4C (O3 [("Plain",x8),("Named",x8),("Beside",E9),("Above",J4),("Across",E8),("Down",L5),("Turned",F8),("Dyed",L6)] "inner" (a9 0) b8)) (u3 2) (O0 A0))
 (l9 (m1 a2T (a9 1)))))
def a4L:Nat->(List PV->Option g6)
 |0=>(n6 2 (fun _=>none))
 |n+1=>(n6 2 (U5 ((a4L n))))
def y3(n:Nat):List PV->Option g6:=(a4L n)
def r8:List PV->Option g6:=y3 12
def a5H:MS:=
 (l9 (m2 a19 (mC (.str "/")) (a9 0)))
def V0:List PV->Option g6:=n6 0 a5H
def b1K:MS:=
 (l9 (m2 v6 (m2 v6 (mC (.str "[")) (m4 V0 (a0 (m1 (A5 ["Plain"] "rows") (a9 0)) b8))) (mC (.str "]"))))
def v4:List PV->Option g6:=n6 0 b1K
def b1J:MS:=
 (l9 (m1 (A5 ["Named"] "name") (a9 0)))
def v0:List PV->Option g6:=n6 0 b1J
def a28(j4 i5 i6 l6 l7 i7 R_written_parts:List PV->Option g6):MS:=
 (l9 (m2 v6 (m2 v6 (mC (.str "above(")) (m4 R_written_parts (a0 (m1 (A5 ["Beside","Above"] "parts") (a9 0)) b8))) (mC (.str ")"))))
def a2r(j4 i5 i6 l6 l7 i7 R_written_parts:List PV->Option g6):MS:=
 (l9 (m2 v6 (m2 v6 (m2 v6 (m2 v6 (mC (.str "across(")) (m1 b0i (m1 (A5 ["Across","Down"] "many") (a9 0)))) (mC (.str ", "))) (O3 [("Plain",v4),("Named",v0),("Beside",i6),("Above",j4),("Across",i5),("Down",l6),("Turned",i7),("Dyed",l7)] "text" (m1 (A5 ["Across","Down","Turned","Dyed"] "part") (a9 0)) b8)) (mC (.str ")"))))
def a2s(j4 i5 i6 l6 l7 i7 R_written_parts:List PV->Option g6):MS:=
 (l9 (m2 v6 (m2 v6 (mC (.str "beside(")) (m4 R_written_parts (a0 (m1 (A5 ["Beside","Above"] "parts") (a9 0)) b8))) (mC (.str ")"))))
def a4d(j4 i5 i6 l6 l7 i7 R_written_parts:List PV->Option g6):MS:=
 (l9 (m2 v6 (m2 v6 (m2 v6 (m2 v6 (mC (.str "down(")) (m1 b0i (m1 (A5 ["Across","Down"] "many") (a9 0)))) (mC (.str ", "))) (O3 [("Plain",v4),("Named",v0),("Beside",i6),("Above",j4),("Across",i5),("Down",l6),("Turned",i7),("Dyed",l7)] "text" (m1 (A5 ["Across","Down","Turned","Dyed"] "part") (a9 0)) b8)) (mC (.str ")"))))
def a4e(j4 i5 i6 l6 l7 i7 R_written_parts:List PV->Option g6):MS:=
 (l9 (m2 v6 (m2 v6 (m2 v6 (m2 v6 (m2 v6 (m2 v6 (mC (.str "dye(")) (m1 (A5 ["Dyed"] "one") (a9 0))) (mC (.str ", "))) (m1 (A5 ["Dyed"] "other") (a9 0))) (mC (.str ", "))) (O3 [("Plain",v4),("Named",v0),("Beside",i6),("Above",j4),("Across",i5),("Down",l6),("Turned",i7),("Dyed",l7)] "text" (m1 (A5 ["Across","Down","Turned","Dyed"] "part") (a9 0)) b8)) (mC (.str ")"))))
def a2t(j4 i5 i6 l6 l7 i7 R_written_parts:List PV->Option g6):MS:=
 (l9 (m2 v6 (m2 v6 (m2 v6 (m1 (A5 ["Turned"] "way") (a9 0)) (mC (.str "("))) (O3 [("Plain",v4),("Named",v0),("Beside",i6),("Above",j4),("Across",i5),("Down",l6),("Turned",i7),("Dyed",l7)] "text" (m1 (A5 ["Across","Down","Turned","Dyed"] "part") (a9 0)) b8)) (mC (.str ")"))))
def P0(j4 i5 i6 l6 l7 i7 R_written_parts:List PV->Option g6):M:=
 (O3 [("Plain",v4),("Named",v0),("Beside",i6),("Above",j4),("Across",i5),("Down",l6),("Turned",i7),("Dyed",l7)] "text" (a9 1) b8)
def a04(j4 i5 i6 l6 l7 i7 R_written_parts:List PV->Option g6):MS:=
 (l9 (m2 a19 (mC (.str ", ")) (F9 1 (w6 (a9 0)) (u3 1) P8 (P0 j4 i5 i6 l6 l7 i7 R_written_parts))))
def d4:Nat->(List PV->Option g6)×(List PV->Option g6)×(List PV->Option g6)×(List PV->Option g6)×(List PV->Option g6)×(List PV->Option g6)×(List PV->Option g6)
 |0=>(n6 0 (fun _=>none),n6 0 (fun _=>none),n6 0 (fun _=>none),n6 0 (fun _=>none),n6 0 (fun _=>none),n6 0 (fun _=>none),n6 0 (fun _=>none))
 |n+1=>(n6 0 (a28 ((d4 n).1) ((d4 n).2.1) ((d4 n).2.2.1) ((d4 n).2.2.2.1) ((d4 n).2.2.2.2.1) ((d4 n).2.2.2.2.2.1) ((d4 n).2.2.2.2.2.2)),n6 0 (a2r ((d4 n).1) ((d4 n).2.1) ((d4 n).2.2.1) ((d4 n).2.2.2.1) ((d4 n).2.2.2.2.1) ((d4 n).2.2.2.2.2.1) ((d4 n).2.2.2.2.2.2)),n6 0 (a2s ((d4 n).1) ((d4 n).2.1) ((d4 n).2.2.1) ((d4 n).2.2.2.1) ((d4 n).2.2.2.2.1) ((d4 n).2.2.2.2.2.1) ((d4 n).2.2.2.2.2.2)),n6 0 (a4d ((d4 n).1) ((d4 n).2.1) ((d4 n).2.2.1) ((d4 n).2.2.2.1) ((d4 n).2.2.2.2.1) ((d4 n).2.2.2.2.2.1) ((d4 n).2.2.2.2.2.2)),n6 0 (a4e ((d4 n).1) ((d4 n).2.1) ((d4 n).2.2.1) ((d4 n).2.2.2.1) ((d4 n).2.2.2.2.1) ((d4 n).2.2.2.2.2.1) ((d4 n).2.2.2.2.2.2)),n6 0 (a2t ((d4 n).1) ((d4 n).2.1) ((d4 n).2.2.1) ((d4 n).2.2.2.1) ((d4 n).2.2.2.2.1) ((d4 n).2.2.2.2.2.1) ((d4 n).2.2.2.2.2.2)),n6 0 (a04 ((d4 n).1) ((d4 n).2.1) ((d4 n).2.2.1) ((d4 n).2.2.2.1) ((d4 n).2.2.2.2.1) ((d4 n).2.2.2.2.2.1) ((d4 n).2.2.2.2.2.2)))
def a2y(n:Nat):List PV->Option g6:=(d4 n).1
def Y8:List PV->Option g6:=a2y 20
def a1K(n:Nat):List PV->Option g6:=(d4 n).2.1
def U7:List PV->Option g6:=a1K 20
def a1L(n:Nat):List PV->Option g6:=(d4 n).2.2.1
def U8:List PV->Option g6:=a1L 20
def a3n(n:Nat):List PV->Option g6:=(d4 n).2.2.2.1
def a0V:List PV->Option g6:=a3n 20
def a3o(n:Nat):List PV->Option g6:=(d4 n).2.2.2.2.1
def a0W:List PV->Option g6:=a3o 20
def a1M(n:Nat):List PV->Option g6:=(d4 n).2.2.2.2.2.1
def U9:List PV->Option g6:=a1M 20
def a0j(n:Nat):List PV->Option g6:=(d4 n).2.2.2.2.2.2
def P7(A3:List PV->Option g6):M:=
 (O3 [("Plain",A3),("Named",A3),("Beside",A3),("Above",A3),("Across",A3),("Down",A3),("Turned",A3),("Dyed",A3)] "deep" (a9 1) b8)
def a6z(A3:List PV->Option g6):MS:=
 (l9 (m2 v6 (mC (.int 1)) (m1 a5I (F9 1 (w6 (O3 [("Plain",x8),("Named",x8),("Beside",E9),("Above",J4),("Across",E8),("Down",L5),("Turned",F8),("Dyed",L6)] "inner" (a9 0) b8)) (u3 1) P8 (P7 A3)))))
def a5M:Nat->(List PV->Option g6)
 |0=>(n6 0 (fun _=>none))
 |n+1=>(n6 0 (a6z ((a5M n))))
def p8(n:Nat):List PV->Option g6:=(a5M n)
def E3:List PV->Option g6:=p8 12
def a4j:MS:=
 (j5 (z6 1 (m4 a59 (a0 (a9 0) b8)))
 (j5 (z6 2 (m4 W0 (a0 (a9 0) b8)))
 (j5 (u6 (Q9 (A6 (m2 gNe (O3 [("Plain",v4),("Named",v0),("Beside",U8),("Above",Y8),("Across",U7),("Down",a0V),("Turned",U9),("Dyed",a0W)] "text" (a9 1) b8) (a9 2))) (A6 (m2 gNe (O3 [("Plain",E3),("Named",E3),("Beside",E3),("Above",E3),("Across",E3),("Down",E3),("Turned",E3),("Dyed",E3)] "deep" (a9 1) b8) (m4 a58 (a0 (a9 0) b8))))) (l9 (mC (.bool false))) m7)
 (j5 (z6 3 (O3 [("Plain",r8),("Named",C5),("Beside",r8),("Above",r8),("Across",r8),("Down",r8),("Turned",r8),("Dyed",r8)] "names" (a9 1) b8))
 (j5 (z6 4 (m1 a8Z (m4 Y9 (a0 (a9 0) b8))))
 (j5 (u6 (Q9 (G5 (mtV (m1 (a1n "list") (a9 3)))) (A6 (m2 gNe (a9 3) (a9 4)))) (l9 (mC (.bool false))) m7)
 (j5 (a2e 3 (mC (.str "a")))
 (j5 (z6 5 (m4 Z1 (a0 (a9 2) b8)))
 (j5 (u6 (Q9 (A6 (m2 gNe (O3 [("Plain",r8),("Named",C5),("Beside",r8),("Above",r8),("Across",r8),("Down",r8),("Turned",r8),("Dyed",r8)] "names" (a9 1) b8) (a9 4))) (G5 (mtV (m4 a80 (a0 (a9 5) (a0 (a9 0) b8)))))) (l9 (mC (.bool false))) m7)
 (l9 (m2 M1 (O3 [("Plain",v4),("Named",v0),("Beside",U8),("Above",Y8),("Across",U7),("Down",a0V),("Turned",U9),("Dyed",a0W)] "text" (a9 5) b8) (a9 2))))))))))))
def a0X:List PV->Option g6:=n6 5 a4j
def Z3:MS:=
 (j5 (z6 7 (m2 (O6 (fun _ j=>0<j) fun i j=> .int (i % j)) (m2 B1 (a9 0) (m2 v6 (m2 v6 (m2 B1 (mC (.int 2)) (a9 4)) (m2 B1 (mC (.int 3)) (a9 6))) (mC (.int 69621)))) (mC (.int 1000003))))
 (z6 5 (m2 v6 (a9 5) (m2 v9 (a9 2) (m2 (O6 (fun _ j=>0<j) fun i j=> .int (i % j)) (a9 7) (m1 N8 (a9 2)))))))
def Z4:MS:=
 (j5 (z6 5 (mC (.str "")))
 (j5 (a5v (a4E (a0 (a9 3) b8)) (u3 6) Z3)
 (a2e 1 (a9 5))))
def a4i:MS:=
 (j5 (z6 1 (O2 b8))
 (j5 (z6 2 (R9 (mC (.str "abcdefghijklmnopqrstuvwxyz")) a4F (K0 (m2 v9 (O2 (a0 (mC (.int 2)) (a0 (mC (.int 4)) (a0 (mC (.int 26)) b8)))) (m2 (O6 (fun _ j=>0<j) fun i j=> .int (i % j)) (a9 0) (mC (.int 3)))))))
 (j5 (z6 3 (m2 v6 (mC (.int 1)) (m2 (O6 (fun _ j=>0<j) fun i j=> .int (i % j)) (m2 (O6 (fun _ j=>0<j) fun i j=> .int (i % j)) (m2 B1 (a9 0) (mC (.int 16807))) (mC (.int 999979))) (mC (.int 3)))))
 (j5 (a5v (a4E (a0 (m2 v6 (mC (.int 1)) (m2 (O6 (fun _ j=>0<j) fun i j=> .int (i % j)) (m2 (O6 (fun _ j=>0<j) fun i j=> .int (i % j)) (m2 B1 (a9 0) (mC (.int 48271))) (mC (.int 999983))) (mC (.int 3)))) b8)) (u3 4) Z4)
 (l9 (A9 (a0 (mC (.str "plain")) (a0 (m1 a08 (a9 1)) b8))))))))
def a2c:List PV->Option g6:=n6 7 a4i
def a1y:MS:=
 (j5 (u6 (a1P (A6 (m2 gNe (a9 1) (O2 b8))) (A6 (m2 a6J (m2 (O6 (fun _ j=>0<j) fun i j=> .int (i % j)) (m2 (O6 (fun _ j=>0<j) fun i j=> .int (i % j)) (m2 B1 (a9 0) (mC (.int 40692))) (mC (.int 999961))) (mC (.int 5))) (mC (.int 3))))) (l9 (A9 (a0 (mC (.str "name")) (a0 (m2 v9 (a9 1) (m2 (O6 (fun _ j=>0<j) fun i j=> .int (i % j)) (m2 (O6 (fun _ j=>0<j) fun i j=> .int (i % j)) (m2 B1 (a9 0) (mC (.int 39373))) (mC (.int 999953))) (m1 N8 (a9 1)))) b8)))) m7)
 (l9 (m4 a2c (a0 (a9 0) b8))))
def a1J:List PV->Option g6:=n6 0 a1y
def a8N:MS:=
 (j5 (z6 3 (m2 (O6 (fun _ j=>0<j) fun i j=> .int (i % j)) (m2 (O6 (fun _ j=>0<j) fun i j=> .int (i % j)) (m2 B1 (a9 0) (mC (.int 62089911))) (mC (.int 999931))) (mC (.int 9))))
 (j5 (z6 4 (m2 v6 (mC (.int 1)) (m2 (O6 (fun _ j=>0<j) fun i j=> .int (i % j)) (m2 (O6 (fun _ j=>0<j) fun i j=> .int (i % j)) (m2 B1 (a9 0) (mC (.int 742938285))) (mC (.int 999959))) (m2 v9 (O2 (a0 (mC (.int 4)) (a0 (mC (.int 24)) b8))) (m1 b4J (m2 M1 (m2 (O6 (fun _ j=>0<j) fun i j=> .int (i % j)) (a9 0) (mC (.int 7))) (mC (.int 1))))))))
 (j5 (z6 5 (mC (.str "abcdefghijklmnopqrstuvwxyz")))
 (j5 (u6 (A6 (m2 M1 (a9 3) (mC (.int 0)))) (j5 (z6 6 (O2 (a0 (mC (.str "turn")) (a0 (mC (.str "half")) (a0 (mC (.str "back")) (a0 (mC (.str "side")) (a0 (mC (.str "flip")) (a0 (mC (.str "cross")) (a0 (mC (.str "other")) b8)))))))))
 (l9 (A9 (a0 (mC (.str "turned")) (a0 (m2 v9 (a9 6) (m2 (O6 (fun _ j=>0<j) fun i j=> .int (i % j)) (a9 0) (mC (.int 7)))) (a0 (a9 1) b8)))))) m7)
 (j5 (u6 (A6 (m2 M1 (a9 3) (mC (.int 1)))) (l9 (A9 (a0 (mC (.str "dye")) (a0 (m2 v9 (a9 5) (m2 (O6 (fun _ j=>0<j) fun i j=> .int (i % j)) (a9 0) (mC (.int 4)))) (a0 (m2 v9 (a9 5) (m2 (O6 (fun _ j=>0<j) fun i j=> .int (i % j)) (m2 (O6 b2K fun i j=> .int (i / j)) (a9 0) (mC (.int 4))) (mC (.int 26)))) (a0 (a9 1) b8)))))) m7)
 (j5 (u6 (A6 (m2 M1 (a9 3) (mC (.int 2)))) (l9 (A9 (a0 (mC (.str "across")) (a0 (a9 4) (a0 (a9 1) b8))))) m7)
 (j5 (u6 (A6 (m2 M1 (a9 3) (mC (.int 3)))) (l9 (A9 (a0 (mC (.str "down")) (a0 (a9 4) (a0 (a9 1) b8))))) m7)
 (j5 (u6 (A6 (m2 M1 (a9 3) (mC (.int 4)))) (l9 (A9 (a0 (mC (.str "beside")) (a0 (O2 (a0 (a9 1) (a0 (a9 2) b8))) b8)))) m7)
 (j5 (u6 (A6 (m2 M1 (a9 3) (mC (.int 5)))) (l9 (A9 (a0 (mC (.str "above")) (a0 (O2 (a0 (a9 1) (a0 (a9 2) b8))) b8)))) m7)
 (j5 (u6 (A6 (m2 M1 (a9 3) (mC (.int 6)))) (l9 (A9 (a0 (mC (.str "beside")) (a0 (O2 (a0 (a9 1) (a0 (A9 (a0 (mC (.str "turned")) (a0 (mC (.str "side")) (a0 (a9 1) b8)))) b8))) b8)))) m7)
 (j5 (u6 (A6 (m2 M1 (a9 3) (mC (.int 7)))) (l9 (A9 (a0 (mC (.str "above")) (a0 (O2 (a0 (a9 1) (a0 (A9 (a0 (mC (.str "turned")) (a0 (mC (.str "flip")) (a0 (a9 1) b8)))) (a0 (a9 1) b8)))) b8)))) m7)
 (l9 (A9 (a0 (mC (.str "beside")) (a0 (R9 (m2 B1 (O2 (a0 (a9 2) (a0 (a9 1) b8))) (mC (.int 3))) a4F (K0 (m2 v6 (mC (.int 2)) (m2 (O6 (fun _ j=>0<j) fun i j=> .int (i % j)) (a9 0) (mC (.int 5)))))) b8)))))))))))))))
def a0i:List PV->Option g6:=n6 4 a8N
def E4:MS:=
 (j5 (u6 (A6 (m2 M1 (a9 0) (mC (.str "beside")))) (j5 (u6 (A6 (m2 gNe (m2 v9 (a9 3) (mC (.int 0))) (m2 v9 (a9 2) (mC (.int 0))))) (l9 (A9 (a0 (mC (.str "misfit")) (a0 (mC (.str "")) b8)))) m7)
 (z6 2 (A9 (a0 (m2 v9 (a9 2) (mC (.int 0))) (a0 (m2 v6 (m2 v9 (a9 2) (mC (.int 1))) (m2 v9 (a9 3) (mC (.int 1)))) b8))))) (j5 (u6 (A6 (m2 gNe (m2 v9 (a9 3) (mC (.int 1))) (m2 v9 (a9 2) (mC (.int 1))))) (l9 (A9 (a0 (mC (.str "misfit")) (a0 (mC (.str "")) b8)))) m7)
 (z6 2 (A9 (a0 (m2 v6 (m2 v9 (a9 2) (mC (.int 0))) (m2 v9 (a9 3) (mC (.int 0)))) (a0 (m2 v9 (a9 2) (mC (.int 1))) b8))))))
 (u6 (A6 (m2 (gI fun i j=> .bool (decide (j<i))) (m1 a4t (a9 2)) (mC (.int 24)))) (l9 (A9 (a0 (mC (.str "wide")) (a0 (mC (.str "")) b8)))) m7))
def a5Z:MS:=
 (j5 (z6 2 (m2 v9 (a9 1) (mC (.int 0))))
 (j5 (a5v (a4C (R9 (a9 1) (K0 (mC (.int 1))) a4F)) (u3 3) E4)
 (a0d 2)))
def a3k:List PV->Option g6:=n6 2 a5Z
def a0A(O7:List PV->Option g6):M:=
 (m4 O7 (a0 (a9 6) (a0 (a9 1) b8)))
def a2C(O7:List PV->Option g6):M:=
 (a9 6)
def a1A(O7:List PV->Option g6):MS:=
 (j5 (z6 2 (m2 v9 (a9 0) (mC (.int 0))))
 (j5 (u6 (A6 (m2 M1 (a9 2) (mC (.str "plain")))) (l9 (A9 (a0 (m1 N8 (m2 v9 (a9 0) (mC (.int 1)))) (a0 (m1 N8 (m2 v9 (m2 v9 (a9 0) (mC (.int 1))) (mC (.int 0)))) b8)))) m7)
 (j5 (u6 (A6 (m2 M1 (a9 2) (mC (.str "name")))) (l9 (b6d 1 (m2 v9 (a9 0) (mC (.int 1))) (A9 (a0 (mC (.str "name")) (a0 (m2 v9 (a9 0) (mC (.int 1))) b8))))) m7)
 (j5 (u6 (Q9 (A6 (m2 M1 (a9 2) (mC (.str "beside")))) (A6 (m2 M1 (a9 2) (mC (.str "above"))))) (j5 (z6 3 (F9 1 (w6 (m2 v9 (a9 0) (mC (.int 1)))) (u3 6) P8 (a0A O7)))
 (j5 (z6 4 (F9 1 (w6 (a9 3)) (u3 6) (mtV (m1 (a1n "str") (m2 v9 (a9 6) (mC (.int 0))))) (a2C O7)))
 (j5 (u6 (A6 (m2 gNe (a9 4) (O2 b8))) (l9 (m2 v9 (a9 4) (mC (.int 0)))) m7)
 (b43 3 (l9 (m4 a3k (a0 (a9 2) (a0 (a9 3) b8)))))))) m7)
 (j5 (z6 5 (m4 O7 (a0 (m2 v9 (a9 0) (c2R (mC (.int 1)))) (a0 (a9 1) b8))))
 (j5 (u6 (Q9 (mtV (m1 (a1n "str") (m2 v9 (a9 5) (mC (.int 0))))) (A6 (m2 M1 (a9 2) (mC (.str "dye"))))) (a0d 5) m7)
 (j5 (u6 (A6 (m2 M1 (a9 2) (mC (.str "turned")))) (j5 (u6 (A6 (m2 (a12 false) (m2 v9 (a9 0) (mC (.int 1))) (O2 (a0 (mC (.str "turn")) (a0 (mC (.str "back")) (a0 (mC (.str "cross")) (a0 (mC (.str "other")) b8))))))) (l9 (A9 (a0 (m2 v9 (a9 5) (mC (.int 1))) (a0 (m2 v9 (a9 5) (mC (.int 0))) b8)))) m7)
 (a0d 5)) m7)
 (j5 (u6 (A6 (m2 M1 (a9 2) (mC (.str "across")))) (z6 5 (A9 (a0 (m2 v9 (a9 5) (mC (.int 0))) (a0 (m2 B1 (m2 v9 (a9 5) (mC (.int 1))) (m2 v9 (a9 0) (mC (.int 1)))) b8)))) (z6 5 (A9 (a0 (m2 B1 (m2 v9 (a9 5) (mC (.int 0))) (m2 v9 (a9 0) (mC (.int 1)))) (a0 (m2 v9 (a9 5) (mC (.int 1))) b8)))))
 (j5 (u6 (A6 (m2 (gI fun i j=> .bool (decide (j<i))) (m1 a4t (a9 5)) (mC (.int 24)))) (l9 (A9 (a0 (mC (.str "wide")) (a0 (mC (.str "")) b8)))) m7)
 (a0d 5))))))))))
def a72:Nat->(List PV->Option g6)
 |0=>(n6 4 (fun _=>none))
 |n+1=>(n6 4 (a1A ((a72 n))))
def a4w(n:Nat):List PV->Option g6:=(a72 n)
def a3l:List PV->Option g6:=a4w 12
def R8:MS:=
 (j5 (z6 6 (m2 (O6 (fun _ j=>0<j) fun i j=> .int (i % j)) (m2 B1 (a9 0) (m2 v6 (m2 B1 (mC (.int 2)) (a9 5)) (mC (.int 39373)))) (mC (.int 2147483629))))
 (j5 (z6 7 (m4 a0i (a0 (a9 6) (a0 (a9 4) (a0 (m4 a1J (a0 (m2 v6 (m2 B1 (a9 6) (mC (.int 7))) (mC (.int 1))) (a0 (a9 2) b8))) b8)))))
 (j5 (z6 8 (m4 a3l (a0 (a9 7) (a0 (a9 1) b8))))
 (j5 (z6 9 (a6P (b8z (m1 (a1n "str") (m2 v9 (a9 8) (mC (.int 0))))) (m2 Y7 (m1 a4t (a9 8)) (a9 3))))
 (u6 (a1P (Q9 (mtV (a9 9)) (A6 (m2 M1 (a9 3) (mC (.int 0))))) (A6 (m2 a6J (m1 N8 (m4 W0 (a0 (a9 7) b8))) (mC (.int 381))))) (z6 4 (a9 7)) m7)))))
def a4g:MS:=
 (j5 (z6 4 (m4 a1J (a0 (a9 0) (a0 (a9 2) b8))))
 (j5 (u6 (a1P (A6 (m2 (gI fun i j=> .bool (decide (j<i))) (a9 3) (mC (.int 0)))) (mtV (m1 (a1n "str") (m2 v9 (m4 a3l (a0 (a9 4) (a0 (a9 1) b8))) (mC (.int 0)))))) (z6 4 (m4 a2c (a0 (a9 0) b8))) m7)
 (j5 (a5v (a4E (a0 (m2 (O6 (fun _ j=>0<j) fun i j=> .int (i % j)) (m2 (O6 (fun _ j=>0<j) fun i j=> .int (i % j)) (m2 B1 (a9 0) (mC (.int 69621))) (mC (.int 1000003))) (mC (.int 4))) b8)) (u3 5) R8)
 (a0d 4))))
def a2a:List PV->Option g6:=n6 6 a4g
def b2W:MS:=
 (l9 (O2 (a0 (mC (.str "k")) (a0 (mC (.str "stay")) (a0 (mC (.str "let")) (a0 (mC (.str "knots")) (a0 (mC (.str "zz")) b8)))))))
def a2b:List PV->Option g6:=n6 0 b2W
def a6N:MS:=
 (j5 (z6 2 (m4 Z0 (a0 (m2 v9 (a9 0) (a9 1)) (a0 (a9 1) b8))))
 (u6 (G5 (mtV (m4 a0X (a0 (m4 a2a (a0 (a9 2) (a0 b42 (a0 (fun _=>a2b []) (a0 (mC (.int 0)) b8))))) b8)))) (l9 (mC (.bool false))) m7))
def b7K:MS:=
 (j5 (a5v (a4E (a0 (m2 (gI fun i j=> .int (if j<i then j else i)) (m1 N8 (a9 0)) (mC (.int 30))) b8)) (u3 1) a6N)
 (l9 (a6P (m4 a0X (a0 (A9 (a0 (mC (.str "name")) (a0 (mC (.str "stay")) b8))) b8)) (m4 a0X (a0 (A9 (a0 (mC (.str "plain")) (a0 (A9 (a0 (mC (.str "a")) b8)) b8))) b8)))))
def c1L:List PV->Option g6:=n6 2 b7K
end LW
set_option maxHeartbeats 1000000
namespace LW
open PySem PySem.Spec PyProof.Rows L2 PU
def c0i(hl:l.length=m)(hm:m<=10000)(h0:0<=j)(h1:j<m):v9 (.val (row l)) (.val (.int j))=some (.val (row [l.getD j.toNat 0])):=by
 have hk:j.toNat<l.length:=by lia
 refine c1K (by lia) ?_
 rw [b7J h0,Az hk]
 simp [List.getD,hk]
def c11:a1v= .int 24:=rfl
def a_S:AC "a"=S [97]:=by decide+kernel
def z_S:AC "z"=S [122]:=by decide+kernel
def b56(z:Str):a4z "str" (.str z)=true:=rfl
def b4K(h:l.length<=16777216):N8 (.val (row l))=some (.val (.int l.length)):=by
 show(if(S l).length<=AL then some (g6.val (.int (S l).length)) else none)=_
 rw [if_pos (by rw [a0M,sizeLine_eq];exact h),a0M]
def J6(c:Nat):Bool:=decide (97<=c)&& decide (c<=122)
def rOk(l:List Nat):Bool:=decide (1<=l.length)&&(decide (l.length<=24)&& l.all J6)
def a1R:PV->Bool
 | .str z=>rOk z.cps.toList
 |_=>false
def b8x(a b:Nat):decide ([a]<[b])=decide (a<b):=by
 rw [decide_eq_decide,List.cons_lt_cons_iff]
 simp
def b8o(h:l.length<=16777216):a4u [row l]=some (.val (.bool (rOk l))):=by
 unfold a4u b2V
 have hc:F9 1 (a9e (a9 0)) (u3 1) P8 a4B [some (.val (row l))]=some (.own (l.map fun c=> .bool (J6 c))):=by
  refine T2 (ι:=fun c=> .str (S [c])) l (b8A rfl) h fun c _=>⟨_,rfl, ?_⟩
  unfold a4B J6
  simp (disch:=omega) only [l8,j9,i3,n4,AH,AX,AO,AY,Aa,Af,Ag,a_S,z_S,b78,b8x]
  by_cases h1:97<=c
  ·rw [decide_eq_false (show ¬c<97 by lia),decide_eq_true h1]
   simp (disch:=omega) only [a0P,j9,e8,AH,Bool.not_false,Bool.true_and,b78,b8x]
   by_cases h2:c<=122
   ·rw [decide_eq_false (show ¬122<c by lia),decide_eq_true h2];rfl
   ·rw [decide_eq_true (show 122<c by lia),decide_eq_false h2];rfl
  ·rw [decide_eq_true (show c<97 by lia),decide_eq_false h1]
   rfl
 have ha:(l.map fun c=>PyData.bool (J6 c))=(l.map J6).map .bool:=by rw [BA];rfl
 have ha2:(l.map J6).all id=l.all J6:=by rw [List.all_map];rfl
 unfold rOk
 simp (disch:=omega) only [M5,l8,B9,j9,i3,j1,j7,i8,A7,m6,O4,t8,t6,K4,a6I,AH,Ai,AK,AN,AO,Aj,Bool.not_true,b3h,b5G,b56,b4K h,c11]
 by_cases h1:1<=l.length
 ·rw [decide_eq_true (show(1:Int)<=(l.length:Int) by lia),decide_eq_true h1]
  simp (disch:=omega) only [M5,a0P,j9,t7,AH,Ai]
  by_cases h2:l.length<=24
  ·rw [decide_eq_true (show(l.length:Int)<=24 by lia),decide_eq_true h2]
   simp (disch:=omega) only [B9,i4,o8,o9,D8,o0,k9,AH,Bool.not_true,hc,ha,a56,ha2,Bool.true_and]
  ·rw [decide_eq_false (show ¬(l.length:Int)<=24 by lia),decide_eq_false h2]
   simp (disch:=omega) only [j9,i4,o8,u5,C2,k9,AH,Bool.not_false,Bool.false_and,Bool.and_false]
 ·rw [decide_eq_false (show ¬(1:Int)<=(l.length:Int) by lia),decide_eq_false h1]
  simp (disch:=omega) only [b0M,j9,i4,o8,u5,C2,k9,t7,AH,Ai,Bool.not_false,Bool.false_and]
def c10(p:PV):Prop:=∃l,p=row l/\l.length<=16777216
def b9j(p:PV):(∃l,p=row l)\/(a4z "str" p=false/\a1R p=false):=by
 cases p with
 |str z=>exact .inl ⟨z.cps.toList,by rw [row,c1E]⟩
 |_=>exact .inr ⟨rfl,rfl⟩
def b2A(l:List Nat):a1R (row l)=rOk l:=by show rOk (S l).cps.toList=_;rw [a3P]
def b6P(h:c10 p):a4u [p]=some (.val (.bool (a1R p))):=by
 obtain⟨l,rfl,hl⟩:=h
 rw [b8o hl,b2A]
def a2D:PV->Nat
 | .str z=>z.length
 |_=>0
def b4W(l:List Nat):a2D (row l)=l.length:=a0M l
def b1p(h:a1R p=true):∃l,p=row l/\l.length<=16777216:=by
 rcases b9j p with⟨l,rfl⟩|⟨h1,h2⟩
 ·refine⟨l,rfl, ?_⟩
  rw [b2A] at h
  unfold rOk at h
  simp only [Bool.and_eq_true,decide_eq_true_eq] at h
  lia
 ·rw [h2] at h;cases h
def b1P:List PV->Bool
 |[]=>false
 |p::ps=>decide ((p::ps).length<=24)&&((p::ps).all a1R &&(p::ps).all fun q=>a2D q==a2D p)
def b3k(hs:ps.length<=16777216)(h:∀p∈ps,c10 p):a3j [.tuple ps]=some (.val (.bool (b1P ps))):=by
 unfold a3j a8L
 cases ps with
 |nil=>
  simp (disch:=omega) only [M5,l8,a8X,B9,j9,i3,j1,j7,i8,A7,m6,O4,t8,t6,K4,a6I,AH,Ai,AK,AN,AO,Aj,Ae,Bool.not_true,Int.cast_ofNat_Int,a8s,b3i,b5G,a8s,c11,show decide ((1:Int)<=((0:Nat):Int))=false from rfl]
  rfl
 |cons p0 ps=>
  have hc:F9 1 (w6 (a9 0)) (u3 1) P8 a2A [some (.val (.tuple (p0::ps)))]=some (.own ((p0::ps).map fun p=> .bool (a1R p))):=by
   refine T2 (ι:=fun p=>p) (p0::ps) (by rw [a7X (r:= .val (.tuple (p0::ps))) (ps:=p0::ps) rfl rfl,List.map_id']) hs fun p hp=>⟨_,rfl, ?_⟩
   unfold a2A
   simp (disch:=omega) only [i3,n4,f9,d8,e8,i9,AH,AX,AO,AY,Aa,Af,Ag,b6P (h p hp)]
  have ha:((p0::ps).map fun p=>PyData.bool (a1R p))=((p0::ps).map a1R).map .bool:=by rw [BA];rfl
  have ha2:((p0::ps).map a1R).all id=(p0::ps).all a1R:=by rw [List.all_map];rfl
  have hk:b1P (p0::ps)=(decide ((p0::ps).length<=24)&&((p0::ps).all a1R &&(p0::ps).all fun q=>a2D q==a2D p0)):=rfl
  generalize hP:p0::ps=P at*
  rw [hk]
  simp (disch:=omega) only [M5,l8,a8X,B9,j9,i3,j1,j7,i8,A7,m6,O4,t8,t6,K4,a6I,AH,Ai,AK,AN,AO,Aj,Bool.not_true,a8s,b3i,b5G,a8s,c11,a8X]
  have hl:1<=P.length:=by rw [<-hP];simp
  rw [decide_eq_true (show(1:Int)<=(P.length:Int) by lia)]
  simp (disch:=omega) only [M5,a0P,j9,t7,AH,Ai]
  by_cases h2:P.length<=24
  ·rw [decide_eq_true (show(P.length:Int)<=24 by lia),decide_eq_true h2]
   simp (disch:=omega) only [B9,j1,o9,j7,D8,o0,A7,O4,t8,AH,Ai,Bool.not_true,hc,ha,a56,ha2,Bool.true_and]
   cases hr:P.all a1R with
   |false=>simp (disch:=omega) only [j9,i4,o8,u5,C2,k9,AH,Bool.not_false,Bool.false_and]
   |true=>
    have hrow:∀p∈P,a1R p=true:=fun p hp=>List.all_eq_true.mp hr p hp
    obtain⟨l0,e0,hl0⟩:=b1p (hrow p0 (by rw [<-hP];exact Ab))
    have hix:v9 (.val (.tuple P)) (.val (.int 0))=some (.val (row l0)):=by rw [<-hP,b77,e0]
    have hc2:F9 1 (w6 (a9 0)) (u3 1) P8 a2B [some (.val (.tuple P))]=some (.own (P.map fun p=> .bool (a2D p==a2D p0))):=by
     refine T2 (ι:=fun p=>p) P (by rw [a7X (r:= .val (.tuple P)) (ps:=P) rfl rfl,List.map_id']) hs fun p hp=>⟨_,rfl, ?_⟩
     obtain⟨l,rfl,hl⟩:=b1p (hrow p hp)
     unfold a2B
     simp (disch:=omega) only [m9,B9,j9,i3,n4,e8,AH,AX,AO,AY,Aa,Af,Ag,b0U,b4K hl,hix,b4K hl0,e0,b4W]
     have:((l.length:Int)==(l0.length:Int))=(l.length==l0.length):=by rw [Bool.eq_iff_iff,beq_iff_eq,beq_iff_eq];lia
     rw [this]
    have hb:(P.map fun p=>PyData.bool (a2D p==a2D p0))=(P.map fun p=>a2D p==a2D p0).map .bool:=by rw [BA];rfl
    have hb2:(P.map fun p=>a2D p==a2D p0).all id=P.all fun p=>a2D p==a2D p0:=by rw [List.all_map];rfl
    simp (disch:=omega) only [B9,i4,o8,o9,D8,o0,k9,AH,Bool.not_true,hc2,hb,a56,hb2,Bool.true_and]
  ·rw [decide_eq_false (show ¬(P.length:Int)<=24 by lia),decide_eq_false h2]
   simp (disch:=omega) only [j9,i4,o8,u5,C2,k9,AH,Bool.not_false,Bool.false_and]
theorem b23:∀{a b u v:List Nat},c∉a->c∉b->a++c::u=b++c::v->a=b/\u=v
 |[],[],u,v,_,_,h=>by simpa using h
 |[],y::b,u,v,_,hb,h=>by
  simp only [Aa,AY,List.cons.injEq] at h
  exact absurd (by rw [h.1];exact Ab) hb
 |x::a,[],u,v,ha,_,h=>by
  simp only [Aa,AY,List.cons.injEq] at h
  exact absurd (by rw [h.1];exact Ab) ha
 |x::a,y::b,u,v,ha,hb,h=>by
  simp only [AY,List.cons.injEq] at h
  obtain⟨e1,e2⟩:=b23 (fun z=>ha (Ah _ z)) (fun z=>hb (Ah _ z)) h.2
  exact⟨by rw [h.1,e1],e2⟩
def a0Z(c:Nat)(a b:List Nat)(r:List (List Nat)):z7 [c] (a::b::r)=a++c::z7 [c] (b::r):=by
 show a++[c]++z7 [c] (b::r)=_
 simp
theorem a81:∀{A B:List (List Nat)},A≠[]->B≠[]->(∀p∈A,c∉p)->(∀p∈B,c∉p)->z7 [c] A=z7 [c] B->A=B
 |[],_,h,_,_,_,_=>absurd rfl h
 |_,[],_,h,_,_,_=>absurd rfl h
 |[a],[b],_,_,_,_,h=>by
  have h:a=b:=h
  rw [h]
 |[a],b::b'::r,_,_,ha,_,h=>by
  rw [a0Z] at h
  have h:a=b++c::z7 [c] (b'::r):=h
  exact absurd (by rw [h];simp) (ha a Ab)
 |a::a'::r,[b],_,_,_,hb,h=>by
  rw [a0Z] at h
  have h:a++c::z7 [c] (a'::r)=b:=h
  exact absurd (by rw [<-h];simp) (hb b Ab)
 |a::a'::r,b::b'::t,_,_,ha,hb,h=>by
  rw [a0Z,a0Z] at h
  obtain⟨e1,e2⟩:=b23 (ha a Ab) (hb b Ab) h
  have:=a81 (A:=a'::r) (B:=b'::t) (by simp) (by simp) (fun p hp=>ha p (Ah _ hp)) (fun p hp=>hb p (Ah _ hp)) e2
  rw [e1,this]
def b5w(h0:R≠[])(h1:∀p∈R,c∉p)(h2:z7 [c] R=l):Txt.split (S l) (S [c])=R.map S:=by
 have f:=StrLaws.split_free (S l) c
 have j:=StrLaws.join_split (S l) (S [c])
 rw [show(⟨#[c]⟩:Str)=S [c] from rfl] at f
 generalize hT:Txt.split (S l) (S [c])=T at f j
 have e:T=(T.map fun z=>z.cps.toList).map S:=by
  rw [BA]
  conv=>lhs;rw [<-List.map_id T]
  refine List.map_congr_left fun z _=> ?_
  exact(c1E z).symm
 have hT0:T≠[]:=by
  intro z
  rw [<-hT] at z
  unfold Txt.split at z
  split at z
  ·cases z
  ·split at z
   ·cases z
   ·rw [StrLaws.partsBetween_eq] at z
    obtain⟨p,r,q⟩:=StrLaws.partsFrom_ne (S l) (S [c]).length 0 (Builtin.Str.occurrences (S l) (S [c]) 0 (S l).length ((S l).length+1))
    rw [q] at z;cases z
 rw [e] at j
 have j2:S (z7 [c] (T.map fun z=>z.cps.toList))=S l:=by
  rw [<-b8p]
  show Builtin.Str.glued _ _=_
  rw [StrLaws.glued_eq_join]
  exact j
 have j3:=b7E j2
 rw [<-h2] at j3
 have:=a81 (c:=c) (A:=T.map fun z=>z.cps.toList) (B:=R) (by simpa using hT0) h0 (fun p hp=>by
  obtain⟨z,hz,rfl⟩:=Au.mp hp
  exact f z hz) h1 j3
 rw [e,this]
def b2D:AC "/"=S [47]:=by decide+kernel
theorem a6K(c:Nat):∀R:List (List Nat),R≠[]->(z7 [c] R).length+1=(R.map (·.length)).sum+R.length
 |[],h=>absurd rfl h
 |[a],_=>by simp [z7]
 |a::b::r,_=>by
  have:=a6K c (b::r) (by simp)
  rw [a0Z]
  simp only [AQ,AM,AK,List.sum_cons] at this ⊢
  lia
def c0L{R:List (List Nat)}{p:List Nat}(h:p∈R):p.length<=(R.map (·.length)).sum:=by
 induction R with
 |nil=>cases h
 |cons a r ih=>
  rw [AK,List.sum_cons]
  rcases AZ.mp h with rfl|h
  ·lia
  ·have:=ih h;lia
def okR(r0 l:List Nat):Bool:=(l.length==r0.length)&& l.all J6
def a6e:List (List Nat)->Bool
 |[]=>false
 |r0::R=>decide ((r0::R).length<=24)&&(rOk r0 &&(r0::R).all (okR r0))
def b9P(n:MX):FX->Option FX
 | .fl (.nx ρ)=>n ρ
 |f=>some f
def c3M(m n:MX)(ρ:e9)(b:Bool):Option FX:=if b=true then m ρ else n ρ
def b9r:FX->Option (g6 ⊕ Str)
 | .fl (.rt r)=>some (.inl r)
 | .fl (.nx _)=>some (.inl (.val .none))
 | .rz c _=>some (.inr c)
 |_=>none
def b68(m n:MX)(ρ:e9):b3y m n ρ=(m ρ).bind (b9P n):=Eq.trans rfl rfl
def b4e(n:MX)(ρ:e9):b9P n (.fl (.nx ρ))=n ρ:=Eq.trans rfl rfl
def b9Q(n:MX)(c:Str)(ρ:e9):b9P n (.rz c ρ)=some (.rz c ρ):=Eq.trans rfl rfl
def b8E(c:MT)(m n:MX)(ρ:e9):c0T c m n ρ=(c ρ).bind (c3M m n ρ):=Eq.trans rfl rfl
def c3N(m n:MX)(ρ:e9):c3M m n ρ true=m ρ:=Eq.trans rfl rfl
def b9O(m n:MX)(ρ:e9):c3M m n ρ false=n ρ:=Eq.trans rfl rfl
def b3z(m:MS)(ρ:e9):a9i m ρ=(m ρ).map .fl:=Eq.trans rfl rfl
def b8G(c:Str)(p:PV)(ρ:e9):b8F c (a0 (mC p) b8) ρ=some (.rz c ρ):=by
 unfold b8F
 simp (disch:=omega) only [j9,f9,d8,e8,AH,AM,Ae,↓reduceIte,sz,Nat.reduceAdd,Ay]
def b9u(n:Nat)(b:MX)(ps:List PV):b9q n b ps=(b (ps.map (fun p=>some (g6.val p))++AV n none)).bind b9r:=Eq.trans rfl rfl
def b9s(r:g6):b9r (.fl (.rt r))=some (.inl r):=Eq.trans rfl rfl
def b9t(c:Str)(ρ:e9):b9r (.rz c ρ)=some (.inr c):=Eq.trans rfl rfl
def c0R(h1:m ρ=some ps)(h2:g ps=some (.inl (.val p))):a6S i g m ρ=some (.fl (.nx (ρ.set i (some (.val p))))):=by
 unfold a6S b5H
 rw [h1,AH,h2]
 rfl
def c0S(h1:m ρ=some ps)(h2:g ps=some (.inr c)):a6S i g m ρ=some (.rz c ρ):=by
 unfold a6S b5H
 rw [h1,AH,h2]
 rfl
def c0G(h:b ρ=some (.rz c ρ'))(hc:inm c=true):b44 b inm hd ρ=hd ρ':=by
 unfold b44
 rw [h,AH]
 exact if_pos hc
abbrev nc:Str:=AC "NoCloth"
def c3Y:b1P (R.map row)=a6e R:=by
 cases R with
 |nil=>rfl
 |cons r0 R=>
  show(decide (((r0::R).map row).length<=24)&&(((r0::R).map row).all a1R &&((r0::R).map row).all fun q=>a2D q==a2D (row r0)))=(decide ((r0::R).length<=24)&&(rOk r0 &&(r0::R).all (okR r0)))
  rw [Ak,List.all_map,List.all_map]
  congr 1
  have e1:(a1R∘row)=rOk:=by funext l;exact b2A l
  have e2:((fun q=>a2D q==a2D (row r0))∘row)=fun l:List Nat=>l.length==r0.length:=by
   funext l
   show(a2D (row l)==a2D (row r0))=_
   rw [b4W,b4W]
  rw [e1,e2,Bool.eq_iff_iff]
  simp only [Bool.and_eq_true,List.all_eq_true]
  constructor
  ·rintro⟨h1,h2⟩
   refine⟨h1 r0 Ab,fun l hl=> ?_⟩
   have:=h1 l hl
   unfold rOk at this
   unfold okR
   simp only [Bool.and_eq_true] at this ⊢
   exact⟨h2 l hl,this.2.2⟩
  ·rintro⟨h1,h2⟩
   refine⟨fun l hl=> ?_,fun l hl=> ?_⟩
   ·have:=h2 l hl
    unfold okR at this
    unfold rOk at h1 ⊢
    simp only [Bool.and_eq_true,decide_eq_true_eq,beq_iff_eq] at this h1 ⊢
    exact⟨by lia,by lia,this.2⟩
   ·have:=h2 l hl
    unfold okR at this
    simp only [Bool.and_eq_true] at this
    exact this.1
def c1j{l:List Nat}{R:List (List Nat)}(hl:l.length<=10000)(h0:R≠[])(h1:∀p∈R,47∉p)(h2:z7 [47] R=l):S8 [row l]=some (if a6e R=true then .inl (.val (.tuple (R.map row))) else .inr nc):=by
 have hlen:=a6K 47 R h0
 rw [h2] at hlen
 have hsz:∀p∈R.map row,c10 p:=fun p hp=>by
  obtain⟨k,hk,rfl⟩:=Au.mp hp
  have:=c0L hk
  have:0<R.length:=List.length_pos_iff.mpr h0
  exact⟨k,rfl,by lia⟩
 have hs:a7l (.val (row l)) (.val (.str (S [47])))=some (.own (R.map row)):=by
  show(if(((S [47]).length==0)=false/\(S l).length<=AL/\(Txt.split (S l) (S [47])).length<=AL) then some (g6.own ((Txt.split (S l) (S [47])).map .str)) else none)=_
  rw [b5w h0 h1 h2,if_pos ⟨rfl,by rw [a0M,sizeLine_eq];lia,by rw [Ak,sizeLine_eq];lia⟩,BA]
  rfl
 have hc:=b3k (ps:=R.map row) (by rw [Ak];lia) hsz
 rw [c3Y] at hc
 unfold S8 a6B
 simp (disch:=omega) only [m9,B9,j9,i3,n4,f9,d8,e8,i9,r9,y6,o0,A7,O4,t8,a6I,AH,Ai,AK,AN,AX,AO,AY,Aa,Af,Ag,Bool.not_true,b4N,b3h,b5G,b9u,b68,b8E,b56,b9O,b3z,b4e,b2D,hs,hc]
 cases a6e R with
 |true=>simp (disch:=omega) only [o0,AH,Ai,↓reduceIte,Bool.not_true,a6Q,a6R,b9O,b3z,b4e,b9s]
 |false=>simp (disch:=omega) only [AH,↓reduceIte,Bool.not_false,BC,c3N,b8G,b9Q,b9t]
def b9C(hl:(z7 [47] R).length<=10000)(h0:R≠[]):V0 [.tuple (R.map row)]=some (.val (row (z7 [47] R))):=by
 have hlen:=a6K 47 R h0
 unfold V0 a5H
 simp (disch:=omega) only [m9,j9,i3,i4,o8,i8,k9,AH,AK,AN,AO,Aj,AM,Ae,b2D,a3i (sep:=[47]) (rows:=R) (y:= .val (.tuple (R.map row))) rfl (by simp only [AM,Ae];lia)]
def c2P(a b:Nat):Y7 (.val (row [a])) (.val (row [b]))=some (.val (.bool (decide (a<=b)))):=by
 show some (g6.val (.bool (!decide ((S [b]).cps.toList<(S [a]).cps.toList))))=_
 rw [a3P,a3P]
 congr 3
 have:([b]<[a])↔b<a:=by rw [List.cons_lt_cons_iff];simp
 by_cases h:a<=b
 ·rw [decide_eq_true h,decide_eq_false (fun z=>by have:=this.mp z;lia)];rfl
 ·rw [decide_eq_false h,decide_eq_true (this.mpr (by lia))];rfl
def a68(hl:(pre++x::r).length<=10000):v9 (.val (row (pre++x::r))) (.val (.int (pre.length:Nat)))=some (.val (row [x])):=by
 refine c1K (by lia) ?_
 rw [b7I,List.getElem?_append_right (AR _),Nat.sub_self]
 rfl
def a0U(h:l.length<=10000):N8 (.val (row l))=some (.val (.int (l.length:Nat))):=by
 show(if(S l).length<=AL then some (g6.val (.int ((S l).length:Nat))) else none)=_
 rw [a0M,if_pos (by rw [sizeLine_eq];lia)]
def a18(a b:List Nat):M1 (.val (row a)) (.val (row b))=some (.val (.bool (a==b))):=by
 have h:=c0n a b
 rw [b4L (x:= .val (row a)) (y:= .val (row b)) ⟨rfl,rfl⟩] at h
 rw [b75 (x:= .val (row a)) (y:= .val (row b)) ⟨rfl,rfl⟩]
 have h:=Option.some.inj h
 injection h with h
 injection h with h
 rw [Bool.not_inj h]
def b93:cut (pre++(ds++post)) (some (pre.length:Nat)) (some ((pre.length+ds.length:Nat):Int))=ds:=by
 unfold cut
 have h1:HT.sIx (pre++(ds++post)).length 0 (some (pre.length:Nat))=pre.length:=by rw [HT.sIx_nat];simp
 have h2:HT.sIx (pre++(ds++post)).length (pre++(ds++post)).length (some ((pre.length+ds.length:Nat):Int))=pre.length+ds.length:=by
  rw [HT.sIx_nat];simp
 rw [h1,h2,List.drop_left,Nat.add_sub_cancel_left,List.take_left]
def b2C(hT:(pre++(ds++post)).length<=10000):gSl (.val (row (pre++(ds++post)))) (some (pre.length:Nat)) (some ((pre.length+ds.length:Nat):Int))=some (.val (row ds)):=by
 show(if(S (pre++(ds++post))).length<=AL then some (g6.val (.str ⟨(cut (S (pre++(ds++post))).cps.toList (some (pre.length:Nat)) (some ((pre.length+ds.length:Nat):Int))).toArray⟩)) else none)=_
 rw [a0M,if_pos (by rw [sizeLine_eq];lia),a3P,b93]
 rfl
def a0n:Q6 (.val (row (pre++s))) (.val (row y)) (.val (.int (pre.length:Nat)))=some (.val (.bool (y.isPrefixOf s))):=by
 show some (g6.val (.bool _))=_
 congr 3
 have f:fromIndex (S (pre++s)).length (pre.length:Nat)=pre.length:=by
  unfold fromIndex
  rw [if_neg (by lia)]
  lia
 rw [f,a0M,a0M]
 unfold Builtin.Str.subAt
 rw [a0M]
 have e:(S (pre++s)).cps.extract pre.length (pre.length+y.length)=(s.take y.length).toArray:=by
  apply Array.ext'
  rw [Array.toList_extract,a3P]
  simp [List.extract]
 rw [e]
 have e2:((s.take y.length).toArray==(S y).cps)=(s.take y.length==y):=by
  show((s.take y.length).toArray==y.toArray)=_
  simp
 rw [e2]
 cases h:y.isPrefixOf s with
 |true=>
  have h:=List.isPrefixOf_iff_prefix.mp h
  obtain⟨t,rfl⟩:=h
  simp
 |false=>
  have h:¬y<+:s:=fun z=>by rw [List.isPrefixOf_iff_prefix.mpr z] at h;cases h
  by_cases hl:pre.length+y.length<=(pre++s).length
  ·rw [decide_eq_true hl,Bool.true_and]
   have:s.take y.length≠y:=fun z=>h (z▸List.take_prefix _ _)
   simpa using this
  ·rw [decide_eq_false hl,Bool.false_and]
def n5(p:Nat->Bool):List Nat->List Nat×List Nat
 |[]=>([],[])
 |x::r=>if p x=true then(x::(n5 p r).1,(n5 p r).2) else([],x::r)
theorem K6(p:Nat->Bool):∀s:List Nat,s=(n5 p s).1++(n5 p s).2
 |[]=>rfl
 |x::r=>by
  unfold n5
  split
  ·rw [AY,<-K6 p r]
  ·rfl
theorem X3(p:Nat->Bool):∀(s:List Nat),∀x∈(n5 p s).1,p x=true
 |[],x,h=>by cases h
 |y::r,x,h=>by
  unfold n5 at h
  split at h
  ·rename_i hy
   rcases AZ.mp h with rfl|h
   ·exact hy
   ·exact X3 p r x h
  ·cases h
theorem a3M(p:Nat->Bool):∀(s:List Nat) (y:Nat) (r:List Nat),(n5 p s).2=y::r->p y=false
 |[],y,r,h=>by cases h
 |x::s,y,r,h=>by
  unfold n5 at h
  split at h
  ·exact a3M p s y r h
  ·rename_i hx
   cases h
   simpa using hx
theorem a9S{lo hi:Nat}{post:List Nat}(hp:∀y r,post=y::r->¬(lo<=y/\y<=hi)){T:List Nat}(hT:T.length<=10000){q1:Option g6}:∀(ds pre:List Nat) (fuel:Nat),T=pre++(ds++post)->(∀x∈ds,lo<=x/\x<=hi)->ds.length<fuel->
 W6 (a1P (A6 (m2 a6J (a9 4) (m1 N8 (a9 0)))) (A6 (W2 Y7 Y7 (a9 2) (m2 v9 (a9 0) (a9 4)) (a9 3)))) a1o fuel [some (.val (row T)),q1,some (.val (row [lo])),some (.val (row [hi])),some (.val (.int (pre.length:Nat)))]
  =some (.nx [some (.val (row T)),q1,some (.val (row [lo])),some (.val (row [hi])),some (.val (.int ((pre.length+ds.length:Nat):Int)))])
 |[],pre,fuel,e,_,hf=>by
  obtain⟨fuel,rfl⟩:∃k,fuel=k+1:=⟨fuel - 1,by have:([]:List Nat).length=0:=rfl;lia⟩
  have gl:=a0U hT
  have c:a1P (A6 (m2 a6J (a9 4) (m1 N8 (a9 0)))) (A6 (W2 Y7 Y7 (a9 2) (m2 v9 (a9 0) (a9 4)) (a9 3))) [some (.val (row T)),q1,some (.val (row [lo])),some (.val (row [hi])),some (.val (.int (pre.length:Nat)))]=some false:=by
   cases post with
   |nil=>
    have hlt:decide ((pre.length:Int)<(T.length:Nat))=false:=decide_eq_false (by rw [e];simp)
    simp (disch:=omega) only [a57,m9,B9,i3,n4,m6,t7,X2,b4w,AH,gl,hlt]
   |cons y r=>
    have hlt:decide ((pre.length:Int)<(T.length:Nat))=true:=decide_eq_true (by rw [e];simp;lia)
    have sa:v9 (.val (row T)) (.val (.int (pre.length:Nat)))=some (.val (row [y])):=by rw [e];exact a68 (by rw [e] at hT;exact hT)
    have hy:=hp y r rfl
    by_cases h1:lo<=y
    ·have h2:decide (y<=hi)=false:=decide_eq_false fun z=>hy ⟨h1,z⟩
     simp (disch:=omega) only [a57,l8,a0P,m9,B9,i3,n4,m6,t7,X2,a8H,AH,gl,hlt,sa,c2P,decide_eq_true h1,h2]
    ·simp (disch:=omega) only [a57,l8,b0M,m9,B9,i3,n4,m6,t7,X2,a8H,AH,gl,hlt,sa,c2P,decide_eq_false h1]
  rw [W6,c,AH,if_neg Ar]
  rfl
 |d::ds,pre,fuel,e,hd,hf=>by
  obtain⟨fuel,rfl⟩:∃k,fuel=k+1:=⟨fuel - 1,by rw [AM] at hf;lia⟩
  rw [AM] at hf
  have gl:=a0U hT
  have e':T=pre++d::(ds++post):=e
  have hlt:decide ((pre.length:Int)<(T.length:Nat))=true:=decide_eq_true (by rw [e'];simp;lia)
  have sa:v9 (.val (row T)) (.val (.int (pre.length:Nat)))=some (.val (row [d])):=by rw [e'];exact a68 (by rw [e'] at hT;exact hT)
  have hd1:=hd d Ab
  have c:a1P (A6 (m2 a6J (a9 4) (m1 N8 (a9 0)))) (A6 (W2 Y7 Y7 (a9 2) (m2 v9 (a9 0) (a9 4)) (a9 3))) [some (.val (row T)),q1,some (.val (row [lo])),some (.val (row [hi])),some (.val (.int (pre.length:Nat)))]=some true:=by
   simp (disch:=omega) only [a57,l8,a0P,m9,B9,i3,n4,m6,t7,X2,a8H,AH,gl,hlt,sa,c2P,decide_eq_true hd1.1,decide_eq_true hd1.2]
  have b:a1o [some (.val (row T)),q1,some (.val (row [lo])),some (.val (row [hi])),some (.val (.int (pre.length:Nat)))]=some (.nx [some (.val (row T)),q1,some (.val (row [lo])),some (.val (row [hi])),some (.val (.int ((pre++[d]).length:Nat)))]):=by
   unfold a1o c0E
   show some _=_
   rw [AQ,List.length_singleton,Int.natCast_add]
   rfl
  have ih:=a9S hp hT (q1:=q1) ds (pre++[d]) fuel (by rw [e];simp) (fun x hx=>hd x (Ah _ hx)) (by lia)
  rw [W6,c,AH,if_pos rfl,b,AH]
  show W6 _ _ fuel _=_
  rw [ih,AQ,List.length_singleton,AM,show pre.length+1+ds.length=pre.length+(ds.length+1) by lia]
def isF(x:Nat):Bool:=decide (48<=x)&& decide (x<=57)
def a8t:J6 x=true↔97<=x/\x<=122:=by unfold J6;simp
def b16:isF x=true↔48<=x/\x<=57:=by unfold isF;simp
def b18{pre s:List Nat}(hT:(pre++s).length<=450):M6 [row (pre++s),.int (pre.length:Nat)]=some (.val (.int ((pre.length+(n5 J6 s).1.length:Nat):Int))):=by
 have ap:=K6 J6 s
 have hlen:(n5 J6 s).1.length<=s.length:=by have:=congrArg List.length ap;rw [AQ] at this;lia
 rw [AQ] at hT
 have e:=a9S (lo:=97) (hi:=122) (post:=(n5 J6 s).2) (fun y r h z=>by have:=a3M J6 s y r h;rw [a8t.mpr z] at this;cases this) (T:=pre++s) (by rw [AQ];lia) (q1:=some (.val (.int (pre.length:Nat)))) (n5 J6 s).1 pre 500 (by rw [<-ap]) (fun x hx=>a8t.mp (X3 J6 s x hx)) (by lia)
 have s0:AC "a"=S [97]:=rfl
 have s9:AC "z"=S [122]:=rfl
 unfold M6 a5G a2U a7f
 rw [s0,s9]
 simp (disch:=omega) only [j9,i3,n4,f9,d8,e8,i9,r9,y6,i4,o8,j1,o9,i8,k9,AH,AK,AN,AX,AO,Aj,AY,Aa,Af,Ag,a6Q,a6R,e]
def b5P{pre s:List Nat}(hT:(pre++s).length<=450):Q0 [row (pre++s),.int (pre.length:Nat)]=some (.val (.int ((pre.length+(n5 isF s).1.length:Nat):Int))):=by
 have ap:=K6 isF s
 have hlen:(n5 isF s).1.length<=s.length:=by have:=congrArg List.length ap;rw [AQ] at this;lia
 rw [AQ] at hT
 have e:=a9S (lo:=48) (hi:=57) (post:=(n5 isF s).2) (fun y r h z=>by have:=a3M isF s y r h;rw [b16.mpr z] at this;cases this) (T:=pre++s) (by rw [AQ];lia) (q1:=some (.val (.int (pre.length:Nat)))) (n5 isF s).1 pre 500 (by rw [<-ap]) (fun x hx=>b16.mp (X3 isF s x hx)) (by lia)
 have s0:AC "0"=S [48]:=rfl
 have s9:AC "9"=S [57]:=rfl
 unfold Q0 a5F a2U a7f
 rw [s0,s9]
 simp (disch:=omega) only [j9,i3,n4,f9,d8,e8,i9,r9,y6,i4,o8,j1,o9,i8,k9,AH,AK,AN,AX,AO,Aj,AY,Aa,Af,Ag,a6Q,a6R,e]
inductive Mo where
 |plain (rows:List (List Nat))|named (w:List Nat)|beside (ps:List Mo)|above (ps:List Mo)|across (k:Nat) (p:Mo)|down (k:Nat) (p:Mo)|turned (w:List Nat) (p:Mo)|dyed (a b:Nat) (p:Mo)
mutual
def v5:Mo->PV
 | .plain rows=>obV (AC "Plain") [(.str (AC "rows"),.tuple (rows.map row))]
 | .named w=>obV (AC "Named") [(.str (AC "name"),row w)]
 | .beside ps=>obV (AC "Beside") [(.str (AC "parts"),.tuple (b5o ps))]
 | .above ps=>obV (AC "Above") [(.str (AC "parts"),.tuple (b5o ps))]
 | .across k p=>obV (AC "Across") [(.str (AC "many"),.int (k:Nat)),(.str (AC "part"),v5 p)]
 | .down k p=>obV (AC "Down") [(.str (AC "many"),.int (k:Nat)),(.str (AC "part"),v5 p)]
 | .turned w p=>obV (AC "Turned") [(.str (AC "way"),row w),(.str (AC "part"),v5 p)]
 | .dyed a b p=>obV (AC "Dyed") [(.str (AC "one"),row [a]),(.str (AC "other"),row [b]),(.str (AC "part"),v5 p)]
def b5o:List Mo->List PV
 |[]=>[]
 |p::ps=>v5 p::b5o ps
end
theorem a2X:∀ps:List Mo,b5o ps=ps.map v5
 |[]=>by rw [b5o];rfl
 |p::ps=>by rw [b5o,a2X ps];rfl
def K5:List Nat->List (List Nat)
 |[]=>[[]]
 |x::r=>if x=47 then []::K5 r else match K5 r with
  |h::t=>(x::h)::t
  |[]=>[[x]]
theorem a5q:∀l:List Nat,K5 l≠[]
 |[]=>by simp [K5]
 |x::r=>by
  unfold K5
  split
  ·simp
  ·split<;>simp
theorem a7D:∀(l:List Nat),∀p∈K5 l,47∉p
 |[],p,h=>by
  have:p=[]:=by simpa [K5] using h
  subst this;simp
 |x::r,p,h=>by
  have ih:=a7D r
  unfold K5 at h
  split at h
  ·rcases AZ.mp h with rfl|h
   ·simp
   ·exact ih p h
  ·rename_i hx
   split at h
   ·rename_i q t e
    rcases AZ.mp h with rfl|h
    ·have:=ih q (by rw [e];exact Ab)
     simp only [AZ,not_or]
     exact⟨fun z=>hx z.symm,this⟩
    ·exact ih p (by rw [e];exact Ah _ h)
   ·rename_i e
    exact absurd e (a5q r)
theorem a49:∀l:List Nat,z7 [47] (K5 l)=l
 |[]=>rfl
 |x::r=>by
  have ih:=a49 r
  have ne:=a5q r
  unfold K5
  split
  ·rename_i hx
   cases e:K5 r with
   |nil=>exact absurd e ne
   |cons h t=>rw [a0Z,<-e,ih,hx];rfl
  ·cases e:K5 r with
   |nil=>exact absurd e ne
   |cons h t=>
    dsimp only
    rw [e] at ih
    cases t with
    |nil=>
     have:h=r:=by rw [<-ih];simp [z7]
     rw [this];simp [z7]
    |cons b t=>
     rw [a0Z] at ih ⊢
     rw [AY,ih]
def B6:List Nat:=[98,101,115,105,100,101]
def W5:List Nat:=[97,98,111,118,101]
def J2:List Nat:=[97,99,114,111,115,115]
def a5V:List Nat:=[100,111,119,110]
def b5C:List Nat:=[100,121,101]
def Z8:List (List Nat):=[[116,117,114,110],[104,97,108,102],[98,97,99,107],[115,105,100,101],[102,108,105,112],[99,114,111,115,115],[111,116,104,101,114]]
def b9V:List (List Nat):=[B6,W5,J2,a5V]++(Z8++[b5C])
def b5A:a8y= .tuple (b9V.map row):=by kernel_rfl
def b2H:a22= .tuple (Z8.map row):=by kernel_rfl
abbrev a8c(ds:List Nat):Nat:=PySem.NumText.digitsVal ds
def a9u(ds:List Nat):Option Nat:=if(decide (1<=ds.length)&& decide (ds.length<=4))=true then if(ds.head?==some 48 && decide (1<ds.length))=true then none else if(decide (1<=a8c ds)&& decide (a8c ds<=24))=true then some (a8c ds) else none else none
def a9j(w:List Nat):Bool:=(decide (1<=w.length)&& decide (w.length<=8))&& !(b9V.contains w)
def P6(mot:List Nat->Option (Mo×List Nat))(s:List Nat):Option (Mo×List Nat):=match mot s with
 |some (m,41::r)=>some (m,r)
 |_=>none
def M9(mot:List Nat->Option (Mo×List Nat)):Nat->List Nat->Option (List Mo×List Nat)
 |0,_=>none
 |k+1,s=>match mot s with
  |none=>none
  |some (m,r)=>match r with
   |44::32::r'=>match M9 mot k r' with
    |some (ms,e)=>some (m::ms,e)
    |none=>none
   |_=>some ([m],r)
def a2W(mot:List Nat->Option (Mo×List Nat))(w s:List Nat):Option (Mo×List Nat):=match M9 mot 500 s with
 |some (ps,41::r)=>if(decide (2<=ps.length)&& decide (ps.length<=6))=true then some (if w=B6 then .beside ps else .above ps,r) else none
 |_=>none
def b3Y(mot:List Nat->Option (Mo×List Nat))(w s:List Nat):Option (Mo×List Nat):=match(n5 isF s).2 with
 |44::32::r=>match a9u (n5 isF s).1 with
  |some k=>match P6 mot r with
   |some (m,e)=>some (if w=J2 then .across k m else .down k m,e)
   |none=>none
  |none=>none
 |_=>none
def b1v(mot:List Nat->Option (Mo×List Nat))(w s:List Nat):Option (Mo×List Nat):=match P6 mot s with
 |some (m,e)=>some (.turned w m,e)
 |none=>none
def a50:List Nat->Bool
 |c::44::32::_=>J6 c
 |_=>false
def b4E(mot:List Nat->Option (Mo×List Nat))(s:List Nat):Option (Mo×List Nat):=match s with
 |a::44::32::b::44::32::r=>if(J6 a && J6 b)=true then match P6 mot r with
  |some (m,e)=>some (.dyed a b m,e)
  |none=>none
  else none
 |_=>none
def a3S(mot:List Nat->Option (Mo×List Nat))(w s:List Nat):Option (Mo×List Nat):=
 if w=B6\/w=W5 then a2W mot w s else if w=J2\/w=a5V then b3Y mot w s else if Z8.contains w=true then b1v mot w s else if w=b5C then b4E mot s else none
def a4J(r:List Nat):Option (Mo×List Nat):=match(n5 (· !=93) r).2 with
 |_::e=>if a6e (K5 (n5 (· !=93) r).1)=true then some (.plain (K5 (n5 (· !=93) r).1),e) else none
 |[]=>none
def T3:Nat->List Nat->Option (Mo×List Nat)
 |0,_=>none
 |n+1,s=>match s with
  |91::r=>a4J r
  |s=>match(n5 J6 s).2 with
   |40::r=>a3S (T3 n) (n5 J6 s).1 r
   |r=>if a9j (n5 J6 s).1=true then some (.named (n5 J6 s).1,r) else none
def b6m(t:List Nat):Option Mo:=match T3 8 t with
 |some (m,[])=>some m
 |_=>none
theorem a6n:∀{w:List Nat},(∀x∈w,p x=true)->n5 p w=(w,[])
 |[],_=>rfl
 |x::r,h=>by
  unfold n5
  rw [if_pos (h x Ab),a6n fun y hy=>h y (Ah _ hy)]
def b1U(a b:List Nat):PyData.eqv (row a) (row b)=(a==b):=by
 show(S a==S b)=_
 rw [Bool.eq_iff_iff,beq_iff_eq,beq_iff_eq]
 exact⟨fun h=>b7E h,fun h=>by rw [h]⟩
def b50(neg:Bool)(w:List Nat)(W:List (List Nat))(hok:L4 (W.map row) 50=true):a12 neg (.val (row w)) (.val (.tuple (W.map row)))=some (.val (.bool (if neg=true then !(W.contains w) else W.contains w))):=by
 have h0:a12 neg (.val (row w)) (.val (.tuple (W.map row)))=gIn neg (.val (row w)) (.val (.tuple (W.map row))):=rfl
 have any:∀l:List (List Nat),((l.map row).any fun p=>PyData.eqv p (row w))=l.contains w:=by
  intro l
  induction l with
  |nil=>rfl
  |cons z l ih=>
   rw [AK,List.any_cons,ih,List.contains_cons,b1U]
   congr 1
   rw [Bool.eq_iff_iff,beq_iff_eq,beq_iff_eq];exact⟨fun h=>h.symm,fun h=>h.symm⟩
 rw [h0]
 show(if B7 (row w) 50=true/\L4 (W.map row) 50=true then some (g6.val (.bool (if neg=true then !((W.map row).any fun p=>PyData.eqv p (row w)) else((W.map row).any fun p=>PyData.eqv p (row w))))) else none)=_
 rw [if_pos ⟨rfl,hok⟩,any]
def b7t(hw:∀x∈w,J6 x=true)(hl:w.length<=450):V3 [row w]=some (.val (.bool (decide (1<=w.length)&& decide (w.length<=8)))):=by
 have le:=b18 (pre:=[]) (s:=w) (by simpa using hl)
 rw [a6n hw,Aa,Ae,Nat.zero_add] at le
 have le:M6 [row w,.int 0]=some (.val (.int (w.length:Nat))):=le
 have gl:=a0U (l:=w) (by lia)
 have ee:M1 (.val (.int (w.length:Nat))) (.val (.int (w.length:Nat)))=some (.val (.bool true)):=by simp (disch:=omega) only [beq_self_eq_true,b0U]
 have c8:Z9= .int 8:=rfl
 unfold V3 a3R
 rw [c8]
 by_cases h1:(1:Int)<=(w.length:Nat)
 ·have d1:decide (1<=w.length)=true:=decide_eq_true (by lia)
  by_cases h2:((w.length:Nat):Int)<=8
  ·have d2:decide (w.length<=8)=true:=decide_eq_true (by lia)
   simp (disch:=omega) only [M5,l8,a0P,m9,B9,j9,i3,f9,d8,e8,i9,i4,o8,i8,k9,a1O,b4x,AH,AK,AN,AO,Aj,beq_self_eq_true,b0U,gl,le,decide_eq_true h1,decide_eq_true h2,d1,d2,l8]
   try rfl
  ·have d2:decide (w.length<=8)=false:=decide_eq_false (by lia)
   simp (disch:=omega) only [M5,l8,a0P,B9,j9,i3,i4,o8,i8,k9,a1O,b1F,AH,AK,AN,AO,Aj,gl,le,decide_eq_true h1,decide_eq_false h2,d1,d2,l8]
   try rfl
 ·have d1:decide (1<=w.length)=false:=decide_eq_false (by lia)
  simp (disch:=omega) only [M5,l8,b0M,B9,j9,i3,i4,o8,i8,k9,a1O,b1F,AH,AK,AN,AO,Aj,gl,le,decide_eq_false h1,d1,l8]
  try rfl
def okW:L4 (b9V.map row) 50=true:=by decide+kernel
def okT:L4 (Z8.map row) 50=true:=by decide+kernel
def c0U(hw:∀x∈w,J6 x=true)(hl:w.length<=450):a5k [row w]=some (.val (.bool (a9j w))):=by
 have h1:=b7t hw hl
 have h2:=b50 true w b9V okW
 unfold a5k b0G a9j
 rw [b5A]
 cases hs:(decide (1<=w.length)&& decide (w.length<=8)) with
 |false=>
  rw [hs] at h1
  simp (disch:=omega) only [i3,f9,d8,e8,i9,i4,o8,i8,k9,a1O,b1F,AH,AK,AN,AO,Aj,h1]
  try rfl
 |true=>
  rw [hs] at h1
  simp (disch:=omega) only [m9,j9,i3,f9,d8,e8,i9,i4,o8,i8,k9,a1O,b4x,AH,AK,AN,AO,Aj,↓reduceIte,h1,h2]
  try rfl
def c4p:Option Nat->PV
 |some k=> .int (k:Nat)
 |none=> .none
def b53(hd:∀x∈ds,isF x=true)(h1:1<=ds.length)(h4:ds.length<=4):b3b (.val (row ds))=some (.val (.int (a8c ds:Nat))):=by
 show(if(S ds).length<=640 then(intText? (S ds)).map (fun n=>g6.val (.int n)) else none)=_
 rw [a0M,if_pos (by lia)]
 have:=PySem.intText_digits (x:=S ds) (by rw [a3P];exact fun c hc=>b16.mp (hd c hc)) (by rw [a3P];intro z;rw [z] at h1;cases h1) (by rw [a0M];lia)
 rw [this,a3P]
 rfl
def b7a(hd:∀x∈ds,isF x=true)(hl:ds.length<=450):a2d [row ds]=some (.val (if(decide (1<=ds.length)&& decide (ds.length<=4))=true then if(ds.head?==some 48 && decide (1<ds.length))=true then .none else .int (a8c ds:Nat) else .none)):=by
 have fe:=b5P (pre:=[]) (s:=ds) (by simpa using hl)
 rw [a6n hd,Aa,Ae,Nat.zero_add] at fe
 have fe:Q0 [row ds,.int 0]=some (.val (.int (ds.length:Nat))):=fe
 have gl:=a0U (l:=ds) (by lia)
 have ne:gNe (.val (.int (ds.length:Nat))) (.val (.int (ds.length:Nat)))=some (.val (.bool false)):=by simp (disch:=omega) only [Bool.not_true,beq_self_eq_true,b8b]
 have c4:a0a= .int 4:=rfl
 unfold a2d a7N
 rw [c4]
 by_cases h1:(1:Int)<=(ds.length:Nat)
 ·have d1:decide (1<=ds.length)=true:=decide_eq_true (by lia)
  by_cases h2:((ds.length:Nat):Int)<=4
  ·have d2:decide (ds.length<=4)=true:=decide_eq_true (by lia)
   have it:=b53 hd (by lia) (by lia)
   obtain⟨d,r,e⟩:∃d r,ds=d::r:=by
    cases ds with
    |nil=>exact absurd h1 (by simp)
    |cons d r=>exact⟨d,r,rfl⟩
   have ix:v9 (.val (row ds)) (.val (.int 0))=some (.val (row [d])):=by
    have:=a68 (pre:=[]) (x:=d) (r:=r) (by rw [Aa,<-e];lia)
    rw [Aa,<-e] at this
    exact this
   have s0:AC "0"=S [48]:=rfl
   have e0:=a18 [d] [48]
   have hh:(ds.head?==some 48)=([d]==[48]):=by rw [e];simp
   rw [s0,d1,d2,hh]
   by_cases h3:(1:Int)<(ds.length:Nat)
   ·have d3:decide (1<ds.length)=true:=decide_eq_true (by lia)
    rw [d3]
    cases hq:([d]==[48]) with
    |true=>
     rw [hq] at e0
     simp (disch:=omega) only [b4I,M5,l8,a0P,m9,B9,j9,i3,f9,d8,e8,i9,i4,o8,j1,o9,u5,j7,C2,D8,o0,i8,k9,m6,t7,t8,t6,X2,K4,a8H,AH,Ai,AK,AN,AO,Aj,Bool.not_true,gl,fe,ne,decide_eq_true h1,decide_eq_true h2,ix,e0,decide_eq_true h3,l8]
     try rfl
    |false=>
     rw [hq] at e0
     simp (disch:=omega) only [M5,l8,a0P,m9,B9,j9,i3,f9,d8,e8,i9,i4,o8,j1,o9,j7,D8,o0,i8,k9,m6,t7,t8,t6,X2,K4,b4w,AH,Ai,AK,AN,AO,Aj,Bool.not_true,gl,fe,ne,decide_eq_true h1,decide_eq_true h2,ix,e0,it,l8]
     try rfl
   ·have d3:decide (1<ds.length)=false:=decide_eq_false (by lia)
    rw [d3]
    cases hq:([d]==[48]) with
    |true=>
     rw [hq] at e0
     simp (disch:=omega) only [b4I,M5,l8,a0P,m9,B9,j9,i3,f9,d8,e8,i9,i4,o8,j1,o9,j7,D8,o0,i8,k9,m6,t7,t8,t6,X2,K4,a8H,AH,Ai,AK,AN,AO,Aj,Bool.not_true,gl,fe,ne,decide_eq_true h1,decide_eq_true h2,ix,e0,decide_eq_false h3,it,l8]
     try rfl
    |false=>
     rw [hq] at e0
     simp (disch:=omega) only [M5,l8,a0P,m9,B9,j9,i3,f9,d8,e8,i9,i4,o8,j1,o9,j7,D8,o0,i8,k9,m6,t7,t8,t6,X2,K4,b4w,AH,Ai,AK,AN,AO,Aj,Bool.not_true,gl,fe,ne,decide_eq_true h1,decide_eq_true h2,ix,e0,it,l8]
     try rfl
  ·have d2:decide (ds.length<=4)=false:=decide_eq_false (by lia)
   rw [d1,d2]
   simp (disch:=omega) only [M5,l8,a0P,B9,j9,i3,i4,o8,j1,u5,j7,C2,i8,k9,m6,t7,t8,t6,a4H,AH,Ai,AK,AN,AO,Aj,Bool.not_false,gl,decide_eq_true h1,decide_eq_false h2,l8]
   try rfl
 ·have d1:decide (1<=ds.length)=false:=decide_eq_false (by lia)
  rw [d1]
  simp (disch:=omega) only [M5,l8,b0M,B9,j9,i3,i4,o8,j1,u5,j7,C2,i8,k9,m6,t7,t8,t6,a4H,AH,Ai,AK,AN,AO,Aj,Bool.not_false,gl,decide_eq_false h1,l8]
  try rfl
def b8m:a3h false (.val .none) (.val .none)=some (.val (.bool true)):=Eq.trans rfl rfl
def b00(i:Int):a3h false (.val (.int i)) (.val .none)=some (.val (.bool false)):=Eq.trans rfl rfl
def b9X(hd:∀x∈ds,isF x=true)(hl:ds.length<=450):S7 [row ds,.int 1,.int 24]=some (.val (c4p (a9u ds))):=by
 have hn:=b7a hd hl
 unfold S7 a2N a9u
 cases c1:(decide (1<=ds.length)&& decide (ds.length<=4)) with
 |false=>
  rw [c1] at hn
  rw [if_neg Ar] at hn ⊢
  simp (disch:=omega) only [m9,j9,i3,n4,f9,d8,e8,i9,r9,y6,i4,o8,j1,o9,u5,j7,C2,i8,k9,m6,t7,t6,a4H,AH,AK,AN,AX,AO,AY,Aa,Af,Ag,hn,b8m]
  try rfl
 |true=>
  rw [c1,if_pos rfl] at hn
  rw [if_pos rfl]
  cases c2:(ds.head?==some 48 && decide (1<ds.length)) with
  |true=>
   rw [c2,if_pos rfl] at hn
   rw [if_pos rfl]
   simp (disch:=omega) only [m9,j9,i3,n4,f9,d8,e8,i9,r9,y6,i4,o8,j1,o9,u5,j7,C2,i8,k9,m6,t7,t6,a4H,AH,AK,AN,AX,AO,AY,Aa,Af,Ag,hn,b8m]
   try rfl
  |false=>
   rw [c2,if_neg Ar] at hn
   rw [if_neg Ar]
   by_cases h1:(1:Int)<=(a8c ds:Nat)
   ·have d1:decide (1<=a8c ds)=true:=decide_eq_true (by lia)
    by_cases h2:((a8c ds:Nat):Int)<=24
    ·have d2:decide (a8c ds<=24)=true:=decide_eq_true (by lia)
     rw [d1,d2]
     simp (disch:=omega) only [M5,l8,a0P,m9,j9,i3,n4,f9,d8,e8,i9,r9,y6,j1,o9,j7,D8,o0,i8,k9,m6,t7,t8,t6,K4,AH,Ai,AK,AN,AX,AO,AY,Aa,Af,Ag,Bool.not_true,a6Q,a6R,hn,b00,decide_eq_true h1,decide_eq_true h2,l8]
     try rfl
    ·have d2:decide (a8c ds<=24)=false:=decide_eq_false (by lia)
     rw [d1,d2]
     simp (disch:=omega) only [M5,l8,a0P,m9,j9,i3,n4,f9,d8,e8,i9,r9,y6,i4,o8,j1,o9,u5,j7,C2,i8,k9,m6,t7,t8,t6,K4,AH,Ai,AK,AN,AX,AO,AY,Aa,Af,Ag,Bool.not_false,hn,b00,decide_eq_true h1,decide_eq_false h2,l8]
     try rfl
   ·have d1:decide (1<=a8c ds)=false:=decide_eq_false (by lia)
    rw [d1]
    simp (disch:=omega) only [M5,l8,b0M,m9,j9,i3,n4,f9,d8,e8,i9,r9,y6,i4,o8,j1,o9,u5,j7,C2,i8,k9,m6,t7,t8,t6,K4,AH,Ai,AK,AN,AX,AO,AY,Aa,Af,Ag,Bool.not_false,hn,b00,decide_eq_false h1,l8]
    try rfl
def Q5:AC ", "=S [44,32]:=by decide+kernel
def b3T(s:List Nat):([44,32].isPrefixOf s)=true↔∃r,s=44::32::r:=by
 rw [List.isPrefixOf_iff_prefix]
 exact⟨fun⟨r,h⟩=>⟨r,h.symm⟩,fun⟨r,h⟩=>⟨r,h.symm⟩⟩
def b3S(c:Nat)(s:List Nat):([c].isPrefixOf s)=true↔∃r,s=c::r:=by
 rw [List.isPrefixOf_iff_prefix]
 exact⟨fun⟨r,h⟩=>⟨r,h.symm⟩,fun⟨r,h⟩=>⟨r,h.symm⟩⟩
def a5b(s:List Nat):Bool:=(a9u (n5 isF s).1).isSome &&([44,32].isPrefixOf (n5 isF s).2)
def c4a(o:Option Nat):a3h false (.val (c4p o)) (.val .none)=some (.val (.bool (!o.isSome))):=by cases o<;>rfl
def b9K(hT:(pre++s).length<=450):a0Y [row (pre++s),.int (pre.length:Nat)]=some (.val (if a5b s=true then .int ((pre.length+(n5 isF s).1.length:Nat):Int) else .none)):=by
 have fe:=b5P (pre:=pre) (s:=s) hT
 have ap:=K6 isF s
 obtain⟨ds,hds⟩:∃ds,ds=(n5 isF s).1:=⟨_,rfl⟩
 obtain⟨po,hpo⟩:∃po,po=(n5 isF s).2:=⟨_,rfl⟩
 have hall:=X3 isF s
 unfold a5b
 rw [<-hds] at fe hall ap ⊢
 rw [<-hpo] at ap ⊢
 subst ap
 have hl:ds.length<=450:=by rw [AQ,AQ] at hT;lia
 have sl:=b2C (pre:=pre) (ds:=ds) (post:=po) (by lia)
 have be:=b9X hall hl
 have st:=a0n (pre:=pre++ds) (s:=po) (y:=[44,32])
 rw [List.append_assoc,AQ] at st
 have c24:a1s= .int 24:=rfl
 unfold a0Y a7O
 rw [c24,Q5]
 have io:=c4a (a9u ds)
 cases hn:(a9u ds).isSome with
 |false=>
  rw [hn] at io
  simp (disch:=omega) only [m9,j9,i3,n4,f9,d8,e8,i9,r9,y6,i4,o8,j1,o9,u5,j7,C2,i8,k9,m6,t7,t6,a4H,AH,AK,AN,AX,AO,AY,Aa,Af,Ag,Bool.not_false,M7,M8,a0z,fe,sl,be,io]
  try rfl
 |true=>
  rw [hn] at io
  cases hp:([44,32].isPrefixOf po) with
  |false=>
   rw [hp] at st
   simp (disch:=omega) only [m9,j9,i3,n4,f9,d8,e8,i9,r9,y6,i4,o8,j1,o9,u5,j7,C2,i8,k9,A7,m6,t7,O4,t8,t6,K4,AH,Ai,AK,AN,AX,AO,AY,Aa,Af,Ag,Bool.not_true,Bool.not_false,M7,M8,a0z,fe,sl,be,io,st,m3]
   try rfl
  |true=>
   rw [hp] at st
   simp (disch:=omega) only [m9,j9,i3,n4,f9,d8,e8,i9,r9,y6,j1,o9,j7,D8,o0,i8,k9,A7,m6,t7,O4,t8,t6,K4,AH,Ai,AK,AN,AX,AO,AY,Aa,Af,Ag,Bool.not_true,M7,M8,a0z,a6Q,a6R,fe,sl,be,io,st,m3]
   try rfl
def b0N(hT:(pre++s).length<=450):N9 [row (pre++s),.int (pre.length:Nat)]=some (.val (.bool (a50 s))):=by
 have le:=b18 (pre:=pre) (s:=s) hT
 unfold N9 a4f
 rw [Q5]
 have hcast:((pre.length:Nat):Int)+1=((pre.length+1:Nat):Int):=by lia
 have g0:∀n:Nat,M1 (.val (.int ((pre.length+n:Nat):Int))) (.val (.int ((pre.length+1:Nat):Int)))=some (.val (.bool (decide (n=1)))):=fun n=>by
  simp (disch:=omega) only [b0U]
  by_cases h:n=1
  ·subst h;simp
  ·have:¬((pre.length+n:Nat):Int)=((pre.length+1:Nat):Int):=by lia
   rw [decide_eq_false h]
   simpa using this
 by_cases h1:(n5 J6 s).1.length=1
 ·have ap:=K6 J6 s
  obtain⟨c,hc⟩:=List.length_eq_one_iff.mp h1
  have hall:=X3 J6 s c (by rw [hc];exact Ab)
  rw [hc] at ap
  obtain⟨po,hpo⟩:∃po,po=(n5 J6 s).2:=⟨_,rfl⟩
  rw [<-hpo] at ap
  have st:=a0n (pre:=pre++[c]) (s:=po) (y:=[44,32])
  rw [List.append_assoc,<-ap,AQ,List.length_singleton] at st
  have g1:=g0 (n5 J6 s).1.length
  rw [decide_eq_true h1] at g1
  have hcol:a50 s=[44,32].isPrefixOf po:=by
   rw [ap]
   cases hp:([44,32].isPrefixOf po) with
   |true=>
    obtain⟨r,rfl⟩:=(b3T po).mp hp
    exact hall
   |false=>
    show a50 (c::po)=false
    unfold a50
    split
    ·rename_i d r e
     cases e
     rw [(b3T _).mpr ⟨r,rfl⟩] at hp;cases hp
    ·rfl
  rw [hcol]
  simp (disch:=omega) only [D4,m9,j9,i3,n4,f9,d8,e8,i9,i4,o8,i8,k9,a1O,b4x,AH,AK,AN,AO,Aj,le,hcast,g1,st,m3]
  try rfl
 ·have g1:=g0 (n5 J6 s).1.length
  rw [decide_eq_false h1] at g1
  have hcol:a50 s=false:=by
   unfold a50
   split
   ·rename_i d r
    cases hd:J6 d with
    |false=>rfl
    |true=>
     refine absurd ?_ h1
     have:J6 44=false:=rfl
     simp [n5,hd,this]
   ·rfl
  rw [hcol]
  simp (disch:=omega) only [D4,m9,j9,i3,n4,f9,d8,e8,i9,i4,o8,i8,k9,a1O,b1F,AH,AK,AN,AO,Aj,le,hcast,g1]
  try rfl
def c0c:b5Q (S (pre++s)) (S [c]) (pre.length:Nat)=if(n5 (· !=c) s).2=[] then -1 else((pre.length+(n5 (· !=c) s).1.length:Nat):Int):=by
 have sp:=PySem.StrLaws.find3_spec (S (pre++s)) c (pre.length:Nat)
 have f:fromIndex (S (pre++s)).length (pre.length:Nat)=pre.length:=by
  unfold fromIndex
  rw [if_neg (by lia)]
  lia
 have gd:∀v,(S (pre++s)).cps.getD v 0=(pre++s).getD v 0:=fun v=>by simp [S,Array.getD,List.getD_eq_getElem?_getD];split<;>simp_all
 rw [f,a0M] at sp
 simp only [gd] at sp
 have ap:=K6 (· !=c) s
 have ha:=X3 (· !=c) s
 have hs:=a3M (· !=c) s
 obtain⟨a,hA⟩:∃a,a=(n5 (· !=c) s).1:=⟨_,rfl⟩
 obtain⟨b,hB⟩:∃b,b=(n5 (· !=c) s).2:=⟨_,rfl⟩
 rw [<-hA] at ap ha ⊢
 rw [<-hB] at ap hs ⊢
 subst ap
 have show_:b5Q (S (pre++(a++b))) (S [c]) (pre.length:Nat)=Txt.find3 (S (pre++(a++b))) ⟨#[c]⟩ (pre.length:Nat):=rfl
 rw [show_]
 have inA:∀v,pre.length<=v->v<pre.length+a.length->(pre++(a++b)).getD v 0≠c:=fun v h1 h2=>by
  rw [List.getD_eq_getElem?_getD,List.getElem?_append_right h1,BB (by lia),Az (by lia)]
  have:=ha _ (List.getElem_mem (l:=a) (n:=v - pre.length) (by lia))
  simpa using this
 cases hb:b with
 |nil=>
  rw [if_pos rfl]
  rcases sp with⟨h,_⟩|⟨k,_,h2,h3,h4,_⟩
  ·rw [hb] at h;exact h
  ·exfalso
   rw [hb] at h3
   simp at h3
   exact inA k h2 (by lia) h4
 |cons y r=>
  rw [if_neg (by simp)]
  have hy:y=c:=by have:=hs y r hb;simpa using this
  have aty:(pre++(a++b)).getD (pre.length+a.length) 0=c:=by
   rw [hb,List.getD_eq_getElem?_getD,List.getElem?_append_right (by lia),List.getElem?_append_right (by lia),show pre.length+a.length - pre.length - a.length=0 by lia]
   exact hy
  rcases sp with⟨_,h⟩|⟨k,h1,h2,h3,h4,h5⟩
  ·exact absurd aty (h _ (by lia) (by rw [hb];simp))
  ·rw [hb] at h1
   rw [h1]
   have hk1:¬k<pre.length+a.length:=fun z=>inA k h2 z h4
   have hk2:¬pre.length+a.length<k:=fun z=>h5 _ (by lia) z aty
   have:k=pre.length+a.length:=by lia
   rw [this]
def c0F(h:b ρ=some (.fl f)):b44 b inm hd ρ=some f:=by
 unfold b44
 rw [h]
 rfl
def Q2(T:List Nat):Option (Mo×List Nat)->PV
 |none=> .none
 |some (m,r)=> .tuple [v5 m,.int ((T.length - r.length:Nat):Int)]
theorem b1O:AC "]"=S [93]:=by decide+kernel
def c0N(m:M)(ρ:e9)(R:List (List Nat))(h:m ρ=some (.val (.tuple (R.map row)))):P4 (AC "Plain") [AC "rows"] (a0 m b8) ρ=some (.val (v5 (.plain R))):=by
 unfold P4 a0
 rw [h]
 show some (g6.val _)=_
 rw [v5]
 rfl
def b89(hT:(pre++91::r).length<=450):a3m [row (pre++91::r),.int (pre.length:Nat)]=some (.val (Q2 (pre++91::r) (a4J r))):=by
 obtain⟨T,eT⟩:∃T,T=pre++91::r:=⟨_,rfl⟩
 have fi:=c0c (pre:=pre) (s:=91::r) (c:=93)
 have ap:=K6 (· !=93) r
 obtain⟨b,hb⟩:∃b,b=(n5 (· !=93) r).1:=⟨_,rfl⟩
 obtain⟨po,hpo⟩:∃po,po=(n5 (· !=93) r).2:=⟨_,rfl⟩
 have sp1:(n5 (· !=93) (91::r)).1=91::b:=by rw [hb];simp [n5]
 have sp2:(n5 (· !=93) (91::r)).2=po:=by rw [hpo];simp [n5]
 rw [sp1,sp2,<-eT] at fi
 unfold a4J
 rw [<-hb,<-hpo] at ap ⊢
 rw [<-eT] at hT ⊢
 have gf:b0V (.val (row T)) (.val (row [93])) (.val (.int (pre.length:Nat)))=some (.val (.int (b5Q (S T) (S [93]) (pre.length:Nat)))):=rfl
 rw [fi] at gf
 unfold a3m a8O
 rw [b1O]
 cases hp:po with
 |nil=>
  rw [hp,if_pos rfl] at gf
  simp (disch:=omega) only [a57,m9,j9,i3,n4,r9,y6,j1,o9,j7,i8,m6,t7,AH,AK,AN,AX,AO,AY,Aa,Af,Ag,Int.reduceNeg,gf,m3]
  try rfl
 |cons y e=>
  rw [hp,if_neg (by simp)] at gf
  rw [hp] at ap
  have hlen:(91::b).length=b.length+1:=rfl
  rw [hlen] at gf
  have hT2:T=(pre++[91])++(b++y::e):=by rw [eT,ap];simp
  have sl:=b2C (pre:=pre++[91]) (ds:=b) (post:=y::e) (by rw [<-hT2];lia)
  rw [<-hT2,AQ,List.length_singleton] at sl
  have hTl:T.length=pre.length+1+b.length+1+e.length:=by rw [hT2];simp;lia
  have lt0:decide (((pre.length+(b.length+1):Nat):Int)<0)=false:=decide_eq_false (by lia)
  have c1:((pre.length:Nat):Int)+1=((pre.length+1:Nat):Int):=by lia
  have c2:((pre.length+(b.length+1):Nat):Int)=((pre.length+1+b.length:Nat):Int):=by lia
  have c3:((pre.length+1+b.length:Nat):Int)+1=((T.length - e.length:Nat):Int):=by lia
  rw [c2] at gf lt0
  have re:=c1j (l:=b) (R:=K5 b) (by lia) (a5q b) (a7D b) (a49 b)
  cases ho:a6e (K5 b) with
  |true=>
   rw [ho,if_pos rfl] at re
   have asg:a6S 3 S8 (a0 (R9 (a9 0) (K0 (m2 v6 (a9 1) (mC (.int 1)))) (K0 (a9 2))) b8) [some (.val (row T)),some (.val (.int (pre.length:Nat))),some (.val (.int ((pre.length+1+b.length:Nat):Int))),none]=some (.fl (.nx [some (.val (row T)),some (.val (.int (pre.length:Nat))),some (.val (.int ((pre.length+1+b.length:Nat):Int))),some (.val (.tuple ((K5 b).map row)))])):=by
    refine(c0R (ps:=[row b]) (p:= .tuple ((K5 b).map row)) ?_ re).trans rfl
    simp (disch:=omega) only [D4,m9,j9,i3,n4,f9,d8,e8,AH,M7,M8,a0z,sl,c1]
   have tr:=c0F (inm:=inL [AC "NoCloth"]) (hd:=l9 (mC .none)) asg
   have mk:=c0N (a9 3) [some (.val (row T)),some (.val (.int (pre.length:Nat))),some (.val (.int ((pre.length+1+b.length:Nat):Int))),some (.val (.tuple ((K5 b).map row)))] (K5 b) rfl
   show _=some (g6.val (Q2 T (some (Mo.plain (K5 b),e))))
   simp (disch:=omega) only [D4,a57,m9,j9,i3,n4,f9,d8,e8,V2,r9,y6,i4,o8,j1,o9,j7,D8,o0,i8,k9,m6,t7,AH,AK,AN,AX,AO,AY,Aa,Af,Ag,AM,Ae,↓reduceIte,sz,Nat.reduceAdd,Ay,gf,m3,lt0,tr,mk,c3]
   try rfl
  |false=>
   rw [ho,if_neg Ar] at re
   have asg:a6S 3 S8 (a0 (R9 (a9 0) (K0 (m2 v6 (a9 1) (mC (.int 1)))) (K0 (a9 2))) b8) [some (.val (row T)),some (.val (.int (pre.length:Nat))),some (.val (.int ((pre.length+1+b.length:Nat):Int))),none]=some (.rz nc [some (.val (row T)),some (.val (.int (pre.length:Nat))),some (.val (.int ((pre.length+1+b.length:Nat):Int))),none]):=by
    refine(c0S (ps:=[row b]) ?_ re).trans rfl
    simp (disch:=omega) only [D4,m9,j9,i3,n4,f9,d8,e8,AH,M7,M8,a0z,sl,c1]
   have tr:=c0G (inm:=inL [AC "NoCloth"]) (hd:=l9 (mC .none)) asg (by decide+kernel)
   show _=some (g6.val (Q2 T none))
   simp (disch:=omega) only [a57,m9,j9,i3,n4,r9,y6,i4,o8,j1,o9,u5,j7,D8,o0,i8,k9,m6,t7,AH,AK,AN,AX,AO,AY,Aa,Af,Ag,gf,m3,lt0,tr]
   try rfl
abbrev MF:=List Nat->Option (Mo×List Nat)
abbrev RF:=List PV->Option g6
def Suf(mot:MF):Prop:=∀s m r,mot s=some (m,r)->∃p,p≠[]/\s=p++r
def a36(R:RF)(T:List Nat)(left:Int)(mot:MF):Prop:=∀pre s,T=pre++s->R [row T,.int (pre.length:Nat),.int left]=some (.val (Q2 T (mot s)))
def a5J(T:List Nat)(m:Mo)(r:List Nat):a3h false (.val (Q2 T (some (m,r)))) (.val .none)=some (.val (.bool false)):=Eq.trans rfl rfl
def b01(T:List Nat):a3h false (.val (Q2 T none)) (.val .none)=some (.val (.bool true)):=Eq.trans rfl rfl
def a86(T:List Nat)(m:Mo)(r:List Nat):v9 (.val (Q2 T (some (m,r)))) (.val (.int 0))=some (.val (v5 m)):=Eq.trans rfl rfl
def a5K(T:List Nat)(m:Mo)(r:List Nat):v9 (.val (Q2 T (some (m,r)))) (.val (.int 1))=some (.val (.int ((T.length - r.length:Nat):Int))):=Eq.trans rfl rfl
def b9c{T q r:List Nat}(h:T=q++r):T.length - r.length=q.length:=by rw [h,AQ];lia
theorem a6Z:AC ")"=S [41]:=by decide+kernel
theorem b4Z:AC "("=S [40]:=by decide+kernel
theorem c2O:AC "["=S [91]:=by decide+kernel
def c4C{T pre s:List Nat}{mot:MF}(hs:Suf mot){m:Mo}{r:List Nat}(eT:T=pre++s)(h:mot s=some (m,r))(y:List Nat):
 Q6 (.val (row T)) (.val (row y)) (.val (.int ((T.length - r.length:Nat):Int)))=some (.val (.bool (y.isPrefixOf r))):=by
 obtain⟨p,_,e⟩:=hs s m r h
 have e2:T=(pre++p)++r:=by rw [eT,e,List.append_assoc]
 have:=a0n (pre:=pre++p) (s:=r) (y:=y)
 rw [<-e2] at this
 rw [b9c e2]
 exact this
def b59(h:mot s=none):P6 mot s=none:=by unfold P6;rw [h]
def b6a(h:mot s=some (m,41::r)):P6 mot s=some (m,r):=by unfold P6;rw [h];rfl
def c0z(h:mot s=some (m,r))(hn:[41].isPrefixOf r=false):P6 mot s=none:=by
 unfold P6
 rw [h]
 split
 ·rename_i e
  cases e
  simp at hn
 ·rfl
def b6W(hs:Suf mot):Suf (P6 mot):=fun s m r h=>by
 unfold P6 at h
 split at h
 ·rename_i m' r' e
  cases h
  obtain⟨p,hp,e2⟩:=hs _ _ _ e
  exact⟨p++[41],by simp,by rw [e2];simp⟩
 ·cases h
def c0A(hs:Suf mot)(hm:a36 RMo T left mot):a36 (n6 1 (Y1 RD RL RLa RM RMo RP RR RT)) T left (P6 mot):=fun pre s eT=>by
 have h:=hm pre s eT
 unfold Y1
 rw [a6Z]
 cases e:mot s with
 |none=>
  rw [e] at h
  rw [b59 e]
  simp (disch:=omega) only [m9,j9,i3,n4,f9,d8,e8,i9,r9,y6,i4,o8,j1,o9,u5,j7,C2,i8,k9,m6,t7,t6,a4H,AH,AK,AN,AX,AO,AY,Aa,Af,Ag,h,b01]
  try rfl
 |some v=>
  obtain⟨m,r⟩:=v
  rw [e] at h
  have st:=c4C hs eT e [41]
  cases hp:[41].isPrefixOf r with
  |false=>
   rw [hp] at st
   rw [c0z e hp]
   simp (disch:=omega) only [m9,j9,i3,n4,f9,d8,e8,i9,r9,y6,i4,o8,j1,o9,u5,j7,C2,i8,k9,A7,m6,t7,O4,t8,t6,K4,AH,Ai,AK,AN,AX,AO,AY,Aa,Af,Ag,Bool.not_false,h,a5J,a5K,st,m3]
   try rfl
  |true=>
   rw [hp] at st
   obtain⟨r',rfl⟩:=(b3S 41 r).mp hp
   rw [b6a e]
   obtain⟨p,_,e2⟩:=hs s m _ e
   have c:((T.length - (41::r').length:Nat):Int)+1=((T.length - r'.length:Nat):Int):=by
    have:T.length=pre.length+p.length+(r'.length+1):=by rw [eT,e2];simp;lia
    rw [AM];lia
   have st':=st
   rw [AM] at st' c
   have i1:=a5K T m (41::r')
   rw [AM] at i1
   simp (disch:=omega) only [D4,m9,j9,i3,n4,f9,d8,e8,V2,i9,r9,y6,i4,o8,j1,o9,j7,D8,o0,i8,k9,A7,m6,t7,O4,t8,t6,K4,AH,Ai,AK,AN,AX,AO,AY,Aa,Af,Ag,AM,Ae,↓reduceIte,Bool.not_true,sz,Nat.reduceAdd,Ay,h,a5J,a86,i1,st',m3,c]
   try rfl
def b7w(hm:a36 RLa T left (P6 mot)):∀pre s,T=pre++s->n6 1 (a15 RD RL RLa RM RMo RP RR RT) [row T,row w,.int (pre.length:Nat),.int left]=some (.val (Q2 T (b1v mot w s))):=fun pre s eT=>by
 have h:=hm pre s eT
 unfold a15 b1v
 cases e:P6 mot s with
 |none=>
  rw [e] at h
  simp (disch:=omega) only [m9,j9,i3,n4,f9,d8,e8,i9,r9,y6,i4,o8,j1,o9,u5,j7,C2,i8,k9,m6,t7,AH,AK,AN,AX,AO,AY,Aa,Af,Ag,h,b01]
  try rfl
 |some v=>
  obtain⟨m,r⟩:=v
  rw [e] at h
  have mk:P4 (AC "Turned") [AC "way",AC "part"] (a0 (a9 1) (a0 (m2 v9 (a9 4) (mC (.int 0))) b8)) [some (.val (row T)),some (.val (row w)),some (.val (.int (pre.length:Nat))),some (.val (.int left)),some (.val (Q2 T (some (m,r))))]=some (.val (v5 (.turned w m))):=by
   unfold P4
   simp (disch:=omega) only [m9,j9,i3,n4,f9,d8,e8,AH,a86]
   rw [v5]
   rfl
  simp (disch:=omega) only [m9,j9,i3,n4,f9,d8,e8,V2,i9,r9,y6,i4,o8,j1,o9,j7,D8,o0,i8,k9,m6,t7,AH,AK,AN,AX,AO,AY,Aa,Af,Ag,AM,Ae,↓reduceIte,sz,Nat.reduceAdd,Ay,h,a5J,mk,a5K]
  try rfl
def b7Q(h:(a50 s && a50 (s.drop 3))=false):b4E mot s=none:=by
 unfold b4E
 split
 ·rename_i a b r
  rw [if_neg]
  intro z
  have:a50 (a::44::32::b::44::32::r)=J6 a:=rfl
  have h2:a50 (List.drop 3 (a::44::32::b::44::32::r))=J6 b:=rfl
  rw [this,h2,z] at h
  cases h
 ·rfl
def b7M(h:a50 s=true):∃a r,s=a::44::32::r/\J6 a=true:=by
 unfold a50 at h
 split at h
 ·rename_i a r;exact⟨a,r,rfl,h⟩
 ·cases h
def b95(hT:T.length<=450)(hm:a36 RLa T left (P6 mot)):∀pre s,T=pre++s->n6 1 (a5g RD RL RLa RM RMo RP RR RT) [row T,.int (pre.length:Nat),.int left]=some (.val (Q2 T (b4E mot s))):=fun pre s eT=>by
 have c1:=b0N (pre:=pre) (s:=s) (by rw [<-eT];exact hT)
 rw [<-eT] at c1
 unfold a5g
 cases h1:a50 s with
 |false=>
  rw [h1] at c1
  rw [b7Q (by rw [h1];rfl)]
  simp (disch:=omega) only [j9,i3,n4,f9,d8,e8,i9,i4,o8,j1,u5,j7,C2,i8,k9,A7,O4,t8,t6,a4H,AH,Ai,AK,AN,AX,AO,AY,Aa,Bool.not_false,c1]
  try rfl
 |true=>
  rw [h1] at c1
  obtain⟨a,r,rfl,la⟩:=b7M h1
  have c2:=b0N (pre:=pre++[a,44,32]) (s:=r) (by rw [List.append_assoc];exact eT▸hT)
  have e3:(pre++[a,44,32])++r=T:=by rw [eT,List.append_assoc];rfl
  rw [e3,AQ] at c2
  have c3:N9 [row T,.int ((pre.length+3:Nat):Int)]=some (.val (.bool (a50 r))):=c2
  clear c2
  have k3:((pre.length:Nat):Int)+3=((pre.length+3:Nat):Int):=by lia
  have xa:v9 (.val (row T)) (.val (.int (pre.length:Nat)))=some (.val (row [a])):=by rw [eT];exact a68 (by rw [<-eT];lia)
  cases h2:a50 r with
  |false=>
   rw [h2] at c3
   rw [b7Q (by rw [h1];exact h2)]
   simp (disch:=omega) only [D4,m9,j9,i3,n4,f9,d8,e8,i9,i4,o8,j1,u5,j7,C2,i8,k9,A7,O4,t8,t6,K4,AH,Ai,AK,AN,AX,AO,AY,Aa,Bool.not_true,Bool.not_false,c1,c3,k3]
   try rfl
  |true=>
   rw [h2] at c3
   obtain⟨b,q,rfl,lb⟩:=b7M h2
   have h:=hm (pre++[a,44,32,b,44,32]) q (by rw [eT,List.append_assoc];rfl)
   rw [AQ] at h
   have h:RLa [row T,.int ((pre.length+6:Nat):Int),.int left]=some (.val (Q2 T (P6 mot q))):=h
   have k6:((pre.length:Nat):Int)+6=((pre.length+6:Nat):Int):=by lia
   have xb:v9 (.val (row T)) (.val (.int ((pre.length+3:Nat):Int)))=some (.val (row [b])):=by
    have:=a68 (pre:=pre++[a,44,32]) (x:=b) (r:=44::32::q) (by rw [e3];lia)
    rw [e3,AQ] at this
    exact this
   have dy:b4E mot (a::44::32::b::44::32::q)=match P6 mot q with|some (m,e)=>some (.dyed a b m,e)|none=>none:=by
    show(if(J6 a && J6 b)=true then _ else _)=_
    rw [la,lb];rfl
   rw [dy]
   cases e:P6 mot q with
   |none=>
    rw [e] at h
    simp (disch:=omega) only [D4,m9,j9,i3,n4,f9,d8,e8,i9,r9,y6,i4,o8,j1,o9,u5,j7,C2,D8,o0,i8,k9,A7,m6,t7,O4,t8,t6,K4,AH,Ai,AK,AN,AX,AO,AY,Aa,Af,Ag,Bool.not_true,c1,c3,k3,k6,h,b01]
    try rfl
   |some v=>
    obtain⟨m,r⟩:=v
    rw [e] at h
    have mk:P4 (AC "Dyed") [AC "one",AC "other",AC "part"] (a0 (m2 v9 (a9 0) (a9 1)) (a0 (m2 v9 (a9 0) (m2 v6 (a9 1) (mC (.int 3)))) (a0 (m2 v9 (a9 3) (mC (.int 0))) b8))) [some (.val (row T)),some (.val (.int (pre.length:Nat))),some (.val (.int left)),some (.val (Q2 T (some (m,r))))]=some (.val (v5 (.dyed a b m))):=by
     unfold P4
     simp (disch:=omega) only [D4,m9,j9,i3,n4,f9,d8,e8,AH,a86,xa,k3,xb]
     rw [v5]
     rfl
    simp (disch:=omega) only [D4,m9,j9,i3,n4,f9,d8,e8,V2,i9,r9,y6,i4,o8,j1,o9,j7,D8,o0,i8,k9,A7,m6,t7,O4,t8,t6,K4,AH,Ai,AK,AN,AX,AO,AY,Aa,Af,Ag,AM,Ae,↓reduceIte,Bool.not_true,sz,Nat.reduceAdd,Ay,c1,c3,k3,k6,h,a5J,mk,a5K]
    try rfl
def c47(w:List Nat)(k:Nat):Option (Mo×List Nat)->Option (Mo×List Nat)
 |some (m,e)=>some (if w=J2 then .across k m else .down k m,e)
 |none=>none
def b5p(h2:(n5 isF s).2=44::32::r)(h1:a9u (n5 isF s).1=some k):b3Y mot w s=c47 w k (P6 mot r):=by
 unfold b3Y
 simp only [h2,h1]
 cases P6 mot r<;>rfl
def b9n(h:a5b s=false):b3Y mot w s=none:=by
 unfold a5b at h
 unfold b3Y
 split
 ·rename_i r e
  rw [e,(b3T _).mpr ⟨r,rfl⟩,Bool.and_true] at h
  cases hn:a9u (n5 isF s).1 with
  |none=>rfl
  |some k=>rw [hn] at h;cases h
 ·rfl
def c3t(hT:T.length<=450)(hm:a36 RLa T left (P6 mot)):∀pre s,T=pre++s->n6 3 (a0v RD RL RLa RM RMo RP RR RT) [row T,row w,.int (pre.length:Nat),.int left]=some (.val (Q2 T (b3Y mot w s))):=fun pre s eT=>by
 have te:=b9K (pre:=pre) (s:=s) (by rw [<-eT];exact hT)
 rw [<-eT] at te
 have ap:=K6 isF s
 have hall:=X3 isF s
 unfold a0v
 have s1:AC "across"=S J2:=by decide+kernel
 rw [s1]
 cases ht:a5b s with
 |false=>
  rw [ht] at te
  have te:a0Y [row T,.int (pre.length:Nat)]=some (.val .none):=te
  rw [b9n ht]
  simp (disch:=omega) only [m9,j9,i3,n4,f9,d8,e8,i9,r9,y6,i4,o8,j1,o9,u5,j7,C2,i8,k9,m6,t7,AH,AK,AN,AX,AO,AY,Aa,Af,Ag,te,b8m]
  try rfl
 |true=>
  rw [ht,if_pos rfl] at te
  unfold a5b at ht
  rw [Bool.and_eq_true] at ht
  obtain⟨k,hn⟩:=Option.isSome_iff_exists.mp ht.1
  obtain⟨r,hr⟩:=(b3T _).mp ht.2
  rw [b5p hr hn]
  obtain⟨ds,hds⟩:∃ds,ds=(n5 isF s).1:=⟨_,rfl⟩
  rw [<-hds] at te ap hn hall
  rw [hr] at ap
  have h:=hm (pre++(ds++[44,32])) r (by rw [eT];simp;exact ap)
  have hlen:(pre++(ds++[44,32])).length=pre.length+ds.length+2:=by simp;lia
  rw [hlen] at h
  have kd:((pre.length+ds.length:Nat):Int)+2=((pre.length+ds.length+2:Nat):Int):=by lia
  have hT2:T=pre++(ds++44::32::r):=by rw [eT,<-ap]
  have sl:=b2C (pre:=pre) (ds:=ds) (post:=44::32::r) (by rw [<-hT2];lia)
  rw [<-hT2] at sl
  have hk:(decide (1<=ds.length)&& decide (ds.length<=4))=true/\k=a8c ds:=by
   unfold a9u at hn
   split at hn
   ·rename_i c
    split at hn
    ·cases hn
    ·split at hn
     ·exact⟨c,(Option.some.inj hn).symm⟩
     ·cases hn
   ·cases hn
  have h14:1<=ds.length/\ds.length<=4:=by simpa using hk.1
  have it:=b53 hall h14.1 h14.2
  rw [<-hk.2] at it
  have ew:=a18 w J2
  cases e:P6 mot r with
  |none=>
   rw [e] at h
   show _=some (g6.val (Q2 T none))
   simp (disch:=omega) only [D4,m9,j9,i3,n4,f9,d8,e8,i9,r9,y6,i4,o8,j1,o9,u5,j7,C2,D8,o0,i8,k9,m6,t7,AH,AK,AN,AX,AO,AY,Aa,Af,Ag,te,b00,kd,h,b01]
   try rfl
  |some v=>
   obtain⟨m,q⟩:=v
   rw [e] at h
   show _=some (g6.val (Q2 T (some (if w=J2 then Mo.across k m else .down k m,q))))
   cases hw:(w==J2) with
   |true=>
    rw [hw] at ew
    have hw':w=J2:=by simpa using hw
    have mk:P4 (AC "Across") [AC "many",AC "part"] (a0 (a9 6) (a0 (m2 v9 (a9 5) (mC (.int 0))) b8)) [some (.val (row T)),some (.val (row w)),some (.val (.int (pre.length:Nat))),some (.val (.int left)),some (.val (.int ((pre.length+ds.length:Nat):Int))),some (.val (Q2 T (some (m,q)))),some (.val (.int (k:Nat)))]=some (.val (v5 (.across k m))):=by
     unfold P4
     simp (disch:=omega) only [m9,j9,i3,n4,f9,d8,e8,AH,a86]
     rw [v5]
     rfl
    rw [if_pos hw']
    simp (disch:=omega) only [D4,m9,B9,j9,i3,n4,f9,d8,e8,V2,i9,r9,y6,i4,o8,j1,o9,u5,j7,C2,D8,o0,i8,k9,m6,t7,AH,AK,AN,AX,AO,AY,Aa,Af,Ag,AM,Ae,↓reduceIte,M7,M8,a0z,sz,Nat.reduceAdd,Ay,te,b00,kd,h,a5J,sl,it,ew,mk,a5K]
    try rfl
   |false=>
    rw [hw] at ew
    have hw':¬w=J2:=by simpa using hw
    have mk:P4 (AC "Down") [AC "many",AC "part"] (a0 (a9 6) (a0 (m2 v9 (a9 5) (mC (.int 0))) b8)) [some (.val (row T)),some (.val (row w)),some (.val (.int (pre.length:Nat))),some (.val (.int left)),some (.val (.int ((pre.length+ds.length:Nat):Int))),some (.val (Q2 T (some (m,q)))),some (.val (.int (k:Nat)))]=some (.val (v5 (.down k m))):=by
     unfold P4
     simp (disch:=omega) only [m9,j9,i3,n4,f9,d8,e8,AH,a86]
     rw [v5]
     rfl
    rw [if_neg hw']
    simp (disch:=omega) only [D4,m9,B9,j9,i3,n4,f9,d8,e8,V2,i9,r9,y6,i4,o8,j1,o9,j7,D8,o0,i8,k9,m6,t7,AH,AK,AN,AX,AO,AY,Aa,Af,Ag,AM,Ae,↓reduceIte,M7,M8,a0z,sz,Nat.reduceAdd,Ay,te,b00,kd,h,a5J,sl,it,ew,mk,a5K]
    try rfl
section
variable {RD RL RLa RM RMo RP RR RT:RF}{T:List Nat}{left:Int}{mot:MF}
def a9Q(T:List Nat)(acc:List PV):Option (List Mo×List Nat)->PV
 |none=> .none
 |some (ms,r)=> .tuple [.tuple (acc++ms.map v5),.int ((T.length - r.length:Nat):Int)]
def a6W(h:mot s=none):M9 mot (k+1) s=none:=by unfold M9;rw [h]
def a9J(h:mot s=some (m,r))(hp:[44,32].isPrefixOf r=false):M9 mot (k+1) s=some ([m],r):=by
 unfold M9
 rw [h]
 dsimp only
 split
 ·rename_i r'
  rw [(b3T _).mpr ⟨r',rfl⟩] at hp;cases hp
 ·rfl
def b8Y(m:Mo):Option (List Mo×List Nat)->Option (List Mo×List Nat)
 |some (ms,e)=>some (m::ms,e)
 |none=>none
def a9K(h:mot s=some (m,44::32::r)):M9 mot (k+1) s=b8Y m (M9 mot k r):=by
 conv=>lhs;unfold M9
 simp only [h]
 cases M9 mot k r<;>rfl
def c3u(T:List Nat)(acc:List PV)(m:Mo)(o:Option (List Mo×List Nat)):a9Q T acc (b8Y m o)=a9Q T (acc++[v5 m]) o:=by
 cases o with
 |none=>rfl
 |some v=>
  obtain⟨ms,r⟩:=v
  show PyData.tuple [.tuple (acc++(m::ms).map v5),_]= .tuple [.tuple (acc++[v5 m]++ms.map v5),_]
  rw [AK,List.append_assoc];rfl
theorem a9L(hs:Suf mot)(hm:a36 RMo T left mot)(hT:T.length<=450):∀(fuel:Nat) (pre s:List Nat) (acc:List PV) (q:Option g6),T=pre++s->s.length<fuel->acc.length<=pre.length->
 W6 (mtV (mC (.bool true))) (E5 RD RL RLa RM RMo RP RR RT) fuel [some (.val (row T)),some (.val (.int (pre.length:Nat))),some (.val (.int left)),some (.own acc),q]=some (.rt (.val (a9Q T acc (M9 mot fuel s))))
 |0,_,_,_,_,_,h,_=>absurd h (Nat.not_lt_zero _)
 |fuel+1,pre,s,acc,q,eT,hf,ha=>by
  have h:=hm pre s eT
  have lT:T.length=pre.length+s.length:=by rw [eT,AQ]
  rw [W6]
  show((E5 RD RL RLa RM RMo RP RR RT [some (.val (row T)),some (.val (.int (pre.length:Nat))),some (.val (.int left)),some (.own acc),q]).bind _)=_
  cases e:mot s with
  |none=>
   rw [e] at h
   have b:E5 RD RL RLa RM RMo RP RR RT [some (.val (row T)),some (.val (.int (pre.length:Nat))),some (.val (.int left)),some (.own acc),q]=some (.rt (.val .none)):=by
    unfold E5
    simp (disch:=omega) only [m9,j9,i3,n4,f9,d8,e8,i9,r9,y6,i4,o8,j1,o9,u5,j7,C2,m6,t7,AH,Af,Ag,h,b01]
    try rfl
   rw [b,a6W e]
   rfl
  |some v=>
   obtain⟨m,r⟩:=v
   rw [e] at h
   obtain⟨p,hp0,e2⟩:=hs s m r e
   have st:=c4C hs eT e [44,32]
   have ap:=b3s (i:=3) (m:=m2 v9 (a9 4) (mC (.int 0))) (ρ:=[some (.val (row T)),some (.val (.int (pre.length:Nat))),some (.val (.int left)),some (.own acc),some (.val (Q2 T (some (m,r))))]) (r:= .val (v5 m)) (p:=v5 m) (ps:=acc) (by simp (disch:=omega) only [m9,j9,i3,n4,AH,a86]) rfl rfl (by lia)
   have ap:a2e 3 (m2 v9 (a9 4) (mC (.int 0))) [some (.val (row T)),some (.val (.int (pre.length:Nat))),some (.val (.int left)),some (.own acc),some (.val (Q2 T (some (m,r))))]=some (.nx [some (.val (row T)),some (.val (.int (pre.length:Nat))),some (.val (.int left)),some (.own (acc++[v5 m])),some (.val (Q2 T (some (m,r))))]):=ap
   have gt:a08 (.bor (acc++[v5 m]))=some (.val (.tuple (acc++[v5 m]))):=rfl
   cases hp:[44,32].isPrefixOf r with
   |false=>
    rw [hp] at st
    have b:E5 RD RL RLa RM RMo RP RR RT [some (.val (row T)),some (.val (.int (pre.length:Nat))),some (.val (.int left)),some (.own acc),q]=some (.rt (.val (.tuple [.tuple (acc++[v5 m]),.int ((T.length - r.length:Nat):Int)]))):=by
     unfold E5
     rw [Q5]
     simp (disch:=omega) only [m9,B9,j9,i3,c0H,n4,f9,d8,e8,V2,i9,r9,y6,i4,o8,j1,o9,u5,j7,C2,D8,o0,A7,m6,t7,O4,t8,AH,Ai,Af,Ag,AM,Ae,↓reduceIte,Bool.not_false,sz,Nat.reduceAdd,Ay,h,a5J,ap,a5K,st,m3,gt]
     try rfl
    rw [b,a9J e hp]
    rfl
   |true=>
    rw [hp] at st
    obtain⟨r',rfl⟩:=(b3T r).mp hp
    have ls:s.length=p.length+(r'.length+2):=by rw [e2];simp
    have lp:0<p.length:=List.length_pos_iff.mpr hp0
    have c:((T.length - (44::32::r').length:Nat):Int)+2=((pre.length+p.length+2:Nat):Int):=by
     rw [AM,AM];lia
    rw [AM,AM] at c st
    have i1:=a5K T m (44::32::r')
    rw [AM,AM] at i1
    have b:E5 RD RL RLa RM RMo RP RR RT [some (.val (row T)),some (.val (.int (pre.length:Nat))),some (.val (.int left)),some (.own acc),q]=some (.nx [some (.val (row T)),some (.val (.int ((pre.length+p.length+2:Nat):Int))),some (.val (.int left)),some (.own (acc++[v5 m])),some (.val (Q2 T (some (m,44::32::r'))))]):=by
     unfold E5
     rw [Q5]
     simp (disch:=omega) only [D4,m9,j9,i3,n4,f9,d8,e8,i9,r9,y6,j1,o9,j7,D8,o0,A7,m6,t7,O4,t8,AH,Ai,Af,Ag,Bool.not_true,h,a5J,ap,i1,st,m3,c]
     try rfl
    have ih:=a9L hs hm hT fuel (pre++(p++[44,32])) r' (acc++[v5 m]) (some (.val (Q2 T (some (m,44::32::r'))))) (by rw [eT,e2];simp) (by lia) (by simp;lia)
    have l1:(pre++(p++[44,32])).length=pre.length+p.length+2:=by simp;lia
    rw [l1] at ih
    rw [b]
    show W6 _ _ fuel _=_
    rw [ih,a9K e,c3u]
def b8Z(hs:Suf mot)(hm:a36 RMo T left mot)(hT:T.length<=450):∀pre s,T=pre++s->n6 2 (a29 RD RL RLa RM RMo RP RR RT) [row T,.int (pre.length:Nat),.int left]=some (.val (a9Q T [] (M9 mot 500 s))):=fun pre s eT=>by
 have lT:T.length=pre.length+s.length:=by rw [eT,AQ]
 have h:=a9L (RD:=RD) (RL:=RL) (RLa:=RLa) (RM:=RM) (RP:=RP) (RR:=RR) (RT:=RT) hs hm hT 500 pre s [] none eT (by lia) (Nat.zero_le _)
 unfold a29
 simp (disch:=omega) only [f9,b8y,r9,c2a,j1,o9,i8,k9,AH,AK,AN,AX,AO,AY,Aa,Af,Ag,Ae,↓reduceIte,sz,Ay,h]
 try rfl
theorem a3u(hs:Suf mot):∀(k:Nat) (s:List Nat) (ms:List Mo) (r:List Nat),M9 mot k s=some (ms,r)->∃p,p≠[]/\s=p++r
 |0,_,_,_,h=>by cases h
 |k+1,s,ms,r,h=>by
  cases e:mot s with
  |none=>rw [a6W e] at h;cases h
  |some v=>
   obtain⟨m,q⟩:=v
   obtain⟨p,hp,e2⟩:=hs s m q e
   cases hc:[44,32].isPrefixOf q with
   |false=>rw [a9J e hc] at h;cases h;exact⟨p,hp,e2⟩
   |true=>
    obtain⟨q',rfl⟩:=(b3T q).mp hc
    rw [a9K e] at h
    cases e3:M9 mot k q' with
    |none=>rw [e3] at h;cases h
    |some u=>
     obtain⟨ms',r'⟩:=u
     rw [e3] at h
     cases h
     obtain⟨p',_,e4⟩:=a3u hs k q' ms' _ e3
     exact⟨p++(44::32::p'),by simp,by rw [e2,e4];simp⟩
end
def b3j(T:List Nat)(acc:List PV)(v:List Mo×List Nat):a3h false (.val (a9Q T acc (some v))) (.val .none)=some (.val (.bool false)):=Eq.trans rfl rfl
def c2F(T:List Nat)(acc:List PV):a3h false (.val (a9Q T acc none)) (.val .none)=some (.val (.bool true)):=Eq.trans rfl rfl
def c4c(T:List Nat)(ms:List Mo)(r:List Nat):v9 (.val (a9Q T [] (some (ms,r)))) (.val (.int 0))=some (.val (.tuple (ms.map v5))):=Eq.trans rfl rfl
def c1N(T:List Nat)(acc:List PV)(ms:List Mo)(r:List Nat):v9 (.val (a9Q T acc (some (ms,r)))) (.val (.int 1))=some (.val (.int ((T.length - r.length:Nat):Int))):=Eq.trans rfl rfl
def c48(hs:Suf mot)(eT:T=pre++s)(h:M9 mot k s=some (ms,r))(y:List Nat):
 Q6 (.val (row T)) (.val (row y)) (.val (.int ((T.length - r.length:Nat):Int)))=some (.val (.bool (y.isPrefixOf r))):=by
 obtain⟨p,_,e⟩:=a3u hs k s ms r h
 have e2:T=(pre++p)++r:=by rw [eT,e,List.append_assoc]
 have:=a0n (pre:=pre++p) (s:=r) (y:=y)
 rw [<-e2] at this
 rw [b9c e2]
 exact this
def b8s(w:List Nat)(ps:List Mo)(r:List Nat):Option (Mo×List Nat):=if(decide (2<=ps.length)&& decide (ps.length<=6))=true then some (if w=B6 then .beside ps else .above ps,r) else none
def b57(h:M9 mot 500 s=none):a2W mot w s=none:=by unfold a2W;rw [h]
def c0x(h:M9 mot 500 s=some (ps,r))(hp:[41].isPrefixOf r=false):a2W mot w s=none:=by
 unfold a2W
 rw [h]
 split
 ·rename_i e;cases e;simp at hp
 ·rfl
def b58(h:M9 mot 500 s=some (ps,41::r)):a2W mot w s=b8s w ps r:=by
 unfold a2W
 rw [h]
 rfl
def c0y(hs:Suf mot)(hT:T.length<=450)(hm:∀pre s,T=pre++s->RP [row T,.int (pre.length:Nat),.int left]=some (.val (a9Q T [] (M9 mot 500 s)))):
 ∀pre s,T=pre++s->n6 1 (a5h RD RL RLa RM RMo RP RR RT) [row T,row w,.int (pre.length:Nat),.int left]=some (.val (Q2 T (a2W mot w s))):=fun pre s eT=>by
 have h:=hm pre s eT
 have s1:AC "beside"=S B6:=by decide+kernel
 have c6:a0b= .int 6:=rfl
 unfold a5h
 rw [a6Z,s1,c6]
 cases e:M9 mot 500 s with
 |none=>
  rw [e] at h
  rw [b57 e]
  simp (disch:=omega) only [m9,j9,i3,n4,f9,d8,e8,i9,r9,y6,i4,o8,j1,o9,u5,j7,C2,i8,k9,m6,t7,t6,a4H,AH,AK,AN,AX,AO,AY,Aa,Af,Ag,h,c2F]
  try rfl
 |some v=>
  obtain⟨ms,r⟩:=v
  rw [e] at h
  have st:=c48 hs eT e [41]
  cases hp:[41].isPrefixOf r with
  |false=>
   rw [hp] at st
   rw [c0x e hp]
   simp (disch:=omega) only [m9,j9,i3,n4,f9,d8,e8,i9,r9,y6,i4,o8,j1,o9,u5,j7,C2,i8,k9,A7,m6,t7,O4,t8,t6,K4,AH,Ai,AK,AN,AX,AO,AY,Aa,Af,Ag,Bool.not_false,h,b3j,c1N,st,m3]
   try rfl
  |true=>
   rw [hp] at st
   obtain⟨r',rfl⟩:=(b3S 41 r).mp hp
   rw [b58 e]
   obtain⟨p,_,e2⟩:=a3u hs 500 s ms _ e
   have lT:T.length=pre.length+p.length+(r'.length+1):=by rw [eT,e2];simp;lia
   have c:((T.length - (r'.length+1):Nat):Int)+1=((T.length - r'.length:Nat):Int):=by lia
   rw [AM] at st
   have i1:=c1N T [] ms (41::r')
   rw [AM] at i1
   have i0:=c4c T ms (41::r')
   have gl:N8 (.val (.tuple (ms.map v5)))=some (.val (.int (ms.length:Nat))):=by
    show some (g6.val (.int ((ms.map v5).length:Nat)))=_
    rw [Ak]
   have ew:=a18 w B6
   unfold b8s
   by_cases h1:(2:Int)<=(ms.length:Nat)
   ·have d1:decide (2<=ms.length)=true:=decide_eq_true (by lia)
    by_cases h2:((ms.length:Nat):Int)<=6
    ·have d2:decide (ms.length<=6)=true:=decide_eq_true (by lia)
     rw [d1,d2]
     cases hw:(w==B6) with
     |true=>
      rw [hw] at ew
      have hw':w=B6:=by simpa using hw
      have mk:P4 (AC "Beside") [AC "parts"] (a0 (m2 v9 (a9 4) (mC (.int 0))) b8) [some (.val (row T)),some (.val (row w)),some (.val (.int (pre.length:Nat))),some (.val (.int left)),some (.val (a9Q T [] (some (ms,41::r'))))]=some (.val (v5 (.beside ms))):=by
       unfold P4
       simp (disch:=omega) only [m9,j9,i3,n4,f9,d8,e8,AH,i0]
       rw [v5,a2X]
       rfl
      show _=some (g6.val (Q2 T (some (if w=B6 then Mo.beside ms else .above ms,r'))))
      rw [if_pos hw']
      simp (disch:=omega) only [D4,M5,l8,a0P,m9,B9,j9,i3,n4,f9,d8,e8,V2,i9,r9,y6,i4,o8,j1,o9,u5,j7,C2,D8,o0,i8,k9,A7,m6,t7,O4,t8,t6,K4,AH,Ai,AK,AN,AX,AO,AY,Aa,Af,Ag,AM,Ae,↓reduceIte,Bool.not_true,sz,Nat.reduceAdd,Ay,h,b3j,i1,st,m3,i0,gl,decide_eq_true h1,decide_eq_true h2,l8,ew,mk,c]
      try rfl
     |false=>
      rw [hw] at ew
      have hw':¬w=B6:=by simpa using hw
      have mk:P4 (AC "Above") [AC "parts"] (a0 (m2 v9 (a9 4) (mC (.int 0))) b8) [some (.val (row T)),some (.val (row w)),some (.val (.int (pre.length:Nat))),some (.val (.int left)),some (.val (a9Q T [] (some (ms,41::r'))))]=some (.val (v5 (.above ms))):=by
       unfold P4
       simp (disch:=omega) only [m9,j9,i3,n4,f9,d8,e8,AH,i0]
       rw [v5,a2X]
       rfl
      show _=some (g6.val (Q2 T (some (if w=B6 then Mo.beside ms else .above ms,r'))))
      rw [if_neg hw']
      simp (disch:=omega) only [D4,M5,l8,a0P,m9,B9,j9,i3,n4,f9,d8,e8,V2,i9,r9,y6,i4,o8,j1,o9,j7,D8,o0,i8,k9,A7,m6,t7,O4,t8,t6,K4,AH,Ai,AK,AN,AX,AO,AY,Aa,Af,Ag,AM,Ae,↓reduceIte,Bool.not_true,sz,Nat.reduceAdd,Ay,h,b3j,i1,st,m3,i0,gl,decide_eq_true h1,decide_eq_true h2,l8,ew,mk,c]
      try rfl
    ·have d2:decide (ms.length<=6)=false:=decide_eq_false (by lia)
     rw [d1,d2]
     show _=some (g6.val (Q2 T none))
     simp (disch:=omega) only [M5,l8,a0P,m9,B9,j9,i3,n4,f9,d8,e8,i9,r9,y6,i4,o8,j1,o9,u5,j7,C2,D8,o0,i8,k9,A7,m6,t7,O4,t8,t6,K4,AH,Ai,AK,AN,AX,AO,AY,Aa,Af,Ag,Bool.not_true,Bool.not_false,h,b3j,i1,st,m3,i0,gl,decide_eq_true h1,decide_eq_false h2,l8]
     try rfl
   ·have d1:decide (2<=ms.length)=false:=decide_eq_false (by lia)
    rw [d1]
    show _=some (g6.val (Q2 T none))
    simp (disch:=omega) only [M5,l8,b0M,m9,B9,j9,i3,n4,f9,d8,e8,i9,r9,y6,i4,o8,j1,o9,u5,j7,C2,D8,o0,i8,k9,A7,m6,t7,O4,t8,t6,K4,AH,Ai,AK,AN,AX,AO,AY,Aa,Af,Ag,Bool.not_true,Bool.not_false,h,b3j,i1,st,m3,i0,gl,decide_eq_false h1,l8]
    try rfl
def c0I(hL:∀w pre s,T=pre++s->RL [row T,row w,.int (pre.length:Nat),.int left]=some (.val (Q2 T (a2W mot w s))))
 (hR:∀w pre s,T=pre++s->RR [row T,row w,.int (pre.length:Nat),.int left]=some (.val (Q2 T (b3Y mot w s))))
 (hTu:∀w pre s,T=pre++s->RT [row T,row w,.int (pre.length:Nat),.int left]=some (.val (Q2 T (b1v mot w s))))
 (hD:∀pre s,T=pre++s->RD [row T,.int (pre.length:Nat),.int left]=some (.val (Q2 T (b4E mot s)))):
 ∀w pre s,T=pre++s->n6 0 (J8 RD RL RLa RM RMo RP RR RT) [row T,row w,.int (pre.length:Nat),.int left]=some (.val (Q2 T (a3S mot w s))):=fun w pre s eT=>by
 have s1:AC "beside"=S B6:=by decide+kernel
 have s2:AC "above"=S W5:=by decide+kernel
 have s3:AC "across"=S J2:=by decide+kernel
 have s4:AC "down"=S a5V:=by decide+kernel
 have s5:AC "dye"=S b5C:=by decide+kernel
 have q1:=a18 w B6
 have q2:=a18 w W5
 have q3:=a18 w J2
 have q4:=a18 w a5V
 have q5:=a18 w b5C
 have q6:=b50 false w Z8 okT
 have h1:=hL w pre s eT
 have h2:=hR w pre s eT
 have h3:=hTu w pre s eT
 have h4:=hD pre s eT
 unfold J8 a3S
 rw [s1,s2,s3,s4,s5,b2H]
 have b1:∀v:List Nat,(w==v)=true↔w=v:=fun v=>beq_iff_eq
 have b0:∀v:List Nat,(w==v)=false->¬w=v:=fun v h z=>by rw [(b1 v).mpr z] at h;cases h
 cases e1:(w==B6) with
 |true=>rw [e1] at q1;rw [if_pos (.inl ((b1 _).mp e1))];simp (disch:=omega) only [m9,j9,i3,n4,f9,d8,e8,i9,i4,o8,j1,u5,j7,C2,i8,k9,m6,t7,t6,a4H,AH,AK,AN,AO,Aj,q1,h1];try rfl
 |false=>
  rw [e1] at q1
  cases e2:(w==W5) with
  |true=>rw [e2] at q2;rw [if_pos (.inr ((b1 _).mp e2))];simp (disch:=omega) only [m9,j9,i3,n4,f9,d8,e8,i9,i4,o8,j1,u5,j7,C2,i8,k9,m6,t7,t6,K4,AH,AK,AN,AO,Aj,q1,q2,h1];try rfl
  |false=>
   rw [e2] at q2
   rw [if_neg (fun z=>z.elim (b0 _ e1) (b0 _ e2))]
   cases e3:(w==J2) with
   |true=>rw [e3] at q3;rw [if_pos (.inl ((b1 _).mp e3))];simp (disch:=omega) only [m9,j9,i3,n4,f9,d8,e8,i9,i4,o8,j1,o9,u5,j7,C2,D8,o0,i8,k9,m6,t7,t6,a4H,K4,AH,AK,AN,AO,Aj,q1,q2,q3,h2];try rfl
   |false=>
    rw [e3] at q3
    cases e4:(w==a5V) with
    |true=>rw [e4] at q4;rw [if_pos (.inr ((b1 _).mp e4))];simp (disch:=omega) only [m9,j9,i3,n4,f9,d8,e8,i9,i4,o8,j1,o9,u5,j7,C2,D8,o0,i8,k9,m6,t7,t6,K4,AH,AK,AN,AO,Aj,q1,q2,q3,q4,h2];try rfl
    |false=>
     rw [e4] at q4
     rw [if_neg (fun z=>z.elim (b0 _ e3) (b0 _ e4))]
     rw [if_neg Ar] at q6
     cases e6:Z8.contains w with
     |true=>rw [e6] at q6;rw [if_pos rfl];simp (disch:=omega) only [m9,j9,i3,n4,f9,d8,e8,i9,i4,o8,j1,o9,u5,j7,C2,D8,o0,i8,k9,m6,t7,t6,K4,AH,AK,AN,AO,Aj,q1,q2,q3,q4,q6,h3];try rfl
     |false=>
      rw [e6] at q6
      rw [if_neg Ar]
      cases e5:(w==b5C) with
      |true=>rw [e5] at q5;rw [if_pos ((b1 _).mp e5)];simp (disch:=omega) only [m9,j9,i3,n4,f9,d8,e8,i9,i4,o8,j1,o9,u5,j7,C2,D8,o0,i8,k9,m6,t7,t6,K4,AH,AK,AN,AO,Aj,q1,q2,q3,q4,q6,q5,h4];try rfl
      |false=>rw [e5] at q5;rw [if_neg (b0 _ e5)];simp (disch:=omega) only [m9,j9,i3,n4,i4,o8,j1,o9,j7,D8,o0,i8,k9,m6,t7,t6,K4,AH,AK,AN,AO,Aj,q1,q2,q3,q4,q6,q5];try rfl
def b48(n:Nat)(r:List Nat):T3 (n+1) (91::r)=a4J r:=by rw [T3]
def b49(h1:[91].isPrefixOf s=false)(h2:(n5 J6 s).2=40::r):T3 (n+1) s=a3S (T3 n) (n5 J6 s).1 r:=by
 rw [T3]
 ·simp only [h2]
 ·intro q e;subst e;simp at h1
def b5a(h1:[91].isPrefixOf s=false)(h2:[40].isPrefixOf (n5 J6 s).2=false):T3 (n+1) s=if a9j (n5 J6 s).1=true then some (.named (n5 J6 s).1,(n5 J6 s).2) else none:=by
 rw [T3]
 ·split
  ·rename_i q e;rw [e] at h2;simp at h2
  ·rfl
 ·intro q e;subst e;simp at h1
def b5l(h:a4J r=some (m,e)):∃p,r=p++e:=by
 have ap:=K6 (· !=93) r
 unfold a4J at h
 split at h
 ·rename_i y q hq
  split at h
  ·cases h
   rw [hq] at ap
   exact⟨(n5 (· !=93) r).1++[y],by rw [List.append_assoc];exact ap⟩
  ·cases h
 ·cases h
def b60(hs:Suf mot)(h:a3S mot w s=some (m,r)):∃p,s=p++r:=by
 have hl:=b6W hs
 unfold a3S at h
 split at h
 ·unfold a2W at h
  split at h
  ·rename_i ps q e
   split at h
   ·cases h
    obtain⟨p,_,e2⟩:=a3u hs 500 s ps _ e
    exact⟨p++[41],by rw [e2];simp⟩
   ·cases h
  ·cases h
 ·split at h
  ·cases ht:a5b s with
   |false=>rw [b9n ht] at h;cases h
   |true=>
    unfold a5b at ht
    rw [Bool.and_eq_true] at ht
    obtain⟨k,hn⟩:=Option.isSome_iff_exists.mp ht.1
    obtain⟨q,hr⟩:=(b3T _).mp ht.2
    rw [b5p hr hn] at h
    have ap:=K6 isF s
    rw [hr] at ap
    cases e:P6 mot q with
    |none=>rw [e] at h;cases h
    |some v=>
     obtain⟨m',q'⟩:=v
     rw [e] at h
     cases h
     obtain⟨p,_,e2⟩:=hl q m' _ e
     exact⟨(n5 isF s).1++(44::32::p),ap.trans (by rw [e2];simp)⟩
  ·split at h
   ·unfold b1v at h
    split at h
    ·rename_i m' q' e
     cases h
     obtain⟨p,_,e2⟩:=hl s m' _ e
     exact⟨p,e2⟩
    ·cases h
   ·split at h
    ·unfold b4E at h
     split at h
     ·rename_i a b q
      split at h
      ·split at h
       ·rename_i m' q' e
        cases h
        obtain⟨p,_,e2⟩:=hl q m' _ e
        exact⟨a::44::32::b::44::32::p,by rw [e2];simp⟩
       ·cases h
      ·cases h
     ·cases h
    ·cases h
theorem a9h:∀n:Nat,Suf (T3 n)
 |0=>fun s m r h=>by rw [T3] at h;cases h
 |n+1=>fun s m r h=>by
  have hs:=a9h n
  cases h1:[91].isPrefixOf s with
  |true=>
   obtain⟨q,rfl⟩:=(b3S 91 s).mp h1
   rw [b48] at h
   obtain⟨p,e⟩:=b5l h
   exact⟨91::p,by simp,by rw [e];rfl⟩
  |false=>
   have ap:=K6 J6 s
   cases h2:[40].isPrefixOf (n5 J6 s).2 with
   |true=>
    obtain⟨q,e⟩:=(b3S 40 _).mp h2
    rw [b49 h1 e] at h
    obtain⟨p,e2⟩:=b60 hs h
    rw [e,e2] at ap
    exact⟨(n5 J6 s).1++(40::p),by simp,by rw [List.append_assoc];exact ap⟩
   |false=>
    rw [b5a h1 h2] at h
    split at h
    ·rename_i hn
     cases h
     refine⟨(n5 J6 s).1,fun z=> ?_,ap⟩
     rw [z] at hn
     cases hn
    ·cases h
def b65:a36 (n6 2 (V8 RD RL RLa RM RMo RP RR RT)) T 0 (T3 0):=fun pre s eT=>by
 unfold V8
 have e:Q2 T (T3 0 s)= .none:=by rw [T3];rfl
 rw [e]
 simp (disch:=omega) only [m9,j9,i3,n4,i4,o8,j1,u5,j7,C2,i8,k9,m6,t7,AH,AK,AN,AX,AO,AY,Aa,beq_self_eq_true,b0U]
 try rfl
def b8C(hT:T.length<=450)(hM:∀w pre s,T=pre++s->RM [row T,row w,.int (pre.length:Nat),.int (n:Nat)]=some (.val (Q2 T (a3S (T3 n) w s)))):
 a36 (n6 2 (V8 RD RL RLa RM RMo RP RR RT)) T ((n+1:Nat):Int) (T3 (n+1)):=fun pre s eT=>by
 have st:=a0n (pre:=pre) (s:=s) (y:=[91])
 rw [<-eT] at st
 have n0:M1 (.val (.int ((n+1:Nat):Int))) (.val (.int 0))=some (.val (.bool false)):=by
  have:¬((n+1:Nat):Int)=0:=by lia
  simp (disch:=omega) only [b0U,this]
  try simpa using this
 have k1:((n+1:Nat):Int) - 1=(n:Nat):=by lia
 unfold V8
 rw [b4Z,c2O]
 cases h1:[91].isPrefixOf s with
 |true=>
  rw [h1] at st
  obtain⟨q,rfl⟩:=(b3S 91 s).mp h1
  have pl:=b89 (pre:=pre) (r:=q) (by rw [<-eT];exact hT)
  rw [<-eT] at pl
  rw [b48]
  simp (disch:=omega) only [m9,j9,i3,n4,f9,d8,e8,i9,i4,o8,j1,o9,u5,j7,C2,D8,o0,i8,k9,A7,m6,t7,O4,AH,AK,AN,AX,AO,AY,Aa,n0,st,m3,pl]
  try rfl
 |false=>
  rw [h1] at st
  have le:=b18 (pre:=pre) (s:=s) (by rw [<-eT];exact hT)
  have ap:=K6 J6 s
  have hall:=X3 J6 s
  rw [<-eT] at le
  have lT:T.length=pre.length+s.length:=by rw [eT,AQ]
  have ls:s.length=(n5 J6 s).1.length+(n5 J6 s).2.length:=by rw [<-AQ,<-ap]
  have sl:=b2C (pre:=pre) (ds:=(n5 J6 s).1) (post:=(n5 J6 s).2) (by rw [<-ap,<-eT];lia)
  rw [<-ap,<-eT] at sl
  have st2:=a0n (pre:=pre++(n5 J6 s).1) (s:=(n5 J6 s).2) (y:=[40])
  rw [List.append_assoc,<-ap,<-eT,AQ] at st2
  have ne:=c0U hall (by lia)
  have fz:∀(nn:MS) (a b c d:Option g6) (p:PV),b43 4 nn [a,b,c,d,some (.val p)]=nn [a,b,c,d,some (.val p)]:=fun _ _ _ _ _ _=>rfl
  cases h2:[40].isPrefixOf (n5 J6 s).2 with
  |true=>
   rw [h2] at st2
   obtain⟨q,e⟩:=(b3S 40 _).mp h2
   rw [b49 h1 e]
   have h:=hM (n5 J6 s).1 (pre++((n5 J6 s).1++[40])) q (by rw [eT];simp;rw [<-e];exact ap)
   have l1:(pre++((n5 J6 s).1++[40])).length=pre.length+(n5 J6 s).1.length+1:=by simp;lia
   rw [l1] at h
   have c1:((pre.length+(n5 J6 s).1.length:Nat):Int)+1=((pre.length+(n5 J6 s).1.length+1:Nat):Int):=by lia
   generalize (n5 J6 s).1=w at*
   simp (disch:=omega) only [D4,b4I,m9,j9,i3,n4,f9,d8,e8,i9,r9,y6,i4,o8,j1,o9,u5,j7,C2,D8,o0,i8,k9,A7,m6,t7,O4,AH,AK,AN,AX,AO,AY,Aa,Af,Ag,M7,M8,a0z,n0,st,m3,le,sl,st2,fz,c1,k1,h]
   try rfl
  |false=>
   rw [h2] at st2
   rw [b5a h1 h2]
   cases hn:a9j (n5 J6 s).1 with
   |true=>
    rw [hn] at ne
    have mk:P4 (AC "Named") [AC "name"] (a0 (a9 4) b8) [some (.val (row T)),some (.val (.int (pre.length:Nat))),some (.val (.int ((n+1:Nat):Int))),some (.val (.int ((pre.length+(n5 J6 s).1.length:Nat):Int))),some (.val (row (n5 J6 s).1))]=some (.val (v5 (.named (n5 J6 s).1))):=by
     unfold P4
     simp (disch:=omega) only [i3,n4,f9,d8,e8,AH]
     rw [v5]
     rfl
    have c2:pre.length+(n5 J6 s).1.length=T.length - (n5 J6 s).2.length:=by lia
    have rs:Q2 T (some (Mo.named (n5 J6 s).1,(n5 J6 s).2))= .tuple [v5 (.named (n5 J6 s).1),.int ((pre.length+(n5 J6 s).1.length:Nat):Int)]:=by rw [c2];rfl
    rw [if_pos rfl,rs]
    clear rs c2 ap ls hall
    generalize (n5 J6 s).1=w at*
    simp (disch:=omega) only [m9,j9,i3,n4,f9,d8,e8,V2,i9,r9,y6,i4,o8,j1,o9,u5,j7,C2,D8,o0,i8,k9,A7,m6,t7,O4,AH,AK,AN,AX,AO,AY,Aa,Af,Ag,AM,Ae,↓reduceIte,M7,M8,a0z,sz,Nat.reduceAdd,Ay,n0,st,m3,le,sl,st2,fz,ne,mk]
    try rfl
   |false=>
    rw [hn] at ne
    rw [if_neg Ar]
    generalize (n5 J6 s).1=w at*
    simp (disch:=omega) only [m9,j9,i3,n4,f9,d8,e8,i9,r9,y6,i4,o8,j1,o9,j7,D8,o0,i8,k9,A7,m6,t7,O4,AH,AK,AN,AX,AO,AY,Aa,Af,Ag,M7,M8,a0z,n0,st,m3,le,sl,st2,fz,ne]
    try rfl
def b3e(n:Nat):X0 (n+1)=n6 2 (V8 (a6b n) (a6c n) (V4 n) (N2 n) (X0 n) (a4y n) (a1N n) (a3p n)):=rfl
def c0p(n:Nat):N2 (n+1)=n6 0 (J8 (a6b n) (a6c n) (V4 n) (N2 n) (X0 n) (a4y n) (a1N n) (a3p n)):=rfl
theorem b09(hT:T.length<=450):∀(k n:Nat),4*k+1<=n->a36 (X0 n) T (k:Nat) (T3 k)
 |0,n,h=>by
  obtain⟨n,rfl⟩:∃m,n=m+1:=⟨n - 1,by lia⟩
  rw [b3e]
  exact b65
 |k+1,n,h=>by
  obtain⟨n,rfl⟩:∃m,n=m+4:=⟨n - 4,by lia⟩
  have ih:=b09 hT k n (by lia)
  have hs:=a9h k
  have hla:a36 (V4 (n+1)) T (k:Nat) (P6 (T3 k)):=c0A hs ih
  rw [b3e]
  refine b8C hT ?_
  rw [c0p]
  exact c0I (fun w=>c0y hs hT (b8Z hs ih hT)) (fun w=>c3t hT hla) (fun w=>b7w hla) (b95 hT hla)
def c40:Option Mo->PV
 |some m=>v5 m
 |none=> .none
def b9m(hl:t.length<=450):Z1 [row t]=some (.val (c40 (b6m t))):=by
 have h:=b09 hl 8 40 (by lia) [] t rfl
 have h:a6a [row t,.int 0,.int 8]=some (.val (Q2 t (T3 8 t))):=h
 have gl:=a0U (l:=t) (by lia)
 have c8:a5r= .int 8:=rfl
 have i1:a1n "str" (.val (row t))=some (.val (.bool true)):=rfl
 unfold Z1 a6C b6m
 rw [c8]
 cases e:T3 8 t with
 |none=>
  rw [e] at h
  show _=some (g6.val PyData.none)
  simp (disch:=omega) only [m9,B9,j9,i3,n4,f9,d8,e8,i9,r9,y6,i4,o8,j1,o9,u5,j7,C2,D8,o0,i8,k9,A7,m6,t7,O4,t8,t6,a4H,AH,Ai,AK,AN,AX,AO,AY,Aa,Af,Ag,Bool.not_true,i1,h,b01]
  try rfl
 |some v=>
  obtain⟨m,r⟩:=v
  rw [e] at h
  obtain⟨p,hp,e2⟩:=a9h 8 t m r e
  have lt:t.length=p.length+r.length:=by rw [e2,AQ]
  have lp:0<p.length:=List.length_pos_iff.mpr hp
  cases r with
  |nil=>
   have i2:=a5K t m []
   rw [Ae,Nat.sub_zero] at i2
   have ne:gNe (.val (.int (t.length:Nat))) (.val (.int (t.length:Nat)))=some (.val (.bool false)):=by simp (disch:=omega) only [Bool.not_true,beq_self_eq_true,b8b]
   show _=some (g6.val (v5 m))
   simp (disch:=omega) only [m9,B9,j9,i3,n4,f9,d8,e8,i9,r9,y6,i4,o8,j1,o9,j7,D8,o0,i8,k9,A7,m6,t7,O4,t8,t6,K4,AH,Ai,AK,AN,AX,AO,AY,Aa,Af,Ag,Bool.not_true,i1,h,a5J,i2,gl,ne,a86]
   try rfl
  |cons y r=>
   have i2:=a5K t m (y::r)
   have ne:gNe (.val (.int ((t.length - (y::r).length:Nat):Int))) (.val (.int (t.length:Nat)))=some (.val (.bool true)):=by
    have:¬((t.length - (y::r).length:Nat):Int)=(t.length:Nat):=by rw [AM] at lt ⊢;lia
    simp (disch:=omega) only [AM,b8b]
    simpa using this
   rw [AM] at i2 ne
   show _=some (g6.val PyData.none)
   simp (disch:=omega) only [m9,B9,j9,i3,n4,f9,d8,e8,i9,r9,y6,i4,o8,j1,o9,u5,j7,C2,D8,o0,i8,k9,A7,m6,t7,O4,t8,t6,K4,AH,Ai,AK,AN,AX,AO,AY,Aa,Af,Ag,Bool.not_true,i1,h,a5J,i2,gl,ne]
   try rfl
def dg(k:Nat):List Nat:=if k<10 then [48+k] else [48+k / 10,48+k % 10]
def b9G(hk:k<25):b0i (.val (.int (k:Nat)))=some (.val (row (dg k))):=by
 match k,hk with
 |0,_=>rfl
 |1,_=>rfl
 |2,_=>rfl
 |3,_=>rfl
 |4,_=>rfl
 |5,_=>rfl
 |6,_=>rfl
 |7,_=>rfl
 |8,_=>rfl
 |9,_=>rfl
 |10,_=>rfl
 |11,_=>rfl
 |12,_=>rfl
 |13,_=>rfl
 |14,_=>rfl
 |15,_=>rfl
 |16,_=>rfl
 |17,_=>rfl
 |18,_=>rfl
 |19,_=>rfl
 |20,_=>rfl
 |21,_=>rfl
 |22,_=>rfl
 |23,_=>rfl
 |24,_=>rfl
 |k+25,h=>lia
def c2h(k:Nat):1<=(dg k).length/\(dg k).length<=2:=by unfold dg;split<;>simp
theorem b2X{bt:Nat->Nat->Bool}{K:Nat->Int}(h:∀i j,bt i j=decide (K i>K j)):∀m,argBest bt m<=m/\∀j,j<=m->K j<=K (argBest bt m)
 |0=>⟨AR _,fun j hj=>by
  have:j=0:=by lia
  subst this
  exact Int.le_refl _⟩
 |m+1=>by
  obtain⟨h1,h2⟩:=b2X h m
  have hb:=h (m+1) (argBest bt m)
  simp only [argBest]
  by_cases c:K (m+1)>K (argBest bt m)
  ·rw [hb,decide_eq_true c]
   simp only [if_true]
   refine⟨AR _,fun j hj=> ?_⟩
   rcases Nat.lt_or_ge j (m+1) with hj'|hj'
   ·have:=h2 j (by lia);lia
   ·have:j=m+1:=by lia
    subst this
    exact Int.le_refl _
  ·rw [hb,decide_eq_false c]
   simp only [BC,if_false]
   refine⟨by lia,fun j hj=> ?_⟩
   rcases Nat.lt_or_ge j (m+1) with hj'|hj'
   ·exact h2 j (by lia)
   ·have:j=m+1:=by lia
    subst this
    lia
def b6z{is:List Int}(h0:0<is.length):a0O is∈is/\∀i∈is,i<=a0O is:=by
 obtain⟨h1,h2⟩:=b2X (bt:=fun i j=>decide (is.getD i 0>is.getD j 0)) (K:=fun i=>is.getD i 0) (fun i j=>rfl) (is.length - 1)
 have hb:argBest (fun i j=>decide (is.getD i 0>is.getD j 0)) (is.length - 1)<is.length:=by lia
 constructor
 ·unfold a0O
  rw [List.getD_eq_getElem?_getD,Az hb]
  exact List.getElem_mem hb
 ·intro i hi
  obtain⟨j,hj,rfl⟩:=List.getElem_of_mem hi
  have:=h2 j (by lia)
  simp only [List.getD_eq_getElem?_getD,Az hj] at this
  unfold a0O
  rw [List.getD_eq_getElem?_getD]
  simpa using this
mutual
def x4:Mo->List Nat
 | .plain rows=>[91]++z7 [47] rows++[93]
 | .named w=>w
 | .beside ps=>[98,101,115,105,100,101,40]++z7 [44,32] (a5y ps)++[41]
 | .above ps=>[97,98,111,118,101,40]++z7 [44,32] (a5y ps)++[41]
 | .across k p=>[97,99,114,111,115,115,40]++dg k++[44,32]++x4 p++[41]
 | .down k p=>[100,111,119,110,40]++dg k++[44,32]++x4 p++[41]
 | .turned w p=>w++[40]++x4 p++[41]
 | .dyed a b p=>[100,121,101,40]++[a]++[44,32]++[b]++[44,32]++x4 p++[41]
def a5y:List Mo->List (List Nat)
 |[]=>[]
 |p::ps=>x4 p::a5y ps
end
mutual
def x6:Mo->Nat
 | .plain _=>1
 | .named _=>1
 | .beside ps=>1+J9 ps
 | .above ps=>1+J9 ps
 | .across _ p=>1+x6 p
 | .down _ p=>1+x6 p
 | .turned _ p=>1+x6 p
 | .dyed _ _ p=>1+x6 p
def J9:List Mo->Nat
 |[]=>0
 |p::ps=>max (x6 p) (J9 ps)
end
mutual
def J7:Mo->Prop
 | .plain rows=>a6e rows=true
 | .named w=>a9j w=true/\∀x∈w,J6 x=true
 | .beside ps=>2<=ps.length/\ps.length<=6/\b3E ps
 | .above ps=>2<=ps.length/\ps.length<=6/\b3E ps
 | .across k p=>1<=k/\k<=24/\J7 p
 | .down k p=>1<=k/\k<=24/\J7 p
 | .turned w p=>w∈Z8/\J7 p
 | .dyed a b p=>J6 a=true/\J6 b=true/\J7 p
def b3E:List Mo->Prop
 |[]=>True
 |p::ps=>J7 p/\b3E ps
end
theorem S3:∀ps:List Mo,a5y ps=ps.map x4
 |[]=>by rw [a5y];rfl
 |p::ps=>by rw [a5y,S3 ps];rfl
theorem G0:∀{ps:List Mo} {p:Mo},b3E ps->p∈ps->J7 p
 |[],_,_,h=>by cases h
 |q::ps,p,h,hp=>by
  rw [b3E] at h
  rcases AZ.mp hp with rfl|hp
  ·exact h.1
  ·exact G0 h.2 hp
theorem G4:∀{ps:List Mo} {p:Mo},p∈ps->x6 p<=J9 ps
 |[],_,h=>by cases h
 |q::ps,p,hp=>by
  rw [J9]
  rcases AZ.mp hp with rfl|hp
  ·lia
  ·have:=G4 hp;lia
def a0w(m:Mo):1<=x6 m:=by cases m<;>rw [x6]<;>lia
theorem Z2:∀{ls:List (List Nat)} {l:List Nat},l∈ls->l.length<=(z7 sep ls).length
 |[],_,h=>by cases h
 |[x],l,h=>by rw [List.mem_singleton.mp h];simp [z7]
 |x::y::r,l,h=>by
  rcases AZ.mp h with rfl|h
  ·simp [z7]
  ·have:=Z2 (sep:=sep) h
   simp [z7];lia
theorem a6L:∀{ls:List (List Nat)},(ls.map (·.length)).sum+ls.length*sep.length<=(z7 sep ls).length+sep.length
 |[]=>by simp [z7]
 |[x]=>by simp [z7]
 |x::y::r=>by
  have:=a6L (sep:=sep) (ls:=y::r)
  simp only [z7,AK,List.sum_cons,AM,AQ,Nat.add_mul,Nat.one_mul] at this ⊢
  lia
def a1g(f1 f2 f3 f4 f5 f6 f7 f8:RF):Mo->RF
 | .plain _=>f1
 | .named _=>f2
 | .beside _=>f3
 | .above _=>f4
 | .across _ _=>f5
 | .down _ _=>f6
 | .turned _ _=>f7
 | .dyed _ _ _=>f8
abbrev b4a(f1 f2 f3 f4 f5 f6 f7 f8:RF):List (Str×RF):=[(AC "Plain",f1),(AC "Named",f2),(AC "Beside",f3),(AC "Above",f4),(AC "Across",f5),(AC "Down",f6),(AC "Turned",f7),(AC "Dyed",f8)]
def a2f(hx:x=AC "text"\/x=AC "deep"\/x=AC "inner")(h:mo ρ=some (.val (v5 m))):
 O3 (b4a f1 f2 f3 f4 f5 f6 f7 f8) x mo b8 ρ=a1g f1 f2 f3 f4 f5 f6 f7 f8 m [v5 m]:=by
 unfold O3
 rw [h]
 cases m<;>rw [v5]<;>rcases hx with rfl|rfl|rfl<;>rfl
def c0f(R:List (List Nat)):A5 [AC "Plain"] (AC "rows") (.val (v5 (.plain R)))=some (.val (.tuple (R.map row))):=by rw [v5];rfl
def b5R(w:List Nat):A5 [AC "Named"] (AC "name") (.val (v5 (.named w)))=some (.val (row w)):=by rw [v5];rfl
def a7j(ps:List Mo):A5 [AC "Beside",AC "Above"] (AC "parts") (.val (v5 (.beside ps)))=some (.val (.tuple (ps.map v5))):=by rw [v5,a2X];rfl
def a7i(ps:List Mo):A5 [AC "Beside",AC "Above"] (AC "parts") (.val (v5 (.above ps)))=some (.val (.tuple (ps.map v5))):=by rw [v5,a2X];rfl
def b7Y(k:Nat)(p:Mo):A5 [AC "Across",AC "Down"] (AC "many") (.val (v5 (.across k p)))=some (.val (.int (k:Nat))):=by rw [v5];rfl
def b7X(k:Nat)(p:Mo):A5 [AC "Across",AC "Down"] (AC "many") (.val (v5 (.down k p)))=some (.val (.int (k:Nat))):=by rw [v5];rfl
def c2t(w:List Nat)(p:Mo):A5 [AC "Turned"] (AC "way") (.val (v5 (.turned w p)))=some (.val (row w)):=by rw [v5];rfl
def c2s(a b:Nat)(p:Mo):A5 [AC "Dyed"] (AC "one") (.val (v5 (.dyed a b p)))=some (.val (row [a])):=by rw [v5];rfl
def b7Z(a b:Nat)(p:Mo):A5 [AC "Dyed"] (AC "other") (.val (v5 (.dyed a b p)))=some (.val (row [b])):=by rw [v5];rfl
abbrev b1i:List Str:=[AC "Across",AC "Down",AC "Turned",AC "Dyed"]
def a6H(h:(∃k,m= .across k p)\/(∃k,m= .down k p)\/(∃w,m= .turned w p)\/∃a b,m= .dyed a b p):A5 b1i (AC "part") (.val (v5 m))=some (.val (v5 p)):=by
 rcases h with⟨k,rfl⟩|⟨k,rfl⟩|⟨w,rfl⟩|⟨a,b,rfl⟩<;>rw [v5]<;>rfl
def b9U(h:l.length+k.length<=10000):v6 (.val (row l)) (.val (row k))=some (.val (row (l++k))):=c2x (by lia)
def ad(hx:x ρ=some (.val (row a)))(hy:y ρ=some (.val (row b)))(h:a.length+b.length<=10000):m2 v6 x y ρ=some (.val (row (a++b))):=by
 unfold m2
 rw [hx,hy]
 exact b9U h
def cst(h:AC z=S l)(ρ:e9):mC (.str (AC z)) ρ=some (.val (row l)):=by
 unfold mC
 rw [h]
def a3v(h:x (ps.map fun q=>some (.val q))=some (.val p)):n6 0 (l9 x) ps=some (.val p):=by
 have e:x (ps.map (fun q=>some (g6.val q))++AV 0 none)=some (.val p):=by
  rw [AO,Aj];exact h
 unfold n6 l9
 rw [e]
 rfl
def b1Y(h:A5 tab f (.val v)=some (.val p)):m1 (A5 tab f) (a9 0) (some (.val v)::ρ)=some (.val p):=h
def K2{a b:List Nat}{n:Nat}(h:(a++b).length<=n):a.length+b.length<=n:=by rw [<-AQ];exact h
def P3{a b:List Nat}{n:Nat}(h:(a++b).length<=n):a.length<=n:=by rw [AQ] at h;lia
def up(h:n<=450):n<=10000:=by lia
def c4u{R:List (List Nat)}(h:a6e R=true)(hl:(x4 (.plain R)).length<=450):v4 [v5 (.plain R)]=some (.val (row (x4 (.plain R)))):=by
 have h0:R≠[]:=by intro z;rw [z] at h;cases h
 rw [x4] at hl ⊢
 have h2:=P3 hl
 have sh:=b9C (R:=R) (by rw [AQ] at h2;lia) h0
 refine a3v (ad (ad (cst c2O _) ?_ (up (K2 h2))) (cst b1O _) (up (K2 hl)))
 show(a0 (m1 (A5 _ _) (a9 0)) b8 [some (.val (v5 (.plain R)))]).bind V0=_
 unfold a0
 rw [b1Y (c0f R)]
 exact sh
def c4i(w:List Nat):v0 [v5 (.named w)]=some (.val (row (x4 (.named w)))):=by
 rw [x4]
 exact a3v (b1Y (b5R w))
abbrev txt(n:Nat):Mo->RF:=a1g v4 v0 (a1L n) (a2y n) (a1K n) (a3n n) (a1M n) (a3o n)
def c1Z{ps:List Mo}(hp:ps.length<=6)(h:∀p∈ps,a1g v4 v0 RBe RAb RAc RDo RTu RDy p [v5 p]=some (.val (row (x4 p))))(hl:(z7 [44,32] (ps.map x4)).length<=450):
 n6 0 (a04 RAb RAc RBe RDo RDy RTu RWr) [.tuple (ps.map v5)]=some (.val (row (z7 [44,32] (ps.map x4)))):=by
 have cm:=T2 (ι:=v5) (f:=fun p=>row (x4 p)) (k:=1) (it:=w6 (a9 0)) (tg:=u3 1) (elt:=P0 RAb RAc RBe RDo RDy RTu RWr) (ρ:=[some (.val (.tuple (ps.map v5)))]) ps rfl (by lia) fun p hp=>by
  refine⟨[some (.val (.tuple (ps.map v5))),some (.val (v5 p))],rfl, ?_⟩
  unfold P0
  have:=a2f (f1:=v4) (f2:=v0) (f3:=RBe) (f4:=RAb) (f5:=RAc) (f6:=RDo) (f7:=RTu) (f8:=RDy) (mo:=a9 1) (ρ:=[some (.val (.tuple (ps.map v5))),some (.val (v5 p))]) (m:=p) (x:=AC "text") (.inl rfl) rfl
  rw [this,h p hp]
  rfl
 have jn:=a3i (sep:=[44,32]) (rows:=ps.map x4) (y:= .own (ps.map fun p=>row (x4 p))) (by show some _=some _;rw [BA];rfl) (by have:=a6L (sep:=[44,32]) (ls:=ps.map x4);simp only [AM,Ae] at this ⊢;lia)
 refine a3v ?_
 show m2 a19 (mC (.str (AC ", "))) (F9 1 (w6 (a9 0)) (u3 1) P8 _) _=_
 unfold m2
 rw [cst Q5,AH]
 show(F9 1 (w6 (a9 0)) (u3 1) P8 (P0 RAb RAc RBe RDo RDy RTu RWr) [some (.val (.tuple (ps.map v5)))]).bind _=_
 rw [cm,AH]
 exact jn
def wr{ps:List Mo}{m:Mo}{tab:List Str}{f:Str}(fl:A5 tab f (.val (v5 m))=some (.val (.tuple (ps.map v5))))(h:RWr [.tuple (ps.map v5)]=some (.val (row (z7 [44,32] (ps.map x4))))):m4 RWr (a0 (m1 (A5 tab f) (a9 0)) b8) [some (.val (v5 m))]=some (.val (row (z7 [44,32] (ps.map x4)))):=by
 unfold m4 a0
 rw [b1Y fl]
 exact h
def c3W{ps:List Mo}(h:RWr [.tuple (ps.map v5)]=some (.val (row (z7 [44,32] (ps.map x4)))))(hl:(x4 (.beside ps)).length<=450):n6 0 (a2s RAb RAc RBe RDo RDy RTu RWr) [v5 (.beside ps)]=some (.val (row (x4 (.beside ps)))):=by
 rw [x4,S3] at hl ⊢
 exact a3v (ad (ad (cst (by decide+kernel) _) (wr (a7j ps) h) (up (K2 (P3 hl)))) (cst a6Z _) (up (K2 hl)))
def c3S{ps:List Mo}(h:RWr [.tuple (ps.map v5)]=some (.val (row (z7 [44,32] (ps.map x4)))))(hl:(x4 (.above ps)).length<=450):n6 0 (a28 RAb RAc RBe RDo RDy RTu RWr) [v5 (.above ps)]=some (.val (row (x4 (.above ps)))):=by
 rw [x4,S3] at hl ⊢
 exact a3v (ad (ad (cst (by decide+kernel) _) (wr (a7i ps) h) (up (K2 (P3 hl)))) (cst a6Z _) (up (K2 hl)))
def b2v(hm:(∃k,m= .across k p)\/(∃k,m= .down k p)\/(∃w,m= .turned w p)\/∃a b,m= .dyed a b p)(h:a1g v4 v0 RBe RAb RAc RDo RTu RDy p [v5 p]=some (.val (row (x4 p)))):
 O3 (b4a v4 v0 RBe RAb RAc RDo RTu RDy) (AC "text") (m1 (A5 b1i (AC "part")) (a9 0)) b8 (some (.val (v5 m))::ρ)=some (.val (row (x4 p))):=
 (a2f (m:=p) (.inl rfl) (a6H hm)).trans h
def c4D(hk:k<=24)(fl:A5 tab f (.val (v5 m))=some (.val (.int (k:Nat)))):m1 b0i (m1 (A5 tab f) (a9 0)) [some (.val (v5 m))]=some (.val (row (dg k))):=by
 show(m1 (A5 tab f) (a9 0) [some (.val (v5 m))]).bind b0i=_
 rw [b1Y fl]
 exact b9G (by lia)
def c3T{k:Nat}{p:Mo}(hk:k<=24)(h:a1g v4 v0 RBe RAb RAc RDo RTu RDy p [v5 p]=some (.val (row (x4 p))))(hl:(x4 (.across k p)).length<=450):n6 0 (a2r RAb RAc RBe RDo RDy RTu RWr) [v5 (.across k p)]=some (.val (row (x4 (.across k p)))):=by
 rw [x4] at hl ⊢
 exact a3v (ad (ad (ad (ad (cst (by decide+kernel) _) (c4D hk (b7Y k p)) (up (K2 (P3 (P3 (P3 hl)))))) (cst Q5 _) (up (K2 (P3 (P3 hl))))) (b2v (.inl ⟨k,rfl⟩) h) (up (K2 (P3 hl)))) (cst a6Z _) (up (K2 hl)))
def c32{k:Nat}{p:Mo}(hk:k<=24)(h:a1g v4 v0 RBe RAb RAc RDo RTu RDy p [v5 p]=some (.val (row (x4 p))))(hl:(x4 (.down k p)).length<=450):n6 0 (a4d RAb RAc RBe RDo RDy RTu RWr) [v5 (.down k p)]=some (.val (row (x4 (.down k p)))):=by
 rw [x4] at hl ⊢
 exact a3v (ad (ad (ad (ad (cst (by decide+kernel) _) (c4D hk (b7X k p)) (up (K2 (P3 (P3 (P3 hl)))))) (cst Q5 _) (up (K2 (P3 (P3 hl))))) (b2v (.inr (.inl ⟨k,rfl⟩)) h) (up (K2 (P3 hl)))) (cst a6Z _) (up (K2 hl)))
def c4L{w:List Nat}{p:Mo}(h:a1g v4 v0 RBe RAb RAc RDo RTu RDy p [v5 p]=some (.val (row (x4 p))))(hl:(x4 (.turned w p)).length<=450):n6 0 (a2t RAb RAc RBe RDo RDy RTu RWr) [v5 (.turned w p)]=some (.val (row (x4 (.turned w p)))):=by
 rw [x4] at hl ⊢
 exact a3v (ad (ad (ad (b1Y (c2t w p)) (cst b4Z _) (up (K2 (P3 (P3 hl))))) (b2v (.inr (.inr (.inl ⟨w,rfl⟩))) h) (up (K2 (P3 hl)))) (cst a6Z _) (up (K2 hl)))
def c33{a b:Nat}{p:Mo}(h:a1g v4 v0 RBe RAb RAc RDo RTu RDy p [v5 p]=some (.val (row (x4 p))))(hl:(x4 (.dyed a b p)).length<=450):n6 0 (a4e RAb RAc RBe RDo RDy RTu RWr) [v5 (.dyed a b p)]=some (.val (row (x4 (.dyed a b p)))):=by
 rw [x4] at hl ⊢
 have l1:=P3 hl
 have l2:=P3 l1
 have l3:=P3 l2
 have l4:=P3 l3
 have l5:=P3 l4
 exact a3v (ad (ad (ad (ad (ad (ad (cst (by decide+kernel) _) (b1Y (c2s a b p)) (up (K2 l5))) (cst Q5 _) (up (K2 l4))) (b1Y (b7Z a b p)) (up (K2 l3))) (cst Q5 _) (up (K2 l2))) (b2v (.inr (.inr (.inr ⟨a,b,rfl⟩))) h) (up (K2 l1))) (cst a6Z _) (up (K2 hl)))
def c1u:∀(n:Nat) (m:Mo),J7 m->2*x6 m<=n->(x4 m).length<=450->txt n m [v5 m]=some (.val (row (x4 m))):=by
 intro n
 induction n using Nat.strongRecOn with
 |ind n ih=>
  intro m ok hd hl
  have hp:=a0w m
  obtain⟨n,rfl⟩:∃k,n=k+2:=⟨n - 2,by lia⟩
  cases m with
  |plain R=>rw [J7] at ok;exact c4u ok hl
  |named w=>exact c4i w
  |beside ps=>
   rw [J7] at ok
   rw [x6] at hd
   have hw:a0j (n+1) [.tuple (ps.map v5)]=some (.val (row (z7 [44,32] (ps.map x4)))):=c1Z ok.2.1 (fun p hp=>ih n (by lia) p (G0 ok.2.2 hp) (by have:=G4 hp;lia) (by
    have:=Z2 (sep:=[44,32]) (List.mem_map_of_mem (f:=x4) hp)
    rw [x4,S3] at hl
    simp only [AQ,AM,Ae] at hl
    lia)) (by
    rw [x4,S3] at hl
    simp only [AQ,AM,Ae] at hl
    lia)
   exact c3W hw hl
  |above ps=>
   rw [J7] at ok
   rw [x6] at hd
   have hw:a0j (n+1) [.tuple (ps.map v5)]=some (.val (row (z7 [44,32] (ps.map x4)))):=c1Z ok.2.1 (fun p hp=>ih n (by lia) p (G0 ok.2.2 hp) (by have:=G4 hp;lia) (by
    have:=Z2 (sep:=[44,32]) (List.mem_map_of_mem (f:=x4) hp)
    rw [x4,S3] at hl
    simp only [AQ,AM,Ae] at hl
    lia)) (by
    rw [x4,S3] at hl
    simp only [AQ,AM,Ae] at hl
    lia)
   exact c3S hw hl
  |across k p=>
   rw [J7] at ok
   rw [x6] at hd
   exact c3T ok.2.1 (ih (n+1) (by lia) p ok.2.2 (by lia) (by rw [x4] at hl;simp only [AQ,AM,Ae] at hl;lia)) hl
  |down k p=>
   rw [J7] at ok
   rw [x6] at hd
   exact c32 ok.2.1 (ih (n+1) (by lia) p ok.2.2 (by lia) (by rw [x4] at hl;simp only [AQ,AM,Ae] at hl;lia)) hl
  |turned w p=>
   rw [J7] at ok
   rw [x6] at hd
   exact c4L (ih (n+1) (by lia) p ok.2 (by lia) (by rw [x4] at hl;simp only [AQ,AM,Ae] at hl;lia)) hl
  |dyed a b p=>
   rw [J7] at ok
   rw [x6] at hd
   exact c33 (ih (n+1) (by lia) p ok.2.2 (by lia) (by rw [x4] at hl;simp only [AQ,AM,Ae] at hl;lia)) hl
def Q8:Mo->List Mo
 | .plain _=>[]
 | .named _=>[]
 | .beside ps=>ps
 | .above ps=>ps
 | .across _ p=>[p]
 | .down _ p=>[p]
 | .turned _ p=>[p]
 | .dyed _ _ p=>[p]
def b1R(m:Mo):x6 m=1+J9 (Q8 m):=by
 cases m<;>rw [x6]<;>simp [Q8,J9]
abbrev c2C:Mo->RF:=a1g x8 x8 E9 J4 E8 L5 F8 L6
def c1x(h:x ρ=some (.val p)):A9 (a0 x b8) ρ=some (.val (.tuple [p])):=by
 unfold A9 a0
 rw [h]
 rfl
def b8l(m:Mo):c2C m [v5 m]=some (.val (.tuple ((Q8 m).map v5))):=by
 cases m with
 |plain R=>exact a3v (ps:=[v5 (.plain R)]) (x:=A9 b8) rfl
 |named w=>exact a3v (ps:=[v5 (.named w)]) (x:=A9 b8) rfl
 |beside ps=>exact a3v (ps:=[v5 (.beside ps)]) (x:=m1 (A5 [AC "Beside",AC "Above"] (AC "parts")) (a9 0)) (a7j ps)
 |above ps=>exact a3v (ps:=[v5 (.above ps)]) (x:=m1 (A5 [AC "Beside",AC "Above"] (AC "parts")) (a9 0)) (a7i ps)
 |across k p=>exact a3v (ps:=[v5 (.across k p)]) (x:=A9 (a0 (m1 (A5 b1i (AC "part")) (a9 0)) b8)) (c1x (a6H (.inl ⟨k,rfl⟩)))
 |down k p=>exact a3v (ps:=[v5 (.down k p)]) (x:=A9 (a0 (m1 (A5 b1i (AC "part")) (a9 0)) b8)) (c1x (a6H (.inr (.inl ⟨k,rfl⟩))))
 |turned w p=>exact a3v (ps:=[v5 (.turned w p)]) (x:=A9 (a0 (m1 (A5 b1i (AC "part")) (a9 0)) b8)) (c1x (a6H (.inr (.inr (.inl ⟨w,rfl⟩)))))
 |dyed a b p=>exact a3v (ps:=[v5 (.dyed a b p)]) (x:=A9 (a0 (m1 (A5 b1i (AC "part")) (a9 0)) b8)) (c1x (a6H (.inr (.inr (.inr ⟨a,b,rfl⟩)))))
theorem b15:∀ps:List Mo,a2V (ps.map fun p=> .int (x6 p:Nat))=some (ps.map fun p=>((x6 p:Nat):Int))
 |[]=>rfl
 |p::ps=>by
  rw [AK,a2V,b15 ps];rfl
def b5F:∀ps:List Mo,(if(ps.map fun p=>((x6 p:Nat):Int)).length=0 then 0 else a0O (ps.map fun p=>((x6 p:Nat):Int)))=((J9 ps:Nat):Int):=fun ps=>by
 cases ps with
 |nil=>rw [J9];rfl
 |cons p r=>
  rw [if_neg (by simp)]
  obtain⟨h1,h2⟩:=b6z (is:=(p::r).map fun p=>((x6 p:Nat):Int)) (by simp)
  obtain⟨q,hq,e⟩:=Au.mp h1
  have h3:x6 q<=J9 (p::r):=G4 hq
  have h4:∀l:List Mo,l≠[]->∃q∈l,x6 q=J9 l:=by
   intro l
   induction l with
   |nil=>intro h;exact absurd rfl h
   |cons a l ih=>
    intro _
    by_cases hl:l=[]
    ·subst hl
     exact⟨a,Ab,by rw [J9,J9];lia⟩
    ·obtain⟨q,h1,h2⟩:=ih hl
     by_cases hc:J9 l<=x6 a
     ·exact⟨a,Ab,by rw [J9];lia⟩
     ·exact⟨q,Ah _ h1,by rw [J9];lia⟩
  obtain⟨q',h5,h6⟩:=h4 (p::r) (by simp)
  have h7:=h2 _ (List.mem_map_of_mem (f:=fun p=>((x6 p:Nat):Int)) h5)
  rw [<-e] at h7 ⊢
  lia
theorem b5K:∀(n:Nat) (m:Mo),J7 m->x6 m<=n->p8 n [v5 m]=some (.val (.int (x6 m:Nat)))
 |0,m,_,h=>by have:=a0w m;lia
 |n+1,m,ok,h=>by
  have hd:=b1R m
  have hin:∀p∈Q8 m,J7 p:=by
   cases m<;>rw [J7] at ok<;>intro p hp
   ·cases hp
   ·cases hp
   ·exact G0 ok.2.2 hp
   ·exact G0 ok.2.2 hp
   ·rw [List.mem_singleton.mp hp];exact ok.2.2
   ·rw [List.mem_singleton.mp hp];exact ok.2.2
   ·rw [List.mem_singleton.mp hp];exact ok.2
   ·rw [List.mem_singleton.mp hp];exact ok.2.2
  have hlen:(Q8 m).length<=6:=by
   cases m<;>rw [J7] at ok<;>simp only [Q8,AM,Ae]<;>lia
  have it:w6 (O3 (b4a x8 x8 E9 J4 E8 L5 F8 L6) (AC "inner") (a9 0) b8) [some (.val (v5 m))]=some ((Q8 m).map v5):=by
   rw [a4D,a2f (m:=m) (.inr (.inr rfl)) rfl]
   show(c2C m [v5 m]).bind _=_
   rw [b8l]
   rfl
  have cm:=T2 (ι:=v5) (f:=fun p=> .int (x6 p:Nat)) (k:=1) (tg:=u3 1) (elt:=P7 (p8 n)) (Q8 m) it (by lia) fun p hp=>by
   refine⟨[some (.val (v5 m)),some (.val (v5 p))],rfl, ?_⟩
   unfold P7
   have:=a2f (f1:=p8 n) (f2:=p8 n) (f3:=p8 n) (f4:=p8 n) (f5:=p8 n) (f6:=p8 n) (f7:=p8 n) (f8:=p8 n) (mo:=a9 1) (ρ:=[some (.val (v5 m)),some (.val (v5 p))]) (m:=p) (x:=AC "deep") (.inr (.inl rfl)) rfl
   rw [this]
   have e:a1g (p8 n) (p8 n) (p8 n) (p8 n) (p8 n) (p8 n) (p8 n) (p8 n) p=p8 n:=by cases p<;>rfl
   rw [e,b5K n p (hin p hp) (by have:=G4 hp;lia)]
   rfl
  have mx:a5I (.own ((Q8 m).map fun p=> .int (x6 p:Nat)))=some (.val (.int ((J9 (Q8 m):Nat):Int))):=by
   show(a2V _).bind _=_
   rw [b15,AH,if_pos (by rw [Ak];lia),b5F]
  refine a3v (x:=m2 v6 (mC (.int 1)) (m1 a5I (F9 1 (w6 (O3 (b4a x8 x8 E9 J4 E8 L5 F8 L6) (AC "inner") (a9 0) b8)) (u3 1) P8 (P7 (p8 n))))) ?_
  unfold m2 m1
  show(F9 1 (w6 (O3 (b4a x8 x8 E9 J4 E8 L5 F8 L6) (AC "inner") (a9 0) b8)) (u3 1) P8 (P7 (p8 n)) [some (.val (v5 m))]|>.bind a5I).bind (fun y=>v6 (.val (.int 1)) y)=_
  rw [cm,AH,mx,AH,hd]
  show some (g6.val (.int (1+((J9 (Q8 m):Nat):Int))))=_
  rw [Int.natCast_add]
  rfl
theorem a48(hp:∀y r,post=y::r->p y=false):∀{w:List Nat},(∀x∈w,p x=true)->n5 p (w++post)=(w,post)
 |[],_=>by
  cases post with
  |nil=>rfl
  |cons y r=>
   show n5 p (y::r)=_
   unfold n5
   rw [hp y r rfl,if_neg Ar]
 |x::w,h=>by
  rw [AY]
  unfold n5
  rw [if_pos (h x Ab),a48 hp fun y hy=>h y (Ah _ hy)]
def a90(post:List Nat):Prop:=post=[]\/(∃r,post=41::r)\/∃r,post=44::r
def a90.lt(h:a90 post):∀y r,post=y::r->J6 y=false:=fun y r e=>by
 rcases h with h|⟨q,h⟩|⟨q,h⟩
 ·rw [h] at e;cases e
 ·rw [h] at e;cases e;rfl
 ·rw [h] at e;cases e;rfl
def c2X(h:a6e R=true):R≠[]:=by intro z;rw [z] at h;cases h
def a1u(h0:w≠[])(hw:∀x∈w,J6 x=true):T3 (n+1) (w++40::rest)=a3S (T3 n) w rest:=by
 have sp:=a48 (p:=J6) (post:=40::rest) (fun y r e=>by cases e;rfl) hw
 have h1:[91].isPrefixOf (w++40::rest)=false:=by
  cases w with
  |nil=>exact absurd rfl h0
  |cons x w=>
   have:=hw x Ab
   cases hc:[91].isPrefixOf (x::w++40::rest) with
   |false=>rfl
   |true=>
    obtain⟨r,e⟩:=(b3S 91 _).mp hc
    rw [AY] at e
    cases e
    cases this
 have h2:(n5 J6 (w++40::rest)).2=40::rest:=by rw [sp]
 rw [b49 h1 h2,sp]
theorem a9M:∀(ps:List Mo) (k:Nat),ps≠[]->ps.length<=k->(∀p∈ps,∀post,a90 post->T3 n (x4 p++post)=if x6 p<=n then some (p,post) else none)->
 M9 (T3 n) k (z7 [44,32] (ps.map x4)++41::post)=if J9 ps<=n then some (ps,41::post) else none
 |[],_,h,_,_=>absurd rfl h
 |_::_,0,_,h,_=>by simp at h
 |[p],k+1,_,_,h=>by
  have e:=h p Ab (41::post) (.inr (.inl ⟨post,rfl⟩))
  have g:z7 [44,32] ([p].map x4)=x4 p:=rfl
  have d:J9 [p]=x6 p:=by rw [J9,J9];lia
  rw [g,d]
  by_cases c:x6 p<=n
  ·rw [if_pos c] at e ⊢
   exact a9J e rfl
  ·rw [if_neg c] at e ⊢
   exact a6W e
 |p::q::r,k+1,_,hk,h=>by
  have ih:=a9M (n:=n) (post:=post) (q::r) k (by simp) (by simp only [AM] at hk ⊢;lia) fun x hx=>h x (Ah _ hx)
  have g:z7 [44,32] ((p::q::r).map x4)++41::post=x4 p++44::32::(z7 [44,32] ((q::r).map x4)++41::post):=by
   show x4 p++[44,32]++z7 [44,32] (x4 q::r.map x4)++41::post=_
   simp
  have e:=h p Ab (44::32::(z7 [44,32] ((q::r).map x4)++41::post)) (.inr (.inr ⟨_,rfl⟩))
  have d:J9 (p::q::r)=max (x6 p) (J9 (q::r)):=by rw [J9]
  rw [g,d]
  by_cases c:x6 p<=n
  ·rw [if_pos c] at e
   rw [a9K e,ih]
   by_cases c2:J9 (q::r)<=n
   ·rw [if_pos c2,if_pos (by lia)];rfl
   ·rw [if_neg c2,if_neg (by lia)];rfl
  ·rw [if_neg c] at e
   rw [a6W e,if_neg (by lia)]
def a7p(h:∀post,a90 post->T3 n (x4 p++post)=if x6 p<=n then some (p,post) else none):P6 (T3 n) (x4 p++41::post)=if x6 p<=n then some (p,post) else none:=by
 have e:=h (41::post) (.inr (.inl ⟨post,rfl⟩))
 by_cases c:x6 p<=n
 ·rw [if_pos c] at e ⊢;exact b6a e
 ·rw [if_neg c] at e ⊢;exact b59 e
def c2V:(Ao 25).all (fun k=>k==0||a9u (dg k)==some k &&(dg k).all isF)=true:=by decide+kernel
def c2i(h1:1<=k)(h2:k<=24):a9u (dg k)=some k/\∀x∈dg k,isF x=true:=by
 have:=List.all_eq_true.mp c2V k (List.mem_range.mpr (by lia))
 simp only [Bool.or_eq_true,beq_iff_eq,Bool.and_eq_true,List.all_eq_true] at this
 rcases this with h|h
 ·lia
 ·exact h
def c3F:(Z8.all fun w=>(w !=[]&& w.all J6)&&(w !=B6 && w !=W5 && w !=J2 && w !=a5V))=true:=by decide+kernel
def b3Z(h1:1<=k)(h2:k<=24)(h:∀post,a90 post->T3 n (x4 p++post)=if x6 p<=n then some (p,post) else none):
 b3Y (T3 n) w (dg k++44::32::(x4 p++41::post))=if x6 p<=n then some (if w=J2 then Mo.across k p else .down k p,post) else none:=by
 obtain⟨d1,d2⟩:=c2i h1 h2
 have sp:=a48 (p:=isF) (post:=44::32::(x4 p++41::post)) (fun y r e=>by cases e;rfl) d2
 rw [b5p (r:=x4 p++41::post) (k:=k) (by rw [sp]) (by rw [sp];exact d1),a7p h]
 by_cases c:x6 p<=n
 ·rw [if_pos c,if_pos c];rfl
 ·rw [if_neg c,if_neg c];rfl
def b04(h2:2<=ps.length)(h6:ps.length<=6)(h:∀p∈ps,∀post,a90 post->T3 n (x4 p++post)=if x6 p<=n then some (p,post) else none):
 a2W (T3 n) w (z7 [44,32] (ps.map x4)++41::post)=if J9 ps<=n then some (if w=B6 then Mo.beside ps else .above ps,post) else none:=by
 have e:=a9M (n:=n) (post:=post) ps 500 (by intro z;rw [z] at h2;simp at h2) (by lia) h
 by_cases c:J9 ps<=n
 ·rw [if_pos c] at e ⊢
  rw [b58 e]
  unfold b8s
  rw [decide_eq_true h2,decide_eq_true h6]
  rfl
 ·rw [if_neg c] at e ⊢
  exact b57 e
def b8P(h:a6e R=true):∀r∈R,∀x∈r,J6 x=true:=by
 cases R with
 |nil=>cases h
 |cons r0 R=>
  unfold a6e at h
  simp only [Bool.and_eq_true,List.all_eq_true] at h
  intro r hr x hx
  have:=h.2.2 r hr
  unfold okR at this
  simp only [Bool.and_eq_true,List.all_eq_true] at this
  exact this.2 x hx
theorem b3d{p:Nat->Prop}{c:Nat}(hc:p c):∀{R:List (List Nat)},(∀r∈R,∀x∈r,p x)->∀x∈z7 [c] R,p x
 |[],_,x,h=>by cases h
 |[r],hR,x,h=>hR r Ab x (by simpa [z7] using h)
 |r::q::R,hR,x,h=>by
  rw [a0Z] at h
  rcases Av.mp h with h|h
  ·exact hR r Ab x h
  ·rcases AZ.mp h with rfl|h
   ·exact hc
   ·exact b3d hc (fun y hy=>hR y (Ah _ hy)) x h
def b5m{R:List (List Nat)}{post:List Nat}(h:a6e R=true):a4J (z7 [47] R++93::post)=some (.plain R,post):=by
 have hr:=b8P h
 have ha:=b3d (p:=fun x=>x≠93) (c:=47) (by lia) (R:=R) fun r h1 x h2=>by have:=a8t.mp (hr r h1 x h2);lia
 have sp:=a48 (p:=(· !=93)) (post:=93::post) (fun y r e=>by cases e;rfl) (w:=z7 [47] R) fun x hx=>by simpa using ha x hx
 have e:K5 (z7 [47] R)=R:=a81 (a5q _) (c2X h) (a7D _) (fun p hp z=>by have:=a8t.mp (hr p hp 47 z);lia) (a49 _)
 unfold a4J
 simp only [sp,e]
 rw [if_pos h]
theorem b3x:∀(n:Nat) (m:Mo),J7 m->∀post,a90 post->T3 n (x4 m++post)=if x6 m<=n then some (m,post) else none
 |0,m,_,post,_=>by rw [T3,if_neg (by have:=a0w m;lia)]
 |n+1,m,ok,post,hp=>by
  have ih:=b3x n
  cases m with
  |plain R=>
   rw [J7] at ok
   have e:x4 (.plain R)++post=91::(z7 [47] R++93::post):=by rw [x4];simp
   rw [e,b48,b5m ok,x6,if_pos (by lia)]
  |named w=>
   rw [J7] at ok
   have e:x4 (.named w)=w:=by rw [x4]
   have sp:=a48 (p:=J6) hp.lt ok.2
   have w0:w≠[]:=by intro z;rw [z] at ok;cases ok.1
   have h1:[91].isPrefixOf (w++post)=false:=by
    cases w with
    |nil=>exact absurd rfl w0
    |cons x w=>
     have:=ok.2 x Ab
     cases hc:[91].isPrefixOf (x::w++post) with
     |false=>rfl
     |true=>
      obtain⟨r,e⟩:=(b3S 91 _).mp hc
      rw [AY] at e
      cases e
      cases this
   have h2:[40].isPrefixOf (n5 J6 (w++post)).2=false:=by
    rw [sp]
    rcases hp with h|⟨q,h⟩|⟨q,h⟩<;>rw [h]<;>rfl
   rw [e,b5a h1 h2,sp]
   dsimp only
   rw [if_pos ok.1,x6,if_pos (by lia)]
  |beside ps=>
   rw [J7] at ok
   have e:x4 (.beside ps)++post=B6++40::(z7 [44,32] (ps.map x4)++41::post):=by rw [x4,S3];simp [B6]
   rw [e,a1u (by decide) (by decide),x6]
   show(if B6=B6\/B6=W5 then a2W (T3 n) B6 _ else _)=_
   rw [if_pos (.inl rfl),b04 ok.1 ok.2.1 fun p hp=>ih p (G0 ok.2.2 hp)]
   by_cases c:J9 ps<=n
   ·rw [if_pos c,if_pos (show 1+J9 ps<=n+1 by lia),if_pos rfl]
   ·rw [if_neg c,if_neg (show ¬1+J9 ps<=n+1 by lia)]
  |above ps=>
   rw [J7] at ok
   have e:x4 (.above ps)++post=W5++40::(z7 [44,32] (ps.map x4)++41::post):=by rw [x4,S3];simp [W5]
   rw [e,a1u (by decide) (by decide),x6]
   show(if W5=B6\/W5=W5 then a2W (T3 n) W5 _ else _)=_
   rw [if_pos (.inr rfl),b04 ok.1 ok.2.1 fun p hp=>ih p (G0 ok.2.2 hp)]
   by_cases c:J9 ps<=n
   ·rw [if_pos c,if_pos (show 1+J9 ps<=n+1 by lia),if_neg (show ¬W5=B6 by decide)]
   ·rw [if_neg c,if_neg (show ¬1+J9 ps<=n+1 by lia)]
  |across k p=>
   rw [J7] at ok
   have e:x4 (.across k p)++post=J2++40::(dg k++44::32::(x4 p++41::post)):=by rw [x4];simp [J2]
   rw [e,a1u (by decide) (by decide),x6]
   unfold a3S
   rw [if_neg (by decide),if_pos (.inl rfl),b3Z ok.1 ok.2.1 (ih p ok.2.2)]
   by_cases c:x6 p<=n
   ·rw [if_pos c,if_pos (show 1+x6 p<=n+1 by lia),if_pos rfl]
   ·rw [if_neg c,if_neg (show ¬1+x6 p<=n+1 by lia)]
  |down k p=>
   rw [J7] at ok
   have e:x4 (.down k p)++post=a5V++40::(dg k++44::32::(x4 p++41::post)):=by rw [x4];simp [a5V]
   rw [e,a1u (by decide) (by decide),x6]
   unfold a3S
   rw [if_neg (by decide),if_pos (.inr rfl),b3Z ok.1 ok.2.1 (ih p ok.2.2)]
   by_cases c:x6 p<=n
   ·rw [if_pos c,if_pos (show 1+x6 p<=n+1 by lia),if_neg (show ¬a5V=J2 by decide)]
   ·rw [if_neg c,if_neg (show ¬1+x6 p<=n+1 by lia)]
  |turned w p=>
   rw [J7] at ok
   have tw:=List.all_eq_true.mp c3F w ok.1
   simp only [Bool.and_eq_true,bne_iff_ne,ne_eq,List.all_eq_true] at tw
   obtain⟨⟨t0,t1⟩,⟨⟨t2,t3⟩,t4⟩,t5⟩:=tw
   have e:x4 (.turned w p)++post=w++40::(x4 p++41::post):=by rw [x4];simp
   have hc:Z8.contains w=true:=by simpa using ok.1
   rw [e,a1u t0 t1,x6]
   unfold a3S
   rw [if_neg (fun z=>z.elim t2 t3),if_neg (fun z=>z.elim t4 t5),if_pos hc]
   unfold b1v
   rw [a7p (ih p ok.2)]
   by_cases c:x6 p<=n
   ·rw [if_pos c,if_pos (show 1+x6 p<=n+1 by lia)]
   ·rw [if_neg c,if_neg (show ¬1+x6 p<=n+1 by lia)]
  |dyed a b p=>
   rw [J7] at ok
   have e:x4 (.dyed a b p)++post=b5C++40::(a::44::32::b::44::32::(x4 p++41::post)):=by rw [x4];simp [b5C]
   rw [e,a1u (by decide) (by decide),x6]
   unfold a3S
   rw [if_neg (by decide),if_neg (by decide),if_neg (by decide),if_pos rfl]
   show(if(J6 a && J6 b)=true then _ else _)=_
   rw [ok.1,ok.2.1,if_pos (show(true && true)=true from rfl),a7p (ih p ok.2.2)]
   by_cases c:x6 p<=n
   ·rw [if_pos c,if_pos (show 1+x6 p<=n+1 by lia)]
   ·rw [if_neg c,if_neg (show ¬1+x6 p<=n+1 by lia)]
def p5{i:Nat}{e:M}{n:MS}{ρ:e9}{p:PV}(h:e ρ=some (.val p)):j5 (z6 i e) n ρ=n (ρ.set i (some (.val p))):=by
 unfold j5 z6
 rw [h]
 rfl
def y8{c:MT}{x:M}{n:MS}{ρ:e9}{p:PV}(hc:c ρ=some true)(hx:x ρ=some (.val p)):j5 (u6 c (l9 x) m7) n ρ=some (.rt (.val p)):=by
 unfold j5 u6
 rw [hc]
 show((l9 x ρ).bind _)=_
 unfold l9
 rw [hx]
 rfl
def b9{c:MT}{x n:MS}{ρ:e9}(hc:c ρ=some false):j5 (u6 c x m7) n ρ=n ρ:=by
 unfold j5 u6
 rw [hc]
 rfl
def W4{n:Nat}{b:MS}{ps:List PV}{r:g6}(h:b (ps.map (fun p=>some (g6.val p))++AV n none)=some (.rt r)):n6 n b ps=some r:=by
 unfold n6
 rw [h]
 rfl
def b3u(hc:c ρ=some true):u6 c x y ρ=x ρ:=by
 unfold u6;rw [hc];rfl
def a9g(hc:c ρ=some false):u6 c x y ρ=y ρ:=by
 unfold u6;rw [hc];rfl
def a7e(h:e ρ=some (.val p)):z6 i e ρ=some (.nx (ρ.set i (some (.val p)))):=by
 unfold z6
 rw [h]
 rfl
def a4r(h1:it ρ=some ps)(h2:a07 body tg ps ρ=some (.nx ρ')):j5 (a5v it tg body) n ρ=n ρ':=by
 unfold j5 a5v
 rw [h1,AH,h2]
 rfl
def a6Y(h:((Ao n).map fun k=>PyData.int (k:Nat))[i]?=some p):p= .int (i:Nat)/\i<n:=by
 rw [As] at h
 by_cases hi:i<n
 ·rw [List.getElem?_range hi] at h
  exact⟨(Option.some.inj h).symm,hi⟩
 ·rw [List.getElem?_eq_none (by simpa using hi)] at h
  cases h
def c2D{ns:List Int}{i:Nat}(h:i<ns.length):∃c:Int,v9 (.val (.list (ns.map .int))) (.val (.int (i:Nat)))=some (.val (.int c)):=by
 refine⟨ns[i], ?_⟩
 show((L2.atI (ns.map PyData.int) (i:Nat)).map g6.val)=_
 rw [b7I,As,Az h]
 rfl
def md(h:a ρ=some (.val (.int x)))(hb:b ρ=some (.val (.int k)))(hk:0<k):m2 (O6 (fun _ j=>0<j) fun i j=> .int (i % j)) a b ρ=some (.val (.int (x % k))):=by
 unfold m2
 rw [h,hb]
 show(if okC (fun _ j=>0<j) x k=true then some (g6.val (.int (x % k))) else none)=_
 rw [if_pos (a2h (C:=fun _ j=>0<j).mpr hk)]
def ml(h:a ρ=some (.val (.int x)))(hk: -18446744073709551616<k/\k<18446744073709551616):m2 B1 a (mC (.int k)) ρ=some (.val (.int (x*k))):=by
 unfold m2
 rw [h]
 exact b5X hk
def Q4{g:RF}{x:M}{ρ:e9}{p:PV}(h:x ρ=some (.val p)):m4 g (a0 x b8) ρ=g [p]:=by
 unfold m4 a0
 rw [h]
 rfl
def c3X(h1:x ρ=some (.val p))(h2:y ρ=some (.val q))(h3:z ρ=some (.val r)):m4 g (a0 x (a0 y (a0 z b8))) ρ=g [p,q,r]:=by
 unfold m4 a0
 rw [h1,h2,h3]
 rfl
def a1h(h1:x ρ=some r)(h2:y ρ=some q)(h:g r q=some (.val (.bool b))):A6 (m2 g x y) ρ=some b:=by
 unfold A6 m2
 rw [h1,h2]
 show(g r q).bind _=_
 rw [h]
 rfl
mutual
def p9:Mo->PV
 | .plain rows=> .tuple [.str (AC "plain"),.tuple (rows.map row)]
 | .named w=> .tuple [.str (AC "name"),row w]
 | .beside ps=> .tuple [.str (AC "beside"),.list (a7F ps)]
 | .above ps=> .tuple [.str (AC "above"),.list (a7F ps)]
 | .across k p=> .tuple [.str (AC "across"),.int (k:Nat),p9 p]
 | .down k p=> .tuple [.str (AC "down"),.int (k:Nat),p9 p]
 | .turned w p=> .tuple [.str (AC "turned"),row w,p9 p]
 | .dyed a b p=> .tuple [.str (AC "dye"),row [a],row [b],p9 p]
def a7F:List Mo->List PV
 |[]=>[]
 |p::ps=>p9 p::a7F ps
end
theorem S5:∀ps:List Mo,a7F ps=ps.map p9
 |[]=>by rw [a7F];rfl
 |p::ps=>by rw [a7F,S5 ps];rfl
def c1D{z:String}{l:List Nat}{a:Option g6}{ρ:e9}(h:AC z=S l):a9 1 (a::some (.val (.str (AC z)))::ρ)=some (.val (row l)):=by
 rw [h]
 rfl
def up4{n:Nat}(h:n<=4000):n<=10000:=by lia
def c1P{ps:List Mo}{w:PV}(hp:ps.length<=6)(h:∀p∈ps,R [p9 p]=some (.val (row (x4 p))))(hl:(z7 [44,32] (ps.map x4)).length<=4000)(ww:PV):
 m2 a19 (mC (.str (AC ", "))) (F9 1 (w6 (m2 v9 (a9 0) (mC (.int 1)))) (u3 2) P8 (a0B R)) [some (.val (.tuple [w,.list (ps.map p9)])),some (.val ww)]=some (.val (row (z7 [44,32] (ps.map x4)))):=by
 have cm:=T2 (ι:=p9) (f:=fun p=>row (x4 p)) (k:=1) (it:=w6 (m2 v9 (a9 0) (mC (.int 1)))) (tg:=u3 2) (elt:=a0B R) (ρ:=[some (.val (.tuple [w,.list (ps.map p9)])),some (.val ww)]) ps rfl (by lia) fun p hp=>by
  refine⟨[some (.val (.tuple [w,.list (ps.map p9)])),some (.val ww),some (.val (p9 p))],rfl, ?_⟩
  unfold a0B
  rw [(Q4 rfl).trans (h p hp)]
  rfl
 have jn:=a3i (sep:=[44,32]) (rows:=ps.map x4) (y:= .own (ps.map fun p=>row (x4 p))) (by show some _=some _;rw [BA];rfl) (by have:=a6L (sep:=[44,32]) (ls:=ps.map x4);simp only [AM,Ae] at this ⊢;lia)
 unfold m2
 rw [cst Q5,AH]
 refine(congrArg (fun o=>Option.bind o fun y=>a19 (.val (row [44,32])) y) cm).trans ?_
 exact jn
def c4f{k:Nat}{x:M}{ρ:e9}(hk:k<=24)(h:x ρ=some (.val (.int (k:Nat)))):m1 b0i x ρ=some (.val (row (dg k))):=by
 show(x ρ).bind b0i=_
 rw [h]
 exact b9G (by lia)
def b41(m:Mo)(ok:J7 m)(hl:(x4 m).length<=4000)(ih:∀p,J7 p->x6 p<x6 m->(x4 p).length<=4000->R [p9 p]=some (.val (row (x4 p)))):n6 1 (a1B R) [p9 m]=some (.val (row (x4 m))):=by
 refine W4 ?_
 show a1B R [some (.val (p9 m)),none]=_
 unfold a1B
 cases m with
 |plain rows=>
  rw [J7] at ok
  rw [p9,p5 (p:= .str (AC "plain")) rfl]
  rw [x4] at hl ⊢
  have h2:=P3 hl
  have jn:=a3i (sep:=[47]) (rows:=rows) (y:= .val (.tuple (rows.map row))) rfl (by have:=a6L (sep:=[47]) (ls:=rows);rw [AQ] at h2;simp only [AM,Ae] at this h2 ⊢;lia)
  refine y8 rfl (ad (ad (cst c2O _) ?_ (up4 (K2 h2))) (cst b1O _) (up4 (K2 hl)))
  show(mC (.str (AC "/")) _).bind (fun x=>Option.bind _ fun y=>a19 x y)=_
  rw [cst b2D]
  exact jn
 |named w=>
  rw [p9,p5 (p:= .str (AC "name")) rfl,b9 rfl,x4]
  exact y8 rfl rfl
 |beside ps=>
  rw [J7] at ok
  have d:x6 (.beside ps)=1+J9 ps:=by rw [x6]
  rw [p9,S5,p5 (p:= .str (AC "beside")) rfl,b9 rfl,b9 rfl]
  rw [x4,S3] at hl ⊢
  have h2:=P3 hl
  have h3:(z7 [44,32] (ps.map x4)).length<=4000:=by rw [AQ] at h2;lia
  exact y8 rfl (ad (ad (ad (a:=B6) (b:=[40]) (c1D (by decide+kernel)) (cst b4Z _) (by decide)) (c1P ok.2.1 (fun p hp=>ih p (G0 ok.2.2 hp) (by have:=G4 hp;lia) (by have:=Z2 (sep:=[44,32]) (List.mem_map_of_mem (f:=x4) hp);lia)) h3 _) (up4 (K2 h2))) (cst a6Z _) (up4 (K2 hl)))
 |above ps=>
  rw [J7] at ok
  have d:x6 (.above ps)=1+J9 ps:=by rw [x6]
  rw [p9,S5,p5 (p:= .str (AC "above")) rfl,b9 rfl,b9 rfl]
  rw [x4,S3] at hl ⊢
  have h2:=P3 hl
  have h3:(z7 [44,32] (ps.map x4)).length<=4000:=by rw [AQ] at h2;lia
  exact y8 rfl (ad (ad (ad (a:=W5) (b:=[40]) (c1D (by decide+kernel)) (cst b4Z _) (by decide)) (c1P ok.2.1 (fun p hp=>ih p (G0 ok.2.2 hp) (by have:=G4 hp;lia) (by have:=Z2 (sep:=[44,32]) (List.mem_map_of_mem (f:=x4) hp);lia)) h3 _) (up4 (K2 h2))) (cst a6Z _) (up4 (K2 hl)))
 |across k p=>
  rw [J7] at ok
  have d:x6 (.across k p)=1+x6 p:=by rw [x6]
  rw [p9,p5 (p:= .str (AC "across")) rfl,b9 rfl,b9 rfl,b9 rfl]
  rw [x4] at hl ⊢
  have l1:=P3 hl
  have l2:=P3 l1
  have l3:=P3 l2
  have ip:=ih p ok.2.2 (by lia) (by simp only [AQ] at hl;lia)
  exact y8 rfl (ad (ad (ad (ad (ad (a:=J2) (b:=[40]) (c1D (by decide+kernel)) (cst b4Z _) (by decide)) (c4f ok.2.1 rfl) (up4 (K2 l3))) (cst Q5 _) (up4 (K2 l2))) ((Q4 rfl).trans ip) (up4 (K2 l1))) (cst a6Z _) (up4 (K2 hl)))
 |down k p=>
  rw [J7] at ok
  have d:x6 (.down k p)=1+x6 p:=by rw [x6]
  rw [p9,p5 (p:= .str (AC "down")) rfl,b9 rfl,b9 rfl,b9 rfl]
  rw [x4] at hl ⊢
  have l1:=P3 hl
  have l2:=P3 l1
  have l3:=P3 l2
  have ip:=ih p ok.2.2 (by lia) (by simp only [AQ] at hl;lia)
  exact y8 rfl (ad (ad (ad (ad (ad (a:=a5V) (b:=[40]) (c1D (by decide+kernel)) (cst b4Z _) (by decide)) (c4f ok.2.1 rfl) (up4 (K2 l3))) (cst Q5 _) (up4 (K2 l2))) ((Q4 rfl).trans ip) (up4 (K2 l1))) (cst a6Z _) (up4 (K2 hl)))
 |turned w p=>
  rw [J7] at ok
  have d:x6 (.turned w p)=1+x6 p:=by rw [x6]
  rw [p9,p5 (p:= .str (AC "turned")) rfl,b9 rfl,b9 rfl,b9 rfl,b9 rfl]
  rw [x4] at hl ⊢
  have l1:=P3 hl
  have l2:=P3 l1
  have ip:=ih p ok.2 (by lia) (by simp only [AQ] at hl;lia)
  exact y8 rfl (ad (ad (ad (a:=w) rfl (cst b4Z _) (up4 (K2 l2))) ((Q4 rfl).trans ip) (up4 (K2 l1))) (cst a6Z _) (up4 (K2 hl)))
 |dyed a b p=>
  rw [J7] at ok
  have d:x6 (.dyed a b p)=1+x6 p:=by rw [x6]
  rw [p9,p5 (p:= .str (AC "dye")) rfl,b9 rfl,b9 rfl,b9 rfl,b9 rfl,b9 rfl]
  rw [x4] at hl ⊢
  have l1:=P3 hl
  have l2:=P3 l1
  have l3:=P3 l2
  have l4:=P3 l3
  have l5:=P3 l4
  have ip:=ih p ok.2.2 (by lia) (by simp only [AQ] at hl;lia)
  have e:=ad (ad (ad (ad (ad (ad (x:=mC (.str (AC "dye("))) (y:=m2 v9 (a9 0) (mC (.int 1))) (ρ:=[some (.val (.tuple [.str (AC "dye"),row [a],row [b],p9 p])),some (.val (.str (AC "dye")))]) (cst (l:=[100,121,101,40]) (by decide+kernel) _) (b:=[a]) rfl (up4 (K2 l5))) (cst Q5 _) (up4 (K2 l4))) (y:=m2 v9 (a9 0) (mC (.int 2))) (b:=[b]) rfl (up4 (K2 l3))) (cst Q5 _) (up4 (K2 l2))) ((Q4 (g:=R) (x:=m2 v9 (a9 0) (mC (.int 3))) rfl).trans ip) (up4 (K2 l1))) (cst a6Z _) (up4 (K2 hl))
  show l9 _ _=_
  unfold l9
  refine(congrArg (fun o=>Option.bind o _) e).trans rfl
theorem a9c:∀(n:Nat) (m:Mo),J7 m->x6 m<=n->(x4 m).length<=4000->a4x n [p9 m]=some (.val (row (x4 m)))
 |0,m,_,h,_=>by have:=a0w m;lia
 |n+1,m,ok,h,hl=>b41 m ok hl fun p okp hp hlp=>a9c n p okp (by lia) hlp
def c0O(h:x ρ=some (.val p)):P4 c [f] (a0 x b8) ρ=some (.val (obV c [(.str f,p)])):=by
 unfold P4 a0
 rw [h]
 rfl
def c2S(h:x ρ=some (.val p))(h2:y ρ=some (.val q)):P4 c [f,g] (a0 x (a0 y b8)) ρ=some (.val (obV c [(.str f,p),(.str g,q)])):=by
 unfold P4 a0
 rw [h,h2]
 rfl
def c4Z(h:x ρ=some (.val p))(h2:y ρ=some (.val q))(h3:z ρ=some (.val r)):P4 c [f,g,k] (a0 x (a0 y (a0 z b8))) ρ=some (.val (obV c [(.str f,p),(.str g,q),(.str k,r)])):=by
 unfold P4 a0
 rw [h,h2,h3]
 rfl
def c4g(he:elt=m4 R (a0 (a9 2) b8))(hp:ps.length<=6)(h:∀p∈ps,R [p9 p]=some (.val (v5 p))):
 m1 a08 (F9 1 (w6 (m2 v9 (a9 0) (mC (.int 1)))) (u3 2) P8 elt) [some (.val (.tuple [w,.list (ps.map p9)])),some (.val ww)]=some (.val (.tuple (b5o ps))):=by
 have cm:=T2 (ι:=p9) (f:=v5) (k:=1) (it:=w6 (m2 v9 (a9 0) (mC (.int 1)))) (tg:=u3 2) (elt:=elt) (ρ:=[some (.val (.tuple [w,.list (ps.map p9)])),some (.val ww)]) ps rfl (by lia) fun p hp=>by
  refine⟨[some (.val (.tuple [w,.list (ps.map p9)])),some (.val ww),some (.val (p9 p))],rfl, ?_⟩
  rw [he,(Q4 rfl).trans (h p hp)]
  rfl
 refine(congrArg (fun o=>Option.bind o a08) cm).trans ?_
 rw [a2X]
 rfl
def b61(m:Mo)(ok:J7 m)(ih:∀p,J7 p->x6 p<x6 m->R [p9 p]=some (.val (v5 p))):n6 1 (a1z R) [p9 m]=some (.val (v5 m)):=by
 refine W4 ?_
 show a1z R [some (.val (p9 m)),none]=_
 unfold a1z
 cases m with
 |plain rows=>
  rw [p9,p5 (p:= .str (AC "plain")) rfl,v5]
  exact y8 rfl (c0O rfl)
 |named w=>
  rw [p9,p5 (p:= .str (AC "name")) rfl,b9 rfl,v5]
  exact y8 rfl (c0O rfl)
 |beside ps=>
  rw [J7] at ok
  have d:x6 (.beside ps)=1+J9 ps:=by rw [x6]
  rw [p9,S5,p5 (p:= .str (AC "beside")) rfl,b9 rfl,b9 rfl,v5]
  exact y8 rfl (c0O (c4g rfl ok.2.1 fun p hp=>ih p (G0 ok.2.2 hp) (by have:=G4 hp;lia)))
 |above ps=>
  rw [J7] at ok
  have d:x6 (.above ps)=1+J9 ps:=by rw [x6]
  rw [p9,S5,p5 (p:= .str (AC "above")) rfl,b9 rfl,b9 rfl,b9 rfl,v5]
  exact y8 rfl (c0O (c4g rfl ok.2.1 fun p hp=>ih p (G0 ok.2.2 hp) (by have:=G4 hp;lia)))
 |across k p=>
  rw [J7] at ok
  have d:x6 (.across k p)=1+x6 p:=by rw [x6]
  rw [p9,p5 (p:= .str (AC "across")) rfl,b9 rfl,b9 rfl,b9 rfl,b9 rfl,v5]
  exact y8 rfl (c2S rfl ((Q4 rfl).trans (ih p ok.2.2 (by lia))))
 |down k p=>
  rw [J7] at ok
  have d:x6 (.down k p)=1+x6 p:=by rw [x6]
  rw [p9,p5 (p:= .str (AC "down")) rfl,b9 rfl,b9 rfl,b9 rfl,b9 rfl,b9 rfl,v5]
  exact y8 rfl (c2S rfl ((Q4 rfl).trans (ih p ok.2.2 (by lia))))
 |turned w p=>
  rw [J7] at ok
  have d:x6 (.turned w p)=1+x6 p:=by rw [x6]
  rw [p9,p5 (p:= .str (AC "turned")) rfl,b9 rfl,b9 rfl,b9 rfl,b9 rfl,b9 rfl,b9 rfl,v5]
  exact y8 rfl (c2S rfl ((Q4 rfl).trans (ih p ok.2 (by lia))))
 |dyed a b p=>
  rw [J7] at ok
  have d:x6 (.dyed a b p)=1+x6 p:=by rw [x6]
  rw [p9,p5 (p:= .str (AC "dye")) rfl,b9 rfl,b9 rfl,b9 rfl,b9 rfl,b9 rfl,b9 rfl,b9 rfl,v5]
  have e:=c4Z (c:=AC "Dyed") (f:=AC "one") (g:=AC "other") (k:=AC "part") (x:=m2 v9 (a9 0) (mC (.int 1))) (y:=m2 v9 (a9 0) (mC (.int 2))) (z:=m4 R (a0 (m2 v9 (a9 0) (mC (.int 3))) b8)) (ρ:=[some (.val (.tuple [.str (AC "dye"),row [a],row [b],p9 p])),some (.val (.str (AC "dye")))]) (p:=row [a]) (q:=row [b]) rfl rfl ((Q4 rfl).trans (ih p ok.2.2 (by lia)))
  show l9 _ _=_
  unfold l9
  exact(congrArg (fun o=>Option.bind o _) e).trans rfl
theorem b3q:∀(n:Nat) (m:Mo),J7 m->x6 m<=n->a4v n [p9 m]=some (.val (v5 m))
 |0,m,_,h=>by have:=a0w m;lia
 |n+1,m,ok,h=>b61 m ok fun p okp hp=>b3q n p okp (by lia)
def b6c(m:Mo):∃r,L7 [p9 m]=some r/\PyData.items? r.rd=some ((Q8 m).map p9)/\r.toVal=some (.list ((Q8 m).map p9)):=by
 have go:∀{r:g6},a7M [some (.val (p9 m))]=some (.rt r)->PyData.items? r.rd=some ((Q8 m).map p9)->r.toVal=some (.list ((Q8 m).map p9))->∃r,L7 [p9 m]=some r/\PyData.items? r.rd=some ((Q8 m).map p9)/\r.toVal=some (.list ((Q8 m).map p9)):=fun {r} h h2 h3=>⟨r,W4 (n:=0) (by simpa using h),h2,h3⟩
 cases m with
 |plain rows=>exact go (r:= .own []) (by rw [p9];rfl) rfl rfl
 |named w=>exact go (r:= .own []) (by rw [p9];rfl) rfl rfl
 |beside ps=>exact go (r:= .val (.list (ps.map p9))) (by rw [p9,S5];rfl) rfl rfl
 |above ps=>exact go (r:= .val (.list (ps.map p9))) (by rw [p9,S5];rfl) rfl rfl
 |across k p=>exact go (r:= .own [p9 p]) (by rw [p9];rfl) rfl rfl
 |down k p=>exact go (r:= .own [p9 p]) (by rw [p9];rfl) rfl rfl
 |turned w p=>exact go (r:= .own [p9 p]) (by rw [p9];rfl) rfl rfl
 |dyed a b p=>exact go (r:= .own [p9 p]) (by rw [p9];rfl) rfl rfl
def b5f(ok:J7 m):(∀p∈Q8 m,J7 p)/\(Q8 m).length<=6:=by
 constructor
 ·cases m<;>rw [J7] at ok<;>intro p hp
  ·cases hp
  ·cases hp
  ·exact G0 ok.2.2 hp
  ·exact G0 ok.2.2 hp
  ·rw [List.mem_singleton.mp hp];exact ok.2.2
  ·rw [List.mem_singleton.mp hp];exact ok.2.2
  ·rw [List.mem_singleton.mp hp];exact ok.2
  ·rw [List.mem_singleton.mp hp];exact ok.2.2
 ·cases m<;>rw [J7] at ok<;>simp only [Q8,AM,Ae]<;>lia
theorem b3o:∀(n:Nat) (m:Mo),J7 m->x6 m<=n->W9 n [p9 m]=some (.val (.int (x6 m:Nat)))
 |0,m,_,h=>by have:=a0w m;lia
 |n+1,m,ok,h=>by
  have hd:=b1R m
  obtain⟨hin,hlen⟩:=b5f ok
  obtain⟨r,er,ei,_⟩:=b6c m
  have it:w6 (m4 L7 (a0 (a9 0) b8)) [some (.val (p9 m))]=some ((Q8 m).map p9):=by
   rw [a4D,(Q4 rfl).trans er]
   exact ei
  have cm:=T2 (ι:=p9) (f:=fun p=> .int (x6 p:Nat)) (k:=1) (tg:=u3 1) (elt:=V1 (W9 n)) (Q8 m) it (by lia) fun p hp=>by
   refine⟨[some (.val (p9 m)),some (.val (p9 p))],rfl, ?_⟩
   unfold V1
   rw [(Q4 rfl).trans (b3o n p (hin p hp) (by have:=G4 hp;lia))]
   rfl
  have mx:a5I (.own ((Q8 m).map fun p=> .int (x6 p:Nat)))=some (.val (.int ((J9 (Q8 m):Nat):Int))):=by
   show(a2V _).bind _=_
   rw [b15,AH,if_pos (by rw [Ak];lia),b5F]
  refine a3v (x:=m2 v6 (mC (.int 1)) (m1 a5I (F9 1 (w6 (m4 L7 (a0 (a9 0) b8))) (u3 1) P8 (V1 (W9 n))))) ?_
  unfold m2 m1
  show(F9 1 (w6 (m4 L7 (a0 (a9 0) b8))) (u3 1) P8 (V1 (W9 n)) [some (.val (p9 m))]|>.bind a5I).bind (fun y=>v6 (.val (.int 1)) y)=_
  rw [cm,AH,mx,AH,hd]
  show some (g6.val (.int (1+((J9 (Q8 m):Nat):Int))))=_
  rw [Int.natCast_add]
  rfl
def S0(hc:c ρ=some true)(hb:b ρ=some (.rt r)):j5 (u6 c b m7) n ρ=some (.rt r):=by
 unfold j5 u6
 rw [hc]
 show(b ρ).bind _=_
 rw [hb]
 rfl
def a09(h:x ρ=some (.val p)):l9 x ρ=some (.rt (.val p)):=by
 unfold l9
 rw [h]
 rfl
def c1n(R:List (List Nat))(n:Nat):L4 (R.map row) n=true:=by
 induction R with
 |nil=>rfl
 |cons r R ih=>
  rw [AK]
  show(B7 (row r) n && L4 (R.map row) n)=true
  rw [ih]
  cases n<;>rfl
def a1d(h1:x ρ=some (.val p))(h2:y ρ=some (.val q)):m4 g (a0 x (a0 y b8)) ρ=g [p,q]:=by
 unfold m4 a0
 rw [h1,h2]
 rfl
def b3R(h1:a ρ=some false)(h2:b ρ=some false):Q9 a b ρ=some false:=by
 unfold Q9
 rw [h1]
 exact h2
def b8M(h:a ρ=some true):G5 a ρ=some false:=by
 unfold G5
 rw [h]
 rfl
def a95(h:x ρ=some (.val (.bool b))):mtV x ρ=some b:=by
 unfold mtV
 rw [h]
 rfl
theorem b6w(f g:Mo->PV):∀ps:List Mo,a11 (ps.map f) (ps.map g)=ps.map fun p=> .tuple [f p,g p]
 |[]=>rfl
 |p::ps=>by
  have:=b6w f g ps
  unfold a11 at this ⊢
  rw [AK,AK,AK,List.zipWith_cons_cons,this]
theorem b55{s0 s1 s2 s3:Option g6}:∀(ps:List Mo) (q4 q5:Option g6),(∀p∈ps,R [v5 p,p9 p]=some (.val (.bool true)))->∃q4' q5',a07 (X1 R) (b4b [4,5]) (ps.map fun p=> .tuple [v5 p,p9 p]) [s0,s1,s2,s3,q4,q5]=some (.nx [s0,s1,s2,s3,q4',q5'])
 |[],q4,q5,_=>⟨q4,q5,rfl⟩
 |p::ps,q4,q5,h=>by
  obtain⟨a,b,e⟩:=b55 (s0:=s0) (s1:=s1) (s2:=s2) (s3:=s3) ps (some (.val (v5 p))) (some (.val (p9 p))) fun x hx=>h x (Ah _ hx)
  refine⟨a,b, ?_⟩
  have hb:X1 R [s0,s1,s2,s3,some (.val (v5 p)),some (.val (p9 p))]=some (.nx [s0,s1,s2,s3,some (.val (v5 p)),some (.val (p9 p))]):=by
   unfold X1
   exact(a9g (b8M (a95 ((a1d rfl rfl).trans (h p Ab))))).trans rfl
  rw [AK,a07]
  show(X1 R [s0,s1,s2,s3,some (.val (v5 p)),some (.val (p9 p))]).bind _=_
  rw [hb]
  exact e
def b54{m:Mo}{ps:List Mo}{w:PV}{s2:PV}{l:List PV}(fl:A5 [AC "Beside",AC "Above"] (AC "parts") (.val (v5 m))=some (.val (.tuple (ps.map v5))))(h:∀p∈ps,R [v5 p,p9 p]=some (.val (.bool true))):
 j5 (u6 (Q9 (G5 (mtV (m1 (a1n "tuple") (m1 (A5 [AC "Beside",AC "Above"] (AC "parts")) (a9 0))))) (A6 (m2 gNe (m1 N8 (m1 (A5 [AC "Beside",AC "Above"] (AC "parts")) (a9 0))) (m1 N8 (m2 v9 (a9 1) (mC (.int 1))))))) (l9 (mC (.bool false))) m7)
 (j5 (a5v (b6e (a0 (m1 (A5 [AC "Beside",AC "Above"] (AC "parts")) (a9 0)) (a0 (m2 v9 (a9 1) (mC (.int 1))) b8))) (b4b [4,5]) (X1 R))
 (l9 (mC (.bool true)))) [some (.val (v5 m)),some (.val (.tuple [w,.list (ps.map p9)])),some (.val s2),some (.own l),none,none]=some (.rt (.val (.bool true))):=by
 have f0:m1 (A5 [AC "Beside",AC "Above"] (AC "parts")) (a9 0) [some (.val (v5 m)),some (.val (.tuple [w,.list (ps.map p9)])),some (.val s2),some (.own l),none,none]=some (.val (.tuple (ps.map v5))):=b1Y fl
 have t1:mtV (m1 (a1n "tuple") (m1 (A5 [AC "Beside",AC "Above"] (AC "parts")) (a9 0))) [some (.val (v5 m)),some (.val (.tuple [w,.list (ps.map p9)])),some (.val s2),some (.own l),none,none]=some true:=a95 (by
  refine(congrArg (fun o=>Option.bind o (a1n "tuple")) f0).trans rfl)
 have t2:A6 (m2 gNe (m1 N8 (m1 (A5 [AC "Beside",AC "Above"] (AC "parts")) (a9 0))) (m1 N8 (m2 v9 (a9 1) (mC (.int 1))))) [some (.val (v5 m)),some (.val (.tuple [w,.list (ps.map p9)])),some (.val s2),some (.own l),none,none]=some false:=
  a1h (r:= .val (.int (ps.length:Nat))) (by
   refine(congrArg (fun o=>Option.bind o N8) f0).trans ?_
   show some (g6.val (.int ((ps.map v5).length:Nat)))=_
   rw [Ak]) (q:= .val (.int (ps.length:Nat))) (by
   show some (g6.val (.int ((ps.map p9).length:Nat)))=_
   rw [Ak]) (a1I rfl)
 obtain⟨q4,q5,e⟩:=b55 (s0:=some (.val (v5 m))) (s1:=some (.val (.tuple [w,.list (ps.map p9)]))) (s2:=some (.val s2)) (s3:=some (.own l)) ps none none h
 rw [b9 (b3R (b8M t1) t2),a4r (ps:=ps.map fun p=> .tuple [v5 p,p9 p]) (by
  unfold b6e a0
  rw [f0]
  show some (a11 (ps.map v5) (ps.map p9))=_
  rw [b6w]) e]
 rfl
def a0J(h:e ρ=some (.own l)):j5 (z6 i e) n ρ=n (ρ.set i (some (.own l))):=by
 unfold j5 z6
 rw [h]
 rfl
def b7H(h:x ρ=some (.val (.bool true)))(h2:y ρ=some r):a6P x y ρ=some r:=by
 unfold a6P
 rw [h]
 exact h2
def c0t(m:Mo)(ok:J7 m)(ih:∀p,J7 p->x6 p<x6 m->R [v5 p,p9 p]=some (.val (.bool true))):n6 4 (a4h R) [v5 m,p9 m]=some (.val (.bool true)):=by
 refine W4 ?_
 show a4h R [some (.val (v5 m)),some (.val (p9 m)),none,none,none,none]=_
 unfold a4h
 cases m with
 |plain rows=>
  have e:=a4s (p:= .tuple (rows.map row)) (by show L4 (rows.map row) 49=true;exact c1n rows 49)
  rw [p9,p5 (p:= .str (AC "plain")) rfl,v5,b9 rfl]
  refine S0 rfl ?_
  rw [b9 rfl]
  exact a09 e
 |named w=>
  have e:=a4s (p:=row w) rfl
  rw [p9,p5 (p:= .str (AC "name")) rfl,v5,b9 rfl,b9 rfl]
  refine y8 rfl ?_
  unfold a6P
  exact e
 |beside ps=>
  rw [J7] at ok
  have d:x6 (.beside ps)=1+J9 ps:=by rw [x6]
  rw [p9,S5,p5 (p:= .str (AC "beside")) rfl]
  have k:=b54 (R:=R) (m:= .beside ps) (w:= .str (AC "beside")) (s2:= .str (AC "beside")) (l:=[.bool true,.bool false]) (a7j ps) fun p hp=>ih p (G0 ok.2.2 hp) (by have:=G4 hp;lia)
  rw [v5] at k ⊢
  rw [b9 rfl,b9 rfl,b9 rfl]
  refine S0 rfl ?_
  exact k
 |above ps=>
  rw [J7] at ok
  have d:x6 (.above ps)=1+J9 ps:=by rw [x6]
  rw [p9,S5,p5 (p:= .str (AC "above")) rfl]
  have k:=b54 (R:=R) (m:= .above ps) (w:= .str (AC "above")) (s2:= .str (AC "above")) (l:=[.bool false,.bool true]) (a7i ps) fun p hp=>ih p (G0 ok.2.2 hp) (by have:=G4 hp;lia)
  rw [v5] at k ⊢
  rw [b9 rfl,b9 rfl,b9 rfl]
  refine S0 rfl ?_
  exact k
 |across k p=>
  rw [J7] at ok
  have d:x6 (.across k p)=1+x6 p:=by rw [x6]
  have hp:=ih p ok.2.2 (by lia)
  have e:=a4s (p:= .int (k:Nat)) rfl
  rw [p9,p5 (p:= .str (AC "across")) rfl,v5]
  rw [b9 rfl,b9 rfl,b9 rfl,b9 rfl,b9 rfl,b9 rfl,a0J (l:=[.bool true,.bool false]) rfl,b9 (b3R rfl rfl)]
  exact a09 (b7H e ((a1d rfl rfl).trans hp))
 |down k p=>
  rw [J7] at ok
  have d:x6 (.down k p)=1+x6 p:=by rw [x6]
  have hp:=ih p ok.2.2 (by lia)
  have e:=a4s (p:= .int (k:Nat)) rfl
  rw [p9,p5 (p:= .str (AC "down")) rfl,v5]
  rw [b9 rfl,b9 rfl,b9 rfl,b9 rfl,b9 rfl,b9 rfl,a0J (l:=[.bool false,.bool true]) rfl,b9 (b3R rfl rfl)]
  exact a09 (b7H e ((a1d rfl rfl).trans hp))
 |turned w p=>
  rw [J7] at ok
  have d:x6 (.turned w p)=1+x6 p:=by rw [x6]
  have hp:=ih p ok.2 (by lia)
  have e:=a1I (p:=row w) rfl
  rw [p9,p5 (p:= .str (AC "turned")) rfl,v5]
  rw [b9 rfl,b9 rfl,b9 rfl,b9 rfl]
  refine S0 rfl ?_
  rw [b9 (b3R rfl (a1h (r:= .val (row w)) rfl (q:= .val (row w)) rfl e))]
  exact a09 ((a1d rfl rfl).trans hp)
 |dyed a b p=>
  rw [J7] at ok
  have d:x6 (.dyed a b p)=1+x6 p:=by rw [x6]
  have hp:=ih p ok.2.2 (by lia)
  have e1:=a1I (p:=row [a]) rfl
  have e2:=a1I (p:=row [b]) rfl
  rw [p9,p5 (p:= .str (AC "dye")) rfl,v5]
  rw [b9 rfl,b9 rfl,b9 rfl,b9 rfl,b9 rfl]
  refine S0 rfl ?_
  rw [b9 rfl,b9 (b3R (a1h (r:= .val (row [a])) rfl (q:= .val (row [a])) rfl e1) (a1h (r:= .val (row [b])) rfl (q:= .val (row [b])) rfl e2))]
  exact a09 ((a1d rfl rfl).trans hp)
theorem b8v:∀(n:Nat) (m:Mo),J7 m->x6 m<=n->a7m n [v5 m,p9 m]=some (.val (.bool true))
 |0,m,_,h=>by have:=a0w m;lia
 |n+1,m,ok,h=>c0t m ok fun p okp hp=>b8v n p okp (by lia)
mutual
def nmM:Mo->List (List Nat)
 | .plain _=>[]
 | .named w=>[w]
 | .beside ps=>b5b ps
 | .above ps=>b5b ps
 | .across _ p=>nmM p
 | .down _ p=>nmM p
 | .turned _ p=>nmM p
 | .dyed _ _ p=>nmM p
def b5b:List Mo->List (List Nat)
 |[]=>[]
 |p::ps=>nmM p++b5b ps
end
theorem a6U:∀{ps:List Mo} {x:List Nat},x∈b5b ps↔∃p∈ps,x∈nmM p
 |[],x=>by rw [b5b];simp
 |p::ps,x=>by rw [b5b,Av,a6U];simp
def a9l(h:∀w,m≠.named w):x∈nmM m↔∃p∈Q8 m,x∈nmM p:=by
 cases m with
 |named w=>exact absurd rfl (h w)
 |plain R=>rw [nmM];simp [Q8]
 |beside ps=>rw [nmM,a6U];rfl
 |above ps=>rw [nmM,a6U];rfl
 |across k p=>rw [nmM];simp [Q8]
 |down k p=>rw [nmM];simp [Q8]
 |turned w p=>rw [nmM];simp [Q8]
 |dyed a b p=>rw [nmM];simp [Q8]
def nmS(m:Mo):List Str:=(nmM m).map S
theorem a7v [DecidableEq α]:∀{l k:List α},l.Nodup->(∀x∈l,x∈k)->l.length<=k.length
 |[],_,_,_=>Nat.zero_le _
 |x::l,k,nd,h=>by
  rw [List.nodup_cons] at nd
  have hx:=h x Ab
  have:=a7v (l:=l) (k:=k.erase x) nd.2 fun y hy=>(List.mem_erase_of_ne (fun(e:y=x)=>nd.1 (by rw [<-e];exact hy))).mpr (h y (Ah _ hy))
  rw [List.length_erase_of_mem hx] at this
  have hk:0<k.length:=List.length_pos_of_mem hx
  rw [AM]
  lia
abbrev a2x:List (List Nat):=[[107],[115,116,97,121],[108,101,116],[107,110,111,116,115],[122,122]]
def in5(m:Mo):Prop:=∀w∈nmM m,w∈a2x
def b9F(h:∀z∈zs,∃w∈a2x,z=S w):(z0 zs).length<=5:=by
 have:=a7v (l:=z0 zs) (k:=a2x.map S) (a97 (a21 zs)) fun x hx=>by
  obtain⟨w,hw,e⟩:=h x ((a20 x zs).mp hx)
  rw [e]
  exact List.mem_map_of_mem hw
 simpa using this
def b14(h:in5 m)(hp:p∈Q8 m):in5 p:=fun w hw=>by
 by_cases hm:∃v,m= .named v
 ·obtain⟨v,rfl⟩:=hm
  cases hp
 ·exact h w ((a9l fun v e=>hm ⟨v,e⟩).mpr ⟨p,hp,hw⟩)
theorem a94:∀zs:List Str,N1 (zs.map PyData.str)=some zs
 |[]=>rfl
 |z::zs=>by rw [AK,N1,a94 zs];rfl
abbrev nmF(n:Nat):Mo->RF:=a1g (y3 n) C5 (y3 n) (y3 n) (y3 n) (y3 n) (y3 n) (y3 n)
def b2b(h:mo ρ=some (.val (v5 m))):
 O3 (b4a f1 f2 f3 f4 f5 f6 f7 f8) (AC "names") mo b8 ρ=a1g f1 f2 f3 f4 f5 f6 f7 f8 m [v5 m]:=by
 unfold O3
 rw [h]
 cases m<;>rw [v5]<;>rfl
def c2U(w:List Nat):C5 [v5 (.named w)]=some (.own [row w]):=by
 unfold C5 a5E n6
 show(l9 (O2 (a0 (m1 (A5 _ _) (a9 0)) b8)) [some (.val (v5 (.named w)))]).bind _=_
 unfold l9 O2 a0
 rw [b1Y (b5R w)]
 rfl
theorem a9k:∀(ps:List Mo) (acc:List Str) (q2:Option g6),acc.length+5*ps.length<=1000->(∀p∈ps,in5 p/\a1g R C5 R R R R R R p [v5 p]=some (.own ((z0 (nmS p)).map .str)))->
 ∃(zs:List Str) (q2':Option g6),zs.length<=acc.length+5*ps.length/\(∀x,x∈zs↔x∈acc\/∃p∈ps,x∈nmS p)/\a07 (O0 R) (u3 2) (ps.map v5) [q0,some (.own (acc.map .str)),q2]=some (.nx [q0,some (.own (zs.map .str)),q2'])
 |[],acc,q2,_,_=>⟨acc,q2,by simp,by simp,rfl⟩
 |p::ps,acc,q2,hl,h=>by
  rw [AM] at hl
  obtain⟨h5,hp⟩:=h p Ab
  have l5:(z0 (nmS p)).length<=5:=b9F fun z hz=>by
   obtain⟨w,hw,e⟩:=Au.mp hz
   exact⟨w,h5 w hw,e.symm⟩
  obtain⟨zs,q2',z1,z2,e⟩:=a9k (q0:=q0) ps (acc++z0 (nmS p)) (some (.val (v5 p))) (by rw [AQ];lia) fun x hx=>h x (Ah _ hx)
  refine⟨zs,q2',by rw [AQ] at z1;rw [AM];lia,fun x=> ?_, ?_⟩
  ·rw [z2 x,Av,a20]
   simp only [AZ,exists_eq_or_imp]
   exact or_assoc
  ·have hb:O0 R [q0,some (.own (acc.map .str)),some (.val (v5 p))]=some (.nx [q0,some (.own ((acc++z0 (nmS p)).map .str)),some (.val (v5 p))]):=by
    unfold O0 b2a
    have hm:=b2b (f1:=R) (f2:=C5) (f3:=R) (f4:=R) (f5:=R) (f6:=R) (f7:=R) (f8:=R) (mo:=a9 2) (ρ:=[q0,some (.own (acc.map .str)),some (.val (v5 p))]) (m:=p) rfl
    rw [hm,hp]
    show(if(acc.map PyData.str).length+((z0 (nmS p)).map PyData.str).length<=AL then some (Fl.nx [q0,some (g6.own (acc.map PyData.str++(z0 (nmS p)).map PyData.str)),some (g6.val (v5 p))]) else none)=_
    rw [if_pos (by rw [Ak,Ak,sizeLine_eq];lia),<-BF]
   rw [AK,a07]
   show(O0 R [q0,some (.own (acc.map .str)),some (.val (v5 p))]).bind _=_
   rw [hb]
   exact e
theorem b3A:∀(n:Nat) (m:Mo),J7 m->in5 m->x6 m<=n->nmF n m [v5 m]=some (.own ((z0 (nmS m)).map .str))
 |0,m,_,_,h=>by have:=a0w m;lia
 |n+1,m,ok,h5,h=>by
  by_cases hm:∃w,m= .named w
  ·obtain⟨w,rfl⟩:=hm
   refine(c2U w).trans ?_
   unfold nmS
   rw [nmM]
   rfl
  ·have hne:∀w,m≠.named w:=fun w e=>hm ⟨w,e⟩
   obtain⟨hin,hlen⟩:=b5f ok
   have hd:=b1R m
   obtain⟨zs,q2,z1,z2,e⟩:=a9k (R:=y3 n) (q0:=some (.val (v5 m))) (Q8 m) [] none (by simp;lia) fun p hp=>⟨b14 h5 hp,b3A n p (hin p hp) (b14 h5 hp) (by have:=G4 hp;lia)⟩
   have zm:∀x,x∈zs↔x∈nmS m:=fun x=>by
    rw [z2 x]
    unfold nmS
    simp only [List.not_mem_nil,false_or,Au]
    constructor
    ·rintro⟨p,hp,w,hw,rfl⟩
     exact⟨w,(a9l hne).mpr ⟨p,hp,hw⟩,rfl⟩
    ·rintro⟨w,hw,rfl⟩
     obtain⟨p,hp,hw⟩:=(a9l hne).mp hw
     exact⟨p,hp,w,hw,rfl⟩
   have eu:z0 zs=z0 (nmS m):=a6m (c1Y (a21 zs)) (a97 (a21 zs)) fun x=>(a20 x zs).trans (zm x)
   have l5:(z0 zs).length<=5:=b9F fun z hz=>by
    obtain⟨w,hw,e⟩:=Au.mp ((zm z).mp hz)
    exact⟨w,h5 w hw,e.symm⟩
   have it:a4C (O3 (b4a x8 x8 E9 J4 E8 L5 F8 L6) (AC "inner") (a9 0) b8) [some (.val (v5 m)),some (.own []),none]=some ((Q8 m).map v5):=by
    rw [a9d,a2f (m:=m) (.inr (.inr rfl)) rfl]
    show((c2C m [v5 m]).bind _).bind _=_
    rw [b8l]
    rfl
   have pk:nmF (n+1) m=y3 (n+1):=by cases m<;>first|rfl|exact absurd rfl (hne _)
   rw [pk]
   show n6 2 (U5 (y3 n)) [v5 m]=_
   unfold n6
   show(U5 (y3 n) [some (.val (v5 m)),none,none]).bind _=_
   unfold U5
   rw [a0J (l:=[]) rfl]
   show(j5 _ _ [some (.val (v5 m)),some (.own []),none]).bind _=_
   rw [a4r it e]
   show(l9 (m1 a2T (a9 1)) [some (.val (v5 m)),some (.own (zs.map .str)),q2]).bind _=_
   have gs:m1 a2T (a9 1) [some (.val (v5 m)),some (.own (zs.map .str)),q2]=some (.own ((z0 zs).map .str)):=by
    show(N1 (zs.map .str)).bind _=_
    rw [a94]
    show(if zs.length+1<4096/\(z0 zs).length<64 then some (g6.own ((z0 zs).map PyData.str)) else none)=_
    rw [if_pos ⟨by simp at z1;lia,by lia⟩]
   unfold l9
   rw [gs,eu]
   rfl
def c4X(L:List Str)(x:Str)(y:g6)(hv:∀p,y≠.val p)(hy:y.rd= .list (L.map .str)):a12 true (.val (.str x)) y=some (.val (.bool (!decide (x∈L)))):=by
 have h0:a12 true (.val (.str x)) y=gIn true (.val (.str x)) y:=by
  unfold a12
  split
  ·exact absurd rfl (hv _)
  ·rfl
 rw [h0]
 unfold gIn
 rw [hy]
 show(if B7 (.str x) 50=true/\L4 (L.map .str) 50=true then some (g6.val (.bool (if true=true then !((L.map PyData.str).any fun p=>PyData.eqv p (.str x)) else _))) else none)=_
 rw [if_pos ⟨rfl,a8R fun p hp=>by obtain⟨x,_,rfl⟩:=Au.mp hp;rfl⟩,if_pos rfl]
 congr 4
 rw [List.any_map]
 clear hy h0
 induction L with
 |nil=>rfl
 |cons z L ih=>
  rw [List.any_cons,ih]
  have e:PyData.eqv (.str z) (.str x)=decide (z=x):=by
   simp only [PyData.eqv]
   by_cases h:z=x
   ·subst h;simp
   ·simp [h]
  show(PyData.eqv (.str z) (.str x)||_)=_
  rw [e]
  by_cases h:z=x
  ·subst h;simp
  ·have h':x≠z:=fun e=>h e.symm
   simp [h,h']
theorem b21(acc:List Str):∀zs:List Str,a16 (A6 (m2 (a12 true) (a9 3) (a9 1))) (L9 R) (u3 3) [q0,some (.own (acc.map .str)),q2,none] (zs.map .str)=some ((zs.filter fun z=> !decide (z∈acc)).map .str)
 |[]=>rfl
 |z::zs=>by
  rw [AK,a16]
  have hc:A6 (m2 (a12 true) (a9 3) (a9 1)) [q0,some (.own (acc.map .str)),q2,some (.val (.str z))]=some (!decide (z∈acc)):=by
   have:=c4X acc z (.bo (.lst (acc.map .str))) (fun p h=>by cases h) rfl
   unfold A6 m2
   show((a12 true (.val (.str z)) (.bo (.lst (acc.map .str)))).bind _)=_
   rw [this]
   rfl
  show((A6 (m2 (a12 true) (a9 3) (a9 1)) [q0,some (.own (acc.map .str)),q2,some (.val (.str z))]).bind _)=_
  rw [hc,AH]
  have ih:=b21 (R:=R) (q0:=q0) (q2:=q2) acc zs
  by_cases h:z∈acc
  ·rw [if_neg (by simp [h]),List.filter_cons_of_neg (by simp [h])]
   exact ih
  ·rw [if_pos (by simp [h]),List.filter_cons_of_pos (by simp [h])]
   show(a16 _ _ _ _ _).bind _=_
   rw [ih]
   rfl
theorem a7V:∀(ps:List Mo) (acc:List Str) (q2:Option g6),acc.Nodup->acc.length+5*ps.length<=1000->(∀p∈ps,∃ys:List Str,R [p9 p]=some (.own (ys.map .str))/\ys.Nodup/\ys.length<=5/\∀x,x∈ys↔x∈nmS p)->
 ∃(zs:List Str) (q2':Option g6),zs.Nodup/\(∀x,x∈zs↔x∈acc\/∃p∈ps,x∈nmS p)/\a07 (L8 R) (u3 2) (ps.map p9) [q0,some (.own (acc.map .str)),q2]=some (.nx [q0,some (.own (zs.map .str)),q2'])
 |[],acc,q2,nd,_,_=>⟨acc,q2,nd,by simp,rfl⟩
 |p::ps,acc,q2,nd,hl,h=>by
  rw [AM] at hl
  obtain⟨ys,hp,ny,ly,my⟩:=h p Ab
  have lf:(ys.filter fun z=> !decide (z∈acc)).length<=5:=Nat.le_trans (List.length_filter_le _ _) ly
  have nn:(acc++ys.filter fun z=> !decide (z∈acc)).Nodup:=by
   rw [List.nodup_append]
   refine⟨nd,ny.filter _,fun a ha b hb e=> ?_⟩
   rw [List.mem_filter] at hb
   subst e
   simp [ha] at hb
  obtain⟨zs,q2',z1,z2,e⟩:=a7V (q0:=q0) ps (acc++ys.filter fun z=> !decide (z∈acc)) (some (.val (p9 p))) nn (by rw [AQ];lia) fun x hx=>h x (Ah _ hx)
  refine⟨zs,q2',z1,fun x=> ?_, ?_⟩
  ·rw [z2 x,Av,List.mem_filter,my]
   simp only [AZ,exists_eq_or_imp]
   by_cases hx:x∈acc
   ·simp [hx]
   ·simp [hx]
  ·have hc:F9 1 (w6 (m4 R (a0 (a9 2) b8))) (u3 3) (A6 (m2 (a12 true) (a9 3) (a9 1))) (L9 R) [q0,some (.own (acc.map .str)),some (.val (p9 p))]=some (.own ((ys.filter fun z=> !decide (z∈acc)).map .str)):=by
    unfold F9
    rw [a4D,(Q4 rfl).trans hp]
    show(if(ys.map PyData.str).length<=AL then(a16 _ _ _ [q0,some (.own (acc.map .str)),some (.val (p9 p)),none] (ys.map .str)).bind _ else none)=_
    rw [if_pos (by rw [Ak,sizeLine_eq];lia),b21]
    rfl
   have hb:L8 R [q0,some (.own (acc.map .str)),some (.val (p9 p))]=some (.nx [q0,some (.own ((acc++ys.filter fun z=> !decide (z∈acc)).map .str)),some (.val (p9 p))]):=by
    have ha:m2 v6 (a9 1) (F9 1 (w6 (m4 R (a0 (a9 2) b8))) (u3 3) (A6 (m2 (a12 true) (a9 3) (a9 1))) (L9 R)) [q0,some (.own (acc.map .str)),some (.val (p9 p))]=some (.own ((acc++ys.filter fun z=> !decide (z∈acc)).map .str)):=by
     show Option.bind (F9 1 (w6 (m4 R (a0 (a9 2) b8))) (u3 3) (A6 (m2 (a12 true) (a9 3) (a9 1))) (L9 R) [q0,some (.own (acc.map .str)),some (.val (p9 p))]) (fun y=>v6 (.bo (.lst (acc.map .str))) y)=_
     rw [hc]
     show(if(acc.map PyData.str).length+((ys.filter fun z=> !decide (z∈acc)).map PyData.str).length<=AL then some (g6.own (acc.map PyData.str++(ys.filter fun z=> !decide (z∈acc)).map PyData.str)) else none)=_
     rw [if_pos (by rw [Ak,Ak,sizeLine_eq];lia),<-BF]
    unfold L8 z6
    rw [ha]
    rfl
   rw [AK,a07]
   show(L8 R [q0,some (.own (acc.map .str)),some (.val (p9 p))]).bind _=_
   rw [hb]
   exact e
theorem b07:∀(n:Nat) (m:Mo),J7 m->in5 m->x6 m<=n->∃zs:List Str,G2 n [p9 m]=some (.own (zs.map .str))/\zs.Nodup/\zs.length<=5/\∀x,x∈zs↔x∈nmS m
 |0,m,_,_,h=>by have:=a0w m;lia
 |n+1,m,ok,h5,h=>by
  by_cases hm:∃w,m= .named w
  ·obtain⟨w,rfl⟩:=hm
   refine⟨[S w], ?_,by simp,by simp,fun x=>by unfold nmS;rw [nmM];simp⟩
   show n6 2 (N3 (G2 n)) [p9 (.named w)]=_
   refine W4 ?_
   rw [p9]
   rfl
  ·have hne:∀w,m≠.named w:=fun w e=>hm ⟨w,e⟩
   obtain⟨hin,hlen⟩:=b5f ok
   have hd:=b1R m
   obtain⟨zs,q2,z1,z2,e⟩:=a7V (R:=G2 n) (q0:=some (.val (p9 m))) (Q8 m) [] none (by simp) (by simp;lia) fun p hp=>b07 n p (hin p hp) (b14 h5 hp) (by have:=G4 hp;lia)
   have zm:∀x,x∈zs↔x∈nmS m:=fun x=>by
    rw [z2 x]
    unfold nmS
    simp only [List.not_mem_nil,false_or,Au]
    constructor
    ·rintro⟨p,hp,w,hw,rfl⟩
     exact⟨w,(a9l hne).mpr ⟨p,hp,hw⟩,rfl⟩
    ·rintro⟨w,hw,rfl⟩
     obtain⟨p,hp,hw⟩:=(a9l hne).mp hw
     exact⟨p,hp,w,hw,rfl⟩
   have l5:zs.length<=5:=by
    have:=a7v (l:=zs) (k:=a2x.map S) z1 fun x hx=>by
     obtain⟨w,hw,e⟩:=Au.mp ((zm x).mp hx)
     rw [<-e]
     exact List.mem_map_of_mem (h5 w hw)
    simpa using this
   refine⟨zs, ?_,z1,l5,zm⟩
   obtain⟨r,er,_,ei⟩:=b6c m
   have it:a4C (m4 L7 (a0 (a9 0) b8)) [some (.val (p9 m)),some (.own []),none]=some ((Q8 m).map p9):=by
    rw [a9d,(Q4 rfl).trans er]
    show(r.toVal).bind _=_
    rw [ei]
    rfl
   show n6 2 (N3 (G2 n)) [p9 m]=_
   refine W4 ?_
   show N3 (G2 n) [some (.val (p9 m)),none,none]=_
   unfold N3
   rw [b9 (by cases m<;>first|exact absurd rfl (hne _)|(rw [p9];rfl)),a0J (l:=[]) rfl]
   show j5 _ _ [some (.val (p9 m)),some (.own []),none]=_
   rw [a4r it e]
   rfl
def c1i(ok:J7 m)(hd:x6 m<=8):b6m (x4 m)=some m:=by
 unfold b6m
 have:=b3x 8 m ok [] (.inl rfl)
 rw [Aj,if_pos hd] at this
 rw [this]
def c4k(L:List Str)(k:Nat):L4 (L.map .str) (k+1)=true:=a8R fun p hp=>by
 obtain⟨x,_,rfl⟩:=Au.mp hp
 rfl
def b6g(L:List Str)(x y:g6)(hx:x.rd= .list (L.map .str))(hy:y.rd= .list (L.map .str)):gNe x y=some (.val (.bool false)):=by
 have:=a1I (p:= .list (L.map .str)) (c4k L 48)
 unfold gNe at this ⊢
 rw [hx,hy]
 exact this
def b7i(m:Mo):a1g f f f f f f f f m=f:=by cases m<;>rfl
def a9R(ok:J7 m)(h5:in5 m)(hd:x6 m<=8)(hl:(x4 m).length<=450):a0X [p9 m]=some (.val (.bool true)):=by
 have mk:a59 [p9 m]=some (.val (v5 m)):=b3q 12 m ok (by lia)
 have lt:W0 [p9 m]=some (.val (row (x4 m))):=a9c 12 m ok (by lia) (by lia)
 have tx:a1g v4 v0 U8 Y8 U7 a0V U9 a0W m [v5 m]=some (.val (row (x4 m))):=c1u 20 m ok (by lia) hl
 have dx:E3 [v5 m]=some (.val (.int (x6 m:Nat))):=b5K 12 m ok (by lia)
 have ld:a58 [p9 m]=some (.val (.int (x6 m:Nat))):=b3o 12 m ok (by lia)
 have nx:a1g r8 C5 r8 r8 r8 r8 r8 r8 m [v5 m]=some (.own ((z0 (nmS m)).map .str)):=b3A 12 m ok h5 (by lia)
 obtain⟨zs,ez,z1,z2,z3⟩:=b07 12 m ok h5 (by lia)
 have ez:Y9 [p9 m]=some (.own (zs.map .str)):=ez
 have is:a80 [v5 m,p9 m]=some (.val (.bool true)):=b8v 12 m ok (by lia)
 have rm:=b9m (t:=x4 m) hl
 rw [c1i ok hd] at rm
 have rm:Z1 [row (x4 m)]=some (.val (v5 m)):=rm
 have es:a2m zs=z0 (nmS m):=a6m (Z7 zs) ((S4 zs).nodup_iff.mpr z1) fun x=>((S4 zs).mem_iff).trans (z3 x)
 have gs:a8Z (.own (zs.map .str))=some (.own ((z0 (nmS m)).map .str)):=by
  show(N1 (zs.map .str)).bind _=_
  rw [a94,AH,if_pos (by lia),es]
 refine W4 (n:=5) ?_
 show a4j [some (.val (p9 m)),none,none,none,none,none]=_
 unfold a4j
 refine(p5 ((Q4 rfl).trans mk)).trans ((p5 ((Q4 rfl).trans lt)).trans ?_)
 show j5 _ _ [some (.val (p9 m)),some (.val (v5 m)),some (.val (row (x4 m))),none,none,none]=_
 refine(b9 (b3R (a1h (b:=false) (r:= .val (row (x4 m))) ((a2f (m:=m) (.inl rfl) rfl).trans tx) (q:= .val (row (x4 m))) rfl (a1I rfl)) (a1h (b:=false) (r:= .val (.int (x6 m:Nat))) ((a2f (m:=m) (.inr (.inl rfl)) rfl).trans (by rw [b7i];exact dx)) (q:= .val (.int (x6 m:Nat))) ((Q4 rfl).trans ld) (a1I rfl)))).trans ?_
 refine(a0J ((b2b (m:=m) rfl).trans nx)).trans ?_
 have e4:m1 a8Z (m4 Y9 (a0 (a9 0) b8)) [some (.val (p9 m)),some (.val (v5 m)),some (.val (row (x4 m))),some (.own ((z0 (nmS m)).map .str)),none,none]=some (.own ((z0 (nmS m)).map .str)):=by
  unfold m1
  rw [(Q4 rfl).trans ez]
  exact gs
 show j5 (z6 4 _) _ [some (.val (p9 m)),some (.val (v5 m)),some (.val (row (x4 m))),some (.own ((z0 (nmS m)).map .str)),none,none]=_
 refine(a0J e4).trans ?_
 show j5 _ _ [some (.val (p9 m)),some (.val (v5 m)),some (.val (row (x4 m))),some (.own ((z0 (nmS m)).map .str)),some (.own ((z0 (nmS m)).map .str)),none]=_
 refine(b9 (b3R (b8M (a95 (b:=true) rfl)) (a1h (b:=false) rfl rfl (b6g (z0 (nmS m)) _ _ rfl rfl)))).trans ?_
 have l5:(z0 (nmS m)).length<=5:=b9F fun z hz=>by
  obtain⟨w,hw,e⟩:=Au.mp hz
  exact⟨w,h5 w hw,e.symm⟩
 have ea:a2e 3 (mC (.str (AC "a"))) [some (.val (p9 m)),some (.val (v5 m)),some (.val (row (x4 m))),some (.own ((z0 (nmS m)).map .str)),some (.own ((z0 (nmS m)).map .str)),none]=some (.nx [some (.val (p9 m)),some (.val (v5 m)),some (.val (row (x4 m))),some (.own ((z0 (nmS m)).map .str++[.str (AC "a")])),some (.own ((z0 (nmS m)).map .str)),none]):=by
  show(if((z0 (nmS m)).map PyData.str).length<AL then some (Fl.nx [some (g6.val (p9 m)),some (.val (v5 m)),some (.val (row (x4 m))),some (.own ((z0 (nmS m)).map .str++[.str (AC "a")])),some (.own ((z0 (nmS m)).map .str)),none]) else none)=_
  rw [if_pos (by rw [Ak,sizeLine_eq];lia)]
 have sq:∀{a n:MS} {ρ ρ':e9},a ρ=some (.nx ρ')->j5 a n ρ=n ρ':=fun {a n ρ ρ'} h=>by unfold j5;rw [h];rfl
 refine(sq ea).trans ((p5 ((Q4 rfl).trans rm)).trans ?_)
 show j5 _ _ [some (.val (p9 m)),some (.val (v5 m)),some (.val (row (x4 m))),some (.own ((z0 (nmS m)).map .str++[.str (AC "a")])),some (.own ((z0 (nmS m)).map .str)),some (.val (v5 m))]=_
 refine(b9 (b3R (a1h (b:=false) ((b2b (m:=m) rfl).trans nx) rfl (b6g (z0 (nmS m)) _ _ rfl rfl)) (b8M (a95 ((a1d rfl rfl).trans is))))).trans ?_
 refine a09 ?_
 have et:O3 (b4a v4 v0 U8 Y8 U7 a0V U9 a0W) (AC "text") (a9 5) b8 [some (.val (p9 m)),some (.val (v5 m)),some (.val (row (x4 m))),some (.own ((z0 (nmS m)).map .str++[.str (AC "a")])),some (.own ((z0 (nmS m)).map .str)),some (.val (v5 m))]=_:=(a2f (m:=m) (.inl rfl) rfl).trans tx
 unfold m2
 refine(congrArg (fun z=>Option.bind z _) et).trans ?_
 exact a4s (p:=row (x4 m)) rfl
def b0Z(h:in5 p)(e:nmM m=nmM p):in5 m:=fun w hw=>h w (e▸hw)
def b3f(h:∀p∈ps,in5 p)(e:nmM m=b5b ps):in5 m:=fun w hw=>by
 rw [e,a6U] at hw
 obtain⟨p,hp,hw⟩:=hw
 exact h p hp w hw
theorem a5n:∀{ps:List Mo},(∀p∈ps,J7 p)->b3E ps
 |[],_=>by rw [b3E];trivial
 |p::ps,h=>by rw [b3E];exact⟨h p Ab,a5n fun q hq=>h q (Ah _ hq)⟩
theorem a5i:∀{ps:List Mo} {k:Nat},(∀p∈ps,x6 p<=k)->J9 ps<=k
 |[],k,_=>by rw [J9];lia
 |p::ps,k,h=>by
  have h1:=h p Ab
  have h2:=a5i fun q hq=>h q (Ah _ hq)
  rw [J9]
  lia
def c4M(h1:x ρ=some (.val p))(h2:y ρ=some (.own qs)):A9 (a0 x (a0 y b8)) ρ=some (.val (.tuple [p,.list qs])):=by
 unfold A9 a0
 rw [h1,h2]
 rfl
def dv(h:a ρ=some (.val (.int x)))(hb:b ρ=some (.val (.int k)))(hk:0<k/\k<1073741824):m2 (O6 b2K fun i j=> .int (i / j)) a b ρ=some (.val (.int (x / k))):=by
 unfold m2
 rw [h,hb]
 show(if okC b2K x k=true then some (g6.val (.int (x / k))) else none)=_
 rw [if_pos (a2h (C:=b2K).mpr hk)]
def c5j(h1:x ρ=some (.val p))(h2:y ρ=some (.val q))(h3:z ρ=some (.val r)):A9 (a0 x (a0 y (a0 z b8))) ρ=some (.val (.tuple [p,q,r])):=by
 unfold A9 a0
 rw [h1,h2,h3]
 rfl
def c5k(h1:x ρ=some (.val p))(h2:y ρ=some (.val q))(h3:z ρ=some (.val r))(h4:u ρ=some (.val v)):A9 (a0 x (a0 y (a0 z (a0 u b8)))) ρ=some (.val (.tuple [p,q,r,v])):=by
 unfold A9 a0
 rw [h1,h2,h3,h4]
 rfl
theorem b2U:∀k:Nat,k<26->∃a,J6 a=true/\v9 (.val (.str (AC "abcdefghijklmnopqrstuvwxyz"))) (.val (.int (k:Nat)))=some (.val (row [a]))
 |0,_=>⟨97,by decide,rfl⟩
 |1,_=>⟨98,by decide,rfl⟩
 |2,_=>⟨99,by decide,rfl⟩
 |3,_=>⟨100,by decide,rfl⟩
 |4,_=>⟨101,by decide,rfl⟩
 |5,_=>⟨102,by decide,rfl⟩
 |6,_=>⟨103,by decide,rfl⟩
 |7,_=>⟨104,by decide,rfl⟩
 |8,_=>⟨105,by decide,rfl⟩
 |9,_=>⟨106,by decide,rfl⟩
 |10,_=>⟨107,by decide,rfl⟩
 |11,_=>⟨108,by decide,rfl⟩
 |12,_=>⟨109,by decide,rfl⟩
 |13,_=>⟨110,by decide,rfl⟩
 |14,_=>⟨111,by decide,rfl⟩
 |15,_=>⟨112,by decide,rfl⟩
 |16,_=>⟨113,by decide,rfl⟩
 |17,_=>⟨114,by decide,rfl⟩
 |18,_=>⟨115,by decide,rfl⟩
 |19,_=>⟨116,by decide,rfl⟩
 |20,_=>⟨117,by decide,rfl⟩
 |21,_=>⟨118,by decide,rfl⟩
 |22,_=>⟨119,by decide,rfl⟩
 |23,_=>⟨120,by decide,rfl⟩
 |24,_=>⟨121,by decide,rfl⟩
 |25,_=>⟨122,by decide,rfl⟩
 |k+26,h=>by lia
theorem c1M:∀{ps:List Mo},(∀p∈ps,(x4 p).length<=k)->(z7 [44,32] (a5y ps)).length<=ps.length*(k+2)
 |[],_=>by rw [a5y];simp [z7]
 |[p],h=>by
  have:=h p Ab
  rw [a5y,a5y]
  simp only [z7,AM,Ae]
  lia
 |p::q::r,h=>by
  have h1:=h p Ab
  have h2:=c1M (ps:=q::r) fun x hx=>h x (Ah _ hx)
  rw [a5y]
  rw [a5y] at h2 ⊢
  simp only [z7,AQ,AM,Ae,Nat.add_mul] at h2 ⊢
  lia
def b8f(m l:Mo)(q:Option g6):Prop:=∃r,q=some (.val (p9 r))/\J7 r/\in5 r/\x6 r<=2+max (x6 m) (x6 l)/\(x4 r).length<=6*max (x4 m).length (x4 l).length+40
def c1s(okm:J7 m)(okl:J7 l)(hm:in5 m)(hl:in5 l)(N:Int):b8f m l (a0i [.int N,p9 m,p9 l]):=by
 obtain⟨s,hs⟩:∃s:Int,s=N*62089911 % 999931 % 9:=⟨_,rfl⟩
 have s0:0<=s/\s<9:=by lia
 obtain⟨b,hb⟩:∃b:Bool,b=decide (N % 7=1):=⟨_,rfl⟩
 obtain⟨t,ht0,ht1,ht⟩:∃t:Nat,1<=t/\t<=24/\((t:Nat):Int)=1+N*742938285 % 999959 %(if b=true then 24 else 4):=by
  refine⟨(1+N*742938285 % 999959 %(if b=true then 24 else 4)).toNat, ?_, ?_, ?_⟩<;>split<;>lia
 have e3:m2 (O6 (fun _ j=>0<j) fun i j=> .int (i % j)) (m2 (O6 (fun _ j=>0<j) fun i j=> .int (i % j)) (m2 B1 (a9 0) (mC (.int 62089911))) (mC (.int 999931))) (mC (.int 9)) [some (.val (.int N)),some (.val (p9 m)),some (.val (p9 l)),none,none,none,none]=some (.val (.int s)):=by
  rw [hs]
  exact md (md (ml rfl (by lia)) rfl (by lia)) rfl (by lia)
 have e4:∀q3,m2 v6 (mC (.int 1)) (m2 (O6 (fun _ j=>0<j) fun i j=> .int (i % j)) (m2 (O6 (fun _ j=>0<j) fun i j=> .int (i % j)) (m2 B1 (a9 0) (mC (.int 742938285))) (mC (.int 999959))) (m2 v9 (O2 (a0 (mC (.int 4)) (a0 (mC (.int 24)) b8))) (m1 b4J (m2 M1 (m2 (O6 (fun _ j=>0<j) fun i j=> .int (i % j)) (a9 0) (mC (.int 7))) (mC (.int 1)))))) [some (.val (.int N)),some (.val (p9 m)),some (.val (p9 l)),q3,none,none,none]=some (.val (.int (t:Nat))):=fun q3=>by
  have e1:m2 M1 (m2 (O6 (fun _ j=>0<j) fun i j=> .int (i % j)) (a9 0) (mC (.int 7))) (mC (.int 1)) [some (.val (.int N)),some (.val (p9 m)),some (.val (p9 l)),q3,none,none,none]=some (.val (.bool b)):=by
   have:=md (a:=a9 0) (b:=mC (.int 7)) (x:=N) (k:=7) (ρ:=[some (.val (.int N)),some (.val (p9 m)),some (.val (p9 l)),q3,none,none,none]) rfl rfl (by lia)
   rw [hb]
   show Option.bind (m2 (O6 (fun _ j=>0<j) fun i j=> .int (i % j)) (a9 0) (mC (.int 7)) _) (fun x=>M1 x (.val (.int 1)))=_
   rw [this]
   show some (g6.val (.bool (PyData.eqv (.int (N % 7)) (.int 1))))=_
   simp [PyData.eqv]
   try rfl
  have e2:m2 v9 (O2 (a0 (mC (.int 4)) (a0 (mC (.int 24)) b8))) (m1 b4J (m2 M1 (m2 (O6 (fun _ j=>0<j) fun i j=> .int (i % j)) (a9 0) (mC (.int 7))) (mC (.int 1)))) [some (.val (.int N)),some (.val (p9 m)),some (.val (p9 l)),q3,none,none,none]=some (.val (.int (if b=true then 24 else 4))):=by
   show Option.bind (Option.bind (m2 M1 _ _ _) b4J) (fun y=>v9 (.own [.int 4,.int 24]) y)=_
   rw [e1]
   cases b<;>rfl
  have e5:=md (md (ml (a:=a9 0) (x:=N) (k:=742938285) (ρ:=[some (.val (.int N)),some (.val (p9 m)),some (.val (p9 l)),q3,none,none,none]) rfl (by lia)) (b:=mC (.int 999959)) (k:=999959) rfl (by lia)) e2 (by split<;>lia)
  rw [ht]
  show Option.bind (m2 (O6 (fun _ j=>0<j) fun i j=> .int (i % j)) _ _ _) (fun y=>v6 (.val (.int 1)) y)=_
  rw [e5]
  rfl
 have go:∀{r:Mo},J7 r->in5 r->x6 r<=2+max (x6 m) (x6 l)->(x4 r).length<=6*max (x4 m).length (x4 l).length+40->a8N [some (.val (.int N)),some (.val (p9 m)),some (.val (p9 l)),none,none,none,none]=some (.rt (.val (p9 r)))->b8f m l (a0i [.int N,p9 m,p9 l]):=fun {r} h1 h2 h3 h4 h=>⟨r,W4 (n:=4) h,h1,h2,h3,h4⟩
 have hd:∀{q:Option Fl} {n:MS},n [some (.val (.int N)),some (.val (p9 m)),some (.val (p9 l)),some (.val (.int s)),some (.val (.int (t:Nat))),some (.val (.str (AC "abcdefghijklmnopqrstuvwxyz"))),none]=q->j5 (z6 3 (m2 (O6 (fun _ j=>0<j) fun i j=> .int (i % j)) (m2 (O6 (fun _ j=>0<j) fun i j=> .int (i % j)) (m2 B1 (a9 0) (mC (.int 62089911))) (mC (.int 999931))) (mC (.int 9)))) (j5 (z6 4 (m2 v6 (mC (.int 1)) (m2 (O6 (fun _ j=>0<j) fun i j=> .int (i % j)) (m2 (O6 (fun _ j=>0<j) fun i j=> .int (i % j)) (m2 B1 (a9 0) (mC (.int 742938285))) (mC (.int 999959))) (m2 v9 (O2 (a0 (mC (.int 4)) (a0 (mC (.int 24)) b8))) (m1 b4J (m2 M1 (m2 (O6 (fun _ j=>0<j) fun i j=> .int (i % j)) (a9 0) (mC (.int 7))) (mC (.int 1)))))))) (j5 (z6 5 (mC (.str (AC "abcdefghijklmnopqrstuvwxyz")))) n)) [some (.val (.int N)),some (.val (p9 m)),some (.val (p9 l)),none,none,none,none]=q:=fun {q n} h=>by
  refine(p5 e3).trans ?_
  refine(p5 (e4 _)).trans ?_
  refine(p5 (p:= .str (AC "abcdefghijklmnopqrstuvwxyz")) rfl).trans ?_
  exact h
 clear e3 e4 hs ht
 have dm:x6 m<=max (x6 m) (x6 l):=Nat.le_max_left _ _
 have dl:x6 l<=max (x6 m) (x6 l):=Nat.le_max_right _ _
 have sm:(x4 m).length<=max (x4 m).length (x4 l).length:=Nat.le_max_left _ _
 have sl:(x4 l).length<=max (x4 m).length (x4 l).length:=Nat.le_max_right _ _
 have tl:∀w∈Z8,w.length<=5:=by decide
 have dl2:=(c2h t).2
 have hc:s=0\/s=1\/s=2\/s=3\/s=4\/s=5\/s=6\/s=7\/s=8:=by lia
 rcases hc with rfl|rfl|rfl|rfl|rfl|rfl|rfl|rfl|rfl
 ·obtain⟨j,hj⟩:∃j:Int,j=N % 7:=⟨_,rfl⟩
  have hi:∀ρ:e9,m2 (O6 (fun _ j=>0<j) fun i j=> .int (i % j)) (a9 0) (mC (.int 7)) (some (.val (.int N))::ρ)=some (.val (.int j)):=fun ρ=>by rw [hj];exact md rfl rfl (by lia)
  have tw:∃w∈Z8,v9 (.bo (.lst (Z8.map row))) (.val (.int j))=some (.val (row w)):=by
   have:j=0\/j=1\/j=2\/j=3\/j=4\/j=5\/j=6:=by lia
   rcases this with h|h|h|h|h|h|h<;>rw [h]
   ·exact⟨[116,117,114,110],by decide,rfl⟩
   ·exact⟨[104,97,108,102],by decide,rfl⟩
   ·exact⟨[98,97,99,107],by decide,rfl⟩
   ·exact⟨[115,105,100,101],by decide,rfl⟩
   ·exact⟨[102,108,105,112],by decide,rfl⟩
   ·exact⟨[99,114,111,115,115],by decide,rfl⟩
   ·exact⟨[111,116,104,101,114],by decide,rfl⟩
  obtain⟨w,hw,ew⟩:=tw
  refine go (r:= .turned w m) (by rw [J7];exact⟨hw,okm⟩) (b0Z hm (by rw [nmM])) (by rw [x6];lia) (by have:=tl w hw;rw [x4];simp only [AQ,AM,Ae];lia) (hd ?_)
  refine S0 rfl ?_
  refine(a0J (l:=Z8.map row) rfl).trans ?_
  refine a09 ?_
  rw [p9]
  have e:m2 v9 (a9 6) (m2 (O6 (fun _ j=>0<j) fun i j=> .int (i % j)) (a9 0) (mC (.int 7))) [some (.val (.int N)),some (.val (p9 m)),some (.val (p9 l)),some (.val (.int 0)),some (.val (.int (t:Nat))),some (.val (.str (AC "abcdefghijklmnopqrstuvwxyz"))),some (.own (Z8.map row))]=some (.val (row w)):=by
   show Option.bind (m2 (O6 (fun _ j=>0<j) fun i j=> .int (i % j)) (a9 0) (mC (.int 7)) _) (fun y=>v9 (.bo (.lst (Z8.map row))) y)=_
   rw [hi]
   exact ew
  exact c5j rfl e rfl
 ·obtain⟨a,ha,ea⟩:=b2U (N % 4).toNat (by lia)
  obtain⟨c,hc,ec⟩:=b2U (N / 4 % 26).toNat (by lia)
  rw [show(((N % 4).toNat:Nat):Int)=N % 4 by lia] at ea
  rw [show(((N / 4 % 26).toNat:Nat):Int)=N / 4 % 26 by lia] at ec
  refine go (r:= .dyed a c m) (by rw [J7];exact⟨ha,hc,okm⟩) (b0Z hm (by rw [nmM])) (by rw [x6];lia) (by rw [x4];simp only [AQ,AM,Ae];lia) (hd ?_)
  rw [b9 rfl]
  refine y8 rfl ?_
  rw [p9]
  refine c5k rfl ?_ ?_ rfl
  ·have e:=md (a:=a9 0) (b:=mC (.int 4)) (x:=N) (k:=4) (ρ:=[some (.val (.int N)),some (.val (p9 m)),some (.val (p9 l)),some (.val (.int 1)),some (.val (.int (t:Nat))),some (.val (.str (AC "abcdefghijklmnopqrstuvwxyz"))),none]) rfl rfl (by lia)
   show Option.bind (m2 (O6 (fun _ j=>0<j) fun i j=> .int (i % j)) (a9 0) (mC (.int 4)) _) (fun y=>v9 (.val (.str (AC "abcdefghijklmnopqrstuvwxyz"))) y)=_
   rw [e]
   exact ea
  ·have e:=md (dv (a:=a9 0) (b:=mC (.int 4)) (x:=N) (k:=4) (ρ:=[some (.val (.int N)),some (.val (p9 m)),some (.val (p9 l)),some (.val (.int 1)),some (.val (.int (t:Nat))),some (.val (.str (AC "abcdefghijklmnopqrstuvwxyz"))),none]) rfl rfl (by lia)) (b:=mC (.int 26)) (k:=26) rfl (by lia)
   show Option.bind (m2 (O6 (fun _ j=>0<j) fun i j=> .int (i % j)) _ (mC (.int 26)) _) (fun y=>v9 (.val (.str (AC "abcdefghijklmnopqrstuvwxyz"))) y)=_
   rw [e]
   exact ec
 ·refine go (r:= .across t m) (by rw [J7];exact⟨ht0,ht1,okm⟩) (b0Z hm (by rw [nmM])) (by rw [x6];lia) (by rw [x4];simp only [AQ,AM,Ae];lia) (hd ?_)
  rw [b9 rfl,b9 rfl]
  refine y8 rfl ?_
  rw [p9]
  rfl
 ·refine go (r:= .down t m) (by rw [J7];exact⟨ht0,ht1,okm⟩) (b0Z hm (by rw [nmM])) (by rw [x6];lia) (by rw [x4];simp only [AQ,AM,Ae];lia) (hd ?_)
  rw [b9 rfl,b9 rfl,b9 rfl]
  refine y8 rfl ?_
  rw [p9]
  rfl
 ·refine go (r:= .beside [m,l]) (by rw [J7];exact⟨by simp,by simp,a5n (by simp [okm,okl])⟩) (b3f (ps:=[m,l]) (by simp [hm,hl]) (by rw [nmM])) (by have:=a5i (ps:=[m,l]) (k:=max (x6 m) (x6 l)) (by simp [dm,dl]);rw [x6];lia) (by rw [x4];simp only [a5y,z7,x4,AQ,AM,Ae];lia) (hd ?_)
  rw [b9 rfl,b9 rfl,b9 rfl,b9 rfl]
  refine y8 rfl ?_
  rw [p9]
  rfl
 ·refine go (r:= .above [m,l]) (by rw [J7];exact⟨by simp,by simp,a5n (by simp [okm,okl])⟩) (b3f (ps:=[m,l]) (by simp [hm,hl]) (by rw [nmM])) (by have:=a5i (ps:=[m,l]) (k:=max (x6 m) (x6 l)) (by simp [dm,dl]);rw [x6];lia) (by rw [x4];simp only [a5y,z7,x4,AQ,AM,Ae];lia) (hd ?_)
  rw [b9 rfl,b9 rfl,b9 rfl,b9 rfl,b9 rfl]
  refine y8 rfl ?_
  rw [p9]
  rfl
 ·refine go (r:= .beside [m,.turned [115,105,100,101] m]) (by rw [J7];exact⟨by simp,by simp,a5n (by simp [okm,J7,Z8])⟩) (b3f (ps:=[m,.turned [115,105,100,101] m]) (by simp [hm];exact b0Z hm (by rw [nmM])) (by rw [nmM])) (by have:=a5i (ps:=[m,.turned [115,105,100,101] m]) (k:=1+max (x6 m) (x6 l)) (by simp [x6];lia);rw [x6];lia) (by rw [x4];simp only [a5y,z7,x4,AQ,AM,Ae];lia) (hd ?_)
  rw [b9 rfl,b9 rfl,b9 rfl,b9 rfl,b9 rfl,b9 rfl]
  refine y8 rfl ?_
  rw [p9,a7F,a7F,p9]
  rfl
 ·refine go (r:= .above [m,.turned [102,108,105,112] m,m]) (by rw [J7];exact⟨by simp,by simp,a5n (by simp [okm,J7,Z8])⟩) (b3f (ps:=[m,.turned [102,108,105,112] m,m]) (by simp [hm];exact b0Z hm (by rw [nmM])) (by rw [nmM])) (by have:=a5i (ps:=[m,.turned [102,108,105,112] m,m]) (k:=1+max (x6 m) (x6 l)) (by simp [x6];lia);rw [x6];lia) (by rw [x4];simp only [a5y,z7,x4,AQ,AM,Ae];lia) (hd ?_)
  rw [b9 rfl,b9 rfl,b9 rfl,b9 rfl,b9 rfl,b9 rfl,b9 rfl]
  refine y8 rfl ?_
  rw [p9,a7F,a7F,a7F,p9]
  rfl
 ·obtain⟨j,hj⟩:∃j:Int,j=N % 5:=⟨_,rfl⟩
  have hi:m2 v6 (mC (.int 2)) (m2 (O6 (fun _ j=>0<j) fun i j=> .int (i % j)) (a9 0) (mC (.int 5))) [some (.val (.int N)),some (.val (p9 m)),some (.val (p9 l)),some (.val (.int 8)),some (.val (.int (t:Nat))),some (.val (.str (AC "abcdefghijklmnopqrstuvwxyz"))),none]=some (.val (.int (2+j))):=by
   have:=md (a:=a9 0) (b:=mC (.int 5)) (x:=N) (k:=5) (ρ:=[some (.val (.int N)),some (.val (p9 m)),some (.val (p9 l)),some (.val (.int 8)),some (.val (.int (t:Nat))),some (.val (.str (AC "abcdefghijklmnopqrstuvwxyz"))),none]) rfl rfl (by lia)
   show Option.bind (m2 (O6 (fun _ j=>0<j) fun i j=> .int (i % j)) (a9 0) (mC (.int 5)) _) (fun y=>v6 (.val (.int 2)) y)=_
   rw [this,hj]
   rfl
  have fin:∀{ps:List Mo},2<=ps.length->ps.length<=6->(∀p∈ps,p=m\/p=l)->gSl (.own [p9 l,p9 m,p9 l,p9 m,p9 l,p9 m]) none (some (2+j))=some (.own (a7F ps))->b8f m l (a0i [.int N,p9 m,p9 l]):=fun {ps} p1 p2 p3 p4=>by
   refine go (r:= .beside ps) (by rw [J7];exact⟨p1,p2,a5n fun p hp=>by rcases p3 p hp with rfl|rfl<;>assumption⟩) (b3f (ps:=ps) (fun p hp=>by rcases p3 p hp with rfl|rfl<;>assumption) (by rw [nmM])) (by have:=a5i (ps:=ps) (k:=max (x6 m) (x6 l)) (fun p hp=>by rcases p3 p hp with rfl|rfl<;>assumption);rw [x6];lia) (by have g:=c1M (ps:=ps) (k:=max (x4 m).length (x4 l).length) (fun p hp=>by rcases p3 p hp with rfl|rfl<;>assumption);have:=Nat.mul_le_mul_right (max (x4 m).length (x4 l).length+2) p2;rw [x4];simp only [AQ,AM,Ae];lia) (hd ?_)
   rw [b9 rfl,b9 rfl,b9 rfl,b9 rfl,b9 rfl,b9 rfl,b9 rfl,b9 rfl]
   refine a09 ?_
   have e:R9 (m2 B1 (O2 (a0 (a9 2) (a0 (a9 1) b8))) (mC (.int 3))) a4F (K0 (m2 v6 (mC (.int 2)) (m2 (O6 (fun _ j=>0<j) fun i j=> .int (i % j)) (a9 0) (mC (.int 5))))) [some (.val (.int N)),some (.val (p9 m)),some (.val (p9 l)),some (.val (.int 8)),some (.val (.int (t:Nat))),some (.val (.str (AC "abcdefghijklmnopqrstuvwxyz"))),none]=some (.own (a7F ps)):=by
    have em:m2 B1 (O2 (a0 (a9 2) (a0 (a9 1) b8))) (mC (.int 3)) [some (.val (.int N)),some (.val (p9 m)),some (.val (p9 l)),some (.val (.int 8)),some (.val (.int (t:Nat))),some (.val (.str (AC "abcdefghijklmnopqrstuvwxyz"))),none]=some (.own [p9 l,p9 m,p9 l,p9 m,p9 l,p9 m]):=by
     show(if okC (fun k n=>0<=k/\k<=1000000/\n*k<=16777216) 3 ([p9 l,p9 m].length:Nat)=true then some (g6.own (AV (Int.toNat 3) [p9 l,p9 m]).flatten) else none)=_
     rw [if_pos (a2h (C:=fun k n=>0<=k/\k<=1000000/\n*k<=16777216).mpr (by simp))]
     rfl
    unfold R9 K0
    rw [em,hi]
    exact p4
   rw [p9]
   exact c4M rfl e
  have:j=0\/j=1\/j=2\/j=3\/j=4:=by lia
  rcases this with h|h|h|h|h<;>rw [h] at fin
  ·exact fin (ps:=[l,m]) (by simp) (by simp) (by simp) rfl
  ·exact fin (ps:=[l,m,l]) (by simp) (by simp) (by simp) rfl
  ·exact fin (ps:=[l,m,l,m]) (by simp) (by simp) (by simp) rfl
  ·exact fin (ps:=[l,m,l,m,l]) (by simp) (by simp) (by simp) rfl
  ·exact fin (ps:=[l,m,l,m,l,m]) (by simp) (by simp) (by simp) rfl
def mlv(h:a ρ=some (.val (.int x)))(hb:b ρ=some (.val (.int k)))(hk: -18446744073709551616<k/\k<18446744073709551616):m2 B1 a b ρ=some (.val (.int (x*k))):=by
 unfold m2
 rw [h,hb]
 exact b5X hk
def adI(h:a ρ=some (.val (.int x)))(hb:b ρ=some (.val (.int y))):m2 v6 a b ρ=some (.val (.int (x+y))):=by
 unfold m2
 rw [h,hb]
 rfl
def two(h1:x ρ=some r)(h2:y ρ=some q)(h:g r q=some s):m2 g x y ρ=some s:=by
 unfold m2
 rw [h1,h2]
 exact h
def one(h1:x ρ=some r)(h:g r=some s):m1 g x ρ=some s:=by
 unfold m1
 rw [h1]
 exact h
abbrev sml(t:List Nat):Prop:=∀x∈t,J6 x=true
def b4X(N:Int)(ρ:e9):∃al:List Nat,1<=al.length/\al.length<=26/\sml al/\R9 (mC (.str (AC "abcdefghijklmnopqrstuvwxyz"))) a4F (K0 (m2 v9 (O2 (a0 (mC (.int 2)) (a0 (mC (.int 4)) (a0 (mC (.int 26)) b8)))) (m2 (O6 (fun _ j=>0<j) fun i j=> .int (i % j)) (a9 0) (mC (.int 3))))) (some (.val (.int N))::ρ)=some (.val (row al)):=by
 have e:m2 (O6 (fun _ j=>0<j) fun i j=> .int (i % j)) (a9 0) (mC (.int 3)) (some (.val (.int N))::ρ)=some (.val (.int (N % 3))):=md rfl rfl (by lia)
 have go:∀(al:List Nat) (k:Int),v9 (.own [.int 2,.int 4,.int 26]) (.val (.int (N % 3)))=some (.val (.int k))->gSl (.val (.str (AC "abcdefghijklmnopqrstuvwxyz"))) none (some k)=some (.val (row al))->R9 (mC (.str (AC "abcdefghijklmnopqrstuvwxyz"))) a4F (K0 (m2 v9 (O2 (a0 (mC (.int 2)) (a0 (mC (.int 4)) (a0 (mC (.int 26)) b8)))) (m2 (O6 (fun _ j=>0<j) fun i j=> .int (i % j)) (a9 0) (mC (.int 3))))) (some (.val (.int N))::ρ)=some (.val (row al)):=fun al k h1 h2=>by
  have ei:m2 v9 (O2 (a0 (mC (.int 2)) (a0 (mC (.int 4)) (a0 (mC (.int 26)) b8)))) (m2 (O6 (fun _ j=>0<j) fun i j=> .int (i % j)) (a9 0) (mC (.int 3))) (some (.val (.int N))::ρ)=some (.val (.int k)):=two (r:= .own [.int 2,.int 4,.int 26]) rfl e h1
  unfold R9 K0
  rw [ei]
  exact h2
 have:N % 3=0\/N % 3=1\/N % 3=2:=by lia
 rcases this with h|h|h
 ·exact⟨[97,98],by decide,by decide,by decide,go _ 2 (by rw [h];rfl) (by rfl)⟩
 ·exact⟨[97,98,99,100],by decide,by decide,by decide,go _ 4 (by rw [h];rfl) (by rfl)⟩
 ·exact⟨[97,98,99,100,101,102,103,104,105,106,107,108,109,110,111,112,113,114,115,116,117,118,119,120,121,122],by decide,by decide,by decide,go _ 26 (by rw [h];rfl) (by rfl)⟩
def b9a(a1:1<=al.length)(a2:al.length<=26)(a3:sml al)(hr:r<=3)(ht:t.length<=100)(st:sml t)(hc:c<=3)(q7:Option g6):∃(q7':Option g6) (x:Nat),J6 x=true/\
 Z3 [some (.val (.int N)),some (.own R),some (.val (row al)),some (.val (.int (w:Nat))),some (.val (.int (r:Nat))),some (.val (row t)),some (.val (.int (c:Nat))),q7]=some (.nx [some (.val (.int N)),some (.own R),some (.val (row al)),some (.val (.int (w:Nat))),some (.val (.int (r:Nat))),some (.val (row (t++[x]))),some (.val (.int (c:Nat))),q7']):=by
 obtain⟨M,hM⟩:∃M:Int,M=N*(2*(r:Nat)+3*(c:Nat)+69621) % 1000003:=⟨_,rfl⟩
 have e1:m2 (O6 (fun _ j=>0<j) fun i j=> .int (i % j)) (m2 B1 (a9 0) (m2 v6 (m2 v6 (m2 B1 (mC (.int 2)) (a9 4)) (m2 B1 (mC (.int 3)) (a9 6))) (mC (.int 69621)))) (mC (.int 1000003)) [some (.val (.int N)),some (.own R),some (.val (row al)),some (.val (.int (w:Nat))),some (.val (.int (r:Nat))),some (.val (row t)),some (.val (.int (c:Nat))),q7]=some (.val (.int M)):=by
  rw [hM]
  exact md (mlv rfl (adI (adI (mlv rfl rfl (by lia)) (mlv rfl rfl (by lia))) rfl) (by lia)) rfl (by lia)
 have e2:m2 (O6 (fun _ j=>0<j) fun i j=> .int (i % j)) (a9 7) (m1 N8 (a9 2)) [some (.val (.int N)),some (.own R),some (.val (row al)),some (.val (.int (w:Nat))),some (.val (.int (r:Nat))),some (.val (row t)),some (.val (.int (c:Nat))),some (.val (.int M))]=some (.val (.int (M %(al.length:Nat)))):=md rfl (one rfl (a0U (by lia))) (by lia)
 have hj0:0<=M %(al.length:Nat):=Int.emod_nonneg _ (by lia)
 have hj1:M %(al.length:Nat)<(al.length:Nat):=Int.emod_lt_of_pos _ (by lia)
 have e3:=c0i (l:=al) (m:=al.length) rfl (by lia) hj0 hj1
 have hx:J6 (al.getD (M %(al.length:Nat)).toNat 0)=true:=by
  have hk:(M %(al.length:Nat)).toNat<al.length:=by lia
  rw [List.getD_eq_getElem?_getD,Az hk]
  exact a3 _ (List.getElem_mem hk)
 refine⟨some (.val (.int M)),_,hx, ?_⟩
 unfold Z3
 rw [p5 e1]
 exact a7e (ad rfl (two rfl e2 e3) (by simp;lia))
def b9E(h:sml t)(hx:J6 x=true):sml (t++[x]):=fun y hy=>by
 rcases Av.mp hy with h1|h1
 ·exact h y h1
 ·rw [List.mem_singleton.mp h1];exact hx
def b7j(a1:1<=al.length)(a2:al.length<=26)(a3:sml al)(hw:w<=3)(hr:r<=3)(hR:R.length<=100)(q5 q6 q7:Option g6):∃(t:List Nat) (q6' q7':Option g6),t.length=w/\sml t/\
 Z4 [some (.val (.int N)),some (.own R),some (.val (row al)),some (.val (.int (w:Nat))),some (.val (.int (r:Nat))),q5,q6,q7]=some (.nx [some (.val (.int N)),some (.own (R++[row t])),some (.val (row al)),some (.val (.int (w:Nat))),some (.val (.int (r:Nat))),some (.val (row t)),q6',q7']):=by
 have e0:a4E (a0 (a9 3) b8) [some (.val (.int N)),some (.own R),some (.val (row al)),some (.val (.int (w:Nat))),some (.val (.int (r:Nat))),some (.val (row [])),q6,q7]=some ((Ao w).map fun k=> .int (k:Nat)):=a5m rfl (by lia)
 obtain⟨ρ',e4,t,q6',q7',h1,h2,rfl⟩:=a5j (body:=Z3) (tg:=u3 6) (fun j ρ=>∃(t:List Nat) (q6 q7:Option g6),t.length=j/\sml t/\ρ=[some (.val (.int N)),some (.own R),some (.val (row al)),some (.val (.int (w:Nat))),some (.val (.int (r:Nat))),some (.val (row t)),q6,q7])
  (ps:=(Ao w).map fun k=> .int (k:Nat)) (ρ:=[some (.val (.int N)),some (.own R),some (.val (row al)),some (.val (.int (w:Nat))),some (.val (.int (r:Nat))),some (.val (row [])),q6,q7])
  (by
   rintro j p hp ρ ⟨t,q6,q7,h1,h2,rfl⟩
   obtain⟨rfl,hj⟩:=a6Y hp
   obtain⟨q7',x,hx,eb⟩:=b9a (N:=N) (R:=R) a1 a2 a3 (w:=w) hr (t:=t) (by lia) h2 (c:=j) (by lia) q7
   exact a8x (ρ1:=[some (.val (.int N)),some (.own R),some (.val (row al)),some (.val (.int (w:Nat))),some (.val (.int (r:Nat))),some (.val (row t)),some (.val (.int (j:Nat))),q7]) rfl eb ⟨_,_,_,by rw [AQ,h1];rfl,b9E h2 hx,rfl⟩)
  ⟨[],q6,q7,rfl,(fun x hx=>nomatch hx),rfl⟩
 rw [Ak,BI] at h1
 refine⟨t,q6',q7',h1,h2, ?_⟩
 unfold Z4
 refine(p5 (p:=row []) (by rfl)).trans ?_
 refine(a4r e0 e4).trans ?_
 show(if R.length<AL then some (Fl.nx _) else none)=_
 rw [if_pos (by rw [sizeLine_eq];lia)]
 rfl
def b9b(N:Int):∃rows:List (List Nat),a6e rows=true/\(z7 [47] rows).length<=11/\a2c [.int N]=some (.val (p9 (.plain rows))):=by
 obtain⟨w,hw0,hw1,hw⟩:∃w:Nat,1<=w/\w<=3/\((w:Nat):Int)=1+N*16807 % 999979 % 3:=⟨(1+N*16807 % 999979 % 3).toNat,by lia,by lia,by lia⟩
 obtain⟨n,hn0,hn1,hn⟩:∃n:Nat,1<=n/\n<=3/\((n:Nat):Int)=1+N*48271 % 999983 % 3:=⟨(1+N*48271 % 999983 % 3).toNat,by lia,by lia,by lia⟩
 obtain⟨al,a1,a2,a3,ea⟩:=b4X N [some (.own []),none,none,none,none,none,none]
 have e3:m2 v6 (mC (.int 1)) (m2 (O6 (fun _ j=>0<j) fun i j=> .int (i % j)) (m2 (O6 (fun _ j=>0<j) fun i j=> .int (i % j)) (m2 B1 (a9 0) (mC (.int 16807))) (mC (.int 999979))) (mC (.int 3))) [some (.val (.int N)),some (.own []),some (.val (row al)),none,none,none,none,none]=some (.val (.int (w:Nat))):=by
  rw [hw]
  exact adI rfl (md (md (ml rfl (by lia)) rfl (by lia)) rfl (by lia))
 have e4:a4E (a0 (m2 v6 (mC (.int 1)) (m2 (O6 (fun _ j=>0<j) fun i j=> .int (i % j)) (m2 (O6 (fun _ j=>0<j) fun i j=> .int (i % j)) (m2 B1 (a9 0) (mC (.int 48271))) (mC (.int 999983))) (mC (.int 3)))) b8) [some (.val (.int N)),some (.own []),some (.val (row al)),some (.val (.int (w:Nat))),none,none,none,none]=some ((Ao n).map fun k=> .int (k:Nat)):=by
  refine a5m ?_ (by lia)
  rw [hn]
  exact adI rfl (md (md (ml rfl (by lia)) rfl (by lia)) rfl (by lia))
 obtain⟨ρ',e5,rows,q4,q5,q6,q7,h1,h2,rfl⟩:=a5j (body:=Z4) (tg:=u3 4) (fun j ρ=>∃(rows:List (List Nat)) (q4 q5 q6 q7:Option g6),rows.length=j/\(∀t∈rows,t.length=w/\sml t)/\ρ=[some (.val (.int N)),some (.own (rows.map row)),some (.val (row al)),some (.val (.int (w:Nat))),q4,q5,q6,q7])
  (ps:=(Ao n).map fun k=> .int (k:Nat)) (ρ:=[some (.val (.int N)),some (.own []),some (.val (row al)),some (.val (.int (w:Nat))),none,none,none,none])
  (by
   rintro j p hp ρ ⟨rows,q4,q5,q6,q7,h1,h2,rfl⟩
   obtain⟨rfl,hj⟩:=a6Y hp
   obtain⟨t,q6',q7',ht1,ht2,eb⟩:=b7j (N:=N) (R:=rows.map row) a1 a2 a3 (w:=w) hw1 (r:=j) (by lia) (by rw [Ak];lia) q5 q6 q7
   refine a8x (ρ1:=[some (.val (.int N)),some (.own (rows.map row)),some (.val (row al)),some (.val (.int (w:Nat))),some (.val (.int (j:Nat))),q5,q6,q7]) rfl eb ⟨rows++[t],_,_,_,_,by rw [AQ,h1];rfl,fun x hx=> ?_,by rw [BF];rfl⟩
   rcases Av.mp hx with h|h
   ·exact h2 x h
   ·rw [List.mem_singleton.mp h];exact⟨ht1,ht2⟩)
  ⟨[],none,none,none,none,rfl,(fun _ h=>by cases h),rfl⟩
 rw [Ak,BI] at h1
 have okc:a6e rows=true:=by
  cases rows with
  |nil=>rw [Ae] at h1;lia
  |cons r0 R=>
   have h0:=h2 r0 Ab
   have hs:∀t∈r0::R,t.all J6=true:=fun t ht=>List.all_eq_true.mpr (h2 t ht).2
   show(decide ((r0::R).length<=24)&&(rOk r0 &&(r0::R).all (okR r0)))=true
   unfold rOk
   rw [hs r0 Ab,h1,h0.1,decide_eq_true (by lia:n<=24),decide_eq_true (by lia:1<=w),decide_eq_true (by lia:w<=24)]
   show(r0::R).all (okR r0)=true
   refine List.all_eq_true.mpr fun t ht=> ?_
   unfold okR
   rw [(h2 t ht).1,h0.1,hs t ht]
   simp
 refine⟨rows,okc, ?_, ?_⟩
 ·have hg:=a6K 47 rows (by intro e;rw [e] at h1;simp at h1;lia)
  have hs:(rows.map (·.length)).sum<=rows.length*3:=by
   have:∀l:List (List Nat),(∀t∈l,t.length=w/\sml t)->(l.map (·.length)).sum<=l.length*3:=fun l=>by
    induction l with
    |nil=>intro _;simp
    |cons a l ih=>
     intro h
     have:=ih fun t ht=>h t (Ah _ ht)
     have:=(h a Ab).1
     simp only [AK,List.sum_cons,AM]
     lia
   exact this rows h2
  lia
 ·refine W4 (n:=7) ?_
  show a4i [some (.val (.int N)),none,none,none,none,none,none,none]=_
  unfold a4i
  refine(a0J (l:=[]) (by rfl)).trans ?_
  refine(p5 ea).trans ?_
  refine(p5 e3).trans ?_
  refine(a4r e4 e5).trans ?_
  refine a09 ?_
  rw [p9]
  have et:m1 a08 (a9 1) [some (.val (.int N)),some (.own (rows.map row)),some (.val (row al)),some (.val (.int (w:Nat))),q4,q5,q6,q7]=some (.val (.tuple (rows.map row))):=by
   refine one (r:= .bor (rows.map row)) rfl ?_
   rfl
  unfold A9 a0
  rw [et]
  rfl
def b8u(m:Mo):Prop:=J7 m/\in5 m/\x6 m=1/\(x4 m).length<=13
def a89(h1:a6e rows=true)(h2:(z7 [47] rows).length<=11):b8u (.plain rows):=by
 refine⟨by rw [J7];exact h1,fun w hw=> ?_,by rw [x6], ?_⟩
 ·rw [nmM] at hw;cases hw
 ·rw [x4];simp only [AQ,AM,Ae];lia
def b06(h:w∈a2x):b8u (.named w):=by
 have h2:∀w∈a2x,a9j w=true/\(∀x∈w,J6 x=true)/\w.length<=13:=by decide
 obtain⟨a,b,c⟩:=h2 w h
 refine⟨by rw [J7];exact⟨a,b⟩,fun x hx=> ?_,by rw [x6],by rw [x4];exact c⟩
 rw [nmM] at hx
 rw [List.mem_singleton.mp hx];exact h
def c0e(h0:0<=j)(h1:j<5):∃w∈a2x,v9 (.val (.list (a2x.map row))) (.val (.int j))=some (.val (row w)):=by
 have:j=0\/j=1\/j=2\/j=3\/j=4:=by lia
 rcases this with h|h|h|h|h<;>rw [h]
 ·exact⟨_,by decide,rfl⟩
 ·exact⟨[115,116,97,121],by decide,rfl⟩
 ·exact⟨[108,101,116],by decide,rfl⟩
 ·exact⟨[107,110,111,116,115],by decide,rfl⟩
 ·exact⟨[122,122],by decide,rfl⟩
def b6b(N:Int):∃m,b8u m/\a1J [.int N,.list (a2x.map row)]=some (.val (p9 m)):=by
 have e1:A6 (m2 gNe (a9 1) (O2 b8)) [some (.val (.int N)),some (.val (.list (a2x.map row)))]=some true:=by rfl
 have e2:m2 (O6 (fun _ j=>0<j) fun i j=> .int (i % j)) (m2 (O6 (fun _ j=>0<j) fun i j=> .int (i % j)) (m2 B1 (a9 0) (mC (.int 40692))) (mC (.int 999961))) (mC (.int 5)) [some (.val (.int N)),some (.val (.list (a2x.map row)))]=some (.val (.int (N*40692 % 999961 % 5))):=md (md (ml rfl (by lia)) rfl (by lia)) rfl (by lia)
 have e3:A6 (m2 a6J (m2 (O6 (fun _ j=>0<j) fun i j=> .int (i % j)) (m2 (O6 (fun _ j=>0<j) fun i j=> .int (i % j)) (m2 B1 (a9 0) (mC (.int 40692))) (mC (.int 999961))) (mC (.int 5))) (mC (.int 3))) [some (.val (.int N)),some (.val (.list (a2x.map row)))]=some (decide (N*40692 % 999961 % 5<3)):=a1h e2 (q:= .val (.int 3)) rfl rfl
 have e4:a1P (A6 (m2 gNe (a9 1) (O2 b8))) (A6 (m2 a6J (m2 (O6 (fun _ j=>0<j) fun i j=> .int (i % j)) (m2 (O6 (fun _ j=>0<j) fun i j=> .int (i % j)) (m2 B1 (a9 0) (mC (.int 40692))) (mC (.int 999961))) (mC (.int 5))) (mC (.int 3)))) [some (.val (.int N)),some (.val (.list (a2x.map row)))]=some (decide (N*40692 % 999961 % 5<3)):=by
  unfold a1P
  rw [e1]
  exact e3
 by_cases hc:N*40692 % 999961 % 5<3
 ·rw [decide_eq_true hc] at e4
  obtain⟨w,hw,ew⟩:=c0e (j:=N*39373 % 999953 % 5) (by lia) (by lia)
  refine⟨.named w,b06 hw,W4 (n:=0) ?_⟩
  show a1y [some (.val (.int N)),some (.val (.list (a2x.map row)))]=_
  unfold a1y
  refine y8 e4 ?_
  rw [p9]
  have ei:=two (g:=v9) (x:=a9 1) (r:= .val (.list (a2x.map row))) (ρ:=[some (.val (.int N)),some (.val (.list (a2x.map row)))]) rfl (md (b:=m1 N8 (a9 1)) (k:=5) (md (b:=mC (.int 999953)) (k:=999953) (ml (a:=a9 0) (x:=N) (k:=39373) rfl (by lia)) rfl (by lia)) rfl (by lia)) ew
  unfold A9 a0
  rw [ei]
  rfl
 ·rw [decide_eq_false hc] at e4
  obtain⟨rows,h1,h2,h3⟩:=b9b N
  refine⟨.plain rows,a89 h1 h2,W4 (n:=0) ?_⟩
  show a1y [some (.val (.int N)),some (.val (.list (a2x.map row)))]=_
  unfold a1y
  rw [b9 e4]
  exact a09 ((Q4 rfl).trans h3)
def pr(a b:Int):PV:= .tuple [.int a,.int b]
def sz(p:PV):Prop:=(∃a b:Int,p=pr a b)\/∃z y:Str,p= .tuple [.str z,.str y]
def b47(a b:Int):∃k:Int,a4t (.val (pr a b))=some (.val (.int k)):=⟨_,rfl⟩
def b8I(a b:Int):gNe (.val (.int a)) (.val (.int b))=some (.val (.bool (!decide (a=b)))):=by
 have:gNe (.val (.int a)) (.val (.int b))=some (.val (.bool (!PyData.eqv (.int a) (.int b)))):=rfl
 rw [this]
 have:PyData.eqv (.int a) (.int b)=decide (a=b):=by
  by_cases h:a=b<;>simp [PyData.eqv,h]
 rw [this]
def c2w(h1:it ρ=some ps)(h2:a07 body tg ps ρ=some (.rt r)):j5 (a5v it tg body) n ρ=some (.rt r):=by
 unfold j5 a5v
 rw [h1,AH,h2]
 rfl
def b9A(h:m ρ=some (.rt r)):j5 m n ρ=some (.rt r):=by
 unfold j5
 rw [h]
 rfl
def b2B(h:m ρ=some (.nx ρ')):j5 m n ρ=n ρ':=by
 unfold j5
 rw [h]
 rfl
def at0(h:x.rd= .list (p::ds)\/x.rd= .tuple (p::ds)):v9 x (.val (.int 0))=some (.val p):=by
 have e:L2.atI (p::ds) 0=some p:=(b7I (k:=0)).trans rfl
 unfold v9
 rcases h with h|h<;>rw [h]<;>show(L2.atI (p::ds) 0).map g6.val=_<;>rw [e]<;>rfl
def a31(o:Option Fl):Prop:=∃p,o=some (.rt (.val p))/\sz p
def b11(z y:Str):a31 (some (.rt (.val (.tuple [.str z,.str y])))):=⟨_,rfl,.inr ⟨_,_,rfl⟩⟩
def a1f(w:PV)(s1 q3:Option g6)(a b:Int):e9:=[some (.val w),s1,some (.val (pr a b)),q3]
def b6q(w:PV)(s1 q3:Option g6)(o:Option Fl):Prop:=a31 o\/∃a b,o=some (.nx (a1f w s1 q3 a b))
def b4d{w:PV}{s1 q3:Option g6}(a b:Int):b6q w s1 q3 (u6 (A6 (m2 (gI fun i j=> .bool (decide (j<i))) (m1 a4t (a9 2)) (mC (.int 24)))) (l9 (A9 (a0 (mC (.str (AC "wide"))) (a0 (mC (.str (AC ""))) b8)))) m7 (a1f w s1 q3 a b)):=by
 obtain⟨k,hk⟩:=b47 a b
 have e:A6 (m2 (gI fun i j=> .bool (decide (j<i))) (m1 a4t (a9 2)) (mC (.int 24))) (a1f w s1 q3 a b)=some (decide ((24:Int)<k)):=a1h (r:= .val (.int k)) (one rfl hk) (q:= .val (.int 24)) rfl rfl
 by_cases h:(24:Int)<k
 ·rw [decide_eq_true h] at e
  rw [b3u e]
  exact .inl (b11 _ _)
 ·rw [decide_eq_false h] at e
  rw [a9g e]
  exact .inr ⟨a,b,rfl⟩
def b6V{w:String}(hw:w="beside"\/w="above"){s1:Option g6}(a b c d:Int):b6q (.str (AC w)) s1 (some (.val (pr c d))) (E4 (a1f (.str (AC w)) s1 (some (.val (pr c d))) a b)):=by
 unfold E4
 rcases hw with rfl|rfl
 ·have t0:A6 (m2 M1 (a9 0) (mC (.str (AC "beside")))) (a1f (.str (AC "beside")) s1 (some (.val (pr c d))) a b)=some true:=rfl
  have t1:A6 (m2 gNe (m2 v9 (a9 3) (mC (.int 0))) (m2 v9 (a9 2) (mC (.int 0)))) (a1f (.str (AC "beside")) s1 (some (.val (pr c d))) a b)=some (!decide (c=a)):=a1h (r:= .val (.int c)) rfl (q:= .val (.int a)) rfl (b8I c a)
  by_cases h:c=a
  ·rw [decide_eq_true h] at t1
   refine Eq.mpr (congrArg _ (b2B (ρ':=a1f (.str (AC "beside")) s1 (some (.val (pr c d))) a (b+d)) ?_)) (b4d a (b+d))
   rw [b3u t0,b9 t1]
   exact a7e rfl
  ·rw [decide_eq_false h] at t1
   refine .inl ?_
   rw [b9A (r:= .val (.tuple [.str (AC "misfit"),.str (AC "")])) (by rw [b3u t0];exact y8 t1 rfl)]
   exact b11 _ _
 ·have t0:A6 (m2 M1 (a9 0) (mC (.str (AC "beside")))) (a1f (.str (AC "above")) s1 (some (.val (pr c d))) a b)=some false:=rfl
  have t1:A6 (m2 gNe (m2 v9 (a9 3) (mC (.int 1))) (m2 v9 (a9 2) (mC (.int 1)))) (a1f (.str (AC "above")) s1 (some (.val (pr c d))) a b)=some (!decide (d=b)):=a1h (r:= .val (.int d)) rfl (q:= .val (.int b)) rfl (b8I d b)
  by_cases h:d=b
  ·rw [decide_eq_true h] at t1
   refine Eq.mpr (congrArg _ (b2B (ρ':=a1f (.str (AC "above")) s1 (some (.val (pr c d))) (a+c) b) ?_)) (b4d (a+c) b)
   rw [a9g t0,b9 t1]
   exact a7e rfl
  ·rw [decide_eq_false h] at t1
   refine .inl ?_
   rw [b9A (r:= .val (.tuple [.str (AC "misfit"),.str (AC "")])) (by rw [a9g t0];exact y8 t1 rfl)]
   exact b11 _ _
theorem b03{w:String}(hw:w="beside"\/w="above"){s1:Option g6}:∀(ds:List PV) (_:∀p∈ds,∃a b,p=pr a b) (a b:Int) (q3:Option g6),a31 (a07 E4 (u3 3) ds (a1f (.str (AC w)) s1 q3 a b))\/∃a' b' q3',a07 E4 (u3 3) ds (a1f (.str (AC w)) s1 q3 a b)=some (.nx (a1f (.str (AC w)) s1 q3' a' b'))
 |[],_,a,b,q3=> .inr ⟨a,b,q3,rfl⟩
 |p::ds,h,a,b,q3=>by
  obtain⟨c,d,rfl⟩:=h p Ab
  have st:=b6V hw (s1:=s1) a b c d
  have e:a07 E4 (u3 3) (pr c d::ds) (a1f (.str (AC w)) s1 q3 a b)=(E4 (a1f (.str (AC w)) s1 (some (.val (pr c d))) a b)).bind (fun fl=>match fl with
   | .nx ρ2=>a07 E4 (u3 3) ds ρ2
   | .ct ρ2=>a07 E4 (u3 3) ds ρ2
   | .bk ρ2=>some (.nx ρ2)
   | .rt r=>some (.rt r)):=by
   rw [a07]
   rfl
  rcases st with⟨p,e1,e2⟩|⟨a',b',e1⟩
  ·refine .inl ⟨p, ?_,e2⟩
   rw [e,e1]
   rfl
  ·rw [e,e1]
   exact b03 hw ds (fun q hq=>h q (Ah _ hq)) a' b' _
def b30(h:a31 (b (ps.map (fun p=>some (g6.val p))++AV n none))):∃p,n6 n b ps=some (.val p)/\sz p:=by
 obtain⟨p,e,s⟩:=h
 exact⟨p,W4 e,s⟩
def b8w{w:String}(hw:w="beside"\/w="above"){ds:List PV}(h:∀p∈ds,∃a b,p=pr a b)(hn:ds≠[]):∃p,a3k [.str (AC w),.list ds]=some (.val p)/\sz p:=by
 refine b30 (n:=2) ?_
 show a31 (a5Z [some (.val (.str (AC w))),some (.val (.list ds)),none,none])
 unfold a5Z
 cases ds with
 |nil=>exact absurd rfl hn
 |cons d ds=>
  obtain⟨a,b,rfl⟩:=h d Ab
  rw [p5 (p:=pr a b) (two (r:= .val (.list (pr a b::ds))) (q:= .val (.int 0)) rfl rfl (at0 (.inl rfl)))]
  have e0:a4C (R9 (a9 1) (K0 (mC (.int 1))) a4F) (a1f (.str (AC w)) (some (.val (.list (pr a b::ds)))) none a b)=some ds:=by
   show some (cut (pr a b::ds) (some 1) none)=some ds
   unfold cut HT.sIx
   simp
   try lia
  rcases b03 hw (s1:=some (.val (.list (pr a b::ds)))) ds (fun q hq=>h q (Ah _ hq)) a b none with⟨p,e1,s⟩|⟨a',b',q3',e1⟩
  ·exact⟨p,c2w e0 e1,s⟩
  ·exact⟨pr a' b',(a4r e0 e1).trans rfl,.inl ⟨_,_,rfl⟩⟩
def isS:PV->Bool
 | .tuple (.str _::_)=>true
 |_=>false
def c3E{x y:M}{ρ:e9}{p q:PV}(h1:x ρ=some (.val p))(h2:y ρ=some (.val q)):A9 (a0 x (a0 y b8)) ρ=some (.val (.tuple [p,q])):=by
 unfold A9 a0
 rw [h1,h2]
 rfl
def a5l{p:PV}(h:sz p){x:M}{ρ:e9}(hx:x ρ=some (.val p)):m1 (a1n "str") (m2 v9 x (mC (.int 0))) ρ=some (.val (.bool (isS p))):=by
 rcases h with⟨a,b,rfl⟩|⟨z,y,rfl⟩
 ·exact one (r:= .val (.int a)) (two (q:= .val (.int 0)) hx rfl rfl) rfl
 ·exact one (r:= .val (.str z)) (two (q:= .val (.int 0)) hx rfl rfl) rfl
def c3z(h:∀p∈l,sz p)(k:Nat):L4 l (k+2)=true:=a8R fun p hp=>by
 rcases h p hp with⟨a,b,rfl⟩|⟨z,y,rfl⟩<;>rfl
def c2T(h:∀p∈l,sz p):gNe (.bor l) (.own [])=some (.val (.bool (!l.isEmpty))):=by
 have e:gNe (.bor l) (.own [])=if L4 l 49=true/\L4 [] 49=true then some (.val (.bool (!PyData.eqv (.list l) (.list [])))) else none:=rfl
 rw [e,if_pos ⟨c3z h 47,rfl⟩]
 cases l<;>rfl
def c1v:Option g6->PV
 |some (.val q)=>q
 |_=> .none
section
variable {R:RF}
def a9b{m:Mo}{ps:List Mo}{w:String}(hw:w="beside"\/w="above")(hp0:ps≠[])(hp:ps.length<=6)(h:∀p∈ps,∃q,R [p9 p,.dict []]=some (.val q)/\sz q){ww:PV}:
 a31 (j5 (z6 3 (F9 1 (w6 (m2 v9 (a9 0) (mC (.int 1)))) (u3 6) P8 (a0A R)))
 (j5 (z6 4 (F9 1 (w6 (a9 3)) (u3 6) (mtV (m1 (a1n "str") (m2 v9 (a9 6) (mC (.int 0))))) (a2C R)))
 (j5 (u6 (A6 (m2 gNe (a9 4) (O2 b8))) (l9 (m2 v9 (a9 4) (mC (.int 0)))) m7)
 (b43 3 (l9 (m4 a3k (a0 (a9 2) (a0 (a9 3) b8))))))) [some (.val (.tuple [ww,.list (ps.map p9)])),some (.val (.dict [])),some (.val (.str (AC w))),none,none,none]):=by
 have hf:∀p∈ps,R [p9 p,.dict []]=some (.val (c1v (R [p9 p,.dict []])))/\sz (c1v (R [p9 p,.dict []])):=fun p hp=>by
  obtain⟨q,e,s⟩:=h p hp
  rw [e]
  exact⟨rfl,s⟩
 have c1:=T2 (ι:=p9) (f:=fun p=>c1v (R [p9 p,.dict []])) (k:=1) (it:=w6 (m2 v9 (a9 0) (mC (.int 1)))) (tg:=u3 6) (elt:=a0A R) (ρ:=[some (.val (.tuple [ww,.list (ps.map p9)])),some (.val (.dict [])),some (.val (.str (AC w))),none,none,none]) ps rfl (by lia) fun p hp=>by
  refine⟨[some (.val (.tuple [ww,.list (ps.map p9)])),some (.val (.dict [])),some (.val (.str (AC w))),none,none,none,some (.val (p9 p))],rfl, ?_⟩
  unfold a0A
  rw [(a1d rfl rfl).trans (hf p hp).1]
  rfl
 obtain⟨ds,hds⟩:∃ds,ds=ps.map fun p=>c1v (R [p9 p,.dict []]):=⟨_,rfl⟩
 rw [<-hds] at c1
 have dl:ds.length<=6:=by rw [hds,Ak];exact hp
 have dn:ds≠[]:=by rw [hds];intro e;exact hp0 (List.map_eq_nil_iff.mp e)
 have dz:∀q∈ds,sz q:=fun q hq=>by
  rw [hds] at hq
  obtain⟨p,hp,rfl⟩:=Au.mp hq
  exact(hf p hp).2
 have c2:=b19 (ι:=id) (f:=id) (q:=isS) (k:=1) (it:=w6 (a9 3)) (c:=mtV (m1 (a1n "str") (m2 v9 (a9 6) (mC (.int 0))))) (tg:=u3 6) (elt:=a2C R) (ρ:=[some (.val (.tuple [ww,.list (ps.map p9)])),some (.val (.dict [])),some (.val (.str (AC w))),some (.own ds),none,none]) ds (by rw [List.map_id];rfl) (by lia) fun p hp=>by
  refine⟨[some (.val (.tuple [ww,.list (ps.map p9)])),some (.val (.dict [])),some (.val (.str (AC w))),some (.own ds),none,none,some (.val p)],rfl,a95 (a5l (dz p hp) rfl),fun _=>rfl⟩
 rw [List.map_id] at c2
 rw [a0J c1]
 refine Eq.mpr (congrArg a31 (a0J c2)) ?_
 have bz:∀q∈ds.filter isS,sz q:=fun q hq=>dz q (List.mem_filter.mp hq).1
 have t1:A6 (m2 gNe (a9 4) (O2 b8)) [some (.val (.tuple [ww,.list (ps.map p9)])),some (.val (.dict [])),some (.val (.str (AC w))),some (.own ds),some (.own (ds.filter isS)),none]=some (!(ds.filter isS).isEmpty):=a1h (r:= .bor (ds.filter isS)) rfl (q:= .own []) rfl (c2T bz)
 cases eb:ds.filter isS with
 |nil=>
  rw [eb] at t1
  have dp:∀p∈ds,∃a b,p=pr a b:=fun p hp=>by
   rcases dz p hp with hz|⟨z,y,rfl⟩
   ·exact hz
   ·have:PyData.tuple [.str z,.str y]∈ds.filter isS:=List.mem_filter.mpr ⟨hp,rfl⟩
    rw [eb] at this
    cases this
  obtain⟨p,e1,s⟩:=b8w hw dp dn
  refine⟨p, ?_,s⟩
  refine(b9 t1).trans ?_
  show l9 _ [some (.val (.tuple [ww,.list (ps.map p9)])),some (.val (.dict [])),some (.val (.str (AC w))),some (.val (.list ds)),some (.own []),none]=_
  exact a09 ((a1d rfl rfl).trans e1)
 |cons b bs=>
  rw [eb] at t1
  exact⟨b,y8 t1 (two (r:= .bor (b::bs)) (q:= .val (.int 0)) rfl rfl (at0 (.inl rfl))),bz b (by rw [eb];exact Ab)⟩
def c1y{w:List Nat}(h:w∈Z8):∃b:Bool,a12 false (.val (row w)) (.own [.str (AC "turn"),.str (AC "back"),.str (AC "cross"),.str (AC "other")])=some (.val (.bool b)):=by
 have h2:w=[116,117,114,110]\/w=[104,97,108,102]\/w=[98,97,99,107]\/w=[115,105,100,101]\/w=[102,108,105,112]\/w=[99,114,111,115,115]\/w=[111,116,104,101,114]:=by
  simpa [Z8] using h
 rcases h2 with rfl|rfl|rfl|rfl|rfl|rfl|rfl<;>exact⟨_,rfl⟩
def b3t{s0 s1 s2 s3 s4:Option g6}(a b:Int):a31 (j5 (u6 (A6 (m2 (gI fun i j=> .bool (decide (j<i))) (m1 a4t (a9 5)) (mC (.int 24)))) (l9 (A9 (a0 (mC (.str (AC "wide"))) (a0 (mC (.str (AC ""))) b8)))) m7) (a0d 5) [s0,s1,s2,s3,s4,some (.val (pr a b))]):=by
 obtain⟨k,hk⟩:=b47 a b
 have e:A6 (m2 (gI fun i j=> .bool (decide (j<i))) (m1 a4t (a9 5)) (mC (.int 24))) [s0,s1,s2,s3,s4,some (.val (pr a b))]=some (decide ((24:Int)<k)):=a1h (r:= .val (.int k)) (one rfl hk) (q:= .val (.int 24)) rfl rfl
 by_cases h:(24:Int)<k
 ·rw [decide_eq_true h] at e
  rw [y8 e rfl]
  exact b11 _ _
 ·rw [decide_eq_false h] at e
  rw [b9 e]
  exact⟨_,rfl,.inl ⟨a,b,rfl⟩⟩
def a6X{c:MT}{i:Nat}{n:MS}{ρ:e9}{p:PV}(hc:c ρ=some true)(hx:ρ[i]?=some (some (.val p))):j5 (u6 c (a0d i) m7) n ρ=some (.rt (.val p)):=by
 refine S0 hc ?_
 unfold a0d
 rw [hx]
def b8W{a b:MT}{ρ:e9}{x y:Bool}(h1:a ρ=some x)(h2:b ρ=some y):Q9 a b ρ=some (x||y):=by
 unfold Q9
 rw [h1]
 cases x
 ·exact h2
 ·rfl
def b40(m:Mo)(ok:J7 m)(ih:∀p,J7 p->x6 p<x6 m->∃q,R [p9 p,.dict []]=some (.val q)/\sz q):∃q,n6 4 (a1A R) [p9 m,.dict []]=some (.val q)/\sz q:=by
 refine b30 ?_
 show a31 (a1A R [some (.val (p9 m)),some (.val (.dict [])),none,none,none,none])
 unfold a1A
 cases m with
 |plain rows=>
  rw [J7] at ok
  cases rows with
  |nil=>cases ok
  |cons r rows=>
   rw [p9,p5 (p:= .str (AC "plain")) rfl]
   have hr:r.length<=10000:=by
    unfold a6e rOk at ok
    simp only [Bool.and_eq_true,decide_eq_true_eq] at ok
    lia
   exact⟨pr _ _,y8 rfl (c3E rfl (one (r:= .val (row r)) (two (r:= .val (.tuple ((r::rows).map row))) (q:= .val (.int 0)) rfl rfl (at0 (.inr rfl))) (a0U hr))),.inl ⟨_,_,rfl⟩⟩
 |named w=>
  rw [p9,p5 (p:= .str (AC "name")) rfl,b9 rfl]
  exact⟨_,y8 rfl rfl,.inr ⟨_,_,rfl⟩⟩
 |beside ps=>
  rw [J7] at ok
  have d:x6 (.beside ps)=1+J9 ps:=by rw [x6]
  rw [p9,S5,p5 (p:= .str (AC "beside")) rfl,b9 rfl,b9 rfl]
  obtain⟨q,e,s⟩:=a9b (R:=R) (m:= .beside ps) (w:="beside") (ww:= .str (AC "beside")) (.inl rfl) (ps:=ps) (by intro e;rw [e] at ok;simp at ok) ok.2.1 fun p hp=>ih p (G0 ok.2.2 hp) (by have:=G4 hp;lia)
  exact⟨q,S0 rfl e,s⟩
 |above ps=>
  rw [J7] at ok
  have d:x6 (.above ps)=1+J9 ps:=by rw [x6]
  rw [p9,S5,p5 (p:= .str (AC "above")) rfl,b9 rfl,b9 rfl]
  obtain⟨q,e,s⟩:=a9b (R:=R) (m:= .above ps) (w:="above") (ww:= .str (AC "above")) (.inr rfl) (ps:=ps) (by intro e;rw [e] at ok;simp at ok) ok.2.1 fun p hp=>ih p (G0 ok.2.2 hp) (by have:=G4 hp;lia)
  exact⟨q,S0 rfl e,s⟩
 |across k p=>
  rw [J7] at ok
  obtain⟨q,e,s⟩:=ih p ok.2.2 (by rw [x6];lia)
  rw [p9,p5 (p:= .str (AC "across")) rfl,b9 rfl,b9 rfl,b9 rfl,p5 ((a1d rfl rfl).trans e)]
  have t1:=b8W (b:=A6 (m2 M1 (a9 2) (mC (.str (AC "dye"))))) (y:=false) (a95 (a5l (x:=a9 5) (ρ:=[some (.val (.tuple [.str (AC "across"),.int (k:Nat),p9 p])),some (.val (.dict [])),some (.val (.str (AC "across"))),none,none,some (.val q)]) s rfl)) rfl
  rcases s with⟨a,b,rfl⟩|⟨z,y,rfl⟩
  ·refine Eq.mpr (congrArg a31 ((b9 t1).trans (b9 rfl))) ?_
   refine Eq.mpr (congrArg a31 (b2B (ρ':=[some (.val (.tuple [.str (AC "across"),.int (k:Nat),p9 p])),some (.val (.dict [])),some (.val (.str (AC "across"))),none,none,some (.val (pr a (b*(k:Nat))))]) ?_)) (b3t _ _)
   rw [b3u rfl]
   exact a7e (p:=pr a (b*(k:Nat))) (c3E (ρ:=[some (.val (.tuple [.str (AC "across"),.int (k:Nat),p9 p])),some (.val (.dict [])),some (.val (.str (AC "across"))),none,none,some (.val (pr a b))]) rfl (mlv (a:=m2 v9 (a9 5) (mC (.int 1))) (b:=m2 v9 (a9 0) (mC (.int 1))) (x:=b) (k:=(k:Nat)) rfl rfl (by lia)))
  ·exact⟨_,a6X t1 rfl,.inr ⟨_,_,rfl⟩⟩
 |down k p=>
  rw [J7] at ok
  obtain⟨q,e,s⟩:=ih p ok.2.2 (by rw [x6];lia)
  rw [p9,p5 (p:= .str (AC "down")) rfl,b9 rfl,b9 rfl,b9 rfl,p5 ((a1d rfl rfl).trans e)]
  have t1:=b8W (b:=A6 (m2 M1 (a9 2) (mC (.str (AC "dye"))))) (y:=false) (a95 (a5l (x:=a9 5) (ρ:=[some (.val (.tuple [.str (AC "down"),.int (k:Nat),p9 p])),some (.val (.dict [])),some (.val (.str (AC "down"))),none,none,some (.val q)]) s rfl)) rfl
  rcases s with⟨a,b,rfl⟩|⟨z,y,rfl⟩
  ·refine Eq.mpr (congrArg a31 ((b9 t1).trans (b9 rfl))) ?_
   refine Eq.mpr (congrArg a31 (b2B (ρ':=[some (.val (.tuple [.str (AC "down"),.int (k:Nat),p9 p])),some (.val (.dict [])),some (.val (.str (AC "down"))),none,none,some (.val (pr (a*(k:Nat)) b))]) ?_)) (b3t _ _)
   rw [a9g rfl]
   exact a7e (p:=pr (a*(k:Nat)) b) (c3E (ρ:=[some (.val (.tuple [.str (AC "down"),.int (k:Nat),p9 p])),some (.val (.dict [])),some (.val (.str (AC "down"))),none,none,some (.val (pr a b))]) (mlv (a:=m2 v9 (a9 5) (mC (.int 0))) (b:=m2 v9 (a9 0) (mC (.int 1))) (x:=a) (k:=(k:Nat)) rfl rfl (by lia)) rfl)
  ·exact⟨_,a6X t1 rfl,.inr ⟨_,_,rfl⟩⟩
 |turned w p=>
  rw [J7] at ok
  obtain⟨q,e,s⟩:=ih p ok.2 (by rw [x6];lia)
  rw [p9,p5 (p:= .str (AC "turned")) rfl,b9 rfl,b9 rfl,b9 rfl,p5 ((a1d rfl rfl).trans e)]
  have t1:=b8W (b:=A6 (m2 M1 (a9 2) (mC (.str (AC "dye"))))) (y:=false) (a95 (a5l (x:=a9 5) (ρ:=[some (.val (.tuple [.str (AC "turned"),row w,p9 p])),some (.val (.dict [])),some (.val (.str (AC "turned"))),none,none,some (.val q)]) s rfl)) rfl
  rcases s with⟨a,b,rfl⟩|⟨z,y,rfl⟩
  ·refine Eq.mpr (congrArg a31 (b9 t1)) ?_
   obtain⟨v,hv⟩:=c1y ok.1
   have t2:A6 (m2 (a12 false) (m2 v9 (a9 0) (mC (.int 1))) (O2 (a0 (mC (.str (AC "turn"))) (a0 (mC (.str (AC "back"))) (a0 (mC (.str (AC "cross"))) (a0 (mC (.str (AC "other"))) b8)))))) [some (.val (.tuple [.str (AC "turned"),row w,p9 p])),some (.val (.dict [])),some (.val (.str (AC "turned"))),none,none,some (.val (pr a b))]=some v:=a1h (r:= .val (row w)) rfl (q:= .own [.str (AC "turn"),.str (AC "back"),.str (AC "cross"),.str (AC "other")]) rfl hv
   cases v with
   |true=>exact⟨pr b a,S0 rfl (y8 t2 rfl),.inl ⟨_,_,rfl⟩⟩
   |false=>exact⟨pr a b,S0 rfl ((b9 t2).trans rfl),.inl ⟨_,_,rfl⟩⟩
  ·exact⟨_,a6X t1 rfl,.inr ⟨_,_,rfl⟩⟩
 |dyed x y p=>
  rw [J7] at ok
  obtain⟨q,e,s⟩:=ih p ok.2.2 (by rw [x6];lia)
  rw [p9,p5 (p:= .str (AC "dye")) rfl,b9 rfl,b9 rfl,b9 rfl,p5 ((a1d rfl rfl).trans e)]
  have t1:=b8W (b:=A6 (m2 M1 (a9 2) (mC (.str (AC "dye"))))) (y:=true) (a95 (a5l (x:=a9 5) (ρ:=[some (.val (.tuple [.str (AC "dye"),row [x],row [y],p9 p])),some (.val (.dict [])),some (.val (.str (AC "dye"))),none,none,some (.val q)]) s rfl)) rfl
  rw [Bool.or_true] at t1
  exact⟨q,a6X t1 rfl,s⟩
end
theorem b3r:∀(n:Nat) (m:Mo),J7 m->x6 m<=n->∃q,a4w n [p9 m,.dict []]=some (.val q)/\sz q
 |0,m,_,h=>by have:=a0w m;lia
 |n+1,m,ok,h=>b40 m ok fun p okp hp=>b3r n p okp (by lia)
def c0d(s:sz q)(h8:ρ[8]?=some (some (.val q)))(h3:ρ[3]?=some (some (.val (.int 0)))):∃b:Bool,a6P (b8z (m1 (a1n "str") (m2 v9 (a9 8) (mC (.int 0))))) (m2 Y7 (m1 a4t (a9 8)) (a9 3)) ρ=some (.val (.bool b)):=by
 have v8:a9 8 ρ=some (.val q):=by unfold a9;rw [h8]
 have v3:a9 3 ρ=some (.val (.int 0)):=by unfold a9;rw [h3]
 have e1:=a5l s v8
 have e2:b8z (m1 (a1n "str") (m2 v9 (a9 8) (mC (.int 0)))) ρ=some (.val (.bool (!isS q))):=by
  unfold b8z
  rw [e1]
  rfl
 unfold a6P
 rw [e2]
 rcases s with⟨a,b,rfl⟩|⟨z,y,rfl⟩
 ·obtain⟨k,hk⟩:=b47 a b
  exact⟨decide (k<=0),two (one v8 hk) v3 rfl⟩
 ·exact⟨false,rfl⟩
def W1(N:Int)(m:Mo)(q5 q6 q7 q8 q9:Option g6):e9:=[some (.val (.int N)),some (.val (.dict [])),some (.val (.list (a2x.map row))),some (.val (.int 0)),some (.val (p9 m)),q5,q6,q7,q8,q9]
def c3V(h1:a ρ=some true)(h2:b ρ=some y):a1P a b ρ=some y:=by
 unfold a1P
 rw [h1]
 exact h2
def b4Q(ok:J7 m)(h5:in5 m)(hd:x6 m<=d)(hd2:1<=d/\d<=10)(hl:(x4 m).length<=380)(hj:j<=3)(q6 q7 q8 q9:Option g6):∃m' q6' q7' q8' q9',J7 m'/\in5 m'/\x6 m'<=d+2/\(x4 m').length<=380/\
 R8 (W1 N m (some (.val (.int (j:Nat)))) q6 q7 q8 q9)=some (.nx (W1 N m' (some (.val (.int (j:Nat)))) q6' q7' q8' q9')):=by
 obtain⟨M,hM⟩:∃M:Int,M=N*(2*(j:Nat)+39373) % 2147483629:=⟨_,rfl⟩
 obtain⟨l,hl1,el⟩:=b6b (M*7+1)
 obtain⟨r,er,okr,h5r,hdr,hlr⟩:=c1s ok hl1.1 h5 hl1.2.1 M
 have dl:=hl1.2.2.1
 have ll:=hl1.2.2.2
 have dr:x6 r<=d+2:=by lia
 have lr:(x4 r).length<=4000:=by lia
 obtain⟨q,eq,sq⟩:=b3r 12 r okr (by lia)
 have lt:W0 [p9 r]=some (.val (row (x4 r))):=a9c 12 r okr (by lia) lr
 have e1:m2 (O6 (fun _ j=>0<j) fun i j=> .int (i % j)) (m2 B1 (a9 0) (m2 v6 (m2 B1 (mC (.int 2)) (a9 5)) (mC (.int 39373)))) (mC (.int 2147483629)) (W1 N m (some (.val (.int (j:Nat)))) q6 q7 q8 q9)=some (.val (.int M)):=by
  rw [hM]
  exact md (mlv rfl (adI (mlv rfl rfl (by lia)) rfl) (by lia)) rfl (by lia)
 have e2:m4 a0i (a0 (a9 6) (a0 (a9 4) (a0 (m4 a1J (a0 (m2 v6 (m2 B1 (a9 6) (mC (.int 7))) (mC (.int 1))) (a0 (a9 2) b8))) b8))) (W1 N m (some (.val (.int (j:Nat)))) (some (.val (.int M))) q7 q8 q9)=some (.val (p9 r)):=(c3X rfl rfl ((a1d (adI (ml rfl (by lia)) rfl) rfl).trans el)).trans er
 have e3:m4 a3l (a0 (a9 7) (a0 (a9 1) b8)) (W1 N m (some (.val (.int (j:Nat)))) (some (.val (.int M))) (some (.val (p9 r))) q8 q9)=some (.val q):=(a1d rfl rfl).trans eq
 obtain⟨b,e4⟩:=c0d sq (ρ:=W1 N m (some (.val (.int (j:Nat)))) (some (.val (.int M))) (some (.val (p9 r))) (some (.val q)) q9) rfl rfl
 have t1:Q9 (mtV (a9 9)) (A6 (m2 M1 (a9 3) (mC (.int 0)))) (W1 N m (some (.val (.int (j:Nat)))) (some (.val (.int M))) (some (.val (p9 r))) (some (.val q)) (some (.val (.bool b))))=some true:=by
  have:=b8W (a:=mtV (a9 9)) (b:=A6 (m2 M1 (a9 3) (mC (.int 0)))) (x:=b) (y:=true) (ρ:=W1 N m (some (.val (.int (j:Nat)))) (some (.val (.int M))) (some (.val (p9 r))) (some (.val q)) (some (.val (.bool b)))) (a95 rfl) rfl
  rw [Bool.or_true] at this
  exact this
 have t2:A6 (m2 a6J (m1 N8 (m4 W0 (a0 (a9 7) b8))) (mC (.int 381))) (W1 N m (some (.val (.int (j:Nat)))) (some (.val (.int M))) (some (.val (p9 r))) (some (.val q)) (some (.val (.bool b))))=some (decide (((x4 r).length:Int)<381)):=
  a1h (r:= .val (.int ((x4 r).length:Nat))) (one ((Q4 rfl).trans lt) (a0U (by lia))) (q:= .val (.int 381)) rfl rfl
 have t3:=c3V t1 t2
 have go:∀o,u6 (a1P (Q9 (mtV (a9 9)) (A6 (m2 M1 (a9 3) (mC (.int 0))))) (A6 (m2 a6J (m1 N8 (m4 W0 (a0 (a9 7) b8))) (mC (.int 381))))) (z6 4 (a9 7)) m7 (W1 N m (some (.val (.int (j:Nat)))) (some (.val (.int M))) (some (.val (p9 r))) (some (.val q)) (some (.val (.bool b))))=o->R8 (W1 N m (some (.val (.int (j:Nat)))) q6 q7 q8 q9)=o:=fun o h=>by
  unfold R8
  refine(p5 e1).trans ?_
  refine(p5 e2).trans ?_
  refine(p5 e3).trans ?_
  refine(p5 e4).trans ?_
  exact h
 by_cases hc:((x4 r).length:Int)<381
 ·rw [decide_eq_true hc] at t3
  exact⟨r,_,_,_,_,okr,h5r,dr,by lia,go _ ((b3u t3).trans (a7e rfl))⟩
 ·rw [decide_eq_false hc] at t3
  exact⟨m,_,_,_,_,ok,h5,by lia,hl,go _ ((a9g t3).trans rfl)⟩
def b8e(N:Int):∃m,J7 m/\in5 m/\x6 m<=8/\(x4 m).length<=450/\a2a [.int N,.dict [],.list (a2x.map row),.int 0]=some (.val (p9 m)):=by
 obtain⟨l,hl,el⟩:=b6b N
 obtain⟨n,hn1,hn⟩:∃n:Nat,n<=3/\((n:Nat):Int)=N*69621 % 1000003 % 4:=⟨(N*69621 % 1000003 % 4).toNat,by lia,by lia⟩
 have e4:a4E (a0 (m2 (O6 (fun _ j=>0<j) fun i j=> .int (i % j)) (m2 (O6 (fun _ j=>0<j) fun i j=> .int (i % j)) (m2 B1 (a9 0) (mC (.int 69621))) (mC (.int 1000003))) (mC (.int 4))) b8) (W1 N l none none none none none)=some ((Ao n).map fun k=> .int (k:Nat)):=by
  refine a5m ?_ (by lia)
  rw [hn]
  exact md (md (ml rfl (by lia)) rfl (by lia)) rfl (by lia)
 have l1:=hl.2.2.1
 have l2:=hl.2.2.2
 obtain⟨ρ',e5,m,q5,q6,q7,q8,q9,h1,h2,h3,h4,rfl⟩:=a5j (body:=R8) (tg:=u3 5) (fun j ρ=>∃(m:Mo) (q5 q6 q7 q8 q9:Option g6),J7 m/\in5 m/\x6 m<=1+2*j/\(x4 m).length<=380/\ρ=W1 N m q5 q6 q7 q8 q9)
  (ps:=(Ao n).map fun k=> .int (k:Nat)) (ρ:=W1 N l none none none none none)
  (by
   rintro j p hp ρ ⟨m,q5,q6,q7,q8,q9,h1,h2,h3,h4,rfl⟩
   obtain⟨rfl,hj⟩:=a6Y hp
   obtain⟨m',q6',q7',q8',q9',k1,k2,k3,k4,eb⟩:=b4Q (N:=N) h1 h2 h3 (by lia) h4 (j:=j) (by lia) q6 q7 q8 q9
   exact a8x (ρ1:=W1 N m (some (.val (.int (j:Nat)))) q6 q7 q8 q9) rfl eb ⟨m',_,_,_,_,_,k1,k2,by lia,k4,rfl⟩)
  ⟨l,_,_,_,_,_,hl.1,hl.2.1,by lia,by lia,rfl⟩
 rw [Ak,BI] at h3
 refine⟨m,h1,h2,by lia,by lia,W4 (n:=6) ?_⟩
 show a4g [some (.val (.int N)),some (.val (.dict [])),some (.val (.list (a2x.map row))),some (.val (.int 0)),none,none,none,none,none,none]=_
 unfold a4g
 refine(p5 ((a1d rfl rfl).trans el)).trans ?_
 refine(b9 rfl).trans ?_
 refine(a4r e4 e5).trans ?_
 rfl
def c2W(c:Int)(hk:k<=100):∃N:Int,Z0 [.int c,.int (k:Nat)]=some (.val (.int N)):=by
 refine⟨c % 10 ^ 18*(2*(k:Int)+3)+(k:Int)*k, ?_⟩
 have m1:B1 (.val (.int (k:Nat))) (.val (.int (k:Nat)))=some (.val (.int ((k:Int)*k))):=b5W (by lia)
 unfold Z0 a6A
 simp (disch:=omega) only [D4,b5W,b8a,b8c,m9,j9,i3,n4,i4,o8,i8,k9,AH,AK,AN,AO,Aj,Int.reducePow,Int.reduceToNat,m1]
 try rfl
def b8H:a2b []=some (.own (a2x.map row)):=by
 refine W4 (n:=0) ?_
 rfl
def c4N{ns:List Int}{i:Nat}(hi:i<ns.length)(hi2:i<30)(q2:Option g6):∃q2',a6N [some (.val (.list (ns.map .int))),some (.val (.int (i:Nat))),q2]=some (.nx [some (.val (.list (ns.map .int))),some (.val (.int (i:Nat))),q2']):=by
 obtain⟨c,hc⟩:=c2D hi
 obtain⟨N,eN⟩:=c2W c (k:=i) (by lia)
 obtain⟨m,ok,h5,hd,hl,eg⟩:=b8e N
 have rt:=a9R ok h5 hd hl
 have e1:m4 Z0 (a0 (m2 v9 (a9 0) (a9 1)) (a0 (a9 1) b8)) [some (.val (.list (ns.map .int))),some (.val (.int (i:Nat))),q2]=some (.val (.int N)):=(a1d hc rfl).trans eN
 have e2:m4 a2a (a0 (a9 2) (a0 b42 (a0 (fun _=>a2b []) (a0 (mC (.int 0)) b8)))) [some (.val (.list (ns.map .int))),some (.val (.int (i:Nat))),some (.val (.int N))]=some (.val (p9 m)):=by
  unfold m4 a0
  rw [b8H]
  exact eg
 refine⟨some (.val (.int N)), ?_⟩
 unfold a6N
 refine(p5 e1).trans ?_
 exact(a9g (b8M (a95 ((Q4 e2).trans rt)))).trans rfl
def main:∀ns:List Int,ns.length<=63->c1L [.list (ns.map .int)]=some (.val (.bool true)):=by
 intro ns hl
 obtain⟨n,hn⟩:∃n:Nat,n=min ns.length 30:=⟨_,rfl⟩
 obtain⟨ρ',e1,q1,q2,rfl⟩:=a5j (body:=a6N) (tg:=u3 1) (fun _ ρ=>∃q1 q2:Option g6,ρ=[some (.val (.list (ns.map .int))),q1,q2])
  (ps:=(Ao n).map fun k=> .int (k:Nat)) (ρ:=[some (.val (.list (ns.map .int))),none,none])
  (by
   rintro i p hp ρ ⟨q1,q2,rfl⟩
   obtain⟨rfl,hi⟩:=a6Y hp
   obtain⟨a,h⟩:=c4N (ns:=ns) (i:=i) (by lia) (by lia) q2
   exact a8x (ρ1:=[some (.val (.list (ns.map .int))),some (.val (.int (i:Nat))),q2]) rfl h ⟨_,_,rfl⟩)
  ⟨none,none,rfl⟩
 have it:a4E (a0 (m2 (gI fun i j=> .int (if j<i then j else i)) (m1 N8 (a9 0)) (mC (.int 30))) b8) [some (.val (.list (ns.map .int))),none,none]=some ((Ao n).map fun k=> .int (k:Nat)):=by
  refine a5m ?_ (by lia)
  have gl:N8 (.val (.list (ns.map .int)))=some (.val (.int (ns.length:Nat))):=by
   show some (g6.val (.int ((ns.map PyData.int).length:Nat)))=_
   rw [Ak]
  have em:(if(30:Int)<(ns.length:Nat) then(30:Int) else(ns.length:Nat))=(n:Nat):=by split<;>lia
  show(N8 (.val (.list (ns.map .int)))).bind (fun x=>(gI fun i j=> .int (if j<i then j else i)) x (.val (.int 30)))=_
  rw [gl]
  show some (g6.val (.int (if(30:Int)<(ns.length:Nat) then(30:Int) else(ns.length:Nat))))=_
  rw [em]
 have l1:=b06 (w:=[115,116,97,121]) (by decide)
 have l2:=a89 (rows:=[[97]]) (by decide) (by decide)
 have r1:=a9R l1.1 l1.2.1 (by have:=l1.2.2.1;lia) (by have:=l1.2.2.2;lia)
 have r2:=a9R l2.1 l2.2.1 (by have:=l2.2.2.1;lia) (by have:=l2.2.2.2;lia)
 have s1:A9 (a0 (mC (.str (AC "name"))) (a0 (mC (.str (AC "stay"))) b8)) [some (.val (.list (ns.map .int))),q1,q2]=some (.val (p9 (.named [115,116,97,121]))):=by rw [p9];rfl
 have s2:A9 (a0 (mC (.str (AC "plain"))) (a0 (A9 (a0 (mC (.str (AC "a"))) b8)) b8)) [some (.val (.list (ns.map .int))),q1,q2]=some (.val (p9 (.plain [[97]]))):=by rw [p9];rfl
 refine W4 (n:=2) ?_
 show b7K [some (.val (.list (ns.map .int))),none,none]=_
 unfold b7K
 refine(a4r it e1).trans ?_
 exact a09 (b7H ((Q4 s1).trans r1) ((Q4 s2).trans r2))
end LW
set_option maxHeartbeats 4000000
namespace LW
open PySem PySem.Spec PyProof.Rows L2 PU
seal L2.PE L2.PS L2.PSs L2.PT L2.PW L2.PA L2.PG L2.PGs L2.PI
def T9(i:Nat):Stmt:=PySem.Challenge.pw_carpetkin_k21_motifs_written.main.body.getD i (.Pass ⟨0,0,0,0⟩)
abbrev a3C:Stmt:=T9 69
def a5R:j0 ["_law_cell","_law_at"] ["_law_cell","_law_at"] (d5 a3C):=T8
def b0o:List.Nodup (α:=Str) ["_law_tree","_law_word","_law_part"]:=by decide+kernel
def b0p:List.Nodup (α:=Str) ["_law_tree","_law_word","_law_part"]:=by decide+kernel
abbrev a3B:Stmt:=T9 78
def a41:j0 ["_law_tree","_law_word"] ["_law_tree"] (d5 a3B):=T8
def b0s:List.Nodup (α:=Str) ["_law_tree","_law_word","_law_part"]:=by decide+kernel
abbrev a3E:Stmt:=T9 73
def a43:j0 ["_law_tree","_law_word"] ["_law_tree"] (d5 a3E):=T8
abbrev a7B:Stmt:=T9 43
def a9V:j0 ["text","at","first","last","end"] ["text","at","first","last"] (d5 a7B):=T8
abbrev a2I:Stmt:=T9 44
def a44:j0 ["text","at"] ["text","at"] (d5 a2I):=T8
abbrev a1a:Stmt:=T9 48
def a2Z:j0 ["word"] ["word"] (d5 a1a):=T8
abbrev a7A:Stmt:=T9 55
def a9U:j0 ["word"] ["word"] (d5 a7A):=T8
def b3B:List.Nodup (α:=Str) ["thing","sign"]:=by decide+kernel
abbrev a9T:Stmt:=T9 9
def b1t:j0 ["thing"] ["thing"] (d5 a9T):=T8
def b0l:List.Nodup (α:=Str) ["thing","row"]:=by decide+kernel
def b0m:List.Nodup (α:=Str) ["thing","row"]:=by decide+kernel
abbrev a6f:Stmt:=T9 10
def a74:j0 ["thing"] ["thing"] (d5 a6f):=T8
abbrev a3H:Stmt:=T9 16
def a5S:j0 ["text","cloth"] ["text"] (d5 a3H):=T8
abbrev a6j:Stmt:=T9 56
def a78:j0 ["text","at","end","rows"] ["text","at"] (d5 a6j):=T8
abbrev a2H:Stmt:=T9 45
def a4Z:j0 ["text","at"] ["text","at"] (d5 a2H):=T8
abbrev a4T:Stmt:=T9 46
def a66:j0 ["word"] ["word"] (d5 a4T):=T8
abbrev a0l:Stmt:=T9 47
def a2l:j0 ["word","least","most","number"] ["word","least","most"] (d5 a0l):=T8
abbrev a4U:Stmt:=T9 60
def a67:j0 ["text","at","end"] ["text","at"] (d5 a4U):=T8
abbrev a1V:Stmt:=T9 63
def a3X:j0 ["text","at"] ["text","at"] (d5 a1V):=T8
abbrev a5o:Stmt:=T9 64
def a6k:j0 ["text","at","left","found"] ["text","at","left"] (d5 a5o):=T8
abbrev a5p:Stmt:=T9 58
def a6l:j0 ["text","word","at","left","found"] ["text","word","at","left"] (d5 a5p):=T8
abbrev Z5:Stmt:=T9 59
def a1b:j0 ["text","at","left","found"] ["text","at","left"] (d5 Z5):=T8
abbrev P5:Stmt:=T9 65
def T6:j0 ["text","word","at","left"] ["text","word","at","left"] (d5 P5):=T8
abbrev a3F:Stmt:=T9 66
def a45:j0 ["text","at","left","end","word"] ["text","at","left"] (d5 a3F):=T8
abbrev a3G:Stmt:=T9 57
def a46:j0 ["text","at","left","parts","found"] ["text","at","left"] (d5 a3G):=T8
abbrev a0I:Stmt:=T9 61
def a10:j0 ["text","word","at","left","end","found","many"] ["text","word","at","left"] (d5 a0I):=T8
abbrev a2k:Stmt:=T9 62
def a3L:j0 ["text","word","at","left","found"] ["text","word","at","left"] (d5 a2k):=T8
abbrev a3I:Stmt:=T9 67
def a5T:j0 ["text","found"] ["text"] (d5 a3I):=T8
abbrev a4P:Stmt:=T9 80
def a62:j0 ["_law_tree"] ["_law_tree"] (d5 a4P):=T8
def a6T:List.Nodup (α:=Str) ["_law_tree","_law_found","_law_part","_law_name"]:=by decide+kernel
abbrev Z6:Stmt:=T9 82
def a1c:j0 ["_law_tree","_law_found","_law_part"] ["_law_tree"] (d5 Z6):=T8
def b0n:List.Nodup (α:=Str) ["_law_tree","_law_part"]:=by decide+kernel
abbrev a3A:Stmt:=T9 81
def a40:j0 ["_law_tree"] ["_law_tree"] (d5 a3A):=T8
abbrev a60:Stmt:=T9 79
def a7C:j0 ["_law_found","_law_tree","_law_word","_law_sort_told","_law_one","_law_part"] ["_law_found","_law_tree"] (d5 a60):=T8
abbrev a2F:Stmt:=O5 (T9 31) 0
def a4X:j0 ["self"] ["self"] (d5 a2F):=T8
abbrev a1T:Stmt:=O5 (T9 34) 1
def a3V:j0 ["self"] ["self"] (d5 a1T):=T8
abbrev a2E:Stmt:=O5 (T9 35) 1
def a4W:j0 ["self"] ["self"] (d5 a2E):=T8
abbrev a1S:Stmt:=O5 (T9 36) 1
def a3U:j0 ["self"] ["self"] (d5 a1S):=T8
abbrev a3w:Stmt:=O5 (T9 37) 1
def a5N:j0 ["self"] ["self"] (d5 a3w):=T8
abbrev a1U:Stmt:=O5 (T9 38) 1
def a3W:j0 ["self"] ["self"] (d5 a1U):=T8
abbrev a3x:Stmt:=O5 (T9 39) 1
def a5O:j0 ["self"] ["self"] (d5 a3x):=T8
abbrev a2G:Stmt:=O5 (T9 33) 2
def a4Y:j0 ["self"] ["self"] (d5 a2G):=T8
abbrev a0G:Stmt:=O5 (T9 31) 2
def a1Y:j0 ["self","found","part"] ["self"] (d5 a0G):=T8
abbrev a2J:Stmt:=T9 17
def a47:j0 ["cloth"] ["cloth"] (d5 a2J):=T8
abbrev a3z:Stmt:=O5 (T9 32) 1
def a5Q:j0 ["self"] ["self"] (d5 a3z):=T8
abbrev a3y:Stmt:=O5 (T9 33) 1
def a5P:j0 ["self"] ["self"] (d5 a3y):=T8
abbrev a1q:Stmt:=O5 (T9 35) 2
def a2K:j0 ["self"] ["self"] (d5 a1q):=T8
abbrev a0E:Stmt:=O5 (T9 36) 2
def a1W:j0 ["self"] ["self"] (d5 a0E):=T8
abbrev a0F:Stmt:=O5 (T9 34) 2
def a1X:j0 ["self"] ["self"] (d5 a0F):=T8
abbrev a2i:Stmt:=O5 (T9 37) 2
def a3J:j0 ["self"] ["self"] (d5 a2i):=T8
abbrev a2j:Stmt:=O5 (T9 39) 2
def a3K:j0 ["self"] ["self"] (d5 a2j):=T8
abbrev a0H:Stmt:=O5 (T9 38) 2
def a1Z:j0 ["self"] ["self"] (d5 a0H):=T8
def a6d:List.Nodup (α:=Str) ["parts","part"]:=by decide+kernel
abbrev V6:Stmt:=T9 30
def a0m:j0 ["parts"] ["parts"] (d5 V6):=T8
def a8f:List.Nodup (α:=Str) ["self","part"]:=by decide+kernel
abbrev a1r:Stmt:=O5 (T9 31) 1
def a2L:j0 ["self"] ["self"] (d5 a1r):=T8
abbrev a4S:Stmt:=T9 83
def a65:j0 ["_law_tree","_law_one","_law_text_here","_law_told","_law_due","_law_found"] ["_law_tree"] (d5 a4S):=T8
abbrev a4R:Stmt:=T9 71
def a64:j0 ["_law_number_here","_law_rows","_law_letters","_law_wide","_law_r","_law_row","_law_c","_law_mixed"] ["_law_number_here"] (d5 a4R):=T8
abbrev a6h:Stmt:=T9 72
def a76:j0 ["_law_number_here","_law_names_here"] ["_law_number_here","_law_names_here"] (d5 a6h):=T8
abbrev a6i:Stmt:=T9 74
def a77:j0 ["_law_number_here","_law_tree","_law_other","_law_way","_law_many","_law_letters","_law_turns"] ["_law_number_here","_law_tree","_law_other"] (d5 a6i):=T8
abbrev a6g:Stmt:=T9 75
def a75:j0 ["_law_word","_law_dims","_law_found","_law_size_here"] ["_law_word","_law_dims"] (d5 a6g):=T8
def b0q:List.Nodup (α:=Str) ["_law_tree","_law_known","_law_word","_law_dims","_law_bad","_law_size_here","_law_part"]:=by decide+kernel
def b0r:List.Nodup (α:=Str) ["_law_tree","_law_known","_law_word","_law_dims","_law_bad","0_law_size_here","_law_size_here"]:=by decide+kernel
abbrev a3D:Stmt:=T9 76
def a42:j0 ["_law_tree","_law_known","_law_word","_law_dims","_law_bad","_law_size_here"] ["_law_tree","_law_known"] (d5 a3D):=T8
abbrev a4O:Stmt:=T9 77
def a61:j0 ["_law_number_here","_law_known","_law_names_here","_law_most","_law_tree","_law_step_here","_law_mixed","_law_new","_law_size_here","_law_fits"] ["_law_number_here","_law_known","_law_names_here","_law_most"] (d5 a4O):=T8
abbrev a4Q:Stmt:=T9 70
def a63:j0 [] [] (d5 a4Q):=T8
abbrev b9w:Stmt:=T9 84
def b9z:j0 ["_law_script","_law_at","_law_number_here"] ["_law_script"] (d5 b9w):=T8
structure MoB(K:AE)(mg:Str->Option AA):Prop where
 z_all:mg "all"=none
 z_bool:mg "bool"=none
 z_int:mg "int"=none
 z_isinstance:mg "isinstance"=none
 z_len:mg "len"=none
 z_list:mg "list"=none
 z_max:mg "max"=none
 z_min:mg "min"=none
 z_range:mg "range"=none
 z_set:mg "set"=none
 z_sorted:mg "sorted"=none
 z_str:mg "str"=none
 z_tuple:mg "tuple"=none
 z_zip:mg "zip"=none
abbrev b33:Stmt:=O5 (T9 32) 0
def b7p:j0 ["self","rows"] ["self","rows"] (d5 b33):=T8
abbrev b32:Stmt:=O5 (T9 33) 0
def b7o:j0 ["self","name"] ["self","name"] (d5 b32):=T8
abbrev b1r:Stmt:=O5 (T9 34) 0
def b5s:j0 ["self","parts"] ["self","parts"] (d5 b1r):=T8
abbrev b31:Stmt:=O5 (T9 35) 0
def b7n:j0 ["self","parts"] ["self","parts"] (d5 b31):=T8
abbrev b1q:Stmt:=O5 (T9 36) 0
def b5r:j0 ["self","many","part"] ["self","many","part"] (d5 b1q):=T8
abbrev b6n:Stmt:=O5 (T9 37) 0
def b9x:j0 ["self","many","part"] ["self","many","part"] (d5 b6n):=T8
abbrev b1s:Stmt:=O5 (T9 38) 0
def b5t:j0 ["self","way","part"] ["self","way","part"] (d5 b1s):=T8
abbrev b6o:Stmt:=O5 (T9 39) 0
def b9y:j0 ["self","one","other","part"] ["self","one","other","part"] (d5 b6o):=T8
structure Ad where
 C_Plain:AB
 C_Named:AB
 C_Beside:AB
 C_Above:AB
 C_Across:AB
 C_Down:AB
 C_Turned:AB
 C_Dyed:AB
 C_Motif:AB
 f_Motif_inner:AB
 f_Beside_inner:AB
 f_Above_inner:AB
 f_Across_inner:AB
 f_Down_inner:AB
 f_Turned_inner:AB
 f_Dyed_inner:AB
 f_Named_names:AB
 f_Motif_names:AB
 f_Plain_text:AB
 f_Named_text:AB
 f_Above_text:AB
 f_Across_text:AB
 f_Beside_text:AB
 f_Down_text:AB
 f_Dyed_text:AB
 f_Turned_text:AB
 f_Motif_deep:AB
structure Oc(K:AE)(mg:Str->Option AA)(a:Ad):Prop where
 kc_Plain:KC K "Plain" a.C_Plain
 kc_Named:KC K "Named" a.C_Named
 kc_Beside:KC K "Beside" a.C_Beside
 kc_Above:KC K "Above" a.C_Above
 kc_Across:KC K "Across" a.C_Across
 kc_Down:KC K "Down" a.C_Down
 kc_Turned:KC K "Turned" a.C_Turned
 kc_Dyed:KC K "Dyed" a.C_Dyed
 fi_Plain_deep:W.findIn K (.ref a.C_Plain) "deep"=some (some (.ref a.f_Motif_deep))
 fi_Named_deep:W.findIn K (.ref a.C_Named) "deep"=some (some (.ref a.f_Motif_deep))
 fi_Beside_deep:W.findIn K (.ref a.C_Beside) "deep"=some (some (.ref a.f_Motif_deep))
 fi_Above_deep:W.findIn K (.ref a.C_Above) "deep"=some (some (.ref a.f_Motif_deep))
 fi_Across_deep:W.findIn K (.ref a.C_Across) "deep"=some (some (.ref a.f_Motif_deep))
 fi_Down_deep:W.findIn K (.ref a.C_Down) "deep"=some (some (.ref a.f_Motif_deep))
 fi_Turned_deep:W.findIn K (.ref a.C_Turned) "deep"=some (some (.ref a.f_Motif_deep))
 fi_Dyed_deep:W.findIn K (.ref a.C_Dyed) "deep"=some (some (.ref a.f_Motif_deep))
 fi_Plain_inner:W.findIn K (.ref a.C_Plain) "inner"=some (some (.ref a.f_Motif_inner))
 fi_Named_inner:W.findIn K (.ref a.C_Named) "inner"=some (some (.ref a.f_Motif_inner))
 fi_Beside_inner:W.findIn K (.ref a.C_Beside) "inner"=some (some (.ref a.f_Beside_inner))
 fi_Above_inner:W.findIn K (.ref a.C_Above) "inner"=some (some (.ref a.f_Above_inner))
 fi_Across_inner:W.findIn K (.ref a.C_Across) "inner"=some (some (.ref a.f_Across_inner))
 fi_Down_inner:W.findIn K (.ref a.C_Down) "inner"=some (some (.ref a.f_Down_inner))
 fi_Turned_inner:W.findIn K (.ref a.C_Turned) "inner"=some (some (.ref a.f_Turned_inner))
 fi_Dyed_inner:W.findIn K (.ref a.C_Dyed) "inner"=some (some (.ref a.f_Dyed_inner))
 fi_Plain_names:W.findIn K (.ref a.C_Plain) "names"=some (some (.ref a.f_Motif_names))
 fi_Named_names:W.findIn K (.ref a.C_Named) "names"=some (some (.ref a.f_Named_names))
 fi_Beside_names:W.findIn K (.ref a.C_Beside) "names"=some (some (.ref a.f_Motif_names))
 fi_Above_names:W.findIn K (.ref a.C_Above) "names"=some (some (.ref a.f_Motif_names))
 fi_Across_names:W.findIn K (.ref a.C_Across) "names"=some (some (.ref a.f_Motif_names))
 fi_Down_names:W.findIn K (.ref a.C_Down) "names"=some (some (.ref a.f_Motif_names))
 fi_Turned_names:W.findIn K (.ref a.C_Turned) "names"=some (some (.ref a.f_Motif_names))
 fi_Dyed_names:W.findIn K (.ref a.C_Dyed) "names"=some (some (.ref a.f_Motif_names))
 fi_Plain_text:W.findIn K (.ref a.C_Plain) "text"=some (some (.ref a.f_Plain_text))
 fi_Named_text:W.findIn K (.ref a.C_Named) "text"=some (some (.ref a.f_Named_text))
 fi_Beside_text:W.findIn K (.ref a.C_Beside) "text"=some (some (.ref a.f_Beside_text))
 fi_Above_text:W.findIn K (.ref a.C_Above) "text"=some (some (.ref a.f_Above_text))
 fi_Across_text:W.findIn K (.ref a.C_Across) "text"=some (some (.ref a.f_Across_text))
 fi_Down_text:W.findIn K (.ref a.C_Down) "text"=some (some (.ref a.f_Down_text))
 fi_Turned_text:W.findIn K (.ref a.C_Turned) "text"=some (some (.ref a.f_Turned_text))
 fi_Dyed_text:W.findIn K (.ref a.C_Dyed) "text"=some (some (.ref a.f_Dyed_text))
 fld_many:a02 K ["Across","Down"] "many"
 fld_name:a02 K ["Named"] "name"
 fld_one:a02 K ["Dyed"] "one"
 fld_other:a02 K ["Dyed"] "other"
 fld_part:a02 K ["Across","Down","Turned","Dyed"] "part"
 fld_parts:a02 K ["Beside","Above"] "parts"
 fld_rows:a02 K ["Plain"] "rows"
 fld_way:a02 K ["Turned"] "way"
 mg_Above:mg "Above"=some (.ref a.C_Above)
 mg_Across:mg "Across"=some (.ref a.C_Across)
 mg_Beside:mg "Beside"=some (.ref a.C_Beside)
 mg_Down:mg "Down"=some (.ref a.C_Down)
 mg_Dyed:mg "Dyed"=some (.ref a.C_Dyed)
 mg_Motif:mg "Motif"=some (.ref a.C_Motif)
 mg_Named:mg "Named"=some (.ref a.C_Named)
 mg_Plain:mg "Plain"=some (.ref a.C_Plain)
 mg_Turned:mg "Turned"=some (.ref a.C_Turned)
 iso_Above:X5 K (.ref a.C_Above) [("Plain",false),("Named",false),("Beside",false),("Above",true),("Across",false),("Down",false),("Turned",false),("Dyed",false)]
 iso_Across:X5 K (.ref a.C_Across) [("Plain",false),("Named",false),("Beside",false),("Above",false),("Across",true),("Down",false),("Turned",false),("Dyed",false)]
 iso_Beside:X5 K (.ref a.C_Beside) [("Plain",false),("Named",false),("Beside",true),("Above",false),("Across",false),("Down",false),("Turned",false),("Dyed",false)]
 iso_Down:X5 K (.ref a.C_Down) [("Plain",false),("Named",false),("Beside",false),("Above",false),("Across",false),("Down",true),("Turned",false),("Dyed",false)]
 iso_Dyed:X5 K (.ref a.C_Dyed) [("Plain",false),("Named",false),("Beside",false),("Above",false),("Across",false),("Down",false),("Turned",false),("Dyed",true)]
 iso_Motif:X5 K (.ref a.C_Motif) [("Plain",true),("Named",true),("Beside",true),("Above",true),("Across",true),("Down",true),("Turned",true),("Dyed",true)]
 iso_Named:X5 K (.ref a.C_Named) [("Plain",false),("Named",true),("Beside",false),("Above",false),("Across",false),("Down",false),("Turned",false),("Dyed",false)]
 iso_Plain:X5 K (.ref a.C_Plain) [("Plain",true),("Named",false),("Beside",false),("Above",false),("Across",false),("Down",false),("Turned",false),("Dyed",false)]
 iso_Turned:X5 K (.ref a.C_Turned) [("Plain",false),("Named",false),("Beside",false),("Above",false),("Across",false),("Down",false),("Turned",true),("Dyed",false)]
section
variable (P:Ac)(w:AU)(K:AE)(mg:Str->Option AA)(base:Heap)(a:Ad)
abbrev a6v:Prop:=u7 P w K mg base "_law_number" ["_law_cell","_law_at"] 1 Z0
abbrev b4q:Prop:=u7 P w K mg base "_law_made" ["_law_tree"] 14 a59
abbrev a8G:Prop:=u7 P w K mg base "_law_text" ["_law_tree"] 13 W0
abbrev a7d:Prop:=u7 P w K mg base "run_end" ["text","at","first","last"] 1 a2U
abbrev U4:Prop:=u7 P w K mg base "letters_end" ["text","at"] 2 M6
abbrev a3Q:Prop:=u7 P w K mg base "is_small_word" ["word"] 3 V3
abbrev a7c:Prop:=u7 P w K mg base "is_name" ["word"] 4 a5k
abbrev b2S:Prop:=u7 P w K mg base "is_row" ["thing"] 1 a4u
abbrev a8C:Prop:=u7 P w K mg base "is_cloth" ["thing"] 2 a3j
abbrev a6w:Prop:=b4l P w K mg base "read_cloth" ["text"] 3 S8
abbrev a5Y:Prop:=u7 P w K mg base "plain_at" ["text","at"] 4 a3m
abbrev a2q:Prop:=u7 P w K mg base "figures_end" ["text","at"] 2 Q0
abbrev a7L:Prop:=u7 P w K mg base "number_in" ["word"] 3 a2d
abbrev a2M:Prop:=u7 P w K mg base "number_between" ["word","least","most"] 4 S7
abbrev a4b:Prop:=u7 P w K mg base "times_end" ["text","at"] 5 a0Y
abbrev a1x:Prop:=u7 P w K mg base "is_colour_at" ["text","at"] 3 N9
abbrev b4s:Prop:=u7 P w K mg base "motif_at" ["text","at","left"] 45 a6a
structure S6(k:Nat)(R_dyed_at R_laid_at R_last_part_at R_made_of_parts_at m5 R_parts_at R_repeated_at R_turned_at:List PV->Option g6):Prop where
 d_dyed_at:u7 P w K mg base "dyed_at" ["text","at","left"] k R_dyed_at
 d_laid_at:u7 P w K mg base "laid_at" ["text","word","at","left"] k R_laid_at
 d_last_part_at:u7 P w K mg base "last_part_at" ["text","at","left"] k R_last_part_at
 d_made_of_parts_at:u7 P w K mg base "made_of_parts_at" ["text","word","at","left"] k R_made_of_parts_at
 d_motif_at:u7 P w K mg base "motif_at" ["text","at","left"] k m5
 d_parts_at:u7 P w K mg base "parts_at" ["text","at","left"] k R_parts_at
 d_repeated_at:u7 P w K mg base "repeated_at" ["text","word","at","left"] k R_repeated_at
 d_turned_at:u7 P w K mg base "turned_at" ["text","word","at","left"] k R_turned_at
abbrev a6x:Prop:=u7 P w K mg base "read_motif" ["text"] 46 Z1
abbrev a0N:Prop:=u7 P w K mg base "_law_inner" ["_law_tree"] 1 L7
abbrev a8E:Prop:=u7 P w K mg base "_law_names_in" ["_law_tree"] 13 Y9
abbrev b4p:Prop:=u7 P w K mg base "_law_deep" ["_law_tree"] 13 a58
abbrev b7F:Prop:=u7 P w K mg base "_law_is" ["_law_found","_law_tree"] 13 a80
abbrev U3:Prop:=D0 P w K mg base a.f_Motif_inner ["self"] 1 x8
abbrev R3:Prop:=D0 P w K mg base a.f_Beside_inner ["self"] 1 E9
abbrev U2:Prop:=D0 P w K mg base a.f_Above_inner ["self"] 1 J4
abbrev R1:Prop:=D0 P w K mg base a.f_Across_inner ["self"] 1 E8
abbrev X8:Prop:=D0 P w K mg base a.f_Down_inner ["self"] 1 L5
abbrev R4:Prop:=D0 P w K mg base a.f_Turned_inner ["self"] 1 F8
abbrev X9:Prop:=D0 P w K mg base a.f_Dyed_inner ["self"] 1 L6
abbrev a0t:Prop:=D0 P w K mg base a.f_Named_names ["self"] 1 C5
abbrev b0b:Prop:=D0 P w K mg base a.f_Motif_names ["self"] 13 r8
abbrev a5D:Prop:=u7 P w K mg base "shown_cloth" ["cloth"] 1 V0
abbrev L0:Prop:=D0 P w K mg base a.f_Plain_text ["self"] 2 v4
abbrev K9:Prop:=D0 P w K mg base a.f_Named_text ["self"] 1 v0
abbrev b1D:Prop:=D0 P w K mg base a.f_Above_text ["self"] 22 Y8
abbrev a99:Prop:=D0 P w K mg base a.f_Across_text ["self"] 22 U7
abbrev b0a:Prop:=D0 P w K mg base a.f_Beside_text ["self"] 22 U8
abbrev b2Q:Prop:=D0 P w K mg base a.f_Down_text ["self"] 22 a0V
abbrev b2R:Prop:=D0 P w K mg base a.f_Dyed_text ["self"] 22 a0W
abbrev b0c:Prop:=D0 P w K mg base a.f_Turned_text ["self"] 22 U9
structure K8(k:Nat)(j4 i5 i6 l6 l7 i7 R_written_parts:List PV->Option g6):Prop where
 d_Above_text:D0 P w K mg base a.f_Above_text ["self"] k j4
 d_Across_text:D0 P w K mg base a.f_Across_text ["self"] k i5
 d_Beside_text:D0 P w K mg base a.f_Beside_text ["self"] k i6
 d_Down_text:D0 P w K mg base a.f_Down_text ["self"] k l6
 d_Dyed_text:D0 P w K mg base a.f_Dyed_text ["self"] k l7
 d_Turned_text:D0 P w K mg base a.f_Turned_text ["self"] k i7
 d_written_parts:u7 P w K mg base "written_parts" ["parts"] k R_written_parts
abbrev b1E:Prop:=D0 P w K mg base a.f_Motif_deep ["self"] 13 E3
abbrev a7K:Prop:=u7 P w K mg base "_law_right" ["_law_tree"] 47 a0X
abbrev a4a:Prop:=u7 P w K mg base "_law_plain" ["_law_number_here"] 1 a2c
abbrev a8D:Prop:=u7 P w K mg base "_law_leaf" ["_law_number_here","_law_names_here"] 2 a1J
abbrev a8F:Prop:=u7 P w K mg base "_law_step" ["_law_number_here","_law_tree","_law_other"] 1 a0i
abbrev a5X:Prop:=u7 P w K mg base "_law_laid" ["_law_word","_law_dims"] 1 a3k
abbrev b4r:Prop:=u7 P w K mg base "_law_size" ["_law_tree","_law_known"] 13 a3l
abbrev a7I:Prop:=u7 P w K mg base "_law_grown" ["_law_number_here","_law_known","_law_names_here","_law_most"] 14 a2a
abbrev a7J:Prop:=u7 P w K mg base "_law_names" [] 1 a2b
structure Io:Prop where
 i_Above:Q1 P w K mg base "Above" ["parts"] 1
 i_Across:Q1 P w K mg base "Across" ["many","part"] 1
 i_Beside:Q1 P w K mg base "Beside" ["parts"] 1
 i_Down:Q1 P w K mg base "Down" ["many","part"] 1
 i_Dyed:Q1 P w K mg base "Dyed" ["one","other","part"] 1
 i_Named:Q1 P w K mg base "Named" ["name"] 1
 i_Plain:Q1 P w K mg base "Plain" ["rows"] 1
 i_Turned:Q1 P w K mg base "Turned" ["way","part"] 1
end
section
variable (P:Ac)(w:AU){K:AE}{mg:Str->Option AA}(base:Heap)(a:Ad)
def b0z(D:Df K mg "_law_number" a3C):a6v P w K mg base:=by
 refine u4 (k:=0) D a5R (fun _ _ _ _ _ _=>el2 (fun _ _=>rfl)) fun f cdv A outer s H E hr=> ?_
 have S:=a5R
 have hu:=hr.units
 exact(d0 (d9 (g7 j6 (g7 C9 (g7 C3 (g8 0) (g7 c01 b7 b7)) (g7 j6 (g7 C9 b7 (g8 1)) b7)) (g7 C9 (g8 1) (g8 1)))))
def b3K{k:Nat}(hk0:2<=k){D5:List PV->Option g6}(D:Df K mg "_law_made" a3B)(M:MoB K mg)(I:Io P w K mg base)(M3:u7 P w K mg base "_law_made" ["_law_tree"] k D5):u7 P w K mg base "_law_made" ["_law_tree"] (k+1) (n6 1 (a1z D5)):=by
 refine u4 (k:=k) D a41 (fun _ _ _ _ _ _=>el1 (fun _=>rfl)) fun f cdv A outer s H E hr=> ?_
 have S:=a41
 have hu:=hr.units
 refine c7 ?_ ?_
 ·exact(u0 (i:=1) S.nd (k7 (g8 0) b7))
 refine c7 ?_ ?_
 ·exact(p7 (p6 (r6 hu) (g8 1) d6) (d0 (d9 (T4 I.i_Plain hr (by lia) rfl (b6 g9) (a8 (k7 (g8 0) b7) c9)))) j8)
 refine c7 ?_ ?_
 ·exact(p7 (p6 (r6 hu) (g8 1) d6) (d0 (d9 (T4 I.i_Named hr (by lia) rfl (b6 g9) (a8 (k7 (g8 0) b7) c9)))) j8)
 refine c7 ?_ ?_
 ·refine p7 ?_ ?_ ?_
  ·exact(p6 (r6 hu) (g8 1) d6)
  ·refine d0 ?_
   refine d9 ?_
   refine T4 I.i_Beside hr ?_ ?_ ?_ ?_
   ·lia
   ·exact rfl
   ·exact(b6 g9)
   refine a8 ?_ ?_
   ·refine a4q a4l ?_ M.z_tuple ?_ ?_
    ·exact rfl
    ·rfl
    refine a0x (ys:=["_law_part"]) (N0:=["_law_tree","_law_word"]) (fun _ _ h=>h) ?_ ⟨by kernel_rfl,rfl,of_decide_eq_true rfl,of_decide_eq_true rfl,of_decide_eq_true rfl⟩ ?_ (fun C fp pins s H=>E6 (i:=2) b0o rfl (Or.inl rfl)) (fun n h=>G3 (i:=2) (Nat.le_of_eq h)) (fun C fp pins s H=>a2w) ?_
    ·exact rfl
    ·exact(a1H (k7 (g8 0) b7))
    intro C fp pins s H
    exact(m8 M3 hr (by lia) rfl (b6 g9) (a8 (g8 2) c9))
   exact c9
  exact j8
 refine c7 ?_ ?_
 ·refine p7 ?_ ?_ ?_
  ·exact(p6 (r6 hu) (g8 1) d6)
  ·refine d0 ?_
   refine d9 ?_
   refine T4 I.i_Above hr ?_ ?_ ?_ ?_
   ·lia
   ·exact rfl
   ·exact(b6 g9)
   refine a8 ?_ ?_
   ·refine a4q a4l ?_ M.z_tuple ?_ ?_
    ·exact rfl
    ·rfl
    refine a0x (ys:=["_law_part"]) (N0:=["_law_tree","_law_word"]) (fun _ _ h=>h) ?_ ⟨by kernel_rfl,rfl,of_decide_eq_true rfl,of_decide_eq_true rfl,of_decide_eq_true rfl⟩ ?_ (fun C fp pins s H=>E6 (i:=2) b0p rfl (Or.inl rfl)) (fun n h=>G3 (i:=2) (Nat.le_of_eq h)) (fun C fp pins s H=>a2w) ?_
    ·exact rfl
    ·exact(a1H (k7 (g8 0) b7))
    intro C fp pins s H
    exact(m8 M3 hr (by lia) rfl (b6 g9) (a8 (g8 2) c9))
   exact c9
  exact j8
 refine c7 ?_ ?_
 ·exact(p7 (p6 (r6 hu) (g8 1) d6) (d0 (d9 (T4 I.i_Across hr (by lia) rfl (b6 (b6 g9)) (a8 (k7 (g8 0) b7) (a8 (m8 M3 hr (by lia) rfl (b6 g9) (a8 (k7 (g8 0) b7) c9)) c9))))) j8)
 refine c7 ?_ ?_
 ·exact(p7 (p6 (r6 hu) (g8 1) d6) (d0 (d9 (T4 I.i_Down hr (by lia) rfl (b6 (b6 g9)) (a8 (k7 (g8 0) b7) (a8 (m8 M3 hr (by lia) rfl (b6 g9) (a8 (k7 (g8 0) b7) c9)) c9))))) j8)
 refine c7 ?_ ?_
 ·exact(p7 (p6 (r6 hu) (g8 1) d6) (d0 (d9 (T4 I.i_Turned hr (by lia) rfl (b6 (b6 g9)) (a8 (k7 (g8 0) b7) (a8 (m8 M3 hr (by lia) rfl (b6 g9) (a8 (k7 (g8 0) b7) c9)) c9))))) j8)
 exact(d0 (d9 (T4 I.i_Dyed hr (by lia) rfl (b6 (b6 (b6 g9))) (a8 (k7 (g8 0) b7) (a8 (k7 (g8 0) b7) (a8 (m8 M3 hr (by lia) rfl (b6 g9) (a8 (k7 (g8 0) b7) c9)) c9))))))
def b2e(a24:Df K mg "_law_made" a3B)(M:MoB K mg)(I:Io P w K mg base):∀n:Nat,u7 P w K mg base "_law_made" ["_law_tree"] (2+n) (a4v n):=by
 intro n
 induction n with
 |zero=>exact u4 (k:=1) a24 a41 (fun _ _ _ _ _ _=>el1 (fun _=>rfl)) fun f cdv A outer s H E hr=>z8
 |succ n ih=>
  exact b3K P w base (Nat.le_add_right _ _) a24 M I ih
def b3N{k:Nat}(hk0:1<=k){O8:List PV->Option g6}(D:Df K mg "_law_text" a3E)(M:MoB K mg)(M4:u7 P w K mg base "_law_text" ["_law_tree"] k O8):u7 P w K mg base "_law_text" ["_law_tree"] (k+1) (n6 1 (a1B O8)):=by
 refine u4 (k:=k) D a43 (fun _ _ _ _ _ _=>el1 (fun _=>rfl)) fun f cdv A outer s H E hr=> ?_
 have S:=a43
 have hu:=hr.units
 refine c7 ?_ ?_
 ·exact(u0 (i:=1) S.nd (k7 (g8 0) b7))
 refine c7 ?_ ?_
 ·exact(p7 (p6 (r6 hu) (g8 1) d6) (d0 (d9 (g7 j6 (g7 j6 d6 (a8p d6 (k7 (g8 0) b7))) d6))) j8)
 refine c7 ?_ ?_
 ·exact(p7 (p6 (r6 hu) (g8 1) d6) (d0 (d9 (k7 (g8 0) b7))) j8)
 refine c7 ?_ ?_
 ·refine p7 (PW.pt (N7 (p6 (r6 hu) (g8 1) d6) (D7 (p6 (r6 hu) (g8 1) d6)))) ?_ ?_
  ·refine d0 ?_
   refine d9 ?_
   refine g7 j6 ?_ ?_
   ·refine g7 j6 ?_ ?_
    ·exact(g7 j6 (g8 1) d6)
    refine a8p ?_ ?_
    ·exact d6
    refine a0x (ys:=["_law_part"]) (N0:=["_law_tree","_law_word"]) (fun _ _ h=>h) ?_ ⟨by kernel_rfl,rfl,of_decide_eq_true rfl,of_decide_eq_true rfl,of_decide_eq_true rfl⟩ ?_ (fun C fp pins s H=>E6 (i:=2) b0s rfl (Or.inl rfl)) (fun n h=>G3 (i:=2) (Nat.le_of_eq h)) (fun C fp pins s H=>a2w) ?_
    ·exact rfl
    ·exact(a1H (k7 (g8 0) b7))
    intro C fp pins s H
    exact(m8 M4 hr (by lia) rfl (b6 g9) (a8 (g8 2) c9))
   exact d6
  exact j8
 refine c7 ?_ ?_
 ·refine p7 (PW.pt (N7 (p6 (r6 hu) (g8 1) d6) (D7 (p6 (r6 hu) (g8 1) d6)))) ?_ ?_
  ·exact(d0 (d9 (g7 j6 (g7 j6 (g7 j6 (g7 j6 (g7 j6 (g8 1) d6) (a4q b4D rfl M.z_str (by rfl) (k7 (g8 0) b7))) d6) (m8 M4 hr (by lia) rfl (b6 g9) (a8 (k7 (g8 0) b7) c9))) d6)))
  exact j8
 refine c7 ?_ ?_
 ·exact(p7 (p6 (r6 hu) (g8 1) d6) (d0 (d9 (g7 j6 (g7 j6 (g7 j6 (k7 (g8 0) b7) d6) (m8 M4 hr (by lia) rfl (b6 g9) (a8 (k7 (g8 0) b7) c9))) d6))) j8)
 exact(d0 (d9 (g7 j6 (g7 j6 (g7 j6 (g7 j6 (g7 j6 (g7 j6 d6 (k7 (g8 0) b7)) d6) (k7 (g8 0) b7)) d6) (m8 M4 hr (by lia) rfl (b6 g9) (a8 (k7 (g8 0) b7) c9))) d6)))
def b2g(a1w:Df K mg "_law_text" a3E)(M:MoB K mg):∀n:Nat,u7 P w K mg base "_law_text" ["_law_tree"] (1+n) (a4x n):=by
 intro n
 induction n with
 |zero=>exact u4 (k:=0) a1w a43 (fun _ _ _ _ _ _=>el1 (fun _=>rfl)) fun f cdv A outer s H E hr=>z8
 |succ n ih=>
  exact b3N P w base (Nat.le_add_right _ _) a1w M ih
def b5i(D:Df K mg "run_end" a7B)(M:MoB K mg):a7d P w K mg base:=by
 refine u4 (k:=0) D a9V (fun _ _ _ _ _ _=>el4 (fun _ _ _ _=>rfl)) fun f cdv A outer s H E hr=> ?_
 have S:=a9V
 have hu:=hr.units
 refine c7 ?_ ?_
 ·exact(u0 (i:=4) S.nd (g8 1))
 exact(c7 (b27 500 PassesOwn.never (PW.pt (a8T (p6 a8v (g8 4) (N6 N4 rfl M.z_len (by rfl) (g8 0))) (a6G (a2S M0 M0 (g8 2) (k7 (g8 0) (g8 4)) (g8 3))))) (d0 (c2m (i:=4) S.nd b7 b8T))) (d0 (a0y 4 (pv 4))))
def a9F(D:Df K mg "letters_end" a2I)(a2P:a7d P w K mg base):U4 P w K mg base:=by
 refine u4 (k:=1) D a44 (fun _ _ _ _ _ _=>el2 (fun _ _=>rfl)) fun f cdv A outer s H E hr=> ?_
 have S:=a44
 have hu:=hr.units
 exact(d0 (d9 (m8 a2P hr (by decide) rfl (b6 (b6 (b6 (b6 g9)))) (a8 (g8 0) (a8 (g8 1) (a8 d6 (a8 d6 c9)))))))
def a7x(D:Df K mg "is_small_word" a1a)(M:MoB K mg){u_LONGEST_WORD:AA}{n_LONGEST_WORD:Nat}(m_LONGEST_WORD:mg "LONGEST_WORD"=some u_LONGEST_WORD)(c_LONGEST_WORD:Y0 K n_LONGEST_WORD u_LONGEST_WORD=some Z9)(E2:U4 P w K mg base):a3Q P w K mg base:=by
 refine u4 (k:=2) D a2Z (fun _ _ _ _ _ _=>el1 (fun _=>rfl)) fun f cdv A outer s H E hr=> ?_
 have S:=a2Z
 have hu:=hr.units
 refine d0 ?_
 refine d9 ?_
 refine a53 ?_ ?_
 ·exact(b24 M0 M0 b7 (N6 N4 rfl M.z_len (by rfl) (g8 0)) (a1l rfl m_LONGEST_WORD c_LONGEST_WORD))
 exact(a54 (a17 (r6 hu) (m8 E2 hr (by decide) rfl (b6 (b6 g9)) (a8 (g8 0) (a8 b7 c9))) (N6 N4 rfl M.z_len (by rfl) (g8 0))))
def b5g(D:Df K mg "is_name" a7A){u_WORDS:AA}{n_WORDS:Nat}(m_WORDS:mg "WORDS"=some u_WORDS)(c_WORDS:Y0 K n_WORDS u_WORDS=some a8y)(a05:a3Q P w K mg base):a7c P w K mg base:=by
 refine u4 (k:=3) D a9U (fun _ _ _ _ _ _=>el1 (fun _=>rfl)) fun f cdv A outer s H E hr=> ?_
 have S:=a9U
 have hu:=hr.units
 exact(d0 (d9 (a53 (m8 a05 hr (by decide) rfl (b6 g9) (a8 (g8 0) c9)) (a54 (a17 (a9I hu) (g8 0) (a1l rfl m_WORDS c_WORDS))))))
def b7c(D:Df K mg "is_row" a9T)(M:MoB K mg){u_LONGEST:AA}{n_LONGEST:Nat}(m_LONGEST:mg "LONGEST"=some u_LONGEST)(c_LONGEST:Y0 K n_LONGEST u_LONGEST=some a1v):b2S P w K mg base:=by
 refine u4 (k:=0) D b1t (fun _ _ _ _ _ _=>el1 (fun _=>rfl)) fun f cdv A outer s H E hr=> ?_
 have S:=b1t
 have hu:=hr.units
 refine c7 ?_ ?_
 ·exact(p7 (PW.pt (N7 (D6 (B8 (a06 (.inr (.inr (.inl rfl))) rfl M.z_isinstance (g8 0) (V5 rfl M.z_str (by rfl) rfl)))) (D7 (D6 (a2S M0 M0 b7 (N6 N4 rfl M.z_len (by rfl) (g8 0)) (a1l rfl m_LONGEST c_LONGEST)))))) (d0 (d9 a0c)) j8)
 refine d0 ?_
 refine d9 ?_
 refine N6 (b4C rfl) ?_ M.z_all ?_ ?_
 ·exact rfl
 ·rfl
 refine a0x (ys:=["sign"]) (N0:=["thing"]) (fun _ _ h=>h) ?_ ⟨by kernel_rfl,rfl,of_decide_eq_true rfl,of_decide_eq_true rfl,of_decide_eq_true rfl⟩ (EIF.ei (b99 (g8 0))) (fun C fp pins s H=>E6 (i:=1) b3B rfl (Or.inl rfl)) (fun n h=>G3 (i:=1) (Nat.le_of_eq h)) (fun C fp pins s H=>a2w) ?_
 ·exact rfl
 intro C fp pins s H
 exact(b24 M0 M0 d6 (g8 1) d6)
def b3G(D:Df K mg "is_cloth" a6f)(M:MoB K mg){u_LONGEST:AA}{n_LONGEST:Nat}(m_LONGEST:mg "LONGEST"=some u_LONGEST)(c_LONGEST:Y0 K n_LONGEST u_LONGEST=some a1v)(a8P:b2S P w K mg base):a8C P w K mg base:=by
 refine u4 (k:=1) D a74 (fun _ _ _ _ _ _=>el1 (fun _=>rfl)) fun f cdv A outer s H E hr=> ?_
 have S:=a74
 have hu:=hr.units
 refine c7 ?_ ?_
 ·refine p7 (PW.pt (N7 (D6 (B8 (a06 (.inr (.inr (.inr (.inr (.inl rfl))))) rfl M.z_isinstance (g8 0) (V5 rfl M.z_tuple (by rfl) rfl)))) (D7 (D6 (a2S M0 M0 b7 (N6 N4 rfl M.z_len (by rfl) (g8 0)) (a1l rfl m_LONGEST c_LONGEST)))))) ?_ ?_
  ·exact(d0 (d9 a0c))
  exact j8
 refine c7 ?_ ?_
 ·refine p7 ?_ ?_ ?_
  ·refine D6 ?_
   refine B8 ?_
   refine N6 (b4C rfl) ?_ M.z_all ?_ ?_
   ·exact rfl
   ·rfl
   refine a0x (ys:=["row"]) (N0:=["thing"]) (fun _ _ h=>h) ?_ ⟨by kernel_rfl,rfl,of_decide_eq_true rfl,of_decide_eq_true rfl,of_decide_eq_true rfl⟩ ?_ (fun C fp pins s H=>E6 (i:=1) b0l rfl (Or.inl rfl)) (fun n h=>G3 (i:=1) (Nat.le_of_eq h)) (fun C fp pins s H=>a2w) ?_
   ·exact rfl
   ·exact(a1H (g8 0))
   intro C fp pins s H
   exact(m8 a8P hr (by decide) rfl (b6 g9) (a8 (g8 1) c9))
  ·exact(d0 (d9 a0c))
  exact j8
 refine d0 ?_
 refine d9 ?_
 refine N6 (b4C rfl) ?_ M.z_all ?_ ?_
 ·exact rfl
 ·rfl
 refine a0x (ys:=["row"]) (N0:=["thing"]) (fun _ _ h=>h) ?_ ⟨by kernel_rfl,rfl,of_decide_eq_true rfl,of_decide_eq_true rfl,of_decide_eq_true rfl⟩ ?_ (fun C fp pins s H=>E6 (i:=1) b0m rfl (Or.inl rfl)) (fun n h=>G3 (i:=1) (Nat.le_of_eq h)) (fun C fp pins s H=>a2w) ?_
 ·exact rfl
 ·exact(a1H (g8 0))
 intro C fp pins s H
 exact(a17 (r6 hu) (N6 N4 rfl M.z_len (by rfl) (g8 1)) (N6 N4 rfl M.z_len (by rfl) (k7 (g8 0) b7)))
def b0A(D:Df K mg "read_cloth" a3H)(M:MoB K mg)(kb:K.In base){C_NoCloth:AB}(x_NoCloth:XC K mg "NoCloth" C_NoCloth)(a51:a8C P w K mg base):a6w P w K mg base:=by
 refine c0g (k:=2) D a5S (fun _ _ _ _ _ _=>el1 (fun _=>rfl)) fun f cdv A outer s H E hr hx=> ?_
 have S:=a5S
 have hu:=hr.units
 refine a8U ?_ ?_
 ·exact(c1H (D6 (B8 (a06 (.inr (.inr (.inl rfl))) rfl M.z_isinstance (g8 0) (V5 rfl M.z_str (by rfl) rfl)))) (b1V (b28 rfl rfl rfl x_NoCloth.mg (a8z kb x_NoCloth.exc) (a8 d6 c9) (fun pins σ H s a I x h0 hn e=>a7T I x h0 hn e))) (b1W j8))
 refine a8U ?_ ?_
 ·exact(c2q (u0 (i:=1) S.nd (a4q a4l rfl M.z_tuple (by rfl) (b7V (g8 0) d6))))
 refine a8U ?_ ?_
 ·exact(c1H (D6 (B8 (m8 a51 hr (by decide) rfl (b6 g9) (a8 (g8 1) c9)))) (b1V (b28 rfl rfl rfl x_NoCloth.mg (a8z kb x_NoCloth.exc) (a8 d6 c9) (fun pins σ H s a I x h0 hn e=>a7T I x h0 hn e))) (b1W j8))
 exact(b1W (d0 (a0y 1 (pv 1))))
def b3Q(D:Df K mg "plain_at" a6j)(I:Io P w K mg base){C_NoCloth:AB}(x_NoCloth:XC K mg "NoCloth" C_NoCloth)(im_NoCloth_NoCloth:b3g K C_NoCloth C_NoCloth=true)(a3e:a6w P w K mg base):a5Y P w K mg base:=by
 refine u4 (k:=3) D a78 (fun _ _ _ _ _ _=>el2 (fun _ _=>rfl)) fun f cdv A outer s H E hr=> ?_
 have S:=a78
 have hu:=hr.units
 refine c7 ?_ ?_
 ·exact(u0 (i:=2) S.nd (b98 (g8 0) d6 (g8 1)))
 refine c7 ?_ ?_
 ·exact(p7 (p6 a8v (g8 2) b7) (d0 (d9 C4)) j8)
 refine c7 ?_ ?_
 ·refine c0a x_NoCloth (b8h x_NoCloth x_NoCloth im_NoCloth_NoCloth c0q) ?_ ?_
  ·intro Y pn E hx
   exact(b1V (c0b (i:=3) S.nd a3e hr (by decide) rfl hx (b6 g9) (a8 (a1G (g8 0) (Y6 (g7 j6 (g8 1) b7)) (Y6 (g8 2))) c9)))
  intro a Y
  exact(d0 (d9 C4))
 exact(d0 (d9 (y0 (a8 (T4 I.i_Plain hr (by decide) rfl (b6 g9) (a8 (g8 3) c9)) (a8 (g7 j6 (g8 2) b7) c9)))))
def a9E(D:Df K mg "figures_end" a2H)(a2P:a7d P w K mg base):a2q P w K mg base:=by
 refine u4 (k:=1) D a4Z (fun _ _ _ _ _ _=>el2 (fun _ _=>rfl)) fun f cdv A outer s H E hr=> ?_
 have S:=a4Z
 have hu:=hr.units
 exact(d0 (d9 (m8 a2P hr (by decide) rfl (b6 (b6 (b6 (b6 g9)))) (a8 (g8 0) (a8 (g8 1) (a8 d6 (a8 d6 c9)))))))
def b2p(D:Df K mg "number_in" a4T)(M:MoB K mg){u_MOST_FIGURES:AA}{n_MOST_FIGURES:Nat}(m_MOST_FIGURES:mg "MOST_FIGURES"=some u_MOST_FIGURES)(c_MOST_FIGURES:Y0 K n_MOST_FIGURES u_MOST_FIGURES=some a0a)(U6:a2q P w K mg base):a7L P w K mg base:=by
 refine u4 (k:=2) D a66 (fun _ _ _ _ _ _=>el1 (fun _=>rfl)) fun f cdv A outer s H E hr=> ?_
 have S:=a66
 have hu:=hr.units
 refine c7 ?_ ?_
 ·refine p7 (PW.pt (N7 (D6 (a2S M0 M0 b7 (N6 N4 rfl M.z_len (by rfl) (g8 0)) (a1l rfl m_MOST_FIGURES c_MOST_FIGURES))) (D7 (p6 (T5 hu) (m8 U6 hr (by decide) rfl (b6 (b6 g9)) (a8 (g8 0) (a8 b7 c9))) (N6 N4 rfl M.z_len (by rfl) (g8 0)))))) ?_ ?_
  ·exact(d0 (d9 C4))
  exact j8
 exact(c7 (p7 (PW.pt (a8T (p6 (r6 hu) (k7 (g8 0) b7) d6) (a6G (p6 b2u (N6 N4 rfl M.z_len (by rfl) (g8 0)) b7)))) (d0 (d9 C4)) j8) (d0 (d9 (a4q b5J rfl M.z_int (by rfl) (g8 0)))))
def a6V(D:Df K mg "number_between" a0l)(a4o:a7L P w K mg base):a2M P w K mg base:=by
 refine u4 (k:=3) D a2l (fun _ _ _ _ _ _=>el3 (fun _ _ _=>rfl)) fun f cdv A outer s H E hr=> ?_
 have S:=a2l
 have hu:=hr.units
 refine c7 ?_ ?_
 ·exact(u0 (i:=3) S.nd (m8 a4o hr (by decide) rfl (b6 g9) (a8 (g8 0) c9)))
 exact(c7 (p7 (PW.pt (N7 (p6 a0C (g8 3) C4) (D7 (D6 (a2S M0 M0 (g8 1) (g8 3) (g8 2)))))) (d0 (d9 C4)) j8) (d0 (a0y 3 (pv 3))))
def b2q(D:Df K mg "times_end" a4U){u_MOST_TIMES:AA}{n_MOST_TIMES:Nat}(m_MOST_TIMES:mg "MOST_TIMES"=some u_MOST_TIMES)(c_MOST_TIMES:Y0 K n_MOST_TIMES u_MOST_TIMES=some a1s)(U6:a2q P w K mg base)(a0g:a2M P w K mg base):a4b P w K mg base:=by
 refine u4 (k:=4) D a67 (fun _ _ _ _ _ _=>el2 (fun _ _=>rfl)) fun f cdv A outer s H E hr=> ?_
 have S:=a67
 have hu:=hr.units
 refine c7 ?_ ?_
 ·exact(u0 (i:=2) S.nd (m8 U6 hr (by decide) rfl (b6 (b6 g9)) (a8 (g8 0) (a8 (g8 1) c9))))
 refine c7 ?_ ?_
 ·refine p7 (PW.pt (N7 (p6 a0C (m8 a0g hr (by decide) rfl (b6 (b6 (b6 g9))) (a8 (a1G (g8 0) (Y6 (g8 1)) (Y6 (g8 2))) (a8 b7 (a8 (a1l rfl m_MOST_TIMES c_MOST_TIMES) c9)))) C4) (D7 (D6 (B8 (a0h (g8 0) d6 (g8 2))))))) ?_ ?_
  ·exact(d0 (d9 C4))
  exact j8
 exact(d0 (a0y 2 (pv 2)))
def a8k(D:Df K mg "is_colour_at" a1V)(E2:U4 P w K mg base):a1x P w K mg base:=by
 refine u4 (k:=2) D a3X (fun _ _ _ _ _ _=>el2 (fun _ _=>rfl)) fun f cdv A outer s H E hr=> ?_
 have S:=a3X
 have hu:=hr.units
 exact(d0 (d9 (a53 (a17 (r6 hu) (m8 E2 hr (by decide) rfl (b6 (b6 g9)) (a8 (g8 0) (a8 (g8 1) c9))) (g7 j6 (g8 1) b7)) (a54 (a0h (g8 0) d6 (g7 j6 (g8 1) b7))))))
def b5e{k:Nat}(hk0:5<=k){R_dyed_at R_laid_at R_last_part_at R_made_of_parts_at m5 R_parts_at R_repeated_at R_turned_at:List PV->Option g6}(D:Df K mg "dyed_at" a5o)(I:Io P w K mg base)(N5:a1x P w K mg base)(g:S6 P w K mg base k R_dyed_at R_laid_at R_last_part_at R_made_of_parts_at m5 R_parts_at R_repeated_at R_turned_at):u7 P w K mg base "dyed_at" ["text","at","left"] (k+1) (n6 1 (a5g R_dyed_at R_laid_at R_last_part_at R_made_of_parts_at m5 R_parts_at R_repeated_at R_turned_at)):=by
 refine u4 (k:=k) D a6k (fun _ _ _ _ _ _=>el3 (fun _ _ _=>rfl)) fun f cdv A outer s H E hr=> ?_
 have S:=a6k
 have hu:=hr.units
 refine c7 ?_ ?_
 ·refine p7 (PW.pt (N7 (D6 (B8 (m8 N5 hr (by lia) rfl (b6 (b6 g9)) (a8 (g8 0) (a8 (g8 1) c9))))) (D7 (D6 (B8 (m8 N5 hr (by lia) rfl (b6 (b6 g9)) (a8 (g8 0) (a8 (g7 j6 (g8 1) b7) c9)))))))) ?_ ?_
  ·exact(d0 (d9 C4))
  exact j8
 refine c7 ?_ ?_
 ·exact(u0 (i:=3) S.nd (m8 g.d_last_part_at hr (by lia) rfl (b6 (b6 (b6 g9))) (a8 (g8 0) (a8 (g7 j6 (g8 1) b7) (a8 (g8 2) c9)))))
 refine c7 ?_ ?_
 ·exact(p7 (p6 a0C (g8 3) C4) (d0 (d9 C4)) j8)
 exact(d0 (d9 (y0 (a8 (T4 I.i_Dyed hr (by lia) rfl (b6 (b6 (b6 g9))) (a8 (k7 (g8 0) (g8 1)) (a8 (k7 (g8 0) (g7 j6 (g8 1) b7)) (a8 (k7 (g8 3) b7) c9)))) (a8 (k7 (g8 3) b7) c9)))))
def b5h{k:Nat}(hk0:5<=k){R_dyed_at R_laid_at R_last_part_at R_made_of_parts_at m5 R_parts_at R_repeated_at R_turned_at:List PV->Option g6}(D:Df K mg "laid_at" a5p)(M:MoB K mg)(I:Io P w K mg base){u_MOST_PARTS:AA}{n_MOST_PARTS:Nat}(m_MOST_PARTS:mg "MOST_PARTS"=some u_MOST_PARTS)(c_MOST_PARTS:Y0 K n_MOST_PARTS u_MOST_PARTS=some a0b)(g:S6 P w K mg base k R_dyed_at R_laid_at R_last_part_at R_made_of_parts_at m5 R_parts_at R_repeated_at R_turned_at):u7 P w K mg base "laid_at" ["text","word","at","left"] (k+1) (n6 1 (a5h R_dyed_at R_laid_at R_last_part_at R_made_of_parts_at m5 R_parts_at R_repeated_at R_turned_at)):=by
 refine u4 (k:=k) D a6l (fun _ _ _ _ _ _=>el4 (fun _ _ _ _=>rfl)) fun f cdv A outer s H E hr=> ?_
 have S:=a6l
 have hu:=hr.units
 refine c7 ?_ ?_
 ·exact(u0 (i:=4) S.nd (m8 g.d_parts_at hr (by lia) rfl (b6 (b6 (b6 g9))) (a8 (g8 0) (a8 (g8 2) (a8 (g8 3) c9)))))
 refine c7 ?_ ?_
 ·exact(p7 (PW.pt (N7 (p6 a0C (g8 4) C4) (D7 (D6 (B8 (a0h (g8 0) d6 (k7 (g8 4) b7))))))) (d0 (d9 C4)) j8)
 refine c7 ?_ ?_
 ·exact(p7 (D6 (a2S M0 M0 b7 (N6 N4 rfl M.z_len (by rfl) (k7 (g8 4) b7)) (a1l rfl m_MOST_PARTS c_MOST_PARTS))) (d0 (d9 C4)) j8)
 refine c7 ?_ ?_
 ·exact(p7 (p6 (r6 hu) (g8 1) d6) (d0 (d9 (y0 (a8 (T4 I.i_Beside hr (by lia) rfl (b6 g9) (a8 (k7 (g8 4) b7) c9)) (a8 (g7 j6 (k7 (g8 4) b7) b7) c9))))) j8)
 exact(d0 (d9 (y0 (a8 (T4 I.i_Above hr (by lia) rfl (b6 g9) (a8 (k7 (g8 4) b7) c9)) (a8 (g7 j6 (k7 (g8 4) b7) b7) c9)))))
def a8l{k:Nat}(hk0:5<=k){R_dyed_at R_laid_at R_last_part_at R_made_of_parts_at m5 R_parts_at R_repeated_at R_turned_at:List PV->Option g6}(D:Df K mg "last_part_at" Z5)(g:S6 P w K mg base k R_dyed_at R_laid_at R_last_part_at R_made_of_parts_at m5 R_parts_at R_repeated_at R_turned_at):u7 P w K mg base "last_part_at" ["text","at","left"] (k+1) (n6 1 (Y1 R_dyed_at R_laid_at R_last_part_at R_made_of_parts_at m5 R_parts_at R_repeated_at R_turned_at)):=by
 refine u4 (k:=k) D a1b (fun _ _ _ _ _ _=>el3 (fun _ _ _=>rfl)) fun f cdv A outer s H E hr=> ?_
 have S:=a1b
 have hu:=hr.units
 refine c7 ?_ ?_
 ·exact(u0 (i:=3) S.nd (m8 g.d_motif_at hr (by lia) rfl (b6 (b6 (b6 g9))) (a8 (g8 0) (a8 (g8 1) (a8 (g8 2) c9)))))
 exact(c7 (p7 (PW.pt (N7 (p6 a0C (g8 3) C4) (D7 (D6 (B8 (a0h (g8 0) d6 (k7 (g8 3) b7))))))) (d0 (d9 C4)) j8) (d0 (d9 (y0 (a8 (k7 (g8 3) b7) (a8 (g7 j6 (k7 (g8 3) b7) b7) c9))))))
def a5x{k:Nat}(hk0:5<=k){R_dyed_at R_laid_at R_last_part_at R_made_of_parts_at m5 R_parts_at R_repeated_at R_turned_at:List PV->Option g6}(D:Df K mg "made_of_parts_at" P5){u_TURNING:AA}{n_TURNING:Nat}(m_TURNING:mg "TURNING"=some u_TURNING)(c_TURNING:Y0 K n_TURNING u_TURNING=some a22)(g:S6 P w K mg base k R_dyed_at R_laid_at R_last_part_at R_made_of_parts_at m5 R_parts_at R_repeated_at R_turned_at):u7 P w K mg base "made_of_parts_at" ["text","word","at","left"] (k+1) (n6 0 (J8 R_dyed_at R_laid_at R_last_part_at R_made_of_parts_at m5 R_parts_at R_repeated_at R_turned_at)):=by
 refine u4 (k:=k) D T6 (fun _ _ _ _ _ _=>el4 (fun _ _ _ _=>rfl)) fun f cdv A outer s H E hr=> ?_
 have S:=T6
 have hu:=hr.units
 refine c7 ?_ ?_
 ·exact(p7 (PW.pt (N7 (p6 (r6 hu) (g8 1) d6) (D7 (p6 (r6 hu) (g8 1) d6)))) (d0 (d9 (m8 g.d_laid_at hr (by lia) rfl (b6 (b6 (b6 (b6 g9)))) (a8 (g8 0) (a8 (g8 1) (a8 (g8 2) (a8 (g8 3) c9))))))) j8)
 refine c7 ?_ ?_
 ·refine p7 (PW.pt (N7 (p6 (r6 hu) (g8 1) d6) (D7 (p6 (r6 hu) (g8 1) d6)))) ?_ ?_
  ·exact(d0 (d9 (m8 g.d_repeated_at hr (by lia) rfl (b6 (b6 (b6 (b6 g9)))) (a8 (g8 0) (a8 (g8 1) (a8 (g8 2) (a8 (g8 3) c9)))))))
  exact j8
 refine c7 ?_ ?_
 ·exact(p7 (p6 (b6i hu) (g8 1) (a1l rfl m_TURNING c_TURNING)) (d0 (d9 (m8 g.d_turned_at hr (by lia) rfl (b6 (b6 (b6 (b6 g9)))) (a8 (g8 0) (a8 (g8 1) (a8 (g8 2) (a8 (g8 3) c9))))))) j8)
 exact(c7 (p7 (p6 (r6 hu) (g8 1) d6) (d0 (d9 (m8 g.d_dyed_at hr (by lia) rfl (b6 (b6 (b6 g9))) (a8 (g8 0) (a8 (g8 2) (a8 (g8 3) c9)))))) j8) (d0 (d9 C4)))
def b3O{k:Nat}(hk0:5<=k){R_dyed_at R_laid_at R_last_part_at R_made_of_parts_at m5 R_parts_at R_repeated_at R_turned_at:List PV->Option g6}(D:Df K mg "motif_at" a3F)(I:Io P w K mg base)(E2:U4 P w K mg base)(a2O:a7c P w K mg base)(a1F:a5Y P w K mg base)(g:S6 P w K mg base k R_dyed_at R_laid_at R_last_part_at R_made_of_parts_at m5 R_parts_at R_repeated_at R_turned_at):u7 P w K mg base "motif_at" ["text","at","left"] (k+1) (n6 2 (V8 R_dyed_at R_laid_at R_last_part_at R_made_of_parts_at m5 R_parts_at R_repeated_at R_turned_at)):=by
 refine u4 (k:=k) D a45 (fun _ _ _ _ _ _=>el3 (fun _ _ _=>rfl)) fun f cdv A outer s H E hr=> ?_
 have S:=a45
 have hu:=hr.units
 refine c7 ?_ ?_
 ·exact(p7 (p6 (r6 hu) (g8 2) b7) (d0 (d9 C4)) j8)
 refine c7 ?_ ?_
 ·exact(p7 (B8 (a0h (g8 0) d6 (g8 1))) (d0 (d9 (m8 a1F hr (by lia) rfl (b6 (b6 g9)) (a8 (g8 0) (a8 (g8 1) c9))))) j8)
 refine c7 ?_ ?_
 ·exact(u0 (i:=3) S.nd (m8 E2 hr (by lia) rfl (b6 (b6 g9)) (a8 (g8 0) (a8 (g8 1) c9))))
 refine c7 ?_ ?_
 ·exact(u0 (i:=4) S.nd (a1G (g8 0) (Y6 (g8 1)) (Y6 (g8 3))))
 refine c7 ?_ ?_
 ·refine p7 ?_ ?_ ?_
  ·exact(B8 (a0h (g8 0) d6 (g8 3)))
  ·exact(d0 (b4H 4 (d9 (m8 g.d_made_of_parts_at hr (by lia) rfl (b6 (b6 (b6 (b6 g9)))) (a8 (g8 0) (a8 (g8 4) (a8 (g7 j6 (g8 3) b7) (a8 (g7 c02 (g8 2) b7) c9))))))))
  exact j8
 exact(c7 (b4H 4 (p7 (B8 (m8 a2O hr (by lia) rfl (b6 g9) (a8 (g8 4) c9))) (d0 (d9 (y0 (a8 (T4 I.i_Named hr (by lia) rfl (b6 g9) (a8 (g8 4) c9)) (a8 (g8 3) c9))))) j8)) (d0 (d9 C4)))
def b3P{k:Nat}(hk0:5<=k){R_dyed_at R_laid_at R_last_part_at R_made_of_parts_at m5 R_parts_at R_repeated_at R_turned_at:List PV->Option g6}(D:Df K mg "parts_at" a3G)(M:MoB K mg)(g:S6 P w K mg base k R_dyed_at R_laid_at R_last_part_at R_made_of_parts_at m5 R_parts_at R_repeated_at R_turned_at):u7 P w K mg base "parts_at" ["text","at","left"] (k+1) (n6 2 (a29 R_dyed_at R_laid_at R_last_part_at R_made_of_parts_at m5 R_parts_at R_repeated_at R_turned_at)):=by
 refine u4 (k:=k) D a46 (fun _ _ _ _ _ _=>el3 (fun _ _ _=>rfl)) fun f cdv A outer s H E hr=> ?_
 have S:=a46
 have hu:=hr.units
 refine c7 ?_ ?_
 ·exact(u0 (i:=3) S.nd (I0 c9))
 refine d0 ?_
 refine b27 500 PassesOwn.never ?_ ?_
 ·exact(B8 a0c)
 refine c7 ?_ ?_
 ·exact(u0 (i:=4) S.nd (m8 g.d_motif_at hr (by lia) rfl (b6 (b6 (b6 g9))) (a8 (g8 0) (a8 (g8 1) (a8 (g8 2) c9)))))
 refine c7 ?_ ?_
 ·exact(p7 (p6 a0C (g8 4) C4) (d0 (d9 C4)) j8)
 refine c7 ?_ ?_
 ·exact(a7h 3 (pv 3) (k7 (g8 4) b7))
 exact(c7 (p7 (D6 (B8 (a0h (g8 0) d6 (k7 (g8 4) b7)))) (d0 (d9 (y0 (a8 (a4q a4l rfl M.z_tuple (by rfl) (g8 3)) (a8 (k7 (g8 4) b7) c9))))) j8) (d0 (u0 (i:=1) S.nd (g7 j6 (k7 (g8 4) b7) b7))))
def a9G{k:Nat}(hk0:5<=k){R_dyed_at R_laid_at R_last_part_at R_made_of_parts_at m5 R_parts_at R_repeated_at R_turned_at:List PV->Option g6}(D:Df K mg "repeated_at" a0I)(M:MoB K mg)(I:Io P w K mg base)(a0T:a4b P w K mg base)(g:S6 P w K mg base k R_dyed_at R_laid_at R_last_part_at R_made_of_parts_at m5 R_parts_at R_repeated_at R_turned_at):u7 P w K mg base "repeated_at" ["text","word","at","left"] (k+1) (n6 3 (a0v R_dyed_at R_laid_at R_last_part_at R_made_of_parts_at m5 R_parts_at R_repeated_at R_turned_at)):=by
 refine u4 (k:=k) D a10 (fun _ _ _ _ _ _=>el4 (fun _ _ _ _=>rfl)) fun f cdv A outer s H E hr=> ?_
 have S:=a10
 have hu:=hr.units
 refine c7 ?_ ?_
 ·exact(u0 (i:=4) S.nd (m8 a0T hr (by lia) rfl (b6 (b6 g9)) (a8 (g8 0) (a8 (g8 2) c9))))
 refine c7 ?_ ?_
 ·exact(p7 (p6 a0C (g8 4) C4) (d0 (d9 C4)) j8)
 refine c7 ?_ ?_
 ·exact(u0 (i:=5) S.nd (m8 g.d_last_part_at hr (by lia) rfl (b6 (b6 (b6 g9))) (a8 (g8 0) (a8 (g7 j6 (g8 4) b7) (a8 (g8 3) c9)))))
 refine c7 ?_ ?_
 ·exact(p7 (p6 a0C (g8 5) C4) (d0 (d9 C4)) j8)
 refine c7 ?_ ?_
 ·exact(u0 (i:=6) S.nd (a4q b5J rfl M.z_int (by rfl) (a1G (g8 0) (Y6 (g8 2)) (Y6 (g8 4)))))
 refine c7 ?_ ?_
 ·exact(p7 (p6 (r6 hu) (g8 1) d6) (d0 (d9 (y0 (a8 (T4 I.i_Across hr (by lia) rfl (b6 (b6 g9)) (a8 (g8 6) (a8 (k7 (g8 5) b7) c9))) (a8 (k7 (g8 5) b7) c9))))) j8)
 exact(d0 (d9 (y0 (a8 (T4 I.i_Down hr (by lia) rfl (b6 (b6 g9)) (a8 (g8 6) (a8 (k7 (g8 5) b7) c9))) (a8 (k7 (g8 5) b7) c9)))))
def b2r{k:Nat}(hk0:5<=k){R_dyed_at R_laid_at R_last_part_at R_made_of_parts_at m5 R_parts_at R_repeated_at R_turned_at:List PV->Option g6}(D:Df K mg "turned_at" a2k)(I:Io P w K mg base)(g:S6 P w K mg base k R_dyed_at R_laid_at R_last_part_at R_made_of_parts_at m5 R_parts_at R_repeated_at R_turned_at):u7 P w K mg base "turned_at" ["text","word","at","left"] (k+1) (n6 1 (a15 R_dyed_at R_laid_at R_last_part_at R_made_of_parts_at m5 R_parts_at R_repeated_at R_turned_at)):=by
 refine u4 (k:=k) D a3L (fun _ _ _ _ _ _=>el4 (fun _ _ _ _=>rfl)) fun f cdv A outer s H E hr=> ?_
 have S:=a3L
 have hu:=hr.units
 refine c7 ?_ ?_
 ·exact(u0 (i:=4) S.nd (m8 g.d_last_part_at hr (by lia) rfl (b6 (b6 (b6 g9))) (a8 (g8 0) (a8 (g8 2) (a8 (g8 3) c9)))))
 exact(c7 (p7 (p6 a0C (g8 4) C4) (d0 (d9 C4)) j8) (d0 (d9 (y0 (a8 (T4 I.i_Turned hr (by lia) rfl (b6 (b6 g9)) (a8 (g8 1) (a8 (k7 (g8 4) b7) c9))) (a8 (k7 (g8 4) b7) c9))))))
def b3F(D_dyed_at:Df K mg "dyed_at" a5o)(D_laid_at:Df K mg "laid_at" a5p)(D_last_part_at:Df K mg "last_part_at" Z5)(D_made_of_parts_at:Df K mg "made_of_parts_at" P5)(a26:Df K mg "motif_at" a3F)(D_parts_at:Df K mg "parts_at" a3G)(D_repeated_at:Df K mg "repeated_at" a0I)(D_turned_at:Df K mg "turned_at" a2k)(M:MoB K mg)(I:Io P w K mg base){u_MOST_PARTS:AA}{n_MOST_PARTS:Nat}(m_MOST_PARTS:mg "MOST_PARTS"=some u_MOST_PARTS)(c_MOST_PARTS:Y0 K n_MOST_PARTS u_MOST_PARTS=some a0b){u_TURNING:AA}{n_TURNING:Nat}(m_TURNING:mg "TURNING"=some u_TURNING)(c_TURNING:Y0 K n_TURNING u_TURNING=some a22)(N5:a1x P w K mg base)(E2:U4 P w K mg base)(a2O:a7c P w K mg base)(a1F:a5Y P w K mg base)(a0T:a4b P w K mg base):∀n:Nat,S6 P w K mg base (5+n) (a6b n) (a6c n) (V4 n) (N2 n) (X0 n) (a4y n) (a1N n) (a3p n):=by
 intro n
 induction n with
 |zero=>exact⟨u4 (k:=4) D_dyed_at a6k (fun _ _ _ _ _ _=>el3 (fun _ _ _=>rfl)) fun f cdv A outer s H E hr=>z8,u4 (k:=4) D_laid_at a6l (fun _ _ _ _ _ _=>el4 (fun _ _ _ _=>rfl)) fun f cdv A outer s H E hr=>z8,u4 (k:=4) D_last_part_at a1b (fun _ _ _ _ _ _=>el3 (fun _ _ _=>rfl)) fun f cdv A outer s H E hr=>z8,u4 (k:=4) D_made_of_parts_at T6 (fun _ _ _ _ _ _=>el4 (fun _ _ _ _=>rfl)) fun f cdv A outer s H E hr=>z8,u4 (k:=4) a26 a45 (fun _ _ _ _ _ _=>el3 (fun _ _ _=>rfl)) fun f cdv A outer s H E hr=>z8,u4 (k:=4) D_parts_at a46 (fun _ _ _ _ _ _=>el3 (fun _ _ _=>rfl)) fun f cdv A outer s H E hr=>z8,u4 (k:=4) D_repeated_at a10 (fun _ _ _ _ _ _=>el4 (fun _ _ _ _=>rfl)) fun f cdv A outer s H E hr=>z8,u4 (k:=4) D_turned_at a3L (fun _ _ _ _ _ _=>el4 (fun _ _ _ _=>rfl)) fun f cdv A outer s H E hr=>z8⟩
 |succ n ih=>
  exact⟨b5e P w base (Nat.le_add_right _ _) D_dyed_at I N5 ih,b5h P w base (Nat.le_add_right _ _) D_laid_at M I m_MOST_PARTS c_MOST_PARTS ih,a8l P w base (Nat.le_add_right _ _) D_last_part_at ih,a5x P w base (Nat.le_add_right _ _) D_made_of_parts_at m_TURNING c_TURNING ih,b3O P w base (Nat.le_add_right _ _) a26 I E2 a2O a1F ih,b3P P w base (Nat.le_add_right _ _) D_parts_at M ih,a9G P w base (Nat.le_add_right _ _) D_repeated_at M I a0T ih,b2r P w base (Nat.le_add_right _ _) D_turned_at I ih⟩
def b0B(D:Df K mg "read_motif" a3I)(M:MoB K mg){u_DEEPEST:AA}{n_DEEPEST:Nat}(m_DEEPEST:mg "DEEPEST"=some u_DEEPEST)(c_DEEPEST:Y0 K n_DEEPEST u_DEEPEST=some a5r)(d_motif_at:b4s P w K mg base):a6x P w K mg base:=by
 refine u4 (k:=45) D a5T (fun _ _ _ _ _ _=>el1 (fun _=>rfl)) fun f cdv A outer s H E hr=> ?_
 have S:=a5T
 have hu:=hr.units
 refine c7 ?_ ?_
 ·exact(p7 (D6 (B8 (a06 (.inr (.inr (.inl rfl))) rfl M.z_isinstance (g8 0) (V5 rfl M.z_str (by rfl) rfl)))) (d0 (d9 C4)) j8)
 refine c7 ?_ ?_
 ·exact(u0 (i:=1) S.nd (m8 d_motif_at hr (by decide) rfl (b6 (b6 (b6 g9))) (a8 (g8 0) (a8 b7 (a8 (a1l rfl m_DEEPEST c_DEEPEST) c9)))))
 exact(c7 (p7 (PW.pt (N7 (p6 a0C (g8 1) C4) (D7 (p6 (T5 hu) (k7 (g8 1) b7) (N6 N4 rfl M.z_len (by rfl) (g8 0)))))) (d0 (d9 C4)) j8) (d0 (d9 (k7 (g8 1) b7))))
def b2l(D:Df K mg "_law_inner" a4P):a0N P w K mg base:=by
 refine u4 (k:=0) D a62 (fun _ _ _ _ _ _=>el1 (fun _=>rfl)) fun f cdv A outer s H E hr=> ?_
 have S:=a62
 have hu:=hr.units
 refine c7 ?_ ?_
 ·exact(p7 (PW.pt (N7 (p6 (r6 hu) (k7 (g8 0) b7) d6) (D7 (p6 (r6 hu) (k7 (g8 0) b7) d6)))) (d0 (d9 (I0 c9))) j8)
 exact(c7 (p7 (PW.pt (N7 (p6 (r6 hu) (k7 (g8 0) b7) d6) (D7 (p6 (r6 hu) (k7 (g8 0) b7) d6)))) (d0 (d9 (k7 (g8 0) b7))) j8) (d0 (d9 (I0 (a8 (k7 (g8 0) (b7U b7)) c9)))))
def a8m{k:Nat}(hk0:1<=k){E7:List PV->Option g6}(D:Df K mg "_law_names_in" Z6)(L1:a0N P w K mg base)(R6:u7 P w K mg base "_law_names_in" ["_law_tree"] k E7):u7 P w K mg base "_law_names_in" ["_law_tree"] (k+1) (n6 2 (N3 E7)):=by
 refine u4 (k:=k) D a1c (fun _ _ _ _ _ _=>el1 (fun _=>rfl)) fun f cdv A outer s H E hr=> ?_
 have S:=a1c
 have hu:=hr.units
 refine c7 ?_ ?_
 ·exact(p7 (p6 (r6 hu) (k7 (g8 0) b7) d6) (d0 (d9 (I0 (a8 (k7 (g8 0) b7) c9)))) j8)
 refine c7 ?_ ?_
 ·exact(u0 (i:=1) S.nd (I0 c9) rfl (Or.inr rfl))
 refine c7 ?_ ?_
 ·refine b4G PassesOwn.never ?_ ?_ ?_ (a0o 2) ?_
  ·exact rfl
  ·exact(m8 L1 hr (by lia) rfl (b6 g9) (a8 (g8 0) c9))
  ·exact(E6 (i:=2) S.nd rfl (Or.inl rfl))
  refine d0 ?_
  refine u0 (i:=1) ?_ ?_ ?_ (Or.inr rfl)
  ·exact S.nd
  ·refine g7 j6 (g8 1) ?_
   refine a0x (ys:=["_law_name"]) (N0:=["_law_tree","_law_found","_law_part"]) (fun _ _ h=>h) ?_ ⟨by kernel_rfl,rfl,of_decide_eq_true rfl,of_decide_eq_true rfl,of_decide_eq_true rfl⟩ ?_ (fun C fp pins s H=>E6 (i:=3) a6T rfl (Or.inl rfl)) (fun n h=>G3 (i:=3) (Nat.le_of_eq h)) ?_ (fun C fp pins s H=>(g8 3))
   ·exact rfl
   ·exact(a1H (m8 R6 hr (by lia) rfl (b6 g9) (a8 (g8 2) c9)))
   intro C fp pins s H
   exact(b7R (p6 (a9I hu) (g8 3) (g8 1)))
  exact rfl
 exact(d0 (a0y 1 (pv 1)))
def a7w(X4:Df K mg "_law_names_in" Z6)(L1:a0N P w K mg base):∀n:Nat,u7 P w K mg base "_law_names_in" ["_law_tree"] (1+n) (G2 n):=by
 intro n
 induction n with
 |zero=>exact u4 (k:=0) X4 a1c (fun _ _ _ _ _ _=>el1 (fun _=>rfl)) fun f cdv A outer s H E hr=>z8
 |succ n ih=>
  exact a8m P w base (Nat.le_add_right _ _) X4 L1 ih
def b3H{k:Nat}(hk0:1<=k){a0f:List PV->Option g6}(D:Df K mg "_law_deep" a3A)(M:MoB K mg)(L1:a0N P w K mg base)(a1D:u7 P w K mg base "_law_deep" ["_law_tree"] k a0f):u7 P w K mg base "_law_deep" ["_law_tree"] (k+1) (n6 0 (a8M a0f)):=by
 refine u4 (k:=k) D a40 (fun _ _ _ _ _ _=>el1 (fun _=>rfl)) fun f cdv A outer s H E hr=> ?_
 have S:=a40
 have hu:=hr.units
 refine d0 ?_
 refine d9 ?_
 refine g7 j6 ?_ ?_
 ·exact b7
 refine b5M ?_ ?_ M.z_max ?_
 ·exact rfl
 ·exact rfl
 refine a0x (ys:=["_law_part"]) (N0:=["_law_tree"]) (fun _ _ h=>h) ?_ ⟨by kernel_rfl,rfl,of_decide_eq_true rfl,of_decide_eq_true rfl,of_decide_eq_true rfl⟩ ?_ (fun C fp pins s H=>E6 (i:=1) b0n rfl (Or.inl rfl)) (fun n h=>G3 (i:=1) (Nat.le_of_eq h)) (fun C fp pins s H=>a2w) ?_
 ·exact rfl
 ·exact(a1H (m8 L1 hr (by lia) rfl (b6 g9) (a8 (g8 0) c9)))
 intro C fp pins s H
 exact(m8 a1D hr (by lia) rfl (b6 g9) (a8 (g8 1) c9))
def b2d(a23:Df K mg "_law_deep" a3A)(M:MoB K mg)(L1:a0N P w K mg base):∀n:Nat,u7 P w K mg base "_law_deep" ["_law_tree"] (1+n) (W9 n):=by
 intro n
 induction n with
 |zero=>exact u4 (k:=0) a23 a40 (fun _ _ _ _ _ _=>el1 (fun _=>rfl)) fun f cdv A outer s H E hr=>z8
 |succ n ih=>
  exact b3H P w base (Nat.le_add_right _ _) a23 M L1 ih
def b7d{k:Nat}(hk0:1<=k){X7:List PV->Option g6}(D:Df K mg "_law_is" a60)(M:MoB K mg)(O:Oc K mg a)(a0Q:u7 P w K mg base "_law_is" ["_law_found","_law_tree"] k X7):u7 P w K mg base "_law_is" ["_law_found","_law_tree"] (k+1) (n6 4 (a4h X7)):=by
 refine u4 (k:=k) D a7C (fun _ _ _ _ _ _=>el2 (fun _ _=>rfl)) fun f cdv A outer s H E hr=> ?_
 have S:=a7C
 have hu:=hr.units
 refine c7 ?_ ?_
 ·exact(u0 (i:=2) S.nd (k7 (g8 1) b7))
 refine c7 ?_ ?_
 ·exact(p7 (D6 (B8 (a3g (cV:= .ref _) O.iso_Motif (fun u h=>h) rfl M.z_isinstance (g8 0) (a0D rfl O.mg_Motif rfl)))) (d0 (d9 a0c)) j8)
 refine c7 ?_ ?_
 ·refine p7 ?_ ?_ ?_
  ·exact(p6 (r6 hu) (g8 2) d6)
  ·refine c7 ?_ ?_
   ·refine p7 (PW.pt (N7 (D6 (B8 (a3g (cV:= .ref _) O.iso_Plain (fun u h=>h) rfl M.z_isinstance (g8 0) (a0D rfl O.mg_Plain rfl)))) (D7 (D6 (B8 (a06 (.inr (.inr (.inr (.inr (.inl rfl))))) rfl M.z_isinstance (A4 O.fld_rows (g8 0)) (V5 rfl M.z_tuple (by rfl) rfl))))))) ?_ ?_
    ·exact(d0 (d9 a0c))
    exact j8
   exact(d0 (d9 (a17 (r6 hu) (A4 O.fld_rows (g8 0)) (k7 (g8 1) b7))))
  exact j8
 refine c7 ?_ ?_
 ·exact(p7 (p6 (r6 hu) (g8 2) d6) (d0 (d9 (a53 (a3g (cV:= .ref _) O.iso_Named (fun u h=>h) rfl M.z_isinstance (g8 0) (a0D rfl O.mg_Named rfl)) (a54 (a17 (r6 hu) (A4 O.fld_name (g8 0)) (k7 (g8 1) b7)))))) j8)
 refine c7 ?_ ?_
 ·refine p7 (PW.pt (N7 (p6 (r6 hu) (g8 2) d6) (D7 (p6 (r6 hu) (g8 2) d6)))) ?_ ?_
  ·refine c7 ?_ ?_
   ·exact(u0 (i:=3) S.nd (I0 (a8 (a3g (cV:= .ref _) O.iso_Beside (fun u h=>h) rfl M.z_isinstance (g8 0) (a0D rfl O.mg_Beside rfl)) (a8 (a3g (cV:= .ref _) O.iso_Above (fun u h=>h) rfl M.z_isinstance (g8 0) (a0D rfl O.mg_Above rfl)) c9))))
   refine c7 ?_ ?_
   ·exact(p7 (p6 (T5 hu) (g8 3) (I0 (a8 (a17 (r6 hu) (g8 2) d6) (a8 (a17 (r6 hu) (g8 2) d6) c9)))) (d0 (d9 a0c)) j8)
   refine c7 ?_ ?_
   ·refine p7 (PW.pt (N7 (D6 (B8 (a06 (.inr (.inr (.inr (.inr (.inl rfl))))) rfl M.z_isinstance (A4 O.fld_parts (g8 0)) (V5 rfl M.z_tuple (by rfl) rfl)))) (D7 (p6 (T5 hu) (N6 N4 rfl M.z_len (by rfl) (A4 O.fld_parts (g8 0))) (N6 N4 rfl M.z_len (by rfl) (k7 (g8 1) b7)))))) ?_ ?_
    ·exact(d0 (d9 a0c))
    exact j8
   refine c7 ?_ ?_
   ·refine b7W PassesOwn.never ?_ ?_ M.z_zip ?_ ?_ (b9J [4,5]) ?_
    ·exact rfl
    ·exact rfl
    ·exact(a8 (A4 O.fld_parts (g8 0)) (a8 (k7 (g8 1) b7) c9))
    ·exact(c3k rfl (b3U (E6 (i:=4) S.nd rfl (Or.inl rfl)) (b3U (E6 (i:=5) S.nd rfl (Or.inl rfl)) c09)))
    exact(d0 (p7 (D6 (B8 (m8 a0Q hr (by lia) rfl (b6 (b6 g9)) (a8 (g8 4) (a8 (g8 5) c9))))) (d0 (d9 a0c)) j8))
   exact(d0 (d9 a0c))
  exact j8
 refine c7 ?_ ?_
 ·refine p7 ?_ ?_ ?_
  ·exact(p6 (r6 hu) (g8 2) d6)
  ·refine c7 ?_ ?_
   ·exact(p7 (PW.pt (N7 (D6 (B8 (a3g (cV:= .ref _) O.iso_Turned (fun u h=>h) rfl M.z_isinstance (g8 0) (a0D rfl O.mg_Turned rfl)))) (D7 (p6 (T5 hu) (A4 O.fld_way (g8 0)) (k7 (g8 1) b7))))) (d0 (d9 a0c)) j8)
   exact(d0 (d9 (m8 a0Q hr (by lia) rfl (b6 (b6 g9)) (a8 (A4 O.fld_part (g8 0)) (a8 (k7 (g8 1) b7) c9)))))
  exact j8
 refine c7 ?_ ?_
 ·refine p7 ?_ ?_ ?_
  ·exact(p6 (r6 hu) (g8 2) d6)
  ·refine c7 ?_ ?_
   ·exact(p7 (D6 (B8 (a3g (cV:= .ref _) O.iso_Dyed (fun u h=>h) rfl M.z_isinstance (g8 0) (a0D rfl O.mg_Dyed rfl)))) (d0 (d9 a0c)) j8)
   refine c7 ?_ ?_
   ·exact(p7 (PW.pt (N7 (p6 (T5 hu) (A4 O.fld_one (g8 0)) (k7 (g8 1) b7)) (D7 (p6 (T5 hu) (A4 O.fld_other (g8 0)) (k7 (g8 1) b7))))) (d0 (d9 a0c)) j8)
   exact(d0 (d9 (m8 a0Q hr (by lia) rfl (b6 (b6 g9)) (a8 (A4 O.fld_part (g8 0)) (a8 (k7 (g8 1) b7) c9)))))
  exact j8
 refine c7 ?_ ?_
 ·exact(u0 (i:=3) S.nd (I0 (a8 (a3g (cV:= .ref _) O.iso_Across (fun u h=>h) rfl M.z_isinstance (g8 0) (a0D rfl O.mg_Across rfl)) (a8 (a3g (cV:= .ref _) O.iso_Down (fun u h=>h) rfl M.z_isinstance (g8 0) (a0D rfl O.mg_Down rfl)) c9))))
 refine c7 ?_ ?_
 ·refine p7 (PW.pt (N7 (p6 (T5 hu) (g8 3) (I0 (a8 (a17 (r6 hu) (g8 2) d6) (a8 (a17 (r6 hu) (g8 2) d6) c9)))) (D7 (B8 (a06 (.inr (.inl rfl)) rfl M.z_isinstance (A4 O.fld_many (g8 0)) (V5 rfl M.z_bool (by rfl) rfl)))))) ?_ ?_
  ·exact(d0 (d9 a0c))
  exact j8
 exact(d0 (d9 (a53 (a17 (r6 hu) (A4 O.fld_many (g8 0)) (k7 (g8 1) b7)) (a54 (m8 a0Q hr (by lia) rfl (b6 (b6 g9)) (a8 (A4 O.fld_part (g8 0)) (a8 (k7 (g8 1) b7) c9)))))))
def b5d(a6s:Df K mg "_law_is" a60)(M:MoB K mg)(O:Oc K mg a):∀n:Nat,u7 P w K mg base "_law_is" ["_law_found","_law_tree"] (1+n) (a7m n):=by
 intro n
 induction n with
 |zero=>exact u4 (k:=0) a6s a7C (fun _ _ _ _ _ _=>el2 (fun _ _=>rfl)) fun f cdv A outer s H E hr=>z8
 |succ n ih=>
  exact b7d P w base a (Nat.le_add_right _ _) a6s M O ih
def a9A(D:Dm K "inner" "Motif.inner" a2F a.f_Motif_inner):U3 P w K mg base a:=by
 refine B0 (k:=0) D a4X (fun _ _ _ _ _ _=>el1 (fun _=>rfl)) fun cdv A outer s H E hr=> ?_
 have S:=a4X
 have hu:=hr.units
 exact(d0 (d9 (y0 c9)))
def a8i(D:Dm K "inner" "Beside.inner" a1T a.f_Beside_inner)(O:Oc K mg a):R3 P w K mg base a:=by
 refine B0 (k:=0) D a3V (fun _ _ _ _ _ _=>el1 (fun _=>rfl)) fun cdv A outer s H E hr=> ?_
 have S:=a3V
 have hu:=hr.units
 exact(d0 (d9 (A4 O.fld_parts (g8 0))))
def a9x(D:Dm K "inner" "Above.inner" a2E a.f_Above_inner)(O:Oc K mg a):U2 P w K mg base a:=by
 refine B0 (k:=0) D a4W (fun _ _ _ _ _ _=>el1 (fun _=>rfl)) fun cdv A outer s H E hr=> ?_
 have S:=a4W
 have hu:=hr.units
 exact(d0 (d9 (A4 O.fld_parts (g8 0))))
def a8h(D:Dm K "inner" "Across.inner" a1S a.f_Across_inner)(O:Oc K mg a):R1 P w K mg base a:=by
 refine B0 (k:=0) D a3U (fun _ _ _ _ _ _=>el1 (fun _=>rfl)) fun cdv A outer s H E hr=> ?_
 have S:=a3U
 have hu:=hr.units
 exact(d0 (d9 (y0 (a8 (A4 O.fld_part (g8 0)) c9))))
def b0u(D:Dm K "inner" "Down.inner" a3w a.f_Down_inner)(O:Oc K mg a):X8 P w K mg base a:=by
 refine B0 (k:=0) D a5N (fun _ _ _ _ _ _=>el1 (fun _=>rfl)) fun cdv A outer s H E hr=> ?_
 have S:=a5N
 have hu:=hr.units
 exact(d0 (d9 (y0 (a8 (A4 O.fld_part (g8 0)) c9))))
def a8j(D:Dm K "inner" "Turned.inner" a1U a.f_Turned_inner)(O:Oc K mg a):R4 P w K mg base a:=by
 refine B0 (k:=0) D a3W (fun _ _ _ _ _ _=>el1 (fun _=>rfl)) fun cdv A outer s H E hr=> ?_
 have S:=a3W
 have hu:=hr.units
 exact(d0 (d9 (y0 (a8 (A4 O.fld_part (g8 0)) c9))))
def b0v(D:Dm K "inner" "Dyed.inner" a3x a.f_Dyed_inner)(O:Oc K mg a):X9 P w K mg base a:=by
 refine B0 (k:=0) D a5O (fun _ _ _ _ _ _=>el1 (fun _=>rfl)) fun cdv A outer s H E hr=> ?_
 have S:=a5O
 have hu:=hr.units
 exact(d0 (d9 (y0 (a8 (A4 O.fld_part (g8 0)) c9))))
def a9C(D:Dm K "names" "Named.names" a2G a.f_Named_names)(O:Oc K mg a):a0t P w K mg base a:=by
 refine B0 (k:=0) D a4Y (fun _ _ _ _ _ _=>el1 (fun _=>rfl)) fun cdv A outer s H E hr=> ?_
 have S:=a4Y
 have hu:=hr.units
 exact(d0 (d9 (I0 (a8 (A4 O.fld_name (g8 0)) c9))))
def a9B{k:Nat}(hk0:1<=k){A0:List PV->Option g6}(D:Dm K "names" "Motif.names" a0G a.f_Motif_names)(M:MoB K mg)(O:Oc K mg a)(B4:U3 P w K mg base a)(C7:R3 P w K mg base a)(D9:U2 P w K mg base a)(C6:R1 P w K mg base a)(G7:X8 P w K mg base a)(C8:R4 P w K mg base a)(G8:X9 P w K mg base a)(J3:a0t P w K mg base a)(n8:D0 P w K mg base a.f_Motif_names ["self"] k A0):D0 P w K mg base a.f_Motif_names ["self"] (k+1) (n6 2 (U5 A0)):=by
 refine B0 (k:=k) D a1Y (fun _ _ _ _ _ _=>el1 (fun _=>rfl)) fun cdv A outer s H E hr=> ?_
 have S:=a1Y
 have hu:=hr.units
 refine c7 ?_ ?_
 ·exact(u0 (i:=1) S.nd (I0 c9))
 refine c7 ?_ ?_
 ·refine b4G PassesOwn.never ?_ ?_ ?_ (a0o 2) ?_
  ·exact rfl
  ·exact(L3 (b5 B4 O.kc_Plain O.fi_Plain_inner (by lia) rfl (b5 B4 O.kc_Named O.fi_Named_inner (by lia) rfl (b5 C7 O.kc_Beside O.fi_Beside_inner (by lia) rfl (b5 D9 O.kc_Above O.fi_Above_inner (by lia) rfl (b5 C6 O.kc_Across O.fi_Across_inner (by lia) rfl (b5 G7 O.kc_Down O.fi_Down_inner (by lia) rfl (b5 C8 O.kc_Turned O.fi_Turned_inner (by lia) rfl (b5 G8 O.kc_Dyed O.fi_Dyed_inner (by lia) rfl B2)))))))) hr (g8 0))
  ·exact(E6 (i:=2) S.nd rfl (Or.inl rfl))
  refine d0 ?_
  refine b6H 1 (pv 1) ?_
  exact(L3 (b5 n8 O.kc_Plain O.fi_Plain_names (by lia) rfl (b5 J3 O.kc_Named O.fi_Named_names (by lia) rfl (b5 n8 O.kc_Beside O.fi_Beside_names (by lia) rfl (b5 n8 O.kc_Above O.fi_Above_names (by lia) rfl (b5 n8 O.kc_Across O.fi_Across_names (by lia) rfl (b5 n8 O.kc_Down O.fi_Down_names (by lia) rfl (b5 n8 O.kc_Turned O.fi_Turned_names (by lia) rfl (b5 n8 O.kc_Dyed O.fi_Dyed_names (by lia) rfl B2)))))))) hr (g8 2))
 exact(d0 (d9 (b25 rfl rfl M.z_sorted rfl M.z_set (g8 1))))
def a8g(a0r:Dm K "names" "Motif.names" a0G a.f_Motif_names)(M:MoB K mg)(O:Oc K mg a)(B4:U3 P w K mg base a)(C7:R3 P w K mg base a)(D9:U2 P w K mg base a)(C6:R1 P w K mg base a)(G7:X8 P w K mg base a)(C8:R4 P w K mg base a)(G8:X9 P w K mg base a)(J3:a0t P w K mg base a):∀n:Nat,D0 P w K mg base a.f_Motif_names ["self"] (1+n) (y3 n):=by
 intro n
 induction n with
 |zero=>exact B0 (k:=0) a0r a1Y (fun _ _ _ _ _ _=>el1 (fun _=>rfl)) fun cdv A outer s H E hr=>z8
 |succ n ih=>
  exact a9B P w base a (Nat.le_add_right _ _) a0r M O B4 C7 D9 C6 G7 C8 G8 J3 ih
def a9H(D:Df K mg "shown_cloth" a2J):a5D P w K mg base:=by
 refine u4 (k:=0) D a47 (fun _ _ _ _ _ _=>el1 (fun _=>rfl)) fun f cdv A outer s H E hr=> ?_
 have S:=a47
 have hu:=hr.units
 exact(d0 (d9 (a8p d6 (g8 0))))
def b0y(D:Dm K "text" "Plain.text" a3z a.f_Plain_text)(O:Oc K mg a)(a2v:a5D P w K mg base):L0 P w K mg base a:=by
 refine B0 (k:=1) D a5Q (fun _ _ _ _ _ _=>el1 (fun _=>rfl)) fun cdv A outer s H E hr=> ?_
 have S:=a5Q
 have hu:=hr.units
 exact(d0 (d9 (g7 j6 (g7 j6 d6 (m8 a2v hr (by decide) rfl (b6 g9) (a8 (A4 O.fld_rows (g8 0)) c9))) d6)))
def b0x(D:Dm K "text" "Named.text" a3y a.f_Named_text)(O:Oc K mg a):K9 P w K mg base a:=by
 refine B0 (k:=0) D a5P (fun _ _ _ _ _ _=>el1 (fun _=>rfl)) fun cdv A outer s H E hr=> ?_
 have S:=a5P
 have hu:=hr.units
 exact(d0 (d9 (A4 O.fld_name (g8 0))))
def b0t{k:Nat}(hk0:2<=k){j4 i5 i6 l6 l7 i7 R_written_parts:List PV->Option g6}(D:Dm K "text" "Above.text" a1q a.f_Above_text)(O:Oc K mg a)(g:K8 P w K mg base a k j4 i5 i6 l6 l7 i7 R_written_parts):D0 P w K mg base a.f_Above_text ["self"] (k+1) (n6 0 (a28 j4 i5 i6 l6 l7 i7 R_written_parts)):=by
 refine B0 (k:=k) D a2K (fun _ _ _ _ _ _=>el1 (fun _=>rfl)) fun cdv A outer s H E hr=> ?_
 have S:=a2K
 have hu:=hr.units
 exact(d0 (d9 (g7 j6 (g7 j6 d6 (m8 g.d_written_parts hr (by lia) rfl (b6 g9) (a8 (A4 O.fld_parts (g8 0)) c9))) d6)))
def a9y{k:Nat}(hk0:2<=k){j4 i5 i6 l6 l7 i7 R_written_parts:List PV->Option g6}(D:Dm K "text" "Across.text" a0E a.f_Across_text)(M:MoB K mg)(O:Oc K mg a)(u9:L0 P w K mg base a)(u8:K9 P w K mg base a)(g:K8 P w K mg base a k j4 i5 i6 l6 l7 i7 R_written_parts):D0 P w K mg base a.f_Across_text ["self"] (k+1) (n6 0 (a2r j4 i5 i6 l6 l7 i7 R_written_parts)):=by
 refine B0 (k:=k) D a1W (fun _ _ _ _ _ _=>el1 (fun _=>rfl)) fun cdv A outer s H E hr=> ?_
 have S:=a1W
 have hu:=hr.units
 refine d0 ?_
 refine d9 ?_
 refine g7 j6 ?_ ?_
 ·refine g7 j6 ?_ ?_
  ·exact(g7 j6 (g7 j6 d6 (a4q b4D rfl M.z_str (by rfl) (A4 O.fld_many (g8 0)))) d6)
  refine L3 (b5 u9 O.kc_Plain O.fi_Plain_text (by lia) rfl (b5 u8 O.kc_Named O.fi_Named_text (by lia) rfl (b5 g.d_Beside_text O.kc_Beside O.fi_Beside_text (by lia) rfl (b5 g.d_Above_text O.kc_Above O.fi_Above_text (by lia) rfl (b5 g.d_Across_text O.kc_Across O.fi_Across_text (by lia) rfl (b5 g.d_Down_text O.kc_Down O.fi_Down_text (by lia) rfl (b5 g.d_Turned_text O.kc_Turned O.fi_Turned_text (by lia) rfl (b5 g.d_Dyed_text O.kc_Dyed O.fi_Dyed_text (by lia) rfl B2)))))))) hr ?_
  exact(A4 O.fld_part (g8 0))
 exact d6
def a9z{k:Nat}(hk0:2<=k){j4 i5 i6 l6 l7 i7 R_written_parts:List PV->Option g6}(D:Dm K "text" "Beside.text" a0F a.f_Beside_text)(O:Oc K mg a)(g:K8 P w K mg base a k j4 i5 i6 l6 l7 i7 R_written_parts):D0 P w K mg base a.f_Beside_text ["self"] (k+1) (n6 0 (a2s j4 i5 i6 l6 l7 i7 R_written_parts)):=by
 refine B0 (k:=k) D a1X (fun _ _ _ _ _ _=>el1 (fun _=>rfl)) fun cdv A outer s H E hr=> ?_
 have S:=a1X
 have hu:=hr.units
 exact(d0 (d9 (g7 j6 (g7 j6 d6 (m8 g.d_written_parts hr (by lia) rfl (b6 g9) (a8 (A4 O.fld_parts (g8 0)) c9))) d6)))
def b2h{k:Nat}(hk0:2<=k){j4 i5 i6 l6 l7 i7 R_written_parts:List PV->Option g6}(D:Dm K "text" "Down.text" a2i a.f_Down_text)(M:MoB K mg)(O:Oc K mg a)(u9:L0 P w K mg base a)(u8:K9 P w K mg base a)(g:K8 P w K mg base a k j4 i5 i6 l6 l7 i7 R_written_parts):D0 P w K mg base a.f_Down_text ["self"] (k+1) (n6 0 (a4d j4 i5 i6 l6 l7 i7 R_written_parts)):=by
 refine B0 (k:=k) D a3J (fun _ _ _ _ _ _=>el1 (fun _=>rfl)) fun cdv A outer s H E hr=> ?_
 have S:=a3J
 have hu:=hr.units
 refine d0 ?_
 refine d9 ?_
 refine g7 j6 ?_ ?_
 ·refine g7 j6 ?_ ?_
  ·exact(g7 j6 (g7 j6 d6 (a4q b4D rfl M.z_str (by rfl) (A4 O.fld_many (g8 0)))) d6)
  refine L3 (b5 u9 O.kc_Plain O.fi_Plain_text (by lia) rfl (b5 u8 O.kc_Named O.fi_Named_text (by lia) rfl (b5 g.d_Beside_text O.kc_Beside O.fi_Beside_text (by lia) rfl (b5 g.d_Above_text O.kc_Above O.fi_Above_text (by lia) rfl (b5 g.d_Across_text O.kc_Across O.fi_Across_text (by lia) rfl (b5 g.d_Down_text O.kc_Down O.fi_Down_text (by lia) rfl (b5 g.d_Turned_text O.kc_Turned O.fi_Turned_text (by lia) rfl (b5 g.d_Dyed_text O.kc_Dyed O.fi_Dyed_text (by lia) rfl B2)))))))) hr ?_
  exact(A4 O.fld_part (g8 0))
 exact d6
def b2j{k:Nat}(hk0:2<=k){j4 i5 i6 l6 l7 i7 R_written_parts:List PV->Option g6}(D:Dm K "text" "Dyed.text" a2j a.f_Dyed_text)(O:Oc K mg a)(u9:L0 P w K mg base a)(u8:K9 P w K mg base a)(g:K8 P w K mg base a k j4 i5 i6 l6 l7 i7 R_written_parts):D0 P w K mg base a.f_Dyed_text ["self"] (k+1) (n6 0 (a4e j4 i5 i6 l6 l7 i7 R_written_parts)):=by
 refine B0 (k:=k) D a3K (fun _ _ _ _ _ _=>el1 (fun _=>rfl)) fun cdv A outer s H E hr=> ?_
 have S:=a3K
 have hu:=hr.units
 refine d0 ?_
 refine d9 ?_
 refine g7 j6 ?_ ?_
 ·refine g7 j6 ?_ ?_
  ·exact(g7 j6 (g7 j6 (g7 j6 (g7 j6 d6 (A4 O.fld_one (g8 0))) d6) (A4 O.fld_other (g8 0))) d6)
  refine L3 (b5 u9 O.kc_Plain O.fi_Plain_text (by lia) rfl (b5 u8 O.kc_Named O.fi_Named_text (by lia) rfl (b5 g.d_Beside_text O.kc_Beside O.fi_Beside_text (by lia) rfl (b5 g.d_Above_text O.kc_Above O.fi_Above_text (by lia) rfl (b5 g.d_Across_text O.kc_Across O.fi_Across_text (by lia) rfl (b5 g.d_Down_text O.kc_Down O.fi_Down_text (by lia) rfl (b5 g.d_Turned_text O.kc_Turned O.fi_Turned_text (by lia) rfl (b5 g.d_Dyed_text O.kc_Dyed O.fi_Dyed_text (by lia) rfl B2)))))))) hr ?_
  exact(A4 O.fld_part (g8 0))
 exact d6
def a9D{k:Nat}(hk0:2<=k){j4 i5 i6 l6 l7 i7 R_written_parts:List PV->Option g6}(D:Dm K "text" "Turned.text" a0H a.f_Turned_text)(O:Oc K mg a)(u9:L0 P w K mg base a)(u8:K9 P w K mg base a)(g:K8 P w K mg base a k j4 i5 i6 l6 l7 i7 R_written_parts):D0 P w K mg base a.f_Turned_text ["self"] (k+1) (n6 0 (a2t j4 i5 i6 l6 l7 i7 R_written_parts)):=by
 refine B0 (k:=k) D a1Z (fun _ _ _ _ _ _=>el1 (fun _=>rfl)) fun cdv A outer s H E hr=> ?_
 have S:=a1Z
 have hu:=hr.units
 refine d0 ?_
 refine d9 ?_
 refine g7 j6 ?_ ?_
 ·refine g7 j6 ?_ ?_
  ·exact(g7 j6 (A4 O.fld_way (g8 0)) d6)
  refine L3 (b5 u9 O.kc_Plain O.fi_Plain_text (by lia) rfl (b5 u8 O.kc_Named O.fi_Named_text (by lia) rfl (b5 g.d_Beside_text O.kc_Beside O.fi_Beside_text (by lia) rfl (b5 g.d_Above_text O.kc_Above O.fi_Above_text (by lia) rfl (b5 g.d_Across_text O.kc_Across O.fi_Across_text (by lia) rfl (b5 g.d_Down_text O.kc_Down O.fi_Down_text (by lia) rfl (b5 g.d_Turned_text O.kc_Turned O.fi_Turned_text (by lia) rfl (b5 g.d_Dyed_text O.kc_Dyed O.fi_Dyed_text (by lia) rfl B2)))))))) hr ?_
  exact(A4 O.fld_part (g8 0))
 exact d6
def a7y{k:Nat}(hk0:2<=k){j4 i5 i6 l6 l7 i7 R_written_parts:List PV->Option g6}(D:Df K mg "written_parts" V6)(O:Oc K mg a)(u9:L0 P w K mg base a)(u8:K9 P w K mg base a)(g:K8 P w K mg base a k j4 i5 i6 l6 l7 i7 R_written_parts):u7 P w K mg base "written_parts" ["parts"] (k+1) (n6 0 (a04 j4 i5 i6 l6 l7 i7 R_written_parts)):=by
 refine u4 (k:=k) D a0m (fun _ _ _ _ _ _=>el1 (fun _=>rfl)) fun f cdv A outer s H E hr=> ?_
 have S:=a0m
 have hu:=hr.units
 refine d0 ?_
 refine d9 ?_
 refine a8p ?_ ?_
 ·exact d6
 refine a0x (ys:=["part"]) (N0:=["parts"]) (fun _ _ h=>h) ?_ ⟨by kernel_rfl,rfl,of_decide_eq_true rfl,of_decide_eq_true rfl,of_decide_eq_true rfl⟩ ?_ (fun C fp pins s H=>E6 (i:=1) a6d rfl (Or.inl rfl)) (fun n h=>G3 (i:=1) (Nat.le_of_eq h)) (fun C fp pins s H=>a2w) ?_
 ·exact rfl
 ·exact(a1H (g8 0))
 intro C fp pins s H
 exact(L3 (b5 u9 O.kc_Plain O.fi_Plain_text (by lia) rfl (b5 u8 O.kc_Named O.fi_Named_text (by lia) rfl (b5 g.d_Beside_text O.kc_Beside O.fi_Beside_text (by lia) rfl (b5 g.d_Above_text O.kc_Above O.fi_Above_text (by lia) rfl (b5 g.d_Across_text O.kc_Across O.fi_Across_text (by lia) rfl (b5 g.d_Down_text O.kc_Down O.fi_Down_text (by lia) rfl (b5 g.d_Turned_text O.kc_Turned O.fi_Turned_text (by lia) rfl (b5 g.d_Dyed_text O.kc_Dyed O.fi_Dyed_text (by lia) rfl B2)))))))) hr (g8 1))
def a9v(a1j:Dm K "text" "Above.text" a1q a.f_Above_text)(a0p:Dm K "text" "Across.text" a0E a.f_Across_text)(a0q:Dm K "text" "Beside.text" a0F a.f_Beside_text)(a13:Dm K "text" "Down.text" a2i a.f_Down_text)(a14:Dm K "text" "Dyed.text" a2j a.f_Dyed_text)(a0s:Dm K "text" "Turned.text" a0H a.f_Turned_text)(D_written_parts:Df K mg "written_parts" V6)(M:MoB K mg)(O:Oc K mg a)(u9:L0 P w K mg base a)(u8:K9 P w K mg base a):∀n:Nat,K8 P w K mg base a (2+n) (a2y n) (a1K n) (a1L n) (a3n n) (a3o n) (a1M n) (a0j n):=by
 intro n
 induction n with
 |zero=>exact⟨B0 (k:=1) a1j a2K (fun _ _ _ _ _ _=>el1 (fun _=>rfl)) fun cdv A outer s H E hr=>z8,B0 (k:=1) a0p a1W (fun _ _ _ _ _ _=>el1 (fun _=>rfl)) fun cdv A outer s H E hr=>z8,B0 (k:=1) a0q a1X (fun _ _ _ _ _ _=>el1 (fun _=>rfl)) fun cdv A outer s H E hr=>z8,B0 (k:=1) a13 a3J (fun _ _ _ _ _ _=>el1 (fun _=>rfl)) fun cdv A outer s H E hr=>z8,B0 (k:=1) a14 a3K (fun _ _ _ _ _ _=>el1 (fun _=>rfl)) fun cdv A outer s H E hr=>z8,B0 (k:=1) a0s a1Z (fun _ _ _ _ _ _=>el1 (fun _=>rfl)) fun cdv A outer s H E hr=>z8,u4 (k:=1) D_written_parts a0m (fun _ _ _ _ _ _=>el1 (fun _=>rfl)) fun f cdv A outer s H E hr=>z8⟩
 |succ n ih=>
  exact⟨b0t P w base a (Nat.le_add_right _ _) a1j O ih,a9y P w base a (Nat.le_add_right _ _) a0p M O u9 u8 ih,a9z P w base a (Nat.le_add_right _ _) a0q O ih,b2h P w base a (Nat.le_add_right _ _) a13 M O u9 u8 ih,b2j P w base a (Nat.le_add_right _ _) a14 O u9 u8 ih,a9D P w base a (Nat.le_add_right _ _) a0s O u9 u8 ih,a7y P w base a (Nat.le_add_right _ _) D_written_parts O u9 u8 ih⟩
def b0w{k:Nat}(hk0:1<=k){A3:List PV->Option g6}(D:Dm K "deep" "Motif.deep" a1r a.f_Motif_deep)(M:MoB K mg)(O:Oc K mg a)(B4:U3 P w K mg base a)(C7:R3 P w K mg base a)(D9:U2 P w K mg base a)(C6:R1 P w K mg base a)(G7:X8 P w K mg base a)(C8:R4 P w K mg base a)(G8:X9 P w K mg base a)(v7:D0 P w K mg base a.f_Motif_deep ["self"] k A3):D0 P w K mg base a.f_Motif_deep ["self"] (k+1) (n6 0 (a6z A3)):=by
 refine B0 (k:=k) D a2L (fun _ _ _ _ _ _=>el1 (fun _=>rfl)) fun cdv A outer s H E hr=> ?_
 have S:=a2L
 have hu:=hr.units
 refine d0 ?_
 refine d9 ?_
 refine g7 j6 ?_ ?_
 ·exact b7
 refine b5M ?_ ?_ M.z_max ?_
 ·exact rfl
 ·exact rfl
 refine a0x (ys:=["part"]) (N0:=["self"]) (fun _ _ h=>h) ?_ ⟨by kernel_rfl,rfl,of_decide_eq_true rfl,of_decide_eq_true rfl,of_decide_eq_true rfl⟩ ?_ (fun C fp pins s H=>E6 (i:=1) a8f rfl (Or.inl rfl)) (fun n h=>G3 (i:=1) (Nat.le_of_eq h)) (fun C fp pins s H=>a2w) ?_
 ·exact rfl
 ·refine a1H ?_
  exact(L3 (b5 B4 O.kc_Plain O.fi_Plain_inner (by lia) rfl (b5 B4 O.kc_Named O.fi_Named_inner (by lia) rfl (b5 C7 O.kc_Beside O.fi_Beside_inner (by lia) rfl (b5 D9 O.kc_Above O.fi_Above_inner (by lia) rfl (b5 C6 O.kc_Across O.fi_Across_inner (by lia) rfl (b5 G7 O.kc_Down O.fi_Down_inner (by lia) rfl (b5 C8 O.kc_Turned O.fi_Turned_inner (by lia) rfl (b5 G8 O.kc_Dyed O.fi_Dyed_inner (by lia) rfl B2)))))))) hr (g8 0))
 intro C fp pins s H
 exact(L3 (b5 v7 O.kc_Plain O.fi_Plain_deep (by lia) rfl (b5 v7 O.kc_Named O.fi_Named_deep (by lia) rfl (b5 v7 O.kc_Beside O.fi_Beside_deep (by lia) rfl (b5 v7 O.kc_Above O.fi_Above_deep (by lia) rfl (b5 v7 O.kc_Across O.fi_Across_deep (by lia) rfl (b5 v7 O.kc_Down O.fi_Down_deep (by lia) rfl (b5 v7 O.kc_Turned O.fi_Turned_deep (by lia) rfl (b5 v7 O.kc_Dyed O.fi_Dyed_deep (by lia) rfl B2)))))))) hr (g8 1))
def a9w(a1k:Dm K "deep" "Motif.deep" a1r a.f_Motif_deep)(M:MoB K mg)(O:Oc K mg a)(B4:U3 P w K mg base a)(C7:R3 P w K mg base a)(D9:U2 P w K mg base a)(C6:R1 P w K mg base a)(G7:X8 P w K mg base a)(C8:R4 P w K mg base a)(G8:X9 P w K mg base a):∀n:Nat,D0 P w K mg base a.f_Motif_deep ["self"] (1+n) (p8 n):=by
 intro n
 induction n with
 |zero=>exact B0 (k:=0) a1k a2L (fun _ _ _ _ _ _=>el1 (fun _=>rfl)) fun cdv A outer s H E hr=>z8
 |succ n ih=>
  exact b0w P w base a (Nat.le_add_right _ _) a1k M O B4 C7 D9 C6 G7 C8 G8 ih
def b2o(D:Df K mg "_law_right" a4S)(M:MoB K mg)(O:Oc K mg a)(M3:b4q P w K mg base)(M4:a8G P w K mg base)(a3f:a6x P w K mg base)(R6:a8E P w K mg base)(a1D:b4p P w K mg base)(a0Q:b7F P w K mg base)(n8:b0b P w K mg base a)(J3:a0t P w K mg base a)(u9:L0 P w K mg base a)(u8:K9 P w K mg base a)(d_Beside_text:b0a P w K mg base a)(d_Above_text:b1D P w K mg base a)(d_Across_text:a99 P w K mg base a)(d_Down_text:b2Q P w K mg base a)(d_Turned_text:b0c P w K mg base a)(d_Dyed_text:b2R P w K mg base a)(v7:b1E P w K mg base a):a7K P w K mg base:=by
 refine u4 (k:=46) D a65 (fun _ _ _ _ _ _=>el1 (fun _=>rfl)) fun f cdv A outer s H E hr=> ?_
 have S:=a65
 have hu:=hr.units
 refine c7 ?_ ?_
 ·exact(u0 (i:=1) S.nd (m8 M3 hr (by decide) rfl (b6 g9) (a8 (g8 0) c9)))
 refine c7 ?_ ?_
 ·exact(u0 (i:=2) S.nd (m8 M4 hr (by decide) rfl (b6 g9) (a8 (g8 0) c9)))
 refine c7 ?_ ?_
 ·refine p7 (PW.pt (N7 (p6 (T5 hu) (L3 (b5 u9 O.kc_Plain O.fi_Plain_text (by decide) rfl (b5 u8 O.kc_Named O.fi_Named_text (by decide) rfl (b5 d_Beside_text O.kc_Beside O.fi_Beside_text (by decide) rfl (b5 d_Above_text O.kc_Above O.fi_Above_text (by decide) rfl (b5 d_Across_text O.kc_Across O.fi_Across_text (by decide) rfl (b5 d_Down_text O.kc_Down O.fi_Down_text (by decide) rfl (b5 d_Turned_text O.kc_Turned O.fi_Turned_text (by decide) rfl (b5 d_Dyed_text O.kc_Dyed O.fi_Dyed_text (by decide) rfl B2)))))))) hr (g8 1)) (g8 2)) (D7 (p6 (T5 hu) (L3 (b5 v7 O.kc_Plain O.fi_Plain_deep (by decide) rfl (b5 v7 O.kc_Named O.fi_Named_deep (by decide) rfl (b5 v7 O.kc_Beside O.fi_Beside_deep (by decide) rfl (b5 v7 O.kc_Above O.fi_Above_deep (by decide) rfl (b5 v7 O.kc_Across O.fi_Across_deep (by decide) rfl (b5 v7 O.kc_Down O.fi_Down_deep (by decide) rfl (b5 v7 O.kc_Turned O.fi_Turned_deep (by decide) rfl (b5 v7 O.kc_Dyed O.fi_Dyed_deep (by decide) rfl B2)))))))) hr (g8 1)) (m8 a1D hr (by decide) rfl (b6 g9) (a8 (g8 0) c9)))))) ?_ ?_
  ·exact(d0 (d9 a0c))
  exact j8
 refine c7 ?_ ?_
 ·refine u0 (i:=3) ?_ ?_
  ·exact S.nd
  exact(L3 (b5 n8 O.kc_Plain O.fi_Plain_names (by decide) rfl (b5 J3 O.kc_Named O.fi_Named_names (by decide) rfl (b5 n8 O.kc_Beside O.fi_Beside_names (by decide) rfl (b5 n8 O.kc_Above O.fi_Above_names (by decide) rfl (b5 n8 O.kc_Across O.fi_Across_names (by decide) rfl (b5 n8 O.kc_Down O.fi_Down_names (by decide) rfl (b5 n8 O.kc_Turned O.fi_Turned_names (by decide) rfl (b5 n8 O.kc_Dyed O.fi_Dyed_names (by decide) rfl B2)))))))) hr (g8 1))
 refine c7 ?_ ?_
 ·exact(u0 (i:=4) S.nd (N6 b7O rfl M.z_sorted (by rfl) (m8 R6 hr (by decide) rfl (b6 g9) (a8 (g8 0) c9))))
 refine c7 ?_ ?_
 ·exact(p7 (PW.pt (N7 (D6 (B8 (a06 (.inr (.inr (.inr (.inl rfl)))) rfl M.z_isinstance (g8 3) (V5 rfl M.z_list (by rfl) rfl)))) (D7 (p6 (T5 hu) (g8 3) (g8 4))))) (d0 (d9 a0c)) j8)
 refine c7 ?_ ?_
 ·exact(a7h 3 (pv 3) d6)
 refine c7 ?_ ?_
 ·exact(u0 (i:=5) S.nd (m8 a3f hr (by decide) rfl (b6 g9) (a8 (g8 2) c9)))
 refine c7 ?_ ?_
 ·refine p7 (PW.pt (N7 (p6 (T5 hu) (L3 (b5 n8 O.kc_Plain O.fi_Plain_names (by decide) rfl (b5 J3 O.kc_Named O.fi_Named_names (by decide) rfl (b5 n8 O.kc_Beside O.fi_Beside_names (by decide) rfl (b5 n8 O.kc_Above O.fi_Above_names (by decide) rfl (b5 n8 O.kc_Across O.fi_Across_names (by decide) rfl (b5 n8 O.kc_Down O.fi_Down_names (by decide) rfl (b5 n8 O.kc_Turned O.fi_Turned_names (by decide) rfl (b5 n8 O.kc_Dyed O.fi_Dyed_names (by decide) rfl B2)))))))) hr (g8 1)) (g8 4)) (D7 (D6 (B8 (m8 a0Q hr (by decide) rfl (b6 (b6 g9)) (a8 (g8 5) (a8 (g8 0) c9)))))))) ?_ ?_
  ·exact(d0 (d9 a0c))
  exact j8
 refine d0 ?_
 refine d9 ?_
 refine a17 (r6 hu) ?_ (g8 2)
 exact(L3 (b5 u9 O.kc_Plain O.fi_Plain_text (by decide) rfl (b5 u8 O.kc_Named O.fi_Named_text (by decide) rfl (b5 d_Beside_text O.kc_Beside O.fi_Beside_text (by decide) rfl (b5 d_Above_text O.kc_Above O.fi_Above_text (by decide) rfl (b5 d_Across_text O.kc_Across O.fi_Across_text (by decide) rfl (b5 d_Down_text O.kc_Down O.fi_Down_text (by decide) rfl (b5 d_Turned_text O.kc_Turned O.fi_Turned_text (by decide) rfl (b5 d_Dyed_text O.kc_Dyed O.fi_Dyed_text (by decide) rfl B2)))))))) hr (g8 5))
def b2n(D:Df K mg "_law_plain" a4R)(M:MoB K mg):a4a P w K mg base:=by
 refine u4 (k:=0) D a64 (fun _ _ _ _ _ _=>el1 (fun _=>rfl)) fun f cdv A outer s H E hr=> ?_
 have S:=a64
 have hu:=hr.units
 refine c7 ?_ ?_
 ·exact(u0 (i:=1) S.nd (I0 c9))
 refine c7 ?_ ?_
 ·exact(u0 (i:=2) S.nd (a1G d6 b1T (Y6 (k7 (I0 (a8 b7 (a8 b7 (a8 b7 c9)))) (g7 C3 (g8 0) b7)))))
 refine c7 ?_ ?_
 ·exact(u0 (i:=3) S.nd (g7 j6 b7 (g7 C3 (g7 C3 (g7 C9 (g8 0) b7) b7) b7)))
 refine c7 ?_ ?_
 ·refine a6F PassesOwn.never ?_ ?_ M.z_range ?_ ?_ (a0o 4) ?_
  ·exact rfl
  ·exact rfl
  ·exact(a8 (g7 j6 b7 (g7 C3 (g7 C3 (g7 C9 (g8 0) b7) b7) b7)) c9)
  ·exact(E6 (i:=4) S.nd rfl (Or.inl rfl))
  refine c7 ?_ ?_
  ·exact(u0 (i:=5) S.nd d6)
  refine c7 ?_ ?_
  ·refine a6F PassesOwn.never ?_ ?_ M.z_range ?_ ?_ (a0o 6) ?_
   ·exact rfl
   ·exact rfl
   ·exact(a8 (g8 3) c9)
   ·exact(E6 (i:=6) S.nd rfl (Or.inl rfl))
   refine c7 ?_ ?_
   ·exact(u0 (i:=7) S.nd (g7 C3 (g7 C9 (g8 0) (g7 j6 (g7 j6 (g7 C9 b7 (g8 4)) (g7 C9 b7 (g8 6))) b7)) b7))
   exact(d0 (u0 (i:=5) S.nd (g7 j6 (g8 5) (k7 (g8 2) (g7 C3 (g8 7) (N6 N4 rfl M.z_len (by rfl) (g8 2)))))))
  exact(d0 (a7h 1 (pv 1) (g8 5)))
 exact(d0 (d9 (y0 (a8 d6 (a8 (a4q a4l rfl M.z_tuple (by rfl) (g8 1)) c9)))))
def b3J(D:Df K mg "_law_leaf" a6h)(M:MoB K mg)(a0R:a4a P w K mg base):a8D P w K mg base:=by
 refine u4 (k:=1) D a76 (fun _ _ _ _ _ _=>el2 (fun _ _=>rfl)) fun f cdv A outer s H E hr=> ?_
 have S:=a76
 have hu:=hr.units
 refine c7 ?_ ?_
 ·refine p7 (PW.pt (a8T (p6 (T5 hu) (g8 1) (I0 c9)) (a6G (p6 a8v (g7 C3 (g7 C3 (g7 C9 (g8 0) b7) b7) b7) b7)))) ?_ ?_
  ·exact(d0 (d9 (y0 (a8 d6 (a8 (k7 (g8 1) (g7 C3 (g7 C3 (g7 C9 (g8 0) b7) b7) (N6 N4 rfl M.z_len (by rfl) (g8 1)))) c9)))))
  exact j8
 exact(d0 (d9 (m8 a0R hr (by decide) rfl (b6 g9) (a8 (g8 0) c9))))
def b3M(D:Df K mg "_law_step" a6i)(M:MoB K mg):a8F P w K mg base:=by
 refine u4 (k:=0) D a77 (fun _ _ _ _ _ _=>el3 (fun _ _ _=>rfl)) fun f cdv A outer s H E hr=> ?_
 have S:=a77
 have hu:=hr.units
 refine c7 ?_ ?_
 ·exact(u0 (i:=3) S.nd (g7 C3 (g7 C3 (g7 C9 (g8 0) b7) b7) b7))
 refine c7 ?_ ?_
 ·exact(u0 (i:=4) S.nd (g7 j6 b7 (g7 C3 (g7 C3 (g7 C9 (g8 0) b7) b7) (k7 (I0 (a8 b7 (a8 b7 c9))) (a4q c2e rfl M.z_int (by rfl) (a17 (r6 hu) (g7 C3 (g8 0) b7) b7))))))
 refine c7 ?_ ?_
 ·exact(u0 (i:=5) S.nd d6)
 refine c7 ?_ ?_
 ·refine p7 ?_ ?_ ?_
  ·exact(p6 (r6 hu) (g8 3) b7)
  ·exact(c7 (u0 (i:=6) S.nd (I0 (a8 d6 (a8 d6 (a8 d6 (a8 d6 (a8 d6 (a8 d6 (a8 d6 c9))))))))) (d0 (d9 (y0 (a8 d6 (a8 (k7 (g8 6) (g7 C3 (g8 0) b7)) (a8 (g8 1) c9)))))))
  exact j8
 refine c7 ?_ ?_
 ·exact(p7 (p6 (r6 hu) (g8 3) b7) (d0 (d9 (y0 (a8 d6 (a8 (k7 (g8 5) (g7 C3 (g8 0) b7)) (a8 (k7 (g8 5) (g7 C3 (g7 b8S (g8 0) b7) b7)) (a8 (g8 1) c9))))))) j8)
 refine c7 ?_ ?_
 ·exact(p7 (p6 (r6 hu) (g8 3) b7) (d0 (d9 (y0 (a8 d6 (a8 (g8 4) (a8 (g8 1) c9)))))) j8)
 refine c7 ?_ ?_
 ·exact(p7 (p6 (r6 hu) (g8 3) b7) (d0 (d9 (y0 (a8 d6 (a8 (g8 4) (a8 (g8 1) c9)))))) j8)
 refine c7 ?_ ?_
 ·exact(p7 (p6 (r6 hu) (g8 3) b7) (d0 (d9 (y0 (a8 d6 (a8 (I0 (a8 (g8 1) (a8 (g8 2) c9))) c9))))) j8)
 refine c7 ?_ ?_
 ·exact(p7 (p6 (r6 hu) (g8 3) b7) (d0 (d9 (y0 (a8 d6 (a8 (I0 (a8 (g8 1) (a8 (g8 2) c9))) c9))))) j8)
 refine c7 ?_ ?_
 ·exact(p7 (p6 (r6 hu) (g8 3) b7) (d0 (d9 (y0 (a8 d6 (a8 (I0 (a8 (g8 1) (a8 (y0 (a8 d6 (a8 d6 (a8 (g8 1) c9)))) c9))) c9))))) j8)
 refine c7 ?_ ?_
 ·exact(p7 (p6 (r6 hu) (g8 3) b7) (d0 (d9 (y0 (a8 d6 (a8 (I0 (a8 (g8 1) (a8 (y0 (a8 d6 (a8 d6 (a8 (g8 1) c9)))) (a8 (g8 1) c9)))) c9))))) j8)
 exact(d0 (d9 (y0 (a8 d6 (a8 (a1G (g7 C9 (I0 (a8 (g8 2) (a8 (g8 1) c9))) b7) b1T (Y6 (g7 j6 b7 (g7 C3 (g8 0) b7)))) c9)))))
def b3I(D:Df K mg "_law_laid" a6g)(M:MoB K mg):a5X P w K mg base:=by
 refine u4 (k:=0) D a75 (fun _ _ _ _ _ _=>el2 (fun _ _=>rfl)) fun f cdv A outer s H E hr=> ?_
 have S:=a75
 have hu:=hr.units
 refine c7 ?_ ?_
 ·exact(u0 (i:=2) S.nd (k7 (g8 1) b7))
 refine c7 ?_ ?_
 ·refine b4G PassesOwn.never ?_ ?_ ?_ (a0o 3) ?_
  ·exact rfl
  ·exact(a1G (g8 1) (Y6 b7) b1T)
  ·exact(E6 (i:=3) S.nd rfl (Or.inl rfl))
  refine c7 ?_ ?_
  ·refine p7 ?_ ?_ ?_
   ·exact(p6 (r6 hu) (g8 0) d6)
   ·refine c7 ?_ ?_
    ·exact(p7 (p6 (T5 hu) (k7 (g8 3) b7) (k7 (g8 2) b7)) (d0 (d9 (y0 (a8 d6 (a8 d6 c9))))) j8)
    exact(d0 (u0 (i:=2) S.nd (y0 (a8 (k7 (g8 2) b7) (a8 (g7 j6 (k7 (g8 2) b7) (k7 (g8 3) b7)) c9)))))
   refine c7 ?_ ?_
   ·exact(p7 (p6 (T5 hu) (k7 (g8 3) b7) (k7 (g8 2) b7)) (d0 (d9 (y0 (a8 d6 (a8 d6 c9))))) j8)
   exact(d0 (u0 (i:=2) S.nd (y0 (a8 (g7 j6 (k7 (g8 2) b7) (k7 (g8 3) b7)) (a8 (k7 (g8 2) b7) c9)))))
  exact(d0 (p7 (p6 b2u (N6 (b1Q rfl) rfl M.z_max (by rfl) (g8 2)) b7) (d0 (d9 (y0 (a8 d6 (a8 d6 c9))))) j8))
 exact(d0 (a0y 2 (pv 2)))
def b3L{k:Nat}(hk0:1<=k){O7:List PV->Option g6}(D:Df K mg "_law_size" a3D)(M:MoB K mg)(a1E:a5X P w K mg base)(V9:u7 P w K mg base "_law_size" ["_law_tree","_law_known"] k O7):u7 P w K mg base "_law_size" ["_law_tree","_law_known"] (k+1) (n6 4 (a1A O7)):=by
 refine u4 (k:=k) D a42 (fun _ _ _ _ _ _=>el2 (fun _ _=>rfl)) fun f cdv A outer s H E hr=> ?_
 have S:=a42
 have hu:=hr.units
 refine c7 ?_ ?_
 ·exact(u0 (i:=2) S.nd (k7 (g8 0) b7))
 refine c7 ?_ ?_
 ·exact(p7 (p6 (r6 hu) (g8 2) d6) (d0 (d9 (y0 (a8 (N6 N4 rfl M.z_len (by rfl) (k7 (g8 0) b7)) (a8 (N6 N4 rfl M.z_len (by rfl) (k7 (k7 (g8 0) b7) b7)) c9))))) j8)
 refine c7 ?_ ?_
 ·exact(p7 (p6 (r6 hu) (g8 2) d6) (d0 (d9 (b6G 1 hu (pv 1) (k7 (g8 0) b7) (y0 (a8 d6 (a8 (k7 (g8 0) b7) c9)))))) j8)
 refine c7 ?_ ?_
 ·refine p7 (PW.pt (N7 (p6 (r6 hu) (g8 2) d6) (D7 (p6 (r6 hu) (g8 2) d6)))) ?_ ?_
  ·refine c7 ?_ ?_
   ·refine b5O (i:=3) (ys:=["_law_part"]) (N0:=["_law_tree","_law_known","_law_word","_law_dims","_law_bad","_law_size_here"]) ?_ (fun _ _ h=>h) ?_ ⟨by kernel_rfl,rfl,of_decide_eq_true rfl,of_decide_eq_true rfl,of_decide_eq_true rfl⟩ ?_ (fun C fp pins s H=>E6 (i:=6) b0q rfl (Or.inl rfl)) (fun n h=>G3 (i:=6) (Nat.le_of_eq h)) (fun C fp pins s H=>a2w) ?_
    ·exact S.nd
    ·exact rfl
    ·exact(a1H (k7 (g8 0) b7))
    intro C fp pins s H
    exact(m8 V9 hr (by lia) rfl (b6 (b6 g9)) (a8 (g8 6) (a8 (g8 1) c9)))
   refine c7 ?_ ?_
   ·refine b5O (i:=4) (ys:=["_law_size_here"]) (N0:=["_law_tree","_law_known","_law_word","_law_dims","_law_bad","0_law_size_here"]) ?_ (fun _ _ h=>h) ?_ ⟨by kernel_rfl,rfl,of_decide_eq_true rfl,of_decide_eq_true rfl,of_decide_eq_true rfl⟩ ?_ (fun C fp pins s H=>E6 (i:=6) b0r rfl (Or.inl rfl)) (fun n h=>G3 (i:=6) (Nat.le_of_eq h)) ?_ (fun C fp pins s H=>(g8 6))
    ·exact S.nd
    ·exact rfl
    ·exact(a1H (g8 3))
    intro C fp pins s H
    exact(b7R (B8 (a06 (.inr (.inr (.inl rfl))) rfl M.z_isinstance (k7 (g8 6) b7) (V5 rfl M.z_str (by rfl) rfl))))
   exact(c7 (p7 (p6 (T5 hu) (g8 4) (I0 c9)) (d0 (d9 (k7 (g8 4) b7))) j8) (d0 (b4H 3 (d9 (m8 a1E hr (by lia) rfl (b6 (b6 g9)) (a8 (g8 2) (a8 (g8 3) c9)))))))
  exact j8
 refine c7 ?_ ?_
 ·exact(u0 (i:=5) S.nd (m8 V9 hr (by lia) rfl (b6 (b6 g9)) (a8 (k7 (g8 0) (b7U b7)) (a8 (g8 1) c9))))
 refine c7 ?_ ?_
 ·exact(p7 (PW.pt (N7 (B8 (a06 (.inr (.inr (.inl rfl))) rfl M.z_isinstance (k7 (g8 5) b7) (V5 rfl M.z_str (by rfl) rfl))) (D7 (p6 (r6 hu) (g8 2) d6)))) (d0 (a0y 5 (pv 5))) j8)
 refine c7 ?_ ?_
 ·refine p7 ?_ ?_ ?_
  ·exact(p6 (r6 hu) (g8 2) d6)
  ·exact(c7 (p7 (p6 (b6i hu) (k7 (g8 0) b7) (I0 (a8 d6 (a8 d6 (a8 d6 (a8 d6 c9)))))) (d0 (d9 (y0 (a8 (k7 (g8 5) b7) (a8 (k7 (g8 5) b7) c9))))) j8) (d0 (a0y 5 (pv 5))))
  exact j8
 refine c7 ?_ ?_
 ·refine p7 ?_ ?_ ?_
  ·exact(p6 (r6 hu) (g8 2) d6)
  ·exact(d0 (u0 (i:=5) S.nd (y0 (a8 (k7 (g8 5) b7) (a8 (g7 C9 (k7 (g8 5) b7) (k7 (g8 0) b7)) c9)))))
  exact(d0 (u0 (i:=5) S.nd (y0 (a8 (g7 C9 (k7 (g8 5) b7) (k7 (g8 0) b7)) (a8 (k7 (g8 5) b7) c9)))))
 exact(c7 (p7 (p6 b2u (N6 (b1Q rfl) rfl M.z_max (by rfl) (g8 5)) b7) (d0 (d9 (y0 (a8 d6 (a8 d6 c9))))) j8) (d0 (a0y 5 (pv 5))))
def b2f(a25:Df K mg "_law_size" a3D)(M:MoB K mg)(a1E:a5X P w K mg base):∀n:Nat,u7 P w K mg base "_law_size" ["_law_tree","_law_known"] (1+n) (a4w n):=by
 intro n
 induction n with
 |zero=>exact u4 (k:=0) a25 a42 (fun _ _ _ _ _ _=>el2 (fun _ _=>rfl)) fun f cdv A outer s H E hr=>z8
 |succ n ih=>
  exact b3L P w base (Nat.le_add_right _ _) a25 M a1E ih
def b2k(D:Df K mg "_law_grown" a4O)(M:MoB K mg)(a3c:a8D P w K mg base)(a0R:a4a P w K mg base)(a52:a8F P w K mg base)(V9:b4r P w K mg base)(M4:a8G P w K mg base):a7I P w K mg base:=by
 refine u4 (k:=13) D a61 (fun _ _ _ _ _ _=>el4 (fun _ _ _ _=>rfl)) fun f cdv A outer s H E hr=> ?_
 have S:=a61
 have hu:=hr.units
 refine c7 ?_ ?_
 ·exact(u0 (i:=4) S.nd (m8 a3c hr (by decide) rfl (b6 (b6 g9)) (a8 (g8 0) (a8 (g8 2) c9))))
 refine c7 ?_ ?_
 ·refine p7 (PW.pt (a8T (p6 b2u (g8 3) b7) (a6G (B8 (a06 (.inr (.inr (.inl rfl))) rfl M.z_isinstance (k7 (m8 V9 hr (by decide) rfl (b6 (b6 g9)) (a8 (g8 4) (a8 (g8 1) c9))) b7) (V5 rfl M.z_str (by rfl) rfl)))))) ?_ ?_
  ·exact(d0 (u0 (i:=4) S.nd (m8 a0R hr (by decide) rfl (b6 g9) (a8 (g8 0) c9))))
  exact j8
 refine c7 ?_ ?_
 ·refine a6F PassesOwn.never ?_ ?_ M.z_range ?_ ?_ (a0o 5) ?_
  ·exact rfl
  ·exact rfl
  ·exact(a8 (g7 C3 (g7 C3 (g7 C9 (g8 0) b7) b7) b7) c9)
  ·exact(E6 (i:=5) S.nd rfl (Or.inl rfl))
  refine c7 ?_ ?_
  ·exact(u0 (i:=6) S.nd (g7 C3 (g7 C9 (g8 0) (g7 j6 (g7 C9 b7 (g8 5)) b7)) b7))
  refine c7 ?_ ?_
  ·refine u0 (i:=7) ?_ ?_
   ·exact S.nd
   exact(m8 a52 hr (by decide) rfl (b6 (b6 (b6 g9))) (a8 (g8 6) (a8 (g8 4) (a8 (m8 a3c hr (by decide) rfl (b6 (b6 g9)) (a8 (g7 j6 (g7 C9 (g8 6) b7) b7) (a8 (g8 2) c9))) c9))))
  refine c7 ?_ ?_
  ·exact(u0 (i:=8) S.nd (m8 V9 hr (by decide) rfl (b6 (b6 g9)) (a8 (g8 7) (a8 (g8 1) c9))))
  refine c7 ?_ ?_
  ·exact(u0 (i:=9) S.nd (a53 (c2k (a06 (.inr (.inr (.inl rfl))) rfl M.z_isinstance (k7 (g8 8) b7) (V5 rfl M.z_str (by rfl) rfl))) (a54 (a17 M0 (N6 (b1Q rfl) rfl M.z_max (by rfl) (g8 8)) (g8 3)))))
  refine d0 ?_
  refine p7 (PW.pt (a8T (PW.pt (N7 (B8 (g8 9)) (D7 (p6 (r6 hu) (g8 3) b7)))) (a6G (p6 a8v (N6 N4 rfl M.z_len (by rfl) (m8 M4 hr (by decide) rfl (b6 g9) (a8 (g8 7) c9))) b7)))) ?_ ?_
  ·exact(d0 (u0 (i:=4) S.nd (g8 7)))
  exact j8
 exact(d0 (a0y 4 (pv 4)))
def b2m(D:Df K mg "_law_names" a4Q):a7J P w K mg base:=by
 refine u4 (k:=0) D a63 (fun _ _ _ _ _ _=>el0 rfl) fun f cdv A outer s H E hr=> ?_
 have S:=a63
 have hu:=hr.units
 exact(d0 (d9 (I0 (a8 d6 (a8 d6 (a8 d6 (a8 d6 (a8 d6 c9))))))))
def c2Y{f:AB}{fd:FuncData}(F:Fun K "law" "law" b9w f fd)(M:MoB K mg)(a3d:a6v P w K mg base)(a0S:a7K P w K mg base)(a4m:a7I P w K mg base)(a4n:a7J P w K mg base):U0 P w K mg base CX0 48 f fd ["_law_script"] (spP K 1 c1L):=by
 refine b70 (k:=47) F b9z fun cdv A outer s H E hr=> ?_
 have S:=b9z
 have hu:=hr.units
 refine c7 ?_ ?_
 ·refine a6F PassesOwn.never ?_ ?_ M.z_range ?_ ?_ (a0o 1) ?_
  ·exact rfl
  ·exact rfl
  ·exact(a8 (c34 (c2f rfl) rfl M.z_min (by rfl) (N6 N4 rfl M.z_len (by rfl) (g8 0)) b7) c9)
  ·exact(E6 (i:=1) S.nd rfl (Or.inl rfl))
  refine c7 ?_ ?_
  ·exact(u0 (i:=2) S.nd (m8 a3d hr (by decide) rfl (b6 (b6 g9)) (a8 (k7 (g8 0) (g8 1)) (a8 (g8 1) c9))))
  refine d0 ?_
  refine p7 ?_ ?_ ?_
  ·exact(D6 (B8 (m8 a0S hr (by decide) rfl (b6 g9) (a8 (m8 a4m hr (by decide) rfl (b6 (b6 (b6 (b6 g9)))) (a8 (g8 2) (a8 b7T (a8 (b97 a4n hr (by decide) rfl) (a8 b7 c9))))) c9))))
  ·exact(d0 (d9 a0c))
  exact j8
 refine d0 ?_
 refine d9 ?_
 exact(a53 (m8 a0S hr (by decide) rfl (b6 g9) (a8 (y0 (a8 d6 (a8 d6 c9))) c9)) (a54 (m8 a0S hr (by decide) rfl (b6 g9) (a8 (y0 (a8 d6 (a8 (y0 (a8 d6 c9)) c9))) c9))))
end
def c16{l:W.OpenLaw}{w:AU}{K:AE}{h:Heap}{mg:Str->Option AA}{fa:AB}(X:K.In h)(G:h.Ns mainGlobals mg)(hfa:mg "law"=some (.ref fa))
 {C_Plain:AB}
 {C_Named:AB}
 {C_Beside:AB}
 {C_Above:AB}
 {C_Across:AB}
 {C_Down:AB}
 {C_Turned:AB}
 {C_Dyed:AB}
 {C_Motif:AB}
 {f0_Plain:AB}
 {f0_Named:AB}
 {f0_Beside:AB}
 {f0_Above:AB}
 {f0_Across:AB}
 {f0_Down:AB}
 {f0_Turned:AB}
 {f0_Dyed:AB}
 {f_Motif_inner:AB}
 {f_Beside_inner:AB}
 {f_Above_inner:AB}
 {f_Across_inner:AB}
 {f_Down_inner:AB}
 {f_Turned_inner:AB}
 {f_Dyed_inner:AB}
 {f_Named_names:AB}
 {f_Motif_names:AB}
 {f_Plain_text:AB}
 {f_Named_text:AB}
 {f_Above_text:AB}
 {f_Across_text:AB}
 {f_Beside_text:AB}
 {f_Down_text:AB}
 {f_Dyed_text:AB}
 {f_Turned_text:AB}
 {f_Motif_deep:AB}
 {C_NoCloth:AB}
 {uu_LONGEST:AA}
 {uu_MOST_FIGURES:AA}
 {uu_LONGEST_WORD:AA}
 {uu_WORDS:AA}
 {uu_TURNING:AA}
 {uu_DEEPEST:AA}
 {uu_MOST_PARTS:AA}
 {uu_MOST_TIMES:AA}
 (a3d:Df0 K "_law_number" a3C)
 (M3:Df0 K "_law_made" a3B)
 (M4:Df0 K "_law_text" a3E)
 (a2P:Df0 K "run_end" a7B)
 (E2:Df0 K "letters_end" a2I)
 (a05:Df0 K "is_small_word" a1a)
 (a2O:Df0 K "is_name" a7A)
 (a8P:Df0 K "is_row" a9T)
 (a51:Df0 K "is_cloth" a6f)
 (a3e:Df0 K "read_cloth" a3H)
 (a1F:Df0 K "plain_at" a6j)
 (U6:Df0 K "figures_end" a2H)
 (a4o:Df0 K "number_in" a4T)
 (a0g:Df0 K "number_between" a0l)
 (a0T:Df0 K "times_end" a4U)
 (N5:Df0 K "is_colour_at" a1V)
 (d_dyed_at:Df0 K "dyed_at" a5o)
 (d_laid_at:Df0 K "laid_at" a5p)
 (d_last_part_at:Df0 K "last_part_at" Z5)
 (d_made_of_parts_at:Df0 K "made_of_parts_at" P5)
 (d_motif_at:Df0 K "motif_at" a3F)
 (d_parts_at:Df0 K "parts_at" a3G)
 (d_repeated_at:Df0 K "repeated_at" a0I)
 (d_turned_at:Df0 K "turned_at" a2k)
 (a3f:Df0 K "read_motif" a3I)
 (L1:Df0 K "_law_inner" a4P)
 (R6:Df0 K "_law_names_in" Z6)
 (a1D:Df0 K "_law_deep" a3A)
 (a0Q:Df0 K "_law_is" a60)
 (a2v:Df0 K "shown_cloth" a2J)
 (d_written_parts:Df0 K "written_parts" V6)
 (a0S:Df0 K "_law_right" a4S)
 (a0R:Df0 K "_law_plain" a4R)
 (a3c:Df0 K "_law_leaf" a6h)
 (a52:Df0 K "_law_step" a6i)
 (a1E:Df0 K "_law_laid" a6g)
 (V9:Df0 K "_law_size" a3D)
 (a4m:Df0 K "_law_grown" a4O)
 (a4n:Df0 K "_law_names" a4Q)
 (c3Z:Df0 K "law" b9w)
 (oa_Plain:W.nsIn K mainGlobals "Plain"=some (some (.ref C_Plain)))
 (oa_Named:W.nsIn K mainGlobals "Named"=some (some (.ref C_Named)))
 (oa_Beside:W.nsIn K mainGlobals "Beside"=some (some (.ref C_Beside)))
 (oa_Above:W.nsIn K mainGlobals "Above"=some (some (.ref C_Above)))
 (oa_Across:W.nsIn K mainGlobals "Across"=some (some (.ref C_Across)))
 (oa_Down:W.nsIn K mainGlobals "Down"=some (some (.ref C_Down)))
 (oa_Turned:W.nsIn K mainGlobals "Turned"=some (some (.ref C_Turned)))
 (oa_Dyed:W.nsIn K mainGlobals "Dyed"=some (some (.ref C_Dyed)))
 (oa_Motif:W.nsIn K mainGlobals "Motif"=some (some (.ref C_Motif)))
 (oi_Plain:W.findIn K (.ref C_Plain) "__init__"=some (some (.ref f0_Plain))) (ck_Plain:ckC K C_Plain "Plain" f0_Plain ["rows"]=true) (dm0_Plain:Dm K "__init__" "Plain.__init__" b33 f0_Plain)
 (oi_Named:W.findIn K (.ref C_Named) "__init__"=some (some (.ref f0_Named))) (ck_Named:ckC K C_Named "Named" f0_Named ["name"]=true) (dm0_Named:Dm K "__init__" "Named.__init__" b32 f0_Named)
 (oi_Beside:W.findIn K (.ref C_Beside) "__init__"=some (some (.ref f0_Beside))) (ck_Beside:ckC K C_Beside "Beside" f0_Beside ["parts"]=true) (dm0_Beside:Dm K "__init__" "Beside.__init__" b1r f0_Beside)
 (oi_Above:W.findIn K (.ref C_Above) "__init__"=some (some (.ref f0_Above))) (ck_Above:ckC K C_Above "Above" f0_Above ["parts"]=true) (dm0_Above:Dm K "__init__" "Above.__init__" b31 f0_Above)
 (oi_Across:W.findIn K (.ref C_Across) "__init__"=some (some (.ref f0_Across))) (ck_Across:ckC K C_Across "Across" f0_Across ["many","part"]=true) (dm0_Across:Dm K "__init__" "Across.__init__" b1q f0_Across)
 (oi_Down:W.findIn K (.ref C_Down) "__init__"=some (some (.ref f0_Down))) (ck_Down:ckC K C_Down "Down" f0_Down ["many","part"]=true) (dm0_Down:Dm K "__init__" "Down.__init__" b6n f0_Down)
 (oi_Turned:W.findIn K (.ref C_Turned) "__init__"=some (some (.ref f0_Turned))) (ck_Turned:ckC K C_Turned "Turned" f0_Turned ["way","part"]=true) (dm0_Turned:Dm K "__init__" "Turned.__init__" b1s f0_Turned)
 (oi_Dyed:W.findIn K (.ref C_Dyed) "__init__"=some (some (.ref f0_Dyed))) (ck_Dyed:ckC K C_Dyed "Dyed" f0_Dyed ["one","other","part"]=true) (dm0_Dyed:Dm K "__init__" "Dyed.__init__" b6o f0_Dyed)
 (fi_Plain_deep:W.findIn K (.ref C_Plain) "deep"=some (some (.ref f_Motif_deep)))
 (fi_Named_deep:W.findIn K (.ref C_Named) "deep"=some (some (.ref f_Motif_deep)))
 (fi_Beside_deep:W.findIn K (.ref C_Beside) "deep"=some (some (.ref f_Motif_deep)))
 (fi_Above_deep:W.findIn K (.ref C_Above) "deep"=some (some (.ref f_Motif_deep)))
 (fi_Across_deep:W.findIn K (.ref C_Across) "deep"=some (some (.ref f_Motif_deep)))
 (fi_Down_deep:W.findIn K (.ref C_Down) "deep"=some (some (.ref f_Motif_deep)))
 (fi_Turned_deep:W.findIn K (.ref C_Turned) "deep"=some (some (.ref f_Motif_deep)))
 (fi_Dyed_deep:W.findIn K (.ref C_Dyed) "deep"=some (some (.ref f_Motif_deep)))
 (fi_Plain_inner:W.findIn K (.ref C_Plain) "inner"=some (some (.ref f_Motif_inner)))
 (fi_Named_inner:W.findIn K (.ref C_Named) "inner"=some (some (.ref f_Motif_inner)))
 (fi_Beside_inner:W.findIn K (.ref C_Beside) "inner"=some (some (.ref f_Beside_inner)))
 (fi_Above_inner:W.findIn K (.ref C_Above) "inner"=some (some (.ref f_Above_inner)))
 (fi_Across_inner:W.findIn K (.ref C_Across) "inner"=some (some (.ref f_Across_inner)))
 (fi_Down_inner:W.findIn K (.ref C_Down) "inner"=some (some (.ref f_Down_inner)))
 (fi_Turned_inner:W.findIn K (.ref C_Turned) "inner"=some (some (.ref f_Turned_inner)))
 (fi_Dyed_inner:W.findIn K (.ref C_Dyed) "inner"=some (some (.ref f_Dyed_inner)))
 (fi_Plain_names:W.findIn K (.ref C_Plain) "names"=some (some (.ref f_Motif_names)))
 (fi_Named_names:W.findIn K (.ref C_Named) "names"=some (some (.ref f_Named_names)))
 (fi_Beside_names:W.findIn K (.ref C_Beside) "names"=some (some (.ref f_Motif_names)))
 (fi_Above_names:W.findIn K (.ref C_Above) "names"=some (some (.ref f_Motif_names)))
 (fi_Across_names:W.findIn K (.ref C_Across) "names"=some (some (.ref f_Motif_names)))
 (fi_Down_names:W.findIn K (.ref C_Down) "names"=some (some (.ref f_Motif_names)))
 (fi_Turned_names:W.findIn K (.ref C_Turned) "names"=some (some (.ref f_Motif_names)))
 (fi_Dyed_names:W.findIn K (.ref C_Dyed) "names"=some (some (.ref f_Motif_names)))
 (fi_Plain_text:W.findIn K (.ref C_Plain) "text"=some (some (.ref f_Plain_text)))
 (fi_Named_text:W.findIn K (.ref C_Named) "text"=some (some (.ref f_Named_text)))
 (fi_Beside_text:W.findIn K (.ref C_Beside) "text"=some (some (.ref f_Beside_text)))
 (fi_Above_text:W.findIn K (.ref C_Above) "text"=some (some (.ref f_Above_text)))
 (fi_Across_text:W.findIn K (.ref C_Across) "text"=some (some (.ref f_Across_text)))
 (fi_Down_text:W.findIn K (.ref C_Down) "text"=some (some (.ref f_Down_text)))
 (fi_Turned_text:W.findIn K (.ref C_Turned) "text"=some (some (.ref f_Turned_text)))
 (fi_Dyed_text:W.findIn K (.ref C_Dyed) "text"=some (some (.ref f_Dyed_text)))
 (B4:Dm K "inner" "Motif.inner" a2F f_Motif_inner)
 (C7:Dm K "inner" "Beside.inner" a1T f_Beside_inner)
 (D9:Dm K "inner" "Above.inner" a2E f_Above_inner)
 (C6:Dm K "inner" "Across.inner" a1S f_Across_inner)
 (G7:Dm K "inner" "Down.inner" a3w f_Down_inner)
 (C8:Dm K "inner" "Turned.inner" a1U f_Turned_inner)
 (G8:Dm K "inner" "Dyed.inner" a3x f_Dyed_inner)
 (J3:Dm K "names" "Named.names" a2G f_Named_names)
 (n8:Dm K "names" "Motif.names" a0G f_Motif_names)
 (u9:Dm K "text" "Plain.text" a3z f_Plain_text)
 (u8:Dm K "text" "Named.text" a3y f_Named_text)
 (d_Above_text:Dm K "text" "Above.text" a1q f_Above_text)
 (d_Across_text:Dm K "text" "Across.text" a0E f_Across_text)
 (d_Beside_text:Dm K "text" "Beside.text" a0F f_Beside_text)
 (d_Down_text:Dm K "text" "Down.text" a2i f_Down_text)
 (d_Dyed_text:Dm K "text" "Dyed.text" a2j f_Dyed_text)
 (d_Turned_text:Dm K "text" "Turned.text" a0H f_Turned_text)
 (v7:Dm K "deep" "Motif.deep" a1r f_Motif_deep)
 (ks_Above:a8e K (.ref C_Above) [("Plain",C_Plain),("Named",C_Named),("Beside",C_Beside),("Above",C_Above),("Across",C_Across),("Down",C_Down),("Turned",C_Turned),("Dyed",C_Dyed)] [false,false,false,true,false,false,false,false]=true)
 (ks_Across:a8e K (.ref C_Across) [("Plain",C_Plain),("Named",C_Named),("Beside",C_Beside),("Above",C_Above),("Across",C_Across),("Down",C_Down),("Turned",C_Turned),("Dyed",C_Dyed)] [false,false,false,false,true,false,false,false]=true)
 (ks_Beside:a8e K (.ref C_Beside) [("Plain",C_Plain),("Named",C_Named),("Beside",C_Beside),("Above",C_Above),("Across",C_Across),("Down",C_Down),("Turned",C_Turned),("Dyed",C_Dyed)] [false,false,true,false,false,false,false,false]=true)
 (ks_Down:a8e K (.ref C_Down) [("Plain",C_Plain),("Named",C_Named),("Beside",C_Beside),("Above",C_Above),("Across",C_Across),("Down",C_Down),("Turned",C_Turned),("Dyed",C_Dyed)] [false,false,false,false,false,true,false,false]=true)
 (ks_Dyed:a8e K (.ref C_Dyed) [("Plain",C_Plain),("Named",C_Named),("Beside",C_Beside),("Above",C_Above),("Across",C_Across),("Down",C_Down),("Turned",C_Turned),("Dyed",C_Dyed)] [false,false,false,false,false,false,false,true]=true)
 (ks_Motif:a8e K (.ref C_Motif) [("Plain",C_Plain),("Named",C_Named),("Beside",C_Beside),("Above",C_Above),("Across",C_Across),("Down",C_Down),("Turned",C_Turned),("Dyed",C_Dyed)] [true,true,true,true,true,true,true,true]=true)
 (ks_Named:a8e K (.ref C_Named) [("Plain",C_Plain),("Named",C_Named),("Beside",C_Beside),("Above",C_Above),("Across",C_Across),("Down",C_Down),("Turned",C_Turned),("Dyed",C_Dyed)] [false,true,false,false,false,false,false,false]=true)
 (ks_Plain:a8e K (.ref C_Plain) [("Plain",C_Plain),("Named",C_Named),("Beside",C_Beside),("Above",C_Above),("Across",C_Across),("Down",C_Down),("Turned",C_Turned),("Dyed",C_Dyed)] [true,false,false,false,false,false,false,false]=true)
 (ks_Turned:a8e K (.ref C_Turned) [("Plain",C_Plain),("Named",C_Named),("Beside",C_Beside),("Above",C_Above),("Across",C_Across),("Down",C_Down),("Turned",C_Turned),("Dyed",C_Dyed)] [false,false,false,false,false,false,true,false]=true)
 (k2:W.specialIn K (.builtin "object.__class__") "__get__"=some (some (.builtin "getset_descriptor.__get__"))) (k3:W.takesIn K (.builtin "object.__class__")=some true)
 (xa_NoCloth:W.nsIn K mainGlobals "NoCloth"=some (some (.ref C_NoCloth))) (xq_NoCloth:(a7t K C_NoCloth "NoCloth" && W.excIn K C_NoCloth b2c "ValueError.__new__")=true)
 (im_NoCloth_NoCloth:b3g K C_NoCloth C_NoCloth=true)
 (z_all:W.nsIn K mainGlobals "all"=some none)
 (z_bool:W.nsIn K mainGlobals "bool"=some none)
 (z_int:W.nsIn K mainGlobals "int"=some none)
 (z_isinstance:W.nsIn K mainGlobals "isinstance"=some none)
 (z_len:W.nsIn K mainGlobals "len"=some none)
 (z_list:W.nsIn K mainGlobals "list"=some none)
 (z_max:W.nsIn K mainGlobals "max"=some none)
 (z_min:W.nsIn K mainGlobals "min"=some none)
 (z_range:W.nsIn K mainGlobals "range"=some none)
 (z_set:W.nsIn K mainGlobals "set"=some none)
 (z_sorted:W.nsIn K mainGlobals "sorted"=some none)
 (z_str:W.nsIn K mainGlobals "str"=some none)
 (z_tuple:W.nsIn K mainGlobals "tuple"=some none)
 (z_zip:W.nsIn K mainGlobals "zip"=some none)
 (e_LONGEST:W.nsIn K mainGlobals "LONGEST"=some (some uu_LONGEST)) (q_LONGEST:Y0 K 40 uu_LONGEST=some a1v)
 (e_MOST_FIGURES:W.nsIn K mainGlobals "MOST_FIGURES"=some (some uu_MOST_FIGURES)) (q_MOST_FIGURES:Y0 K 40 uu_MOST_FIGURES=some a0a)
 (e_LONGEST_WORD:W.nsIn K mainGlobals "LONGEST_WORD"=some (some uu_LONGEST_WORD)) (q_LONGEST_WORD:Y0 K 40 uu_LONGEST_WORD=some Z9)
 (e_WORDS:W.nsIn K mainGlobals "WORDS"=some (some uu_WORDS)) (q_WORDS:Y0 K 40 uu_WORDS=some a8y)
 (e_TURNING:W.nsIn K mainGlobals "TURNING"=some (some uu_TURNING)) (q_TURNING:Y0 K 40 uu_TURNING=some a22)
 (e_DEEPEST:W.nsIn K mainGlobals "DEEPEST"=some (some uu_DEEPEST)) (q_DEEPEST:Y0 K 40 uu_DEEPEST=some a5r)
 (e_MOST_PARTS:W.nsIn K mainGlobals "MOST_PARTS"=some (some uu_MOST_PARTS)) (q_MOST_PARTS:Y0 K 40 uu_MOST_PARTS=some a0b)
 (e_MOST_TIMES:W.nsIn K mainGlobals "MOST_TIMES"=some (some uu_MOST_TIMES)) (q_MOST_TIMES:Y0 K 40 uu_MOST_TIMES=some a1s)
 :∃fd:FuncData,(∀(s:AG) (v:AA),BindsTo s fd ⟨[v],[]⟩ [("_law_script",v)])/\∀base:Heap,K.In base->base.Ns mainGlobals mg->U0 l.prog w K mg base CX0 48 fa fd ["_law_script"] (b36 K):=by
 have x_NoCloth:XC K mg "NoCloth" C_NoCloth:=c4Q X G xa_NoCloth xq_NoCloth
 have M:MoB K mg:=⟨W.mg_none_of X G z_all,W.mg_none_of X G z_bool,W.mg_none_of X G z_int,W.mg_none_of X G z_isinstance,W.mg_none_of X G z_len,W.mg_none_of X G z_list,W.mg_none_of X G z_max,W.mg_none_of X G z_min,W.mg_none_of X G z_range,W.mg_none_of X G z_set,W.mg_none_of X G z_sorted,W.mg_none_of X G z_str,W.mg_none_of X G z_tuple,W.mg_none_of X G z_zip⟩
 have mm_LONGEST:=W.mg_of X G e_LONGEST
 have mm_MOST_FIGURES:=W.mg_of X G e_MOST_FIGURES
 have mm_LONGEST_WORD:=W.mg_of X G e_LONGEST_WORD
 have mm_WORDS:=W.mg_of X G e_WORDS
 have mm_TURNING:=W.mg_of X G e_TURNING
 have mm_DEEPEST:=W.mg_of X G e_DEEPEST
 have mm_MOST_PARTS:=W.mg_of X G e_MOST_PARTS
 have mm_MOST_TIMES:=W.mg_of X G e_MOST_TIMES
 have cc_Plain:=a7R oa_Plain oi_Plain ck_Plain
 have cc_Named:=a7R oa_Named oi_Named ck_Named
 have cc_Beside:=a7R oa_Beside oi_Beside ck_Beside
 have cc_Above:=a7R oa_Above oi_Above ck_Above
 have cc_Across:=a7R oa_Across oi_Across ck_Across
 have cc_Down:=a7R oa_Down oi_Down ck_Down
 have cc_Turned:=a7R oa_Turned oi_Turned ck_Turned
 have cc_Dyed:=a7R oa_Dyed oi_Dyed ck_Dyed
 have kk:=(a01 cc_Plain.kc (cc_Plain.ki k2 k3) (a01 cc_Named.kc (cc_Named.ki k2 k3) (a01 cc_Beside.kc (cc_Beside.ki k2 k3) (a01 cc_Above.kc (cc_Above.ki k2 k3) (a01 cc_Across.kc (cc_Across.ki k2 k3) (a01 cc_Down.kc (cc_Down.ki k2 k3) (a01 cc_Turned.kc (cc_Turned.ki k2 k3) (a01 cc_Dyed.kc (cc_Dyed.ki k2 k3) c0w))))))))
 obtain⟨a,ha⟩:∃a:Ad,a=⟨C_Plain,C_Named,C_Beside,C_Above,C_Across,C_Down,C_Turned,C_Dyed,C_Motif,f_Motif_inner,f_Beside_inner,f_Above_inner,f_Across_inner,f_Down_inner,f_Turned_inner,f_Dyed_inner,f_Named_names,f_Motif_names,f_Plain_text,f_Named_text,f_Above_text,f_Across_text,f_Beside_text,f_Down_text,f_Dyed_text,f_Turned_text,f_Motif_deep⟩:=⟨_,rfl⟩
 have O:Oc K mg a:=by
  rw [ha]
  exact⟨cc_Plain.kc,cc_Named.kc,cc_Beside.kc,cc_Above.kc,cc_Across.kc,cc_Down.kc,cc_Turned.kc,cc_Dyed.kc,fi_Plain_deep,fi_Named_deep,fi_Beside_deep,fi_Above_deep,fi_Across_deep,fi_Down_deep,fi_Turned_deep,fi_Dyed_deep,fi_Plain_inner,fi_Named_inner,fi_Beside_inner,fi_Above_inner,fi_Across_inner,fi_Down_inner,fi_Turned_inner,fi_Dyed_inner,fi_Plain_names,fi_Named_names,fi_Beside_names,fi_Above_names,fi_Across_names,fi_Down_names,fi_Turned_names,fi_Dyed_names,fi_Plain_text,fi_Named_text,fi_Beside_text,fi_Above_text,fi_Across_text,fi_Down_text,fi_Turned_text,fi_Dyed_text,(C1 cc_Across.kc (cc_Across.na _ (by decide)) (C1 cc_Down.kc (cc_Down.na _ (by decide)) R7)),(C1 cc_Named.kc (cc_Named.na _ (by decide)) R7),(C1 cc_Dyed.kc (cc_Dyed.na _ (by decide)) R7),(C1 cc_Dyed.kc (cc_Dyed.na _ (by decide)) R7),(C1 cc_Across.kc (cc_Across.na _ (by decide)) (C1 cc_Down.kc (cc_Down.na _ (by decide)) (C1 cc_Turned.kc (cc_Turned.na _ (by decide)) (C1 cc_Dyed.kc (cc_Dyed.na _ (by decide)) R7)))),(C1 cc_Beside.kc (cc_Beside.na _ (by decide)) (C1 cc_Above.kc (cc_Above.na _ (by decide)) R7)),(C1 cc_Plain.kc (cc_Plain.na _ (by decide)) R7),(C1 cc_Turned.kc (cc_Turned.na _ (by decide)) R7),W.mg_of X G oa_Above,W.mg_of X G oa_Across,W.mg_of X G oa_Beside,W.mg_of X G oa_Down,W.mg_of X G oa_Dyed,W.mg_of X G oa_Motif,W.mg_of X G oa_Named,W.mg_of X G oa_Plain,W.mg_of X G oa_Turned,a2z kk ks_Above,a2z kk ks_Across,a2z kk ks_Beside,a2z kk ks_Down,a2z kk ks_Dyed,a2z kk ks_Motif,a2z kk ks_Named,a2z kk ks_Plain,a2z kk ks_Turned⟩
 refine c0B (c3Z.to X G) hfa (fun _ _ _ _ _ _ _=>rfl) main fun base f fd kb F=> ?_
 have i_Above:Q1 l.prog w K mg base "Above" ["parts"] 1:=a00 (k:=0) dm0_Above b7n rfl cc_Above.kc (W.mg_of X G oa_Above) cc_Above.mo cc_Above.na (by decide+kernel) (by decide) (fun _ _ _ _ _ _=>el2 (fun _ _=>rfl)) fun cdv A outer s H E hr=>(K1 (a0k (pv 0) (pv 1) rfl) a1p)
 have i_Across:Q1 l.prog w K mg base "Across" ["many","part"] 1:=a00 (k:=0) dm0_Across b5r rfl cc_Across.kc (W.mg_of X G oa_Across) cc_Across.mo cc_Across.na (by decide+kernel) (by decide) (fun _ _ _ _ _ _=>el3 (fun _ _ _=>rfl)) fun cdv A outer s H E hr=>(K1 (a0k (pv 0) (pv 1) rfl) (K1 (a0k (pv 0) (pv 2) rfl) a1p))
 have i_Beside:Q1 l.prog w K mg base "Beside" ["parts"] 1:=a00 (k:=0) dm0_Beside b5s rfl cc_Beside.kc (W.mg_of X G oa_Beside) cc_Beside.mo cc_Beside.na (by decide+kernel) (by decide) (fun _ _ _ _ _ _=>el2 (fun _ _=>rfl)) fun cdv A outer s H E hr=>(K1 (a0k (pv 0) (pv 1) rfl) a1p)
 have i_Down:Q1 l.prog w K mg base "Down" ["many","part"] 1:=a00 (k:=0) dm0_Down b9x rfl cc_Down.kc (W.mg_of X G oa_Down) cc_Down.mo cc_Down.na (by decide+kernel) (by decide) (fun _ _ _ _ _ _=>el3 (fun _ _ _=>rfl)) fun cdv A outer s H E hr=>(K1 (a0k (pv 0) (pv 1) rfl) (K1 (a0k (pv 0) (pv 2) rfl) a1p))
 have i_Dyed:Q1 l.prog w K mg base "Dyed" ["one","other","part"] 1:=a00 (k:=0) dm0_Dyed b9y rfl cc_Dyed.kc (W.mg_of X G oa_Dyed) cc_Dyed.mo cc_Dyed.na (by decide+kernel) (by decide) (fun _ _ _ _ _ _=>el4 (fun _ _ _ _=>rfl)) fun cdv A outer s H E hr=>(K1 (a0k (pv 0) (pv 1) rfl) (K1 (a0k (pv 0) (pv 2) rfl) (K1 (a0k (pv 0) (pv 3) rfl) a1p)))
 have i_Named:Q1 l.prog w K mg base "Named" ["name"] 1:=a00 (k:=0) dm0_Named b7o rfl cc_Named.kc (W.mg_of X G oa_Named) cc_Named.mo cc_Named.na (by decide+kernel) (by decide) (fun _ _ _ _ _ _=>el2 (fun _ _=>rfl)) fun cdv A outer s H E hr=>(K1 (a0k (pv 0) (pv 1) rfl) a1p)
 have i_Plain:Q1 l.prog w K mg base "Plain" ["rows"] 1:=a00 (k:=0) dm0_Plain b7p rfl cc_Plain.kc (W.mg_of X G oa_Plain) cc_Plain.mo cc_Plain.na (by decide+kernel) (by decide) (fun _ _ _ _ _ _=>el2 (fun _ _=>rfl)) fun cdv A outer s H E hr=>(K1 (a0k (pv 0) (pv 1) rfl) a1p)
 have i_Turned:Q1 l.prog w K mg base "Turned" ["way","part"] 1:=a00 (k:=0) dm0_Turned b5t rfl cc_Turned.kc (W.mg_of X G oa_Turned) cc_Turned.mo cc_Turned.na (by decide+kernel) (by decide) (fun _ _ _ _ _ _=>el3 (fun _ _ _=>rfl)) fun cdv A outer s H E hr=>(K1 (a0k (pv 0) (pv 1) rfl) (K1 (a0k (pv 0) (pv 2) rfl) a1p))
 have I:Io l.prog w K mg base:=⟨i_Above,i_Across,i_Beside,i_Down,i_Dyed,i_Named,i_Plain,i_Turned⟩
 have b1A:=b0z l.prog w base (a3d.to X G)
 obtain a24:=b2e l.prog w base (M3.to X G) M I 12
 obtain a1w:=b2g l.prog w base (M4.to X G) M 12
 have b0E:=b5i l.prog w base (a2P.to X G) M
 have a2o:=a9F l.prog w base (E2.to X G) b0E
 have a8a:=a7x l.prog w base (a05.to X G) M mm_LONGEST_WORD q_LONGEST_WORD a2o
 have b6y:=b5g l.prog w base (a2O.to X G) mm_WORDS q_WORDS a8a
 have b7z:=b7c l.prog w base (a8P.to X G) M mm_LONGEST q_LONGEST
 have b4g:=b3G l.prog w base (a51.to X G) M mm_LONGEST q_LONGEST b7z
 have b1B:=b0A l.prog w base (a3e.to X G) M kb x_NoCloth b4g
 have b4k:=b3Q l.prog w base (a1F.to X G) I x_NoCloth im_NoCloth_NoCloth b1B
 have a5C:=a9E l.prog w base (U6.to X G) b0E
 have b2O:=b2p l.prog w base (a4o.to X G) M mm_MOST_FIGURES q_MOST_FIGURES a5C
 have a7a:=a6V l.prog w base (a0g.to X G) b2O
 have b2P:=b2q l.prog w base (a0T.to X G) mm_MOST_TIMES q_MOST_TIMES a5C a7a
 have a8A:=a8k l.prog w base (N5.to X G) a2o
 obtain⟨D_dyed_at,D_laid_at,D_last_part_at,D_made_of_parts_at,a26,D_parts_at,D_repeated_at,D_turned_at⟩:=b3F l.prog w base (d_dyed_at.to X G) (d_laid_at.to X G) (d_last_part_at.to X G) (d_made_of_parts_at.to X G) (d_motif_at.to X G) (d_parts_at.to X G) (d_repeated_at.to X G) (d_turned_at.to X G) M I mm_MOST_PARTS q_MOST_PARTS mm_TURNING q_TURNING a8A a2o b6y b4k b2P 40
 have b1C:=b0B l.prog w base (a3f.to X G) M mm_DEEPEST q_DEEPEST a26
 have a7G:=b2l l.prog w base (L1.to X G)
 obtain X4:=a7w l.prog w base (R6.to X G) a7G 12
 obtain a23:=b2d l.prog w base (a1D.to X G) M a7G 12
 obtain a6s:=b5d l.prog w base a (a0Q.to X G) M O 12
 have a5A:=a9A l.prog w base a (mg:=mg) (by rw [ha];exact B4)
 have a34:=a8i l.prog w base a (mg:=mg) (by rw [ha];exact C7) O
 have a5z:=a9x l.prog w base a (mg:=mg) (by rw [ha];exact D9) O
 have a33:=a8h l.prog w base a (mg:=mg) (by rw [ha];exact C6) O
 have a6o:=b0u l.prog w base a (mg:=mg) (by rw [ha];exact G7) O
 have a35:=a8j l.prog w base a (mg:=mg) (by rw [ha];exact C8) O
 have a6p:=b0v l.prog w base a (mg:=mg) (by rw [ha];exact G8) O
 have a5B:=a9C l.prog w base a (mg:=mg) (by rw [ha];exact J3) O
 obtain a0r:=a8g l.prog w base a (by rw [ha];exact n8) M O a5A a34 a5z a33 a6o a35 a6p a5B 12
 have a98:=a9H l.prog w base (a2v.to X G)
 have a6r:=b0y l.prog w base a (mg:=mg) (by rw [ha];exact u9) O a98
 have a6q:=b0x l.prog w base a (mg:=mg) (by rw [ha];exact u8) O
 obtain⟨a1j,a0p,a0q,a13,a14,a0s,D_written_parts⟩:=a9v l.prog w base a (by rw [ha];exact d_Above_text) (by rw [ha];exact d_Across_text) (by rw [ha];exact d_Beside_text) (by rw [ha];exact d_Down_text) (by rw [ha];exact d_Dyed_text) (by rw [ha];exact d_Turned_text) (d_written_parts.to X G) M O a6r a6q 20
 obtain a1k:=a9w l.prog w base a (by rw [ha];exact v7) M O a5A a34 a5z a33 a6o a35 a6p 12
 have b2N:=b2o l.prog w base a (a0S.to X G) M O a24 a1w b1C X4 a23 a6s a0r a5B a6r a6q a0q a1j a0p a13 a0s a14 a1k
 have a7H:=b2n l.prog w base (a0R.to X G) M
 have b4i:=b3J l.prog w base (a3c.to X G) M a7H
 have b4j:=b3M l.prog w base (a52.to X G) M
 have b4h:=b3I l.prog w base (a1E.to X G) M
 obtain a25:=b2f l.prog w base (V9.to X G) M b4h 12
 have b2L:=b2k l.prog w base (a4m.to X G) M b4i a7H b4j a25 a1w
 have b2M:=b2m l.prog w base (a4n.to X G)
 exact c2Y l.prog w base F M b1A b2N b2L b2M
end LW
namespace PySem.W.Fast
def tw8074235967362142497:=()
def tw1742074497183441031:=()
def tw972871911993448216:=()
def tw9229395940955541848:=()
def tw12094602297127101820:=()
def tw12075913730142892639:=()
def tw2649911131365348464:=()
def tw1619648305479653634:=()
def tw5380993593559681113:=()
def tw18217795038085405176:=()
def tw18326779939457420329:=()
def tw13399590303171624058:=()
def tw5799243273638653975:=()
def tw14500278005424466499:=()
def tw17903151670992275268:=()
def tw6205155228736433240:=()
def tw5506677646324394597:=()
def tw18325555963948507564:=()
def tw12001777515990999116:=()
def tw12523347488120549417:=()
def tw6173591107816879605:=()
def tw7613287697555694524:=()
def tw852095318910338664:=()
def tw4049362067557593147:=()
def tw3357072228275084048:=()
def tw12322719239968967006:=()
def tw16198671420884338753:=()
def tw8311503424936309108:=()
def tw14032785547463727972:=()
def tw15381866963577661984:=()
def tw15447052021724622014:=()
def tw3468762061241483408:=()
def tw2218193245154539065:=()
def tw14722955892832318336:=()
def tw17191928240008143489:=()
def tw14328100280214911570:=()
def tw14840298888843914178:=()
def tw2520050676499713667:=()
def tw15411455138495171949:=()
def tw6348148170190155611:=()
def tw8212982257515531434:=()
def tw5160474392654224011:=()
def tw15037118609102574760:=()
def tw18024180673359517343:=()
def tw11210778317254931657:=()
def tw9458673892334199000:=()
def tw7129708164116678507:=()
def tw2144845923426860456:=()
def tw3868068506001909952:=()
def tw6297130492460919645:=()
def tw16839791864455270429:=()
def tw11647459593422016928:=()
end PySem.W.Fast
open PySem PySem.W PyProof.Rows
set_option maxRecDepth 100000 in
set_option maxHeartbeats 0 in
theorem PySem.Challenge.cw_carpetkin_k21_motifs_written_holds : PySem.Challenge.rw_carpetkin_k21_motifs_written.Holds := by
 w_on;o_law;k_head;(case hw=>w_witness2)
 k_fill
 refine PU.c4P (k:=48) (x:="_law_script") (l:=PySem.Challenge.rw_carpetkin_k21_motifs_written) (by decide) rfl rfl (fun w h Y=>PySem.W.kIn_of Y) ?F
 case F=>
  intro w mg fa h KX G hmg
  apply LW.c16 KX G hmg
  all_goals first|(apply PU.c30<;>k_is)|(apply PU.c31<;>first|k_is|kernel_rfl)|k_is|kernel_rfl|skip
