import PyProof.Rows.All
import Wide.All
import OpenK.AllK
import Wide.FinOn
import Lean
import PyProof.EqAt
import PyProof.EqKinds
import PyProof.TupleCall
import PyProof.Rows.SortPure
import PyProof.Rows.SortWalk
import PyProof.AttrMissHeap
import KE.KDictOf
import KE.KIntText
import PyProof.StrBlockH
import PyProof.CallStr
import PyProof.StrLawsIn
import PyProof.StrLawsOcc
import PyProof.StationsW
import PyProof.ExcClass2
import PyProof.ExcBaseAll.ValueError
import PyProof.RulesTry
import PyProof.Rows.CatchBare
import PyProof.Rows.CatchOwn
import OpenK.KOwn
import PyProof.NsDelKeeps
import PyProof.Rows.RuleDivmod
import PyProof.Rows.SumAny
import PyProof.PureStr
import PySem.Challenge.RW_carpetkin_k64_whole_kind_of_a_carpet
set_option Elab.async false
set_option linter.all false
set_option maxRecDepth 100000
noncomputable section
open PySem renaming Value -> AA
open PySem renaming Addr -> AB
open PySem renaming Shared -> AC
open PySem.Str renaming ofString -> AD
open PySem.W renaming Frag -> AE
open Option renaming bind_some -> AF
open PySem renaming Expr -> AG
open PySem renaming wpAny_bind -> AH
open List renaming map_cons -> AI
open PySem renaming wpAny -> AJ
open PySem renaming World -> AK
open List renaming range -> AL
open PySem renaming sizeLine -> AM
open PySem renaming Program -> AN
open PySem renaming Around -> AO
open List renaming replicate_zero -> AQ
open List renaming length_cons -> AR
open List renaming map_nil -> AS
open PySem renaming wpAny_pure -> AT
open List renaming set_cons_zero -> AU
open List renaming set_cons_succ -> AV
open PySem renaming starEach -> AW
open List renaming replicate_succ -> AX
open List renaming length_nil -> AY
open List renaming nil_append -> AZ
open Nat renaming le_refl -> Aa
open List renaming cons_append -> Ab
open List renaming replicate -> Ac
open Nat renaming reduceLeDiff -> Ad
open List renaming length_map -> Ae
open List renaming append_nil -> Af
open List renaming mem_map -> Ag
open List renaming length_append -> Ah
open PySem.Heap renaming lt_size -> Ai
open List renaming size_toArray -> Aj
open List renaming mem_cons_of_mem -> Ak
open Bool renaming false_ne_true -> Al
open List renaming mem_cons_self -> Am
open PySem.Heap renaming get?_push_of_some -> An
open Option renaming map_some -> Ao
open List renaming mem_cons -> Ap
open List renaming length_range -> Aq
open Nat renaming ne_of_lt -> Ar
open PySem.Heap renaming get?_push_size -> As
open List renaming getElem?_eq_some_iff -> At
open List renaming getElem?_map -> Au
open Nat renaming lt_of_lt_of_le -> Av
open List renaming map_map -> Aw
open Bool renaming false_eq_true -> Ax
open List renaming mem_append_right -> Ay
open List renaming map_append -> Az
open List renaming mem_append -> BA
open List renaming mem_of_getElem? -> BB
open List renaming getElem?_append_left -> BC
open Nat renaming le_of_lt -> BD
open List renaming getElem?_set_self -> BE
open List renaming getElem?_eq_getElem -> BF
open Int renaming toNat_natCast -> BG
open List renaming mem_append_left -> BH
namespace L2
open PySem PySem.Spec PyProof.Rows
theorem B6{α β γ:Type _}{p q r:α->β->γ->Prop}{C:Prop}(h:∃a b c,p a b c/\q a b c/\r a b c)(k:∀a b c,p a b c->q a b c->r a b c->C):C:=
 h.elim fun a h=>h.elim fun b h=>h.elim fun c h=>k a b c h.1 h.2.1 h.2.2
theorem u3{α β:Type _}{p q r:α->β->Prop}{C:Prop}(h:∃a b,p a b/\q a b/\r a b)(k:∀a b,p a b->q a b->r a b->C):C:=
 h.elim fun a h=>h.elim fun b h=>k a b h.1 h.2.1 h.2.2
theorem a53{α β:Type _}{p q r s:α->β->Prop}{C:Prop}(h:∃a b,p a b/\q a b/\r a b/\s a b)(k:∀a b,p a b->q a b->r a b->s a b->C):C:=
 h.elim fun a h=>h.elim fun b h=>k a b h.1 h.2.1 h.2.2.1 h.2.2.2
abbrev m5:=Sum Int Str
def a8B:m5->AA->Bool
 | .inl k,v=>Value.isInt k v
 | .inr x,v=>Value.isStrOf x v
def b4f(w:AK):m5->Int
 | .inl k=>hashInt k
 | .inr x=>hashStr w x
theorem E2:∀{k:m5} {v:AA},a8B k v=true->(∃i t,k=Sum.inl i/\v=Value.int i t)\/(∃x t,k=Sum.inr x/\v=Value.str x t)
 | .inl i,v,h=>by
   obtain⟨t,e⟩:=Value.isInt_shape (k:=i) (v:=v) h
   exact .inl ⟨i,t,rfl,e⟩
 | .inr x,v,h=>by
   obtain⟨t,e⟩:=Value.isStrOf_shape (x:=x) (v:=v) h
   exact .inr ⟨x,t,rfl,e⟩
theorem b4g(i:Int)(t:Tok):a8B (.inl i) (.int i t)=true:=by simp [a8B,Value.isInt]
theorem b4h(x:Str)(t:Tok):a8B (.inr x) (.str x t)=true:=by simp [a8B,Value.isStrOf]
theorem b9p(a b:Int):decide ((Sum.inl a:m5)=Sum.inl b)=(a==b):=by
 by_cases e:a=b
 ·subst e;simp
 ·have h:¬(Sum.inl a:m5)=Sum.inl b:=fun q=>e (Sum.inl.inj q)
  rw [decide_eq_false h]
  exact(beq_eq_false_iff_ne.mpr e).symm
theorem b9s(a b:Str):decide ((Sum.inr a:m5)=Sum.inr b)=decide (a=b):=by
 by_cases e:a=b
 ·subst e;simp
 ·have h:¬(Sum.inr a:m5)=Sum.inr b:=fun q=>e (Sum.inr.inj q)
  rw [decide_eq_false h,decide_eq_false e]
theorem b9q(a:Int)(b:Str):decide ((Sum.inl a:m5)=Sum.inr b)=false:=decide_eq_false (fun q=>nomatch q)
theorem b9r(a:Str)(b:Int):decide ((Sum.inr a:m5)=Sum.inl b)=false:=decide_eq_false (fun q=>nomatch q)
def A0(prog:AN)(w:AK):PySem.KeyKind prog w m5 where
 is:=a8B
 hash:=b4f w
 inj:=fun v a b ha hb=>by
  rcases E2 ha with⟨i,t,rfl,rfl⟩|⟨x,t,rfl,rfl⟩
  ·rcases E2 hb with⟨j,u,rfl,e⟩|⟨y,u,rfl,e⟩
   ·injection e with e1 _;rw [e1]
   ·exact nomatch e
  ·rcases E2 hb with⟨j,u,rfl,e⟩|⟨y,u,rfl,e⟩
   ·exact nomatch e
   ·injection e with e1 _;rw [e1]
 byValue:=fun k v h=>by
   rcases E2 h with⟨i,t,rfl,rfl⟩|⟨x,t,rfl,rfl⟩<;>rfl
 pyHash:=fun hv h=>by
  rcases E2 hv with⟨i,t,rfl,rfl⟩|⟨x,t,rfl,rfl⟩
  ·exact wpAny_pyHash_int h
  ·exact wpAny_pyHash_str h
 eqBool:=fun hu hv h=>by
  rcases E2 hu with⟨i,t,rfl,rfl⟩|⟨x,t,rfl,rfl⟩
  ·rcases E2 hv with⟨j,u,rfl,rfl⟩|⟨y,u,rfl,rfl⟩
   ·rw [b9p] at h;exact wpAny_eqBool_int h
   ·rw [b9q] at h;exact SeqAt.EqAt.int_str i t y u _ _ _ _ h
  ·rcases E2 hv with⟨j,u,rfl,rfl⟩|⟨y,u,rfl,rfl⟩
   ·rw [b9r] at h;exact SeqAt.EqAt.str_int x t j u _ _ _ _ h
   ·rw [b9s] at h;exact wpAny_eqBool_str h
 «strs»:=fun k x t v h=>by
  rcases E2 h with⟨i,u,rfl,e⟩|⟨y,u,rfl,e⟩
  ·exact nomatch e
  ·injection e with e1 _
   subst e1
   cases v<;>rfl
theorem a5v(prog:AN)(w:AK)(i:Int)(t:Tok):(A0 prog w).is (.inl i) (.int i t)=true:=b4g i t
theorem a5w(prog:AN)(w:AK)(x:Str)(t:Tok):(A0 prog w).is (.inr x) (.str x t)=true:=b4h x t
inductive V where
 |non|bl (b:Bool)|int (i:Int)|str (x:Str)|byt (b:Array UInt8)|flt (b:UInt64)|ref (a:AB)|ty (n:String)
 deriving DecidableEq
def y6:V->AA->Prop
 | .non,u=>u=Value.none
 | .bl b,u=>u=Value.bool b
 | .int i,u=>∃t,u=Value.int i t
 | .str x,u=>∃t,u=Value.str x t
 | .byt b,u=>∃t,u=Value.bytes b t
 | .flt b,u=>∃t,u=Value.float b t
 | .ref a,u=>u=Value.ref a
 | .ty n,u=>u=Value.type n
abbrev u9:List V->List AA->Prop:=Paired y6
theorem u9.length{xs:List V}{us:List AA}(r:u9 xs us):xs.length=us.length:=Paired.length r
theorem u9.get:∀{xs:List V} {us:List AA} {i:Nat} {x:V},u9 xs us->xs[i]?=some x->∃u,us[i]?=some u/\y6 x u
 |_,_,_,_,.nil,e=>by simp at e
 |_,_,0,_,.cons r _,e=>by simp at e;subst e;exact⟨_,rfl,r⟩
 |_,_,i+1,x,.cons _ t,e=>by
  obtain⟨u,h1,h2⟩:=u9.get (i:=i) (x:=x) t (by simpa using e)
  exact⟨u,by simpa using h1,h2⟩
theorem u9.append:∀{xs ys:List V} {us ws:List AA},u9 xs us->u9 ys ws->u9 (xs++ys) (us++ws)
 |_,_,_,_,.nil,s=>s
 |_,_,_,_,.cons r t,s=> .cons r (u9.append t s)
theorem u9.take:∀{xs:List V} {us:List AA} (n:Nat),u9 xs us->u9 (xs.take n) (us.take n)
 |_,_,0,_=> .nil
 |_,_,_+1,.nil=> .nil
 |_,_,n+1,.cons r t=> .cons r (u9.take n t)
theorem u9.drop:∀{xs:List V} {us:List AA} (n:Nat),u9 xs us->u9 (xs.drop n) (us.drop n)
 |_,_,0,r=>r
 |_,_,_+1,.nil=> .nil
 |_,_,n+1,.cons _ t=>u9.drop n t
def a7U:Option V->Option AA->Prop
 |some v,some u=>y6 v u
 |none,none=>True
 |_,_=>False
def KV{κ:Type}:List (κ×V)->List (κ×AA)->Prop:=Paired fun(p:κ×V) (q:κ×AA)=>p.1=q.1/\y6 p.2 q.2
def kV:m5->V
 | .inl i=> .int i
 | .inr x=> .str x
inductive HO where
 |lst (xs:List V)
 |tup (xs:List V)
 |dK (kvs:List (m5×V))|dT (kvs:List (List m5×V))
 |set (S:Int->Bool) (n:Nat)
 |ins (C dx:AB) (fs:List (Str×V))
 |own (x:AB)
 |xd (fs:List (Str×V))
 |met (f x:AB)
 |rng (lo hi:Int)
 |frz (o:Obj) (u:HO)
 |tbl (ps:Array AA)
 |ext (φ:Heap->Prop)
abbrev Hp:=AB->Option HO
def upd(H:Hp)(a:AB)(o:HO):Hp:=fun b=>if b=a then some o else H b
theorem n0{H:Hp}{a:AB}{o:HO}:upd H a o a=some o:=by unfold upd;rw [if_pos rfl]
theorem j9{H:Hp}{a b:AB}{o:HO}(h:b≠a):upd H a o b=H b:=by unfold upd;rw [if_neg h]
theorem b0d{H:Hp}{a:AB}{o u:HO}:upd (upd H a o) a u=upd H a u:=by
 funext b;unfold upd;split<;>rfl
theorem O3{H:Hp}{a b:AB}{o u:HO}(h:H a=some o)(h':H b=some u)(d:o≠u):a≠b:=by
 intro e;subst e;rw [h] at h';exact d (Option.some.inj h')
theorem r9{H:Hp}{a b:AB}{o:HO}(h:H a=some o)(h':H b=none):a≠b:=by
 intro e;subst e;rw [h] at h';cases h'
section
variable (P:AN)(w:AK)
def L5(H:Hp)(h:Heap)(a:AB):HO->Prop
 | .lst xs=>xs.length<=AM/\∃(its:List AA) (n:Nat),u9 xs its/\h.get? a=some {cls:= .type "list",data:= .seq its.toArray n}
 | .tup xs=>xs.length<=AM/\∃its:List AA,u9 xs its/\IsTup h a its.toArray
 | .dK kvs=>kvs.length<=AM/\(a==sysModules)=false/\∃vs,KV kvs vs/\h.DictOf (A0 P w) a vs
 | .dT kvs=>kvs.length<=AM/\(a==sysModules)=false/\∃xs:List (List m5×AB×AA),
  Paired (fun(p:List m5×V) (q:List m5×AB×AA)=>p.1=q.1/\H q.2.1=some (.tup (p.1.map kV))/\y6 p.2 q.2.2) kvs xs/\
  ∃o es ep,h.get? a=some o/\o.ExactDict/\o.data= .dict es ep/\es.toList=xs.map (entryOfKey (tupleKind (A0 P w)))/\(xs.map (·.1)).Nodup
 | .set S n=>h.SetOf (intKind P w) a S n
 | .ins C dx fs=>H dx=some (.own a)/\fs.length<=1000/\dx≠a/\h.get? a=some (PySem.W.instObj C dx)/\
  ∃mA,h.Ns1 dx mA/\(∀f,a7U (fs.lookup f) (mA f))/\PySem.Within mA (fs.map (·.1))
 | .own _=>∃o,h.get? a=some o
 | .xd fs=>∃mA,h.Ns1 a mA/\∀f,a7U (fs.lookup f) (mA f)
 | .rng lo hi=>∃t u v,h.get? a=some {cls:= .type "range",data:= .fields #[.int lo t,.int hi u,.int 1 v]}
 | .frz o u=>h.get? a=some o/\L5 H h a u
 | .tbl ps=>h.get? a=some {cls:= .none,data:= .fields ps}
 | .met f x=>h.get? a=some (PySem.W.methodObj (.ref f) (.ref x))
 | .ext φ=>φ h/\(∃o,h.get? a=some o)/\∀h1 h2:Heap,φ h1->(∀o,h1.get? a=some o->h2.get? a=some o)->φ h2
def HOk(H:Hp)(h:Heap):Prop:=∀a o,H a=some o->L5 P w H h a o
end
section
variable {P:AN}{w:AK}{H H':Hp}{h h':Heap}{a:AB}{o:HO}
theorem L5.lt(x:L5 P w H h a o):a<h.objs.size:=by
 cases o with
 |lst xs=>obtain⟨_,_,_,_,e⟩:=x;exact Ai e
 |tup xs=>obtain⟨_,_,_,p⟩:=x;exact p.lt
 |dK kvs=>obtain⟨_,_,_,_,o,_,_,e,_⟩:=x;exact Ai e
 |dT kvs=>obtain⟨_,_,_,_,o,_,_,e,_⟩:=x;exact Ai e
 |set S n=>obtain⟨o,_,_,_,e,_⟩:=x;exact Ai e
 |ins C dx fs=>obtain⟨_,_,_,e,_⟩:=x;exact Ai e
 |own y=>obtain⟨_,e⟩:=x;exact Ai e
 |xd fs=>obtain⟨_,⟨_,_,_,e,_⟩,_⟩:=x;exact Ai e
 |rng lo hi=>obtain⟨_,_,_,e⟩:=x;exact Ai e
 |frz ob u=>obtain⟨e,_⟩:=x;exact Ai e
 |tbl ps=>exact Ai (show h.get? a=some _ from x)
 |met f y=>exact Ai (show h.get? a=some _ from x)
 |ext φ=>obtain⟨_,⟨_,e⟩,_⟩:=x;exact Ai e
theorem Paired.mapP{α β:Type}{F G:α->β->Prop}:∀{l₁:List α} {l₂:List β},Paired F l₁ l₂->(∀a b,F a b->G a b)->Paired G l₁ l₂
 |_,_,.nil,_=> .nil
 |_,_,.cons r t,f=> .cons (f _ _ r) (Paired.mapP t f)
theorem L5.stay(x:L5 P w H h a o)(k:∀b u,(b=a\/H b=some (.own a))->h.get? b=some u->h'.get? b=some u)
 (ho:∀b,H b=some (.own a)->H' b=some (.own a)) (ht:∀b xs,H b=some (.tup xs)->H' b=some (.tup xs)):L5 P w H' h' a o:=by
 induction o with
 |lst xs=>obtain⟨z,its,n,r,e⟩:=x;exact⟨z,its,n,r,k _ _ (.inl rfl) e⟩
 |tup xs=>obtain⟨z,its,r,ob,e,c⟩:=x;exact⟨z,its,r,ob,k _ _ (.inl rfl) e,c⟩
 |dK kvs=>obtain⟨z,y,vs,r,ob,es,ep,e,c⟩:=x;exact⟨z,y,vs,r,ob,es,ep,k _ _ (.inl rfl) e,c⟩
 |dT kvs=>
  obtain⟨z,y,xs,r,ob,es,ep,e,c⟩:=x
  exact⟨z,y,xs,Paired.mapP r fun p q z=>⟨z.1,ht _ _ z.2.1,z.2.2⟩,ob,es,ep,k _ _ (.inl rfl) e,c⟩
 |set S n=>obtain⟨ob,es,ep,t,e,c⟩:=x;exact⟨ob,es,ep,t,k _ _ (.inl rfl) e,c⟩
 |ins C dx fs=>
  obtain⟨d,z,ne,e,mA,⟨od,es,ep,e2,c⟩,r⟩:=x
  exact⟨ho _ d,z,ne,k _ _ (.inl rfl) e,mA,⟨od,es,ep,k _ _ (.inr d) e2,c⟩,r⟩
 |own y=>obtain⟨ob,e⟩:=x;exact⟨ob,k _ _ (.inl rfl) e⟩
 |xd fs=>obtain⟨mA,⟨od,es,ep,e,c⟩,r⟩:=x;exact⟨mA,⟨od,es,ep,k _ _ (.inl rfl) e,c⟩,r⟩
 |rng lo hi=>obtain⟨t,u,v,e⟩:=x;exact⟨t,u,v,k _ _ (.inl rfl) e⟩
 |frz ob u ih=>obtain⟨e,q⟩:=x;exact⟨k _ _ (.inl rfl) e,ih q⟩
 |tbl ps=>
  have e:h.get? a=some {cls:= .none,data:= .fields ps}:=x
  show h'.get? a=some {cls:= .none,data:= .fields ps}
  exact k a _ (.inl rfl) e
 |met f y=>
  have e:h.get? a=some (PySem.W.methodObj (.ref f) (.ref y)):=x
  show h'.get? a=some (PySem.W.methodObj (.ref f) (.ref y))
  exact k a _ (.inl rfl) e
 |ext φ=>obtain⟨p,⟨o,e⟩,st⟩:=x;exact⟨st _ _ p fun o q=>k _ _ (.inl rfl) q,⟨o,k _ _ (.inl rfl) e⟩,st⟩
theorem HOk.lt(x:HOk P w H h)(e:H a=some o):a<h.objs.size:=(x a o e).lt
theorem HOk.fresh(x:HOk P w H h)(e:h.objs.size<=a):H a=none:=by
 cases q:H a with
 |none=>rfl
 |some u=>exact absurd (Av (x.lt q) e) (Nat.lt_irrefl _)
theorem HOk.kept(x:HOk P w H h)(k:∀b u,h.get? b=some u->h'.get? b=some u):HOk P w H h':=fun a o e=>
 (x a o e).stay (fun b u _ q=>k b u q) (fun _ q=>q) fun _ _ q=>q
theorem HOk.laid(x:HOk P w H h)(k:∀b u,h.get? b=some u->h'.get? b=some u)(hp:h.objs.size<=a)(new:L5 P w (upd H a o) h' a o):HOk P w (upd H a o) h':=fun b u e=>by
 have hn:=x.fresh hp
 by_cases hb:b=a
 ·subst hb;rw [n0] at e;cases e;exact new
 ·rw [j9 hb] at e
  exact(x b u e).stay (fun c v _ q=>k c v q) (fun c q=>by rw [j9 (r9 q hn)];exact q) fun c xs q=>by rw [j9 (r9 q hn)];exact q
end
def Rd(H:Hp)(a:AB)(u:HO):Prop:=H a=some u\/∃o,H a=some (.frz o u)
theorem Rd.ok{P:AN}{w:AK}{H:Hp}{h:Heap}{a:AB}{u:HO}(r:Rd H a u)(x:HOk P w H h):L5 P w H h a u:=by
 rcases r with r|⟨o,r⟩
 ·exact x a u r
 ·obtain⟨_,q⟩:=x a _ r
  exact q
def Mut:Option HO->Prop
 |some (.lst _)=>True
 |some (.dK _)=>True
 |some (.dT _)=>True
 |some (.set _ _)=>True
 |some (.ins _ _ _)=>True
 |some (.ext _)=>True
 |_=>False
section
variable {P:AN}{w:AK}{H:Hp}{h h':Heap}{x e:AB}{o':HO}
theorem HOk.write(ok:HOk P w H h)(mu:Mut (H x))(he:e=x\/H e=some (.own x))(k:∀b u,b≠e->h.get? b=some u->h'.get? b=some u)(heo:∃u,h'.get? e=some u)
 (new:L5 P w (upd H x o') h' x o'):HOk P w (upd H x o') h':=fun b u q=>by
 have nown:∀c y,H c=some (.own y)->c≠x:=fun c y r z=>by subst z;rw [r] at mu;exact mu
 have ntup:∀c xs,H c=some (.tup xs)->c≠x:=fun c xs r z=>by subst z;rw [r] at mu;exact mu
 by_cases hb:b=x
 ·subst hb;rw [n0] at q;cases q;exact new
 ·rw [j9 hb] at q
  by_cases hbe:b=e
  ·have q':H b=some (.own x):=by
    rcases he with z|z
    ·exact absurd (hbe.trans z) hb
    ·rw [hbe];exact z
   rw [q] at q';cases q'
   obtain⟨v,hv⟩:=heo
   exact⟨v,by rw [hbe];exact hv⟩
  ·refine(ok b u q).stay (fun c v hc r=>k c v ?_ r) (fun c r=>by rw [j9 (nown c b r)];exact r) fun c xs r=>by rw [j9 (ntup c xs r)];exact r
   rcases hc with rfl|hc
   ·exact hbe
   ·rintro rfl
    rcases he with z|z
    ·exact nown c b hc z
    ·rw [hc] at z;cases z;exact hb rfl
end
structure Un(fs ex:List AB)(H H':Hp)(h h':Heap):Prop where
 keep:∀b o,h.get? b=some o->H b=none->b∉fs->b∉ex->h'.get? b=some o
 slot:∀b o,h.get? b=some o->H b=none->b∈fs->b∉ex->∃sl,h'.get? b=some {o with slots:=sl}
 free:∀b o,h.get? b=some o->H b=none->b∉ex->H' b=none
 there:∀b o,h.get? b=some o->b∉ex->∃o',h'.get? b=some o'
 tups:∀b xs,H b=some (.tup xs)->H' b=some (.tup xs)
 frzs:∀b o u,H b=some (.frz o u)->H' b=some (.frz o u)
 tbls:∀b ps,H b=some (.tbl ps)->∃more,H' b=some (.tbl (ps++more))
section
variable {fs fs' ex ex':List AB}{H H1 H2:Hp}{h h1 h2 h':Heap}{a x e:AB}{o:HO}
theorem Un.any(u:Un fs ex H H1 h h1){b:AB}{ob:Obj}(q:h.get? b=some ob)(n:H b=none)(hx:b∉ex):∃sl,h1.get? b=some {ob with slots:=sl}:=by
 by_cases hb:b∈fs
 ·exact u.slot b ob q n hb hx
 ·exact⟨ob.slots,u.keep b ob q n hb hx⟩
theorem Un.kept(k:∀b u,h.get? b=some u->h'.get? b=some u):Un fs ex H H h h':=
 ⟨fun b ob q _ _ _=>k b ob q,fun b ob q _ _ _=>⟨ob.slots,k b ob q⟩,fun _ _ _ n _=>n,fun b ob q _=>⟨ob,k b ob q⟩,fun _ _ q=>q,fun _ _ _ q=>q,fun _ ps q=>⟨#[],by rw [q];simp⟩⟩
theorem Un.refl:Un fs ex H H h h:=Un.kept fun _ _ q=>q
theorem Un.laid(k:∀b u,h.get? b=some u->h'.get? b=some u)(hp:h.objs.size<=a)(hn:H a=none):Un fs ex H (upd H a o) h h' where
 keep:=fun b u q _ _ _=>k b u q
 slot:=fun b u q _ _ _=>⟨u.slots,k b u q⟩
 free:=fun b u q n _=>by rw [j9 (Ar (Av (Ai q) hp))];exact n
 there:=fun b u q _=>⟨u,k b u q⟩
 tups:=fun b xs q=>by rw [j9 (r9 q hn)];exact q
 frzs:=fun b u xs q=>by rw [j9 (r9 q hn)];exact q
 tbls:=fun b ps q=>⟨#[],by rw [j9 (r9 q hn),q];simp⟩
theorem Un.write(mu:Mut (H x))(he:e=x\/H e=some (.own x))(k:∀b u,b≠e->h.get? b=some u->h'.get? b=some u)(heo:∃u,h'.get? e=some u):Un fs ex H (upd H x o) h h':=by
 have hx:∀b,H b=none->b≠x:=fun b n z=>by subst z;rw [n] at mu;exact mu
 have hb:∀b,H b=none->b≠e:=fun b n z=>by
  subst z
  rcases he with r|r
  ·exact hx b n r
  ·rw [n] at r;cases r
 have hm:∀b u,H b=some u->¬Mut (some u)->b≠x:=fun b u q nm z=>by subst z;rw [q] at mu;exact nm mu
 refine⟨fun b u q n _ _=>k b u (hb b n) q,fun b u q n _ _=>⟨u.slots,k b u (hb b n) q⟩,fun b u q n _=>by rw [j9 (hx b n)];exact n,fun b u q _=> ?_,
  fun b xs q=>by rw [j9 (hm b _ q fun z=>z)];exact q,fun b u xs q=>by rw [j9 (hm b _ q fun z=>z)];exact q,fun b ps q=>⟨#[],by rw [j9 (hm b _ q fun z=>z),q];simp⟩⟩
 by_cases hbe:b=e
 ·subst hbe;exact heo
 ·exact⟨u,k b u hbe q⟩
end
def trk(h:Heap)(H:Hp):List AB:=(AL h.objs.size).filter fun a=>(H a).isSome
def a9y(h:Heap)(H:Hp):Heap:=PySem.W.hideAll h (trk h H)
theorem b4a(h:Heap)(H:Hp):(a9y h H).objs.size=h.objs.size:=PySem.W.hideAll_size _ _
theorem b5F{h:Heap}{H:Hp}{b:AB}{o:Obj}(e:h.get? b=some o)(n:H b=none):(a9y h H).get? b=some o:=
 PySem.W.hideAll_get _ e fun hm=>by
  have q:(H b).isSome=true:=(List.mem_filter.mp hm).2
  rw [n] at q;simp at q
theorem b7N{h:Heap}{H:Hp}{b:AB}{o:Obj}(e:(a9y h H).get? b=some o):h.get? b=some o/\H b=none:=by
 have e':h.get? b=some o:=PySem.W.of_hideAll (trk h H) e
 refine⟨e', ?_⟩
 cases q:H b with
 |none=>rfl
 |some x=>
  have hm:b∈trk h H:=List.mem_filter.mpr ⟨List.mem_range.mpr (Ai e'),by simp [q]⟩
  have z:(a9y h H).get? b=none:=PySem.W.hideAll_none (trk h H) hm
  rw [z] at e;cases e
structure Mod(K:AE)(mg:Str->Option AA)(base:Heap):Prop where
 kin:K.In base
 glob:base.Ns mainGlobals mg
 blt:∃mb,base.Ns builtinsNs mb/\∀x:Str,x≠"__name__"->mb x=bootBuiltins x
 nolimit:base.NoLimit
structure Cx where
 prog:AN
 w:AK
 K:AE
 mg:Str->Option AA
 base:Heap
 A:AO
 N:List Str
 s₀:AC
 H₀:Hp
 env:Env
 outer:List Env
 stack:List Env
 ex:List AB
 fn:Str->Bool
 calm:Bool
 pn:List (AB×Obj)
 xe:AA->AC->Prop
def frs(l:List Env):List AB:=l.filterMap (·.frame)
abbrev Cx.fs(X:Cx):List AB:=frs X.outer
def Vis(sc:Scope)(x:Str):Prop:=sc.names.lookup x=some .local\/sc.names.lookup x=some .cell\/sc.names.lookup x=some .free
def Loc(sc:Scope)(x:Str):Prop:=sc.names.lookup x=some .local\/sc.names.lookup x=some .cell
def c1o(env:Env)(h:Heap)(m:Str->Option AA)(x:Str)(u:AA):Prop:=
 (env.kindOf x=some .local/\m x=some u)\/((env.kindOf x=some .cell\/env.kindOf x=some .free)/\∃c,env.cells.lookup x=some c/\h.IsCell c (some u))
structure Cx.Ok(X:Cx):Prop where
 mod:Mod X.K X.mg X.base
 kind:X.env.scope.kind= .function
 glob:X.env.globals=mainGlobals
 blt:X.env.builtins=builtinsNs
 above:X.s₀.heap.objs.size<=X.env.locals
 inj:∀x y c,X.env.cells.lookup x=some c->X.env.cells.lookup y=some c->x=y
 has:∀x,(X.env.kindOf x=some .cell\/X.env.kindOf x=some .free)->∃c,X.env.cells.lookup x=some c
 cab:∀x c,X.fn x=true->X.env.cells.lookup x=some c->X.s₀.heap.objs.size<=c
 hd:X.calm=true->X.A.handled=none
 frames:X.A.frames=some X.stack
 stk:X.stack=X.outer\/(X.stack=X.env::X.outer/\X.env.frame=some X.env.locals)
 exf:∀b∈X.ex,b≠X.env.locals/\∀x c,X.env.cells.lookup x=some c->c≠b
 bs:∀b o,X.base.get? b=some o->X.s₀.heap.get? b=some o/\X.H₀ b=none
 bsz:X.base.objs.size<=X.s₀.heap.objs.size
 noex:∀b o,X.base.get? b=some o->b∉X.ex
 exfs:∀b∈X.ex,b∉X.fs
 funs:X.s₀.heap.FunFrames X.base X.outer
 frf:∀b∈X.fs,X.H₀ b=none
structure m9(X:Cx)(pins:List (AB×Obj))(σ:List (Option V))(H:Hp)(s:AC):Prop where
 ok:X.Ok
 os:s.os=X.s₀.os
 bare:AllBare s.gens
 base:Un X.fs X.ex X.H₀ H X.s₀.heap s.heap
 loc:∃m,s.heap.Ns X.env.locals m/\∀(i:Nat) (x:Str) (v:V),X.N[i]?=some x->σ[i]?=some (some v)->Vis X.env.scope x->∃u,y6 v u/\c1o X.env s.heap m x u
 cell:∀x c,X.env.cells.lookup x=some c->∃v,s.heap.IsCell c v
 free:H X.env.locals=none
 freeC:∀x c,X.env.cells.lookup x=some c->H c=none
 pin:∀p∈X.pn++pins,s.heap.get? p.1=some p.2/\H p.1=none/\p.1≠X.env.locals/\p.1∉X.fs/\∀v,p.2.data≠.cell v
 hok:HOk X.prog X.w H s.heap
 len:σ.length=X.N.length
section
variable {X:Cx}{pins:List (AB×Obj)}{σ:List (Option V)}{H H':Hp}{s:AC}{h':Heap}
theorem Cx.Ok.nofr(ok:X.Ok){b:AB}{o:Obj}(e:X.base.get? b=some o):b∉X.fs:=fun hb=>by
 have:=(ok.funs.mem hb).1
 rw [e] at this;cases this
theorem m9.bs(I:m9 X pins σ H s):∀b o,X.base.get? b=some o->s.heap.get? b=some o/\H b=none:=fun b o e=>
 ⟨I.base.keep b o (I.ok.bs b o e).1 (I.ok.bs b o e).2 (I.ok.nofr e) (I.ok.noex b o e),I.base.free b o (I.ok.bs b o e).1 (I.ok.bs b o e).2 (I.ok.noex b o e)⟩
theorem m9.bk(I:m9 X pins σ H s):∀b o,X.base.get? b=some o->s.heap.get? b=some o:=fun b o e=>(I.bs b o e).1
theorem m9.mod(I:m9 X pins σ H s):Mod X.K X.mg X.base:=I.ok.mod
theorem m9.kIn(I:m9 X pins σ H s):X.K.In s.heap:=I.ok.mod.kin.keeps I.bk
theorem m9.lt(I:m9 X pins σ H s):X.env.locals<s.heap.objs.size:=by obtain⟨_,hn,_⟩:=I.loc;exact hn.lt
theorem m9.sz(I:m9 X pins σ H s):X.s₀.heap.objs.size<=s.heap.objs.size:=Nat.le_trans I.ok.above (BD I.lt)
theorem m9.nofs(I:m9 X pins σ H s){a:AB}(h:s.heap.objs.size<=a):a∉X.fs:=fun hb=>by
 obtain⟨_,o,ho,_⟩:=I.ok.funs.mem hb
 exact absurd (Av (Ai ho) (Nat.le_trans I.sz h)) (Nat.lt_irrefl _)
theorem m9.cne(I:m9 X pins σ H s):∀x c,X.env.cells.lookup x=some c->c≠X.env.locals:=fun x c e z=>by
 obtain⟨v,o,ho,hd⟩:=I.cell x c e
 obtain⟨m,⟨o',es,ep,ho',hd',_⟩,_⟩:=I.loc
 rw [z,ho'] at ho;cases ho;rw [hd'] at hd;cases hd
theorem m9.funs(I:m9 X pins σ H s):s.heap.FunFrames X.base X.outer:=by
 have all:∀(l:List Env),(∀b∈frs l,b∈X.fs)->X.s₀.heap.FunFrames X.base l->s.heap.FunFrames X.base l:=by
  intro l
  induction l with
  |nil=>intro _ _;trivial
  |cons env r ih=>
   intro hs hl
   obtain⟨hk,⟨L,o,hf,hn,ho,hd⟩,hr⟩:=hl
   have hL:L∈X.fs:=hs L (by unfold frs;rw [List.filterMap_cons,hf];exact Am)
   obtain⟨sl,e⟩:=I.base.slot L o ho (I.ok.frf L hL) hL fun z=>I.ok.exfs L z hL
   exact⟨hk,⟨L,_,hf,hn,e,hd⟩,ih (fun b hb=>hs b (by unfold frs;rw [List.filterMap_cons,hf];exact Ak _ hb)) hr⟩
 exact all X.outer (fun _ hb=>hb) I.ok.funs
theorem m9.stack(I:m9 X pins σ H s):s.heap.FunFrames X.base X.stack:=by
 rcases I.ok.stk with e|⟨e,hf⟩
 ·rw [e];exact I.funs
 ·rw [e]
  obtain⟨m,hn,_⟩:=I.loc
  refine .cons (by rw [I.ok.kind];decide) hf hn ?_ I.funs
  exact Heap.get?_none_of_le (Nat.le_trans I.ok.bsz I.ok.above)
theorem m9.stkSub(I:m9 X pins σ H s):∀b∈frs X.stack,b∈X.env.locals::X.fs:=fun b hb=>by
 rcases I.ok.stk with e|⟨e,hf⟩
 ·rw [e] at hb;exact Ak _ hb
 ·rw [e] at hb
  unfold frs at hb
  rw [List.filterMap_cons,hf] at hb
  exact hb
theorem m9.stkFree(I:m9 X pins σ H s):∀b∈frs X.stack,H b=none:=fun b hb=>by
 rcases Ap.mp (I.stkSub b hb) with e|hb
 ·rw [e];exact I.free
 ·obtain⟨_,o,ho,_⟩:=I.ok.funs.mem hb
  exact I.base.free b o ho (I.ok.frf b hb) fun z=>I.ok.exfs b z hb
theorem m9.step{g':Array GenState}{t':Nat}{d':Drawn}{ch:List AB}(I:m9 X pins σ H s)
 (hch:∀b∈ch,(b∈X.ex\/X.s₀.heap.objs.size<=b)/\b≠X.env.locals/\(∀x c,X.env.cells.lookup x=some c->c≠b)/\∀p∈X.pn++pins,p.1≠b)
 (keep:∀b o,b≠X.env.locals->b∉X.fs->b∉ch->s.heap.get? b=some o->H b=none->h'.get? b=some o)
 (slot:∀b o,b≠X.env.locals->b∈X.fs->b∉ch->s.heap.get? b=some o->H b=none->∃sl,h'.get? b=some {o with slots:=sl}) (free:∀b o,b∉ch->s.heap.get? b=some o->H b=none->H' b=none)
 (there:∀b o,b∉ch->s.heap.get? b=some o->∃o',h'.get? b=some o')
 (tups:∀b xs,H b=some (.tup xs)->H' b=some (.tup xs)) (frzs:∀b o u,H b=some (.frz o u)->H' b=some (.frz o u)) (tbls:∀b ps,H b=some (.tbl ps)->∃more,H' b=some (.tbl (ps++more)))
 (ns:∀m,s.heap.Ns X.env.locals m->h'.Ns X.env.locals m) (hok:HOk X.prog X.w H' h') (hg:AllBare g'):
 m9 X pins σ H' {s with heap:=h',gens:=g',drawn:=d',toks:=t'}:=by
 have neL:∀b o,X.s₀.heap.get? b=some o->b≠X.env.locals:=fun b o e=>Ar (Av (Ai e) I.ok.above)
 have neC:∀b o,X.s₀.heap.get? b=some o->b∉X.ex->b∉ch:=fun b o e hx hb=>by
  rcases(hch b hb).1 with z|z
  ·exact hx z
  ·exact absurd (Av (Ai e) z) (Nat.lt_irrefl _)
 have cellK:∀x c,X.env.cells.lookup x=some c->∀v,s.heap.IsCell c v->h'.IsCell c v:=fun x c e v ⟨o,ho,hd⟩=>by
  have nch:c∉ch:=fun z=>(hch c z).2.2.1 x c e rfl
  by_cases hc:c∈X.fs
  ·obtain⟨sl,q⟩:=slot c o (I.cne x c e) hc nch ho (I.freeC x c e)
   exact⟨_,q,hd⟩
  ·exact⟨o,keep c o (I.cne x c e) hc nch ho (I.freeC x c e),hd⟩
 refine⟨I.ok,I.os,hg,⟨fun b o e n hb hx=> ?_,fun b o e n hb hx=> ?_,fun b o e n hx=> ?_,fun b o e hx=> ?_,fun b xs e=>tups b xs (I.base.tups b xs e),fun b o xs e=>frzs b o xs (I.base.frzs b o xs e),fun b ps e=> ?_⟩, ?_,fun x c e=> ?_, ?_,fun x c e=> ?_,fun p hp=> ?_,hok,I.len⟩
 ·exact keep b o (neL b o e) hb (neC b o e hx) (I.base.keep b o e n hb hx) (I.base.free b o e n hx)
 ·obtain⟨sl,e1⟩:=I.base.slot b o e n hb hx
  obtain⟨sl',e2⟩:=slot b _ (neL b o e) hb (neC b o e hx) e1 (I.base.free b o e n hx)
  exact⟨sl',e2⟩
 ·obtain⟨o',e1⟩:=I.base.there b o e hx
  exact free b o' (neC b o e hx) e1 (I.base.free b o e n hx)
 ·obtain⟨o',e1⟩:=I.base.there b o e hx
  exact there b o' (neC b o e hx) e1
 ·obtain⟨m1,e1⟩:=I.base.tbls b ps e
  obtain⟨m2,e2⟩:=tbls b _ e1
  exact⟨m1++m2,by rw [e2,Array.append_assoc]⟩
 ·obtain⟨m,hn,hl⟩:=I.loc
  refine⟨m,ns m hn,fun i x v e1 e2 e3=> ?_⟩
  obtain⟨u,r,l⟩:=hl i x v e1 e2 e3
  refine⟨u,r, ?_⟩
  rcases l with l|⟨k,c,e,z⟩
  ·exact .inl l
  ·exact .inr ⟨k,c,e,cellK x c e _ z⟩
 ·obtain⟨v,z⟩:=I.cell x c e
  exact⟨v,cellK x c e v z⟩
 ·obtain⟨m,⟨o,_,_,ho,_⟩,_⟩:=I.loc
  exact free _ o (fun z=>(hch _ z).2.1 rfl) ho I.free
 ·obtain⟨v,o,ho,hd⟩:=I.cell x c e
  exact free c o (fun z=>(hch c z).2.2.1 x c e rfl) ho (I.freeC x c e)
 ·obtain⟨e,n,ne,nf,d⟩:=I.pin p hp
  have nch:p.1∉ch:=fun z=>(hch p.1 z).2.2.2 p hp rfl
  exact⟨keep p.1 p.2 ne nf nch e n,free p.1 p.2 nch e n,ne,nf,d⟩
theorem m9.un{t':Nat}(I:m9 X pins σ H s)(u:Un X.fs [] H H' s.heap h')(hok:HOk X.prog X.w H' h'):m9 X pins σ H' {s with heap:=h',toks:=t'}:=by
 obtain⟨m,⟨o,es,ep,ho,r⟩,_⟩:=id I.loc
 obtain⟨sl,hL⟩:=u.any ho I.free (by simp)
 exact I.step (g':=s.gens) (d':=s.drawn) (ch:=[]) (fun _ z=>nomatch z) (fun b o _ hb _ e n=>u.keep b o e n hb (by simp)) (fun b o _ hb _ e n=>u.slot b o e n hb (by simp)) (fun b o _ e n=>u.free b o e n (by simp)) (fun b o _ e=>u.there b o e (by simp)) u.tups u.frzs u.tbls (fun m' hm=>by
  obtain⟨o',es',ep',ho',r'⟩:=hm
  rw [ho] at ho';cases ho'
  exact⟨_,es',ep',hL,r'⟩) hok I.bare
theorem m9.call{g':Array GenState}{t':Nat}{d':Drawn}{ch:List AB}(I:m9 X pins σ H s)(u:Un (frs X.stack) ch H H' s.heap h')(hok:HOk X.prog X.w H' h')(hg:AllBare g')
 (hch:∀b∈ch,(b∈X.ex\/X.s₀.heap.objs.size<=b)/\b≠X.env.locals/\(∀x c,X.env.cells.lookup x=some c->c≠b)/\∀p∈X.pn++pins,p.1≠b):
 m9 X pins σ H' {s with heap:=h',gens:=g',drawn:=d',toks:=t'}:=by
 obtain⟨m,⟨o,es,ep,ho,r⟩,_⟩:=id I.loc
 obtain⟨sl,hL⟩:=u.any ho I.free fun z=>(hch _ z).2.1 rfl
 exact I.step (ch:=ch) hch (fun b o hL hb hc e n=>u.keep b o e n (fun z=>(Ap.mp (I.stkSub b z)).elim hL hb) hc) (fun b o _ _ hc e n=>u.any e n hc) (fun b o hc e n=>u.free b o e n hc) (fun b o hc e=>u.there b o e hc) u.tups u.frzs u.tbls (fun m' hm=>by
  obtain⟨o',es',ep',ho',r'⟩:=hm
  rw [ho] at ho';cases ho'
  exact⟨_,es',ep',hL,r'⟩) hok hg
theorem m9.turned{t':Nat}{it:AB}(I:m9 X pins σ H s)(k:∀b o,b≠it->s.heap.get? b=some o->h'.get? b=some o)(hn:H it=none)(hL:it≠X.env.locals)
 (h1:it∈X.ex\/X.s₀.heap.objs.size<=it) (h2:∀x c,X.env.cells.lookup x=some c->c≠it) (h3:∀p∈X.pn++pins,p.1≠it):m9 X pins σ H {s with heap:=h',toks:=t'}:=by
 have nit:∀b u,H b=some u->b≠it:=fun b u e z=>by rw [z,hn] at e;cases e
 refine I.step (g':=s.gens) (d':=s.drawn) (ch:=[it]) (fun b hb=> ?_) (fun b o _ _ hc e _=>k b o (fun z=>hc (by simp [z])) e) (fun b o _ _ hc e _=>⟨o.slots,k b o (fun z=>hc (by simp [z])) e⟩) (fun _ _ _ _ n=>n)
  (fun b o hc e=>⟨o,k b o (fun z=>hc (by simp [z])) e⟩) (fun _ _ e=>e) (fun _ _ _ e=>e) (fun b ps e=>⟨#[],by rw [e];simp⟩) (fun m hm=> ?_) (fun b u e=> ?_) I.bare
 ·have e:b=it:=by simpa using hb
  subst e
  exact⟨h1,hL,h2,h3⟩
 ·obtain⟨o,es,ep,ho,r⟩:=hm
  exact⟨o,es,ep,k _ o (Ne.symm hL) ho,r⟩
 ·refine(I.hok b u e).stay (fun c v hc q=>k c v ?_ q) (fun _ q=>q) fun _ _ q=>q
  rcases hc with z|z
  ·rw [z];exact nit b u e
  ·exact nit c _ z
theorem m9.tok(I:m9 X pins σ H s)(t:Nat):m9 X pins σ H {s with toks:=t}:=I.un (h':=s.heap) (t':=t) Un.refl I.hok
theorem m9.kept{t':Nat}(I:m9 X pins σ H s)(k:∀b u,s.heap.get? b=some u->h'.get? b=some u):m9 X pins σ H {s with heap:=h',toks:=t'}:=I.un (Un.kept k) (I.hok.kept k)
theorem m9.laid{a:AB}{o:HO}{t':Nat}(I:m9 X pins σ H s)(k:∀b u,s.heap.get? b=some u->h'.get? b=some u)(hp:s.heap.objs.size<=a)(new:L5 X.prog X.w (upd H a o) h' a o):
 m9 X pins σ (upd H a o) {s with heap:=h',toks:=t'}:=I.un (Un.laid k hp (I.hok.fresh hp)) (I.hok.laid k hp new)
theorem m9.write{x e:AB}{o:HO}{t':Nat}(I:m9 X pins σ H s)(mu:Mut (H x))(he:e=x\/H e=some (.own x))(k:∀b u,b≠e->s.heap.get? b=some u->h'.get? b=some u)(heo:∃u,h'.get? e=some u)
 (new:L5 X.prog X.w (upd H x o) h' x o):m9 X pins σ (upd H x o) {s with heap:=h',toks:=t'}:=I.un (Un.write mu he k heo) (I.hok.write mu he k heo new)
theorem m9.weak{σ':List (Option V)}(I:m9 X pins σ H s)(hl:σ'.length=σ.length)(w:∀(i:Nat) v,σ'[i]?=some (some v)->σ[i]?=some (some v)):m9 X pins σ' H s:=
 ⟨I.ok,I.os,I.bare,I.base,let ⟨m,hn,hl'⟩:=I.loc;⟨m,hn,fun i x v e1 e2 e3=>hl' i x v e1 (w i v e2) e3⟩,I.cell,I.free,I.freeC,I.pin,I.hok,hl.trans I.len⟩
theorem m9.pins_of{pins':List (AB×Obj)}(I:m9 X pins σ H s)(h:∀p∈pins',s.heap.get? p.1=some p.2/\H p.1=none/\p.1≠X.env.locals/\p.1∉X.fs/\∀v,p.2.data≠.cell v):m9 X pins' σ H s:=
 ⟨I.ok,I.os,I.bare,I.base,I.loc,I.cell,I.free,I.freeC,fun p hp=>(BA.mp hp).elim (fun z=>I.pin p (BH _ z)) (h p),I.hok,I.len⟩
theorem b02{N:List Str}(hN:N.Nodup){i j:Nat}{x:Str}(a:N[i]?=some x)(b:N[j]?=some x):i=j:=by
 obtain⟨h1,e1⟩:=At.mp a
 obtain⟨h2,e2⟩:=At.mp b
 exact(List.getElem_inj hN).mp (e1.trans e2.symm)
theorem a8Z{M:Model}{A:AO}{E:AA->AC->Prop}{i:Nat}{x:Str}{v:V}{u:AA}{Q:Unit->AC->Prop}(I:m9 X pins σ H s)(hN:X.N.Nodup)(hi:X.N[i]?=some x)(hx:Loc X.env.scope x)(r:y6 v u)
 (h:∀s',m9 X pins (σ.set i (some v)) H s'->(∃a,Heap.SameBut a s.heap s'.heap/\(a=X.env.locals\/X.env.cells.lookup x=some a))->Q () s') (hf:X.fn x=true\/X.env.scope.names.lookup x=some .local:=by first|exact .inl rfl|exact .inr rfl|assumption):AJ M A (storeName X.env x u) Q E s:=by
 obtain⟨m,hn,hl⟩:=id I.loc
 have hcls:(X.env.scope.kind== .class||(X.env.scope.kind== .module && X.env.locals !=X.env.globals))=false:=by rw [I.ok.kind];rfl
 have hiσ:i<σ.length:=by rw [I.len];exact(At.mp hi).1
 have cne:=I.cne
 have tracked:∀{a:AB} {h':Heap},(∃o,s.heap.get? a=some o/\H a=none)->Heap.SameBut a s.heap h'->HOk X.prog X.w H h':=fun {a h'} ha hs b ob e=>by
  obtain⟨_,_,hfree⟩:=ha
  refine(I.hok b ob e).stay (fun c w' hc q=>(hs.2 c ?_).trans q) (fun _ q=>q) fun _ _ q=>q
  rintro rfl
  rcases hc with rfl|hc
  ·rw [hfree] at e;cases e
  ·rw [hfree] at hc;cases hc
 rcases hx with hk|hk
 ·refine wpAny_storeName_local hk hn (fun h' hn' hs=> ?_) hcls
  obtain⟨oL,_,_,hoL,_⟩:=id hn
  refine h _ ⟨I.ok,I.os,I.bare,⟨fun b o e n hb hx=> ?_,fun b o e n hb hx=> ?_,I.base.free,fun b o e hx=> ?_,I.base.tups,I.base.frzs,I.base.tbls⟩,⟨_,hn',fun j y v' e1 e2 e3=> ?_⟩,fun y c e=> ?_,I.free,I.freeC,fun p hp=> ?_,tracked ⟨oL,hoL,I.free⟩ hs,by simpa using I.len⟩ ⟨_,hs,.inl rfl⟩
  ·exact(hs.2 b (Ar (Av (Ai e) I.ok.above))).trans (I.base.keep b o e n hb hx)
  ·obtain⟨sl,e1⟩:=I.base.slot b o e n hb hx
   exact⟨sl,(hs.2 b (Ar (Av (Ai e) I.ok.above))).trans e1⟩
  ·obtain⟨o',e1⟩:=I.base.there b o e hx
   exact⟨o',(hs.2 b (Ar (Av (Ai e) I.ok.above))).trans e1⟩
  ·by_cases hj:j=i
   ·subst hj
    rw [hi] at e1;cases e1
    rw [BE hiσ] at e2
    cases e2
    exact⟨u,r,.inl ⟨hk,by simp⟩⟩
   ·rw [List.getElem?_set_ne (Ne.symm hj)] at e2
    obtain⟨u',r',q⟩:=hl j y v' e1 e2 e3
    refine⟨u',r', ?_⟩
    rcases q with⟨k,e⟩|⟨k,c,e,z⟩
    ·refine .inl ⟨k, ?_⟩
     have:y≠x:=fun e=>hj (b02 hN e1 (e▸hi))
     simp [this,e]
    ·exact .inr ⟨k,c,e,z.sameBut hs (cne y c e)⟩
  ·obtain⟨w',z⟩:=I.cell y c e
   exact⟨w',z.sameBut hs (cne y c e)⟩
  ·obtain⟨e,n,ne,nf,d⟩:=I.pin p hp
   exact⟨(hs.2 p.1 ne).trans e,n,ne,nf,d⟩
 ·have hfn:X.fn x=true:=by
   rcases hf with z|z
   ·exact z
   ·rw [z] at hk;cases hk
  obtain⟨c,hc⟩:=I.ok.has x (.inl hk)
  obtain⟨w',z⟩:=I.cell x c hc
  refine wpAny_storeName_cell I.ok.kind hk hc z (fun h' hc' hs=> ?_)
  obtain⟨oc,hoc,hocd⟩:=id z
  refine h {s with heap:=h'} ⟨I.ok,I.os,I.bare,⟨fun b o e n hb hx=> ?_,fun b o e n hb hx=> ?_,I.base.free,fun b o e hx=> ?_,I.base.tups,I.base.frzs,I.base.tbls⟩,⟨m,hn.sameBut hs (Ne.symm (cne x c hc)),fun j y v' e1 e2 e3=> ?_⟩,fun y c' e=> ?_,I.free,I.freeC,fun p hp=> ?_,tracked ⟨oc,hoc,I.freeC x c hc⟩ hs,by simpa using I.len⟩ ⟨c,hs,.inr hc⟩
  ·exact(hs.2 b (Ar (Av (Ai e) (I.ok.cab x c hfn hc)))).trans (I.base.keep b o e n hb hx)
  ·obtain⟨sl,e1⟩:=I.base.slot b o e n hb hx
   exact⟨sl,(hs.2 b (Ar (Av (Ai e) (I.ok.cab x c hfn hc)))).trans e1⟩
  ·obtain⟨o',e1⟩:=I.base.there b o e hx
   exact⟨o',(hs.2 b (Ar (Av (Ai e) (I.ok.cab x c hfn hc)))).trans e1⟩
  ·by_cases hj:j=i
   ·subst hj
    rw [hi] at e1;cases e1
    rw [BE hiσ] at e2
    cases e2
    exact⟨u,r,.inr ⟨.inl hk,c,hc,hc'⟩⟩
   ·rw [List.getElem?_set_ne (Ne.symm hj)] at e2
    obtain⟨u',r',q⟩:=hl j y v' e1 e2 e3
    refine⟨u',r', ?_⟩
    rcases q with q|⟨k,c',e,z'⟩
    ·exact .inl q
    ·refine .inr ⟨k,c',e,z'.sameBut hs ?_⟩
     rintro rfl
     exact hj (b02 hN e1 (I.ok.inj _ _ _ e hc▸hi))
  ·by_cases hcc:c'=c
   ·subst hcc;exact⟨_,hc'⟩
   ·obtain⟨w2,z2⟩:=I.cell y c' e
    exact⟨w2,z2.sameBut hs hcc⟩
  ·obtain⟨e,n,ne,nf,d⟩:=I.pin p hp
   refine⟨(hs.2 p.1 ?_).trans e,n,ne,nf,d⟩
   intro q
   rw [q,hoc] at e
   have q':oc=p.2:=Option.some.inj e
   exact d w' (by rw [<-q'];exact hocd)
theorem b1m{M:Model}{A:AO}{E:AA->AC->Prop}{i:Nat}{x:Str}{v:V}{u:AA}{Q:Unit->AC->Prop}(I:m9 X pins σ H s)(hN:X.N.Nodup)(hi:X.N[i]?=some x)(hx:Loc X.env.scope x)(r:y6 v u)
 (h:∀s',m9 X pins (σ.set i (some v)) H s'->Q () s') (hf:X.fn x=true\/X.env.scope.names.lookup x=some .local:=by first|exact .inl rfl|exact .inr rfl|assumption):AJ M A (storeName X.env x u) Q E s:=
 a8Z I hN hi hx r (fun s' I' _=>h s' I') hf
theorem m9.call'{s':AC}{ch:List AB}(I:m9 X pins σ H s)(ho:s'.os=s.os)(u:Un (frs X.stack) ch H H' s.heap s'.heap)(hok:HOk X.prog X.w H' s'.heap)(hg:AllBare s'.gens)
 (hch:∀b∈ch,(b∈X.ex\/X.s₀.heap.objs.size<=b)/\b≠X.env.locals/\(∀x c,X.env.cells.lookup x=some c->c≠b)/\∀p∈X.pn++pins,p.1≠b):m9 X pins σ H' s':=by
 obtain⟨h',g',d',t',o'⟩:=s'
 have e:o'=s.os:=ho
 subst e
 exact I.call (g':=g') (t':=t') (d':=d') u hok hg hch
end
abbrev XK:=AA->Option AB->Hp->Prop
abbrev St:=List (Option V)
abbrev VK:=V->Hp->Prop
abbrev TE:=St->Hp->VK->Prop
abbrev TT:=St->Hp->(Bool->Hp->Prop)->Prop
abbrev TA:=St->Hp->(List V->Hp->Prop)->Prop
structure a4n where
 nx:St->Hp->Prop
 rt:VK
 bk:St->Hp->Prop:=fun _ _=>False
 ct:St->Hp->Prop:=fun _ _=>False
abbrev TS:=a4n->St->Hp->Prop
def EP(X:Cx)(pins:List (AB×Obj))(σ:St)(Q:VK)(u:AA)(s':AC):Prop:=∃v H',m9 X pins σ H' s'/\y6 v u/\Q v H'
def TP(X:Cx)(pins:List (AB×Obj))(σ:St)(Q:Bool->Hp->Prop)(b:Bool)(s':AC):Prop:=∃H',m9 X pins σ H' s'/\Q b H'
def AP(X:Cx)(pins:List (AB×Obj))(σ:St)(Q:List V->Hp->Prop)(us:List AA)(s':AC):Prop:=∃vs H',m9 X pins σ H' s'/\u9 vs us/\Q vs H'
def SP(X:Cx)(pins:List (AB×Obj))(D:a4n)(f:Flow)(s':AC):Prop:=
 match f with
 | .next=>∃σ' H',m9 X pins σ' H' s'/\D.nx σ' H'
 | .brk=>∃σ' H',m9 X pins σ' H' s'/\D.bk σ' H'
 | .cont=>∃σ' H',m9 X pins σ' H' s'/\D.ct σ' H'
 | .ret u=>∃v σ' H',m9 X pins σ' H' s'/\y6 v u/\D.rt v H'
def PE(X:Cx)(e:AG)(t:TE):Prop:=
 ∀(pins:List (AB×Obj)) (s:AC) (σ:St) (H:Hp) (Q:VK),m9 X pins σ H s->t σ H Q->AJ (model X.prog X.w) X.A (eval e X.env) (EP X pins σ Q) X.xe s
def PT(X:Cx)(e:AG)(t:TT):Prop:=
 ∀(pins:List (AB×Obj)) (s:AC) (σ:St) (H:Hp) (Q:Bool->Hp->Prop),m9 X pins σ H s->t σ H Q->AJ (model X.prog X.w) X.A (isTrue e X.env (eval e X.env)) (TP X pins σ Q) X.xe s
def PW(X:Cx)(e:AG)(t:TT):Prop:=
 ∀(whole:Sem AA) (pins:List (AB×Obj)) (s:AC) (σ:St) (H:Hp) (Q:Bool->Hp->Prop),m9 X pins σ H s->t σ H Q->AJ (model X.prog X.w) X.A (isTrue e X.env whole) (TP X pins σ Q) X.xe s
theorem PW.pt{X:Cx}{e:AG}{t:TT}(h:PW X e t):PT X e t:=h _
def PA(X:Cx)(es:List AG)(t:TA):Prop:=
 ∀(pos:Pos) (pins:List (AB×Obj)) (s:AC) (σ:St) (H:Hp) (Q:List V->Hp->Prop),m9 X pins σ H s->t σ H Q->AJ (model X.prog X.w) X.A (spliced (backTo pos (AW es X.env))) (AP X pins σ Q) X.xe s
def PS(X:Cx)(st:Stmt)(t:TS):Prop:=
 ∀(pins:List (AB×Obj)) (s:AC) (σ:St) (H:Hp) (D:a4n),m9 X pins σ H s->t D σ H->AJ (model X.prog X.w) X.A (exec st X.env) (SP X pins D) X.xe s
def PSs(X:Cx)(st:List Stmt)(t:TS):Prop:=
 ∀(pins:List (AB×Obj)) (s:AC) (σ:St) (H:Hp) (D:a4n),m9 X pins σ H s->t D σ H->AJ (model X.prog X.w) X.A (execs st X.env) (SP X pins D) X.xe s
theorem M7{α:Type}{t:Sem α}{Q Q':α->AC->Prop}{M:Model}{A:AO}{E:AA->AC->Prop}{s:AC}(h:AJ M A t Q E s)(hQ:∀a s,Q a s->Q' a s):AJ M A t Q' E s:=wpAny_mono h hQ fun _ _ x=>x
section
variable {X:Cx}
def U5(i:Nat):TE:=fun σ H Q=>∃v,σ[i]?=some (some v)/\Q v H
def tC(v:V):TE:=fun _ H Q=>Q v H
theorem b9Y{i:Nat}{x:Str}{pos:Pos}(hN:X.N[i]?=some x)(hv:Vis X.env.scope x)(hd:(x==("__debug__":Str))=false:=by decide)(hcd:(x==("__classdict__":Str))=false:=by decide):PE X (.Name x pos) (U5 i):=by
 intro pins s σ H Q I h
 obtain⟨v,e,h⟩:=h
 obtain⟨m,hn,hl⟩:=I.loc
 obtain⟨u,r,l⟩:=hl i x v hN e hv
 have fin:EP X pins σ Q u s:=⟨v,H,I,r,h⟩
 rcases l with⟨hk,hm⟩|⟨hk,c,hc,hcell⟩
 ·exact wpAny_Name (wpAny_loadName_local I.ok.kind hk hn hm fin) hd
 ·rcases hk with hk|hk
  ·exact wpAny_Name (wpAny_loadName_cell I.ok.kind hk hc hcell fin) hd
  ·exact wpAny_Name (wpAny_loadName_free I.ok.kind hk hc hcell fin hcd) hd
theorem b6h{i j pos}:PE X (.Constant (.int i) j pos) (tC (.int i)):=fun _ _ _ H _ I h=>wpAny_Constant_int ⟨.int i,H,I.tok _,⟨_,rfl⟩,h⟩
theorem c0Z{b j pos}:PE X (.Constant (.bool b) j pos) (tC (.bl b)):=fun _ _ _ H _ I h=>Constant_bool ⟨.bl b,H,I,rfl,h⟩
theorem b9W{j pos}:PE X (.Constant .none j pos) (tC .non):=fun _ _ _ H _ I h=>Constant_none ⟨.non,H,I,rfl,h⟩
theorem b6j{x j pos}:PE X (.Constant (.str x) j pos) (tC (.str x)):=fun _ _ _ H _ I h=>Calls.Constant_str ⟨.str x,H,I.tok _,⟨_,rfl⟩,h⟩
def Gl(X:Cx)(x:Str):Prop:=X.env.kindOf x=some .globalImplicit
theorem a9E{E:AA->AC->Prop}{pins:List (AB×Obj)}{s:AC}{σ:St}{H:Hp}{x:Str}{u:AA}{pos:Pos}{Q:AA->AC->Prop}(I:m9 X pins σ H s)(hg:Gl X x)(hm:X.mg x=some u)(h:Q u s)
 (hd:(x==("__debug__":Str))=false:=by decide):AJ (model X.prog X.w) X.A (eval (.Name x pos) X.env) Q E s:=
 Calls.Name_function_global I.ok.kind hg (Calls.loadGlobal_global (by rw [I.ok.glob];exact I.mod.glob.keeps I.bk) hm h) hd
theorem a9D{E:AA->AC->Prop}{pins:List (AB×Obj)}{s:AC}{σ:St}{H:Hp}{x:Str}{u:AA}{pos:Pos}{Q:AA->AC->Prop}(I:m9 X pins σ H s)(hg:Gl X x)(hm:X.mg x=none)(hv:bootBuiltins x=some u)(h:Q u s)
 (hn:x≠"__name__":=by decide) (hd:(x==("__debug__":Str))=false:=by decide):AJ (model X.prog X.w) X.A (eval (.Name x pos) X.env) Q E s:=by
 obtain⟨mb,h1,h2⟩:=I.mod.blt
 exact Calls.Name_function_global I.ok.kind hg (Calls.loadGlobal_builtin (by rw [I.ok.glob];exact I.mod.glob.keeps I.bk) hm (by rw [I.ok.blt];exact h1.keeps I.bk) ((h2 x hn).trans hv) h) hd
theorem b7Z{x:Str}{v:V}{u:AA}{pos:Pos}(hg:Gl X x)(hm:X.mg x=some u)(r:y6 v u)(hd:(x==("__debug__":Str))=false:=by decide):PE X (.Name x pos) (tC v):=
 fun _ _ _ H _ I h=>a9E I hg hm ⟨v,H,I,r,h⟩ hd
theorem b3t{x:Str}{v:V}{u:AA}{pos:Pos}(hg:Gl X x)(hm:X.mg x=none)(hv:bootBuiltins x=some u)(r:y6 v u)(hn:x≠"__name__":=by decide)(hd:(x==("__debug__":Str))=false:=by decide):PE X (.Name x pos) (tC v):=
 fun _ _ _ H _ I h=>a9D I hg hm hv ⟨v,H,I,r,h⟩ hn hd
variable {a b:AG}{ta tb:TE}{pos:Pos}
def PC(X:Cx)(op:CmpOp)(a b:AG)(t:TE):Prop:=
 ∀(pins:List (AB×Obj)) (s:AC) (σ:St) (H:Hp) (Q:VK),m9 X pins σ H s->t σ H Q->
  AJ (model X.prog X.w) X.A (eval a X.env) (fun v s₁=>AJ (model X.prog X.w) X.A (eval b X.env) (fun u s₂=>AJ (model X.prog X.w) X.A (compareOp op v u) (EP X pins σ Q) X.xe s₂) X.xe s₁) X.xe s
def tB(t:TE):TT:=fun σ H Q=>t σ H fun x H1=>∃c,x= .bl c/\Q c H1
theorem a93{op:CmpOp}{t:TE}(h:PC X op a b t)(h1:behindInMarks op b=false:=by first|exact nobehind _ (by decide) (by decide)|rfl):PT X (.Compare a [op] [b] pos) (tB t):=by
 intro pins s σ H Q I hw
 refine wpAny_isTrue_Compare1 (M7 (h pins s σ H _ I hw) fun v s1 h1=>M7 h1 fun u s2 h2=>M7 h2 fun c s3 h0=>u3 h0 fun x H1 I1 r1 q1=> ?_) h1
 obtain⟨d,rfl,q⟩:=q1
 cases r1
 exact wpAny_truthy_bool ⟨H1,I1,q⟩
variable {tA tB':TT}{rest:List AG}
def c1N(t u:TT):TT:=fun σ H Q=>t σ H fun c H1=>if c=true then u σ H1 Q else Q false H1
def tOr(t u:TT):TT:=fun σ H Q=>t σ H fun c H1=>if c=true then Q true H1 else u σ H1 Q
def c1T(t:TT):TT:=fun σ H Q=>t σ H fun c H1=>Q (!c) H1
theorem b78(ha:PT X a tA):PW X (.BoolOp .And [a] pos) tA:=by
 intro wh pins s σ H Q I h
 refine isTrue_and (M7 (ha pins s σ H Q I h) fun c s1 e=> ?_)
 cases c with
 |true=>exact isTrue_and_nil e
 |false=>exact e
theorem b94(ha:PT X a tA):PW X (.BoolOp .Or [a] pos) tA:=by
 intro wh pins s σ H Q I h
 refine isTrue_or (M7 (ha pins s σ H Q I h) fun c s1 e=> ?_)
 cases c with
 |false=>exact isTrue_or_nil e
 |true=>exact e
theorem b93(ha:PT X a tA)(hb:PW X (.BoolOp .And (b::rest) pos) tB'):PW X (.BoolOp .And (a::b::rest) pos) (c1N tA tB'):=by
 intro wh pins s σ H Q I h
 refine isTrue_and (M7 (ha pins s σ H _ I h) fun c s1 ⟨H1,I1,q1⟩=> ?_)
 cases c with
 |true=>exact hb wh pins s1 σ H1 Q I1 q1
 |false=>exact⟨H1,I1,q1⟩
theorem c04(ha:PT X a tA)(hb:PW X (.BoolOp .Or (b::rest) pos) tB'):PW X (.BoolOp .Or (a::b::rest) pos) (tOr tA tB'):=by
 intro wh pins s σ H Q I h
 refine isTrue_or (M7 (ha pins s σ H _ I h) fun c s1 ⟨H1,I1,q1⟩=> ?_)
 cases c with
 |true=>exact⟨H1,I1,q1⟩
 |false=>exact hb wh pins s1 σ H1 Q I1 q1
theorem b92(ha:PT X a tA):PT X (.UnaryOp .Not a pos) (c1T tA):=by
 intro pins s σ H Q I h
 exact isTrue_not (ha pins s σ H (fun c H1=>Q (!c) H1) I h)
def c08(ta tb:TE):TE:=fun σ H Q=>ta σ H fun x H1=>∃c,x= .bl c/\if c=true then tb σ H1 Q else Q (.bl false) H1
def c1U(ta tb:TE):TE:=fun σ H Q=>ta σ H fun x H1=>∃c,x= .bl c/\if c=true then Q (.bl true) H1 else tb σ H1 Q
theorem b9X{op}{t:TE}(h:PE X a t):PE X (.BoolOp op [a] pos) t:=fun pins s σ H Q I hw=>BoolOp_one (h pins s σ H Q I hw)
theorem b9T(ha:PE X a ta)(hb:PE X (.BoolOp .And (b::rest) pos) tb):PE X (.BoolOp .And (a::b::rest) pos) (c08 ta tb):=by
 intro pins s σ H Q I h
 refine BoolOp_and (M7 (ha pins s σ H _ I h) fun v s1 h0=>u3 h0 fun x H1 I1 r1 q1=> ?_)
 obtain⟨c,rfl,q1⟩:=q1
 cases r1
 refine wpAny_truthy_bool ?_
 cases c with
 |true=>exact hb pins s1 σ H1 Q I1 q1
 |false=>exact⟨.bl false,H1,I1,rfl,q1⟩
theorem c01(ha:PE X a ta)(hb:PE X (.BoolOp .Or (b::rest) pos) tb):PE X (.BoolOp .Or (a::b::rest) pos) (c1U ta tb):=by
 intro pins s σ H Q I h
 refine BoolOp_or (M7 (ha pins s σ H _ I h) fun v s1 h0=>u3 h0 fun x H1 I1 r1 q1=> ?_)
 obtain⟨c,rfl,q1⟩:=q1
 cases r1
 refine wpAny_truthy_bool ?_
 cases c with
 |false=>exact hb pins s1 σ H1 Q I1 q1
 |true=>exact⟨.bl true,H1,I1,rfl,q1⟩
end
def V2(K:AE)(H:Hp)(a:AB)(xs:List V):Prop:=
 Rd H a (.lst xs)\/
  ∃(o:Obj) (its:Array AA) (n:Nat),K.lookup a=some o/\o.cls= .type "list"/\o.dict=none/\o.data= .seq its n/\its.size<=AM/\u9 xs its.toList
def SqT(K:AE)(H:Hp)(a:AB)(xs:List V):Prop:=
 Rd H a (.tup xs)\/
  ∃(o:Obj) (its:Array AA) (n:Nat),K.lookup a=some o/\o.cls= .type "tuple"/\o.data= .seq its n/\its.size<=AM/\u9 xs its.toList
def c1s:AA->Option V
 | .none=>some .non
 | .bool b=>some (.bl b)
 | .int i _=>some (.int i)
 | .str x _=>some (.str x)
 | .bytes b _=>some (.byt b)
 | .float b _=>some (.flt b)
 | .ref a=>some (.ref a)
 | .type n=>some (.ty n)
 |_=>none
theorem y6.abs{x:V}{u:AA}(r:y6 x u):c1s u=some x:=by
 cases x with
 |non=>cases r;rfl
 |bl _=>cases r;rfl
 |int _=>obtain⟨t,rfl⟩:=r;rfl
 |str _=>obtain⟨t,rfl⟩:=r;rfl
 |byt _=>obtain⟨t,rfl⟩:=r;rfl
 |flt _=>obtain⟨t,rfl⟩:=r;rfl
 |ref _=>cases r;rfl
 |ty _=>cases r;rfl
theorem y6.inj{x y:V}{u:AA}(r:y6 x u)(q:y6 y u):x=y:=Option.some.inj (r.abs.symm.trans q.abs)
theorem u9.inj:∀{xs ys:List V} {us:List AA},u9 xs us->u9 ys us->xs=ys
 |_,_,_,.nil,.nil=>rfl
 |_,_,_,.cons r t,.cons r' t'=>by rw [r.inj r',u9.inj t t']
section
variable {X:Cx}{pins:List (AB×Obj)}{σ:St}{H:Hp}{s:AC}{a:AB}{xs ys:List V}
theorem V2.of{K:AE}(h:H a=some (.lst xs)):V2 K H a xs:= .inl (.inl h)
theorem m9.list(I:m9 X pins σ H s)(h:V2 X.K H a xs):∃its:List AA,u9 xs its/\PlainL s.heap a its.toArray/\xs.length<=AM:=by
 rcases h with h|⟨o,its,n,hk,hc,hd,hs,hz,r⟩
 ·obtain⟨z,its,n,r,e⟩:=h.ok I.hok
  exact⟨its,r,⟨_,n,e,rfl,rfl,rfl⟩,z⟩
 ·refine⟨its.toList,r,⟨o,n,I.kIn a o hk,hc,hd,by simpa using hs⟩, ?_⟩
  have e:=r.length
  simp only [Array.length_toList] at e
  lia
theorem m9.tuple(I:m9 X pins σ H s)(h:SqT X.K H a xs):∃its:List AA,u9 xs its/\IsTup s.heap a its.toArray/\xs.length<=AM:=by
 rcases h with h|⟨o,its,n,hk,hc,hs,hz,r⟩
 ·obtain⟨z,its,r,p⟩:=h.ok I.hok
  exact⟨its,r,p,z⟩
 ·refine⟨its.toList,r,⟨o,I.kIn a o hk,hc,n,by simpa using hs⟩, ?_⟩
  have e:=r.length
  simp only [Array.length_toList] at e
  lia
theorem m9.list_inj(I:m9 X pins σ H s)(h:V2 X.K H a xs)(h':V2 X.K H a ys):xs=ys:=by
 obtain⟨its,r,⟨o,n,e,_,_,d⟩,_⟩:=I.list h
 obtain⟨its',r',⟨o',n',e',_,_,d'⟩,_⟩:=I.list h'
 rw [e] at e';cases e'
 rw [d] at d'
 injection d' with d1 _
 have:its=its':=by simpa using congrArg Array.toList d1
 subst this
 exact r.inj r'
theorem m9.tuple_inj(I:m9 X pins σ H s)(h:SqT X.K H a xs)(h':SqT X.K H a ys):xs=ys:=by
 obtain⟨its,r,⟨o,e,_,n,d⟩,_⟩:=I.tuple h
 obtain⟨its',r',⟨o',e',_,n',d'⟩,_⟩:=I.tuple h'
 rw [e] at e';cases e'
 rw [d] at d'
 injection d' with d1 _
 have:its=its':=by simpa using congrArg Array.toList d1
 subst this
 exact r.inj r'
end
abbrev Cx.wish(X:Cx)(E:AA->AC->Prop):Cx:={X with xe:=E}
abbrev Cx.nox(X:Cx):Cx:=X.wish fun _ _=>False
theorem Cx.Ok.wish{X:Cx}(ok:X.Ok)(E:AA->AC->Prop):(X.wish E).Ok:=
 ⟨ok.mod,ok.kind,ok.glob,ok.blt,ok.above,ok.inj,ok.has,ok.cab,ok.hd,ok.frames,ok.stk,ok.exf,ok.bs,ok.bsz,ok.noex,ok.exfs,ok.funs,ok.frf⟩
theorem Cx.Ok.unwish{X:Cx}{E:AA->AC->Prop}(ok:(X.wish E).Ok):X.Ok:=
 ⟨ok.mod,ok.kind,ok.glob,ok.blt,ok.above,ok.inj,ok.has,ok.cab,ok.hd,ok.frames,ok.stk,ok.exf,ok.bs,ok.bsz,ok.noex,ok.exfs,ok.funs,ok.frf⟩
section
variable {X:Cx}{pins:List (AB×Obj)}{σ:St}{H:Hp}{s:AC}{E:AA->AC->Prop}
theorem m9.wish(I:m9 X pins σ H s)(E:AA->AC->Prop):m9 (X.wish E) pins σ H s:=⟨I.ok.wish E,I.os,I.bare,I.base,I.loc,I.cell,I.free,I.freeC,I.pin,I.hok,I.len⟩
theorem m9.unwish(I:m9 (X.wish E) pins σ H s):m9 X pins σ H s:=⟨I.ok.unwish,I.os,I.bare,I.base,I.loc,I.cell,I.free,I.freeC,I.pin,I.hok,I.len⟩
theorem SP.unwish{D:a4n}{f:Flow}{s':AC}(h:SP (X.wish E) pins D f s'):SP X pins D f s':=by
 cases f with
 |next=>obtain⟨σ',H',I,q⟩:=h;exact⟨σ',H',I.unwish,q⟩
 |brk=>obtain⟨σ',H',I,q⟩:=h;exact⟨σ',H',I.unwish,q⟩
 |cont=>obtain⟨σ',H',I,q⟩:=h;exact⟨σ',H',I.unwish,q⟩
 |ret u=>obtain⟨v,σ',H',I,r,q⟩:=h;exact⟨v,σ',H',I.unwish,r,q⟩
theorem PSs.nox{st:List Stmt}{t:TS}(h:PSs X.nox st t):PSs X st t:=fun pins s σ H D I hw=>
 wpAny_mono (h pins s σ H D (I.wish _) hw) (fun _ _ q=>q.unwish) fun _ _ z=>False.elim z
end
section
variable {X:Cx}{st:Stmt}{rest:List Stmt}{t u:TS}{e:AG}{te:TE}{pos:Pos}
def c1e:TS:=fun D σ H=>D.nx σ H
def c1W(t u:TS):TS:=fun D σ H=>t {D with nx:=u D} σ H
theorem a92:PSs X [] c1e:=fun _ _ σ H _ I h=>wpAny_execs_nil ⟨σ,H,I,h⟩
theorem Z7(h1:PS X st t)(h2:PSs X rest u):PSs X (st::rest) (c1W t u):=by
 intro pins s σ H D I h
 refine wpAny_execs_cons (M7 (h1 pins s σ H {D with nx:=u D} I h) fun f s1 q=> ?_)
 cases f with
 |next=>
  obtain⟨σ',H',I',q⟩:=q
  exact h2 pins s1 σ' H' D I' q
 |ret v=>exact q
 |brk=>exact q
 |cont=>exact q
theorem b76(h1:PS X st t):PSs X [st] t:=by
 intro pins s σ H D I h
 refine wpAny_execs_cons (M7 (h1 pins s σ H D I h) fun f s1 q=> ?_)
 cases f with
 |next=>exact wpAny_execs_nil q
 |ret v=>exact q
 |brk=>exact q
 |cont=>exact q
theorem m9.quiet{pins:List (AB×Obj)}{σ:St}{H:Hp}{s:AC}(I:m9 X pins σ H s):interactive X.env=false:=by simp [interactive,I.ok.kind]
def c1d(te:TE):TS:=fun D σ H=>te σ H fun _ H1=>D.nx σ H1
theorem a6e(he:PE X e te)(hs:swapsWith e none pos.line X.env=pure false:=by rfl):PS X (.Expr e pos) (c1d te):=by
 intro pins s σ H D I h
 exact wpAny_Expr_any (M7 (he pins s σ H _ I h) fun v s1 h0=>u3 h0 fun x H1 I1 r1 q1=>⟨σ,H1,I1,q1⟩) I.quiet hs
def c1V(te:TE):TS:=fun D σ H=>te σ H D.rt
theorem b6p(he:PE X e te):PS X (.Return (some e) pos) (c1V te):=by
 intro pins s σ H D I h
 exact wpAny_Return_some (M7 (he pins s σ H _ I h) fun v s1 h0=>u3 h0 fun x H1 I1 r1 q1=>⟨x,σ,H1,I1,r1,q1⟩)
def c1R(c:TT)(t u:TS):TS:=fun D σ H=>c σ H fun b H1=>if b=true then t D σ H1 else u D σ H1
theorem b6o{c:AG}{a b:List Stmt}{tc:TT}(hc:PT X c tc)(ha:PSs X a t)(hb:PSs X b u):PS X (.If c a b pos) (c1R tc t u):=by
 intro pins s σ H D I h
 refine wpAny_If (M7 (hc pins s σ H _ I h) fun d s1 ⟨H1,I1,q1⟩=> ?_)
 cases d with
 |true=>exact ha pins s1 σ H1 D I1 q1
 |false=>exact hb pins s1 σ H1 D I1 q1
end
abbrev TG:=V->St->Hp->(St->Hp->Prop)->Prop
abbrev TGs:=List V->St->Hp->(St->Hp->Prop)->Prop
def PG(X:Cx)(target:AG)(t:TG):Prop:=
 ∀(pins:List (AB×Obj)) (s:AC) (σ:St) (H:Hp) (v:V) (u:AA) (Q:St->Hp->Prop),m9 X pins σ H s->y6 v u->t v σ H Q->
  AJ (model X.prog X.w) X.A (assign target X.env u) (fun _ s'=>∃σ' H',m9 X pins σ' H' s'/\Q σ' H') X.xe s
def PGs(X:Cx)(ts:List AG)(t:TGs):Prop:=
 ∀(pins:List (AB×Obj)) (s:AC) (σ:St) (H:Hp) (vs:List V) (us:List AA) (Q:St->Hp->Prop),m9 X pins σ H s->u9 vs us->t vs σ H Q->
  AJ (model X.prog X.w) X.A (assignInOrder ((assignEach ts X.env).map (·.2)) us) (fun _ s'=>∃σ' H',m9 X pins σ' H' s'/\Q σ' H') X.xe s
section
variable {X:Cx}{pos:Pos}
def a62(i:Nat):TG:=fun v σ H Q=>Q (σ.set i (some v)) H
theorem k7{i:Nat}{x:Str}(hN:X.N.Nodup)(hi:X.N[i]?=some x)(hx:Loc X.env.scope x)(hf:X.fn x=true\/X.env.scope.names.lookup x=some .local:=by first|exact .inl rfl|exact .inr rfl|assumption):PG X (.Name x pos) (a62 i):=by
 intro pins s σ H v u Q I r h
 exact wpAny_assign_Name (b1m I hN hi hx r (fun s' I'=>⟨_,H,I',h⟩) hf)
def c0F:TGs:=fun vs σ H Q=>vs=[]/\Q σ H
def b8M(t:TG)(u:TGs):TGs:=fun vs σ H Q=>∃v r,vs=v::r/\t v σ H fun σ' H'=>u r σ' H' Q
theorem a32:PGs X [] c0F:=by
 intro pins s σ H vs us Q I r h
 obtain⟨e,h⟩:=h
 subst e
 cases r
 exact assignInOrder_nil ⟨σ,H,I,h⟩
theorem E3{e:AG}{es:List AG}{t:TG}{u:TGs}(h1:PG X e t)(h2:PGs X es u)
 (hs:(assignEach (e::es) X.env).map (·.2)=assign e X.env::(assignEach es X.env).map (·.2):=by rfl):PGs X (e::es) (b8M t u):=by
 intro pins s σ H vs us Q I r h
 obtain⟨v,vr,e1,h⟩:=h
 subst e1
 cases r with
 |cons r rr=>
  rw [hs]
  refine assignInOrder_cons (M7 (h1 pins s σ H _ _ _ I r h) fun _ s1 ⟨σ1,H1,I1,q1⟩=> ?_)
  exact h2 pins s1 σ1 H1 _ _ Q I1 rr q1
def c1u(K:AE)(n:Nat)(t:TGs):TG:=fun v σ H Q=>∃a xs,v= .ref a/\SqT K H a xs/\xs.length=n/\t xs σ H Q
theorem b9Z{es:List AG}{k:Nat}{t:TGs}{n:Nat}(hc:X.calm=true)(h:PGs X es t)
 (hn:(assignEach es X.env).length=n:=by rfl) (hst:(assignEach es X.env).findIdx? (·.1)=none:=by rfl):PG X (.Tuple es k pos) (c1u X.K n t):=by
 intro pins s σ H v u Q I r hw
 obtain⟨a,xs,e1,hq,hl,hw⟩:=hw
 subst e1
 cases r
 obtain⟨its,rv,ht,hz⟩:=I.tuple hq
 refine assign_Tuple_tuple (I.ok.hd hc) ht (by simp [hn,<-hl,rv.length]) hst fun h' hx=> ?_
 have I1:m9 X pins σ H {s with heap:=h'}:=I.kept (t':=s.toks) fun b o e=>hx b o (Ar (Ai e)) e
 exact h pins _ σ H xs _ Q I1 (by simpa using rv) hw
def c09(te:TE)(g:TG):TS:=fun D σ H=>te σ H fun x H1=>g x σ H1 D.nx
theorem b91{tg e:AG}{te:TE}{g:TG}(he:PE X e te)(hg:PG X tg g)(hs:swapsWithSole [tg] e pos.line X.env=pure false:=by rfl)(hw:swappedStores [tg] e X.env=pure none:=by rfl)
 (h1:(assignEach [tg] X.env).map (·.2)=[assign tg X.env]:=by rfl):PS X (.Assign [tg] e pos) (c09 te g):=by
 intro pins s σ H D I h
 refine wpAny_Assign_stores (M7 (he pins s σ H _ I h) fun v s1 h0=>u3 h0 fun x H1 I1 r1 q1=> ?_) hs hw
 rw [h1]
 exact M7 (hg pins s1 σ H1 x v _ I1 r1 q1) fun _ s2 q=>q
theorem a90{i:Nat}{x:Str}{e:AG}{te:TE}{pos':Pos}(hN:X.N.Nodup)(hi:X.N[i]?=some x)(hx:Loc X.env.scope x)(he:PE X e te)(hs:swapsWith e (some (.Name x pos')) pos.line X.env=pure false:=by rfl)(hf:X.fn x=true\/X.env.scope.names.lookup x=some .local:=by first|exact .inl rfl|exact .inr rfl|assumption):
 PS X (.Assign [.Name x pos'] e pos) (c09 te (a62 i)):=by
 intro pins s σ H D I h
 refine wpAny_Assign_Name (M7 (he pins s σ H _ I h) fun v s1 h0=>u3 h0 fun y H1 I1 r1 q1=> ?_) hs
 exact b1m I1 hN hi hx r1 (fun s2 I2=>⟨_,H1,I2,q1⟩) hf
end
section
variable {X:Cx}{pos:Pos}
def c0f(c:TT)(tb:TS):TS:=fun D σ H=>∃W:Nat->St->Hp->Prop,(∃m,W m σ H)/\∀m σ H,W m σ H->
 c σ H fun b H1=>if b=true then ∃N:St->Hp->Prop,(∀σ' H',N σ' H'->∃m',m'<m/\W m' σ' H')/\tb {D with nx:=N,ct:=N,bk:=D.nx} σ H1 else D.nx σ H1
theorem b6q{c:AG}{body:List Stmt}{tc:TT}{tb:TS}(hp:PassesOwn (model X.prog X.w) X.A X.env X.xe)(hc:PT X c tc)(hb:PSs X body tb):PS X (.While c body [] pos) (c0f tc tb):=by
 intro pins s σ H D I h
 obtain⟨W,⟨m0,w0⟩,turn⟩:=h
 refine wpAny_While (codeAny_whileLoop (fun n s'=>∃σ' H',m9 X pins σ' H' s'/\W n σ' H') ?_ m0 ⟨σ,H,I,w0⟩)
 rintro n s1 ⟨σ1,H1,I1,w1⟩
 refine wpAny_passesOwn hp (M7 (hc pins s1 σ1 H1 _ I1 (turn n σ1 H1 w1)) fun b s2 ⟨H2,I2,q2⟩=> ?_)
 cases b with
 |true=>
  obtain⟨N,hN,q2⟩:=q2
  rw [if_pos rfl]
  refine wpAny_passesOwn hp (M7 (hb pins s2 σ1 H2 _ I2 q2) fun f s3 q3=> ?_)
  cases f with
  |next=>
   obtain⟨σ3,H3,I3,n3⟩:=q3
   obtain⟨m',hm,w3⟩:=hN σ3 H3 n3
   exact⟨m',hm,σ3,H3,I3,w3⟩
  |cont=>
   obtain⟨σ3,H3,I3,n3⟩:=q3
   obtain⟨m',hm,w3⟩:=hN σ3 H3 n3
   exact⟨m',hm,σ3,H3,I3,w3⟩
  |brk=>exact q3
  |ret v=>exact q3
 |false=>
  rw [if_neg Al]
  exact wpAny_execs_nil ⟨σ1,H2,I2,q2⟩
end
structure It where
 go:Nat->Hp->Prop
 yld:Nat->Hp->V->Hp->Prop
 stop:Nat->Hp->Prop
def a7T(X:Cx)(pins:List (AB×Obj))(H:Hp)(b:AB):Prop:=
 H b=none/\b≠X.env.locals/\b∉X.fs/\(b∈X.ex\/X.s₀.heap.objs.size<=b)/\(∀x c,X.env.cells.lookup x=some c->c≠b)/\∀p∈X.pn++pins,p.1≠b
theorem m9.fpOk{X:Cx}{pins:List (AB×Obj)}{σ:St}{H H':Hp}{s:AC}{b:AB}(I:m9 X pins σ H s)(hb:s.heap.objs.size<=b)(hn:H' b=none):a7T X pins H' b:=by
 refine⟨hn,Nat.ne_of_gt (Av I.lt hb),I.nofs hb,.inr (Nat.le_trans I.sz hb),fun x c e z=> ?_,fun p hp z=> ?_⟩
 ·obtain⟨v,q⟩:=I.cell x c e
  exact absurd (Av q.lt (by rw [z];exact hb)) (Nat.lt_irrefl _)
 ·exact absurd (Av (Ai (I.pin p hp).1) (by rw [z];exact hb)) (Nat.lt_irrefl _)
structure b1H(P:AN)(w:AK)(K:AE)(tg:AG)(J:It)(fp:List AB)(it:AB)(tn:Nat->Heap->Prop):Prop where
 mem:it∈fp
 obj:∀i h,tn i h->∀b∈fp,∃o,h.get? b=some o/\∀v,o.data≠.cell v
 keep:∀i h h',tn i h->(∀b∈fp,∀o,h.get? b=some o->h'.get? b=some o)->tn i h'
 item:∀(X:Cx),X.prog=P->X.w=w->X.K=K->X.calm=true->∀(i:Nat) (pins:List (AB×Obj)) (s:AC) (σ:St) (H:Hp) (E:AA->AC->Prop),m9 X pins σ H s->(∀b∈fp,a7T X pins H b)->tn i s.heap->J.go i H->
  AJ (model P w) X.A (pyNext (.ref it)) (fun r s1=>∃u,r=some u/\
   AJ (model P w) X.A (letOwnedTupleGo tg (.ref it) u) (fun _ s2=>∃x H',m9 X pins σ H' s2/\y6 x u/\J.yld i H x H'/\tn (i+1) s2.heap/\∀b∈fp,H' b=none) E s1) E s
 done:∀(X:Cx),X.prog=P->X.w=w->X.K=K->X.calm=true->∀(i:Nat) (pins:List (AB×Obj)) (s:AC) (σ:St) (H:Hp) (E:AA->AC->Prop),m9 X pins σ H s->(∀b∈fp,a7T X pins H b)->tn i s.heap->J.stop i H->
   AJ (model P w) X.A (pyNext (.ref it)) (fun r s1=>r=none/\m9 X pins σ H s1) E s
 self:∀(A:AO) (i:Nat) (s:AC) (Q:AA->AC->Prop) (E:AA->AC->Prop),tn i s.heap->Q (.ref it) s->AJ (model P w) A (pyIter (.ref it)) Q E s
abbrev TI:=St->Hp->(It->Hp->Prop)->Prop
def PIE(X:Cx)(pins:List (AB×Obj))(σ:St)(tg:AG)(R:It->Hp->Prop)(itv:AA)(s2:AC):Prop:=
 ∃(it:AB) (fp:List AB) (tn:Nat->Heap->Prop) (J:It) (H':Hp),itv= .ref it/\m9 X pins σ H' s2/\b1H X.prog X.w X.K tg J fp it tn/\tn 0 s2.heap/\(∀b∈fp,a7T X pins H' b)/\R J H'
def PI(X:Cx)(tg iter:AG)(wi:TI):Prop:=
 ∀(pins:List (AB×Obj)) (s:AC) (σ:St) (H:Hp) (R:It->Hp->Prop),m9 X pins σ H s->wi σ H R->
  AJ (model X.prog X.w) X.A (eval iter X.env) (fun v s1=>AJ (model X.prog X.w) X.A (pyIter v) (PIE X pins σ tg R) X.xe s1) X.xe s
theorem b0Q{M:Model}{A:AO}{E:AA->AC->Prop}{s:AC}{tg:AG}{it:AB}{u:AA}{o:Obj}{n:String}{vs:Array AA}{Q:Unit->AC->Prop}(ho:s.heap.get? it=some o)(hc:o.cls= .type n)(hd:o.data= .fields vs)
 (hn:["enumerate","zip","dict_itemiterator","dict_reverseitemiterator","odict_iterator","itertools.zip_longest","itertools.pairwise"].contains n=false) (hQ:Q () s):AJ M A (letOwnedTupleGo tg (.ref it) u) Q E s:=by
 unfold letOwnedTupleGo
 cases tg<;>first
  |exact AT hQ
  |(cases u<;>first
   |exact AT hQ
   |(refine AH (wpAny_load ho ?_)
     rw [hc,hd]
     show AJ M A (if(["enumerate","zip","dict_itemiterator","dict_reverseitemiterator","odict_iterator","itertools.zip_longest","itertools.pairwise"].contains n && vs[0]?==some (rawInt _))=true then _ else _) Q E s
     rw [if_neg (by intro h;rw [hn,Bool.false_and] at h;cases h)]
     exact AT hQ))
def Itl(K:AE)(a:AB):It:=
 ⟨fun i H=>∃xs x,V2 K H a xs/\xs[i]?=some x,fun i H x H'=>H'=H/\∀xs,V2 K H a xs->xs[i]?=some x,fun i H=>∃xs,V2 K H a xs/\xs.length<=i⟩
def Itt(K:AE)(a:AB):It:=
 ⟨fun i H=>∃xs x,SqT K H a xs/\xs[i]?=some x,fun i H x H'=>H'=H/\∀xs,SqT K H a xs->xs[i]?=some x,fun i H=>∃xs,SqT K H a xs/\xs.length<=i⟩
def Itr(lo:Int)(n:Nat):It:=⟨fun i _=>i<n,fun i H x H'=>H'=H/\x= .int (lo+i),fun i _=>n<=i⟩
theorem b4F{P:AN}{w:AK}{K:AE}{tg:AG}(a it:AB):b1H P w K tg (Itl K a) [it] it (fun i h=>h.IsListIter it a i) where
 mem:=by simp
 obj:=fun i h st b hb=>by
  have e:b=it:=by simpa using hb
  subst e
  obtain⟨o,e,c,d⟩:=st
  exact⟨o,e,fun v z=>by rw [d] at z;cases z⟩
 keep:=fun i h h' st k=>st.at fun o e=>k it (by simp) o e
 item:=by
  intro X hP hw hK hc i pins s σ H E I hf st hg
  subst hP hw hK
  obtain⟨xs,x,hq,hx⟩:=hg
  obtain⟨its,rv,p,hz⟩:=I.list hq
  obtain⟨u,hu,ru⟩:=rv.get hx
  obtain⟨f0,f1,f2,f3,f4,f5⟩:=hf it (by simp)
  refine wpAny_pyNext_list_item st p.isList (x:=u) (by simpa using hu) fun h' st' sb=> ?_
  have I1:m9 X pins σ H {s with heap:=h'}:=I.turned (t':=s.toks) (fun b o hb e=>(sb.2 b hb).trans e) f0 f1 f3 f4 f5
  obtain⟨o,e,c,d⟩:=id st'
  exact⟨u,rfl,b0Q (s:={s with heap:=h'}) e c d (by decide) ⟨x,H,I1,ru,⟨rfl,fun ys hy=>by rw [I.list_inj hy hq];exact hx⟩,st',fun b hb=>(hf b hb).1⟩⟩
 done:=by
   intro X hP hw hK hc i pins s σ H E I hf st hg
   subst hP hw hK
   obtain⟨xs,hq,hx⟩:=hg
   obtain⟨its,rv,p,hz⟩:=I.list hq
   obtain⟨f0,f1,f2,f3,f4,f5⟩:=hf it (by simp)
   have hl:=rv.length
   exact wpAny_pyNext_list_end (I.ok.hd hc) st p.isList (by simp;lia) fun h' eb=>⟨rfl,I.turned (t':=s.toks) (fun b o hb e=>eb b o hb e) f0 f1 f3 f4 f5⟩
 self:=fun _ _ _ _ _ st h=>wpAny_pyIter_listiter st h
theorem b2C{P:AN}{w:AK}{K:AE}{tg:AG}(a it:AB):b1H P w K tg (Itt K a) [it] it (fun i h=>h.IsTupleIter it a i) where
 mem:=by simp
 obj:=fun i h st b hb=>by
  have e:b=it:=by simpa using hb
  subst e
  obtain⟨o,e,c,d⟩:=st
  exact⟨o,e,fun v z=>by rw [d] at z;cases z⟩
 keep:=fun i h h' st k=>st.at fun o e=>k it (by simp) o e
 item:=by
  intro X hP hw hK hc i pins s σ H E I hf st hg
  subst hP hw hK
  obtain⟨xs,x,hq,hx⟩:=hg
  obtain⟨its,rv,p,hz⟩:=I.tuple hq
  obtain⟨u,hu,ru⟩:=rv.get hx
  obtain⟨f0,f1,f2,f3,f4,f5⟩:=hf it (by simp)
  refine wpAny_pyNext_tuple_item st (show s.heap.IsTuple a its.toArray from p) (x:=u) (by simpa using hu) fun h' st' sb=> ?_
  have I1:m9 X pins σ H {s with heap:=h'}:=I.turned (t':=s.toks) (fun b o hb e=>(sb.2 b hb).trans e) f0 f1 f3 f4 f5
  obtain⟨o,e,c,d⟩:=id st'
  exact⟨u,rfl,b0Q (s:={s with heap:=h'}) e c d (by decide) ⟨x,H,I1,ru,⟨rfl,fun ys hy=>by rw [I.tuple_inj hy hq];exact hx⟩,st',fun b hb=>(hf b hb).1⟩⟩
 done:=by
   intro X hP hw hK hc i pins s σ H E I hf st hg
   subst hP hw hK
   obtain⟨xs,hq,hx⟩:=hg
   obtain⟨its,rv,p,hz⟩:=I.tuple hq
   obtain⟨f0,f1,f2,f3,f4,f5⟩:=hf it (by simp)
   have hl:=rv.length
   exact wpAny_pyNext_tuple_end (I.ok.hd hc) st (show s.heap.IsTuple a its.toArray from p) (by simp;lia) fun h' eb=>⟨rfl,I.turned (t':=s.toks) (fun b o hb e=>eb b o hb e) f0 f1 f3 f4 f5⟩
 self:=fun _ _ _ _ _ st h=>wpAny_pyIter_tupleiter st h
theorem b2B{P:AN}{w:AK}{K:AE}{tg:AG}(it:AB)(lo:Int)(n:Nat):b1H P w K tg (Itr lo n) [it] it (fun i h=>IsRangeIter h it (lo+(i:Nat)*1) ((n:Int) - (i:Nat)) 1) where
 mem:=by simp
 obj:=fun i h st b hb=>by
  have e:b=it:=by simpa using hb
  subst e
  exact⟨_,st,fun v z=>by
   have z':Data.fields _=Data.cell v:=z
   cases z'⟩
 keep:=fun i h h' st k=>k it (by simp) _ st
 item:=by
  intro X hP hw hK hc i pins s σ H E I hf st hg
  subst hP hw hK
  obtain⟨f0,f1,f2,f3,f4,f5⟩:=hf it (by simp)
  have W:=Walks.range (prog:=X.prog) (w:=X.w) (I.ok.hd hc) it lo 1 n
  refine W.item i s _ _ hg st fun v h' tk hv st' kk=> ?_
  obtain⟨t,rfl⟩:=hv
  have I1:m9 X pins σ H {s with heap:=h',toks:=tk}:=I.turned (fun b o hb e=>kk b o (by simpa using hb) e) f0 f1 f3 f4 f5
  refine⟨_,rfl,b0Q (s:={s with heap:=h',toks:=tk}) (n:="range_iterator") st' rfl rfl (by decide) ⟨.int (lo+i),H,I1,⟨t, ?_⟩,⟨rfl,rfl⟩,st',fun b hb=>(hf b hb).1⟩⟩
  rw [Int.mul_one]
 done:=by
   intro X hP hw hK hc i pins s σ H E I hf st hg
   subst hP hw hK
   obtain⟨f0,f1,f2,f3,f4,f5⟩:=hf it (by simp)
   exact wpAny_pyNext_range_end (I.ok.hd hc) st (by have:n<=i:=hg;lia) fun h' eb=>⟨rfl,I.turned (t':=s.toks) (fun b o hb e=>eb b o hb e) f0 f1 f3 f4 f5⟩
 self:=fun _ _ _ _ _ st h=>wpAny_pyIter_rangeiter st h
section
variable {X:Cx}{tg:AG}
theorem b6u{pins:List (AB×Obj)}{σ:St}{H:Hp}{s:AC}{R:It->Hp->Prop}{E:AA->AC->Prop}{lo hi:Int}{t u v:Tok}{tk:Nat}(I:m9 X pins σ H s)(h1: -(2 ^ 62)<=lo)(h2:lo<2 ^ 62)(h3: -(2 ^ 62)<=hi)(h4:hi<2 ^ 62)
 (q:R (Itr lo (hi - lo).toNat) H):AJ (model X.prog X.w) X.A (pyIter (.ref s.heap.objs.size)) (PIE X pins σ tg R) E {s with heap:=s.heap.push {cls:= .type "range",data:= .fields #[.int lo t,.int hi u,.int 1 v]},toks:=tk}:=by
 refine wpAny_pyIter_range (IsRange.new ..) (small_one h1 h2 h3 h4) ?_
 have I1:m9 X pins σ H {s with heap:=s.heap.push {cls:= .type "range",data:= .fields #[.int lo t,.int hi u,.int 1 v]},toks:=tk}:=I.kept fun b o e=>An _ e
 refine⟨(s.heap.push {cls:= .type "range",data:= .fields #[.int lo t,.int hi u,.int 1 v]}).objs.size,[(s.heap.push {cls:= .type "range",data:= .fields #[.int lo t,.int hi u,.int 1 v]}).objs.size],_,_,H,rfl,
  I1.kept (t':=tk) fun b o e=>An _ e,b2B _ lo (hi - lo).toNat, ?_,fun b hb=> ?_,q⟩
 ·have e1:lo+((0:Nat):Int)*1=lo:=by simp
  have e2:(((hi - lo).toNat:Nat):Int) - ((0:Nat):Int)=Builtin.Range.rangeSize lo hi 1:=by rw [rangeSize_one];split<;>lia
  show IsRangeIter _ _ (lo+((0:Nat):Int)*1) ((((hi - lo).toNat:Nat):Int) - ((0:Nat):Int)) 1
  rw [e1,e2]
  exact As _ rfl
 ·have e:b=(s.heap.push {cls:= .type "range",data:= .fields #[.int lo t,.int hi u,.int 1 v]}).objs.size:=by simpa using hb
  subst e
  exact I1.fpOk (Aa _) (I1.hok.fresh (Aa _))
def c0H(ta:TA):TI:=fun σ H R=>ta σ H fun vs H1=>∃j:Int,vs=[.int j]/\ -(2 ^ 62)<=j/\j<2 ^ 62/\R (Itr 0 j.toNat) H1
theorem a8Q{a:AG}{ta:TA}{p pos:Pos}(hg:Gl X "range")(hm:X.mg "range"=none)(ha:PA X [a] ta)(hs:AW [a] X.env=[(false,eval a X.env)]:=by rfl):PI X tg (.Call (.Name "range" p) [a] [] pos) (c0H ta):=by
 intro pins s σ H R I h
 refine Call_ (a9D I hg hm boot_range (PyProof.Rows.callWith_type1 (M7 (ha pos pins s σ H _ I h) fun us s1 h0=>u3 h0 fun vs H1 I1 r1 q1=> ?_) hs rfl))
 obtain⟨j,e,q1,q2,q⟩:=q1
 subst e
 cases r1 with
 |cons r rr=>
  cases rr
  obtain⟨t,rfl⟩:=r
  exact call_range_1 (b6u I1 (by lia) (by lia) q1 q2 (by simpa using q))
def c1Q(wi:TI)(g:TG)(tb:TS):TS:=fun D σ H=>wi σ H fun J H1=>∃W:Nat->Nat->St->Hp->Prop,(∃m,W 0 m σ H1)/\∀i m σ H,W i m σ H->
 (J.stop i H/\D.nx σ H)\/(J.go i H/\∃N:St->Hp->Prop,(∀σ' H',N σ' H'->∃m',m'<m/\W (i+1) m' σ' H')/\∀x H',J.yld i H x H'->g x σ H' fun σ2 H2=>tb {D with nx:=N,ct:=N,bk:=D.nx} σ2 H2)
def a7w(fp:List AB)(h:Heap):List (AB×Obj):=fp.filterMap fun b=>(h.get? b).map fun o=>(b,o)
theorem Z5{fp:List AB}{h:Heap}{b:AB}{o:Obj}(hb:b∈fp)(e:h.get? b=some o):(b,o)∈a7w fp h:=List.mem_filterMap.mpr ⟨b,hb,by rw [e];rfl⟩
theorem b4r{fp:List AB}{h:Heap}{p:AB×Obj}(hp:p∈a7w fp h):p.1∈fp/\h.get? p.1=some p.2:=by
 obtain⟨b,hb,e⟩:=List.mem_filterMap.mp hp
 cases q:h.get? b with
 |none=>rw [q] at e;cases e
 |some o=>
  rw [q] at e
  have e':(b,o)=p:=Option.some.inj e
  subst e'
  exact⟨hb,q⟩
theorem m9.pinned{pins:List (AB×Obj)}{σ:St}{H:Hp}{s:AC}{fp:List AB}(I:m9 X pins σ H s)(hf:∀b∈fp,a7T X pins H b)(ho:∀b∈fp,∃o,s.heap.get? b=some o/\∀v,o.data≠.cell v):m9 X (pins++a7w fp s.heap) σ H s:=
 I.pins_of fun p hp=>(BA.mp hp).elim (fun z=>I.pin p (Ay _ z)) fun z=>by
  obtain⟨hb,e⟩:=b4r z
  obtain⟨f0,f1,f2,_⟩:=hf p.1 hb
  obtain⟨o,e',d⟩:=ho p.1 hb
  rw [e] at e';cases e'
  exact⟨e,f0,f1,f2,d⟩
theorem m9.unpinned{pins pl:List (AB×Obj)}{σ:St}{H:Hp}{s:AC}(I:m9 X (pins++pl) σ H s):m9 X pins σ H s:=I.pins_of fun p hp=>I.pin p (Ay _ (BH _ hp))
theorem b6n{iter:AG}{body:List Stmt}{wi:TI}{g:TG}{tb:TS}{pos:Pos}(hp:PassesOwn (model X.prog X.w) X.A X.env X.xe)(hc:X.calm=true)(hi:PI X tg iter wi)(hg:PG X tg g)(hb:PSs X body tb)
 (hs:∀x,foldedSetIterable iter X.env x=pure x:=by intro _;rfl):PS X (.For tg iter body [] pos) (c1Q wi g tb):=by
 intro pins s σ H D I h
 refine wpAny_For (M7 (hi pins s σ H _ I h) fun v s1 h1=>M7 h1 fun itv s2 h2=> ?_) hs
 obtain⟨it,fp,tn,J,H2,e,I2,T,st2,f2,W,⟨m0,w0⟩,turn⟩:=h2
 subst e
 have stat:∀{H':Hp},(∀b∈fp,H' b=none)->∀b∈fp,a7T X pins H' b:=fun hn b hb=>⟨hn b hb,(f2 b hb).2⟩
 refine codeAny_forLoop_any (fun n s'=>∃i σ' H',m9 X pins σ' H' s'/\tn i s'.heap/\(∀b∈fp,H' b=none)/\W i n σ' H') ?_ m0 ⟨0,σ,H2,I2,st2,fun b hb=>(f2 b hb).1,w0⟩
 rintro n s3 ⟨i,σ3,H3,I3,st3,fr3,w3⟩
 rcases turn i n σ3 H3 w3 with⟨stop,qn⟩|⟨go,N,hN,step⟩
 ·refine wpAny_passesOwn hp (M7 (T.done X rfl rfl rfl hc i pins s3 σ3 H3 X.xe I3 (stat fr3) st3 stop) fun r s4 ⟨hr,I4⟩=> ?_)
  subst hr
  exact wpAny_execs_nil ⟨σ3,H3,I4,qn⟩
 ·refine wpAny_passesOwn hp (M7 (T.item X rfl rfl rfl hc i pins s3 σ3 H3 X.xe I3 (stat fr3) st3 go) fun r s4 ⟨u,hr,h4⟩=> ?_)
  subst hr
  refine wpAny_passesOwn hp (M7 h4 fun _ s5 ⟨x,H5,I5,r5,y5,st5,fr5⟩=> ?_)
  have I5':=I5.pinned (stat fr5) (T.obj _ _ st5)
  refine wpAny_passesOwn hp (M7 (hg _ s5 σ3 H5 x u _ I5' r5 (step x H5 y5)) fun _ s6 ⟨σ6,H6,I6,q6⟩=> ?_)
  refine wpAny_passesOwn hp (M7 (hb _ s6 σ6 H6 _ I6 q6) fun f s7 q7=> ?_)
  have again:∀{σ7:St} {H7:Hp},m9 X (pins++a7w fp s5.heap) σ7 H7 s7->N σ7 H7->∃m,m<n/\∃i σ' H',m9 X pins σ' H' s7/\tn i s7.heap/\(∀b∈fp,H' b=none)/\W i m σ' H':=fun {σ7 H7} I7 n7=>by
   obtain⟨m',hm,w7⟩:=hN σ7 H7 n7
   refine⟨m',hm,i+1,σ7,H7,I7.unpinned,T.keep _ _ _ st5 fun b hb o e=>(I7.pin (b,o) (Ay _ (Ay _ (Z5 hb e)))).1,fun b hb=> ?_,w7⟩
   obtain⟨o,e,d⟩:=T.obj _ _ st5 b hb
   exact(I7.pin (b,o) (Ay _ (Ay _ (Z5 hb e)))).2.1
  cases f with
  |next=>obtain⟨σ7,H7,I7,n7⟩:=q7;exact again I7 n7
  |cont=>obtain⟨σ7,H7,I7,n7⟩:=q7;exact again I7 n7
  |brk=>obtain⟨σ7,H7,I7,q7⟩:=q7;exact⟨σ7,H7,I7.unpinned,q7⟩
  |ret v=>obtain⟨x7,σ7,H7,I7,r7,q7⟩:=q7;exact⟨x7,σ7,H7,I7.unpinned,r7,q7⟩
end
theorem b5q{K:AE}{a:AB}{xs:List V}{g:TG}{tb:TS}{D:a4n}{σ:St}{H:Hp}(Pv:Nat->St->Hp->Prop)(h0:Pv 0 σ H)(hl:∀i σ H,i<=xs.length->Pv i σ H->V2 K H a xs)
 (hs:∀i x σ H,xs[i]?=some x->Pv i σ H->g x σ H fun σ2 H2=>tb {D with nx:=Pv (i+1),ct:=Pv (i+1),bk:=D.nx} σ2 H2) (hd:∀σ H,Pv xs.length σ H->D.nx σ H):
 ∃W:Nat->Nat->St->Hp->Prop,(∃m,W 0 m σ H)/\∀i m σ H,W i m σ H->
  ((Itl K a).stop i H/\D.nx σ H)\/((Itl K a).go i H/\∃N:St->Hp->Prop,(∀σ' H',N σ' H'->∃m',m'<m/\W (i+1) m' σ' H')/\∀x H',(Itl K a).yld i H x H'->g x σ H' fun σ2 H2=>tb {D with nx:=N,ct:=N,bk:=D.nx} σ2 H2):=by
 refine⟨fun i m σ H=>m=xs.length - i/\i<=xs.length/\Pv i σ H,⟨xs.length,by simp,Nat.zero_le _,h0⟩, ?_⟩
 rintro i m σ H ⟨rfl,hi,p⟩
 have q:=hl i σ H hi p
 by_cases hlt:i<xs.length
 ·refine .inr ⟨⟨xs,xs[i],q,by simp [hlt]⟩,Pv (i+1),fun σ' H' p'=>⟨xs.length - (i+1),by lia,rfl,hlt,p'⟩,fun x H' y=> ?_⟩
  obtain⟨e,y⟩:=y
  subst e
  exact hs i x σ _ (y xs q) p
 ·have e:i=xs.length:=by lia
  subst e
  exact .inl ⟨⟨xs,q,Aa _⟩,hd σ H p⟩
theorem b7i{K:AE}{a:AB}{xs:List V}{g:TG}{tb:TS}{D:a4n}{σ:St}{H:Hp}(Pv:Nat->St->Hp->Prop)(h0:Pv 0 σ H)(hl:∀i σ H,i<=xs.length->Pv i σ H->SqT K H a xs)
 (hs:∀i x σ H,xs[i]?=some x->Pv i σ H->g x σ H fun σ2 H2=>tb {D with nx:=Pv (i+1),ct:=Pv (i+1),bk:=D.nx} σ2 H2) (hd:∀σ H,Pv xs.length σ H->D.nx σ H):
 ∃W:Nat->Nat->St->Hp->Prop,(∃m,W 0 m σ H)/\∀i m σ H,W i m σ H->
  ((Itt K a).stop i H/\D.nx σ H)\/((Itt K a).go i H/\∃N:St->Hp->Prop,(∀σ' H',N σ' H'->∃m',m'<m/\W (i+1) m' σ' H')/\∀x H',(Itt K a).yld i H x H'->g x σ H' fun σ2 H2=>tb {D with nx:=N,ct:=N,bk:=D.nx} σ2 H2):=by
 refine⟨fun i m σ H=>m=xs.length - i/\i<=xs.length/\Pv i σ H,⟨xs.length,by simp,Nat.zero_le _,h0⟩, ?_⟩
 rintro i m σ H ⟨rfl,hi,p⟩
 have q:=hl i σ H hi p
 by_cases hlt:i<xs.length
 ·refine .inr ⟨⟨xs,xs[i],q,by simp [hlt]⟩,Pv (i+1),fun σ' H' p'=>⟨xs.length - (i+1),by lia,rfl,hlt,p'⟩,fun x H' y=> ?_⟩
  obtain⟨e,y⟩:=y
  subst e
  exact hs i x σ _ (y xs q) p
 ·have e:i=xs.length:=by lia
  subst e
  exact .inl ⟨⟨xs,q,Aa _⟩,hd σ H p⟩
theorem b36{lo:Int}{n:Nat}{g:TG}{tb:TS}{D:a4n}{σ:St}{H:Hp}(Pv:Nat->St->Hp->Prop)(h0:Pv 0 σ H)
 (hs:∀i σ H,i<n->Pv i σ H->g (.int (lo+i)) σ H fun σ2 H2=>tb {D with nx:=Pv (i+1),ct:=Pv (i+1),bk:=D.nx} σ2 H2) (hd:∀σ H,Pv n σ H->D.nx σ H):
 ∃W:Nat->Nat->St->Hp->Prop,(∃m,W 0 m σ H)/\∀i m σ H,W i m σ H->
  ((Itr lo n).stop i H/\D.nx σ H)\/((Itr lo n).go i H/\∃N:St->Hp->Prop,(∀σ' H',N σ' H'->∃m',m'<m/\W (i+1) m' σ' H')/\∀x H',(Itr lo n).yld i H x H'->g x σ H' fun σ2 H2=>tb {D with nx:=N,ct:=N,bk:=D.nx} σ2 H2):=by
 refine⟨fun i m σ H=>m=n - i/\i<=n/\Pv i σ H,⟨n,by simp,Nat.zero_le _,h0⟩, ?_⟩
 rintro i m σ H ⟨rfl,hi,p⟩
 by_cases hlt:i<n
 ·refine .inr ⟨hlt,Pv (i+1),fun σ' H' p'=>⟨n - (i+1),by lia,rfl,hlt,p'⟩,fun x H' y=> ?_⟩
  obtain⟨e,y⟩:=y
  subst e y
  exact hs i σ _ hlt p
 ·have e:i=n:=by lia
  subst e
  exact .inl ⟨Aa _,hd σ H p⟩
abbrev R2:=V->V->Hp->VK->Prop
def OpR(X:Cx)(f:AA->AA->Sem AA)(r:R2):Prop:=
 ∀(pins:List (AB×Obj)) (s:AC) (σ:St) (H:Hp) (x y:V) (v u:AA) (Q:VK),m9 X pins σ H s->y6 x v->y6 y u->r x y H Q->
  AJ (model X.prog X.w) X.A (f v u) (EP X pins σ Q) X.xe s
def UnR(X:Cx)(f:AA->Sem AA)(r:V->Hp->VK->Prop):Prop:=
 ∀(pins:List (AB×Obj)) (s:AC) (σ:St) (H:Hp) (x:V) (v:AA) (Q:VK),m9 X pins σ H s->y6 x v->r x H Q->
  AJ (model X.prog X.w) X.A (f v) (EP X pins σ Q) X.xe s
def a0b(X:Cx)(f:AA)(r:List V->Hp->VK->Prop):Prop:=
 ∀(pins:List (AB×Obj)) (s:AC) (σ:St) (H:Hp) (xs:List V) (us:List AA) (Q:VK),m9 X pins σ H s->u9 xs us->r xs H Q->
  AJ (model X.prog X.w) X.A (call f us) (EP X pins σ Q) X.xe s
def c1q(X:Cx)(r:V->Hp->(Bool->Hp->Prop)->Prop):Prop:=
 ∀(pins:List (AB×Obj)) (s:AC) (σ:St) (H:Hp) (x:V) (v:AA) (Q:Bool->Hp->Prop),m9 X pins σ H s->y6 x v->r x H Q->
  AJ (model X.prog X.w) X.A (truthy v) (TP X pins σ Q) X.xe s
def tOp(r:R2)(ta tb:TE):TE:=fun σ H Q=>ta σ H fun x H1=>tb σ H1 fun y H2=>r x y H2 Q
def tUn(r:V->Hp->VK->Prop)(ta:TE):TE:=fun σ H Q=>ta σ H fun x H1=>r x H1 Q
def rI(C:Int->Int->Prop)(g:Int->Int->V):R2:=fun x y H Q=>∃i j,x= .int i/\y= .int j/\C i j/\Q (g i j) H
def rI0(g:Int->Int->V):R2:=fun x y H Q=>∃i j,x= .int i/\y= .int j/\Q (g i j) H
def rU(g:Int->V):V->Hp->VK->Prop:=fun x H Q=>∃i,x= .int i/\Q (g i) H
section
variable {X:Cx}{a b c:AG}{ta tb tc:TE}{pos:Pos}
theorem b88(ha:PE X a ta)(hb:PE X b tb){pins:List (AB×Obj)}{s:AC}{σ:St}{H:Hp}{R:V->V->Hp->Prop}(I:m9 X pins σ H s)
 (h:ta σ H fun x H1=>tb σ H1 fun y H2=>R x y H2) {Q:AA->AC->Prop} {f:AA->AA->Sem AA}
 (hf:∀v u s2 x y H2,m9 X pins σ H2 s2->y6 x v->y6 y u->R x y H2->AJ (model X.prog X.w) X.A (f v u) Q X.xe s2):
 AJ (model X.prog X.w) X.A (eval a X.env) (fun v s₁=>AJ (model X.prog X.w) X.A (eval b X.env) (fun u s₂=>AJ (model X.prog X.w) X.A (f v u) Q X.xe s₂) X.xe s₁) X.xe s:=by
 refine M7 (ha pins s σ H _ I h) fun v s1 h0=>u3 h0 fun x H1 I1 r1 q1=> ?_
 refine M7 (hb pins s1 σ H1 _ I1 q1) fun u s2 h0=>u3 h0 fun y H2 I2 r2 q2=> ?_
 exact hf v u s2 x y H2 I2 r1 r2 q2
theorem c00{op:Operator}{r:R2}(ho:OpR X (binaryOp op) r)(ha:PE X a ta)(hb:PE X b tb):PE X (.BinOp a op b pos) (tOp r ta tb):=by
 intro pins s σ H Q I h
 exact wpAny_BinOp (b88 ha hb I h fun v u s2 x y H2 I2 rx ry q=>ho pins s2 σ H2 x y v u Q I2 rx ry q)
theorem c02{op:UnaryOp}{r:V->Hp->VK->Prop}(ho:UnR X (unaryOp op) r)(ha:PE X a ta):PE X (.UnaryOp op a pos) (tUn r ta):=by
 intro pins s σ H Q I h
 exact UnaryOp_ (M7 (ha pins s σ H _ I h) fun v s1 h0=>u3 h0 fun x H1 I1 r1 q1=>ho pins s1 σ H1 x v Q I1 r1 q1)
theorem opI{f:AA->AA->Sem AA}{C:Int->Int->Prop}{g:Int->Int->Int}
 (rule:∀(i j:Int) (t u:Tok) (s:AC) (Q:AA->AC->Prop) (E:AA->AC->Prop),C i j->Q (.int (g i j) s.toks) {s with toks:=s.toks+1}->AJ (model X.prog X.w) X.A (f (.int i t) (.int j u)) Q E s):
 OpR X f (rI C fun i j=> .int (g i j)):=by
 intro pins s σ H x y v u Q I rx ry h
 obtain⟨i,j,rfl,rfl,hc,q⟩:=h
 obtain⟨t,rfl⟩:=rx
 obtain⟨t',rfl⟩:=ry
 exact rule i j t t' s _ _ hc ⟨.int (g i j),H,I.tok _,⟨_,rfl⟩,q⟩
theorem c0T{f:AA->AA->Sem AA}{g:Int->Int->Int}
 (rule:∀(i j:Int) (t u:Tok) (s:AC) (Q:AA->AC->Prop) (E:AA->AC->Prop),Q (.int (g i j) s.toks) {s with toks:=s.toks+1}->AJ (model X.prog X.w) X.A (f (.int i t) (.int j u)) Q E s):
 OpR X f (rI0 fun i j=> .int (g i j)):=by
 intro pins s σ H x y v u Q I rx ry h
 obtain⟨i,j,rfl,rfl,q⟩:=h
 obtain⟨t,rfl⟩:=rx
 obtain⟨t',rfl⟩:=ry
 exact rule i j t t' s _ _ ⟨.int (g i j),H,I.tok _,⟨_,rfl⟩,q⟩
theorem c0S{f:AA->AA->Sem AA}{g:Int->Int->Bool}
 (rule:∀(i j:Int) (t u:Tok) (s:AC) (Q:AA->AC->Prop) (E:AA->AC->Prop),Q (.bool (g i j)) s->AJ (model X.prog X.w) X.A (f (.int i t) (.int j u)) Q E s):
 OpR X f (rI0 fun i j=> .bl (g i j)):=by
 intro pins s σ H x y v u Q I rx ry h
 obtain⟨i,j,rfl,rfl,q⟩:=h
 obtain⟨t,rfl⟩:=rx
 obtain⟨t',rfl⟩:=ry
 exact rule i j t t' s _ _ ⟨.bl (g i j),H,I,rfl,q⟩
def a5M(i j:Int):Prop:=0<j/\j<1073741824
def b1x(i j:Int):Prop:=(-(2 ^ 64)<i/\i<2 ^ 64)\/(-(2 ^ 64)<j/\j<2 ^ 64)
theorem b1x.ok{i j:Int}(h:b1x i j):IntMulOk i j:=by
 rcases h with⟨h1,h2⟩|⟨h1,h2⟩
 ·exact .of_left (intBits_le_64 h1 h2)
 ·exact .of_right (intBits_le_64 h1 h2)
theorem b9I:OpR X (binaryOp .Add) (rI0 fun i j=> .int (i+j)):=c0T fun _ _ _ _ _ _ _ q=>add_int q
theorem b9O:OpR X (binaryOp .Sub) (rI0 fun i j=> .int (i - j)):=c0T fun _ _ _ _ _ _ _ q=>sub_int q
theorem b9M:OpR X (binaryOp .Mult) (rI b1x fun i j=> .int (i*j)):=opI fun _ _ _ _ _ _ _ hc q=>mul_int q hc.ok
theorem b7R:OpR X (binaryOp .FloorDiv) (rI a5M fun i j=> .int (i / j)):=opI fun i j _ _ _ _ _ hc q=>by
 have h1:(0:Int)<j:=hc.1
 have h2:j<1073741824:=hc.2
 exact floordiv_int (by lia) (by rw [Int.fdiv_eq_ediv_of_nonneg i (by lia)];exact q) (.inl (PyProof.noPylong_small (by lia)))
theorem b9L:OpR X (binaryOp .Mod) (rI (fun _ j=>0<j) fun i j=> .int (i % j)):=opI fun i j _ _ _ _ _ hc q=>by
 have h1:(0:Int)<j:=hc
 exact mod_int' (by lia) (by rw [Int.fmod_eq_emod_of_nonneg i (by lia)];exact q)
theorem unI{f:AA->Sem AA}{g:Int->Int}
 (rule:∀(i:Int) (t:Tok) (s:AC) (Q:AA->AC->Prop) (E:AA->AC->Prop),Q (.int (g i) s.toks) {s with toks:=s.toks+1}->AJ (model X.prog X.w) X.A (f (.int i t)) Q E s):
 UnR X f (rU fun i=> .int (g i)):=by
 intro pins s σ H x v Q I rx h
 obtain⟨i,rfl,q⟩:=h
 obtain⟨t,rfl⟩:=rx
 exact rule i t s _ _ ⟨.int (g i),H,I.tok _,⟨_,rfl⟩,q⟩
theorem c0l:UnR X (unaryOp .USub) (rU fun i=> .int (-i)):=unI fun _ _ _ _ _ q=>neg_int q
end
section
variable {X:Cx}{a b c:AG}{ta tb tc:TE}{pos:Pos}
theorem b1V{pins:List (AB×Obj)}{σ:St}{H:Hp}{s:AC}{Q:VK}{k k':Bool}(I:m9 X pins σ H s)(q:Q (.bl k) H)(e:k=k'):EP X pins σ Q (.bool k') s:=by
 subst e
 exact⟨.bl k,H,I,rfl,q⟩
theorem c0V:OpR X (compareOp .Lt) (rI0 fun i j=> .bl (decide (i<j))):=c0S fun _ _ _ _ _ _ _ q=>lt_int q
theorem c0U:OpR X (compareOp .Gt) (rI0 fun i j=> .bl (decide (j<i))):=c0S fun _ _ _ _ _ _ _ q=>gt_int q
theorem b4w:OpR X (compareOp .Lt) (fun x y H Q=>∃i j,x= .str i/\y= .str j/\Q (.bl (decide (i.cps.toList<j.cps.toList))) H):=by
 intro pins s σ H x y v u Q I rx ry h
 obtain⟨i,j,rfl,rfl,q⟩:=h
 obtain⟨t,rfl⟩:=rx
 obtain⟨t',rfl⟩:=ry
 exact lt_str (b1V I q rfl)
theorem b4v:OpR X (compareOp .In) (fun x y H Q=>∃i j,x= .str i/\y= .str j/\Q (.bl (!(Builtin.Str.occurrences j i 0 j.length 1).isEmpty)) H):=by
 intro pins s σ H x y v u Q I rx ry h
 obtain⟨i,j,rfl,rfl,q⟩:=h
 obtain⟨t,rfl⟩:=rx
 obtain⟨t',rfl⟩:=ry
 exact in_str (b1V I q rfl)
theorem b9K:OpR X (compareOp .Is) (fun x y H Q=>y= .non/\Q (.bl (decide (x= .non))) H):=by
 intro pins s σ H x y v u Q I rx ry h
 obtain⟨rfl,q⟩:=h
 cases ry
 refine is_none_gen (b1V I q ?_)
 cases x<;>first
  |(cases rx;rfl)
  |(obtain⟨t,rfl⟩:=rx;rfl)
theorem b7X{op:CmpOp}{r:R2}(ho:OpR X (compareOp op) r)(ha:PE X a ta)(hb:PE X b tb)(hm:behindInMarks op b=false):PE X (.Compare a [op] [b] pos) (tOp r ta tb):=by
 intro pins s σ H Q I h
 exact wpAny_Compare1 (b88 ha hb I h fun v u s2 x y H2 I2 rx ry q=>ho pins s2 σ H2 x y v u Q I2 rx ry q) hm
def c1h(t:TE):TT:=fun σ H Q=>t σ H fun x H'=>∃k,x= .bl k/\Q k H'
theorem b77{op:CmpOp}{r:R2}(ho:OpR X (compareOp op) r)(ha:PE X a ta)(hb:PE X b tb)(hm:behindInMarks op b=false):PT X (.Compare a [op] [b] pos) (c1h (tOp r ta tb)):=by
 intro pins s σ H Q I h
 refine wpAny_isTrue_Compare1 (M7 (ha pins s σ H _ I h) fun v s1 h0=>u3 h0 fun x H1 I1 r1 q1=>M7 (hb pins s1 σ H1 _ I1 q1) fun u s2 h0=>u3 h0 fun y H2 I2 r2 q2=>
  M7 (ho pins s2 σ H2 x y v u _ I2 r1 r2 q2) fun c s3 ⟨z,H3,I3,r3,k,e,q3⟩=> ?_) hm
 subst e
 cases r3
 exact wpAny_truthy_bool ⟨H3,I3,q3⟩
def b83(K:AE)(x:V)(H:Hp)(k:Bool):Prop:=
 match x with
 | .non=>k=false
 | .bl b=>k=b
 | .int i=>k=(i !=0)
 | .str y=>y.length<=AM/\k=((y.length:Int) !=0)
 | .byt y=>y.size<=AM/\k=((y.size:Int) !=0)
 | .ref p=>(∃xs,V2 K H p xs/\k= !xs.isEmpty)\/(∃xs,SqT K H p xs/\k= !xs.isEmpty)\/∃kvs,H p=some (.dK kvs)/\k= !kvs.isEmpty
 |_=>False
theorem b12{κ:Type}{kvs:List (κ×V)}{vs:List (κ×AA)}(r:KV kvs vs):(!vs.isEmpty)= !kvs.isEmpty:=by
 cases r<;>rfl
theorem a67{xs:List V}{its:List AA}(r:u9 xs its):(!its.toArray.isEmpty)= !xs.isEmpty:=by
 cases r<;>simp
theorem a4J:(AM:Nat)<2 ^ 63:=by rw [sizeLine_eq];decide
theorem c0k:c1q X (fun x H Q=>∃k,b83 X.K x H k/\Q k H):=by
 intro pins s σ H x v Q I rx h
 obtain⟨k,e,q⟩:=h
 have hl:=a4J
 have hs:AM=16777216:=sizeLine_eq
 cases x with
 |non=>
  cases rx
  have e':k=false:=e
  subst e'
  exact truthy_none ⟨H,I,q⟩
 |bl b=>
  cases rx
  have e':k=b:=e
  subst e'
  exact wpAny_truthy_bool ⟨H,I,q⟩
 |int i=>
  obtain⟨t,rfl⟩:=rx
  have e':k=(i !=0):=e
  subst e'
  exact PySem.P.truthy_int ⟨H,I,q⟩
 |str y=>
  obtain⟨t,rfl⟩:=rx
  obtain⟨hy,e'⟩:y.length<=AM/\k=((y.length:Int) !=0):=e
  subst e'
  exact PySem.P.truthy_str (by lia) ⟨H,I.tok _,q⟩
 |byt y=>
  obtain⟨t,rfl⟩:=rx
  obtain⟨hy,e'⟩:y.size<=AM/\k=((y.size:Int) !=0):=e
  subst e'
  exact PySem.W.truthy_bytes (by lia) ⟨H,I.tok _,q⟩
 |ref p=>
  cases rx
  have e':(∃xs,V2 X.K H p xs/\k= !xs.isEmpty)\/(∃xs,SqT X.K H p xs/\k= !xs.isEmpty)\/∃kvs,H p=some (.dK kvs)/\k= !kvs.isEmpty:=e
  rcases e' with⟨xs,hx,e'⟩|⟨xs,hx,e'⟩|⟨kvs,hx,e'⟩
  ·subst e'
   obtain⟨its,r,pl,hz⟩:=I.list hx
   have hlen:=r.length
   exact wpAny_truthy_list pl.isList (by simp only [Aj];lia) ⟨H,I.tok _,by rw [a67 r];exact q⟩
  ·subst e'
   obtain⟨its,r,pl,hz⟩:=I.tuple hx
   have hlen:=r.length
   exact truthy_tuple pl (by simp only [Aj];lia) ⟨H,I.tok _,by rw [a67 r];exact q⟩
  ·subst e'
   obtain⟨hz,hS,vs,r,m⟩:kvs.length<=AM/\(p==sysModules)=false/\∃vs,KV kvs vs/\s.heap.DictOf (A0 X.prog X.w) p vs:=I.hok p _ hx
   have hlen:kvs.length=vs.length:=Paired.length r
   exact wpAny_truthy_dict hS m (by lia) ⟨H,I.tok _,by rw [b12 r];exact q⟩
 |_=>exact(show False from e).elim
theorem b6r(ha:PE X a ta)(he:∀whole,isTrue a X.env whole=(do let v<-whole;standAt a.pos;holding [v] (truthy v))):
 PT X a (fun σ H Q=>ta σ H fun x H'=>∃k,b83 X.K x H' k/\Q k H'):=by
 intro pins s σ H Q I h
 exact isTrue_plain (M7 (ha pins s σ H _ I h) fun v s1 h0=>u3 h0 fun x H1 I1 r1 q1=>c0k pins s1 σ H1 x v Q I1 r1 q1) (he _)
theorem b2o:OpR X (binaryOp .Add) (fun x y H Q=>∃i j,x= .str i/\y= .str j/\i.length+j.length<=AM/\Q (.str (i++j)) H):=by
 intro pins s σ H x y v u Q I rx ry h
 obtain⟨i,j,rfl,rfl,hz,q⟩:=h
 obtain⟨t,rfl⟩:=rx
 obtain⟨t',rfl⟩:=ry
 exact add_str (fun t' tk=>⟨.str (i++j),H,I.tok _,⟨_,rfl⟩,q⟩) hz
theorem a7Q{x:V}{us:List AA}(r:u9 [x] us):∃u,us=[u]/\y6 x u:=by
 cases r with
 |cons r1 r2=>cases r2;exact⟨_,rfl,r1⟩
end
section
variable {prog:AN}{w:AK}{A:AO}{E:AA->AC->Prop}{s:AC}{K:AE}{x dx C f:AB}{mA:Str->Option AA}{name:Str}{v:AA}
end
theorem a7U.some_of{v:V}{o:Option AA}(r:a7U (some v) o):∃u,o=some u/\y6 v u:=by
 cases o with
 |none=>exact(show False from r).elim
 |some u=>exact⟨u,rfl,r⟩
section
variable {P:AN}{w:AK}{H H':Hp}{h h':Heap}{a C dx:AB}{fs fs':List (Str×V)}
end
section
variable {X:Cx}{pins:List (AB×Obj)}{σ:St}{H:Hp}{s:AC}{a C dx:AB}{fs:List (Str×V)}{f:Str}{v:V}{A:AO}{E:AA->AC->Prop}
end
section
variable {X:Cx}{o e value:AG}{f:Str}{pos pos' tpos:Pos}{ta tv:TE}
end
section
variable {X:Cx}{pins:List (AB×Obj)}{σ:St}{H:Hp}{s:AC}{A:AO}{E:AA->AC->Prop}{Q:AA->AC->Prop}{c:AA}{b:Bool}
end
structure Y1(k:Nat)(A:AO):Prop where
 hd:A.handled=none
 dp:A.depth+3*k+5<recursionLimit
 un:A.units+16*k+200<cLine
theorem Y1.mono{j k:Nat}{A:AO}(r:Y1 k A)(h:j<=k):Y1 j A:=⟨r.hd,by have:=r.dp;lia,by have:=r.un;lia⟩
theorem Y1.deeper{k:Nat}{A:AO}(r:Y1 (k+1) A)(env:Env):Y1 k (A.deeper env):=
 ⟨r.hd,by have:=r.dp;show A.depth+1+3*k+5<_;lia,by have:=r.un;show A.units+3+16*k+200<_;lia⟩
theorem Y1.depth{k:Nat}{A:AO}(r:Y1 k A):A.depth<recursionLimit:=by have:=r.dp;lia
theorem Y1.units{k:Nat}{A:AO}(r:Y1 k A):A.units+64<cLine:=by have:=r.un;lia
def c1f:TA:=fun _ H Q=>Q [] H
def b8X(ta:TE)(tr:TA):TA:=fun σ H Q=>ta σ H fun x H1=>tr σ H1 fun xs H2=>Q (x::xs) H2
section
variable {X:Cx}{e:AG}{es:List AG}{te:TE}{t:TA}{pos:Pos}
theorem V8:PA X [] c1f:=fun _ _ _ _ H Q I h=>Calls.spliced_nil ⟨[],H,I,.nil,h⟩
theorem E9(ha:PE X e te)(hr:PA X es t)(hs:AW (e::es) X.env=(false,eval e X.env)::AW es X.env:=by rfl):PA X (e::es) (b8X te t):=by
 intro pos pins s σ H Q I h
 rw [hs]
 show AJ _ _ (spliced ((false,eval e X.env)::backTo pos (AW es X.env))) _ _ s
 refine Calls.spliced_cons (M7 (ha pins s σ H _ I h) fun u s1 h0=>u3 h0 fun x H1 I1 r1 q1=> ?_)
 exact M7 (hr pos pins s1 σ H1 _ I1 q1) fun us s2 h0=>u3 h0 fun xs H2 I2 r2 q2=>⟨x::xs,H2,I2,.cons r1 r2,q2⟩
def c1X(t:TA):TE:=fun σ H Q=>t σ H fun xs H1=>xs.length<=AM/\∀p,H1 p=none->Q (.ref p) (upd H1 p (.tup xs))
def c1S(t:TA):TE:=fun σ H Q=>t σ H fun xs H1=>xs.length<=AM/\∀p,H1 p=none->Q (.ref p) (upd H1 p (.lst xs))
theorem b2s{x1}(h:PA X es t):PE X (.Tuple es x1 pos) (c1X t):=by
 intro pins s σ H Q I hq
 refine wpAny_Tuple_spliced (M7 (h pos pins s σ H _ I hq) fun us s1 h0=>a53 h0 fun xs H1 I1 r z q=>⟨by rw [<-r.length];exact z, ?_⟩)
 have hf:H1 s1.heap.objs.size=none:=I1.hok.fresh (Aa _)
 refine⟨.ref s1.heap.objs.size,upd H1 s1.heap.objs.size (.tup xs),I1.laid (t':=s1.toks) (fun b u e=>An _ e) (Aa _) ?_,rfl,q _ hf⟩
 exact⟨z,us,r,⟨_,As _ rfl,rfl,_,rfl⟩⟩
theorem b9V(h:PA X es t):PE X (.List es pos) (c1S t):=by
 intro pins s σ H Q I hq
 refine wpAny_List_spliced (M7 (h pos pins s σ H _ I hq) fun us s1 h0=>a53 h0 fun xs H1 I1 r z q=>⟨by rw [<-r.length];exact z, ?_⟩)
 have hf:H1 s1.heap.objs.size=none:=I1.hok.fresh (Aa _)
 refine⟨.ref s1.heap.objs.size,upd H1 s1.heap.objs.size (.lst xs),I1.laid (t':=s1.toks) (fun b u e=>An _ e) (Aa _) ?_,rfl,q _ hf⟩
 exact⟨z,us,0,r,As _ rfl⟩
end
abbrev Sp:=List V->Hp->VK->XK->Prop
abbrev CXT:=List Env->Hp->AC->XK->AA->AC->Prop
structure b6W(P:AN)(w:AK)(K:AE)(mg:Str->Option AA)(base:Heap)(A:AO)(outer:List Env)(s:AC)(H:Hp):Prop where
 frames:A.frames=some outer
 mod:Mod K mg base
 bs:∀b o,base.get? b=some o->s.heap.get? b=some o/\H b=none
 bsz:base.objs.size<=s.heap.objs.size
 funs:s.heap.FunFrames base outer
 frf:∀b∈frs outer,H b=none
 hok:HOk P w H s.heap
 bare:AllBare s.gens
def CE(outer:List Env)(P:AN)(w:AK)(H:Hp)(s:AC)(Q:VK)(u:AA)(s':AC):Prop:=
 ∃v H',s'.os=s.os/\AllBare s'.gens/\Un (frs outer) [] H H' s.heap s'.heap/\HOk P w H' s'.heap/\y6 v u/\Q v H'
def CR(CX:CXT)(outer:List Env)(P:AN)(w:AK)(H:Hp)(s:AC)(Q:VK)(E:XK)(r:Result)(s':AC):Prop:=
 match r with
 | .ok (.ret u)=>CE outer P w H s Q u s'
 | .ok _=>False
 | .error e=>CX outer H s E e s'
structure a0G(P:AN)(w:AK)(K:AE)(mg:Str->Option AA)(base:Heap)(CX:CXT)(k:Nat)(f:AB)(fd:FuncData)(ps:List Str)(sp:Sp):Prop where
 len:∀vs H Q E,sp vs H Q E->vs.length=ps.length
 run:∀(A:AO) (outer:List Env) (s:AC) (H:Hp) (args:Args) (us:List AA) (vs:List V) (Q:VK) (E:XK),Y1 k A->b6W P w K mg base A outer s H->BindsTo s fd args (ps.zip us)->u9 vs us->sp vs H Q E->
  codeAny (model P w) A (.call (.ref f) args) (CR CX outer P w H s Q E) s
theorem a0G.mono{P:AN}{w:AK}{K:AE}{mg:Str->Option AA}{base:Heap}{CX:CXT}{j k:Nat}{f:AB}{fd:FuncData}{ps:List Str}{sp:Sp}(F:a0G P w K mg base CX j f fd ps sp)(h:j<=k):
 a0G P w K mg base CX k f fd ps sp:=⟨F.len,fun A outer s H args us vs Q E hr=>F.run A outer s H args us vs Q E (hr.mono h)⟩
theorem a0G.imp{P:AN}{w:AK}{K:AE}{mg:Str->Option AA}{base:Heap}{CX:CXT}{k:Nat}{f:AB}{fd:FuncData}{ps:List Str}{sp sp':Sp}(F:a0G P w K mg base CX k f fd ps sp)
 (h:∀vs H Q E,sp' vs H Q E->sp vs H Q E):a0G P w K mg base CX k f fd ps sp':=
 ⟨fun vs H Q E q=>F.len vs H Q E (h _ _ _ _ q),fun A outer s H args us vs Q E hr he hb hv hs=>F.run A outer s H args us vs Q E hr he hb hv (h _ _ _ _ hs)⟩
section
variable {X:Cx}{pins:List (AB×Obj)}{σ:St}{H:Hp}{s s':AC}
theorem m9.env0(I:m9 X pins σ H s):b6W X.prog X.w X.K X.mg X.base X.A X.stack s H:=
 ⟨I.ok.frames,I.ok.mod,I.bs,Nat.le_trans I.ok.bsz I.sz,I.stack,I.stkFree,I.hok,I.bare⟩
theorem m9.after{Q:VK}{u:AA}(I:m9 X pins σ H s)(h:CE X.stack X.prog X.w H s Q u s'):EP X pins σ Q u s':=by
 obtain⟨v,H',os,bare,un,hok,r,q⟩:=h
 obtain⟨hh,g,d,t,os'⟩:=s'
 obtain rfl:os'=s.os:=os
 exact⟨v,H',I.call (h':=hh) (g':=g) (d':=d) (t':=t) (ch:=[]) un hok bare (fun b z=>absurd z (by simp)),r,q⟩
end
def c1a(sp:Sp)(dvs:List V)(E:XK)(t:TA):TE:=fun σ H Q=>t σ H fun vs H1=>sp (vs++dvs) H1 Q E
def a6h(K:AE)(fd:FuncData)(ps:List Str)(ds:List AA):Prop:=
 ∀(s:AC) (us:List AA),K.In s.heap->(us++ds).length=ps.length->BindsTo s fd ⟨us,[]⟩ (ps.zip (us++ds))
theorem a6h.all{K:AE}{fd:FuncData}{ps:List Str}(h:∀us:List AA,us.length=ps.length->bindArgs fd ⟨us,[]⟩=pure (ps.zip us)):a6h K fd ps []:=fun s us _ hl=>by
 rw [Af] at hl ⊢
 exact .of_eq (h us hl)
def b1F(CX:CXT)(X:Cx)(E:XK):Prop:=∀(pins:List (AB×Obj)) (σ:St) (H:Hp) (s:AC) (e:AA) (s':AC),m9 X pins σ H s->CX X.stack H s E e s'->X.xe e s'
section
variable {X:Cx}{CX:CXT}{k:Nat}{f C:AB}{fd:FuncData}{ps:List Str}{sp:Sp}{dvs:List V}{ds:List AA}{E:XK}{x m:Str}{p pos apos:Pos}{e o:AG}{es:List AG}{ta:TE}{t:TA}
theorem b98{pins:List (AB×Obj)}{σ:St}{H:Hp}{s:AC}{Q:VK}{us:List AA}{vs:List V}(F:a0G X.prog X.w X.K X.mg X.base CX k f fd ps sp)(hr:Y1 k X.A)(hb:a6h X.K fd ps ds)(hd:u9 dvs ds)(hx:b1F CX X E)
 (I:m9 X pins σ H s) (r:u9 vs us) (h:sp (vs++dvs) H Q E):AJ (model X.prog X.w) X.A (call (.ref f) us) (EP X pins σ Q) X.xe s:=by
 have r2:u9 (vs++dvs) (us++ds):=r.append hd
 have hl:(us++ds).length=ps.length:=by rw [<-r2.length];exact F.len _ _ _ _ h
 refine wpAny_call (codeAny_mono (F.run X.A X.stack s H ⟨us,[]⟩ (us++ds) (vs++dvs) Q E hr I.env0 (hb s us I.kIn hl) r2 h) fun r s' hq=> ?_)
 cases r with
 |error e=>exact hx pins σ H s e s' I hq
 |ok fl=>
  cases fl with
  |ret u=>exact I.after hq
  |next=>exact False.elim hq
  |brk=>exact False.elim hq
  |cont=>exact False.elim hq
theorem a9Z(F:a0G X.prog X.w X.K X.mg X.base CX k f fd ps sp)(hr:Y1 k X.A)(hg:Gl X x)(hm:X.mg x=some (.ref f))(hk:PySem.W.keepIn X.K (.ref f)=true)(hb:a6h X.K fd ps ds)(hd:u9 dvs ds)(hx:b1F CX X E)
 (ha:PA X (e::es) t) (hdb:(x==("__debug__":Str))=false:=by decide) (he:AW (e::es) X.env=(false,eval e X.env)::AW es X.env:=by rfl) (hpl:(backTo pos (AW es X.env)).any (·.1)=false:=by rfl):
 PE X (.Call (.Name x p) (e::es) [] pos) (c1a sp dvs E t):=by
 intro pins s σ H Q I h
 refine wpAny_Call_Name_kw (a9E I hg hm ?_ hdb)
 refine PySem.W.callWith_K (h₀:=X.base) I.ok.mod.kin hk (M7 (ha pos pins s σ H _ I h) fun us s1 h0=>u3 h0 fun vs H1 I1 r q=>⟨I1.kIn, ?_⟩) he hpl
 exact b98 F hr hb hd hx I1 r q
end
section
variable {X:Cx}{CX:CXT}{k:Nat}{f C:AB}{fd:FuncData}{ps ks:List Str}{sp:Sp}{E:XK}{x m:Str}{p pos apos kpos:Pos}{e o:AG}{es:List AG}{kws:List Keyword}{te ta:TE}{t tk:TA}{nm:Option Str}
variable {g:List AA->List AA->List AA}{gV:List V->List V->List V}
end
structure l9(N P:List Str)(sc:Scope):Prop where
 kind:sc.kind= .function
 co:sc.isCoroutine=false
 gen:sc.isGenerator=false
 nd:N.Nodup
 pre:N.take P.length=P
 par:∀x∈P,sc.names.lookup x=some .local\/sc.names.lookup x=some .cell
 nofree:∀y∈sc.names,y.2≠.free
theorem a8o{kindOf:Str->Option NameKind}{x:Str}:∀{binds:List (Str×AA)} {m:Str->Option AA},(∀v,(x,v)∉binds)->bindL kindOf binds m x=m x
 |[],_,_=>rfl
 |(n,v)::r,m,h=>by
  unfold bindL
  rw [a8o fun w hw=>h w (Ak _ hw)]
  split
  ·have:x≠n:=by rintro rfl;exact h v Am
   simp [this]
  ·rfl
theorem a8m{kindOf:Str->Option NameKind}{x:Str}:∀{binds:List (Str×AA)} {m:Str->Option AA},(∀v,(x,v)∉binds)->bindC kindOf binds m x=m x
 |[],_,_=>rfl
 |(n,v)::r,m,h=>by
  unfold bindC
  rw [a8m fun w hw=>h w (Ak _ hw)]
  split
  ·rfl
  ·have:x≠n:=by rintro rfl;exact h v Am
   simp [this]
theorem a8n{kindOf:Str->Option NameKind}{x:Str}{v:AA}:∀{P:List Str} {vs:List AA} {i:Nat} {m:Str->Option AA},P.Nodup->P[i]?=some x->vs[i]?=some v->kindOf x=some .local->
 bindL kindOf (P.zip vs) m x=some v
 |[],_,_,_,_,h,_,_=>by simp at h
 |_::_,[],_,_,_,_,h,_=>by simp at h
 |p::P,w::vs,0,m,nd,h1,h2,hk=>by
  simp at h1 h2;subst h1;subst h2
  show bindL kindOf ((p,w)::P.zip vs) m p=_
  unfold bindL
  rw [a8o fun v hv=>(List.nodup_cons.mp nd).1 (List.of_mem_zip hv).1,if_pos hk]
  simp
 |p::P,w::vs,i+1,m,nd,h1,h2,hk=>by
  show bindL kindOf ((p,w)::P.zip vs) m x=_
  unfold bindL
  exact a8n (i:=i) (List.nodup_cons.mp nd).2 (by simpa using h1) (by simpa using h2) hk
theorem a8l{kindOf:Str->Option NameKind}{x:Str}{v:AA}:∀{P:List Str} {vs:List AA} {i:Nat} {m:Str->Option AA},P.Nodup->P[i]?=some x->vs[i]?=some v->kindOf x≠some .local->
 bindC kindOf (P.zip vs) m x=some v
 |[],_,_,_,_,h,_,_=>by simp at h
 |_::_,[],_,_,_,_,h,_=>by simp at h
 |p::P,w::vs,0,m,nd,h1,h2,hk=>by
  simp at h1 h2;subst h1;subst h2
  show bindC kindOf ((p,w)::P.zip vs) m p=_
  unfold bindC
  rw [a8m fun v hv=>(List.nodup_cons.mp nd).1 (List.of_mem_zip hv).1,if_neg hk]
  simp
 |p::P,w::vs,i+1,m,nd,h1,h2,hk=>by
  show bindC kindOf ((p,w)::P.zip vs) m x=_
  unfold bindC
  exact a8l (i:=i) (List.nodup_cons.mp nd).2 (by simpa using h1) (by simpa using h2) hk
def a4h(N:List Str)(vs:List V):St:=vs.map some++Ac (N.length - vs.length) none
def b0x(CX:CXT)(P:AN)(w:AK)(K:AE)(mg:Str->Option AA)(base:Heap)(N:List Str)(qual:Str)(scope:Scope)(f:AB)(cd:AA)(A:AO)(outer:List Env)(s:AC)(H:Hp)(E:XK):Cx where
 prog:=P
 w:=w
 K:=K
 mg:=mg
 base:=base
 A:=A.deeper (envOfC qual scope s.heap.objs.size f cd)
 N:=N
 s₀:=s
 H₀:=H
 env:=envOfC qual scope s.heap.objs.size f cd
 outer:=outer
 stack:=envOfC qual scope s.heap.objs.size f cd::outer
 ex:=[]
 calm:=true
 fn:=fun _=>true
 pn:=[]
 xe:=fun e s'=>AJ (model P w) (A.deeper (envOfC qual scope s.heap.objs.size f cd)) (leaving (envOfC qual scope s.heap.objs.size f cd) e) (fun _ s''=>CX outer H s E e s'') (fun e' s''=>CX outer H s E e' s'') s'
theorem b0v{sc:Scope}{n:Nat}{x:Str}(h:sc.names.lookup x=some .cell):∃c,(cellsFrom n sc.names []).lookup x=some c:=by
 have q:=PySem.W.cellsFrom_some sc.names n [] (.inl h)
 exact Option.isSome_iff_exists.mp q
theorem b4c{CX:CXT}{P:AN}{w:AK}{K:AE}{mg:Str->Option AA}{base:Heap}{N ps:List Str}{qual:Str}{scope:Scope}{f:AB}{cd:AA}{A:AO}{outer:List Env}{s s1:AC}{H:Hp}{E:XK}{us:List AA}{vs:List V}
 (S:l9 N ps scope) (hd:A.handled=none) (e0:b6W P w K mg base A outer s H) (hl:vs.length=ps.length) (r:u9 vs us)
 (x:InCallC s s.heap.objs.size (bindL (envOfC qual scope s.heap.objs.size f cd).kindOf (ps.zip us) fun _=>none) (cellsFrom (s.heap.objs.size+1) scope.names []) (bindC (envOfC qual scope s.heap.objs.size f cd).kindOf (ps.zip us) fun _=>none) s1):
 m9 (b0x CX P w K mg base N qual scope f cd A outer s H E) [] (a4h N vs) H s1:=by
 have hpl:ps.length<=N.length:=by have:=congrArg List.length S.pre;rw [List.length_take] at this;lia
 obtain⟨h1,tk,rfl,hk⟩:=x.done
 have noA:∀b:AB,b∉(b0x CX P w K mg base N qual scope f cd A outer s H E).ex:=fun b z=>absurd (show b∈([]:List AB) from z) (by simp)
 refine⟨⟨e0.mod,S.kind,rfl,rfl,Aa _,fun y z c h1 h2=> ?_,fun y hy=> ?_,fun y c _ h=> ?_,fun _=>hd,Around.frames_deeper e0.frames,.inr ⟨rfl,rfl⟩,fun b z=>absurd z (noA b),e0.bs,e0.bsz,fun b _ _=>noA b,fun b z=>absurd z (noA b),e0.funs,e0.frf⟩,
  rfl,e0.bare,Un.kept hk,⟨_,x.toInCall.ns,fun i y v h1 h2 h3=> ?_⟩,fun y c h=>⟨_,x.cell y c h⟩,e0.hok.fresh (Aa _),fun y c h=> ?_,fun p hp=>absurd (show p∈([]:List (AB×Obj)) from hp) (by simp),e0.hok.kept hk, ?_⟩
 ·exact name_of_addr x.apart (PySem.mem_of_lookup h1) (PySem.mem_of_lookup h2)
 ·have hy:scope.names.lookup y=some .cell\/scope.names.lookup y=some .free:=hy
  rcases hy with hy|hy
  ·exact b0v hy
  ·exact absurd rfl (S.nofree _ (PySem.mem_of_lookup hy))
 ·exact BD (x.above y c (PySem.mem_of_lookup h))
 ·have hi:i<vs.length:=by
   unfold a4h at h2
   by_cases hi:i<vs.length
   ·exact hi
   ·rw [List.getElem?_append_right (by simpa using hi)] at h2
    rw [List.getElem?_replicate] at h2
    split at h2<;>cases h2
  have ha:vs[i]?=some v:=by
   unfold a4h at h2
   rw [BC (by simpa using hi),Au] at h2
   cases e:vs[i]? with
   |none=>rw [e] at h2;cases h2
   |some a=>rw [e] at h2;cases h2;rfl
  obtain⟨u,hu,rv⟩:=r.get ha
  have hp:ps[i]?=some y:=by
   rw [<-S.pre,List.getElem?_take_of_lt (by lia)];exact h1
  have ndP:ps.Nodup:=by rw [<-S.pre];exact S.nd.sublist (List.take_sublist _ _)
  refine⟨u,rv, ?_⟩
  rcases S.par y (BB hp) with k|k
  ·exact .inl ⟨k,a8n ndP hp hu k⟩
  ·obtain⟨c,e⟩:=b0v (n:=s.heap.objs.size+1) k
   refine .inr ⟨.inl k,c,e, ?_⟩
   have q:=x.cell y c e
   rw [a8l ndP hp hu (by show scope.names.lookup y≠_;rw [k];decide)] at q
   exact q
 ·exact e0.hok.fresh (BD (x.above y c (PySem.mem_of_lookup h)))
 ·unfold a4h
  show _=N.length
  rw [Ah,Ae,List.length_replicate]
  lia
theorem c0B{CX:CXT}{P:AN}{w:AK}{K:AE}{mg:Str->Option AA}{base:Heap}{k:Nat}{f:AB}{name qual:Str}{params:Arguments}{body:List Stmt}{scope:Scope}{dV kV doc pm cdv ct oc:AA}{an od:Option AB}
 {osl:Array (Option AA)} {N ps:List Str} {sp:Sp} (lk:K.lookup f=some ⟨oc,od,.func (PySem.W.fnOf name qual params body scope dV kV doc pm an cdv ct),osl⟩) (hcd:PySem.W.codeIn K cdv qual=true) (S:l9 N ps scope)
 (len:∀vs H Q E,sp vs H Q E->vs.length=ps.length)
 (hbody:∀(A:AO) (outer:List Env) (s:AC) (H:Hp) (vs:List V) (Q:VK) (E:XK),Y1 k (A.deeper (envOfC qual scope s.heap.objs.size f cdv))->sp vs H Q E->
  ∃t,PSs (b0x CX P w K mg base N qual scope f cdv A outer s H E) body t/\t {nx:=fun _ H'=>Q .non H',rt:=Q} (a4h N vs) H):
 a0G P w K mg base CX (k+1) f (PySem.W.fnOf name qual params body scope dV kV doc pm an cdv ct) ps sp:=by
 refine⟨len,fun A outer s H args us vs Q E hr e0 hb r hsp=> ?_⟩
 have hl:=len _ _ _ _ hsp
 have KX:K.In s.heap:=e0.mod.kin.keeps fun b o e=>(e0.bs b o e).1
 have lim:s.heap.NoLimit:=e0.mod.nolimit.keeps fun b o e=>(e0.bs b o e).1
 have hkind:∀y∈ps.zip us,scope.names.lookup y.1=some .local\/(scope.names.lookup y.1=some .cell/\((cellsFrom (s.heap.objs.size+1) scope.names []).lookup y.1).isSome=true):=fun⟨n,v⟩ hy=>by
  rcases S.par n (List.of_mem_zip hy).1 with q|q
  ·exact .inl q
  ·exact .inr ⟨q,PySem.W.cellsFrom_some _ _ _ (.inl q)⟩
 refine codeAny_call_function hr.depth (KX _ _ lk) rfl S.co S.gen rfl (PySem.W.codeRec_of KX hcd) (hb _ _ _ _ ?_)
 refine wpAny_newFunctionEnv_cells S.kind hkind fun env he s1 x=> ?_
 subst he
 refine⟨lim.keeps x.toInCall.keep,codeAny_func ?_⟩
 obtain⟨t,ht,hq⟩:=hbody A outer s H vs Q E (hr.deeper _) hsp
 have I:m9 (b0x CX P w K mg base N qual scope f cdv A outer s H E) [] (a4h N vs) H s1:=b4c S hr.hd e0 hl r x
 refine wpAny_mono (ht [] s1 (a4h N vs) H _ I hq) (fun fl s' hs=> ?_) fun e s' hs=>hs
 have fin:∀{σ':St} {H':Hp} {v:V} {u:AA},m9 (b0x CX P w K mg base N qual scope f cdv A outer s H E) [] σ' H' s'->y6 v u->Q v H'->CE outer P w H s Q u s':=
  fun {σ' H' v u} J rv q=>⟨v,H',J.os,J.bare,J.base,J.hok,rv,q⟩
 cases fl with
 |ret u=>
  obtain⟨v,σ',H',J,rv,q⟩:=hs
  exact fin J rv q
 |next=>
  obtain⟨σ',H',J,q⟩:=hs
  exact fin (v:=V.non) (u:=Value.none) J rfl q
 |brk=>
  obtain⟨_,_,_,q⟩:=hs
  exact False.elim q
 |cont=>
  obtain⟨_,_,_,q⟩:=hs
  exact False.elim q
section
variable {X:Cx}{x:Str}{p pos:Pos}{e:AG}{es:List AG}{t:TA}{id T:String}{r:List V->Hp->VK->Prop}
def tCB(r:List V->Hp->VK->Prop)(t:TA):TE:=fun σ H Q=>t σ H fun vs H1=>r vs H1 Q
theorem b1g(hc:a0b X (.builtin id) r)(hg:Gl X x)(hm:X.mg x=none)(hv:bootBuiltins x=some (.builtin id))(ha:PA X (e::es) t)(hn:x≠"__name__":=by decide)(hdb:(x==("__debug__":Str))=false:=by decide)
 (he:AW (e::es) X.env=(false,eval e X.env)::AW es X.env:=by rfl) (hpl:(backTo pos (AW es X.env)).any (·.1)=false:=by rfl):PE X (.Call (.Name x p) (e::es) [] pos) (tCB r t):=by
 intro pins s σ H Q I h
 refine wpAny_Call_Name_kw (a9D I hg hm hv ?_ hn hdb)
 exact PyProof.Rows.callWith_builtin1 (M7 (ha pos pins s σ H _ I h) fun us s1 h0=>u3 h0 fun vs H1 I1 r1 q1=>hc pins s1 σ H1 vs us Q I1 r1 q1) he hpl
theorem b4y(hc:a0b X (.type T) r)(hg:Gl X x)(hm:X.mg x=none)(hv:bootBuiltins x=some (.type T))(ha:PA X (e::es) t)(hn:x≠"__name__":=by decide)(hdb:(x==("__debug__":Str))=false:=by decide)
 (he:AW (e::es) X.env=(false,eval e X.env)::AW es X.env:=by rfl) (hpl:(backTo pos (AW es X.env)).any (·.1)=false:=by rfl):PE X (.Call (.Name x p) (e::es) [] pos) (tCB r t):=by
 intro pins s σ H Q I h
 refine wpAny_Call_Name_kw (a9D I hg hm hv ?_ hn hdb)
 exact PyProof.Rows.callWith_type1 (M7 (ha pos pins s σ H _ I h) fun us s1 h0=>u3 h0 fun vs H1 I1 r1 q1=>hc pins s1 σ H1 vs us Q I1 r1 q1) he hpl
end
end L2
namespace HT
open PySem PyProof.Rows
section
open PySem.SeqAt
open PySem.AutoSeq1 (wpAny_loadPart')
open PySem.MeetsSeq PySem.MeetsSeq2 PySem.MeetsSeq3
end
section
variable {prog:AN}{w:AK}{A:AO}{E:AA->AC->Prop}{s:AC}
theorem cat_tup{t b:AB}{vs ws:List AA}{Q:AA->AC->Prop}(ht:IsTup s.heap t vs.toArray)(hb:IsTup s.heap b ws.toArray)(hv:vs≠[])
 (h1:ws=[]->Q (.ref t) s) (h2:ws≠[]->Q (.ref s.heap.objs.size) {s with heap:=s.heap.push {cls:= .type "tuple",data:= .seq (vs++ws).toArray}})
 (hsz:vs.length+ws.length<=AM):AJ (model prog w) A (binaryOp .Add (.ref t) (.ref b)) Q E s:=by
 obtain⟨⟨cls,dd,data,sl⟩,ho,hc,n,hd⟩:=id ht
 obtain⟨⟨cls2,dd2,data2,sl2⟩,ho2,hc2,n2,hd2⟩:=id hb
 simp only at hc hd hc2 hd2
 subst hc hd hc2 hd2
 have e:vs.toArray++ws.toArray=(vs++ws).toArray:=by simp
 by_cases hw:ws=[]
 ·exact concat_meets ⟨_,ho,rfl⟩ ⟨_,ho2,rfl⟩ noFill_tuple_add seq_tuple_add PySem.F.slot_tuple_add PySem.F.entry_tuple_add (PySem.F.args_tuple_add_2 _ _)
   (tuple_addW1 t b vs.toArray ws.toArray n n2 dd dd2 sl sl2 (by simpa using hv) (by simp [hw])) ⟨ho,ho2,h1 hw⟩
 ·refine concat_meets ⟨_,ho,rfl⟩ ⟨_,ho2,rfl⟩ noFill_tuple_add seq_tuple_add PySem.F.slot_tuple_add PySem.F.entry_tuple_add (PySem.F.args_tuple_add_2 _ _)
   (tuple_addW2 t b vs.toArray ws.toArray n n2 dd dd2 sl sl2 (by simpa using hv) (by simpa using hw) (by rw [Aj,Aj];exact hsz)) ⟨ho,ho2, ?_⟩
  rw [e]
  exact h2 hw
def sIx(n d:Nat):Option Int->Nat
 |none=>d
 |some v=>if v<0 then(v+(n:Int)).toNat else min v.toNat n
theorem sIx_nat(n d k:Nat):sIx n d (some (k:Int))=min k n:=by
 show(if(k:Int)<0 then((k:Int)+(n:Int)).toNat else min (k:Int).toNat n)=min k n
 rw [if_neg (by lia),BG]
theorem sIx_le(n d:Nat)(hd:d<=n)(o:Option Int):sIx n d o<=n:=by
 cases o with
 |none=>exact hd
 |some v=>
  show(if v<0 then(v+(n:Int)).toNat else min v.toNat n)<=n
  by_cases hv:v<0
  ·rw [if_pos hv];lia
  ·rw [if_neg hv];exact Nat.min_le_right _ _
theorem b2L(v:Int)(n d:Nat):(if v<0 then max (v+(n:Int)) 0 else min v (n:Int))=((sIx n d (some v):Nat):Int):=by
 show(if v<0 then max (v+(n:Int)) 0 else min v (n:Int))=(((if v<0 then(v+(n:Int)).toNat else min v.toNat n):Nat):Int)
 by_cases hv:v<0
 ·simp only [if_pos hv];lia
 ·simp only [if_neg hv];lia
theorem b1I(lo hi:Option Int)(n:Nat):Builtin.Slice.sliceAdjust lo hi 1 (n:Int)=(((sIx n 0 lo:Nat):Int),((sIx n n hi:Nat):Int)):=by
 have h1:¬((1:Int)<0):=by lia
 unfold Builtin.Slice.sliceAdjust
 simp only [h1,if_false]
 refine Prod.ext ?_ ?_
 ·cases lo with
  |none=>rfl
  |some v=>exact b2L v n 0
 ·cases hi with
  |none=>rfl
  |some v=>exact b2L v n n
theorem b2t(i j:Nat):Builtin.Slice.slicePlaces (i:Int) (j:Int) 1=j - i:=by
 unfold Builtin.Slice.slicePlaces
 have h1:(1:Int)>0:=by lia
 simp only [h1,if_true,Int.ediv_one]
 split<;>lia
theorem a7I{v:AA}{o:Option Int}{Q:Option Int->AC->Prop}(p:IsPart v o)(h:Q o s):AJ (model prog w) A (Builtin.Slice.slicePartIndex v) Q E s:=by
 cases p with
 |none=>exact slicePart_none h
 |int i t=>exact slicePart_int h
theorem sliceApplied_gen{sl:AB}{vl vu:AA}{lo hi:Option Int}{n:Nat}{Q:Int×Int×Nat->AC->Prop}(hs:s.heap.IsSliceOf sl vl vu .none)(pl:IsPart vl lo)(pu:IsPart vu hi)
 (h:Q (((sIx n 0 lo:Nat):Int),1,sIx n n hi - sIx n 0 lo) s):AJ (model prog w) A (Builtin.Slice.sliceApplied (.ref sl) (pure (n:Int))) Q E s:=by
 obtain⟨os,hos,hcs,hds⟩:=id hs
 unfold Builtin.Slice.sliceApplied Builtin.Slice.sliceFields
 refine AH (AH (wpAny_field hos hds (x:=vl) rfl (AH (wpAny_field hos hds (x:=vu) rfl (AH (wpAny_field hos hds (x:= .none) rfl (AT ?_)))))))
 refine AH (slicePart_none ?_)
 show AJ _ _ (if((1:Int)==0)=true then _ else _) _ _ s
 rw [if_neg (by decide)]
 refine AH (a7I pl (AH (a7I pu (AH (AT ?_)))))
 show AJ _ _ (match Builtin.Slice.sliceAdjust lo hi 1 (n:Int) with|(lo,hi)=>pure (lo,(1:Int),Builtin.Slice.slicePlaces lo hi 1)) _ _ s
 rw [b1I lo hi n]
 show AJ _ _ (pure (((sIx n 0 lo:Nat):Int),(1:Int),Builtin.Slice.slicePlaces ((sIx n 0 lo:Nat):Int) ((sIx n n hi:Nat):Int) 1)) _ _ s
 rw [b2t]
 exact AT h
theorem b6l(xs:Array AA)(i k:Nat):((AL k).filterMap fun(m:Nat)=>xs[((i:Int)+(m:Int)*1).toNat]?).toArray=((xs.toList.drop i).take k).toArray:=by
 have e:(fun(m:Nat)=>xs[((i:Int)+(m:Int)*1).toNat]?)=fun m=>xs[i+m]?:=by
  funext m
  have:((i:Int)+(m:Int)*1).toNat=i+m:=by lia
  rw [this]
 rw [e]
 have:=pick_run xs i k
 rw [List.filterMap_map] at this
 have e2:((fun x=>xs[x]?)∘fun x=>i+x)=fun m=>xs[i+m]?:=rfl
 rw [e2] at this
 rw [this]
theorem getItem_tuple_cut{t sl:AB}{items:Array AA}{vl vu:AA}{lo hi:Option Int}{Q:AA->AC->Prop}(ht:IsTup s.heap t items)(hs:s.heap.IsSliceOf sl vl vu .none)(pl:IsPart vl lo)(pu:IsPart vu hi)
 (hw:¬(sIx items.size 0 lo=0/\sIx items.size items.size hi=items.size))
 (h:Q (.ref s.heap.objs.size) {s with heap:=s.heap.push {cls:= .type "tuple",data:= .seq ((items.toList.drop (sIx items.size 0 lo)).take (sIx items.size items.size hi - sIx items.size 0 lo)).toArray}})
 (hsz:items.size<=AM):AJ (model prog w) A (getItem (.ref t) (.ref sl)) Q E s:=by
 have htake:sizeOk (.seq ((items.toList.drop (sIx items.size 0 lo)).take (sIx items.size items.size hi - sIx items.size 0 lo)).toArray):=by
  show((items.toList.drop (sIx items.size 0 lo)).take (sIx items.size items.size hi - sIx items.size 0 lo)).toArray.size<=AM
  rw [Aj,List.length_take,List.length_drop,Array.length_toList]
  lia
 have hj:sIx items.size items.size hi<=items.size:=sIx_le _ _ (Aa _) hi
 obtain⟨os,hos,hcs,hds⟩:=id hs
 have hTs:s.TypeIs (.ref sl) "slice":=⟨os,hos,hcs⟩
 unfold getItem
 try with_reducible refine wpAny_holding ?_
 first|refine AH (AT ?_)|skip
 refine AH (wpAny_sequenceKey ht.typeIs (by decide) ?_)
 refine AH (wpAny_callSpecial?_slot (name:=AD "__getitem__") ht.typeIs PyProof.Rows.slot_tuple_getitem
  (wpAny_call_entry PyProof.Rows.slot_tuple_getitem ht.typeIs entry_tuple_getitem ?_ (args_tuple_getitem _ _)))
 show AJ _ _ (Builtin.Tuple.tupleItemsOf (.ref t)>>=_) _ _ s
 refine AH (tupleItemsOf_ ht ?_)
 refine AH (wpAny_typeOf hTs ?_)
 rw [if_pos (by decide)]
 refine AH (sliceApplied_gen hs pl pu ?_)
 have hno:¬((((sIx items.size 0 lo:Nat):Int)==0 &&(1:Int)==1 &&(sIx items.size items.size hi - sIx items.size 0 lo)==items.size)=true):=by
  intro q
  rw [Bool.and_eq_true,Bool.and_eq_true] at q
  have q1:((sIx items.size 0 lo:Nat):Int)=0:=eq_of_beq q.1.1
  have q2:sIx items.size items.size hi - sIx items.size 0 lo=items.size:=eq_of_beq q.2
  exact hw ⟨by lia,by lia⟩
 show AJ _ _ (if(((sIx items.size 0 lo:Nat):Int)==0 &&(1:Int)==1 &&(sIx items.size items.size hi - sIx items.size 0 lo)==items.size)=true then _ else _) _ _ s
 rw [if_neg hno,b6l]
 first
  |exact AH (m:=Builtin.Tuple.tupleExact _) (wpAny_newObj_type (AT ⟨_,rfl,AT h⟩) htake)
  |exact AH (m:=Builtin.Tuple.tupleExact _) (wpAny_newObj_type (AH (AT (AT ⟨_,rfl,AT h⟩))) htake)
  |exact AH (AH (m:=Builtin.Tuple.tupleExact _) (wpAny_newObj_type (AT (AT ⟨_,rfl,AT h⟩)) htake))
  |exact AH (AH (m:=Builtin.Tuple.tupleExact _) (wpAny_newObj_type (AT ⟨_,rfl,AT h⟩) htake))
end
end HT
namespace L2
open PySem PySem.Spec PyProof.Rows
abbrev TO:=St->Hp->(Option Int->Hp->Prop)->Prop
def PO(X:Cx)(e:Option AG)(t:TO):Prop:=
 ∀(pins:List (AB×Obj)) (s:AC) (σ:St) (H:Hp) (Q:Option Int->Hp->Prop),m9 X pins σ H s->t σ H Q->
  AJ (model X.prog X.w) X.A (evalPart e X.env) (fun u s'=>∃o H',m9 X pins σ H' s'/\IsPart u o/\Q o H') X.xe s
def b8o:TO:=fun _ H Q=>Q none H
def c1g(t:TE):TO:=fun σ H Q=>t σ H fun x H1=>∃i,x= .int i/\Q (some i) H1
section
variable {X:Cx}{e:AG}{te:TE}{lo hi:Option AG}{tl th:TO}{pos p2:Pos}
theorem b71:PO X none b8o:=by
 intro pins s σ H Q I h
 rw [evalPart_none]
 exact AT ⟨none,H,I,.none,h⟩
theorem b72(h:PE X e te):PO X (some e) (c1g te):=by
 intro pins s σ H Q I hw
 rw [evalPart_some]
 refine M7 (h pins s σ H _ I hw) fun u s1 h0=>u3 h0 fun x H1 I1 r1 q1=> ?_
 obtain⟨i,rfl,q⟩:=q1
 obtain⟨t,rfl⟩:=r1
 exact⟨some i,H1,I1,.int i t,q⟩
def SlR(X:Cx)(r:V->Option Int->Option Int->Hp->VK->Prop):Prop:=
 ∀(pins:List (AB×Obj)) (s:AC) (σ:St) (H:Hp) (x:V) (v vl vu:AA) (lo hi:Option Int) (sl:AB) (Q:VK),m9 X pins σ H s->y6 x v->s.heap.IsSliceOf sl vl vu .none->IsPart vl lo->IsPart vu hi->r x lo hi H Q->
  ∃T id,typeLookup (.type T) "__getitem__"=pure (some (.builtin id))/\s.TypeIs v T/\AJ (model X.prog X.w) X.A (getItem v (.ref sl)) (EP X pins σ Q) X.xe s
def tSl(r:V->Option Int->Option Int->Hp->VK->Prop)(te:TE)(tl th:TO):TE:=fun σ H Q=>te σ H fun x H1=>tl σ H1 fun l H2=>th σ H2 fun u H3=>r x l u H3 Q
theorem b6i{r:V->Option Int->Option Int->Hp->VK->Prop}(hr:SlR X r)(he:PE X e te)(hl:PO X lo tl)(hu:PO X hi th):PE X (.Subscript e (.Slice lo hi none p2) pos) (tSl r te tl th):=by
 intro pins s σ H Q I h
 refine Subscript_ (M7 (he pins s σ H _ I h) fun v s1 h0=>u3 h0 fun x H1 I1 r1 q1=> ?_)
 refine wpAny_Slice (M7 (hl pins s1 σ H1 _ I1 q1) fun vl s2 h0=>u3 h0 fun l H2 I2 pl q2=>M7 (hu pins s2 σ H2 _ I2 q2) fun vu s3 h0=>u3 h0 fun u H3 I3 pu q3=> ?_)
 rw [evalPart_none]
 refine AT ?_
 have I4:m9 X pins σ H3 {s3 with heap:=s3.heap.push {cls:= .type "slice",data:= .fields #[vl,vu,.none]}}:=I3.kept (t':=s3.toks) fun b ob q=>An _ q
 obtain⟨T,id,hT,ht,hg⟩:=hr pins {s3 with heap:=s3.heap.push {cls:= .type "slice",data:= .fields #[vl,vu,.none]}} σ H3 x v vl vu l u s3.heap.objs.size Q I4 r1 (Heap.IsSliceOf.new ..) pl pu q3
 show AJ (model X.prog X.w) X.A (subscriptTail e (.Slice lo hi none p2) v (.ref s3.heap.objs.size)) (EP X pins σ Q) X.xe {s3 with heap:=s3.heap.push {cls:= .type "slice",data:= .fields #[vl,vu,.none]}}
 exact tail_any (ops:=[.ref s3.heap.objs.size,v]) ht hT hg (by with_unfolding_all rfl)
def b61(xs:List V)(lo hi:Option Int):List V:=(xs.drop (HT.sIx xs.length 0 lo)).take (HT.sIx xs.length xs.length hi - HT.sIx xs.length 0 lo)
theorem b0w(xs:List V)(lo hi:Option Int):(b61 xs lo hi).length<=xs.length:=by
 unfold b61
 rw [List.length_take,List.length_drop]
 lia
def c1M(K:AE):V->Option Int->Option Int->Hp->VK->Prop:=fun x lo hi H Q=>∃a xs,x= .ref a/\SqT K H a xs/\
 ¬(HT.sIx xs.length 0 lo=0/\HT.sIx xs.length xs.length hi=xs.length)/\∀p,H p=none->Q (.ref p) (upd H p (.tup (b61 xs lo hi)))
theorem c0c:SlR X (c1M X.K):=by
 intro pins s σ H x v vl vu lo hi sl Q I rx hs pl pu h
 obtain⟨a,xs,rfl,hx,hw,q⟩:=h
 cases rx
 obtain⟨its,r,ht,hz⟩:=I.tuple hx
 have hlen:its.toArray.size=xs.length:=by rw [Aj];exact r.length.symm
 refine⟨"tuple",_,PyProof.Rows.slot_tuple_getitem.lookup,ht.typeIs, ?_⟩
 refine HT.getItem_tuple_cut ht hs pl pu (by rw [hlen];exact hw) ?_ (by rw [hlen];exact hz)
 rw [hlen]
 refine⟨.ref s.heap.objs.size,_,I.laid (t':=s.toks) (o:= .tup (b61 xs lo hi)) (fun b ob q=>An _ q) (Aa _) ?_,rfl,q _ (I.hok.fresh (Aa _))⟩
 exact⟨Nat.le_trans (b0w xs lo hi) hz,_,(r.drop (HT.sIx xs.length 0 lo)).take (HT.sIx xs.length xs.length hi - HT.sIx xs.length 0 lo),IsTup.new _ _⟩
def c05(K:AE):R2:=fun x y H Q=>∃a b xs ys,x= .ref a/\y= .ref b/\SqT K H a xs/\SqT K H b ys/\xs≠[]/\xs.length+ys.length<=AM/\
 (ys=[]->Q (.ref a) H)/\(ys≠[]->∀p,H p=none->Q (.ref p) (upd H p (.tup (xs++ys))))
theorem u9.nil_iff{xs:List V}{us:List AA}(r:u9 xs us):us=[]↔xs=[]:=by
 cases r with
 |nil=>simp
 |cons _ _=>simp
theorem b7Q:OpR X (binaryOp .Add) (c05 X.K):=by
 intro pins s σ H x y v u Q I rx ry h
 obtain⟨a,b,xs,ys,rfl,rfl,ha,hb,hx,hz,q1,q2⟩:=h
 cases rx
 cases ry
 obtain⟨its,r1,p1,_⟩:=I.tuple ha
 obtain⟨its2,r2,p2,_⟩:=I.tuple hb
 refine HT.cat_tup p1 p2 (fun z=>hx (r1.nil_iff.mp z)) (fun z=>⟨.ref a,H,I,rfl,q1 (r2.nil_iff.mp z)⟩) (fun z=> ?_) (by rw [<-r1.length,<-r2.length];exact hz)
 refine⟨.ref s.heap.objs.size,_,I.laid (t':=s.toks) (o:= .tup (xs++ys)) (fun b ob q=>An _ q) (Aa _) ?_,rfl,q2 (fun w=>z (r2.nil_iff.mpr w)) _ (I.hok.fresh (Aa _))⟩
 exact⟨by rw [Ah];exact hz,_,r1.append r2,IsTup.new _ _⟩
end
def ixN(n:Nat)(i:Int):Option Nat:=if 0<=i then(if i<n then some i.toNat else none) else if -(n:Int)<=i then some (i+n).toNat else none
def atI{α:Type}(xs:List α)(i:Int):Option α:=(ixN xs.length i).bind fun j=>xs[j]?
theorem b7v{n:Nat}{i:Int}{j:Nat}(h:ixN n i=some j):seqIndex? i n=some j/\j<n/\ -(n:Int)<=i/\i<n:=by
 unfold ixN at h
 by_cases h0:0<=i
 ·rw [if_pos h0] at h
  by_cases h1:i<n
  ·rw [if_pos h1] at h
   have e:i.toNat=j:=Option.some.inj h
   exact⟨by rw [seqIndex_of h0 h1,e],by lia,by lia,h1⟩
  ·rw [if_neg h1] at h;cases h
 ·rw [if_neg h0] at h
  by_cases h1: -(n:Int)<=i
  ·rw [if_pos h1] at h
   have e:(i+n).toNat=j:=Option.some.inj h
   exact⟨by rw [seqIndex_neg (by lia) h1,e],by lia,h1,by lia⟩
  ·rw [if_neg h1] at h;cases h
theorem a9j{α:Type}{xs:List α}{i:Int}{v:α}(h:atI xs i=some v):∃j,seqIndex? i xs.length=some j/\xs[j]?=some v/\j<xs.length/\ -(xs.length:Int)<=i/\i<xs.length:=by
 unfold atI at h
 cases e:ixN xs.length i with
 |none=>rw [e] at h;cases h
 |some j=>
  rw [e] at h
  obtain⟨h1,h2,h3,h4⟩:=b7v e
  exact⟨j,h1,h,h2,h3,h4⟩
def a2q(b:AG):Prop:=∀o i,subscripted b false o i=operate [o,i] (getItem o i)
def IxR(X:Cx)(r:R2):Prop:=
 ∀(value slice:AG) (pins:List (AB×Obj)) (s:AC) (σ:St) (H:Hp) (x y:V) (v u:AA) (Q:VK),m9 X pins σ H s->y6 x v->y6 y u->r x y H Q->
  subscripted slice false v u=operate [v,u] (getItem v u)->AJ (model X.prog X.w) X.A (subscriptTail value slice v u) (EP X pins σ Q) X.xe s
def MtR(X:Cx)(id:String)(r:V->List V->Hp->VK->Prop):Prop:=
 ∀(pins:List (AB×Obj)) (s:AC) (σ:St) (H:Hp) (x:V) (xs:List V) (v:AA) (us:List AA) (Q:VK),m9 X pins σ H s->y6 x v->u9 xs us->r x xs H Q->
  AJ (model X.prog X.w) X.A (call (.builtin id) (v::us)) (EP X pins σ Q) X.xe s
section
variable {X:Cx}{a b:AG}{ta tb:TE}{pos:Pos}
theorem a8P{r:R2}(hr:IxR X r)(ha:PE X a ta)(hb:PE X b tb)(hs:a2q b):PE X (.Subscript a b pos) (tOp r ta tb):=by
 intro pins s σ H Q I h
 exact Subscript_ (b88 ha hb I h fun v u s2 x y H2 I2 rx ry q=>hr a b pins s2 σ H2 x y v u Q I2 rx ry q (hs _ _))
def c1I(K:AE):R2:=fun x y H Q=>∃p xs i v,x= .ref p/\y= .int i/\V2 K H p xs/\atI xs i=some v/\Q v H
def c06(K:AE):R2:=fun x y H Q=>∃p xs i v,x= .ref p/\y= .int i/\SqT K H p xs/\atI xs i=some v/\Q v H
def c1J:R2:=fun x y H Q=>∃z i c,x= .str z/\y= .int i/\z.length<=AM/\atI z.cps.toList i=some c/\Q (.str ⟨#[c]⟩) H
theorem b7w:IxR X (c1I X.K):=by
 intro value slice pins s σ H x y v u Q I rx ry h hs
 obtain⟨p,xs,i,z,rfl,rfl,hq,he,q⟩:=h
 cases rx
 obtain⟨t,rfl⟩:=ry
 obtain⟨its,r,pl,hz⟩:=I.list hq
 obtain⟨j,h1,h2,h3,h4,h5⟩:=a9j he
 obtain⟨w,ew,rw'⟩:=r.get h2
 have hl:=r.length
 have hn:=a4J
 have fin:EP X pins σ Q w s:=⟨z,H,I,rw',q⟩
 by_cases h0:0<=i
 ·have hj:i.toNat=j:=by
   rw [seqIndex_of h0 h5] at h1
   exact Option.some.inj h1
  exact item_listR pl.isList h0 (by lia) (by rw [hj];simpa using ew) fin hs
 ·have hj:(i+(its.toArray.size:Int)).toNat=j:=by
   rw [seqIndex_neg (by lia) h4] at h1
   rw [Aj,<-hl]
   exact Option.some.inj h1
  exact subscriptTail_builtinR (x:=w) pl.isList.typeIs slot_list_getitem.lookup
   (wpAny_getItem_list_neg (Q:=fun r s'=>r=w/\EP X pins σ Q r s') pl.isList (by lia) (by rw [Aj]<;>lia) (by lia) (by rw [hj];simpa using ew) ⟨rfl,fin⟩) hs
theorem a4F:IxR X (c06 X.K):=by
 intro value slice pins s σ H x y v u Q I rx ry h hs
 obtain⟨p,xs,i,z,rfl,rfl,hq,he,q⟩:=h
 cases rx
 obtain⟨t,rfl⟩:=ry
 obtain⟨its,r,pl,hz⟩:=I.tuple hq
 obtain⟨j,h1,h2,h3,h4,h5⟩:=a9j he
 obtain⟨w,ew,rw'⟩:=r.get h2
 have hl:=r.length
 have hn:=a4J
 have fin:EP X pins σ Q w s:=⟨z,H,I,rw',q⟩
 exact subscriptTail_builtinR (x:=w) pl.typeIs slot_tuple_getitem.lookup
  (getItem_tuple (j:=j) (Q:=fun r s'=>r=w/\EP X pins σ Q r s') pl (by lia) (by lia) (by rw [Aj,<-hl];exact h1) (by simpa using ew) ⟨rfl,fin⟩) hs
theorem b9n:IxR X c1J:=by
 intro value slice pins s σ H x y v u Q I rx ry h hs
 obtain⟨z,i,c,rfl,rfl,hz,he,q⟩:=h
 obtain⟨t,rfl⟩:=rx
 obtain⟨t',rfl⟩:=ry
 obtain⟨j,h1,h2,h3,h4,h5⟩:=a9j he
 have hl:z.cps.toList.length=z.length:=by simp [Str.length]
 rw [hl] at h1 h4 h5
 have hn:=a4J
 exact tail_any (typeIs_str s z t) slot_str_getitem.lookup (getItem_str (c:=c) (by
  have e1:decide (i< -(2 ^ 63:Int))=false:=decide_eq_false (by lia)
  have e2:decide (i>=2 ^ 63)=false:=decide_eq_false (by lia)
  rw [e1,e2,Bool.or_false]) (by rw [h1];simpa using h2) ⟨.str ⟨#[c]⟩,H,I.tok _,⟨_,rfl⟩,q⟩) hs
theorem a9l:a0b X (.builtin "len") (fun xs H Q=>∃p ys,xs=[.ref p]/\(V2 X.K H p ys\/SqT X.K H p ys)/\Q (.int ys.length) H):=by
 intro pins s σ H xs us Q I r h
 obtain⟨p,ys,rfl,hq,q⟩:=h
 obtain⟨u,rfl,rx⟩:=a7Q r
 cases rx
 have hn:=a4J
 rcases hq with hq|hq
 ·obtain⟨its,r',pl,hz⟩:=I.list hq
  have hlen:=r'.length
  exact Calls.call_len_list pl.isList (by simp only [Aj]<;>lia) ⟨.int ys.length,H,I.tok _,⟨s.toks+1,by rw [Aj,hlen]⟩,q⟩
 ·obtain⟨its,r',pl,hz⟩:=I.tuple hq
  have hlen:=r'.length
  exact len_tuple pl (by simp only [Aj]<;>lia) ⟨.int ys.length,H,I.tok _,⟨s.toks+1,by rw [Aj,hlen]⟩,q⟩
theorem a9m:a0b X (.builtin "len") (fun xs H Q=>∃z,xs=[.str z]/\z.length<=AM/\Q (.int z.length) H):=by
 intro pins s σ H xs us Q I r h
 obtain⟨z,rfl,hz,q⟩:=h
 obtain⟨u,rfl,t,rfl⟩:=a7Q r
 have hn:=a4J
 exact len_str (by lia) ⟨.int z.length,H,I.tok _,⟨_,rfl⟩,q⟩
theorem a7V:a0b X (.type "tuple") (fun xs H Q=>∃p ys,xs=[.ref p]/\((V2 X.K H p ys/\∀l,H l=none->Q (.ref l) (upd H l (.tup ys)))\/(SqT X.K H p ys/\Q (.ref p) H))):=by
 intro pins s σ H xs us Q I r h
 obtain⟨p,ys,rfl,h⟩:=h
 obtain⟨u,rfl,rx⟩:=a7Q r
 cases rx
 rcases h with⟨hq,q⟩|⟨hq,q⟩
 ·obtain⟨its,r',pl,hz⟩:=I.list hq
  have hlen:=r'.length
  refine call_tuple_list pl.isList (fun h' kp=> ?_) (by simp only [Aj]<;>lia)
  have I1:m9 X pins σ H {s with heap:=h'}:=I.kept (t':=s.toks) kp
  have I2:m9 X pins σ (upd H h'.objs.size (.tup ys)) {s with heap:=h'.push {cls:= .type "tuple",data:= .seq its.toArray}}:=
   I1.laid (t':=s.toks) (fun b o e=>An _ e) (Aa _) (show L5 X.prog X.w _ _ _ (.tup ys) from⟨hz,its,r',IsTup.new _ _⟩)
  exact⟨.ref h'.objs.size,_,I2,rfl,q _ (I1.hok.fresh (Aa _))⟩
 ·obtain⟨its,r',pl,hz⟩:=I.tuple hq
  exact call_tuple_same pl ⟨.ref p,H,I,rfl,q⟩
def tyV(K:AE)(T:String)(x:V)(H:Hp):Prop:=match x with
 | .str _=>T="str"
 | .int _=>T="int"
 | .ref p=>(T="list"/\∃xs,V2 K H p xs)\/(T="tuple"/\∃o,K.lookup p=some o/\o.cls= .type "tuple"/\o.dict=none)\/
  (T="dict"/\((∃kvs,H p=some (.dK kvs))\/∃kvs,H p=some (.dT kvs)))\/(T="set"/\∃S n,H p=some (.set S n))
 |_=>False
theorem b6L{pins:List (AB×Obj)}{σ:St}{H:Hp}{s:AC}{T:String}{x:V}{v:AA}(I:m9 X pins σ H s)(r:y6 x v)(ty:tyV X.K T x H):
 s.TypeIs v T/\∀a,v= .ref a->∃ob,s.heap.get? a=some ob/\ob.dict=none:=by
 cases x with
 |str z=>
  obtain⟨t,rfl⟩:=r
  cases(show T="str" from ty)
  exact⟨typeIs_str s z t,fun _ e=>nomatch e⟩
 |int i=>
  obtain⟨t,rfl⟩:=r
  cases(show T="int" from ty)
  exact⟨typeIs_int s i t,fun _ e=>nomatch e⟩
 |ref p=>
  cases r
  rcases ty with⟨rfl,xs,hq⟩|⟨rfl,o,hk,hc,hd⟩|⟨rfl,hk⟩|⟨rfl,S,n,hk⟩
  ·obtain⟨its,_,pl,_⟩:=I.list hq
   refine⟨pl.isList.typeIs,fun a e=> ?_⟩
   cases e
   obtain⟨o,n,e,c,hd,_⟩:=pl
   exact⟨o,e,hd⟩
  ·refine⟨⟨o,I.kIn p o hk,hc⟩,fun a e=> ?_⟩
   cases e
   exact⟨o,I.kIn _ o hk,hd⟩
  ·have z:∃o,s.heap.get? p=some o/\o.ExactDict:=by
    rcases hk with⟨kvs,hk⟩|⟨kvs,hk⟩
    ·obtain⟨_,_,_,_,o,_,_,e,ex,_⟩:=I.hok p _ hk
     exact⟨o,e,ex⟩
    ·obtain⟨_,_,_,_,o,_,_,e,ex,_⟩:=I.hok p _ hk
     exact⟨o,e,ex⟩
   obtain⟨o,e,ex⟩:=z
   refine⟨⟨o,e,ex.1⟩,fun a e2=> ?_⟩
   cases e2
   exact⟨o,e,ex.2.1⟩
  ·obtain⟨o,_,_,_,e,ex,_⟩:=I.hok p _ hk
   refine⟨⟨o,e,ex.1⟩,fun a e2=> ?_⟩
   cases e2
   exact⟨o,e,ex.2.1⟩
 |_=>exact False.elim ty
def c1O(K:AE)(T:String)(r:V->List V->Hp->VK->Prop)(to:TE):TE:=fun σ H Q=>to σ H fun x H1=>tyV K T x H1/\r x [] H1 Q
def tBM(K:AE)(T:String)(r:V->List V->Hp->VK->Prop)(to:TE)(t:TA):TE:=fun σ H Q=>to σ H fun x H1=>tyV K T x H1/\t σ H1 fun xs H2=>r x xs H2 Q
variable {o e:AG}{es:List AG}{to:TE}{t:TA}{name:Str}{apos cpos:Pos}{T id:String}{r:V->List V->Hp->VK->Prop}
theorem b9U(pa:PlainAttrs T)(slot:Slot T name id)(hty:typeOf (.builtin id)=pure (.type "method_descriptor"))(hm:MtR X id r)(ho:PE X o to)
 (hbase:attributeBase o name X.env (eval o X.env)=eval o X.env:=by rfl) (hline:(apos.endLine==cpos.line)=true:=by rfl):PE X (.Call (.Attribute o name apos) [] [] cpos) (c1O X.K T r to):=by
 intro pins s σ H Q I h
 refine wpAny_Call_method0_late hbase hline (M7 (ho pins s σ H _ I h) fun v s1 h0=>a53 h0 fun x H1 I1 r1 ty q1=> ?_)
 obtain⟨h1,h2⟩:=b6L I1 r1 ty
 exact⟨T,id,pa,slot,hty,h1,h2,Calls.callWith_builtin rfl (PySem.evalArgs_none (hm pins s1 σ H1 x [] v [] Q I1 r1 .nil q1))⟩
theorem a8O(pa:PlainAttrs T)(slot:Slot T name id)(hty:typeOf (.builtin id)=pure (.type "method_descriptor"))(hm:MtR X id r)(ho:PE X o to)(ha:PA X (e::es) t)
 (hbase:attributeBase o name X.env (eval o X.env)=eval o X.env:=by rfl)
 (hfew:((backTo cpos (AW (e::es) X.env)).all (fun x=> !x.1)&&(backToKw cpos (keywordEach [] X.env)).all (fun x=>x.1.isSome)
  && decide ((e::es).length+([]:List Keyword).length+(if([]:List Keyword).isEmpty then 0 else 1)<30))=true:=by rfl)
 (hline:(apos.endLine==cpos.line)=true:=by rfl) (hs:AW (e::es) X.env=(false,eval e X.env)::AW es X.env:=by rfl) (hplain:(backTo cpos (AW es X.env)).any (·.1)=false:=by rfl):
 PE X (.Call (.Attribute o name apos) (e::es) [] cpos) (tBM X.K T r to t):=by
 intro pins s σ H Q I h
 refine wpAny_Call_method_late hbase hfew hline rfl (M7 (ho pins s σ H _ I h) fun v s1 h0=>a53 h0 fun x H1 I1 r1 ty q1=> ?_)
 obtain⟨h1,h2⟩:=b6L I1 r1 ty
 refine⟨T,id,pa,slot,hty,h1,h2, ?_⟩
 have hA:=ha cpos pins s1 σ H1 _ I1 q1
 rw [hs] at hA ⊢
 refine Calls.callWith_builtin (by show(false||(backTo cpos (AW es X.env)).any (·.1))=false;rw [hplain]<;>rfl) (Calls.evalArgs_plain ?_)
 exact M7 hA fun us s2 h0=>u3 h0 fun vs H2 I2 r2 q2=>hm pins s2 σ H2 x vs v us Q I2 r1 r2 q2
end
def MtM(X:Cx)(id:String)(r:V->List V->Hp->VK->Prop):Prop:=
 ∀(pins:List (AB×Obj)) (s:AC) (σ:St) (H:Hp) (x:V) (xs:List V) (v:AA) (us:List AA) (Q:VK),m9 X pins σ H s->y6 x v->u9 xs us->r x xs H Q->
  AJ (model X.prog X.w) X.A (call (.builtin id) (v::us)) (EP X pins σ Q) X.xe s
theorem u9.one:∀{x:V} {us:List AA},u9 [x] us->∃u,us=[u]/\y6 x u
 |_,_,.cons r .nil=>⟨_,rfl,r⟩
theorem u9.zero:∀{us:List AA},u9 [] us->us=[]
 |_,.nil=>rfl
theorem u9.dropLast{xs:List V}{us:List AA}(h:u9 xs us):u9 xs.dropLast us.dropLast:=by
 induction h with
 |nil=>exact .nil
 |cons r t ih=>
  cases t with
  |nil=>exact .nil
  |cons q t'=>exact .cons r ih
theorem u9.rep{xs:List V}{us:List AA}(h:u9 xs us):∀k:Nat,u9 (Ac k xs).flatten (Ac k us).flatten
 |0=> .nil
 |k+1=>by
  rw [AX,AX,List.flatten_cons,List.flatten_cons]
  exact u9.append h (u9.rep h k)
theorem b1R{α:Type}(l:List α):l.eraseIdx (l.length - 1)=l.dropLast:=by
 induction l with
 |nil=>rfl
 |cons a r ih=>
  cases r with
  |nil=>rfl
  |cons b r=>
   have e:(a::b::r).length - 1=((b::r).length - 1)+1:=by
    have h1:(a::b::r).length=r.length+2:=rfl
    have h2:(b::r).length=r.length+1:=rfl
    lia
   rw [e,List.eraseIdx_cons_succ,ih]
   all_goals rfl
theorem a4A(its:List AA):∀(k:Nat) (acc:List AA),
 List.foldl (fun x1 x2=>x1++x2) acc.toArray (Ac k its.toArray)=(acc++(Ac k its).flatten).toArray
 |0,acc=>by simp
 |k+1,acc=>by
  have e:acc.toArray++its.toArray=(acc++its).toArray:=by simp
  have e2:(acc++its)++(Ac k its).flatten=acc++(Ac (k+1) its).flatten:=by
   rw [AX,List.flatten_cons,List.append_assoc]
  rw [<-e2,<-a4A its k (acc++its),<-e,AX,List.foldl_cons]
section
variable {X:Cx}{pins:List (AB×Obj)}{σ:St}{H:Hp}{s:AC}{l b:AB}{xs ys zs:List V}
theorem m9.lset{its its':List AA}{n:Nat}{f:Array AA->Array AA}{t':Nat}(I:m9 X pins σ H s)(hH:H l=some (.lst xs))
 (e:s.heap.get? l=some {cls:= .type "list",data:= .seq its.toArray n}) (hf:f its.toArray=its'.toArray) (hv:u9 ys its') (hz:ys.length<=AM):
 m9 X pins σ (upd H l (.lst ys)) {s with heap:=s.heap.update l (Obj.mapSeq f),toks:=t'}:=by
 have q:=PySem.IsL.update e f
 rw [hf] at q
 refine I.write (x:=l) (e:=l) (by rw [hH];exact trivial) (.inl rfl) (fun b' u hb hu=>(Heap.get?_update_other s.heap (Obj.mapSeq f) (Ne.symm hb)).trans hu) ⟨_,q⟩ ?_
 exact⟨hz,its',_,hv,q⟩
theorem m9.lnew{its:List AA}{t':Nat}(I:m9 X pins σ H s)(hv:u9 ys its)(hz:ys.length<=AM):
 m9 X pins σ (upd H s.heap.objs.size (.lst ys)) {s with heap:=s.heap.push {cls:= .type "list",data:= .seq its.toArray},toks:=t'}:=
 I.laid (fun _ _ q=>An _ q) (Aa _) ⟨hz,its,0,hv,As _ rfl⟩
theorem m9.fresh(I:m9 X pins σ H s):H s.heap.objs.size=none:=I.hok.fresh (Aa _)
theorem m9.lstM(I:m9 X pins σ H s)(hH:H l=some (.lst xs)):xs.length<=AM/\∃(its:List AA) (n:Nat),u9 xs its/\xs.length=its.length/\s.heap.get? l=some {cls:= .type "list",data:= .seq its.toArray n}:=by
 obtain⟨z,its,n,r,e⟩:=I.hok l _ hH
 exact⟨z,its,n,r,r.length,e⟩
theorem b04{n:Nat}(h:n<=AM):Builtin.List.listTooLong n=false:=by
 unfold Builtin.List.listTooLong
 exact decide_eq_false (by lia)
end
section
variable {X:Cx}
def b79:V->List V->Hp->VK->Prop:=fun x vs H Q=>∃l xs y,x= .ref l/\vs=[y]/\H l=some (.lst xs)/\xs.length<AM/\Q .non (upd H l (.lst (xs++[y])))
theorem a2A:MtM X "list.append" b79:=by
 intro pins s σ H x vs v us Q I rx rv h
 obtain⟨l,xs,y,rfl,rfl,hH,hz,q⟩:=h
 cases rx
 obtain⟨u,rfl,ru⟩:=rv.one
 obtain⟨z,its,n,r,hl,e⟩:=I.lstM hH
 refine call_meets F.slot_list_append ⟨_,e,rfl⟩ F.entry_list_append (F.args_list_append_2 _ _) (PySem.list_append l its.toArray n u (by rw [Aj];lia)) ⟨e, ?_⟩
 refine⟨.non,_,I.lset (its':=its++[u]) hH e (by simp) (r.append (.cons ru .nil)) ?_,rfl,q⟩
 rw [Ah,List.length_singleton]
 lia
def b8a:V->List V->Hp->VK->Prop:=fun x vs H Q=>∃l b xs zs,x= .ref l/\vs=[.ref b]/\H l=some (.lst xs)/\H b=some (.lst zs)/\xs.length+zs.length<=AM/\Q .non (upd H l (.lst (xs++zs)))
theorem b4n:MtM X "list.extend" b8a:=by
 intro pins s σ H x vs v us Q I rx rv h
 obtain⟨l,b,xs,zs,rfl,rfl,hH,hB,hz,q⟩:=h
 cases rx
 obtain⟨u,rfl,ru⟩:=rv.one
 cases ru
 obtain⟨z,its,n,r,hl,e⟩:=I.lstM hH
 obtain⟨z2,its2,n2,r2,hl2,e2⟩:=I.lstM hB
 have hsz:its.toArray.size+its2.toArray.size<=AM:=by rw [Aj,Aj];lia
 have hlong:¬(!its.toArray.isEmpty && Builtin.List.listTooLong (its.toArray.size+its2.toArray.size))=true:=by
  rw [b04 hsz,Bool.and_false]
  exact Al
 refine call_meets F.slot_list_extend ⟨_,e,rfl⟩ F.entry_list_extend (F.args_list_extend_2 _ _)
  (AutoSeq1.list_extend_list_list_0 l its.toArray n b its2.toArray n2 hlong (by rw [Aj];lia) (by lia)) ⟨e,e2, ?_⟩
 refine⟨.non,_,I.lset (its':=its++its2) hH e (by simp) (r.append r2) ?_,rfl,q⟩
 rw [Ah]
 lia
def c1K:V->List V->Hp->VK->Prop:=fun x vs H Q=>∃l xs y,x= .ref l/\vs=[]/\H l=some (.lst xs)/\xs[xs.length - 1]?=some y/\Q y (upd H l (.lst xs.dropLast))
theorem b9A:MtM X "list.pop" c1K:=by
 intro pins s σ H x vs v us Q I rx rv h
 obtain⟨l,xs,y,rfl,rfl,hH,hy,q⟩:=h
 cases rx
 have hus:=rv.zero
 subst hus
 obtain⟨z,its,n,r,hl,e⟩:=I.lstM hH
 obtain⟨u,hu,ru⟩:=r.get hy
 have hy':its.toArray[its.toArray.size - 1]?=some u:=by
  show its.toArray[its.length - 1]?=some u
  rw [<-Array.getElem?_toList,<-hl]
  exact hu
 refine call_meets F.slot_list_pop ⟨_,e,rfl⟩ F.entry_list_pop (F.args_list_pop_1 _) (MeetsSeq.list_pop_last l its.toArray n u hy' (by rw [Aj];lia)) ⟨e, ?_⟩
 refine⟨y,_,I.lset (its':=its.dropLast) hH e ?_ r.dropLast ?_,ru,q⟩
 ·show its.toArray.eraseIdxIfInBounds (its.toArray.size - 1)=its.dropLast.toArray
  rw [Aj,List.eraseIdxIfInBounds_toArray,b1R]
 ·rw [List.length_dropLast]
  lia
def c1H:R2:=fun x y H Q=>∃l b xs zs,x= .ref l/\y= .ref b/\H l=some (.lst xs)/\H b=some (.lst zs)/\xs.length+zs.length<=AM/\∀p,H p=none->Q (.ref p) (upd H p (.lst (xs++zs)))
theorem b9J:OpR X (binaryOp .Add) c1H:=by
 intro pins s σ H x y v u Q I rx ry h
 obtain⟨l,b,xs,zs,rfl,rfl,hH,hB,hz,q⟩:=h
 cases rx
 cases ry
 obtain⟨z,its,n,r,hl,e⟩:=I.lstM hH
 obtain⟨z2,its2,n2,r2,hl2,e2⟩:=I.lstM hB
 refine PySem.P.add_list e e2 ?_ (by rw [Aj,Aj];lia)
 have ea:its.toArray++its2.toArray=(its++its2).toArray:=by simp
 rw [ea]
 exact⟨.ref _,_,I.lnew (t':=s.toks) (r.append r2) (by rw [Ah];lia),rfl,q _ I.fresh⟩
def c1L:R2:=fun x y H Q=>∃l k xs,x= .ref l/\y= .int k/\H l=some (.lst xs)/\ -(2 ^ 63)<=k/\k<2 ^ 63/\xs.length*k.toNat<=AM/\
 ∀p,H p=none->Q (.ref p) (upd H p (.lst (Ac k.toNat xs).flatten))
theorem a9H{α:Type}(xs:List α)(k:Nat):(Ac k xs).flatten.length=k*xs.length:=by
 induction k with
 |zero=>simp
 |succ k ih=>rw [AX,List.flatten_cons,Ah,ih,Nat.succ_mul,Nat.add_comm]
theorem b9N:OpR X (binaryOp .Mult) c1L:=by
 intro pins s σ H x y v u Q I rx ry h
 obtain⟨l,k,xs,rfl,rfl,hH,h1,h2,hz,q⟩:=h
 cases rx
 obtain⟨t,rfl⟩:=ry
 obtain⟨z,its,n,r,hl,e⟩:=I.lstM hH
 have hlen:its.toArray.size*k.toNat<=AM:=by rw [Aj,<-hl];exact hz
 have hcap:¬its.toArray.size*k.toNat>(2 ^ 63 - 1)/ 8:=by
  have:(AM:Nat)<=(2 ^ 63 - 1)/ 8:=by decide
  lia
 have hfit:¬(!Builtin.List.listFitsIndex k)=true:=by
  rw [fitsIndex_both h1 h2]
  exact Al
 have hlong:¬Builtin.List.listTooLong (its.toArray.size*k.toNat)=true:=by
  rw [b04 hlen]
  exact Al
 have hnew:List.foldl (fun x1 x2=>x1++x2) #[] (Ac (if its.toArray.isEmpty=true then 0 else k.toNat) its.toArray)=(Ac k.toNat its).flatten.toArray:=by
  have f0:∀m:Nat,List.foldl (fun x1 x2=>x1++x2) #[] (Ac m its.toArray)=(Ac m its).flatten.toArray:=fun m=>by
   have:=a4A its m []
   rw [AZ] at this
   exact this
  rw [f0]
  cases its with
  |nil=>simp
  |cons a r'=>rw [if_neg (by simp)]
 refine wpAny_binaryOp_repeat_ref (T:="list") (U:="int") (by decide) ⟨_,e,rfl⟩ (fun s'=>typeIs_int s' k t) noFill_list_mul F.fills_int_mul F.slot_int_rmul repeat_list F.slot_int_index.lookup
  (call_meets F.slot_int_rmul (typeIs_int s k t) F.entry_int_rmul (F.args_int_rmul_2 _ _) (int___rmul___int_list k t l its.toArray n)
   ⟨e,rfl,⟨_,e,rfl⟩,call_meets F.slot_list_mul ⟨_,e,rfl⟩ F.entry_list_mul (F.args_list_mul_2 _ _) (AutoListH.list___mul___list_int_3 l its.toArray n k t hfit hcap hlong) ⟨e, ?_⟩⟩)
 rw [hnew]
 exact⟨.ref _,_,I.lnew (t':=s.toks) (r.rep k.toNat) (by rw [a9H,Nat.mul_comm];exact hz),rfl,q _ I.fresh⟩
end
section
variable {prog:AN}{w:AK}{A:AO}{E:AA->AC->Prop}{s:AC}
end
section
variable {X:Cx}
end
end L2
namespace Att
open PySem PySem.W PySem.Calls PyProof.Rows
theorem a5Q{P:Params}{h:Heap}:∀(ns:List Int) (vs:List AA),WellAll P h vs (ns.map WData.int)->IntsAre vs ns:=by
 intro ns
 induction ns with
 |nil=>
  intro vs w
  rw [AS] at w
  cases w
  exact .nil
 |cons n ns ih=>
  intro vs w
  rw [AI] at w
  cases w with
  |cons a b=>
   cases a
   exact .cons _ _ (ih _ b)
theorem b4C{l:OpenLaw}{n:Nat}(hn:l.most=some n){P:Params}{h:Heap}{args:List WData}{vals:List AA}
 (hpre:l.row.toRowW.claim.pre args=true) (hwl:WellAll P h vals args):
 ∃a vs ns,vals=[Value.ref a]/\args=[WData.list (ns.map WData.int)]/\h.get? a=some {cls:= .type "list",data:= .seq vs.toArray}/\IntsAre vs ns/\ns.length<=n:=by
 have hsh:WShape.hasAll [] args [.list .int]=true:=(pre_splitW hpre).1
 have hc:l.pre.holds [] {args:=args}=true:=(pre_splitW hpre).2
 obtain⟨d,r,rfl,h1,h2⟩:=hasAllW_cons hsh
 obtain rfl:=hasAllW_nil h2
 obtain⟨xs,rfl,h3⟩:=hasW_list h1
 obtain⟨ns,rfl⟩:=items_int h3
 have hlen:ns.length<=n:=by
  unfold OpenLaw.pre at hc
  have h4:(WTm.not (.lt (.lit (.int (n:Int))) (.len (.arg 0)))).holds [] {args:=[.list (ns.map .int)]}=true:=by
   have h4:=(holds_andW hc).1
   rw [hn] at h4
   exact h4
  have h5:=condW_of h4 (w_not (w_lt w_lit (w_len_list (w_arg rfl))))
  rw [Ae] at h5
  refine Nat.le_of_not_lt fun q=> ?_
  have q':(n:Int)<((ns.length:Nat):Int):=by lia
  first
   |(rw [decide_eq_true q'] at h5;exact absurd h5 (by decide))
   |(simp at h5;lia)
 cases hwl with
 |cons w1 w2=>
  cases w2
  cases w1 with
  |list ho hall=>exact⟨_,_,ns,rfl,rfl,ho,a5Q ns _ hall,hlen⟩
theorem b4A(l:OpenLaw)(args:List WData):l.row.toRowW.claim.post args (.bool true) args=true:=
 postW_of (r:=l.row.toRowW) (X:=(true==true))
  (show WShape.has [] (.bool true) .bool=true by first|rfl|decide|simp [WShape.has,WShape.arms,WShape.armsAll])
  (show(WTm.eq .res (.lit (.bool true))).value [] {args:=args,res:=some (.bool true),after:=args}=some (.bool (true==true)) from w_eq_bool (w_res rfl) w_lit) rfl
theorem attach_call{l:OpenLaw}{n:Nat}{q:AN}{loose:List Str}{XP:(Str->Option AA)->Heap->Prop}{YP:AK->Heap->Prop}{d:DefRec}
 (hn:l.most=some n) (hdf:d.params.defaults=[])
 (call:∀(w:AK) (s₀ s₁:AC) (mg mb:Str->Option AA) (fa:AB) (o:Obj) (pm cd doc:AA) (a:AB) (vs:List AA) (ns:List Int),
  Ground q loose [] XP w s₀ mg mb s₁.heap->YP w s₁.heap->
  s₁.heap.get? fa=some o->o.data= .func (docDef d.name d.params d.body d.scope pm cd doc)->s₁.heap.CodeRec cd d.name->mg d.name=some (.ref fa)->
  s₁.heap.get? a=some {cls:= .type "list",data:= .seq vs.toArray}->IntsAre vs ns->ns.length<=n->s₁.gens= #[]->
  codeAny (model l.prog w) callerA (.call (.ref fa) ⟨[.ref a],[]⟩) (fun r s'=>r= .ok (.ret (.bool true))/\OldK s₁.heap s'.heap/\s'.os=s₁.os/\AllBare s'.gens) s₁):
 WalkO q loose XP YP l.row.toRowW d [] (fun f vs=>PySem.call f vs):=by
 intro w s₀ s₁ mg mb G Y fa o pm cd doc dV kV ho hd hcd hD hmg hg args vals as hpre hlay hrd hwl hlo
 obtain rfl:dV= .none:=Dflts.none hD hdf
 obtain rfl:kV= .none:=Dflts.noKw hD
 obtain⟨a,vs,ns,rfl,rfl,hobj,hints,hlen⟩:=b4C hn hpre hwl
 refine enter_call (codeAny_mono (call w s₀ s₁ mg mb fa o pm cd doc a vs ns G Y ho (fd_plain hd) hcd hmg hobj hints hlen hg) fun r s' hq=> ?_)
 obtain⟨rfl,h2,h3,h4⟩:=hq
 exact⟨.inl ⟨.bool true,.bool true,[],rfl,fun _=>rfl,.bool true,b4A l _,fun _=>⟨List.Pairwise.nil,fun _ hm=>(nomatch hm)⟩⟩,h2,h3,h4⟩
section
variable {prog:AN}{w:AK}{A:AO}{E:AA->AC->Prop}{s:AC}{K:Frag}
end
end Att
namespace L2
open PySem PySem.Spec PyProof.Rows
theorem a85:∀{vs:List AA} {ns:List Int},IntsAre vs ns->u9 (ns.map V.int) vs
 |_,_,.nil=> .nil
 |_,_,.cons n t h=> .cons ⟨t,rfl⟩ (a85 h)
def b82(H:Hp):Prop:=∀b,H b=none\/∃o xs,H b=some (.frz o (.lst xs))
theorem b5L{P:AN}{w:AK}{K:AE}{mg mb:Str->Option AA}{CX:CXT}{k:Nat}{fa a:AB}{fd:FuncData}{x:Str}{sp:Sp}{s₁:AC}{vs:List AA}{ns:List Int}
 (KX:K.In s₁.heap) (hns:s₁.heap.Ns mainGlobals mg) (hb:s₁.heap.Ns builtinsNs mb) (hbb:∀x:Str,x≠"__name__"->mb x=bootBuiltins x) (hlim:s₁.heap.NoLimit) (hg:s₁.gens= #[])
 (ha:s₁.heap.get? a=some {cls:= .type "list",data:= .seq vs.toArray}) (hi:IntsAre vs ns) (hl:ns.length<=AM) (hr:Y1 k callerA)
 (F:∀base:Heap,K.In base->base.Ns mainGlobals mg->a0G P w K mg base CX k fa fd [x] sp) (hbind:∀(s:AC) (u:AA),BindsTo s fd ⟨[u],[]⟩ [(x,u)])
 (hsp:∀H:Hp,b82 H->V2 K H a (ns.map V.int)->sp [.ref a] H (fun v _=>v= .bl true) fun _ _ _=>False)
 (hCX:∀H e s',CX [] H s₁ (fun _ _ _=>False) e s'->False):
 codeAny (model P w) callerA (.call (.ref fa) ⟨[.ref a],[]⟩) (fun r s'=>r= .ok (.ret (.bool true))/\OldK s₁.heap s'.heap/\s'.os=s₁.os/\AllBare s'.gens) s₁:=by
 have rv:=a85 hi
 have lenV:=hi.length
 have core:∀H:Hp,b82 H->V2 K H a (ns.map V.int)->HOk P w H s₁.heap->(∀b,H b≠none->b=a)->(H a≠none->K.lookup a=none)->
  codeAny (model P w) callerA (.call (.ref fa) ⟨[.ref a],[]⟩) (fun r s'=>r= .ok (.ret (.bool true))/\OldK s₁.heap s'.heap/\s'.os=s₁.os/\AllBare s'.gens) s₁:=by
  intro H hO hS hok hA hK
  have base_of:∀{b:AB} {o:Obj},s₁.heap.get? b=some o->H b=none->(a9y s₁.heap H).get? b=some o:=fun e n=>b5F e n
  have noA:∀{b:AB} {o:Obj} {es:Array DictEntry} {ep:Nat},s₁.heap.get? b=some o->o.data= .dict es ep->H b=none:=fun {b o es ep} e d=>by
   cases q:H b with
   |none=>rfl
   |some u=>
    have e':b=a:=hA b (by rw [q];simp)
    subst e'
    rw [ha] at e;cases e
    have d':Data.seq vs.toArray _=Data.dict es ep:=d
    cases d'
  have nsK:∀{b:AB} {m:Str->Option AA},s₁.heap.Ns b m->(a9y s₁.heap H).Ns b m:=fun {b m} ⟨o,es,ep,e,d,r⟩=>⟨o,es,ep,base_of e (noA e d),d,r⟩
  have hKb:K.In (a9y s₁.heap H):=fun b o e=>base_of (KX b o e) (by
   cases q:H b with
   |none=>rfl
   |some u=>
    have e':b=a:=hA b (by rw [q];simp)
    subst e'
    rw [hK (by rw [q];simp)] at e;cases e)
  have hM:Mod K mg (a9y s₁.heap H):=⟨hKb,nsK hns,⟨mb,nsK hb,hbb⟩,let ⟨mc,h1,h2⟩:=hlim;⟨mc,nsK h1,h2⟩⟩
  have e0:b6W P w K mg (a9y s₁.heap H) callerA [] s₁ H:=⟨rfl,hM,fun b o e=>b7N e,Nat.le_of_eq (b4a _ _),trivial,fun b hb=>absurd (show b∈([]:List AB) from hb) (by simp),hok,.of_eq hg⟩
  refine codeAny_mono ((F _ hKb (nsK hns)).run callerA [] s₁ H ⟨[.ref a],[]⟩ [.ref a] [.ref a] _ _ hr e0 (hbind s₁ (.ref a)) (.cons rfl .nil) (hsp H hO hS)) fun r s' h=> ?_
  cases r with
  |error e=>exact(hCX H e s' h).elim
  |ok fl=>
   cases fl with
   |next=>exact False.elim h
   |brk=>exact False.elim h
   |cont=>exact False.elim h
   |ret u=>
    obtain⟨v,H',os,bare,un,hok',r',q⟩:=h
    have q':v= .bl true:=q
    subst q'
    obtain rfl:u=Value.bool true:=r'
    refine⟨rfl,OldK.of_keep fun b o e=> ?_,os,bare⟩
    cases q:H b with
    |none=>exact un.keep b o e q (by intro z;exact absurd (show b∈([]:List AB) from z) (by simp)) (by simp)
    |some u=>
     rcases hO b with z|⟨ob,xs,z⟩
     ·rw [q] at z;cases z
     ·have z2:=un.frzs b ob _ z
      obtain⟨e1,_⟩:=hok b _ z
      obtain⟨e2,_⟩:=hok' b _ z2
      rw [e] at e1;cases e1
      exact e2
 cases hk:K.lookup a with
 |some o=>
  have e:=KX a o hk
  rw [ha] at e
  cases e
  refine core (fun _=>none) (fun _=> .inl rfl) (.inr ⟨_,vs.toArray,_,hk,rfl,rfl,rfl,by rw [Aj,lenV];exact hl,by simpa using rv⟩) (fun b u z=>by have z':(none:Option HO)=some u:=z;cases z') (fun b z=>absurd rfl z) fun z=>absurd rfl z
 |none=>
  refine core (fun b=>if b=a then some (.frz {cls:= .type "list",data:= .seq vs.toArray} (.lst (ns.map V.int))) else none) (fun b=> ?_) (.inl (.inr ⟨{cls:= .type "list",data:= .seq vs.toArray},if_pos rfl⟩)) (fun b u z=> ?_) (fun b z=> ?_) fun _=>hk
  ·by_cases hb:b=a
   ·exact .inr ⟨_,_,if_pos hb⟩
   ·exact .inl (if_neg hb)
  ·by_cases hb:b=a
   ·have z':=(if_pos hb).symm.trans z
    cases z'
    subst hb
    exact⟨ha,by rw [Ae];exact hl,vs,_,rv,ha⟩
   ·have z':=(if_neg hb).symm.trans z
    cases z'
  ·by_cases hb:b=a
   ·exact hb
   ·exact absurd (if_neg hb) z
theorem b8v{l:PySem.W.OpenLaw}{n k:Nat}{q:AN}{loose:List Str}{XP:(Str->Option AA)->Heap->Prop}{YP:AK->Heap->Prop}{d:DefRec}{K:Params->AE}{CX:AK->CXT}{sp:AK->Sp}{x:Str}
 (hn:l.most=some n) (hn2:n<=AM) (hdf:d.params.defaults=[]) (hr:Y1 k callerA)
 (hY:∀(w:AK) (h:Heap),YP w h->(K w.params).In h)
 (F:∀(w:AK) (mg:Str->Option AA) (fa:AB) (h:Heap),(K w.params).In h->h.Ns mainGlobals mg->mg d.name=some (.ref fa)->
  ∃fd:FuncData,(∀(s:AC) (u:AA),BindsTo s fd ⟨[u],[]⟩ [(x,u)])/\
   ∀base:Heap,(K w.params).In base->base.Ns mainGlobals mg->a0G l.prog w (K w.params) mg base (CX w) k fa fd [x] (sp w))
 (hsp:∀(w:AK) (H:Hp) (a:AB) (ns:List Int),ns.length<=n->b82 H->V2 (K w.params) H a (ns.map V.int)->sp w [.ref a] H (fun v _=>v= .bl true) fun _ _ _=>False)
 (hCX:∀(w:AK) (H:Hp) (s:AC) (e:AA) (s':AC),CX w [] H s (fun _ _ _=>False) e s'->False):
 PySem.W.WalkO q loose XP YP l.row.toRowW d [] (fun f vs=>PySem.call f vs):=by
 refine Att.attach_call hn hdf fun w s₀ s₁ mg mb fa o pm cd doc a vs ns G Y ho hd hcd hmg hobj hints hlen hg=> ?_
 have KX:=hY w _ Y
 obtain⟨fd,hb,hF⟩:=F w mg fa _ KX G.T.g hmg
 exact b5L KX G.T.g G.T.b G.T.builtins G.T.nolimit hg hobj hints (Nat.le_trans hlen hn2) hr hF hb (fun H hO hS=>hsp w H a ns hlen hO hS) fun H e s'=>hCX w H s₁ e s'
def a1c(s:Stmt):Arguments:=match s with
 | .FunctionDef _ a _ _ _ _ _ _ _ _=>a
 |_=>{posonlyargs:=[],args:=[],vararg:=none,kwonlyargs:=[],kw_defaults:=[],kwarg:=none,defaults:=[]}
def U7(s:Stmt):List Stmt:=match s with
 | .FunctionDef _ _ b _ _ _ _ _ _ _=>b
 |_=>[]
def i9(s:Stmt):Scope:=match s with
 | .FunctionDef _ _ _ _ _ _ sc _ _ _=>sc
 |_=>{kind:= .function,names:=[],isGenerator:=false,isCoroutine:=false}
abbrev CX0:CXT:=fun _ _ _ _ _ _=>False
abbrev E0:XK:=fun _ _ _=>False
theorem b6e{X:Cx}:b1F CX0 X E0:=fun _ _ _ _ _ _ _ h=>h.elim
structure Fun(K:AE)(x qual:Str)(st:Stmt)(f:AB)(fd:FuncData):Prop where
 ex:∃(oc:AA) (od:Option AB) (kV doc pm:AA) (an:Option AB) (cdv ct:AA) (osl:Array (Option AA)),
  fd=PySem.W.fnOf x qual (a1c st) (U7 st) (i9 st) .none kV doc pm an cdv ct/\K.lookup f=some ⟨oc,od,.func fd,osl⟩/\PySem.W.codeIn K cdv qual=true
 kp:PySem.W.keepIn K (.ref f)=true
section
variable {P:AN}{w:AK}{K:AE}{mg:Str->Option AA}{base:Heap}
theorem Fun.ok{x qual:Str}{st:Stmt}{f:AB}{fd:FuncData}{N ps:List Str}{k:Nat}{sp:Sp}(F:Fun K x qual st f fd)(S:l9 N ps (i9 st))(len:∀vs H Q E,sp vs H Q E->vs.length=ps.length)
 (hbody:∀(cdv:AA) (A:AO) (outer:List Env) (s:AC) (H:Hp) (vs:List V) (Q:VK) (E:XK),Y1 k (A.deeper (envOfC qual (i9 st) s.heap.objs.size f cdv))->sp vs H Q E->
  ∃t,PSs (b0x CX0 P w K mg base N qual (i9 st) f cdv A outer s H E).nox (U7 st) t/\t {nx:=fun _ H'=>Q .non H',rt:=Q} (a4h N vs) H):a0G P w K mg base CX0 (k+1) f fd ps sp:=by
 obtain⟨oc,od,kV,doc,pm,an,cdv,ct,osl,rfl,lk,hcd⟩:=F.ex
 refine c0B lk hcd S len fun A outer s H vs Q E hr hsp=> ?_
 obtain⟨t,h,q⟩:=hbody cdv A outer s H vs Q E hr hsp
 exact⟨t,h.nox,q⟩
theorem Fun.binds{x qual:Str}{st:Stmt}{f:AB}{fd:FuncData}{ps:List Str}(F:Fun K x qual st f fd)
 (h:∀(kV doc pm:AA) (an:Option AB) (cdv ct:AA) (us:List AA),us.length=ps.length->bindArgs (PySem.W.fnOf x qual (a1c st) (U7 st) (i9 st) .none kV doc pm an cdv ct) ⟨us,[]⟩=pure (ps.zip us)):a6h K fd ps []:=by
 obtain⟨oc,od,kV,doc,pm,an,cdv,ct,osl,rfl,lk,hcd⟩:=F.ex
 exact .all (h kV doc pm an cdv ct)
theorem b9i{x qual:Str}{st:Stmt}{f:AB}{oc:AA}{od an:Option AB}{osl:Array (Option AA)}{kV doc pm cdv ct:AA}(l:K.lookup f=some ⟨oc,od,.func (PySem.W.fnOf x qual (a1c st) (U7 st) (i9 st) .none kV doc pm an cdv ct),osl⟩)
 (c:PySem.W.codeIn K cdv qual=true) (k:PySem.W.keepIn K (.ref f)=true):Fun K x qual st f (PySem.W.fnOf x qual (a1c st) (U7 st) (i9 st) .none kV doc pm an cdv ct):=⟨⟨oc,od,kV,doc,pm,an,cdv,ct,osl,rfl,l,c⟩,k⟩
end
theorem b4E{n:Nat}(h:n<=1000):n<AM:=Nat.lt_of_le_of_lt h (by decide)
section
variable {X:Cx}
theorem pv(i:Nat){x:Str}{pos:Pos}(hN:X.N[i]?=some x:=by rfl)(hv:Vis X.env.scope x:=by first|exact Or.inl rfl|exact Or.inr (Or.inl rfl)|exact Or.inr (Or.inr rfl))(hd:(x==("__debug__":Str))=false:=by decide)
 (hcd:(x==("__classdict__":Str))=false:=by decide):PE X (.Name x pos) (U5 i):=b9Y hN hv hd hcd
end
theorem a9A{A B:Prop}(h:B):if false=true then A else B:=by
 rw [if_neg Al]
 exact h
theorem b0S{A B:Prop}(h:A):if true=true then A else B:=by
 rw [if_pos rfl]
 exact h
def r6(H H':Hp):Prop:=∀b o,H b=some o->H' b=some o
theorem r6.trans{H H1 H2:Hp}(a:r6 H H1)(b:r6 H1 H2):r6 H H2:=fun c o h=>b c o (a c o h)
theorem r6.free{H H':Hp}(e:r6 H H'){l:AB}(h:H' l=Option.none):H l=Option.none:=by
 cases q:H l with
 |none=>rfl
 |some o=>
  rw [e l o q] at h
  cases h
section
variable (P:AN)(w:AK)
end
section
variable {P:AN}{w:AK}{H H':Hp}{h h':Heap}{a:AB}{o:HO}
end
section
variable {P:AN}{w:AK}{H:Hp}{h h':Heap}{x e:AB}{o':HO}
end
section
variable {fs fs' ex ex':List AB}{H H1 H2:Hp}{h h1 h2 h':Heap}{a x e:AB}{o:HO}
end
section
variable {X:Cx}{pins:List (AB×Obj)}{σ:List (Option V)}{H H':Hp}{s:AC}{h':Heap}
end
section
variable {X:Cx}
variable {a b:AG}{ta tb:TE}{pos:Pos}
variable {tA tB':TT}{rest:List AG}
end
section
variable {X:Cx}{pins:List (AB×Obj)}{σ:St}{H:Hp}{s:AC}{a:AB}{xs ys:List V}
end
section
variable {X:Cx}{pins:List (AB×Obj)}{σ:St}{H:Hp}{s:AC}{E:AA->AC->Prop}
end
section
variable {X:Cx}{st:Stmt}{rest:List Stmt}{t u:TS}{e:AG}{te:TE}{pos:Pos}
end
section
variable {X:Cx}{pos:Pos}
end
section
variable {X:Cx}{pos:Pos}
end
section
variable {X:Cx}{tg:AG}
end
section
variable {X:Cx}{a b c:AG}{ta tb tc:TE}{pos:Pos}
end
section
variable {X:Cx}{a b c:AG}{ta tb tc:TE}{pos:Pos}
end
section
variable {prog:AN}{w:AK}{A:AO}{E:AA->AC->Prop}{s:AC}{K:AE}{x dx C f:AB}{mA:Str->Option AA}{name:Str}{v:AA}
end
section
variable {P:AN}{w:AK}{H H':Hp}{h h':Heap}{a C dx:AB}{fs fs':List (Str×V)}
end
section
variable {X:Cx}{pins:List (AB×Obj)}{σ:St}{H:Hp}{s:AC}{a C dx:AB}{fs:List (Str×V)}{f:Str}{v:V}{A:AO}{E:AA->AC->Prop}
end
section
variable {X:Cx}{o e value:AG}{f:Str}{pos pos' tpos:Pos}{ta tv:TE}
end
section
variable {X:Cx}{pins:List (AB×Obj)}{σ:St}{H:Hp}{s:AC}{A:AO}{E:AA->AC->Prop}{Q:AA->AC->Prop}{c:AA}{b:Bool}
end
section
variable {X:Cx}{e:AG}{es:List AG}{te:TE}{t:TA}{pos:Pos}
end
section
variable {X:Cx}{pins:List (AB×Obj)}{σ:St}{H:Hp}{s s':AC}
end
section
variable {X:Cx}{CX:CXT}{k:Nat}{f C:AB}{fd:FuncData}{ps:List Str}{sp:Sp}{dvs:List V}{ds:List AA}{E:XK}{x m:Str}{p pos apos:Pos}{e o:AG}{es:List AG}{ta:TE}{t:TA}
end
section
variable {X:Cx}{CX:CXT}{k:Nat}{f C:AB}{fd:FuncData}{ps ks:List Str}{sp:Sp}{E:XK}{x m:Str}{p pos apos kpos:Pos}{e o:AG}{es:List AG}{kws:List Keyword}{te ta:TE}{t tk:TA}{nm:Option Str}
variable {g:List AA->List AA->List AA}{gV:List V->List V->List V}
end
section
variable {X:Cx}{x:Str}{p pos:Pos}{e:AG}{es:List AG}{t:TA}{id T:String}{r:List V->Hp->VK->Prop}
end
section
variable {κ:Type}[DecidableEq κ]
def a0a(kvs:List (κ×V))(k:κ):Option V:=(kvs.find? fun kv=>decide (kv.1=k)).map (·.2)
def U0(kvs:List (κ×V))(k:κ)(v:V):List (κ×V):=
 if(kvs.any fun kv=>decide (kv.1=k))=true then kvs.map (fun kv=>if kv.1=k then(kv.1,v) else kv) else kvs++[(k,v)]
theorem a2p{p:κ×V}{r:List (κ×V)}{k:κ}(e:p.1=k):a0a (p::r) k=some p.2:=by simp [a0a,List.find?_cons,e]
theorem a2o{p:κ×V}{r:List (κ×V)}{k:κ}(e:¬p.1=k):a0a (p::r) k=a0a r k:=by simp [a0a,List.find?_cons,e]
theorem b1s(k:κ):∀kvs:List (κ×V),(kvs.any fun kv=>decide (kv.1=k))=(a0a kvs k).isSome
 |[]=>rfl
 |p::r=>by
  rw [List.any_cons]
  by_cases e:p.1=k
  ·simp only [a2p e,decide_eq_true e,Bool.true_or,Option.isSome_some]
  ·rw [a2o e,decide_eq_false e,Bool.false_or];exact b1s k r
theorem V1(kvs:List (κ×V))(k:κ)(v:V):(U0 kvs k v).length<=kvs.length+1:=by
 unfold U0
 split
 ·rw [Ae];lia
 ·rw [Ah,AR,AY];lia
theorem a7U.isSome_eq{o:Option V}{u:Option AA}(r:a7U o u):o.isSome=u.isSome:=by
 cases o with
 |none=>cases u with
  |none=>rfl
  |some _=>exact(show False from r).elim
 |some _=>cases u with
  |none=>exact(show False from r).elim
  |some _=>rfl
theorem KV.val{kvs:List (κ×V)}{vs:List (κ×AA)}(r:KV kvs vs)(k:κ):a7U (a0a kvs k) (valueAt vs k):=by
 unfold KV at r
 induction r with
 |nil=>exact True.intro
 | @cons p q ps qs h t ih=>
   obtain⟨h1,h2⟩:=h
   by_cases e:p.1=k
   ·have e':q.1=k:=h1.symm.trans e
    have b:valueAt (q::qs) k=some q.2:=by simp [valueAt,List.find?_cons,e']
    rw [a2p e,b];exact h2
   ·have e':¬q.1=k:=fun z=>e (h1.trans z)
    have b:valueAt (q::qs) k=valueAt qs k:=by simp [valueAt,List.find?_cons,e']
    rw [a2o e,b];exact ih
theorem KV.any{kvs:List (κ×V)}{vs:List (κ×AA)}(r:KV kvs vs)(k:κ):(kvs.any fun kv=>decide (kv.1=k))=vs.any fun kv=>decide (kv.1=k):=by
 unfold KV at r
 induction r with
 |nil=>rfl
 |cons h t ih=>rw [List.any_cons,List.any_cons,ih,h.1]
theorem KV.repl{kvs:List (κ×V)}{vs:List (κ×AA)}(r:KV kvs vs)(k:κ){y:V}{u:AA}(ry:y6 y u):
 KV (kvs.map fun kv=>if kv.1=k then(kv.1,y) else kv) (vs.map fun kv=>if kv.1=k then(kv.1,u) else kv):=by
 unfold KV at r ⊢
 induction r with
 |nil=>exact .nil
 | @cons p q ps qs h t ih=>
   rw [AI,AI]
   refine .cons ?_ ih
   obtain⟨h1,h2⟩:=h
   by_cases e:p.1=k
   ·rw [if_pos e,if_pos (h1.symm.trans e)];exact⟨h1,ry⟩
   ·rw [if_neg e,if_neg (fun z=>e (h1.trans z))];exact⟨h1,h2⟩
theorem KV.put{kvs:List (κ×V)}{vs:List (κ×AA)}(r:KV kvs vs)(k:κ){y:V}{u:AA}(ry:y6 y u):KV (U0 kvs k y) (stored vs k u):=by
 unfold U0 stored
 rw [r.any k]
 by_cases e:(vs.any fun kv=>decide (kv.1=k))=true
 ·rw [if_pos e,if_pos e];exact r.repl k ry
 ·rw [if_neg e,if_neg e];exact Paired.snoc r ⟨rfl,ry⟩
theorem KV.length{kvs:List (κ×V)}{vs:List (κ×AA)}(r:KV kvs vs):kvs.length=vs.length:=Paired.length r
end
theorem a68{P:AN}{w:AK}{k:m5}{u:AA}(r:y6 (kV k) u):(A0 P w).is k u=true:=by
 cases k with
 |inl i=>obtain⟨t,e⟩:=(show ∃t,u=Value.int i t from r);subst e;exact a5v P w i t
 |inr x=>obtain⟨t,e⟩:=(show ∃t,u=Value.str x t from r);subst e;exact a5w P w x t
theorem a8A{P:AN}{w:AK}:∀{ks:List m5} {us:List AA},u9 (ks.map kV) us->ItemsAre (A0 P w) ks us
 |[],_,r=>by rw [AS] at r;cases r;exact .nil
 |k::ks,_,r=>by
  rw [AI] at r
  cases r with
  |cons h t=>exact .cons (a68 h) (a8A t)
abbrev KT(H:Hp):List (List m5×V)->List (List m5×AB×AA)->Prop:=Paired fun p q=>p.1=q.1/\H q.2.1=some (.tup (p.1.map kV))/\y6 p.2 q.2.2
theorem KT.val{H:Hp}{kvs:List (List m5×V)}{xs:List (List m5×AB×AA)}(r:KT H kvs xs)(k:List m5):a7U (a0a kvs k) ((atKey xs k).map (·.2)):=by
 induction r with
 |nil=>exact True.intro
 | @cons p q ps qs h t ih=>
   obtain⟨h1,_,h2⟩:=h
   by_cases e:p.1=k
   ·have e':q.1=k:=h1.symm.trans e
    have b:atKey (q::qs) k=some q.2:=by simp [atKey,List.find?_cons,e']
    rw [a2p e,b];exact h2
   ·have e':¬q.1=k:=fun z=>e (h1.trans z)
    have b:atKey (q::qs) k=atKey qs k:=by simp [atKey,List.find?_cons,e']
    rw [a2o e,b];exact ih
theorem KT.repl{H:Hp}{kvs:List (List m5×V)}{xs:List (List m5×AB×AA)}(r:KT H kvs xs)(k:List m5){y:V}{u:AA}(ry:y6 y u):
 KT H (kvs.map fun kv=>if kv.1=k then(kv.1,y) else kv) (xs.map (putAt k u)):=by
 induction r with
 |nil=>exact .nil
 | @cons p q ps qs h t ih=>
   rw [AI,AI]
   refine .cons ?_ ih
   obtain⟨h1,h2,h3⟩:=h
   unfold putAt
   by_cases e:p.1=k
   ·rw [if_pos e,if_pos (h1.symm.trans e)];exact⟨h1,h2,ry⟩
   ·rw [if_neg e,if_neg (fun z=>e (h1.trans z))];exact⟨h1,h2,h3⟩
theorem KT.put{H:Hp}{kvs:List (List m5×V)}{xs:List (List m5×AB×AA)}(r:KT H kvs xs)(k:List m5){b:AB}{y:V}{u:AA}(hb:H b=some (.tup (k.map kV)))(ry:y6 y u):
 KT H (U0 kvs k y) (storedH xs k b u):=by
 have e:(kvs.any fun kv=>decide (kv.1=k))=(atKey xs k).isSome:=by
  rw [b1s,(r.val k).isSome_eq,Option.isSome_map]
 unfold U0 storedH
 rw [e]
 by_cases q:(atKey xs k).isSome=true
 ·rw [if_pos q,if_pos q];exact r.repl k ry
 ·rw [if_neg q,if_neg q];exact Paired.snoc r ⟨rfl,hb,ry⟩
theorem KT.keeps{H H':Hp}{kvs:List (List m5×V)}{xs:List (List m5×AB×AA)}(r:KT H kvs xs)(ht:∀b ys,H b=some (.tup ys)->H' b=some (.tup ys)):KT H' kvs xs:=
 Paired.mapP r fun _ _ z=>⟨z.1,ht _ _ z.2.1,z.2.2⟩
section
variable {P:AN}{w:AK}{H:Hp}{h:Heap}{a:AB}
theorem b8U{u:HO}(ok:HOk P w H h)(e:Rd H a u):L5 P w H h a u:=e.ok ok
theorem b0B{kvs:List (m5×V)}(ok:HOk P w H h)(e:Rd H a (.dK kvs)):kvs.length<=AM/\(a==sysModules)=false/\∃vs,KV kvs vs/\h.DictOf (A0 P w) a vs:=
 show L5 P w H h a (.dK kvs) from b8U ok e
theorem b8J{kvs:List (m5×V)}(ok:HOk P w H h)(e:H a=some (.dK kvs)):kvs.length<=AM/\(a==sysModules)=false/\∃vs,KV kvs vs/\h.DictOf (A0 P w) a vs:=b0B ok (.inl e)
theorem a4H{ks:List m5}(ok:HOk P w H h)(e:H a=some (.tup (ks.map kV))):(tupleKind (A0 P w)).is h ks a:=by
 obtain⟨_,its,r,o,h1,h2,n,h3⟩:=(show L5 P w H h a (.tup (ks.map kV)) from ok a _ e)
 exact⟨o,its.toArray,n,h1,h2,h3,by simpa using a8A r⟩
theorem b0E{kvs:List (List m5×V)}(ok:HOk P w H h)(e:Rd H a (.dT kvs)):kvs.length<=AM/\(a==sysModules)=false/\
 ∃xs,KT H kvs xs/\h.DictOfH (tupleKind (A0 P w)) a xs:=by
 obtain⟨z,y,xs,r,o,es,ep,h1,h2,h3,h4,h5⟩:=(show L5 P w H h a (.dT kvs) from b8U ok e)
 refine⟨z,y,xs,r,o,es,ep,h1,h2,h3,h4,fun x hx=> ?_,h5⟩
 have all:∀{l:List (List m5×V)} {m:List (List m5×AB×AA)},KT H l m->∀x∈m,(tupleKind (A0 P w)).is h x.1 x.2.1:=by
  intro l m q
  induction q with
  |nil=>intro x hx;exact nomatch hx
  | @cons p q ps qs hq t ih=>
    intro x hx
    rcases Ap.mp hx with e|hx
    ·subst e
     exact a4H ok (by rw [<-hq.1];exact hq.2.1)
    ·exact ih x hx
 exact all r x hx
theorem b5h{kvs:List (List m5×V)}(ok:HOk P w H h)(e:H a=some (.dT kvs)):kvs.length<=AM/\(a==sysModules)=false/\
 ∃xs,KT H kvs xs/\h.DictOfH (tupleKind (A0 P w)) a xs:=b0E ok (.inl e)
end
def a0F(H:Hp)(a:AB)(y:V)(r:Option V):Prop:=
 (∃kvs k,Rd H a (.dK kvs)/\y=kV k/\r=a0a kvs k)\/∃kvs k b,Rd H a (.dT kvs)/\y= .ref b/\H b=some (.tup (k.map kV))/\r=a0a kvs k
def b3N(H:Hp)(a:AB)(y v:V)(H':Hp):Prop:=
 (∃kvs k,H a=some (.dK kvs)/\y=kV k/\kvs.length<AM/\H'=upd H a (.dK (U0 kvs k v)))\/
 ∃kvs k b,H a=some (.dT kvs)/\y= .ref b/\H b=some (.tup (k.map kV))/\kvs.length<AM/\H'=upd H a (.dT (U0 kvs k v))
theorem a0F.k{H:Hp}{a:AB}{kvs:List (m5×V)}{k:m5}(e:H a=some (.dK kvs)):a0F H a (kV k) (a0a kvs k):= .inl ⟨kvs,k,.inl e,rfl,rfl⟩
theorem a0F.t{H:Hp}{a b:AB}{kvs:List (List m5×V)}{k:List m5}(e:H a=some (.dT kvs))(eb:H b=some (.tup (k.map kV))):a0F H a (.ref b) (a0a kvs k):= .inr ⟨kvs,k,b,.inl e,rfl,eb,rfl⟩
theorem b3N.t{H:Hp}{a b:AB}{kvs:List (List m5×V)}{k:List m5}{v:V}(e:H a=some (.dT kvs))(eb:H b=some (.tup (k.map kV)))(hl:kvs.length<AM):
 b3N H a (.ref b) v (upd H a (.dT (U0 kvs k v))):= .inr ⟨kvs,k,b,e,rfl,eb,hl,rfl⟩
section
variable {X:Cx}{pins:List (AB×Obj)}{σ:St}{H:Hp}{s:AC}{a:AB}{y v:V}{u r:AA}{o:Option V}{A:AO}{E:AA->AC->Prop}
theorem m9.big(I:m9 X pins σ H s):sysModules<s.heap.objs.size:=by
 have h:mainGlobals<s.heap.objs.size:=(I.mod.glob.keeps I.bk).lt
 exact Nat.lt_trans (by decide) h
theorem b3Z{Q:AA->AC->Prop}(hu:A.units+1<cLine)(I:m9 X pins σ H s)(g:a0F H a y (some v))(ry:y6 y u)(h:∀w' s',m9 X pins σ H s'->y6 v w'->Q w' s'):
 AJ (model X.prog X.w) A (getItem (.ref a) u) Q E s:=by
 rcases g with⟨kvs,k,e,ey,l⟩|⟨kvs,k,b,e,ey,eb,l⟩
 ·subst ey
  obtain⟨z,hd,vs,rel,dd⟩:=b0B I.hok e
  obtain⟨w',hw,rw'⟩:=a7U.some_of (v:=v) (o:=valueAt vs k) (by rw [l];exact rel.val k)
  exact wpAny_getItem_of (a68 ry) dd.mapOf hw (h w' _ (I.tok _) rw')
 ·subst ey
  cases(show u=Value.ref b from ry)
  obtain⟨z,hd,xs,rel,dd⟩:=b0E I.hok e
  obtain⟨w',hw,rw'⟩:=a7U.some_of (v:=v) (o:=(atKey xs k).map (·.2)) (by rw [l];exact rel.val k)
  obtain⟨p,hp,hp2⟩:=Option.map_eq_some_iff.mp hw
  refine wpAny_getItem_heap (tupleKind_room_in1 hu) (a4H I.hok eb) dd hp ?_
  rw [hp2]
  exact h w' _ (I.tok _) rw'
theorem c1t{Q:AA->AC->Prop}(hu:A.units+1<cLine)(I:m9 X pins σ H s)(g:a0F H a y o)(ry:y6 y u)(h:∀s',m9 X pins σ H s'->Q (.bool o.isSome) s'):
 AJ (model X.prog X.w) A (compareOp .In u (.ref a)) Q E s:=by
 rcases g with⟨kvs,k,e,ey,l⟩|⟨kvs,k,b,e,ey,eb,l⟩
 ·subst ey
  obtain⟨z,hd,vs,rel,dd⟩:=b0B I.hok e
  refine wpAny_in_of (a68 ry) hd dd.mapOf ?_
  rw [<-(rel.val k).isSome_eq,<-l]
  exact h _ (I.tok _)
 ·subst ey
  cases(show u=Value.ref b from ry)
  obtain⟨z,hd,xs,rel,dd⟩:=b0E I.hok e
  refine wpAny_in_heap (tupleKind_room_in1 hu) (a4H I.hok eb) hd dd ?_
  have q:=(rel.val k).isSome_eq
  rw [Option.isSome_map] at q
  rw [<-q,<-l]
  exact h _ (I.tok _)
theorem b2P{Q:AA->AC->Prop}(hu:A.units+1<cLine)(I:m9 X pins σ H s)(g:a0F H a y o)(ry:y6 y u)(h:∀s',m9 X pins σ H s'->Q (.bool (!o.isSome)) s'):
 AJ (model X.prog X.w) A (compareOp .NotIn u (.ref a)) Q E s:=by
 rcases g with⟨kvs,k,e,ey,l⟩|⟨kvs,k,b,e,ey,eb,l⟩
 ·subst ey
  obtain⟨z,hd,vs,rel,dd⟩:=b0B I.hok e
  refine wpAny_notIn_of (a68 ry) hd dd.mapOf ?_
  rw [<-(rel.val k).isSome_eq,<-l]
  exact h _ (I.tok _)
 ·subst ey
  cases(show u=Value.ref b from ry)
  obtain⟨z,hd,xs,rel,dd⟩:=b0E I.hok e
  refine wpAny_notIn_heap (tupleKind_room_in1 hu) (a4H I.hok eb) hd dd ?_
  have q:=(rel.val k).isSome_eq
  rw [Option.isSome_map] at q
  rw [<-q,<-l]
  exact h _ (I.tok _)
theorem a5Z{h':Heap}{t':Nat}{ob:HO}(I:m9 X pins σ H s)(mu:Mut (H a))(hs:Heap.SameBut a s.heap h')(he:∃q,h'.get? a=some q)(new:L5 X.prog X.w (upd H a ob) h' a ob):
 m9 X pins σ (upd H a ob) {s with heap:=h',toks:=t'}:=
 I.write (x:=a) (e:=a) mu (.inl rfl) (fun b q hb z=>(hs.2 b hb).trans z) he new
theorem b5f{P:AN}{w:AK}{H':Hp}{h':Heap}{kvs:List (m5×V)}{vs:List (m5×AA)}(z:kvs.length<=AM)(hd:(a==sysModules)=false)(rel:KV kvs vs)(dd:h'.DictOf (A0 P w) a vs):
 L5 P w H' h' a (.dK kvs):=⟨z,hd,vs,rel,dd⟩
theorem b30{H':Hp}{Q:Unit->AC->Prop}(hu:A.units+1<cLine)(I:m9 X pins σ H s)(g:b3N H a y v H')(ry:y6 y u)(rv:y6 v r)(h:∀s',m9 X pins σ H' s'->Q () s'):
 AJ (model X.prog X.w) A (setItem (.ref a) u r) Q E s:=by
 rcases g with⟨kvs,k,e,ey,l,eH⟩|⟨kvs,k,b,e,ey,eb,l,eH⟩
 ·subst ey eH
  obtain⟨z,hd,vs,rel,dd⟩:=b8J I.hok e
  have hz:vs.length<=AM:=by rw [<-rel.length];exact z
  have hl:(U0 kvs k v).length<=AM:=by have:=V1 kvs k v;lia
  refine wpAny_setItem_pairs (hsz:=hz) (a68 ry) dd fun h' dd' hs=>h _ ?_
  have he:∃q,h'.get? a=some q:=by obtain⟨q,_,_,hq,_⟩:=dd';exact⟨q,hq⟩
  exact a5Z I (by rw [e];exact True.intro) hs he (b5f hl hd (rel.put k rv) dd')
 ·subst ey eH
  cases(show u=Value.ref b from ry)
  obtain⟨z,hd,xs,rel,dd⟩:=b5h I.hok e
  have hz:xs.length<=AM:=by rw [<-Paired.length rel];exact z
  have hl:(U0 kvs k v).length<=AM:=by have:=V1 kvs k v;lia
  refine wpAny_setItem_heap (hsz:=hz) (tupleKind_room_in1 hu) (a4H I.hok eb) dd fun h' dd' hs=>h _ ?_
  obtain⟨q,es,ep,hq,h2,h3,h4,_,h5⟩:=dd'
  refine a5Z I (by rw [e];exact True.intro) hs ⟨q,hq⟩ ⟨hl,hd,_,(rel.put k eb rv).keeps fun c ys ec=> ?_,q,es,ep,hq,h2,h3,h4,h5⟩
  rw [j9 (O3 ec e (fun z=>nomatch z))]
  exact ec
end
section
variable {X:Cx}{pins:List (AB×Obj)}{σ:St}{H:Hp}{s:AC}{a:AB}{kvs:List (m5×V)}{k:m5}{u:AA}{A:AO}{E:AA->AC->Prop}
end
def b4N(i:AG):Prop:=∀ov iv,subscripted i false ov iv=operate [ov,iv] (getItem ov iv)
theorem b3F{prog:AN}{w:AK}{A:AO}{E:AA->AC->Prop}{s:AC}{env:Env}{value slice:AG}{pos:Pos}{T id:String}{Q:AA->AC->Prop}
 (hl:typeLookup (.type T) "__getitem__"=pure (some (.builtin id))) (hs:b4N slice)
 (h:AJ (model prog w) A (eval value env) (fun o s₁=>AJ (model prog w) A (eval slice env) (fun i s₂=>s₂.TypeIs o T/\AJ (model prog w) A (getItem o i) Q E s₂) E s₁) E s):
 AJ (model prog w) A (eval (.Subscript value slice pos) env) Q E s:=by
 refine Subscript_ (wpAny_mono h (fun o s₁ h₁=>wpAny_mono h₁ (fun i s₂ h₂=> ?_) fun _ _ x=>x) fun _ _ x=>x)
 obtain⟨hT,h₂⟩:=h₂
 unfold subscriptTail
 refine AH ?_
 rw [getitemInPython_of_ne hT.not_modules]
 refine AH (wpAny_specialOf hT hl ?_)
 have fin:AJ (model prog w) A (subscripted slice false o i) (fun r s₃=>AJ (model prog w) A (letTemporaryGo value o r>>=fun _=>pure r) Q E s₃) E s₂:=by
  rw [hs o i]
  exact wpAny_operating (wpAny_mono h₂ (fun r s₃ h₃=>AH (wpAny_letTemporaryGo (AT h₃))) fun _ _ x=>x)
 first
  |exact AT (AH fin)
  |exact AH (AT (AH fin))
  |exact AH fin
theorem b0z{X:Cx}{pins:List (AB×Obj)}{σ:St}{H:Hp}{s:AC}{a:AB}{y:V}{o:Option V}(I:m9 X pins σ H s)(g:a0F H a y o):s.TypeIs (.ref a) "dict":=by
 rcases g with⟨kvs,k,e,_,_⟩|⟨kvs,k,b,e,_,_,_⟩
 ·obtain⟨_,_,vs,_,dd⟩:=b0B I.hok e
  exact dd.typeIs
 ·obtain⟨_,_,xs,_,dd⟩:=b0E I.hok e
  exact dd.typeIs
def c1b(td ty:TE):TE:=fun σ H Q=>td σ H fun x H1=>ty σ H1 fun y H2=>∃a v,x= .ref a/\a0F H2 a y (some v)/\Q v H2
def c1P(ty td:TE):TE:=fun σ H Q=>ty σ H fun y H1=>td σ H1 fun x H2=>∃a o,x= .ref a/\a0F H2 a y o/\Q (.bl o.isSome) H2
def b8n(ty td:TE):TE:=fun σ H Q=>ty σ H fun y H1=>td σ H1 fun x H2=>∃a o,x= .ref a/\a0F H2 a y o/\Q (.bl (!o.isSome)) H2
def c07(td ty tv:TE):TS:=fun D σ H=>tv σ H fun v H1=>td σ H1 fun x H2=>ty σ H2 fun y H3=>∃a H4,x= .ref a/\b3N H3 a y v H4/\D.nx σ H4
section
variable {X:Cx}{o i e value:AG}{pos pos' tpos:Pos}{td ty tv:TE}
theorem b3v(hu:X.A.units+1<cLine)(ho:PE X o td)(hi:PE X i ty)(hs:b4N i):PE X (.Subscript o i pos) (c1b td ty):=by
 intro pins s σ H Q I h
 refine b3F PySem.F.slot_dict_getitem.lookup hs (M7 (ho pins s σ H _ I h) fun u s1 h0=>u3 h0 fun x H1 I1 rx q1=>M7 (hi pins s1 σ H1 _ I1 q1) fun iv s2 ⟨y,H2,I2,ry,a,v,ex,g,q2⟩=> ?_)
 subst ex
 obtain rfl:u=Value.ref a:=rx
 exact⟨b0z I2 g,b3Z hu I2 g ry fun w' s3 I3 rw'=>⟨v,H2,I3,rw',q2⟩⟩
theorem b9S(hu:X.A.units+1<cLine)(hi:PE X i ty)(ho:PE X o td):PC X .In i o (c1P ty td):=by
 intro pins s σ H Q I h
 refine M7 (hi pins s σ H _ I h) fun iv s1 h0=>u3 h0 fun y H1 I1 ry q1=>M7 (ho pins s1 σ H1 _ I1 q1) fun u s2 ⟨x,H2,I2,rx,a,ov,ex,g,q2⟩=> ?_
 subst ex
 obtain rfl:u=Value.ref a:=rx
 exact c1t hu I2 g ry fun s3 I3=>⟨.bl ov.isSome,H2,I3,rfl,q2⟩
theorem b4x(hu:X.A.units+1<cLine)(hi:PE X i ty)(ho:PE X o td):PC X .NotIn i o (b8n ty td):=by
 intro pins s σ H Q I h
 refine M7 (hi pins s σ H _ I h) fun iv s1 h0=>u3 h0 fun y H1 I1 ry q1=>M7 (ho pins s1 σ H1 _ I1 q1) fun u s2 ⟨x,H2,I2,rx,a,ov,ex,g,q2⟩=> ?_
 subst ex
 obtain rfl:u=Value.ref a:=rx
 exact b2P hu I2 g ry fun s3 I3=>⟨.bl (!ov.isSome),H2,I3,rfl,q2⟩
theorem b3w(hu:X.A.units+1<cLine)(ho:PE X o td)(hi:PE X i ty)(hv:PE X value tv)(hs:swapsWith value (some (.Subscript o i pos')) pos.line X.env=pure false):
 PS X (.Assign [.Subscript o i pos'] value pos) (c07 td ty tv):=by
 intro pins s σ H D I h
 refine wpAny_Assign_Subscript (M7 (hv pins s σ H _ I h) fun r s1 h0=>u3 h0 fun v H1 I1 rv q1=>M7 (ho pins s1 σ H1 _ I1 q1) fun u s2 h0=>u3 h0 fun x H2 I2 rx q2=>M7 (hi pins s2 σ H2 _ I2 q2) fun iv s3 ⟨y,H3,I3,ry,a,H4,ex,g,q3⟩=> ?_) hs
 subst ex
 obtain rfl:u=Value.ref a:=rx
 exact b30 hu I3 g ry rv fun s4 I4=>⟨σ,H4,I4,q3⟩
end
theorem b5e{P:AN}{w:AK}{H:Hp}(h:Heap)(hb:sysModules<h.objs.size):L5 P w H (h.push {cls:= .type "dict",data:= .dict #[]}) h.objs.size (.dK []):=
 ⟨Nat.zero_le _,beq_eq_false_iff_ne.mpr (Ne.symm (Ar hb)),[],.nil,Heap.DictOf.new h⟩
theorem b0D{P:AN}{w:AK}{H:Hp}(h:Heap)(hb:sysModules<h.objs.size):L5 P w H (h.push {cls:= .type "dict",data:= .dict #[]}) h.objs.size (.dT []):=
 ⟨Nat.zero_le _,beq_eq_false_iff_ne.mpr (Ne.symm (Ar hb)),[],.nil,_, #[],0,As _ rfl,⟨rfl,rfl,rfl⟩,rfl,rfl,List.nodup_nil⟩
def c0e:TE:=fun _ H Q=>∀p,H p=none->Q (.ref p) (upd H p (.dT []))
section
variable {X:Cx}{pos:Pos}
theorem b6g:PE X (.Dict [] [] pos) c0e:=fun pins s σ H Q I h=>
 wpAny_Dict_empty ⟨.ref s.heap.objs.size,_,I.laid (a:=s.heap.objs.size) (o:= .dT []) (t':=s.toks) (fun _ _ q=>An _ q) (Aa _) (b0D s.heap I.big),rfl,h _ (I.hok.fresh (Aa _))⟩
end
def a99:List (TE×TE)->St->Hp->(List (V×V)->Hp->Prop)->Prop
 |[],_,H,Q=>Q [] H
 |(tk,tv)::r,σ,H,Q=>tk σ H fun x H1=>tv σ H1 fun y H2=>a99 r σ H2 fun ps H3=>Q ((x,y)::ps) H3
abbrev VV:List (V×V)->List (AA×AA)->Prop:=Paired fun p q=>y6 p.1 q.1/\y6 p.2 q.2
def PPs(X:Cx)(pos:Pos)(keys:List (Option AG))(values:List AG)(trs:List (TE×TE)):Prop:=
 ∀(pins:List (AB×Obj)) (s:AC) (σ:St) (H:Hp) (Q:List (V×V)->Hp->Prop),m9 X pins σ H s->a99 trs σ H Q->
  AJ (model X.prog X.w) X.A (evalPairs (pairTrees keys values X.env pos)) (fun vs s'=>∃ps H',m9 X pins σ H' s'/\VV ps vs/\Q ps H') X.xe s
theorem b74{X:Cx}{pos:Pos}:PPs X pos [] [] []:=fun pins s σ H Q I h=>pairTrees_nil_walk ⟨[],H,I,.nil,h⟩
theorem b6m{X:Cx}{pos:Pos}{k v:AG}{ks:List (Option AG)}{vs:List AG}{tk tv:TE}{trs:List (TE×TE)}(hk:PE X k tk)(hv:PE X v tv)(hr:PPs X pos ks vs trs):
 PPs X pos (some k::ks) (v::vs) ((tk,tv)::trs):=fun pins s σ H Q I h=>
 pairTrees_cons_walk (M7 (hk pins s σ H _ I h) fun u s1 h0=>u3 h0 fun x H1 I1 rx q1=>M7 (hv pins s1 σ H1 _ I1 q1) fun w2 s2 h0=>u3 h0 fun y H2 I2 ry q2=>
  M7 (hr pins s2 σ H2 _ I2 q2) fun ws s3 h0=>u3 h0 fun ps H3 I3 rel q3=>⟨(x,y)::ps,H3,I3,.cons ⟨rx,ry⟩ rel,q3⟩)
def a17(kvs more:List (m5×V)):List (m5×V):=more.foldl (fun acc kv=>U0 acc kv.1 kv.2) kvs
theorem KV.merge:∀{more:List (m5×V)} {rs:List (m5×AA)} {kvs:List (m5×V)} {vs:List (m5×AA)},KV more rs->KV kvs vs->KV (a17 kvs more) (merged vs rs):=by
 intro more rs kvs vs r
 unfold KV at r
 induction r generalizing kvs vs with
 |nil=>intro q;exact q
 | @cons p q ps qs h t ih=>
   intro r0
   have e:KV (U0 kvs p.1 p.2) (stored vs q.1 q.2):=by
    have:=r0.put p.1 h.2
    rw [<-h.1];exact this
   exact ih e
theorem a2V:∀(more kvs:List (m5×V)),(a17 kvs more).length<=kvs.length+more.length
 |[],kvs=>by show kvs.length<=kvs.length+0;lia
 |p::r,kvs=>by
  have h1:=a2V r (U0 kvs p.1 p.2)
  have h2:=V1 kvs p.1 p.2
  show(a17 (U0 kvs p.1 p.2) r).length<=_
  rw [AR];lia
theorem a6D{P:AN}{w:AK}:∀{kvs:List (m5×V)} {ws:List (AA×AA)},VV (kvs.map fun kv=>(kV kv.1,kv.2)) ws->∃rs,Carries (A0 P w) ws rs/\KV kvs rs
 |[],_,r=>by rw [AS] at r;cases r;exact⟨[],True.intro,.nil⟩
 |p::kvs,_,r=>by
  rw [AI] at r
  cases r with
  | @cons a b as bs h t=>
    obtain⟨rs,c,q⟩:=a6D (P:=P) (w:=w) t
    obtain⟨b1,b2⟩:=b
    exact⟨(p.1,b2)::rs,⟨a68 h.1,rfl,c⟩,.cons ⟨rfl,h.2⟩ q⟩
def c1c(trs:List (TE×TE)):TE:=fun σ H Q=>∀p,H p=none->a99 trs σ (upd H p (.dK [])) fun ps H2=>H2 p=some (.dK [])/\∃kvs:List (m5×V),ps=kvs.map (fun kv=>(kV kv.1,kv.2))/\kvs.length<=15/\Q (.ref p) (upd H2 p (.dK (a17 [] kvs)))
theorem b7Y{X:Cx}{pos:Pos}{keys:List (Option AG)}{values:List AG}{trs:List (TE×TE)}(h:PPs X pos keys values trs)(hall:keys.all (·.isSome)=true)(hl:keys.length=values.length)(h0:keys≠[])
 (h15:keys.length<=15):PE X (.Dict keys values pos) (c1c trs):=by
 intro pins s σ H Q I q
 have hn:=I.hok.fresh (Aa s.heap.objs.size)
 have I1:=I.laid (a:=s.heap.objs.size) (o:= .dK []) (h':=s.heap.push {cls:= .type "dict",data:= .dict #[]}) (t':=s.toks) (fun _ _ q=>An _ q) (Aa _) (b5e s.heap I.big)
 refine wpAny_Dict_walk (knd:=A0 X.prog X.w) hall hl h0 h15 (M7 (h pins _ σ _ _ I1 (q _ hn)) fun ws s2 ⟨ps,H2,I2,rel,e,kvs,ep,lk,q2⟩=> ?_)
 subst ep
 obtain⟨rs,c,rk⟩:=a6D (P:=X.prog) (w:=X.w) rel
 obtain⟨z,hd,vs0,r0,dd⟩:=b8J I2.hok e
 cases r0
 refine⟨rs,c,dd,fun h' dd' hs=>⟨.ref s.heap.objs.size,_, ?_,rfl,q2⟩⟩
 have hz:(a17 [] kvs).length<=AM:=by
  have h1:=a2V kvs []
  rw [AY] at h1
  rw [sizeLine_eq];lia
 have he:∃q,h'.get? s.heap.objs.size=some q:=by obtain⟨q,_,_,hq,_⟩:=dd';exact⟨q,hq⟩
 exact a5Z I2 (by rw [e];exact True.intro) hs he (b5f hz hd (rk.merge .nil) dd')
section
variable {X:Cx}{pins:List (AB×Obj)}{σ:St}{H:Hp}{s:AC}{a:AB}{y d:V}{u r:AA}{o:Option V}{A:AO}{E:AA->AC->Prop}
end
section
variable {X:Cx}{o e f:AG}{apos cpos:Pos}{td ty tx:TE}
end
section
variable {X:Cx}{pins:List (AB×Obj)}{σ:St}{H:Hp}{s:AC}{a:AB}{kvs:List (m5×V)}{A:AO}{E:AA->AC->Prop}
end
section
variable {X:Cx}{pins:List (AB×Obj)}{σ:St}{H:Hp}{s:AC}{a:AB}{y:V}{u:AA}{A:AO}{E:AA->AC->Prop}
end
end L2
namespace Att
open PySem PySem.W PySem.Calls PyProof.Rows
section
variable {prog:AN}{w:AK}{A:AO}{E:AA->AC->Prop}{s:AC}{K:Frag}
end
end Att
namespace L2
open PySem PySem.Spec PyProof.Rows
section
variable {P:AN}{w:AK}{K:AE}{mg:Str->Option AA}{base:Heap}
end
section
variable {X:Cx}
end
section
variable {κ:Type}[DecidableEq κ]
end
end L2
set_option maxHeartbeats 4000000
namespace PU
open PySem PySem.Spec PyProof.Rows L2
abbrev PV:=PyData
def TqT(K:AE)(H:Hp)(a:AB)(xs:List V):Prop:=
 H a=some (.tup xs)\/∃(o:Obj) (its:Array AA) (n:Nat),K.lookup a=some o/\o.cls= .type "tuple"/\o.data= .seq its n/\its.size<=AM/\u9 xs its.toList
theorem TqT.of{K:AE}{H:Hp}{a:AB}{xs:List V}(h:H a=some (.tup xs)):TqT K H a xs:= .inl h
theorem TqT.sq{K:AE}{H:Hp}{a:AB}{xs:List V}(h:TqT K H a xs):SqT K H a xs:=h.elim (fun h=> .inl (.inl h)) .inr
theorem b8i{K:AE}{H H':Hp}{a:AB}{xs:List V}(s:r6 H H')(h:TqT K H a xs):TqT K H' a xs:=h.elim (fun h=> .inl (s _ _ h)) .inr
def c0n(K:AE)(x:Str)(v:V):Prop:=∃(a:AB) (oc:AA) (od:Option AB) (fd:FuncData) (osl:Array (Option AA)),v= .ref a/\K.lookup a=some ⟨oc,od,.func fd,osl⟩/\fd.name=x
def a79(K:AE)(x:Str)(C:AB):Prop:=PySem.W.nsIn K mainGlobals x=some (some (.ref C))/\∃(oc:AA) (od:Option AB) (cd:ClassData) (osl:Array (Option AA)),K.lookup C=some ⟨oc,od,.cls cd,osl⟩/\cd.name=x
theorem a79.inj{K:AE}{x y:Str}{C:AB}(h:a79 K x C)(h':a79 K y C):x=y:=by
 obtain⟨_,_,_,_,_,k,n⟩:=h
 obtain⟨_,_,_,_,_,k',n'⟩:=h'
 rw [k] at k';cases k'
 rw [<-n,n']
def c1r(K:AE)(H:Hp)(x:Str)(v:V):Prop:=∃(a C:AB) (φ:Heap->Prop),v= .ref a/\H a=some (.ext φ)/\
 (∀h:Heap,φ h->∃oe vs,h.get? a=some oe/\oe.cls= .ref C/\oe.data= .fields vs/\oe.dict=none)/\a79 K x C
def b3S(K:AE)(H:Hp)(x:Str)(t:PV)(v:V):Prop:=(t= .none/\c0n K x v)\/(t= .bool true/\c1r K H x v)
theorem b3S.ref{K:AE}{H:Hp}{x:Str}{t:PV}{v:V}(h:b3S K H x t v):∃a,v= .ref a:=by
 rcases h with⟨_,a,_,_,_,_,e,_⟩|⟨_,a,_,_,e,_⟩<;>exact⟨a,e⟩
theorem b3S.mono{K:AE}{H H':Hp}{x:Str}{t:PV}{v:V}(s:r6 H H')(h:b3S K H x t v):b3S K H' x t v:=by
 rcases h with h|⟨z,a,C,φ,e,q,r⟩
 ·exact .inl h
 ·exact .inr ⟨z,a,C,φ,e,s _ _ q,r⟩
def b3T(K:AE)(H:Hp)(x:Str)(m:V)(fs:List (Str×V))(v:V):Prop:=
 (m= .bl false/\∃a C dx,v= .ref a/\H a=some (.ins C dx fs)/\a79 K x C)\/
 (m= .int 0/\∃(a C dx:AB) (φ:Heap->Prop),v= .ref a/\H a=some (.ext φ)/\(∀h:Heap,φ h->∃oe vs,h.get? a=some oe/\oe.cls= .ref C/\oe.data= .fields vs/\oe.dict=some dx)/\H dx=some (.xd fs)/\a79 K x C)
theorem b3T.ref{K:AE}{H:Hp}{x:Str}{m:V}{fs:List (Str×V)}{v:V}(h:b3T K H x m fs v):∃a,v= .ref a:=by
 rcases h with⟨_,a,_,_,e,_⟩|⟨_,a,_,_,_,e,_⟩<;>exact⟨a,e⟩
theorem b3T.mono{K:AE}{H H':Hp}{x:Str}{m:V}{fs:List (Str×V)}{v:V}(s:r6 H H')(h:b3T K H x m fs v):b3T K H' x m fs v:=by
 rcases h with⟨z,a,C,dx,e,q,n⟩|⟨z,a,C,dx,φ,e,q,r,d,n⟩
 ·exact .inl ⟨z,a,C,dx,e,s _ _ q,n⟩
 ·exact .inr ⟨z,a,C,dx,φ,e,s _ _ q,r,s _ _ d,n⟩
def kP:m5->PV
 | .inl i=> .int i
 | .inr x=> .str x
def s1{α:Type}(kv:m5×α):List m5×α:=([kv.1],kv.2)
mutual
def E7(K:AE)(H:Hp):PV->V->Prop
 | .none,v=>v= .non
 | .bool b,v=>v= .bl b
 | .int i,v=>v= .int i
 | .str x,v=>v= .str x
 | .tuple ps,v=>∃a xs,v= .ref a/\TqT K H a xs/\p8 K H ps xs
 | .list ps,v=>∃a xs,v= .ref a/\V2 K H a xs/\p8 K H ps xs
 | .dict kvs,v=>(∃a ys,v= .ref a/\H a=some (.dK ys)/\a2E K H kvs (ys.map s1))\/(∃a xs,v= .ref a/\H a=some (.dT xs)/\a2E K H kvs (([],.non)::xs))\/(∃x t,kvs=[(.str x,t)]/\b3S K H x t v)\/(∃x m fs,b3T K H x m fs v/\b1G K H kvs ((x,m)::fs))
def p8(K:AE)(H:Hp):List PV->List V->Prop
 |[],vs=>vs=[]
 |p::ps,vs=>∃v r,vs=v::r/\E7 K H p v/\p8 K H ps r
def a2E(K:AE)(H:Hp):List (PV×PV)->List (List m5×V)->Prop
 |[],ys=>ys=[]
 |(k,p)::r,ys=>∃kk v t,ys=(kk,v)::t/\k= .tuple (kk.map kP)/\E7 K H p v/\a2E K H r t
def b1G(K:AE)(H:Hp):List (PV×PV)->List (Str×V)->Prop
 |[],ys=>ys=[]
 |(k,p)::r,ys=>∃f v t,ys=(f,v)::t/\k= .str f/\E7 K H p v/\b1G K H r t
end
theorem A9{K:AE}{H H':Hp}{a:AB}{xs:List V}(s:r6 H H')(h:SqT K H a xs):SqT K H' a xs:=by
 rcases h with(h|⟨o,h⟩)|h
 ·exact .inl (.inl (s _ _ h))
 ·exact .inl (.inr ⟨o,s _ _ h⟩)
 ·exact .inr h
theorem O4{K:AE}{H H':Hp}{a:AB}{xs:List V}(s:r6 H H')(h:V2 K H a xs):V2 K H' a xs:=by
 rcases h with(h|⟨o,h⟩)|h
 ·exact .inl (.inl (s _ _ h))
 ·exact .inl (.inr ⟨o,s _ _ h⟩)
 ·exact .inr h
mutual
theorem E7.mono{K:AE}{H H':Hp}(s:r6 H H'):∀(p:PV) {v:V},E7 K H p v->E7 K H' p v
 | .none,_,h=>h
 | .bool _,_,h=>h
 | .int _,_,h=>h
 | .str _,_,h=>h
 | .dict kvs,_,.inl ⟨a,ys,q,h,r⟩=> .inl ⟨a,ys,q,s _ _ h,a2E.mono s kvs r⟩
 | .dict kvs,_,.inr (.inl ⟨a,xs,q,h,r⟩)=> .inr (.inl ⟨a,xs,q,s _ _ h,a2E.mono s kvs r⟩)
 | .dict _,_,.inr (.inr (.inl ⟨x,t,e,h⟩))=> .inr (.inr (.inl ⟨x,t,e,h.mono s⟩))
 | .dict kvs,_,.inr (.inr (.inr ⟨x,m,fs,h,r⟩))=> .inr (.inr (.inr ⟨x,m,fs,h.mono s,b1G.mono s kvs r⟩))
 | .tuple ps,_,⟨a,xs,e,q,r⟩=>⟨a,xs,e,b8i s q,p8.mono s ps r⟩
 | .list ps,_,⟨a,xs,e,q,r⟩=>⟨a,xs,e,O4 s q,p8.mono s ps r⟩
theorem p8.mono{K:AE}{H H':Hp}(s:r6 H H'):∀(ps:List PV) {vs:List V},p8 K H ps vs->p8 K H' ps vs
 |[],_,h=>h
 |p::ps,_,⟨v,r,e,q,t⟩=>⟨v,r,e,E7.mono s p q,p8.mono s ps t⟩
theorem a2E.mono{K:AE}{H H':Hp}(s:r6 H H'):∀(es:List (PV×PV)) {ys:List (List m5×V)},a2E K H es ys->a2E K H' es ys
 |[],_,h=>h
 |(k,p)::es,_,⟨kk,v,r,e,z,q,t⟩=>⟨kk,v,r,e,z,E7.mono s p q,a2E.mono s es t⟩
theorem b1G.mono{K:AE}{H H':Hp}(s:r6 H H'):∀(es:List (PV×PV)) {ys:List (Str×V)},b1G K H es ys->b1G K H' es ys
 |[],_,h=>h
 |(k,p)::es,_,⟨kk,v,r,e,z,q,t⟩=>⟨kk,v,r,e,z,E7.mono s p q,b1G.mono s es t⟩
end
theorem p8.length{K:AE}{H:Hp}:∀{ps:List PV} {vs:List V},p8 K H ps vs->vs.length=ps.length
 |[],_,h=>by cases h;rfl
 |_::ps,_,⟨v,r,e,_,t⟩=>by subst e;rw [AR,AR,p8.length t]
theorem p8.get{K:AE}{H:Hp}:∀{ps:List PV} {vs:List V} {i:Nat} {p:PV},p8 K H ps vs->ps[i]?=some p->∃v,vs[i]?=some v/\E7 K H p v
 |[],_,_,_,_,h=>by simp at h
 |q::ps,_,0,p,⟨v,r,e,a,t⟩,h=>by subst e;simp at h;subst h;exact⟨v,rfl,a⟩
 |q::ps,_,i+1,p,⟨v,r,e,a,t⟩,h=>by subst e;exact p8.get (i:=i) t (by simpa using h)
theorem p8.getV{K:AE}{H:Hp}:∀{ps:List PV} {vs:List V} {i:Nat} {v:V},p8 K H ps vs->vs[i]?=some v->∃p,ps[i]?=some p/\E7 K H p v
 |[],_,_,_,h,e=>by cases h;simp at e
 |q::ps,_,0,v,⟨w,r,e,a,t⟩,h=>by subst e;simp at h;subst h;exact⟨q,rfl,a⟩
 |q::ps,_,i+1,v,⟨w,r,e,a,t⟩,h=>by subst e;exact p8.getV (i:=i) t (by simpa using h)
theorem p8.append{K:AE}{H:Hp}:∀{ps qs:List PV} {vs ws:List V},p8 K H ps vs->p8 K H qs ws->p8 K H (ps++qs) (vs++ws)
 |[],_,_,_,h,t=>by cases h;exact t
 |_::ps,_,_,_,⟨v,r,e,a,t⟩,s=>by subst e;exact⟨v,_,rfl,a,p8.append t s⟩
theorem p8.drop{K:AE}{H:Hp}:∀{ps:List PV} {vs:List V} (n:Nat),p8 K H ps vs->p8 K H (ps.drop n) (vs.drop n)
 |_,_,0,h=>h
 |[],_,n+1,h=>by cases h;rfl
 |_::ps,_,n+1,⟨v,r,e,a,t⟩=>by subst e;exact p8.drop n t
theorem p8.take{K:AE}{H:Hp}:∀{ps:List PV} {vs:List V} (n:Nat),p8 K H ps vs->p8 K H (ps.take n) (vs.take n)
 |_,_,0,h=>rfl
 |[],_,n+1,h=>by cases h;rfl
 |_::ps,_,n+1,⟨v,r,e,a,t⟩=>by subst e;exact⟨v,_,rfl,a,p8.take n t⟩
def C1(K:AE)(H:Hp):List (List m5×PV)->List (List m5×V)->Prop
 |[],ys=>ys=[]
 |(k,p)::r,ys=>∃v t,ys=(k,v)::t/\E7 K H p v/\C1 K H r t
theorem C1.mono{K:AE}{H H':Hp}(s:r6 H H'):∀(kvs:List (List m5×PV)) {ys:List (List m5×V)},C1 K H kvs ys->C1 K H' kvs ys
 |[],_,h=>h
 |(k,p)::r,_,⟨v,t,e,q,h⟩=>⟨v,t,e,E7.mono s p q,C1.mono s r h⟩
inductive X2 where
 |lst (ps:List PV)|dct (kvs:List (List m5×PV))|txt (kvs:List (List m5×PV))
inductive i7 where
 |val (p:PV)|ow (c:X2)|bo (c:X2)
abbrev i7.own(ps:List PV):i7:= .ow (.lst ps)
abbrev i7.bor(ps:List PV):i7:= .bo (.lst ps)
abbrev i7.dct(kvs:List (List m5×PV)):i7:= .ow (.dct kvs)
def Z9(K:AE)(F H:Hp)(v:V):X2->Prop
 | .lst ps=>∃a xs,v= .ref a/\F a=none/\H a=some (.lst xs)/\p8 K F ps xs
 | .dct kvs=>∃a xs,v= .ref a/\F a=none/\H a=some (.dT xs)/\C1 K F kvs xs
 | .txt kvs=>∃a xs,v= .ref a/\F a=none/\H a=some (.dK xs)/\C1 K F kvs (xs.map s1)
def S7(K:AE)(F H:Hp)(v:V):i7->Prop
 | .val p=>E7 K F p v
 | .ow c=>Z9 K F H v c
 | .bo c=>Z9 K F H v c
theorem Z9.at_{K:AE}{F H:Hp}{v:V}:∀{c:X2},Z9 K F H v c->∃a o,v= .ref a/\F a=none/\H a=some o
 | .lst _,⟨a,_,e,n,q,_⟩=>⟨a,_,e,n,q⟩
 | .dct _,⟨a,_,e,n,q,_⟩=>⟨a,_,e,n,q⟩
 | .txt _,⟨a,_,e,n,q,_⟩=>⟨a,_,e,n,q⟩
def NT(o:HO):Prop:=∀xs,o≠.tup xs
structure Ext(F H F' H':Hp):Prop where
 f:r6 F F'
 h:r6 H H'
 fh:r6 F' H'
 nw:∀b o,F b=none->H b=some o->NT o->F' b=none
 nf:∀b o u,F' b=some (.frz o u)->F b=some (.frz o u)
theorem r6.refl(H:Hp):r6 H H:=fun _ _ e=>e
theorem Ext.refl{F H:Hp}(s:r6 F H):Ext F H F H:=⟨r6.refl F,r6.refl H,s,fun _ _ e _ _=>e,fun _ _ _ e=>e⟩
theorem Ext.trans{F H F1 H1 F2 H2:Hp}(a:Ext F H F1 H1)(b:Ext F1 H1 F2 H2):Ext F H F2 H2:=
 ⟨a.f.trans b.f,a.h.trans b.h,b.fh,fun c o e q t=>b.nw c o (a.nw c o e q t) (a.h c o q) t,fun c o u e=>a.nf c o u (b.nf c o u e)⟩
theorem b53{F0 F:Hp}{a:AB}{xs:List V}(h:∀b o u,F b=some (.frz o u)->F0 b=some (.frz o u)):∀b o u,upd F a (.lst xs) b=some (.frz o u)->F0 b=some (.frz o u):=fun b o u z=>by
 by_cases hb:b=a
 ·subst hb;rw [n0] at z;cases z
 ·rw [j9 hb] at z;exact h _ _ _ z
theorem Z9.ext{K:AE}{F H F' H':Hp}{v:V}(x:Ext F H F' H'):∀{c:X2},Z9 K F H v c->Z9 K F' H' v c
 | .lst _,⟨a,xs,e,n,q,r⟩=>⟨a,xs,e,x.nw _ _ n q (fun _ h=>nomatch h),x.h _ _ q,p8.mono x.f _ r⟩
 | .dct _,⟨a,xs,e,n,q,r⟩=>⟨a,xs,e,x.nw _ _ n q (fun _ h=>nomatch h),x.h _ _ q,C1.mono x.f _ r⟩
 | .txt _,⟨a,xs,e,n,q,r⟩=>⟨a,xs,e,x.nw _ _ n q (fun _ h=>nomatch h),x.h _ _ q,C1.mono x.f _ r⟩
theorem S7.ext{K:AE}{F H F' H':Hp}{v:V}(x:Ext F H F' H'):∀{r:i7},S7 K F H v r->S7 K F' H' v r
 | .val p,h=>E7.mono x.f p h
 | .ow _,h=>Z9.ext x h
 | .bo _,h=>Z9.ext x h
def X2.rd:X2->PV
 | .lst ps=> .list ps
 | .dct kvs=> .dict ((.tuple [],.none)::kvs.map fun kv=>(.tuple (kv.1.map kP),kv.2))
 | .txt kvs=> .dict (kvs.map fun kv=>(.tuple (kv.1.map kP),kv.2))
def i7.rd:i7->PV
 | .val p=>p
 | .ow c=>c.rd
 | .bo c=>c.rd
def i7.toVal:i7->Option PV
 | .val p=>some p
 | .ow (.lst ps)=>some (.list ps)
 | .ow (.dct _)=>none
 | .ow (.txt _)=>none
 | .bo _=>none
theorem a2E.of{K:AE}{F H:Hp}(s:r6 F H):∀{kvs:List (List m5×PV)} {xs:List (List m5×V)},C1 K F kvs xs->a2E K H (kvs.map fun kv=>(PyData.tuple (kv.1.map kP),kv.2)) xs
 |[],_,h=>h
 |(k,p)::r,_,⟨v,t,e,q,h⟩=>⟨k,v,t,e,rfl,E7.mono s p q,a2E.of s h⟩
theorem Z9.rd{K:AE}{F H:Hp}{v:V}(s:r6 F H):∀{c:X2},Z9 K F H v c->E7 K H c.rd v
 | .lst ps,⟨a,xs,e,n,q,r⟩=>⟨a,xs,e,V2.of q,p8.mono s _ r⟩
 | .dct kvs,⟨a,xs,e,n,q,r⟩=> .inr (.inl ⟨a,xs,e,q,[],.non,xs,rfl,rfl,rfl,a2E.of s r⟩)
 | .txt kvs,⟨a,xs,e,n,q,r⟩=> .inl ⟨a,xs,e,q,a2E.of s r⟩
theorem S7.rd{K:AE}{F H:Hp}{v:V}(s:r6 F H):∀{r:i7},S7 K F H v r->E7 K H r.rd v
 | .val p,h=>E7.mono s p h
 | .ow _,h=>Z9.rd s h
 | .bo _,h=>Z9.rd s h
structure B9(K:AE)(F H F' H':Hp)(v:V)(r:i7):Prop where
 x:Ext F H F' H'
 rep:S7 K F' H' v r
 fr:∀c a,r= .ow c->v= .ref a->H a=none
theorem B9.val{K:AE}{F H F' H':Hp}{v:V}{p:PV}(x:Ext F H F' H')(r:E7 K F' p v):B9 K F H F' H' v (.val p):=⟨x,r,fun _ _ e=>nomatch e⟩
theorem B9.here{K:AE}{F H:Hp}{v:V}{p:PV}(s:r6 F H)(r:E7 K F p v):B9 K F H F H v (.val p):=B9.val (Ext.refl s) r
theorem B9.trans{K:AE}{F H F1 H1 F2 H2:Hp}{v:V}{r:i7}(a:Ext F H F1 H1)(b:B9 K F1 H1 F2 H2 v r):B9 K F H F2 H2 v r:=
 ⟨a.trans b.x,b.rep,fun ps c e q=>a.h.free (b.fr ps c e q)⟩
theorem B9.toVal{K:AE}{F H F' H':Hp}{v:V}{p:PV}:∀{r:i7},B9 K F H F' H' v r->r.toVal=some p->∃F2,B9 K F H F2 H' v (.val p)
 | .val q,o,e=>by cases e;exact⟨F',o⟩
 | .bo _,_,e=>nomatch e
 | .ow (.dct _),_,e=>nomatch e
 | .ow (.txt _),_,e=>nomatch e
 | .ow (.lst ps),o,e=>by
   cases e
   obtain⟨a,xs,rfl,n,q,r⟩:=o.rep
   have fr:=o.fr _ a rfl rfl
   have up:r6 F' (upd F' a (.lst xs)):=fun b u z=>by rw [j9 (r9 z n)];exact z
   refine⟨upd F' a (.lst xs),B9.val ⟨o.x.f.trans up,o.x.h,fun b u z=> ?_,fun b u z y t=> ?_,b53 o.x.nf⟩ ⟨a,xs,rfl,V2.of n0,p8.mono up _ r⟩⟩
   ·by_cases hb:b=a
    ·subst hb;rw [n0] at z;cases z;exact q
    ·rw [j9 hb] at z;exact o.x.fh _ _ z
   ·rw [j9 (r9 y fr)];exact o.x.nw b u z y t
theorem O5{H:Hp}{a:AB}{o:HO}(n:H a=none):r6 H (upd H a o):=fun b u z=>by rw [j9 (r9 z n)];exact z
theorem Ext.lay{F H:Hp}{a:AB}{o:HO}(s:r6 F H)(n:H a=none)(hf:∀x u,o≠.frz x u:=by intro _ _ h;cases h):Ext F H (upd F a o) (upd H a o):=
 ⟨O5 (s.free n),O5 n,fun b u z=>by
  by_cases hb:b=a
  ·subst hb;rw [n0] at z ⊢;exact z
  ·rw [j9 hb] at z ⊢;exact s _ _ z,fun b u z y _=>by rw [j9 (r9 y n)];exact z,fun b w u z=>by
  by_cases hb:b=a
  ·subst hb;rw [n0] at z;exact absurd (Option.some.inj z) (hf w u)
  ·rw [j9 hb] at z;exact z⟩
theorem Ext.layH{F H:Hp}{a:AB}{o:HO}(s:r6 F H)(n:H a=none):Ext F H F (upd H a o):=
 ⟨r6.refl F,O5 n,fun b u z=>by rw [j9 (r9 (s _ _ z) n)];exact s _ _ z,fun b u z y _=>z,fun _ _ _ z=>z⟩
theorem B9.tup{K:AE}{F H:Hp}{a:AB}{xs:List V}{ps:List PV}(s:r6 F H)(n:H a=none)(r:p8 K F ps xs):B9 K F H (upd F a (.tup xs)) (upd H a (.tup xs)) (.ref a) (.val (.tuple ps)):=
 B9.val (Ext.lay s n) ⟨a,xs,rfl,TqT.of n0,p8.mono (O5 (s.free n)) _ r⟩
theorem B9.lst{K:AE}{F H:Hp}{a:AB}{xs:List V}{ps:List PV}(s:r6 F H)(n:H a=none)(r:p8 K F ps xs):B9 K F H F (upd H a (.lst xs)) (.ref a) (.own ps):=
 ⟨Ext.layH s n,⟨a,xs,rfl,s.free n,n0,r⟩,fun _ _ _ e=>by cases e;exact n⟩
abbrev c6:=List (Option i7)
structure J0(K:AE)(F H:Hp)(σ:L2.St)(ρ:c6):Prop where
 fh:r6 F H
 len:σ.length=ρ.length
 at_:∀(i:Nat) (r:i7),ρ[i]?=some (some r)->∃v,σ[i]?=some (some v)/\S7 K F H v r
 nb:∀(i:Nat) (c:X2),ρ[i]?≠some (some (.bo c))
 ap:∀(i j:Nat) (c d:X2) (a:AB),i≠j->ρ[i]?=some (some (.ow c))->ρ[j]?=some (some (.ow d))->σ[i]?=some (some (.ref a))->σ[j]?≠some (some (.ref a))
theorem J0.ext{K:AE}{F H F' H':Hp}{σ:L2.St}{ρ:c6}(e:J0 K F H σ ρ)(x:Ext F H F' H'):J0 K F' H' σ ρ:=
 ⟨x.fh,e.len,fun i r q=>let ⟨v,a,b⟩:=e.at_ i r q;⟨v,a,b.ext x⟩,e.nb,e.ap⟩
abbrev M:=c6->Option i7
def tM(K:AE)(m:M):TE:=fun σ H Q=>∃F ρ r,J0 K F H σ ρ/\m ρ=some r/\∀v F' H',B9 K F H F' H' v r->Q v H'
abbrev EE(X:Cx)(e:AG)(m:M):Prop:=PE X e (tM X.K m)
theorem D7{X:Cx}{e:AG}{t t':TE}(h:PE X e t)(i:∀σ H Q,t' σ H Q->t σ H Q):PE X e t':=fun pins s σ H Q I q=>h pins s σ H Q I (i σ H Q q)
theorem a3j{X:Cx}{e:AG}{t t':TT}(h:PT X e t)(i:∀σ H Q,t' σ H Q->t σ H Q):PT X e t':=fun pins s σ H Q I q=>h pins s σ H Q I (i σ H Q q)
theorem b6t{X:Cx}{e:AG}{t t':TT}(h:PW X e t)(i:∀σ H Q,t' σ H Q->t σ H Q):PW X e t':=fun wh pins s σ H Q I q=>h wh pins s σ H Q I (i σ H Q q)
theorem b6d{X:Cx}{e:List AG}{t t':TA}(h:PA X e t)(i:∀σ H Q,t' σ H Q->t σ H Q):PA X e t':=fun pos pins s σ H Q I q=>h pos pins s σ H Q I (i σ H Q q)
theorem S5{X:Cx}{e:Stmt}{t t':TS}(h:PS X e t)(i:∀D σ H,t' D σ H->t D σ H):PS X e t':=fun pins s σ H D I q=>h pins s σ H D I (i D σ H q)
theorem a91{X:Cx}{e:List Stmt}{t t':TS}(h:PSs X e t)(i:∀D σ H,t' D σ H->t D σ H):PSs X e t':=fun pins s σ H D I q=>h pins s σ H D I (i D σ H q)
def mC(p:PV):M:=fun _=>some (.val p)
def a8(i:Nat):M:=fun ρ=>match ρ[i]? with
 |some (some (.ow c))=>some (.bo c)
 |some (some r)=>some r
 |_=>none
section
variable {X:Cx}{a b c:AG}{ma mb mc:M}{pos:Pos}
theorem a1S{e:AG}{v:V}{p:PV}(h:PE X e (tC v))(r:∀H,E7 X.K H p v):EE X e (mC p):=
 D7 h fun σ H Q h0=>B6 h0 fun F ρ q he hm k=>by
  cases hm
  exact k v F H (B9.here he.fh (r F))
theorem b0{i j pos}:EE X (.Constant (.int i) j pos) (mC (.int i)):=a1S b6h fun _=>rfl
theorem a2Q{b j pos}:EE X (.Constant (.bool b) j pos) (mC (.bool b)):=a1S c0Z fun _=>rfl
theorem a0y{j pos}:EE X (.Constant .none j pos) (mC .none):=a1S b9W fun _=>rfl
theorem j7{x j pos}:EE X (.Constant (.str x) j pos) (mC (.str x)):=a1S b6j fun _=>rfl
theorem a7(i:Nat){x:Str}{pos:Pos}(h:PE X (.Name x pos) (U5 i)):EE X (.Name x pos) (a8 i):=
 D7 h fun σ H Q h0=>B6 h0 fun F ρ r he hm k=>by
  unfold a8 at hm
  split at hm
  ·rename_i ps e
   cases hm
   obtain⟨v,e1,rr⟩:=he.at_ i _ e
   exact⟨v,e1,k v F H ⟨Ext.refl he.fh,rr,fun _ _ z=>nomatch z⟩⟩
  ·rename_i r' nn e
   cases hm
   obtain⟨v,e1,rr⟩:=he.at_ i _ e
   exact⟨v,e1,k v F H ⟨Ext.refl he.fh,rr,fun ps _ z=>absurd z (nn ps)⟩⟩
  ·cases hm
def rM2(K:AE)(g:i7->i7->Option i7):R2:=fun x y H Q=>∃F rx ry rz,r6 F H/\S7 K F H x rx/\S7 K F H y ry/\g rx ry=some rz/\∀v F' H',B9 K F H F' H' v rz->Q v H'
abbrev OpM(X:Cx)(f:AA->AA->Sem AA)(g:i7->i7->Option i7):Prop:=OpR X f (rM2 X.K g)
def m2(g:i7->i7->Option i7)(ma mb:M):M:=fun ρ=>(ma ρ).bind fun x=>(mb ρ).bind fun y=>g x y
theorem bind_some{α β:Type}{o:Option α}{f:α->Option β}{b:β}(h:o.bind f=some b):∃a,o=some a/\f a=some b:=by
 cases o with
 |none=>cases h
 |some a=>exact⟨a,rfl,h⟩
theorem b0a{K:AE}{g:i7->i7->Option i7}{σ:L2.St}{H:Hp}{Q:VK}(h:tM K (m2 g ma mb) σ H Q):tOp (rM2 K g) (tM K ma) (tM K mb) σ H Q:=by
 obtain⟨F,ρ,r,he,hm,k⟩:=h
 obtain⟨rx,e1,hm⟩:=bind_some hm
 obtain⟨ry,e2,hm⟩:=bind_some hm
 exact⟨F,ρ,rx,he,e1,fun v F1 H1 o1=>⟨F1,ρ,ry,he.ext o1.x,e2,fun u F2 H2 o2=>⟨F2,rx,ry,r,o2.x.fh,o1.rep.ext o2.x,o2.rep,hm,fun z F3 H3 o3=>k z F3 H3 (B9.trans (o1.x.trans o2.x) o3)⟩⟩⟩
theorem g6{op:Operator}{g:i7->i7->Option i7}(ho:OpM X (binaryOp op) g)(ha:EE X a ma)(hb:EE X b mb):EE X (.BinOp a op b pos) (m2 g ma mb):=
 D7 (c00 ho ha hb) fun _ _ _ h=>b0a h
theorem T4{op:CmpOp}{g:i7->i7->Option i7}(ho:OpM X (compareOp op) g)(ha:EE X a ma)(hb:EE X b mb)(hm:behindInMarks op b=false):EE X (.Compare a [op] [b] pos) (m2 g ma mb):=
 D7 (b7X ho ha hb hm) fun _ _ _ h=>b0a h
theorem a4S{f:AA->AA->Sem AA}{r:R2}{g:i7->i7->Option i7}(h:OpR X f r)
 (i:∀F H x y rx ry rz,r6 F H->S7 X.K F H x rx->S7 X.K F H y ry->g rx ry=some rz->∀Q:VK,(∀v F' H',B9 X.K F H F' H' v rz->Q v H')->r x y H Q):OpM X f g:=
 fun pins s σ H x y v u Q I rx ry ⟨F,ra,rb,rz,s0,h1,h2,h3,k⟩=>h pins s σ H x y v u Q I rx ry (i F H x y ra rb rz s0 h1 h2 h3 Q k)
end
def gI(f:Int->Int->PV):i7->i7->Option i7
 | .val (.int i),.val (.int j)=>some (.val (f i j))
 |_,_=>none
theorem b57:∃f:(Int->Int->Prop)->Int->Int->Bool,∀C i j,f C i j=true↔C i j:=⟨fun C i j=> @decide (C i j) (Classical.propDecidable _),fun C i j=> @decide_eq_true_iff (C i j) (Classical.propDecidable _)⟩
def okC:(Int->Int->Prop)->Int->Int->Bool:=b57.choose
theorem a3V{C:Int->Int->Prop}{i j:Int}:okC C i j=true↔C i j:=b57.choose_spec C i j
def S8(C:Int->Int->Prop)[∀i j,Decidable (C i j)](f:Int->Int->PV):i7->i7->Option i7
 | .val (.int i),.val (.int j)=>if okC C i j=true then some (.val (f i j)) else none
 |_,_=>none
theorem b7k{f:Int->Int->PV}{rx ry rz:i7}(h:gI f rx ry=some rz):∃i j,rx= .val (.int i)/\ry= .val (.int j)/\rz= .val (f i j):=by
 unfold gI at h
 split at h
 ·cases h;exact⟨_,_,rfl,rfl,rfl⟩
 ·cases h
theorem b5y{C:Int->Int->Prop}[∀i j,Decidable (C i j)]{f:Int->Int->PV}{rx ry rz:i7}(h:S8 C f rx ry=some rz):∃i j,rx= .val (.int i)/\ry= .val (.int j)/\C i j/\rz= .val (f i j):=by
 unfold S8 at h
 split at h
 ·split at h
  ·rename_i c;cases h;exact⟨_,_,rfl,rfl,a3V.mp c,rfl⟩
  ·cases h
 ·cases h
section
variable {X:Cx}
theorem b8T{f:AA->AA->Sem AA}{g:Int->Int->V}{g':Int->Int->PV}(h:OpR X f (rI0 g))(e:∀i j H,E7 X.K H (g' i j) (g i j)):OpM X f (gI g'):=
 a4S h fun F H x y rx ry rz s h1 h2 h3 Q k=>by
  obtain⟨i,j,rfl,rfl,rfl⟩:=b7k h3
  exact⟨i,j,h1,h2,k _ F H (B9.here s (e i j F))⟩
theorem b2p{f:AA->AA->Sem AA}{C:Int->Int->Prop}[∀i j,Decidable (C i j)]{g:Int->Int->V}{g':Int->Int->PV}(h:OpR X f (rI C g))(e:∀i j H,E7 X.K H (g' i j) (g i j)):OpM X f (S8 C g'):=
 a4S h fun F H x y rx ry rz s h1 h2 h3 Q k=>by
  obtain⟨i,j,rfl,rfl,c,rfl⟩:=b5y h3
  exact⟨i,j,h1,h2,c,k _ F H (B9.here s (e i j F))⟩
end
mutual
def u0:PV->Nat->Bool
 | .list xs,n+1=>E5 xs n
 | .tuple xs,n+1=>E5 xs n
 | .list _,0=>false
 | .tuple _,0=>false
 | .dict _,_=>false
 | .none,_=>true
 | .bool _,_=>true
 | .int _,_=>true
 | .str _,_=>true
def E5:List PV->Nat->Bool
 |[],_=>true
 |x::xs,n=>u0 x n && E5 xs n
end
section
variable {X:Cx}{pins:List (AB×Obj)}{σ:L2.St}{H:Hp}{s:AC}
theorem a5z(I:m9 X pins σ H s){a:AB}{xs ys:List V}(h:V2 X.K H a xs)(h':SqT X.K H a ys):False:=by
 obtain⟨its,r,p,_⟩:=I.list h
 obtain⟨its',r',p',_⟩:=I.tuple h'
 exact SeqAt.ne_of_list_tuple p.isList (show s.heap.IsTuple a its'.toArray from p') rfl
mutual
theorem E7.inj(I:m9 X pins σ H s):∀(p q:PV) {v:V} {n m:Nat},u0 p n=true->u0 q m=true->E7 X.K H p v->E7 X.K H q v->p=q
 | .tuple ps,q,v,n,m,hp,hq,⟨a,xs,e,h,r⟩,h'=>by
   subst e
   cases q with
   |tuple qs=>
    obtain⟨a',xs',e',h',r'⟩:=h'
    cases e'
    cases I.tuple_inj h.sq h'.sq
    cases n<;>cases m<;>simp only [u0,Ax] at hp hq
    rw [p8.inj I ps qs hp hq r r']
   |list qs=>obtain⟨a',xs',e',h',r'⟩:=h';cases e';exact(a5z I h' h.sq).elim
   |dict qs=>simp [u0] at hq
   |_=>cases h'
 | .list ps,q,v,n,m,hp,hq,⟨a,xs,e,h,r⟩,h'=>by
   subst e
   cases q with
   |list qs=>
    obtain⟨a',xs',e',h',r'⟩:=h'
    cases e'
    cases I.list_inj h h'
    cases n<;>cases m<;>simp only [u0,Ax] at hp hq
    rw [p8.inj I ps qs hp hq r r']
   |tuple qs=>obtain⟨a',xs',e',h',r'⟩:=h';cases e';exact(a5z I h h'.sq).elim
   |dict qs=>simp [u0] at hq
   |_=>cases h'
 | .dict _,_,_,_,_,hp,_,_,_=>by simp [u0] at hp
 | .none,q,v,n,m,hp,hq,h,h'| .bool _,q,v,n,m,hp,hq,h,h'| .int _,q,v,n,m,hp,hq,h,h'| .str _,q,v,n,m,hp,hq,h,h'=>by
   cases h
   cases q with
   |tuple _=>obtain⟨_,_,e,_⟩:=h';cases e
   |list _=>obtain⟨_,_,e,_⟩:=h';cases e
   |dict _=>simp [u0] at hq
   |_=>cases h'<;>rfl
theorem p8.inj(I:m9 X pins σ H s):∀(ps qs:List PV) {vs:List V} {n m:Nat},E5 ps n=true->E5 qs m=true->p8 X.K H ps vs->p8 X.K H qs vs->ps=qs
 |[],qs,vs,n,m,_,_,h,h'=>by
  cases h
  cases qs with
  |nil=>rfl
  |cons q qs=>obtain⟨_,_,e,_⟩:=h';cases e
 |p::ps,qs,vs,n,m,hp,hq,⟨v,r,e,h,t⟩,h'=>by
  subst e
  cases qs with
  |nil=>cases h'
  |cons q qs=>
   obtain⟨v',r',e',h',t'⟩:=h'
   cases e'
   simp only [E5,Bool.and_eq_true] at hp hq
   rw [E7.inj I p q hp.1 hq.1 h h',p8.inj I ps qs hp.2 hq.2 t t']
end
end
mutual
theorem a6P:∀(p:PV) (n:Nat),u0 p n=true->PyData.eqv p p=true
 | .none,_,_=>by simp [PyData.eqv]
 | .bool _,_,_=>by simp [PyData.eqv]
 | .int _,_,_=>by simp [PyData.eqv]
 | .str _,_,_=>by simp [PyData.eqv]
 | .list xs,n+1,h=>by simp only [PyData.eqv];exact a0S xs n (by simpa [u0] using h)
 | .tuple xs,n+1,h=>by simp only [PyData.eqv];exact a0S xs n (by simpa [u0] using h)
 | .list xs,0,h=>by simp [u0] at h
 | .tuple xs,0,h=>by simp [u0] at h
 | .dict _,_,h=>by simp [u0] at h
theorem a0S:∀(ps:List PV) (n:Nat),E5 ps n=true->PyData.eqvAll ps ps=true
 |[],_,_=>by simp [PyData.eqvAll]
 |x::xs,n,h=>by
  have h':u0 x n=true/\E5 xs n=true:=by simpa [E5] using h
  simp only [PyData.eqvAll,a6P x n h'.1,a0S xs n h'.2,Bool.and_self]
end
def eAt(ps qs:List PV)(j:Nat):Bool:=match ps[j]?,qs[j]? with
 |some p,some q=>PyData.eqv p q
 |_,_=>false
theorem X3:∀(ps qs:List PV),PyData.eqvAll ps qs=((AL (min ps.length qs.length)).all (eAt ps qs)&& ps.length==qs.length)
 |[],[]=>by simp [PyData.eqvAll]
 |[],_::_=>by simp [PyData.eqvAll]
 |_::_,[]=>by simp [PyData.eqvAll]
 |p::ps,q::qs=>by
  have e:min (p::ps).length (q::qs).length=min ps.length qs.length+1:=by simp only [AR];lia
  rw [e,List.range_succ_eq_map,List.all_cons,List.all_map]
  have h0:eAt (p::ps) (q::qs) 0=PyData.eqv p q:=rfl
  have h1:(eAt (p::ps) (q::qs)∘Nat.succ)=eAt ps qs:=by funext j;simp [eAt,Function.comp]
  rw [h0,h1]
  simp only [PyData.eqvAll,X3 ps qs,AR,Bool.and_assoc]
  have e2:(ps.length+1==qs.length+1)=(ps.length==qs.length):=by
   rw [Bool.eq_iff_iff];simp
  rw [e2]
section
variable {X:Cx}{pins:List (AB×Obj)}{σ:L2.St}{H:Hp}{s:AC}
structure b4K(A:AO)(s:AC)(u w:AA)(b:Bool):Prop where
 rc:SeqAt.RcAt A s u w b
 ne:SeqAt.RcNeAt A s u w (!b)
 eq:SeqAt.EqAt A s u w b
theorem a8y(A:AO):A.in1.units=A.units+1:=rfl
theorem b3L{xs:List V}{its:List AA}{j:Nat}(r:u9 xs its)(h:j<its.length):∃x,xs[j]?=some x/\y6 x its[j]:=by
 have hx:j<xs.length:=by rw [r.length];exact h
 obtain⟨u,h1,h2⟩:=r.get (i:=j) (x:=xs[j]) (by simp [hx])
 rw [BF h] at h1
 cases h1
 exact⟨xs[j],by simp [hx],h2⟩
theorem b1q{A:AO}{ps qs:List PV}{xs ys:List V}{its its2:List AA}(r:p8 X.K H ps xs)(r':p8 X.K H qs ys)(rv:u9 xs its)(rv':u9 ys its2)
 (ih:∀p q x y u w,p∈ps->q∈qs->E7 X.K H p x->E7 X.K H q y->y6 x u->y6 y w->b4K A s u w (PyData.eqv p q)):
 ∀j (h1:j<its.toArray.size) (h2:j<its2.toArray.size),SeqAt.EqAt A s its.toArray[j] its2.toArray[j] (eAt ps qs j):=by
 intro j h1 h2
 have h1':j<its.length:=by simpa using h1
 have h2':j<its2.length:=by simpa using h2
 obtain⟨x,ex,rx⟩:=b3L rv h1'
 obtain⟨y,ey,ry⟩:=b3L rv' h2'
 obtain⟨p,ep,hp⟩:=r.getV ex
 obtain⟨q,eq,hq⟩:=r'.getV ey
 have:eAt ps qs j=PyData.eqv p q:=by simp [eAt,ep,eq]
 rw [this]
 have z:=(ih p q x y _ _ (BB ep) (BB eq) hp hq rx ry).eq
 simpa using z
theorem T5:∀{ps:List PV} {n:Nat} {p:PV},E5 ps n=true->p∈ps->u0 p n=true
 |[],_,_,_,h=>by cases h
 |x::xs,n,p,h,hp=>by
  have h':u0 x n=true/\E5 xs n=true:=by simpa [E5] using h
  rcases Ap.mp hp with rfl|hp
  ·exact h'.1
  ·exact T5 h'.2 hp
theorem b1Q(I:m9 X pins σ H s):∀(n:Nat) (A:AO) (p q:PV) (x y:V) (u w:AA),A.units+n<cLine->u0 p n=true->u0 q n=true->E7 X.K H p x->E7 X.K H q y->y6 x u->y6 y w->b4K A s u w (PyData.eqv p q):=by
 intro n
 induction n with
 |zero=>
  intro A p q x y u w hu hp hq rp rq rx ry
  cases p with
  |none=>
   cases rp;cases rx
   cases q with
   |none=>cases rq;cases ry;simp only [PyData.eqv];exact⟨.none_none,.none_none,.same _⟩
   |bool j=>cases rq;cases ry;simp only [PyData.eqv];exact⟨.none_bool _,.none_bool _,.none_bool _⟩
   |int j=>cases rq;obtain⟨ty,rfl⟩:=ry;simp only [PyData.eqv];exact⟨.none_int _ _,.none_int _ _,.none_int _ _⟩
   |str j=>cases rq;obtain⟨ty,rfl⟩:=ry;simp only [PyData.eqv];exact⟨.none_str _ _,.none_str _ _,.none_str _ _⟩
   |dict _=>simp [u0] at hq
   |list _=>simp [u0] at hq
   |tuple _=>simp [u0] at hq
  |bool i=>
   cases rp;cases rx
   cases q with
   |none=>cases rq;cases ry;simp only [PyData.eqv];exact⟨.bool_none _,.bool_none _,.bool_none _⟩
   |bool j=>cases rq;cases ry;simp only [PyData.eqv];exact⟨.bool_bool _ _,.bool_bool _ _,.bool_bool _ _⟩
   |int j=>cases rq;obtain⟨ty,rfl⟩:=ry;simp only [PyData.eqv];exact⟨.bool_int _ _ _,.bool_int _ _ _,.bool_int _ _ _⟩
   |str j=>cases rq;obtain⟨ty,rfl⟩:=ry;simp only [PyData.eqv];exact⟨.bool_str _ _ _,.bool_str _ _ _,.bool_str _ _ _⟩
   |dict _=>simp [u0] at hq
   |list _=>simp [u0] at hq
   |tuple _=>simp [u0] at hq
  |int i=>
   cases rp;obtain⟨tx,rfl⟩:=rx
   cases q with
   |none=>cases rq;cases ry;simp only [PyData.eqv];exact⟨.int_none _ _,.int_none _ _,.int_none _ _⟩
   |bool j=>cases rq;cases ry;simp only [PyData.eqv];exact⟨.int_bool _ _ _,.int_bool _ _ _,.int_bool _ _ _⟩
   |int j=>cases rq;obtain⟨ty,rfl⟩:=ry;simp only [PyData.eqv];exact⟨.int_int _ _ _ _,.int_int _ _ _ _,.int_int _ _ _ _⟩
   |str j=>cases rq;obtain⟨ty,rfl⟩:=ry;simp only [PyData.eqv];exact⟨.int_str _ _ _ _,.int_str _ _ _ _,.int_str _ _ _ _⟩
   |dict _=>simp [u0] at hq
   |list _=>simp [u0] at hq
   |tuple _=>simp [u0] at hq
  |str i=>
   cases rp;obtain⟨tx,rfl⟩:=rx
   cases q with
   |none=>cases rq;cases ry;simp only [PyData.eqv];exact⟨.str_none _ _,.str_none _ _,.str_none _ _⟩
   |bool j=>cases rq;cases ry;simp only [PyData.eqv];exact⟨.str_bool _ _ _,.str_bool _ _ _,.str_bool _ _ _⟩
   |int j=>cases rq;obtain⟨ty,rfl⟩:=ry;simp only [PyData.eqv];exact⟨.str_int _ _ _ _,.str_int _ _ _ _,.str_int _ _ _ _⟩
   |str j=>cases rq;obtain⟨ty,rfl⟩:=ry;simp only [PyData.eqv];exact⟨.str_str _ _ _ _,.str_str _ _ _ _,.str_str _ _ _ _⟩
   |dict _=>simp [u0] at hq
   |list _=>simp [u0] at hq
   |tuple _=>simp [u0] at hq
  |dict _=>simp [u0] at hp
  |list _=>simp [u0] at hp
  |tuple _=>simp [u0] at hp
 |succ n ih=>
  intro A p q x y u w hu hp hq rp rq rx ry
  have hu0:A.units<cLine:=by lia
  have hu1:A.in1.units+n<cLine:=by rw [a8y];lia
  cases p with
  |dict _=>simp [u0] at hp
  |list ps=>
   obtain⟨a,xs,rfl,hs,r⟩:=rp
   cases rx
   obtain⟨its,rv,pl,hz⟩:=I.list hs
   have okp:E5 ps n=true:=by simpa [u0] using hp
   cases q with
   |dict _=>simp [u0] at hq
   |list qs=>
    obtain⟨b,ys,rfl,hs',r'⟩:=rq
    cases ry
    obtain⟨its2,rv',pl',hz'⟩:=I.list hs'
    have okq:E5 qs n=true:=by simpa [u0] using hq
    have hle:its.toArray.size=ps.length:=by rw [<-r.length,rv.length];simp
    have hle':its2.toArray.size=qs.length:=by rw [<-r'.length,rv'.length];simp
    have he:=b1q (A:=A.in1) (s:=s) r r' rv rv' fun p q x y u w hp' hq' rp' rq' rx' ry'=>ih A.in1 p q x y u w hu1 (T5 okp hp') (T5 okq hq') rp' rq' rx' ry'
    simp only [PyData.eqv]
    have main:SeqAt.RcAt A s (.ref a) (.ref b) (PyData.eqvAll ps qs)/\SeqAt.RcNeAt A s (.ref a) (.ref b) (!PyData.eqvAll ps qs):=by
     by_cases e:its.toArray.size=its2.toArray.size
     ·have el:ps.length=qs.length:=by rw [<-hle,<-hle',e]
      have e3:PyData.eqvAll ps qs=(AL its.toArray.size).all (eAt ps qs):=by
       rw [X3,el,Nat.min_self,hle,el];simp
      rw [e3]
      exact⟨.lists pl.isList pl'.isList e hu0 he,.lists pl.isList pl'.isList e hu0 he⟩
     ·have e3:PyData.eqvAll ps qs=false:=by
       rw [X3]
       have:(ps.length==qs.length)=false:=by
        rw [beq_eq_false_iff_ne];intro z;exact e (by rw [hle,hle',z])
       rw [this,Bool.and_false]
      have e4:(its.toArray.size !=its2.toArray.size)=true:=by simpa using e
      rw [e3]
      exact⟨.lists_lengths pl.isList pl'.isList e4 hu0,.lists_lengths pl.isList pl'.isList e4 hu0⟩
    refine⟨main.1,main.2, ?_⟩
    by_cases hab:a=b
    ·subst hab
     cases I.list_inj hs hs'
     cases p8.inj I ps qs okp okq r r'
     rw [a0S ps n okp]
     exact .same _
    ·exact .of_refs hab main.1
   |tuple qs=>
    obtain⟨b,ys,rfl,hs',r'⟩:=rq
    cases ry
    obtain⟨its2,rv',pl',hz'⟩:=I.tuple hs'.sq
    simp only [PyData.eqv]
    exact⟨.list_tuple pl.isList pl' hu0,.list_tuple pl.isList pl' hu0,.list_tuple pl.isList pl' hu0⟩
   |none=>cases rq;cases ry;simp only [PyData.eqv];exact⟨.list_none pl.isList hu0,.list_none pl.isList hu0,.list_none pl.isList hu0⟩
   |bool k=>cases rq;cases ry;simp only [PyData.eqv];exact⟨.list_bool _ pl.isList hu0,.list_bool _ pl.isList hu0,.list_bool _ pl.isList hu0⟩
   |int k=>cases rq;obtain⟨t,rfl⟩:=ry;simp only [PyData.eqv];exact⟨.list_int _ _ pl.isList hu0,.list_int _ _ pl.isList hu0,.list_int _ _ pl.isList hu0⟩
   |str k=>cases rq;obtain⟨t,rfl⟩:=ry;simp only [PyData.eqv];exact⟨.list_str _ _ pl.isList hu0,.list_str _ _ pl.isList hu0,.list_str _ _ pl.isList hu0⟩
  |tuple ps=>
   obtain⟨a,xs,rfl,hs,r⟩:=rp
   cases rx
   obtain⟨its,rv,pl,hz⟩:=I.tuple hs.sq
   have okp:E5 ps n=true:=by simpa [u0] using hp
   cases q with
   |dict _=>simp [u0] at hq
   |tuple qs=>
    obtain⟨b,ys,rfl,hs',r'⟩:=rq
    cases ry
    obtain⟨its2,rv',pl',hz'⟩:=I.tuple hs'.sq
    have okq:E5 qs n=true:=by simpa [u0] using hq
    have hle:its.toArray.size=ps.length:=by rw [<-r.length,rv.length];simp
    have hle':its2.toArray.size=qs.length:=by rw [<-r'.length,rv'.length];simp
    have he:=b1q (A:=A.in1) (s:=s) r r' rv rv' fun p q x y u w hp' hq' rp' rq' rx' ry'=>ih A.in1 p q x y u w hu1 (T5 okp hp') (T5 okq hq') rp' rq' rx' ry'
    simp only [PyData.eqv]
    have e3:PyData.eqvAll ps qs=((AL (min its.toArray.size its2.toArray.size)).all (eAt ps qs)&& its.toArray.size==its2.toArray.size):=by
     rw [X3,hle,hle']
    have main:SeqAt.RcAt A s (.ref a) (.ref b) (PyData.eqvAll ps qs)/\SeqAt.RcNeAt A s (.ref a) (.ref b) (!PyData.eqvAll ps qs):=by
     rw [e3]
     exact⟨.tuples pl pl' hu0 he,.tuples pl pl' hu0 he⟩
    refine⟨main.1,main.2, ?_⟩
    by_cases hab:a=b
    ·subst hab
     cases I.tuple_inj hs.sq hs'.sq
     cases p8.inj I ps qs okp okq r r'
     rw [a0S ps n okp]
     exact .same _
    ·exact .of_refs hab main.1
   |list qs=>
    obtain⟨b,ys,rfl,hs',r'⟩:=rq
    cases ry
    obtain⟨its2,rv',pl',hz'⟩:=I.list hs'
    simp only [PyData.eqv]
    exact⟨.tuple_list pl pl'.isList hu0,.tuple_list pl pl'.isList hu0,.tuple_list pl pl'.isList hu0⟩
   |none=>cases rq;cases ry;simp only [PyData.eqv];exact⟨.tuple_none pl hu0,.tuple_none pl hu0,.tuple_none pl hu0⟩
   |bool k=>cases rq;cases ry;simp only [PyData.eqv];exact⟨.tuple_bool _ pl hu0,.tuple_bool _ pl hu0,.tuple_bool _ pl hu0⟩
   |int k=>cases rq;obtain⟨t,rfl⟩:=ry;simp only [PyData.eqv];exact⟨.tuple_int _ _ pl hu0,.tuple_int _ _ pl hu0,.tuple_int _ _ pl hu0⟩
   |str k=>cases rq;obtain⟨t,rfl⟩:=ry;simp only [PyData.eqv];exact⟨.tuple_str _ _ pl hu0,.tuple_str _ _ pl hu0,.tuple_str _ _ pl hu0⟩
  |none=>
   cases q with
   |list qs=>
    obtain⟨b,ys,rfl,hs',r'⟩:=rq;cases ry;obtain⟨its2,rv',pl',hz'⟩:=I.list hs';cases rp;cases rx;simp only [PyData.eqv]
    exact⟨.none_list pl'.isList hu0,.none_list pl'.isList hu0,.none_list pl'.isList hu0⟩
   |tuple qs=>
    obtain⟨b,ys,rfl,hs',r'⟩:=rq;cases ry;obtain⟨its2,rv',pl',hz'⟩:=I.tuple hs'.sq;cases rp;cases rx;simp only [PyData.eqv]
    exact⟨.none_tuple pl' hu0,.none_tuple pl' hu0,.none_tuple pl' hu0⟩
   |dict _=>simp [u0] at hq
   |_=>exact ih A _ _ x y u w (by lia) (by simp [u0]) (by simp [u0]) rp rq rx ry
  |bool k=>
   cases q with
   |list qs=>
    obtain⟨b,ys,rfl,hs',r'⟩:=rq;cases ry;obtain⟨its2,rv',pl',hz'⟩:=I.list hs';cases rp;cases rx;simp only [PyData.eqv]
    exact⟨.bool_list _ pl'.isList hu0,.bool_list _ pl'.isList hu0,.bool_list _ pl'.isList hu0⟩
   |tuple qs=>
    obtain⟨b,ys,rfl,hs',r'⟩:=rq;cases ry;obtain⟨its2,rv',pl',hz'⟩:=I.tuple hs'.sq;cases rp;cases rx;simp only [PyData.eqv]
    exact⟨.bool_tuple _ pl' hu0,.bool_tuple _ pl' hu0,.bool_tuple _ pl' hu0⟩
   |dict _=>simp [u0] at hq
   |_=>exact ih A _ _ x y u w (by lia) (by simp [u0]) (by simp [u0]) rp rq rx ry
  |int k=>
   cases q with
   |list qs=>
    obtain⟨b,ys,rfl,hs',r'⟩:=rq;cases ry;obtain⟨its2,rv',pl',hz'⟩:=I.list hs';cases rp;obtain⟨t,rfl⟩:=rx;simp only [PyData.eqv]
    exact⟨.int_list _ _ pl'.isList hu0,.int_list _ _ pl'.isList hu0,.int_list _ _ pl'.isList hu0⟩
   |tuple qs=>
    obtain⟨b,ys,rfl,hs',r'⟩:=rq;cases ry;obtain⟨its2,rv',pl',hz'⟩:=I.tuple hs'.sq;cases rp;obtain⟨t,rfl⟩:=rx;simp only [PyData.eqv]
    exact⟨.int_tuple _ _ pl' hu0,.int_tuple _ _ pl' hu0,.int_tuple _ _ pl' hu0⟩
   |dict _=>simp [u0] at hq
   |_=>exact ih A _ _ x y u w (by lia) (by simp [u0]) (by simp [u0]) rp rq rx ry
  |str k=>
   cases q with
   |list qs=>
    obtain⟨b,ys,rfl,hs',r'⟩:=rq;cases ry;obtain⟨its2,rv',pl',hz'⟩:=I.list hs';cases rp;obtain⟨t,rfl⟩:=rx;simp only [PyData.eqv]
    exact⟨.str_list _ _ pl'.isList hu0,.str_list _ _ pl'.isList hu0,.str_list _ _ pl'.isList hu0⟩
   |tuple qs=>
    obtain⟨b,ys,rfl,hs',r'⟩:=rq;cases ry;obtain⟨its2,rv',pl',hz'⟩:=I.tuple hs'.sq;cases rp;obtain⟨t,rfl⟩:=rx;simp only [PyData.eqv]
    exact⟨.str_tuple _ _ pl' hu0,.str_tuple _ _ pl' hu0,.str_tuple _ _ pl' hu0⟩
   |dict _=>simp [u0] at hq
   |_=>exact ih A _ _ x y u w (by lia) (by simp [u0]) (by simp [u0]) rp rq rx ry
end
end PU
set_option maxHeartbeats 1000000
namespace PU
open PySem PySem.Spec PyProof.Rows L2
instance (i j:Int):Decidable (b1x i j):=by unfold b1x;infer_instance
instance (i j:Int):Decidable (a5M i j):=by unfold a5M;infer_instance
def i7.mine:i7->Option (List PV)
 | .ow (.lst ps)=>some ps
 | .bo (.lst ps)=>some ps
 |_=>none
theorem b0Z{K:AE}{F H:Hp}{v:V}{r:i7}{ps:List PV}(h:S7 K F H v r)(e:r.mine=some ps):∃a xs,v= .ref a/\F a=none/\H a=some (.lst xs)/\p8 K F ps xs:=by
 cases r with
 |val _=>cases e
 |ow c=>cases c<;>cases e;exact h
 |bo c=>cases c<;>cases e;exact h
def C7(x y:i7):Option i7:=match x,y with
 | .val (.int i),.val (.int j)=>some (.val (.int (i+j)))
 | .val (.str i),.val (.str j)=>if i.length+j.length<=AM then some (.val (.str (i++j))) else none
 | .val (.tuple ps),.val (.tuple qs)=>if(ps.length≠0/\qs.length≠0)/\ps.length+qs.length<=AM then some (.val (.tuple (ps++qs))) else none
 |x,y=>match x.mine,y.mine with
  |some ps,some qs=>if ps.length+qs.length<=AM then some (.own (ps++qs)) else none
  |_,_=>none
section
variable {X:Cx}
theorem t7:OpM X (binaryOp .Add) C7:=by
 intro pins s σ H x y v u Q I rx ry h
 obtain⟨F,ra,rb,rz,s0,h1,h2,h3,k⟩:=h
 unfold C7 at h3
 split at h3
 ·cases h3
  cases h1;cases h2
  exact b9I pins s σ H _ _ v u Q I rx ry ⟨_,_,rfl,rfl,k _ F H (B9.here s0 rfl)⟩
 ·rename_i i j
  split at h3
  ·rename_i c
   cases h3
   cases h1;cases h2
   exact b2o pins s σ H _ _ v u Q I rx ry ⟨i,j,rfl,rfl,c,k _ F H (B9.here s0 rfl)⟩
  ·cases h3
 ·rename_i ps qs
  split at h3
  ·rename_i c
   cases h3
   obtain⟨a,xs,rfl,hq,r⟩:=h1
   obtain⟨b,ys,rfl,hq',r'⟩:=h2
   refine b7Q pins s σ H _ _ v u Q I rx ry ⟨a,b,xs,ys,rfl,rfl,A9 s0 hq.sq,A9 s0 hq'.sq, ?_,by rw [r.length,r'.length];exact c.2, ?_⟩
   ·intro z
    subst z
    exact c.1.1 r.length.symm
   ·refine⟨fun z=> ?_,fun _ p hp=>k _ _ _ (B9.tup s0 hp (r.append r'))⟩
    subst z
    exact absurd r'.length.symm c.1.2
  ·cases h3
 ·split at h3
  ·rename_i ps qs e1 e2
   split at h3
   ·rename_i c
    cases h3
    obtain⟨a,xs,rfl,_,hq,r⟩:=b0Z h1 e1
    obtain⟨b,ys,rfl,_,hq',r'⟩:=b0Z h2 e2
    refine b9J pins s σ H _ _ v u Q I rx ry ⟨a,b,xs,ys,rfl,rfl,hq,hq',by rw [r.length,r'.length];exact c,fun p hp=> ?_⟩
    exact k _ _ _ (B9.lst s0 hp (r.append r'))
   ·cases h3
  ·cases h3
theorem a31:OpM X (binaryOp .Sub) (gI fun i j=> .int (i - j)):=b8T b9O fun _ _ _=>rfl
theorem b7U:OpM X (binaryOp .Mult) (S8 b1x fun i j=> .int (i*j)):=b2p b9M fun _ _ _=>rfl
theorem r8:OpM X (binaryOp .Mod) (S8 (fun _ j=>0<j) fun i j=> .int (i % j)):=b2p b9L fun _ _ _=>rfl
theorem Z6:OpM X (binaryOp .FloorDiv) (S8 a5M fun i j=> .int (i / j)):=b2p b7R fun _ _ _=>rfl
theorem b9P:OpM X (compareOp .Gt) (gI fun i j=> .bool (decide (j<i))):=b8T c0U fun _ _ _=>rfl
def gEq(x y:i7):Option i7:=if u0 x.rd 50=true/\u0 y.rd 50=true then some (.val (.bool (PyData.eqv x.rd y.rd))) else none
def gNe(x y:i7):Option i7:=if u0 x.rd 50=true/\u0 y.rd 50=true then some (.val (.bool (!PyData.eqv x.rd y.rd))) else none
theorem A4(hu:X.A.units+64<cLine):OpM X (compareOp .Eq) gEq:=by
 intro pins s σ H x y v u Q I rx ry h
 obtain⟨F,ra,rb,rz,s0,h1,h2,h3,k⟩:=h
 unfold gEq at h3
 split at h3
 ·rename_i c
  cases h3
  have z:=b1Q I 50 X.A _ _ x y v u (by lia) c.1 c.2 (h1.rd s0) (h2.rd s0) rx ry
  exact z.rc _ _ _ _ ⟨.bl _,H,I,rfl,k _ F H (B9.here s0 rfl)⟩
 ·cases h3
theorem a3i(hu:X.A.units+64<cLine):OpM X (compareOp .NotEq) gNe:=by
 intro pins s σ H x y v u Q I rx ry h
 obtain⟨F,ra,rb,rz,s0,h1,h2,h3,k⟩:=h
 unfold gNe at h3
 split at h3
 ·rename_i c
  cases h3
  have z:=b1Q I 50 X.A _ _ x y v u (by lia) c.1 c.2 (h1.rd s0) (h2.rd s0) rx ry
  exact z.ne _ _ _ _ ⟨.bl _,H,I,rfl,k _ F H (B9.here s0 rfl)⟩
 ·cases h3
open Classical in
def a7X(K:AE)(H:Hp)(q:PV)(u:AA):Bool:=if h:∃p v,y6 v u/\E7 K H p v/\u0 p 50=true then PyData.eqv h.choose q else false
theorem b2T{pins:List (AB×Obj)}{σ:L2.St}{H:Hp}{s:AC}(I:m9 X pins σ H s){p q:PV}{v:V}{u:AA}(r:y6 v u)(h:E7 X.K H p v)(ok:u0 p 50=true):a7X X.K H q u=PyData.eqv p q:=by
 have hx:∃p v,y6 v u/\E7 X.K H p v/\u0 p 50=true:=⟨p,v,r,h,ok⟩
 unfold a7X
 rw [dif_pos hx]
 obtain⟨v',r',h',o'⟩:=hx.choose_spec
 cases r.inj r'
 rw [E7.inj I _ _ o' ok h' h]
theorem a6u{pins:List (AB×Obj)}{σ:L2.St}{H:Hp}{s:AC}(I:m9 X pins σ H s){q:PV}:∀{ps:List PV} {xs:List V} {us:List AA},p8 X.K H ps xs->u9 xs us->E5 ps 50=true->us.any (a7X X.K H q)=ps.any fun p=>PyData.eqv p q
 |[],_,_,r,v,_=>by cases r;cases v;rfl
 |p::ps,_,_,⟨x,r,e,h,t⟩,v,ok=>by
  simp only [E5,Bool.and_eq_true] at ok
  subst e
  cases v with
  |cons a b=>rw [List.any_cons,List.any_cons,b2T I a h ok.1,a6u I t b ok.2]
theorem b3i{H:Hp}:∀{ps:List PV} {xs:List V} {us:List AA} {u:AA},p8 X.K H ps xs->u9 xs us->u∈us->∃p x,p∈ps/\y6 x u/\E7 X.K H p x
 |[],_,_,_,r,v,h=>by cases r;cases v;cases h
 |p::ps,_,_,u,⟨x,r,e,hp,t⟩,v,h=>by
  subst e
  cases v with
  |cons a b=>
   rcases Ap.mp h with rfl|h
   ·exact⟨p,x,Am,a,hp⟩
   ·obtain⟨p',x',h1,h2,h3⟩:=b3i t b h
    exact⟨p',x',Ak _ h1,h2,h3⟩
def PyData.items?:PV->Option (List PV)
 | .list ps=>some ps
 | .tuple ps=>some ps
 |_=>none
def gIn(neg:Bool)(x y:i7):Option i7:=match PyData.items? y.rd with
 |some ps=>if u0 x.rd 50=true/\E5 ps 50=true then some (.val (.bool (if neg then !(ps.any fun p=>PyData.eqv p x.rd) else ps.any fun p=>PyData.eqv p x.rd))) else none
 |none=>none
theorem b0R{pins:List (AB×Obj)}{σ:L2.St}{H:Hp}{s:AC}(I:m9 X pins σ H s)(hu:X.A.units+64<cLine){q:PV}{ps:List PV}{x:V}{xs:List V}{v:AA}{us:List AA}(hq:u0 q 50=true)(hp:E5 ps 50=true)
 (rq:E7 X.K H q x) (rx:y6 x v) (r:p8 X.K H ps xs) (rv:u9 xs us):∀y,y∈us.toArray->SeqAt.EqAt X.A.in1 s y v (a7X X.K H q y):=by
 intro y hy
 have hy':y∈us:=by simpa using hy
 obtain⟨p,z,h1,h2,h3⟩:=b3i r rv hy'
 rw [b2T I h2 h3 (T5 hp h1)]
 exact(b1Q I 50 X.A.in1 p q z x y v (by rw [a8y];lia) (T5 hp h1) hq h3 rq h2 rx).eq
theorem T8{F H:Hp}{v:V}{r:i7}{ps:List PV}(s0:r6 F H)(h:S7 X.K F H v r)(e:PyData.items? r.rd=some ps):∃a xs,v= .ref a/\(V2 X.K H a xs\/SqT X.K H a xs)/\p8 X.K F ps xs:=by
 cases r with
 |val p=>
  cases p with
  |list qs=>cases e;obtain⟨a,xs,rfl,hq,r⟩:=h;exact⟨a,xs,rfl,.inl (O4 s0 hq),r⟩
  |tuple qs=>cases e;obtain⟨a,xs,rfl,hq,r⟩:=h;exact⟨a,xs,rfl,.inr (A9 s0 hq.sq),r⟩
  |_=>cases e
 |ow c=>cases c<;>cases e;obtain⟨a,xs,rfl,_,hq,r⟩:=h;exact⟨a,xs,rfl,.inl (V2.of hq),r⟩
 |bo c=>cases c<;>cases e;obtain⟨a,xs,rfl,_,hq,r⟩:=h;exact⟨a,xs,rfl,.inl (V2.of hq),r⟩
theorem b9Q(hu:X.A.units+64<cLine):OpM X (compareOp .In) (gIn false):=by
 intro pins s σ H x y v u Q I rx ry h
 obtain⟨F,ra,rb,rz,s0,h1,h2,h3,k⟩:=h
 unfold gIn at h3
 split at h3
 ·rename_i ps e
  split at h3
  ·rename_i c
   cases h3
   obtain⟨a,xs,rfl,hq,r⟩:=T8 s0 h2 e
   cases ry
   have rH:=p8.mono s0 _ r
   rcases hq with hq|hq
   ·obtain⟨its,rv,pl,hz⟩:=I.list hq
    refine SeqAt.in_listAt (a7X X.K H ra.rd) pl.isList (b0R I hu c.1 c.2 (h1.rd s0) rx rH rv) ⟨.bl _,H,I,rfl, ?_⟩
    rw [show its.toArray.any (a7X X.K H ra.rd)=its.any (a7X X.K H ra.rd) by simp,a6u I rH rv c.2]
    exact k _ F H (B9.here s0 rfl)
   ·obtain⟨its,rv,pl,hz⟩:=I.tuple hq
    refine SeqAt.in_tupleAt (a7X X.K H ra.rd) pl (b0R I hu c.1 c.2 (h1.rd s0) rx rH rv) ⟨.bl _,H,I,rfl, ?_⟩
    rw [show its.toArray.any (a7X X.K H ra.rd)=its.any (a7X X.K H ra.rd) by simp,a6u I rH rv c.2]
    exact k _ F H (B9.here s0 rfl)
  ·cases h3
 ·cases h3
def b9j(neg:Bool)(x y:i7):Option i7:=match y with
 | .val .none=>(match x.rd with
   | .none=>some (.val (.bool (!neg)))
   |_=>some (.val (.bool neg)))
 |_=>none
def PyData.isNone:PV->Bool
 | .none=>true
 |_=>false
theorem b8d{K:AE}{H:Hp}{p:PV}{v:V}(h:E7 K H p v):decide (v=V.non)=PyData.isNone p:=by
 cases p with
 |none=>cases h;rfl
 |bool _=>cases h;rfl
 |int _=>cases h;rfl
 |str _=>cases h;rfl
 |list _=>obtain⟨_,_,rfl,_⟩:=h;rfl
 |tuple _=>obtain⟨_,_,rfl,_⟩:=h;rfl
 |dict _=>
  rcases h with⟨_,_,rfl,_⟩|⟨_,_,rfl,_⟩|⟨_,_,_,h⟩|⟨_,_,_,h,_⟩
  ·rfl
  ·rfl
  ·obtain⟨_,rfl⟩:=h.ref;rfl
  ·obtain⟨_,rfl⟩:=h.ref;rfl
theorem b7T:OpM X (compareOp .Is) (b9j false):=
 a4S b9K fun F H x y rx ry rz s0 h1 h2 h3 Q k=>by
  unfold b9j at h3
  split at h3
  ·cases h2
   have e:=b8d (h1.rd s0)
   refine⟨rfl, ?_⟩
   rw [e]
   cases hp:rx.rd<;>rw [hp] at h3<;>cases h3<;>exact k _ F H (B9.here s0 rfl)
  ·cases h3
def a0z(m:M):M:=fun ρ=>(m ρ).bind fun r=>match r with
 | .val (.int i)=>some (.val (.int (-i)))
 |_=>none
theorem K1{a:AG}{ma:M}{pos:Pos}(ha:EE X a ma):EE X (.UnaryOp .USub a pos) (a0z ma):=
 D7 (c02 c0l ha) fun σ H Q h0=>B6 h0 fun F ρ r he hm k=>by
  obtain⟨rx,e1,hm⟩:=bind_some hm
  refine⟨F,ρ,rx,he,e1,fun v F1 H1 o1=> ?_⟩
  split at hm
  ·cases hm
   exact⟨_,o1.rep,k _ F1 H1 (B9.trans o1.x (B9.here o1.x.fh rfl))⟩
  ·cases hm
def v6(x y:i7):Option i7:=match y with
 | .val (.int i)=>(match x.rd with
   | .str z=>if z.length<=AM then(atI z.cps.toList i).map fun c=> .val (.str ⟨#[c]⟩) else none
   |p=>match PyData.items? p with
    |some ps=>(atI ps i).map .val
    |none=>none)
 |_=>none
theorem p8.atI{K:AE}{H:Hp}{ps:List PV}{xs:List V}{i:Int}{p:PV}(r:p8 K H ps xs)(e:L2.atI ps i=some p):∃v,L2.atI xs i=some v/\E7 K H p v:=by
 unfold L2.atI at e ⊢
 rw [r.length]
 obtain⟨j,e1,e2⟩:=bind_some e
 rw [e1]
 exact r.get e2
theorem ixm:IxR X (rM2 X.K v6):=by
 intro value slice pins s σ H x y v u Q I rx ry h hs
 obtain⟨F,ra,rb,rz,s0,h1,h2,h3,k⟩:=h
 unfold v6 at h3
 split at h3
 ·rename_i i
  cases h2
  split at h3
  ·rename_i z ez
   split at h3
   ·rename_i c
    have rr:=h1.rd s0
    rw [ez] at rr
    cases rr
    cases ea:L2.atI z.cps.toList i with
    |none=>rw [ea] at h3;cases h3
    |some ch=>
     rw [ea] at h3;cases h3
     exact b9n value slice pins s σ H _ _ v u Q I rx ry ⟨z,i,ch,rfl,rfl,c,ea,k _ F H (B9.here s0 rfl)⟩ hs
   ·cases h3
  ·split at h3
   ·rename_i ps e
    cases ea:L2.atI ps i with
    |none=>rw [ea] at h3;cases h3
    |some p=>
     rw [ea] at h3;cases h3
     obtain⟨a,xs,rfl,hq,r⟩:=T8 s0 h1 e
     obtain⟨z,ez,rp⟩:=r.atI ea
     rcases hq with hq|hq
     ·exact b7w value slice pins s σ H _ _ v u Q I rx ry ⟨a,xs,i,z,rfl,rfl,hq,ez,k _ F H (B9.here s0 rp)⟩ hs
     ·exact a4F value slice pins s σ H _ _ v u Q I rx ry ⟨a,xs,i,z,rfl,rfl,hq,ez,k _ F H (B9.here s0 rp)⟩ hs
   ·cases h3
 ·cases h3
theorem j8{a b:AG}{ma mb:M}{pos:Pos}(ha:EE X a ma)(hb:EE X b mb)(hs:a2q b:=by intro _ _;rfl):EE X (.Subscript a b pos) (m2 v6 ma mb):=
 D7 (a8P ixm ha hb hs) fun _ _ _ h=>b0a h
abbrev MA:=c6->Option (List PV)
def tMA(K:AE)(m:MA):TA:=fun σ H Q=>∃F ρ ps,J0 K F H σ ρ/\m ρ=some ps/\∀vs F' H',Ext F H F' H'->p8 K F' ps vs->Q vs H'
abbrev EA(X:Cx)(es:List AG)(m:MA):Prop:=PA X es (tMA X.K m)
def c7:MA:=fun _=>some []
def a6(m:M)(r:MA):MA:=fun ρ=>((m ρ).bind i7.toVal).bind fun p=>(r ρ).bind fun ps=>some (p::ps)
theorem b9:EA X [] c7:=b6d V8 fun σ H Q h0=>B6 h0 fun F ρ ps he hm k=>by
 cases hm
 exact k [] F H (Ext.refl he.fh) rfl
theorem a5{e:AG}{es:List AG}{m:M}{r:MA}(ha:EE X e m)(hr:EA X es r)(hs:AW (e::es) X.env=(false,eval e X.env)::AW es X.env:=by rfl):EA X (e::es) (a6 m r):=
 b6d (E9 ha hr hs) fun σ H Q h0=>B6 h0 fun F ρ ps he hm k=>by
  obtain⟨p,e1,hm⟩:=bind_some hm
  obtain⟨r1,e1,e2⟩:=bind_some e1
  obtain⟨qs,e3,hm⟩:=bind_some hm
  cases hm
  refine⟨F,ρ,r1,he,e1,fun v F1 H1 o1=> ?_⟩
  obtain⟨F2,o2⟩:=o1.toVal e2
  exact⟨F2,ρ,qs,he.ext o2.x,e3,fun vs F3 H3 x3 rl=>k _ F3 H3 (o2.x.trans x3) ⟨v,vs,rfl,E7.mono x3.f _ o2.rep,rl⟩⟩
def A7(m:MA):M:=fun ρ=>(m ρ).bind fun ps=>if ps.length<=AM then some (.val (.tuple ps)) else none
def S4(m:MA):M:=fun ρ=>(m ρ).bind fun ps=>if ps.length<=AM then some (.own ps) else none
theorem p7{es:List AG}{m:MA}{x1:Nat}{pos:Pos}(h:EA X es m):EE X (.Tuple es x1 pos) (A7 m):=
 D7 (b2s h) fun σ H Q h0=>B6 h0 fun F ρ r he hm k=>by
  obtain⟨ps,e1,hm⟩:=bind_some hm
  split at hm
  ·rename_i c
   cases hm
   exact⟨F,ρ,ps,he,e1,fun vs F1 H1 x rl=>⟨by rw [rl.length];exact c,fun p hp=>k _ _ _ (B9.trans x (B9.tup x.fh hp rl))⟩⟩
  ·cases hm
theorem C4{es:List AG}{m:MA}{pos:Pos}(h:EA X es m):EE X (.List es pos) (S4 m):=
 D7 (b9V h) fun σ H Q h0=>B6 h0 fun F ρ r he hm k=>by
  obtain⟨ps,e1,hm⟩:=bind_some hm
  split at hm
  ·rename_i c
   cases hm
   exact⟨F,ρ,ps,he,e1,fun vs F1 H1 x rl=>⟨by rw [rl.length];exact c,fun p hp=>k _ _ _ (B9.trans x (B9.lst x.fh hp rl))⟩⟩
  ·cases hm
def spP(K:AE)(n:Nat)(g:List PV->Option i7):Sp:=fun vs H Q _=>∃F ps r,r6 F H/\p8 K F ps vs/\ps.length=n/\g ps=some r/\∀v F' H',B9 K F H F' H' v r->Q v H'
def m3(g:List PV->Option i7)(m:MA):M:=fun ρ=>(m ρ).bind g
theorem b7a{k n:Nat}{f:AB}{fd:FuncData}{ps:List Str}{g:List PV->Option i7}{x:Str}{p pos:Pos}{e:AG}{es:List AG}{m:MA}
 (G:a0G X.prog X.w X.K X.mg X.base CX0 k f fd ps (spP X.K n g)) (hr:Y1 k X.A) (hg:Gl X x) (hm:X.mg x=some (.ref f)) (hk:PySem.W.keepIn X.K (.ref f)=true) (hb:a6h X.K fd ps []) (hn:∀ρ ps,m ρ=some ps->ps.length=n) (ha:EA X (e::es) m)
 (hdb:(x==("__debug__":Str))=false:=by decide) (he:AW (e::es) X.env=(false,eval e X.env)::AW es X.env:=by rfl) (hpl:(backTo pos (AW es X.env)).any (·.1)=false:=by rfl):
 EE X (.Call (.Name x p) (e::es) [] pos) (m3 g m):=
 D7 (a9Z G hr hg hm hk hb .nil b6e ha hdb he hpl) fun σ H Q h0=>B6 h0 fun F ρ r he hm k=>by
  obtain⟨qs,e1,hm⟩:=bind_some hm
  refine⟨F,ρ,qs,he,e1,fun vs F1 H1 x rl=> ?_⟩
  show spP X.K n g (vs++[]) H1 Q E0
  rw [Af]
  exact⟨F1,qs,r,x.fh,rl,hn _ _ e1,hm,fun v F2 H2 o=>k v F2 H2 (B9.trans x o)⟩
theorem j6:∀ρ ps,c7 ρ=some ps->ps.length=0:=fun _ _ h=>by cases h;rfl
theorem b6{m:M}{r:MA}{n:Nat}(h:∀ρ ps,r ρ=some ps->ps.length=n):∀ρ ps,a6 m r ρ=some ps->ps.length=n+1:=fun ρ ps e=>by
 obtain⟨p,e1,e⟩:=bind_some e
 obtain⟨qs,e3,e⟩:=bind_some e
 cases e
 rw [AR,h ρ qs e3]
end
mutual
def a1z(K:AE):Nat->AA->Option PV
 |0,_=>none
 |_+1,.none=>some .none
 |_+1,.bool b=>some (.bool b)
 |_+1,.int i _=>some (.int i)
 |_+1,.str x _=>some (.str x)
 |n+1,.ref a=>match K.lookup a with
  |some ⟨.type "tuple",_,.seq its _,_⟩=>if its.size<=1000 then(a3z K n its.toList).map .tuple else none
  |some ⟨.type "list",none,.seq its _,_⟩=>if its.size<=1000 then(a3z K n its.toList).map .list else none
  |_=>none
 |_+1,_=>none
def a3z(K:AE):Nat->List AA->Option (List PV)
 |0,_=>none
 |_+1,[]=>some []
 |n+1,u::us=>(a1z K n u).bind fun p=>(a3z K n us).bind fun ps=>some (p::ps)
end
theorem a7J{n:Nat}(h:n<=1000):n<=AM:=BD (b4E h)
theorem b0q(K:AE):∀(n:Nat),(∀(u:AA) (p:PV),a1z K n u=some p->∃v,y6 v u/\∀H,E7 K H p v)/\(∀(us:List AA) (ps:List PV),a3z K n us=some ps->∃vs,u9 vs us/\∀H,p8 K H ps vs):=by
 intro n
 induction n with
 |zero=>exact⟨fun u p h=>by simp [a1z] at h,fun u p h=>by simp [a3z] at h⟩
 |succ n ih=>
  constructor
  ·intro u p h
   cases u with
   |none=>simp only [a1z] at h;cases h;exact⟨.non,rfl,fun _=>rfl⟩
   |bool b=>simp only [a1z] at h;cases h;exact⟨.bl b,rfl,fun _=>rfl⟩
   |int i t=>simp only [a1z] at h;cases h;exact⟨.int i,⟨t,rfl⟩,fun _=>rfl⟩
   |str x t=>simp only [a1z] at h;cases h;exact⟨.str x,⟨t,rfl⟩,fun _=>rfl⟩
   |ref a=>
    simp only [a1z] at h
    split at h
    ·rename_i d its m sl e
     split at h
     ·rename_i c
      cases q:a3z K n its.toList with
      |none=>rw [q] at h;cases h
      |some ps=>
       rw [q] at h;cases h
       obtain⟨vs,h1,h2⟩:=ih.2 _ _ q
       exact⟨.ref a,rfl,fun H=>⟨a,vs,rfl,.inr ⟨_,its,m,e,rfl,rfl,a7J c,h1⟩,h2 H⟩⟩
     ·cases h
    ·rename_i its m sl e
     split at h
     ·rename_i c
      cases q:a3z K n its.toList with
      |none=>rw [q] at h;cases h
      |some ps=>
       rw [q] at h;cases h
       obtain⟨vs,h1,h2⟩:=ih.2 _ _ q
       exact⟨.ref a,rfl,fun H=>⟨a,vs,rfl,.inr ⟨_,its,m,e,rfl,rfl,rfl,a7J c,h1⟩,h2 H⟩⟩
     ·cases h
    ·cases h
   |_=>simp [a1z] at h
  ·intro us ps h
   cases us with
   |nil=>simp only [a3z] at h;cases h;exact⟨[],.nil,fun _=>rfl⟩
   |cons u us=>
    simp only [a3z] at h
    obtain⟨p,e1,h⟩:=bind_some h
    obtain⟨qs,e2,h⟩:=bind_some h
    cases h
    obtain⟨v,r1,r2⟩:=ih.1 _ _ e1
    obtain⟨vs,r3,r4⟩:=ih.2 _ _ e2
    exact⟨v::vs,.cons r1 r3,fun H=>⟨v,vs,rfl,r2 H,r4 H⟩⟩
section
variable {X:Cx}
theorem a51{x:Str}{u:AA}{p:PV}{pos:Pos}{n:Nat}(hg:Gl X x)(hm:X.mg x=some u)(ha:a1z X.K n u=some p)(hd:(x==("__debug__":Str))=false:=by decide):EE X (.Name x pos) (mC p):=by
 obtain⟨v,r,h⟩:=(b0q X.K n).1 u p ha
 exact a1S (b7Z hg hm r hd) h
def b3c:PV->Option m5
 | .int i=>some (.inl i)
 | .str x=>some (.inr x)
 |_=>none
theorem a8C{K:AE}{H:Hp}{p:PV}{k:m5}{v:V}(e:b3c p=some k)(r:E7 K H p v):v=kV k:=by
 cases p with
 |int i=>cases e;cases r;rfl
 |str x=>cases e;cases r;rfl
 |_=>cases e
def a5m:List DictEntry->Option (List (m5×AA))
 |[]=>some []
 |e::es=>match e.key with
  | .int i _=>(a5m es).map fun r=>(.inl i,e.val)::r
  | .str x _=>(a5m es).map fun r=>(.inr x,e.val)::r
  |_=>none
theorem a0e{P:AN}{w:AK}:∀{es:List DictEntry} {kvs:List (m5×AA)},a5m es=some kvs->es.map (·.hash)=kvs.map (fun kv=>b4f w kv.1)->Pairs (A0 P w) es kvs/\∀e∈es,∃k,(A0 P w).is k e.key=true/\e.hash=(A0 P w).hash k
 |[],_,h,_=>by cases h;exact⟨.nil,fun _ h=>nomatch h⟩
 |e::es,kvs,h,hh=>by
  simp only [a5m] at h
  split at h
  ·rename_i i t ek
   cases q:a5m es with
   |none=>rw [q] at h;cases h
   |some r=>
    rw [q] at h;cases h
    simp only [AI,List.cons.injEq] at hh
    obtain⟨h1,h2⟩:=a0e q hh.2
    have hi:(A0 P w).is (.inl i) e.key=true:=by rw [ek];exact a5v P w i t
    exact⟨.cons hi rfl h1,fun e' he=>(Ap.mp he).elim (fun z=>by subst z;exact⟨_,hi,hh.1⟩) (h2 e')⟩
  ·rename_i x t ek
   cases q:a5m es with
   |none=>rw [q] at h;cases h
   |some r=>
    rw [q] at h;cases h
    simp only [AI,List.cons.injEq] at hh
    obtain⟨h1,h2⟩:=a0e q hh.2
    have hi:(A0 P w).is (.inr x) e.key=true:=by rw [ek];exact a5w P w x t
    exact⟨.cons hi rfl h1,fun e' he=>(Ap.mp he).elim (fun z=>by subst z;exact⟨_,hi,hh.1⟩) (h2 e')⟩
  ·cases h
def a05{κ:Type}(K:AE)(n:Nat):List (κ×AA)->Option (List (κ×PV))
 |[]=>some []
 |(k,u)::r=>(a1z K n u).bind fun p=>(a05 K n r).bind fun t=>some ((k,p)::t)
def X0{κ:Type}[DecidableEq κ](tbl:List (κ×PV))(k:κ):Option PV:=match tbl with
 |[]=>none
 |(k',p)::r=>if k'=k then some p else X0 r k
theorem a8H{K:AE}{n:Nat}{k:m5}:∀{kvs:List (m5×AA)} {tbl:List (m5×PV)} {p:PV},a05 K n kvs=some tbl->X0 tbl k=some p->∃u,valueAt kvs k=some u/\a1z K n u=some p
 |[],_,_,h,e=>by cases h;cases e
 |(k',u)::r,tbl,p,h,e=>by
  simp only [a05] at h
  obtain⟨q,e1,h⟩:=bind_some h
  obtain⟨t,e2,h⟩:=bind_some h
  cases h
  simp only [X0] at e
  split at e
  ·rename_i c;cases e
   exact⟨u,by simp [valueAt,List.find?_cons,c],e1⟩
  ·rename_i c
   obtain⟨u',h1,h2⟩:=a8H e2 e
   refine⟨u', ?_,h2⟩
   simpa [valueAt,List.find?_cons,c] using h1
structure Tab(P:AN)(w:AK)(K:AE)(a:AB)(tbl:List (m5×PV)):Prop where
 ex:∃es ep kvs n,K.lookup a=some ⟨.type "dict",none,.dict es ep, #[]⟩/\a5m es.toList=some kvs/\es.toList.map (·.hash)=kvs.map (fun kv=>b4f w kv.1)/\a05 K n kvs=some tbl/\(kvs.map (·.1)).Nodup
def b9x(tbl:List (m5×PV))(m:M):M:=fun ρ=>(m ρ).bind fun r=>(b3c r.rd).bind fun k=>(X0 tbl k).map .val
theorem b9e{x:Str}{a:AB}{tbl:List (m5×PV)}{i:AG}{m:M}{p pos:Pos}(T:Tab X.prog X.w X.K a tbl)(hg:Gl X x)(hm:X.mg x=some (.ref a))(hi:EE X i m)(hd:(x==("__debug__":Str))=false:=by decide)(hs:b4N i:=by intro _ _;rfl):
 EE X (.Subscript (.Name x p) i pos) (b9x tbl m):=by
 intro pins s σ H Q I ⟨F,ρ,r,he,hm',k⟩
 obtain⟨es,ep,kvs,n,l1,l2,l3,l4,l5⟩:=T.ex
 obtain⟨ri,e1,hm'⟩:=bind_some hm'
 obtain⟨ky,e2,hm'⟩:=bind_some hm'
 cases e3:X0 tbl ky with
 |none=>rw [e3] at hm';cases hm'
 |some q=>
  rw [e3] at hm';cases hm'
  obtain⟨u,h1,h2⟩:=a8H l4 e3
  obtain⟨vv,r1,r2⟩:=(b0q X.K n).1 u q h2
  refine b3F PySem.F.slot_dict_getitem.lookup hs (a9E I hg hm ?_ hd)
  refine M7 (hi pins s σ H (fun y H2=>∃F2,Ext F H F2 H2/\y=kV ky) I ⟨F,ρ,ri,he,e1,fun v F1 H1 o1=>⟨F1,o1.x,a8C e2 (o1.rep.rd o1.x.fh)⟩⟩) fun iv s2 ⟨y,H2,I2,ry,F2,x2,ey⟩=> ?_
  subst ey
  have dd:s2.heap.DictOf (A0 X.prog X.w) a kvs:=⟨_,es,ep,I2.kIn a _ l1,⟨rfl,rfl,rfl⟩,rfl,fun e he=>(a0e l2 l3).2 e (by simpa using he),(a0e l2 l3).1,l5⟩
  exact⟨dd.typeIs,wpAny_getItem_of (a68 ry) dd.mapOf h1 ⟨vv,H2,I2.tok _,r1,k vv F2 H2 (B9.val x2 (r2 F2))⟩⟩
def keysOf:List PV->Option (List m5)
 |[]=>some []
 |p::ps=>(b3c p).bind fun k=>(keysOf ps).bind fun ks=>some (k::ks)
theorem Z2{K:AE}{H:Hp}:∀{ps:List PV} {ks:List m5} {vs:List V},keysOf ps=some ks->p8 K H ps vs->vs=ks.map kV
 |[],_,_,h,r=>by cases h;cases r;rfl
 |p::ps,_,_,h,⟨v,t,e,rp,rl⟩=>by
  obtain⟨k,e1,h⟩:=bind_some h
  obtain⟨ks,e2,h⟩:=bind_some h
  cases h
  subst e
  rw [a8C e1 rp,Z2 e2 rl]
  rfl
end
section
variable {X:Cx}
abbrev MT:=c6->Option Bool
def tMT(K:AE)(c:MT):TT:=fun σ H Q=>∃F ρ b,J0 K F H σ ρ/\c ρ=some b/\∀F' H',Ext F H F' H'->Q b H'
abbrev ET(X:Cx)(e:AG)(c:MT):Prop:=PT X e (tMT X.K c)
abbrev EW(X:Cx)(e:AG)(c:MT):Prop:=PW X e (tMT X.K c)
def a96:i7->Option Bool
 | .val (.bool b)=>some b
 |_=>none
def tru(r:i7):Option Bool:=match r.rd with
 | .none=>some false
 | .bool b=>some b
 | .int i=>some (i !=0)
 | .str z=>if z.length<=AM then some ((z.length:Int) !=0) else none
 | .list ps=>some (!ps.isEmpty)
 | .tuple ps=>some (!ps.isEmpty)
 | .dict _=>none
def mtV(m:M):MT:=fun ρ=>(m ρ).bind tru
def N9(m:M):MT:=fun ρ=>(m ρ).bind a96
theorem p8.empty{K:AE}{H:Hp}{ps:List PV}{vs:List V}(r:p8 K H ps vs):vs.isEmpty=ps.isEmpty:=by
 cases ps with
 |nil=>cases r;rfl
 |cons p ps=>obtain⟨_,_,e,_⟩:=r;subst e;rfl
theorem b8r{H:Hp}{r:i7}{v:V}{b:Bool}(h:E7 X.K H r.rd v)(e:tru r=some b):b83 X.K v H b:=by
 unfold tru at e
 cases hp:r.rd with
 |none=>rw [hp] at h e;cases h;cases e;exact rfl
 |bool k=>rw [hp] at h e;cases h;cases e;exact rfl
 |int i=>rw [hp] at h e;cases h;cases e;exact rfl
 |str z=>
  rw [hp] at h e;cases h
  dsimp only at e
  split at e
  ·rename_i c;cases e;exact⟨c,rfl⟩
  ·cases e
 |list ps=>rw [hp] at h e;obtain⟨a,xs,rfl,hq,rl⟩:=h;cases e;exact .inl ⟨xs,hq,by rw [rl.empty]⟩
 |tuple ps=>rw [hp] at h e;obtain⟨a,xs,rfl,hq,rl⟩:=h;cases e;exact .inr (.inl ⟨xs,hq.sq,by rw [rl.empty]⟩)
 |dict _=>rw [hp] at e;cases e
theorem Y7{e:AG}{m:M}(h:EE X e m)(he:∀whole,isTrue e X.env whole=(do let v<-whole;standAt e.pos;holding [v] (truthy v)):=by intro _;rfl):ET X e (mtV m):=
 a3j (b6r h he) fun σ H Q h0=>B6 h0 fun F ρ b h1 h2 k=>by
  obtain⟨r,e1,e2⟩:=bind_some h2
  exact⟨F,ρ,r,h1,e1,fun v F1 H1 o=>⟨b,b8r (o.rep.rd o.x.fh) e2,k F1 H1 o.x⟩⟩
theorem a33{K:AE}{F H:Hp}{r:i7}{v:V}{b:Bool}(h:S7 K F H v r)(e:a96 r=some b):v= .bl b:=by
 unfold a96 at e
 split at e
 ·cases e;exact h
 ·cases e
theorem v5{a b:AG}{ma mb:M}{pos:Pos}{op:CmpOp}{g:i7->i7->Option i7}(ho:OpM X (compareOp op) g)(ha:EE X a ma)(hb:EE X b mb)(hm:behindInMarks op b=false):ET X (.Compare a [op] [b] pos) (N9 (m2 g ma mb)):=
 a3j (b77 ho ha hb hm) fun σ H Q h0=>B6 h0 fun F ρ k h1 h2 q=>by
  obtain⟨r,e1,e2⟩:=bind_some h2
  exact b0a ⟨F,ρ,r,h1,e1,fun v F1 H1 o=>⟨k,a33 o.rep e2,q F1 H1 o.x⟩⟩
def X1(c:MT):MT:=fun ρ=>(c ρ).map not
theorem a3b{a:AG}{c:MT}{pos:Pos}(ha:ET X a c):ET X (.UnaryOp .Not a pos) (X1 c):=
 a3j (b92 ha) fun σ H Q h0=>B6 h0 fun F ρ k h1 h2 q=>by
  unfold X1 at h2
  cases e:c ρ with
  |none=>rw [e] at h2;cases h2
  |some b=>rw [e] at h2;cases h2;exact⟨F,ρ,b,h1,e,q⟩
def a5x(c d:MT):MT:=fun ρ=>(c ρ).bind fun b=>if b=true then d ρ else some false
def a5R(c d:MT):MT:=fun ρ=>(c ρ).bind fun b=>if b=true then some true else d ρ
theorem a9s{a:AG}{c:MT}{pos:Pos}(ha:ET X a c):EW X (.BoolOp .And [a] pos) c:=b78 ha
theorem b1U{a:AG}{c:MT}{pos:Pos}(ha:ET X a c):EW X (.BoolOp .Or [a] pos) c:=b94 ha
theorem b1T{a b:AG}{rest:List AG}{c d:MT}{pos:Pos}(ha:ET X a c)(hb:EW X (.BoolOp .And (b::rest) pos) d):EW X (.BoolOp .And (a::b::rest) pos) (a5x c d):=
 b6t (b93 ha hb) fun σ H Q h0=>B6 h0 fun F ρ k h1 h2 q=>by
  obtain⟨b,e1,e2⟩:=bind_some h2
  refine⟨F,ρ,b,h1,e1,fun F1 H1 x=> ?_⟩
  cases b with
  |true=>exact b0S ⟨F1,ρ,k,h1.ext x,e2,fun F2 H2 y=>q F2 H2 (x.trans y)⟩
  |false=>cases e2;exact a9A (q F1 H1 x)
theorem b22{a b:AG}{rest:List AG}{c d:MT}{pos:Pos}(ha:ET X a c)(hb:EW X (.BoolOp .Or (b::rest) pos) d):EW X (.BoolOp .Or (a::b::rest) pos) (a5R c d):=
 b6t (c04 ha hb) fun σ H Q h0=>B6 h0 fun F ρ k h1 h2 q=>by
  obtain⟨b,e1,e2⟩:=bind_some h2
  refine⟨F,ρ,b,h1,e1,fun F1 H1 x=> ?_⟩
  cases b with
  |false=>exact a9A ⟨F1,ρ,k,h1.ext x,e2,fun F2 H2 y=>q F2 H2 (x.trans y)⟩
  |true=>cases e2;exact b0S (q F1 H1 x)
def b9w(m n:M):M:=fun ρ=>(m ρ).bind fun r=>(a96 r).bind fun b=>if b=true then n ρ else some (.val (.bool false))
def mOr(m n:M):M:=fun ρ=>(m ρ).bind fun r=>(a96 r).bind fun b=>if b=true then some (.val (.bool true)) else n ρ
theorem b5l{op:BoolOp}{a:AG}{m:M}{pos:Pos}(h:EE X a m):EE X (.BoolOp op [a] pos) m:=b9X h
theorem b9d{a b:AG}{rest:List AG}{m n:M}{pos:Pos}(ha:EE X a m)(hb:EE X (.BoolOp .And (b::rest) pos) n):EE X (.BoolOp .And (a::b::rest) pos) (b9w m n):=
 D7 (b9T ha hb) fun σ H Q h0=>B6 h0 fun F ρ r h1 h2 q=>by
  obtain⟨r1,e1,h2⟩:=bind_some h2
  obtain⟨b,e2,h2⟩:=bind_some h2
  refine⟨F,ρ,r1,h1,e1,fun v F1 H1 o=>⟨b,a33 o.rep e2, ?_⟩⟩
  cases b with
  |true=>exact b0S ⟨F1,ρ,r,h1.ext o.x,h2,fun w F2 H2 y=>q w F2 H2 (B9.trans o.x y)⟩
  |false=>cases h2;exact a9A (q _ F1 H1 (B9.val o.x rfl))
theorem c0z{a b:AG}{rest:List AG}{m n:M}{pos:Pos}(ha:EE X a m)(hb:EE X (.BoolOp .Or (b::rest) pos) n):EE X (.BoolOp .Or (a::b::rest) pos) (mOr m n):=
 D7 (c01 ha hb) fun σ H Q h0=>B6 h0 fun F ρ r h1 h2 q=>by
  obtain⟨r1,e1,h2⟩:=bind_some h2
  obtain⟨b,e2,h2⟩:=bind_some h2
  refine⟨F,ρ,r1,h1,e1,fun v F1 H1 o=>⟨b,a33 o.rep e2, ?_⟩⟩
  cases b with
  |false=>exact a9A ⟨F1,ρ,r,h1.ext o.x,h2,fun w F2 H2 y=>q w F2 H2 (B9.trans o.x y)⟩
  |true=>cases h2;exact b0S (q _ F1 H1 (B9.val o.x rfl))
end
inductive Fl where
 |nx (ρ:c6)|rt (r:i7)|bk (ρ:c6)|ct (ρ:c6)
abbrev MS:=c6->Option Fl
structure SOk(K:AE)(F0 H0 F H:Hp)(σ:L2.St)(ρ:c6):Prop where
 x:Ext F0 H0 F H
 e:J0 K F H σ ρ
 nw:∀(i:Nat) (c:X2) (a:AB),ρ[i]?=some (some (.ow c))->σ[i]?=some (some (.ref a))->H0 a=none
def Fin(K:AE)(F0 H0 F:Hp)(D:a4n):Fl->Prop
 | .nx ρ=>∀σ' F' H',r6 F F'->SOk K F0 H0 F' H' σ' ρ->D.nx σ' H'
 | .rt r=>∀v F' H',B9 K F0 H0 F' H' v r->D.rt v H'
 | .bk ρ=>∀σ' F' H',r6 F F'->SOk K F0 H0 F' H' σ' ρ->D.bk σ' H'
 | .ct ρ=>∀σ' F' H',r6 F F'->SOk K F0 H0 F' H' σ' ρ->D.ct σ' H'
theorem Fin.later{K:AE}{F0 H0 F F1:Hp}{D:a4n}(s:r6 F F1):∀{fl:Fl},Fin K F0 H0 F D fl->Fin K F0 H0 F1 D fl
 | .nx _,h=>fun σ' F' H' s' so=>h σ' F' H' (s.trans s') so
 | .rt _,h=>h
 | .bk _,h=>fun σ' F' H' s' so=>h σ' F' H' (s.trans s') so
 | .ct _,h=>fun σ' F' H' s' so=>h σ' F' H' (s.trans s') so
def tMS(K:AE)(m:MS):TS:=fun D σ H=>∃F0 H0 F ρ fl,SOk K F0 H0 F H σ ρ/\m ρ=some fl/\Fin K F0 H0 F D fl
theorem M6{K:AE}{m:MS}{D:a4n}{σ:L2.St}{H:Hp}{C:Prop}(h:tMS K m D σ H)(k:∀F0 H0 F ρ fl,SOk K F0 H0 F H σ ρ->m ρ=some fl->Fin K F0 H0 F D fl->C):C:=
 h.elim fun a h=>h.elim fun b h=>B6 h (k a b)
abbrev ES(X:Cx)(st:Stmt)(m:MS):Prop:=PS X st (tMS X.K m)
abbrev ESs(X:Cx)(st:List Stmt)(m:MS):Prop:=PSs X st (tMS X.K m)
theorem SOk.ext{K:AE}{F0 H0 F H F' H':Hp}{σ:L2.St}{ρ:c6}(s:SOk K F0 H0 F H σ ρ)(x:Ext F H F' H'):SOk K F0 H0 F' H' σ ρ:=⟨s.x.trans x,s.e.ext x,s.nw⟩
def i7.nb:i7->Bool
 | .bo _=>false
 |_=>true
theorem SOk.set{K:AE}{F0 H0 F H F' H':Hp}{σ:L2.St}{ρ:c6}{v:V}{r:i7}(s:SOk K F0 H0 F H σ ρ)(o:B9 K F H F' H' v r)(hb:r.nb=true)(i:Nat):SOk K F0 H0 F' H' (σ.set i (some v)) (ρ.set i (some r)):=by
 have s1:=s.ext o.x
 have le:=s.e.len
 refine⟨s1.x,⟨s1.e.fh,by simp [le],fun j q e=> ?_,fun j ps e=> ?_,fun j k ps qs a hjk e1 e2 e3 e4=> ?_⟩,fun j ps a e1 e2=> ?_⟩
 ·rw [List.getElem?_set] at e ⊢
  by_cases hij:i=j
  ·subst hij
   rw [if_pos rfl] at e ⊢
   rw [le]
   split at e
   ·rename_i c;cases e;rw [if_pos c];exact⟨v,rfl,o.rep⟩
   ·cases e
  ·rw [if_neg hij] at e ⊢
   exact s1.e.at_ j q e
 ·rw [List.getElem?_set] at e
  by_cases hij:i=j
  ·subst hij
   rw [if_pos rfl] at e
   split at e
   ·cases e;cases hb
   ·cases e
  ·rw [if_neg hij] at e
   exact s1.e.nb j ps e
 ·rw [List.getElem?_set] at e1 e2 e3 e4
  by_cases hij:i=j
  ·subst hij
   rw [if_pos rfl] at e1 e3
   rw [if_neg hjk] at e2 e4
   split at e1
   ·cases e1
    split at e3
    ·cases e3
     have fr:=o.fr ps a rfl rfl
     obtain⟨w,h1,rr⟩:=s.e.at_ k _ e2
     obtain⟨a',xs,h2,_,h3⟩:=Z9.at_ rr
     rw [e4] at h1;cases h1
     cases h2
     rw [fr] at h3;cases h3
    ·cases e3
   ·cases e1
  ·rw [if_neg hij] at e1 e3
   by_cases hik:i=k
   ·subst hik
    rw [if_pos rfl] at e2 e4
    split at e2
    ·cases e2
     split at e4
     ·cases e4
      have fr:=o.fr qs a rfl rfl
      obtain⟨w,h1,rr⟩:=s.e.at_ j _ e1
      obtain⟨a',xs,h2,_,h3⟩:=Z9.at_ rr
      rw [e3] at h1;cases h1
      cases h2
      rw [fr] at h3;cases h3
     ·cases e4
    ·cases e2
   ·rw [if_neg hik] at e2 e4
    exact s1.e.ap j k ps qs a hjk e1 e2 e3 e4
 ·rw [List.getElem?_set] at e1 e2
  by_cases hij:i=j
  ·subst hij
   rw [if_pos rfl] at e1 e2
   split at e1
   ·cases e1
    split at e2
    ·cases e2;exact s.x.h.free (o.fr ps a rfl rfl)
    ·cases e2
   ·cases e1
  ·rw [if_neg hij] at e1 e2
   exact s.nw j ps a e1 e2
section
variable {X:Cx}
def A3:MS:=fun ρ=>some (.nx ρ)
def m8(m n:MS):MS:=fun ρ=>(m ρ).bind fun fl=>match fl with
 | .nx ρ'=>n ρ'
 |f=>some f
theorem v4:ESs X [] A3:=a91 a92 fun D σ H h0=>M6 h0 fun F0 H0 F ρ fl so e fin=>by
 cases e
 exact fin σ F H (PU.r6.refl F) so
theorem c9{st:Stmt}{rest:List Stmt}{m n:MS}(h1:ES X st m)(h2:ESs X rest n):ESs X (st::rest) (m8 m n):=
 a91 (Z7 h1 h2) fun D σ H h0=>M6 h0 fun F0 H0 F ρ fl so e fin=>by
  obtain⟨f1,e1,e⟩:=bind_some e
  cases f1 with
  |nx ρ'=>exact⟨F0,H0,F,ρ,.nx ρ',so,e1,fun σ' F' H' s so'=>⟨F0,H0,F',ρ',fl,so',e,fin.later s⟩⟩
  |rt r=>cases e;exact⟨F0,H0,F,ρ,_,so,e1,fin⟩
  |bk r=>cases e;exact⟨F0,H0,F,ρ,_,so,e1,fin⟩
  |ct r=>cases e;exact⟨F0,H0,F,ρ,_,so,e1,fin⟩
theorem f9{st:Stmt}{m:MS}(h1:ES X st m):ESs X [st] m:=b76 h1
def z5(i:Nat)(m:M):MS:=fun ρ=>(m ρ).bind fun r=>if r.nb=true then some (.nx (ρ.set i (some r))) else none
theorem m7{i:Nat}{x:Str}{e:AG}{m:M}{pos pos':Pos}(hN:X.N.Nodup)(he:EE X e m)(hi:X.N[i]?=some x:=by rfl)(hx:Loc X.env.scope x:=by exact Or.inl rfl)(hs:swapsWith e (some (.Name x pos')) pos.line X.env=pure false:=by rfl)(hf:X.fn x=true\/X.env.scope.names.lookup x=some .local:=by first|exact .inl rfl|exact .inr rfl|assumption):
 ES X (.Assign [.Name x pos'] e pos) (z5 i m):=
 S5 (a90 hN hi hx he hs hf) fun D σ H h0=>M6 h0 fun F0 H0 F ρ fl so e fin=>by
  obtain⟨r,e1,e⟩:=bind_some e
  split at e
  ·rename_i c
   cases e
   exact⟨F,ρ,r,so.e,e1,fun v F' H' o=>fin _ F' H' o.x.f (so.set o c i)⟩
  ·cases e
def v7(m:M):MS:=fun ρ=>(m ρ).bind fun r=>if r.nb=true then some (.rt r) else none
theorem l0{e:AG}{m:M}{pos:Pos}(he:EE X e m):ES X (.Return (some e) pos) (v7 m):=
 S5 (b6p he) fun D σ H h0=>M6 h0 fun F0 H0 F ρ fl so e fin=>by
  obtain⟨r,e1,e⟩:=bind_some e
  split at e
  ·rename_i c
   cases e
   exact⟨F,ρ,r,so.e,e1,fun v F' H' o=>fin v F' H' (B9.trans so.x o)⟩
  ·cases e
def a0X(i:Nat):MS:=fun ρ=>match ρ[i]? with
 |some (some r)=>some (.rt r)
 |_=>none
theorem a0f(i:Nat){x:Str}{p pos:Pos}(h:PE X (.Name x p) (U5 i)):ES X (.Return (some (.Name x p)) pos) (a0X i):=
 S5 (b6p h) fun D σ H h0=>M6 h0 fun F0 H0 F ρ fl so e fin=>by
  unfold a0X at e
  split at e
  ·rename_i r er
   cases e
   obtain⟨v,e1,rr⟩:=so.e.at_ i _ er
   exact⟨v,e1,fin v F H ⟨so.x,rr,fun ps a z1 z2=>by subst z1;subst z2;exact so.nw i ps a er e1⟩⟩
  ·cases e
def G8(c:MT)(m n:MS):MS:=fun ρ=>(c ρ).bind fun b=>if b=true then m ρ else n ρ
theorem A8{c:AG}{a b:List Stmt}{mc:MT}{m n:MS}{pos:Pos}(hc:ET X c mc)(ha:ESs X a m)(hb:ESs X b n):ES X (.If c a b pos) (G8 mc m n):=
 S5 (b6o hc ha hb) fun D σ H h0=>M6 h0 fun F0 H0 F ρ fl so e fin=>by
  obtain⟨b,e1,e⟩:=bind_some e
  refine⟨F,ρ,b,so.e,e1,fun F1 H1 x=> ?_⟩
  cases b with
  |true=>exact b0S ⟨F0,H0,F1,ρ,fl,so.ext x,e,fin.later x.f⟩
  |false=>exact a9A ⟨F0,H0,F1,ρ,fl,so.ext x,e,fin.later x.f⟩
def setAll{α:Type}:List (Option α)->List Nat->List α->List (Option α)
 |σ,i::is,x::xs=>setAll (σ.set i (some x)) is xs
 |σ,_,_=>σ
def b1Z:List Nat->TGs
 |[]=>c0F
 |i::is=>b8M (a62 i) (b1Z is)
theorem a8v:∀{is:List Nat} {xs:List V} {σ:L2.St} {H:Hp} {Q:L2.St->Hp->Prop},xs.length=is.length->Q (setAll σ is xs) H->b1Z is xs σ H Q
 |[],[],_,_,_,_,q=>⟨rfl,q⟩
 |[],_::_,_,_,_,h,_=>by cases h
 |_::_,[],_,_,_,h,_=>by cases h
 |i::is,x::xs,σ,H,Q,h,q=>⟨x,xs,rfl,a8v (is:=is) (xs:=xs) (by simpa using h) q⟩
theorem SOk.setAll{K:AE}{F0 H0 F H:Hp}:∀{is:List Nat} {xs:List V} {ps:List PV} {σ:L2.St} {ρ:c6},SOk K F0 H0 F H σ ρ->p8 K F ps xs->SOk K F0 H0 F H (PU.setAll σ is xs) (PU.setAll ρ is (ps.map .val))
 |[],xs,ps,σ,ρ,s,r=>by
  have e1:PU.setAll σ [] xs=σ:=by cases xs<;>rfl
  have e2:PU.setAll ρ [] (ps.map i7.val)=ρ:=by cases ps<;>rfl
  rw [e1,e2];exact s
 |i::is,xs,[],σ,ρ,s,r=>by cases r;exact s
 |i::is,xs,p::ps,σ,ρ,s,⟨v,t,e,rp,rl⟩=>by
  subst e
  exact SOk.setAll (is:=is) (s.set (B9.here s.e.fh rp) rfl i) rl
def b2c(is:List Nat)(m:M):MS:=fun ρ=>(m ρ).bind fun r=>match r with
 | .val (.tuple ps)=>if ps.length=is.length then some (.nx (setAll ρ is (ps.map .val))) else none
 |_=>none
theorem a6Q{is:List Nat}{es:List AG}{k:Nat}{e:AG}{m:M}{pos tpos:Pos}(hc:X.calm=true)(he:EE X e m)(hg:PGs X es (b1Z is))
 (hn:(assignEach es X.env).length=is.length:=by rfl) (hst:(assignEach es X.env).findIdx? (·.1)=none:=by rfl)
 (hs:swapsWithSole [.Tuple es k tpos] e pos.line X.env=pure false:=by rfl) (hw:swappedStores [.Tuple es k tpos] e X.env=pure none:=by rfl)
 (h1:(assignEach [.Tuple es k tpos] X.env).map (·.2)=[assign (.Tuple es k tpos) X.env]:=by rfl):ES X (.Assign [.Tuple es k tpos] e pos) (b2c is m):=
 S5 (b91 he (b9Z hc hg hn hst) hs hw h1) fun D σ H h0=>M6 h0 fun F0 H0 F ρ fl so e fin=>by
  obtain⟨r,e1,e⟩:=bind_some e
  split at e
  ·rename_i ps
   split at e
   ·rename_i c
    cases e
    refine⟨F,ρ,_,so.e,e1,fun v F' H' o=> ?_⟩
    obtain⟨a,xs,rfl,hq,rl⟩:=o.rep
    have hl:xs.length=is.length:=by rw [rl.length];exact c
    exact⟨a,xs,rfl,A9 o.x.fh hq.sq,hl,a8v hl (fin _ F' H' o.x.f ((so.ext o.x).setAll rl))⟩
   ·cases e
  ·cases e
def B2(body:MS)(tg:PV->c6->Option c6):List PV->c6->Option Fl
 |[],ρ=>some (.nx ρ)
 |p::ps,ρ=>(tg p ρ).bind fun ρ1=>(body ρ1).bind fun fl=>match fl with
  | .nx ρ'=>B2 body tg ps ρ'
  | .ct ρ'=>B2 body tg ps ρ'
  | .bk ρ'=>some (.nx ρ')
  | .rt r=>some (.rt r)
def g5(i:Nat):PV->c6->Option c6:=fun p ρ=>some (ρ.set i (some (.val p)))
def b6X(K:AE)(g:TG)(tg:PV->c6->Option c6):Prop:=
 ∀F0 H0 F H σ ρ ρ1 p x (Q:L2.St->Hp->Prop),SOk K F0 H0 F H σ ρ->E7 K F p x->tg p ρ=some ρ1->(∀σ',SOk K F0 H0 F H σ' ρ1->Q σ' H)->g x σ H Q
theorem o9{K:AE}(i:Nat):b6X K (a62 i) (g5 i):=fun F0 H0 F H σ ρ ρ1 p x Q so r e k=>by
 cases e
 exact k _ (so.set (B9.here so.e.fh r) rfl i)
theorem b35{body:MS}{tg:PV->c6->Option c6}{ps:List PV}{p:PV}{ρ:c6}{fl:Fl}(h:B2 body tg (p::ps) ρ=some fl):∃ρ1 f1,tg p ρ=some ρ1/\body ρ1=some f1/\(match f1 with
 | .nx ρ'=>B2 body tg ps ρ'
 | .ct ρ'=>B2 body tg ps ρ'
 | .bk ρ'=>some (.nx ρ')
 | .rt r=>some (.rt r))=some fl:=by
 unfold B2 at h
 obtain⟨ρ1,e1,h⟩:=bind_some h
 obtain⟨f1,e2,h⟩:=bind_some h
 exact⟨ρ1,f1,e1,e2,h⟩
def PvL(K:AE)(F0 H0 F1:Hp)(body:MS)(tg:PV->c6->Option c6)(ps:List PV)(fl:Fl)(k:Nat)(σ:L2.St)(H:Hp):Prop:=
 ∃F ρ,r6 F1 F/\SOk K F0 H0 F H σ ρ/\B2 body tg (ps.drop k) ρ=some fl
theorem a4L{K:AE}{F0 H0 F1:Hp}{body:MS}{tg:PV->c6->Option c6}{g:TG}{ps:List PV}{fl:Fl}{D:a4n}{k:Nat}{p:PV}{x:V}{σ:L2.St}{H:Hp}(T:b6X K g tg)(fin:Fin K F0 H0 F1 D fl)(ep:ps[k]?=some p)
 (hp:PvL K F0 H0 F1 body tg ps fl k σ H) (rx:∀F,r6 F1 F->E7 K F p x):
 g x σ H fun σ2 H2=>tMS K body {D with nx:=PvL K F0 H0 F1 body tg ps fl (k+1),ct:=PvL K F0 H0 F1 body tg ps fl (k+1),bk:=D.nx} σ2 H2:=by
 obtain⟨F,ρ,s,so,e⟩:=hp
 have hk:k<ps.length:=(At.mp ep).1
 have hd:ps.drop k=p::ps.drop (k+1):=by
  rw [List.drop_eq_getElem_cons hk]
  congr 1
  exact(At.mp ep).2
 rw [hd] at e
 obtain⟨ρ1,f1,e1,e2,e3⟩:=b35 e
 refine T F0 H0 F H σ ρ ρ1 p x _ so (rx F s) e1 fun σ' so'=>⟨F0,H0,F,ρ1,f1,so',e2, ?_⟩
 cases f1 with
 |nx ρ'=>exact fun σ2 F2 H2 s2 so2=>⟨F2,ρ',s.trans s2,so2,e3⟩
 |ct ρ'=>exact fun σ2 F2 H2 s2 so2=>⟨F2,ρ',s.trans s2,so2,e3⟩
 |bk ρ'=>cases e3;exact fun σ2 F2 H2 s2 so2=>fin σ2 F2 H2 (s.trans s2) so2
 |rt r=>cases e3;exact fin
theorem a7e{K:AE}{F0 H0 F1:Hp}{body:MS}{tg:PV->c6->Option c6}{ps:List PV}{fl:Fl}{D:a4n}{σ:L2.St}{H:Hp}(fin:Fin K F0 H0 F1 D fl)
 (hp:PvL K F0 H0 F1 body tg ps fl ps.length σ H):D.nx σ H:=by
 obtain⟨F,ρ,s,so,e⟩:=hp
 rw [List.drop_length] at e
 cases e
 exact fin σ F H s so
abbrev MI:=c6->Option (List PV)
def S3(m:M):MI:=fun ρ=>((m ρ).bind i7.toVal).bind PyData.items?
def c1v(K:AE)(tl:TE):TI:=fun σ H R=>tl σ H fun x H1=>∃a,x= .ref a/\(((∃xs,V2 K H1 a xs)/\R (Itl K a) H1)\/((∃xs,SqT K H1 a xs)/\R (Itt K a) H1))
theorem b6k{tg l:AG}{tl:TE}(hl:PE X l tl):PI X tg l (c1v X.K tl):=by
 intro pins s σ H R I h
 refine M7 (hl pins s σ H _ I h) fun v s1 h0=>u3 h0 fun x H1 I1 r1 q1=> ?_
 obtain⟨a,e,q⟩:=q1
 subst e
 cases r1
 rcases q with⟨⟨xs,hq⟩,q⟩|⟨⟨xs,hq⟩,q⟩
 ·obtain⟨its,rv,p,hz⟩:=I1.list hq
  refine wpAny_pyIter_list p.isList ?_
  refine⟨s1.heap.objs.size,[s1.heap.objs.size],_,_,H1,rfl,I1.kept (t':=s1.toks) fun b o e=>An _ e,b4F a _,⟨_,As _ rfl,rfl,rfl⟩,fun b hb=> ?_,q⟩
  have e:b=s1.heap.objs.size:=by simpa using hb
  subst e
  exact I1.fpOk (Aa _) (I1.hok.fresh (Aa _))
 ·obtain⟨its,rv,p,hz⟩:=I1.tuple hq
  refine wpAny_pyIter_tuple (show s1.heap.IsTuple a its.toArray from p) ?_
  refine⟨s1.heap.objs.size,[s1.heap.objs.size],_,_,H1,rfl,I1.kept (t':=s1.toks) fun b o e=>An _ e,b2C a _,⟨_,As _ rfl,rfl,rfl⟩,fun b hb=> ?_,q⟩
  have e:b=s1.heap.objs.size:=by simpa using hb
  subst e
  exact I1.fpOk (Aa _) (I1.hok.fresh (Aa _))
def N8(it:MI)(tg:PV->c6->Option c6)(body:MS):MS:=fun ρ=>(it ρ).bind fun ps=>B2 body tg ps ρ
theorem Y6{tg iter:AG}{body:List Stmt}{m:M}{g:TG}{t:PV->c6->Option c6}{b:MS}{pos:Pos}(hp:PassesOwn (model X.prog X.w) X.A X.env X.xe)(hc:X.calm=true)(hi:EE X iter m)(hg:PG X tg g)(T:b6X X.K g t)(hb:ESs X body b)
 (hs:∀x,foldedSetIterable iter X.env x=pure x:=by intro _;rfl):ES X (.For tg iter body [] pos) (N8 (S3 m) t b):=
 S5 (b6n hp hc (b6k hi) hg hb hs) fun D σ H h0=>M6 h0 fun F0 H0 F ρ fl so e fin=>by
  obtain⟨ps,e1,e⟩:=bind_some e
  obtain⟨q,e1,e2⟩:=bind_some e1
  obtain⟨r,e1,e3⟩:=bind_some e1
  refine⟨F,ρ,r,so.e,e1,fun v F' H' o=> ?_⟩
  obtain⟨F1,o1⟩:=o.toVal e3
  have fin1:=fin.later o1.x.f
  have so1:=so.ext o1.x
  obtain⟨a,xs,rfl,hq,rl⟩:=T8 (F:=F1) (H:=F1) (PU.r6.refl F1) (show S7 X.K F1 F1 v (.val q) from o1.rep) e2
  have hlen:=rl.length
  have get:∀k x,xs[k]?=some x->∃p,ps[k]?=some p/\∀F,r6 F1 F->E7 X.K F p x:=fun k x ex=>by
   obtain⟨p,ep,rp⟩:=rl.getV ex
   exact⟨p,ep,fun F s=>E7.mono s _ rp⟩
  rcases hq with hq|hq
  ·refine⟨a,rfl,.inl ⟨⟨xs,O4 o1.x.fh hq⟩,b5q (K:=X.K) (a:=a) (xs:=xs) (PvL X.K F0 H0 F1 b t ps fl) ⟨F1,ρ,PU.r6.refl F1,so1,e⟩ (fun k σ H _ ⟨F,_,s,so2,_⟩=>O4 (s.trans so2.e.fh) hq) (fun k x σ H ex hp=> ?_) (fun σ H hp=> ?_)⟩⟩
   ·obtain⟨p,ep,rp⟩:=get k x ex
    exact a4L T fin1 ep hp rp
   ·rw [hlen] at hp
    exact a7e fin1 hp
  ·refine⟨a,rfl,.inr ⟨⟨xs,A9 o1.x.fh hq⟩,b7i (K:=X.K) (a:=a) (xs:=xs) (PvL X.K F0 H0 F1 b t ps fl) ⟨F1,ρ,PU.r6.refl F1,so1,e⟩ (fun k σ H _ ⟨F,_,s,so2,_⟩=>A9 (s.trans so2.e.fh) hq) (fun k x σ H ex hp=> ?_) (fun σ H hp=> ?_)⟩⟩
   ·obtain⟨p,ep,rp⟩:=get k x ex
    exact a4L T fin1 ep hp rp
   ·rw [hlen] at hp
    exact a7e fin1 hp
def P5(lo hi:Int):List PV:=(AL (hi - lo).toNat).map fun k=> .int (lo+(k:Nat))
theorem b5I:∃f:Int->Bool,∀j,f j=decide (-(2 ^ 62)<=j/\j<2 ^ 62):=⟨_,fun _=>rfl⟩
def inR:Int->Bool:=b5I.choose
theorem b9m(j:Int):inR j=decide (-(2 ^ 62)<=j/\j<2 ^ 62):=b5I.choose_spec j
theorem a9z{j:Int}:inR j=true↔(-(2 ^ 62)<=j/\j<2 ^ 62):=by rw [b9m,decide_eq_true_iff]
def L0(m:MA):MI:=fun ρ=>(m ρ).bind fun ps=>match ps with
 |[.int j]=>if inR j=true then some (P5 0 j) else none
 |_=>none
theorem a7z{lo hi:Int}{k:Nat}(h:k<(hi - lo).toNat):(P5 lo hi)[k]?=some (.int (lo+k)):=by
 simp [P5,h]
theorem G9(lo hi:Int):(P5 lo hi).length=(hi - lo).toNat:=by simp [P5]
theorem B5{tg a:AG}{body:List Stmt}{m:MA}{g:TG}{t:PV->c6->Option c6}{b:MS}{p rp pos:Pos}(hp:PassesOwn (model X.prog X.w) X.A X.env X.xe)(hc:X.calm=true)(hgl:Gl X "range")(hm:X.mg "range"=none)(ha:EA X [a] m)(hg:PG X tg g)(T:b6X X.K g t)(hb:ESs X body b)
 (hst:AW [a] X.env=[(false,eval a X.env)]:=by rfl) (hs:∀x,foldedSetIterable (.Call (.Name "range" p) [a] [] rp) X.env x=pure x:=by intro _;rfl):ES X (.For tg (.Call (.Name "range" p) [a] [] rp) body [] pos) (N8 (L0 m) t b):=
 S5 (b6n hp hc (a8Q hgl hm ha hst) hg hb hs) fun D σ H h0=>M6 h0 fun F0 H0 F ρ fl so e fin=>by
  obtain⟨ps,e1,e⟩:=bind_some e
  obtain⟨qs,e1,e2⟩:=bind_some e1
  refine⟨F,ρ,qs,so.e,e1,fun vs F1 H1 x rl=> ?_⟩
  split at e2
  ·rename_i j
   split at e2
   ·rename_i c
    have c:=a9z.mp c
    cases e2
    obtain⟨v,r,rfl,rv,rr⟩:=rl
    cases rv
    cases rr
    have fin1:=fin.later x.f
    have hz:(j - 0).toNat=j.toNat:=by lia
    refine⟨j,rfl,c.1,c.2,b36 (lo:=0) (n:=j.toNat) (PvL X.K F0 H0 F1 b t (P5 0 j) fl) ⟨F1,ρ,PU.r6.refl F1,so.ext x,e⟩ (fun k σ H hk hp=> ?_) (fun σ H hp=> ?_)⟩
    ·exact a4L T fin1 (a7z (by lia)) hp fun _ _=>rfl
    ·have:j.toNat=(P5 0 j).length:=by rw [G9,hz]
     rw [this] at hp
     exact a7e fin1 hp
   ·cases e2
  ·cases e2
def a0E(c:MT)(body:MS):Nat->c6->Option Fl
 |0,_=>none
 |n+1,ρ=>(c ρ).bind fun b=>if b=true then(body ρ).bind fun fl=>match fl with
  | .nx ρ'=>a0E c body n ρ'
  | .ct ρ'=>a0E c body n ρ'
  | .bk ρ'=>some (.nx ρ')
  | .rt r=>some (.rt r) else some (.nx ρ)
theorem b5o(n:Nat){c:AG}{body:List Stmt}{mc:MT}{b:MS}{pos:Pos}(hp:PassesOwn (model X.prog X.w) X.A X.env X.xe)(hc:ET X c mc)(hb:ESs X body b):ES X (.While c body [] pos) (a0E mc b n):=
 S5 (b6q hp hc hb) fun D σ H h0=>M6 h0 fun F0 H0 F ρ fl so e fin=>by
  refine⟨fun k σ H=>∃F1 ρ,r6 F F1/\SOk X.K F0 H0 F1 H σ ρ/\a0E mc b k ρ=some fl,⟨n,F,ρ,PU.r6.refl F,so,e⟩, ?_⟩
  rintro k σ H ⟨F1,ρ,s,so,e⟩
  cases k with
  |zero=>cases e
  |succ k=>
   unfold a0E at e
   obtain⟨d,e1,e⟩:=bind_some e
   refine⟨F1,ρ,d,so.e,e1,fun F2 H2 x=> ?_⟩
   have s2:=s.trans x.f
   cases d with
   |true=>
    rw [if_pos rfl] at e
    obtain⟨f1,e2,e⟩:=bind_some e
    refine b0S ⟨fun σ' H'=>∃F1 ρ,r6 F F1/\SOk X.K F0 H0 F1 H' σ' ρ/\a0E mc b k ρ=some fl,fun σ' H' h=>⟨k,Nat.lt_succ_self k,h⟩,⟨F0,H0,F2,ρ,f1,so.ext x,e2, ?_⟩⟩
    cases f1 with
    |nx ρ'=>exact fun σ3 F3 H3 s3 so3=>⟨F3,ρ',s2.trans s3,so3,e⟩
    |ct ρ'=>exact fun σ3 F3 H3 s3 so3=>⟨F3,ρ',s2.trans s3,so3,e⟩
    |bk ρ'=>cases e;exact fun σ3 F3 H3 s3 so3=>fin σ3 F3 H3 (s2.trans s3) so3
    |rt r=>cases e;exact fin
   |false=>
    rw [if_neg Al] at e
    cases e
    exact a9A (fin σ F2 H2 s2 (so.ext x))
def C5(n:Nat)(body:MS)(ps:List PV):Option i7:=(body (ps.map (fun p=>some (i7.val p))++Ac n none)).bind fun fl=>match fl with
 | .rt r=>some r
 | .nx _=>some (.val .none)
 |_=>none
end
theorem b6G{K:AE}{F H:Hp}{ps:List PV}{vs:List V}(n:Nat)(s:r6 F H)(r:p8 K F ps vs):SOk K F H F H (vs.map some++Ac n none) (ps.map (fun p=>some (i7.val p))++Ac n none):=by
 have hl:=r.length
 have key:∀(i:Nat) (q:i7),(ps.map (fun p=>some (i7.val p))++Ac n none)[i]?=some (some q)->∃p v,q= .val p/\(vs.map some++Ac n none)[i]?=some (some v)/\E7 K F p v:=by
  intro i q e
  by_cases h:i<ps.length
  ·rw [BC (by simpa using h),Au] at e
   rw [BC (by rw [Ae,hl];exact h),Au]
   cases q':ps[i]? with
   |none=>rw [q'] at e;cases e
   |some p=>
    rw [q'] at e
    cases e
    obtain⟨v,h1,h2⟩:=r.get q'
    exact⟨p,v,rfl,by rw [h1];rfl,h2⟩
  ·rw [List.getElem?_append_right (by simpa using h),List.getElem?_replicate] at e
   split at e<;>cases e
 refine⟨Ext.refl s,⟨s,by simp [hl],fun i q e=> ?_,fun i qs e=> ?_,fun i j qs _ a _ e=> ?_⟩,fun i qs a e=> ?_⟩
 ·obtain⟨p,v,rfl,h1,h2⟩:=key i q e;exact⟨v,h1,h2⟩
 ·obtain⟨p,v,z,_⟩:=key i _ e;cases z
 ·obtain⟨p,v,z,_⟩:=key i _ e;cases z
 ·obtain⟨p,v,z,_⟩:=key i _ e;cases z
theorem b8L{P:AN}{w:AK}{K:AE}{mg:Str->Option AA}{base:Heap}{x qual:Str}{st:Stmt}{f:AB}{fd:FuncData}{N ps:List Str}{k:Nat}{m:MS}(F:Fun K x qual st f fd)(S:l9 N ps (i9 st))
 (hb:∀(cdv:AA) (A:AO) (outer:List Env) (s:AC) (H:Hp) (E:XK),Y1 k (A.deeper (envOfC qual (i9 st) s.heap.objs.size f cdv))->ESs (b0x CX0 P w K mg base N qual (i9 st) f cdv A outer s H E).nox (U7 st) m):
 a0G P w K mg base CX0 (k+1) f fd ps (spP K ps.length (C5 (N.length - ps.length) m)):=by
 refine F.ok S (fun vs H Q E h=> ?_) (fun cdv A outer s H vs Q E hr h=> ?_)
 ·obtain⟨_,qs,_,_,r,h2,_⟩:=h
  rw [r.length,h2]
 ·obtain⟨F1,qs,r,s1,rl,hl,e,k⟩:=h
  refine⟨_,hb cdv A outer s H E hr, ?_⟩
  unfold C5 at e
  obtain⟨fl,e1,e2⟩:=bind_some e
  have hv:vs.length=ps.length:=by rw [rl.length,hl]
  refine⟨F1,H,F1,_,fl, ?_,e1, ?_⟩
  ·have:=b6G (N.length - ps.length) s1 rl
   unfold L2.a4h
   rw [hv]
   exact this
  ·cases fl with
   |rt q=>cases e2;exact fun v F' H' o=>k v F' H' o
   |nx ρ=>cases e2;exact fun σ' F' H' _ so=>k .non F' H' (B9.val so.x rfl)
   |bk ρ=>cases e2
   |ct ρ=>cases e2
section
variable {X:Cx}
def rC1(K:AE)(g:i7->Option i7):List V->Hp->VK->Prop:=fun xs H Q=>∃F x rx rz,xs=[x]/\r6 F H/\S7 K F H x rx/\g rx=some rz/\∀v F' H',B9 K F H F' H' v rz->Q v H'
def m1(g:i7->Option i7)(m:M):M:=fun ρ=>(m ρ).bind g
theorem b6a{m:M}{g:i7->Option i7}{σ:L2.St}{H:Hp}{Q:VK}(h:tM X.K (m1 g m) σ H Q):tCB (rC1 X.K g) (b8X (tM X.K m) c1f) σ H Q:=by
 obtain⟨F,ρ,r,he,hm,k⟩:=h
 obtain⟨rx,e1,hm⟩:=bind_some hm
 exact⟨F,ρ,rx,he,e1,fun v F1 H1 o1=>⟨F1,v,rx,r,rfl,o1.x.fh,o1.rep,hm,fun z F2 H2 o2=>k z F2 H2 (B9.trans o1.x o2)⟩⟩
theorem W9{id:String}{x:Str}{p pos:Pos}{e:AG}{g:i7->Option i7}{m:M}(hc:a0b X (.builtin id) (rC1 X.K g))(hg:Gl X x)(hm:X.mg x=none)(hv:bootBuiltins x=some (.builtin id))(ha:EE X e m)(hn:x≠"__name__":=by decide)(hdb:(x==("__debug__":Str))=false:=by decide)
 (he:AW [e] X.env=(false,eval e X.env)::AW [] X.env:=by rfl) (hpl:(backTo pos (AW [] X.env)).any (·.1)=false:=by rfl):EE X (.Call (.Name x p) [e] [] pos) (m1 g m):=
 D7 (b1g hc hg hm hv (E9 ha V8 he) hn hdb he hpl) fun _ _ _ h=>b6a h
theorem a2R{T:String}{x:Str}{p pos:Pos}{e:AG}{g:i7->Option i7}{m:M}(hc:a0b X (.type T) (rC1 X.K g))(hg:Gl X x)(hm:X.mg x=none)(hv:bootBuiltins x=some (.type T))(ha:EE X e m)(hn:x≠"__name__":=by decide)(hdb:(x==("__debug__":Str))=false:=by decide)
 (he:AW [e] X.env=(false,eval e X.env)::AW [] X.env:=by rfl) (hpl:(backTo pos (AW [] X.env)).any (·.1)=false:=by rfl):EE X (.Call (.Name x p) [e] [] pos) (m1 g m):=
 D7 (b4y hc hg hm hv (E9 ha V8 he) hn hdb he hpl) fun _ _ _ h=>b6a h
def Y8(x:i7):Option i7:=match x.rd with
 | .str z=>if z.length<=AM then some (.val (.int z.length)) else none
 |p=>match PyData.items? p with
  |some ps=>some (.val (.int ps.length))
  |none=>none
theorem P3:a0b X (.builtin "len") (rC1 X.K Y8):=by
 intro pins s σ H xs us Q I rv h
 obtain⟨F,x,rx,rz,rfl,s0,h1,h2,k⟩:=h
 unfold Y8 at h2
 split at h2
 ·rename_i z ez
  split at h2
  ·rename_i c
   cases h2
   have rr:=h1.rd s0
   rw [ez] at rr
   cases rr
   exact a9m pins s σ H _ us Q I rv ⟨z,rfl,c,k _ F H (B9.here s0 rfl)⟩
  ·cases h2
 ·split at h2
  ·rename_i ps e
   cases h2
   obtain⟨a,xs,rfl,hq,r⟩:=T8 s0 h1 e
   refine a9l pins s σ H _ us Q I rv ⟨a,xs,rfl,hq, ?_⟩
   rw [r.length]
   exact k _ F H (B9.here s0 rfl)
  ·cases h2
def a1f(x:i7):Option i7:=match PyData.items? x.rd with
 |some ps=>some (.val (.tuple ps))
 |none=>none
theorem b4e{F H:Hp}{v:V}{r:i7}{ps:List PV}(s0:r6 F H)(h:S7 X.K F H v r)(e:PyData.items? r.rd=some ps):∃a xs,v= .ref a/\(V2 X.K H a xs\/(SqT X.K H a xs/\E7 X.K F (.tuple ps) v))/\p8 X.K F ps xs:=by
 cases r with
 |val p=>
  cases p with
  |list qs=>cases e;obtain⟨a,xs,rfl,hq,r⟩:=h;exact⟨a,xs,rfl,.inl (O4 s0 hq),r⟩
  |tuple qs=>cases e;obtain⟨a,xs,rfl,hq,r⟩:=h;exact⟨a,xs,rfl,.inr ⟨A9 s0 hq.sq,⟨a,xs,rfl,hq,r⟩⟩,r⟩
  |_=>cases e
 |ow c=>cases c<;>cases e;obtain⟨a,xs,rfl,_,hq,r⟩:=h;exact⟨a,xs,rfl,.inl (V2.of hq),r⟩
 |bo c=>cases c<;>cases e;obtain⟨a,xs,rfl,_,hq,r⟩:=h;exact⟨a,xs,rfl,.inl (V2.of hq),r⟩
theorem a3K:a0b X (.type "tuple") (rC1 X.K a1f):=by
 intro pins s σ H xs us Q I rv h
 obtain⟨F,x,rx,rz,rfl,s0,h1,h2,k⟩:=h
 unfold a1f at h2
 split at h2
 ·rename_i ps e
  cases h2
  obtain⟨a,xs,rfl,hq,r⟩:=b4e s0 h1 e
  refine a7V pins s σ H _ us Q I rv ⟨a,xs,rfl, ?_⟩
  rcases hq with hq|⟨hq,rp⟩
  ·exact .inl ⟨hq,fun l hl=>k _ _ _ (B9.tup s0 hl r)⟩
  ·exact .inr ⟨hq,k _ F H (B9.here s0 rp)⟩
 ·cases h2
def kindOf:PV->String
 | .none=>"NoneType"
 | .bool _=>"bool"
 | .int _=>"int"
 | .str _=>"str"
 | .list _=>"list"
 | .tuple _=>"tuple"
 | .dict _=>"dict"
def a3d(T:String)(p:PV):Bool:=kindOf p==T||(kindOf p=="bool" && T=="int")
def b4d:PV->Bool
 | .dict ((.str _,_)::_)=>true
 |_=>false
def a6Y(T:String)(x:i7):Option i7:=bif b4d x.rd then none else some (.val (.bool (a3d T x.rd)))
def b4M(T:String):Prop:=T="int"\/T="bool"\/T="str"\/T="list"\/T="tuple"\/T="dict"
theorem b4i{K:AE}{T:String}(h:b4M T):∀p:PV,PySem.W.kitOne K (.type (kindOf p)) (.type T)=some (a3d T p):=by
 intro p
 rcases h with rfl|rfl|rfl|rfl|rfl|rfl<;>cases p<;>kernel_rfl
theorem b5k{T:String}{e:AG}{m:M}{p p2 pos:Pos}(kt:b4M T)(hg:Gl X "isinstance")(hm:X.mg "isinstance"=none)(ha:EE X e m)(hT:PE X (.Name (AD T) p2) (tC (.ty T)))
 (he:AW [e,.Name (AD T) p2] X.env=(false,eval e X.env)::AW [.Name (AD T) p2] X.env:=by rfl) (he2:AW [.Name (AD T) p2] X.env=(false,eval (.Name (AD T) p2) X.env)::AW [] X.env:=by rfl) (hpl:(backTo pos (AW [.Name (AD T) p2] X.env)).any (·.1)=false:=by rfl)
 (hv:bootBuiltins "isinstance"=some (.builtin "isinstance"):=by rfl):
 EE X (.Call (.Name "isinstance" p) [e,.Name (AD T) p2] [] pos) (m1 (a6Y T) m):=by
 have hc:a0b X (.builtin "isinstance") (fun xs H Q=>∃F x rx,xs=[x,.ty T]/\r6 F H/\S7 X.K F H x rx/\b4d rx.rd=false/\Q (.bl (a3d T rx.rd)) H):=by
  intro pins s σ H xs us Q I rv h
  obtain⟨F,x,rx,rfl,s0,h1,nf,q⟩:=h
  obtain⟨u,u2,rfl,ru,ru2⟩:∃u1 u2,us=[u1,u2]/\y6 x u1/\y6 (.ty T) u2:=by
   cases rv with
   |cons p q=>
    cases q with
    |cons p' q'=>
     cases q'
     exact⟨_,_,rfl,p,p'⟩
  cases ru2
  have rr:=h1.rd s0
  have kk:=b4i (K:=X.K) kt rx.rd
  have fin:∀tk,EP X pins σ Q (.bool (a3d T rx.rd)) {s with toks:=tk}:=fun tk=>⟨.bl _,H,I.tok tk,rfl,q⟩
  cases hp:rx.rd with
  |none=>rw [hp] at rr kk fin;cases rr;cases ru;exact PySem.W.kia_one PySem.W.kitx_none I.kIn True.intro kk (fun z=>nomatch z) fin
  |bool b=>rw [hp] at rr kk fin;cases rr;cases ru;exact PySem.W.kia_one PySem.W.kitx_bool I.kIn True.intro kk (fun z=>nomatch z) fin
  |int b=>rw [hp] at rr kk fin;cases rr;obtain⟨t,rfl⟩:=ru;exact PySem.W.kia_one PySem.W.kitx_int I.kIn True.intro kk (fun z=>nomatch z) fin
  |str b=>rw [hp] at rr kk fin;cases rr;obtain⟨t,rfl⟩:=ru;exact PySem.W.kia_one PySem.W.kitx_str I.kIn True.intro kk (fun z=>nomatch z) fin
  |list ps=>
   rw [hp] at rr kk fin
   obtain⟨a,ys,rfl,hq,_⟩:=rr
   cases ru
   obtain⟨its,_,⟨o,n,e1,e2,_⟩,_⟩:=I.list hq
   exact PySem.W.kia_one PySem.W.kitx_list I.kIn ⟨o,e1,e2⟩ kk (fun z=>nomatch z) fin
  |tuple ps=>
   rw [hp] at rr kk fin
   obtain⟨a,ys,rfl,hq,_⟩:=rr
   cases ru
   obtain⟨its,_,⟨o,e1,e2,_⟩,_⟩:=I.tuple hq.sq
   exact PySem.W.kia_one PySem.W.kitx_tuple I.kIn ⟨o,e1,e2⟩ kk (fun z=>nomatch z) fin
  |dict ps=>
   rw [hp] at rr kk fin nf
   rcases rr with⟨a,_,rfl,hq,_⟩|⟨a,_,rfl,hq,_⟩|⟨x,_,rfl,_⟩|⟨x,m,fs,_,hf⟩
   ·cases ru
    obtain⟨_,_,_,_,o,_,_,e1,e2,_⟩:=I.hok a _ hq
    exact PySem.W.kia_one PySem.W.kitx_dict I.kIn ⟨o,e1,e2.1⟩ kk (fun z=>nomatch z) fin
   ·cases ru
    obtain⟨_,_,_,_,o,_,_,e1,e2,_⟩:=I.hok a _ hq
    exact PySem.W.kia_one PySem.W.kitx_dict I.kIn ⟨o,e1,e2.1⟩ kk (fun z=>nomatch z) fin
   ·cases nf
   ·cases ps with
    |nil=>cases hf
    |cons f ps=>obtain⟨k,p⟩:=f;obtain⟨_,_,_,_,z,_⟩:=hf;subst z;cases nf
 exact D7 (b1g hc hg hm hv (E9 ha (E9 hT V8 he2) he) (by decide) (by decide) he hpl) fun σ H Q h0=>B6 h0 fun F ρ r h1 h2 k=>by
  obtain⟨rx,e1,h2⟩:=bind_some h2
  unfold a6Y at h2
  cases nf:b4d rx.rd with
  |true=>rw [nf] at h2;cases h2
  |false=>
   rw [nf] at h2
   cases h2
   exact⟨F,ρ,rx,h1,e1,fun v F1 H1 o=>⟨F1,v,rx,rfl,o.x.fh,o.rep,nf,k _ F1 H1 (B9.val o.x rfl)⟩⟩
theorem SOk.putC{K:AE}{F0 H0 F H:Hp}{σ:L2.St}{ρ:c6}{i:Nat}{c d:X2}{a:AB}{o:HO}(s:SOk K F0 H0 F H σ ρ)(e:ρ[i]?=some (some (.ow c)))(ea:σ[i]?=some (some (.ref a)))(r:F a=none->Z9 K F (upd H a o) (.ref a) d):
 SOk K F0 H0 F (upd H a o) σ (ρ.set i (some (.ow d))):=by
 obtain⟨v,h1,rr0⟩:=s.e.at_ i _ e
 obtain⟨a',xs,rfl,fa,ha⟩:=Z9.at_ rr0
 rw [ea] at h1;cases h1
 have na:H0 a=none:=s.nw i c a e ea
 have hi:i<ρ.length:=(At.mp e).1
 refine⟨⟨s.x.f,fun b o z=>by rw [j9 (r9 z na)];exact s.x.h _ _ z,fun b o z=>by rw [j9 (r9 z fa)];exact s.x.fh _ _ z,s.x.nw,s.x.nf⟩,⟨fun b o z=>by rw [j9 (r9 z fa)];exact s.e.fh _ _ z,by simp [s.e.len],fun j q ej=> ?_,fun j z ej=> ?_,fun j k z1 z2 c' hjk e1 e2 e3 e4=> ?_⟩,fun j z c' e1 e2=> ?_⟩
 ·rw [List.getElem?_set] at ej
  by_cases hij:i=j
  ·subst hij
   rw [if_pos rfl,if_pos hi] at ej
   cases ej
   exact⟨.ref a,ea,r fa⟩
  ·rw [if_neg hij] at ej
   obtain⟨v,h1,rr⟩:=s.e.at_ j q ej
   refine⟨v,h1, ?_⟩
   cases q with
   |val p=>exact rr
   |bo z=>exact absurd ej (s.e.nb j z)
   |ow z=>
    have key:∀b,v= .ref b->b≠a:=fun b hb hab=>by subst hab;subst hb;exact s.e.ap i j c z b hij e ej ea h1
    cases z with
    |lst z=>
     obtain⟨b,zs,rfl,fb,hb,rz⟩:=rr
     exact⟨b,zs,rfl,fb,by rw [j9 (key b rfl)];exact hb,rz⟩
    |dct z=>
     obtain⟨b,zs,rfl,fb,hb,rz⟩:=rr
     exact⟨b,zs,rfl,fb,by rw [j9 (key b rfl)];exact hb,rz⟩
    |txt z=>
     obtain⟨b,zs,rfl,fb,hb,rz⟩:=rr
     exact⟨b,zs,rfl,fb,by rw [j9 (key b rfl)];exact hb,rz⟩
 ·rw [List.getElem?_set] at ej
  by_cases hij:i=j
  ·subst hij;rw [if_pos rfl,if_pos hi] at ej;cases ej
  ·rw [if_neg hij] at ej;exact s.e.nb j z ej
 ·have own_at:∀(j:Nat) (z:X2),(ρ.set i (some (i7.ow d)))[j]?=some (some (i7.ow z))->∃z':X2,ρ[j]?=some (some (i7.ow z')):=fun j z h=>by
   rw [List.getElem?_set] at h
   by_cases hij:i=j
   ·subst hij;exact⟨c,e⟩
   ·rw [if_neg hij] at h;exact⟨z,h⟩
  obtain⟨y1,h1⟩:=own_at j z1 e1
  obtain⟨y2,h2⟩:=own_at k z2 e2
  exact s.e.ap j k y1 y2 c' hjk h1 h2 e3 e4
 ·rw [List.getElem?_set] at e1
  by_cases hij:i=j
  ·subst hij;rw [ea] at e2;cases e2;exact na
  ·rw [if_neg hij] at e1;exact s.nw j z c' e1 e2
theorem SOk.put{K:AE}{F0 H0 F H:Hp}{σ:L2.St}{ρ:c6}{i:Nat}{ps qs:List PV}{a:AB}{ys:List V}(s:SOk K F0 H0 F H σ ρ)(e:ρ[i]?=some (some (.own ps)))(ea:σ[i]?=some (some (.ref a)))(r:p8 K F qs ys):
 SOk K F0 H0 F (upd H a (.lst ys)) σ (ρ.set i (some (.own qs))):=s.putC e ea fun fa=>⟨a,ys,rfl,fa,n0,r⟩
theorem SOk.putD{K:AE}{F0 H0 F H:Hp}{σ:L2.St}{ρ:c6}{i:Nat}{ps qs:List (List m5×PV)}{a:AB}{ys:List (List m5×V)}(s:SOk K F0 H0 F H σ ρ)(e:ρ[i]?=some (some (.dct ps)))(ea:σ[i]?=some (some (.ref a)))(r:C1 K F qs ys):
 SOk K F0 H0 F (upd H a (.dT ys)) σ (ρ.set i (some (.dct qs))):=s.putC e ea fun fa=>⟨a,ys,rfl,fa,n0,r⟩
def S2(i:Nat)(m:M):MS:=fun ρ=>(m ρ).bind fun r=>r.toVal.bind fun p=>match ρ[i]? with
 |some (some (.ow (.lst ps)))=>if ps.length<AM then some (.nx (ρ.set i (some (.own (ps++[p]))))) else none
 |_=>none
theorem T6(i:Nat){x:Str}{p apos cpos pos:Pos}{e:AG}{m:M}(hx:PE X (.Name x p) (U5 i))(ha:EE X e m)
 (hbase:attributeBase (.Name x p) "append" X.env (eval (.Name x p) X.env)=eval (.Name x p) X.env:=by rfl)
 (hfew:((backTo cpos (AW [e] X.env)).all (fun x=> !x.1)&&(backToKw cpos (keywordEach [] X.env)).all (fun x=>x.1.isSome)
  && decide ([e].length+([]:List Keyword).length+(if([]:List Keyword).isEmpty then 0 else 1)<30))=true:=by rfl)
 (hline:(apos.endLine==cpos.line)=true:=by rfl) (hs:AW [e] X.env=(false,eval e X.env)::AW [] X.env:=by rfl) (hplain:(backTo cpos (AW [] X.env)).any (·.1)=false:=by rfl)
 (hsw:swapsWith (.Call (.Attribute (.Name x p) "append" apos) [e] [] cpos) none pos.line X.env=pure false:=by rfl):
 ES X (.Expr (.Call (.Attribute (.Name x p) "append" apos) [e] [] cpos) pos) (S2 i m):=
 S5 (a6e (a8O PySem.F.plainAttrs_list PySem.F.slot_list_append PySem.F.type_list_append a2A hx (E9 ha V8 hs) hbase hfew hline hs hplain) hsw) fun D σ H h0=>M6 h0 fun F0 H0 F ρ fl so e fin=>by
  obtain⟨r,e1,e⟩:=bind_some e
  obtain⟨q,e2,e⟩:=bind_some e
  split at e
  ·rename_i ps eo
   split at e
   ·rename_i c
    cases e
    obtain⟨v,h1,a,xs,rfl,fa,ha',rl⟩:=so.e.at_ i _ eo
    refine⟨.ref a,h1,.inl ⟨rfl,xs,V2.of ha'⟩,F,ρ,r,so.e,e1,fun w F1 H1 o=> ?_⟩
    obtain⟨F2,o2⟩:=o.toVal e2
    have so2:=so.ext o2.x
    refine⟨a,xs,w,rfl,rfl,o.x.h _ _ ha',by rw [rl.length];exact c, ?_⟩
    exact fin σ F2 _ o2.x.f (so2.put eo h1 ((p8.mono o2.x.f _ rl).append ⟨w,[],rfl,o2.rep,rfl⟩))
   ·cases e
  ·cases e
def a7f(i:Nat)(n:MS):MS:=fun ρ=>match ρ[i]? with
 |some (some (.ow (.lst ps)))=>n (ρ.set i (some (.val (.list ps))))
 |_=>n ρ
theorem SOk.frz{K:AE}{F0 H0 F H:Hp}{σ:L2.St}{ρ:c6}{i:Nat}{ps:List PV}(s:SOk K F0 H0 F H σ ρ)(e:ρ[i]?=some (some (.own ps))):∃F',r6 F F'/\SOk K F0 H0 F' H σ (ρ.set i (some (.val (.list ps)))):=by
 obtain⟨v,h1,a,xs,rfl,fa,ha,rl⟩:=s.e.at_ i _ e
 have na:H0 a=none:=s.nw i _ a e h1
 have hi:i<ρ.length:=(At.mp e).1
 have up:r6 F (upd F a (.lst xs)):=O5 fa
 have fh:r6 (upd F a (.lst xs)) H:=fun b o z=>by
  by_cases hb:b=a
  ·subst hb;rw [n0] at z;cases z;exact ha
  ·rw [j9 hb] at z;exact s.e.fh _ _ z
 refine⟨upd F a (.lst xs),up,⟨⟨s.x.f.trans up,s.x.h,fh,fun b o z y t=>by rw [j9 (r9 y na)];exact s.x.nw b o z y t,b53 s.x.nf⟩,⟨fh,by simp [s.e.len],fun j q ej=> ?_,fun j z ej=> ?_,fun j k z1 z2 c hjk e1 e2 e3 e4=> ?_⟩,fun j z c e1 e2=> ?_⟩⟩
 ·rw [List.getElem?_set] at ej
  by_cases hij:i=j
  ·subst hij
   rw [if_pos rfl,if_pos hi] at ej
   cases ej
   exact⟨.ref a,h1,a,xs,rfl,V2.of n0,p8.mono up _ rl⟩
  ·rw [if_neg hij] at ej
   obtain⟨v,h2,rr⟩:=s.e.at_ j q ej
   refine⟨v,h2, ?_⟩
   cases q with
   |val p=>exact E7.mono up p rr
   |bo z=>exact absurd ej (s.e.nb j z)
   |ow z=>
    have key:∀b,v= .ref b->b≠a:=fun b hb hab=>by subst hab;subst hb;exact s.e.ap i j _ z b hij e ej h1 h2
    cases z with
    |lst z=>
     obtain⟨b,zs,rfl,fb,hb,rz⟩:=rr
     exact⟨b,zs,rfl,by rw [j9 (key b rfl)];exact fb,hb,p8.mono up _ rz⟩
    |dct z=>
     obtain⟨b,zs,rfl,fb,hb,rz⟩:=rr
     exact⟨b,zs,rfl,by rw [j9 (key b rfl)];exact fb,hb,C1.mono up _ rz⟩
    |txt z=>
     obtain⟨b,zs,rfl,fb,hb,rz⟩:=rr
     exact⟨b,zs,rfl,by rw [j9 (key b rfl)];exact fb,hb,C1.mono up _ rz⟩
 ·rw [List.getElem?_set] at ej
  by_cases hij:i=j
  ·subst hij;rw [if_pos rfl,if_pos hi] at ej;cases ej
  ·rw [if_neg hij] at ej;exact s.e.nb j z ej
 ·have own_at:∀(j:Nat) (z:X2),(ρ.set i (some (i7.val (.list ps))))[j]?=some (some (i7.ow z))->ρ[j]?=some (some (i7.ow z)):=fun j z h=>by
   rw [List.getElem?_set] at h
   by_cases hij:i=j
   ·subst hij;rw [if_pos rfl,if_pos hi] at h;cases h
   ·rw [if_neg hij] at h;exact h
  exact s.e.ap j k z1 z2 c hjk (own_at j z1 e1) (own_at k z2 e2) e3 e4
 ·rw [List.getElem?_set] at e1
  by_cases hij:i=j
  ·subst hij;rw [if_pos rfl,if_pos hi] at e1;cases e1
  ·rw [if_neg hij] at e1;exact s.nw j z c e1 e2
theorem a9r(i:Nat){st:Stmt}{n:MS}(h:ES X st n):ES X st (a7f i n):=S5 h fun D σ H h0=>M6 h0 fun F0 H0 F ρ fl so e fin=>by
 unfold a7f at e
 split at e
 ·rename_i ps eo
  obtain⟨F',s,so'⟩:=so.frz eo
  exact⟨F0,H0,F',_,fl,so',e,fin.later s⟩
 ·exact⟨F0,H0,F,ρ,fl,so,e,fin⟩
end
def c0g(K:AE)(n:Nat)(a:AB):Option (List (m5×PV)):=match K.lookup a with
 |some ⟨.type "dict",none,.dict es _,⟨[]⟩⟩=>(a5m es.toList).bind (a05 K n)
 |_=>none
def a9x(K:AE)(a:AB):List Int:=match K.lookup a with
 |some ⟨_,_,.dict es _,_⟩=>es.toList.map (·.hash)
 |_=>[]
theorem a3A{κ:Type}{K:AE}{n:Nat}:∀{kvs:List (κ×AA)} {tbl:List (κ×PV)},a05 K n kvs=some tbl->tbl.map (·.1)=kvs.map (·.1)
 |[],_,h=>by cases h;rfl
 |(k,u)::r,tbl,h=>by
  simp only [a05] at h
  obtain⟨q,e1,h⟩:=bind_some h
  obtain⟨t,e2,h⟩:=bind_some h
  cases h
  rw [AI,AI,a3A e2]
theorem b5W{κ α β:Type}{γ:Type}(f:κ->γ):∀{l:List (κ×α)} {m:List (κ×β)},l.map (·.1)=m.map (·.1)->l.map (fun x=>f x.1)=m.map (fun x=>f x.1):=fun {l m} h=>by
 have h1:l.map (fun x=>f x.1)=(l.map (·.1)).map f:=by simp [Aw,Function.comp_def]
 have h2:m.map (fun x=>f x.1)=(m.map (·.1)).map f:=by simp [Aw,Function.comp_def]
 rw [h1,h2,h]
theorem c0i{P:AN}{w:AK}{K:AE}{a:AB}{tbl:List (m5×PV)}(n:Nat)(t:c0g K n a=some tbl)(h:a9x K a=tbl.map (fun kv=>b4f w kv.1))(nd:(tbl.map (·.1)).Nodup):Tab P w K a tbl:=by
 unfold c0g at t
 split at t
 ·rename_i es ep e
  obtain⟨kvs,e1,e2⟩:=bind_some t
  have hk:=a3A e2
  refine⟨es,ep,kvs,n,e,e1, ?_,e2,by rw [<-hk];exact nd⟩
  unfold a9x at h
  rw [e] at h
  rw [<-b5W (b4f w) hk]
  exact h
 ·cases t
def v8(P:AN)(w:AK)(K:AE)(mg:Str->Option AA)(base:Heap)(x:Str)(ps:List Str)(k:Nat)(g:List PV->Option i7):Prop:=
 ∃f fd,a0G P w K mg base CX0 k f fd ps (spP K ps.length g)/\mg x=some (.ref f)/\PySem.W.keepIn K (.ref f)=true/\a6h K fd ps []
section
variable {X:Cx}
theorem l6{k k':Nat}{ps:List Str}{g:List PV->Option i7}{x:Str}{p pos:Pos}{e:AG}{es:List AG}{m:MA}
 (d:v8 X.prog X.w X.K X.mg X.base x ps k g) (hr:Y1 k' X.A) (hk:k<=k') (hg:Gl X x) (hn:∀ρ qs,m ρ=some qs->qs.length=ps.length) (ha:EA X (e::es) m)
 (hdb:(x==("__debug__":Str))=false:=by decide) (he:AW (e::es) X.env=(false,eval e X.env)::AW es X.env:=by rfl) (hpl:(backTo pos (AW es X.env)).any (·.1)=false:=by rfl):
 EE X (.Call (.Name x p) (e::es) [] pos) (m3 g m):=by
 obtain⟨f,fd,G,h1,h2,h3⟩:=d
 exact b7a G (hr.mono hk) hg h1 h2 h3 hn ha hdb he hpl
end
def b1l(K:AE):Sp:=fun vs H Q _=>∃(a:AB) (ns:List Int),vs=[.ref a]/\V2 K H a (ns.map V.int)/\ns.length<=63/\∀H',Q (.bl true) H'
theorem a8T{K:AE}{H:Hp}:∀ns:List Int,p8 K H (ns.map PyData.int) (ns.map V.int)
 |[]=>rfl
 |n::ns=>⟨.int n,_,rfl,rfl,a8T ns⟩
theorem b7z{K:AE}{g:List PV->Option i7}(h:∀ns:List Int,ns.length<=63->g [.list (ns.map .int)]=some (.val (.bool true))):∀vs H Q E,b1l K vs H Q E->spP K 1 g vs H Q E:=
 fun vs H Q E ⟨a,ns,e,hs,hl,k⟩=>by
  subst e
  exact⟨H,[.list (ns.map .int)],_,PU.r6.refl H,⟨.ref a,[],rfl,⟨a,_,rfl,hs,a8T ns⟩,rfl⟩,rfl,h ns hl,fun v F' H' o=>by
   have:v= .bl true:=o.rep
   subst this
   exact k H'⟩
theorem c1Z{l:PySem.W.OpenLaw}{q:AN}{loose:List Str}{XP:(Str->Option AA)->Heap->Prop}{YP:AK->Heap->Prop}{d:DefRec}{K:Params->AE}{x:Str}{k:Nat}(hk:k<=40)(hn:l.most=some 63)(hdf:d.params.defaults=[])
 (hY:∀(w:AK) (h:Heap),YP w h->(K w.params).In h)
 (F:∀(w:AK) (mg:Str->Option AA) (fa:AB) (h:Heap),(K w.params).In h->h.Ns mainGlobals mg->mg d.name=some (.ref fa)->
  ∃fd:FuncData,(∀(s:AC) (u:AA),BindsTo s fd ⟨[u],[]⟩ [(x,u)])/\∀base:Heap,(K w.params).In base->base.Ns mainGlobals mg->a0G l.prog w (K w.params) mg base CX0 k fa fd [x] (b1l (K w.params))):
 PySem.W.WalkO q loose XP YP l.row.toRowW d [] (fun f vs=>PySem.call f vs):=
 L2.b8v (n:=63) (k:=40) (x:=x) (CX:=fun _=>CX0) (sp:=fun w=>b1l (K w.params)) hn (by decide) hdf ⟨rfl,by decide,by decide⟩ hY (fun w mg fa h a b c=>let ⟨fd,h1,h2⟩:=F w mg fa h a b c;⟨fd,h1,fun base x y=>(h2 base x y).mono hk⟩) (fun _ _ a ns hl _ hS=>⟨a,ns,rfl,hS,hl,fun _=>rfl⟩) fun _ _ _ _ _ z=>z
def b7m(x y:i7):Option i7:=S8 b1x (fun i j=> .int (i*j)) x y
theorem b6b{X:Cx}:OpM X (binaryOp .Mult) b7m:=b7U
theorem y4(i j:Int):C7 (.val (.int i)) (.val (.int j))=some (.val (.int (i+j))):=Eq.trans rfl rfl
theorem b5w{i j:Str}(h:i.length+j.length<=AM):C7 (.val (.str i)) (.val (.str j))=some (.val (.str (i++j))):=by simp [C7,h]
theorem b28{ps qs:List PV}(h:ps.length+qs.length<=AM):C7 (.bor ps) (.own qs)=some (.own (ps++qs)):=by simp [C7,i7.mine,h]
theorem a1U(f:Int->Int->PV)(i j:Int):gI f (.val (.int i)) (.val (.int j))=some (.val (f i j)):=Eq.trans rfl rfl
theorem a54{C:Int->Int->Prop}[∀i j,Decidable (C i j)](f:Int->Int->PV){i j:Int}(h:C i j):S8 C f (.val (.int i)) (.val (.int j))=some (.val (f i j)):=by
 show(if okC C i j=true then some (i7.val (f i j)) else none)=_
 rw [if_pos (a3V.mpr h)]
theorem b9k{i j:Int}(h: -18446744073709551616<i/\i<18446744073709551616):b7m (.val (.int i)) (.val (.int j))=some (.val (.int (i*j))):=a54 _ (.inl (by lia))
theorem b9l{i j:Int}(h: -18446744073709551616<j/\j<18446744073709551616):b7m (.val (.int i)) (.val (.int j))=some (.val (.int (i*j))):=a54 _ (.inr (by lia))
theorem u7{f:Int->Int->PV}{i j:Int}(h:0<j):S8 (fun _ j=>0<j) f (.val (.int i)) (.val (.int j))=some (.val (f i j)):=a54 _ h
theorem a1T{f:Int->Int->PV}{i j:Int}(h:0<j/\j<1073741824):S8 a5M f (.val (.int i)) (.val (.int j))=some (.val (f i j)):=a54 _ h
theorem a9u{x y:i7}(h:u0 x.rd 50=true/\u0 y.rd 50=true):gEq x y=some (.val (.bool (PyData.eqv x.rd y.rd))):=by simp [gEq,h]
theorem b1Y{x y:i7}(h:u0 x.rd 50=true/\u0 y.rd 50=true):gNe x y=some (.val (.bool (!PyData.eqv x.rd y.rd))):=by simp [gNe,h]
theorem F8(ps:List PV):Y8 (.val (.list ps))=some (.val (.int ps.length)):=Eq.trans rfl rfl
theorem b5B(ps:List PV):Y8 (.val (.tuple ps))=some (.val (.int ps.length)):=Eq.trans rfl rfl
theorem b0N{ps:List PV}{i:Int}{p:PV}(h:L2.atI ps i=some p):v6 (.val (.list ps)) (.val (.int i))=some (.val p):=by simp [v6,i7.rd,X2.rd,PyData.items?,h]
theorem a3N{ps:List PV}{i:Int}{p:PV}(h:L2.atI ps i=some p):v6 (.val (.tuple ps)) (.val (.int i))=some (.val p):=by simp [v6,i7.rd,X2.rd,PyData.items?,h]
theorem o0(p:PV)(ps:List PV):v6 (.val (.tuple (p::ps))) (.val (.int 0))=some (.val p):=by
 refine a3N ?_
 have h:(0:Int)<(((p::ps).length:Nat):Int):=by simp only [AR];lia
 unfold L2.atI L2.ixN
 rw [if_pos (by decide),if_pos h]
 rfl
theorem t6(p q:PV)(ps:List PV):v6 (.val (.tuple (p::q::ps))) (.val (.int 1))=some (.val q):=by
 refine a3N ?_
 have h:(1:Int)<(((p::q::ps).length:Nat):Int):=by simp only [AR];lia
 unfold L2.atI L2.ixN
 rw [if_pos (by decide),if_pos h]
 rfl
theorem x6(p q r:PV)(ps:List PV):v6 (.val (.tuple (p::q::r::ps))) (.val (.int 2))=some (.val r):=by
 refine a3N ?_
 have h:(2:Int)<(((p::q::r::ps).length:Nat):Int):=by simp only [AR];lia
 unfold L2.atI L2.ixN
 rw [if_pos (by decide),if_pos h]
 rfl
theorem a6Z(p q r t:PV)(ps:List PV):v6 (.val (.tuple (p::q::r::t::ps))) (.val (.int 3))=some (.val t):=by
 refine a3N ?_
 have h:(3:Int)<(((p::q::r::t::ps).length:Nat):Int):=by simp only [AR];lia
 unfold L2.atI L2.ixN
 rw [if_pos (by decide),if_pos h]
 rfl
theorem j0(g:i7->i7->Option i7)(ma mb:M)(ρ:c6):m2 g ma mb ρ=(ma ρ).bind fun x=>(mb ρ).bind fun y=>g x y:=Eq.trans rfl rfl
theorem A1(g:i7->Option i7)(ma:M)(ρ:c6):m1 g ma ρ=(ma ρ).bind g:=Eq.trans rfl rfl
theorem g9(p:PV)(ρ:c6):mC p ρ=some (.val p):=Eq.trans rfl rfl
theorem b8(p:PV)(ρ:c6):a8 0 (some (.val p)::ρ)=some (.val p):=Eq.trans rfl rfl
theorem X5(p:List PV)(ρ:c6):a8 0 (some (.own p)::ρ)=some (.bor p):=Eq.trans rfl rfl
theorem d0(n:Nat)(r:Option i7)(ρ:c6):a8 (n+1) (r::ρ)=a8 n ρ:=Eq.trans rfl rfl
theorem b7(ρ:c6):c7 ρ=some []:=Eq.trans rfl rfl
theorem a9(m:M)(r:MA)(ρ:c6):a6 m r ρ=((m ρ).bind i7.toVal).bind fun p=>(r ρ).bind fun ps=>some (p::ps):=Eq.trans rfl rfl
theorem b5(p:PV):(i7.val p).toVal=some p:=Eq.trans rfl rfl
theorem U6(p:List PV):(i7.own p).toVal=some (.list p):=Eq.trans rfl rfl
theorem o8(m:MA)(ρ:c6):A7 m ρ=(m ρ).bind fun ps=>if ps.length<=AM then some (.val (.tuple ps)) else none:=Eq.trans rfl rfl
theorem x8(m:MA)(ρ:c6):S4 m ρ=(m ρ).bind fun ps=>if ps.length<=AM then some (.own ps) else none:=Eq.trans rfl rfl
theorem g7(g:List PV->Option i7)(m:MA)(ρ:c6):m3 g m ρ=(m ρ).bind g:=Eq.trans rfl rfl
def b6Y(i:Nat)(ρ:c6)(r:i7):Option Fl:=if r.nb=true then some (.nx (ρ.set i (some r))) else none
theorem j3(i:Nat)(m:M)(ρ:c6):z5 i m ρ=(m ρ).bind (b6Y i ρ):=Eq.trans rfl rfl
theorem u6(i:Nat)(ρ:c6)(p:PV):b6Y i ρ (.val p)=some (.nx (ρ.set i (some (.val p)))):=Eq.trans rfl rfl
theorem P0(i:Nat)(ρ:c6)(p:List PV):b6Y i ρ (.own p)=some (.nx (ρ.set i (some (.own p)))):=Eq.trans rfl rfl
def b96(r:i7):Option Fl:=if r.nb=true then some (.rt r) else none
theorem f8(m:M)(ρ:c6):v7 m ρ=(m ρ).bind b96:=Eq.trans rfl rfl
theorem l8(p:PV):b96 (.val p)=some (.rt (.val p)):=Eq.trans rfl rfl
theorem a97(p:List PV):b96 (.own p)=some (.rt (.own p)):=Eq.trans rfl rfl
def b99(n:MS):Fl->Option Fl
 | .nx ρ=>n ρ
 |f=>some f
theorem c8(m n:MS)(ρ:c6):m8 m n ρ=(m ρ).bind (b99 n):=Eq.trans rfl rfl
theorem g0(n:MS)(ρ:c6):b99 n (.nx ρ)=n ρ:=Eq.trans rfl rfl
theorem u5(n:MS)(r:i7):b99 n (.rt r)=some (.rt r):=Eq.trans rfl rfl
def ifK(m n:MS)(ρ:c6)(b:Bool):Option Fl:=if b=true then m ρ else n ρ
theorem g8(c:MT)(m n:MS)(ρ:c6):G8 c m n ρ=(c ρ).bind (ifK m n ρ):=Eq.trans rfl rfl
theorem A6(m n:MS)(ρ:c6):ifK m n ρ true=m ρ:=Eq.trans rfl rfl
theorem z8(m n:MS)(ρ:c6):ifK m n ρ false=n ρ:=Eq.trans rfl rfl
theorem k9(ρ:c6):A3 ρ=some (.nx ρ):=Eq.trans rfl rfl
def b97:Fl->Option i7
 | .rt r=>some r
 | .nx _=>some (.val .none)
 |_=>none
theorem f7(n:Nat)(b:MS)(ps:List PV):C5 n b ps=(b (ps.map (fun p=>some (i7.val p))++Ac n none)).bind b97:=Eq.trans rfl rfl
theorem h9(r:i7):b97 (.rt r)=some r:=Eq.trans rfl rfl
theorem D8(m:M)(ρ:c6):mtV m ρ=(m ρ).bind tru:=Eq.trans rfl rfl
theorem j4(m:M)(ρ:c6):N9 m ρ=(m ρ).bind a96:=Eq.trans rfl rfl
theorem l7(b:Bool):a96 (.val (.bool b))=some b:=Eq.trans rfl rfl
theorem a83(b:Bool):tru (.val (.bool b))=some b:=Eq.trans rfl rfl
theorem C8(c:MT)(ρ:c6):X1 c ρ=(c ρ).map not:=Eq.trans rfl rfl
def orK(d:MT)(ρ:c6)(b:Bool):Option Bool:=if b=true then some true else d ρ
def b86(d:MT)(ρ:c6)(b:Bool):Option Bool:=if b=true then d ρ else some false
theorem a0Y(c d:MT)(ρ:c6):a5R c d ρ=(c ρ).bind (orK d ρ):=Eq.trans rfl rfl
theorem Q3(c d:MT)(ρ:c6):a5x c d ρ=(c ρ).bind (b86 d ρ):=Eq.trans rfl rfl
theorem c0W(d:MT)(ρ:c6):orK d ρ true=some true:=Eq.trans rfl rfl
theorem b1d(d:MT)(ρ:c6):orK d ρ false=d ρ:=Eq.trans rfl rfl
theorem a9g(d:MT)(ρ:c6):b86 d ρ true=d ρ:=Eq.trans rfl rfl
theorem a9f(d:MT)(ρ:c6):b86 d ρ false=some false:=Eq.trans rfl rfl
def c0r(n:M)(ρ:c6)(r:i7):Option i7:=(a96 r).bind fun b=>if b=true then n ρ else some (.val (.bool false))
def orR(n:M)(ρ:c6)(r:i7):Option i7:=(a96 r).bind fun b=>if b=true then some (.val (.bool true)) else n ρ
theorem b5R(m n:M)(ρ:c6):b9w m n ρ=(m ρ).bind (c0r n ρ):=Eq.trans rfl rfl
theorem b3h(m n:M)(ρ:c6):mOr m n ρ=(m ρ).bind (orR n ρ):=Eq.trans rfl rfl
theorem b87(n:M)(ρ:c6):c0r n ρ (.val (.bool true))=n ρ:=Eq.trans rfl rfl
theorem c0Y(n:M)(ρ:c6):orR n ρ (.val (.bool true))=some (.val (.bool true)):=Eq.trans rfl rfl
theorem c0X(n:M)(ρ:c6):orR n ρ (.val (.bool false))=n ρ:=Eq.trans rfl rfl
def c0Q:i7->Option i7
 | .val (.int i)=>some (.val (.int (-i)))
 |_=>none
theorem a16(m:M)(ρ:c6):a0z m ρ=(m ρ).bind c0Q:=Eq.trans rfl rfl
theorem a7s(i:Int):c0Q (.val (.int i))=some (.val (.int (-i))):=Eq.trans rfl rfl
theorem b5z(T:String)(p:PV):a6Y T (.val p)=bif b4d p then none else some (.val (.bool (a3d T p))):=Eq.trans rfl rfl
theorem c0s{α:Type}(a b:α):(bif false then a else b)=b:=Eq.trans rfl rfl
theorem a1k(p:PV):(i7.val p).rd=p:=Eq.trans rfl rfl
def c1i(tbl:List (m5×PV))(r:i7):Option i7:=(b3c r.rd).bind fun k=>(X0 tbl k).map .val
theorem b5V(tbl:List (m5×PV))(m:M)(ρ:c6):b9x tbl m ρ=(m ρ).bind (c1i tbl):=Eq.trans rfl rfl
theorem c0h(tbl:List (m5×PV))(x:Str):c1i tbl (.val (.str x))=(X0 tbl (.inr x)).map .val:=Eq.trans rfl rfl
def b8u(is:List Nat)(ρ:c6):i7->Option Fl
 | .val (.tuple ps)=>if ps.length=is.length then some (.nx (setAll ρ is (ps.map .val))) else none
 |_=>none
theorem B7(is:List Nat)(m:M)(ρ:c6):b2c is m ρ=(m ρ).bind (b8u is ρ):=Eq.trans rfl rfl
theorem a2m(i j:Nat)(ρ:c6)(p q:PV):b8u [i,j] ρ (.val (.tuple [p,q]))=some (.nx ((ρ.set i (some (.val p))).set j (some (.val q)))):=Eq.trans rfl rfl
theorem p9(it:MI)(tg:PV->c6->Option c6)(body:MS)(ρ:c6):N8 it tg body ρ=(it ρ).bind fun ps=>B2 body tg ps ρ:=Eq.trans rfl rfl
def b8V:List PV->Option (List PV)
 |[.int j]=>if inR j=true then some (P5 0 j) else none
 |_=>none
theorem v9(m:MA)(ρ:c6):L0 m ρ=(m ρ).bind b8V:=Eq.trans rfl rfl
theorem B8{j:Int}(h: -4611686018427387904<=j/\j<4611686018427387904):b8V [.int j]=some (P5 0 j):=by
 show(if inR j=true then some (P5 0 j) else none)=_
 rw [if_pos (a9z.mpr (by lia))]
theorem E6(i j:Int):gEq (.val (.int i)) (.val (.int j))=some (.val (.bool (i==j))):=Eq.trans rfl rfl
theorem b5x{p:PV}(h:u0 p 50=true):gEq (.val p) (.val p)=some (.val (.bool true)):=by
 rw [a9u (x:= .val p) (y:= .val p) ⟨h,h⟩,a1k,a6P p 50 h]
theorem b0O{p:PV}(h:u0 p 50=true):gNe (.val p) (.val p)=some (.val (.bool false)):=by
 rw [b1Y (x:= .val p) (y:= .val p) ⟨h,h⟩,a1k,a6P p 50 h]
 rfl
theorem sz(n:Nat):(n<=AM)=(n<=16777216):=by rw [sizeLine_eq]
end PU
namespace L2
open PySem PySem.Spec PyProof.Rows
theorem L3:∀(names:List (Str×NameKind)) (n:Nat) (acc:List (Str×AB)),cellsFrom n names acc=cellsFrom n names []++acc
 |[],_,_=>rfl
 |(x,k)::r,n,acc=>by
  unfold cellsFrom
  split
  ·rw [L3 r (n+1) ((x,n)::acc),L3 r (n+1) [(x,n)],List.append_assoc];rfl
  ·exact L3 r n acc
theorem Q6:∀{names:List (Str×NameKind)} {n:Nat} {x:Str} {c:AB},(x,c)∈cellsFrom n names []->n<=c/\(x,NameKind.cell)∈names
 |[],_,_,_,h=>nomatch h
 |(y,k)::r,n,x,c,h=>by
  unfold cellsFrom at h
  split at h
  ·rename_i hk
   rw [L3] at h
   rcases BA.mp h with h|h
   ·obtain⟨a,b⟩:=Q6 h
    exact⟨by lia,Ak _ b⟩
   ·have e:(x,c)=(y,n):=by simpa using h
    cases e
    have:k= .cell:=by simpa using hk
    subst this
    exact⟨Aa _,Am⟩
  ·obtain⟨a,b⟩:=Q6 h
   exact⟨a,Ak _ b⟩
theorem a7d{α:Type}:∀{l:List (Str×α)} {x:Str},(∀c,(x,c)∉l)->l.lookup x=none:=fun {l x} h=>by
 cases e:l.lookup x with
 |none=>rfl
 |some c=>exact absurd (PySem.mem_of_lookup e) (h c)
theorem a2W{α:Type}:∀{l r:List (Str×α)} {x:Str},l.lookup x=none->(l++r).lookup x=r.lookup x
 |[],_,_,_=>rfl
 |(y,v)::l,r,x,h=>by
  rw [Ab,List.lookup_cons]
  rw [List.lookup_cons] at h
  cases e:x==y with
  |true=>rw [e] at h;cases h
  |false=>rw [e] at h;exact a2W h
def W8(cells:List (Str×AB)):List (Str×NameKind)->List (Str×AB)->List (Str×AB)
 |[],acc=>acc
 |(x,k)::r,acc=>if k== .free then W8 cells r ((x,(cells.lookup x).getD 0)::acc) else W8 cells r acc
theorem a4s{cells:List (Str×AB)}:∀{names:List (Str×NameKind)} {acc:List (Str×AB)} {x:Str} {c:AB},(x,c)∈W8 cells names acc->(x,c)∈acc\/((x,NameKind.free)∈names/\c=(cells.lookup x).getD 0)
 |[],_,_,_,h=> .inl h
 |(y,k)::r,acc,x,c,h=>by
  unfold W8 at h
  split at h
  ·rename_i hk
   rcases a4s h with h|⟨h1,h2⟩
   ·rcases Ap.mp h with e|h
    ·cases e
     have:k= .free:=by simpa using hk
     subst this
     exact .inr ⟨Am,rfl⟩
    ·exact .inl h
   ·exact .inr ⟨Ak _ h1,h2⟩
  ·rcases a4s h with h|⟨h1,h2⟩
   ·exact .inl h
   ·exact .inr ⟨Ak _ h1,h2⟩
theorem a1H{cells:List (Str×AB)}:∀{names:List (Str×NameKind)} {acc:List (Str×AB)} {x:Str},x∉names.map (·.1)->(W8 cells names acc).lookup x=acc.lookup x
 |[],_,_,_=>rfl
 |(y,k)::r,acc,x,h=>by
  have h':¬(x=y)/\x∉r.map (·.1):=by simpa using h
  unfold W8
  split
  ·rw [a1H h'.2,List.lookup_cons]
   have e:(x==y)=false:=by simpa using h'.1
   rw [e]
  ·exact a1H h'.2
theorem a07{cells:List (Str×AB)}:∀{names:List (Str×NameKind)} {acc:List (Str×AB)} {x:Str},(names.map (·.1)).Nodup->names.lookup x=some .free->(W8 cells names acc).lookup x=some ((cells.lookup x).getD 0)
 |[],_,_,_,h=>by cases h
 |(y,k)::r,acc,x,nd,h=>by
  have nd':y∉r.map (·.1)/\(r.map (·.1)).Nodup:=List.nodup_cons.mp nd
  rw [List.lookup_cons] at h
  unfold W8
  cases e:x==y with
  |true=>
   rw [e] at h
   have hk:k= .free:=by simpa using h
   subst hk
   have exy:x=y:=by simpa using e
   subst exy
   rw [if_pos (show(NameKind.free==NameKind.free)=true from rfl),a1H nd'.1,List.lookup_cons,e]
  |false=>
   rw [e] at h
   split
   ·exact a07 nd'.2 h
   ·exact a07 nd'.2 h
theorem a0x{env:Env}(f:Str×NameKind->List (Str×AB)->Sem (ForInStep (List (Str×AB))))(hf:∀x k cs,f (x,k) cs=if k== .free then(do let c<-cellOf env x;pure (.yield ((x,c)::cs))) else pure (.yield cs)):
 ∀(names:List (Str×NameKind)) (acc:List (Str×AB)),(∀x∈names,x.2= .free->(env.cells.lookup x.1).isSome=true)->forIn names acc f=pure (W8 env.cells names acc)
 |[],acc,_=>rfl
 |(x,k)::r,acc,h=>by
  rw [List.forIn_cons,hf]
  unfold W8
  have hr:=fun y hy=>h y (Ak _ hy)
  split
  ·rename_i hk
   have:=h (x,k) Am (by simpa using hk)
   obtain⟨c,hc⟩:=Option.isSome_iff_exists.mp this
   unfold cellOf
   rw [hc]
   show forIn r ((x,c)::acc) f=_
   exact a0x f hf r _ hr
  ·exact a0x f hf r acc hr
theorem a7W{scope:Scope}{env:Env}(h:∀x∈scope.names,x.2= .free->(env.cells.lookup x.1).isSome=true):closureFor scope env=pure (W8 env.cells scope.names []):=by
 unfold closureFor
 have e:=a0x (env:=env) (fun(x:Str×NameKind) (cs:List (Str×AB))=>if x.2== .free then(do let c<-cellOf env x.1;pure (.yield ((x.1,c)::cs))) else pure (.yield cs)) (fun _ _ _=>rfl) scope.names [] h
 show(forIn scope.names [] _>>=fun r=>pure r)=_
 refine Eq.trans (congrArg (· >>=fun r=>pure r) (Eq.trans (congrArg (forIn scope.names []) ?_) e)) rfl
 funext x cs
 cases x with
 |mk n k=>cases k<;>rfl
theorem a19{env:Env}{x:Str}:∀{names:List (Str×NameKind)},(names.map fun(p:Str×NameKind)=>if(p.2==NameKind.free && env.scope.kind== .function && env.kindOf p.1==some .cell) then(p.1,NameKind.cell) else(p.1,p.2)).lookup x
 =(names.lookup x).map fun k=>if(k==NameKind.free && env.scope.kind== .function && env.kindOf x==some .cell) then NameKind.cell else k
 |[]=>rfl
 |(n,k)::r=>by
  rw [AI]
  have ih:= @a19 env x r
  show List.lookup x ((if(k==NameKind.free && env.scope.kind== .function && env.kindOf n==some .cell)=true then(n,NameKind.cell) else(n,k))::_)=_
  cases hx:x==n with
  |true=>
   have e:x=n:=by simpa using hx
   subst e
   by_cases c:(k==NameKind.free && env.scope.kind== .function && env.kindOf x==some .cell)=true
   ·rw [if_pos c,List.lookup_cons,hx,List.lookup_cons,hx];exact congrArg some (if_pos c).symm
   ·rw [if_neg c,List.lookup_cons,hx,List.lookup_cons,hx];exact congrArg some (if_neg c).symm
  |false=>
   by_cases c:(k==NameKind.free && env.scope.kind== .function && env.kindOf n==some .cell)=true
   ·rw [if_pos c,List.lookup_cons,hx,List.lookup_cons,hx];exact ih
   ·rw [if_neg c,List.lookup_cons,hx,List.lookup_cons,hx];exact ih
def P7(scope:Scope)(C:AB)(env:Env):Env:=
 {scope:=relabel scope env,locals:=C,globals:=env.globals,cells:=cellsFrom (C+1) scope.names (W8 env.cells scope.names []),qual:=env.qual,func:=none,code:=env.code,frame:=env.frame,builtins:=env.builtins}
def hid(ys:List Str)(x:Str):Str:=if ys.contains x=true then AD "0"++x else x
def D0(X:Cx)(N0:List Str)(scope:Scope)(ys:List Str)(C:AB)(fp:List AB)(pins:List (AB×Obj))(s₃:AC)(H₃:Hp):Cx:=
 {X with N:=N0++ys,s₀:=s₃,H₀:=H₃,env:=P7 scope C X.env,outer:=X.stack,ex:=fp,fn:=fun x=>scope.names.lookup x==some .cell,pn:=X.pn++pins}
theorem Y4{scope:Scope}{C:AB}{env:Env}{x:Str}:(P7 scope C env).kindOf x=(scope.names.lookup x).map fun k=>if(k==NameKind.free && env.scope.kind== .function && env.kindOf x==some .cell) then NameKind.cell else k:=
 a19
structure M8(N N0 ys:List Str)(env:Env)(scope:Scope):Prop where
 eq:N0=N.map (hid ys)
 kind:scope.kind= .function
 nd:(scope.names.map (·.1)).Nodup
 fr:∀x∈scope.names,x.2= .free->env.kindOf x.1=some .cell\/env.kindOf x.1=some .free
 ou:∀x∈N,(ys.contains x=true->scope.names.lookup (hid ys x)=none)/\(ys.contains x=false->scope.names.lookup x=none\/scope.names.lookup x=some .free\/scope.names.lookup x=some .globalImplicit)
theorem G7{α:Type}:∀{l:List (Str×α)} {x:Str} {v:α},(l.map (·.1)).Nodup->(x,v)∈l->l.lookup x=some v
 |[],_,_,_,h=>nomatch h
 |(y,w)::r,x,v,nd,h=>by
  have nd':y∉r.map (·.1)/\(r.map (·.1)).Nodup:=List.nodup_cons.mp nd
  rw [List.lookup_cons]
  rcases Ap.mp h with e|h
  ·cases e;simp
  ·have:x≠y:=fun e=>nd'.1 (by rw [<-e];exact Ag.mpr ⟨_,h,rfl⟩)
   have e:(x==y)=false:=by simpa using this
   rw [e]
   exact G7 nd'.2 h
section
variable {M:Model}{A:AO}{E:AA->AC->Prop}{s:AC}
theorem a2I{scope:Scope}{globals:AB}{cl:List (Str×AB)}{qual:Str}{env:Env}{builtins:AB}{Q:Env->AC->Prop}
 (h:Q (newEnv scope s.heap.objs.size globals (cellsFrom (s.heap.objs.size+1) scope.names cl) qual none .none (some env) builtins) {s with heap:=pushCells (s.heap.push {cls:= .type "dict",data:= .dict #[]}) scope.names}):
 AJ M A (newFunctionEnv scope globals cl [] qual none .none (some env) builtins) Q E s:=by
 simp only [newFunctionEnv,Option.isSome_some,if_true]
 refine AH (wpAny_alloc ?_)
 refine AH (wpAny_layCells _ (fun name kind cells=>by cases hkc:kind==NameKind.cell<;>simp [hkc]) _ _ _ _ ?_)
 rw [show({s with heap:=s.heap.push {cls:= .type "dict",data:= .dict #[]}}:AC).heap.objs.size=s.heap.objs.size+1 from Heap.size_push ..]
 exact AH (AT (AT h))
end
section
variable {prog:AN}{w:AK}{A:AO}{R:Result->AC->Prop}{s:AC}
theorem a2F{elt target iter:AG}{ifs:List AG}{scope:Scope}{pos:Pos}{it acc:AA}{env:Env}(I:Nat->AC->Prop)
 (turn:∀n s,I n s->AJ (model prog w) A (pyNext it) (fun r s₁=>match r with
  |none=>R (.ok .next) s₁
  |some v=>AJ (model prog w) A (letOwnedTupleGo target it v) (fun _ s₁'=>AJ (model prog w) A (assign target env v) (fun _ s₂=>
   AJ (model prog w) A (forIn ifs true fun c r=>if r=true then do let ok<-isTrue c env (eval c env);pure (ForInStep.yield ok) else pure (ForInStep.yield r)) (fun ok s₃=>
    if ok=true then AJ (model prog w) A (eval elt env) (fun x s₄=>
     AJ (model prog w) A (call (.builtin "list.append") [acc,x]) (fun _ s₅=>∃m,m<n/\I m s₅) (fun _ _=>False) s₄) (fun _ _=>False) s₃
    else ∃m,m<n/\I m s₃) (fun _ _=>False) s₂) (fun _ _=>False) s₁') (fun _ _=>False) s₁) (fun _ _=>False) s)
 (n:Nat) (h:I n s):
 codeAny (model prog w) A (.compLoop (.ListComp elt [⟨target,iter,ifs,0⟩] scope pos) 0 it acc env) R s:=by
 refine codeAny_loop rfl I (fun n s hI=> ?_) n h
 show AJ _ A ((compTurn (.ListComp elt [⟨target,iter,ifs,0⟩] scope pos) 0 it acc env).onRaise (fun x=>do noteFrame x env;theTreesLotGoes x)) _ _ s
 refine wpAny_noted ?_
 rw [compTurn_list]
 refine AH (wpAny_standAt (AH (wpAny_mono (turn n s hI) (fun r s₁ h₁=> ?_) fun _ _ h'=>h'.elim)))
 cases r with
 |none=>exact AT h₁
 |some v=>
  refine AH (wpAny_mono h₁ (fun _ s₁' h₁'=> ?_) fun _ _ h'=>h'.elim)
  refine AH (wpAny_mono h₁' (fun _ s₂ h₂=>AH (wpAny_mono h₂ (fun ok s₃ h₃=> ?_) fun _ _ h'=>h'.elim)) fun _ _ h'=>h'.elim)
  cases ok with
  |false=>exact AT ⟨rfl,h₃⟩
  |true=>
   exact AH (AH (wpAny_mono h₃ (fun x s₄ h₄=>AH (wpAny_mono h₄ (fun _ s₅ h₅=>AT (AT ⟨rfl,h₅⟩)) fun _ _ h'=>h'.elim)) fun _ _ h'=>h'.elim))
end
def PCs(X:Cx)(ifs:List AG)(t:TT):Prop:=
 ∀(pins:List (AB×Obj)) (s:AC) (σ:St) (H:Hp) (Q:Bool->Hp->Prop),m9 X pins σ H s->t σ H Q->
  AJ (model X.prog X.w) X.A (forIn ifs true fun c r=>if r=true then do let ok<-isTrue c X.env (eval c X.env);pure (ForInStep.yield ok) else pure (ForInStep.yield r)) (TP X pins σ Q) X.xe s
def b8Y:TT:=fun _ H Q=>Q true H
theorem b3s{X:Cx}:PCs X [] b8Y:=fun pins s σ H Q I h=>wpAny_tests_nil ⟨H,I,h⟩
theorem b7W{X:Cx}{c:AG}{t:TT}(h:PT X c t):PCs X [c] t:=fun pins s σ H Q I hq=>wpAny_tests_one (h pins s σ H Q I hq)
def b3H(wi:TI)(g:TG)(tc:TT)(te:TE)(k:Nat):TE:=fun σ H Q=>wi σ H fun J H1=>∀D,H1 D=none->∃W:Nat->Nat->List V->Hp->Prop,(∃m,W 0 m [] (upd H1 D (.lst [])))/\∀i m xs H2,W i m xs H2->H2 D=some (.lst xs)->
 (J.stop i H2/\Q (.ref D) H2)\/(J.go i H2/\∀x H3,J.yld i H2 x H3->g x (σ++Ac k none) H3 fun σ4 H4=>(∀(j:Nat) v,(σ++Ac k none)[j]?=some (some v)->σ4[j]?=some (some v))/\tc σ4 H4 fun b H5=>if b=true then te σ4 H5 fun v H6=>H6 D=some (.lst xs)/\xs.length<AM/\∃m',m'<m/\W (i+1) m' (xs++[v]) (upd H6 D (.lst (xs++[v])))
  else H5 D=some (.lst xs)/\∃m',m'<m/\W (i+1) m' xs H5)
section
variable {X:Cx}{elt iter tg:AG}{ifs:List AG}{scope:Scope}{N0 ys:List Str}{wi:TI}{g:TG}{tc:TT}{te:TE}{pos:Pos}
theorem a1j{pins:List (AB×Obj)}{σ:St}{H:Hp}{s:AC}(I:m9 X pins σ H s)(S:M8 X.N N0 ys X.env scope){x:Str}(h:(x,NameKind.free)∈scope.names):∃c,X.env.cells.lookup x=some c:=I.ok.has x (S.fr _ h rfl)
theorem b1N{pins:List (AB×Obj)}{σ:St}{H:Hp}{s:AC}{fp:List AB}(S:M8 X.N N0 ys X.env scope)(I:m9 X pins σ H s)(hf:∀b∈fp,a7T X pins H b)(ho:∀b∈fp,∃o,s.heap.get? b=some o/\∀v,o.data≠.cell v):
 m9 (D0 X N0 scope ys s.heap.objs.size fp pins s H) [] (σ++Ac ys.length none) H {s with heap:=pushCells (s.heap.push {cls:= .type "dict",data:= .dict #[]}) scope.names}:=by
 have up:∀b o,s.heap.get? b=some o->(pushCells (s.heap.push {cls:= .type "dict",data:= .dict #[]}) scope.names).get? b=some o:=fun b o e=>pushCells_keeps _ _ b o (An _ e)
 have okc:=cellsFrom_ok scope.names (s.heap.push {cls:= .type "dict",data:= .dict #[]}) (s.heap.objs.size+1) [] ⟨fun _ _ hm=>(nomatch hm),List.Pairwise.nil⟩ (by rw [Heap.size_push];exact Aa _)
 rw [Heap.size_push] at okc
 have cel:∀x c,(P7 scope s.heap.objs.size X.env).cells.lookup x=some c->((x,c)∈cellsFrom (s.heap.objs.size+1) scope.names []/\(x,NameKind.cell)∈scope.names/\s.heap.objs.size<c)\/(X.env.cells.lookup x=some c/\(x,NameKind.free)∈scope.names):=fun x c e=>by
  have m:=PySem.mem_of_lookup e
  have m:(x,c)∈cellsFrom (s.heap.objs.size+1) scope.names (W8 X.env.cells scope.names []):=m
  rw [L3] at m
  rcases BA.mp m with m|m
  ·obtain⟨h1,h2⟩:=Q6 m
   exact .inl ⟨m,h2,h1⟩
  ·rcases a4s m with m|⟨m,e⟩
   ·exact nomatch m
   ·obtain⟨c',hc'⟩:=a1j I S m
    rw [hc'] at e
    exact .inr ⟨by rw [hc',e];rfl,m⟩
 have celLt:∀x c,X.env.cells.lookup x=some c->c<s.heap.objs.size:=fun x c e=>let ⟨_,h⟩:=I.cell x c e;h.lt
 have fpLt:∀b∈fp,b<s.heap.objs.size:=fun b hb=>let ⟨_,e,_⟩:=ho b hb;Ai e
 have cellNo:∀x,(x,NameKind.cell)∉scope.names->(cellsFrom (s.heap.objs.size+1) scope.names []).lookup x=none:=fun x hx=>a7d fun c m=>hx (Q6 m).2
 have look:∀x,(x,NameKind.free)∈scope.names->(P7 scope s.heap.objs.size X.env).cells.lookup x=X.env.cells.lookup x:=fun x m=>by
  have hl:=G7 S.nd m
  have hn:(x,NameKind.cell)∉scope.names:=fun z=>by
   have:=G7 S.nd z
   rw [hl] at this;cases this
  show(cellsFrom (s.heap.objs.size+1) scope.names (W8 X.env.cells scope.names [])).lookup x=_
  rw [L3,a2W (cellNo x hn),a07 S.nd hl]
  obtain⟨c,hc⟩:=a1j I S m
  rw [hc];rfl
 have kindF:∀x,scope.names.lookup x=some .free->X.env.kindOf x=some .cell\/X.env.kindOf x=some .free:=fun x h=>S.fr _ (PySem.mem_of_lookup h) rfl
 refine⟨⟨I.mod,S.kind,I.ok.glob,I.ok.blt,Aa _,fun x y c h1 h2=> ?_,fun x h=> ?_,fun x c h1 h2=> ?_,I.ok.hd,I.ok.frames,.inl rfl,fun b hb=> ?_,I.bs,Nat.le_trans I.ok.bsz I.sz,fun b o e hb=> ?_,fun b hb hz=> ?_,I.stack,I.stkFree⟩,
  rfl,I.bare,Un.kept up,⟨fun _=>none, ?_,fun i x v h1 h2 h3=> ?_⟩,fun x c e=> ?_,I.hok.fresh (Aa _),fun x c e=> ?_,fun p hp=> ?_,I.hok.kept up, ?_⟩
 ·rcases cel x c h1 with⟨a1,b1,c1⟩|⟨a1,b1⟩
  ·rcases cel y c h2 with⟨a2,b2,c2⟩|⟨a2,b2⟩
   ·exact name_of_addr okc.apart a1 a2
   ·exact absurd (Nat.lt_trans c1 (celLt y c a2)) (Nat.lt_irrefl _)
  ·rcases cel y c h2 with⟨a2,b2,c2⟩|⟨a2,b2⟩
   ·exact absurd (Nat.lt_trans c2 (celLt x c a1)) (Nat.lt_irrefl _)
   ·exact I.ok.inj x y c a1 a2
 ·have hk:(P7 scope s.heap.objs.size X.env).kindOf x=some .cell\/(P7 scope s.heap.objs.size X.env).kindOf x=some .free:=h
  rw [Y4] at hk
  cases e:scope.names.lookup x with
  |none=>rw [e] at hk;rcases hk with z|z<;>cases z
  |some k=>
   rw [e] at hk
   have hk':k= .cell\/k= .free:=by
    by_cases c:(k==NameKind.free && X.env.scope.kind== .function && X.env.kindOf x==some .cell)=true
    ·have:(k==NameKind.free)=true:=by
      rw [Bool.and_eq_true,Bool.and_eq_true] at c;exact c.1.1
     exact .inr (by simpa using this)
    ·simp only [Ao] at hk
     rw [if_neg c] at hk
     rcases hk with z|z
     ·cases z;exact .inl rfl
     ·cases z;exact .inr rfl
   rcases hk' with rfl|rfl
   ·have q:=PySem.W.cellsFrom_some (x:=x) scope.names (s.heap.objs.size+1) (W8 X.env.cells scope.names []) (.inl e)
    exact Option.isSome_iff_exists.mp q
   ·obtain⟨c,hc⟩:=a1j I S (PySem.mem_of_lookup e)
    exact⟨c,by show(P7 scope s.heap.objs.size X.env).cells.lookup x=_;rw [look x (PySem.mem_of_lookup e)];exact hc⟩
 ·rcases cel x c h2 with⟨_,_,c1⟩|⟨_,b1⟩
  ·exact BD c1
  ·have h1':(scope.names.lookup x==some .cell)=true:=h1
   rw [G7 S.nd b1] at h1'
   cases h1'
 ·refine⟨Ar (fpLt b hb),fun x c e z=> ?_⟩
  rcases cel x c e with⟨_,_,c1⟩|⟨a1,_⟩
  ·rw [z] at c1;exact absurd (Nat.lt_trans c1 (fpLt b hb)) (Nat.lt_irrefl _)
  ·exact(hf b hb).2.2.2.2.1 x c a1 z
 ·have hb:b∈fp:=hb
  rcases(hf b hb).2.2.2.1 with z|z
  ·exact I.ok.noex b o e z
  ·have h1:=(I.ok.bs b o e).1
   have:=Ai h1
   exact absurd (Av this z) (Nat.lt_irrefl _)
 ·have hb:b∈fp:=hb
  have hz:b∈frs X.stack:=hz
  rcases Ap.mp (I.stkSub b hz) with z|z
  ·exact(hf b hb).2.1 z
  ·exact(hf b hb).2.2.1 z
 ·exact(Heap.Ns.new s.heap (.type "dict")).keeps (pushCells_keeps _ _)
 ·have h1:(N0++ys)[i]?=some x:=h1
  rw [S.eq] at h1
  have hi:i<σ.length:=by
   by_cases hi:i<σ.length
   ·exact hi
   ·rw [List.getElem?_append_right (by lia),List.getElem?_replicate] at h2
    split at h2<;>cases h2
  rw [BC hi] at h2
  rw [BC (by rw [Ae,<-I.len];exact hi),Au] at h1
  have hvis:Vis (P7 scope s.heap.objs.size X.env).scope x:=h3
  have hkn:scope.names.lookup x=none->False:=fun z=>by
   have hk:∀k,(P7 scope s.heap.objs.size X.env).kindOf x=some k->scope.names.lookup x≠none:=fun k z e=>by
    rw [Y4,e] at z;cases z
   rcases hvis with e|e|e<;>exact absurd z (hk _ e)
  have h1:X.N[i]?=some x/\ys.contains x=false:=by
   cases e0:X.N[i]? with
   |none=>rw [e0] at h1;cases h1
   |some x0=>
    rw [e0] at h1
    have h1:hid ys x0=x:=Option.some.inj h1
    have ho:=S.ou x0 (BB e0)
    cases hc:ys.contains x0 with
    |true=>exact(hkn (by rw [<-h1];exact ho.1 hc)).elim
    |false=>
     have hx:x0=x:=by rw [<-h1];unfold hid;rw [if_neg (by rw [hc];exact Al)]
     subst hx
     exact⟨rfl,hc⟩
  obtain⟨h1,hys⟩:=h1
  have hfree:scope.names.lookup x=some .free:=by
   have hk:∀k,(P7 scope s.heap.objs.size X.env).kindOf x=some k->scope.names.lookup x≠none:=fun k z e=>by
    rw [Y4,e] at z;cases z
   rcases(S.ou x (BB h1)).2 hys with z|z|z
   ·rcases hvis with e|e|e<;>exact absurd z (hk _ e)
   ·exact z
   ·have hg:(P7 scope s.heap.objs.size X.env).kindOf x=some .globalImplicit:=by
     rw [Y4,z];rfl
    rcases hvis with e|e|e
    ·have e:(P7 scope s.heap.objs.size X.env).kindOf x=some .local:=e
     rw [hg] at e;cases e
    ·have e:(P7 scope s.heap.objs.size X.env).kindOf x=some .cell:=e
     rw [hg] at e;cases e
    ·have e:(P7 scope s.heap.objs.size X.env).kindOf x=some .free:=e
     rw [hg] at e;cases e
  obtain⟨m,hn,hl⟩:=I.loc
  have hv:Vis X.env.scope x:=by
   rcases kindF x hfree with z|z
   ·exact .inr (.inl z)
   ·exact .inr (.inr z)
  obtain⟨u,r,l⟩:=hl i x v h1 h2 hv
  refine⟨u,r, ?_⟩
  rcases l with⟨k,_⟩|⟨k,c,e,z⟩
  ·rcases kindF x hfree with q|q<;>rw [q] at k<;>cases k
  ·refine .inr ⟨?_,c,by show(P7 scope s.heap.objs.size X.env).cells.lookup x=_;rw [look x (PySem.mem_of_lookup hfree)];exact e,z.keeps up⟩
   show(P7 scope s.heap.objs.size X.env).kindOf x=some .cell\/(P7 scope s.heap.objs.size X.env).kindOf x=some .free
   rw [Y4,hfree]
   by_cases cc:((NameKind.free==NameKind.free)&& X.env.scope.kind== .function && X.env.kindOf x==some .cell)=true
   ·exact .inl (congrArg some (if_pos cc))
   ·exact .inr (congrArg some (if_neg cc))
 ·rcases cel x c e with⟨a1,_,_⟩|⟨a1,_⟩
  ·exact⟨none,(okc.empty x c a1).1⟩
  ·obtain⟨v,z⟩:=I.cell x c a1
   exact⟨v,z.keeps up⟩
 ·rcases cel x c e with⟨_,_,c1⟩|⟨a1,_⟩
  ·exact I.hok.fresh (BD c1)
  ·exact I.freeC x c a1
 ·have hp:p∈(X.pn++pins)++[]:=hp
  rw [Af] at hp
  obtain⟨e,n,ne,nf,d⟩:=I.pin p hp
  refine⟨up _ _ e,n,Ar (Ai e),fun hz=> ?_,d⟩
  have hz:p.1∈frs X.stack:=hz
  rcases Ap.mp (I.stkSub p.1 hz) with z|z
  ·exact ne z
  ·exact nf z
 ·show(σ++Ac ys.length none).length=(N0++ys).length
  rw [Ah,List.length_replicate,Ah,S.eq,Ae,I.len]
end
section
variable {X:Cx}{elt iter tg:AG}{ifs:List AG}{scope:Scope}{N0 ys:List Str}{wi:TI}{g:TG}{tc:TT}{te:TE}{pos:Pos}
def b4L(X:Cx)(pins:List (AB×Obj))(C:AB):Prop:=C≠X.env.locals/\X.s₀.heap.objs.size<=C/\(∀x c,X.env.cells.lookup x=some c->c≠C)/\∀p∈X.pn++pins,p.1≠C
theorem a8q{pos':Pos}{use:Option (AA->Sem Unit)}{QQ:AA->AC->Prop}(hx:∀e s,X.xe e s->False)(hc:X.calm=true)(S:M8 X.N N0 ys X.env scope)(hi:PI X tg iter wi)
 (hg:∀C fp pins s H,PG (D0 X N0 scope ys C fp pins s H) tg g) (ht:∀C fp pins s H,PCs (D0 X N0 scope ys C fp pins s H) ifs tc) (he:∀C fp pins s H,PE (D0 X N0 scope ys C fp pins s H) elt te)
 (hs:∀x,foldedSetIterable iter X.env x=pure x) {pins:List (AB×Obj)} {s:AC} {σ:St} {H:Hp} {Q:VK} (I:m9 X pins σ H s) (h:b3H wi g tc te ys.length σ H Q)
 (fin:∀D C s' H' m,m9 X pins σ H' s'->s'.heap.Ns C m->H' C=none->b4L X pins C->Q (.ref D) H'->compPost (model X.prog X.w) X.A X.xe use QQ (.ref D) C (.ok .next) s'):
 AJ (model X.prog X.w) X.A (comprehension (.ListComp elt [⟨tg,iter,ifs,0⟩] scope pos) scope X.env pos' (newList []) false (eval iter X.env) use) QQ X.xe s:=by
 have hcl:closureFor scope X.env=pure (W8 X.env.cells scope.names []):=a7W fun x hx' hk=>by
  obtain⟨c,e⟩:=a1j (ys:=ys) I S (x:=x.1) (by rw [<-hk];exact hx')
  rw [e];rfl
 refine wpAny_comprehension_free (use:=use) rfl hs hcl S.kind (fun x hx' hk=>G7 S.nd (by rw [<-hk];exact hx')) (M7 (hi pins s σ H _ I h) fun v s1 h1=>M7 h1 fun itv s2 h2=> ?_)
 obtain⟨it,fp,tn,J,H2,e,I2,T,st2,f2,hW⟩:=h2
 subst e
 have hfr:=I2.hok.fresh (Aa _)
 obtain⟨W,⟨m0,w0⟩,turn⟩:=hW s2.heap.objs.size hfr
 have fpLt:∀b∈fp,b<s2.heap.objs.size:=fun b hb=>let ⟨_,e,_⟩:=T.obj _ _ st2 b hb;Ai e
 refine wpAny_newObj_type ?_
 have I3:m9 X pins σ (upd H2 s2.heap.objs.size (.lst [])) {s2 with heap:=s2.heap.push {cls:= .type "list",data:= .seq ([]:List AA).toArray}}:=
  I2.laid (t':=s2.toks) (fun b o e=>An _ e) (Aa _) ⟨by decide,[],0,.nil,As _ rfl⟩
 have up3:∀b o,s2.heap.get? b=some o->(s2.heap.push {cls:= .type "list",data:= .seq ([]:List AA).toArray}).get? b=some o:=fun b o e=>An _ e
 have st3:tn 0 (s2.heap.push {cls:= .type "list",data:= .seq ([]:List AA).toArray}):=T.keep _ _ _ st2 fun b _ o e=>up3 b o e
 have f3:∀b∈fp,a7T X pins (upd H2 s2.heap.objs.size (.lst [])) b:=fun b hb=>⟨by rw [j9 (Ar (fpLt b hb))];exact(f2 b hb).1,(f2 b hb).2⟩
 generalize hs3:({s2 with heap:=s2.heap.push {cls:= .type "list",data:= .seq ([]:List AA).toArray}}:AC)=s3 at I3
 have hs3h:s3.heap=s2.heap.push {cls:= .type "list",data:= .seq ([]:List AA).toArray}:=by rw [<-hs3]
 rw [<-hs3h] at st3 up3
 refine a2I ?_
 have I4:=b1N S I3 f3 (T.obj _ _ st3)
 generalize hs4:({s3 with heap:=pushCells (s3.heap.push {cls:= .type "dict",data:= .dict #[]}) scope.names}:AC)=s4 at I4 ⊢
 have hs4h:s4.heap=pushCells (s3.heap.push {cls:= .type "dict",data:= .dict #[]}) scope.names:=by rw [<-hs4]
 have st4:tn 0 s4.heap:=T.keep _ _ _ st3 fun b _ o e=>by rw [hs4h];exact pushCells_keeps _ _ b o (An _ e)
 generalize hX:D0 X N0 scope ys s3.heap.objs.size fp pins s3 (upd H2 s2.heap.objs.size (.lst []))=Y at I4
 have Yp:Y.prog=X.prog:=by rw [<-hX];rfl
 have Yw:Y.w=X.w:=by rw [<-hX];rfl
 have YK:Y.K=X.K:=by rw [<-hX];rfl
 have YA:Y.A=X.A:=by rw [<-hX];rfl
 have Yc:Y.calm=true:=by rw [<-hX];exact hc
 have Yx:Y.xe=X.xe:=by rw [<-hX];rfl
 have YL:Y.env.locals=s3.heap.objs.size:=by rw [<-hX];rfl
 have Yf:Y.fs=frs X.stack:=by rw [<-hX];rfl
 have Ye:Y.ex=fp:=by rw [<-hX];rfl
 have Yn:Y.pn=X.pn++pins:=by rw [<-hX];rfl
 have Ys:Y.s₀=s3:=by rw [<-hX];rfl
 have YH:Y.H₀=upd H2 s2.heap.objs.size (.lst []):=by rw [<-hX];rfl
 have YE:Y.env=P7 scope s3.heap.objs.size X.env:=by rw [<-hX];rfl
 have hgY:PG Y tg g:=by rw [<-hX];exact hg _ _ _ _ _
 have htY:PCs Y ifs tc:=by rw [<-hX];exact ht _ _ _ _ _
 have heY:PE Y elt te:=by rw [<-hX];exact he _ _ _ _ _
 have nlen:(σ++Ac ys.length none).length=Y.N.length:=I4.len
 have exf:=I4.ok.exf
 have exfs:=I4.ok.exfs
 have stat:∀{H':Hp},(∀b∈fp,H' b=none)->∀b∈fp,a7T Y [] H' b:=fun {H'} hn b hb=>by
  have hb':b∈Y.ex:=by rw [Ye];exact hb
  refine⟨hn b hb,(exf b hb').1,exfs b hb',.inl hb',(exf b hb').2,fun p hp=> ?_⟩
  rw [Af,Yn] at hp
  exact(f2 b hb).2.2.2.2.2 p hp
 have TY:b1H Y.prog Y.w Y.K tg J fp it tn:=by rw [Yp,Yw,YK];exact T
 have noX:∀e s,Y.xe e s->False:=fun e s h=>hx e s (by rw [<-Yx];exact h)
 have loop:∀R:Result->AC->Prop,(∀s' H' m,m9 X pins σ H' s'->s'.heap.Ns s3.heap.objs.size m->H' s3.heap.objs.size=none->b4L X pins s3.heap.objs.size->Q (.ref s2.heap.objs.size) H'->R (.ok .next) s')->
  codeAny (model X.prog X.w) X.A (.compLoop (.ListComp elt [⟨tg,iter,ifs,0⟩] scope pos) 0 (.ref it) (.ref s2.heap.objs.size) (P7 scope s3.heap.objs.size X.env)) R s4:=by
  intro R hR
  refine a2F (fun n s'=>∃i xs H' σ',m9 Y [] σ' H' s'/\(∀(j:Nat) v,(σ++Ac ys.length none)[j]?=some (some v)->σ'[j]?=some (some v))/\tn i s'.heap/\(∀b∈fp,H' b=none)/\H' s2.heap.objs.size=some (.lst xs)/\W i n xs H') ?_ m0
   ⟨0,[],_,_,I4,fun _ _ e=>e,st4,fun b hb=>(f3 b hb).1,n0,w0⟩
  rintro n s5 ⟨i,xs,H5,σ5,I5,k5,st5,fr5,hD5,w5⟩
  have I5:m9 Y [] (σ++Ac ys.length none) H5 s5:=I5.weak (by rw [nlen,I5.len]) k5
  rw [<-Yp,<-Yw,<-YA]
  rcases turn i n xs H5 w5 hD5 with⟨stop,q⟩|⟨go,step⟩
  ·refine wpAny_mono (TY.done Y rfl rfl rfl Yc i [] s5 _ H5 (fun _ _=>False) I5 (stat fr5) st5 stop) (fun r s6 ⟨hr,I6⟩=> ?_) fun _ _ z=>z
   subst hr
   obtain⟨m,hn,_⟩:=I6.loc
   have un:=I6.base
   rw [Yf,Ye,Ys,YH] at un
   rw [YL] at hn
   have hfC:=I6.free
   rw [YL] at hfC
   refine hR s6 H5 m (I3.call' (ch:=fp) (by rw [I6.os,Ys]) un (by have z:=I6.hok;rw [Yp,Yw] at z;exact z) I6.bare fun b hb=>⟨(f3 b hb).2.2.2.1,(f3 b hb).2.1,(f3 b hb).2.2.2.2.1,(f3 b hb).2.2.2.2.2⟩) hn hfC ⟨Nat.ne_of_gt I3.lt,I3.sz,fun x c e=> ?_,fun p hp=> ?_⟩ q
   ·obtain⟨v,z⟩:=I3.cell x c e
    exact Ar z.lt
   ·exact Ar (Ai (I3.pin p hp).1)
  ·refine wpAny_mono (TY.item Y rfl rfl rfl Yc i [] s5 _ H5 (fun _ _=>False) I5 (stat fr5) st5 go) (fun r s6 ⟨u,hr,h6⟩=> ?_) fun _ _ z=>z
   subst hr
   dsimp only
   refine wpAny_mono h6 (fun _ s7 ⟨x,H7,I7,r7,y7,st7,fr7⟩=> ?_) fun _ _ z=>z
   have I7':=I7.pinned (stat fr7) (T.obj _ _ st7)
   rw [<-YE]
   have keepT:∀{σ8:St} {H8:Hp} {s8:AC},m9 Y ([]++a7w fp s7.heap) σ8 H8 s8->tn (i+1) s8.heap/\∀b∈fp,H8 b=none:=fun {σ8 H8 s8} I8=>by
    refine⟨T.keep _ _ _ st7 fun b hb o e=>(I8.pin (b,o) (Ay _ (Ay _ (Z5 hb e)))).1,fun b hb=> ?_⟩
    obtain⟨o,e,d⟩:=T.obj _ _ st7 b hb
    exact(I8.pin (b,o) (Ay _ (Ay _ (Z5 hb e)))).2.1
   refine wpAny_mono (hgY _ s7 _ H7 x u _ I7' r7 (step x H7 y7)) (fun _ s8 h0=>u3 h0 fun σ8 H8 I8 k8 q8=> ?_) fun e s z=>noX e s z
   refine wpAny_mono (htY _ s8 σ8 H8 _ I8 q8) (fun b s9 ⟨H9,I9,q9⟩=> ?_) fun e s z=>noX e s z
   cases b with
   |false=>
    rw [if_neg Al] at q9 ⊢
    obtain⟨hD9,m',lt,w9⟩:=q9
    obtain⟨t9,n9⟩:=keepT I9
    exact⟨m',lt,i+1,xs,H9,σ8,I9.pins_of (fun p hp=>nomatch hp),k8,t9,n9,hD9,w9⟩
   |true=>
    rw [if_pos rfl] at q9 ⊢
    refine wpAny_mono (heY _ s9 σ8 H9 _ I9 q9) (fun y s10 ⟨v,H10,I10,r10,hD10,hz,m',lt,w10⟩=> ?_) fun e s z=>noX e s z
    refine wpAny_mono (a2A _ s10 σ8 H10 (.ref s2.heap.objs.size) [v] (.ref s2.heap.objs.size) [y] (fun _ H'=>H'=upd H10 s2.heap.objs.size (.lst (xs++[v]))) I10 rfl (.cons r10 .nil) ⟨_,xs,v,rfl,rfl,hD10,hz,rfl⟩) (fun _ s11 h0=>u3 h0 fun _ H11 I11 _ e11=> ?_) fun e s z=>noX e s z
    subst e11
    obtain⟨t11,n11⟩:=keepT I11
    exact⟨m',lt,i+1,xs++[v],_,σ8,I11.pins_of (fun p hp=>nomatch hp),k8,t11,n11,n0,w10⟩
 show codeAny _ _ (.compStart _ 0 _ _ (P7 scope s3.heap.objs.size X.env)) _ _
 refine codeAny_compStart_list (loop _ fun s' H' m a b c d e=>fin _ _ s' H' m a b c d e) (T.self _ 0 _ _ _ st4 (loop _ fun s' H' m a b c d e=>fin _ _ s' H' m a b c d e))
end
section
variable {X:Cx}{elt iter tg:AG}{ifs:List AG}{scope:Scope}{N0 ys:List Str}{wi:TI}{g:TG}{tc:TT}{te:TE}{pos:Pos}
theorem b3u(hx:∀e s,X.xe e s->False)(hc:X.calm=true)(S:M8 X.N N0 ys X.env scope)(hi:PI X tg iter wi)
 (hg:∀C fp pins s H,PG (D0 X N0 scope ys C fp pins s H) tg g) (ht:∀C fp pins s H,PCs (D0 X N0 scope ys C fp pins s H) ifs tc) (he:∀C fp pins s H,PE (D0 X N0 scope ys C fp pins s H) elt te)
 (hs:∀x,foldedSetIterable iter X.env x=pure x:=by intro _;rfl):PE X (.ListComp elt [⟨tg,iter,ifs,0⟩] scope pos) (b3H wi g tc te ys.length):=by
 intro pins s σ H Q I h
 rw [eval_ListComp]
 refine a8q hx hc S hi hg ht he hs I h fun D C s' H' m I' hn hC gone q=>⟨m,hn,fun h' hs'=>⟨.ref D,H', ?_,rfl,q⟩⟩
 obtain⟨g1,g2,g3,g4⟩:=gone
 exact I'.turned (t':=s'.toks) (fun b o hb e=>hs'.extBut b o hb e) hC g1 (.inr g2) g3 g4
theorem b75{i:Nat}{y:Str}{py spos:Pos}(hx:∀e s,X.xe e s->False)(hc:X.calm=true)(S:M8 X.N N0 ys X.env scope)(hi:PI X tg iter wi)
 (hg:∀C fp pins s H,PG (D0 X N0 scope ys C fp pins s H) tg g) (ht:∀C fp pins s H,PCs (D0 X N0 scope ys C fp pins s H) ifs tc) (he:∀C fp pins s H,PE (D0 X N0 scope ys C fp pins s H) elt te)
 (hN:X.N.Nodup) (hiy:X.N[i]?=some y) (hy:X.env.scope.names.lookup y=some .local)
 (hsw:swapsWith (.ListComp elt [⟨tg,iter,ifs,0⟩] scope pos) (some (.Name y py)) spos.line X.env=pure true)
 (hs:∀x,foldedSetIterable iter X.env x=pure x:=by intro _;rfl):PS X (.Assign [.Name y py] (.ListComp elt [⟨tg,iter,ifs,0⟩] scope pos) spos) (fun D σ H=>b3H wi g tc te ys.length σ H fun v H'=>D.nx (σ.set i (some v)) H'):=by
 intro pins s σ H D I h
 rw [exec_Assign_Name_used _ _ _ _ hsw]
 refine AH (wpAny_standAt (AH ?_))
 show AJ _ X.A (do let _<-comprehension (.ListComp elt [⟨tg,iter,ifs,0⟩] scope pos) scope X.env _ (newList []) false (eval iter X.env) (some (assign (.Name y py) X.env))) _ _ s
 refine AH (wpAny_mono (a8q (QQ:=fun _ s'=>SP X pins D .next s') hx hc S hi hg ht he hs I h fun L C s' H' m I' hn hC gone q=> ?_) (fun _ s' hq=>AT (AT hq)) fun _ _ e=>e)
 obtain⟨g1,g2,g3,g4⟩:=gone
 show AJ _ X.A (assign (.Name y py) X.env (.ref L)) _ _ _
 refine wpAny_assign_Name (a8Z (v:= .ref L) I' hN hiy (.inl hy) rfl (fun s2 I2 ⟨a,sb,ha⟩=> ?_) (.inr hy))
 have hCa:C≠a:=by
  rcases ha with z|z
  ·rw [z];exact g1
  ·exact fun e=>g3 y a z e.symm
 refine⟨m,hn.sameBut sb hCa,fun h' hs'=>⟨_,H',I2.turned (t':=s2.toks) (fun b o hb e=>hs'.extBut b o hb e) hC g1 (.inr g2) g3 g4,q⟩⟩
end
end L2
namespace PU
open PySem PySem.Spec PyProof.Rows L2
def a2O(c:MT)(elt:M)(tg:PV->c6->Option c6)(ρ:c6):List PV->Option (List PV)
 |[]=>some []
 |p::ps=>(tg p ρ).bind fun ρ1=>(c ρ1).bind fun b=>if b=true then((elt ρ1).bind i7.toVal).bind fun q=>(a2O c elt tg ρ ps).bind fun r=>some (q::r) else a2O c elt tg ρ ps
def a0o:MT:=fun _=>some true
def D5(k:Nat)(it:MI)(tg:PV->c6->Option c6)(c:MT)(elt:M):M:=fun ρ=>(it ρ).bind fun ps=>if ps.length<=AM then(a2O c elt tg (ρ++Ac k none) ps).bind fun r=>some (.own r) else none
def a8f(K:AE)(n:Nat)(g:TG)(tg:PV->c6->Option c6):Prop:=
 ∀F H σ ρ ρ1 p x (Q:L2.St->Hp->Prop),J0 K F H σ ρ->E7 K F p x->tg p ρ=some ρ1->(∀σ',J0 K F H σ' ρ1->(∀(j:Nat),j<n->σ'[j]?=σ[j]?)->Q σ' H)->g x σ H Q
theorem J0.set{K:AE}{F H:Hp}{σ:L2.St}{ρ:c6}{p:PV}{x:V}(e:J0 K F H σ ρ)(r:E7 K F p x)(i:Nat):J0 K F H (σ.set i (some x)) (ρ.set i (some (.val p))):=by
 refine⟨e.fh,by simp [e.len],fun j q h=> ?_,fun j ps h=> ?_,fun j k ps qs a hjk h1 h2 h3 h4=> ?_⟩
 ·rw [List.getElem?_set] at h ⊢
  by_cases hij:i=j
  ·subst hij
   rw [if_pos rfl] at h ⊢
   rw [e.len]
   split at h
   ·rename_i c;cases h;rw [if_pos c];exact⟨x,rfl,r⟩
   ·cases h
  ·rw [if_neg hij] at h ⊢;exact e.at_ j q h
 ·rw [List.getElem?_set] at h
  by_cases hij:i=j
  ·subst hij
   rw [if_pos rfl] at h
   split at h<;>cases h
  ·rw [if_neg hij] at h;exact e.nb j ps h
 ·have get:∀(j:Nat) (ps:X2),(ρ.set i (some (i7.val p)))[j]?=some (some (i7.ow ps))->i≠j/\ρ[j]?=some (some (i7.ow ps)):=fun j ps h=>by
   rw [List.getElem?_set] at h
   by_cases hij:i=j
   ·subst hij
    rw [if_pos rfl] at h
    split at h<;>cases h
   ·rw [if_neg hij] at h;exact⟨hij,h⟩
  obtain⟨n1,h1⟩:=get j ps h1
  obtain⟨n2,h2⟩:=get k qs h2
  rw [List.getElem?_set_ne n1] at h3
  rw [List.getElem?_set_ne n2] at h4
  exact e.ap j k ps qs a hjk h1 h2 h3 h4
theorem z6{K:AE}{n i:Nat}(h:n<=i):a8f K n (a62 i) (g5 i):=fun F H σ ρ ρ1 p x Q e r q k=>by
 cases q
 exact k _ (e.set r i) fun j hj=>by rw [List.getElem?_set_ne (by lia)]
theorem J0.more{K:AE}{F H:Hp}{σ:L2.St}{ρ:c6}(e:J0 K F H σ ρ)(k:Nat):J0 K F H (σ++Ac k none) (ρ++Ac k none):=by
 have key:∀(j:Nat) (q:i7),(ρ++Ac k none)[j]?=some (some q)->ρ[j]?=some (some q)/\(σ++Ac k none)[j]?=σ[j]?:=fun j q h=>by
  by_cases hj:j<ρ.length
  ·rw [BC hj] at h
   rw [BC (by rw [e.len];exact hj)]
   exact⟨h,rfl⟩
  ·rw [List.getElem?_append_right (by lia),List.getElem?_replicate] at h
   split at h<;>cases h
 refine⟨e.fh,by simp [e.len],fun j q h=> ?_,fun j ps h=>e.nb j ps (key j _ h).1,fun j k' ps qs a hjk h1 h2 h3 h4=> ?_⟩
 ·obtain⟨h1,h2⟩:=key j q h
  rw [h2];exact e.at_ j q h1
 ·obtain⟨a1,b1⟩:=key j _ h1
  obtain⟨a2,b2⟩:=key k' _ h2
  rw [b1] at h3
  rw [b2] at h4
  exact e.ap j k' ps qs a hjk a1 a2 h3 h4
def WC(K:AE)(F H:Hp)(D:AB)(c:MT)(elt:M)(tg:PV->c6->Option c6)(ρ:c6)(ps r:List PV)(i m:Nat)(xs:List V)(H':Hp):Prop:=
 ∃F' done rest,i<=ps.length/\m=ps.length - i/\Ext F H F' H'/\F' D=none/\p8 K F' done xs/\done.length<=i/\a2O c elt tg ρ (ps.drop i)=some rest/\done++rest=r
theorem b3X{K:AE}{F H:Hp}{D:AB}{c:MT}{elt:M}{tg:PV->c6->Option c6}{g:TG}{σ:L2.St}{ρ:c6}{k:Nat}{ps r:List PV}{i m:Nat}{xs:List V}{H':Hp}{p:PV}{x:V}
 (T:a8f K ρ.length g tg) (en:J0 K F H σ ρ) (hD:H D=none) (hsz:ps.length<=AM) (W:WC K F H D c elt tg (ρ++Ac k none) ps r i m xs H') (hx:H' D=some (.lst xs)) (ep:ps[i]?=some p) (rx:E7 K F p x):
 g x (σ++Ac k none) H' fun σ4 H4=>(∀(j:Nat) v,(σ++Ac k none)[j]?=some (some v)->σ4[j]?=some (some v))/\tMT K c σ4 H4 fun b H5=>if b=true then tM K elt σ4 H5 fun v H6=>H6 D=some (.lst xs)/\xs.length<AM/\∃m',m'<m/\WC K F H D c elt tg (ρ++Ac k none) ps r (i+1) m' (xs++[v]) (upd H6 D (.lst (xs++[v])))
  else H5 D=some (.lst xs)/\∃m',m'<m/\WC K F H D c elt tg (ρ++Ac k none) ps r (i+1) m' xs H5:=by
 obtain⟨F',done,rest,hi,hm,ex,fD,rl,dl,hc,hr⟩:=W
 have hk:i<ps.length:=(At.mp ep).1
 have hd:ps.drop i=p::ps.drop (i+1):=by
  rw [List.drop_eq_getElem_cons hk]
  congr 1
  exact(At.mp ep).2
 rw [hd] at hc
 unfold a2O at hc
 obtain⟨ρ1,e1,hc⟩:=bind_some hc
 obtain⟨b,e2,hc⟩:=bind_some hc
 have en':=(en.ext ex).more k
 refine T F' H' _ _ ρ1 p x _ en' (E7.mono ex.f _ rx) e1 fun σ4 en4 keep=>⟨fun j v e=> ?_, ?_⟩
 ·by_cases hj:j<ρ.length
  ·rw [keep j hj];exact e
  ·rw [List.getElem?_append_right (by rw [en.len];lia),List.getElem?_replicate] at e
   split at e<;>cases e
 refine⟨F',ρ1,b,en4,e2,fun F5 H5 x5=> ?_⟩
 have ex5:=ex.trans x5
 have fD5:F5 D=none:=x5.nw D _ fD hx (fun _ h=>nomatch h)
 cases b with
 |false=>
  rw [if_neg Al] at hc
  refine a9A ⟨x5.h _ _ hx,ps.length - (i+1),by lia,F5,done,rest,by lia,rfl,ex5,fD5,p8.mono x5.f _ rl,by lia,hc,hr⟩
 |true=>
  rw [if_pos rfl] at hc
  obtain⟨q,e3,hc⟩:=bind_some hc
  obtain⟨rt,e4,hc⟩:=bind_some hc
  cases hc
  obtain⟨re,e5,e6⟩:=bind_some e3
  refine b0S ⟨F5,ρ1,re,en4.ext x5,e5,fun v F6 H6 o6=> ?_⟩
  obtain⟨F7,o7⟩:=o6.toVal e6
  have hx6:H6 D=some (.lst xs):=o6.x.h _ _ (x5.h _ _ hx)
  have fD7:F7 D=none:=o7.x.nw D _ fD5 (x5.h _ _ hx) (fun _ h=>nomatch h)
  have ex7:=ex5.trans o7.x
  have hlen:=rl.length
  refine⟨hx6,by lia,ps.length - (i+1),by lia,F7,done++[q],rt,by lia,rfl,⟨ex7.f,fun a o z=> ?_,fun a o z=> ?_,ex7.nw,ex7.nf⟩,fD7,p8.append (p8.mono (x5.f.trans o7.x.f) _ rl) ⟨v,[],rfl,o7.rep,rfl⟩,by simp;lia,e4,by rw [List.append_assoc];exact hr⟩
  ·rw [j9 (r9 z hD)];exact ex7.h _ _ z
  ·rw [j9 (r9 z fD7)];exact ex7.fh _ _ z
theorem b45{K:AE}{F H:Hp}{D:AB}{c:MT}{elt:M}{tg:PV->c6->Option c6}{ρ:c6}{ps r:List PV}{m:Nat}{xs:List V}{H':Hp}(hD:H D=none)(W:WC K F H D c elt tg ρ ps r ps.length m xs H')(hx:H' D=some (.lst xs)):∃F',B9 K F H F' H' (.ref D) (.own r):=by
 obtain⟨F',done,rest,hi,hm,ex,fD,rl,dl,hc,hr⟩:=W
 rw [List.drop_length] at hc
 cases hc
 rw [Af] at hr
 subst hr
 exact⟨F',ex,⟨D,xs,rfl,fD,hx,rl⟩,fun _ _ _ e=>by cases e;exact hD⟩
structure Src(K:AE)(F0 F H:Hp)(J:It)(ps:List PV):Prop where
 st:∀i H',r6 H H'->ps.length<=i->J.stop i H'
 go:∀i p H',r6 H H'->ps[i]?=some p->J.go i H'
 yd:∀i p x H' H'',r6 H H'->ps[i]?=some p->J.yld i H' x H''->H''=H'/\E7 K F p x
def SI(K:AE)(mi:MI)(wi:TI):Prop:=∀F H σ ρ ps (R:It->Hp->Prop),J0 K F H σ ρ->mi ρ=some ps->(∀F1 H1 J,Ext F H F1 H1->Src K F F1 H1 J ps->R J H1)->wi σ H R
abbrev EI(X:Cx)(tg iter:AG)(mi:MI):Prop:=∃wi,PI X tg iter wi/\SI X.K mi wi
section
variable {X:Cx}{tg:AG}
def y8(m:M):MI:=fun ρ=>(m ρ).bind fun r=>PyData.items? r.rd
theorem V6{l:AG}{m:M}(h:EE X l m):EI X tg l (y8 m):=⟨_,b6k h,fun F H σ ρ ps R en e k=>by
 obtain⟨r,e1,e2⟩:=bind_some e
 refine⟨F,ρ,r,en,e1,fun v F1 H1 o1=> ?_⟩
 obtain⟨a,xs,rfl,hq,rl⟩:=T8 o1.x.fh o1.rep e2
 have hlen:=rl.length
 rcases hq with hq|hq
 ·refine⟨a,rfl,.inl ⟨⟨xs,hq⟩,k F1 H1 _ o1.x ⟨fun i H2 s h=>⟨xs,O4 s hq,by lia⟩,fun i p H2 s h=> ?_,fun i p x H2 H3 s h y=> ?_⟩⟩⟩
  ·obtain⟨v,ev,_⟩:=rl.get h
   exact⟨xs,v,O4 s hq,ev⟩
  ·obtain⟨v,ev,rv⟩:=rl.get h
   obtain⟨e,y⟩:=y
   have:=y xs (O4 s hq)
   rw [ev] at this;cases this
   exact⟨e,rv⟩
 ·refine⟨a,rfl,.inr ⟨⟨xs,hq⟩,k F1 H1 _ o1.x ⟨fun i H2 s h=>⟨xs,A9 s hq,by lia⟩,fun i p H2 s h=> ?_,fun i p x H2 H3 s h y=> ?_⟩⟩⟩
  ·obtain⟨v,ev,_⟩:=rl.get h
   exact⟨xs,v,A9 s hq,ev⟩
  ·obtain⟨v,ev,rv⟩:=rl.get h
   obtain⟨e,y⟩:=y
   have:=y xs (A9 s hq)
   rw [ev] at this;cases this
   exact⟨e,rv⟩⟩
theorem b8e{K:AE}{F0 F H:Hp}{lo hi:Int}:Src K F0 F H (Itr lo (hi - lo).toNat) (P5 lo hi):=by
 have hl:=G9 lo hi
 refine⟨fun i H2 s h=> ?_,fun i p H2 s h=> ?_,fun i p x H2 H3 s h y=> ?_⟩
 ·show(hi - lo).toNat<=i;lia
 ·have:=(At.mp h).1
  show i<(hi - lo).toNat;lia
 ·have hi':=(At.mp h).1
  rw [a7z (by lia)] at h
  cases h
  obtain⟨e,y⟩:=y
  exact⟨e,y⟩
theorem b2W{a:AG}{m:MA}{p rp:Pos}(hgl:Gl X "range")(hm:X.mg "range"=none)(ha:EA X [a] m)(hst:AW [a] X.env=[(false,eval a X.env)]:=by rfl):EI X tg (.Call (.Name "range" p) [a] [] rp) (L0 m):=⟨_,a8Q hgl hm ha hst,fun F H σ ρ ps R en e k=>by
 obtain⟨qs,e1,e2⟩:=bind_some e
 refine⟨F,ρ,qs,en,e1,fun vs F1 H1 x rl=> ?_⟩
 split at e2
 ·rename_i j
  split at e2
  ·rename_i c
   have c:=a9z.mp c
   cases e2
   obtain⟨v,r,rfl,rv,rr⟩:=rl
   cases rv
   cases rr
   have hz:(j - 0).toNat=j.toNat:=by lia
   refine⟨j,rfl,c.1,c.2,k F1 H1 _ x ?_⟩
   have z:=b8e (K:=X.K) (F0:=F) (F:=F1) (H:=H1) (lo:=0) (hi:=j)
   rw [hz] at z
   exact z
  ·cases e2
 ·cases e2⟩
abbrev EC(X:Cx)(ifs:List AG)(c:MT):Prop:=PCs X ifs (tMT X.K c)
theorem a1R:EC X [] a0o:=fun pins s σ H Q I ⟨F,ρ,b,en,e,k⟩=>by
 cases e
 exact b3s pins s σ H Q I (k F H (Ext.refl en.fh))
theorem a3a{c:AG}{mc:MT}(h:ET X c mc):EC X [c] mc:=b7W h
theorem a8r{mi:MI}{wi:TI}{g:TG}{c:MT}{elt:M}{t:PV->c6->Option c6}{N:List Str}{k:Nat}(hi:SI X.K mi wi)(T:∀n,n=N.length->a8f X.K n g t){σ:L2.St}{H:Hp}{Q:VK}(hl:σ.length=N.length)(h:tM X.K (D5 k mi t c elt) σ H Q):b3H wi g (tMT X.K c) (tM X.K elt) k σ H Q:=by
 obtain⟨F,ρ,r,en,e,kk⟩:=h
 obtain⟨ps,e1,e⟩:=bind_some e
 split at e
 ·rename_i hsz
  obtain⟨rs,e2,e⟩:=bind_some e
  cases e
  refine hi F H σ ρ ps _ en e1 fun F1 H1 J x1 S D hD=> ?_
  have en1:=en.ext x1
  have T':a8f X.K ρ.length g t:=T _ (by rw [<-en.len,hl])
  refine⟨WC X.K F1 H1 D c elt t (ρ++Ac k none) ps rs,⟨ps.length,F1,[],rs,Nat.zero_le _,rfl,Ext.layH x1.fh hD,x1.fh.free hD,rfl,Aa _,e2,rfl⟩,fun i m xs H2 W hx=> ?_⟩
  have W':=W
  obtain⟨F',done,rest,hi',hm,ex,fD,rl,dl,hc,hr⟩:=W'
  have sF:r6 H1 H2:=ex.h
  by_cases hlt:i<ps.length
  ·refine .inr ⟨S.go i ps[i] H2 sF (by simp [hlt]),fun x H3 y=> ?_⟩
   obtain⟨e3,rx⟩:=S.yd i ps[i] x H2 H3 sF (by simp [hlt]) y
   subst e3
   exact b3X T' en1 hD hsz W hx (by simp [hlt]) rx
  ·have e3:i=ps.length:=by lia
   subst e3
   refine .inl ⟨S.st _ H2 sF (Aa _), ?_⟩
   obtain⟨F2,o⟩:=b45 hD W hx
   exact kk _ F2 H2 (B9.trans x1 o)
 ·cases e
theorem Q8{elt iter:AG}{ifs:List AG}{scope:Scope}{N0 ys:List Str}{mi:MI}{g:TG}{c:MT}{m:M}{t:PV->c6->Option c6}{pos:Pos}(hx:∀e s,X.xe e s->False)(hc:X.calm=true)(S:M8 X.N N0 ys X.env scope)(hi:EI X tg iter mi)
 (hg:∀C fp pins s H,PG (D0 X N0 scope ys C fp pins s H) tg g) (T:∀n,n=X.N.length->a8f X.K n g t) (ht:∀C fp pins s H,EC (D0 X N0 scope ys C fp pins s H) ifs c) (he:∀C fp pins s H,EE (D0 X N0 scope ys C fp pins s H) elt m)
 (hs:∀x,foldedSetIterable iter X.env x=pure x:=by intro _;rfl):EE X (.ListComp elt [⟨tg,iter,ifs,0⟩] scope pos) (D5 ys.length mi t c m):=by
 obtain⟨wi,h1,h2⟩:=hi
 intro pins s σ H Q I h
 exact b3u hx hc S h1 hg ht he hs pins s σ H Q I (a8r (N:=X.N) h2 T I.len h)
theorem a52{i:Nat}{y:Str}{elt iter:AG}{ifs:List AG}{scope:Scope}{N0 ys:List Str}{mi:MI}{g:TG}{c:MT}{m:M}{t:PV->c6->Option c6}{pos py spos:Pos}(hN:X.N.Nodup)(hx:∀e s,X.xe e s->False)(hc:X.calm=true)(S:M8 X.N N0 ys X.env scope)(hi:EI X tg iter mi)
 (hg:∀C fp pins s H,PG (D0 X N0 scope ys C fp pins s H) tg g) (T:∀n,n=X.N.length->a8f X.K n g t) (ht:∀C fp pins s H,EC (D0 X N0 scope ys C fp pins s H) ifs c) (he:∀C fp pins s H,EE (D0 X N0 scope ys C fp pins s H) elt m)
 (hiy:X.N[i]?=some y:=by rfl) (hy:X.env.scope.names.lookup y=some .local:=by rfl) (hsw:swapsWith (.ListComp elt [⟨tg,iter,ifs,0⟩] scope pos) (some (.Name y py)) spos.line X.env=pure true:=by rfl)
 (hs:∀x,foldedSetIterable iter X.env x=pure x:=by intro _;rfl):ES X (.Assign [.Name y py] (.ListComp elt [⟨tg,iter,ifs,0⟩] scope pos) spos) (z5 i (D5 ys.length mi t c m)):=by
 obtain⟨wi,h1,h2⟩:=hi
 intro pins s σ H D I ⟨F0,H0,F,ρ,fl,so,e,fin⟩
 obtain⟨r,e1,e⟩:=bind_some e
 split at e
 ·rename_i c
  cases e
  exact b75 hx hc S h1 hg ht he hN hiy hy hsw hs pins s σ H D I (a8r (N:=X.N) h2 T I.len ⟨F,ρ,r,so.e,e1,fun v F' H' o=>fin _ F' H' o.x.f (so.set o c i)⟩)
 ·cases e
end
def a0D:List PV->Option (List Str)
 |[]=>some []
 | .str x::r=>(a0D r).map (x::·)
 |_=>none
theorem a7M:∀xs:List Str,a0D (xs.map .str)=some xs
 |[]=>rfl
 |x::xs=>by rw [AI];simp only [a0D,a7M xs,Ao]
theorem a1p{K:AE}{H:Hp}:∀{ps:List PV} {ys:List Str} {xs:List V} {us:List AA},a0D ps=some ys->p8 K H ps xs->u9 xs us->StrsAre us ys
 |[],_,_,_,h,r,v=>by cases h;cases r;cases v;exact .nil
 |p::ps,ys,_,_,h,⟨x,r,e,hp,t⟩,v=>by
  subst e
  cases p with
  |str z=>
   simp only [a0D] at h
   cases q:a0D ps with
   |none=>rw [q] at h;cases h
   |some zs=>
    rw [q] at h;cases h
    cases hp
    cases v with
    |cons a b=>
     obtain⟨tk,rfl⟩:=a
     exact .cons z tk (a1p q t b)
  |_=>simp [a0D] at h
def a3O(x y:i7):Option i7:=match x with
 | .val (.str z)=>(match PyData.items? y.rd with
   |some ps=>(a0D ps).bind fun ys=>if(ys.map (·.length)).sum+ys.length*z.length<=16777216 then some (.val (.str (Txt.join z ys))) else none
   |none=>none)
 |_=>none
section
variable {X:Cx}
theorem b7J:MtR X "str.join" (fun x xs H Q=>∃F y rx ry rz,xs=[y]/\r6 F H/\S7 X.K F H x rx/\S7 X.K F H y ry/\a3O rx ry=some rz/\∀v F' H',B9 X.K F H F' H' v rz->Q v H'):=by
 intro pins s σ H x xs v us Q I rx rv h
 obtain⟨F,y,ra,rb,rz,rfl,s0,h1,h2,h3,k⟩:=h
 obtain⟨u,rfl,ru⟩:=a7Q rv
 unfold a3O at h3
 split at h3
 ·rename_i z
  split at h3
  ·rename_i ps e
   obtain⟨ys,e2,h3⟩:=bind_some h3
   split at h3
   ·rename_i c
    cases h3
    cases h1
    obtain⟨t,rfl⟩:=rx
    obtain⟨a,xs,rfl,hq,r⟩:=T8 s0 h2 e
    cases ru
    rcases hq with hq|hq
    ·obtain⟨its,rv,pl,hz⟩:=I.list hq
     exact join_list pl.isList (by simpa using a1p e2 r rv) c fun t' k'=>⟨.str _,H,I.tok _,⟨_,rfl⟩,k _ F H (B9.here s0 rfl)⟩
    ·obtain⟨its,rv,pl,hz⟩:=I.tuple hq
     exact join_tuple pl (by simpa using a1p e2 r rv) c fun t' k'=>⟨.str _,H,I.tok _,⟨_,rfl⟩,k _ F H (B9.here s0 rfl)⟩
   ·cases h3
  ·cases h3
 ·cases h3
theorem b2V{o e:AG}{m n:M}{apos cpos:Pos}(ho:EE X o m)(ha:EE X e n)
 (hbase:attributeBase o "join" X.env (eval o X.env)=eval o X.env:=by rfl)
 (hfew:((backTo cpos (AW [e] X.env)).all (fun x=> !x.1)&&(backToKw cpos (keywordEach [] X.env)).all (fun x=>x.1.isSome)
  && decide ([e].length+([]:List Keyword).length+(if([]:List Keyword).isEmpty then 0 else 1)<30))=true:=by rfl)
 (hline:(apos.endLine==cpos.line)=true:=by rfl) (hs:AW [e] X.env=(false,eval e X.env)::AW [] X.env:=by rfl) (hplain:(backTo cpos (AW [] X.env)).any (·.1)=false:=by rfl):
 EE X (.Call (.Attribute o "join" apos) [e] [] cpos) (m2 a3O m n):=
 D7 (a8O PySem.F.plainAttrs_str PySem.F.slot_str_join PySem.F.type_str_join b7J ho (E9 ha V8 hs) hbase hfew hline hs hplain) fun σ H Q h0=>B6 h0 fun F ρ r he hm k=>by
  obtain⟨rx,e1,hm⟩:=bind_some hm
  obtain⟨ry,e2,hm⟩:=bind_some hm
  refine⟨F,ρ,rx,he,e1,fun v F1 H1 o1=>⟨?_,⟨F1,ρ,ry,he.ext o1.x,e2,fun u F2 H2 o2=>⟨F2,u,rx,ry,r,rfl,o2.x.fh,o1.rep.ext o2.x,o2.rep,hm,fun z F3 H3 o3=>k z F3 H3 (B9.trans (o1.x.trans o2.x) o3)⟩⟩⟩⟩
  unfold a3O at hm
  split at hm
  ·cases o1.rep;rfl
  ·cases hm
end
def cut{α:Type}(xs:List α)(lo hi:Option Int):List α:=(xs.drop (HT.sIx xs.length 0 lo)).take (HT.sIx xs.length xs.length hi - HT.sIx xs.length 0 lo)
theorem a3G(n d:Nat)(hd:d<=n)(o:Option Int):(match o with|none=>(d:Int)|some i=>max 0 (min (if i<0 then i+n else i) n))=((HT.sIx n d o:Nat):Int):=by
 cases o with
 |none=>rfl
 |some i=>unfold HT.sIx;dsimp only;split<;>lia
theorem b62(n:Nat)(lo hi:Option Int):Builtin.Str.strSliceIndices lo hi 1 n=(AL (HT.sIx n n hi - HT.sIx n 0 lo)).map (HT.sIx n 0 lo+·):=by
 have h1:=a3G n 0 (Nat.zero_le _) lo
 have h2:=a3G n n (Aa _) hi
 have key:∀a b:Int,a=((HT.sIx n 0 lo:Nat):Int)->b=((HT.sIx n n hi:Nat):Int)->sliceRange a b 1=(AL (HT.sIx n n hi - HT.sIx n 0 lo)).map (HT.sIx n 0 lo+·):=fun a b ha hb=>by rw [ha,hb,sliceRange_one]
 refine key _ _ ?_ ?_
 ·cases lo with
  |none=>rfl
  |some i=>exact h1
 ·cases hi with
  |none=>rfl
  |some i=>exact h2
theorem b8k(z:Str)(lo hi:Option Int):Txt.slice z lo hi=⟨(cut z.cps.toList lo hi).toArray⟩:=by
 have hz:z.cps.toList.length=z.length:=by simp [Str.length]
 unfold Txt.slice
 rw [b62,pick_run z.cps]
 split
 ·rename_i c
  have c':HT.sIx z.length z.length hi - HT.sIx z.length 0 lo=z.length:=by
   simpa using c
  have hle:=HT.sIx_le z.length z.length (Aa _) hi
  unfold cut
  rw [hz,c']
  have:HT.sIx z.length 0 lo=0\/z.length=0:=by lia
  cases z with
  |mk a=>
   congr 1
   rcases this with h|h
   ·rw [h,List.drop_zero]
    have:a.toList.length=(⟨a⟩:Str).length:=hz
    rw [<-this,List.take_length]
   ·have h0:a.toList=[]:=List.length_eq_zero_iff.mp (by rw [<-h];exact hz)
    have:a= #[]:=by
     apply Array.ext'
     rw [h0]
    subst this
    simp
 ·unfold cut
  rw [hz]
theorem a77(items:Array AA)(lo hi:Option Int):slicePick items lo hi none=(cut items.toList lo hi).toArray:=by
 have hz:items.toList.length=items.size:=by simp
 unfold slicePick cut
 rw [hz]
 have key:∀a b:Int,a=((HT.sIx items.size 0 lo:Nat):Int)->b=((HT.sIx items.size items.size hi:Nat):Int)->(List.filterMap (items[·]?) (sliceRange a b 1)).toArray=((items.toList.drop (HT.sIx items.size 0 lo)).take (HT.sIx items.size items.size hi - HT.sIx items.size 0 lo)).toArray:=fun a b ha hb=>by rw [ha,hb,sliceRange_one,pick_run]
 refine key _ _ ?_ ?_
 ·cases lo with
  |none=>rfl
  |some i=>exact a3G items.size 0 (Nat.zero_le _) (some i)
 ·cases hi with
  |none=>rfl
  |some i=>exact a3G items.size items.size (Aa _) (some i)
theorem p8.cut{K:AE}{H:Hp}{ps:List PV}{xs:List V}(r:p8 K H ps xs)(lo hi:Option Int):p8 K H (PU.cut ps lo hi) (PU.cut xs lo hi):=by
 unfold PU.cut
 rw [r.length]
 exact(r.drop _).take _
theorem b63{α:Type}(xs:List α)(lo hi:Option Int):(cut xs lo hi).length<=xs.length:=by
 unfold cut
 rw [List.length_take,List.length_drop];lia
theorem a2G{prog:AN}{w:AK}{A:AO}{E:AA->AC->Prop}{s:AC}{t sl:AB}{items:Array AA}{vl vu:AA}{lo hi:Option Int}{Q:AA->AC->Prop}(ht:IsTup s.heap t items)(hs:s.heap.IsSliceOf sl vl vu .none)(pl:IsPart vl lo)(pu:IsPart vu hi)
 (hw:HT.sIx items.size 0 lo=0/\HT.sIx items.size items.size hi=items.size)
 (h:Q (.ref t) s):AJ (model prog w) A (getItem (.ref t) (.ref sl)) Q E s:=by
 obtain⟨os,hos,hcs,hds⟩:=id hs
 have hTs:s.TypeIs (.ref sl) "slice":=⟨os,hos,hcs⟩
 unfold getItem
 try with_reducible refine wpAny_holding ?_
 first|refine AH (AT ?_)|skip
 refine AH (wpAny_sequenceKey ht.typeIs (by decide) ?_)
 refine AH (wpAny_callSpecial?_slot (name:=AD "__getitem__") ht.typeIs PyProof.Rows.slot_tuple_getitem
  (wpAny_call_entry PyProof.Rows.slot_tuple_getitem ht.typeIs entry_tuple_getitem ?_ (args_tuple_getitem _ _)))
 show AJ _ _ (Builtin.Tuple.tupleItemsOf (.ref t)>>=_) _ _ s
 refine AH (tupleItemsOf_ ht ?_)
 refine AH (wpAny_typeOf hTs ?_)
 rw [if_pos (by decide)]
 refine AH (HT.sliceApplied_gen hs pl pu ?_)
 have hno:(((HT.sIx items.size 0 lo:Nat):Int)==0 &&(1:Int)==1 &&(HT.sIx items.size items.size hi - HT.sIx items.size 0 lo)==items.size)=true:=by
  rw [hw.1,hw.2];simp
 show AJ _ _ (if(((HT.sIx items.size 0 lo:Nat):Int)==0 &&(1:Int)==1 &&(HT.sIx items.size items.size hi - HT.sIx items.size 0 lo)==items.size)=true then _ else _) _ _ s
 rw [if_pos hno]
 refine AH (AH (m:=typeOf (.ref t)) (wpAny_typeOf ht.typeIs (AT ?_)))
 rw [if_pos (by decide)]
 wp_walk
 exact⟨_,rfl,AT h⟩
theorem b8j{X:Cx}:SlR X (fun x lo hi H Q=>∃a xs,x= .ref a/\SqT X.K H a xs/\(HT.sIx xs.length 0 lo=0/\HT.sIx xs.length xs.length hi=xs.length)/\Q (.ref a) H):=by
 intro pins s σ H x v vl vu lo hi sl Q I rx hs pl pu h
 obtain⟨a,xs,rfl,hx,hw,q⟩:=h
 cases rx
 obtain⟨its,r,ht,hz⟩:=I.tuple hx
 have hlen:its.toArray.size=xs.length:=by rw [Aj];exact r.length.symm
 refine⟨"tuple",_,PyProof.Rows.slot_tuple_getitem.lookup,ht.typeIs, ?_⟩
 exact a2G ht hs pl pu (by rw [hlen];exact hw) ⟨.ref a,H,I,rfl,q⟩
theorem b3Y{α:Type}{xs:List α}{lo hi:Option Int}(h:HT.sIx xs.length 0 lo=0/\HT.sIx xs.length xs.length hi=xs.length):cut xs lo hi=xs:=by
 unfold cut
 rw [h.1,h.2,List.drop_zero,Nat.sub_zero,List.take_length]
section
variable {X:Cx}
theorem b14{h:Heap}{sl:AB}{vl vu:AA}{lo hi:Option Int}(hs:h.IsSliceOf sl vl vu .none)(pl:IsPart vl lo)(pu:IsPart vu hi):∃l u:Option (Int×Tok),h.IsSlice sl l u none/\l.map (·.1)=lo/\u.map (·.1)=hi:=by
 obtain⟨o,ho,hc,hd⟩:=hs
 cases pl with
 |none=>
  cases pu with
  |none=>exact⟨none,none,⟨o,ho,hc,hd⟩,rfl,rfl⟩
  |int j t=>exact⟨none,some (j,t),⟨o,ho,hc,hd⟩,rfl,rfl⟩
 |int i t=>
  cases pu with
  |none=>exact⟨some (i,t),none,⟨o,ho,hc,hd⟩,rfl,rfl⟩
  |int j t'=>exact⟨some (i,t),some (j,t'),⟨o,ho,hc,hd⟩,rfl,rfl⟩
theorem c0b:SlR X (fun x lo hi H Q=>∃z,x= .str z/\z.length<=AM/\Q (.str (Txt.slice z lo hi)) H):=by
 intro pins s σ H x v vl vu lo hi sl Q I rx hs pl pu h
 obtain⟨z,rfl,hz,q⟩:=h
 obtain⟨t,rfl⟩:=rx
 obtain⟨l,u,hs',e1,e2⟩:=b14 hs pl pu
 subst e1 e2
 exact⟨"str",_,PySem.F.slot_str_getitem.lookup,typeIs_str _ _ _,wpAny_getItem_str_slice hs' rfl (post_val_or_str ⟨Nat.le_trans (Txt.slice_le z _ _) hz,fun t' k=>⟨.str _,H,I.tok _,⟨_,rfl⟩,q⟩⟩)⟩
theorem c0a:SlR X (fun x lo hi H Q=>∃a xs,x= .ref a/\V2 X.K H a xs/\∀p,H p=none->Q (.ref p) (upd H p (.lst (PU.cut xs lo hi)))):=by
 intro pins s σ H x v vl vu lo hi sl Q I rx hs pl pu h
 obtain⟨a,xs,rfl,hx,q⟩:=h
 cases rx
 obtain⟨its,r,pl',hz⟩:=I.list hx
 have hlen:=r.length
 refine⟨"list",_,list_getitem_lookup,pl'.isList.typeIs, ?_⟩
 refine wpAny_getItem_list_slice pl'.isList hs pl pu .none (by simp) ?_ (by rw [Aj];lia)
 rw [a77]
 refine⟨.ref s.heap.objs.size,_,I.laid (t':=s.toks) (o:= .lst (PU.cut xs lo hi)) (fun b ob q=>An _ q) (Aa _) ?_,rfl,q _ (I.hok.fresh (Aa _))⟩
 refine⟨Nat.le_trans (b63 xs lo hi) hz,PU.cut its lo hi,0, ?_,As _ rfl⟩
 unfold PU.cut
 rw [hlen]
 exact(r.drop _).take _
def gSl(x:i7)(lo hi:Option Int):Option i7:=match x with
 | .val (.str z)=>if z.length<=AM then some (.val (.str ⟨(cut z.cps.toList lo hi).toArray⟩)) else none
 | .val (.tuple ps)=>some (.val (.tuple (cut ps lo hi)))
 | .val (.list ps)=>some (.own (cut ps lo hi))
 | .ow (.lst ps)=>some (.own (cut ps lo hi))
 | .bo (.lst ps)=>some (.own (cut ps lo hi))
 |_=>none
def rSl(K:AE):V->Option Int->Option Int->Hp->VK->Prop:=fun x lo hi H Q=>∃F rx rz,r6 F H/\S7 K F H x rx/\gSl rx lo hi=some rz/\∀v F' H',B9 K F H F' H' v rz->Q v H'
theorem slm:SlR X (rSl X.K):=by
 intro pins s σ H x v vl vu lo hi sl Q I rx hs pl pu h
 obtain⟨F,ra,rz,s0,h1,h2,k⟩:=h
 have lst:∀ps,PyData.items? ra.rd=some ps->(∃a xs,x= .ref a/\V2 X.K H a xs/\p8 X.K F ps xs)->rz= .own (cut ps lo hi)->∃T id,typeLookup (.type T) "__getitem__"=pure (some (.builtin id))/\s.TypeIs v T/\AJ (model X.prog X.w) X.A (getItem v (.ref sl)) (EP X pins σ Q) X.xe s:=fun ps e ⟨a,xs,e1,hq,rl⟩ e2=>by
  subst e2
  exact c0a pins s σ H x v vl vu lo hi sl Q I rx hs pl pu ⟨a,xs,e1,hq,fun p hp=>k _ _ _ (B9.lst s0 hp (rl.cut lo hi))⟩
 unfold gSl at h2
 split at h2
 ·rename_i z
  split at h2
  ·rename_i c
   cases h2
   cases h1
   refine c0b pins s σ H _ v vl vu lo hi sl Q I rx hs pl pu ⟨z,rfl,c, ?_⟩
   rw [b8k]
   exact k _ F H (B9.here s0 rfl)
  ·cases h2
 ·rename_i ps
  cases h2
  by_cases c:HT.sIx ps.length 0 lo=0/\HT.sIx ps.length ps.length hi=ps.length
  ·obtain⟨a,xs,rfl,hq,rl⟩:=h1
   have hlen:=rl.length
   refine b8j pins s σ H _ v vl vu lo hi sl Q I rx hs pl pu ⟨a,xs,rfl,A9 s0 hq.sq,by rw [hlen];exact c, ?_⟩
   rw [b3Y c] at k
   exact k _ F H (B9.here s0 ⟨a,xs,rfl,hq,rl⟩)
  ·obtain⟨a,xs,rfl,hq,rl⟩:=h1
   have hlen:=rl.length
   refine c0c pins s σ H _ v vl vu lo hi sl Q I rx hs pl pu ⟨a,xs,rfl,A9 s0 hq.sq,by rw [hlen];exact c,fun p hp=> ?_⟩
   exact k _ _ _ (B9.tup s0 hp (rl.cut lo hi))
 ·rename_i ps
  cases h2
  obtain⟨a,xs,e1,hq,rl⟩:=h1
  exact lst ps rfl ⟨a,xs,e1,O4 s0 hq,rl⟩ rfl
 ·rename_i ps
  cases h2
  obtain⟨a,xs,e1,_,hq,rl⟩:=h1
  exact lst ps rfl ⟨a,xs,e1,V2.of hq,rl⟩ rfl
 ·rename_i ps
  cases h2
  obtain⟨a,xs,e1,_,hq,rl⟩:=h1
  exact lst ps rfl ⟨a,xs,e1,V2.of hq,rl⟩ rfl
 ·cases h2
abbrev MO:=c6->Option (Option Int)
def tMO(K:AE)(m:MO):TO:=fun σ H Q=>∃F ρ o,J0 K F H σ ρ/\m ρ=some o/\∀F' H',Ext F H F' H'->Q o H'
abbrev EO(X:Cx)(e:Option AG)(m:MO):Prop:=PO X e (tMO X.K m)
def a7k:MO:=fun _=>some none
def b3a:i7->Option (Option Int)
 | .val (.int i)=>some (some i)
 |_=>none
def a7l(m:M):MO:=fun ρ=>(m ρ).bind b3a
theorem b2X:EO X none a7k:=fun pins s σ H Q I ⟨F,ρ,o,en,e,k⟩=>by
 cases e
 exact b71 pins s σ H Q I (k F H (Ext.refl en.fh))
theorem b2Y{e:AG}{m:M}(h:EE X e m):EO X (some e) (a7l m):=fun pins s σ H Q I ⟨F,ρ,o,en,e1,k⟩=>by
 obtain⟨r,e2,e3⟩:=bind_some e1
 refine b72 h pins s σ H Q I ⟨F,ρ,r,en,e2,fun v F1 H1 o1=> ?_⟩
 unfold b3a at e3
 split at e3
 ·cases e3
  exact⟨_,o1.rep,k F1 H1 o1.x⟩
 ·cases e3
def a7h(m:M)(lo hi:MO):M:=fun ρ=>(m ρ).bind fun r=>(lo ρ).bind fun l=>(hi ρ).bind fun h=>gSl r l h
theorem b0G{e:AG}{lo hi:Option AG}{m:M}{ml mh:MO}{pos p2:Pos}(he:EE X e m)(hl:EO X lo ml)(hh:EO X hi mh):EE X (.Subscript e (.Slice lo hi none p2) pos) (a7h m ml mh):=
 D7 (b6i slm he hl hh) fun σ H Q h0=>B6 h0 fun F ρ r en e k=>by
  obtain⟨ra,e1,e⟩:=bind_some e
  obtain⟨l,e2,e⟩:=bind_some e
  obtain⟨h,e3,e⟩:=bind_some e
  exact⟨F,ρ,ra,en,e1,fun v F1 H1 o1=>⟨F1,ρ,l,en.ext o1.x,e2,fun F2 H2 x2=>⟨F2,ρ,h,(en.ext o1.x).ext x2,e3,fun F3 H3 x3=>⟨F3,ra,r,x3.fh,(o1.rep.ext x2).ext x3,e,fun z F4 H4 o4=>k z F4 H4 (B9.trans ((o1.x.trans x2).trans x3) o4)⟩⟩⟩⟩
end
def Its(x:Str):It:=⟨fun i _=>i<x.cps.size,fun i H v H'=>H'=H/\∃c,x.cps[i]?=some c/\v= .str ⟨#[c]⟩,fun i _=>x.cps.size<=i⟩
theorem b6I{P:AN}{w:AK}{K:AE}{tg:AG}(b:Bool)(it:AB)(x:Str)(t:Tok):b1H P w K tg (Its x) [it] it (fun i h=>h.IsStrIter it (if b then "str_ascii_iterator" else "str_iterator") x t i) where
 mem:=by simp
 obj:=fun i h st c hb=>by
  have e:c=it:=by simpa using hb
  subst e
  obtain⟨o,e,c,d⟩:=st
  exact⟨o,e,fun v z=>by rw [d] at z;cases z⟩
 keep:=fun i h h' st k=>let ⟨o,e,r⟩:=st;⟨o,k it (by simp) o e,r⟩
 item:=by
  intro X hP hw hK hc i pins s σ H E I hf st hg
  subst hP hw hK
  obtain⟨f0,f1,f2,f3,f4,f5⟩:=hf it (by simp)
  have hg:i<x.cps.size:=hg
  have hx:x.cps[i]?=some x.cps[i]:=by simp [hg]
  have fin:∀h':Heap,h'.IsStrIter it (if b then "str_ascii_iterator" else "str_iterator") x t (i+1)->Heap.SameBut it s.heap h'->∃u,some (Value.str ⟨#[x.cps[i]]⟩ s.toks)=some u/\
   AJ (model X.prog X.w) X.A (letOwnedTupleGo tg (.ref it) u) (fun _ s2=>∃y H',m9 X pins σ H' s2/\y6 y u/\(Its x).yld i H y H'/\s2.heap.IsStrIter it (if b then "str_ascii_iterator" else "str_iterator") x t (i+1)/\∀b∈[it],H' b=none) E {s with heap:=h',toks:=s.toks+1}:=fun h' st' sb=>by
   have I1:m9 X pins σ H {s with heap:=h',toks:=s.toks+1}:=I.turned (fun b o hb e=>(sb.2 b hb).trans e) f0 f1 f3 f4 f5
   obtain⟨o,e,c,d⟩:=id st'
   refine⟨_,rfl,b0Q (s:={s with heap:=h',toks:=s.toks+1}) (n:=if b then "str_ascii_iterator" else "str_iterator") e c d (by cases b<;>decide) ⟨.str ⟨#[x.cps[i]]⟩,H,I1,⟨_,rfl⟩,⟨rfl,_,hx,rfl⟩,st',fun b hb=>(hf b hb).1⟩⟩
  cases b with
  |true=>exact wpAny_pyNext_ascii_item st hx fun h' a b=>fin h' a b
  |false=>exact wpAny_pyNext_wide_item st hx fun h' a b=>fin h' a b
 done:=by
   intro X hP hw hK hc i pins s σ H E I hf st hg
   subst hP hw hK
   obtain⟨f0,f1,f2,f3,f4,f5⟩:=hf it (by simp)
   have hg:x.cps.size<=i:=hg
   have hx:x.cps[i]?=none:=by simp [hg]
   cases b with
   |true=>exact wpAny_pyNext_ascii_end (I.ok.hd hc) st hx fun h' eb=>⟨rfl,I.turned (t':=s.toks) (fun b o hb e=>eb b o hb e) f0 f1 f3 f4 f5⟩
   |false=>exact wpAny_pyNext_wide_end (I.ok.hd hc) st hx fun h' eb=>⟨rfl,I.turned (t':=s.toks) (fun b o hb e=>eb b o hb e) f0 f1 f3 f4 f5⟩
 self:=fun _ _ _ _ _ st h=>by
  cases b with
  |true=>exact wpAny_pyIter_striter_ascii st h
  |false=>exact wpAny_pyIter_striter_wide st h
section
variable {X:Cx}{tg:AG}
def c1w(tl:TE):TI:=fun σ H R=>tl σ H fun x H1=>∃z,x= .str z/\R (Its z) H1
theorem b90{l:AG}{tl:TE}(hl:PE X l tl):PI X tg l (c1w tl):=by
 intro pins s σ H R I h
 refine M7 (hl pins s σ H _ I h) fun v s1 h0=>u3 h0 fun x H1 I1 r1 q1=> ?_
 obtain⟨z,e,q⟩:=q1
 subst e
 obtain⟨t,rfl⟩:=r1
 have fin:∀b:Bool,PIE X pins σ tg R (.ref s1.heap.objs.size) {s1 with heap:=s1.heap.push {cls:= .type (if b then "str_ascii_iterator" else "str_iterator"),data:= .fields #[.str z t,.int 0 0]}}:=fun b=>by
  refine⟨s1.heap.objs.size,[s1.heap.objs.size],_,_,H1,rfl,I1.kept (t':=s1.toks) fun b o e=>An _ e,b6I b _ z t,⟨_,As _ rfl,rfl,rfl⟩,fun c hb=> ?_,q⟩
  have e:c=s1.heap.objs.size:=by simpa using hb
  subst e
  exact I1.fpOk (Aa _) (I1.hok.fresh (Aa _))
 cases ha:z.cps.all (· <128)
 ·exact wpAny_pyIter_wide ha (fin false)
 ·exact wpAny_pyIter_ascii ha (fin true)
structure c1p(K:AE)(F:Hp)(J:It)(ps:List PV):Prop where
 st:∀i H',r6 F H'->ps.length<=i->J.stop i H'
 go:∀i p H',r6 F H'->ps[i]?=some p->J.go i H'
 yd:∀i p x H' H'',r6 F H'->ps[i]?=some p->J.yld i H' x H''->H''=H'/\E7 K F p x
def SIF(K:AE)(mi:MI)(wi:TI):Prop:=∀F H σ ρ ps (R:It->Hp->Prop),J0 K F H σ ρ->mi ρ=some ps->(∀F1 H1 J,Ext F H F1 H1->c1p K F1 J ps->R J H1)->wi σ H R
abbrev EIF(X:Cx)(tg iter:AG)(mi:MI):Prop:=∃wi,PI X tg iter wi/\SIF X.K mi wi
theorem EIF.ei{iter:AG}{mi:MI}(h:EIF X tg iter mi):EI X tg iter mi:=by
 obtain⟨wi,h1,h2⟩:=h
 exact⟨wi,h1,fun F H σ ρ ps R en e k=>h2 F H σ ρ ps R en e fun F1 H1 J x S=>k F1 H1 J x ⟨fun i H' s=>S.st i H' (x.fh.trans s),fun i p H' s=>S.go i p H' (x.fh.trans s),fun i p y H' H'' s=>S.yd i p y H' H'' (x.fh.trans s)⟩⟩
def a9L(m:M):MI:=fun ρ=>(m ρ).bind fun r=>match r with
 | .val (.str z)=>some (z.cps.toList.map fun c=> .str ⟨#[c]⟩)
 |_=>none
theorem b7c{l:AG}{m:M}(h:EE X l m):EIF X tg l (a9L m):=⟨_,b90 h,fun F H σ ρ ps R en e k=>by
 obtain⟨r,e1,e2⟩:=bind_some e
 refine⟨F,ρ,r,en,e1,fun v F1 H1 o1=> ?_⟩
 split at e2
 ·rename_i z
  cases e2
  cases o1.rep
  refine⟨z,rfl,k F1 H1 _ o1.x ⟨fun i H2 s h=> ?_,fun i p H2 s h=> ?_,fun i p x H2 H3 s h y=> ?_⟩⟩
  ·have h:z.cps.size<=i:=by simpa using h
   exact h
  ·have:=(At.mp h).1
   have h:i<z.cps.size:=by simpa using this
   exact h
  ·obtain⟨e,c,hc,rfl⟩:=y
   refine⟨e, ?_⟩
   rw [Au,Array.getElem?_toList,hc] at h
   cases h
   rfl
 ·cases e2⟩
end
def b5C:i7->i7->Option i7
 | .val (.int i),.val (.int j)=>some (.val (.bool (decide (i<j))))
 | .val (.str i),.val (.str j)=>some (.val (.bool (decide (i.cps.toList<j.cps.toList))))
 |_,_=>none
section
variable {X:Cx}
theorem b3q:OpM X (compareOp .Lt) b5C:=by
 intro pins s σ H x y v u Q I rx ry h
 obtain⟨F,ra,rb,rz,s0,h1,h2,h3,k⟩:=h
 unfold b5C at h3
 split at h3
 ·cases h3;cases h1;cases h2
  exact c0V pins s σ H _ _ v u Q I rx ry ⟨_,_,rfl,rfl,k _ F H (B9.here s0 rfl)⟩
 ·cases h3;cases h1;cases h2
  exact b4w pins s σ H _ _ v u Q I rx ry ⟨_,_,rfl,rfl,k _ F H (B9.here s0 rfl)⟩
 ·cases h3
def a6W(neg:Bool)(x y:i7):Option i7:=match x,y with
 | .val (.str i),.val (.str j)=>some (.val (.bool (if neg then !(!(Builtin.Str.occurrences j i 0 j.length 1).isEmpty) else !(Builtin.Str.occurrences j i 0 j.length 1).isEmpty)))
 |x,y=>gIn neg x y
theorem a2B(hu:X.A.units+64<cLine):OpM X (compareOp .In) (a6W false):=by
 intro pins s σ H x y v u Q I rx ry h
 obtain⟨F,ra,rb,rz,s0,h1,h2,h3,k⟩:=h
 unfold a6W at h3
 split at h3
 ·cases h3;cases h1;cases h2
  exact b4v pins s σ H _ _ v u Q I rx ry ⟨_,_,rfl,rfl,k _ F H (B9.here s0 rfl)⟩
 ·exact b9Q hu pins s σ H x y v u Q I rx ry ⟨F,_,_,rz,s0,h1,h2,h3,k⟩
def b0M(neg:Bool)(x y:i7):Option i7:=match x,y with
 | .val (.bool a),.val (.bool b)=>some (.val (.bool (if neg then !(a==b) else a==b)))
 |x,y=>b9j neg x y
theorem b5J{a b:Bool}{M:Model}{A:AO}{E:AA->AC->Prop}{s:AC}{Q:AA->AC->Prop}(h:Q (.bool (a==b)) s):AJ M A (compareOp .Is (.bool a) (.bool b)) Q E s:=by
 refine wpAny_is_plain (by cases a<;>cases b<;>rfl) ?_
 have e:(Value.bool a==Value.bool b)=(a==b):=by cases a<;>cases b<;>rfl
 rw [e];exact h
theorem a30:OpM X (compareOp .Is) (b0M false):=by
 intro pins s σ H x y v u Q I rx ry h
 obtain⟨F,ra,rb,rz,s0,h1,h2,h3,k⟩:=h
 unfold b0M at h3
 split at h3
 ·cases h3;cases h1;cases h2;cases rx;cases ry
  exact b5J ⟨.bl _,H,I,rfl,k _ F H (B9.here s0 rfl)⟩
 ·exact b7T pins s σ H x y v u Q I rx ry ⟨F,_,_,rz,s0,h1,h2,h3,k⟩
def a61:i7->i7->Option i7
 | .val (.str z),.val (.int k)=>if okC (fun k n=>0<=k/\k<=1000000/\n*k<=16777216) k z.length=true then some (.val (.str ⟨(Ac k.toNat z.cps.toList).flatten.toArray⟩)) else none
 | .ow (.lst ps),.val (.int k)=>if okC (fun k n=>0<=k/\k<=1000000/\n*k<=16777216) k ps.length=true then some (.own (Ac k.toNat ps).flatten) else none
 |x,y=>b7m x y
theorem a6U(xs:List Nat):∀(m:Nat) (acc:Array Nat),(Ac m xs.toArray).foldl (· ++·) acc=acc++(Ac m xs).flatten.toArray
 |0,acc=>by simp
 |m+1,acc=>by
  rw [AX,List.foldl_cons,a6U xs m,AX,List.flatten_cons]
  apply Array.ext'
  simp
theorem b8t{z:Str}{k:Int}(h0:0<=k):Txt.mul z k=⟨(Ac k.toNat z.cps.toList).flatten.toArray⟩:=by
 unfold Txt.mul
 by_cases h1:k<1
 ·have:k=0:=by lia
  subst this
  rfl
 ·rw [if_neg h1]
  by_cases h2:(k==1||z.length==0)=true
  ·rw [if_pos h2]
   rw [Bool.or_eq_true] at h2
   cases z with
   |mk a=>
    rcases h2 with h2|h2
    ·have:k=1:=by simpa using h2
     subst this
     show(⟨a⟩:Str)=_
     congr 1
     apply Array.ext'
     simp
    ·have ha:a.size=0:=by simpa [Str.length] using h2
     have:a= #[]:=Array.eq_empty_of_size_eq_zero ha
     subst this
     congr 1
     apply Array.ext'
     simp
  ·rw [if_neg h2]
   have e:z.cps=z.cps.toList.toArray:=by simp
   congr 1
   rw [e,a6U]
   simp
theorem a7x{K:AE}{H:Hp}{ps:List PV}{xs:List V}(r:p8 K H ps xs):∀m:Nat,p8 K H (Ac m ps).flatten (Ac m xs).flatten
 |0=>rfl
 |m+1=>by
  rw [AX,AX,List.flatten_cons,List.flatten_cons]
  exact r.append (a7x r m)
theorem b6c:OpM X (binaryOp .Mult) a61:=by
 intro pins s σ H x y v u Q I rx ry h
 obtain⟨F,ra,rb,rz,s0,h1,h2,h3,k⟩:=h
 unfold a61 at h3
 split at h3
 ·rename_i z n
  split at h3
  ·rename_i c
   obtain⟨c0,c1,c2⟩:=a3V.mp c
   cases h3;cases h1;cases h2
   obtain⟨t,rfl⟩:=rx
   obtain⟨t',rfl⟩:=ry
   have hz:z.length*n.toNat<=AM:=by
    rw [sizeLine_eq]
    have:((z.length*n.toNat:Nat):Int)=z.length*n:=by rw [Int.natCast_mul,Int.toNat_of_nonneg c0]
    lia
   refine SB.mul ⟨?_,fun h4 h5 h6=> ?_,fun h4 h5=> ?_⟩ fun t' k'=>⟨.str _,H,I.tok _,⟨_,rfl⟩, ?_⟩
   ·have e1:¬n< -(2 ^ 63:Int):=by lia
    have e2:¬n>=2 ^ 63:=by lia
    simp [e1,e2]
    lia
   ·have h7:(2 ^ 63 - 1:Int)/ n<z.length:=h6
    have h8:(2 ^ 63 - 1:Int)<(z.length:Int)*n:=by
     have:=Int.lt_mul_of_ediv_lt (a:=(2 ^ 63 - 1:Int)) (b:=(z.length:Int)) (c:=n) (by lia) h7
     exact this
    lia
   ·unfold Builtin.Str.tooLong
    rw [decide_eq_false (by lia)]
   ·rw [b8t c0]
    exact k _ F H (B9.here s0 rfl)
  ·cases h3
 ·rename_i ps n
  split at h3
  ·rename_i c
   obtain⟨c0,c1,c2⟩:=a3V.mp c
   cases h3;cases h2
   obtain⟨a,xs,rfl,fa,hq,rl⟩:=h1
   have hlen:=rl.length
   have hz:xs.length*n.toNat<=AM:=by
    rw [sizeLine_eq,hlen]
    have:((ps.length*n.toNat:Nat):Int)=ps.length*n:=by rw [Int.natCast_mul,Int.toNat_of_nonneg c0]
    lia
   exact b9N pins s σ H _ _ v u Q I rx ry ⟨a,n,xs,rfl,rfl,hq,by lia,by lia,hz,fun p hp=>k _ _ _ (B9.lst s0 hp (a7x rl _))⟩
  ·cases h3
 ·exact b6b pins s σ H x y v u Q I rx ry ⟨F,_,_,rz,s0,h1,h2,h3,k⟩
end
theorem a4O:fillsNumberSlot (.type "tuple") "mul"=pure false:=
 PySem.fillsNumberSlot_seq (id:="tuple.__mul__") (r:=some (.builtin "tuple.__rmul__")) PySem.F.slot_tuple_mul.lookup (by decide+kernel) PySem.F.slot_tuple_rmul.lookup (by decide+kernel)
theorem a95:seqRepeat? (.type "tuple")=pure (some (.builtin "tuple.__mul__")):=by
 unfold seqRepeat?
 rw [PySem.seqSlot_of (T:="tuple") (name:="__mul__") (id:="tuple.__mul__") PySem.F.slot_tuple_mul.lookup (by decide+kernel),PySem.seqSlot_of (T:="tuple") (name:="__rmul__") (id:="tuple.__rmul__") PySem.F.slot_tuple_rmul.lookup (by decide+kernel)]
 rfl
theorem a66(a:Int)(t:Tok)(l:AB)(items:Array AA)(n:Nat)(dd:Option AB)(sl:Array (Option AA)):Meets (Builtin.«int.__rmul__» ⟨[.int a t,.ref l],[]⟩) (fun _ R s=>s.heap.get? l=some {cls:= .type "tuple",dict:=dd,data:= .seq items n,slots:=sl}/\R (.ok (.ret Value.notImplemented)) s):=
 .of_wp fun prog w A R s h=>by obtain⟨hp,g,d,tk,os⟩:=s;obtain⟨hl,h⟩:=h;wp_walk;exact⟨_,rfl,h⟩
theorem a7O(l:AB)(items:Array AA)(n:Nat)(dd:Option AB)(sl:Array (Option AA))(x:Int)(u:Tok)(hc0:(decide (x< -(2 ^ 63))||decide (x>=2 ^ 63))=false)(hc1:(items.isEmpty||x==1)=false)(hc2:(decide (x<=0)||items.isEmpty)=false)(hc3:¬(items.size:Int)*x>(2 ^ 63 - 1)/ 8)(hc4:Builtin.Tuple.tupleTooMany ((items.size:Int)*x)=false)(hz:((Ac x.toNat items).foldl (· ++·) #[]).size<=AM):
 Meets (Builtin.«tuple.__mul__» ⟨[.ref l,.int x u],[]⟩) (fun _ R s=>s.heap.get? l=some {cls:= .type "tuple",dict:=dd,data:= .seq items n,slots:=sl}/\R (.ok (.ret (Value.ref s.heap.objs.size))) {s with heap:=s.heap.push {cls:=Value.type "tuple",data:=Data.seq ((Ac x.toNat items).foldl (· ++·) #[])},toks:=s.toks}):=
 .of_wp fun prog w A R s h=>by
  obtain⟨hp,g,d,tk,os⟩:=s;obtain⟨hl,h⟩:=h
  wp_walk
  have ht:IsTup hp l items:=⟨_,hl,rfl,n,rfl⟩
  rw [if_neg (by rw [hc0];exact Al)]
  wp_walk
  rw [if_neg hc3]
  wp_walk
  exact⟨_,rfl,h⟩
section
variable {X:Cx}
theorem b7S:OpR X (binaryOp .Mult) (fun x y H Q=>∃a xs n,x= .ref a/\y= .int n/\SqT X.K H a xs/\xs≠[]/\2<=n/\n<=1000000/\xs.length*n.toNat<=AM/\∀p,H p=none->Q (.ref p) (upd H p (.tup (Ac n.toNat xs).flatten))):=by
 intro pins s σ H x y v u Q I rx ry h
 obtain⟨a,xs,n,rfl,rfl,hx,hne,h1,h2,hz,q⟩:=h
 cases rx
 obtain⟨t,rfl⟩:=ry
 obtain⟨its,r,ht,_⟩:=I.tuple hx
 have hlen:its.toArray.size=xs.length:=by rw [Aj];exact r.length.symm
 have hie:its.toArray.isEmpty=false:=by
  cases its with
  |nil=>exact absurd (r.nil_iff.mp rfl) hne
  |cons _ _=>rfl
 have hnew:List.foldl (fun x1 x2=>x1++x2) #[] (Ac n.toNat its.toArray)=(Ac n.toNat its).flatten.toArray:=by
  have:=a4A its n.toNat []
  rw [AZ] at this
  exact this
 have hc:((xs.length*n.toNat:Nat):Int)=(xs.length:Int)*n:=by rw [Int.natCast_mul,Int.toNat_of_nonneg (by lia)]
 have hsl:=sizeLine_eq
 obtain⟨⟨cls,dd,data,sl⟩,ho,hc',m,hd⟩:=id ht
 simp only at hc' hd
 subst hc' hd
 have hzz:(List.foldl (fun x1 x2=>x1++x2) #[] (Ac n.toNat its.toArray)).size<=AM:=by
  rw [hnew,Aj,a9H,Nat.mul_comm,<-r.length];exact hz
 refine wpAny_binaryOp_repeat_ref (T:="tuple") (U:="int") (by decide) ht.typeIs (fun s'=>typeIs_int s' n t) a4O F.fills_int_mul F.slot_int_rmul a95 F.slot_int_index.lookup
  (call_meets F.slot_int_rmul (typeIs_int s n t) F.entry_int_rmul (F.args_int_rmul_2 _ _) (a66 n t a its.toArray m dd sl)
   ⟨ho,rfl,ht.typeIs,call_meets PySem.F.slot_tuple_mul ht.typeIs PySem.F.entry_tuple_mul (PySem.F.args_tuple_mul_2 _ _) (a7O a its.toArray m dd sl n t ?_ ?_ ?_ ?_ ?_ hzz) ⟨ho, ?_⟩⟩)
 ·have e1:¬n< -(2 ^ 63:Int):=by lia
  have e2:¬n>=2 ^ 63:=by lia
  simp [e1,e2]
  lia
 ·rw [hie]
  have:n≠1:=by lia
  simp [this]
 ·rw [hie]
  have:¬n<=0:=by lia
  simp [this]
 ·rw [hlen,<-hc]
  lia
 ·rw [hlen,<-hc]
  unfold Builtin.Tuple.tupleTooMany
  rw [decide_eq_false (by lia)]
 ·rw [hnew]
  refine⟨.ref s.heap.objs.size,_,I.laid (t':=s.toks) (o:= .tup (Ac n.toNat xs).flatten) (fun b ob q=>An _ q) (Aa _) ?_,rfl,q _ (I.hok.fresh (Aa _))⟩
  exact⟨by rw [a9H,Nat.mul_comm];exact hz,_,r.rep n.toNat,IsTup.new _ _⟩
def L6:i7->i7->Option i7
 | .val (.tuple ps),.val (.int k)=>if okC (fun k n=>2<=k/\k<=1000000/\1<=n/\n*k<=16777216) k ps.length=true then some (.val (.tuple (Ac k.toNat ps).flatten)) else none
 |x,y=>a61 x y
theorem z9:OpM X (binaryOp .Mult) L6:=by
 intro pins s σ H x y v u Q I rx ry h
 obtain⟨F,ra,rb,rz,s0,h1,h2,h3,k⟩:=h
 unfold L6 at h3
 split at h3
 ·rename_i ps n
  split at h3
  ·rename_i c
   obtain⟨c0,c1,c2,c3⟩:=a3V.mp c
   cases h3;cases h2
   obtain⟨a,xs,rfl,hq,rl⟩:=h1
   have hlen:=rl.length
   have hz:xs.length*n.toNat<=AM:=by
    rw [sizeLine_eq,hlen]
    have:((ps.length*n.toNat:Nat):Int)=ps.length*n:=by rw [Int.natCast_mul,Int.toNat_of_nonneg (by lia)]
    lia
   refine b7S pins s σ H _ _ v u Q I rx ry ⟨a,xs,n,rfl,rfl,A9 s0 hq.sq, ?_,by lia,by lia,hz,fun p hp=>k _ _ _ (B9.tup s0 hp (a7x rl _))⟩
   intro e
   rw [e] at hlen
   simp at hlen
   lia
  ·cases h3
 ·exact b6c pins s σ H x y v u Q I rx ry ⟨F,_,_,rz,s0,h1,h2,h3,k⟩
end
section
variable {prog:AN}{w:AK}{A:AO}{E:AA->AC->Prop}{s:AC}
end
section
variable {prog:AN}{w:AK}{A:AO}{E:AA->AC->Prop}{s:AC}{u:AA}{T gid:String}{fp:List AB}{n:Nat}{P:Nat->AA->Prop}{Sq:Heap->Prop}
end
section
variable {prog:AN}{w:AK}{A:AO}{E:AA->AC->Prop}{s:AC}{u:AA}{T gid:String}{fp:List AB}{n:Nat}{P:Nat->AA->Prop}{Sq:Heap->Prop}
end
section
variable {prog:AN}{w:AK}{A:AO}{E:AA->AC->Prop}{s:AC}
end
section
variable {X:Cx}
end
section
variable {X:Cx}
theorem p8.last{K:AE}{H:Hp}{ps:List PV}{xs:List V}{p:PV}(r:p8 K H ps xs)(h:ps.getLast?=some p):∃v,xs.getLast?=some v/\E7 K H p v:=by
 rw [List.getLast?_eq_getElem?] at h
 obtain⟨v,e,q⟩:=r.get h
 exact⟨v,by rw [List.getLast?_eq_getElem?,r.length];exact e,q⟩
theorem p8.dropLast{K:AE}{H:Hp}{ps:List PV}{xs:List V}(r:p8 K H ps xs):p8 K H ps.dropLast xs.dropLast:=by
 rw [List.dropLast_eq_take,List.dropLast_eq_take,r.length]
 exact r.take _
def b5T(i j:Nat):MS:=fun ρ=>match ρ[j]? with
 |some (some (.ow (.lst ps)))=>ps.getLast?.bind fun p=>some (.nx ((ρ.set j (some (.own ps.dropLast))).set i (some (.val p))))
 |_=>none
theorem b9h(i j:Nat){x y:Str}{p apos cpos pos pos':Pos}(hN:X.N.Nodup)(hx:PE X (.Name x p) (U5 j))(hi:X.N[i]?=some y:=by rfl)(hy:Loc X.env.scope y:=by exact Or.inl rfl)
 (hbase:attributeBase (.Name x p) "pop" X.env (eval (.Name x p) X.env)=eval (.Name x p) X.env:=by rfl) (hline:(apos.endLine==cpos.line)=true:=by rfl)
 (hsw:swapsWith (.Call (.Attribute (.Name x p) "pop" apos) [] [] cpos) (some (.Name y pos')) pos.line X.env=pure false:=by rfl) (hf:X.fn y=true\/X.env.scope.names.lookup y=some .local:=by first|exact .inl rfl|exact .inr rfl|assumption):
 ES X (.Assign [.Name y pos'] (.Call (.Attribute (.Name x p) "pop" apos) [] [] cpos) pos) (b5T i j):=
 S5 (a90 hN hi hy (b9U PySem.F.plainAttrs_list PySem.F.slot_list_pop PySem.F.type_list_pop b9A hx hbase hline) hsw hf) fun D σ H h0=>M6 h0 fun F0 H0 F ρ fl so e fin=>by
  unfold b5T at e
  split at e
  ·rename_i ps eo
   obtain⟨q,e1,e⟩:=bind_some e
   cases e
   obtain⟨v,h1,a,xs,rfl,fa,ha',rl⟩:=so.e.at_ j _ eo
   obtain⟨w,hw,rw'⟩:=rl.last e1
   have s2:=so.put eo h1 rl.dropLast
   exact⟨.ref a,h1,.inl ⟨rfl,xs,V2.of ha'⟩,a,xs,w,rfl,rfl,ha',by rw [<-List.getLast?_eq_getElem?];exact hw,fin _ F _ (r6.refl F) (s2.set (B9.here s2.e.fh rw') rfl i)⟩
  ·cases e
theorem b5U{i j:Nat}{ρ:c6}{ps:List PV}{p:PV}(h:ρ[j]?=some (some (.own (ps++[p])))):b5T i j ρ=some (.nx ((ρ.set j (some (.own ps))).set i (some (.val p)))):=by
 unfold b5T
 rw [h]
 simp
end
def B0(kvs:List (List m5×PV))(k:List m5):Option PV:=(kvs.find? fun kv=>decide (kv.1=k)).map (·.2)
def a0A(kvs:List (List m5×PV))(k:List m5)(v:PV):List (List m5×PV):=
 if(kvs.any fun kv=>decide (kv.1=k))=true then kvs.map (fun kv=>if kv.1=k then(kv.1,v) else kv) else kvs++[(k,v)]
theorem C1.length{K:AE}{H:Hp}:∀{kvs:List (List m5×PV)} {ys:List (List m5×V)},C1 K H kvs ys->ys.length=kvs.length
 |[],_,h=>by cases h;rfl
 |(k,p)::r,_,⟨v,t,e,q,h⟩=>by subst e;rw [AR,AR,C1.length h]
theorem C1.any{K:AE}{H:Hp}{k:List m5}:∀{kvs:List (List m5×PV)} {ys:List (List m5×V)},C1 K H kvs ys->(ys.any fun kv=>decide (kv.1=k))=(kvs.any fun kv=>decide (kv.1=k))
 |[],_,h=>by cases h;rfl
 |(k',p)::r,_,⟨v,t,e,q,h⟩=>by subst e;rw [List.any_cons,List.any_cons,C1.any h]
theorem C1.val{K:AE}{H:Hp}{k:List m5}:∀{kvs:List (List m5×PV)} {ys:List (List m5×V)},C1 K H kvs ys->(∀p,B0 kvs k=some p->∃v,a0a ys k=some v/\E7 K H p v)/\(B0 kvs k=none->a0a ys k=none)
 |[],_,h=>by cases h;exact⟨fun p e=>(nomatch e),fun _=>rfl⟩
 |(k',p)::r,_,⟨v,t,e,q,h⟩=>by
  subst e
  by_cases c:k'=k
  ·have e1:B0 ((k',p)::r) k=some p:=by simp [B0,List.find?_cons,c]
   have e2:a0a ((k',v)::t) k=some v:=a2p c
   rw [e1,e2]
   exact⟨fun p' e'=>(by cases e';exact⟨v,rfl,q⟩),fun e'=>(nomatch e')⟩
  ·have e1:B0 ((k',p)::r) k=B0 r k:=by simp [B0,List.find?_cons,c]
   have e2:a0a ((k',v)::t) k=a0a t k:=a2o c
   rw [e1,e2]
   exact C1.val h
theorem C1.repl{K:AE}{H:Hp}{k:List m5}{p:PV}{v:V}(hp:E7 K H p v):∀{kvs:List (List m5×PV)} {ys:List (List m5×V)},C1 K H kvs ys->C1 K H (kvs.map fun kv=>if kv.1=k then(kv.1,p) else kv) (ys.map fun kv=>if kv.1=k then(kv.1,v) else kv)
 |[],_,h=>by cases h;exact rfl
 |(k',p')::r,_,⟨v',t,e,q,h⟩=>by
  subst e
  by_cases c:k'=k
  ·rw [AI,AI]
   simp only [if_pos c]
   exact⟨v,_,rfl,hp,C1.repl hp h⟩
  ·rw [AI,AI]
   simp only [if_neg c]
   exact⟨v',_,rfl,q,C1.repl hp h⟩
theorem C1.snoc{K:AE}{H:Hp}{k:List m5}{p:PV}{v:V}(hp:E7 K H p v):∀{kvs:List (List m5×PV)} {ys:List (List m5×V)},C1 K H kvs ys->C1 K H (kvs++[(k,p)]) (ys++[(k,v)])
 |[],_,h=>by cases h;exact⟨v,[],rfl,hp,rfl⟩
 |(k',p')::r,_,⟨v',t,e,q,h⟩=>by subst e;exact⟨v',_,rfl,q,C1.snoc hp h⟩
theorem C1.put{K:AE}{H:Hp}{k:List m5}{p:PV}{v:V}{kvs:List (List m5×PV)}{ys:List (List m5×V)}(r:C1 K H kvs ys)(hp:E7 K H p v):C1 K H (a0A kvs k p) (U0 ys k v):=by
 unfold a0A U0
 rw [r.any]
 split
 ·exact r.repl hp
 ·exact r.snoc hp
theorem B9.dct{K:AE}{F H:Hp}{a:AB}(s:r6 F H)(n:H a=none):B9 K F H F (upd H a (.dT [])) (.ref a) (.dct []):=
 ⟨Ext.layH s n,⟨a,[],rfl,s.free n,n0,rfl⟩,fun _ _ _ e=>by cases e;exact n⟩
section
variable {X:Cx}
def b3g:M:=fun _=>some (.dct [])
theorem b2U{pos:Pos}:EE X (.Dict [] [] pos) b3g:=
 D7 b6g fun σ H Q h0=>B6 h0 fun F ρ r en e k=>by
  cases e
  exact fun d hd=>k _ _ _ (B9.dct en.fh hd)
def a6L(i:Nat)(ρ:c6)(p:PV)(k:List m5):Option Fl:=match ρ[i]? with
 |some (some (.ow (.dct kvs)))=>if kvs.length<AM then some (.nx (ρ.set i (some (.dct (a0A kvs k p))))) else none
 |_=>none
def b3f(i:Nat)(mk:MA)(mv:M):MS:=fun ρ=>((mv ρ).bind i7.toVal).bind fun p=>(mk ρ).bind fun ks=>if ks.length<=AM then(keysOf ks).bind (a6L i ρ p) else none
theorem b7e(i:Nat){x:Str}{p tp tp2 pos:Pos}{es:List AG}{e:AG}{x1}{mk:MA}{mv:M}(hu:X.A.units+64<cLine)(hx:PE X (.Name x p) (U5 i))(hi:EA X es mk)(he:EE X e mv)
 (hs:swapsWith e (some (.Subscript (.Name x p) (.Tuple es x1 tp) tp2)) pos.line X.env=pure false:=by rfl):ES X (.Assign [.Subscript (.Name x p) (.Tuple es x1 tp) tp2] e pos) (b3f i mk mv):=
 S5 (b3w (by lia) hx (b2s hi) he hs) fun D σ H h0=>M6 h0 fun F0 H0 F ρ fl so e fin=>by
  obtain⟨q,e1,e⟩:=bind_some e
  obtain⟨r,e2,e3⟩:=bind_some e1
  obtain⟨ks,e4,e⟩:=bind_some e
  split at e
  ·rename_i hz
   obtain⟨k,e5,e⟩:=bind_some e
   refine⟨F,ρ,r,so.e,e2,fun v F1 H1 o=> ?_⟩
   obtain⟨F2,o2⟩:=o.toVal e3
   have so2:=so.ext o2.x
   unfold a6L at e
   split at e
   ·rename_i kvs eo
    split at e
    ·rename_i hl
     cases e
     obtain⟨w,hw1,a,xs,rfl,fa,ha',rl⟩:=so2.e.at_ i _ eo
     refine⟨.ref a,hw1,F2,ρ,ks,so2.e,e4,fun vs F3 H3 x3 rl3=>⟨by rw [rl3.length];exact hz,fun b hb=> ?_⟩⟩
     have ev:=Z2 e5 rl3
     have so3:=(so2.ext x3).ext (Ext.lay (o:= .tup vs) x3.fh hb)
     have ha3:=x3.h _ _ ha'
     have hne:a≠b:=fun h=>by subst h;rw [hb] at ha3;cases ha3
     have ha4:upd H3 b (.tup vs) a=some (.dT xs):=by rw [j9 hne];exact ha3
     refine⟨a,_,rfl,b3N.t (k:=k) ha4 (by rw [n0,ev]) (by rw [rl.length];exact hl), ?_⟩
     have up:r6 F2 (upd F3 b (.tup vs)):=x3.f.trans (O5 (x3.fh.free hb))
     exact fin σ _ _ (o2.x.f.trans up) (so3.putD eo hw1 ((C1.mono up _ rl).put (E7.mono up _ o2.rep)))
    ·cases e
   ·cases e
  ·cases e
def b2Q(i:Nat)(ρ:c6)(k:List m5):Option i7:=match ρ[i]? with
 |some (some (.ow (.dct kvs)))=>(B0 kvs k).map .val
 |_=>none
def b0X(i:Nat)(mk:MA):M:=fun ρ=>(mk ρ).bind fun ks=>if ks.length<=AM then(keysOf ks).bind (b2Q i ρ) else none
theorem b7b(i:Nat){x:Str}{p tp pos:Pos}{es:List AG}{x1}{mk:MA}(hu:X.A.units+64<cLine)(hx:PE X (.Name x p) (U5 i))(hi:EA X es mk)(hs:b4N (.Tuple es x1 tp):=by intro _ _;rfl):EE X (.Subscript (.Name x p) (.Tuple es x1 tp) pos) (b0X i mk):=
 D7 (b3v (by lia) hx (b2s hi) hs) fun σ H Q h0=>B6 h0 fun F ρ r en e k=>by
  obtain⟨ks,e4,e⟩:=bind_some e
  split at e
  ·rename_i hz
   obtain⟨kk,e5,e⟩:=bind_some e
   unfold b2Q at e
   split at e
   ·rename_i kvs eo
    cases hv:B0 kvs kk with
    |none=>rw [hv] at e;cases e
    |some q=>
     rw [hv] at e;cases e
     obtain⟨w,hw1,a,xs,rfl,fa,ha',rl⟩:=en.at_ i _ eo
     obtain⟨y,hy,ry⟩:=(rl.val (k:=kk)).1 q hv
     refine⟨.ref a,hw1,F,ρ,ks,en,e4,fun vs F3 H3 x3 rl3=>⟨by rw [rl3.length];exact hz,fun b hb=> ?_⟩⟩
     have ev:=Z2 e5 rl3
     have ha3:=x3.h _ _ ha'
     have hne:a≠b:=fun h=>by subst h;rw [hb] at ha3;cases ha3
     have ha4:upd H3 b (.tup vs) a=some (.dT xs):=by rw [j9 hne];exact ha3
     have xx:=x3.trans (Ext.lay (o:= .tup vs) x3.fh hb)
     exact⟨a,y,rfl,by rw [<-hy];exact a0F.t ha4 (by rw [n0,ev]),k _ _ _ (B9.val xx (E7.mono xx.f _ ry))⟩
   ·cases e
  ·cases e
end
section
variable {prog:AN}{w:AK}{A:AO}{E:AA->AC->Prop}{s:AC}
end
section
variable {X:Cx}{pins:List (AB×Obj)}{σ:L2.St}{H:Hp}{s:AC}{a:AB}{A:AO}{E:AA->AC->Prop}
end
section
variable {X:Cx}
end
def a8z:AA->Bool
 | .int _ _=>true
 |_=>false
theorem a3g{K:AE}{a:AB}{o:Obj}:K.lookup a=some o->∃b,(b,o)∈K:=by
 induction K with
 |nil=>intro h;cases h
 |cons p r ih=>
  intro h
  obtain⟨b,u⟩:=p
  rw [List.lookup_cons] at h
  split at h
  ·cases h;exact⟨b,Am ..⟩
  ·obtain⟨c,hc⟩:=ih h
   exact⟨c,Ak _ hc⟩
theorem a9h:∀{k:List m5} {us:List AA},u9 (k.map kV) us->k.any Sum.isLeft=true->us.any a8z=true
 |[],_,_,h=>by cases h
 |k::ks,_,r,h=>by
  rw [AI] at r
  cases r with
  |cons r1 r2=>
   rw [List.any_cons] at h ⊢
   cases k with
   |inl i=>obtain⟨t,rfl⟩:=(show ∃t,_=Value.int i t from r1);rfl
   |inr x=>
    have:=a9h r2 (by simpa using h)
    rw [this,Bool.or_true]
theorem C1.isSome{K:AE}{H:Hp}{k:List m5}{kvs:List (List m5×PV)}{ys:List (List m5×V)}(r:C1 K H kvs ys):(a0a ys k).isSome=(B0 kvs k).isSome:=by
 cases hv:B0 kvs k with
 |none=>rw [(r.val (k:=k)).2 hv];rfl
 |some p=>
  obtain⟨v,e,_⟩:=(r.val (k:=k)).1 p hv
  rw [e];rfl
section
variable {X:Cx}
def a6J(neg:Bool)(i:Nat)(ρ:c6)(k:List m5):Option i7:=match ρ[i]? with
 |some (some (.ow (.dct kvs)))=>some (.val (.bool (if neg then !(B0 kvs k).isSome else(B0 kvs k).isSome)))
 |_=>none
theorem b3G{t:TE}{m:M}(i:∀σ H Q,tM X.K m σ H Q->t σ H Q){σ:L2.St}{H:Hp}{Q:Bool->Hp->Prop}(h:tMT X.K (N9 m) σ H Q):tB t σ H Q:=by
 obtain⟨F,ρ,b,h1,h2,k⟩:=h
 obtain⟨r,e1,e2⟩:=bind_some h2
 exact i _ _ _ ⟨F,ρ,r,h1,e1,fun v F1 H1 o=>⟨b,a33 o.rep e2,k F1 H1 o.x⟩⟩
def a14:List Str->List PV->Str->Option PV
 |k::ks,p::ps,x=>if k=x then some p else a14 ks ps x
 |_,_,_=>none
def b7x(r:i7):Option Str:=match r with
 | .val (.str x)=>some x
 |_=>none
def a6c(kk:List Str)(ma:MA)(mi:M):M:=fun ρ=>(ma ρ).bind fun ps=>((mi ρ).bind b7x).bind fun x=>(a14 kk ps x).map .val
structure EPs(X:Cx)(pos:Pos)(keys:List (Option AG))(values:List AG)(kk:List Str)(ma:MA):Prop where
 ex:∃trs,PPs X pos keys values trs/\∀σ H (Q:List (V×V)->Hp->Prop) F ρ ps,J0 X.K F H σ ρ->ma ρ=some ps->(∀vs F' H',Ext F H F' H'->p8 X.K F' ps vs->ps.length=kk.length->Q ((kk.map V.str).zip vs) H')->a99 trs σ H Q
theorem b2Z{pos:Pos}:EPs X pos [] [] [] c7:=
 ⟨[],b74,fun σ H Q F ρ ps en e k=>by cases e;exact k [] F H (Ext.refl en.fh) rfl rfl⟩
theorem C3{pos p:Pos}{x:Str}{j:Nat}{v:AG}{ks:List (Option AG)}{vs:List AG}{kk:List Str}{m:M}{ma:MA}(hv:EE X v m)(hr:EPs X pos ks vs kk ma):
 EPs X pos (some (.Constant (.str x) j p)::ks) (v::vs) (x::kk) (a6 m ma):=by
 obtain⟨trs,h1,h2⟩:=hr.ex
 refine⟨(tC (.str x),tM X.K m)::trs,b6m b6j hv h1,fun σ H Q F ρ ps en e k=> ?_⟩
 obtain⟨q,e1,e⟩:=bind_some e
 obtain⟨r,e1,e2⟩:=bind_some e1
 obtain⟨qs,e3,e⟩:=bind_some e
 cases e
 refine⟨F,ρ,r,en,e1,fun z F1 H1 o1=> ?_⟩
 obtain⟨F2,o2⟩:=o1.toVal e2
 refine h2 σ H1 _ F2 ρ qs (en.ext o2.x) e3 fun ws F3 H3 x3 rl hl=> ?_
 exact k (z::ws) F3 H3 (o2.x.trans x3) ⟨z,ws,rfl,E7.mono x3.f _ o2.rep,rl⟩ (by rw [AR,AR,hl])
theorem a5u:∀(more kvs:List (m5×V)),((kvs++more).map (·.1)).Nodup->a17 kvs more=kvs++more
 |[],kvs,_=>by rw [Af];rfl
 |(k,v)::r,kvs,h=>by
  have hn:¬(kvs.any fun kv=>decide (kv.1=k))=true:=by
   intro z
   obtain⟨kv,m1,m2⟩:=List.any_eq_true.mp z
   rw [Az,AI] at h
   have:=(List.nodup_append.mp h).2.2 kv.1 (List.mem_map_of_mem m1) k (Am ..)
   exact this (of_decide_eq_true m2)
  show a17 (U0 kvs k v) r=_
  have e:U0 kvs k v=kvs++[(k,v)]:=by unfold U0;rw [if_neg hn]
  rw [e,a5u r _ (by rw [List.append_assoc];exact h),List.append_assoc];rfl
theorem b6U:∀(kk:List Str) (vs:List V),(kk.map V.str).zip vs=((kk.map (Sum.inr:Str->m5)).zip vs).map fun kv=>(kV kv.1,kv.2)
 |[],_=>rfl
 |_::_,[]=>rfl
 |k::ks,v::vs=>by
  rw [AI,List.zip_cons_cons,AI,List.zip_cons_cons,AI,b6U ks vs];rfl
theorem a8G{K:AE}{H:Hp}{x:Str}{q:PV}:∀{kk:List Str} {ps:List PV} {vs:List V},p8 K H ps vs->a14 kk ps x=some q->∃v,a0a ((kk.map (Sum.inr:Str->m5)).zip vs) (.inr x)=some v/\E7 K H q v
 |[],_,_,_,h=>by simp [a14] at h
 |_::_,[],_,_,h=>by simp [a14] at h
 |k::ks,p::ps,_,⟨v,t,e,r1,r2⟩,h=>by
  subst e
  unfold a14 at h
  rw [AI,List.zip_cons_cons]
  by_cases c:k=x
  ·rw [if_pos c] at h;cases h
   exact⟨v,a2p (by rw [c]),r1⟩
  ·rw [if_neg c] at h
   obtain⟨w,e1,e2⟩:=a8G r2 h
   exact⟨w,by rw [a2o (by intro z;exact c (Sum.inr.inj z))];exact e1,e2⟩
theorem b1w:∀(kk:List Str) (vs:List V),vs.length=kk.length->(((kk.map (Sum.inr:Str->m5)).zip vs).map (·.1))=kk.map Sum.inr
 |[],_,_=>rfl
 |_::_,[],h=>by simp at h
 |k::ks,v::vs,h=>by
  rw [AI,List.zip_cons_cons,AI,b1w ks vs (by simpa using h)]
theorem a8M:∀{kk:List Str},kk.Nodup->(kk.map (Sum.inr:Str->m5)).Nodup
 |[],_=>List.nodup_nil
 |k::ks,h=>by
  rw [AI,List.nodup_cons]
  refine⟨fun z=> ?_,a8M (List.nodup_cons.mp h).2⟩
  obtain⟨y,m1,m2⟩:=Ag.mp z
  cases m2
  exact(List.nodup_cons.mp h).1 m1
theorem a8s{dpos pos:Pos}{keys:List (Option AG)}{values:List AG}{kk:List Str}{ma:MA}{i:AG}{mi:M}(hu:X.A.units+64<cLine)(hp:EPs X dpos keys values kk ma)(hi:EE X i mi)(nd:kk.Nodup)
 (hall:keys.all (·.isSome)=true:=by rfl) (hl:keys.length=values.length:=by rfl) (h0:keys≠[]:=by intro h;cases h) (h15:keys.length<=15:=by decide) (hk15:kk.length<=15:=by decide) (hs:b4N i:=by intro _ _;rfl):
 EE X (.Subscript (.Dict keys values dpos) i pos) (a6c kk ma mi):=by
 obtain⟨trs,g1,g2⟩:=hp.ex
 refine D7 (b3v (by lia) (b7Y g1 hall hl h0 h15) hi hs) fun σ H Q h0=>B6 h0 fun F ρ r en e k=> ?_
 obtain⟨ps,e1,e⟩:=bind_some e
 obtain⟨x,e2,e⟩:=bind_some e
 obtain⟨ri,e2,e3⟩:=bind_some e2
 cases e4:a14 kk ps x with
 |none=>rw [e4] at e;cases e
 |some q=>
  rw [e4] at e;cases e
  intro p hp
  have x0:Ext F H F (upd H p (.dK [])):=Ext.layH en.fh hp
  refine g2 σ _ _ F ρ ps (en.ext x0) e1 fun vs F1 H1 x1 rl hlen=> ?_
  have hp1:H1 p=some (.dK []):=x1.h _ _ n0
  have fp:F1 p=none:=x1.nw p _ (en.fh.free hp) n0 (fun _ h=>nomatch h)
  have hvl:vs.length=kk.length:=by rw [rl.length,hlen]
  have hkl:((kk.map (Sum.inr:Str->m5)).zip vs).length<=15:=by rw [List.length_zip,Ae,hvl,Nat.min_self];exact hk15
  refine⟨hp1,(kk.map (Sum.inr:Str->m5)).zip vs,b6U kk vs,hkl, ?_⟩
  have em:a17 [] ((kk.map (Sum.inr:Str->m5)).zip vs)=(kk.map (Sum.inr:Str->m5)).zip vs:=by
   rw [a5u _ [] (by rw [AZ,b1w kk vs hvl];exact a8M nd)];rfl
  rw [em]
  have x2:Ext F H F1 (upd H1 p (.dK ((kk.map (Sum.inr:Str->m5)).zip vs))):=
   ⟨x1.f,fun b o z=>by rw [j9 (r9 z hp)];exact x1.h _ _ (by rw [j9 (r9 z hp)];exact z),
    fun b o z=>by rw [j9 (r9 z fp)];exact x1.fh _ _ z,
    fun b o z y t=>x1.nw b o z (by rw [j9 (r9 y hp)];exact y) t,x1.nf⟩
  refine⟨F1,ρ,ri,en.ext x2,e2,fun y F2 H2 o2=> ?_⟩
  unfold b7x at e3
  split at e3
  ·cases e3
   cases(show y=V.str x from o2.rep)
   obtain⟨v,hv,rv⟩:=a8G (x:=x) rl e4
   refine⟨p,v,rfl, ?_,k v F2 H2 (B9.val (x2.trans o2.x) (E7.mono o2.x.f _ rv))⟩
   rw [<-hv]
   exact a0F.k (k:= .inr x) (o2.x.h _ _ n0)
  ·cases e3
end
theorem a15(kk:List Str)(ma:MA)(mi:M)(ρ:c6):a6c kk ma mi ρ=(ma ρ).bind fun ps=>((mi ρ).bind b7x).bind fun x=>(a14 kk ps x).map .val:=Eq.trans rfl rfl
theorem b17(x:Str):b7x (.val (.str x))=some x:=Eq.trans rfl rfl
def b4b(x:Str):List Str->List Str
 |[]=>[x]
 |y::r=>if y.cps.toList<x.cps.toList then y::b4b x r else x::y::r
def a4f:List Str->List Str
 |[]=>[]
 |x::r=>b4b x (a4f r)
theorem a4E(x:Str):∀l:List Str,(b4b x l).Perm (x::l)
 |[]=>List.Perm.refl _
 |y::r=>by
  unfold b4b
  split
  ·exact((a4E x r).cons y).trans (List.Perm.swap x y r)
  ·exact List.Perm.refl _
theorem a3s:∀l:List Str,(a4f l).Perm l
 |[]=>List.Perm.refl _
 |x::r=>(a4E x (a4f r)).trans ((a3s r).cons x)
def leS(a b:Str):Prop:=¬b.cps.toList<a.cps.toList
theorem b5M{a b:Str}(h:leS a b)(g:leS b a):a=b:=by
 have e:a.cps.toList=b.cps.toList:=List.le_antisymm h g
 cases a;cases b
 simp at e ⊢
 exact e
theorem a8E{a b c:Str}(h:leS a b)(g:leS b c):leS a c:=List.le_trans h g
theorem a5p(x:Str):∀{l:List Str},l.Pairwise leS->(b4b x l).Pairwise leS
 |[],_=>List.pairwise_singleton _ _
 |y::r,h=>by
  unfold b4b
  have h':=List.pairwise_cons.mp h
  split
  ·rename_i c
   refine List.pairwise_cons.mpr ⟨fun z hz=> ?_,a5p x h'.2⟩
   rcases Ap.mp ((a4E x r).mem_iff.mp hz) with e|e
   ·subst e;exact List.lt_asymm c
   ·exact h'.1 z e
  ·rename_i c
   refine List.pairwise_cons.mpr ⟨fun z hz=> ?_,h⟩
   rcases Ap.mp hz with e|e
   ·subst e;exact c
   ·exact a8E c (h'.1 z e)
theorem a4g:∀l:List Str,(a4f l).Pairwise leS
 |[]=>List.Pairwise.nil
 |x::r=>a5p x (a4g r)
theorem a5J:∀{l m:List Str},l.Pairwise leS->m.Pairwise leS->l.Perm m->l=m
 |[],m,_,_,p=>(List.Perm.nil_eq p)
 |a::l,[],_,_,p=>by have:=p.length_eq;simp at this
 |a::l,b::m,hl,hm,p=>by
  have hl':=List.pairwise_cons.mp hl
  have hm':=List.pairwise_cons.mp hm
  have e:a=b:=by
   have m1:a∈b::m:=p.mem_iff.mp Am
   have m2:b∈a::l:=p.mem_iff.mpr Am
   rcases Ap.mp m1 with e|e
   ·exact e
   ·rcases Ap.mp m2 with g|g
    ·exact g.symm
    ·exact b5M (hl'.1 b g) (hm'.1 a e)
  subst e
  rw [a5J hl'.2 hm'.2 (List.Perm.cons_inv p)]
theorem a8V:∀{p:Str} {l:List Str},risingS p l=true->(p::l).Pairwise leS
 |p,[],_=>List.pairwise_singleton _ _
 |p,x::r,h=>by
  unfold risingS at h
  rw [Bool.and_eq_true] at h
  have ih:=a8V h.2
  have h1:leS p x:=by
   have:=h.1
   rw [ltCps_eq] at this
   unfold leS
   simpa using this
  refine List.pairwise_cons.mpr ⟨fun z hz=> ?_,ih⟩
  rcases Ap.mp hz with e|e
  ·subst e;exact h1
  ·exact a8E h1 ((List.pairwise_cons.mp ih).1 z e)
theorem b2w:∀{l:List Str},sortedS l=true->l.Pairwise leS
 |[],_=>List.Pairwise.nil
 |x::r,h=>a8V h
section
variable {prog:AN}{w:AK}{A:AO}{E:AA->AC->Prop}{s:AC}
theorem b2x{l:AB}{T:String}{o:Obj}{vs:List AA}{n:Nat}{ss:List Str}{Q:AA->AC->Prop}(hT:T="list"\/T="tuple")(ho:s.heap.get? l=some o)(hc:o.cls= .type T)(hd:o.data= .seq vs.toArray n)(hS:StrsAre vs ss)(h64:vs.length<64)
 (h:∀(h1 h':Heap) (e:Nat) (us:List AA),(∀b o',s.heap.get? b=some o'->h1.get? b=some o')->(∀b o',h1.get? b=some o'->h'.get? b=some o')->StrsAre us (a4f ss)->h'.get? h1.objs.size=some (seqObj "list" us.toArray e)->Q (.ref h1.objs.size) {s with heap:=h'}):
 AJ (model prog w) A (call (.builtin "sorted") [.ref l]) Q E s:=by
 refine Calls.call_function_entry kind_sorted plain_sorted entry_sorted (args_sorted1 _) ?_
 unfold Builtin.«sorted»
 refine AH (m:=checkCount "sorted" 1 1 _) (AT ?_)
 refine AH (wpAny_collect_seq l hT ho hc hd (fun h1 k1=> ?_) (by rw [Aj,sizeLine_eq];lia))
 have ev:vs.toArray.toList=vs:=by simp
 rw [ev]
 refine AH (wpAny_newList ?_)
 have hoL:(h1.push (seqObj "list" vs.toArray 0)).get? h1.objs.size=some (seqObj "list" vs.toArray 0):=As _ rfl
 show AJ _ _ _ _ _ {s with heap:=h1.push (seqObj "list" vs.toArray 0)}
 refine AH (wpAny_holding (wpAny_call_entry slot_list_sort ⟨_,hoL,rfl⟩ entry_list_sort (list_sort_treeK strKind_oneLt hoL hS.keysOf (fun v₁ v₂ rest e=>keyKind_strs (by rw [<-e];exact hS)) h64 fun st' a1 a2=>⟨_,rfl, ?_⟩) (args_list_sort _)))
 obtain⟨ss',g1,g2,g3⟩:=sorted_out_str hS a1 a2
 have e1:ss'=a4f ss:=a5J (b2w g3) (a4g ss) (g2.trans (a3s ss).symm)
 subst e1
 obtain⟨e,he⟩:=sortedHeap_at (out:=(arrOf st').map (·.2)) hoL
 refine AT ⟨_,rfl,h h1 _ e _ k1 (fun b o' hb1=> ?_) g1 (by rw [Array.toArray_toList];exact he)⟩
 have hlt:=Ai hb1
 rw [sortedHeap_old (Ar hlt) (by rw [size_push'];exact Nat.lt_succ_of_lt hlt),Heap.get?_push_ne _ _ _ (Ar hlt)]
 exact hb1
end
theorem a80:∀{us:List AA} {ss:List Str},StrsAre us ss->u9 (ss.map V.str) us
 |_,_,.nil=> .nil
 |_,_,.cons x t h=>by rw [AI];exact .cons ⟨t,rfl⟩ (a80 h)
theorem b1n:∀{us:List AA} {ss:List Str},StrsAre us ss->us.length=ss.length
 |_,_,.nil=>rfl
 |_,_,.cons x t h=>by rw [AR,AR,b1n h]
theorem a8U{K:AE}{H:Hp}:∀ss:List Str,p8 K H (ss.map PyData.str) (ss.map V.str)
 |[]=>rfl
 |x::r=>⟨_,_,rfl,rfl,a8U r⟩
def a9w(x:i7):Option i7:=match PyData.items? x.rd with
 |some ps=>(a0D ps).bind fun ss=>if ss.length<64 then some (.own ((a4f ss).map .str)) else none
 |none=>none
section
variable {X:Cx}
theorem b49:a0b X (.builtin "sorted") (rC1 X.K a9w):=by
 intro pins s σ H xs us Q I rv h
 obtain⟨F,x,rx,rz,rfl,s0,h1,h2,k⟩:=h
 unfold a9w at h2
 split at h2
 ·rename_i ps e
  obtain⟨ss,e1,h2⟩:=bind_some h2
  split at h2
  ·rename_i c
   cases h2
   obtain⟨a,xs,rfl,hq,r⟩:=T8 s0 h1 e
   obtain⟨u,rfl,ru⟩:=a7Q rv
   cases ru
   have fin:∀(its:List AA) (T:String) (o:Obj) (n:Nat),(T="list"\/T="tuple")->s.heap.get? a=some o->o.cls= .type T->o.data= .seq its.toArray n->u9 xs its->AJ (model X.prog X.w) X.A (call (.builtin "sorted") [.ref a]) (EP X pins σ Q) X.xe s:=by
    intro its T o n hT ho hc hd rvv
    have hS:=a1p e1 r rvv
    refine b2x hT ho hc hd hS (by rw [b1n hS];exact c) fun hp1 hp2 en us k1 k2 hs he=> ?_
    have I1:m9 X pins σ H {s with heap:=hp1}:=I.kept (t':=s.toks) k1
    have hlen:(a4f ss).length=ss.length:=(a3s ss).length_eq
    have hf:H hp1.objs.size=none:=I1.hok.fresh (Aa _)
    refine⟨.ref hp1.objs.size,_,I1.laid (t':=s.toks) (h':=hp2) (o:= .lst ((a4f ss).map V.str)) k2 (Aa _) ⟨by rw [Ae,hlen,sizeLine_eq];lia,us,en,a80 hs,he⟩,rfl,k _ F _ (B9.lst s0 hf (a8U _))⟩
   rcases hq with hq|hq
   ·obtain⟨its,r',pl,hz⟩:=I.list hq
    obtain⟨o,ho,hc,n,hd⟩:=pl.isList
    exact fin its "list" o n (.inl rfl) ho hc hd r'
   ·obtain⟨its,r',⟨o,ho,hc,n,hd⟩,hz⟩:=I.tuple hq
    exact fin its "tuple" o n (.inr rfl) ho hc hd r'
  ·cases h2
 ·cases h2
end
section
variable {X:Cx}
end
section
variable {prog:AN}{w:AK}{A:AO}{E:AA->AC->Prop}{s:AC}
end
section
variable {prog:AN}{w:AK}{A:AO}{E:AA->AC->Prop}{s:AC}
end
section
variable {X:Cx}
end
def S(l:List Nat):Str:=⟨l.toArray⟩
theorem c0o(a b:List Nat):S a++S b=S (a++b):=by
 show Str.append (S a) (S b)=_
 simp [Str.append,S]
theorem a6j(a:List Nat):(S a).length=a.length:=by simp [S,Str.length]
theorem b8D(a:List Nat):(S a).cps.toList=a:=by simp [S]
theorem c0q{a b:List Nat}(h:S a=S b):a=b:=by
 have:=congrArg (fun z:Str=>z.cps.toList) h
 simpa [S] using this
theorem c0p(a b:List Nat):(S a==S b)=(a==b):=by
 rw [Bool.eq_iff_iff]
 simp only [beq_iff_eq]
 exact⟨c0q,fun h=>by rw [h]⟩
def a65(sep:List Nat):List (List Nat)->List Nat
 |[]=>[]
 |[x]=>x
 |x::y::r=>x++sep++a65 sep (y::r)
theorem a8x(sep:List Nat):∀(ls:List (List Nat)) (acc:List Nat),(ls.foldl (fun a p=>a++sep++p) acc)=if ls=[] then acc else acc++sep++a65 sep ls
 |[],acc=>rfl
 |[x],acc=>by simp [a65]
 |x::y::r,acc=>by
  rw [List.foldl_cons,a8x sep (y::r)]
  simp [a65]
theorem b25(sep:List Nat):∀(ls:List (List Nat)) (acc:List Nat),(ls.map S).foldl (fun a (p:Str)=>a++(S sep).cps++p.cps) acc.toArray=(ls.foldl (fun a p=>a++sep++p) acc).toArray
 |[],acc=>rfl
 |x::r,acc=>by
  rw [AI,List.foldl_cons,List.foldl_cons]
  have:acc.toArray++(S sep).cps++(S x).cps=(acc++sep++x).toArray:=by simp [S]
  rw [this]
  exact b25 sep r (acc++sep++x)
theorem b9o(sep:List Nat)(ls:List (List Nat)):Txt.join (S sep) (ls.map S)=S (a65 sep ls):=by
 unfold Txt.join Builtin.Str.glued
 cases ls with
 |nil=>rfl
 |cons x r=>
  show(⟨((r.map S).foldl (fun acc (p:Str)=>acc++(S sep).cps++p.cps) (S x).cps)⟩:Str)=_
  rw [show(S x).cps=x.toArray from rfl,b25,a8x]
  cases r with
  |nil=>rfl
  |cons y r=>rw [if_neg (by simp)];simp [S,a65]
theorem b0P:∀ls:List (List Nat),a65 [] ls=ls.flatten
 |[]=>rfl
 |[x]=>by simp [a65]
 |x::y::r=>by simp [a65,b0P (y::r)]
theorem a5o:∀cs:List Nat,(cs.map fun c=>[c]).flatten=cs
 |[]=>rfl
 |c::cs=>by simp [a5o cs]
theorem a4r{α:Type}{xs:List α}{i:Int}(h:0<=i):L2.atI xs i=xs[i.toNat]?:=by
 unfold L2.atI L2.ixN
 rw [if_pos h]
 by_cases c:i<xs.length
 ·rw [if_pos c];rfl
 ·rw [if_neg c]
  have:xs.length<=i.toNat:=by lia
  rw [List.getElem?_eq_none_iff.mpr this];rfl
theorem b8E{α:Type}{xs:List α}{k:Nat}:L2.atI xs (k:Int)=xs[k]?:=by
 rw [a4r (by lia)];simp
theorem b5A{l:List Nat}{i:Int}{c:Nat}(hl:l.length<=16777216)(h:L2.atI l i=some c):v6 (.val (.str (S l))) (.val (.int i))=some (.val (.str (S [c]))):=by
 have hs:(S l).length<=AM:=by rw [a6j,sizeLine_eq];exact hl
 unfold v6
 simp only [i7.rd,b8D,h,Ao,if_pos hs]
 rfl
theorem b5v{l k:List Nat}(h:l.length+k.length<=16777216):C7 (.val (.str (S l))) (.val (.str (S k)))=some (.val (.str (S (l++k)))):=by
 rw [b5w (by rw [a6j,a6j,sizeLine_eq];exact h),c0o]
theorem b7j{l:List Nat}{c:Nat}(h:l.length<16777216):C7 (.val (.str (S l))) (.val (.str (S [c])))=some (.val (.str (S (l++[c])))):=b5v (by simp only [AR,AY];lia)
theorem b7n{i j:Int}(h: -18446744073709551616<i/\i<18446744073709551616):a61 (.val (.int i)) (.val (.int j))=some (.val (.int (i*j))):=b9k h
theorem b7o{i j:Int}(h: -18446744073709551616<j/\j<18446744073709551616):a61 (.val (.int i)) (.val (.int j))=some (.val (.int (i*j))):=b9l h
theorem a9v(i j:Int):b5C (.val (.int i)) (.val (.int j))=some (.val (.bool (decide (i<j)))):=Eq.trans rfl rfl
theorem L7{i j:Int}(h: -18446744073709551616<i/\i<18446744073709551616):L6 (.val (.int i)) (.val (.int j))=some (.val (.int (i*j))):=(show _=a61 (.val (.int i)) (.val (.int j)) from rfl).trans (b7n h)
theorem b7p{i j:Int}(h: -18446744073709551616<j/\j<18446744073709551616):L6 (.val (.int i)) (.val (.int j))=some (.val (.int (i*j))):=(show _=a61 (.val (.int i)) (.val (.int j)) from rfl).trans (b7o h)
abbrev row(l:List Nat):PV:= .str (S l)
def b2M(rows:List (List Nat)):PV:= .tuple (rows.map row)
theorem b7d(a b:List Nat):PyData.eqv (row a) (row b)=(a==b):=by
 show PyData.eqv (.str (S a)) (.str (S b))=_
 rw [show PyData.eqv (.str (S a)) (.str (S b))=(S a==S b) by simp only [PyData.eqv],c0p]
theorem b0H(a:List Nat)(n:Nat):u0 (row a) n=true:=by cases n<;>rfl
theorem b0K{body:MS}{tg:PV->c6->Option c6}{I:Nat->c6->Prop}:∀{ps:List PV} {ρ:c6} (k:Nat),(∀(i:Nat) p,ps[i]?=some p->∀ρ,I (k+i) ρ->∃ρ1 ρ2,tg p ρ=some ρ1/\(body ρ1=some (.nx ρ2)\/body ρ1=some (.ct ρ2))/\I (k+i+1) ρ2)->I k ρ->∃ρ',B2 body tg ps ρ=some (.nx ρ')/\I (k+ps.length) ρ'
 |[],ρ,k,_,h=>⟨ρ,rfl,h⟩
 |p::ps,ρ,k,s,h=>by
  obtain⟨ρ1,ρ2,h1,h2,h3⟩:=s 0 p rfl ρ h
  obtain⟨ρ',h4,h5⟩:=b0K (ps:=ps) (ρ:=ρ2) (k+1) (fun i q hq ρ hi=>by
   have e:k+1+i=k+(i+1):=by lia
   rw [e] at hi ⊢
   exact s (i+1) q (by simpa using hq) ρ hi) h3
  refine⟨ρ', ?_,by rw [AR];have e:k+(ps.length+1)=k+1+ps.length:=by lia
                   rw [e];exact h5⟩
  unfold B2
  rw [h1]
  show(body ρ1).bind _=_
  rcases h2 with h2|h2<;>rw [h2]<;>exact h4
theorem A5{body:MS}{tg:PV->c6->Option c6}(I:Nat->c6->Prop){ps:List PV}{ρ:c6}(s:∀(i:Nat) p,ps[i]?=some p->∀ρ,I i ρ->∃ρ1 ρ2,tg p ρ=some ρ1/\(body ρ1=some (.nx ρ2)\/body ρ1=some (.ct ρ2))/\I (i+1) ρ2)(h:I 0 ρ):∃ρ',B2 body tg ps ρ=some (.nx ρ')/\I ps.length ρ':=by
 obtain⟨ρ',a,b⟩:=b0K (I:=I) 0 (fun i p hp ρ hi=>by rw [Nat.zero_add] at hi ⊢;exact s i p hp ρ hi) h
 rw [Nat.zero_add] at b
 exact⟨ρ',a,b⟩
theorem K5{body:MS}{tg:PV->c6->Option c6}{I:c6->Prop}{p:PV}{ρ ρ1 ρ2:c6}(h1:tg p ρ=some ρ1)(h2:body ρ1=some (.nx ρ2))(h3:I ρ2):∃ρ1 ρ2,tg p ρ=some ρ1/\(body ρ1=some (.nx ρ2)\/body ρ1=some (.ct ρ2))/\I ρ2:=⟨ρ1,ρ2,h1,.inl h2,h3⟩
theorem S6{lo hi:Int}{i:Nat}{p:PV}(h:(P5 lo hi)[i]?=some p):p= .int (lo+i)/\lo+i<hi:=by
 have hi':=(At.mp h).1
 rw [G9] at hi'
 rw [a7z hi'] at h
 cases h
 exact⟨rfl,by lia⟩
theorem b3x(n:Nat):P5 0 (n:Int)=(AL n).map fun k=> .int (k:Nat):=by
 unfold P5
 have e:((n:Int) - 0).toNat=n:=by lia
 rw [e]
 exact List.map_congr_left fun k _=>by simp
theorem a8I(k:Nat)(it:MI)(tg:PV->c6->Option c6)(c:MT)(elt:M)(ρ:c6):D5 k it tg c elt ρ=(it ρ).bind fun ps=>if ps.length<=AM then(a2O c elt tg (ρ++Ac k none) ps).bind fun r=>some (.own r) else none:=Eq.trans rfl rfl
theorem a8p{α:Type}{ι f:α->PV}{elt:M}{tg:PV->c6->Option c6}{ρ:c6}:∀{xs:List α},(∀x∈xs,∃ρ1,tg (ι x) ρ=some ρ1/\(elt ρ1).bind i7.toVal=some (f x))->a2O a0o elt tg ρ (xs.map ι)=some (xs.map f)
 |[],_=>rfl
 |x::xs,h=>by
  obtain⟨ρ1,h1,h2⟩:=h x Am
  rw [AI,AI]
  unfold a2O
  rw [h1,AF]
  show((elt ρ1).bind i7.toVal).bind _=_
  rw [h2,AF,a8p fun y hy=>h y (Ak _ hy),AF]
theorem Q1{α:Type}{ι f:α->PV}{k:Nat}{it:MI}{elt:M}{tg:PV->c6->Option c6}{ρ:c6}(xs:List α)(h1:it ρ=some (xs.map ι))(h2:xs.length<=16777216)
 (h:∀x∈xs,∃ρ1,tg (ι x) (ρ++Ac k none)=some ρ1/\(elt ρ1).bind i7.toVal=some (f x)):D5 k it tg a0o elt ρ=some (.own (xs.map f)):=by
 rw [a8I,h1,AF,if_pos (by rw [Ae,sizeLine_eq];exact h2),a8p h,AF]
theorem a3I{α:Type}{ι f:α->PV}{q:α->Bool}{c:MT}{elt:M}{tg:PV->c6->Option c6}{ρ:c6}:∀{xs:List α},(∀x∈xs,∃ρ1,tg (ι x) ρ=some ρ1/\c ρ1=some (q x)/\(q x=true->(elt ρ1).bind i7.toVal=some (f x)))->a2O c elt tg ρ (xs.map ι)=some ((xs.filter q).map f)
 |[],_=>rfl
 |x::xs,h=>by
  obtain⟨ρ1,h1,h2,h3⟩:=h x Am
  have ih:=a3I (xs:=xs) fun y hy=>h y (Ak _ hy)
  rw [AI]
  unfold a2O
  rw [h1,AF,h2,AF]
  cases e:q x with
  |true=>rw [if_pos rfl,h3 e,AF,ih,AF,List.filter_cons_of_pos (by rw [e])];rfl
  |false=>rw [if_neg Al,ih,List.filter_cons_of_neg (by rw [e];exact Al)]
theorem P4(ps:List PV):PyData.items? (.list ps)=some ps:=Eq.trans rfl rfl
theorem U9(ps:List PV):PyData.items? (.tuple ps)=some ps:=Eq.trans rfl rfl
theorem B4(m:M)(ρ:c6):S3 m ρ=((m ρ).bind i7.toVal).bind PyData.items?:=Eq.trans rfl rfl
theorem a7i(m:M)(lo hi:MO)(ρ:c6):a7h m lo hi ρ=(m ρ).bind fun r=>(lo ρ).bind fun l=>(hi ρ).bind fun h=>gSl r l h:=Eq.trans rfl rfl
theorem b2f(m:M)(ρ:c6):a7l m ρ=(m ρ).bind b3a:=Eq.trans rfl rfl
theorem b2e(ρ:c6):a7k ρ=some none:=Eq.trans rfl rfl
theorem b7t(i:Int):b3a (.val (.int i))=some (some i):=Eq.trans rfl rfl
theorem Q2{m:M}{ρ:c6}{r:i7}{ps:List PV}(h:m ρ=some r)(h2:PyData.items? r.rd=some ps):y8 m ρ=some ps:=by
 unfold y8
 rw [h,AF,h2]
theorem a8L{m:M}{ρ:c6}{n:Nat}(h:m ρ=some (.val (.int n)))(hn:n<4611686018427387904):L0 (a6 m c7) ρ=some ((AL n).map fun k=> .int (k:Nat)):=by
 have e:a6 m c7 ρ=some [.int n]:=by rw [a9,h];rfl
 rw [v9,e,AF,B8 (j:=(n:Int)) ⟨by lia,by lia⟩,b3x]
theorem b1X{sep:List Nat}{rows:List (List Nat)}{y:i7}(h:PyData.items? y.rd=some (rows.map row))(hl:(rows.map (·.length)).sum+rows.length*sep.length<=16777216):a3O (.val (.str (S sep))) y=some (.val (row (a65 sep rows))):=by
 have e1:a0D (rows.map row)=some (rows.map S):=by
  have:rows.map row=(rows.map S).map PyData.str:=by rw [Aw];rfl
  rw [this,a7M]
 have e2:((rows.map S).map (·.length))=rows.map (·.length):=by rw [Aw];exact List.map_congr_left fun a _=>a6j a
 unfold a3O
 simp only [h,e1,AF,e2,Ae,a6j,if_pos hl,b9o]
theorem a63(ps:List PV):a1f (.own ps)=some (.val (.tuple ps)):=Eq.trans rfl rfl
theorem b10(ps:List PV):a1f (.bor ps)=some (.val (.tuple ps)):=Eq.trans rfl rfl
theorem Q0{i:Nat}{m:M}{ρ:c6}{r:i7}{p:PV}{ps:List PV}(h1:m ρ=some r)(h2:r.toVal=some p)(h3:ρ[i]?=some (some (.own ps)))(h:ps.length<16777216):S2 i m ρ=some (.nx (ρ.set i (some (.own (ps++[p]))))):=by
 unfold S2
 rw [h1,AF,h2,AF,h3]
 simp only [sizeLine_eq,if_pos h]
theorem a2y(p:i7)(ρ:c6):a0X 0 (some p::ρ)=some (.rt p):=Eq.trans rfl rfl
theorem a2z(n:Nat)(r:Option i7)(ρ:c6):a0X (n+1) (r::ρ)=a0X n ρ:=Eq.trans rfl rfl
theorem Q5(k:List m5)(v:PV)(D:List (List m5×PV))(k':List m5):B0 ((k,v)::D) k'=if k=k' then some v else B0 D k':=by
 unfold B0
 rw [List.find?_cons]
 by_cases h:k=k'
 ·simp [h]
 ·simp [h]
theorem b1r(k:List m5)(v:PV)(k':List m5):∀D:List (List m5×PV),B0 (D++[(k,v)]) k'=if(B0 D k').isSome=true then B0 D k' else if k=k' then some v else none
 |[]=>by rw [AZ,Q5];rfl
 |(a,b)::D=>by
  rw [Ab,Q5,Q5,b1r k v k' D]
  by_cases h:a=k'
  ·simp [h]
  ·simp [h]
theorem b2J(k:List m5):∀D:List (List m5×PV),(D.any fun kv=>decide (kv.1=k))=(B0 D k).isSome
 |[]=>rfl
 |(a,b)::D=>by
  rw [List.any_cons,b2J k D,Q5]
  by_cases h:a=k
  ·simp [h]
  ·simp [h]
theorem a84(k:List m5)(v:PV)(k':List m5):∀D:List (List m5×PV),B0 (D.map fun kv=>if kv.1=k then(kv.1,v) else kv) k'=if k=k' then(B0 D k').map (fun _=>v) else B0 D k'
 |[]=>by simp [B0]
 |(a,b)::D=>by
  rw [AI]
  have ih:=a84 k v k' D
  by_cases h:a=k
  ·simp only [h,if_true]
   rw [Q5,Q5,ih]
   by_cases h2:k=k'
   ·simp [h2]
   ·simp [h2]
  ·simp only [h,if_false]
   rw [Q5,Q5,ih]
   by_cases h2:a=k'
   ·have:¬k=k':=fun z=>h (h2.trans z.symm)
    simp [h2,this]
   ·simp [h2]
theorem a2n(D:List (List m5×PV))(k:List m5)(v:PV)(k':List m5):B0 (a0A D k v) k'=if k=k' then some v else B0 D k':=by
 unfold a0A
 rw [b2J]
 cases h:(B0 D k).isSome with
 |true=>
  rw [if_pos rfl,a84]
  by_cases h2:k=k'
  ·subst h2
   rw [if_pos rfl,if_pos rfl]
   obtain⟨x,hx⟩:=Option.isSome_iff_exists.mp h
   rw [hx];rfl
  ·rw [if_neg h2,if_neg h2]
 |false=>
  rw [if_neg Al,b1r]
  by_cases h2:k=k'
  ·subst h2;rw [h];simp
  ·simp only [if_neg h2]
   cases h3:B0 D k'<;>simp
theorem b6s(D:List (List m5×PV))(k:List m5)(v:PV):(a0A D k v).length<=D.length+1:=by
 unfold a0A
 split
 ·rw [Ae];lia
 ·rw [Ah,List.length_singleton];lia
theorem a6M{i:Nat}{ρ:c6}{p:PV}{k:List m5}{D:List (List m5×PV)}(h:ρ[i]?=some (some (.ow (.dct D))))(hl:D.length<16777216):a6L i ρ p k=some (.nx (ρ.set i (some (.ow (.dct (a0A D k p)))))):=by
 unfold a6L
 rw [h]
 show(if D.length<AM then _ else none)=_
 rw [if_pos (by rw [sizeLine_eq];exact hl)]
theorem b5b{i:Nat}{ρ:c6}{k:List m5}{D:List (List m5×PV)}{p:PV}(h:ρ[i]?=some (some (.ow (.dct D))))(hv:B0 D k=some p):b2Q i ρ k=some (.val p):=by
 unfold b2Q
 rw [h]
 show(B0 D k).map _=_
 rw [hv];rfl
theorem a6K(neg:Bool)(D:List (List m5×PV))(ρ:c6)(k:List m5):a6J neg 0 (some (.ow (.dct D))::ρ) k=some (.val (.bool (if neg then !(B0 D k).isSome else(B0 D k).isSome))):=Eq.trans rfl rfl
theorem a4z(neg:Bool)(i:Nat)(r:Option i7)(ρ:c6)(k:List m5):a6J neg (i+1) (r::ρ) k=a6J neg i ρ k:=Eq.trans rfl rfl
theorem b7E{i:Nat}{ma:MA}{mv:M}{ρ:c6}{a b:Int}{r:i7}{p:PV}{D:List (List m5×PV)}(h1:mv ρ=some r)(h2:r.toVal=some p)(h3:ma ρ=some [.int a,.int b])(h:ρ[i]?=some (some (.ow (.dct D))))(hl:D.length<16777216):
 b3f i ma mv ρ=some (.nx (ρ.set i (some (.ow (.dct (a0A D [.inl a,.inl b] p)))))):=by
 unfold b3f
 rw [h1,AF,h2,AF,h3,AF,if_pos (by rw [sizeLine_eq];simp),show keysOf [.int a,.int b]=some [.inl a,.inl b] from rfl,AF,a6M h hl]
theorem b7D{i:Nat}{ma:MA}{ρ:c6}{a b:Int}{p:PV}{D:List (List m5×PV)}(h3:ma ρ=some [.int a,.int b])(h:ρ[i]?=some (some (.ow (.dct D))))(hv:B0 D [.inl a,.inl b]=some p):b0X i ma ρ=some (.val p):=by
 unfold b0X
 rw [h3,AF,if_pos (by rw [sizeLine_eq];simp),show keysOf [.int a,.int b]=some [.inl a,.inl b] from rfl,AF,b5b h hv]
theorem a8K(ρ:c6):b3g ρ=some (.ow (.dct [])):=Eq.trans rfl rfl
theorem a4q(i:Nat)(ρ:c6)(c:X2):b6Y i ρ (.ow c)=some (.nx (ρ.set i (some (.ow c)))):=Eq.trans rfl rfl
theorem b7F(c:X2)(ρ:c6):a8 0 (some (.ow c)::ρ)=some (.bo c):=Eq.trans rfl rfl
theorem a2t{body:MS}{tg:PV->c6->Option c6}{I:c6->Prop}{f:Nat->Option i7}{n:Nat}{ρ:c6}
 (sg:∀k<n,∀ρ,I ρ->f k=none->∃ρ1 ρ2,tg (.int (k:Nat)) ρ=some ρ1/\body ρ1=some (.nx ρ2)/\I ρ2)
 (sb:∀k<n,∀ρ,I ρ->∀r,f k=some r->∃ρ1,tg (.int (k:Nat)) ρ=some ρ1/\body ρ1=some (.rt r)) (h:I ρ):
 ((AL n).findSome? f=none/\∃ρ',B2 body tg (P5 0 n) ρ=some (.nx ρ')/\I ρ')\/(∃r,(AL n).findSome? f=some r/\B2 body tg (P5 0 n) ρ=some (.rt r)):=by
 rw [b3x]
 have go:∀(xs:List Nat) (ρ:c6),(∀k∈xs,k<n)->I ρ->
  (xs.findSome? f=none/\∃ρ',B2 body tg (xs.map fun k=> .int (k:Nat)) ρ=some (.nx ρ')/\I ρ')\/(∃r,xs.findSome? f=some r/\B2 body tg (xs.map fun k=> .int (k:Nat)) ρ=some (.rt r)):=by
  intro xs
  induction xs with
  |nil=>intro ρ _ h;exact .inl ⟨rfl,ρ,rfl,h⟩
  |cons k xs ih=>
   intro ρ hx h
   rw [List.findSome?_cons,AI]
   cases e:f k with
   |none=>
    obtain⟨ρ1,ρ2,h1,h2,h3⟩:=sg k (hx k Am) ρ h e
    have hf:B2 body tg (.int (k:Nat)::xs.map fun k=> .int (k:Nat)) ρ=B2 body tg (xs.map fun k=> .int (k:Nat)) ρ2:=by
     rw [B2,h1]
     show(body ρ1).bind _=_
     rw [h2];rfl
    rw [hf]
    exact ih ρ2 (fun j hj=>hx j (Ak _ hj)) h3
   |some r=>
    obtain⟨ρ1,h1,h2⟩:=sb k (hx k Am) ρ h r e
    refine .inr ⟨r,rfl, ?_⟩
    rw [B2,h1]
    show(body ρ1).bind _=_
    rw [h2];rfl
 exact go (AL n) ρ (fun k hk=>List.mem_range.mp hk) h
theorem a4B{body:MS}{tg:PV->c6->Option c6}{I:c6->Prop}{f:PV->Option i7}:∀{ps:List PV} {ρ:c6},
 (∀p∈ps,∀ρ,I ρ->f p=none->∃ρ1 ρ2,tg p ρ=some ρ1/\body ρ1=some (.nx ρ2)/\I ρ2)->
 (∀p∈ps,∀ρ,I ρ->∀r,f p=some r->∃ρ1,tg p ρ=some ρ1/\body ρ1=some (.rt r))->I ρ->
 (ps.findSome? f=none/\∃ρ',B2 body tg ps ρ=some (.nx ρ')/\I ρ')\/(∃r,ps.findSome? f=some r/\B2 body tg ps ρ=some (.rt r))
 |[],ρ,_,_,h=> .inl ⟨rfl,ρ,rfl,h⟩
 |k::xs,ρ,sg,sb,h=>by
  rw [List.findSome?_cons]
  cases e:f k with
  |none=>
   obtain⟨ρ1,ρ2,h1,h2,h3⟩:=sg k Am ρ h e
   have hf:B2 body tg (k::xs) ρ=B2 body tg xs ρ2:=by
    rw [B2,h1]
    show(body ρ1).bind _=_
    rw [h2];rfl
   rw [hf]
   exact a4B (fun q hq=>sg q (Ak _ hq)) (fun q hq=>sb q (Ak _ hq)) h3
  |some r=>
   obtain⟨ρ1,h1,h2⟩:=sb k Am ρ h r e
   refine .inr ⟨r,rfl, ?_⟩
   rw [B2,h1]
   show(body ρ1).bind _=_
   rw [h2];rfl
theorem K4{α:Type}{ι f:α->PV}{q:α->Bool}{k:Nat}{it:MI}{c:MT}{elt:M}{tg:PV->c6->Option c6}{ρ:c6}(xs:List α)(h1:it ρ=some (xs.map ι))(h2:xs.length<=16777216)
 (h:∀x∈xs,∃ρ1,tg (ι x) (ρ++Ac k none)=some ρ1/\c ρ1=some (q x)/\(q x=true->(elt ρ1).bind i7.toVal=some (f x))):D5 k it tg c elt ρ=some (.own ((xs.filter q).map f)):=by
 rw [a8I,h1,AF,if_pos (by rw [Ae,sizeLine_eq];exact h2),a3I h,AF]
theorem a41{body:MS}{tg:PV->c6->Option c6}{I:c6->Prop}{p:PV}{ρ ρ1 ρ2:c6}(h1:tg p ρ=some ρ1)(h2:body ρ1=some (.nx ρ2))(h3:I ρ2):∃ρ1 ρ2,tg p ρ=some ρ1/\body ρ1=some (.nx ρ2)/\I ρ2:=⟨ρ1,ρ2,h1,h2,h3⟩
theorem a5K{c:MT}{body:MS}{I:Nat->c6->Prop}(s:∀m ρ,I m ρ->c ρ=some false\/(c ρ=some true/\∃ρ' m',body ρ=some (.nx ρ')/\m'<m/\I m' ρ')):∀(n m:Nat) (ρ:c6),m<n->I m ρ->∃ρ' m',a0E c body n ρ=some (.nx ρ')/\I m' ρ'/\c ρ'=some false
 |0,m,ρ,h,_=>by lia
 |n+1,m,ρ,h,hi=>by
  rcases s m ρ hi with hc|⟨hc,ρ',m',h1,h2,h3⟩
  ·refine⟨ρ,m, ?_,hi,hc⟩
   unfold a0E
   rw [hc];rfl
  ·obtain⟨ρ2,m2,g1,g2,g3⟩:=a5K s n m' ρ' (by lia) h3
   refine⟨ρ2,m2, ?_,g2,g3⟩
   unfold a0E
   rw [hc]
   show(body ρ).bind _=_
   rw [h1]
   exact g1
theorem a6F{α:Type}{q q':α->Bool}:∀{l:List α},(∀x∈l,q' x=true->q x=true)->(∃x∈l,q x=true/\q' x=false)->l.countP q'<l.countP q
 |[],_,⟨x,hx,_⟩=>by cases hx
 |a::l,h,⟨x,hx,h1,h2⟩=>by
  have le:l.countP q'<=l.countP q:=List.countP_mono_left fun x hx=>h x (Ak _ hx)
  rw [List.countP_cons,List.countP_cons]
  by_cases ha:q' a=true
  ·have ha2:=h a Am ha
   rw [if_pos ha,if_pos ha2]
   have hne:x≠a:=fun z=>by rw [z,ha] at h2;cases h2
   have hx':x∈l:=by
    rcases Ap.mp hx with z|z
    ·exact absurd z hne
    ·exact z
   have:=a6F (l:=l) (fun x hx=>h x (Ak _ hx)) ⟨x,hx',h1,h2⟩
   lia
  ·rw [if_neg ha]
   by_cases hxa:x=a
   ·subst hxa
    rw [if_pos h1];lia
   ·have hx':x∈l:=by
     rcases Ap.mp hx with z|z
     ·exact absurd z hxa
     ·exact z
    have:=a6F (l:=l) (fun x hx=>h x (Ak _ hx)) ⟨x,hx',h1,h2⟩
    split<;>lia
def a4T(n:Nat):List (Nat×Nat):=(AL n).flatMap fun r=>(AL n).map fun c=>(r,c)
theorem b2d{n:Nat}{r c:Nat}:(r,c)∈a4T n↔r<n/\c<n:=by
 unfold a4T
 simp [List.mem_flatMap,Ag,List.mem_range]
theorem b19(n:Nat):(a4T n).length=n*n:=by
 unfold a4T
 rw [List.length_flatMap]
 have h:∀l:List Nat,(l.map fun _=>n).sum=l.length*n:=by
  intro l
  induction l with
  |nil=>simp
  |cons a l ih=>rw [AI,List.sum_cons,ih,AR,Nat.succ_mul,Nat.add_comm]
 simp only [Ae,Aq]
 rw [h,Aq]
theorem a3L{ps:List PV}{n:Nat}(h:∀p∈ps,u0 p n=true):E5 ps n=true:=by
 induction ps with
 |nil=>rfl
 |cons p ps ih=>simp [E5,h p Am,ih fun q hq=>h q (Ak _ hq)]
theorem b7q{W:List PV}(h:∀p∈W,u0 p 49=true):gNe (.bo (.lst W)) (.ow (.lst []))=some (.val (.bool (!W.isEmpty))):=by
 rw [b1Y (x:= .bo (.lst W)) (y:= .ow (.lst [])) ⟨by show u0 (.list W) 50=true;simp only [u0];exact a3L h,rfl⟩]
 show some (i7.val (.bool (!PyData.eqv (.list W) (.list []))))=_
 cases W with
 |nil=>simp [PyData.eqv,PyData.eqvAll]
 |cons a W=>simp [PyData.eqv,PyData.eqvAll]
theorem a55(a b:List Nat):gNe (.val (row a)) (.val (row b))=some (.val (.bool (!(a==b)))):=by
 rw [b1Y (x:= .val (row a)) (y:= .val (row b)) ⟨b0H a 50,b0H b 50⟩,a1k,a1k,b7d]
def b37:List Str->Str->Option Nat
 |[],_=>none
 |k::ks,x=>if k=x then some 0 else(b37 ks x).map (· +1)
theorem O2{x:Str}:∀{kk:List Str} {ps:List PV} {j:Nat} {p:PV},b37 kk x=some j->ps[j]?=some p->a14 kk ps x=some p
 |[],_,_,_,h,_=>by simp [b37] at h
 |k::ks,[],j,_,_,h2=>by simp at h2
 |k::ks,q::ps,j,p,h,h2=>by
  unfold b37 at h
  unfold a14
  by_cases c:k=x
  ·rw [if_pos c] at h;cases h
   rw [if_pos c];simpa using h2
  ·rw [if_neg c] at h
   rw [if_neg c]
   cases h3:b37 ks x with
   |none=>rw [h3] at h;cases h
   |some i=>
    rw [h3] at h;cases h
    exact O2 h3 (by simpa using h2)
section
open AutoSeq1 (wpAny_loadPart')
variable {A:AO}{s:AC}
end
section
variable {X:Cx}{pins:List (AB×Obj)}{σ:L2.St}{H:Hp}{s:AC}
end
section
variable {X:Cx}
end
section
variable {prog:AN}{w:AK}{A:AO}{R:Result->AC->Prop}{I:AB}{fp wr:List AB}{n:Nat}{P:Nat->AA->Prop}{St:Nat->Heap->Prop}
end
section
variable {prog:AN}{w:AK}{A:AO}{E:AA->AC->Prop}{s:AC}
end
section
variable {X:Cx}
end
end PU
namespace TS
open PySem PyProof.Rows
section
variable {prog:AN}{w:AK}{A:AO}{E:AA->AC->Prop}{s:AC}
variable {κ:SortKind}{S:Keyed->Prop}{R:Keyed->Keyed->Bool}
end
section
variable {prog:AN}{w:AK}{A:AO}{E:AA->AC->Prop}{s:AC}
variable {κ:SortKind}{S:Keyed->Prop}{R:Keyed->Keyed->Bool}{a₀:Array Keyed}
end
section
variable {R:Keyed->Keyed->Bool}{W out la lb xs:List Keyed}
end
section
variable {prog:AN}{w:AK}{A:AO}{E:AA->AC->Prop}{s:AC}
variable {κ:SortKind}{S:Keyed->Prop}{R:Keyed->Keyed->Bool}
section
variable {a b o:Array Keyed}{st st':SortSt}{i j mg u v x₀ x:Nat}
end
section
variable {a b:Array Keyed}{st st':SortSt}{x₀ x mg:Nat}
end
end
section
variable {R:Keyed->Keyed->Bool}{W out la lb xs:List Keyed}
end
section
variable {prog:AN}{w:AK}{A:AO}{E:AA->AC->Prop}{s:AC}
variable {κ:SortKind}{S:Keyed->Prop}{R:Keyed->Keyed->Bool}
section
variable {a b o:Array Keyed}{st st':SortSt}{i j mg u v x₀ x:Nat}
end
section
variable {a b:Array Keyed}{st st':SortSt}{x₀ x mg:Nat}
end
end
section
variable {prog:AN}{w:AK}{A:AO}{E:AA->AC->Prop}{s:AC}
variable {κ:SortKind}{S:Keyed->Prop}{R:Keyed->Keyed->Bool}{a₀:Array Keyed}
end
section
variable {R:Keyed->Keyed->Bool}{a b:Array Keyed}
end
section
variable {prog:AN}{w:AK}{A:AO}{E:AA->AC->Prop}{s:AC}
variable {κ:SortKind}{S:Keyed->Prop}{R:Keyed->Keyed->Bool}{a₀:Array Keyed}
end
open PySem PySem.Spec PyProof.Rows
section
variable {prog:AN}{w:AK}{A:AO}{E:AA->AC->Prop}{s:AC}
variable {κ:SortKind}{S:Keyed->Prop}{R:Keyed->Keyed->Bool}
end
open PySem PySem.Spec PyProof.Rows L2 PU
section
variable {prog:AN}{w:AK}{A:AO}{E:AA->AC->Prop}{s:AC}
variable {κ:SortKind}{S:Keyed->Prop}{R:Keyed->Keyed->Bool}
end
end TS
namespace PU
open PySem PySem.Spec PyProof.Rows L2
section
variable {α:Type}{lt:α->α->Bool}
end
def b8O:m5->m5->Bool
 | .inl a,.inl b=>decide (a<b)
 | .inr a,.inr b=>decide (a.cps.toList<b.cps.toList)
 | .inl _,.inr _=>true
 | .inr _,.inl _=>false
def b9u:List m5->List m5->Bool
 |[],[]=>false
 |[],_::_=>true
 |_::_,[]=>false
 |a::r,b::t=>if a=b then b9u r t else b8O a b
open PySem PySem.Spec PyProof.Rows L2 PySem.W
section
variable {prog:AN}{w:AK}{A:AO}{E:AA->AC->Prop}{s:AC}
end
section
variable {prog:AN}{w:AK}{A:AO}{E:AA->AC->Prop}{s:AC}
end
section
variable {X:Cx}{pins:List (AB×Obj)}{σ:L2.St}{F H:Hp}{s:AC}
end
section
variable {X:Cx}
end
section
variable {X:Cx}
end
def a6d(i:Nat)(m:M):MS:=fun ρ=>(m ρ).bind fun r=>match r with
 | .ow (.lst qs)=>match ρ[i]? with
   |some (some (.ow (.lst ps)))=>if ps.length+qs.length<=AM then some (.nx (ρ.set i (some (.own (ps++qs))))) else none
   |_=>none
 |_=>none
section
variable {X:Cx}
theorem b32(i:Nat){x:Str}{p apos cpos pos:Pos}{e:AG}{m:M}(hx:PE X (.Name x p) (U5 i))(ha:EE X e m)
 (hbase:attributeBase (.Name x p) "extend" X.env (eval (.Name x p) X.env)=eval (.Name x p) X.env:=by rfl)
 (hfew:((backTo cpos (AW [e] X.env)).all (fun x=> !x.1)&&(backToKw cpos (keywordEach [] X.env)).all (fun x=>x.1.isSome)
  && decide ([e].length+([]:List Keyword).length+(if([]:List Keyword).isEmpty then 0 else 1)<30))=true:=by rfl)
 (hline:(apos.endLine==cpos.line)=true:=by rfl) (hs:AW [e] X.env=(false,eval e X.env)::AW [] X.env:=by rfl) (hplain:(backTo cpos (AW [] X.env)).any (·.1)=false:=by rfl)
 (hsw:swapsWith (.Call (.Attribute (.Name x p) "extend" apos) [e] [] cpos) none pos.line X.env=pure false:=by rfl):
 ES X (.Expr (.Call (.Attribute (.Name x p) "extend" apos) [e] [] cpos) pos) (a6d i m):=
 S5 (a6e (a8O PySem.F.plainAttrs_list PySem.F.slot_list_extend PySem.F.type_list_extend b4n hx (E9 ha V8 hs) hbase hfew hline hs hplain) hsw) fun D σ H h0=>M6 h0 fun F0 H0 F ρ fl so e fin=>by
  obtain⟨r,e1,e⟩:=bind_some e
  split at e
  ·rename_i qs
   split at e
   ·rename_i ps eo
    split at e
    ·rename_i c
     cases e
     obtain⟨v,h1,a,xs,rfl,fa,ha',rl⟩:=so.e.at_ i _ eo
     refine⟨.ref a,h1,.inl ⟨rfl,xs,V2.of ha'⟩,F,ρ,_,so.e,e1,fun w F1 H1 o=> ?_⟩
     obtain⟨b,zs,rfl,fb,hb,rb⟩:=o.rep
     have so2:=so.ext o.x
     refine⟨a,b,xs,zs,rfl,rfl,o.x.h _ _ ha',hb,by rw [rl.length,rb.length];exact c, ?_⟩
     exact fin σ F1 _ o.x.f (so2.put eo h1 ((p8.mono o.x.f _ rl).append rb))
    ·cases e
   ·cases e
  ·cases e
end
def a8a(h:Heap)(d:AB)(es:Array DictEntry)(ep:Nat):Prop:=∃o,h.get? d=some o/\o.ExactDict/\o.data= .dict es ep
section
variable {prog:AN}{w:AK}{A:AO}{E:AA->AC->Prop}{s:AC}{it d:AB}{i ep:Nat}{es:Array DictEntry}
theorem a8a.type(h:a8a s.heap d es ep):s.TypeIs (.ref d) "dict":=by obtain⟨o,ho,hc,_⟩:=h;exact⟨o,ho,hc.1⟩
theorem b6v{Q:AA->AC->Prop}(hd:(d==sysModules)=false)(hm:a8a s.heap d es ep)
 (hQ:Q (.ref s.heap.objs.size) {s with heap:=s.heap.push {cls:= .type "dict_keyiterator",data:= .fields #[.ref d,.int 0 0,.int es.size 0,.int ep 0]}}):AJ (model prog w) A (pyIter (.ref d)) Q E s:=by
 obtain⟨o,ho,hc,hdat⟩:=id hm
 have hT:=hm.type
 refine wpAny_pyIter_slot hT F.slot_dict_iter (wpAny_call_entry F.slot_dict_iter hT F.entry_dict_iter ?_ (F.args_dict_iter_1 _))
 unfold Builtin.«dict.__iter__»;refine AH ?_;unfold Builtin.Dict.dictSlotNone
 refine AH (wpAny_notOrdered_dict hT ?_)
 show AJ _ _ (pure (Value.ref d)) _ _ s
 refine AT ?_;show AJ _ _ (Builtin.Dict.showsAll d>>=_) _ _ s;unfold Builtin.Dict.showsAll
 rw [if_neg (by rw [hd];exact Al)]
 refine AH (AT (AH (wpAny_dictEntries ho hdat (AH (wpAny_dictEpoch ho hdat ?_)))))
 refine AH (wpAny_newObj_type (AT ⟨_,rfl,"dict_keyiterator",_,⟨_,As _ rfl,rfl⟩,F.slot_dict_keyiterator_next.lookup, ?_⟩))
 simpa [rawInt] using hQ
theorem b6w{Q:Option AA->AC->Prop}(hit:s.heap.IsKeyIter it d i es.size ep)(hm:a8a s.heap d es ep)(hi:i<es.size)
 (hQ:∀h',h'.IsKeyIter it d (i+1) es.size ep->Heap.SameBut it s.heap h'->Q (some es[i].key) {s with heap:=h'}):AJ (model prog w) A (pyNext (.ref it)) Q E s:=by
 obtain⟨o,ho,hc,hd⟩:=id hit
 obtain⟨od,hod,hcd,hdd⟩:=id hm
 unfold pyNext
 refine AH (wpAny_attempt (wpAny_callSpecial?_slot (name:=AD "__next__") hit.typeIs F.slot_dict_keyiterator_next (wpAny_call_entry F.slot_dict_keyiterator_next hit.typeIs F.entry_dict_keyiterator_next ?_ (F.args_dict_keyiterator_next_1 _))))
 refine AH (AT (AH (AH ?_)))
 refine AH (wpAny_typeNameOfWhole_keyiter hit.typeIs (AT (AH (wpAny_fieldsOf ho hd ?_))))
 have hown:Builtin.Dict_items.ownsTuple "dict_keyiterator"=false:=by decide
 simp only [hown,Ax,if_false];show AJ _ _ (if(Value.ref d==Value.none)=true then _ else _) _ _ s
 rw [if_neg (show ¬((Value.ref d==Value.none)=true) from Al)];refine AH (AT (AH (wpAny_dictEntries hod hdd ?_)))
 rw [if_neg (by simp)];refine AH (AT (AH (wpAny_dictEpoch hod hdd ?_)));rw [if_neg (by simp)];refine AT ?_
 simp only [show ¬((i:Int)<0) from by lia,if_false,BG,Array.getElem?_eq_getElem hi];refine AH ?_
 refine AH (wpAny_typeNameOfWhole_keyiter hit.typeIs (AT (AH (wpAny_isOneOf_keyiter hit.typeIs ?_))))
 show AJ _ _ (setField (.ref it) 1 (rawInt ((i:Int)+1))>>=_) _ _ s;refine AH (wpAny_setField ho hd (by simp) ?_)
 have hit':(s.heap.update it (Obj.mapFields (·.setIfInBounds 1 (rawInt ((i:Int)+1))))).IsKeyIter it d (i+1) es.size ep:=⟨_,Heap.get?_update_self _ ho (Obj.isFreed_of_fields (Obj.data_mapFields hd _)),(Obj.cls_mapFields ..).trans hc,by rw [Obj.data_mapFields hd];simp [rawInt]⟩
 refine AH (wpAny_holding (AH (wpAny_isOneOf_keyiter (s:={s with heap:=s.heap.update it (Obj.mapFields (·.setIfInBounds 1 (rawInt ((i:Int)+1))))}) hit'.typeIs ?_)))
 show AJ _ _ (pure es[i].key) _ _ _;exact AT (AT ⟨_,rfl,AT (hQ _ hit' (Heap.SameBut.update ..))⟩)
theorem b8b{Q:Option AA->AC->Prop}(hh:A.handled=none)(hit:s.heap.IsKeyIter it d es.size es.size ep)(hm:a8a s.heap d es ep)(hQ:∀h',Heap.ExtBut it s.heap h'->Q none {s with heap:=h'}):AJ (model prog w) A (pyNext (.ref it)) Q E s:=by
 obtain⟨o,ho,hc,hd⟩:=id hit
 obtain⟨od,hod,hcd,hdd⟩:=id hm
 unfold pyNext
 refine AH (wpAny_attempt (wpAny_callSpecial?_slot (name:=AD "__next__") hit.typeIs F.slot_dict_keyiterator_next (wpAny_call_entry F.slot_dict_keyiterator_next hit.typeIs F.entry_dict_keyiterator_next ?_ (F.args_dict_keyiterator_next_1 _))))
 refine AH (AT (AH (AH ?_)))
 refine AH (wpAny_typeNameOfWhole_keyiter hit.typeIs (AT (AH (wpAny_fieldsOf ho hd ?_))))
 have hown:Builtin.Dict_items.ownsTuple "dict_keyiterator"=false:=by decide
 simp only [hown,Ax,if_false];show AJ _ _ (if(Value.ref d==Value.none)=true then _ else _) _ _ s
 rw [if_neg (show ¬((Value.ref d==Value.none)=true) from Al)];refine AH (AT (AH (wpAny_dictEntries hod hdd ?_)))
 rw [if_neg (by simp)];refine AH (AT (AH (wpAny_dictEpoch hod hdd ?_)));rw [if_neg (by simp)];refine AT ?_
 simp only [show ¬((es.size:Int)<0) from by lia,if_false,BG,Array.getElem?_eq_none (Aa es.size)];refine AH ?_
 refine AH (wpAny_typeNameOfWhole_keyiter hit.typeIs (AT ?_));show AJ _ _ (setField (.ref it) 0 .none>>=_) _ _ s
 refine AH (wpAny_setField ho hd (by simp) ?_);show AJ _ _ (newExc (.type "StopIteration") []>>=_) _ _ _;refine AH ?_
 simp only [newExc,newTuple];refine AH (wpAny_newObj_type ?_ (by size_fits))
 refine AH (m:=firstArgMember _ _) (wpAny_of_eq (a:=Value.none) (by first|rfl|(simp only [firstArgMember];rfl)) (wpAny_newObj_type ?_ (by size_fits)))
 simp only [raiseNew];refine AH (wpAny_handled ?_);rw [show A.in1.handled=none from hh]
 refine AH (AT (wpAny_throw ?_));refine AH (wpAny_isInstance (T:="StopIteration") (b:=true) ⟨_,As _ rfl,rfl⟩ isSubtype_stop ?_)
 exact AT (hQ _ (((Heap.SameBut.update ..).extBut.push _).push _))
end
end PU
namespace TS
open PySem PySem.Spec PyProof.Rows L2 PU
section
variable {prog:AN}{w:AK}{A:AO}{E:AA->AC->Prop}{s:AC}
variable {κ:SortKind}{S:Keyed->Prop}{R:Keyed->Keyed->Bool}
end
end TS
namespace PU
open PySem PySem.Spec PyProof.Rows L2 PySem.W
section
variable {prog:AN}{w:AK}{A:AO}{E:AA->AC->Prop}{s:AC}
end
section
variable {X:Cx}
end
section
variable {prog:AN}{w:AK}{A:AO}{E:AA->AC->Prop}{s:AC}
end
end PU
set_option maxHeartbeats 3200000
namespace PU
open PySem PySem.Spec PyProof.Rows L2 PySem.W
section
variable {prog:AN}{w:AK}{A:AO}{E:AA->AC->Prop}{s:AC}
end
end PU
set_option maxHeartbeats 1000000
namespace PU
open PySem PySem.Spec PyProof.Rows L2 PySem.W
section
variable {prog:AN}{w:AK}{A:AO}{E:AA->AC->Prop}{s:AC}{it a:AB}{i ep:Nat}{es:Array (Int×AA)}
end
section
variable {prog:AN}{w:AK}{A:AO}{E:AA->AC->Prop}{s:AC}{it a:AB}{i ep:Nat}{es:Array (Int×AA)}
end
section
variable {prog:AN}{w:AK}{A:AO}{E:AA->AC->Prop}{s:AC}{a:AB}{ep:Nat}{es:Array (Int×AA)}
end
section
variable {prog:AN}{w:AK}{A:AO}{E:AA->AC->Prop}{s:AC}{a:AB}{ep:Nat}{es:Array (Int×AA)}
end
section
variable {X:Cx}{pins:List (AB×Obj)}{σ:L2.St}{H:Hp}{s:AC}
end
open PySem PySem.Spec PyProof.Rows L2
section
variable {X:Cx}{pins:List (AB×Obj)}{σ:L2.St}{H:Hp}{s:AC}{a b:AB}{kvs:List (List m5×V)}{k:List m5}{v:V}{r:AA}{A:AO}{E:AA->AC->Prop}
theorem b64{Q:Unit->AC->Prop}(hu:A.units+1<cLine)(I:m9 X pins σ H s)(e:H a=some (.dT kvs))(eb:H b=some (.tup (k.map kV)))(l:kvs.length<AM)(rv:y6 v r)(h:∀s',m9 X pins σ (upd H a (.dT (U0 kvs k v))) s'->Q () s'):
 AJ (model X.prog X.w) A (dictSet a (.ref b) r) Q E s:=by
 obtain⟨z,hd,xs,rel,dd⟩:=b5h I.hok e
 have hz:xs.length<=AM:=by rw [<-Paired.length rel];exact z
 have hl:(U0 kvs k v).length<=AM:=by have:=V1 kvs k v;lia
 refine wpAny_dictSet_heap (hsz:=hz) (show(tupleKind (A0 X.prog X.w)).room A from(by first|exact hu|exact Nat.lt_of_succ_lt hu)) (a4H I.hok eb) dd fun h' dd' hs=>h _ ?_
 obtain⟨q,es,ep,hq,h2,h3,h4,_,h5⟩:=dd'
 refine a5Z I (by rw [e];exact True.intro) hs ⟨q,hq⟩ ⟨hl,hd,_,(rel.put k eb rv).keeps fun c ys ec=>(by rw [j9 (O3 ec e (fun z=>nomatch z))];exact ec),q,es,ep,hq,h2,h3,h4,h5⟩
end
section
variable {X:Cx}
end
def drp(F:Hp)(a:AB):Hp:=fun b=>if b=a then none else F b
theorem a1d{F:Hp}{a b:AB}(h:b≠a):drp F a b=F b:=by unfold drp;rw [if_neg h]
theorem a6O{F:Hp}{a:AB}:drp F a a=none:=by unfold drp;rw [if_pos rfl]
section
variable {K:AE}{F:Hp}{a:AB}{xs:List V}
theorem a6N{b:AB}(h:F b=none):drp F a b=none:=by
 unfold drp
 split
 ·rfl
 ·exact h
end
section
variable {X:Cx}
end
def b15(k:List m5):Bool:=(k.length==3 && k.any Sum.isLeft)
def a2D(o:Obj):Bool:=match o with
 |⟨.type "tuple",_,.seq its _,_⟩=>(its.size==3 && its.toList.any a8z)
 |_=>false
def a1x(K:AE):Bool:=K.all fun p=> !a2D p.2
theorem b4p{K:AE}(nk:a1x K=true){a:AB}{o:Obj}{its:Array AA}{n:Nat}{k:List m5}(e:K.lookup a=some o)(hc:o.cls= .type "tuple")(hd:o.data= .seq its n)(r:u9 (k.map kV) its.toList)(hk:b15 k=true):False:=by
 obtain⟨b,hb⟩:=a3g e
 have h:=List.all_eq_true.mp nk _ hb
 obtain⟨cls,d,data,sl⟩:=o
 simp only at hc hd
 subst hc hd
 unfold b15 at hk
 have h2:=r.length
 have h2:k.length=its.size:=by simpa using h2
 have h3:a2D ⟨.type "tuple",d,.seq its n,sl⟩=true:=by
  rw [Bool.and_eq_true] at hk
  show(its.size==3 && its.toList.any a8z)=true
  rw [a9h r hk.2,<-h2,hk.1];rfl
 rw [h3] at h
 cases h
def P9(r:i7):Option (List m5):=match r with
 | .val (.tuple ps)=>(keysOf ps).bind fun k=>if b15 k=true then some k else none
 |_=>none
theorem a4G{K:AE}{F H:Hp}{r:i7}{k:List m5}{v:V}(nk:a1x K=true)(e:P9 r=some k)(h:S7 K F H v r):∃b,v= .ref b/\F b=some (.tup (k.map kV)):=by
 unfold P9 at e
 split at e
 ·obtain⟨k',e1,e⟩:=bind_some e
  split at e
  ·rename_i hk
   cases e
   obtain⟨b,xs,rfl,hq,rl⟩:=h
   have ex:=Z2 e1 rl
   subst ex
   rcases hq with hq|⟨o,its,n,h1,h2,h3,h4,h5⟩
   ·exact⟨b,rfl,hq⟩
   ·exact(b4p nk h1 h2 h3 h5 hk).elim
  ·cases e
 ·cases e
section
variable {X:Cx}
def b5S(neg:Bool)(i:Nat)(mk:M):M:=fun ρ=>((mk ρ).bind P9).bind (a6J neg i ρ)
theorem b5c{i:Nat}{mk:M}{neg:Bool}{σ:L2.St}{H:Hp}{Q:VK}(nk:a1x X.K=true)(h:tM X.K (b5S neg i mk) σ H Q):
 tM X.K mk σ H fun y H1=>U5 i σ H1 fun x H2=>∃a o,x= .ref a/\a0F H2 a y o/\Q (.bl (if neg then !o.isSome else o.isSome)) H2:=by
 obtain⟨F,ρ,r,en,e,k⟩:=h
 obtain⟨kk,e4,e⟩:=bind_some e
 obtain⟨rk,e4,e5⟩:=bind_some e4
 unfold a6J at e
 split at e
 ·rename_i kvs eo
  cases e
  refine⟨F,ρ,rk,en,e4,fun y F3 H3 o3=> ?_⟩
  obtain⟨b,rfl,hb⟩:=a4G nk e5 o3.rep
  obtain⟨w,hw1,a,xs,rfl,fa,ha',rl⟩:=(en.ext o3.x).at_ i _ eo
  refine⟨.ref a,hw1,a,a0a xs kk,rfl,a0F.t ha' (o3.x.fh _ _ hb), ?_⟩
  rw [rl.isSome]
  exact k _ _ _ (B9.val o3.x rfl)
 ·cases e
end
section
variable {X:Cx}
end
section
variable {X:Cx}{tg:AG}
end
theorem a9I:typeLookup (.type "list") "keys"=pure none:=am_miss_of_fast (by decide+kernel)
section
variable {prog:AN}{w:AK}{A:AO}{E:AA->AC->Prop}{s:AC}
theorem a3B{a:AB}{o:Obj}{xs:Array AA}{k:Nat}{name:Str}{Q:Option AA->AC->Prop}
 (hx:s.heap.get? a=some o) (hc:o.cls= .type "list") (hdat:o.data= .seq xs k) (hd:o.dict=none) (hmiss:typeLookup (.type "list") name=pure none) (hname:(["__module__","__name__","__qualname__","__doc__","__annotations__"]:List Str).contains name=false) (hA:A.handled=none)
 (h:∀h' tk,(∀b ob,s.heap.get? b=some ob->h'.get? b=some ob)->Q none {s with heap:=h',toks:=tk}) (hsz:name.length+100<=AM:=by size_fits):
 AJ (model prog w) A (getAttr? (.ref a) name) Q E s:=by
 obtain⟨c,dct,dat,sl⟩:=o
 simp only at hc hdat hd
 subst hc hdat hd
 obtain⟨hp,g,d,tk,os⟩:=s
 have hT:∀tk',(⟨hp,g,d,tk',os⟩:AC).TypeIs (.ref a) "list":=fun _=>⟨_,hx,rfl⟩
 have f1:=sub_AttributeError
 have f3:=F.slot_list_getattribute.lookup
 have f4:=F.slot_list_getattribute.bind (.ref a)
 have f5:=am_list_getattr_none
 unfold getAttr? getAttrBy? getAttrBy
 repeat (any_goals (first|assumption|exact hT _|((with_reducible show AJ _ _ (call (Value.builtin "list.__getattribute__") _ _) _ _ _);refine call_meets F.slot_list_getattribute (hT _) am_entry_list_getattribute (F.args_list_getattribute_2 _ _) (meets_getattribute_miss_list a xs k sl name _ hmiss hname hsz) ⟨hx,hA,fun h' tk' e hx'=> ?_⟩)|wp_step))
 obtain⟨t',u',he⟩:=hx'.there
 show AJ _ _ (getattributeRaised _ _ _ _ _ _ _) _ _ _
 unfold getattributeRaised
 repeat (any_goals (first|assumption|wp_step))
 exact h _ _ hx'.keeps
end
theorem a0R:entryFor table "dict.update.loop"=some Builtin.«dict.update.loop»:=entryFor_of_tree (by kernel_rfl)
theorem N5:plainId "dict.update.loop"=true:=by decide+kernel
theorem b8m{K:AE}{H:Hp}{a D:AB}{xs:List V}{kvs kvs':List (List m5×V)}(e:H D=some (.dT kvs))(h:SqT K H a xs):SqT K (upd H D (.dT kvs')) a xs:=by
 rcases h with(h|⟨o,h⟩)|h
 ·exact .inl (.inl (by rw [j9 (O3 h e (fun z=>nomatch z))];exact h))
 ·exact .inl (.inr ⟨o,by rw [j9 (O3 h e (fun z=>nomatch z))];exact h⟩)
 ·exact .inr h
theorem b8l{K:AE}{H:Hp}{a D:AB}{xs:List V}{kvs kvs':List (List m5×V)}(e:H D=some (.dT kvs))(h:V2 K H a xs):V2 K (upd H D (.dT kvs')) a xs:=by
 rcases h with(h|⟨o,h⟩)|h
 ·exact .inl (.inl (by rw [j9 (O3 h e (fun z=>nomatch z))];exact h))
 ·exact .inl (.inr ⟨o,by rw [j9 (O3 h e (fun z=>nomatch z))];exact h⟩)
 ·exact .inr h
def a9e(K:AE)(H:Hp)(p:List m5×V)(x:V):Prop:=∃a b,x= .ref a/\SqT K H a [.ref b,p.2]/\H b=some (.tup (p.1.map kV))
theorem a9e.upd{K:AE}{H:Hp}{D:AB}{kvs kvs':List (List m5×V)}(e:H D=some (.dT kvs)){p:List m5×V}{x:V}(h:a9e K H p x):a9e K (upd H D (.dT kvs')) p x:=
 let ⟨a,b,h1,h2,h3⟩:=h
 ⟨a,b,h1,b8m e h2,by rw [j9 (O3 h3 e (fun z=>nomatch z))];exact h3⟩
def a94(kvs rest:List (List m5×V)):List (List m5×V):=rest.foldl (fun d p=>U0 d p.1 p.2) kvs
section
variable {X:Cx}{pins:List (AB×Obj)}{σ:L2.St}{A:AO}{R:Result->AC->Prop}
theorem b2r(hu:A.units+8<cLine)(hh:A.handled=none){D it l:AB}{xs:List V}:∀(rest:List (List m5×V)) (i:Nat) (s:AC) (kvs:List (List m5×V)) (H:Hp) (n:Int) (tk:Tok),m9 X pins σ H s->H D=some (.dT kvs)->V2 X.K H l xs->Paired (a9e X.K H) rest (xs.drop i)->s.heap.IsListIter it l i->
 a7T X pins H it->kvs.length+rest.length<=AM->(∀s',m9 X pins σ (upd H D (.dT (a94 kvs rest))) s'->R (.ok (.ret .none)) s')->
 codeAny (model X.prog X.w) A (.builtin "dict.update.loop" ⟨[.ref D,.ref it,.int n tk,.none],[]⟩) R s:=by
 intro rest
 induction rest with
 |nil=>
  intro i s kvs H n tk I hD hl hp hi hf hz hR
  refine codeAny_builtin a0R ?_
  rw [Around.under_plainId N5 _]
  obtain⟨its,rv,p,_⟩:=I.list hl
  obtain⟨f0,f1,f2,f3,f4,f5⟩:=hf
  have hlen:=rv.length
  have hp':(xs.drop i).length=0:=(Paired.length hp).symm
  rw [List.length_drop] at hp'
  show AJ _ A.in1 (pyNext (.ref it)>>=_) _ _ s
  refine AH (wpAny_pyNext_list_end (show A.in1.handled=none from hh) hi p.isList (by simp;lia) fun h' eb=> ?_)
  have I1:m9 X pins σ H {s with heap:=h'}:=I.turned (t':=s.toks) (fun b o hb e=>eb b o hb e) f0 f1 f3 f4 f5
  have e:upd H D (.dT (a94 kvs []))=H:=by
   funext b
   show(if b=D then some (HO.dT kvs) else H b)=H b
   split
   ·rename_i h;rw [h,hD]
   ·rfl
  rw [e] at hR
  show AJ _ A.in1 (Builtin.Dict.addKeywords D []>>=_) _ _ _
  exact AH (AT (AT (hR _ I1)))
 |cons pr rest ih=>
  intro i s kvs H n tk I hD hl hp hi hf hz hR
  obtain⟨x,r,hx,h1,h2⟩:∃x r,xs.drop i=x::r/\a9e X.K H pr x/\Paired (a9e X.K H) rest r:=by
   generalize xs.drop i=ys at hp
   cases hp with
   |cons a b=>exact⟨_,_,rfl,a,b⟩
  have hxi:xs[i]?=some x:=by
   have:(xs.drop i)[0]?=some x:=by rw [hx];rfl
   rw [List.getElem?_drop] at this
   exact this
  have hr:xs.drop (i+1)=r:=by
   rw [<-List.drop_drop,hx];rfl
  refine codeAny_builtin a0R ?_
  rw [Around.under_plainId N5 _]
  obtain⟨its,rv,p,_⟩:=I.list hl
  obtain⟨f0,f1,f2,f3,f4,f5⟩:=hf
  obtain⟨u,hu,ru⟩:=rv.get hxi
  show AJ _ A.in1 (pyNext (.ref it)>>=_) _ _ s
  refine AH (wpAny_pyNext_list_item hi p.isList (x:=u) (by simpa using hu) fun h' st' sb=> ?_)
  have I1:m9 X pins σ H {s with heap:=h'}:=I.turned (t':=s.toks) (fun b o hb e=>(sb.2 b hb).trans e) f0 f1 f3 f4 f5
  obtain⟨a,b,rfl,hq,hb⟩:=h1
  cases(show u=Value.ref a from ru)
  obtain⟨its2,rv2,⟨o,ho,hoc,n2,hod⟩,_⟩:=I1.tuple hq
  obtain⟨u1,u2,rfl,ru1,ru2⟩:∃u1 u2,its2=[u1,u2]/\y6 (.ref b) u1/\y6 pr.2 u2:=by
   cases rv2 with
   |cons a1 t1=>cases t1 with
    |cons a2 t2=>cases t2;exact⟨_,_,rfl,a1,a2⟩
  cases(show u1=Value.ref b from ru1)
  have hT:Shared.TypeIs {s with heap:=h'} (.ref a) "tuple":=⟨o,ho,hoc⟩
  obtain⟨oi,hoi,hci,hdi⟩:=id st'
  have I1':=I1.pinned (fp:=[it]) (fun b hb=>by
   have e:b=it:=by simpa using hb
   subst e
   exact⟨f0,f1,f2,f3,f4,f5⟩) (fun b hb=>by
   have e:b=it:=by simpa using hb
   subst e
   exact⟨oi,hoi,fun v z=>by rw [hdi] at z;cases z⟩)
  refine AH (wpAny_holding ?_)
  refine AH (wpAny_tryCatch ?_)
  unfold Builtin.Dict.pairItems
  refine AH (wpAny_typeOf hT ?_)
  rw [if_pos (by decide)]
  unfold seqItems?
  refine AH (AH (wpAny_load ho ?_))
  rw [hod]
  refine AT (AT ?_)
  show AJ _ A.in1 (holding [Value.ref b,u2] (dictSet D (.ref b) u2)) _ _ _
  refine wpAny_holding (b64 (show A.in1.units+1<cLine from(by show A.units+1+1<cLine;lia)) I1' hD hb (by rw [AR] at hz;lia) ru2 fun s2 I2'=> ?_)
  have I2:=I2'.unpinned
  have hl2:=V1 kvs pr.1 pr.2
  have hD2:upd H D (.dT (U0 kvs pr.1 pr.2)) D=some (.dT (U0 kvs pr.1 pr.2)):=n0
  have hit:it≠D:=fun z=>by rw [z,hD] at f0;cases f0
  refine AT ⟨plainId_quiet N5 _, ?_⟩
  refine ih (i+1) s2 (U0 kvs pr.1 pr.2) (upd H D (.dT (U0 kvs pr.1 pr.2))) _ _ I2 hD2 (b8l hD hl) (by rw [hr];exact Paired.mapP h2 fun p q z=>z.upd hD) ?_ ⟨by rw [j9 hit];exact f0,f1,f2,f3,f4,f5⟩ (by rw [AR] at hz;lia) fun s' I'=>hR s' (by rw [b0d] at I';exact I')
  exact st'.at fun o e=>(I2'.pin (it,o) (Ay _ (Ay _ (Z5 (by simp) e)))).1
end
def b95(K:AE):List V->Hp->VK->Prop:=fun vs H Q=>∃l xs kvs,vs=[.ref l]/\V2 K H l xs/\Paired (a9e K H) kvs xs/\∀a,H a=none->Q (.ref a) (upd H a (.dT (a94 [] kvs)))
section
variable {X:Cx}
theorem b48(hc:X.calm=true)(hu:X.A.units+64<cLine):a0b X (.type "dict") (b95 X.K):=by
 intro pins s σ H vs us Q I rv h
 obtain⟨l,xs,kvs,rfl,hl,hp,k⟩:=h
 obtain⟨us1,rfl⟩:∃u,us=[u]:=by
  cases rv with
  |cons a t=>cases t;exact⟨_,rfl⟩
 cases rv with
 |cons ru _=>
 cases(show us1=Value.ref l from ru)
 have hn:=I.hok.fresh (Aa s.heap.objs.size)
 have I1:=I.laid (a:=s.heap.objs.size) (o:= .dT []) (h':=s.heap.push {cls:= .type "dict",data:= .dict #[]}) (t':=s.toks) (fun _ _ q=>An _ q) (Aa _) (b0D s.heap I.big)
 have hD:upd H s.heap.objs.size (.dT []) s.heap.objs.size=some (.dT []):=n0
 have dsame:∀b u,H b=some u->upd H s.heap.objs.size (.dT []) b=some u:=fun b u e=>by rw [j9 (r9 e hn)];exact e
 have hl1:V2 X.K (upd H s.heap.objs.size (.dT [])) l xs:=by
  rcases hl with(h|⟨o,h⟩)|h
  ·exact .inl (.inl (dsame _ _ h))
  ·exact .inl (.inr ⟨o,dsame _ _ h⟩)
  ·exact .inr h
 have hp1:Paired (a9e X.K (upd H s.heap.objs.size (.dT []))) kvs xs:=Paired.mapP hp fun p x ⟨a,b,e1,e2,e3⟩=>⟨a,b,e1,(by
  rcases e2 with(h|⟨o,h⟩)|h
  ·exact .inl (.inl (dsame _ _ h))
  ·exact .inl (.inr ⟨o,dsame _ _ h⟩)
  ·exact .inr h),dsame _ _ e3⟩
 have hh:=I.ok.hd hc
 refine callType_codes (Q₁:=fun obj s₁=>obj= .ref s.heap.objs.size/\s₁={s with heap:=s.heap.push {cls:= .type "dict",data:= .dict #[]}}) F.kt_called_dict (F.kt_typeCall_dict_1 _) F.entry_dict_init (kt_code_dict_new _ ⟨rfl,rfl⟩) ?_
 rintro obj s₁ ⟨rfl,rfl⟩
 have hT:Shared.TypeIs {s with heap:=s.heap.push {cls:= .type "dict",data:= .dict #[]}} (.ref s.heap.objs.size) "dict":=⟨_,As _ rfl,rfl⟩
 refine⟨hT,F.args_dict_init_2 _ _, ?_⟩
 obtain⟨its,rvl,⟨ol,n,hol,hcl,hdl,hdatl⟩,hz⟩:=I1.list hl1
 unfold Builtin.«dict.__init__»
 refine AH ?_
 unfold Builtin.Dict.selfAndRest
 refine AH (wpAny_notOrdered_dict hT ?_)
 show AJ _ _ (pure (s.heap.objs.size,[Value.ref l])) _ _ _
 refine AT ?_
 show AJ _ _ (Builtin.Dict.updateFrom "dict.__init__" s.heap.objs.size (.ref l) [] .none) _ _ _
 unfold Builtin.Dict.updateFrom
 refine AH (wpAny_typeOf (T:="list") ⟨_,hol,hcl⟩ ?_)
 rw [if_pos (by decide)]
 refine AH (a3B (A:=X.A.in1.in1) hol hcl hdatl hdl a9I (by decide+kernel) hh (fun h' tk kp=> ?_) (by rw [sizeLine_eq];decide+kernel))
 have I2:m9 X pins σ _ {s with heap:=h',toks:=tk}:=I1.kept (t':=tk) kp
 rw [if_pos (show(none:Option AA).isNone=true from rfl)]
 refine AH (wpAny_rule ?_)
 obtain⟨its3,rv3,p3,_⟩:=I2.list hl1
 refine AH (wpAny_pyIter_list p3.isList ?_)
 have I3:=I2.kept (h':=h'.push {cls:= .type "list_iterator",data:= .fields #[.ref l,.int 0 0]}) (t':=tk) fun b o e=>An _ e
 have hit:=I2.hok.fresh (Aa h'.objs.size)
 have hlen:=Paired.length hp
 refine AT ⟨plainId_quiet N5 _, ?_⟩
 refine b2r (X:=X) (pins:=pins) (σ:=σ) (A:=X.A.in1) (xs:=xs) (show X.A.units+1+8<cLine by lia) hh kvs 0 _ [] _ _ _ I3 hD hl1 hp1 ⟨_,As _ rfl,rfl,rfl⟩ (I2.fpOk (Aa _) hit) (by rw [AY,Nat.zero_add,hlen];exact hz) fun s' I'=> ?_
 refine⟨rfl,.ref s.heap.objs.size,_,I',rfl, ?_⟩
 rw [b0d]
 exact k _ hn
end
def b2q(p:PV):Option (List m5×PV):=match p with
 | .tuple [k,v]=>(P9 (.val k)).map fun k=>(k,v)
 |_=>none
def a0p:List PV->Option (List (List m5×PV))
 |[]=>some []
 |p::ps=>(b2q p).bind fun a=>(a0p ps).map fun r=>a::r
def b1h(kvs rest:List (List m5×PV)):List (List m5×PV):=rest.foldl (fun d p=>a0A d p.1 p.2) kvs
def a3M(x:i7):Option i7:=match x.rd with
 | .list ps=>(a0p ps).map fun kvs=> .ow (.dct (b1h [] kvs))
 |_=>none
theorem a8N{K:AE}{F H:Hp}(nk:a1x K=true)(s:r6 F H):∀{ps:List PV} {xs:List V} {kvs:List (List m5×PV)},a0p ps=some kvs->p8 K F ps xs->∃ys,Paired (a9e K H) ys xs/\C1 K F kvs ys
 |[],_,_,e,h=>by cases e;cases h;exact⟨[],.nil,rfl⟩
 |p::ps,_,_,e,⟨x,r,hx,h1,h2⟩=>by
  subst hx
  obtain⟨a,e1,e⟩:=bind_some e
  cases hq:a0p ps with
  |none=>rw [hq] at e;cases e
  |some kvs=>
   rw [hq] at e
   cases e
   obtain⟨ys,pr,rd⟩:=a8N nk s hq h2
   unfold b2q at e1
   split at e1
   ·rename_i k v
    cases hk:P9 (.val k) with
    |none=>rw [hk] at e1;cases e1
    |some kk=>
     rw [hk] at e1
     cases e1
     obtain⟨t,zs,rfl,ht,y1,_,rfl,r1,y2,_,rfl,r2,hnil⟩:=h1
     cases hnil
     obtain⟨b,rfl,hb⟩:=a4G (H:=H) nk hk (show S7 K F H y1 (.val k) from r1)
     exact⟨(kk,y2)::ys,.cons ⟨t,b,rfl,A9 s ht.sq,s _ _ hb⟩ pr,y2,ys,rfl,r2,rd⟩
   ·cases e1
theorem a8R{K:AE}{F:Hp}:∀{rest:List (List m5×PV)} {ws:List (List m5×V)} {kvs:List (List m5×PV)} {ys:List (List m5×V)},C1 K F kvs ys->C1 K F rest ws->C1 K F (b1h kvs rest) (a94 ys ws)
 |[],_,_,_,h,e=>by cases e;exact h
 |(k,p)::r,_,_,_,h,⟨v,t,e,q,z⟩=>by
  subst e
  have g:=a8R (h.put (k:=k) q) z
  exact g
section
variable {X:Cx}
theorem b47(hc:X.calm=true)(hu:X.A.units+64<cLine)(nk:a1x X.K=true):a0b X (.type "dict") (rC1 X.K a3M):=by
 intro pins s σ H xs us Q I rv h
 obtain⟨F,x,rx,rz,rfl,s0,h1,h2,k⟩:=h
 unfold a3M at h2
 split at h2
 ·rename_i ps e
  cases hq:a0p ps with
  |none=>rw [hq] at h2;cases h2
  |some kvs=>
   rw [hq] at h2
   cases h2
   obtain⟨a,ys,rfl,hs,r⟩:∃a ys,x= .ref a/\V2 X.K H a ys/\p8 X.K F ps ys:=by
    cases rx with
    |val p=>
     have e:p= .list ps:=e
     subst e
     obtain⟨a,ys,e1,e2,e3⟩:=h1
     exact⟨a,ys,e1,O4 s0 e2,e3⟩
    |ow z=>cases z<;>cases e;obtain⟨a,ys,e1,_,e2,e3⟩:=h1;exact⟨a,ys,e1,V2.of e2,e3⟩
    |bo z=>cases z<;>cases e;obtain⟨a,ys,e1,_,e2,e3⟩:=h1;exact⟨a,ys,e1,V2.of e2,e3⟩
   obtain⟨zs,pr,rd⟩:=a8N nk s0 hq r
   refine b48 hc hu pins s σ H _ us Q I rv ⟨a,ys,zs,rfl,hs,pr,fun d hd=>k _ F _ ⟨Ext.layH s0 hd,⟨d,_,rfl,s0.free hd,n0,a8R (ys:=[]) rfl rd⟩,fun _ _ _ e=>by cases e;exact hd⟩⟩
 ·cases h2
end
section
variable {X:Cx}
end
open Builtin Builtin.Str
section
variable {prog:AN}{w:AK}{A:AO}{E:AA->AC->Prop}{s:AC}{x y:Str}{t u:Tok}{Q:AA->AC->Prop}
end
section
variable {X:Cx}
end
def unE:List (PV×PV)->Option (List (List m5×PV))
 |[]=>some []
 |(.tuple ks,p)::r=>(keysOf ks).bind fun k=>(unE r).map fun t=>(k,p)::t
 |_::_=>none
theorem a0l:∀k:List m5,keysOf (k.map kP)=some k
 |[]=>rfl
 | .inl i::k=>by
   rw [AI]
   unfold keysOf
   rw [a0l k]
   rfl
 | .inr x::k=>by
   rw [AI]
   unfold keysOf
   rw [a0l k]
   rfl
theorem b3K{K:AE}{F:Hp}:∀{es:List (PV×PV)} {xs:List (List m5×V)},a2E K F es xs->∃kvs,unE es=some kvs/\C1 K F kvs xs
 |[],_,h=>by cases h;exact⟨[],rfl,rfl⟩
 |(k,p)::es,_,⟨kk,v,t,e,z,q,h⟩=>by
  subst e
  subst z
  obtain⟨kvs,h1,h2⟩:=b3K h
  refine⟨(kk,p)::kvs, ?_,v,t,rfl,q,h2⟩
  unfold unE
  rw [a0l,h1]
  rfl
abbrev dv(kvs:List (List m5×PV)):PV:= .dict ((.tuple [],.none)::kvs.map fun kv=>(PyData.tuple (kv.1.map kP),kv.2))
theorem b6M:∀kvs:List (List m5×PV),unE (kvs.map fun kv=>(PyData.tuple (kv.1.map kP),kv.2))=some kvs
 |[]=>rfl
 |(k,p)::r=>by
  rw [AI]
  unfold unE
  rw [a0l,b6M r]
  rfl
def dvw(i:Nat)(ρ:c6):Option (List (List m5×PV)):=match ρ[i]? with
 |some (some (.val (.dict ((.tuple [],.none)::es))))=>unE es
 |_=>none
theorem a9q{i:Nat}{ρ:c6}{kvs:List (List m5×PV)}(h:ρ[i]?=some (some (.val (dv kvs)))):dvw i ρ=some kvs:=by
 unfold dvw
 rw [h]
 exact b6M kvs
theorem b1O{K:AE}{F H:Hp}{σ:L2.St}{ρ:c6}(en:J0 K F H σ ρ){i:Nat}{kvs:List (List m5×PV)}(h:dvw i ρ=some kvs):∃a xs,σ[i]?=some (some (.ref a))/\F a=some (.dT xs)/\C1 K F kvs xs:=by
 unfold dvw at h
 split at h
 ·rename_i es eo
  obtain⟨v,hv,hr⟩:=en.at_ i _ eo
  rcases hr with⟨a,ys,rfl,ha,kk,w,t,e,z,_,hr⟩|⟨a,xs,rfl,ha,kk,w,t,e,_,_,hr⟩|⟨x,t,e,_⟩|⟨x,m,fs,_,_,_,_,_,e,_⟩
  ·cases ys with
   |nil=>cases e
   |cons y ys=>
    cases e
    cases z
  ·cases e
   obtain⟨kvs',h1,h2⟩:=b3K hr
   rw [h] at h1
   cases h1
   exact⟨a,_,hv,ha,h2⟩
  ·cases e
  ·cases e
 ·cases h
section
variable {X:Cx}
def a3U(neg:Bool)(i:Nat)(mk:M):M:=fun ρ=>((mk ρ).bind P9).bind fun k=>(dvw i ρ).bind fun kvs=>some (.val (.bool (if neg then !(B0 kvs k).isSome else(B0 kvs k).isSome)))
theorem b0A{i:Nat}{mk:M}{neg:Bool}{σ:L2.St}{H:Hp}{Q:VK}(nk:a1x X.K=true)(h:tM X.K (a3U neg i mk) σ H Q):
 tM X.K mk σ H fun y H1=>U5 i σ H1 fun x H2=>∃a o,x= .ref a/\a0F H2 a y o/\Q (.bl (if neg then !o.isSome else o.isSome)) H2:=by
 obtain⟨F,ρ,r,en,e,k⟩:=h
 obtain⟨kk,e4,e⟩:=bind_some e
 obtain⟨rk,e4,e5⟩:=bind_some e4
 obtain⟨kvs,e6,e⟩:=bind_some e
 cases e
 refine⟨F,ρ,rk,en,e4,fun y F3 H3 o3=> ?_⟩
 obtain⟨b,rfl,hb⟩:=a4G nk e5 o3.rep
 obtain⟨a,xs,hw1,ha',rl⟩:=b1O (en.ext o3.x) e6
 refine⟨.ref a,hw1,a,a0a xs kk,rfl,a0F.t (o3.x.fh _ _ ha') (o3.x.fh _ _ hb), ?_⟩
 rw [rl.isSome]
 exact k _ _ _ (B9.val o3.x rfl)
theorem b21(i:Nat){x:Str}{p pos:Pos}{ek:AG}{mk:M}(hu:X.A.units+64<cLine)(nk:a1x X.K=true)(hx:PE X (.Name x p) (U5 i))(hi:EE X ek mk)(hm:behindInMarks .In (.Name x p)=false):ET X (.Compare ek [.In] [.Name x p] pos) (N9 (a3U false i mk)):=
 a3j (a93 (b9S (by lia) hi hx) hm) fun σ H Q h=>b3G (fun _ _ _ h=>b0A nk h) h
end
mutual
def nd:PV->Bool
 | .list ps=>ndL ps
 | .tuple ps=>ndL ps
 | .dict ((.tuple _,_)::_)=>false
 | .dict ((.str _,.bool false)::_)=>false
 | .dict ((.str _,.int _)::_)=>false
 |_=>true
def ndL:List PV->Bool
 |[]=>true
 |p::ps=>nd p && ndL ps
end
def ndD:List (List m5×PV)->Bool
 |[]=>true
 |(_,p)::r=>nd p && ndD r
def i7.noD:i7->Bool
 | .val p=>nd p
 | .ow (.lst ps)=>ndL ps
 | .ow (.dct kvs)=>ndD kvs
 | .ow (.txt kvs)=>ndD kvs
 | .bo _=>false
section
variable {K:AE}{F:Hp}{a:AB}{xs:List (List m5×V)}
mutual
theorem a7y(ha:F a=some (.dT xs)):∀(p:PV) {v:V},E7 K F p v->nd p=true->E7 K (drp F a) p v
 | .none,_,h,_=>h
 | .bool _,_,h,_=>h
 | .int _,_,h,_=>h
 | .str _,_,h,_=>h
 | .list ps,_,⟨b,ys,e,q,r⟩,n=>⟨b,ys,e,(by
  rcases q with(q|⟨o,q⟩)|q
  ·exact .inl (.inl (by rw [a1d (O3 q ha (fun z=>nomatch z))];exact q))
  ·exact .inl (.inr ⟨o,by rw [a1d (O3 q ha (fun z=>nomatch z))];exact q⟩)
  ·exact .inr q),a2C ha ps r (by simpa [nd] using n)⟩
 | .tuple ps,_,⟨b,ys,e,q,r⟩,n=>⟨b,ys,e,(by
  rcases q with q|q
  ·exact .inl (by rw [a1d (O3 q ha (fun z=>nomatch z))];exact q)
  ·exact .inr q),a2C ha ps r (by simpa [nd] using n)⟩
 | .dict kvs,_,h,n=>by
   rcases h with⟨b,ys,q,h,hr⟩|⟨b,ys,q,h,hr⟩|⟨x,t,e,h|⟨z,b,C,φ,q,h,r⟩⟩|⟨x,m,fs,h,hr⟩
   ·cases kvs with
    |nil=>
     have e0:ys=[]:=List.map_eq_nil_iff.mp hr
     subst e0
     exact .inl ⟨b,[],q,by rw [a1d (O3 h ha (fun z=>nomatch z))];exact h,rfl⟩
    |cons f fs=>
     exfalso
     obtain⟨k,p⟩:=f
     obtain⟨kk,w,t,e,z,_⟩:=hr
     subst z
     simp [nd] at n
   ·exfalso
    cases kvs with
    |nil=>cases hr
    |cons f fs=>
     obtain⟨k,p⟩:=f
     obtain⟨kk,w,t,e,z,_⟩:=hr
     subst z
     simp [nd] at n
   ·exact .inr (.inr (.inl ⟨x,t,e,.inl h⟩))
   ·exact .inr (.inr (.inl ⟨x,t,e,.inr ⟨z,b,C,φ,q,by rw [a1d (O3 h ha (fun z=>nomatch z))];exact h,r⟩⟩))
   ·exfalso
    cases kvs with
    |nil=>cases hr
    |cons f fs'=>
     obtain⟨k,p⟩:=f
     obtain⟨f',v',t',e,z,q,_⟩:=hr
     subst z
     cases e
     rcases h with⟨rfl,_⟩|⟨rfl,_⟩
     ·cases p with
      |bool b=>cases q;simp [nd] at n
      |tuple _=>obtain⟨_,_,e,_⟩:=q;cases e
      |list _=>obtain⟨_,_,e,_⟩:=q;cases e
      |dict _=>
       rcases q with⟨_,_,e,_⟩|⟨_,_,e,_⟩|⟨_,_,_,q⟩|⟨_,_,_,q,_⟩
       ·cases e
       ·cases e
       ·obtain⟨_,e⟩:=q.ref;cases e
       ·obtain⟨_,e⟩:=q.ref;cases e
      |_=>cases q
     ·cases p with
      |int b=>simp [nd] at n
      |tuple _=>obtain⟨_,_,e,_⟩:=q;cases e
      |list _=>obtain⟨_,_,e,_⟩:=q;cases e
      |dict _=>
       rcases q with⟨_,_,e,_⟩|⟨_,_,e,_⟩|⟨_,_,_,q⟩|⟨_,_,_,q,_⟩
       ·cases e
       ·cases e
       ·obtain⟨_,e⟩:=q.ref;cases e
       ·obtain⟨_,e⟩:=q.ref;cases e
      |_=>cases q
theorem a2C(ha:F a=some (.dT xs)):∀(ps:List PV) {vs:List V},p8 K F ps vs->ndL ps=true->p8 K (drp F a) ps vs
 |[],_,h,_=>h
 |p::ps,_,⟨v,r,e,q,t⟩,n=>by
  simp only [ndL,Bool.and_eq_true] at n
  exact⟨v,r,e,a7y ha p q n.1,a2C ha ps t n.2⟩
end
theorem a4U(ha:F a=some (.dT xs)):∀(kvs:List (List m5×PV)) {ys:List (List m5×V)},C1 K F kvs ys->ndD kvs=true->C1 K (drp F a) kvs ys
 |[],_,h,_=>h
 |(k,p)::r,_,⟨v,t,e,q,h⟩,n=>by
  simp only [ndD,Bool.and_eq_true] at n
  exact⟨v,t,e,a7y ha p q n.1,a4U ha r h n.2⟩
theorem b4B{H:Hp}{v:V}(ha:F a=some (.dT xs)):∀{r:i7},S7 K F H v r->r.noD=true->S7 K (drp F a) H v r
 | .val p,h,n=>a7y ha p h n
 | .ow (.lst ps),⟨b,ys,e,f,q,r⟩,n=>⟨b,ys,e,a6N f,q,a2C ha ps r n⟩
 | .ow (.dct kvs),⟨b,ys,e,f,q,r⟩,n=>⟨b,ys,e,a6N f,q,a4U ha kvs r n⟩
 | .ow (.txt kvs),⟨b,ys,e,f,q,r⟩,n=>⟨b,ys,e,a6N f,q,a4U ha kvs r n⟩
 | .bo _,_,n=>nomatch n
end
def a0n(g:List PV->Option i7)(i:Nat)(m n:M):M:=fun ρ=>((m ρ).bind i7.toVal).bind fun p=>((n ρ).bind i7.toVal).bind fun q=>match ρ[i]? with
 |some (some (.ow (.dct kvs)))=>(g [p,dv kvs,q]).bind fun r=>if r.noD=true then some r else none
 |_=>none
def a59(g:List PV->Option i7)(i:Nat)(m:M):M:=fun ρ=>((m ρ).bind i7.toVal).bind fun p=>match ρ[i]? with
 |some (some (.ow (.dct kvs)))=>(g [p,dv kvs]).bind fun r=>if r.noD=true then some r else none
 |_=>none
section
variable {X:Cx}
theorem a8F{K:AE}{F2 H1 F3 H3:Hp}{a:AB}{xs:List (List m5×V)}{u:V}{r:i7}(fa:F2 a=none)(o3:B9 K (upd F2 a (.dT xs)) H1 F3 H3 u r)(c:r.noD=true):B9 K F2 H1 (drp F3 a) H3 u r:=by
 have up:r6 F2 (upd F2 a (.dT xs)):=O5 fa
 refine⟨⟨fun b o z=> ?_,o3.x.h,fun b o z=> ?_,fun b o z y t=> ?_,fun b w u z=> ?_⟩,b4B (o3.x.f _ _ n0) o3.rep c,o3.fr⟩
 ·have hb:b≠a:=r9 z fa
  rw [a1d hb];exact o3.x.f _ _ (up _ _ z)
 ·by_cases hb:b=a
  ·subst hb;rw [a6O] at z;cases z
  ·rw [a1d hb] at z;exact o3.x.fh _ _ z
 ·by_cases hb:b=a
  ·subst hb;exact a6O
  ·rw [a1d hb];exact o3.x.nw b o (by rw [j9 hb];exact z) y t
 ·by_cases hb:b=a
  ·subst hb;rw [a6O] at z;cases z
  ·rw [a1d hb] at z
   have:=o3.x.nf _ _ _ z
   rw [j9 hb] at this;exact this
theorem b3d{F2 H1:Hp}{a:AB}{xs:List (List m5×V)}(fh:r6 F2 H1)(ha:H1 a=some (.dT xs)):r6 (upd F2 a (.dT xs)) H1:=fun b o z=>by
 by_cases hb:b=a
 ·subst hb;rw [n0] at z;cases z;exact ha
 ·rw [j9 hb] at z;exact fh _ _ z
theorem b0W{K:AE}{F2:Hp}{a:AB}{xs:List (List m5×V)}{kvs:List (List m5×PV)}(fa:F2 a=none)(rl:C1 K F2 kvs xs):E7 K (upd F2 a (.dT xs)) (dv kvs) (.ref a):=Or.inr (Or.inl ⟨a,xs,rfl,n0,[],.non,xs,rfl,rfl,rfl,a2E.of (O5 fa) rl⟩)
theorem b0F(i:Nat){k k':Nat}{pa pb pc:Str}{g:List PV->Option i7}{x y:Str}{p py pos:Pos}{e e3:AG}{m n:M}
 (d:v8 X.prog X.w X.K X.mg X.base x [pa,pb,pc] k g) (hr:Y1 k' X.A) (hk:k<=k') (hg:Gl X x) (ha:EE X e m) (hy:PE X (.Name y py) (U5 i)) (hc:EE X e3 n)
 (hdb:(x==("__debug__":Str))=false:=by decide) (he:AW [e,.Name y py,e3] X.env=(false,eval e X.env)::AW [.Name y py,e3] X.env:=by rfl) (he2:AW [.Name y py,e3] X.env=(false,eval (.Name y py) X.env)::AW [e3] X.env:=by rfl) (he3:AW [e3] X.env=(false,eval e3 X.env)::AW [] X.env:=by rfl)
 (hpl:(backTo pos (AW [.Name y py,e3] X.env)).any (·.1)=false:=by rfl):
 EE X (.Call (.Name x p) [e,.Name y py,e3] [] pos) (a0n g i m n):=by
 obtain⟨f,fd,G,h1,h2,h3⟩:=d
 refine D7 (a9Z G (hr.mono hk) hg h1 h2 h3 .nil b6e (E9 ha (E9 hy (E9 hc V8 he3) he2) he) hdb he hpl) fun σ H Q h0=>B6 h0 fun F ρ r en hm kq=> ?_
 obtain⟨q,e1,hm⟩:=bind_some hm
 obtain⟨rq,e2,e3'⟩:=bind_some e1
 obtain⟨q3,e4,hm⟩:=bind_some hm
 obtain⟨rq3,e5,e6⟩:=bind_some e4
 split at hm
 ·rename_i kvs eo
  obtain⟨r',e7,hm⟩:=bind_some hm
  split at hm
  ·rename_i c
   cases hm
   refine⟨F,ρ,rq,en,e2,fun v F1 H1 o1=> ?_⟩
   obtain⟨F2,o2⟩:=o1.toVal e3'
   have en2:=en.ext o2.x
   obtain⟨w,hw,a,xs,rfl,fa,ha',rl⟩:=en2.at_ i _ eo
   refine⟨.ref a,hw,F2,ρ,rq3,en2,e5,fun v3 F3 H3 o3=> ?_⟩
   obtain⟨F4,o4⟩:=o3.toVal e6
   have en4:=en2.ext o4.x
   obtain⟨w',hw',a',xs',e8,fa',ha'',rl'⟩:=en4.at_ i _ eo
   rw [hw] at hw'
   cases hw'
   cases e8
   show spP X.K 3 g ([v,.ref a,v3]++[]) H3 Q E0
   rw [Af]
   have up:r6 F4 (upd F4 a (.dT xs')):=O5 fa'
   exact⟨upd F4 a (.dT xs'),[q,dv kvs,q3],_,b3d o4.x.fh ha'',⟨v,[.ref a,v3],rfl,E7.mono up _ (E7.mono o4.x.f _ o2.rep),.ref a,[v3],rfl,b0W fa' rl',v3,[],rfl,E7.mono up _ o4.rep,rfl⟩,rfl,e7,fun u F5 H5 o5=>kq u (drp F5 a) H5 (B9.trans (o2.x.trans o4.x) (a8F fa' o5 c))⟩
  ·cases hm
 ·cases hm
theorem b5i(i:Nat){k k':Nat}{pa pb:Str}{g:List PV->Option i7}{x y:Str}{p py pos:Pos}{e:AG}{m:M}
 (d:v8 X.prog X.w X.K X.mg X.base x [pa,pb] k g) (hr:Y1 k' X.A) (hk:k<=k') (hg:Gl X x) (ha:EE X e m) (hy:PE X (.Name y py) (U5 i))
 (hdb:(x==("__debug__":Str))=false:=by decide) (he:AW [e,.Name y py] X.env=(false,eval e X.env)::AW [.Name y py] X.env:=by rfl) (he2:AW [.Name y py] X.env=(false,eval (.Name y py) X.env)::AW [] X.env:=by rfl)
 (hpl:(backTo pos (AW [.Name y py] X.env)).any (·.1)=false:=by rfl):
 EE X (.Call (.Name x p) [e,.Name y py] [] pos) (a59 g i m):=by
 obtain⟨f,fd,G,h1,h2,h3⟩:=d
 refine D7 (a9Z G (hr.mono hk) hg h1 h2 h3 .nil b6e (E9 ha (E9 hy V8 he2) he) hdb he hpl) fun σ H Q h0=>B6 h0 fun F ρ r en hm kq=> ?_
 obtain⟨q,e1,hm⟩:=bind_some hm
 obtain⟨rq,e2,e3'⟩:=bind_some e1
 split at hm
 ·rename_i kvs eo
  obtain⟨r',e7,hm⟩:=bind_some hm
  split at hm
  ·rename_i c
   cases hm
   refine⟨F,ρ,rq,en,e2,fun v F1 H1 o1=> ?_⟩
   obtain⟨F2,o2⟩:=o1.toVal e3'
   have en2:=en.ext o2.x
   obtain⟨w,hw,a,xs,rfl,fa,ha',rl⟩:=en2.at_ i _ eo
   refine⟨.ref a,hw, ?_⟩
   show spP X.K 2 g ([v,.ref a]++[]) H1 Q E0
   rw [Af]
   have up:r6 F2 (upd F2 a (.dT xs)):=O5 fa
   exact⟨upd F2 a (.dT xs),[q,dv kvs],_,b3d o2.x.fh ha',⟨v,[.ref a],rfl,E7.mono up _ o2.rep,.ref a,[],rfl,b0W fa rl,rfl⟩,rfl,e7,fun u F5 H5 o5=>kq u (drp F5 a) H5 (B9.trans o2.x (a8F fa o5 c))⟩
  ·cases hm
 ·cases hm
end
section
variable {prog:AN}{w:AK}{K:Type}[DecidableEq K]{kd:KeyKind prog w K}{A:AO}{E:AA->AC->Prop}{s:AC}
theorem a5n{k:List K}{b:AB}{Q:Bool->AC->Prop}(hu:A.units<cLine)(hk:(tupleKind kd).is s.heap k b)(h:Q false s):AJ (model prog w) A (eqBool (.ref b) .none) Q E s:=by
 obtain⟨o,items,n,h1,h2,h3,_⟩:=hk
 exact PySem.SeqAt.EqAt.tuple_none ⟨o,h1,h2,n,h3⟩ hu prog w E Q h
theorem b33{d:AB}{o:Obj}{es ep}{xs:List (List K×AB×AA)}{hh:Int}{Q:Option Nat->AC->Prop}(hu:A.units<cLine)
 (ho:s.heap.get? d=some o) (hd:o.data= .dict es ep) (he:es.toList=xs.map (entryOfKey (tupleKind kd))) (his:∀x∈xs,(tupleKind kd).is s.heap x.1 x.2.1) (h:Q none s):
 AJ (model prog w) A (dictFind d .none hh) Q E s:=by
 have hmem:∀e∈es,∃x∈xs,e=entryOfKey (tupleKind kd) x:=by
  intro e hin
  have:e∈xs.map (entryOfKey (tupleKind kd)):=he▸Array.mem_toList_iff.mpr hin
  obtain⟨x,hx,rfl⟩:=Ag.mp this
  exact⟨x,hx,rfl⟩
 have hst:∀v∈(placesWithHash es.size (fun i=>es[i]?.map (·.hash)) hh).filterMap (fun i=>es[i]?.map (·.key)),∃k' b,v= .ref b/\(tupleKind kd).is s.heap k' b:=by
  intro v hv
  obtain⟨i,_,hi⟩:=List.mem_filterMap.mp hv
  cases hei:es[i]? with
  |none=>rw [hei] at hi;cases hi
  |some e=>
   rw [hei] at hi
   obtain rfl:e.key=v:=by simpa using hi
   obtain⟨x,hx,rfl⟩:=hmem e (Array.mem_of_getElem? hei)
   exact⟨x.1,x.2.1,rfl,his x hx⟩
 have tell:∀{Q:Bool->AC->Prop},Q false s->AJ (model prog w) A (tableMayTell .none ((placesWithHash es.size (fun i=>es[i]?.map (·.hash)) hh).filterMap (fun i=>es[i]?.map (·.key)))) Q E s:=by
  intro Q h
  unfold tableMayTell
  split
  ·exact AT h
  ·refine AH (show AJ _ _ (pure true) _ _ _ from AT ?_)
   simp only [Bool.not_true,Ax,if_false]
   refine AH ?_
   refine wpAny_forIn_list _ (fun rest r s'=>s'=s/\r=(none,())/\∀v∈rest,∃k' b,v= .ref b/\(tupleKind kd).is s.heap k' b) _ ?_ ?_ _ _ ⟨rfl,rfl,hst⟩
   ·rintro x rest r s' ⟨rfl,rfl,hr⟩
    obtain⟨k',b,rfl,hb⟩:=hr x Am
    refine AH ((tupleKind kd).quiet hb ?_)
    simp only [Bool.not_true,Ax,if_false]
    exact AT ⟨rfl,rfl,fun v hv=>hr v (Ak _ hv)⟩
   ·rintro r s' ⟨rfl,rfl,_⟩
    exact AT h
 unfold dictFind
 try with_reducible refine wpAny_holding ?_
 refine AH (wpAny_dictEntries ho hd ?_)
 dsimp only
 by_cases hc:((Value.none::(placesWithHash es.size (fun i=>es[i]?.map (·.hash)) hh).filterMap (fun i=>es[i]?.map (·.key))).all carriedByValue)=true
 ·rw [if_pos hc]
  refine AH ?_
  refine wpAny_forIn_list _ (fun rest r s'=>s'=s/\r=(none,())) _ ?_ ?_ _ _ ⟨rfl,rfl⟩
  ·rintro x rest r s' ⟨rfl,rfl⟩
   cases hei:es[x]? with
   |none=>exact AT ⟨rfl,rfl⟩
   |some e=>
    obtain⟨y,hy,rfl⟩:=hmem e (Array.mem_of_getElem? hei)
    dsimp only
    split
    ·refine AH (wpAny_dictEpoch ho hd (AH (a5n hu (his y hy) (AH (wpAny_dictEpoch ho hd ?_)))))
     rw [if_neg (by simp)]
     simp only [Ax,if_false]
     first
      |exact AH (wpAny_rule (AT ⟨rfl,rfl⟩))
      |exact AH (AT (AH (wpAny_rule (AT ⟨rfl,rfl⟩))))
    ·exact AT ⟨rfl,rfl⟩
  ·rintro r s' ⟨rfl,rfl⟩
   exact AT h
 ·rw [if_neg hc]
  by_cases hone:(((placesWithHash es.size (fun i=>es[i]?.map (·.hash)) hh).filterMap (fun i=>es[i]?.map (·.key)))==[Value.none])=true<;>
  (first|rw [if_pos hone]|rw [if_neg hone])<;>(first|refine AH (AT ?_)|refine AH (tell ?_))<;>(
   rw [if_neg (by simp)]
   refine AH ?_
   refine wpAny_forIn_list _ (fun rest r s'=>s'=s/\r=(none,none)) _ ?_ ?_ _ _ ⟨rfl,rfl⟩
   ·rintro x rest r s' ⟨rfl,rfl⟩
    cases hei:es[x]? with
    |none=>exact AT ⟨rfl,rfl⟩
    |some e=>
     obtain⟨y,hy,rfl⟩:=hmem e (Array.mem_of_getElem? hei)
     dsimp only
     split
     ·refine AH (wpAny_dictEpoch ho hd (AH (a5n hu (his y hy) (AH (wpAny_dictEpoch ho hd ?_)))))
      rw [if_neg (by simp)]
      simp only [Ax,if_false]
      refine AH (wpAny_rule ?_)
      first|rw [if_neg (by simp)]|skip
      first
       |exact AT ⟨rfl,rfl⟩
       |exact AH (AT (AT ⟨rfl,rfl⟩))
     ·exact AT ⟨rfl,rfl⟩
   ·rintro r s' ⟨rfl,rfl⟩
    exact AT h)
theorem b5D{d:AB}{xs:List (List K×AB×AA)}{Q:Option AA->AC->Prop}(hu:A.units<cLine)(hm:s.heap.DictOfH (tupleKind kd) d xs)(h:∀tk,Q none {s with toks:=tk}):
 AJ (model prog w) A (dictGet d .none) Q E s:=by
 obtain⟨o,es,ep,ho,_,hd,he,his,hn⟩:=hm
 unfold dictGet
 try with_reducible refine wpAny_holding ?_
 refine AH (show AJ _ _ (pyHashByItsType .none) _ _ _ from PySem.W.pyHash_slot (T:="NoneType") rfl F.slot_NoneType_hash F.entry_NoneType_hash (F.args_NoneType_hash_1 _) (beq_builtin_none _) (.inl rfl) (AH (AT (AH (wpAny_mkInt (AT ⟨_,_,rfl, ?_⟩))))))
 exact AH (b33 (kd:=kd) (xs:=xs) hu ho hd he his (AT (h _)))
theorem b5E{d:AB}{xs:List (List K×AB×AA)}{Q:Bool->AC->Prop}(hu:A.in1.units<cLine)(hd:(d==sysModules)=false)(hm:s.heap.DictOfH (tupleKind kd) d xs)(h:∀tk,Q false {s with toks:=tk}):
 AJ (model prog w) A (contains (.ref d) .none) Q E s:=by
 unfold contains
 try with_reducible refine wpAny_holding ?_
 refine AH (wpAny_specialOf hm.typeIs slot_dict_contains.lookup ?_)
 show AJ _ _ (if(some (Value.builtin "dict.__contains__")==some Value.none)=true then _ else _) _ E s
 rw [if_neg (by rw [beq_builtin_none];exact Al)]
 refine AH (wpAny_callSpecialUnlessNone?_slot (name:=AD "__contains__") hm.typeIs slot_dict_contains
  (wpAny_call_entry slot_dict_contains hm.typeIs entry_dict_contains ?_ (args_dict_contains _ _)))
 show AJ _ _ (dictGet d .none>>=_) _ _ s
 refine AH (b5D hu hm fun tk=> ?_)
 show AJ _ _ (Builtin.Dict.pendingKey? d .none>>=_) _ _ _
 exact AH (wpAny_pendingKey_other hd (AT ⟨_,rfl,wpAny_truthy_bool (h tk)⟩))
end
section
variable {X:Cx}{pins:List (AB×Obj)}{σ:L2.St}{H:Hp}{s:AC}{a:AB}{kvs:List (List m5×V)}{A:AO}{E:AA->AC->Prop}
theorem b5a{Q:AA->AC->Prop}(hu:A.units+1<cLine)(I:m9 X pins σ H s)(g:H a=some (.dT kvs))(h:∀s',m9 X pins σ H s'->Q (.bool true) s'):
 AJ (model X.prog X.w) A (compareOp .NotIn .none (.ref a)) Q E s:=by
 obtain⟨z,hd,xs,rel,dd⟩:=b5h I.hok g
 show AJ _ _ (do return .bool (!(<-contains (.ref a) .none))) Q E s
 exact AH (b5E (show A.units+1<cLine from hu) hd dd fun tk=>AT (h _ (I.tok _)))
end
section
variable {X:Cx}{o i:AG}{td ty:TE}
def a7N(ty td:TE):TE:=fun σ H Q=>ty σ H fun y H1=>td σ H1 fun x H2=>(∃a o,x= .ref a/\a0F H2 a y o/\Q (.bl (!o.isSome)) H2)\/∃a kvs,x= .ref a/\y= .non/\H2 a=some (.dT kvs)/\Q (.bl true) H2
theorem a7v(hu:X.A.units+1<cLine)(hi:PE X i ty)(ho:PE X o td):PC X .NotIn i o (a7N ty td):=by
 intro pins s σ H Q I h
 refine M7 (hi pins s σ H _ I h) fun iv s1 h0=>u3 h0 fun y H1 I1 ry q1=>M7 (ho pins s1 σ H1 _ I1 q1) fun u s2 h0=>u3 h0 fun x H2 I2 rx q=> ?_
 rcases q with⟨a,ov,ex,g,q2⟩|⟨a,kvs,ex,ey,g,q2⟩
 ·subst ex
  obtain rfl:u=Value.ref a:=rx
  exact b2P hu I2 g ry fun s3 I3=>⟨.bl (!ov.isSome),H2,I3,rfl,q2⟩
 ·subst ex
  subst ey
  obtain rfl:u=Value.ref a:=rx
  obtain rfl:iv=Value.none:=ry
  exact b5a hu I2 g fun s3 I3=>⟨.bl true,H2,I3,rfl,q2⟩
end
section
variable {X:Cx}
def a7a(r:i7):Option (Option (List m5)):=match r with
 | .val .none=>some none
 |r=>(P9 r).map some
def a0W(i:Nat)(mk:M):M:=fun ρ=>((mk ρ).bind a7a).bind fun o=>match o with
 |none=>(match ρ[i]? with|some (some (.ow (.dct _)))=>some (.val (.bool true))|_=>none)
 |some k=>a6J true i ρ k
theorem b0C{i:Nat}{mk:M}{σ:L2.St}{H:Hp}{Q:VK}(nk:a1x X.K=true)(h:tM X.K (a0W i mk) σ H Q):a7N (tM X.K mk) (U5 i) σ H Q:=by
 obtain⟨F,ρ,r,en,e,k⟩:=h
 obtain⟨kk,e4,e⟩:=bind_some e
 obtain⟨rk,e4',e5⟩:=bind_some e4
 cases kk with
 |none=>
  dsimp only at e
  split at e
  ·rename_i kvs eo
   cases e
   have er:rk= .val .none:=by
    unfold a7a at e5
    split at e5
    ·rfl
    ·cases hq:P9 rk with
     |none=>rw [hq] at e5;cases e5
     |some q=>rw [hq] at e5;cases e5
   subst er
   refine⟨F,ρ,_,en,e4',fun y F3 H3 o3=> ?_⟩
   obtain⟨w,hw1,a,xs,rfl,fa,ha',rl⟩:=(en.ext o3.x).at_ i _ eo
   exact⟨.ref a,hw1,.inr ⟨a,xs,rfl,o3.rep,ha',k _ _ _ (B9.val o3.x rfl)⟩⟩
  ·cases e
 |some kk=>
  have e6:P9 rk=some kk:=by
   unfold a7a at e5
   split at e5
   ·cases e5
   ·cases hq:P9 rk with
    |none=>rw [hq] at e5;cases e5
    |some q=>rw [hq] at e5;cases e5;rfl
  have hh:tM X.K (b5S true i mk) σ H Q:=⟨F,ρ,r,en,by unfold b5S;rw [e4'];show(P9 rk).bind _=_;rw [e6];exact e,k⟩
  obtain⟨F',ρ',r',en',e',k'⟩:=b5c nk hh
  refine⟨F',ρ',r',en',e',fun y F3 H3 o3=> ?_⟩
  obtain⟨x,hx,a,o,ex,g,q⟩:=k' y F3 H3 o3
  exact⟨x,hx,.inl ⟨a,o,ex,g,q⟩⟩
theorem b1S(i:Nat){x:Str}{p pos:Pos}{ek:AG}{mk:M}(hu:X.A.units+64<cLine)(nk:a1x X.K=true)(hx:PE X (.Name x p) (U5 i))(hi:EE X ek mk)(hm:behindInMarks .NotIn (.Name x p)=false):ET X (.Compare ek [.NotIn] [.Name x p] pos) (N9 (a0W i mk)):=
 a3j (a93 (a7v (by lia) hi hx) hm) fun σ H Q h=>b3G (fun _ _ _ h=>b0C nk h) h
end
def b0L(x:i7):Option i7:=match x with
 | .val (.bool b)=>some (.val (.int (if b then 1 else 0)))
 |_=>none
theorem a6G{X:Cx}:a0b X (.type "int") (rC1 X.K b0L):=by
 intro pins s σ H xs us Q I rv h
 obtain⟨F,x,rx,rz,rfl,s0,h1,h2,k⟩:=h
 obtain⟨u,rfl,ru⟩:=a7Q rv
 unfold b0L at h2
 split at h2
 ·rename_i b
  cases h2
  cases h1
  cases(show u=Value.bool b from ru)
  exact PySem.call_int_bool ⟨.int _,H,I.tok _,⟨_,rfl⟩,k _ F H (B9.here s0 rfl)⟩
 ·cases h2
section
variable {X:Cx}
end
section
variable {prog:AN}{w:AK}{K:Type}[DecidableEq K]{knd:KeyKind prog w K}{A:AO}{E:AA->AC->Prop}{s:AC}
end
section
variable {prog:AN}{w:AK}{A:AO}{E:AA->AC->Prop}{s:AC}
end
end PU
namespace TS
open PySem PySem.Spec PyProof.Rows L2 PU
section
variable {prog:AN}{w:AK}{A:AO}{E:AA->AC->Prop}{s:AC}
variable {κ:SortKind}{S:Heap->Keyed->Prop}{R:Heap->Keyed->Keyed->Bool}
end
end TS
namespace PU
open PySem PySem.Spec PyProof.Rows L2 PySem.W
section
variable {X:Cx}{pins:List (AB×Obj)}{σ:L2.St}{H H':Hp}{s:AC}{h':Heap}
end
section
variable {X:Cx}
end
section
variable {X:Cx}
end
open PySem PySem.Spec PyProof.Rows L2
section
variable {X:Cx}{pins:List (AB×Obj)}{σ:L2.St}{H:Hp}{s:AC}{a:AB}{kvs:List (m5×V)}{k:m5}{v:V}{u r:AA}{A:AO}{E:AA->AC->Prop}
end
section
variable {X:Cx}{pins:List (AB×Obj)}{σ:L2.St}{A:AO}{R:Result->AC->Prop}
end
section
variable {X:Cx}
end
section
variable {X:Cx}
end
section
variable {X:Cx}
end
section
variable {K:AE}{F:Hp}{a:AB}{xs:List (m5×V)}
end
section
variable {X:Cx}
end
section
variable {M:Model}{A:AO}{E:AA->AC->Prop}{s:AC}{base:Heap}{env:Env}{outer:List Env}{L e C:AB}{dd:Option AB}
end
section
variable {P:AN}{w:AK}{K:AE}{mg:Str->Option AA}{base:Heap}{N:List Str}{qual:Str}{scope:Scope}{f:AB}{cd:AA}{A:AO}{outer:List Env}{s:AC}{H:Hp}{E:XK}
end
section
variable {X:Cx}{x:Str}{C:AB}{np cpos pos:Pos}{e₀:AG}{rest:List AG}{t:TA}{W:Hp->Prop}
end
section
variable {X:Cx}{pins:List (AB×Obj)}{σ:L2.St}{H:Hp}{s:AC}
end
section
variable {X:Cx}{E:L2.St->XK}
end
section
variable {X:Cx}{E:L2.St->XK}{CX:CXT}
end
section
variable {X:Cx}
end
section
variable {X:Cx}
end
section
variable {X:Cx}
end
section
variable {X:Cx}
end
section
variable {X:Cx}{pins:List (AB×Obj)}{σ:L2.St}{H:Hp}{s:AC}
end
section
variable {X:Cx}
end
section
variable {X:Cx}
end
section
variable {X:Cx}
end
section
variable {X:Cx}
end
section
variable {X:Cx}
end
section
variable {X:Cx}
end
section
variable {X:Cx}
end
section
variable {X:Cx}
end
section
variable {X:Cx}
end
def b8W(n:Nat):m5->Bool
 | .inr s=>s.length==n
 |_=>false
def b3E(n:Nat):AA->Bool
 | .str s _=>s.length==n
 |_=>false
def b16(k:List m5):Bool:=((k.length==2||k.length==3)&& k.any Sum.isLeft)||((Nat.blt 0 k.length && Nat.blt k.length 6)&& k.all (b8W k.length))
def a42(o:Obj):Bool:=match o with
 |⟨.type "tuple",_,.seq its _,_⟩=>((its.size==2||its.size==3)&& its.toList.any a8z)||((Nat.blt 0 its.size && Nat.blt its.size 6)&& its.toList.all (b3E its.size))
 |_=>false
def a5y(K:AE):Bool:=K.all fun p=> !a42 p.2
theorem b2H{n:Nat}:∀{k:List m5} {us:List AA},u9 (k.map kV) us->k.all (b8W n)=true->us.all (b3E n)=true
 |[],_,r,_=>by
  rw [AS] at r
  cases r;rfl
 |k::ks,_,r,h=>by
  rw [AI] at r
  cases r with
  |cons r1 r2=>
   rw [List.all_cons,Bool.and_eq_true] at h ⊢
   refine⟨?_,b2H r2 h.2⟩
   cases k with
   |inl i=>cases h.1
   |inr x=>obtain⟨t,rfl⟩:=(show ∃t,_=Value.str x t from r1);exact h.1
theorem b4q{K:AE}(nk:a5y K=true){a:AB}{o:Obj}{its:Array AA}{n:Nat}{k:List m5}(e:K.lookup a=some o)(hc:o.cls= .type "tuple")(hd:o.data= .seq its n)(r:u9 (k.map kV) its.toList)(hk:b16 k=true):False:=by
 obtain⟨b,hb⟩:=a3g e
 have h:=List.all_eq_true.mp nk _ hb
 obtain⟨cls,d,data,sl⟩:=o
 simp only at hc hd
 subst hc hd
 unfold b16 at hk
 have h2:=r.length
 have h2:k.length=its.size:=by simpa using h2
 have h3:a42 ⟨.type "tuple",d,.seq its n,sl⟩=true:=by
  show(((its.size==2||its.size==3)&& its.toList.any a8z)||((Nat.blt 0 its.size && Nat.blt its.size 6)&& its.toList.all (b3E its.size)))=true
  rw [Bool.or_eq_true,Bool.and_eq_true,Bool.and_eq_true] at hk ⊢
  rcases hk with hk|hk
  ·exact .inl ⟨by rw [<-h2];exact hk.1,a9h r hk.2⟩
  ·exact .inr ⟨by rw [<-h2];exact hk.1,b2H r (by rw [<-h2];exact hk.2)⟩
 rw [h3] at h
 cases h
def a5q(r:i7):Option (List m5):=match r with
 | .val (.tuple ps)=>(keysOf ps).bind fun k=>if b16 k=true then some k else none
 |_=>none
theorem a8D{K:AE}{F H:Hp}{r:i7}{k:List m5}{v:V}(nk:a5y K=true)(e:a5q r=some k)(h:S7 K F H v r):∃b,v= .ref b/\F b=some (.tup (k.map kV)):=by
 unfold a5q at e
 split at e
 ·obtain⟨k',e1,e⟩:=bind_some e
  split at e
  ·rename_i hk
   cases e
   obtain⟨b,xs,rfl,hq,rl⟩:=h
   have ex:=Z2 e1 rl
   subst ex
   rcases hq with hq|⟨o,its,n,h1,h2,h3,h4,h5⟩
   ·exact⟨b,rfl,hq⟩
   ·exact(b4q nk h1 h2 h3 h5 hk).elim
  ·cases e
 ·cases e
section
variable {X:Cx}
def a6b(i:Nat)(mk mv:M):MS:=fun ρ=>((mv ρ).bind i7.toVal).bind fun p=>((mk ρ).bind a5q).bind (a6L i ρ p)
theorem a8t(i:Nat){x:Str}{p tp2 pos:Pos}{ek e:AG}{mk mv:M}(hu:X.A.units+64<cLine)(nk:a5y X.K=true)(hx:PE X (.Name x p) (U5 i))(hi:EE X ek mk)(he:EE X e mv)
 (hs:swapsWith e (some (.Subscript (.Name x p) ek tp2)) pos.line X.env=pure false:=by rfl):ES X (.Assign [.Subscript (.Name x p) ek tp2] e pos) (a6b i mk mv):=
 S5 (b3w (by lia) hx hi he hs) fun D σ H h0=>M6 h0 fun F0 H0 F ρ fl so e fin=>by
  obtain⟨q,e1,e⟩:=bind_some e
  obtain⟨r,e2,e3⟩:=bind_some e1
  obtain⟨k,e4,e⟩:=bind_some e
  obtain⟨rk,e4,e5⟩:=bind_some e4
  refine⟨F,ρ,r,so.e,e2,fun v F1 H1 o=> ?_⟩
  obtain⟨F2,o2⟩:=o.toVal e3
  have so2:=so.ext o2.x
  unfold a6L at e
  split at e
  ·rename_i kvs eo
   split at e
   ·rename_i hl
    cases e
    obtain⟨w,hw1,a,xs,rfl,fa,ha',rl⟩:=so2.e.at_ i _ eo
    refine⟨.ref a,hw1,F2,ρ,rk,so2.e,e4,fun y F3 H3 o3=> ?_⟩
    obtain⟨b,rfl,hb⟩:=a8D nk e5 o3.rep
    have ha3:=o3.x.h _ _ ha'
    have so3:=so2.ext o3.x
    refine⟨a,_,rfl,b3N.t (k:=k) ha3 (o3.x.fh _ _ hb) (by rw [rl.length];exact hl), ?_⟩
    exact fin σ _ _ (o2.x.f.trans o3.x.f) (so3.putD eo hw1 ((C1.mono o3.x.f _ rl).put (E7.mono o3.x.f _ o2.rep)))
   ·cases e
  ·cases e
def b0Y(neg:Bool)(i:Nat)(mk:M):M:=fun ρ=>((mk ρ).bind a5q).bind (a6J neg i ρ)
theorem b5d{i:Nat}{mk:M}{neg:Bool}{σ:L2.St}{H:Hp}{Q:VK}(nk:a5y X.K=true)(h:tM X.K (b0Y neg i mk) σ H Q):
 tM X.K mk σ H fun y H1=>U5 i σ H1 fun x H2=>∃a o,x= .ref a/\a0F H2 a y o/\Q (.bl (if neg then !o.isSome else o.isSome)) H2:=by
 obtain⟨F,ρ,r,en,e,k⟩:=h
 obtain⟨kk,e4,e⟩:=bind_some e
 obtain⟨rk,e4,e5⟩:=bind_some e4
 unfold a6J at e
 split at e
 ·rename_i kvs eo
  cases e
  refine⟨F,ρ,rk,en,e4,fun y F3 H3 o3=> ?_⟩
  obtain⟨b,rfl,hb⟩:=a8D nk e5 o3.rep
  obtain⟨w,hw1,a,xs,rfl,fa,ha',rl⟩:=(en.ext o3.x).at_ i _ eo
  refine⟨.ref a,hw1,a,a0a xs kk,rfl,a0F.t ha' (o3.x.fh _ _ hb), ?_⟩
  rw [rl.isSome]
  exact k _ _ _ (B9.val o3.x rfl)
 ·cases e
theorem a6R(i:Nat){x:Str}{p pos:Pos}{ek:AG}{mk:M}(hu:X.A.units+64<cLine)(nk:a5y X.K=true)(hx:PE X (.Name x p) (U5 i))(hi:EE X ek mk)(hm:behindInMarks .NotIn (.Name x p)=false):ET X (.Compare ek [.NotIn] [.Name x p] pos) (N9 (b0Y true i mk)):=
 a3j (a93 (b4x (by lia) hi hx) hm) fun σ H Q h=>b3G (fun _ _ _ h=>b5d nk h) h
end
section
variable {X:Cx}
end
theorem a5t(i:Nat)(mk mv:M)(ρ:c6):a6b i mk mv ρ=((mv ρ).bind i7.toVal).bind fun p=>((mk ρ).bind a5q).bind (a6L i ρ p):=Eq.trans rfl rfl
theorem a2x(neg:Bool)(i:Nat)(mk:M)(ρ:c6):b0Y neg i mk ρ=((mk ρ).bind a5q).bind (a6J neg i ρ):=Eq.trans rfl rfl
theorem a57(i j:Int):a5q (.val (.tuple [.int i,.int j]))=some [.inl i,.inl j]:=Eq.trans rfl rfl
section
variable {X:Cx}
variable {Φ:L2.St->Hp->Prop}{I:List Nat}
end
mutual
def a7Y:PV->Bool
 | .none=>true
 | .bool _=>true
 | .int _=>true
 | .str _=>true
 | .tuple ps=>a6S ps
 |_=>false
def a6S:List PV->Bool
 |[]=>true
 |p::ps=>a7Y p && a6S ps
end
mutual
theorem b1j{K:AE}{F G:Hp}(h:∀c ys,F c=some (.tup ys)->G c=some (.tup ys)):∀(p:PV) {v:V},a7Y p=true->E7 K F p v->E7 K G p v
 | .none,_,_,r=>r
 | .bool _,_,_,r=>r
 | .int _,_,_,r=>r
 | .str _,_,_,r=>r
 | .tuple ps,_,f,⟨a,xs,e,q,r⟩=>⟨a,xs,e,q.elim (fun z=> .inl (h _ _ z)) .inr,a8S h ps (by simpa [a7Y] using f) r⟩
 | .list _,_,f,_=>by simp [a7Y] at f
 | .dict _,_,f,_=>by simp [a7Y] at f
theorem a8S{K:AE}{F G:Hp}(h:∀c ys,F c=some (.tup ys)->G c=some (.tup ys)):∀(ps:List PV) {vs:List V},a6S ps=true->p8 K F ps vs->p8 K G ps vs
 |[],_,_,r=>r
 |p::ps,_,f,⟨v,t,e,q,r⟩=>by
  have f:a7Y p=true/\a6S ps=true:=by simpa [a6S] using f
  exact⟨v,t,e,b1j h p f.1 q,a8S h ps f.2 r⟩
end
def keep(A:List Nat)(ρ:c6):c6:=ρ.zipIdx.map fun p=>if p.2∈A then p.1 else none
theorem b0T(A:List Nat)(ρ:c6):(keep A ρ).length=ρ.length:=by unfold keep;simp
theorem b3b{A:List Nat}{ρ:c6}{j:Nat}{r:i7}(h:(keep A ρ)[j]?=some (some r)):j∈A/\ρ[j]?=some (some r):=by
 unfold keep at h
 rw [Au,List.getElem?_zipIdx] at h
 cases e:ρ[j]? with
 |none=>rw [e] at h;simp at h
 |some q=>
  rw [e] at h
  simp only [Ao,Nat.zero_add,Option.some.injEq] at h
  split at h
  ·rename_i hj;exact⟨hj,by rw [h]⟩
  ·cases h
def b7L(K:AE):Bool:=K.all fun p=>match p.2.cls with
 | .type x=> !(x=="list")
 |_=>true
theorem b55{K:AE}(nk:b7L K=true){a:AB}{o:Obj}(e:K.lookup a=some o)(hc:o.cls= .type "list"):False:=by
 obtain⟨b,hb⟩:=a3g e
 have h:=List.all_eq_true.mp nk _ hb
 simp only [hc] at h
 simp at h
theorem b9R{K:AE}{F H:Hp}{v:V}:∀{c:X2},Z9 K F H v c->∃a o,v= .ref a/\F a=none/\H a=some o/\NT o
 | .lst _,⟨a,_,e,n,q,_⟩=>⟨a,_,e,n,q,fun _ h=>nomatch h⟩
 | .dct _,⟨a,_,e,n,q,_⟩=>⟨a,_,e,n,q,fun _ h=>nomatch h⟩
 | .txt _,⟨a,_,e,n,q,_⟩=>⟨a,_,e,n,q,fun _ h=>nomatch h⟩
theorem b8c{K:AE}{F H F' H':Hp}{a:AB}:∀{c:X2},Z9 K F H (.ref a) c->r6 F F'->F' a=none->(∀o,H a=some o->H' a=some o)->Z9 K F' H' (.ref a) c
 | .lst _,⟨a',xs,e,n,q,r⟩,s,f,h=>by cases e;exact⟨_,xs,rfl,f,h _ q,p8.mono s _ r⟩
 | .dct _,⟨a',xs,e,n,q,r⟩,s,f,h=>by cases e;exact⟨_,xs,rfl,f,h _ q,C1.mono s _ r⟩
 | .txt _,⟨a',xs,e,n,q,r⟩,s,f,h=>by cases e;exact⟨_,xs,rfl,f,h _ q,C1.mono s _ r⟩
theorem b6F{ρ:c6}{i j:Nat}{r:Option i7}{q:i7}(h:(ρ.set i r)[j]?=some (some q)):(j=i/\r=some q)\/(j≠i/\ρ[j]?=some (some q)):=by
 rw [List.getElem?_set] at h
 split at h
 ·rename_i z
  split at h
  ·exact .inl ⟨z.symm,Option.some.inj h⟩
  ·cases h
 ·rename_i z;exact .inr ⟨fun y=>z y.symm,h⟩
def a4o(F:Hp):Hp:=fun c=>match F c with
 |some (.tup ys)=>some (.tup ys)
 |_=>none
theorem b5u{F:Hp}:∀c ys,F c=some (.tup ys)->a4o F c=some (.tup ys):=fun c ys e=>by unfold a4o;rw [e]
theorem a6V{F:Hp}{c:AB}{o:HO}(e:a4o F c=some o):F c=some o/\∃ys,o= .tup ys:=by
 unfold a4o at e
 split at e
 ·rename_i ys z;cases e;exact⟨z,ys,rfl⟩
 ·cases e
theorem b38{F:Hp}{c:AB}(f:F c=none):a4o F c=none:=by unfold a4o;rw [f]
theorem b5t{F:Hp}{c:AB}{xs:List V}(H:Hp)(s:r6 F H)(h:H c=some (.lst xs)):a4o F c=none:=by
 cases e:a4o F c with
 |none=>rfl
 |some o=>
  obtain⟨e1,ys,rfl⟩:=a6V e
  rw [s _ _ e1] at h;cases h
def b5p(A:List Nat)(ρ:c6):Bool:=A.all fun j=>match ρ[j]? with
 |some (some (.val p))=>a7Y p
 |_=>false
theorem b34{K:AE}{F H H':Hp}{σ σ':L2.St}{ρ:c6}{A:List Nat}(en:J0 K F H σ ρ)(fa:b5p A ρ=true)(hs:r6 (a4o F) H')(hl:σ'.length=σ.length)(hσ:∀j∈A,σ'[j]?=σ[j]?):J0 K (a4o F) H' σ' (keep A ρ):=by
 have at_:∀(j:Nat) (q:i7),(keep A ρ)[j]?=some (some q)->∃p v,q= .val p/\σ'[j]?=some (some v)/\E7 K (a4o F) p v:=fun j q z=>by
  obtain⟨z1,z2⟩:=b3b z
  have f1:=List.all_eq_true.mp fa j z1
  rw [z2] at f1
  cases q with
  |val p=>
   obtain⟨v,v1,v2⟩:=en.at_ j _ z2
   exact⟨p,v,rfl,by rw [hσ j z1];exact v1,b1j b5u p f1 v2⟩
  |ow c=>cases f1
  |bo c=>cases f1
 refine⟨hs,by rw [b0T,hl];exact en.len,fun j q z=> ?_,fun j c z=> ?_,fun j k c d a _ z=> ?_⟩
 ·obtain⟨p,v,rfl,h1,h2⟩:=at_ j q z
  exact⟨v,h1,h2⟩
 ·obtain⟨p,v,e,_⟩:=at_ j _ z;cases e
 ·obtain⟨p,v,e,_⟩:=at_ j _ z;cases e
theorem a1Y{σ:L2.St}{i j:Nat}{v:Option V}(h:j≠i):(σ.set i v)[j]?=σ[j]?:=List.getElem?_set_ne (fun z=>h z.symm)
section
variable {X:Cx}
end
section
variable {prog:AN}{w:AK}{A:AO}{E:AA->AC->Prop}{s:AC}{z TI TO i1 i2:AB}{n1 n2 i:Nat}{P1 P2:Nat->AA->Prop}{St1 St2:Nat->Heap->Prop}{a b:AA}
end
section
variable {X:Cx}
end
section
variable {prog:AN}{w:AK}{K:Type}[DecidableEq K]{knd:KeyKind prog w K}{A:AO}{E:AA->AC->Prop}{s:AC}
end
section
variable {X:Cx}
end
theorem m9.retold{X:Cx}{pins:List (AB×Obj)}{σ:L2.St}{H H':Hp}{s:AC}(I:m9 X pins σ H s)(hn:∀b,H b=none->H' b=none)(tups:∀b xs,H b=some (.tup xs)->H' b=some (.tup xs))
 (frzs:∀b o u,X.H₀ b=some (.frz o u)->H' b=some (.frz o u)) (tbls:∀b ps,H b=some (.tbl ps)->H' b=some (.tbl ps)) (hok:HOk X.prog X.w H' s.heap):m9 X pins σ H' s:=
 ⟨I.ok,I.os,I.bare,⟨I.base.keep,I.base.slot,fun b o e n hx=>hn b (I.base.free b o e n hx),I.base.there,fun b xs e=>tups b xs (I.base.tups b xs e),frzs,fun b ps e=>let ⟨m,q⟩:=I.base.tbls b ps e;⟨m,tbls _ _ q⟩⟩,
  I.loc,I.cell,hn _ I.free,fun x c e=>hn _ (I.freeC x c e),fun p hp=>let ⟨a,b,c⟩:=I.pin p hp;⟨a,hn _ b,c⟩,hok,I.len⟩
def epO(o:Obj):Nat:=match o.data with
 | .dict _ ep=>ep
 |_=>0
theorem c03{α β:Type}{F:α->β->Prop}:∀{l₁:List α} {l₂:List β} {i:Nat} {a:α},Paired F l₁ l₂->l₁[i]?=some a->∃b,l₂[i]?=some b/\F a b
 |_,_,_,_,.nil,h=>by simp at h
 |_,_,0,_,.cons r t,h=>by cases h;exact⟨_,rfl,r⟩
 |_,_,i+1,_,.cons r t,h=>c03 (i:=i) t h
section
variable {X:Cx}{tg:AG}
end
end PU
set_option maxHeartbeats 3200000
namespace PU
open PySem PySem.Spec PyProof.Rows L2 PySem.W
section
variable {prog:AN}{w:AK}{A:AO}{E:AA->AC->Prop}{s:AC}
end
end PU
set_option maxHeartbeats 1000000
namespace PU
open PySem PySem.Spec PyProof.Rows L2
section
variable {X:Cx}
end
section
variable {X:Cx}
end
section
variable {X:Cx}
end
section
open AutoSeq1 (wpAny_loadPart')
open PySem.MeetsSeq3 (plain_eq_loop entry_eq_loop)
variable {A:AO}{s:AC}
end
open PySem PySem.Spec PyProof.Rows L2 PySem.W
section
variable {X:Cx}{pins:List (AB×Obj)}{σ:L2.St}{H:Hp}{s:AC}
end
theorem a69{ρ:c6}{j:Nat}{r:i7}(h:(keep [] ρ)[j]?=some (some r)):False:=by
 have:=(b3b h).1
 cases this
theorem a2s{K:AE}{H:Hp}{σ:L2.St}{ρ:c6}(h:σ.length=ρ.length):J0 K (fun _=>none) H σ (keep [] ρ):=
 ⟨fun _ _ z=>(nomatch z),by rw [b0T];exact h,fun _ _ z=>(a69 z).elim,fun _ _ z=>a69 z,fun _ _ _ _ _ _ z=>(a69 z).elim⟩
theorem SOk.junk{K:AE}{F0 H0 F H H':Hp}{σ:L2.St}{ρ:c6}(so:SOk K F0 H0 F H σ ρ)(s:r6 H H')(x:Nat)(v:Option V):SOk K F0 H0 F H' (σ.set x v) (ρ.set x none):=by
 have s1:=so.ext (F':=F) (H':=H') ⟨PU.r6.refl F,s,so.e.fh.trans s,fun _ _ e _ _=>e,fun _ _ _ e=>e⟩
 have at_:∀{j:Nat} {r:i7},(ρ.set x none)[j]?=some (some r)->j≠x/\ρ[j]?=some (some r):=fun {j r} h=>by
  rcases b6F h with⟨_,z⟩|z
  ·cases z
  ·exact z
 refine⟨s1.x,⟨s1.e.fh,by simp only [List.length_set];exact so.e.len,fun j r h=> ?_,fun j c h=>s1.e.nb j c (at_ h).2,fun i j c d a hne h1 h2 h3 h4=> ?_⟩,fun j c a h1 h2=> ?_⟩
 ·obtain⟨hj,h⟩:=at_ h
  obtain⟨w,g1,g2⟩:=s1.e.at_ j r h
  exact⟨w,by rw [a1Y hj];exact g1,g2⟩
 ·obtain⟨hi,h1⟩:=at_ h1
  obtain⟨hj,h2⟩:=at_ h2
  rw [a1Y hi] at h3
  rw [a1Y hj] at h4
  exact s1.e.ap i j c d a hne h1 h2 h3 h4
 ·obtain⟨hj,h1⟩:=at_ h1
  rw [a1Y hj] at h2
  exact s1.nw j c a h1 h2
section
variable {X:Cx}
end
section
variable {X:Cx}
end
def a3v(H:Hp)(b:AB)(xs:List V)(n:Nat):Prop:=∃e:List V,e.length<=n/\H b=some (.lst (xs++e))
theorem a3v.same{H H':Hp}{b:AB}{xs:List V}{n:Nat}(g:a3v H b xs n)(s:r6 H H'):a3v H' b xs n:=by obtain⟨e,l,h⟩:=g;exact⟨e,l,s _ _ h⟩
theorem a3v.app{H:Hp}{b c:AB}{xs ys:List V}{n:Nat}(g:a3v H b xs n)(h:H c=some (.lst ys))(w:V):a3v (upd H c (.lst (ys++[w]))) b xs (n+1):=by
 obtain⟨e,l,q⟩:=g
 by_cases hb:b=c
 ·subst hb
  rw [q] at h
  cases h
  exact⟨e++[w],by rw [Ah,List.length_singleton];lia,by rw [n0,List.append_assoc]⟩
 ·exact⟨e,by lia,by rw [j9 hb];exact q⟩
theorem b3D{K:AE}{H:Hp}{a b:AB}{xs ys:List V}{o:HO}(h:SqT K H a xs)(hb:H b=some (.lst ys)):SqT K (upd H b o) a xs:=by
 rcases h with(h|⟨u,h⟩)|h
 ·exact .inl (.inl (by rw [j9 (fun z=>by rw [z,hb] at h;cases h)];exact h))
 ·exact .inl (.inr ⟨u,by rw [j9 (fun z=>by rw [z,hb] at h;cases h)];exact h⟩)
 ·exact .inr h
structure Pk(K:AE)(H:Hp)(ah a0 a3 b1 b2 b3:AB)(z0 z3 y1 y2 y3:List V)(J:Hp)(n:Nat):Prop where
 t0:SqT K J a0 z0
 t3:SqT K J a3 z3
 g1:a3v J b1 y1 n
 g2:a3v J b2 y2 n
 g3:a3v J b3 y3 n
 o:∀c u,c≠ah->H c=some u->J c=some u
section
variable {K:AE}{H J J':Hp}{ah a0 a3 b1 b2 b3 c:AB}{z0 z3 y1 y2 y3:List V}{n:Nat}
theorem Pk.same(p:Pk K H ah a0 a3 b1 b2 b3 z0 z3 y1 y2 y3 J n)(s:r6 J J'):Pk K H ah a0 a3 b1 b2 b3 z0 z3 y1 y2 y3 J' n:=
 ⟨A9 s p.t0,A9 s p.t3,p.g1.same s,p.g2.same s,p.g3.same s,fun c u h q=>s _ _ (p.o c u h q)⟩
theorem Pk.app{ys:List V}(p:Pk K H ah a0 a3 b1 b2 b3 z0 z3 y1 y2 y3 J n)(h:J c=some (.lst ys))(w:V)(hc:H c=none\/c=ah):Pk K H ah a0 a3 b1 b2 b3 z0 z3 y1 y2 y3 (upd J c (.lst (ys++[w]))) (n+1):=
 ⟨b3D p.t0 h,b3D p.t3 h,p.g1.app h w,p.g2.app h w,p.g3.app h w,fun d u hd q=>by
  have e:d≠c:=fun z=>hc.elim (fun i=>by
   rw [z,i] at q
   cases q) fun i=>hd (z.trans i)
  rw [j9 e]
  exact p.o d u hd q⟩
end
section
variable {X:Cx}
end
structure ApS(X:Cx)(e a:AG)(ap cp p:Pos):Prop where
 base:attributeBase e "append" X.env (eval e X.env)=eval e X.env
 few:((backTo cp (AW [a] X.env)).all (fun x=> !x.1)&&(backToKw cp (keywordEach [] X.env)).all (fun x=>x.1.isSome)
  && decide ([a].length+([]:List Keyword).length+(if([]:List Keyword).isEmpty then 0 else 1)<30))=true
 line:(ap.endLine==cp.line)=true
 se:AW [a] X.env=(false,eval a X.env)::AW [] X.env
 plain:(backTo cp (AW [] X.env)).any (·.1)=false
 sw:swapsWith (.Call (.Attribute e "append" ap) [a] [] cp) none p.line X.env=pure false
section
variable {X:Cx}
end
def a7g(x y:Nat)(A:List Nat)(m1 m2:M)(mc mc2:MT)(n4 n:MS):MS:=fun ρ=>
 if b5p A ρ=true then match m1 (keep A ρ) with
  |some (.val (.tuple [p0,.tuple [q0,.list L1,.list L2,q3]]))=>
   if(x<ρ.length/\y<ρ.length/\(y==x)=false)/\L1.length+5<AM/\L2.length+5<AM then match m2 (ρ.set x (some (.val (.tuple [p0,.tuple [q0,.list L1,.list L2,q3]])))) with
    |some (.val (.str z))=>match mc ((ρ.set x (some (.val (.tuple [p0,.tuple [q0,.list L1,.list L2,q3]])))).set y (some (.val (.str z)))) with
     |some false=>match mc2 ((ρ.set x (some (.val (.tuple [p0,.tuple [q0,.list L1,.list L2,q3]])))).set y (some (.val (.str z)))) with
      |some true=>match n4 ((ρ.set x none).set y none) with
       |some (.rt r)=>some (.rt r)
       |_=>none
      |some false=>n ((ρ.set x none).set y (some (.val (.str z))))
      |none=>none
     |_=>none
    |_=>none
   else none
  |_=>none
 else none
section
variable {X:Cx}
theorem b9f{K:AE}{F H:Hp}{σ:L2.St}{ρ:c6}(e:J0 K F H σ ρ):SOk K (fun b=>match F b with|some (.frz o u)=>some (.frz o u)|_=>none) (fun _=>none) F H σ ρ:=by
 refine⟨⟨fun b o z=> ?_,fun b o z=>(nomatch z),e.fh,fun b o _ z=>(by cases z),fun b o u z=> ?_⟩,e,fun i c a _ _=>rfl⟩
 ·cases h:F b with
  |none=>simp only [h] at z;cases z
  |some u=>
   cases u<;>simp only [h] at z<;>first|(cases z;rfl)|cases z
 ·simp only [z]
theorem b5n{x y:Nat}{A:List Nat}{nx ny:Str}{e1 e2 c3 c4 k1 k2 k3 k4 ea eb:AG}{a3 a4:List Stmt}{m1 m2:M}{mc mc2:MT}{n3 n4 n:MS}{rest:List Stmt}{p1 p1' p2 p2' p3 p4 p5 p6 q1 q2 s1 s2 s3 s4 ap1 cp1 ap2 cp2:Pos}{ma mb:Str}
 (hN:X.N.Nodup) (nl:b7L X.K=true)
 (h1:EE X e1 m1) (h2:EE X e2 m2) (h3:ET X c3 mc) (ha3:ESs X a3 n3) (h4:ET X c4 mc2) (ha4:ESs X a4 n4) (hv1:PE X (.Name nx q1) (U5 x)) (hk1:EE X k1 (mC (.int 1))) (hk2:EE X k2 (mC (.int 1))) (hv2:PE X (.Name nx q2) (U5 x)) (hk3:EE X k3 (mC (.int 1))) (hk4:EE X k4 (mC (.int 2)))
 (hea:EE X ea (mC (.str ma))) (heb:EE X eb (mC (.str mb))) (hr:ESs X rest n)
 (hi:X.N[x]?=some nx:=by rfl) (hx:Loc X.env.scope nx:=by exact Or.inl rfl) (hs:swapsWith e1 (some (.Name nx p1')) p1.line X.env=pure false:=by rfl) (hf:X.fn nx=true\/X.env.scope.names.lookup nx=some .local:=by first|exact .inl rfl|exact .inr rfl)
 (hi2:X.N[y]?=some ny:=by rfl) (hy:Loc X.env.scope ny:=by exact Or.inl rfl) (hs2:swapsWith e2 (some (.Name ny p2')) p2.line X.env=pure false:=by rfl) (hf2:X.fn ny=true\/X.env.scope.names.lookup ny=some .local:=by first|exact .inl rfl|exact .inr rfl)
 (hp1:a2q k1:=by intro _ _;rfl) (hp2:a2q k2:=by intro _ _;rfl) (hp3:a2q k3:=by intro _ _;rfl) (hp4:a2q k4:=by intro _ _;rfl)
 (b1:ApS X (.Subscript (.Subscript (.Name nx q1) k1 s1) k2 s2) ea ap1 cp1 p5:=by exact⟨rfl,rfl,rfl,rfl,rfl,rfl⟩) (b2:ApS X (.Subscript (.Subscript (.Name nx q2) k3 s3) k4 s4) eb ap2 cp2 p6:=by exact⟨rfl,rfl,rfl,rfl,rfl,rfl⟩):
 ESs X (.Assign [.Name nx p1'] e1 p1:: .Assign [.Name ny p2'] e2 p2:: .If c3 a3 [] p3:: .If c4 a4 [] p4:: .Expr (.Call (.Attribute (.Subscript (.Subscript (.Name nx q1) k1 s1) k2 s2) "append" ap1) [ea] [] cp1) p5:: .Expr (.Call (.Attribute (.Subscript (.Subscript (.Name nx q2) k3 s3) k4 s4) "append" ap2) [eb] [] cp2) p6::rest) (a7g x y A m1 m2 mc mc2 n4 n):=by
 refine a91 (Z7 (a90 hN hi hx h1 hs hf) (Z7 (a90 hN hi2 hy h2 hs2 hf2) (Z7 (b6o h3 ha3 a92) (Z7 (b6o h4 ha4 a92)
  (Z7 (a6e (a8O PySem.F.plainAttrs_list PySem.F.slot_list_append PySem.F.type_list_append a2A (a8P a4F (a8P a4F hv1 hk1 hp1) hk2 hp2) (E9 hea V8 b1.se) b1.base b1.few b1.line b1.se b1.plain) b1.sw)
  (Z7 (a6e (a8O PySem.F.plainAttrs_list PySem.F.slot_list_append PySem.F.type_list_append a2A (a8P a4F (a8P a4F hv2 hk3 hp3) hk4 hp4) (E9 heb V8 b2.se) b2.base b2.few b2.line b2.se b2.plain) b2.sw) hr)))))) fun D σ H h0=>M6 h0 fun F0 H0 F ρ fl so e fin=> ?_
 unfold a7g at e
 split at e
 case isFalse=>cases e
 rename_i fA
 split at e
 case h_2=>cases e
 rename_i p0 q0 L1 L2 q3 q1e
 split at e
 case isFalse=>cases e
 rename_i hc
 obtain⟨⟨hxr,hyr,hyx⟩,hz1,hz2⟩:=hc
 have hyx:y≠x:=by simpa using hyx
 split at e
 case h_2=>cases e
 rename_i z e2'
 split at e
 case h_2=>cases e
 rename_i e3'
 have sFH:=so.e.fh
 have hlen:=so.e.len
 have sT:r6 (a4o F) H:=fun c o z=>sFH _ _ (a6V z).1
 have NTl:∀zs,NT (.lst zs):=fun zs _ h=>nomatch h
 refine⟨a4o F,_,_,b34 so.e fA sT rfl fun _ _=>rfl,q1e,fun v1 F1 H1 o1=> ?_⟩
 have inF:∀b ys,V2 X.K F1 b ys->F1 b=some (.lst ys):=fun b ys hq=>by
  rcases hq with(h|⟨w,h⟩)|⟨w,its,k,h1,h2,_⟩
  ·exact h
  ·obtain⟨_,zs,e⟩:=a6V (o1.x.nf _ _ _ h)
   cases e
  ·exact(b55 nl h1 h2).elim
 have old:∀b ys,F1 b=some (.lst ys)->H b=none:=fun b ys z=>by
  cases hHb:H b with
  |none=>rfl
  |some w=>
   have h1b:=o1.x.h _ _ hHb
   have hw':w= .lst ys:=by have:=o1.x.fh _ _ z;rw [h1b] at this;exact Option.some.inj this
   subst hw'
   have:=o1.x.nw b _ (b5t H sFH hHb) hHb (NTl _)
   rw [z] at this;cases this
 have rep1:=o1.rep
 obtain⟨a0,z0,rfl,hq0,v0,r0,rfl,rp0,u1,r1,rfl,rp1,hnil⟩:=(show E7 X.K F1 (.tuple [p0,.tuple [q0,.list L1,.list L2,q3]]) v1 from rep1)
 cases hnil
 obtain⟨a1,z1,rfl,hq1,w0,r2,rfl,rq0,w1,r3,rfl,rq1,w2,r4,rfl,rq2,w3,r5,rfl,rq3,hnil⟩:=(show E7 X.K F1 (.tuple [q0,.list L1,.list L2,q3]) u1 from rp1)
 cases hnil
 obtain⟨d1,y1,rfl,hl1,rl1⟩:=(show E7 X.K F1 (.list L1) w1 from rq1)
 obtain⟨d2,y2,rfl,hl2,rl2⟩:=(show E7 X.K F1 (.list L2) w2 from rq2)
 have f1:=inF _ _ hl1
 have f2:=inF _ _ hl2
 obtain⟨U,hU⟩:∃U:Hp,U=fun c=>match F c with|some u=>some u|none=>F1 c:=⟨_,rfl⟩
 have UF:r6 F U:=fun c u z=>by rw [hU];simp only [z]
 have UH:r6 U H1:=fun c u z=>by
  rw [hU] at z
  cases h:F c with
  |some w=>simp only [h] at z;cases z;exact o1.x.h _ _ (sFH _ _ h)
  |none=>simp only [h] at z;exact o1.x.fh _ _ z
 have UF1:r6 F1 U:=fun c u z=>by
  cases h:F c with
  |some w=>
   have a1:=o1.x.h _ _ (sFH _ _ h)
   have a2:=o1.x.fh _ _ z
   rw [a1] at a2
   rw [UF _ _ h];exact a2
  |none=>rw [hU];simp only [h,z]
 obtain⟨V0,hV0⟩:∃V0:PV,V0= .tuple [p0,.tuple [q0,.list L1,.list L2,q3]]:=⟨_,rfl⟩
 rw [<-hV0] at e2' e3' e rep1
 have envU:J0 X.K U H1 (σ.set x (some (.ref a0))) (ρ.set x (some (.val V0))):=by
  have cl:∀(y:Nat) (q:i7),(ρ.set x (some (.val V0)))[y]?=some (some q)->(y=x/\q= .val V0)\/(y≠x/\ρ[y]?=some (some q)):=fun y q z=>by
   rcases b6F z with⟨a,b⟩|⟨a,b⟩
   ·exact .inl ⟨a,(Option.some.inj b).symm⟩
   ·exact .inr ⟨a,b⟩
  refine⟨UH,by simp only [List.length_set];exact hlen,fun y q z=> ?_,fun y c z=> ?_,fun y1 y2 c d b hne z1 z2 z3 z4=> ?_⟩
  ·have hyl:y<σ.length:=by have:=(At.mp z).1;simp only [List.length_set] at this;lia
   rcases cl y q z with⟨rfl,rfl⟩|⟨hx',w⟩
   ·exact⟨.ref a0,by rw [BE hyl],E7.mono UF1 _ rep1⟩
   ·obtain⟨v,g1,g2⟩:=so.e.at_ y q w
    refine⟨v,by rw [a1Y hx'];exact g1, ?_⟩
    cases q with
    |val p=>exact E7.mono UF _ g2
    |bo c=>exact absurd w (so.e.nb y c)
    |ow c=>
     have g2:Z9 X.K F H v c:=g2
     obtain⟨a',u,rfl,f1',h1',nt⟩:=b9R g2
     have n1:F1 a'=none:=o1.x.nw a' u (b38 f1') h1' nt
     exact(show Z9 X.K U H1 (.ref a') c from b8c g2 UF (by rw [hU];simp only [f1',n1]) fun o ho=>o1.x.h _ _ ho)
  ·rcases cl y _ z with⟨_,h⟩|⟨_,w⟩
   ·cases h
   ·exact so.e.nb y c w
  ·rcases cl y1 _ z1 with⟨_,h⟩|⟨a1,w⟩
   ·cases h
   ·rcases cl y2 _ z2 with⟨_,h⟩|⟨c1,w'⟩
    ·cases h
    ·rw [a1Y a1] at z3
     rw [a1Y c1] at z4
     exact so.e.ap y1 y2 c d b hne w w' z3 z4
 have soU:=b9f envU
 refine⟨U,_,_,envU,e2',fun v2 F2 H2 o2=> ?_⟩
 have so2:=soU.set o2 rfl y
 have hv2:v2= .str z:=o2.rep
 refine⟨F2,_,false,so2.e,e3',fun F3 H3 x3=>a9A ?_⟩
 have so3:=so2.ext x3
 have sH3:r6 H1 H3:=o2.x.h.trans x3.h
 have hlx:((σ.set x (some (V.ref a0))).set y (some v2)).length=ρ.length:=by rw [List.length_set,List.length_set];exact hlen
 split at e
 ·rename_i e4'
  refine⟨F3,_,true,so3.e,e4',fun F4 H4 x4=>b0S ?_⟩
  split at e
  case h_2=>cases e
  rename_i r er
  cases e
  refine⟨F0,H0,F,_,.rt r,((so.junk (o1.x.h.trans (sH3.trans x4.h)) x (some (.ref a0))).junk (PU.r6.refl _) y (some v2)),er,fin⟩
 ·rename_i e4'
  refine⟨F3,_,false,so3.e,e4',fun F4 H4 x4=>a9A ?_⟩
  have hσx:((σ.set x (some (V.ref a0))).set y (some v2))[x]?=some (some (.ref a0)):=by rw [a1Y (fun z=>hyx z.symm),BE (by lia)]
  have nil:∀zs:List V,zs=zs++[]:=fun zs=>(Af zs).symm
  have sF4:r6 F1 H4:=o1.x.fh.trans (sH3.trans x4.h)
  have k0:Pk X.K H d1 a0 a1 d1 d2 d2 [v0,.ref a1] [w0,.ref d1,.ref d2,w3] y1 y2 y2 H4 0:=
   ⟨A9 sF4 hq0.sq,A9 sF4 hq1.sq,⟨[],Aa _,by rw [<-nil];exact sF4 _ _ f1⟩,⟨[],Aa _,by rw [<-nil];exact sF4 _ _ f2⟩,⟨[],Aa _,by rw [<-nil];exact sF4 _ _ f2⟩,fun c u _ z=>x4.h _ _ (sH3 _ _ (o1.x.h _ _ z))⟩
  have n1:=rl1.length
  have n2:=rl2.length
  refine⟨.ref a0,hσx,_,_,_,a2s hlx,rfl,fun w4 G1 J1 i1=> ?_⟩
  cases(show w4= .int 1 from i1.rep)
  have k1:=k0.same i1.x.h
  refine⟨a0,_,1,.ref a1,rfl,rfl,k1.t0,rfl, ?_⟩
  refine⟨_,_,_,a2s hlx,rfl,fun w5 G2 J2 i2=> ?_⟩
  cases(show w5= .int 1 from i2.rep)
  have k2:=k1.same i2.x.h
  refine⟨a1,_,1,.ref d1,rfl,rfl,k2.t3,rfl, ?_⟩
  obtain⟨g1,gl1,gh1⟩:=k2.g1
  refine⟨.inl ⟨rfl,_,V2.of gh1⟩,_,_,_,a2s hlx,rfl,fun w6 G3 J3 i3=> ?_⟩
  have gh1':=i3.x.h _ _ gh1
  refine⟨d1,_,w6,rfl,rfl,gh1',by rw [Ah];lia, ?_⟩
  have k3:=(k2.same i3.x.h).app gh1' w6 (.inr rfl)
  refine⟨.ref a0,hσx,_,_,_,a2s hlx,rfl,fun w7 G4 J4 i4=> ?_⟩
  cases(show w7= .int 1 from i4.rep)
  have k4:=k3.same i4.x.h
  refine⟨a0,_,1,.ref a1,rfl,rfl,k4.t0,rfl, ?_⟩
  refine⟨_,_,_,a2s hlx,rfl,fun w8 G5 J5 i5=> ?_⟩
  cases(show w8= .int 2 from i5.rep)
  have k5:=k4.same i5.x.h
  refine⟨a1,_,2,.ref d2,rfl,rfl,k5.t3,rfl, ?_⟩
  obtain⟨g2,gl2,gh2⟩:=k5.g2
  refine⟨.inl ⟨rfl,_,V2.of gh2⟩,_,_,_,a2s hlx,rfl,fun w9 G6 J6 i6=> ?_⟩
  have gh2':=i6.x.h _ _ gh2
  refine⟨d2,_,w9,rfl,rfl,gh2',by rw [Ah];lia, ?_⟩
  have k6:=(k5.same i6.x.h).app gh2' w9 (.inl (old _ _ f2))
  have sHH:r6 H (upd J6 d2 (.lst (y2++g2++[w9]))):=fun c u q=>k6.o c u (fun y=>by rw [y,old _ _ f1] at q;cases q) q
  have so6:=(so.junk sHH x (some (.ref a0))).set (B9.here (p:= .str z) (so.junk sHH x (some (.ref a0))).e.fh hv2) rfl y
  exact⟨F0,H0,F,_,fl,so6,e,fin⟩
 ·cases e
end
def a9t(a b:Str):Int:=match Builtin.Str.occurrences a b 0 a.length 1 with
 |i::_=>(i:Int)
 |[]=> -1
def a4C(x y:i7):Option i7:=match x,y with
 | .val (.str z),.val (.str y)=>some (.val (.int (a9t z y)))
 |_,_=>none
section
variable {X:Cx}
theorem b5Z:MtR X "str.find" (fun x xs H Q=>∃F y rx ry rz,xs=[y]/\r6 F H/\S7 X.K F H x rx/\S7 X.K F H y ry/\a4C rx ry=some rz/\∀v F' H',B9 X.K F H F' H' v rz->Q v H'):=by
 intro pins s σ H x xs v us Q I rx rv h
 obtain⟨F,y,ra,rb,rz,rfl,s0,h1,h2,h3,k⟩:=h
 obtain⟨u,rfl,ru⟩:=a7Q rv
 unfold a4C at h3
 split at h3
 ·rename_i z y
  cases h3
  cases h1
  cases h2
  obtain⟨t,rfl⟩:=rx
  obtain⟨t2,rfl⟩:=ru
  exact call_gives PySem.F.slot_str_find (typeIs_str _ _ _) PySem.F.entry_str_find (PySem.F.args_str_find_2 _ _) (gives_str_find z y t t2) ⟨.int _,H,I.tok _,⟨_,rfl⟩,k _ F H (B9.here s0 rfl)⟩
 ·cases h3
theorem b5j{o e:AG}{m n:M}{apos cpos:Pos}(ho:EE X o m)(ha:EE X e n)
 (hbase:attributeBase o "find" X.env (eval o X.env)=eval o X.env:=by rfl)
 (hfew:((backTo cpos (AW [e] X.env)).all (fun x=> !x.1)&&(backToKw cpos (keywordEach [] X.env)).all (fun x=>x.1.isSome)
  && decide ([e].length+([]:List Keyword).length+(if([]:List Keyword).isEmpty then 0 else 1)<30))=true:=by rfl)
 (hline:(apos.endLine==cpos.line)=true:=by rfl) (hs:AW [e] X.env=(false,eval e X.env)::AW [] X.env:=by rfl) (hplain:(backTo cpos (AW [] X.env)).any (·.1)=false:=by rfl):
 EE X (.Call (.Attribute o "find" apos) [e] [] cpos) (m2 a4C m n):=
 D7 (a8O PySem.F.plainAttrs_str PySem.F.slot_str_find PySem.F.type_str_find b5Z ho (E9 ha V8 hs) hbase hfew hline hs hplain) fun σ H Q h0=>B6 h0 fun F ρ r he hm k=>by
  obtain⟨rx,e1,hm⟩:=bind_some hm
  obtain⟨ry,e2,hm⟩:=bind_some hm
  refine⟨F,ρ,rx,he,e1,fun v F1 H1 o1=>⟨?_,⟨F1,ρ,ry,he.ext o1.x,e2,fun u F2 H2 o2=>⟨F2,u,rx,ry,r,rfl,o2.x.fh,o1.rep.ext o2.x,o2.rep,hm,fun z F3 H3 o3=>k z F3 H3 (B9.trans (o1.x.trans o2.x) o3)⟩⟩⟩⟩
  unfold a4C at hm
  split at hm
  ·cases o1.rep;rfl
  ·cases hm
end
theorem b54{K:AE}(h:a5y K=true):a1x K=true:=by
 refine List.all_eq_true.mpr fun p hp=> ?_
 have q:=List.all_eq_true.mp h p hp
 obtain⟨a,o⟩:=p
 have q:(!a42 o)=true:=q
 show(!a2D o)=true
 unfold a2D
 split
 ·rename_i dd its ep sl hh
  have q:(!(((its.size==2||its.size==3)&& its.toList.any a8z)||((Nat.blt 0 its.size && Nat.blt its.size 6)&& its.toList.all (b3E its.size))))=true:=q
  rw [Bool.not_eq_true',Bool.or_eq_false_iff,Bool.and_eq_false_iff] at q
  rw [Bool.not_eq_true',Bool.and_eq_false_iff]
  rcases q.1 with z|z
  ·exact .inl (Bool.or_eq_false_iff.mp z).2
  ·exact .inr z
 ·rfl
theorem m9.frzT{X:Cx}{pins:List (AB×Obj)}{σ:L2.St}{H:Hp}{s:AC}{a:AB}{xs:List (List m5×V)}(I:m9 X pins σ H s)(ha:H a=some (.dT xs)):∃o,m9 X pins σ (upd H a (.frz o (.dT xs))) s:=by
 have hd:=I.hok a _ ha
 obtain⟨o,ho⟩:∃o,s.heap.get? a=some o:=by obtain⟨_,_,_,_,o,_,_,e,_⟩:=hd;exact⟨o,e⟩
 refine⟨o,m9.retold I (fun b q=> ?_) (fun b ys q=> ?_) (fun b o' u q=> ?_) (fun b ps q=> ?_) (fun b u q=> ?_)⟩
 ·rw [j9 (fun z=>by rw [z,ha] at q;cases q)];exact q
 ·rw [j9 (O3 q ha (fun z=>nomatch z))];exact q
 ·have:=I.base.frzs b o' u q
  rw [j9 (O3 this ha (fun z=>nomatch z))];exact this
 ·rw [j9 (O3 q ha (fun z=>nomatch z))];exact q
 ·have st:∀c w,H c=some w->L5 X.prog X.w (upd H a (.frz o (.dT xs))) s.heap c w:=fun c w q=>(I.hok c w q).stay (fun _ _ _ e=>e) (fun d z=>by rw [j9 (O3 z ha (fun z=>nomatch z))];exact z) fun d ys z=>by rw [j9 (O3 z ha (fun z=>nomatch z))];exact z
  by_cases hb:b=a
  ·subst hb
   rw [n0] at q
   cases q
   exact⟨ho,st _ _ ha⟩
  ·rw [j9 hb] at q
   exact st _ _ q
theorem m9.unfrzT{X:Cx}{pins:List (AB×Obj)}{σ:L2.St}{H:Hp}{s:AC}{a:AB}{o:Obj}{xs:List (List m5×V)}(I:m9 X pins σ H s)(ha:H a=some (.frz o (.dT xs)))(h0:∀o u,X.H₀ a≠some (.frz o u)):m9 X pins σ (upd H a (.dT xs)) s:=by
 have st:∀c w,H c=some w->L5 X.prog X.w (upd H a (.dT xs)) s.heap c w:=fun c w q=>(I.hok c w q).stay (fun _ _ _ e=>e) (fun d z=>by rw [j9 (O3 z ha (fun z=>nomatch z))];exact z) fun d ys z=>by rw [j9 (O3 z ha (fun z=>nomatch z))];exact z
 refine m9.retold I (fun b q=> ?_) (fun b ys q=> ?_) (fun b o' u q=> ?_) (fun b ps q=> ?_) (fun b u q=> ?_)
 ·rw [j9 (fun z=>by rw [z,ha] at q;cases q)];exact q
 ·rw [j9 (O3 q ha (fun z=>nomatch z))];exact q
 ·rw [j9 (fun z=>by rw [z] at q;exact h0 _ _ q)];exact I.base.frzs b o' u q
 ·rw [j9 (O3 q ha (fun z=>nomatch z))];exact q
 ·by_cases hb:b=a
  ·subst hb
   rw [n0] at q
   cases q
   exact(st _ _ ha).2
  ·rw [j9 hb] at q
   exact st _ _ q
def ItT(a:AB)(o:Obj)(xs:List (List m5×V)):It:=⟨fun i H=>H a=some (.frz o (.dT xs))/\i<xs.length,fun i H v H'=>H'=H/\∃p b,xs[i]?=some p/\v= .ref b/\H b=some (.tup (p.1.map kV)),fun i H=>H a=some (.frz o (.dT xs))/\xs.length=i⟩
theorem b5g{X:Cx}{pins:List (AB×Obj)}{σ:L2.St}{H:Hp}{s:AC}{a:AB}{o:Obj}{xs:List (List m5×V)}(I:m9 X pins σ H s)(ha:H a=some (.frz o (.dT xs))):(a==sysModules)=false/\∃es,a8a s.heap a es (epO o)/\es.size=xs.length/\∀(i:Nat) (hi:i<es.size) p,xs[i]?=some p->∃b,es[i].key= .ref b/\H b=some (.tup (p.1.map kV)):=by
 obtain⟨ho,z,hd,ys,rel,o2,es,ep,e,c,d,r,_⟩:=(show L5 X.prog X.w H s.heap a (.frz o (.dT xs)) from I.hok a _ ha)
 have:o2=o:=by rw [ho] at e;exact(Option.some.inj e).symm
 subst this
 have hl:=Paired.length rel
 have hes:es.size=ys.length:=by have:=congrArg List.length r;simpa using this
 refine⟨hd,es,⟨o2,e,c,by rw [d];unfold epO;rw [d]⟩,by lia,fun i hi p hp=> ?_⟩
 obtain⟨q,hq,r1,r2,_⟩:=c03 rel hp
 refine⟨q.2.1, ?_,r2⟩
 have h1:es.toList[i]?=some (entryOfKey (tupleKind (A0 X.prog X.w)) q):=by rw [r,Au,hq];rfl
 rw [Array.getElem?_toList,getElem?_pos es i hi] at h1
 rw [Option.some.inj h1]
 rfl
theorem b2A{P:AN}{w:AK}{K:AE}{tg:AG}{it a:AB}{o:Obj}{xs:List (List m5×V)}:b1H P w K tg (ItT a o xs) [it] it (fun i h=>h.IsKeyIter it a i xs.length (epO o)) where
 mem:=by simp
 obj:=fun i h st b hb=>by
  have hb:b=it:=by simpa using hb
  subst hb
  obtain⟨o,e,c,d⟩:=st
  exact⟨o,e,fun v z=>by rw [d] at z;cases z⟩
 keep:=fun i h h' st k=>st.at fun o e=>k it (by simp) o e
 item:=by
  intro X hP hw hK hc i pins s σ H E I hf st hg
  subst hP hw hK
  obtain⟨f0,f1,f2,f3,f4,f5⟩:=hf it (by simp)
  obtain⟨ha,hlt⟩:=hg
  obtain⟨hd,es,ra,hl,at_⟩:=b5g I ha
  have hx:xs[i]?=some xs[i]:=by simp [hlt]
  have hi:i<es.size:=by lia
  obtain⟨b,hb,tb⟩:=at_ i hi _ hx
  rw [<-hl] at st
  refine b6w st ra hi fun h' st' sb=>⟨es[i].key,rfl, ?_⟩
  rw [hl] at st'
  have I1:m9 X pins σ H {s with heap:=h'}:=I.turned (t':=s.toks) (fun b o hb e=>(sb.2 b hb).trans e) f0 f1 f3 f4 f5
  obtain⟨o',e',c',d'⟩:=id st'
  refine b0Q (s:={s with heap:=h'}) (n:="dict_keyiterator") e' c' d' (by decide) ⟨.ref b,H,I1,hb,⟨rfl,xs[i],b,hx,rfl,tb⟩,st',fun b hb=>(hf b hb).1⟩
 done:=by
   intro X hP hw hK hc i pins s σ H E I hf st hg
   subst hP hw hK
   obtain⟨f0,f1,f2,f3,f4,f5⟩:=hf it (by simp)
   obtain⟨ha,hlt⟩:=hg
   obtain⟨hd,es,ra,hl,at_⟩:=b5g I ha
   rw [<-hlt,<-hl] at st
   exact b8b (I.ok.hd hc) st ra fun h' eb=>⟨rfl,I.turned (t':=s.toks) (fun b o hb e=>eb b o hb e) f0 f1 f3 f4 f5⟩
 self:=fun _ _ _ _ _ st h=>wpAny_pyIter_keyiter st h
section
variable {X:Cx}{tg:AG}
def c0G(tl:TE):TI:=fun σ H R=>tl σ H fun x H1=>∃a o xs,x= .ref a/\H1 a=some (.frz o (.dT xs))/\R (ItT a o xs) H1
theorem b70{l:AG}{tl:TE}(hl:PE X l tl):PI X tg l (c0G tl):=by
 intro pins s σ H R I h
 refine M7 (hl pins s σ H _ I h) fun v s1 h0=>u3 h0 fun x H1 I1 r1 q1=> ?_
 obtain⟨a,o,xs,e,ha,q⟩:=q1
 subst e
 obtain rfl:v=Value.ref a:=r1
 obtain⟨hd,es,ra,hl,_⟩:=b5g I1 ha
 refine b6v hd ra ⟨s1.heap.objs.size,[s1.heap.objs.size],_,_,H1,rfl,I1.kept (t':=s1.toks) fun b o e=>An _ e,b2A,⟨_,As _ rfl,rfl,by rw [hl];rfl⟩,fun c hb=> ?_,q⟩
 have e:c=s1.heap.objs.size:=by simpa using hb
 subst e
 exact I1.fpOk (Aa _) (I1.hok.fresh (Aa _))
def Fst(xs:List (List m5×V))(vs:List V):Prop:=vs.length=xs.length/\∀(j:Nat) p,xs[j]?=some p->∃v,vs[j]?=some v/\L2.atI (p.1.map kV) 0=some v
def c0d(i:Nat):TE:=fun σ H Q=>∃a xs vs,σ[i]?=some (some (.ref a))/\H a=some (.dT xs)/\xs.length<AM/\Fst xs vs/\∀D,H D=none->Q (.ref D) (upd H D (.lst vs))
theorem b6f(i:Nat){x y:Str}{p p2 p4 sp p5 pos:Pos}{j5}{scope:Scope}{N0:List Str}(hx:∀e s,X.xe e s->False)(hc:X.calm=true)(S:M8 X.N N0 [y] X.env scope)
 (hd:PE X (.Name x p) (U5 i)) (hg:∀C fp pins s H,PG (D0 X N0 scope [y] C fp pins s H) (.Name y p2) (a62 X.N.length))
 (he2:∀C fp pins s H,PE (D0 X N0 scope [y] C fp pins s H) (.Name y p4) (U5 X.N.length)) (hs:∀x',foldedSetIterable (.Name x p) X.env x'=pure x':=by intro _;rfl):
 PE X (.ListComp (.Subscript (.Name y p4) (.Constant (.int 0) j5 p5) sp) [⟨.Name y p2,.Name x p,[],0⟩] scope pos) (c0d i):=by
 intro pins s σ H Q I ⟨a,xs,vs,hσ,ha,hz,⟨hl,hv⟩,q⟩
 obtain⟨o,I1⟩:=m9.frzT I ha
 have h0:∀o u,X.H₀ a≠some (.frz o u):=fun o u z=>by have:=I.base.frzs a o u z;rw [ha] at this;cases this
 have hR:=b3u (X:=X) (pos:=pos) hx hc S (b70 hd) hg (fun C fp pins s H=>b3s) (fun C fp pins s H=>a8P (X:=D0 X N0 scope [y] C fp pins s H) (r:=c06 X.K) (pos:=sp) (a4F (X:=D0 X N0 scope [y] C fp pins s H)) (he2 C fp pins s H) (b6h (i:=0) (j:=j5) (pos:=p5)) (by intro _ _;rfl)) hs pins s σ (upd H a (.frz o (.dT xs)))
  (fun v H1=>∃D,v= .ref D/\H D=none/\H1=upd (upd H a (.frz o (.dT xs))) D (.lst vs)) I1 ?_
 ·refine M7 hR fun v s1 ⟨x',H1,I2,r2,D,ex,hD,eH⟩=> ?_
  subst ex eH
  have hne:D≠a:=fun z=>by rw [z,ha] at hD;cases hD
  refine⟨.ref D,upd H D (.lst vs), ?_,r2,q D hD⟩
  have hfa:upd (upd H a (.frz o (.dT xs))) D (.lst vs) a=some (.frz o (.dT xs)):=by rw [j9 (Ne.symm hne),n0]
  have:=m9.unfrzT I2 hfa h0
  have eq:upd (upd (upd H a (.frz o (.dT xs))) D (.lst vs)) a (.dT xs)=upd H D (.lst vs):=by
   funext b
   unfold upd
   by_cases h1:b=a
   ·rw [if_pos h1,h1,if_neg (Ne.symm hne),ha]
   ·rw [if_neg h1,if_neg h1]
  rw [eq] at this
  exact this
 ·refine⟨.ref a,hσ,a,o,xs,rfl,n0,fun D hD=> ?_⟩
  have hDa:D≠a:=fun z=>by rw [z,n0] at hD;cases hD
  have hD':H D=none:=by rw [j9 hDa] at hD;exact hD
  refine⟨fun i m ys H2=>m=xs.length - i/\i<=xs.length/\ys=vs.take i/\H2=upd (upd H a (.frz o (.dT xs))) D (.lst ys),⟨xs.length,by simp,Nat.zero_le _,by simp,rfl⟩, ?_⟩
  rintro j m ys H2 ⟨rfl,hj,rfl,rfl⟩ -
  have hfa:∀zs,upd (upd H a (.frz o (.dT xs))) D (.lst zs) a=some (.frz o (.dT xs)):=fun zs=>by rw [j9 (Ne.symm hDa),n0]
  by_cases hlt:j<xs.length
  ·refine .inr ⟨⟨hfa _,hlt⟩,fun v H3 ⟨e3,pr,b,hp,e4,tb⟩=> ?_⟩
   subst e3 e4
   obtain⟨v,hv1,hv2⟩:=hv j pr hp
   refine⟨fun jj w hw=> ?_, ?_⟩
   ·by_cases hjj:jj=X.N.length
    ·subst hjj
     rw [<-I.len] at hw
     simp at hw
    ·rw [List.getElem?_set_ne (Ne.symm hjj)];exact hw
   ·dsimp only [b8Y]
    rw [if_pos rfl]
    refine⟨.ref b, ?_,b,_,0,v,rfl,rfl,.inl (.inl tb),hv2,n0, ?_,xs.length - (j+1),by lia,rfl,hlt, ?_, ?_⟩
    ·rw [BE (by rw [<-I.len];simp)]
    ·rw [List.length_take];lia
    ·rw [List.take_succ,hv1];rfl
    ·rw [b0d]
  ·have ej:j=xs.length:=by lia
   refine .inl ⟨⟨hfa _,ej.symm⟩,D,rfl,hD', ?_⟩
   rw [ej,<-hl,List.take_length]
def b5r:List m5->Option PV
 |k::_=>some (kP k)
 |[]=>none
def a6a(i:Nat):M:=fun ρ=>(dvw i ρ).bind fun kvs=>if kvs.length<AM then(kvs.mapM fun e=>b5r e.1).map .own else none
theorem b5s{K:AE}{F:Hp}:∀{kvs:List (List m5×PV)} {xs:List (List m5×V)} {rs:List PV},C1 K F kvs xs->(kvs.mapM fun e=>b5r e.1)=some rs->∃vs,p8 K F rs vs/\Fst xs vs
 |[],xs,rs,r,h=>by
  cases r
  rw [List.mapM_nil] at h
  cases h
  exact⟨[],rfl,rfl,fun j p hp=>by simp at hp⟩
 |(k,q)::kvs,xs,rs,⟨v,t,e,rv,rt⟩,h=>by
  subst e
  rw [List.mapM_cons] at h
  obtain⟨p,h1,h⟩:=bind_some h
  obtain⟨ps,h2,h⟩:=bind_some h
  cases h
  obtain⟨vs,a1,a2,a3⟩:=b5s rt h2
  cases k with
  |nil=>cases h1
  |cons k0 k=>
   cases h1
   refine⟨kV k0::vs,⟨kV k0,vs,rfl, ?_,a1⟩,by rw [AR,AR,a2],fun j p hp=> ?_⟩
   ·cases k0 with
    |inl i=>exact rfl
    |inr x=>exact rfl
   ·cases j with
    |zero=>cases hp;exact⟨_,rfl,by unfold L2.atI L2.ixN;simp⟩
    |succ j=>exact a3 j p hp
theorem b31(i:Nat){x y:Str}{p p2 p4 sp p5 pos:Pos}{j5}{scope:Scope}{N0:List Str}(hx:∀e s,X.xe e s->False)(hc:X.calm=true)(S:M8 X.N N0 [y] X.env scope)
 (hd:PE X (.Name x p) (U5 i)) (hg:∀C fp pins s H,PG (D0 X N0 scope [y] C fp pins s H) (.Name y p2) (a62 X.N.length))
 (he2:∀C fp pins s H,PE (D0 X N0 scope [y] C fp pins s H) (.Name y p4) (U5 X.N.length)) (hs:∀x',foldedSetIterable (.Name x p) X.env x'=pure x':=by intro _;rfl):
 EE X (.ListComp (.Subscript (.Name y p4) (.Constant (.int 0) j5 p5) sp) [⟨.Name y p2,.Name x p,[],0⟩] scope pos) (a6a i):=
 D7 (b6f i hx hc S hd hg he2 hs) fun σ H Q h0=>B6 h0 fun F ρ r en e k=>by
  obtain⟨kvs,eo,e⟩:=bind_some e
  split at e
  ·rename_i hl
   obtain⟨a,xs,hw1,ha',rl⟩:=b1O en eo
   cases hm:kvs.mapM fun e=>b5r e.1 with
   |none=>rw [hm] at e;cases e
   |some rs=>
    rw [hm] at e
    cases e
    obtain⟨vs,g1,g2⟩:=b5s rl hm
    exact⟨a,xs,vs,hw1,en.fh _ _ ha',by rw [rl.length];exact hl,g2,fun D hD=>k _ F _ (B9.lst en.fh hD g1)⟩
  ·cases e
def Y0(i:Nat)(mk:M):M:=fun ρ=>((mk ρ).bind a7a).bind fun o=>match o with
 |none=>(dvw i ρ).bind fun _=>some (.val (.bool true))
 |some k=>(dvw i ρ).bind fun kvs=>some (.val (.bool (!(B0 kvs k).isSome)))
theorem a9p{i:Nat}{mk:M}{σ:L2.St}{H:Hp}{Q:VK}(nk:a1x X.K=true)(h:tM X.K (Y0 i mk) σ H Q):a7N (tM X.K mk) (U5 i) σ H Q:=by
 obtain⟨F,ρ,r,en,e,k⟩:=h
 obtain⟨kk,e4,e⟩:=bind_some e
 obtain⟨rk,e4',e5⟩:=bind_some e4
 cases kk with
 |none=>
  dsimp only at e
  obtain⟨kvs,e6,e⟩:=bind_some e
  cases e
  have er:rk= .val .none:=by
   unfold a7a at e5
   split at e5
   ·rfl
   ·cases hq:P9 rk with
    |none=>rw [hq] at e5;cases e5
    |some q=>rw [hq] at e5;cases e5
  subst er
  refine⟨F,ρ,_,en,e4',fun y F3 H3 o3=> ?_⟩
  obtain⟨a,xs,hw1,ha',rl⟩:=b1O (en.ext o3.x) e6
  exact⟨.ref a,hw1,.inr ⟨a,xs,rfl,o3.rep,o3.x.fh _ _ ha',k _ _ _ (B9.val o3.x rfl)⟩⟩
 |some kk=>
  have e6:P9 rk=some kk:=by
   unfold a7a at e5
   split at e5
   ·cases e5
   ·cases hq:P9 rk with
    |none=>rw [hq] at e5;cases e5
    |some q=>rw [hq] at e5;cases e5;rfl
  have hh:tM X.K (a3U true i mk) σ H Q:=⟨F,ρ,r,en,by unfold a3U;rw [e4'];show(P9 rk).bind _=_;rw [e6];exact e,k⟩
  obtain⟨F',ρ',r',en',e',k'⟩:=b0A nk hh
  refine⟨F',ρ',r',en',e',fun y F3 H3 o3=> ?_⟩
  obtain⟨x,hx,a,o,ex,g,q⟩:=k' y F3 H3 o3
  exact⟨x,hx,.inl ⟨a,o,ex,g,q⟩⟩
theorem b0I(i:Nat){x:Str}{p pos:Pos}{ek:AG}{mk:M}(hu:X.A.units+64<cLine)(nk:a1x X.K=true)(hx:PE X (.Name x p) (U5 i))(hi:EE X ek mk)(hm:behindInMarks .NotIn (.Name x p)=false):ET X (.Compare ek [.NotIn] [.Name x p] pos) (N9 (Y0 i mk)):=
 a3j (a93 (a7v (by lia) hi hx) hm) fun σ H Q h=>b3G (fun _ _ _ h=>a9p nk h) h
end
def X7(K:AE)(x:Str)(st:Stmt):Prop:=∃f fd,PySem.W.nsIn K mainGlobals x=some (some (.ref f))/\Fun K x x st f fd
def Df(K:AE)(mg:Str->Option AA)(x:Str)(st:Stmt):Prop:=∃f fd,Fun K x x st f fd/\mg x=some (.ref f)
theorem c0w{K:AE}{x:Str}{st:Stmt}{f:AB}{oc:AA}{od an:Option AB}{osl:Array (Option AA)}{kV doc pm cdv ct:AA}(a:PySem.W.nsIn K mainGlobals x=some (some (.ref f)))
 (l:K.lookup f=some ⟨oc,od,.func (PySem.W.fnOf x x (a1c st) (U7 st) (i9 st) .none kV doc pm an cdv ct),osl⟩) (c:PySem.W.codeIn K cdv x=true) (k:PySem.W.keepIn K (.ref f)=true):X7 K x st:=⟨_,_,a,b9i l c k⟩
theorem X7.to{K:AE}{h:Heap}{mg:Str->Option AA}{x:Str}{st:Stmt}(d:X7 K x st)(X:K.In h)(G:h.Ns mainGlobals mg):Df K mg x st:=by obtain⟨f,fd,a,F⟩:=d;exact⟨f,fd,F,PySem.W.mg_of X G a⟩
theorem mkS{N P:List Str}{sc:Scope}(h1:sc.kind= .function:=by rfl)(h2:sc.isCoroutine=false:=by rfl)(h3:sc.isGenerator=false:=by rfl)(h4:N.Nodup:=by decide+kernel)(h5:N.take P.length=P:=by rfl)
 (h6:∀x∈P,sc.names.lookup x=some .local\/sc.names.lookup x=some .cell:=by decide+kernel) (h7:∀y∈sc.names,y.2≠.free:=by decide+kernel):l9 N P sc:=⟨h1,h2,h3,h4,h5,h6,h7⟩
section
variable {P:AN}{w:AK}{K:AE}{mg:Str->Option AA}{base:Heap}
theorem t4{x:Str}{st:Stmt}{N ps:List Str}{k:Nat}{m:MS}(D:Df K mg x st)(S:l9 N ps (i9 st))
 (hi:∀(kV doc pm:AA) (an:Option AB) (cdv ct:AA) (us:List AA),us.length=ps.length->bindArgs (PySem.W.fnOf x x (a1c st) (U7 st) (i9 st) .none kV doc pm an cdv ct) ⟨us,[]⟩=pure (ps.zip us))
 (hb:∀(f:AB) (cdv:AA) (A:AO) (outer:List Env) (s:AC) (H:Hp) (E:XK),Y1 k (A.deeper (envOfC x (i9 st) s.heap.objs.size f cdv))->ESs (b0x CX0 P w K mg base N x (i9 st) f cdv A outer s H E).nox (U7 st) m):
 v8 P w K mg base x ps (k+1) (C5 (N.length - ps.length) m):=
 let ⟨f,fd,F,hm⟩:=D
 ⟨f,fd,b8L F S (hb f),hm,F.kp,F.binds hi⟩
theorem b7y{fa:AB}{st:Stmt}{x:Str}{k:Nat}{g:List PV->Option i7}(D:Df K mg "law" st)(hfa:mg "law"=some (.ref fa))
 (hi:∀(kV doc pm:AA) (an:Option AB) (cdv ct v:AA),bindArgs (PySem.W.fnOf "law" "law" (a1c st) (U7 st) (i9 st) .none kV doc pm an cdv ct) ⟨[v],[]⟩=pure [(x,v)])
 (main:∀ns:List Int,ns.length<=63->g [.list (ns.map .int)]=some (.val (.bool true)))
 (H:∀(base:Heap) (f:AB) (fd:FuncData),K.In base->Fun K "law" "law" st f fd->a0G P w K mg base CX0 k f fd [x] (spP K 1 g)):
 ∃fd:FuncData,(∀(s:AC) (v:AA),BindsTo s fd ⟨[v],[]⟩ [(x,v)])/\∀base:Heap,K.In base->base.Ns mainGlobals mg->a0G P w K mg base CX0 k fa fd [x] (b1l K):=by
 obtain⟨f,fd,F,hm⟩:=D
 have e:=hfa.symm.trans hm
 cases e
 refine⟨fd,fun s v=> ?_,fun base kb _=>(H base _ fd kb F).imp (b7z main)⟩
 obtain⟨oc,od,kV,doc,pm,an,cdv,ct,osl,rfl,lk,hcd⟩:=F.ex
 exact .of_eq (hi kV doc pm an cdv ct v)
end
theorem el1{C:List AA->Prop}(h:∀a,C [a])(us:List AA)(e:us.length=1):C us:=by
 obtain⟨a,rfl⟩:=List.length_eq_one_iff.mp e
 exact h a
theorem elS{n:Nat}{us:List AA}(e:us.length=n+1):∃a t,us=a::t/\t.length=n:=by
 cases us with
 |nil=>cases e
 |cons a t=>exact⟨a,t,rfl,Nat.succ.inj e⟩
theorem el2{C:List AA->Prop}(h:∀a b,C [a,b])(us:List AA)(e:us.length=2):C us:=by
 obtain⟨a,t,rfl,z⟩:=elS e
 exact el1 (C:=fun t=>C (a::t)) (h a) t z
theorem el3{C:List AA->Prop}(h:∀a b c,C [a,b,c])(us:List AA)(e:us.length=3):C us:=by
 obtain⟨a,t,rfl,z⟩:=elS e
 exact el2 (C:=fun t=>C (a::t)) (h a) t z
end PU
set_option maxHeartbeats 4000000
namespace LW
open PySem PySem.Spec PyProof.Rows L2 PU
def I0:PV:=(.tuple [(.str "cross"),(.str "flip"),(.str "other"),(.str "side")])
def b0e:PV:=(.tuple [(.str "stay"),(.str "turn"),(.str "half"),(.str "back"),(.str "side"),(.str "flip"),(.str "cross"),(.str "other")])
def L8:List (m5×PV):=[((.inr "stay"),(.tuple [(.int 1),(.int 0),(.int 0),(.int 1)])),((.inr "turn"),(.tuple [(.int 0),(.int 1),(.int (-1)),(.int 0)])),((.inr "half"),(.tuple [(.int (-1)),(.int 0),(.int 0),(.int (-1))])),((.inr "back"),(.tuple [(.int 0),(.int (-1)),(.int 1),(.int 0)])),((.inr "side"),(.tuple [(.int 1),(.int 0),(.int 0),(.int (-1))])),((.inr "flip"),(.tuple [(.int (-1)),(.int 0),(.int 0),(.int 1)])),((.inr "cross"),(.tuple [(.int 0),(.int 1),(.int 1),(.int 0)])),((.inr "other"),(.tuple [(.int 0),(.int (-1)),(.int (-1)),(.int 0)]))]
def a5g:MS:=
 (v7 (a6c ["stay","turn","half","back","side","flip","cross","other"] (a6 (A7 (a6 (a8 1) (a6 (a8 2) c7))) (a6 (A7 (a6 (a8 2) (a6 (a0z (a8 1)) c7))) (a6 (A7 (a6 (a0z (a8 1)) (a6 (a0z (a8 2)) c7))) (a6 (A7 (a6 (a0z (a8 2)) (a6 (a8 1) c7))) (a6 (A7 (a6 (a8 1) (a6 (a0z (a8 2)) c7))) (a6 (A7 (a6 (a0z (a8 1)) (a6 (a8 2) c7))) (a6 (A7 (a6 (a8 2) (a6 (a8 1) c7))) (a6 (A7 (a6 (a0z (a8 2)) (a6 (a0z (a8 1)) c7))) c7)))))))) (a8 0)))
def M2:List PV->Option i7:=C5 0 a5g
def a5f:MS:=
 (m8 (b2c [3,4] (m3 M2 (a6 (m2 v6 (a8 1) (mC (.int 0))) (a6 (m2 v6 (a8 2) (mC (.int 0))) (a6 (m2 v6 (a8 2) (mC (.int 1))) c7)))))
 (v7 (A7 (a6 (m2 (S8 (fun _ j=>0<j) fun i j=> .int (i % j)) (m2 C7 (a8 3) (m2 v6 (a8 1) (mC (.int 1)))) (a8 0)) (a6 (m2 (S8 (fun _ j=>0<j) fun i j=> .int (i % j)) (m2 C7 (a8 4) (m2 v6 (a8 1) (mC (.int 2)))) (a8 0)) c7)))))
def a0g:List PV->Option i7:=C5 2 a5f
def M3:MS:=
 (m8 (z5 8 (m3 a0g (a6 (a8 0) (a6 (a8 7) (a6 (a8 6) c7)))))
 (G8 (N9 (b0Y true 2 (a8 8))) (m8 (a6b 2 (a8 8) (A7 (a6 (a8 3) (a6 (a8 4) c7))))
 (S2 5 (a8 8))) A3))
def R7:MS:=
 (m8 (b5T 6 5)
 (N8 (S3 (a8 1)) (g5 7) M3))
def M4:MS:=
 (G8 (N9 (b0Y true 2 (A7 (a6 (a8 3) (a6 (a8 4) c7))))) (m8 (b3f 2 (a6 (a8 3) (a6 (a8 4) c7)) (A7 (a6 (a8 3) (a6 (a8 4) c7))))
 (m8 (z5 5 (S4 (a6 (A7 (a6 (a8 3) (a6 (a8 4) c7))) c7)))
 (a0E (N9 (m2 gNe (a8 5) (S4 c7))) R7 100))) A3)
def Z4:MS:=
 (N8 (L0 (a6 (a8 0) c7)) (g5 4) M4)
def a5h:MS:=
 (m8 (z5 2 b3g)
 (m8 (N8 (L0 (a6 (a8 0) c7)) (g5 3) Z4)
 (a0X 2)))
def a0h:List PV->Option i7:=C5 7 a5h
def a5d:MS:=
 (v7 (m2 (S8 (fun _ j=>0<j) fun i j=> .int (i % j)) (m2 L6 (m2 C7 (m2 C7 (m2 (S8 (fun _ j=>0<j) fun i j=> .int (i % j)) (a8 0) (mC (.int 1000003))) (m2 L6 (a8 1) (a8 1))) (mC (.int 1))) (mC (.int 48271))) (mC (.int 2147483647))))
def J8:List PV->Option i7:=C5 0 a5d
def a1F:MS:=
 (m8 (z5 2 (m2 v6 (S4 (a6 (mC (.str "stay")) (a6 (mC (.str "turn")) (a6 (mC (.str "half")) (a6 (mC (.str "back")) (a6 (mC (.str "side")) (a6 (mC (.str "flip")) (a6 (mC (.str "cross")) (a6 (mC (.str "other")) c7))))))))) (m2 (S8 (fun _ j=>0<j) fun i j=> .int (i % j)) (a8 1) (mC (.int 8)))))
 (v7 (A7 (a6 (a8 2) (a6 (m2 (S8 (fun _ j=>0<j) fun i j=> .int (i % j)) (m2 (S8 a5M fun i j=> .int (i / j)) (a8 1) (mC (.int 8))) (a8 0)) (a6 (m2 (S8 (fun _ j=>0<j) fun i j=> .int (i % j)) (m2 (S8 a5M fun i j=> .int (i / j)) (a8 1) (mC (.int 64))) (a8 0)) c7))))))
def M1:List PV->Option i7:=C5 1 a1F
def a2L:MS:=
 (m8 (G8 (N9 (m2 b5C (a8 1) (m1 Y8 (a8 0)))) (v7 (m2 v6 (a8 0) (a8 1))) A3)
 (v7 (mC (.int 0))))
def y9:List PV->Option i7:=C5 0 a2L
def V7:MS:=
 (S2 3 (m3 M1 (a6 (a8 2) (a6 (m3 J8 (a6 (m3 y9 (a6 (a8 0) (a6 (mC (.int 1)) c7))) (a6 (m2 C7 (mC (.int 3)) (a8 4)) c7))) c7))))
def O8:MS:=
 (m8 (z5 11 (b0X 5 (a6 (a8 8) (a6 (a8 10) c7))))
 (m8 (z5 12 (m3 J8 (a6 (m3 y9 (a6 (a8 0) (a6 (m2 C7 (m2 C7 (mC (.int 3)) (m2 L6 (m2 v6 (a8 11) (mC (.int 0))) (a8 2))) (m2 v6 (a8 11) (mC (.int 1)))) c7))) (a6 (m2 C7 (m2 C7 (mC (.int 11)) (m2 L6 (m2 v6 (a8 11) (mC (.int 0))) (a8 2))) (m2 v6 (a8 11) (mC (.int 1)))) c7))))
 (z5 9 (m2 C7 (a8 9) (m2 v6 (a8 6) (m2 (S8 (fun _ j=>0<j) fun i j=> .int (i % j)) (m2 (S8 a5M fun i j=> .int (i / j)) (a8 12) (mC (.int 16))) (m1 Y8 (a8 6))))))))
def O9:MS:=
 (m8 (z5 9 (mC (.str "")))
 (m8 (N8 (L0 (a6 (a8 2) c7)) (g5 10) O8)
 (S2 7 (a8 9))))
def a3C:MS:=
 (m8 (z5 2 (m2 C7 (mC (.int 1)) (m2 (S8 (fun _ j=>0<j) fun i j=> .int (i % j)) (m3 J8 (a6 (m3 y9 (a6 (a8 0) (a6 (mC (.int 0)) c7))) (a6 (mC (.int 1)) c7))) (a8 1))))
 (m8 (z5 3 (S4 c7))
 (m8 (N8 (L0 (a6 (m2 v6 (S4 (a6 (mC (.int 0)) (a6 (mC (.int 1)) (a6 (mC (.int 1)) (a6 (mC (.int 2)) (a6 (mC (.int 2)) (a6 (mC (.int 3)) c7))))))) (m2 (S8 (fun _ j=>0<j) fun i j=> .int (i % j)) (m3 y9 (a6 (a8 0) (a6 (mC (.int 1)) c7))) (mC (.int 6)))) c7)) (g5 4) V7)
 (m8 (a7f 3 (z5 5 (m3 a0h (a6 (a8 2) (a6 (a8 3) c7)))))
 (m8 (z5 6 (m2 v6 (S4 (a6 (mC (.str "ab")) (a6 (mC (.str "abc")) (a6 (mC (.str "xy")) (a6 (mC (.str "qwe")) (a6 (mC (.str "za")) c7)))))) (m2 (S8 (fun _ j=>0<j) fun i j=> .int (i % j)) (m3 J8 (a6 (m3 y9 (a6 (a8 0) (a6 (mC (.int 2)) c7))) (a6 (mC (.int 2)) c7))) (mC (.int 5)))))
 (m8 (z5 7 (S4 c7))
 (m8 (N8 (L0 (a6 (a8 2) c7)) (g5 8) O9)
 (v7 (m1 a1f (a8 7))))))))))
def Q9:List PV->Option i7:=C5 11 a3C
def a9B:MS:=
 (S2 1 (A7 (a6 (a8 2) (a6 (a8 3) (a6 (a8 4) c7)))))
def a9C:MS:=
 (N8 (L0 (a6 (a8 0) c7)) (g5 4) a9B)
def a3R:MS:=
 (N8 (L0 (a6 (a8 0) c7)) (g5 3) a9C)
def a8g:MS:=
 (m8 (z5 1 (S4 c7))
 (m8 (N8 (S3 (A7 (a6 (mC (.str "back")) (a6 (mC (.str "cross")) (a6 (mC (.str "flip")) (a6 (mC (.str "half")) (a6 (mC (.str "other")) (a6 (mC (.str "side")) (a6 (mC (.str "stay")) (a6 (mC (.str "turn")) c7)))))))))) (g5 2) a3R)
 (a0X 1)))
def a2u:List PV->Option i7:=C5 4 a8g
def R8:MS:=
 (G8 (N9 (a3U false 1 (A7 (a6 (a8 3) (a6 (m2 (S8 (fun _ j=>0<j) fun i j=> .int (i % j)) (a8 4) (a8 0)) (a6 (m2 (S8 (fun _ j=>0<j) fun i j=> .int (i % j)) (a8 5) (a8 0)) c7)))))) (S2 2 (A7 (a6 (a8 3) (a6 (a8 4) (a6 (a8 5) c7))))) A3)
def R9:MS:=
 (N8 (L0 (a6 (m2 L6 (mC (.int 2)) (a8 0)) c7)) (g5 5) R8)
def M5:MS:=
 (N8 (L0 (a6 (m2 L6 (mC (.int 2)) (a8 0)) c7)) (g5 4) R9)
def a5j:MS:=
 (m8 (z5 2 (S4 c7))
 (m8 (N8 (S3 (A7 (a6 (mC (.str "cross")) (a6 (mC (.str "flip")) (a6 (mC (.str "other")) (a6 (mC (.str "side")) c7)))))) (g5 3) M5)
 (a0X 2)))
def a0i:List PV->Option i7:=C5 4 a5j
def a5i:MS:=
 (m8 (b2c [2,3] (m3 M2 (a6 (m2 v6 (a8 1) (mC (.int 0))) (a6 (m2 v6 (a8 1) (mC (.int 1))) (a6 (m2 v6 (a8 1) (mC (.int 2))) c7)))))
 (m8 (z5 4 (m2 (gI fun i j=> .int (i - j)) (m2 v6 (a8 1) (mC (.int 1))) (a8 2)))
 (m8 (z5 5 (m2 (gI fun i j=> .int (i - j)) (m2 v6 (a8 1) (mC (.int 2))) (a8 3)))
 (m8 (G8 (a5R (N9 (m2 gEq (m2 (S8 (fun _ j=>0<j) fun i j=> .int (i % j)) (a8 4) (mC (.int 2))) (mC (.int 1)))) (N9 (m2 gEq (m2 (S8 (fun _ j=>0<j) fun i j=> .int (i % j)) (a8 5) (mC (.int 2))) (mC (.int 1))))) (v7 (mC .none)) A3)
 (v7 (A7 (a6 (m2 v6 (a8 1) (mC (.int 0))) (a6 (m2 (S8 (fun _ j=>0<j) fun i j=> .int (i % j)) (m2 (S8 a5M fun i j=> .int (i / j)) (a8 4) (mC (.int 2))) (a8 0)) (a6 (m2 (S8 (fun _ j=>0<j) fun i j=> .int (i % j)) (m2 (S8 a5M fun i j=> .int (i / j)) (a8 5) (mC (.int 2))) (a8 0)) c7)))))))))
def K0:List PV->Option i7:=C5 4 a5i
def y0:MS:=
 (m8 (b2c [4,5] (m3 M2 (a6 (m2 v6 (a8 1) (mC (.int 0))) (a6 (a8 2) (a6 (a8 3) c7)))))
 (G8 (a5x (N9 (m2 gEq (m2 C7 (a8 4) (a8 2)) (mC (.int 0)))) (N9 (m2 gEq (m2 C7 (a8 5) (a8 3)) (mC (.int 0))))) (v7 (mC (.bool true))) A3))
def u8:MS:=
 (N8 (S3 (S4 (a6 (m2 v6 (a8 1) (mC (.int 2))) (a6 (m2 (gI fun i j=> .int (i - j)) (m2 v6 (a8 1) (mC (.int 2))) (m2 L6 (mC (.int 2)) (a8 0))) c7)))) (g5 3) y0)
def a3D:MS:=
 (m8 (N8 (S3 (S4 (a6 (m2 v6 (a8 1) (mC (.int 1))) (a6 (m2 (gI fun i j=> .int (i - j)) (m2 v6 (a8 1) (mC (.int 1))) (m2 L6 (mC (.int 2)) (a8 0))) c7)))) (g5 2) u8)
 (v7 (mC (.bool false))))
def E1:List PV->Option i7:=C5 4 a3D
def a10:M:=
 (a8 9)
def S1:M:=
 (a8 9)
def R6:MS:=
 (z5 6 (m2 C7 (a8 6) (a7h (D5 1 (y8 (a8 5)) (g5 9) (a5x (N9 (m2 gEq (m2 v6 (a8 9) (mC (.int 0))) (a8 7))) (mtV (m3 E1 (a6 (a8 0) (a6 (a8 9) c7))))) S1) a7k (a7l (mC (.int 1))))))
def a11:M:=
 (a8 9)
def a5e:MS:=
 (m8 (z5 2 (a6a 1))
 (m8 (z5 3 (m2 C7 (m2 C7 (mC (.int 1)) (m1 b0L (m2 (a6W false) (mC (.str "half")) (a8 2)))) (m2 L6 (mC (.int 2)) (m1 b0L (m2 (a6W false) (mC (.str "turn")) (a8 2))))))
 (m8 (z5 4 (D5 1 (y8 (A7 (a6 (mC (.str "cross")) (a6 (mC (.str "flip")) (a6 (mC (.str "other")) (a6 (mC (.str "side")) c7)))))) (g5 9) (N9 (m2 (a6W false) (a8 9) (a8 2))) a10))
 (m8 (z5 5 (m3 a0i (a6 (a8 0) (a6 (a8 1) c7))))
 (m8 (z5 6 (S4 c7))
 (m8 (a7f 4 (N8 (S3 (a8 4)) (g5 7) R6))
 (m8 (z5 8 (D5 1 (y8 (a8 5)) (g5 9) (N9 (Y0 1 (m3 K0 (a6 (a8 0) (a6 (a8 9) c7))))) a11))
 (a7f 6 (a7f 4 (v7 (A7 (a6 (a8 3) (a6 (a8 4) (a6 (a8 6) (a6 (m2 v6 (m2 C7 (a8 8) (S4 (a6 (mC .none) c7))) (mC (.int 0))) c7)))))))))))))))
def J9:List PV->Option i7:=C5 7 a5e
def a3T:M:=
 (m2 v6 (a8 1) (mC (.int 0)))
def a8j:MS:=
 (v7 (D5 1 (y8 (a8 0)) (g5 1) a0o a3T))
def a0T:List PV->Option i7:=C5 0 a8j
def a8i:MS:=
 (m8 (z5 1 (m3 a0T (a6 (a8 0) c7)))
 (m8 (G8 (N9 (m2 (a6W false) (mC (.str "turn")) (a8 1))) (v7 (mC (.int 4))) A3)
 (m8 (G8 (N9 (m2 (a6W false) (mC (.str "half")) (a8 1))) (v7 (mC (.int 2))) A3)
 (v7 (mC (.int 1))))))
def a2w:List PV->Option i7:=C5 1 a8i
def a2S:M:=
 (a8 2)
def a6v:MS:=
 (m8 (z5 1 (m3 a0T (a6 (a8 0) c7)))
 (v7 (D5 1 (y8 (mC I0)) (g5 2) (N9 (m2 (a6W false) (a8 2) (a8 1))) a2S)))
def a1g:List PV->Option i7:=C5 1 a6v
def a5r:M:=
 (A7 (a6 (a8 1) (a6 (mC (.bool true)) c7)))
def b0s:MS:=
 (v7 (m1 a3M (D5 1 (y8 (a8 0)) (g5 1) a0o a5r)))
def a1W:List PV->Option i7:=C5 0 b0s
def N7:MS:=
 (S2 2 (A7 (a6 (a8 1) (a6 (a8 3) (a6 (a8 4) c7)))))
def E8:MS:=
 (N8 (L0 (a6 (m2 L6 (mC (.int 2)) (a8 0)) c7)) (g5 4) N7)
def a0O:MS:=
 (m8 (z5 2 (S4 c7))
 (m8 (N8 (L0 (a6 (m2 L6 (mC (.int 2)) (a8 0)) c7)) (g5 3) E8)
 (a0X 2)))
def F9:List PV->Option i7:=C5 3 a0O
def b0t:MS:=
 (v7 (A7 (a6 (m2 v6 (a8 1) (mC (.int 0))) (a6 (m2 (S8 (fun _ j=>0<j) fun i j=> .int (i % j)) (m2 v6 (a8 1) (mC (.int 1))) (a8 0)) (a6 (m2 (S8 (fun _ j=>0<j) fun i j=> .int (i % j)) (m2 v6 (a8 1) (mC (.int 2))) (a8 0)) c7)))))
def a1X:List PV->Option i7:=C5 0 b0t
def a0V:M:=
 (a8 3)
def a2M:MS:=
 (v7 (D5 1 (y8 (m3 F9 (a6 (a8 0) (a6 (a8 2) c7)))) (g5 3) (N9 (a3U false 1 (m3 a1X (a6 (a8 0) (a6 (a8 3) c7))))) a0V))
def C6:List PV->Option i7:=C5 0 a2M
def a5c:MS:=
 (m8 (z5 2 (m2 v6 (a8 1) (mC (.int 0))))
 (m8 (G8 (N9 (m2 gEq (a8 2) (mC (.str "side")))) (v7 (m2 gEq (m2 v6 (a8 1) (mC (.int 1))) (mC (.int 0)))) A3)
 (m8 (G8 (N9 (m2 gEq (a8 2) (mC (.str "flip")))) (v7 (m2 gEq (m2 v6 (a8 1) (mC (.int 2))) (mC (.int 0)))) A3)
 (m8 (G8 (N9 (m2 gEq (a8 2) (mC (.str "cross")))) (v7 (mOr (m2 gEq (m2 C7 (m2 v6 (a8 1) (mC (.int 1))) (m2 v6 (a8 1) (mC (.int 2)))) (mC (.int 0))) (m2 gEq (m2 C7 (m2 v6 (a8 1) (mC (.int 1))) (m2 v6 (a8 1) (mC (.int 2)))) (m2 L6 (mC (.int 2)) (a8 0))))) A3)
 (v7 (b9w (m2 gEq (a8 2) (mC (.str "other"))) (m2 gEq (m2 v6 (a8 1) (mC (.int 1))) (m2 v6 (a8 1) (mC (.int 2))))))))))
def P8:List PV->Option i7:=C5 1 a5c
def a1w:M:=
 (a8 6)
def K9:MS:=
 (m8 (z5 5 (D5 1 (y8 (a0n C6 2 (a8 0) (a8 4))) (g5 6) (mtV (m3 P8 (a6 (a8 0) (a6 (a8 6) c7)))) a1w))
 (a6d 3 (a7h (a8 5) a7k (a7l (mC (.int 1))))))
def a3E:MS:=
 (m8 (z5 2 (m3 a1W (a6 (a8 1) c7)))
 (m8 (z5 3 (S4 c7))
 (m8 (N8 (S3 (mC I0)) (g5 4) K9)
 (a0X 3))))
def X4:List PV->Option i7:=C5 4 a3E
def K6:MS:=
 (m8 (G8 (N9 (m2 gEq (m2 (S8 (fun _ j=>0<j) fun i j=> .int (i % j)) (m2 C7 (m2 v6 (a8 1) (mC (.int 1))) (m2 v6 (a8 1) (mC (.int 2)))) (mC (.int 2))) (mC (.int 1)))) (v7 (mC .none)) A3)
 (m8 (G8 (N9 (m2 gEq (m2 v6 (a8 1) (mC (.int 0))) (mC (.str "cross")))) (m8 (z5 2 (m2 (S8 a5M fun i j=> .int (i / j)) (m2 (gI fun i j=> .int (i - j)) (m2 v6 (a8 1) (mC (.int 1))) (m2 v6 (a8 1) (mC (.int 2)))) (mC (.int 2))))
 (v7 (A7 (a6 (mC (.str "cross")) (a6 (m2 (S8 (fun _ j=>0<j) fun i j=> .int (i % j)) (a8 2) (a8 0)) (a6 (m2 (S8 (fun _ j=>0<j) fun i j=> .int (i % j)) (a0z (a8 2)) (a8 0)) c7)))))) A3)
 (m8 (z5 2 (m2 (S8 a5M fun i j=> .int (i / j)) (m2 C7 (m2 v6 (a8 1) (mC (.int 1))) (m2 v6 (a8 1) (mC (.int 2)))) (mC (.int 2))))
 (v7 (A7 (a6 (mC (.str "other")) (a6 (m2 (S8 (fun _ j=>0<j) fun i j=> .int (i % j)) (a8 2) (a8 0)) (a6 (m2 (S8 (fun _ j=>0<j) fun i j=> .int (i % j)) (a8 2) (a8 0)) c7))))))))
def x9:List PV->Option i7:=C5 1 K6
def Y3:MS:=
 (m8 (G8 (N9 (m2 gEq (m2 v6 (a8 1) (mC (.int 0))) (mC (.str "side")))) (v7 (A7 (a6 (mC (.str "side")) (a6 (mC (.int 0)) (a6 (m2 (S8 (fun _ j=>0<j) fun i j=> .int (i % j)) (m2 v6 (a8 1) (mC (.int 2))) (a8 0)) c7))))) A3)
 (m8 (G8 (N9 (m2 gEq (m2 v6 (a8 1) (mC (.int 0))) (mC (.str "flip")))) (v7 (A7 (a6 (mC (.str "flip")) (a6 (m2 (S8 (fun _ j=>0<j) fun i j=> .int (i % j)) (m2 v6 (a8 1) (mC (.int 1))) (a8 0)) (a6 (mC (.int 0)) c7))))) A3)
 (v7 (m3 x9 (a6 (a8 0) (a6 (a8 1) c7))))))
def C0:List PV->Option i7:=C5 0 Y3
def U8:MS:=
 (G8 (N9 (a0W 2 (m3 C0 (a6 (a8 0) (a6 (a8 4) c7))))) (a0X 4) A3)
def E4:MS:=
 (N8 (S3 (a0n C6 2 (a8 0) (a8 3))) (g5 4) U8)
def a6y:MS:=
 (m8 (z5 2 (m3 a1W (a6 (a8 1) c7)))
 (m8 (N8 (S3 (mC I0)) (g5 3) E4)
 (v7 (mC .none))))
def a1i:List PV->Option i7:=C5 3 a6y
def a6z:MS:=
 (v7 (A7 (a6 (m3 a2w (a6 (a8 1) c7)) (a6 (m3 a1g (a6 (a8 1) c7)) (a6 (m3 X4 (a6 (a8 0) (a6 (a8 1) c7))) (a6 (m3 a1i (a6 (a8 0) (a6 (a8 1) c7))) c7))))))
def Z0:List PV->Option i7:=C5 0 a6z
def a3e:MS:=
 (S2 1 (A7 (a6 (a8 2) (a6 (a8 3) (a6 (a8 4) c7)))))
def a3f:MS:=
 (N8 (L0 (a6 (a8 0) c7)) (g5 4) a3e)
def Z3:MS:=
 (N8 (L0 (a6 (a8 0) c7)) (g5 3) a3f)
def a1u:MS:=
 (m8 (z5 1 (S4 c7))
 (m8 (N8 (S3 (m1 a9w (mC b0e))) (g5 2) Z3)
 (a0X 1)))
def O7:List PV->Option i7:=C5 4 a1u
def b1J:MS:=
 (m8 (G8 (N9 (m2 gEq (a8 0) (mC (.str "turn")))) (v7 (mC (.str "back"))) A3)
 (m8 (G8 (N9 (m2 gEq (a8 0) (mC (.str "back")))) (v7 (mC (.str "turn"))) A3)
 (a0X 0)))
def a3c:List PV->Option i7:=C5 0 b1J
def a6A:MS:=
 (m8 (z5 2 (b9x L8 (a8 0)))
 (v7 (A7 (a6 (m2 C7 (m2 L6 (m2 v6 (a8 2) (mC (.int 0))) (m2 v6 (a8 1) (mC (.int 0)))) (m2 L6 (m2 v6 (a8 2) (mC (.int 1))) (m2 v6 (a8 1) (mC (.int 1))))) (a6 (m2 C7 (m2 L6 (m2 v6 (a8 2) (mC (.int 2))) (m2 v6 (a8 1) (mC (.int 0)))) (m2 L6 (m2 v6 (a8 2) (mC (.int 3))) (m2 v6 (a8 1) (mC (.int 1))))) c7)))))
def T7:List PV->Option i7:=C5 1 a6A
def a3F:MS:=
 (m8 (z5 2 (m3 a3c (a6 (m2 v6 (a8 1) (mC (.int 0))) c7)))
 (m8 (z5 3 (m3 T7 (a6 (a8 2) (a6 (A7 (a6 (a0z (m2 v6 (a8 1) (mC (.int 1)))) (a6 (a0z (m2 v6 (a8 1) (mC (.int 2)))) c7))) c7))))
 (v7 (A7 (a6 (a8 2) (a6 (m2 (S8 (fun _ j=>0<j) fun i j=> .int (i % j)) (m2 v6 (a8 3) (mC (.int 0))) (a8 0)) (a6 (m2 (S8 (fun _ j=>0<j) fun i j=> .int (i % j)) (m2 v6 (a8 3) (mC (.int 1))) (a8 0)) c7)))))))
def R5:List PV->Option i7:=C5 2 a3F
def b8F:MS:=
 (m8 (z5 3 (m3 T7 (a6 (m2 v6 (a8 1) (mC (.int 0))) (a6 (a8 2) c7))))
 (v7 (A7 (a6 (m2 (S8 (fun _ j=>0<j) fun i j=> .int (i % j)) (m2 C7 (m2 v6 (a8 3) (mC (.int 0))) (m2 v6 (a8 1) (mC (.int 1)))) (a8 0)) (a6 (m2 (S8 (fun _ j=>0<j) fun i j=> .int (i % j)) (m2 C7 (m2 v6 (a8 3) (mC (.int 1))) (m2 v6 (a8 1) (mC (.int 2)))) (a8 0)) c7)))))
def a8w:List PV->Option i7:=C5 1 b8F
def b4V:MS:=
 (m8 (z5 3 (m1 Y8 (a8 0)))
 (v7 (m2 v6 (m2 v6 (a8 0) (m2 (S8 (fun _ j=>0<j) fun i j=> .int (i % j)) (a8 1) (a8 3))) (m2 (S8 (fun _ j=>0<j) fun i j=> .int (i % j)) (a8 2) (a8 3)))))
def a64:List PV->Option i7:=C5 1 b4V
def G0:MS:=
 (m8 (z5 6 (m3 a8w (a6 (a8 2) (a6 (a8 3) (a6 (A7 (a6 (a8 4) (a6 (a8 5) c7))) c7)))))
 (G8 (N9 (m2 gNe (m3 a64 (a6 (a8 0) (a6 (a8 4) (a6 (a8 5) c7)))) (m3 a64 (a6 (a8 0) (a6 (m2 v6 (a8 6) (mC (.int 0))) (a6 (m2 v6 (a8 6) (mC (.int 1))) c7)))))) (v7 (A7 (a6 (a8 4) (a6 (a8 5) c7)))) A3))
def S0:MS:=
 (N8 (L0 (a6 (a8 2) c7)) (g5 5) G0)
def a5l:MS:=
 (m8 (z5 2 (m1 Y8 (a8 0)))
 (m8 (z5 3 (m3 R5 (a6 (a8 2) (a6 (a8 1) c7))))
 (m8 (N8 (L0 (a6 (a8 2) c7)) (g5 4) S0)
 (v7 (mC .none)))))
def a0k:List PV->Option i7:=C5 5 a5l
def b0r:MS:=
 (v7 (m2 (b0M false) (m3 a0k (a6 (a8 0) (a6 (a8 1) c7))) (mC .none)))
def a1V:List PV->Option i7:=C5 0 b0r
def a3S:M:=
 (a8 1)
def a8h:MS:=
 (v7 (D5 1 (y8 (m3 O7 (a6 (m1 Y8 (a8 0)) c7))) (g5 1) (mtV (m3 a1V (a6 (a8 0) (a6 (a8 1) c7)))) a3S))
def a2v:List PV->Option i7:=C5 0 a8h
def a0N:MS:=
 (m8 (G8 (X1 (mtV (a8 0))) (v7 (mC (.str "p4"))) A3)
 (m8 (G8 (N9 (m2 gEq (m1 Y8 (a8 1)) (mC (.int 4)))) (v7 (mC (.str "p4m"))) A3)
 (v7 (mC (.str "p4g")))))
def N3:List PV->Option i7:=C5 0 a0N
def a0L:MS:=
 (m8 (G8 (X1 (mtV (a8 0))) (v7 (mC (.str "p1"))) A3)
 (m8 (G8 (X1 (mtV (a8 1))) (v7 (mC (.str "pg"))) A3)
 (m8 (G8 (N9 (m2 (b0M false) (a8 2) (mC .none))) (v7 (mC (.str "pm"))) A3)
 (v7 (mC (.str "cm"))))))
def N1:List PV->Option i7:=C5 0 a0L
def a0M:MS:=
 (m8 (G8 (X1 (mtV (a8 0))) (v7 (mC (.str "p2"))) A3)
 (m8 (G8 (X1 (mtV (a8 1))) (v7 (mC (.str "pgg"))) A3)
 (m8 (G8 (N9 (m2 gEq (m1 Y8 (a8 1)) (mC (.int 1)))) (v7 (mC (.str "pmg"))) A3)
 (m8 (G8 (N9 (m2 (b0M false) (a8 2) (mC .none))) (v7 (mC (.str "pmm"))) A3)
 (v7 (mC (.str "cmm")))))))
def N2:List PV->Option i7:=C5 0 a0M
def a8k:MS:=
 (m8 (G8 (N9 (m2 gEq (m2 v6 (a8 0) (mC (.int 0))) (mC (.int 1)))) (v7 (m3 N1 (a6 (m2 v6 (a8 0) (mC (.int 1))) (a6 (m2 v6 (a8 0) (mC (.int 2))) (a6 (m2 v6 (a8 0) (mC (.int 3))) c7))))) A3)
 (m8 (G8 (N9 (m2 gEq (m2 v6 (a8 0) (mC (.int 0))) (mC (.int 2)))) (v7 (m3 N2 (a6 (m2 v6 (a8 0) (mC (.int 1))) (a6 (m2 v6 (a8 0) (mC (.int 2))) (a6 (m2 v6 (a8 0) (mC (.int 3))) c7))))) A3)
 (v7 (m3 N3 (a6 (m2 v6 (a8 0) (mC (.int 1))) (a6 (m2 v6 (a8 0) (mC (.int 2))) c7))))))
def a0U:List PV->Option i7:=C5 0 a8k
def b4U:MS:=
 (m8 (z5 1 (m3 Z0 (a6 (m1 Y8 (a8 0)) (a6 (m3 a2v (a6 (a8 0) c7)) c7))))
 (v7 (A7 (a6 (m3 a0U (a6 (a8 1) c7)) (a6 (a8 1) c7)))))
def Y9:List PV->Option i7:=C5 1 b4U
def a6x:MS:=
 (m8 (b2c [1,2,3,4] (a8 0))
 (m8 (G8 (N9 (m2 gEq (a8 2) (S4 c7))) (v7 (m2 v6 (S4 (a6 (mC (.str "")) (a6 (mC (.str "p1")) (a6 (mC (.str "p2")) (a6 (mC (.str "")) (a6 (mC (.str "p4")) c7)))))) (a8 1))) A3)
 (m8 (G8 (N9 (m2 gEq (a8 1) (mC (.int 4)))) (v7 (m2 v6 (S4 (a6 (mC (.str "p4g")) (a6 (mC (.str "p4m")) c7))) (m1 b0L (m2 gEq (m1 Y8 (a8 3)) (mC (.int 4)))))) A3)
 (m8 (G8 (N9 (m2 gEq (a8 1) (mC (.int 1)))) (v7 (m2 v6 (S4 (a6 (mC (.str "pg")) (a6 (m2 v6 (S4 (a6 (mC (.str "cm")) (a6 (mC (.str "pm")) c7))) (m1 b0L (m2 (b0M false) (a8 4) (mC .none)))) c7))) (m1 Y8 (a8 3)))) A3)
 (v7 (m2 v6 (S4 (a6 (mC (.str "pgg")) (a6 (mC (.str "pmg")) (a6 (m2 v6 (S4 (a6 (mC (.str "cmm")) (a6 (mC (.str "pmm")) c7))) (m1 b0L (m2 (b0M false) (a8 4) (mC .none)))) c7)))) (m1 Y8 (a8 3))))))))
def K2:List PV->Option i7:=C5 4 a6x
def B3:MS:=
 (m8 (z5 9 (m2 C7 (m2 C7 (m2 L6 (a8 3) (a8 7)) (m2 L6 (a8 4) (a8 8))) (m2 v6 (a8 1) (mC (.int 1)))))
 (m8 (z5 10 (m2 C7 (m2 C7 (m2 L6 (a8 5) (a8 7)) (m2 L6 (a8 6) (a8 8))) (m2 v6 (a8 1) (mC (.int 2)))))
 (G8 (N9 (m2 gNe (m2 v6 (m2 v6 (a8 0) (m2 (S8 (fun _ j=>0<j) fun i j=> .int (i % j)) (a8 9) (a8 2))) (m2 (S8 (fun _ j=>0<j) fun i j=> .int (i % j)) (a8 10) (a8 2))) (m2 v6 (m2 v6 (a8 0) (a8 7)) (a8 8)))) (v7 (mC (.bool false))) A3)))
def K3:MS:=
 (N8 (L0 (a6 (a8 2) c7)) (g5 8) B3)
def a1v:MS:=
 (m8 (z5 2 (m1 Y8 (a8 0)))
 (m8 (b2c [3,4,5,6] (a6c ["stay","turn","half","back","side","flip","cross","other"] (a6 (A7 (a6 (mC (.int 1)) (a6 (mC (.int 0)) (a6 (mC (.int 0)) (a6 (mC (.int 1)) c7))))) (a6 (A7 (a6 (mC (.int 0)) (a6 (mC (.int 1)) (a6 (a0z (mC (.int 1))) (a6 (mC (.int 0)) c7))))) (a6 (A7 (a6 (a0z (mC (.int 1))) (a6 (mC (.int 0)) (a6 (mC (.int 0)) (a6 (a0z (mC (.int 1))) c7))))) (a6 (A7 (a6 (mC (.int 0)) (a6 (a0z (mC (.int 1))) (a6 (mC (.int 1)) (a6 (mC (.int 0)) c7))))) (a6 (A7 (a6 (mC (.int 1)) (a6 (mC (.int 0)) (a6 (mC (.int 0)) (a6 (a0z (mC (.int 1))) c7))))) (a6 (A7 (a6 (a0z (mC (.int 1))) (a6 (mC (.int 0)) (a6 (mC (.int 0)) (a6 (mC (.int 1)) c7))))) (a6 (A7 (a6 (mC (.int 0)) (a6 (mC (.int 1)) (a6 (mC (.int 1)) (a6 (mC (.int 0)) c7))))) (a6 (A7 (a6 (mC (.int 0)) (a6 (a0z (mC (.int 1))) (a6 (a0z (mC (.int 1))) (a6 (mC (.int 0)) c7))))) c7)))))))) (m2 v6 (a8 1) (mC (.int 0)))))
 (m8 (N8 (L0 (a6 (a8 2) c7)) (g5 7) K3)
 (v7 (mC (.bool true))))))
def K8:List PV->Option i7:=C5 9 a1v
def a12:M:=
 (m3 a8w (a6 (a8 3) (a6 (a8 1) (a6 (A7 (a6 (a8 2) (a6 (a8 5) c7))) c7))))
def a13:M:=
 (m2 v6 (m2 v6 (a8 0) (m2 v6 (a8 5) (mC (.int 0)))) (m2 v6 (a8 5) (mC (.int 1))))
def a5k:MS:=
 (m8 (z5 3 (m1 Y8 (a8 0)))
 (m8 (z5 4 (D5 1 (L0 (a6 (a8 3) c7)) (g5 5) a0o a12))
 (v7 (m2 a3O (mC (.str "")) (D5 1 (y8 (a8 4)) (g5 5) a0o a13)))))
def a0j:List PV->Option i7:=C5 2 a5k
def a7c:M:=
 (m3 a0j (a6 (a8 0) (a6 (a8 3) (a6 (a8 4) c7))))
def b2K:MS:=
 (m8 (z5 2 (m1 Y8 (a8 0)))
 (m8 (z5 3 (m3 R5 (a6 (a8 2) (a6 (a8 1) c7))))
 (v7 (m1 a1f (D5 1 (L0 (a6 (a8 2) c7)) (g5 4) a0o a7c)))))
def a56:List PV->Option i7:=C5 2 b2K
def a2T:M:=
 (m2 v6 (a8 2) (m2 (S8 (fun _ j=>0<j) fun i j=> .int (i % j)) (m2 C7 (m2 a4C (a8 2) (a8 5)) (a8 3)) (mC (.int 10))))
def a2U:M:=
 (m2 a3O (mC (.str "")) (D5 1 (a9L (a8 4)) (g5 5) a0o a2T))
def a6w:MS:=
 (m8 (z5 2 (mC (.str "abcdeqwxyz")))
 (m8 (z5 3 (m2 C7 (mC (.int 1)) (m2 (S8 (fun _ j=>0<j) fun i j=> .int (i % j)) (a8 1) (mC (.int 9)))))
 (v7 (m1 a1f (D5 1 (y8 (a8 0)) (g5 4) a0o a2U)))))
def a1h:List PV->Option i7:=C5 2 a6w
def a1Z:MS:=
 (G8 (mtV (m3 K8 (a6 (a8 1) (a6 (a8 4) c7)))) (a6b 3 (a8 4) (mC (.bool true))) A3)
def a7b:M:=
 (m2 C7 (a8 10) (a8 10))
def b4W:MS:=
 (m8 (z5 1 (m3 Q9 (a6 (a8 0) (a6 (m2 v6 (S4 (a6 (mC (.int 4)) (a6 (mC (.int 4)) (a6 (mC (.int 4)) (a6 (mC (.int 4)) (a6 (mC (.int 4)) (a6 (mC (.int 8)) c7))))))) (m2 (S8 (fun _ j=>0<j) fun i j=> .int (i % j)) (m3 y9 (a6 (a8 0) (a6 (mC (.int 0)) c7))) (mC (.int 6)))) c7))))
 (m8 (z5 2 (m1 Y8 (a8 1)))
 (m8 (z5 3 b3g)
 (m8 (N8 (S3 (m3 a2u (a6 (a8 2) c7))) (g5 4) a1Z)
 (m8 (z5 5 (a59 J9 3 (a8 2)))
 (a7g 6 7 [1] (m3 Y9 (a6 (a8 1) c7)) (m3 K2 (a6 (a8 5) c7)) (a5R (X1 (mtV (m1 (a6Y "tuple") (a8 6)))) (a5R (N9 (m2 gNe (a8 6) (A7 (a6 (a8 7) (a6 (a8 5) c7))))) (X1 (mtV (m1 (a6Y "tuple") (m2 v6 (a8 6) (mC (.int 1)))))))) (N9 (m2 (gI fun i j=> .bool (decide (j<i))) (a8 2) (mC (.int 4)))) (v7 (mC (.bool true)))
 (m8 (z5 8 (m3 J8 (a6 (m3 y9 (a6 (a8 0) (a6 (mC (.int 1)) c7))) (a6 (mC (.int 40)) c7))))
 (m8 (G8 (a5R (N9 (m2 gNe (m2 v6 (m3 Y9 (a6 (m3 a56 (a6 (a8 1) (a6 (m3 M1 (a6 (a8 2) (a6 (a8 8) c7))) c7))) c7)) (mC (.int 0))) (a8 7))) (N9 (m2 gNe (m2 v6 (m3 Y9 (a6 (m3 a1h (a6 (a8 1) (a6 (a8 8) c7))) c7)) (mC (.int 0))) (a8 7)))) (v7 (mC (.bool false))) A3)
 (m8 (z5 9 (m1 a1f (D5 1 (y8 (m2 C7 (a8 1) (a8 1))) (g5 10) a0o a7b)))
 (m8 (G8 (a5x (N9 (m2 b5C (a8 2) (mC (.int 4)))) (N9 (m2 gNe (m2 v6 (m3 Y9 (a6 (a8 9) c7)) (mC (.int 0))) (a8 7)))) (v7 (mC (.bool false))) A3)
 (v7 (m2 gEq (m3 Y9 (a6 (a8 1) c7)) (A7 (a6 (a8 7) (a6 (a8 5) c7)))))))))))))))
def b8N:List PV->Option i7:=C5 9 b4W
end LW
set_option maxHeartbeats 1000000
namespace LW
open PySem PySem.Spec PyProof.Rows L2 PU
def m6:List Str:=[AD "stay",AD "turn",AD "half",AD "back",AD "side",AD "flip",AD "cross",AD "other"]
abbrev c10:List PV:=[.str (AD "stay"),.str (AD "turn"),.str (AD "half"),.str (AD "back"),.str (AD "side"),.str (AD "flip"),.str (AD "cross"),.str (AD "other")]
def f6(w:Str)(a b:Int):Int:=if w=AD "stay" then a else if w=AD "turn" then b else if w=AD "half" then -a else if w=AD "back" then -b else if w=AD "side" then a else if w=AD "flip" then -a else if w=AD "cross" then b else -b
def e9(w:Str)(a b:Int):Int:=if w=AD "stay" then b else if w=AD "turn" then -a else if w=AD "half" then -b else if w=AD "back" then a else if w=AD "side" then -b else if w=AD "flip" then b else if w=AD "cross" then a else -a
theorem D6{w:Str}(h:w∈m6):w=AD "stay"\/w=AD "turn"\/w=AD "half"\/w=AD "back"\/w=AD "side"\/w=AD "flip"\/w=AD "cross"\/w=AD "other":=by
 simpa [m6] using h
theorem c1x:X0 L8 (.inr (AD "stay"))=some (.tuple [.int 1,.int 0,.int 0,.int 1]):=by kernel_rfl
theorem c1y:X0 L8 (.inr (AD "turn"))=some (.tuple [.int 0,.int 1,.int (-1),.int 0]):=by kernel_rfl
theorem c1z:X0 L8 (.inr (AD "half"))=some (.tuple [.int (-1),.int 0,.int 0,.int (-1)]):=by kernel_rfl
theorem c1A:X0 L8 (.inr (AD "back"))=some (.tuple [.int 0,.int (-1),.int 1,.int 0]):=by kernel_rfl
theorem c1B:X0 L8 (.inr (AD "side"))=some (.tuple [.int 1,.int 0,.int 0,.int (-1)]):=by kernel_rfl
theorem c1C:X0 L8 (.inr (AD "flip"))=some (.tuple [.int (-1),.int 0,.int 0,.int 1]):=by kernel_rfl
theorem c1D:X0 L8 (.inr (AD "cross"))=some (.tuple [.int 0,.int 1,.int 1,.int 0]):=by kernel_rfl
theorem c1E:X0 L8 (.inr (AD "other"))=some (.tuple [.int 0,.int (-1),.int (-1),.int 0]):=by kernel_rfl
theorem a5A{w:Str}(hw:w∈m6)(a b:Int):T7 [.str w,.tuple [.int a,.int b]]=some (.val (.tuple [.int (f6 w a b),.int (e9 w a b)])):=by
 have key:∀x y z t r c:Int,X0 L8 (.inr w)=some (.tuple [.int x,.int y,.int z,.int t])->(-2<x/\x<2)->(-2<y/\y<2)->(-2<z/\z<2)->(-2<t/\t<2)->x*a+y*b=r->z*a+t*b=c->
  T7 [.str w,.tuple [.int a,.int b]]=some (.val (.tuple [.int r,.int c])):=by
  intro x y z t r c h hx hy hz ht e1 e2
  subst e1 e2
  unfold T7 a6A
  simp (disch:=omega) only [y4,L7,o0,t6,x6,a6Z,j0,g9,b8,d0,b7,a9,b5,o8,j3,u6,f8,l8,c8,g0,f7,h9,b5V,c0h,AF,Ao,AI,AS,AX,AQ,Ab,AZ,AU,AV,AR,AY,↓reduceIte,sz,Nat.reduceAdd,Ad,h]
 rcases D6 hw with rfl|rfl|rfl|rfl|rfl|rfl|rfl|rfl
 ·exact key _ _ _ _ _ _ c1x (by decide) (by decide) (by decide) (by decide) (by show _=a;lia) (by show _=b;lia)
 ·exact key _ _ _ _ _ _ c1y (by decide) (by decide) (by decide) (by decide) (by show _=b;lia) (by show _= -a;lia)
 ·exact key _ _ _ _ _ _ c1z (by decide) (by decide) (by decide) (by decide) (by show _= -a;lia) (by show _= -b;lia)
 ·exact key _ _ _ _ _ _ c1A (by decide) (by decide) (by decide) (by decide) (by show _= -b;lia) (by show _=a;lia)
 ·exact key _ _ _ _ _ _ c1B (by decide) (by decide) (by decide) (by decide) (by show _=a;lia) (by show _= -b;lia)
 ·exact key _ _ _ _ _ _ c1C (by decide) (by decide) (by decide) (by decide) (by show _= -a;lia) (by show _=b;lia)
 ·exact key _ _ _ _ _ _ c1D (by decide) (by decide) (by decide) (by decide) (by show _=b;lia) (by show _=a;lia)
 ·exact key _ _ _ _ _ _ c1E (by decide) (by decide) (by decide) (by decide) (by show _= -b;lia) (by show _= -a;lia)
theorem b9t{w:Str}(hw:w∈m6){s:Int}(hs:0<s)(d r a b:Int):a8w [.int s,.tuple [.str w,.int d,.int r],.tuple [.int a,.int b]]=some (.val (.tuple [.int ((f6 w a b+d) % s),.int ((e9 w a b+r) % s)])):=by
 unfold a8w b8F
 simp (disch:=omega) only [y4,u7,o0,t6,x6,j0,g9,b8,d0,b7,a9,b5,o8,g7,j3,u6,f8,l8,c8,g0,f7,h9,AF,AI,AS,AX,AQ,Ab,AZ,AU,AV,AR,AY,↓reduceIte,sz,Nat.reduceAdd,Ad,a5A hw a b]
abbrev T3(w:Str)(d r:Int):PV:= .tuple [.str w,.int d,.int r]
theorem N6{w:Str}(hw:w∈m6)(a b x y:Int):f6 w (a+x) (b+y)=f6 w a b+f6 w x y:=by
 rcases D6 hw with rfl|rfl|rfl|rfl|rfl|rfl|rfl|rfl
 ·show a+x=a+x;rfl
 ·show b+y=b+y;rfl
 ·show -(a+x)= -a+ -x;lia
 ·show -(b+y)= -b+ -y;lia
 ·show a+x=a+x;rfl
 ·show -(a+x)= -a+ -x;lia
 ·show b+y=b+y;rfl
 ·show -(b+y)= -b+ -y;lia
theorem M9{w:Str}(hw:w∈m6)(a b x y:Int):e9 w (a+x) (b+y)=e9 w a b+e9 w x y:=by
 rcases D6 hw with rfl|rfl|rfl|rfl|rfl|rfl|rfl|rfl
 ·show b+y=b+y;rfl
 ·show -(a+x)= -a+ -x;lia
 ·show -(b+y)= -b+ -y;lia
 ·show a+x=a+x;rfl
 ·show -(b+y)= -b+ -y;lia
 ·show b+y=b+y;rfl
 ·show a+x=a+x;rfl
 ·show -(a+x)= -a+ -x;lia
theorem b3A{w:Str}(hw:w∈m6)(a b:Int):f6 w (-a) (-b)= - f6 w a b:=by
 have h:=N6 hw a b (-a) (-b)
 have z:f6 w 0 0=0:=by rcases D6 hw with rfl|rfl|rfl|rfl|rfl|rfl|rfl|rfl<;>rfl
 rw [Int.add_right_neg,Int.add_right_neg,z] at h
 lia
theorem b2O{w:Str}(hw:w∈m6)(a b:Int):e9 w (-a) (-b)= - e9 w a b:=by
 have h:=M9 hw a b (-a) (-b)
 have z:e9 w 0 0=0:=by rcases D6 hw with rfl|rfl|rfl|rfl|rfl|rfl|rfl|rfl<;>rfl
 rw [Int.add_right_neg,Int.add_right_neg,z] at h
 lia
theorem b6y{w:Str}(hw:w∈m6)(s x y:Int):∃k,f6 w (s*x) (s*y)=s*k:=by
 rcases D6 hw with rfl|rfl|rfl|rfl|rfl|rfl|rfl|rfl
 ·exact⟨x,rfl⟩
 ·exact⟨y,rfl⟩
 ·exact⟨-x,by show -(s*x)=s* -x;rw [Int.mul_neg]⟩
 ·exact⟨-y,by show -(s*y)=s* -y;rw [Int.mul_neg]⟩
 ·exact⟨x,rfl⟩
 ·exact⟨-x,by show -(s*x)=s* -x;rw [Int.mul_neg]⟩
 ·exact⟨y,rfl⟩
 ·exact⟨-y,by show -(s*y)=s* -y;rw [Int.mul_neg]⟩
theorem b43{w:Str}(hw:w∈m6)(s x y:Int):∃k,e9 w (s*x) (s*y)=s*k:=by
 rcases D6 hw with rfl|rfl|rfl|rfl|rfl|rfl|rfl|rfl
 ·exact⟨y,rfl⟩
 ·exact⟨-x,by show -(s*x)=s* -x;rw [Int.mul_neg]⟩
 ·exact⟨-y,by show -(s*y)=s* -y;rw [Int.mul_neg]⟩
 ·exact⟨x,rfl⟩
 ·exact⟨-y,by show -(s*y)=s* -y;rw [Int.mul_neg]⟩
 ·exact⟨y,rfl⟩
 ·exact⟨x,rfl⟩
 ·exact⟨-x,by show -(s*x)=s* -x;rw [Int.mul_neg]⟩
theorem b00(x s k d:Int):(x+s*k+d) % s=(x+d) % s:=by
 rw [Int.add_right_comm,Int.add_mul_emod_self_left]
theorem a9M(x s:Int):x % s=x+s*(-(x / s)):=by
 have:=Int.emod_add_mul_ediv x s
 rw [Int.mul_neg]
 lia
theorem a0q{w:Str}(hw:w∈m6)(s x y e:Int):(f6 w (x % s) (y % s)+e) % s=(f6 w x y+e) % s:=by
 rw [a9M x s,a9M y s,N6 hw]
 obtain⟨k,hk⟩:=b6y hw s (-(x / s)) (-(y / s))
 rw [hk,b00]
theorem a0d{w:Str}(hw:w∈m6)(s x y e:Int):(e9 w (x % s) (y % s)+e) % s=(e9 w x y+e) % s:=by
 rw [a9M x s,a9M y s,M9 hw]
 obtain⟨k,hk⟩:=b43 hw s (-(x / s)) (-(y / s))
 rw [hk,b00]
def mat(w:Str):Int×Int×Int×Int:=(f6 w 1 0,f6 w 0 1,e9 w 1 0,e9 w 0 1)
theorem a6f{w:Str}(hw:w∈m6)(a b:Int):f6 w a b=(mat w).1*a+(mat w).2.1*b:=by
 rcases D6 hw with rfl|rfl|rfl|rfl|rfl|rfl|rfl|rfl
 ·show a=1*a+0*b;lia
 ·show b=0*a+1*b;lia
 ·show -a=(-1)*a+ -0*b;lia
 ·show -b= -0*a+(-1)*b;lia
 ·show a=1*a+0*b;lia
 ·show -a=(-1)*a+ -0*b;lia
 ·show b=0*a+1*b;lia
 ·show -b= -0*a+(-1)*b;lia
theorem a5Y{w:Str}(hw:w∈m6)(a b:Int):e9 w a b=(mat w).2.2.1*a+(mat w).2.2.2*b:=by
 rcases D6 hw with rfl|rfl|rfl|rfl|rfl|rfl|rfl|rfl
 ·show b=0*a+1*b;lia
 ·show -a=(-1)*a+ -0*b;lia
 ·show -b= -0*a+(-1)*b;lia
 ·show a=1*a+0*b;lia
 ·show -b= -0*a+(-1)*b;lia
 ·show b=0*a+1*b;lia
 ·show a=1*a+0*b;lia
 ·show -a=(-1)*a+ -0*b;lia
def a03:List Str:=[AD "back",AD "cross",AD "flip",AD "half",AD "other",AD "side",AD "stay",AD "turn"]
def t8(a b:Str):Str:=(a03.find? fun w=>decide (f6 w 1 2=f6 b (f6 a 1 2) (e9 a 1 2))&& decide (e9 w 1 2=e9 b (f6 a 1 2) (e9 a 1 2))).getD (AD "stay")
def L4(w:Str):Str:=if w=AD "turn" then AD "back" else if w=AD "back" then AD "turn" else w
def a6E(a b:Str):Bool:=decide (t8 a b∈m6)&& decide ((mat (t8 a b)).1=(mat b).1*(mat a).1+(mat b).2.1*(mat a).2.2.1)&& decide ((mat (t8 a b)).2.1=(mat b).1*(mat a).2.1+(mat b).2.1*(mat a).2.2.2)&&
 decide ((mat (t8 a b)).2.2.1=(mat b).2.2.1*(mat a).1+(mat b).2.2.2*(mat a).2.2.1)&& decide ((mat (t8 a b)).2.2.2=(mat b).2.2.1*(mat a).2.1+(mat b).2.2.2*(mat a).2.2.2)
theorem b1L:(m6.all fun a=>m6.all fun b=>a6E a b)=true:=by decide+kernel
theorem a4t{a b:Str}(ha:a∈m6)(hb:b∈m6):a6E a b=true:=List.all_eq_true.mp (List.all_eq_true.mp b1L a ha) b hb
theorem a3J{a b:Str}(ha:a∈m6)(hb:b∈m6):t8 a b∈m6:=by
 have h:=a4t ha hb
 simp only [a6E,Bool.and_eq_true,decide_eq_true_eq] at h
 exact h.1.1.1.1
theorem alg(p q s t u v x y:Int):(p*s+q*u)*x+(p*t+q*v)*y=p*(s*x+t*y)+q*(u*x+v*y):=by
 simp only [Int.add_mul,Int.mul_add,Int.mul_assoc]
 lia
theorem a34{a b:Str}(ha:a∈m6)(hb:b∈m6)(x y:Int):f6 (t8 a b) x y=f6 b (f6 a x y) (e9 a x y):=by
 have h:=a4t ha hb
 simp only [a6E,Bool.and_eq_true,decide_eq_true_eq] at h
 rw [a6f h.1.1.1.1,a6f hb,a6f ha,a5Y ha,h.1.1.1.2,h.1.1.2,alg]
theorem a3H{a b:Str}(ha:a∈m6)(hb:b∈m6)(x y:Int):e9 (t8 a b) x y=e9 b (f6 a x y) (e9 a x y):=by
 have h:=a4t ha hb
 simp only [a6E,Bool.and_eq_true,decide_eq_true_eq] at h
 rw [a5Y h.1.1.1.1,a5Y hb,a6f ha,a5Y ha,h.1.2,h.2,alg]
theorem b3U:(m6.all fun a=>m6.all fun b=>m6.all fun c=>decide (t8 (t8 a b) c=t8 a (t8 b c)))=true:=by decide+kernel
theorem b1M{a b c:Str}(ha:a∈m6)(hb:b∈m6)(hc:c∈m6):t8 (t8 a b) c=t8 a (t8 b c):=
 of_decide_eq_true (List.all_eq_true.mp (List.all_eq_true.mp (List.all_eq_true.mp b3U a ha) b hb) c hc)
theorem b4X:(m6.all fun a=>decide (L4 a∈m6)&& decide (t8 a (L4 a)=AD "stay")&& decide (t8 (L4 a) a=AD "stay")&& decide (L4 (L4 a)=a))=true:=by decide+kernel
theorem O6{a:Str}(ha:a∈m6):L4 a∈m6/\t8 a (L4 a)=AD "stay"/\t8 (L4 a) a=AD "stay"/\L4 (L4 a)=a:=by
 have h:=List.all_eq_true.mp b4X a ha
 simp only [Bool.and_eq_true,decide_eq_true_eq] at h
 exact⟨h.1.1.1,h.1.1.2,h.1.2,h.2⟩
theorem b20(a b:Str):PyData.eqv (.str a) (.str b)=(a==b):=by simp only [PyData.eqv]
theorem b29(a b:Str):gEq (.val (.str a)) (.val (.str b))=some (.val (.bool (a==b))):=by
 rw [a9u (x:= .val (.str a)) (y:= .val (.str b)) ⟨rfl,rfl⟩,a1k,a1k,b20]
theorem b1u{a:Str}(ha:a∈m6):a3c [.str a]=some (.val (.str (L4 a))):=by
 rcases D6 ha with rfl|rfl|rfl|rfl|rfl|rfl|rfl|rfl<;>kernel_rfl
theorem b89:(m6.all fun a=>decide (L4 a∈m6)&& decide (L4 (L4 a)=a))=true:=by decide+kernel
theorem a6C{a:Str}(ha:a∈m6):L4 a∈m6/\L4 (L4 a)=a:=by
 have h:=List.all_eq_true.mp b89 a ha
 simp only [Bool.and_eq_true,decide_eq_true_eq] at h
 exact h
theorem a1G{w:Str}(hw:w∈m6)(x y:Int):f6 (L4 w) (f6 w x y) (e9 w x y)=x/\e9 (L4 w) (f6 w x y) (e9 w x y)=y:=by
 rcases D6 hw with rfl|rfl|rfl|rfl|rfl|rfl|rfl|rfl
 ·exact⟨by show x=x;rfl,by show y=y;rfl⟩
 ·exact⟨by show - -x=x;lia,by show y=y;rfl⟩
 ·exact⟨by show - -x=x;lia,by show - -y=y;lia⟩
 ·exact⟨by show x=x;rfl,by show - -y=y;lia⟩
 ·exact⟨by show x=x;rfl,by show - -y=y;lia⟩
 ·exact⟨by show - -x=x;lia,by show y=y;rfl⟩
 ·exact⟨by show x=x;rfl,by show y=y;rfl⟩
 ·exact⟨by show - -x=x;lia,by show - -y=y;lia⟩
def lr(s:Int)(w:Str)(d t a b:Int):Int:=(f6 w a b+d) % s
def lc(s:Int)(w:Str)(d t a b:Int):Int:=(e9 w a b+t) % s
def bd(n:Int)(w:Str)(d t:Int):Int:=f6 (L4 w) (-d) (-t) % n
def bt(n:Int)(w:Str)(d t:Int):Int:=e9 (L4 w) (-d) (-t) % n
theorem a0m{n:Int}(hn:0<n)(w:Str)(d t a b:Int):(0<=lr n w d t a b/\lr n w d t a b<n)/\0<=lc n w d t a b/\lc n w d t a b<n:=
 ⟨⟨Int.emod_nonneg _ (by lia),Int.emod_lt_of_pos _ (by lia)⟩,Int.emod_nonneg _ (by lia),Int.emod_lt_of_pos _ (by lia)⟩
theorem b6A{w:Str}(hw:w∈m6)(x y d t:Int):f6 w x y+f6 w (-d) (-t)=f6 w (x - d) (y - t):=by
 rw [<-N6 hw];congr 1
theorem b44{w:Str}(hw:w∈m6)(x y d t:Int):e9 w x y+e9 w (-d) (-t)=e9 w (x - d) (y - t):=by
 rw [<-M9 hw];congr 1
theorem b4Y{n:Int}(hn:0<n){w:Str}(hw:w∈m6)(d t:Int){a b:Int}(ha:0<=a/\a<n)(hb:0<=b/\b<n):
 lr n (L4 w) (bd n w d t) (bt n w d t) (lr n w d t a b) (lc n w d t a b)=a/\lc n (L4 w) (bd n w d t) (bt n w d t) (lr n w d t a b) (lc n w d t a b)=b:=by
 have h1:=(a6C hw).1
 unfold lr lc bd bt
 constructor
 ·rw [Int.add_emod_emod,a0q h1,b6A h1,Int.add_sub_cancel,Int.add_sub_cancel,(a1G hw a b).1,Int.emod_eq_of_lt ha.1 ha.2]
 ·rw [Int.add_emod_emod,a0d h1,b44 h1,Int.add_sub_cancel,Int.add_sub_cancel,(a1G hw a b).2,Int.emod_eq_of_lt hb.1 hb.2]
theorem W7{w:Str}(hw:w∈m6)(x y:Int):f6 w (f6 (L4 w) x y) (e9 (L4 w) x y)=x/\e9 w (f6 (L4 w) x y) (e9 (L4 w) x y)=y:=by
 obtain⟨h1,h2⟩:=a6C hw
 have:=a1G h1 x y
 rw [h2] at this
 exact this
theorem b5N{n:Int}(hn:0<n){w:Str}(hw:w∈m6)(d t:Int){a b:Int}(ha:0<=a/\a<n)(hb:0<=b/\b<n):
 lr n w d t (lr n (L4 w) (bd n w d t) (bt n w d t) a b) (lc n (L4 w) (bd n w d t) (bt n w d t) a b)=a/\lc n w d t (lr n (L4 w) (bd n w d t) (bt n w d t) a b) (lc n (L4 w) (bd n w d t) (bt n w d t) a b)=b:=by
 have h1:=(a6C hw).1
 have e1:∀x y e:Int,(f6 w ((x+bd n w d t) % n) ((y+bt n w d t) % n)+e) % n=(f6 w x y+ - d+e) % n:=fun x y e=>by
  rw [a0q hw,N6 hw,Int.add_assoc,<-Int.add_emod_emod,show(f6 w (bd n w d t) (bt n w d t)+e) % n=(-d+e) % n from ?_,Int.add_emod_emod,Int.add_assoc]
  unfold bd bt
  rw [a0q hw,(W7 hw _ _).1]
 have e2:∀x y e:Int,(e9 w ((x+bd n w d t) % n) ((y+bt n w d t) % n)+e) % n=(e9 w x y+ - t+e) % n:=fun x y e=>by
  rw [a0d hw,M9 hw,Int.add_assoc,<-Int.add_emod_emod,show(e9 w (bd n w d t) (bt n w d t)+e) % n=(-t+e) % n from ?_,Int.add_emod_emod,Int.add_assoc]
  unfold bd bt
  rw [a0d hw,(W7 hw _ _).2]
 unfold lr lc
 rw [e1,e2,(W7 hw _ _).1,(W7 hw _ _).2,Int.add_assoc,Int.add_assoc,Int.add_left_neg,Int.add_left_neg,Int.add_zero,Int.add_zero,Int.emod_eq_of_lt ha.1 ha.2,Int.emod_eq_of_lt hb.1 hb.2]
 exact⟨rfl,rfl⟩
def z7(n:Nat)(f:Nat->Nat->Nat):PV:=b2M ((AL n).map fun r=>(AL n).map fun c=>f r c)
theorem O0(n:Nat)(f:Nat->Nat->Nat):Y8 (.val (z7 n f))=some (.val (.int n)):=by
 show Y8 (.val (.tuple _))=_
 rw [b5B,Ae,Ae,Aq]
theorem a2r{n:Nat}{f:Nat->Nat->Nat}{i:Int}(h0:0<=i)(h1:i<n):v6 (.val (z7 n f)) (.val (.int i))=some (.val (row ((AL n).map fun c=>f i.toNat c))):=by
 refine a3N ?_
 rw [a4r h0,Au,Au,List.getElem?_range (by lia)]
 rfl
theorem a4V{n:Nat}{g:Nat->Nat}{j:Int}(h0:0<=j)(h1:j<n)(hn:n<=16777216):v6 (.val (row ((AL n).map g))) (.val (.int j))=some (.val (row [g j.toNat])):=by
 refine b5A (by rw [Ae,Aq];exact hn) ?_
 rw [a4r h0,Au,List.getElem?_range (by lia)]
 rfl
theorem tn(k:Nat):((k:Nat):Int).toNat=k:=by lia
theorem a9F{w:Str}(hw:w∈m6){s:Int}(hs:0<s)(d r a b:Int):a8w [.int s,.tuple [.str w,.int d,.int r],.tuple [.int a,.int b]]=some (.val (.tuple [.int (lr s w d r a b),.int (lc s w d r a b)])):=b9t hw hs d r a b
theorem b2z{a:Str}(ha:a∈m6){s:Int}(hs:0<s)(d r:Int):R5 [.int s,T3 a d r]=some (.val (T3 (L4 a) (bd s a d r) (bt s a d r))):=by
 unfold R5 a3F bd bt
 simp (disch:=omega) only [u7,o0,t6,x6,j0,g9,b8,d0,b7,a9,b5,o8,g7,j3,u6,f8,l8,c8,g0,f7,h9,a16,a7s,AF,AI,AS,AX,AQ,Ab,AZ,AU,AV,AR,AY,↓reduceIte,sz,Nat.reduceAdd,Ad,b1u ha,a5A (a6C ha).1]
theorem b5Y{n:Nat}(hn:0<n)(x:Int):0<=x % n/\x % n<n:=⟨Int.emod_nonneg _ (by lia),Int.emod_lt_of_pos _ (by lia)⟩
theorem b0U{n:Nat}(hn:0<n)(hn8:n<=100)(f:Nat->Nat->Nat)(r c:Int):a64 [z7 n f,.int r,.int c]=some (.val (row [f (r % n).toNat (c % n).toNat])):=by
 obtain⟨a1,a2⟩:=b5Y hn r
 obtain⟨b1,b2⟩:=b5Y hn c
 unfold a64 b4V
 simp (disch:=omega) only [u7,j0,A1,b8,d0,j3,u6,f8,l8,c8,g0,f7,h9,AF,AI,AS,AX,AQ,Ab,AZ,AU,AV,O0,a2r a1 a2,a4V b1 b2 (by lia)]
def mvd(n:Nat)(f:Nat->Nat->Nat)(w:Str)(d t:Int)(r c:Nat):Nat:=f (lr n (L4 w) (bd n w d t) (bt n w d t) r c).toNat (lc n (L4 w) (bd n w d t) (bt n w d t) r c).toNat
theorem a4M{n:Nat}(hn:0<n)(f:Nat->Nat->Nat){w:Str}(hw:w∈m6)(d t:Int){r c:Nat}(hr:r<n)(hc:c<n):mvd n f w d t (lr n w d t r c).toNat (lc n w d t r c).toNat=f r c:=by
 obtain⟨⟨b1,b2⟩,b3,b4⟩:=a0m (n:=(n:Int)) (by lia) w d t r c
 have h:=b4Y (n:=(n:Int)) (by lia) hw d t (a:=r) (b:=c) (by lia) (by lia)
 unfold mvd
 rw [Int.toNat_of_nonneg b1,Int.toNat_of_nonneg b3,h.1,h.2]
 simp
theorem a4I{n:Nat}(hn:0<n){w:Str}(hw:w∈m6)(d t:Int){r c:Nat}(hr:r<n)(hc:c<n):∃a b:Nat,a<n/\b<n/\lr n w d t a b=r/\lc n w d t a b=c:=by
 obtain⟨⟨b1,b2⟩,b3,b4⟩:=a0m (n:=(n:Int)) (by lia) (L4 w) (bd n w d t) (bt n w d t) r c
 have h:=b5N (n:=(n:Int)) (by lia) hw d t (a:=r) (b:=c) (by lia) (by lia)
 refine⟨(lr n (L4 w) (bd n w d t) (bt n w d t) r c).toNat,(lc n (L4 w) (bd n w d t) (bt n w d t) r c).toNat,by lia,by lia, ?_, ?_⟩
 ·rw [Int.toNat_of_nonneg b1,Int.toNat_of_nonneg b3];exact h.1
 ·rw [Int.toNat_of_nonneg b1,Int.toNat_of_nonneg b3];exact h.2
def uaC(n:Nat)(f:Nat->Nat->Nat)(w:Str)(d t:Int)(r c:Nat):Option i7:=if(f r c==mvd n f w d t r c)=true then none else some (.val (.tuple [.int (r:Nat),.int (c:Nat)]))
def uaR(n:Nat)(f:Nat->Nat->Nat)(w:Str)(d t:Int):Option i7:=(AL n).findSome? fun r=>(AL n).findSome? fun c=>uaC n f w d t r c
theorem a5W(a b:Nat):([a]==[b])=(a==b):=by
 rw [Bool.eq_iff_iff];simp
theorem b0b{n:Nat}(hn:0<n)(hn8:n<=100)(f:Nat->Nat->Nat){w:Str}(hw:w∈m6)(d t:Int):a0k [z7 n f,T3 w d t]=some ((uaR n f w d t).getD (.val .none)):=by
 have hb:=(a6C hw).1
 have inner:∀(r:Nat),r<n->∀(q5 q6:Option i7),((AL n).findSome? (uaC n f w d t r)=none/\∃ρ',B2 G0 (g5 5) (P5 0 n) [some (.val (z7 n f)),some (.val (T3 w d t)),some (.val (.int n)),some (.val (T3 (L4 w) (bd n w d t) (bt n w d t))),some (.val (.int (r:Nat))),q5,q6]=some (.nx ρ')/\∃q4 q5 q6:Option i7,ρ'=[some (.val (z7 n f)),some (.val (T3 w d t)),some (.val (.int n)),some (.val (T3 (L4 w) (bd n w d t) (bt n w d t))),q4,q5,q6])\/(∃x,(AL n).findSome? (uaC n f w d t r)=some x/\B2 G0 (g5 5) (P5 0 n) [some (.val (z7 n f)),some (.val (T3 w d t)),some (.val (.int n)),some (.val (T3 (L4 w) (bd n w d t) (bt n w d t))),some (.val (.int (r:Nat))),q5,q6]=some (.rt x)):=by
  intro r hr q5 q6
  have st:∀c<n,f ((lr n (L4 w) (bd n w d t) (bt n w d t) r c) % n).toNat ((lc n (L4 w) (bd n w d t) (bt n w d t) r c) % n).toNat=mvd n f w d t r c:=by
   intro c hc
   obtain⟨⟨b1,b2⟩,b3,b4⟩:=a0m (n:=(n:Int)) (by lia) (L4 w) (bd n w d t) (bt n w d t) r c
   rw [Int.emod_eq_of_lt b1 b2,Int.emod_eq_of_lt b3 b4]
   rfl
  have kk:∀c<n,f (((r:Nat):Int) % n).toNat (((c:Nat):Int) % n).toNat=f r c:=by
   intro c hc
   rw [Int.emod_eq_of_lt (by lia) (by lia),Int.emod_eq_of_lt (by lia) (by lia),tn,tn]
  rcases a2t (body:=G0) (tg:=g5 5) (I:=fun ρ=>∃q5 q6:Option i7,ρ=[some (.val (z7 n f)),some (.val (T3 w d t)),some (.val (.int n)),some (.val (T3 (L4 w) (bd n w d t) (bt n w d t))),some (.val (.int (r:Nat))),q5,q6]) (f:=uaC n f w d t r) (n:=n) (ρ:=[some (.val (z7 n f)),some (.val (T3 w d t)),some (.val (.int n)),some (.val (T3 (L4 w) (bd n w d t) (bt n w d t))),some (.val (.int (r:Nat))),q5,q6])
   (by
    rintro c hc ρ ⟨q5,q6,rfl⟩ hf
    have hq:(f r c==mvd n f w d t r c)=true:=by
     unfold uaC at hf
     split at hf
     ·assumption
     ·cases hf
    apply a41 rfl
    ·unfold G0
     simp (disch:=omega) only [o0,t6,j0,g9,b8,d0,b7,a9,b5,o8,g7,j3,u6,c8,g0,g8,z8,k9,j4,l7,AF,AU,AV,AR,AY,↓reduceIte,Bool.not_true,sz,Nat.reduceAdd,Ad,a9F hb (s:=(n:Int)) (by lia),b0U hn hn8,st c hc,kk c hc,a55,a5W,hq]
     try rfl
    ·exact⟨_,_,rfl⟩)
   (by
    rintro c hc ρ ⟨q5,q6,rfl⟩ x hf
    have hq:(f r c==mvd n f w d t r c)=false/\x= .val (.tuple [.int (r:Nat),.int (c:Nat)]):=by
     unfold uaC at hf
     split at hf
     ·cases hf
     ·rename_i h;cases hf;exact⟨by simpa using h,rfl⟩
    obtain⟨hq,rfl⟩:=hq
    refine⟨_,rfl, ?_⟩
    unfold G0
    simp (disch:=omega) only [o0,t6,j0,g9,b8,d0,b7,a9,b5,o8,g7,j3,u6,f8,l8,c8,g0,g8,A6,j4,l7,AF,AU,AV,AR,AY,↓reduceIte,Bool.not_false,sz,Nat.reduceAdd,Ad,a9F hb (s:=(n:Int)) (by lia),b0U hn hn8,st c hc,kk c hc,a55,a5W,hq]
    try rfl) ⟨q5,q6,rfl⟩ with⟨h1,ρ',h2,a,b,rfl⟩|⟨x,h1,h2⟩
  ·exact .inl ⟨h1,_,h2,_,_,_,rfl⟩
  ·exact .inr ⟨x,h1,h2⟩
 have outer:=a2t (body:=S0) (tg:=g5 4) (I:=fun ρ=>∃q4 q5 q6:Option i7,ρ=[some (.val (z7 n f)),some (.val (T3 w d t)),some (.val (.int n)),some (.val (T3 (L4 w) (bd n w d t) (bt n w d t))),q4,q5,q6]) (f:=fun r=>(AL n).findSome? (uaC n f w d t r)) (n:=n) (ρ:=[some (.val (z7 n f)),some (.val (T3 w d t)),some (.val (.int n)),some (.val (T3 (L4 w) (bd n w d t) (bt n w d t))),none,none,none])
  (by
   rintro r hr ρ ⟨q4,q5,q6,rfl⟩ hf
   rcases inner r hr q5 q6 with⟨_,ρ',h2,h3⟩|⟨x,h1,_⟩
   ·apply a41 rfl
    ·unfold S0
     simp (disch:=omega) only [b8,d0,b7,a9,b5,p9,v9,B8,AF,AU,AV]
     exact h2
    ·exact h3
   ·rw [h1] at hf;cases hf)
  (by
   rintro r hr ρ ⟨q4,q5,q6,rfl⟩ x hf
   rcases inner r hr q5 q6 with⟨h1,_⟩|⟨y,h1,h2⟩
   ·rw [h1] at hf;cases hf
   ·rw [h1] at hf;cases hf
    refine⟨_,rfl, ?_⟩
    unfold S0
    simp (disch:=omega) only [b8,d0,b7,a9,b5,p9,v9,B8,AF,AU,AV]
    exact h2) ⟨none,none,none,rfl⟩
 unfold a0k a5l
 rcases outer with⟨h1,ρ',h2,a,b,c,rfl⟩|⟨x,h1,h2⟩
 ·rw [show uaR n f w d t=none from h1]
  simp (disch:=omega) only [A1,g9,b8,d0,b7,a9,b5,g7,j3,u6,f8,l8,c8,g0,f7,h9,p9,v9,B8,AF,AI,AS,AX,AQ,Ab,AZ,AU,AV,O0,b2z hw (s:=(n:Int)) (by lia),h2]
  try rfl
 ·rw [show uaR n f w d t=some x from h1]
  simp (disch:=omega) only [A1,b8,d0,b7,a9,b5,g7,j3,u6,c8,g0,u5,f7,h9,p9,v9,B8,AF,AI,AS,AX,AQ,Ab,AZ,AU,AV,O0,b2z hw (s:=(n:Int)) (by lia),h2]
  try rfl
theorem b4G{n:Nat}{f:Nat->Nat->Nat}{w:Str}{d t:Int}{x:i7}(h:uaR n f w d t=some x):∃r c:Nat,x= .val (.tuple [.int (r:Nat),.int (c:Nat)])/\r<n/\c<n/\(f r c==mvd n f w d t r c)=false:=by
 unfold uaR at h
 obtain⟨r,hr,h⟩:=List.exists_of_findSome?_eq_some h
 obtain⟨c,hc,h⟩:=List.exists_of_findSome?_eq_some h
 unfold uaC at h
 split at h
 ·cases h
 ·rename_i hq
  cases h
  exact⟨r,c,rfl,List.mem_range.mp hr,List.mem_range.mp hc,by simpa using hq⟩
theorem a7P{n:Nat}{f:Nat->Nat->Nat}{w:Str}{d t:Int}:uaR n f w d t=none↔∀r c:Nat,r<n->c<n->f r c=mvd n f w d t r c:=by
 unfold uaR
 constructor
 ·intro h r c hr hc
  have h1:=List.findSome?_eq_none_iff.mp h r (List.mem_range.mpr hr)
  have h2:=List.findSome?_eq_none_iff.mp h1 c (List.mem_range.mpr hc)
  unfold uaC at h2
  split at h2
  ·rename_i hq;simpa using hq
  ·cases h2
 ·intro h
  refine List.findSome?_eq_none_iff.mpr fun r hr=>List.findSome?_eq_none_iff.mpr fun c hc=> ?_
  unfold uaC
  rw [if_pos (by rw [beq_iff_eq];exact h r c (List.mem_range.mp hr) (List.mem_range.mp hc))]
theorem b4j{n:Nat}(hn:0<n)(hn8:n<=100)(f:Nat->Nat->Nat){w:Str}(hw:w∈m6)(d t:Int):a1V [z7 n f,T3 w d t]=some (.val (.bool (uaR n f w d t).isNone)):=by
 unfold a1V b0r
 simp (disch:=omega) only [j0,g9,b8,d0,b7,a9,b5,g7,f8,f7,AF,AI,AS,AQ,Af,b0b hn hn8 f hw]
 cases h:uaR n f w d t with
 |none=>rfl
 |some x=>
  obtain⟨r,c,rfl,_⟩:=b4G h
  rfl
def mix(c k:Int):Int:=(c % 1000003+k*k+1)*48271 % 2147483647
theorem c0N(c k:Int):0<=mix c k/\mix c k<2147483647:=by
 unfold mix
 exact⟨Int.emod_nonneg _ (by decide),Int.emod_lt_of_pos _ (by decide)⟩
theorem a18{c k:Int}(hk:0<=k/\k<100000):J8 [.int c,.int k]=some (.val (.int (mix c k))):=by
 unfold J8 a5d mix
 simp (disch:=omega) only [y4,L7,b7p,u7,j0,g9,b8,d0,f8,l8,f7,h9,AF,AI,AS,AQ,Af]
theorem Q4{w:Str}(a b:Int){j:Nat}{p:PV}(h1:b37 m6 w=some j)(h2:[PyData.tuple [.int a,.int b],.tuple [.int b,.int (-a)],.tuple [.int (-a),.int (-b)],.tuple [.int (-b),.int a],.tuple [.int a,.int (-b)],.tuple [.int (-a),.int b],.tuple [.int b,.int a],.tuple [.int (-b),.int (-a)]][j]?=some p):M2 [.str w,.int a,.int b]=some (.val p):=by
 have h:=O2 h1 h2
 unfold m6 at h
 unfold M2 a5g
 simp (disch:=omega) only [b8,d0,b7,a9,b5,o8,f8,l8,f7,h9,a16,a7s,AF,Ao,AI,AS,AQ,Af,AR,AY,↓reduceIte,sz,Nat.reduceAdd,Ad,a15,b17,h]
theorem a0Z{w:Str}(hw:w∈m6)(a b:Int):M2 [.str w,.int a,.int b]=some (.val (.tuple [.int (f6 w a b),.int (e9 w a b)])):=by
 rcases D6 hw with rfl|rfl|rfl|rfl|rfl|rfl|rfl|rfl
 ·exact Q4 a b (j:=0) (by decide+kernel) rfl
 ·exact Q4 a b (j:=1) (by decide+kernel) rfl
 ·exact Q4 a b (j:=2) (by decide+kernel) rfl
 ·exact Q4 a b (j:=3) (by decide+kernel) rfl
 ·exact Q4 a b (j:=4) (by decide+kernel) rfl
 ·exact Q4 a b (j:=5) (by decide+kernel) rfl
 ·exact Q4 a b (j:=6) (by decide+kernel) rfl
 ·exact Q4 a b (j:=7) (by decide+kernel) rfl
theorem b4z{w:Str}(hw:w∈m6){s:Int}(hs:0<s)(d r a b:Int):a0g [.int s,.tuple [.str w,.int d,.int r],.tuple [.int a,.int b]]=some (.val (.tuple [.int (lr s w d r a b),.int (lc s w d r a b)])):=by
 unfold a0g a5f lr lc
 simp (disch:=omega) only [y4,u7,o0,t6,x6,j0,g9,b8,d0,b7,a9,b5,o8,g7,f8,l8,c8,g0,f7,h9,B7,a2m,AF,AI,AS,AX,AQ,Ab,AZ,AU,AV,AR,AY,↓reduceIte,sz,Nat.reduceAdd,Ad,a0Z hw a b]
theorem b8w(N:Int):∃w∈m6,v6 (.own c10) (.val (.int (N % 8)))=some (.val (.str w)):=by
 have h0:0<=N % 8:=by lia
 have h1:N % 8<8:=by lia
 generalize N % 8=k at h0 h1 ⊢
 have h:k=0\/k=1\/k=2\/k=3\/k=4\/k=5\/k=6\/k=7:=by lia
 rcases h with rfl|rfl|rfl|rfl|rfl|rfl|rfl|rfl
 ·exact⟨_,by decide+kernel,rfl⟩
 ·exact⟨_,by decide+kernel,rfl⟩
 ·exact⟨_,by decide+kernel,rfl⟩
 ·exact⟨_,by decide+kernel,rfl⟩
 ·exact⟨_,by decide+kernel,rfl⟩
 ·exact⟨_,by decide+kernel,rfl⟩
 ·exact⟨_,by decide+kernel,rfl⟩
 ·exact⟨_,by decide+kernel,rfl⟩
theorem b3l{n:Int}(N:Int)(hn:0<n):∃w∈m6,M1 [.int n,.int N]=some (.val (T3 w (N / 8 % n) (N / 64 % n))):=by
 obtain⟨w,hw,e⟩:=b8w N
 refine⟨w,hw, ?_⟩
 unfold M1 a1F
 simp (disch:=omega) only [u7,a1T,j0,g9,b8,d0,b7,a9,b5,o8,x8,j3,u6,f8,l8,c8,g0,f7,h9,AF,AI,AS,AX,AQ,Ab,AZ,AU,AV,AR,AY,↓reduceIte,sz,Nat.reduceAdd,Ad,e]
theorem a0P{ns:List Int}{k:Int}(h0:0<=k):∃c:Int,y9 [.list (ns.map .int),.int k]=some (.val (.int c)):=by
 unfold y9 a2L
 by_cases h:k<ns.length
 ·have hk:k.toNat<ns.length:=by lia
  have e:L2.atI (ns.map PyData.int) k=some (.int ns[k.toNat]):=by
   rw [a4r h0,Au,BF hk];rfl
  refine⟨ns[k.toNat], ?_⟩
  simp (disch:=omega) only [a9v,F8,j0,A1,b8,d0,c8,g8,f7,j4,l7,AF,AI,AS,AQ,Af,Ae,b0N e]
  simp only [h,decide_true]
  simp (disch:=omega) only [j0,b8,d0,f8,l8,u5,A6,h9,AF,b0N e]
 ·refine⟨0, ?_⟩
  simp (disch:=omega) only [a9v,F8,j0,A1,b8,d0,c8,g8,f7,j4,l7,AF,AI,AS,AQ,Af,Ae]
  simp only [h,decide_false]
  simp (disch:=omega) only [g9,f8,l8,g0,z8,k9,h9,AF]
def unv(n:Nat)(D:List (List m5×PV)):Nat:=(a4T n).countP fun p=>(B0 D [.inl (p.1:Nat),.inl (p.2:Nat)]).isNone
def a9c(n:Nat)(p:PV):Prop:=∃a b:Nat,a<n/\b<n/\p= .tuple [.int (a:Nat),.int (b:Nat)]
structure RI(n:Nat)(D:List (List m5×PV))(W:List PV):Prop where
 val:∀k v,B0 D k=some v->a9c n v
 wai:∀p∈W,a9c n p
 len:D.length+unv n D<=n*n
def Gr(D D':List (List m5×PV)):Prop:=∀k,(B0 D k).isSome=true->(B0 D' k).isSome=true
theorem Gr.refl(D:List (List m5×PV)):Gr D D:=fun _ h=>h
theorem Gr.trans{A B C:List (List m5×PV)}(h:Gr A B)(g:Gr B C):Gr A C:=fun k x=>g k (h k x)
theorem Gr.put(D:List (List m5×PV))(k:List m5)(v:PV):Gr D (a0A D k v):=fun k' h=>by
 rw [a2n];split
 ·rfl
 ·exact h
theorem b0c{n:Nat}{D:List (List m5×PV)}{a b:Nat}(ha:a<n)(hb:b<n)(v:PV)(h:(B0 D [.inl (a:Nat),.inl (b:Nat)]).isSome=false):unv n (a0A D [.inl (a:Nat),.inl (b:Nat)] v)<unv n D:=by
 unfold unv
 refine a6F (fun p _ hp=> ?_) ⟨(a,b),b2d.mpr ⟨ha,hb⟩, ?_, ?_⟩
 ·rw [a2n] at hp
  split at hp
  ·cases hp
  ·exact hp
 ·cases hv:B0 D [.inl (a:Nat),.inl (b:Nat)] with
  |none=>rfl
  |some x=>rw [hv] at h;cases h
 ·rw [a2n,if_pos rfl];rfl
theorem RI.put{n:Nat}{D:List (List m5×PV)}{W W':List PV}(R:RI n D W){a b:Nat}(ha:a<n)(hb:b<n){v:PV}(hv:a9c n v)(h:(B0 D [.inl (a:Nat),.inl (b:Nat)]).isSome=false)(hw:∀p∈W',a9c n p):RI n (a0A D [.inl (a:Nat),.inl (b:Nat)] v) W':=by
 refine⟨fun k x hx=> ?_,hw, ?_⟩
 ·rw [a2n] at hx
  split at hx
  ·cases hx;exact hv
  ·exact R.val k x hx
 ·have h1:=b0c ha hb v h
  have h2:=b6s D [.inl (a:Nat),.inl (b:Nat)] v
  have h3:=R.len
  lia
theorem b7u{n:Nat}{p:PV}(h:a9c n p):u0 p 49=true:=by
 obtain⟨a,b,_,_,rfl⟩:=h
 rfl
theorem b8S{x:Int}{n:Nat}(h:0<=x/\x<n):∃a:Nat,a<n/\x=(a:Nat):=⟨x.toNat,by lia,by lia⟩
theorem b8f{n:Nat}(hn:0<n)(hn8:n<=8){D:List (List m5×PV)}{W:List PV}(R:RI n D W){r c:Nat}(hr:r<n)(hc:c<n){x y:Nat}(hx:x<n)(hy:y<n){w:Str}(hw:w∈m6)(d t:Int)(s1 q8:Option i7)(hl:W.length+unv n D<=64):
 ∃(D':List (List m5×PV)) (W':List PV) (q8':Option i7),M3 [some (.val (.int n)),s1,some (.ow (.dct D)),some (.val (.int (r:Nat))),some (.val (.int (c:Nat))),some (.own W),some (.val (.tuple [.int (x:Nat),.int (y:Nat)])),some (.val (T3 w d t)),q8]
  =some (.nx [some (.val (.int n)),s1,some (.ow (.dct D')),some (.val (.int (r:Nat))),some (.val (.int (c:Nat))),some (.own W'),some (.val (.tuple [.int (x:Nat),.int (y:Nat)])),some (.val (T3 w d t)),q8'])
  /\RI n D' W'/\Gr D D'/\W'.length+unv n D'<=W.length+unv n D:=by
 obtain⟨b1,b2⟩:=a0m (n:=(n:Int)) (by lia) w d t x y
 obtain⟨a,ha,ea⟩:=b8S b1
 obtain⟨b,hb,eb⟩:=b8S b2
 have pe:=b4z hw (s:=(n:Int)) (by lia) d t x y
 rw [ea,eb] at pe
 have hnn:n*n<=8*8:=Nat.mul_le_mul hn8 hn8
 have hlen:=R.len
 cases hv:(B0 D [.inl (a:Nat),.inl (b:Nat)]).isSome with
 |true=>
  refine⟨D,W,some (.val (.tuple [.int (a:Nat),.int (b:Nat)])), ?_,R,Gr.refl D,Aa _⟩
  unfold M3
  simp (disch:=omega) only [b8,d0,b7,a9,b5,g7,j3,u6,c8,g0,g8,z8,k9,j4,l7,AF,AU,AV,↓reduceIte,Bool.not_true,pe,a2x,a57,a4z,a6K,hv]
 |false=>
  have hu:=b0c ha hb (.tuple [.int (r:Nat),.int (c:Nat)]) hv
  refine⟨a0A D [.inl (a:Nat),.inl (b:Nat)] (.tuple [.int (r:Nat),.int (c:Nat)]),W++[.tuple [.int (a:Nat),.int (b:Nat)]],some (.val (.tuple [.int (a:Nat),.int (b:Nat)])), ?_,R.put ha hb ⟨r,c,hr,hc,rfl⟩ hv fun p hp=> ?_,Gr.put _ _ _,by rw [Ah,List.length_singleton];lia⟩
  ·unfold M3
   simp (disch:=omega) only [b8,d0,b7,a9,b5,o8,g7,j3,u6,c8,g0,g8,A6,j4,l7,AF,AU,AV,AR,AY,↓reduceIte,Bool.not_false,sz,Nat.reduceAdd,Ad,pe,a2x,a57,a4z,a6K,hv,a5t]
   rw [a6M rfl (by lia)]
   simp (disch:=omega) only [g0,AF,AU,AV]
   rw [Q0 rfl rfl rfl (by lia)]
   rfl
  ·rcases BA.mp hp with h|h
   ·exact R.wai p h
   ·have:p= .tuple [.int (a:Nat),.int (b:Nat)]:=by simpa using h
    rw [this];exact⟨a,b,ha,hb,rfl⟩
def Mvs(ws:List PV):Prop:=∀p∈ws,∃w∈m6,∃d t:Int,p=T3 w d t
theorem b8g{n:Nat}(hn:0<n)(hn8:n<=8){ws:List PV}(hws:Mvs ws){D:List (List m5×PV)}{W:List PV}{p:PV}(R:RI n D (W++[p])){r c:Nat}(hr:r<n)(hc:c<n)(q6 q7 q8:Option i7)(hl:W.length+unv n D<=64):
 ∃(D':List (List m5×PV)) (W':List PV) (q6' q7' q8':Option i7),R7 [some (.val (.int n)),some (.val (.list ws)),some (.ow (.dct D)),some (.val (.int (r:Nat))),some (.val (.int (c:Nat))),some (.own (W++[p])),q6,q7,q8]
  =some (.nx [some (.val (.int n)),some (.val (.list ws)),some (.ow (.dct D')),some (.val (.int (r:Nat))),some (.val (.int (c:Nat))),some (.own W'),q6',q7',q8'])
  /\RI n D' W'/\Gr D D'/\W'.length+unv n D'<=W.length+unv n D:=by
 obtain⟨x,y,hx,hy,rfl⟩:=R.wai p (by simp)
 have R0:RI n D W:=⟨R.val,fun q hq=>R.wai q (BH _ hq),R.len⟩
 obtain⟨ρ1,e1,D',W',q7',q8',rfl,R',g',l'⟩:=A5 (body:=M3) (tg:=g5 7) (fun _ ρ=>∃(D':List (List m5×PV)) (W':List PV) (q7 q8:Option i7),ρ=[some (.val (.int n)),some (.val (.list ws)),some (.ow (.dct D')),some (.val (.int (r:Nat))),some (.val (.int (c:Nat))),some (.own W'),some (.val (.tuple [.int (x:Nat),.int (y:Nat)])),q7,q8]/\RI n D' W'/\Gr D D'/\W'.length+unv n D'<=W.length+unv n D)
  (ps:=ws) (ρ:=[some (.val (.int n)),some (.val (.list ws)),some (.ow (.dct D)),some (.val (.int (r:Nat))),some (.val (.int (c:Nat))),some (.own W),some (.val (.tuple [.int (x:Nat),.int (y:Nat)])),q7,q8])
  (by
   rintro i p hp ρ ⟨D1,W1,q7,q8,rfl,R1,g1,l1⟩
   obtain⟨w,hw,d,t,rfl⟩:=hws p (BB hp)
   obtain⟨D2,W2,q8',e2,R2,g2,l2⟩:=b8f hn hn8 R1 hr hc hx hy hw d t (some (.val (.list ws))) q8 (by lia)
   exact K5 rfl e2 ⟨D2,W2,_,_,rfl,R2,g1.trans g2,by lia⟩) ⟨D,W,q7,q8,rfl,R0,Gr.refl D,Aa _⟩
 refine⟨D',W',some (.val (.tuple [.int (x:Nat),.int (y:Nat)])),q7',q8', ?_,R',g',l'⟩
 unfold R7
 rw [c8,b5U rfl]
 simp (disch:=omega) only [b8,d0,b5,g0,p9,AF,AU,AV,P4,B4,e1]
theorem b2E{n:Nat}{W:List PV}(h:∀p∈W,a9c n p)(s0 s1 s2 s3 s4 s6 s7 s8:Option i7):N9 (m2 gNe (a8 5) (S4 c7)) [s0,s1,s2,s3,s4,some (.ow (.lst W)),s6,s7,s8]=some (!W.isEmpty):=by
 simp (disch:=omega) only [j0,d0,b7,x8,j4,l7,AF,AY,↓reduceIte,sz,Ad,b7F,b7q fun p hp=>b7u (h p hp)]
theorem b8h{n:Nat}(hn:0<n)(hn8:n<=8){ws:List PV}(hws:Mvs ws){D:List (List m5×PV)}(R:RI n D []){r c:Nat}(hr:r<n)(hc:c<n)(q5 q6 q7 q8:Option i7):
 ∃(D':List (List m5×PV)) (q5' q6' q7' q8':Option i7),M4 [some (.val (.int n)),some (.val (.list ws)),some (.ow (.dct D)),some (.val (.int (r:Nat))),some (.val (.int (c:Nat))),q5,q6,q7,q8]
  =some (.nx [some (.val (.int n)),some (.val (.list ws)),some (.ow (.dct D')),some (.val (.int (r:Nat))),some (.val (.int (c:Nat))),q5',q6',q7',q8'])
  /\RI n D' []/\Gr D D'/\(B0 D' [.inl (r:Nat),.inl (c:Nat)]).isSome=true:=by
 have hnn:n*n<=8*8:=Nat.mul_le_mul hn8 hn8
 have hlen:=R.len
 cases hv:(B0 D [.inl (r:Nat),.inl (c:Nat)]).isSome with
 |true=>
  refine⟨D,q5,q6,q7,q8, ?_,R,Gr.refl D,hv⟩
  unfold M4
  simp (disch:=omega) only [b8,d0,b7,a9,b5,o8,g8,z8,k9,j4,l7,AF,AR,AY,↓reduceIte,Bool.not_true,sz,Nat.reduceAdd,Ad,a2x,a57,a4z,a6K,hv]
 |false=>
  have hu:=b0c hr hc (.tuple [.int (r:Nat),.int (c:Nat)]) hv
  have R1:RI n (a0A D [.inl (r:Nat),.inl (c:Nat)] (.tuple [.int (r:Nat),.int (c:Nat)])) [.tuple [.int (r:Nat),.int (c:Nat)]]:=R.put hr hc ⟨r,c,hr,hc,rfl⟩ hv fun p hp=>by
   have:p= .tuple [.int (r:Nat),.int (c:Nat)]:=by simpa using hp
   rw [this];exact⟨r,c,hr,hc,rfl⟩
  have hlen1:=R1.len
  obtain⟨ρ',m',e,⟨D2,W2,q6',q7',q8',rfl,R2,g2,l2⟩,hc2⟩:=a5K (c:=N9 (m2 gNe (a8 5) (S4 c7))) (body:=R7)
   (I:=fun m ρ=>∃(D2:List (List m5×PV)) (W2:List PV) (q6 q7 q8:Option i7),ρ=[some (.val (.int n)),some (.val (.list ws)),some (.ow (.dct D2)),some (.val (.int (r:Nat))),some (.val (.int (c:Nat))),some (.own W2),q6,q7,q8]/\RI n D2 W2/\Gr (a0A D [.inl (r:Nat),.inl (c:Nat)] (.tuple [.int (r:Nat),.int (c:Nat)])) D2/\W2.length+unv n D2<=m/\m<=65)
   (by
    rintro m ρ ⟨D2,W2,q6,q7,q8,rfl,R2,g2,l2,lm⟩
    rcases List.eq_nil_or_concat W2 with rfl|⟨W3,p,rfl⟩
    ·left
     rw [b2E (fun p hp=>R2.wai p hp)];rfl
    ·right
     rw [List.concat_eq_append] at*
     refine⟨by rw [b2E (fun p hp=>R2.wai p hp)];simp, ?_⟩
     rw [Ah,List.length_singleton] at l2
     obtain⟨D4,W4,a,b,c',e4,R4,g4,l4⟩:=b8g hn hn8 hws R2 hr hc q6 q7 q8 (by lia)
     exact⟨_,W4.length+unv n D4,e4,by lia,D4,W4,a,b,c',rfl,R4,g2.trans g4,Aa _,by lia⟩)
   100 (1+unv n (a0A D [.inl (r:Nat),.inl (c:Nat)] (.tuple [.int (r:Nat),.int (c:Nat)]))) [some (.val (.int n)),some (.val (.list ws)),some (.ow (.dct (a0A D [.inl (r:Nat),.inl (c:Nat)] (.tuple [.int (r:Nat),.int (c:Nat)])))),some (.val (.int (r:Nat))),some (.val (.int (c:Nat))),some (.own [.tuple [.int (r:Nat),.int (c:Nat)]]),q6,q7,q8] (by lia)
   ⟨_,_,q6,q7,q8,rfl,R1,Gr.refl _,by simp,by lia⟩
  rw [b2E (fun p hp=>R2.wai p hp)] at hc2
  have hW:W2=[]:=by
   cases W2 with
   |nil=>rfl
   |cons a b=>simp at hc2
  subst hW
  refine⟨D2,some (.own []),q6',q7',q8', ?_,R2,(Gr.put _ _ _).trans g2,g2 _ (by rw [a2n,if_pos rfl];rfl)⟩
  unfold M4
  simp (disch:=omega) only [b8,d0,b7,a9,b5,o8,c8,g8,A6,j4,l7,AF,AR,AY,↓reduceIte,Bool.not_false,sz,Nat.reduceAdd,Ad,a2x,a57,a4z,a6K,hv]
  rw [b7E (a:=((r:Nat):Int)) (b:=((c:Nat):Int)) (r:= .val (.tuple [.int (r:Nat),.int (c:Nat)])) (by simp (disch:=omega) only [b8,d0,b7,a9,b5,o8,AF,AR,AY,↓reduceIte,sz,Nat.reduceAdd,Ad]) rfl (by simp (disch:=omega) only [b8,d0,b7,a9,b5,AF]) rfl (by lia)]
  simp (disch:=omega) only [b8,d0,b7,a9,b5,o8,x8,j3,P0,c8,g0,AF,AU,AV,AR,AY,↓reduceIte,sz,Nat.reduceAdd,Ad]
  exact e
theorem RI.nil{n:Nat}:RI n [] []:=by
 refine⟨fun k v h=>(by simp [B0] at h),fun p h=>(by cases h), ?_⟩
 have e:unv n []=(a4T n).length:=by unfold unv;exact List.countP_eq_length.mpr fun _ _=>rfl
 rw [e,b19];simp
theorem b6x{n:Nat}(hn:0<n)(hn8:n<=8){ws:List PV}(hws:Mvs ws):∃D:List (List m5×PV),(∀r c:Nat,r<n->c<n->∃p,B0 D [.inl (r:Nat),.inl (c:Nat)]=some p/\a9c n p)/\a0h [.int n,.list ws]=some (.ow (.dct D)):=by
 obtain⟨ρ1,e1,D,R,hD,q3,q4,q5,q6,q7,q8,rfl⟩:=A5 (body:=Z4) (tg:=g5 3) (fun i ρ=>∃D:List (List m5×PV),RI n D []/\(∀r c:Nat,r<i->c<n->(B0 D [.inl (r:Nat),.inl (c:Nat)]).isSome=true)/\∃q3 q4 q5 q6 q7 q8:Option i7,ρ=[some (.val (.int n)),some (.val (.list ws)),some (.ow (.dct D)),q3,q4,q5,q6,q7,q8])
  (ps:=P5 0 n) (ρ:=[some (.val (.int n)),some (.val (.list ws)),some (.ow (.dct [])),none,none,none,none,none,none])
  (by
   rintro i p hp ρ ⟨D,R,hD,q3,q4,q5,q6,q7,q8,rfl⟩
   obtain⟨rfl,hi⟩:=S6 hp
   have hi':(0:Int)+(i:Int)=(i:Int):=by lia
   rw [hi'] at hi ⊢
   obtain⟨ρ2,e2,D2,R2,g2,hD2,q4',q5',q6',q7',q8',rfl⟩:=A5 (body:=M4) (tg:=g5 4) (fun j ρ=>∃D2:List (List m5×PV),RI n D2 []/\Gr D D2/\(∀c:Nat,c<j->(B0 D2 [.inl (i:Nat),.inl (c:Nat)]).isSome=true)/\∃q4 q5 q6 q7 q8:Option i7,ρ=[some (.val (.int n)),some (.val (.list ws)),some (.ow (.dct D2)),some (.val (.int (i:Nat))),q4,q5,q6,q7,q8])
    (ps:=P5 0 n) (ρ:=[some (.val (.int n)),some (.val (.list ws)),some (.ow (.dct D)),some (.val (.int (i:Nat))),q4,q5,q6,q7,q8])
    (by
     rintro j p hp ρ ⟨D2,R2,g2,hD2,q4,q5,q6,q7,q8,rfl⟩
     obtain⟨rfl,hj⟩:=S6 hp
     have hj':(0:Int)+(j:Int)=(j:Int):=by lia
     rw [hj'] at hj ⊢
     obtain⟨D3,a,b,c',d',e3,R3,g3,h3⟩:=b8h hn hn8 hws R2 (r:=i) (c:=j) (by lia) (by lia) q5 q6 q7 q8
     refine K5 rfl e3 ⟨D3,R3,g2.trans g3,fun c hc=> ?_,_,_,_,_,_,rfl⟩
     by_cases h:c<j
     ·exact g3 _ (hD2 c h)
     ·have:c=j:=by lia
      rw [this];exact h3) ⟨D,R,Gr.refl D,fun c h=>by lia,q4,q5,q6,q7,q8,rfl⟩
   rw [G9] at hD2
   apply K5 rfl
   ·unfold Z4
    simp (disch:=omega) only [b8,b7,a9,b5,p9,v9,B8,AF,AU,AV]
    exact e2
   ·refine⟨D2,R2,fun r c hr hc=> ?_,_,_,_,_,_,_,rfl⟩
    by_cases h:r<i
    ·exact g2 _ (hD r c h hc)
    ·have:r=i:=by lia
     rw [this];exact hD2 c (by lia)) ⟨[],RI.nil,fun r c h=>by lia,none,none,none,none,none,none,rfl⟩
 rw [G9] at hD
 refine⟨D,fun r c hr hc=> ?_, ?_⟩
 ·have h:=hD r c (by lia) hc
  obtain⟨p,hp⟩:=Option.isSome_iff_exists.mp h
  exact⟨p,hp,R.val _ _ hp⟩
 ·unfold a0h a5h
  simp (disch:=omega) only [b8,b7,a9,b5,j3,c8,g0,f7,h9,p9,v9,B8,AF,AI,AS,AX,AQ,Ab,AZ,AU,AV,a2y,a2z,a8K,a4q,e1]
abbrev dyL(x:Nat):Prop:=x∈[97,98,99,100,101,113,119,120,121,122]
theorem b6H(N:Int):∃ls:List Nat,(2<=ls.length/\ls.length<=3)/\(∀x∈ls,dyL x)/\v6 (.own [.str (AD "ab"),.str (AD "abc"),.str (AD "xy"),.str (AD "qwe"),.str (AD "za")]) (.val (.int (N % 5)))=some (.val (.str (S ls))):=by
 have h0:0<=N % 5:=by lia
 have h1:N % 5<5:=by lia
 generalize N % 5=k at h0 h1 ⊢
 have h:k=0\/k=1\/k=2\/k=3\/k=4:=by lia
 rcases h with rfl|rfl|rfl|rfl|rfl
 ·exact⟨[97,98],by decide,by decide,by rw [show AD "ab"=S [97,98] from by decide+kernel];rfl⟩
 ·exact⟨[97,98,99],by decide,by decide,by rw [show AD "abc"=S [97,98,99] from by decide+kernel];rfl⟩
 ·exact⟨[120,121],by decide,by decide,by rw [show AD "xy"=S [120,121] from by decide+kernel];rfl⟩
 ·exact⟨[113,119,101],by decide,by decide,by rw [show AD "qwe"=S [113,119,101] from by decide+kernel];rfl⟩
 ·exact⟨[122,97],by decide,by decide,by rw [show AD "za"=S [122,97] from by decide+kernel];rfl⟩
theorem b7A{l:List Nat}(h:l.length<=1000):Y8 (.val (.str (S l)))=some (.val (.int l.length)):=by
 show(if(S l).length<=AM then some (i7.val (.int (S l).length)) else none)=_
 rw [if_pos (by rw [a6j,sizeLine_eq];lia),a6j]
theorem b7B{ls:List Nat}(h:ls.length<=1000){i:Int}(h0:0<=i)(h1:i<ls.length):∃x∈ls,v6 (.val (.str (S ls))) (.val (.int i))=some (.val (row [x])):=by
 have hk:i.toNat<ls.length:=by lia
 exact⟨ls[i.toNat],List.getElem_mem _,b5A (by lia) (by rw [a4r h0,BF hk])⟩
theorem b4k{i:Nat}{nn:MS}{ρ:c6}{ps:List PV}(h:ρ[i]?=some (some (.ow (.lst ps)))):a7f i nn ρ=nn (ρ.set i (some (.val (.list ps)))):=by
 unfold a7f
 rw [h]
theorem b6Z{ns:List Int}{n:Nat}(hn:0<n)(hn8:n<=8){D:List (List m5×PV)}(hD:∀r c:Nat,r<n->c<n->∃p,B0 D [.inl (r:Nat),.inl (c:Nat)]=some p/\a9c n p){ls:List Nat}(hls:2<=ls.length/\ls.length<=3)(hl:∀x∈ls,dyL x)
 (s1 s3 s4 s7 q11 q12:Option i7) {r c:Nat} (hr:r<n) (hc:c<n) {l:List Nat} (hl2:l.length<1000):
 ∃x:Nat,(dyL x)/\∃q11' q12':Option i7,O8 [some (.val (.list (ns.map .int))),s1,some (.val (.int n)),s3,s4,some (.ow (.dct D)),some (.val (.str (S ls))),s7,some (.val (.int (r:Nat))),some (.val (.str (S l))),some (.val (.int (c:Nat))),q11,q12]
  =some (.nx [some (.val (.list (ns.map .int))),s1,some (.val (.int n)),s3,s4,some (.ow (.dct D)),some (.val (.str (S ls))),s7,some (.val (.int (r:Nat))),some (.val (.str (S (l++[x])))),some (.val (.int (c:Nat))),q11',q12']):=by
 obtain⟨p,hp,a,b,ha,hb,rfl⟩:=hD r c hr hc
 have m0:0<=(a:Int)*n:=Int.mul_nonneg (by lia) (by lia)
 have m1:(a:Int)*n<=8*8:=Int.mul_le_mul (by lia) (by lia) (by lia) (by lia)
 obtain⟨v,hv⟩:=a0P (ns:=ns) (k:=3+(a:Int)*n+b) (by lia)
 have hx:=a18 (c:=v) (k:=11+(a:Int)*n+b) (by lia)
 have i0:0<=mix v (11+(a:Int)*n+b)/ 16 %(ls.length:Int):=Int.emod_nonneg _ (by lia)
 have i1:mix v (11+(a:Int)*n+b)/ 16 %(ls.length:Int)<ls.length:=Int.emod_lt_of_pos _ (by lia)
 obtain⟨x,hxm,ex⟩:=b7B (ls:=ls) (by lia) i0 i1
 refine⟨x,hl x hxm, ?_⟩
 have hd:b0X 5 (a6 (a8 8) (a6 (a8 10) c7)) [some (.val (.list (ns.map .int))),s1,some (.val (.int n)),s3,s4,some (.ow (.dct D)),some (.val (.str (S ls))),s7,some (.val (.int (r:Nat))),some (.val (.str (S l))),some (.val (.int (c:Nat))),q11,q12]=some (.val (.tuple [.int (a:Nat),.int (b:Nat)])):=b7D (by simp (disch:=omega) only [b8,d0,b7,a9,b5,AF]) rfl hp
 unfold O8
 simp (disch:=omega) only [y4,L7,u7,a1T,o0,t6,j0,A1,g9,b8,d0,b7,a9,b5,g7,j3,u6,c8,g0,AF,AU,AV,hd,hv,hx,b7A,ex,b7j]
 exact⟨_,_,rfl⟩
theorem b60{ns:List Int}{n:Nat}(hn:0<n)(hn8:n<=8){D:List (List m5×PV)}(hD:∀r c:Nat,r<n->c<n->∃p,B0 D [.inl (r:Nat),.inl (c:Nat)]=some p/\a9c n p){ls:List Nat}(hls:2<=ls.length/\ls.length<=3)(hl:∀x∈ls,dyL x)
 (s1 s3 s4 q9 q10 q11 q12:Option i7) {r:Nat} (hr:r<n) {rows:List (List Nat)} (hR:rows.length<1000):
 ∃k:List Nat,k.length=n/\(∀x∈k,dyL x)/\∃q9' q10' q11' q12':Option i7,O9 [some (.val (.list (ns.map .int))),s1,some (.val (.int n)),s3,s4,some (.ow (.dct D)),some (.val (.str (S ls))),some (.own (rows.map row)),some (.val (.int (r:Nat))),q9,q10,q11,q12]
  =some (.nx [some (.val (.list (ns.map .int))),s1,some (.val (.int n)),s3,s4,some (.ow (.dct D)),some (.val (.str (S ls))),some (.own ((rows++[k]).map row)),some (.val (.int (r:Nat))),q9',q10',q11',q12']):=by
 obtain⟨ρ3,e5,k,hk1,hk2,r10,r11,r12,rfl⟩:=A5 (body:=O8) (tg:=g5 10) (fun j ρ=>∃k:List Nat,k.length=j/\(∀x∈k,dyL x)/\∃q10 q11 q12:Option i7,ρ=[some (.val (.list (ns.map .int))),s1,some (.val (.int n)),s3,s4,some (.ow (.dct D)),some (.val (.str (S ls))),some (.own (rows.map row)),some (.val (.int (r:Nat))),some (.val (.str (S k))),q10,q11,q12])
  (ps:=P5 0 n) (ρ:=[some (.val (.list (ns.map .int))),s1,some (.val (.int n)),s3,s4,some (.ow (.dct D)),some (.val (.str (S ls))),some (.own (rows.map row)),some (.val (.int (r:Nat))),some (.val (.str (S []))),q10,q11,q12])
  (by
   rintro j p hp ρ ⟨k,hk1,hk2,q10,q11,q12,rfl⟩
   obtain⟨rfl,hj⟩:=S6 hp
   have hj':(0:Int)+(j:Int)=(j:Int):=by lia
   rw [hj'] at hj ⊢
   obtain⟨x,hx,b,c',e⟩:=b6Z (ns:=ns) hn hn8 hD hls hl s1 s3 s4 (some (.own (rows.map row))) q11 q12 hr (c:=j) (by lia) (l:=k) (by lia)
   exact⟨_,_,rfl,.inl e,k++[x],by simp [hk1],fun y hy=>by
    rcases BA.mp hy with h|h
    ·exact hk2 y h
    ·have:y=x:=by simpa using h
     rw [this];exact hx,_,_,_,rfl⟩) ⟨[],rfl,(by intro x h;cases h),q10,q11,q12,rfl⟩
 rw [G9] at hk1
 refine⟨k,by lia,hk2, ?_⟩
 unfold O9
 simp (disch:=omega) only [g9,b8,d0,b7,a9,b5,j3,u6,c8,g0,p9,v9,B8,AF,AU,AV,show AD ""=S [] from rfl,e5]
 rw [Q0 rfl rfl rfl (by rw [Ae];lia)]
 exact⟨_,_,_,_,by rw [Az];rfl⟩
theorem b1K{rows:List (List Nat)}{n:Nat}(h1:rows.length=n)(h2:∀l∈rows,l.length=n):b2M rows=z7 n fun r c=>(rows.getD r []).getD c 0:=by
 unfold z7
 congr 1
 refine List.ext_getElem (by rw [Ae,Aq,h1]) fun i hi hi'=> ?_
 rw [List.getElem_map,List.getElem_range]
 have hl:=h2 rows[i] (List.getElem_mem _)
 refine List.ext_getElem (by rw [Ae,Aq,hl]) fun j hj hj'=> ?_
 rw [List.getElem_map,List.getElem_range]
 simp [List.getD,hi,hj]
theorem b7G(N:Int):∃m:Nat,m<=3/\v6 (.own [.int 0,.int 1,.int 1,.int 2,.int 2,.int 3]) (.val (.int (N % 6)))=some (.val (.int m)):=by
 have h0:0<=N % 6:=by lia
 have h1:N % 6<6:=by lia
 generalize N % 6=k at h0 h1 ⊢
 have h:k=0\/k=1\/k=2\/k=3\/k=4\/k=5:=by lia
 rcases h with rfl|rfl|rfl|rfl|rfl|rfl
 ·exact⟨0,by decide,rfl⟩
 ·exact⟨1,by decide,rfl⟩
 ·exact⟨1,by decide,rfl⟩
 ·exact⟨2,by decide,rfl⟩
 ·exact⟨2,by decide,rfl⟩
 ·exact⟨3,by decide,rfl⟩
theorem b42{ns:List Int}{most:Int}(hm:0<most/\most<=8):∃(n:Nat) (f:Nat->Nat->Nat),(0<n/\(n:Int)<=most)/\(∀r c,r<n->c<n->dyL (f r c))/\Q9 [.list (ns.map .int),.int most]=some (.val (z7 n f)):=by
 obtain⟨c0,hc0⟩:=a0P (ns:=ns) (k:=0) (by lia)
 obtain⟨c1,hc1⟩:=a0P (ns:=ns) (k:=1) (by lia)
 obtain⟨c2,hc2⟩:=a0P (ns:=ns) (k:=2) (by lia)
 have h0:0<=mix c0 1 % most/\mix c0 1 % most<most:=⟨Int.emod_nonneg _ (by lia),Int.emod_lt_of_pos _ (by lia)⟩
 obtain⟨n,en⟩:∃n:Nat,1+mix c0 1 % most=(n:Int):=⟨(1+mix c0 1 % most).toNat,by lia⟩
 have hn:0<n:=by lia
 have hn8:n<=8:=by lia
 obtain⟨m,hm3,em⟩:=b7G c1
 obtain⟨ls,hls,hl,els⟩:=b6H (mix c2 2)
 have x1:=a18 (c:=c0) (k:=1) (by lia)
 have x2:=a18 (c:=c2) (k:=2) (by lia)
 obtain⟨ρ1,e1,ws,hws,hwl,q4,rfl⟩:=A5 (body:=V7) (tg:=g5 4) (fun i ρ=>∃ws:List PV,Mvs ws/\ws.length=i/\∃q4:Option i7,ρ=[some (.val (.list (ns.map .int))),some (.val (.int most)),some (.val (.int n)),some (.own ws),q4,none,none,none,none,none,none,none,none])
  (ps:=P5 0 m) (ρ:=[some (.val (.list (ns.map .int))),some (.val (.int most)),some (.val (.int n)),some (.own []),none,none,none,none,none,none,none,none,none])
  (by
   rintro i p hp ρ ⟨ws,hws,hwl,q4,rfl⟩
   obtain⟨rfl,hi⟩:=S6 hp
   have hi':(0:Int)+(i:Int)=(i:Int):=by lia
   rw [hi'] at hi ⊢
   obtain⟨w,hw,ew⟩:=b3l (n:=(n:Int)) (mix c1 (3+(i:Int))) (by lia)
   have x3:=a18 (c:=c1) (k:=3+(i:Int)) (by lia)
   refine K5 rfl (ρ2:=[some (.val (.list (ns.map .int))),some (.val (.int most)),some (.val (.int n)),some (.own (ws++[T3 w (mix c1 (3+(i:Int))/ 8 % n) (mix c1 (3+(i:Int))/ 64 % n)])),some (.val (.int (i:Nat))),none,none,none,none,none,none,none,none]) ?_ ⟨_, ?_, ?_,_,rfl⟩
   ·unfold V7
    rw [Q0 (r:= .val (T3 w (mix c1 (3+(i:Int))/ 8 % n) (mix c1 (3+(i:Int))/ 64 % n))) (by simp (disch:=omega) only [y4,j0,g9,b8,d0,b7,a9,b5,g7,AF,AU,AV,hc1,x3,ew]) rfl rfl (by lia)]
    rfl
   ·intro p hp
    rcases BA.mp hp with h|h
    ·exact hws p h
    ·have:p=T3 w (mix c1 (3+(i:Int))/ 8 % n) (mix c1 (3+(i:Int))/ 64 % n):=by simpa using h
     exact⟨w,hw,_,_,this⟩
   ·rw [Ah,List.length_singleton,hwl]) ⟨[],(by intro p h;cases h),rfl,none,rfl⟩
 obtain⟨D,hD,eD⟩:=b6x hn hn8 hws
 obtain⟨ρ2,e2,rows,hr1,hr2,hr3,q8,q9,q10,q11,q12,rfl⟩:=A5 (body:=O9) (tg:=g5 8) (fun i ρ=>∃rows:List (List Nat),rows.length=i/\(∀l∈rows,l.length=n)/\(∀l∈rows,∀x∈l,dyL x)/\∃q8 q9 q10 q11 q12:Option i7,ρ=[some (.val (.list (ns.map .int))),some (.val (.int most)),some (.val (.int n)),some (.val (.list ws)),q4,some (.ow (.dct D)),some (.val (.str (S ls))),some (.own (rows.map row)),q8,q9,q10,q11,q12])
  (ps:=P5 0 n) (ρ:=[some (.val (.list (ns.map .int))),some (.val (.int most)),some (.val (.int n)),some (.val (.list ws)),q4,some (.ow (.dct D)),some (.val (.str (S ls))),some (.own []),none,none,none,none,none])
  (by
   rintro i p hp ρ ⟨rows,h1,h2,h3,q8,q9,q10,q11,q12,rfl⟩
   obtain⟨rfl,hi⟩:=S6 hp
   have hi':(0:Int)+(i:Int)=(i:Int):=by lia
   rw [hi'] at hi ⊢
   obtain⟨l,hl1,hl2,a,b',c',d',e⟩:=b60 (ns:=ns) hn hn8 hD hls hl (some (.val (.int most))) (some (.val (.list ws))) q4 q9 q10 q11 q12 (r:=i) (by lia) (rows:=rows) (by lia)
   refine⟨_,_,rfl,.inl e,rows++[l],by simp [h1],fun x hx=> ?_,fun x hx=> ?_,_,_,_,_,_,rfl⟩
   ·rcases BA.mp hx with h|h
    ·exact h2 x h
    ·have:x=l:=by simpa using h
     rw [this];lia
   ·rcases BA.mp hx with h|h
    ·exact h3 x h
    ·have:x=l:=by simpa using h
     rw [this];exact hl2) ⟨[],rfl,(by intro x h;cases h),(by intro x h;cases h),none,none,none,none,none,rfl⟩
 rw [G9] at hr1
 have hrl:rows.length=n:=by lia
 refine⟨n,fun r c=>(rows.getD r []).getD c 0,⟨hn,by lia⟩,fun r c hr hc=> ?_, ?_⟩
 ·have g1:r<rows.length:=by lia
  have g2:=hr2 rows[r] (List.getElem_mem _)
  have g3:c<rows[r].length:=by lia
  have:(rows.getD r []).getD c 0=rows[r][c]:=by simp [List.getD,g1,g3]
  show dyL ((rows.getD r []).getD c 0)
  rw [this]
  exact hr3 _ (List.getElem_mem _) _ (List.getElem_mem _)
 ·unfold Q9 a3C
  simp (disch:=omega) only [y4,u7,j0,g9,b8,d0,b7,a9,b5,x8,g7,j3,u6,P0,c8,g0,f7,p9,v9,B8,AF,AI,AS,AX,AQ,Ab,AZ,AU,AV,AR,AY,↓reduceIte,sz,Nat.reduceAdd,Ad,hc0,x1,en,hc1,em,e1]
  rw [b4k rfl]
  simp (disch:=omega) only [u7,j0,A1,g9,b8,X5,d0,b7,a9,b5,x8,g7,j3,u6,f8,l8,c8,g0,h9,p9,v9,B8,AF,AU,AV,AR,AY,↓reduceIte,b10,sz,Nat.reduceAdd,Ad,eD,a4q,hc2,x2,els,e2]
  rw [<-b1K hrl hr2]
  rfl
def a1A(ws:List Str)(n:Nat):List PV:=ws.flatMap fun w=>(AL n).flatMap fun d=>(AL n).map fun t=>T3 w (d:Nat) (t:Nat)
def c0j:MS:=S2 1 (A7 (a6 (a8 2) (a6 (a8 3) (a6 (a8 4) c7))))
def b8p:MS:=N8 (L0 (a6 (a8 0) c7)) (g5 4) c0j
def b8q:MS:=N8 (L0 (a6 (a8 0) c7)) (g5 3) b8p
theorem c1k{n:Nat}(hn8:n<=8)(w:Str)(d:Nat)(ps:List PV)(hl:ps.length<10000)(q4:Option i7):∃q4':Option i7,b8p [some (.val (.int n)),some (.own ps),some (.val (.str w)),some (.val (.int (d:Nat))),q4]=some (.nx [some (.val (.int n)),some (.own (ps++(AL n).map fun t=>T3 w (d:Nat) (t:Nat))),some (.val (.str w)),some (.val (.int (d:Nat))),q4']):=by
 obtain⟨ρ1,e1,q,rfl⟩:=A5 (body:=c0j) (tg:=g5 4) (fun j ρ=>∃q:Option i7,ρ=[some (.val (.int n)),some (.own (ps++(AL j).map fun t=>T3 w (d:Nat) (t:Nat))),some (.val (.str w)),some (.val (.int (d:Nat))),q])
  (ps:=P5 0 n) (ρ:=[some (.val (.int n)),some (.own ps),some (.val (.str w)),some (.val (.int (d:Nat))),q4])
  (by
   rintro j p hp ρ ⟨q,rfl⟩
   obtain⟨rfl,hj⟩:=S6 hp
   have hj':(0:Int)+(j:Int)=(j:Int):=by lia
   rw [hj'] at hj ⊢
   refine K5 rfl (ρ2:=[some (.val (.int n)),some (.own (ps++(AL (j+1)).map fun t=>T3 w (d:Nat) (t:Nat))),some (.val (.str w)),some (.val (.int (d:Nat))),some (.val (.int (j:Nat)))]) ?_ ⟨_,rfl⟩
   unfold c0j
   rw [Q0 (r:= .val (T3 w (d:Nat) (j:Nat))) (by simp (disch:=omega) only [b8,d0,b7,a9,b5,o8,AF,AU,AV,AR,AY,↓reduceIte,sz,Nat.reduceAdd,Ad]) rfl rfl (by rw [Ah,Ae,Aq];lia),List.range_succ,Az,List.append_assoc]
   rfl) ⟨q4,by simp⟩
 rw [G9,show((n:Int) - 0).toNat=n by lia] at e1
 refine⟨q, ?_⟩
 unfold b8p
 simp (disch:=omega) only [b8,b7,a9,b5,p9,v9,B8,AF]
 exact e1
theorem b3J(n d:Nat)(w:Str):((AL d).flatMap fun d=>(AL n).map fun t=>T3 w (d:Nat) (t:Nat)).length=d*n:=by
 induction d with
 |zero=>simp
 |succ d ih=>rw [List.range_succ,List.flatMap_append,Ah,ih];simp [Nat.succ_mul]
theorem c1l{n:Nat}(hn8:n<=8)(w:Str)(ps:List PV)(hl:ps.length<5000)(q3 q4:Option i7):∃q3' q4':Option i7,b8q [some (.val (.int n)),some (.own ps),some (.val (.str w)),q3,q4]=some (.nx [some (.val (.int n)),some (.own (ps++(AL n).flatMap fun d=>(AL n).map fun t=>T3 w (d:Nat) (t:Nat))),some (.val (.str w)),q3',q4']):=by
 obtain⟨ρ1,e1,q3',q4',rfl⟩:=A5 (body:=b8p) (tg:=g5 3) (fun j ρ=>∃q3 q4:Option i7,ρ=[some (.val (.int n)),some (.own (ps++(AL j).flatMap fun d=>(AL n).map fun t=>T3 w (d:Nat) (t:Nat))),some (.val (.str w)),q3,q4])
  (ps:=P5 0 n) (ρ:=[some (.val (.int n)),some (.own ps),some (.val (.str w)),q3,q4])
  (by
   rintro j p hp ρ ⟨q3,q4,rfl⟩
   obtain⟨rfl,hj⟩:=S6 hp
   have hj':(0:Int)+(j:Int)=(j:Int):=by lia
   rw [hj'] at hj ⊢
   have hjn:j*n<=8*8:=Nat.mul_le_mul (by lia) hn8
   obtain⟨q4',e⟩:=c1k hn8 w j (ps++(AL j).flatMap fun d=>(AL n).map fun t=>T3 w (d:Nat) (t:Nat)) (by rw [Ah,b3J];lia) q4
   refine K5 rfl e ⟨some (.val (.int (j:Nat))),q4', ?_⟩
   rw [List.range_succ,List.flatMap_append,List.append_assoc]
   simp) ⟨q3,q4,by simp⟩
 rw [G9,show((n:Int) - 0).toNat=n by lia] at e1
 refine⟨q3',q4', ?_⟩
 unfold b8q
 simp (disch:=omega) only [b8,b7,a9,b5,p9,v9,B8,AF]
 exact e1
theorem a6s(ws:List Str)(n:Nat):(a1A ws n).length=ws.length*(n*n):=by
 induction ws with
 |nil=>simp [a1A]
 |cons w ws ih=>
  have e:a1A (w::ws) n=((AL n).flatMap fun d=>(AL n).map fun t=>T3 w (d:Nat) (t:Nat))++a1A ws n:=rfl
  rw [e,Ah,ih,b3J,AR,Nat.succ_mul,Nat.add_comm]
theorem b3I{n:Nat}(hn8:n<=8)(ws:List Str)(hw:ws.length<=8):∃q2 q3 q4:Option i7,B2 b8q (g5 2) (ws.map .str) [some (.val (.int n)),some (.own []),none,none,none]=some (.nx [some (.val (.int n)),some (.own (a1A ws n)),q2,q3,q4]):=by
 have hnn:n*n<=8*8:=Nat.mul_le_mul hn8 hn8
 obtain⟨ρ1,e1,q2,q3,q4,rfl⟩:=A5 (body:=b8q) (tg:=g5 2) (fun j ρ=>∃q2 q3 q4:Option i7,ρ=[some (.val (.int n)),some (.own (a1A (ws.take j) n)),q2,q3,q4])
  (ps:=ws.map .str) (ρ:=[some (.val (.int n)),some (.own []),none,none,none])
  (by
   rintro j p hp ρ ⟨q2,q3,q4,rfl⟩
   rw [Au] at hp
   cases hj:ws[j]? with
   |none=>rw [hj] at hp;cases hp
   |some w=>
    rw [hj] at hp
    cases hp
    have hjl:j<ws.length:=(At.mp hj).1
    have hl:(a1A (ws.take j) n).length<5000:=by
     rw [a6s,List.length_take]
     have:min j ws.length*(n*n)<=8*(8*8):=Nat.mul_le_mul (by lia) hnn
     lia
    obtain⟨q3',q4',e⟩:=c1l hn8 w (a1A (ws.take j) n) hl q3 q4
    refine K5 rfl e ⟨some (.val (.str w)),q3',q4', ?_⟩
    have ew:ws[j]=w:=(At.mp hj).2
    rw [List.take_succ_eq_append_getElem hjl,ew]
    unfold a1A
    rw [List.flatMap_append]
    simp) ⟨none,none,none,by simp [a1A]⟩
 rw [Ae,List.take_length] at e1
 exact⟨q2,q3,q4,e1⟩
theorem b6P:(a03.all fun w=>decide (w∈m6))=true:=by decide+kernel
theorem b6O:(m6.all fun w=>decide (w∈a03))=true:=by decide+kernel
theorem b1t{w:Str}:w∈a03↔w∈m6:=⟨fun h=>of_decide_eq_true (List.all_eq_true.mp b6P w h),fun h=>of_decide_eq_true (List.all_eq_true.mp b6O w h)⟩
theorem b4T{n:Nat}(hn8:n<=8):O7 [.int n]=some (.own (a1A a03 n)):=by
 obtain⟨q2,q3,q4,e⟩:=b3I hn8 a03 (by decide)
 have e1:a9w (.val b0e)=some (.own (a03.map .str)):=by kernel_rfl
 unfold O7 a1u
 simp (disch:=omega) only [A1,g9,b7,U6,x8,j3,P0,c8,g0,f7,p9,AF,AI,AS,AX,AQ,Ab,AZ,AU,AV,AY,↓reduceIte,P4,B4,sz,Ad,e1]
 rw [show B2 Z3 (g5 2) (a03.map .str) [some (.val (.int n)),some (.own []),none,none,none]=_ from e]
 simp (disch:=omega) only [g0,h9,AF,a2y,a2z]
theorem b7l{l:List Nat}{m:Nat}(hl:l.length=m)(hm:m<=10000){j:Int}(h0:0<=j)(h1:j<m):v6 (.val (row l)) (.val (.int j))=some (.val (row [l.getD j.toNat 0])):=by
 have hk:j.toNat<l.length:=by lia
 refine b5A (by lia) ?_
 rw [a4r h0,BF hk]
 simp [List.getD,hk]
theorem b1o:∀(l:List Nat) (g:Nat->Nat),((l.map fun c=>[g c]).map (·.length)).sum=l.length
 |[],_=>rfl
 |a::l,g=>by
  have:=b1o l g
  simp only [AI,AR,AY,List.sum_cons] at this ⊢
  lia
theorem b39(l:List Nat)(g:Nat->Nat):a65 [] (l.map fun c=>[g c])=l.map g:=by
 rw [b0P]
 have:(l.map fun c=>[g c])=((l.map g).map fun c=>[c]):=by rw [Aw];rfl
 rw [this,a5o]
theorem a60{k:Nat}(hk:k<=10000)(g:Nat->Nat):a3O (.val (.str (S []))) (.own ((AL k).map fun j=>row [g j]))=some (.val (row ((AL k).map g))):=by
 rw [b1X (rows:=(AL k).map fun j=>[g j]),b39]
 ·show some _=some _
  rw [Aw];rfl
 ·rw [b1o,Aq,Ae,Aq];simp only [AY];lia
abbrev MV:=Str×Int×Int
def tp(x:MV):PV:= .tuple [.str x.1,.int x.2.1,.int x.2.2]
def ky(x:MV):List m5:=[.inr x.1,.inl x.2.1,.inl x.2.2]
theorem b5K{x y:MV}(h:ky x=ky y):x=y:=by
 obtain⟨a,b,c⟩:=x
 obtain⟨a',b',c'⟩:=y
 injection h with h1 h2
 injection h2 with h2 h3
 injection h3 with h3 _
 have a1:a=a':=Sum.inr.inj h1
 have a2:b=b':=Sum.inl.inj h2
 have a3:c=c':=Sum.inl.inj h3
 rw [a1,a2,a3]
def mul(n:Int)(x y:MV):MV:=(t8 x.1 y.1,(f6 y.1 x.2.1 x.2.2+y.2.1) % n,(e9 y.1 x.2.1 x.2.2+y.2.2) % n)
def e0:MV:=(AD "stay",0,0)
def OkM(n:Int)(x:MV):Prop:=x.1∈m6/\(0<=x.2.1/\x.2.1<n)/\0<=x.2.2/\x.2.2<n
theorem a3h{n:Int}(hn:0<n){x y:MV}(hx:OkM n x)(hy:OkM n y):OkM n (mul n x y):=
 ⟨a3J hx.1 hy.1,⟨Int.emod_nonneg _ (by lia),Int.emod_lt_of_pos _ hn⟩,Int.emod_nonneg _ (by lia),Int.emod_lt_of_pos _ hn⟩
theorem a2P:(m6.all fun a=>decide (t8 a (AD "stay")=a)&& decide (t8 (AD "stay") a=a))=true:=by decide+kernel
theorem b8R{n:Int}{x:MV}(hx:OkM n x):mul n x e0=x:=by
 obtain⟨w,d,t⟩:=x
 have h:=List.all_eq_true.mp a2P w hx.1
 simp only [Bool.and_eq_true,decide_eq_true_eq] at h
 show(t8 w (AD "stay"),(d+0) % n,(t+0) % n)=_
 rw [h.1,Int.add_zero,Int.add_zero,Int.emod_eq_of_lt hx.2.1.1 hx.2.1.2,Int.emod_eq_of_lt hx.2.2.1 hx.2.2.2]
theorem b8K{n:Int}{x:MV}(hx:OkM n x):mul n e0 x=x:=by
 obtain⟨w,d,t⟩:=x
 have h:=List.all_eq_true.mp a2P w hx.1
 simp only [Bool.and_eq_true,decide_eq_true_eq] at h
 have h0:f6 w 0 0=0/\e9 w 0 0=0:=by
  rcases D6 hx.1 with h|h|h|h|h|h|h|h<;>(have h':w=_:=h;subst h';exact⟨rfl,rfl⟩)
 show(t8 (AD "stay") w,(f6 w 0 0+d) % n,(e9 w 0 0+t) % n)=_
 rw [h.2,h0.1,h0.2,Int.zero_add,Int.zero_add,Int.emod_eq_of_lt hx.2.1.1 hx.2.1.2,Int.emod_eq_of_lt hx.2.2.1 hx.2.2.2]
theorem T9{n:Int}{x y z:MV}(hx:OkM n x)(hy:OkM n y)(hz:OkM n z):mul n (mul n x y) z=mul n x (mul n y z):=by
 obtain⟨a,d1,r1⟩:=x
 obtain⟨b,d2,r2⟩:=y
 obtain⟨c,d3,r3⟩:=z
 have ha:a∈m6:=hx.1
 have hb:b∈m6:=hy.1
 have hc:c∈m6:=hz.1
 show(t8 (t8 a b) c,(f6 c ((f6 b d1 r1+d2) % n) ((e9 b d1 r1+r2) % n)+d3) % n,(e9 c ((f6 b d1 r1+d2) % n) ((e9 b d1 r1+r2) % n)+r3) % n)=
  (t8 a (t8 b c),(f6 (t8 b c) d1 r1+(f6 c d2 r2+d3) % n) % n,(e9 (t8 b c) d1 r1+(e9 c d2 r2+r3) % n) % n)
 rw [b1M ha hb hc,a0q hc,a0d hc,a34 hb hc,a3H hb hc,N6 hc,M9 hc,Int.add_emod_emod,Int.add_emod_emod,Int.add_assoc,Int.add_assoc]
def b84(n:Nat):List MV:=m6.flatMap fun w=>(AL n).flatMap fun d=>(AL n).map fun t=>(w,(d:Nat),(t:Nat))
theorem b5X{n:Nat}{x:MV}(h:OkM n x):x∈b84 n:=by
 obtain⟨w,d,t⟩:=x
 obtain⟨h1,h2,h3⟩:=h
 refine List.mem_flatMap.mpr ⟨w,h1,List.mem_flatMap.mpr ⟨d.toNat,List.mem_range.mpr (by have:0<=d/\d<n:=h2;lia),Ag.mpr ⟨t.toNat,List.mem_range.mpr (by have:0<=t/\t<n:=h3;lia), ?_⟩⟩⟩
 have a:0<=d/\d<n:=h2
 have b:0<=t/\t<n:=h3
 rw [Int.toNat_of_nonneg a.1,Int.toNat_of_nonneg b.1]
theorem a81(k:Nat):∀m:Nat,((AL m).map fun _=>k).sum=m*k
 |0=>by simp
 |m+1=>by rw [List.range_succ,Az,List.sum_append,a81 k m,Nat.succ_mul];simp
theorem b4S(n:Nat):(b84 n).length=8*(n*n):=by
 unfold b84
 rw [List.length_flatMap]
 have:∀w:Str,((AL n).flatMap fun d=>(AL n).map fun t=>((w,(d:Nat),(t:Nat)):MV)).length=n*n:=by
  intro w
  rw [List.length_flatMap]
  simp only [Ae,Aq]
  exact a81 n n
 simp only [this]
 show([n*n,n*n,n*n,n*n,n*n,n*n,n*n,n*n]:List Nat).sum=_
 simp only [List.sum_cons,List.sum_nil]
 lia
theorem b03{α:Type}[DecidableEq α]:∀{l m:List α},l.Nodup->(∀x∈l,x∈m)->l.length<=m.length
 |[],_,_,_=>Nat.zero_le _
 |x::l,m,hn,h=>by
  have hx:=h x Am
  have hn':=List.nodup_cons.mp hn
  have ih:=b03 (l:=l) (m:=m.erase x) hn'.2 fun y hy=>(List.mem_erase_of_ne (fun e:y=x=>hn'.1 (e▸hy))).mpr (h y (Ak _ hy))
  rw [List.length_erase_of_mem hx] at ih
  have:0<m.length:=List.length_pos_of_mem hx
  rw [AR];lia
theorem b9H{n:Nat}{L:List MV}(hn:L.Nodup)(h:∀x∈L,OkM n x):L.length<=8*(n*n):=by
 rw [<-b4S];exact b03 hn fun x hx=>b5X (h x hx)
def C2(L:List MV):List (List m5×PV):=L.map fun x=>(ky x,PyData.bool true)
theorem a50(L:List MV)(x:MV):(B0 (C2 L) (ky x)).isSome=decide (x∈L):=by
 unfold B0 C2
 induction L with
 |nil=>rfl
 |cons y L ih=>
  rw [AI,List.find?_cons]
  by_cases h:ky y=ky x
  ·have:y=x:=b5K h
   subst this
   simp
  ·rw [show decide ((ky y,PyData.bool true).1=ky x)=false from decide_eq_false h]
   rw [ih]
   have:x≠y:=fun e=>h (by rw [e])
   simp [this]
theorem b2S{L:List MV}{x:MV}(h:x∉L):a0A (C2 L) (ky x) (.bool true)=C2 (L++[x]):=by
 unfold a0A
 have:((C2 L).any fun kv=>decide (kv.1=ky x))=false:=by
  rw [List.any_eq_false]
  intro kv hk
  obtain⟨y,hy,rfl⟩:=Ag.mp hk
  simp only [decide_eq_true_eq]
  exact fun e=>h (b5K e▸hy)
 rw [this]
 simp [C2]
theorem b2R(L:List MV):(C2 L).length=L.length:=by unfold C2;rw [Ae]
theorem take_succ{α:Type}{l:List α}{i:Nat}{x:α}(h:l[i]?=some x):l.take (i+1)=l.take i++[x]:=by
 rw [List.take_succ,h];rfl
theorem a3P(x:MV):P9 (.val (tp x))=some (ky x):=Eq.trans rfl rfl
theorem b9g(x y:MV):PyData.eqv (tp x) (tp y)=decide (x=y):=by
 obtain⟨a,b,c⟩:=x
 obtain⟨a',b',c'⟩:=y
 show PyData.eqv (.tuple [.str a,.int b,.int c]) (.tuple [.str a',.int b',.int c'])=_
 simp only [PyData.eqv,PyData.eqvAll]
 by_cases h1:a=a'
 ·by_cases h2:b=b'
  ·by_cases h3:c=c'
   ·subst h1 h2 h3;simp
   ·simp [h1,h2,h3]
  ·simp [h1,h2]
 ·simp [h1]
theorem b9D(L:List MV)(k:Nat):E5 (L.map tp) (k+2)=true:=a3L fun p hp=>by
 obtain⟨x,_,rfl⟩:=Ag.mp hp
 rfl
abbrev a2N:List Str:=[AD "side",AD "flip",AD "cross",AD "other"]
theorem b40:(a2N.all fun a=>decide (a∈m6))=true:=by decide+kernel
theorem K7{w:Str}(h:w∈a2N):w∈m6:=of_decide_eq_true (List.all_eq_true.mp b40 w h)
theorem a06{w:Str}(h:w∈a2N):w=AD "side"\/w=AD "flip"\/w=AD "cross"\/w=AD "other":=by
 simpa [a2N] using h
def cnd(w:Str)(a x:Int):Bool:=(f6 w a x+a==0)&&(e9 w a x+x==0)
theorem b8P{w:Str}(hw:w∈m6)(s0 q4 q5:Option i7)(p q a x:Int):y0 [s0,some (.val (T3 w p q)),some (.val (.int a)),some (.val (.int x)),q4,q5]=if cnd w a x=true then some (.rt (.val (.bool true))) else some (.nx [s0,some (.val (T3 w p q)),some (.val (.int a)),some (.val (.int x)),some (.val (.int (f6 w a x))),some (.val (.int (e9 w a x)))]):=by
 unfold cnd y0
 cases c1:(f6 w a x+a==0)<;>cases c2:(e9 w a x+x==0)
 ·simp (disch:=omega) only [y4,o0,j0,g9,b8,d0,b7,a9,b5,g7,c8,g0,g8,z8,k9,j4,l7,Q3,a9f,B7,a2m,AF,AU,AV,↓reduceIte,Ax,E6,a0Z hw a x,c1,c2,Bool.and_self]
 ·simp (disch:=omega) only [y4,o0,j0,g9,b8,d0,b7,a9,b5,g7,c8,g0,g8,z8,k9,j4,l7,Q3,a9f,B7,a2m,AF,AU,AV,↓reduceIte,Ax,E6,a0Z hw a x,c1,c2,Bool.false_and]
 ·simp (disch:=omega) only [y4,o0,j0,g9,b8,d0,b7,a9,b5,g7,c8,g0,g8,z8,k9,j4,l7,Q3,a9g,B7,a2m,AF,AU,AV,↓reduceIte,Ax,E6,a0Z hw a x,c1,c2,Bool.and_false]
 ·simp (disch:=omega) only [y4,o0,j0,g9,b8,d0,b7,a9,b5,g7,f8,l8,c8,g0,g8,A6,j4,l7,Q3,a9g,B7,a2m,AF,AU,AV,↓reduceIte,E6,a0Z hw a x,c1,c2,Bool.and_self]
theorem b8Q{w:Str}(hw:w∈m6)(n:Int)(hn:0<n/\n<=8)(q3 q4 q5:Option i7)(p q a:Int):(cnd w a q||cnd w a (q - 2*n))=true/\u8 [some (.val (.int n)),some (.val (T3 w p q)),some (.val (.int a)),q3,q4,q5]=some (.rt (.val (.bool true)))\/(cnd w a q||cnd w a (q - 2*n))=false/\∃q3' q4' q5':Option i7,u8 [some (.val (.int n)),some (.val (T3 w p q)),some (.val (.int a)),q3,q4,q5]=some (.nx [some (.val (.int n)),some (.val (T3 w p q)),some (.val (.int a)),q3',q4',q5']):=by
 have e:u8 [some (.val (.int n)),some (.val (T3 w p q)),some (.val (.int a)),q3,q4,q5]=B2 y0 (g5 3) [.int q,.int (q - 2*n)] [some (.val (.int n)),some (.val (T3 w p q)),some (.val (.int a)),q3,q4,q5]:=by
  unfold u8
  simp (disch:=omega) only [a1U,L7,x6,j0,g9,b8,d0,b7,a9,b5,U6,x8,p9,AF,AR,AY,↓reduceIte,P4,B4,sz,Nat.reduceAdd,Ad]
 rw [e,B2]
 show(_/\(y0 [some (.val (.int n)),some (.val (T3 w p q)),some (.val (.int a)),some (.val (.int q)),q4,q5]).bind _=_)\/_/\∃q3' q4' q5':Option i7,(y0 [some (.val (.int n)),some (.val (T3 w p q)),some (.val (.int a)),some (.val (.int q)),q4,q5]).bind _=_
 rw [b8P hw]
 cases c1:cnd w a q with
 |true=>exact .inl ⟨rfl,rfl⟩
 |false=>
  rw [if_neg Al]
  show(_/\(B2 y0 (g5 3) [.int (q - 2*n)] _)=_)\/_/\∃q3' q4' q5':Option i7,(B2 y0 (g5 3) [.int (q - 2*n)] _)=_
  rw [B2]
  show(_/\(y0 [some (.val (.int n)),some (.val (T3 w p q)),some (.val (.int a)),some (.val (.int (q - 2*n))),_,_]).bind _=_)\/_/\∃q3' q4' q5':Option i7,(y0 [some (.val (.int n)),some (.val (T3 w p q)),some (.val (.int a)),some (.val (.int (q - 2*n))),_,_]).bind _=_
  rw [b8P hw]
  cases c2:cnd w a (q - 2*n) with
  |true=>exact .inl ⟨rfl,rfl⟩
  |false=>exact .inr ⟨rfl,_,_,_,rfl⟩
theorem b9z{w:Str}(hw:w∈m6)(n:Int)(hn:0<n/\n<=8)(p q:Int):E1 [.int n,T3 w p q]=some (.val (.bool ((cnd w p q||cnd w p (q - 2*n))||(cnd w (p - 2*n) q||cnd w (p - 2*n) (q - 2*n))))):=by
 have lp:B2 u8 (g5 2) [.int p,.int (p - 2*n)] [some (.val (.int n)),some (.val (T3 w p q)),none,none,none,none]=(if((cnd w p q||cnd w p (q - 2*n))||(cnd w (p - 2*n) q||cnd w (p - 2*n) (q - 2*n)))=true then some (.rt (.val (.bool true))) else B2 u8 (g5 2) [.int p,.int (p - 2*n)] [some (.val (.int n)),some (.val (T3 w p q)),none,none,none,none])/\(((cnd w p q||cnd w p (q - 2*n))||(cnd w (p - 2*n) q||cnd w (p - 2*n) (q - 2*n)))=false->∃ρ,B2 u8 (g5 2) [.int p,.int (p - 2*n)] [some (.val (.int n)),some (.val (T3 w p q)),none,none,none,none]=some (.nx ρ)):=by
  rw [B2]
  have tg1:g5 2 (.int p) [some (.val (.int n)),some (.val (T3 w p q)),none,none,none,none]=some [some (.val (.int n)),some (.val (T3 w p q)),some (.val (.int p)),none,none,none]:=rfl
  rw [tg1,AF]
  rcases b8Q hw n hn none none none p q p with⟨c1,e1⟩|⟨c1,a,b,c,e1⟩
  ·rw [e1,c1,Bool.true_or,if_pos rfl]
   exact⟨rfl,fun h=>by cases h⟩
  ·rw [e1,c1,Bool.false_or,AF]
   show(B2 u8 (g5 2) [.int (p - 2*n)] [some (.val (.int n)),some (.val (T3 w p q)),some (.val (.int p)),a,b,c])=(if _ then _ else(B2 u8 (g5 2) [.int (p - 2*n)] [some (.val (.int n)),some (.val (T3 w p q)),some (.val (.int p)),a,b,c]))/\(_->∃ρ,(B2 u8 (g5 2) [.int (p - 2*n)] [some (.val (.int n)),some (.val (T3 w p q)),some (.val (.int p)),a,b,c])=_)
   rw [B2]
   have tg2:g5 2 (.int (p - 2*n)) [some (.val (.int n)),some (.val (T3 w p q)),some (.val (.int p)),a,b,c]=some [some (.val (.int n)),some (.val (T3 w p q)),some (.val (.int (p - 2*n))),a,b,c]:=rfl
   rw [tg2,AF]
   rcases b8Q hw n hn a b c p q (p - 2*n) with⟨c2,e2⟩|⟨c2,a',b',c',e2⟩
   ·rw [e2,c2,if_pos rfl]
    exact⟨rfl,fun h=>by cases h⟩
   ·rw [e2,c2,if_neg Al]
    exact⟨rfl,fun _=>⟨_,rfl⟩⟩
 unfold E1 a3D
 cases c:((cnd w p q||cnd w p (q - 2*n))||(cnd w (p - 2*n) q||cnd w (p - 2*n) (q - 2*n))) with
 |true=>
  have h1:=lp.1
  rw [c,if_pos rfl] at h1
  simp (disch:=omega) only [a1U,L7,t6,j0,g9,b8,d0,b7,a9,b5,U6,x8,c8,u5,f7,h9,p9,AF,AI,AS,AX,AQ,Ab,AZ,AR,AY,↓reduceIte,P4,B4,sz,Nat.reduceAdd,Ad,h1]
 |false=>
  obtain⟨ρ,h1⟩:=lp.2 c
  simp (disch:=omega) only [a1U,L7,t6,j0,g9,b8,d0,b7,a9,b5,U6,x8,f8,l8,c8,g0,f7,h9,p9,AF,AI,AS,AX,AQ,Ab,AZ,AR,AY,↓reduceIte,P4,B4,sz,Nat.reduceAdd,Ad,h1]
theorem eqS(a b:Str):gEq (.val (.str a)) (.val (.str b))=some (.val (.bool (a==b))):=by
 rw [a9u (x:= .val (.str a)) (y:= .val (.str b)) ⟨rfl,rfl⟩,a1k,a1k]
 simp only [PyData.eqv]
theorem d1:(AD "side"==AD "side")=true:=by decide+kernel
theorem d2:(AD "flip"==AD "side")=false:=by decide+kernel
theorem d3:(AD "flip"==AD "flip")=true:=by decide+kernel
theorem d4:(AD "cross"==AD "side")=false:=by decide+kernel
theorem d5:(AD "cross"==AD "flip")=false:=by decide+kernel
theorem d6:(AD "cross"==AD "cross")=true:=by decide+kernel
theorem d7:(AD "other"==AD "side")=false:=by decide+kernel
theorem d8:(AD "other"==AD "flip")=false:=by decide+kernel
theorem d9:(AD "other"==AD "cross")=false:=by decide+kernel
theorem d10:(AD "other"==AD "other")=true:=by decide+kernel
theorem b4l{w:Str}(hw:w∈a2N)(n:Int)(hn:0<n/\n<=8){p q:Int}(hp:0<=p/\p<2*n)(hq:0<=q/\q<2*n):P8 [.int n,T3 w p q]=some (.val (.bool ((cnd w p q||cnd w p (q - 2*n))||(cnd w (p - 2*n) q||cnd w (p - 2*n) (q - 2*n))))):=by
 unfold P8 a5c cnd
 rcases a06 hw with rfl|rfl|rfl|rfl
 ·simp (disch:=omega) only [o0,t6,j0,g9,b8,d0,j3,u6,f8,l8,c8,g0,u5,g8,A6,f7,h9,j4,l7,AF,AI,AS,AX,AQ,Ab,AZ,AU,AV,beq_self_eq_true,E6,eqS,d1]
  congr 3
  rw [Bool.eq_iff_iff]
  show(p==0)=true↔((((p+p==0)&&(-q+q==0))||((p+p==0)&&(-(q - 2*n)+(q - 2*n)==0)))||(((p - 2*n+(p - 2*n)==0)&&(-q+q==0))||((p - 2*n+(p - 2*n)==0)&&(-(q - 2*n)+(q - 2*n)==0))))=true
  simp only [Bool.or_eq_true,Bool.and_eq_true,beq_iff_eq]
  lia
 ·simp (disch:=omega) only [o0,x6,j0,g9,b8,d0,j3,u6,f8,l8,c8,g0,u5,g8,A6,z8,k9,f7,h9,j4,l7,AF,AI,AS,AX,AQ,Ab,AZ,AU,AV,beq_self_eq_true,E6,eqS,d2,d3]
  congr 3
  rw [Bool.eq_iff_iff]
  show(q==0)=true↔((((-p+p==0)&&(q+q==0))||((-p+p==0)&&(q - 2*n+(q - 2*n)==0)))||(((-(p - 2*n)+(p - 2*n)==0)&&(q+q==0))||((-(p - 2*n)+(p - 2*n)==0)&&(q - 2*n+(q - 2*n)==0))))=true
  simp only [Bool.or_eq_true,Bool.and_eq_true,beq_iff_eq]
  lia
 ·have key:((p+q==0)||(p+q==2*n))=((((q+p==0)&&(p+q==0))||((q - 2*n+p==0)&&(p+(q - 2*n)==0)))||(((q+(p - 2*n)==0)&&(p - 2*n+q==0))||((q - 2*n+(p - 2*n)==0)&&(p - 2*n+(q - 2*n)==0)))):=by
   rw [Bool.eq_iff_iff]
   simp only [Bool.or_eq_true,Bool.and_eq_true,beq_iff_eq]
   lia
  show _=some (i7.val (.bool ((((q+p==0)&&(p+q==0))||((q - 2*n+p==0)&&(p+(q - 2*n)==0)))||(((q+(p - 2*n)==0)&&(p - 2*n+q==0))||((q - 2*n+(p - 2*n)==0)&&(p - 2*n+(q - 2*n)==0))))))
  rw [<-key]
  cases c1:(p+q==0) with
  |true=>simp (disch:=omega) only [y4,o0,t6,x6,j0,g9,b8,d0,j3,u6,f8,l8,c8,g0,u5,g8,A6,z8,k9,f7,h9,j4,l7,b3h,c0Y,AF,AI,AS,AX,AQ,Ab,AZ,AU,AV,beq_self_eq_true,E6,eqS,d4,d5,d6,c1,Bool.true_or]
  |false=>simp (disch:=omega) only [y4,L7,o0,t6,x6,j0,g9,b8,d0,j3,u6,f8,l8,c8,g0,u5,g8,A6,z8,k9,f7,h9,j4,l7,b3h,c0X,AF,AI,AS,AX,AQ,Ab,AZ,AU,AV,beq_self_eq_true,E6,eqS,d4,d5,d6,c1,Bool.false_or]
 ·simp (disch:=omega) only [o0,t6,x6,j0,g9,b8,d0,j3,u6,f8,l8,c8,g0,g8,z8,k9,f7,h9,j4,l7,b5R,b87,AF,AI,AS,AX,AQ,Ab,AZ,AU,AV,beq_self_eq_true,E6,eqS,d7,d8,d9,d10]
  congr 3
  rw [Bool.eq_iff_iff]
  show(p==q)=true↔((((-q+p==0)&&(-p+q==0))||((-(q - 2*n)+p==0)&&(-p+(q - 2*n)==0)))||(((-q+(p - 2*n)==0)&&(-(p - 2*n)+q==0))||((-(q - 2*n)+(p - 2*n)==0)&&(-(p - 2*n)+(q - 2*n)==0))))=true
  simp only [Bool.or_eq_true,Bool.and_eq_true,beq_iff_eq]
  lia
open Classical in
def stQ(n:Int)(w:Str)(p q:Int):PV:=if(p - f6 w p q) % 2=1\/(q - e9 w p q) % 2=1 then .none else T3 w ((p - f6 w p q)/ 2 % n) ((q - e9 w p q)/ 2 % n)
theorem a3Q{w:Str}(hw:w∈m6){n:Int}(hn:0<n)(p q:Int):K0 [.int n,T3 w p q]=some (.val (stQ n w p q)):=by
 have e:=a0Z hw p q
 unfold stQ
 generalize f6 w p q=r at e ⊢
 generalize e9 w p q=c at e ⊢
 unfold K0 a5i
 by_cases h1:(p - r) % 2=1
 ·rw [if_pos (.inl h1)]
  simp (disch:=omega) only [a1U,u7,o0,t6,x6,j0,g9,b8,d0,b7,a9,b5,g7,j3,u6,f8,l8,c8,g0,u5,g8,A6,f7,h9,j4,l7,a0Y,c0W,B7,a2m,AF,AI,AS,AX,AQ,Ab,AZ,AU,AV,E6,e,show((p - r) % 2==1)=true from by rw [beq_iff_eq];exact h1]
 ·have f1:((p - r) % 2==1)=false:=by rw [beq_eq_false_iff_ne];exact h1
  by_cases h2:(q - c) % 2=1
  ·rw [if_pos (.inr h2)]
   simp (disch:=omega) only [a1U,u7,o0,t6,x6,j0,g9,b8,d0,b7,a9,b5,g7,j3,u6,f8,l8,c8,g0,u5,g8,A6,f7,h9,j4,l7,a0Y,b1d,B7,a2m,AF,AI,AS,AX,AQ,Ab,AZ,AU,AV,E6,e,f1,show((q - c) % 2==1)=true from by rw [beq_iff_eq];exact h2]
  ·rw [if_neg (fun z=>z.elim h1 h2)]
   simp (disch:=omega) only [a1U,u7,a1T,o0,t6,x6,j0,g9,b8,d0,b7,a9,b5,o8,g7,j3,u6,f8,l8,c8,g0,g8,z8,k9,f7,h9,j4,l7,a0Y,b1d,B7,a2m,AF,AI,AS,AX,AQ,Ab,AZ,AU,AV,AR,AY,↓reduceIte,sz,Nat.reduceAdd,Ad,E6,e,f1,show((q - c) % 2==1)=false from by rw [beq_eq_false_iff_ne];exact h2]
theorem b2y{w:Str}(hw:w∈a2N)(n:Int)(hn:0<n/\n<=8){p q:Int}(hp:0<=p/\p<2*n)(hq:0<=q/\q<2*n):∃s:PV,C0 [.int n,T3 w p q]=some (.val s)/\K0 [.int n,T3 w p q]=some (.val s)/\(s= .none\/∃a b:Int,s=T3 w a b):=by
 have hw':=K7 hw
 refine⟨stQ n w p q, ?_,a3Q hw' hn.1 p q,by unfold stQ;split;exact .inl rfl;exact .inr ⟨_,_,rfl⟩⟩
 unfold stQ
 rcases a06 hw with rfl|rfl|rfl|rfl
 ·rw [show f6 (AD "side") p q=p from rfl,show e9 (AD "side") p q= -q from rfl,if_neg (by lia),show(p - p)/ 2=0 by lia,Int.zero_emod,show(q - -q)/ 2=q by lia]
  unfold C0 Y3
  simp (disch:=omega) only [u7,o0,x6,j0,g9,b8,d0,b7,a9,b5,o8,f8,l8,c8,u5,g8,A6,f7,h9,j4,l7,AF,AI,AS,AQ,Af,AR,AY,↓reduceIte,sz,Nat.reduceAdd,Ad,beq_self_eq_true,eqS,d1]
 ·rw [show f6 (AD "flip") p q= -p from rfl,show e9 (AD "flip") p q=q from rfl,if_neg (by lia),show(q - q)/ 2=0 by lia,Int.zero_emod,show(p - -p)/ 2=p by lia]
  unfold C0 Y3
  simp (disch:=omega) only [u7,o0,t6,j0,g9,b8,d0,b7,a9,b5,o8,f8,l8,c8,g0,u5,g8,A6,z8,k9,f7,h9,j4,l7,AF,AI,AS,AQ,Af,AR,AY,↓reduceIte,sz,Nat.reduceAdd,Ad,beq_self_eq_true,eqS,d2,d3]
 ·rw [show f6 (AD "cross") p q=q from rfl,show e9 (AD "cross") p q=p from rfl]
  unfold C0 Y3
  by_cases h:(p+q) % 2=1
  ·rw [if_pos (by lia)]
   have e2:x9 [.int n,.tuple [.str (AD "cross"),.int p,.int q]]=some (.val .none):=by
    unfold x9 K6
    simp (disch:=omega) only [y4,u7,t6,x6,j0,g9,b8,d0,f8,l8,c8,u5,g8,A6,f7,h9,j4,l7,AF,AI,AS,AX,AQ,Ab,AZ,beq_self_eq_true,E6,h]
   simp (disch:=omega) only [o0,j0,g9,b8,d0,b7,a9,b5,g7,f8,l8,c8,g0,g8,z8,k9,f7,h9,j4,l7,AF,AI,AS,AQ,Af,eqS,d4,d5,e2]
  ·rw [if_neg (by lia),show(q - p)/ 2= -((p - q)/ 2) by lia]
   have e2:x9 [.int n,.tuple [.str (AD "cross"),.int p,.int q]]=some (.val (T3 (AD "cross") ((p - q)/ 2 % n) (-((p - q)/ 2) % n))):=by
    unfold x9 K6
    simp (disch:=omega) only [y4,a1U,u7,a1T,o0,t6,x6,j0,g9,b8,d0,b7,a9,b5,o8,j3,u6,f8,l8,c8,g0,u5,g8,A6,z8,k9,f7,h9,j4,l7,a16,a7s,AF,AI,AS,AX,AQ,Ab,AZ,AU,AV,AR,AY,↓reduceIte,sz,Nat.reduceAdd,Ad,beq_self_eq_true,E6,show((p+q) % 2==1)=false from by rw [beq_eq_false_iff_ne];exact h,eqS,d6]
   simp (disch:=omega) only [o0,j0,g9,b8,d0,b7,a9,b5,g7,f8,l8,c8,g0,g8,z8,k9,f7,h9,j4,l7,AF,AI,AS,AQ,Af,eqS,d4,d5,e2]
 ·rw [show f6 (AD "other") p q= -q from rfl,show e9 (AD "other") p q= -p from rfl,show p - -q=p+q by lia,show q - -p=p+q by lia]
  unfold C0 Y3
  by_cases h:(p+q) % 2=1
  ·rw [if_pos (.inl h)]
   have e2:x9 [.int n,.tuple [.str (AD "other"),.int p,.int q]]=some (.val .none):=by
    unfold x9 K6
    simp (disch:=omega) only [y4,u7,t6,x6,j0,g9,b8,d0,f8,l8,c8,u5,g8,A6,f7,h9,j4,l7,AF,AI,AS,AX,AQ,Ab,AZ,beq_self_eq_true,E6,h]
   simp (disch:=omega) only [o0,j0,g9,b8,d0,b7,a9,b5,g7,f8,l8,c8,g0,g8,z8,k9,f7,h9,j4,l7,AF,AI,AS,AQ,Af,eqS,d7,d8,e2]
  ·rw [if_neg (fun z=>z.elim h h)]
   have e2:x9 [.int n,.tuple [.str (AD "other"),.int p,.int q]]=some (.val (T3 (AD "other") ((p+q)/ 2 % n) ((p+q)/ 2 % n))):=by
    unfold x9 K6
    simp (disch:=omega) only [y4,u7,a1T,o0,t6,x6,j0,g9,b8,d0,b7,a9,b5,o8,j3,u6,f8,l8,c8,g0,g8,z8,k9,f7,h9,j4,l7,AF,AI,AS,AX,AQ,Ab,AZ,AU,AV,AR,AY,↓reduceIte,sz,Nat.reduceAdd,Ad,E6,show((p+q) % 2==1)=false from by rw [beq_eq_false_iff_ne];exact h,eqS,d9]
   simp (disch:=omega) only [o0,j0,g9,b8,d0,b7,a9,b5,g7,f8,l8,c8,g0,g8,z8,k9,f7,h9,j4,l7,AF,AI,AS,AQ,Af,eqS,d7,d8,e2]
theorem b1e:∀E:List MV,a0p (E.map fun x=> .tuple [tp x,.bool true])=some (C2 E)
 |[]=>rfl
 |x::E=>by
  show(b2q (.tuple [tp x,.bool true])).bind (fun a=>(a0p (E.map fun x=> .tuple [tp x,.bool true])).map fun r=>a::r)=_
  rw [b1e E]
  rfl
theorem b1i:∀(E A:List MV),(A++E).Nodup->b1h (C2 A) (C2 E)=C2 (A++E)
 |[],A,_=>by rw [Af];rfl
 |x::E,A,h=>by
  have hx:x∉A:=fun hA=>by
   rw [List.nodup_append] at h
   exact h.2.2 x hA x Am rfl
  show b1h (a0A (C2 A) (ky x) (.bool true)) (C2 E)=_
  rw [b2S hx,b1i E (A++[x]) (by rw [List.append_assoc];exact h),List.append_assoc]
  rfl
theorem b66{E:List MV}(h:E.Nodup)(r:i7)(hr:r.rd= .list (E.map fun x=> .tuple [tp x,.bool true])):a3M r=some (.ow (.dct (C2 E))):=by
 unfold a3M
 rw [hr]
 show(a0p _).map _=_
 rw [b1e]
 have:=b1i E [] h
 show some (i7.ow (.dct (b1h (C2 []) (C2 E))))=_
 rw [this];rfl
def i8:List Str:=[AD "cross",AD "flip",AD "other",AD "side"]
theorem b3V:(i8.all fun w=>decide (w∈a2N))=true:=by decide+kernel
theorem C9{w:Str}(h:w∈i8):w∈a2N:=of_decide_eq_true (List.all_eq_true.mp b3V w h)
theorem b4Z:i8.Nodup:=by decide+kernel
def trp(w:Str)(d t:Nat):MV:=(w,(d:Int),(t:Int))
def a1q(w:Str)(d k:Nat):List MV:=(AL k).map fun t=>trp w d t
def a3t(w:Str)(k m:Nat):List MV:=(AL k).flatMap fun d=>a1q w d m
def wid(n:Nat)(w:Str):List MV:=a3t w (2*n) (2*n)
theorem a7R(w:Str)(d k:Nat):(a1q w d k).length=k:=by unfold a1q;rw [Ae,Aq]
theorem a87(w:Str)(d k:Nat):a1q w d (k+1)=a1q w d k++[trp w d k]:=by unfold a1q;rw [List.range_succ,Az];rfl
theorem a88(w:Str)(k m:Nat):a3t w (k+1) m=a3t w k m++a1q w k m:=by unfold a3t;rw [List.range_succ,List.flatMap_append];simp
theorem a7S(w:Str)(k m:Nat):(a3t w k m).length=k*m:=by
 unfold a3t
 induction k with
 |zero=>simp
 |succ d ih=>rw [List.range_succ,List.flatMap_append,Ah,ih];simp [Nat.succ_mul,a7R]
theorem X6{n:Nat}{w:Str}{x:MV}(h:x∈wid n w):x.1=w/\(0<=x.2.1/\x.2.1<2*n)/\0<=x.2.2/\x.2.2<2*n:=by
 unfold wid a3t a1q at h
 obtain⟨d,hd,h⟩:=List.mem_flatMap.mp h
 obtain⟨t,ht,rfl⟩:=Ag.mp h
 have hd:=List.mem_range.mp hd
 have ht:=List.mem_range.mp ht
 unfold trp
 exact⟨rfl,⟨by dsimp only;lia,by dsimp only;lia⟩,by dsimp only;lia,by dsimp only;lia⟩
theorem b8Z(H:List MV)(hl:H.length<=1000):a0T [.list (H.map tp)]=some (.own (H.map fun x=> .str x.1)):=by
 have h:D5 1 (y8 (a8 0)) (g5 1) a0o a3T [some (.val (.list (H.map tp)))]=some (.own (H.map fun x=> .str x.1)):=Q1 H rfl (by lia) fun x hx=>⟨_,rfl,rfl⟩
 unfold a0T a8j
 simp (disch:=omega) only [f8,a97,f7,h9,AF,AI,AS,AQ,Af,h]
def ws(H:List MV):List Str:=H.map fun x=>x.1
theorem b2F(H:List MV):(H.map fun x=>PyData.str x.1)=(ws H).map .str:=by unfold ws;rw [Aw];rfl
theorem b2I(w:Str):∀l:List Str,((l.map PyData.str).any fun p=>PyData.eqv p (.str w))=decide (w∈l)
 |[]=>rfl
 |a::l=>by
  rw [AI,List.any_cons,b2I w l,b20]
  by_cases h:a=w
  ·subst h;simp
  ·have h':w≠a:=fun e=>h e.symm
   simp [h,h']
theorem a4D(w:Str)(l:List Str):a6W false (.val (.str w)) (.bor (l.map .str))=some (.val (.bool (decide (w∈l)))):=by
 show gIn false (.val (.str w)) (.bor (l.map .str))=_
 unfold gIn
 show(if u0 (.str w) 50=true/\E5 (l.map PyData.str) 50=true then some (i7.val (.bool (if false=true then _ else(l.map PyData.str).any fun p=>PyData.eqv p (.str w)))) else none)=_
 rw [if_pos ⟨rfl,a3L fun p hp=>by obtain⟨a,_,rfl⟩:=Ag.mp hp;rfl⟩,if_neg Al,b2I]
def tn4(l:List Str):Int:=if AD "turn"∈l then 4 else if AD "half"∈l then 2 else 1
theorem b8s(H:List MV)(hl:H.length<=1000):a2w [.list (H.map tp)]=some (.val (.int (tn4 (ws H)))):=by
 have h:=b8Z H hl
 rw [b2F] at h
 unfold a2w a8i tn4
 by_cases h1:AD "turn"∈ws H
 ·simp (disch:=omega) only [j0,g9,b8,X5,d0,b7,a9,b5,g7,j3,P0,f8,l8,c8,g0,u5,g8,A6,f7,h9,j4,l7,AF,AI,AS,AX,AQ,Ab,AZ,AU,AV,↓reduceIte,h,a4D,h1,decide_true]
 ·by_cases h2:AD "half"∈ws H
  ·simp (disch:=omega) only [j0,g9,b8,X5,d0,b7,a9,b5,g7,j3,P0,f8,l8,c8,g0,u5,g8,A6,z8,k9,f7,h9,j4,l7,AF,AI,AS,AX,AQ,Ab,AZ,AU,AV,↓reduceIte,h,a4D,h1,h2,decide_true,decide_false]
  ·simp (disch:=omega) only [j0,g9,b8,X5,d0,b7,a9,b5,g7,j3,P0,f8,l8,c8,g0,g8,z8,k9,f7,h9,j4,l7,AF,AI,AS,AX,AQ,Ab,AZ,AU,AV,↓reduceIte,h,a4D,h1,h2,decide_true,decide_false]
def X9(l:List Str):List Str:=i8.filter fun w=>decide (w∈l)
theorem b41(H:List MV)(hl:H.length<=1000):a1g [.list (H.map tp)]=some (.own ((X9 (ws H)).map .str)):=by
 have h:=b8Z H hl
 rw [b2F] at h
 have h2:D5 1 (y8 (mC I0)) (g5 2) (N9 (m2 (a6W false) (a8 2) (a8 1))) a2S [some (.val (.list (H.map tp))),some (.own ((ws H).map .str))]=some (.own ((X9 (ws H)).map .str)):=
  K4 i8 rfl (by decide) fun w hw=>⟨_,rfl,(by simp (disch:=omega) only [j0,b8,X5,d0,j4,l7,AF,AX,AQ,Ab,AZ,AU,AV,a4D]),fun _=>rfl⟩
 unfold a1g a6v
 simp (disch:=omega) only [b8,b7,a9,b5,g7,j3,P0,f8,a97,c8,g0,f7,h9,AF,AI,AS,AX,AQ,Ab,AZ,AU,AV,h,h2]
theorem a4K{H:List MV}(nd:H.Nodup)(hl:H.length<=1000):a1W [.list (H.map tp)]=some (.ow (.dct (C2 H))):=by
 have h:D5 1 (y8 (a8 0)) (g5 1) a0o a5r [some (.val (.list (H.map tp)))]=some (.own (H.map fun x=> .tuple [tp x,.bool true])):=Q1 H rfl (by lia) fun x hx=>⟨_,rfl,rfl⟩
 unfold a1W b0s
 simp (disch:=omega) only [A1,f8,f7,AF,AI,AS,AQ,Af,h,b66 nd (.own (H.map fun x=> .tuple [tp x,.bool true])) rfl]
 rfl
def nar(n:Int)(x:MV):MV:=(x.1,x.2.1 % n,x.2.2 % n)
theorem b4o{n:Int}(hn:0<n)(x:MV):a1X [.int n,tp x]=some (.val (tp (nar n x))):=by
 unfold a1X b0t tp nar
 simp (disch:=omega) only [u7,o0,t6,x6,j0,g9,b8,d0,b7,a9,b5,o8,f8,l8,f7,h9,AF,AI,AS,AQ,Af,AR,AY,↓reduceIte,sz,Nat.reduceAdd,Ad]
theorem c13{n:Nat}(h4:n<=8)(w:Str)(d:Nat)(A:List MV)(hl:A.length<=1000)(q4:Option i7):∃q4':Option i7,E8 [some (.val (.int n)),some (.val (.str w)),some (.own (A.map tp)),some (.val (.int (d:Nat))),q4]=some (.nx [some (.val (.int n)),some (.val (.str w)),some (.own ((A++a1q w d (2*n)).map tp)),some (.val (.int (d:Nat))),q4']):=by
 obtain⟨ρ1,e1,q,rfl⟩:=A5 (body:=N7) (tg:=g5 4) (fun j ρ=>∃q:Option i7,ρ=[some (.val (.int n)),some (.val (.str w)),some (.own ((A++a1q w d j).map tp)),some (.val (.int (d:Nat))),q])
  (ps:=P5 0 (2*n)) (ρ:=[some (.val (.int n)),some (.val (.str w)),some (.own (A.map tp)),some (.val (.int (d:Nat))),q4])
  (by
   rintro j p hp ρ ⟨q,rfl⟩
   obtain⟨rfl,hj⟩:=S6 hp
   have hj':(0:Int)+(j:Int)=(j:Int):=by lia
   rw [hj'] at hj ⊢
   refine K5 rfl (ρ2:=[some (.val (.int n)),some (.val (.str w)),some (.own ((A++a1q w d (j+1)).map tp)),some (.val (.int (d:Nat))),some (.val (.int (j:Nat)))]) ?_ ⟨_,rfl⟩
   unfold N7
   rw [Q0 (r:= .val (tp (trp w d j))) (by simp (disch:=omega) only [b8,d0,b7,a9,b5,o8,AF,AU,AV,AR,AY,↓reduceIte,sz,Nat.reduceAdd,Ad];rfl) rfl rfl (by rw [Ae,Ah,a7R];lia)]
   rw [a87,<-List.append_assoc,Az (l₂:=[trp w d j])]
   rfl) ⟨q4,by simp [a1q]⟩
 rw [G9,show((2*n:Int) - 0).toNat=2*n by lia] at e1
 refine⟨q, ?_⟩
 unfold E8
 simp (disch:=omega) only [L7,j0,g9,b8,b7,a9,b5,p9,v9,B8,AF]
 exact e1
theorem c1n{n:Nat}(h4:n<=8)(w:Str):F9 [.int n,.str w]=some (.own ((wid n w).map tp)):=by
 obtain⟨ρ1,e1,q3,q4,rfl⟩:=A5 (body:=E8) (tg:=g5 3) (fun j ρ=>∃q3 q4:Option i7,ρ=[some (.val (.int n)),some (.val (.str w)),some (.own ((a3t w j (2*n)).map tp)),q3,q4])
  (ps:=P5 0 (2*n)) (ρ:=[some (.val (.int n)),some (.val (.str w)),some (.own []),none,none])
  (by
   rintro j p hp ρ ⟨q3,q4,rfl⟩
   obtain⟨rfl,hj⟩:=S6 hp
   have hj':(0:Int)+(j:Int)=(j:Int):=by lia
   rw [hj'] at hj ⊢
   have hjn:j*(2*n)<=16*16:=Nat.mul_le_mul (by lia) (by lia)
   obtain⟨q4',e⟩:=c13 h4 w j (a3t w j (2*n)) (by rw [a7S];lia) q4
   refine K5 rfl e ⟨some (.val (.int (j:Nat))),q4', ?_⟩
   rw [a88]) ⟨none,none,by simp [a3t]⟩
 rw [G9,show((2*n:Int) - 0).toNat=2*n by lia] at e1
 unfold F9 a0O
 simp (disch:=omega) only [L7,j0,g9,b8,b7,a9,b5,x8,j3,P0,c8,g0,f7,h9,p9,v9,B8,AF,AI,AS,AX,AQ,Ab,AZ,AU,AV,AY,↓reduceIte,a2y,a2z,sz,Ad,e1]
 rfl
def n8(n:Nat)(H:List MV)(w:Str):List MV:=(wid n w).filter fun x=>decide (nar n x∈H)
theorem a8J(neg:Bool)(i:Nat)(mk:M)(ρ:c6):a3U neg i mk ρ=((mk ρ).bind P9).bind fun k=>(dvw i ρ).bind fun kvs=>some (.val (.bool (if neg then !(B0 kvs k).isSome else(B0 kvs k).isSome))):=Eq.trans rfl rfl
theorem b8z(n:Nat)(w:Str):(wid n w).length=2*n*(2*n):=by unfold wid;rw [a7S]
theorem b6S{n:Nat}(h4:n<=8)(w:Str):(wid n w).length<=256:=by
 rw [b8z]
 have:2*n*(2*n)<=16*16:=Nat.mul_le_mul (by lia) (by lia)
 lia
theorem a86{n:Nat}(h4:n<=8)(H:List MV)(w:Str):(n8 n H w).length<=256:=Nat.le_trans (List.length_filter_le _ _) (b6S h4 w)
theorem P6{n:Nat}{H:List MV}{w:Str}{x:MV}(h:x∈n8 n H w):x∈wid n w/\nar n x∈H:=by
 unfold n8 at h
 rw [List.mem_filter] at h
 exact⟨h.1,of_decide_eq_true h.2⟩
theorem c0x(H:List MV)(s0 s2 s3:Option i7):dvw 1 [s0,some (.val (dv (C2 H))),s2,s3]=some (C2 H):=a9q rfl
theorem b4H{n:Nat}(hn:0<n)(h4:n<=8)(H:List MV)(w:Str):C6 [.int n,dv (C2 H),.str w]=some (.own ((n8 n H w).map tp)):=by
 have h:D5 1 (y8 (m3 F9 (a6 (a8 0) (a6 (a8 2) c7)))) (g5 3) (N9 (a3U false 1 (m3 a1X (a6 (a8 0) (a6 (a8 3) c7))))) a0V [some (.val (.int n)),some (.val (dv (C2 H))),some (.val (.str w))]=some (.own ((n8 n H w).map tp)):=by
  refine K4 (wid n w) (Q2 (r:= .own ((wid n w).map tp)) (by simp (disch:=omega) only [b8,d0,b7,a9,b5,g7,AF,c1n h4 w]) rfl) (by have:=b6S h4 w;lia) fun x hx=>⟨[some (.val (.int n)),some (.val (dv (C2 H))),some (.val (.str w)),some (.val (tp x))],rfl, ?_,fun _=>rfl⟩
  have hd:=a50 H (nar n x)
  simp (disch:=omega) only [b8,d0,b7,a9,b5,g7,j4,l7,AF,↓reduceIte,Ax,b4o (n:=(n:Int)) (by lia) x,a8J,a3P,c0x,hd]
 unfold C6 a2M
 simp (disch:=omega) only [f8,a97,f7,h9,AF,AI,AS,AQ,Af,h]
theorem b50(L:List MV):ndL (L.map tp)=true:=by
 induction L with
 |nil=>rfl
 |cons x L ih=>rw [AI];show(nd (tp x)&& ndL (L.map tp))=true;rw [ih];rfl
theorem b3W{g:List PV->Option i7}{i:Nat}{m k:M}{ρ:c6}{p q:PV}{kvs:List (List m5×PV)}{r:i7}(h1:(m ρ).bind i7.toVal=some p)(h2:(k ρ).bind i7.toVal=some q)(h3:ρ[i]?=some (some (.ow (.dct kvs))))(h4:g [p,dv kvs,q]=some r)(h5:r.noD=true):a0n g i m k ρ=some r:=by
 unfold a0n
 rw [h1,AF,h2,AF,h3]
 show(g [p,dv kvs,q]).bind _=_
 rw [h4,AF,if_pos h5]
theorem b8I{α:Type}(l:List α):cut l none (some 1)=l.take 1:=by
 cases l with
 |nil=>rfl
 |cons a l=>
  show((a::l).drop 0).take (HT.sIx (l.length+1) (l.length+1) (some 1) - 0)=_
  have:HT.sIx (l.length+1) (l.length+1) (some 1)=1:=by
   have:=HT.sIx_nat (l.length+1) (l.length+1) 1
   rw [show((1:Nat):Int)=1 from rfl] at this
   rw [this];lia
  rw [this];rfl
theorem b7f{i:Nat}{m:M}{ρ:c6}{ps qs:List PV}(h1:m ρ=some (.own qs))(h2:ρ[i]?=some (some (.own ps)))(hl:ps.length+qs.length<=16777216):a6d i m ρ=some (.nx (ρ.set i (some (.own (ps++qs))))):=by
 unfold a6d
 rw [h1,AF]
 show(match ρ[i]? with|some (some (.ow (.lst ps)))=>_|_=>none)=_
 rw [h2]
 show(if ps.length+qs.length<=AM then _ else none)=_
 rw [if_pos (by rw [sizeLine_eq];exact hl)]
def a2H(n:Int)(x:MV):Bool:=(cnd x.1 x.2.1 x.2.2||cnd x.1 x.2.1 (x.2.2 - 2*n))||(cnd x.1 (x.2.1 - 2*n) x.2.2||cnd x.1 (x.2.1 - 2*n) (x.2.2 - 2*n))
section
variable {n:Nat}(hn:0<n)(h4:n<=8)
include hn h4
theorem c1G{w:Str}(hw:w∈i8){x:MV}(hx:x∈wid n w):P8 [.int n,tp x]=some (.val (.bool (a2H n x))):=by
 obtain⟨rfl,h1,h2⟩:=X6 hx
 exact b4l (C9 hw) (n:Int) (by lia) h1 h2
theorem c1F{w:Str}(hw:w∈i8){x:MV}(hx:x∈wid n w):E1 [.int n,tp x]=some (.val (.bool (a2H n x))):=by
 obtain⟨rfl,h1,h2⟩:=X6 hx
 exact b9z (K7 (C9 hw)) (n:Int) (by lia) _ _
end
def stP(n:Int)(x:MV):PV:=match C0 [.int n,tp x] with
 |some (.val s)=>s
 |_=> .none
theorem a7L{n:Nat}(hn:0<n)(h4:n<=8){w:Str}(hw:w∈i8){x:MV}(hx:x∈wid n w):C0 [.int n,tp x]=some (.val (stP n x))/\K0 [.int n,tp x]=some (.val (stP n x))/\(stP n x= .none\/∃y:MV,stP n x=tp y):=by
 obtain⟨e,h1,h2⟩:=X6 hx
 obtain⟨s,e1,e2,e3⟩:=b2y (w:=x.1) (by rw [e];exact C9 hw) (n:Int) (by lia) h1 h2
 have e1':C0 [.int n,tp x]=some (.val s):=e1
 have es:stP n x=s:=by unfold stP;rw [e1']
 rw [es]
 refine⟨e1',e2, ?_⟩
 rcases e3 with e3|⟨a,b,e3⟩
 ·exact .inl e3
 ·exact .inr ⟨(x.1,a,b),e3⟩
def out(n:Int)(H:List MV)(x:MV):Bool:= !((H.map tp).any fun p=>PyData.eqv p (stP n x))
theorem a9i(y:MV):∀L:List MV,((L.map tp).any fun p=>PyData.eqv p (tp y))=decide (y∈L)
 |[]=>rfl
 |z::L=>by
  rw [AI,List.any_cons,a9i y L,b9g]
  by_cases h:z=y
  ·subst h;simp
  ·have h':y≠z:=fun e=>h e.symm
   simp [h,h']
theorem a5V:∀L:List MV,((L.map tp).any fun p=>PyData.eqv p .none)=false
 |[]=>rfl
 |z::L=>by
  rw [AI,List.any_cons,a5V L,Bool.or_false]
  show PyData.eqv (.tuple [.str z.1,.int z.2.1,.int z.2.2]) .none=false
  simp only [PyData.eqv]
theorem a9K(i:Nat)(mk:M)(ρ:c6):a0W i mk ρ=((mk ρ).bind a7a).bind fun o=>match o with
 |none=>(match ρ[i]? with|some (some (.ow (.dct _)))=>some (.val (.bool true))|_=>none)
 |some k=>a6J true i ρ k:=Eq.trans rfl rfl
theorem b56{n:Nat}{x:MV}{H:List MV}{mk:M}{s0 s1 s3 s4:Option i7}(h:mk [s0,s1,some (.ow (.dct (C2 H))),s3,s4]=some (.val (stP n x)))(hs:stP n x= .none\/∃y:MV,stP n x=tp y):a0W 2 mk [s0,s1,some (.ow (.dct (C2 H))),s3,s4]=some (.val (.bool (out n H x))):=by
 rw [a9K,h]
 unfold out
 rcases hs with hs|⟨y,hs⟩
 ·rw [hs,a5V]
  rfl
 ·rw [hs,a9i]
  have hk:a7a (.val (tp y))=some (some (ky y)):=by
   show(P9 (.val (tp y))).map some=_
   rw [a3P];rfl
  show((a7a (.val (tp y))).bind _)=_
  rw [hk,AF]
  show a6J true 2 _ (ky y)=_
  rw [a4z,a4z,a6K,a50]
  rfl
def fnd(n:Nat)(H:List MV)(w:Str):List MV:=((n8 n H w).filter fun x=>a2H n x).take 1
theorem b1W(n:Nat)(H:List MV)(w:Str):(fnd n H w).length<=1:=by unfold fnd;rw [List.length_take];lia
def D9(n:Nat)(H:List MV)(l:List Str):List MV:=l.flatMap (fnd n H)
theorem a1e(n:Nat)(H:List MV):∀l:List Str,(D9 n H l).length<=l.length
 |[]=>Aa _
 |w::l=>by
  have h1:=a1e n H l
  have h2:=b1W n H w
  unfold D9 at h1 ⊢
  rw [List.flatMap_cons,Ah,AR]
  lia
theorem b0J(n:Nat)(H:List MV)(l:List Str)(w:Str):D9 n H (l++[w])=D9 n H l++fnd n H w:=by
 unfold D9
 rw [List.flatMap_append];simp
section
variable {n:Nat}(hn:0<n)(h4:n<=8){H:List MV}
include hn h4
theorem a5L{w:Str}{i:Nat}{m k:M}{ρ:c6}(h1:(m ρ).bind i7.toVal=some (.int n))(h2:(k ρ).bind i7.toVal=some (.str w))(h3:ρ[i]?=some (some (.ow (.dct (C2 H))))):a0n C6 i m k ρ=some (.own ((n8 n H w).map tp)):=
 b3W h1 h2 h3 (b4H hn h4 H w) (b50 _)
theorem b7H{w:Str}(hw:w∈i8)(A:List MV)(hA:A.length<=100)(s1 q5:Option i7):∃q5',K9 [some (.val (.int n)),s1,some (.ow (.dct (C2 H))),some (.own (A.map tp)),some (.val (.str w)),q5]=some (.nx [some (.val (.int n)),s1,some (.ow (.dct (C2 H))),some (.own ((A++fnd n H w).map tp)),some (.val (.str w)),q5']):=by
 have hc:D5 1 (y8 (a0n C6 2 (a8 0) (a8 4))) (g5 6) (mtV (m3 P8 (a6 (a8 0) (a6 (a8 6) c7)))) a1w [some (.val (.int n)),s1,some (.ow (.dct (C2 H))),some (.own (A.map tp)),some (.val (.str w)),q5]=some (.own (((n8 n H w).filter fun x=>a2H n x).map tp)):=by
  refine K4 (n8 n H w) (Q2 (r:= .own ((n8 n H w).map tp)) (a5L hn h4 rfl rfl rfl) rfl) (by have:=a86 h4 H w;lia) fun x hx=>⟨[some (.val (.int n)),s1,some (.ow (.dct (C2 H))),some (.own (A.map tp)),some (.val (.str w)),q5,some (.val (tp x))],rfl, ?_,fun _=>rfl⟩
  simp (disch:=omega) only [b8,d0,b7,a9,b5,g7,D8,a83,AF,c1G hn h4 hw (P6 hx).1]
 refine⟨some (.own (((n8 n H w).filter fun x=>a2H n x).map tp)), ?_⟩
 unfold K9
 simp (disch:=omega) only [j3,P0,c8,g0,AF,AU,AV,hc]
 rw [b7f (ps:=A.map tp) (qs:=(fnd n H w).map tp) ?_ rfl (by rw [Ae,Ae];have:=b1W n H w;lia),<-Az]
 ·rfl
 ·simp (disch:=omega) only [g9,X5,d0,AF,a7i,b2f,b2e,b7t]
  show gSl (.bor (((n8 n H w).filter fun x=>a2H n x).map tp)) none (some 1)=_
  show some (i7.own (cut (((n8 n H w).filter fun x=>a2H n x).map tp) none (some 1)))=_
  rw [b8I,<-List.map_take]
  rfl
theorem c0O(nd:H.Nodup)(hl:H.length<=1000):X4 [.int n,.list (H.map tp)]=some (.own ((D9 n H i8).map tp)):=by
 obtain⟨ρ1,e1,q4,q5,rfl⟩:=A5 (body:=K9) (tg:=g5 4) (fun j ρ=>∃q4 q5:Option i7,ρ=[some (.val (.int n)),some (.val (.list (H.map tp))),some (.ow (.dct (C2 H))),some (.own ((D9 n H (i8.take j)).map tp)),q4,q5])
  (ps:=i8.map .str) (ρ:=[some (.val (.int n)),some (.val (.list (H.map tp))),some (.ow (.dct (C2 H))),some (.own []),none,none])
  (by
   rintro j p hp ρ ⟨q4,q5,rfl⟩
   rw [Au] at hp
   cases hj:i8[j]? with
   |none=>rw [hj] at hp;cases hp
   |some w=>
    rw [hj] at hp
    cases hp
    have hw:w∈i8:=BB hj
    obtain⟨q5',e⟩:=b7H (H:=H) hn h4 hw (D9 n H (i8.take j)) (Nat.le_trans (a1e n H (i8.take j)) (Nat.le_trans (List.length_take_le' j i8) (by decide))) (some (.val (.list (H.map tp)))) q5
    refine K5 rfl e ⟨some (.val (.str w)),q5', ?_⟩
    rw [take_succ hj,b0J]) ⟨none,none,rfl⟩
 have e1':B2 K9 (g5 4) [.str (AD "cross"),.str (AD "flip"),.str (AD "other"),.str (AD "side")] [some (.val (.int n)),some (.val (.list (H.map tp))),some (.ow (.dct (C2 H))),some (.own []),none,none]=some (.nx [some (.val (.int n)),some (.val (.list (H.map tp))),some (.ow (.dct (C2 H))),some (.own ((D9 n H i8).map tp)),q4,q5]):=e1
 unfold X4 a3E
 simp (disch:=omega) only [g9,b8,d0,b7,a9,b5,x8,g7,j3,c8,g0,f7,h9,p9,AF,AI,AS,AX,AQ,Ab,AZ,AU,AV,AY,↓reduceIte,U9,B4,a2y,a2z,sz,Ad,a4K nd hl,a4q,I0,e1']
theorem b7g(f:MV->Bool)(F:PV->Option i7)(hF:∀x,F (tp x)=if f x=true then some (.val (tp x)) else none):∀L:List MV,(L.map tp).findSome? F=(L.find? f).map fun x=> .val (tp x):=by
 intro L
 induction L with
 |nil=>rfl
 |cons x L ih=>
  rw [AI,List.findSome?_cons,List.find?_cons,hF]
  cases h:f x with
  |true=>rfl
  |false=>exact ih
theorem b3e{w:Str}(hw:w∈i8)(s1 q4:Option i7):((n8 n H w).find? (out n H)=none/\∃q4',E4 [some (.val (.int n)),s1,some (.ow (.dct (C2 H))),some (.val (.str w)),q4]=some (.nx [some (.val (.int n)),s1,some (.ow (.dct (C2 H))),some (.val (.str w)),q4']))\/∃x,(n8 n H w).find? (out n H)=some x/\E4 [some (.val (.int n)),s1,some (.ow (.dct (C2 H))),some (.val (.str w)),q4]=some (.rt (.val (tp x))):=by
 let F:PV->Option i7:=fun p=>match p with
  | .tuple [.str a,.int b,.int c]=>if out n H (a,b,c)=true then some (.val p) else none
  |_=>none
 have hF:∀x,F (tp x)=if out n H x=true then some (.val (tp x)) else none:=fun x=>rfl
 have ev:∀x∈n8 n H w,N9 (a0W 2 (m3 C0 (a6 (a8 0) (a6 (a8 4) c7)))) [some (.val (.int n)),s1,some (.ow (.dct (C2 H))),some (.val (.str w)),some (.val (tp x))]=some (out n H x):=by
  intro x hx
  obtain⟨h1,_,h3⟩:=a7L hn h4 hw (P6 hx).1
  have hc:m3 C0 (a6 (a8 0) (a6 (a8 4) c7)) [some (.val (.int n)),s1,some (.ow (.dct (C2 H))),some (.val (.str w)),some (.val (tp x))]=some (.val (stP n x)):=by simp (disch:=omega) only [b8,d0,b7,a9,b5,g7,AF,h1]
  have hc':=b56 (n:=n) (x:=x) (H:=H) hc h3
  simp (disch:=omega) only [j4,l7,AF,hc']
 have run:=a4B (body:=U8) (tg:=g5 4) (I:=fun ρ=>∃q4:Option i7,ρ=[some (.val (.int n)),s1,some (.ow (.dct (C2 H))),some (.val (.str w)),q4]) (f:=F)
  (ps:=(n8 n H w).map tp) (ρ:=[some (.val (.int n)),s1,some (.ow (.dct (C2 H))),some (.val (.str w)),q4])
  (by
   rintro p hp ρ ⟨q4,rfl⟩ hf
   obtain⟨x,hx,rfl⟩:=Ag.mp hp
   rw [hF] at hf
   have ho:out n H x=false:=by
    cases h:out n H x with
    |false=>rfl
    |true=>rw [h,if_pos rfl] at hf;cases hf
   refine a41 rfl (ρ2:=[some (.val (.int n)),s1,some (.ow (.dct (C2 H))),some (.val (.str w)),some (.val (tp x))]) ?_ ⟨_,rfl⟩
   have ev:=ev x hx
   rw [ho] at ev
   unfold U8
   show G8 _ _ _ [some (.val (.int n)),s1,some (.ow (.dct (C2 H))),some (.val (.str w)),some (.val (tp x))]=_
   rw [g8,ev]
   rfl)
  (by
   rintro p hp ρ ⟨q4,rfl⟩ r hf
   obtain⟨x,hx,rfl⟩:=Ag.mp hp
   rw [hF] at hf
   split at hf
   ·rename_i ho
    cases hf
    refine⟨_,rfl, ?_⟩
    have ev:=ev x hx
    rw [ho] at ev
    unfold U8
    show G8 _ _ _ [some (.val (.int n)),s1,some (.ow (.dct (C2 H))),some (.val (.str w)),some (.val (tp x))]=_
    rw [g8,ev]
    rfl
   ·cases hf) ⟨q4,rfl⟩
 have hi:S3 (a0n C6 2 (a8 0) (a8 3)) [some (.val (.int n)),s1,some (.ow (.dct (C2 H))),some (.val (.str w)),q4]=some ((n8 n H w).map tp):=by
  rw [B4,a5L (w:=w) (H:=H) hn h4 rfl rfl rfl]
  rfl
 rw [b7g hn h4 _ _ hF] at run
 unfold E4
 rw [p9,hi,AF]
 rcases run with⟨h1,ρ',h2,q4',rfl⟩|⟨r,h1,h2⟩
 ·left
  refine⟨?_,q4',h2⟩
  cases h:(n8 n H w).find? (out n H) with
  |none=>rfl
  |some x=>rw [h] at h1;cases h1
 ·right
  cases h:(n8 n H w).find? (out n H) with
  |none=>rw [h] at h1;cases h1
  |some x=>
   rw [h] at h1
   cases h1
   exact⟨x,rfl,h2⟩
def lsP(n:Nat)(H:List MV):PV:=(((i8.flatMap (n8 n H)).find? (out n H)).map tp).getD .none
theorem c0L(nd:H.Nodup)(hl:H.length<=1000):a1i [.int n,.list (H.map tp)]=some (.val (lsP n H)):=by
 let F:PV->Option i7:=fun p=>match p with
  | .str w=>((n8 n H w).find? (out n H)).map fun x=> .val (tp x)
  |_=>none
 have hF:∀w,F (.str w)=((n8 n H w).find? (out n H)).map fun x=> .val (tp x):=fun w=>rfl
 have run:=a4B (body:=E4) (tg:=g5 3) (I:=fun ρ=>∃q3 q4:Option i7,ρ=[some (.val (.int n)),some (.val (.list (H.map tp))),some (.ow (.dct (C2 H))),q3,q4]) (f:=F)
  (ps:=i8.map .str) (ρ:=[some (.val (.int n)),some (.val (.list (H.map tp))),some (.ow (.dct (C2 H))),none,none])
  (by
   rintro p hp ρ ⟨q3,q4,rfl⟩ hf
   obtain⟨w,hw,rfl⟩:=Ag.mp hp
   rw [hF] at hf
   rcases b3e (H:=H) hn h4 hw (some (.val (.list (H.map tp)))) q4 with⟨_,q4',e⟩|⟨x,h,_⟩
   ·exact a41 rfl e ⟨_,_,rfl⟩
   ·rw [h] at hf;cases hf)
  (by
   rintro p hp ρ ⟨q3,q4,rfl⟩ r hf
   obtain⟨w,hw,rfl⟩:=Ag.mp hp
   rw [hF] at hf
   rcases b3e (H:=H) hn h4 hw (some (.val (.list (H.map tp)))) q4 with⟨h,_⟩|⟨x,h,e⟩
   ·rw [h] at hf;cases hf
   ·rw [h] at hf
    cases hf
    exact⟨_,rfl,e⟩) ⟨none,none,rfl⟩
 have hfs:∀l:List Str,(l.map PyData.str).findSome? F=((l.flatMap (n8 n H)).find? (out n H)).map fun x=> .val (tp x):=by
  intro l
  induction l with
  |nil=>rfl
  |cons w l ih=>
   rw [AI,List.findSome?_cons,hF,List.flatMap_cons,List.find?_append]
   cases h:(n8 n H w).find? (out n H) with
   |none=>exact ih
   |some x=>rfl
 rw [hfs] at run
 unfold lsP
 unfold a1i a6y
 rcases run with⟨h1,ρ',h2,q3,q4,rfl⟩|⟨r,h1,h2⟩
 ·have h2':B2 E4 (g5 3) [.str (AD "cross"),.str (AD "flip"),.str (AD "other"),.str (AD "side")] [some (.val (.int n)),some (.val (.list (H.map tp))),some (.ow (.dct (C2 H))),none,none]=_:=h2
  cases h:(i8.flatMap (n8 n H)).find? (out n H) with
  |some x=>rw [h] at h1;cases h1
  |none=>
   simp (disch:=omega) only [g9,b8,d0,b7,a9,b5,g7,j3,f8,l8,c8,g0,f7,h9,p9,AF,AI,AS,AX,AQ,Ab,AZ,AU,AV,U9,B4,a4K nd hl,a4q,I0,h2',Option.map_none,Option.getD_none]
 ·have h2':B2 E4 (g5 3) [.str (AD "cross"),.str (AD "flip"),.str (AD "other"),.str (AD "side")] [some (.val (.int n)),some (.val (.list (H.map tp))),some (.ow (.dct (C2 H))),none,none]=_:=h2
  cases h:(i8.flatMap (n8 n H)).find? (out n H) with
  |none=>rw [h] at h1;cases h1
  |some x=>
   rw [h] at h1
   cases h1
   simp (disch:=omega) only [g9,b8,d0,b7,a9,b5,g7,j3,c8,g0,u5,f7,h9,p9,AF,Ao,AI,AS,AX,AQ,Ab,AZ,AU,AV,U9,B4,a4K nd hl,a4q,I0,h2',Option.getD_some]
end
theorem c0y(H:List MV)(s0 s2 s3 s4 s5:Option i7):dvw 1 [s0,some (.val (dv (C2 H))),s2,s3,s4,s5]=some (C2 H):=a9q rfl
section
variable {n:Nat}(hn:0<n)(h4:n<=8){H:List MV}
include hn h4
theorem c11(w:Str)(d:Nat)(A:List MV)(hl:A.length<=1500)(q5:Option i7):∃q5':Option i7,R9 [some (.val (.int n)),some (.val (dv (C2 H))),some (.own (A.map tp)),some (.val (.str w)),some (.val (.int (d:Nat))),q5]=some (.nx [some (.val (.int n)),some (.val (dv (C2 H))),some (.own ((A++(a1q w d (2*n)).filter fun x=>decide (nar n x∈H)).map tp)),some (.val (.str w)),some (.val (.int (d:Nat))),q5']):=by
 obtain⟨ρ1,e1,q,rfl⟩:=A5 (body:=R8) (tg:=g5 5) (fun j ρ=>∃q:Option i7,ρ=[some (.val (.int n)),some (.val (dv (C2 H))),some (.own ((A++(a1q w d j).filter fun x=>decide (nar n x∈H)).map tp)),some (.val (.str w)),some (.val (.int (d:Nat))),q])
  (ps:=P5 0 (2*n)) (ρ:=[some (.val (.int n)),some (.val (dv (C2 H))),some (.own (A.map tp)),some (.val (.str w)),some (.val (.int (d:Nat))),q5])
  (by
   rintro j p hp ρ ⟨q,rfl⟩
   obtain⟨rfl,hj⟩:=S6 hp
   have hj':(0:Int)+(j:Int)=(j:Int):=by lia
   rw [hj'] at hj ⊢
   have hin':∀q:Option i7,a3U false 1 (A7 (a6 (a8 3) (a6 (m2 (S8 (fun _ j=>0<j) fun i j=> .int (i % j)) (a8 4) (a8 0)) (a6 (m2 (S8 (fun _ j=>0<j) fun i j=> .int (i % j)) (a8 5) (a8 0)) c7)))) [some (.val (.int n)),some (.val (dv (C2 H))),q,some (.val (.str w)),some (.val (.int (d:Nat))),some (.val (.int (j:Nat)))]=some (.val (.bool (decide (nar n (trp w d j)∈H)))):=fun q=>by
    have hd:=a50 H (nar n (trp w d j))
    have kk:P9 (.val (.tuple [.str w,.int ((d:Int) %(n:Int)),.int ((j:Int) %(n:Int))]))=some (ky (nar n (trp w d j))):=a3P (nar n (trp w d j))
    simp (disch:=omega) only [u7,j0,b8,d0,b7,a9,b5,o8,AF,AR,AY,↓reduceIte,Ax,sz,Nat.reduceAdd,Ad,a8J,kk,c0y,hd]
   have hlen:((a1q w d j).filter fun x=>decide (nar n x∈H)).length<=j:=Nat.le_trans (List.length_filter_le _ _) (by rw [a7R];exact Aa _)
   rw [a87,List.filter_append]
   by_cases hm:nar n (trp w d j)∈H
   ·have hin2:=fun q=>(hin' q).trans (by rw [decide_eq_true hm])
    refine K5 rfl (ρ2:=[some (.val (.int n)),some (.val (dv (C2 H))),some (.own ((A++((a1q w d j).filter (fun x=>decide (nar n x∈H))++[trp w d j])).map tp)),some (.val (.str w)),some (.val (.int (d:Nat))),some (.val (.int (j:Nat)))]) ?_ ⟨some (.val (.int (j:Nat))),by rw [show [trp w d j].filter (fun x=>decide (nar n x∈H))=[trp w d j] from by rw [List.filter_cons,if_pos (decide_eq_true hm)];rfl]⟩
    unfold R8
    simp (disch:=omega) only [g8,A6,j4,l7,AF,AU,AV,hin2]
    rw [Q0 (r:= .val (tp (trp w d j))) (by simp (disch:=omega) only [b8,d0,b7,a9,b5,o8,AF,AR,AY,↓reduceIte,sz,Nat.reduceAdd,Ad];rfl) rfl rfl (by rw [Ae,Ah];lia),<-List.append_assoc,Az (l₂:=[trp w d j])]
    rfl
   ·have hin2:=fun q=>(hin' q).trans (by rw [decide_eq_false hm])
    refine K5 rfl (ρ2:=[some (.val (.int n)),some (.val (dv (C2 H))),some (.own ((A++(a1q w d j).filter fun x=>decide (nar n x∈H)).map tp)),some (.val (.str w)),some (.val (.int (d:Nat))),some (.val (.int (j:Nat)))]) ?_ ⟨some (.val (.int (j:Nat))),by rw [show [trp w d j].filter (fun x=>decide (nar n x∈H))=[] from by rw [List.filter_cons,if_neg (by rw [decide_eq_false hm];exact Al)];rfl,Af]⟩
    unfold R8
    simp (disch:=omega) only [g8,z8,k9,j4,l7,AF,AU,AV,hin2]) ⟨q5,by simp [a1q]⟩
 rw [G9,show((2*n:Int) - 0).toNat=2*n by lia] at e1
 refine⟨q, ?_⟩
 unfold R9
 simp (disch:=omega) only [L7,j0,g9,b8,b7,a9,b5,p9,v9,B8,AF]
 exact e1
theorem c12(w:Str)(A:List MV)(hl:A.length<=1100)(q4 q5:Option i7):∃q4' q5':Option i7,M5 [some (.val (.int n)),some (.val (dv (C2 H))),some (.own (A.map tp)),some (.val (.str w)),q4,q5]=some (.nx [some (.val (.int n)),some (.val (dv (C2 H))),some (.own ((A++n8 n H w).map tp)),some (.val (.str w)),q4',q5']):=by
 obtain⟨ρ1,e1,q4',q5',rfl⟩:=A5 (body:=R9) (tg:=g5 4) (fun j ρ=>∃q4 q5:Option i7,ρ=[some (.val (.int n)),some (.val (dv (C2 H))),some (.own ((A++(a3t w j (2*n)).filter fun x=>decide (nar n x∈H)).map tp)),some (.val (.str w)),q4,q5])
  (ps:=P5 0 (2*n)) (ρ:=[some (.val (.int n)),some (.val (dv (C2 H))),some (.own (A.map tp)),some (.val (.str w)),q4,q5])
  (by
   rintro j p hp ρ ⟨q4,q5,rfl⟩
   obtain⟨rfl,hj⟩:=S6 hp
   have hj':(0:Int)+(j:Int)=(j:Int):=by lia
   rw [hj'] at hj ⊢
   have hjn:j*(2*n)<=16*16:=Nat.mul_le_mul (by lia) (by lia)
   have hlen:((a3t w j (2*n)).filter fun x=>decide (nar n x∈H)).length<=j*(2*n):=Nat.le_trans (List.length_filter_le _ _) (by rw [a7S];exact Aa _)
   obtain⟨q5',e⟩:=c11 (H:=H) hn h4 w j (A++(a3t w j (2*n)).filter fun x=>decide (nar n x∈H)) (by rw [Ah];lia) q5
   refine K5 rfl e ⟨some (.val (.int (j:Nat))),q5', ?_⟩
   rw [a88,List.filter_append,List.append_assoc]) ⟨q4,q5,by simp [a3t]⟩
 rw [G9,show((2*n:Int) - 0).toNat=2*n by lia] at e1
 refine⟨q4',q5', ?_⟩
 unfold M5
 simp (disch:=omega) only [L7,j0,g9,b8,b7,a9,b5,p9,v9,B8,AF]
 exact e1
def wds(n:Nat)(H:List MV)(l:List Str):List MV:=l.flatMap (n8 n H)
theorem b2D(l:List Str):(wds n H l).length<=l.length*256:=by
 unfold wds
 induction l with
 |nil=>simp
 |cons w l ih=>
  rw [List.flatMap_cons,Ah,AR]
  have:=a86 h4 H w
  lia
theorem c1m:a0i [.int n,dv (C2 H)]=some (.own ((wds n H i8).map tp)):=by
 obtain⟨ρ1,e1,q3,q4,q5,rfl⟩:=A5 (body:=M5) (tg:=g5 3) (fun j ρ=>∃q3 q4 q5:Option i7,ρ=[some (.val (.int n)),some (.val (dv (C2 H))),some (.own ((wds n H (i8.take j)).map tp)),q3,q4,q5])
  (ps:=i8.map .str) (ρ:=[some (.val (.int n)),some (.val (dv (C2 H))),some (.own []),none,none,none])
  (by
   rintro j p hp ρ ⟨q3,q4,q5,rfl⟩
   rw [Au] at hp
   cases hj:i8[j]? with
   |none=>rw [hj] at hp;cases hp
   |some w=>
    rw [hj] at hp
    cases hp
    have hle:(i8.take j).length<=4:=Nat.le_trans (List.length_take_le' j i8) (by decide)
    have hwl:=b2D (H:=H) hn h4 (i8.take j)
    obtain⟨q4',q5',e⟩:=c12 (H:=H) hn h4 w (wds n H (i8.take j)) (by lia) q4 q5
    refine K5 rfl e ⟨some (.val (.str w)),q4',q5', ?_⟩
    have:wds n H (i8.take j++[w])=wds n H (i8.take j)++n8 n H w:=by
     unfold wds
     rw [List.flatMap_append];simp
    rw [take_succ hj,this]) ⟨none,none,none,rfl⟩
 have e1':B2 M5 (g5 3) [.str (AD "cross"),.str (AD "flip"),.str (AD "other"),.str (AD "side")] [some (.val (.int n)),some (.val (dv (C2 H))),some (.own []),none,none,none]=some (.nx [some (.val (.int n)),some (.val (dv (C2 H))),some (.own ((wds n H i8).map tp)),q3,q4,q5]):=e1
 unfold a0i a5j
 simp (disch:=omega) only [g9,b7,a9,b5,o8,x8,j3,P0,c8,g0,f7,h9,p9,AF,AI,AS,AX,AQ,Ab,AZ,AU,AV,AR,AY,↓reduceIte,U9,B4,a2y,a2z,sz,Nat.reduceAdd,Ad,e1']
end
theorem b27:∀H:List MV,((C2 H).mapM fun e=>b5r e.1)=some (H.map fun x=>PyData.str x.1)
 |[]=>rfl
 |x::H=>by
  show((ky x,PyData.bool true)::C2 H).mapM (fun e=>b5r e.1)=_
  rw [List.mapM_cons,b27 H]
  rfl
theorem b7M{i n:Nat}{x:MV}{H:List MV}{mk:M}{ρ:c6}(h:mk ρ=some (.val (stP n x)))(hd:dvw i ρ=some (C2 H))(hs:stP n x= .none\/∃y:MV,stP n x=tp y):Y0 i mk ρ=some (.val (.bool (out n H x))):=by
 unfold Y0
 rw [h]
 unfold out
 rcases hs with hs|⟨y,hs⟩
 ·rw [hs,a5V]
  show(dvw i ρ).bind _=_
  rw [hd]
  rfl
 ·rw [hs,a9i]
  have hk:a7a (.val (tp y))=some (some (ky y)):=by
   show(P9 (.val (tp y))).map some=_
   rw [a3P];rfl
  show((a7a (.val (tp y))).bind _)=_
  rw [hk,AF]
  show(dvw i ρ).bind _=_
  rw [hd,AF,a50]
theorem a6X(b:Bool):b0L (.val (.bool b))=some (.val (.int (if b=true then 1 else 0))):=Eq.trans rfl rfl
theorem b3j{n:Nat}{H:List MV}{x:MV}(h:x∈wds n H i8):∃w∈i8,x∈wid n w:=by
 unfold wds at h
 obtain⟨w,hw,h⟩:=List.mem_flatMap.mp h
 exact⟨w,hw,(P6 h).1⟩
theorem b3p{n:Nat}{H:List MV}(p:MV->Bool)(w:Str):∀{l:List Str},l.Nodup->(wds n H l).filter (fun x=>(x.1==w)&& p x)=if w∈l then(n8 n H w).filter p else []
 |[],_=>rfl
 |a::l,hd=>by
  obtain⟨ha,hl⟩:=List.nodup_cons.mp hd
  have ih:=b3p (n:=n) (H:=H) p w hl
  have:wds n H (a::l)=n8 n H a++wds n H l:=by unfold wds;rw [List.flatMap_cons]
  rw [this,List.filter_append,ih]
  by_cases h:a=w
  ·subst h
   rw [if_pos Am,if_neg ha,Af]
   apply List.filter_congr
   intro x hx
   rw [(X6 (P6 hx).1).1,beq_self_eq_true,Bool.true_and]
  ·have h0:(n8 n H a).filter (fun x=>(x.1==w)&& p x)=[]:=by
    rw [List.filter_eq_nil_iff]
    intro x hx
    rw [(X6 (P6 hx).1).1,beq_eq_false_iff_ne.mpr h,Bool.false_and]
    exact Al
   rw [h0,AZ]
   by_cases hw:w∈l
   ·rw [if_pos hw,if_pos (Ak _ hw)]
   ·rw [if_neg hw,if_neg (fun h'=>by rcases Ap.mp h' with e|e;exact h e.symm;exact hw e)]
theorem b9C{n:Nat}{H:List MV}{w:Str}(h:w∉ws H):n8 n H w=[]:=by
 unfold n8
 rw [List.filter_eq_nil_iff]
 intro x hx hc
 apply h
 have hm:=of_decide_eq_true hc
 unfold ws
 rw [<-(X6 hx).1]
 exact Ag.mpr ⟨nar n x,hm,rfl⟩
theorem a6T(n:Nat)(H:List MV):∀l:List Str,D9 n H (l.filter fun w=>decide (w∈ws H))=D9 n H l
 |[]=>rfl
 |w::l=>by
  have ih:=a6T n H l
  unfold D9 at ih ⊢
  rw [List.filter_cons,List.flatMap_cons]
  by_cases h:w∈ws H
  ·rw [if_pos (decide_eq_true h),List.flatMap_cons,ih]
  ·rw [if_neg (by rw [decide_eq_false h];exact Al),ih]
   have:fnd n H w=[]:=by unfold fnd;rw [b9C h];rfl
   rw [this,AZ]
theorem c0C(m:MS){a b c d f g h i:Option i7}{ps:List PV}:a7f 4 m [a,b,c,d,some (.own ps),f,g,h,i]=m [a,b,c,d,some (.val (.list ps)),f,g,h,i]:=Eq.trans rfl rfl
theorem c0D(m:MS){a b c d f g h i:Option i7}{p:PV}:a7f 4 m [a,b,c,d,some (.val p),f,g,h,i]=m [a,b,c,d,some (.val p),f,g,h,i]:=Eq.trans rfl rfl
theorem c0E(m:MS){a b c d e f h i:Option i7}{ps:List PV}:a7f 6 m [a,b,c,d,e,f,some (.own ps),h,i]=m [a,b,c,d,e,f,some (.val (.list ps)),h,i]:=Eq.trans rfl rfl
section
variable {n:Nat}(hn:0<n)(h4:n<=8){H:List MV}
include hn h4
theorem b73{w:Str}(hw:w∈i8)(A:List MV)(hA:A.length<=100)(s1 s2 s3 s4 s8:Option i7):R6 [some (.val (.int n)),s1,s2,s3,s4,some (.own ((wds n H i8).map tp)),some (.own (A.map tp)),some (.val (.str w)),s8]=some (.nx [some (.val (.int n)),s1,s2,s3,s4,some (.own ((wds n H i8).map tp)),some (.own ((A++fnd n H w).map tp)),some (.val (.str w)),s8]):=by
 have hW:(wds n H i8).length<=1024:=b2D (H:=H) hn h4 i8
 have hc:D5 1 (y8 (a8 5)) (g5 9) (a5x (N9 (m2 gEq (m2 v6 (a8 9) (mC (.int 0))) (a8 7))) (mtV (m3 E1 (a6 (a8 0) (a6 (a8 9) c7))))) S1 [some (.val (.int n)),s1,s2,s3,s4,some (.own ((wds n H i8).map tp)),some (.own (A.map tp)),some (.val (.str w)),s8]=some (.own (((n8 n H w).filter fun x=>a2H n x).map tp)):=by
  have:=K4 (ι:=tp) (f:=tp) (q:=fun x=>(x.1==w)&& a2H n x) (k:=1) (it:=y8 (a8 5)) (c:=a5x (N9 (m2 gEq (m2 v6 (a8 9) (mC (.int 0))) (a8 7))) (mtV (m3 E1 (a6 (a8 0) (a6 (a8 9) c7))))) (elt:=S1) (tg:=g5 9) (ρ:=[some (.val (.int n)),s1,s2,s3,s4,some (.own ((wds n H i8).map tp)),some (.own (A.map tp)),some (.val (.str w)),s8]) (wds n H i8) rfl (by lia) (fun x hx=>⟨[some (.val (.int n)),s1,s2,s3,s4,some (.own ((wds n H i8).map tp)),some (.own (A.map tp)),some (.val (.str w)),s8,some (.val (tp x))],rfl,(by
   obtain⟨w',hw',hx'⟩:=b3j hx
   have hm:=c1F hn h4 hw' hx'
   have hi:v6 (.val (tp x)) (.val (.int 0))=some (.val (.str x.1)):=rfl
   cases h:(x.1==w) with
   |true=>simp (disch:=omega) only [j0,g9,b8,d0,b7,a9,b5,g7,D8,j4,l7,a83,Q3,a9g,AF,hi,b29,h,hm,Bool.true_and]
   |false=>simp (disch:=omega) only [j0,g9,b8,d0,j4,l7,Q3,a9f,AF,hi,b29,h,hm,Bool.false_and]),fun _=>rfl⟩)
  rw [this,b3p (fun x=>a2H n x) w b4Z,if_pos hw]
 have hs:a7h (D5 1 (y8 (a8 5)) (g5 9) (a5x (N9 (m2 gEq (m2 v6 (a8 9) (mC (.int 0))) (a8 7))) (mtV (m3 E1 (a6 (a8 0) (a6 (a8 9) c7))))) S1) a7k (a7l (mC (.int 1))) [some (.val (.int n)),s1,s2,s3,s4,some (.own ((wds n H i8).map tp)),some (.own (A.map tp)),some (.val (.str w)),s8]=some (.own ((fnd n H w).map tp)):=by
  rw [a7i,hc]
  show some (i7.own (cut (((n8 n H w).filter fun x=>a2H n x).map tp) none (some 1)))=_
  rw [b8I,<-List.map_take]
  rfl
 have ha:C7 (.bor (A.map tp)) (.own ((fnd n H w).map tp))=some (.own ((A++fnd n H w).map tp)):=by
  rw [b28 (by rw [Ae,Ae,sizeLine_eq];have:=b1W n H w;lia),<-Az]
 unfold R6
 rw [j3,j0,hs]
 show(C7 (.bor (A.map tp)) (.own ((fnd n H w).map tp))).bind _=_
 rw [ha]
 rfl
theorem b1f(hl:H.length<=1000)(ht:AD "turn"∈ws H->AD "half"∈ws H):J9 [.int n,dv (C2 H)]=some (.val (.tuple [.int (tn4 (ws H)),.list ((X9 (ws H)).map .str),.list ((D9 n H i8).map tp),lsP n H])):=by
 have hW:(wds n H i8).length<=1024:=b2D (H:=H) hn h4 i8
 have c1:∀s2 s3 s4 s5 s6 s7 s8:Option i7,a6a 1 [some (.val (.int n)),some (.val (dv (C2 H))),s2,s3,s4,s5,s6,s7,s8]=some (.own ((ws H).map .str)):=fun s2 s3 s4 s5 s6 s7 s8=>by
  unfold a6a
  rw [show dvw 1 [some (.val (.int n)),some (.val (dv (C2 H))),s2,s3,s4,s5,s6,s7,s8]=some (C2 H) from a9q rfl,AF,if_pos (by rw [b2R,sizeLine_eq];lia),b27,<-b2F]
  rfl
 have c2:∀s0 s1 s3 s4 s5 s6 s7 s8:Option i7,D5 1 (y8 (A7 (a6 (mC (.str (AD "cross"))) (a6 (mC (.str (AD "flip"))) (a6 (mC (.str (AD "other"))) (a6 (mC (.str (AD "side"))) c7)))))) (g5 9) (N9 (m2 (a6W false) (a8 9) (a8 2))) a10 [s0,s1,some (.own ((ws H).map .str)),s3,s4,s5,s6,s7,s8]=some (.own ((X9 (ws H)).map .str)):=fun s0 s1 s3 s4 s5 s6 s7 s8=>
  K4 i8 rfl (by decide) fun w hw=>⟨[s0,s1,some (.own ((ws H).map .str)),s3,s4,s5,s6,s7,s8,some (.val (.str w))],rfl,(by simp (disch:=omega) only [j0,b8,X5,d0,j4,l7,AF,a4D]),fun _=>rfl⟩
 have tnum:(1:Int)+(if decide (AD "half"∈ws H)=true then 1 else 0)+2*(if decide (AD "turn"∈ws H)=true then 1 else 0)=tn4 (ws H):=by
  unfold tn4
  by_cases h1:AD "turn"∈ws H
  ·have h2:=ht h1
   rw [decide_eq_true h1,decide_eq_true h2,if_pos rfl,if_pos h1];rfl
  ·rw [decide_eq_false h1,if_neg Al,if_neg h1]
   by_cases h2:AD "half"∈ws H
   ·rw [decide_eq_true h2,if_pos rfl,if_pos h2];rfl
   ·rw [decide_eq_false h2,if_neg Al,if_neg h2];rfl
 have hbl:∀w∈X9 (ws H),w∈i8:=fun w hw=>by unfold X9 at hw;exact(List.mem_filter.mp hw).1
 have hbn:(X9 (ws H)).length<=4:=by unfold X9;exact Nat.le_trans (List.length_filter_le _ _) (by decide)
 obtain⟨ρ1,e1,q7,rfl⟩:=A5 (body:=R6) (tg:=g5 7) (fun j ρ=>∃q7:Option i7,ρ=[some (.val (.int n)),some (.val (dv (C2 H))),some (.own ((ws H).map .str)),some (.val (.int (tn4 (ws H)))),some (.val (.list ((X9 (ws H)).map .str))),some (.own ((wds n H i8).map tp)),some (.own ((D9 n H ((X9 (ws H)).take j)).map tp)),q7,none])
  (ps:=(X9 (ws H)).map .str) (ρ:=[some (.val (.int n)),some (.val (dv (C2 H))),some (.own ((ws H).map .str)),some (.val (.int (tn4 (ws H)))),some (.val (.list ((X9 (ws H)).map .str))),some (.own ((wds n H i8).map tp)),some (.own []),none,none])
  (by
   rintro j p hp ρ ⟨q7,rfl⟩
   rw [Au] at hp
   cases hj:(X9 (ws H))[j]? with
   |none=>rw [hj] at hp;cases hp
   |some w=>
    rw [hj] at hp
    cases hp
    have hw:w∈i8:=hbl w (BB hj)
    refine K5 rfl (b73 (H:=H) hn h4 hw (D9 n H ((X9 (ws H)).take j)) (Nat.le_trans (a1e n H _) (Nat.le_trans (List.length_take_le' j _) (by lia))) _ _ _ _ none) ⟨some (.val (.str w)), ?_⟩
    rw [take_succ hj,b0J]) ⟨none,rfl⟩
 rw [Ae,List.take_length,show D9 n H (X9 (ws H))=D9 n H i8 from by unfold X9;exact a6T n H i8] at e1
 have c3:∀s2 s3 s4 s6 s7 s8:Option i7,D5 1 (y8 (a8 5)) (g5 9) (N9 (Y0 1 (m3 K0 (a6 (a8 0) (a6 (a8 9) c7))))) a11 [some (.val (.int n)),some (.val (dv (C2 H))),s2,s3,s4,some (.own ((wds n H i8).map tp)),s6,s7,s8]=some (.own (((wds n H i8).filter (out n H)).map tp)):=fun s2 s3 s4 s6 s7 s8=>
  K4 (wds n H i8) rfl (by lia) fun x hx=>⟨[some (.val (.int n)),some (.val (dv (C2 H))),s2,s3,s4,some (.own ((wds n H i8).map tp)),s6,s7,s8,some (.val (tp x))],rfl,(by
   obtain⟨w',hw',hx'⟩:=b3j hx
   obtain⟨_,h2,h3⟩:=a7L hn h4 hw' hx'
   have h5:=b7M (i:=1) (mk:=m3 K0 (a6 (a8 0) (a6 (a8 9) c7))) (ρ:=[some (.val (.int n)),some (.val (dv (C2 H))),s2,s3,s4,some (.own ((wds n H i8).map tp)),s6,s7,s8,some (.val (tp x))]) (H:=H) (n:=n) (x:=x) (by simp (disch:=omega) only [b8,d0,b7,a9,b5,g7,AF,h2]) (a9q rfl) h3
   rw [j4,h5]
   rfl),fun _=>rfl⟩
 have c4:C7 (.bor (((wds n H i8).filter (out n H)).map tp)) (.own [.none])=some (.own (((wds n H i8).filter (out n H)).map tp++[.none])):=
  b28 (by rw [Ae,sizeLine_eq];have:=List.length_filter_le (out n H) (wds n H i8);simp only [AR,AY];lia)
 have c5:v6 (.own (((wds n H i8).filter (out n H)).map tp++[.none])) (.val (.int 0))=some (.val (lsP n H)):=by
  have hf:∀l:List MV,v6 (.own ((l.filter (out n H)).map tp++[.none])) (.val (.int 0))=some (.val (((l.find? (out n H)).map tp).getD .none)):=by
   intro l
   induction l with
   |nil=>rfl
   |cons x l ih=>
    rw [List.filter_cons,List.find?_cons]
    cases h:out n H x with
    |true=>
     have:L2.atI (tp x::((l.filter (out n H)).map tp++[.none])) (((0:Nat):Nat):Int)=some (tp x):=by rw [b8E];rfl
     show v6 (.own (tp x::((l.filter (out n H)).map tp++[.none]))) (.val (.int ((0:Nat):Int)))=some (.val (tp x))
     simp [v6,i7.rd,X2.rd,PyData.items?]
     exact this
    |false=>exact ih
  exact hf _
 unfold J9 a5e
 simp (disch:=omega) only [y4,L7,j0,A1,g9,X5,d0,j3,u6,P0,c8,g0,f7,AF,AI,AS,AX,AQ,Ab,AZ,AU,AV,c1,a4D,a6X]
 rw [tnum]
 simp (disch:=omega) only [b8,d0,b7,a9,b5,x8,g7,j3,P0,c8,g0,AF,AU,AV,AY,↓reduceIte,sz,Ad,c2,c1m (H:=H) hn h4]
 simp (disch:=omega) only [j0,g9,b8,X5,d0,b7,a9,b5,o8,x8,j3,P0,f8,l8,c8,g0,h9,p9,AF,AU,AV,AR,AY,↓reduceIte,P4,B4,sz,Nat.reduceAdd,Ad,c0C,e1,c3,c0E,c0D,c4,c5]
end
def lsN(n:Nat)(H:List MV):Bool:=((i8.flatMap (n8 n H)).find? (out n H)).isNone
def wrd(t:Int)(b k:Nat)(l:Bool):Str:=
 if t=1 then(if b=0 then AD "p1" else if k=0 then AD "pg" else if l=true then AD "pm" else AD "cm")
 else if t=2 then(if b=0 then AD "p2" else if k=0 then AD "pgg" else if k=1 then AD "pmg" else if l=true then AD "pmm" else AD "cmm")
 else(if b=0 then AD "p4" else if k=4 then AD "p4m" else AD "p4g")
theorem b5O(n:Nat)(H:List MV):(lsN n H=true/\lsP n H= .none)\/(lsN n H=false/\∃x:MV,lsP n H=tp x):=by
 unfold lsN lsP
 cases(i8.flatMap (n8 n H)).find? (out n H) with
 |none=>exact .inl ⟨rfl,rfl⟩
 |some x=>exact .inr ⟨rfl,x,rfl⟩
theorem b13(n:Nat)(H:List MV):b0M false (.val (lsP n H)) (.val .none)=some (.val (.bool (lsN n H))):=by
 rcases b5O n H with⟨a,b⟩|⟨a,x,b⟩
 ·rw [a,b];rfl
 ·rw [a,b];rfl
theorem b1p:tru (.val (.list []))=some false:=rfl
theorem a4i(p:PV)(l:List PV):tru (.val (.list (p::l)))=some true:=rfl
theorem a5s(l:List PV):Y8 (.val (.list l))=some (.val (.int (l.length:Int))):=rfl
theorem kt1(n:Nat)(H:List MV)(B M:List PV):N1 [.list B,.list M,lsP n H]=some (.val (.str (wrd 1 B.length M.length (lsN n H)))):=by
 have hl:=b13 n H
 unfold N1 a0L
 cases B with
 |nil=>simp (disch:=omega) only [g9,b8,f8,l8,c8,u5,g8,A6,f7,h9,D8,C8,AF,Ao,AI,AS,AQ,Af,AY,Bool.not_false,b1p];rfl
 |cons b B=>
  cases M with
  |nil=>simp (disch:=omega) only [g9,b8,d0,f8,l8,c8,g0,u5,g8,A6,z8,k9,f7,h9,D8,C8,AF,Ao,AI,AS,AQ,Af,AR,AY,Bool.not_true,Bool.not_false,b1p,a4i];rfl
  |cons m M=>
   generalize lsP n H=P at hl ⊢
   cases h:lsN n H with
   |true=>rw [h] at hl;simp (disch:=omega) only [j0,g9,b8,d0,f8,l8,c8,g0,u5,g8,A6,z8,k9,f7,h9,D8,j4,l7,C8,AF,Ao,AI,AS,AQ,Af,AR,Bool.not_true,a4i,hl];rfl
   |false=>rw [h] at hl;simp (disch:=omega) only [j0,g9,b8,d0,f8,l8,c8,g0,g8,z8,k9,f7,h9,D8,j4,l7,C8,AF,Ao,AI,AS,AQ,Af,AR,Bool.not_true,a4i,hl];rfl
theorem kt2(n:Nat)(H:List MV)(B M:List PV)(hM:M.length<=100):N2 [.list B,.list M,lsP n H]=some (.val (.str (wrd 2 B.length M.length (lsN n H)))):=by
 have hl:=b13 n H
 unfold N2 a0M
 match B,M,hM with
 |[],_,_=>simp (disch:=omega) only [g9,b8,f8,l8,c8,u5,g8,A6,f7,h9,D8,C8,AF,Ao,AI,AS,AQ,Af,AY,Bool.not_false,b1p];rfl
 |b::B,[],_=>simp (disch:=omega) only [g9,b8,d0,f8,l8,c8,g0,u5,g8,A6,z8,k9,f7,h9,D8,C8,AF,Ao,AI,AS,AQ,Af,AR,AY,Bool.not_true,Bool.not_false,b1p,a4i];rfl
 |b::B,[m],_=>simp (disch:=omega) only [F8,j0,A1,g9,b8,d0,f8,l8,c8,g0,u5,g8,A6,z8,k9,f7,h9,D8,j4,l7,C8,AF,Ao,AI,AS,AQ,Af,AR,AY,Bool.not_true,Nat.reduceAdd,Int.cast_ofNat_Int,beq_self_eq_true,E6,a4i];rfl
 |b::B,m::m'::M,hM=>
  have hne:(((M.length+1+1:Nat):Int)==1)=false:=by
   rw [beq_eq_false_iff_ne];lia
  generalize lsP n H=P at hl ⊢
  cases h:lsN n H with
  |true=>rw [h] at hl;simp (disch:=omega) only [F8,j0,A1,g9,b8,d0,f8,l8,c8,g0,u5,g8,A6,z8,k9,f7,h9,D8,j4,l7,C8,AF,Ao,AI,AS,AQ,Af,AR,Bool.not_true,E6,a4i,hl,a5s,hne];rfl
  |false=>rw [h] at hl;simp (disch:=omega) only [F8,j0,A1,g9,b8,d0,f8,l8,c8,g0,g8,z8,k9,f7,h9,D8,j4,l7,C8,AF,Ao,AI,AS,AQ,Af,AR,Bool.not_true,E6,a4i,hl,a5s,hne];rfl
theorem kt4(B M:List PV)(hM:M.length<=100)(l:Bool):N3 [.list B,.list M]=some (.val (.str (wrd 4 B.length M.length l))):=by
 unfold N3 a0N
 cases B with
 |nil=>simp (disch:=omega) only [g9,b8,f8,l8,c8,u5,g8,A6,f7,h9,D8,C8,AF,Ao,AI,AS,AQ,Af,AY,Bool.not_false,b1p];rfl
 |cons b B=>
  by_cases h:M.length=4
  ·have e:((M.length:Int)==4)=true:=by rw [beq_iff_eq];lia
   simp (disch:=omega) only [F8,j0,A1,g9,b8,d0,f8,l8,c8,g0,u5,g8,A6,z8,k9,f7,h9,D8,j4,l7,C8,AF,Ao,AI,AS,AQ,Af,AR,Bool.not_true,E6,a4i,a5s,e]
   rw [show wrd 4 (B.length+1) M.length l=AD "p4m" from by unfold wrd;rw [if_neg (by decide),if_neg (by decide),if_neg (by lia),if_pos h]]
  ·have e:((M.length:Int)==4)=false:=by rw [beq_eq_false_iff_ne];lia
   simp (disch:=omega) only [F8,j0,A1,g9,b8,d0,f8,l8,c8,g0,g8,z8,k9,f7,h9,D8,j4,l7,C8,AF,Ao,AI,AS,AQ,Af,AR,Bool.not_true,E6,a4i,a5s,e]
   rw [show wrd 4 (B.length+1) M.length l=AD "p4g" from by unfold wrd;rw [if_neg (by decide),if_neg (by decide),if_neg (by lia),if_neg h]]
theorem c1j(l:List Str):tn4 l=1\/tn4 l=2\/tn4 l=4:=by
 unfold tn4
 split
 ·exact .inr (.inr rfl)
 ·split
  ·exact .inr (.inl rfl)
  ·exact .inl rfl
def wd(n:Nat)(H:List MV):Str:=wrd (tn4 (ws H)) (X9 (ws H)).length (D9 n H i8).length (lsN n H)
def V9(n:Nat)(H:List MV):PV:= .tuple [.int (tn4 (ws H)),.list ((X9 (ws H)).map .str),.list ((D9 n H i8).map tp),lsP n H]
theorem b7V{n:Nat}(hn:0<n)(h4:n<=8){H:List MV}(nd:H.Nodup)(hl:H.length<=1000):Z0 [.int n,.list (H.map tp)]=some (.val (V9 n H))/\a0U [V9 n H]=some (.val (.str (wd n H))):=by
 have e1:=b8s H hl
 have e2:=b41 H hl
 have e3:=c0O hn h4 nd hl
 have e4:=c0L hn h4 nd hl
 have ep:Z0 [.int n,.list (H.map tp)]=some (.val (.tuple [.int (tn4 (ws H)),.list ((X9 (ws H)).map .str),.list ((D9 n H i8).map tp),lsP n H])):=by
  unfold Z0 a6z
  simp (disch:=omega) only [b8,d0,b7,a9,b5,U6,o8,g7,f8,l8,f7,h9,AF,AI,AS,AQ,Af,AR,AY,↓reduceIte,sz,Nat.reduceAdd,Ad,e1,e2,e3,e4]
 have hm:((D9 n H i8).map tp).length<=100:=by
  rw [Ae]
  exact Nat.le_trans (a1e n H i8) (by decide)
 have lb:((X9 (ws H)).map PyData.str).length=(X9 (ws H)).length:=Ae ..
 have lm:((D9 n H i8).map tp).length=(D9 n H i8).length:=Ae ..
 have k1:=kt1 n H ((X9 (ws H)).map .str) ((D9 n H i8).map tp)
 have k2:=kt2 n H ((X9 (ws H)).map .str) ((D9 n H i8).map tp) hm
 have k4:=kt4 ((X9 (ws H)).map .str) ((D9 n H i8).map tp) hm (lsN n H)
 rw [lb,lm] at k1 k2 k4
 have ew:a0U [.tuple [.int (tn4 (ws H)),.list ((X9 (ws H)).map .str),.list ((D9 n H i8).map tp),lsP n H]]=some (.val (.str (wd n H))):=by
  unfold wd
  generalize lsP n H=P at k1 k2 ⊢
  generalize (X9 (ws H)).map PyData.str=B at k1 k2 k4 ⊢
  generalize (D9 n H i8).map tp=M at k1 k2 k4 ⊢
  unfold a0U a8k
  rcases c1j (ws H) with h|h|h
  ·rw [h];simp (disch:=omega) only [o0,t6,x6,a6Z,j0,g9,b8,b7,a9,b5,g7,f8,l8,c8,u5,g8,A6,f7,h9,j4,l7,AF,AI,AS,AQ,Af,beq_self_eq_true,E6,k1]
  ·rw [h];simp (disch:=omega) only [o0,t6,x6,a6Z,j0,g9,b8,b7,a9,b5,g7,f8,l8,c8,g0,u5,g8,A6,z8,k9,f7,h9,j4,l7,AF,AI,AS,AQ,Af,beq_self_eq_true,Int.reduceBEq,E6,k2]
  ·rw [h];simp (disch:=omega) only [o0,t6,x6,j0,g9,b8,b7,a9,b5,g7,f8,l8,c8,g0,g8,z8,k9,f7,h9,j4,l7,AF,AI,AS,AQ,Af,Int.reduceBEq,E6,k4]
 exact⟨ep,ew⟩
theorem ixO{ps:List PV}{i:Nat}{p:PV}(h:ps[i]?=some p):v6 (.own ps) (.val (.int (i:Nat)))=some (.val p):=by
 have h':L2.atI ps ((i:Nat):Int)=some p:=by rw [b8E];exact h
 simp [v6,i7.rd,X2.rd,PyData.items?,h']
theorem b8A(p q:PV):v6 (.own [p,q]) (.val (.int 0))=some (.val p):=ixO (i:=0) rfl
theorem b8B(p q:PV):v6 (.own [p,q]) (.val (.int 1))=some (.val q):=ixO (i:=1) rfl
theorem c14(p q r:PV):v6 (.own [p,q,r]) (.val (.int 0))=some (.val p):=ixO (i:=0) rfl
theorem c15(p q r:PV):v6 (.own [p,q,r]) (.val (.int 1))=some (.val q):=ixO (i:=1) rfl
theorem c16(p q r:PV):v6 (.own [p,q,r]) (.val (.int 2))=some (.val r):=ixO (i:=2) rfl
theorem b5m:gEq (.val (.list [])) (.own [])=some (.val (.bool true)):=rfl
theorem c0A{p:PV}{l:List PV}(h:E5 (p::l) 49=true):gEq (.val (.list (p::l))) (.own [])=some (.val (.bool false)):=by
 rw [a9u (x:= .val (.list (p::l))) (y:= .own []) ⟨by simpa only [a1k,u0] using h,rfl⟩]
 rfl
theorem lw{n:Nat}{H:List MV}{B M:List PV}(hB:E5 B 49=true)(t:Int)(ht:(t=1/\M.length<=1)\/(t=2/\M.length<=2)\/(t=4/\M.length<=4)):K2 [.tuple [.int t,.list B,.list M,lsP n H]]=some (.val (.str (wrd t B.length M.length (lsN n H)))):=by
 have hl:=b13 n H
 have u4:∀(a:Option i7) (b c d e:Option i7) (p q r s:PV),b8u [1,2,3,4] [a,b,c,d,e] (.val (.tuple [p,q,r,s]))=some (.nx [a,some (.val p),some (.val q),some (.val r),some (.val s)]):=fun _ _ _ _ _ _ _ _ _=>Eq.trans rfl rfl
 unfold K2 a6x
 generalize lsP n H=P at hl ⊢
 cases B with
 |nil=>
  rcases ht with⟨rfl,_⟩|⟨rfl,_⟩|⟨rfl,_⟩
  ·have hx:=ixO (ps:=[.str (AD ""),.str (AD "p1"),.str (AD "p2"),.str (AD ""),.str (AD "p4")]) (i:=1) rfl
   simp (disch:=omega) only [j0,g9,b8,d0,b7,a9,b5,x8,f8,c8,g0,g8,A6,f7,j4,l7,B7,AF,AI,AS,AX,AQ,Ab,AZ,AR,AY,↓reduceIte,sz,Nat.reduceAdd,Ad,u4,b5m]
   exact hx▸rfl
  ·have hx:=ixO (ps:=[.str (AD ""),.str (AD "p1"),.str (AD "p2"),.str (AD ""),.str (AD "p4")]) (i:=2) rfl
   simp (disch:=omega) only [j0,g9,b8,d0,b7,a9,b5,x8,f8,c8,g0,g8,A6,f7,j4,l7,B7,AF,AI,AS,AX,AQ,Ab,AZ,AR,AY,↓reduceIte,sz,Nat.reduceAdd,Ad,u4,b5m]
   exact hx▸rfl
  ·have hx:=ixO (ps:=[.str (AD ""),.str (AD "p1"),.str (AD "p2"),.str (AD ""),.str (AD "p4")]) (i:=4) rfl
   simp (disch:=omega) only [j0,g9,b8,d0,b7,a9,b5,x8,f8,c8,g0,g8,A6,f7,j4,l7,B7,AF,AI,AS,AX,AQ,Ab,AZ,AR,AY,↓reduceIte,sz,Nat.reduceAdd,Ad,u4,b5m]
   exact hx▸rfl
 |cons b B=>
  have hb:=c0A hB
  have hin:∀p q:PV,v6 (.own [p,q]) (.val (.int (if lsN n H=true then 1 else 0)))=some (.val (if lsN n H=true then q else p)):=fun p q=>by
   cases lsN n H
   ·exact b8A p q
   ·exact b8B p q
  rcases ht with⟨rfl,hM⟩|⟨rfl,hM⟩|⟨rfl,hM⟩
  ·simp (disch:=omega) only [F8,j0,A1,g9,b8,d0,b7,a9,b5,x8,f8,c8,g0,g8,A6,z8,k9,f7,j4,l7,B7,AF,AI,AS,AX,AQ,Ab,AZ,AR,AY,↓reduceIte,sz,Nat.reduceAdd,Ad,beq_self_eq_true,Int.reduceBEq,E6,u4,hb,hl,a6X,hin,a5s]
   match M,hM with
   |[],_=>rw [show((([]:List PV).length:Nat):Int)=0 from rfl,b8A];rfl
   |[m],_=>rw [show(([m].length:Nat):Int)=1 from rfl,b8B];cases lsN n H<;>rfl
  ·simp (disch:=omega) only [F8,j0,A1,g9,b8,d0,b7,a9,b5,x8,f8,c8,g0,g8,z8,k9,f7,j4,l7,B7,AF,AI,AS,AX,AQ,Ab,AZ,AR,AY,↓reduceIte,sz,Nat.reduceAdd,Ad,Int.reduceBEq,E6,u4,hb,hl,a6X,hin,a5s]
   match M,hM with
   |[],_=>rw [show((([]:List PV).length:Nat):Int)=0 from rfl,c14];rfl
   |[m],_=>rw [show(([m].length:Nat):Int)=1 from rfl,c15];rfl
   |[m,m'],_=>rw [show(([m,m'].length:Nat):Int)=2 from rfl,c16];cases lsN n H<;>rfl
  ·by_cases h:M.length=4
   ·have e:((M.length:Int)==4)=true:=by rw [beq_iff_eq];lia
    simp (disch:=omega) only [F8,j0,A1,g9,b8,d0,b7,a9,b5,x8,f8,l8,c8,g0,u5,g8,A6,z8,k9,f7,h9,j4,l7,B7,AF,AI,AS,AX,AQ,Ab,AZ,AR,AY,↓reduceIte,sz,Nat.reduceAdd,Ad,beq_self_eq_true,E6,u4,hb,a5s,e,a6X,b8A,b8B]
    rw [show wrd 4 (B.length+1) M.length (lsN n H)=AD "p4m" from by unfold wrd;rw [if_neg (by decide),if_neg (by decide),if_neg (by lia),if_pos h]]
   ·have e:((M.length:Int)==4)=false:=by rw [beq_eq_false_iff_ne];lia
    simp (disch:=omega) only [F8,j0,A1,g9,b8,d0,b7,a9,b5,x8,f8,l8,c8,g0,u5,g8,A6,z8,k9,f7,h9,j4,l7,B7,AF,AI,AS,AX,AQ,Ab,AZ,AR,AY,↓reduceIte,Ax,sz,Nat.reduceAdd,Ad,beq_self_eq_true,E6,u4,hb,a5s,e,a6X,b8A,b8B]
    rw [show wrd 4 (B.length+1) M.length (lsN n H)=AD "p4g" from by unfold wrd;rw [if_neg (by decide),if_neg (by decide),if_neg (by lia),if_neg h]]
theorem b3n(l:List Str)(k:Nat):E5 (l.map .str) k=true:=a3L fun p hp=>by
 obtain⟨x,_,rfl⟩:=Ag.mp hp
 cases k<;>rfl
structure WC(l:List Str):Prop where
 way:∀a∈l,a∈m6
 mul:∀a b,a∈l->b∈l->t8 a b∈l
abbrev sT:Str:=AD "turn"
abbrev sH:Str:=AD "half"
abbrev sB:Str:=AD "back"
abbrev sC:Str:=AD "cross"
abbrev sF:Str:=AD "flip"
abbrev sO:Str:=AD "other"
abbrev sS:Str:=AD "side"
theorem tbl:t8 sB (t8 sB sB)=sT/\t8 sT (t8 sT sT)=sB/\t8 sT sT=sH/\t8 sC sO=sH/\t8 sF sS=sH/\(t8 sC sF=sT\/t8 sC sF=sB)/\(t8 sC sS=sT\/t8 sC sS=sB)/\(t8 sF sO=sT\/t8 sF sO=sB)/\(t8 sO sS=sT\/t8 sO sS=sB):=by decide+kernel
theorem WC.back{l:List Str}(h:WC l):sT∈l↔sB∈l:=
 ⟨fun z=>tbl.2.1▸h.mul _ _ z (h.mul _ _ z z),fun z=>tbl.1▸h.mul _ _ z (h.mul _ _ z z)⟩
theorem WC.no{l:List Str}(h:WC l)(ht:sT∉l){a b:Str}(e:t8 a b=sT\/t8 a b=sB)(ha:a∈l)(hb:b∈l):False:=by
 have:=h.mul a b ha hb
 rcases e with e|e
 ·rw [e] at this;exact ht this
 ·rw [e] at this;exact ht (h.back.mpr this)
theorem a5X(l:List Str):(X9 l).length=(if sC∈l then 1 else 0)+(if sF∈l then 1 else 0)+(if sO∈l then 1 else 0)+(if sS∈l then 1 else 0):=by
 unfold X9 i8
 by_cases h1:sC∈l<;>by_cases h2:sF∈l<;>by_cases h3:sO∈l<;>by_cases h4:sS∈l<;>simp [h1,h2,h3,h4]
theorem WC.le2{l:List Str}(h:WC l)(ht:sT∉l):(X9 l).length<=2:=by
 have n1:=h.no ht tbl.2.2.2.2.2.1
 have n2:=h.no ht tbl.2.2.2.2.2.2.1
 have n3:=h.no ht tbl.2.2.2.2.2.2.2.1
 have n4:=h.no ht tbl.2.2.2.2.2.2.2.2
 rw [a5X]
 by_cases h1:sC∈l
 ·rw [if_pos h1,if_neg (fun z=>n1 h1 z),if_neg (fun z:sS∈l=>n2 h1 z)]
  split<;>lia
 ·rw [if_neg h1]
  by_cases h3:sO∈l
  ·rw [if_pos h3,if_neg (fun z=>n3 z h3),if_neg (fun z:sS∈l=>n4 h3 z)]
   lia
  ·rw [if_neg h3]
   split<;>split<;>lia
theorem WC.le1{l:List Str}(h:WC l)(ht:sT∉l)(hh:sH∉l):(X9 l).length<=1:=by
 have n1:=h.no ht tbl.2.2.2.2.2.1
 have n2:=h.no ht tbl.2.2.2.2.2.2.1
 have n3:=h.no ht tbl.2.2.2.2.2.2.2.1
 have n4:=h.no ht tbl.2.2.2.2.2.2.2.2
 have n5:sC∈l->sO∈l->False:=fun a b=>hh (tbl.2.2.2.1▸h.mul _ _ a b)
 have n6:sF∈l->sS∈l->False:=fun a b=>hh (tbl.2.2.2.2.1▸h.mul _ _ a b)
 rw [a5X]
 by_cases h1:sC∈l
 ·rw [if_pos h1,if_neg (fun z=>n1 h1 z),if_neg (fun z:sO∈l=>n5 h1 z),if_neg (fun z:sS∈l=>n2 h1 z)]
  lia
 ·rw [if_neg h1]
  by_cases h3:sO∈l
  ·rw [if_pos h3,if_neg (fun z=>n3 z h3),if_neg (fun z:sS∈l=>n4 h3 z)]
   lia
  ·rw [if_neg h3]
   by_cases h2:sF∈l
   ·rw [if_pos h2,if_neg (fun z:sS∈l=>n6 h2 z)]
    lia
   ·rw [if_neg h2]
    split<;>lia
theorem b7h(n:Nat)(H:List MV):(D9 n H i8).length<=(X9 (ws H)).length:=by
 rw [<-a6T n H i8]
 exact a1e n H _
structure Gp(n:Nat)(H:List MV):Prop where
 nd:H.Nodup
 ok:∀x∈H,OkM n x
 mul:∀x y,x∈H->y∈H->mul n x y∈H
theorem Gp.wc{n:Nat}{H:List MV}(h:Gp n H):WC (ws H) where
 way:=fun a ha=>by
  obtain⟨x,hx,rfl⟩:=Ag.mp ha
  exact(h.ok x hx).1
 mul:=fun a b ha hb=>by
  obtain⟨x,hx,rfl⟩:=Ag.mp ha
  obtain⟨y,hy,rfl⟩:=Ag.mp hb
  exact Ag.mpr ⟨LW.mul n x y,h.mul x y hx hy,rfl⟩
theorem Gp.len{n:Nat}(h4:n<=8){H:List MV}(h:Gp n H):H.length<=512:=by
 have:=b9H h.nd h.ok
 have:n*n<=8*8:=Nat.mul_le_mul h4 h4
 lia
theorem Gp.half{n:Nat}{H:List MV}(h:Gp n H):sT∈ws H->sH∈ws H:=fun z=>tbl.2.2.1▸h.wc.mul _ _ z z
theorem b6T{n:Nat}(hn:0<n)(h4:n<=8){H:List MV}(h:Gp n H):∃p,J9 [.int n,dv (C2 H)]=some (.val p)/\K2 [p]=some (.val (.str (wd n H))):=by
 refine⟨_,b1f hn h4 (by have:=h.len h4;lia) h.half, ?_⟩
 have lb:((X9 (ws H)).map PyData.str).length=(X9 (ws H)).length:=Ae ..
 have lm:((D9 n H i8).map tp).length=(D9 n H i8).length:=Ae ..
 have hf:=b7h n H
 have:=lw (n:=n) (H:=H) (B:=(X9 (ws H)).map .str) (M:=(D9 n H i8).map tp) (b3n _ _) (tn4 (ws H)) (by
  rw [lm]
  unfold tn4
  by_cases ht:sT∈ws H
  ·rw [if_pos ht]
   exact .inr (.inr ⟨rfl,Nat.le_trans (a1e n H i8) (by decide)⟩)
  ·rw [if_neg ht]
   by_cases hh:sH∈ws H
   ·rw [if_pos hh]
    exact .inr (.inl ⟨rfl,Nat.le_trans hf (h.wc.le2 ht)⟩)
   ·rw [if_neg hh]
    exact .inl ⟨rfl,Nat.le_trans hf (h.wc.le1 ht hh)⟩)
 rw [lb,lm] at this
 exact this
theorem b7r{n:Nat}{A B:List MV}(h:∀x,x∈A↔x∈B):(∀z,z∈ws A↔z∈ws B)/\(∀w,n8 n A w=n8 n B w)/\lsN n A=lsN n B:=by
 have h1:∀z,z∈ws A↔z∈ws B:=fun z=>by
  unfold ws
  rw [Ag,Ag]
  exact⟨fun⟨x,a,b⟩=>⟨x,(h x).mp a,b⟩,fun⟨x,a,b⟩=>⟨x,(h x).mpr a,b⟩⟩
 have h2:∀w,n8 n A w=n8 n B w:=fun w=>by
  unfold n8
  refine List.filter_congr fun x _=> ?_
  rw [decide_eq_decide]
  exact h _
 refine⟨h1,h2, ?_⟩
 have h3:out n A=out n B:=funext fun x=>by
  unfold out
  congr 1
  rw [Bool.eq_iff_iff,List.any_eq_true,List.any_eq_true]
  constructor
  ·rintro⟨p,hp,e⟩
   obtain⟨y,hy,rfl⟩:=Ag.mp hp
   exact⟨_,Ag.mpr ⟨y,(h y).mp hy,rfl⟩,e⟩
  ·rintro⟨p,hp,e⟩
   obtain⟨y,hy,rfl⟩:=Ag.mp hp
   exact⟨_,Ag.mpr ⟨y,(h y).mpr hy,rfl⟩,e⟩
 unfold lsN
 rw [h3,show n8 n A=n8 n B from funext h2]
theorem b3M{n:Nat}{A B:List MV}(h:∀x,x∈A↔x∈B):wd n A=wd n B:=by
 obtain⟨h1,h2,h3⟩:=b7r (n:=n) h
 unfold wd
 have e1:tn4 (ws A)=tn4 (ws B):=by
  unfold tn4
  simp only [h1]
 have e2:X9 (ws A)=X9 (ws B):=by
  unfold X9
  refine List.filter_congr fun x _=> ?_
  rw [decide_eq_decide]
  exact h1 x
 have e3:D9 n A i8=D9 n B i8:=by
  unfold D9 fnd
  simp only [h2]
 rw [e1,e2,e3,h3]
def Mir(n:Nat)(H:List MV)(w:Str):Prop:=∃p q:Int,(w,p % n,q % n)∈H/\f6 w p q+p=0/\e9 w p q+q=0
theorem b2g(n:Nat)(p:Int):p %(2*(n:Int)) % n=p % n:=Int.emod_emod_of_dvd p ⟨2,by lia⟩
theorem b2N{w:Str}{a x:Int}:cnd w a x=true↔f6 w a x+a=0/\e9 w a x+x=0:=by
 unfold cnd
 rw [Bool.and_eq_true,beq_iff_eq,beq_iff_eq]
theorem b6R{n:Nat}(hn:0<n)(w:Str)(p q:Int):(w,p %(2*(n:Int)),q %(2*(n:Int)))∈wid n w:=by
 have hb:=Int.emod_nonneg p (b:=2*(n:Int)) (by lia)
 have hb2:=Int.emod_lt_of_pos p (b:=2*(n:Int)) (by lia)
 have hc:=Int.emod_nonneg q (b:=2*(n:Int)) (by lia)
 have hc2:=Int.emod_lt_of_pos q (b:=2*(n:Int)) (by lia)
 generalize p %(2*(n:Int))=P at hb hb2 ⊢
 generalize q %(2*(n:Int))=Q at hc hc2 ⊢
 unfold wid a3t a1q
 refine List.mem_flatMap.mpr ⟨P.toNat,List.mem_range.mpr (by lia),Ag.mpr ⟨Q.toNat,List.mem_range.mpr (by lia), ?_⟩⟩
 unfold trp
 rw [Int.toNat_of_nonneg hb,Int.toNat_of_nonneg hc]
theorem a6g(n:Nat)(p:Int):(p - 2*(n:Int)) % n=p % n:=by
 rw [show p - 2*(n:Int)=p+n*(-2) by lia,Int.add_mul_emod_self_left]
theorem b52{m:Int}(hm:0<m)(p:Int):((-p) % m+p % m=0)\/((-p) % m - m+p % m=0):=by
 have h:=Int.emod_nonneg p (Int.ne_of_gt hm)
 rw [Int.neg_emod]
 split
 ·rename_i hd
  left
  rw [Int.emod_eq_zero_of_dvd hd];rfl
 ·right
  rw [Int.natAbs_of_nonneg (Int.le_of_lt hm)]
  lia
theorem b3k{n:Nat}(hn:0<n)(h4:n<=8){H:List MV}{w:Str}(hw:w∈i8):(∃x∈n8 n H w,a2H n x=true)↔Mir n H w:=by
 constructor
 ·rintro⟨⟨w',p,q⟩,hx,hm⟩
  obtain⟨h1,h2⟩:=P6 hx
  obtain⟨rfl,_,_⟩:=X6 h1
  unfold a2H at hm
  simp only [Bool.or_eq_true,b2N] at hm
  unfold nar at h2
  rcases hm with(hm|hm)|(hm|hm)
  ·exact⟨p,q,h2,hm⟩
  ·exact⟨p,q - 2*n,by rw [a6g];exact h2,hm⟩
  ·exact⟨p - 2*n,q,by rw [a6g];exact h2,hm⟩
  ·exact⟨p - 2*n,q - 2*n,by rw [a6g,a6g];exact h2,hm⟩
 ·rintro⟨p,q,hx,hm⟩
  refine⟨(w,p %(2*(n:Int)),q %(2*(n:Int))), ?_, ?_⟩
  ·unfold n8
   refine List.mem_filter.mpr ⟨b6R hn w p q,decide_eq_true ?_⟩
   unfold nar
   rw [b2g,b2g];exact hx
  ·unfold a2H
   simp only [Bool.or_eq_true,b2N]
   rcases a06 (C9 hw) with rfl|rfl|rfl|rfl
   ·have hm:p+p=0/\ -q+q=0:=hm
    show(p % _+p % _=0/\ -(q % _)+q % _=0\/_)\/_
    left;left
    have:p=0:=by lia
    rw [this,Int.zero_emod];lia
   ·have hm: -p+p=0/\q+q=0:=hm
    show(-(p % _)+p % _=0/\q % _+q % _=0\/_)\/_
    left;left
    have:q=0:=by lia
    rw [this,Int.zero_emod];lia
   ·have hm:q+p=0/\p+q=0:=hm
    show((q % _+p % _=0/\p % _+q % _=0)\/(q % _ - _+p % _=0/\p % _+(q % _ - _)=0))\/_
    have:q= -p:=by lia
    subst this
    left
    rcases b52 (m:=2*(n:Int)) (by lia) p with h|h
    ·exact .inl ⟨h,by rw [Int.add_comm];exact h⟩
    ·exact .inr ⟨h,by rw [Int.add_comm];exact h⟩
   ·have hm: -q+p=0/\ -p+q=0:=hm
    show((-(q % _)+p % _=0/\ -(p % _)+q % _=0)\/_)\/_
    left;left
    have:q=p:=by lia
    rw [this];lia
def NL(n:Nat)(H:List MV):Prop:=∀w∈i8,∀p q:Int,(w,p % n,q % n)∈H->∃e f:Int,2*e=p - f6 w p q/\2*f=q - e9 w p q/\(w,e % n,f % n)∈H
theorem b3r{n:Nat}(hn:0<n)(h4:n<=8){H:List MV}{w:Str}(hw:w∈i8){x:MV}(hx:x∈wid n w):out n H x=false↔∃e f:Int,2*e=x.2.1 - f6 w x.2.1 x.2.2/\2*f=x.2.2 - e9 w x.2.1 x.2.2/\(w,e % n,f % n)∈H:=by
 obtain⟨w',p,q⟩:=x
 obtain⟨rfl,hp,hq⟩:=X6 hx
 have hs:=(a7L hn h4 hw hx).2.1
 have hl:=a3Q (K7 (C9 hw)) (n:=(n:Int)) (by lia) p q
 have e:stP n (w',p,q)=stQ n w' p q:=by
  have:some (i7.val (stP n (w',p,q)))=some (.val (stQ n w' p q)):=hs.symm.trans hl
  exact i7.val.inj (Option.some.inj this)
 unfold out
 rw [e]
 unfold stQ
 dsimp only
 by_cases h:(p - f6 w' p q) % 2=1\/(q - e9 w' p q) % 2=1
 ·rw [if_pos h,a5V]
  constructor
  ·intro z;cases z
  ·rintro⟨a,b,h1,h2,_⟩
   lia
 ·rw [if_neg h]
  have:=a9i (w',(p - f6 w' p q)/ 2 % n,(q - e9 w' p q)/ 2 % n) H
  have:((H.map tp).any fun z=>PyData.eqv z (T3 w' ((p - f6 w' p q)/ 2 % n) ((q - e9 w' p q)/ 2 % n)))=_:=this
  rw [this]
  simp only [Bool.not_eq_false',decide_eq_true_eq]
  constructor
  ·intro z
   exact⟨_,_,by lia,by lia,z⟩
  ·rintro⟨a,b,h1,h2,z⟩
   rw [<-h1,<-h2,Int.mul_ediv_cancel_left _ (by decide),Int.mul_ediv_cancel_left _ (by decide)]
   exact z
theorem b3z{w:Str}(hw:w∈m6)(m k l:Int):f6 w (m*k) (m*l)=m*f6 w k l/\e9 w (m*k) (m*l)=m*e9 w k l:=by
 have e:∀x:Int,-(m*x)=m* -x:=fun x=>(Int.mul_neg m x).symm
 rcases D6 hw with rfl|rfl|rfl|rfl|rfl|rfl|rfl|rfl
 ·exact⟨rfl,rfl⟩
 ·exact⟨rfl,e k⟩
 ·exact⟨e k,e l⟩
 ·exact⟨e l,rfl⟩
 ·exact⟨rfl,e l⟩
 ·exact⟨e k,rfl⟩
 ·exact⟨rfl,rfl⟩
 ·exact⟨e l,e k⟩
theorem b6z{w:Str}(hw:w∈m6)(p q k l m:Int):p+m*k - f6 w (p+m*k) (q+m*l)=p - f6 w p q+m*(k - f6 w k l)/\q+m*l - e9 w (p+m*k) (q+m*l)=q - e9 w p q+m*(l - e9 w k l):=by
 rw [N6 hw,M9 hw,(b3z hw m k l).1,(b3z hw m k l).2,Int.mul_sub,Int.mul_sub]
 exact⟨by lia,by lia⟩
theorem a9J{n:Nat}(hn:0<n)(h4:n<=8){H:List MV}:lsN n H=true↔NL n H:=by
 unfold lsN
 rw [Option.isNone_iff_eq_none,List.find?_eq_none]
 constructor
 ·intro h w hw p q hx
  have hwd:=b6R hn w p q
  have hin:(w,p %(2*(n:Int)),q %(2*(n:Int)))∈i8.flatMap (n8 n H):=List.mem_flatMap.mpr ⟨w,hw,by
   unfold n8
   refine List.mem_filter.mpr ⟨hwd,decide_eq_true ?_⟩
   unfold nar
   rw [b2g,b2g];exact hx⟩
  have ho:=h _ hin
  rw [Bool.not_eq_true] at ho
  obtain⟨e,f,h1,h2,h3⟩:=(b3r hn h4 hw hwd).mp ho
  dsimp only at h1 h2
  have ep:=Int.emod_add_mul_ediv p (2*(n:Int))
  have eq:=Int.emod_add_mul_ediv q (2*(n:Int))
  generalize p %(2*(n:Int))=P at*
  generalize q %(2*(n:Int))=Q at*
  generalize p /(2*(n:Int))=k at*
  generalize q /(2*(n:Int))=l at*
  subst ep
  subst eq
  obtain⟨s1,s2⟩:=b6z (K7 (C9 hw)) P Q k l (2*(n:Int))
  refine⟨e+n*(k - f6 w k l),f+n*(l - e9 w k l), ?_, ?_, ?_⟩
  ·rw [s1,<-h1,Int.mul_add,Int.mul_assoc]
  ·rw [s2,<-h2,Int.mul_add,Int.mul_assoc]
  ·rw [Int.add_mul_emod_self_left,Int.add_mul_emod_self_left];exact h3
 ·intro h x hx
  obtain⟨w,hw,hx⟩:=List.mem_flatMap.mp hx
  obtain⟨h1,h2⟩:=P6 hx
  rw [Bool.not_eq_true]
  obtain⟨rfl,_,_⟩:=X6 h1
  exact(b3r hn h4 hw h1).mpr (h _ hw _ _ h2)
section
variable {n:Nat}(hn:0<n){v:Str}(hv:v∈m6)(d t:Int)
def icw(v w:Str):Str:=t8 (t8 v w) (L4 v)
abbrev byM(v:Str)(d t:Int):MV:=(v,d,t)
def bkM(n:Nat)(v:Str)(d t:Int):MV:=(L4 v,bd n v d t,bt n v d t)
def b46(n:Nat)(v:Str)(d t:Int)(x:MV):MV:=mul n (mul n (bkM n v d t) x) (byM v d t)
def Z1(n:Nat)(v:Str)(d t:Int)(y:MV):MV:=mul n (mul n (byM v d t) y) (bkM n v d t)
def J1(v w:Str)(d t r c:Int):Int:=f6 (L4 v) (f6 w d t+r+ -d) (e9 w d t+c+ -t)
def J2(v w:Str)(d t r c:Int):Int:=e9 (L4 v) (f6 w d t+r+ -d) (e9 w d t+c+ -t)
include hn hv
theorem b3o:OkM n (bkM n v d t):=⟨(O6 hv).1,⟨Int.emod_nonneg _ (by lia),Int.emod_lt_of_pos _ (by lia)⟩,Int.emod_nonneg _ (by lia),Int.emod_lt_of_pos _ (by lia)⟩
theorem b8H:mul n (byM v d t) (bkM n v d t)=e0:=by
 have hb:=(O6 hv).1
 unfold mul bkM e0 bd bt
 dsimp only
 rw [(O6 hv).2.1,Int.add_emod_emod,Int.add_emod_emod,b3A hb,b2O hb,Int.add_right_neg,Int.add_right_neg,Int.zero_emod]
theorem b8G:mul n (bkM n v d t) (byM v d t)=e0:=by
 unfold mul bkM e0 bd bt
 dsimp only
 rw [(O6 hv).2.2.1,a0q hv,a0d hv,(W7 hv _ _).1,(W7 hv _ _).2,Int.add_left_neg,Int.add_left_neg,Int.zero_emod]
theorem c0J(ho:OkM n (byM v d t)){x:MV}(hx:OkM n x):Z1 n v d t (b46 n v d t x)=x:=by
 have hk:=b3o hn hv d t
 have hn':(0:Int)<n:=by lia
 unfold Z1 b46
 rw [<-T9 ho (a3h hn' hk hx) ho,<-T9 ho hk hx,b8H hn hv,b8K hx,T9 hx ho hk,b8H hn hv,b8R hx]
theorem c0t(ho:OkM n (byM v d t)){y:MV}(hy:OkM n y):b46 n v d t (Z1 n v d t y)=y:=by
 have hk:=b3o hn hv d t
 have hn':(0:Int)<n:=by lia
 unfold Z1 b46
 rw [<-T9 hk (a3h hn' ho hy) hk,<-T9 hk ho hy,b8G hn hv,b8K hy,T9 hy hk ho,b8G hn hv,b8R hy]
theorem b7s{w:Str}(hw:w∈m6)(r c:Int):Z1 n v d t (w,r % n,c % n)=(icw v w,J1 v w d t r c % n,J2 v w d t r c % n):=by
 have hb:=(O6 hv).1
 unfold Z1 mul bkM icw J1 J2 bd bt
 dsimp only
 rw [Int.add_emod_emod,Int.add_emod_emod,Int.add_emod_emod,Int.add_emod_emod,a0q hb,a0d hb,<-N6 hb,<-M9 hb]
omit hn in
theorem a9d{w:Str}(p q:Int):J1 v w d t (f6 v p q - f6 w d t+d) (e9 v p q - e9 w d t+t)=p/\J2 v w d t (f6 v p q - f6 w d t+d) (e9 v p q - e9 w d t+t)=q:=by
 unfold J1 J2
 rw [show f6 w d t+(f6 v p q - f6 w d t+d)+ -d=f6 v p q by lia,show e9 w d t+(e9 v p q - e9 w d t+t)+ -t=e9 v p q by lia]
 exact a1G hv p q
end
structure CJ(n:Nat)(v:Str)(d t:Int)(H K:List MV):Prop where
 hv:v∈m6
 okH:∀x∈H,OkM n x
 okK:∀x∈K,OkM n x
 iff:∀w∈m6,∀r c:Int,(w,r % n,c % n)∈K↔(icw v w,J1 v w d t r c % n,J2 v w d t r c % n)∈H
theorem c0u{n:Nat}(hn:0<n){v:Str}{d t:Int}(ho:OkM n (byM v d t)){H:List MV}(hH:∀x∈H,OkM n x):CJ n v d t H (H.map (b46 n v d t)) where
 hv:=ho.1
 okH:=hH
 okK:=fun y hy=>by
  obtain⟨x,hx,rfl⟩:=Ag.mp hy
  exact a3h (by lia) (a3h (by lia) (b3o hn ho.1 d t) (hH x hx)) ho
 iff:=fun w hw r c=>by
  rw [<-b7s hn ho.1 d t hw r c]
  have hy:OkM n (w,r %(n:Int),c %(n:Int)):=⟨hw,⟨Int.emod_nonneg _ (by lia),Int.emod_lt_of_pos _ (by lia)⟩,Int.emod_nonneg _ (by lia),Int.emod_lt_of_pos _ (by lia)⟩
  constructor
  ·intro h
   obtain⟨x,hx,e⟩:=Ag.mp h
   rw [<-e,c0J hn ho.1 d t ho (hH x hx)]
   exact hx
  ·intro h
   exact Ag.mpr ⟨_,h,c0t hn ho.1 d t ho hy⟩
def c0I(v:Str):Bool:=decide ((icw v sC=sC/\icw v sO=sO)\/(icw v sC=sO/\icw v sO=sC))&& decide ((icw v sF=sF/\icw v sS=sS)\/(icw v sF=sS/\icw v sS=sF))&& decide (icw v sT=sT\/icw v sT=sB)&& decide (icw v sH=sH)
theorem b5G:(m6.all c0I)=true:=by decide+kernel
theorem b11{v:Str}(hv:v∈m6):((icw v sC=sC/\icw v sO=sO)\/(icw v sC=sO/\icw v sO=sC))/\((icw v sF=sF/\icw v sS=sS)\/(icw v sF=sS/\icw v sS=sF))/\(icw v sT=sT\/icw v sT=sB)/\icw v sH=sH:=by
 have h:=List.all_eq_true.mp b5G v hv
 unfold c0I at h
 simp only [Bool.and_eq_true,decide_eq_true_eq] at h
 exact⟨h.1.1.1,h.1.1.2,h.1.2,h.2⟩
theorem c0K{v:Str}(hv:v∈m6){w:Str}(hw:w∈i8):∃w'∈i8,icw v w'=w:=by
 obtain⟨h1,h2,_⟩:=b11 hv
 have hC:sC∈i8:=by decide+kernel
 have hF:sF∈i8:=by decide+kernel
 have hO:sO∈i8:=by decide+kernel
 have hS:sS∈i8:=by decide+kernel
 rcases a06 (C9 hw) with rfl|rfl|rfl|rfl
 ·rcases h2 with⟨_,b⟩|⟨a,_⟩
  ·exact⟨_,hS,b⟩
  ·exact⟨_,hF,a⟩
 ·rcases h2 with⟨a,_⟩|⟨_,b⟩
  ·exact⟨_,hF,a⟩
  ·exact⟨_,hS,b⟩
 ·rcases h1 with⟨a,_⟩|⟨_,b⟩
  ·exact⟨_,hC,a⟩
  ·exact⟨_,hO,b⟩
 ·rcases h1 with⟨_,b⟩|⟨a,_⟩
  ·exact⟨_,hO,b⟩
  ·exact⟨_,hC,a⟩
section
variable {n:Nat}(hn:0<n){v:Str}{d t:Int}{H K:List MV}(J:CJ n v d t H K)
include hn J
theorem CJ.ws{z:Str}(hz:z∈m6):z∈ws K↔icw v z∈ws H:=by
 constructor
 ·intro h
  obtain⟨y,hy,rfl⟩:=Ag.mp h
  have ho:=J.okK y hy
  have:(y.1,y.2.1 %(n:Int),y.2.2 %(n:Int))∈K:=by
   rw [Int.emod_eq_of_lt ho.2.1.1 ho.2.1.2,Int.emod_eq_of_lt ho.2.2.1 ho.2.2.2];exact hy
  exact Ag.mpr ⟨_,(J.iff _ hz _ _).mp this,rfl⟩
 ·intro h
  obtain⟨x,hx,e⟩:=Ag.mp h
  have ho:=J.okH x hx
  obtain⟨j1,j2⟩:=a9d J.hv d t (w:=z) x.2.1 x.2.2
  have:=(J.iff z hz (f6 v x.2.1 x.2.2 - f6 z d t+d) (e9 v x.2.1 x.2.2 - e9 z d t+t)).mpr (by
   rw [j1,j2,Int.emod_eq_of_lt ho.2.1.1 ho.2.1.2,Int.emod_eq_of_lt ho.2.2.1 ho.2.2.2,<-e];exact hx)
  exact Ag.mpr ⟨_,this,rfl⟩
end
theorem b3y{w:Str}(hw:w∈m6):f6 w 0 0=0/\e9 w 0 0=0:=by
 have a:=N6 hw 0 0 0 0
 have b:=M9 hw 0 0 0 0
 rw [Int.add_zero] at a b
 lia
theorem b5H{v w:Str}(hv:v∈m6)(hw:w∈m6)(p q:Int):f6 (icw v w) p q=f6 (L4 v) (f6 w (f6 v p q) (e9 v p q)) (e9 w (f6 v p q) (e9 v p q))/\e9 (icw v w) p q=e9 (L4 v) (f6 w (f6 v p q) (e9 v p q)) (e9 w (f6 v p q) (e9 v p q)):=by
 have hb:=(O6 hv).1
 unfold icw
 rw [a34 (a3J hv hw) hb,a3H (a3J hv hw) hb,a34 hv hw,a3H hv hw]
 exact⟨rfl,rfl⟩
theorem a9k{v:Str}(hv:v∈m6){w:Str}(hw:w∈m6)(A B:Int):f6 (icw v w) (f6 (L4 v) A B) (e9 (L4 v) A B)+f6 (L4 v) A B=f6 (L4 v) (f6 w A B+A) (e9 w A B+B)/\e9 (icw v w) (f6 (L4 v) A B) (e9 (L4 v) A B)+e9 (L4 v) A B=e9 (L4 v) (f6 w A B+A) (e9 w A B+B):=by
 have hb:=(O6 hv).1
 obtain⟨e1,e2⟩:=b5H hv hw (f6 (L4 v) A B) (e9 (L4 v) A B)
 rw [e1,e2,(W7 hv A B).1,(W7 hv A B).2,N6 hb,M9 hb]
 exact⟨rfl,rfl⟩
theorem b0u{v:Str}(hv:v∈m6){w:Str}(hw:w∈m6)(A B:Int):f6 (L4 v) A B - f6 (icw v w) (f6 (L4 v) A B) (e9 (L4 v) A B)=f6 (L4 v) (A - f6 w A B) (B - e9 w A B)/\e9 (L4 v) A B - e9 (icw v w) (f6 (L4 v) A B) (e9 (L4 v) A B)=e9 (L4 v) (A - f6 w A B) (B - e9 w A B):=by
 have hb:=(O6 hv).1
 obtain⟨e1,e2⟩:=b5H hv hw (f6 (L4 v) A B) (e9 (L4 v) A B)
 rw [e1,e2,(W7 hv A B).1,(W7 hv A B).2,show A - f6 w A B=A+ -f6 w A B from Int.sub_eq_add_neg,show B - e9 w A B=B+ -e9 w A B from Int.sub_eq_add_neg,N6 hb,M9 hb,b3A hb,b2O hb]
 exact⟨Int.sub_eq_add_neg,Int.sub_eq_add_neg⟩
theorem X8{w:Str}(hw:w∈a2N)(d t r c:Int):(f6 w (f6 w d t+r+ -d) (e9 w d t+c+ -t)+(f6 w d t+r+ -d)=f6 w r c+r)/\(e9 w (f6 w d t+r+ -d) (e9 w d t+c+ -t)+(e9 w d t+c+ -t)=e9 w r c+c):=by
 rcases a06 hw with rfl|rfl|rfl|rfl
 ·show d+r+ -d+(d+r+ -d)=r+r/\ -(-t+c+ -t)+(-t+c+ -t)= -c+c
  lia
 ·show -(-d+r+ -d)+(-d+r+ -d)= -r+r/\t+c+ -t+(t+c+ -t)=c+c
  lia
 ·show d+c+ -t+(t+r+ -d)=c+r/\t+r+ -d+(d+c+ -t)=r+c
  lia
 ·show -(-d+c+ -t)+(-t+r+ -d)= -c+r/\ -(-t+r+ -d)+(-d+c+ -t)= -r+c
  lia
theorem a6B{w:Str}(hw:w∈a2N)(d t r c:Int):(f6 w d t+r+ -d) - f6 w (f6 w d t+r+ -d) (e9 w d t+c+ -t)=r - f6 w r c+2*f6 w d t - 2*d/\(e9 w d t+c+ -t) - e9 w (f6 w d t+r+ -d) (e9 w d t+c+ -t)=c - e9 w r c+2*e9 w d t - 2*t:=by
 rcases a06 hw with rfl|rfl|rfl|rfl
 ·show d+r+ -d - (d+r+ -d)=r - r+2*d - 2*d/\(-t+c+ -t) - -(-t+c+ -t)=c - -c+2* -t - 2*t
  lia
 ·show(-d+r+ -d) - -(-d+r+ -d)=r - -r+2* -d - 2*d/\t+c+ -t - (t+c+ -t)=c - c+2*t - 2*t
  lia
 ·show(t+r+ -d) - (d+c+ -t)=r - c+2*t - 2*d/\(d+c+ -t) - (t+r+ -d)=c - r+2*d - 2*t
  lia
 ·show(-t+r+ -d) - -(-d+c+ -t)=r - -c+2* -t - 2*d/\(-d+c+ -t) - -(-t+r+ -d)=c - -r+2* -d - 2*t
  lia
section
variable {n:Nat}(hn:0<n){v:Str}{d t:Int}{H K:List MV}(J:CJ n v d t H K)
include J
theorem CJ.mir{w:Str}(hw:w∈i8):Mir n K w↔Mir n H (icw v w):=by
 have hL:=C9 hw
 have hW:=K7 hL
 constructor
 ·rintro⟨r,c,hx,h1,h2⟩
  refine⟨_,_,(J.iff w hW r c).mp hx, ?_, ?_⟩
  ·unfold J1 J2
   rw [(a9k J.hv hW _ _).1,(X8 hL d t r c).1,(X8 hL d t r c).2,h1,h2,(b3y (O6 J.hv).1).1]
  ·unfold J1 J2
   rw [(a9k J.hv hW _ _).2,(X8 hL d t r c).1,(X8 hL d t r c).2,h1,h2,(b3y (O6 J.hv).1).2]
 ·rintro⟨p,q,hx,h1,h2⟩
  obtain⟨j1,j2⟩:=a9d J.hv d t (w:=w) p q
  refine⟨f6 v p q - f6 w d t+d,e9 v p q - e9 w d t+t,(J.iff w hW _ _).mpr (by rw [j1,j2];exact hx), ?_⟩
  rw [<-(X8 hL d t _ _).1,<-(X8 hL d t _ _).2]
  rw [show f6 w d t+(f6 v p q - f6 w d t+d)+ -d=f6 v p q by lia,show e9 w d t+(e9 v p q - e9 w d t+t)+ -t=e9 v p q by lia]
  obtain⟨b1,b2⟩:=a9k J.hv hW (f6 v p q) (e9 v p q)
  rw [(a1G J.hv p q).1,(a1G J.hv p q).2] at b1 b2
  rw [h1] at b1
  rw [h2] at b2
  have hz:=W7 J.hv (f6 w (f6 v p q) (e9 v p q)+f6 v p q) (e9 w (f6 v p q) (e9 v p q)+e9 v p q)
  rw [<-b1,<-b2,(b3y J.hv).1,(b3y J.hv).2] at hz
  exact⟨hz.1.symm,hz.2.symm⟩
theorem CJ.nl:NL n K↔NL n H:=by
 constructor
 ·intro h w hw p q hx
  obtain⟨w',hw',rfl⟩:=c0K J.hv hw
  have hL:=C9 hw'
  have hW:=K7 hL
  have hb:=(O6 J.hv).1
  obtain⟨j1,j2⟩:=a9d J.hv d t (w:=w') p q
  obtain⟨e,f,e1,e2,e3⟩:=h w' hw' _ _ ((J.iff w' hW (f6 v p q - f6 w' d t+d) (e9 v p q - e9 w' d t+t)).mpr (by rw [j1,j2];exact hx))
  obtain⟨m1,m2⟩:=b0u J.hv hW (f6 v p q) (e9 v p q)
  rw [(a1G J.hv p q).1,(a1G J.hv p q).2] at m1 m2
  obtain⟨n1,n2⟩:=a6B hL d t (f6 v p q - f6 w' d t+d) (e9 v p q - e9 w' d t+t)
  rw [show f6 w' d t+(f6 v p q - f6 w' d t+d)+ -d=f6 v p q by lia,show e9 w' d t+(e9 v p q - e9 w' d t+t)+ -t=e9 v p q by lia,<-e1] at n1
  rw [show f6 w' d t+(f6 v p q - f6 w' d t+d)+ -d=f6 v p q by lia,show e9 w' d t+(e9 v p q - e9 w' d t+t)+ -t=e9 v p q by lia,<-e2] at n2
  rw [n1,n2,show 2*e+2*f6 w' d t - 2*d=(f6 w' d t+e+ -d)+(f6 w' d t+e+ -d) by lia,show 2*f+2*e9 w' d t - 2*t=(e9 w' d t+f+ -t)+(e9 w' d t+f+ -t) by lia] at m1 m2
  refine⟨_,_, ?_, ?_,(J.iff w' hW e f).mp e3⟩
  ·rw [m1,N6 hb (f6 w' d t+e+ -d) (e9 w' d t+f+ -t)]
   exact Int.two_mul _
  ·rw [m2,M9 hb (f6 w' d t+e+ -d) (e9 w' d t+f+ -t)]
   exact Int.two_mul _
 ·intro h w hw r c hx
  have hL:=C9 hw
  have hW:=K7 hL
  have hb:=(O6 J.hv).1
  have hi:icw v w∈i8:=by
   obtain⟨h1,h2,_⟩:=b11 J.hv
   have hC:sC∈i8:=by decide+kernel
   have hF:sF∈i8:=by decide+kernel
   have hO:sO∈i8:=by decide+kernel
   have hS:sS∈i8:=by decide+kernel
   rcases a06 hL with rfl|rfl|rfl|rfl
   ·rcases h2 with⟨_,b⟩|⟨_,b⟩<;>rw [b]<;>assumption
   ·rcases h2 with⟨b,_⟩|⟨b,_⟩<;>rw [b]<;>assumption
   ·rcases h1 with⟨b,_⟩|⟨b,_⟩<;>rw [b]<;>assumption
   ·rcases h1 with⟨_,b⟩|⟨_,b⟩<;>rw [b]<;>assumption
  obtain⟨e,f,e1,e2,e3⟩:=h _ hi _ _ ((J.iff w hW r c).mp hx)
  obtain⟨j1,j2⟩:=a9d J.hv d t (w:=w) e f
  have m:=b0u J.hv hW (f6 w d t+r+ -d) (e9 w d t+c+ -t)
  have m1:2*e=f6 (L4 v) _ _:=e1.trans m.1
  have m2:2*f=e9 (L4 v) _ _:=e2.trans m.2
  obtain⟨n1,n2⟩:=a6B hL d t r c
  have z:=W7 J.hv ((f6 w d t+r+ -d) - f6 w (f6 w d t+r+ -d) (e9 w d t+c+ -t)) ((e9 w d t+c+ -t) - e9 w (f6 w d t+r+ -d) (e9 w d t+c+ -t))
  rw [<-m1,<-m2,n1,n2,show 2*e=e+e by lia,show 2*f=f+f by lia,N6 J.hv,M9 J.hv] at z
  refine⟨f6 v e f - f6 w d t+d,e9 v e f - e9 w d t+t, ?_, ?_,(J.iff w hW _ _).mpr (by rw [j1,j2];exact e3)⟩
  ·lia
  ·lia
end
open Classical in
theorem b23{n:Nat}(hn:0<n)(h4:n<=8){H:List MV}{w:Str}(hw:w∈i8):(fnd n H w).length=if Mir n H w then 1 else 0:=by
 unfold fnd
 by_cases h:Mir n H w
 ·rw [if_pos h]
  obtain⟨x,hx,hm⟩:=(b3k hn h4 hw).mpr h
  have:0<((n8 n H w).filter fun x=>a2H n x).length:=List.length_pos_of_mem (List.mem_filter.mpr ⟨hx,hm⟩)
  rw [List.length_take];lia
 ·rw [if_neg h]
  have:((n8 n H w).filter fun x=>a2H n x)=[]:=List.filter_eq_nil_iff.mpr fun x hx hm=>h ((b3k hn h4 hw).mp ⟨x,hx,hm⟩)
  rw [this];rfl
theorem b24(n:Nat)(H:List MV):(D9 n H i8).length=(fnd n H sC).length+(fnd n H sF).length+(fnd n H sO).length+(fnd n H sS).length:=by
 show(List.flatMap (fnd n H) [sC,sF,sO,sS]).length=_
 rw [List.flatMap_cons,List.flatMap_cons,List.flatMap_cons,List.flatMap_cons,List.flatMap_nil,Ah,Ah,Ah,Ah,AY]
 generalize (fnd n H sC).length=a
 generalize (fnd n H sF).length=b
 generalize (fnd n H sO).length=c
 generalize (fnd n H sS).length=d
 lia
theorem bIn:sC∈i8/\sF∈i8/\sO∈i8/\sS∈i8:=by decide+kernel
theorem wIn:sC∈m6/\sF∈m6/\sO∈m6/\sS∈m6/\sT∈m6/\sH∈m6:=by decide+kernel
theorem b8x{n:Nat}(hn:0<n)(h4:n<=8){v:Str}{d t:Int}{H K:List MV}(hH:Gp n H)(J:CJ n v d t H K):wd n K=wd n H:=by
 obtain⟨t1,t2,t3,t5⟩:=b11 J.hv
 obtain⟨bC,bF,bO,bS⟩:=bIn
 obtain⟨wC,wF,wO,wS,wT,wH⟩:=wIn
 have hT:sT∈ws K↔sT∈ws H:=by
  rw [J.ws hn wT]
  rcases t3 with e|e
  ·rw [e]
  ·rw [e];exact hH.wc.back.symm
 have hHf:sH∈ws K↔sH∈ws H:=by rw [J.ws hn wH,t5]
 have e1:tn4 (ws K)=tn4 (ws H):=by
  unfold tn4
  simp only [hT,hHf]
 have e2:(X9 (ws K)).length=(X9 (ws H)).length:=by
  rw [a5X,a5X]
  simp only [J.ws hn wC,J.ws hn wF,J.ws hn wO,J.ws hn wS]
  rcases t1 with⟨a,b⟩|⟨a,b⟩<;>rcases t2 with⟨a',b'⟩|⟨a',b'⟩<;>rw [a,b,a',b']<;>lia
 have fl:∀w∈i8,icw v w∈i8->(fnd n K w).length=(fnd n H (icw v w)).length:=fun w hw hi=>by
  rw [b23 hn h4 hw,b23 hn h4 hi]
  by_cases h:Mir n H (icw v w)
  ·rw [if_pos h,if_pos ((J.mir hw).mpr h)]
  ·rw [if_neg h,if_neg (fun z=>h ((J.mir hw).mp z))]
 have e3:(D9 n K i8).length=(D9 n H i8).length:=by
  rw [b24,b24]
  rcases t1 with⟨a,b⟩|⟨a,b⟩<;>rcases t2 with⟨a',b'⟩|⟨a',b'⟩<;>rw [fl _ bC (by rw [a];assumption),fl _ bF (by rw [a'];assumption),fl _ bO (by rw [b];assumption),fl _ bS (by rw [b'];assumption),a,b,a',b']<;>lia
 have e4:lsN n K=lsN n H:=by
  rw [Bool.eq_iff_iff,a9J hn h4,a9J hn h4]
  exact J.nl
 unfold wd
 rw [e1,e2,e3,e4]
theorem a9G{n:Int}{x y:MV}(hx:x.1∈m6)(hy:y.1∈m6)(p q:Int):
 lr n (mul n x y).1 (mul n x y).2.1 (mul n x y).2.2 p q=lr n y.1 y.2.1 y.2.2 (lr n x.1 x.2.1 x.2.2 p q) (lc n x.1 x.2.1 x.2.2 p q)/\
 lc n (mul n x y).1 (mul n x y).2.1 (mul n x y).2.2 p q=lc n y.1 y.2.1 y.2.2 (lr n x.1 x.2.1 x.2.2 p q) (lc n x.1 x.2.1 x.2.2 p q):=by
 obtain⟨a,d1,r1⟩:=x
 obtain⟨b,d2,r2⟩:=y
 have ha:a∈m6:=hx
 have hb:b∈m6:=hy
 constructor
 ·show(f6 (t8 a b) p q+(f6 b d1 r1+d2) % n) % n=(f6 b ((f6 a p q+d1) % n) ((e9 a p q+r1) % n)+d2) % n
  rw [a0q hb,a34 ha hb,N6 hb,Int.add_emod_emod,Int.add_assoc]
 ·show(e9 (t8 a b) p q+(e9 b d1 r1+r2) % n) % n=(e9 b ((f6 a p q+d1) % n) ((e9 a p q+r1) % n)+r2) % n
  rw [a0d hb,a3H ha hb,M9 hb,Int.add_emod_emod,Int.add_assoc]
def Lvs(n:Nat)(f:Nat->Nat->Nat)(x:MV):Prop:=∀a b:Nat,a<n->b<n->f (lr n x.1 x.2.1 x.2.2 a b).toNat (lc n x.1 x.2.1 x.2.2 a b).toNat=f a b
theorem b5Q{n:Nat}(hn:0<n){f:Nat->Nat->Nat}{x:MV}(hx:x.1∈m6):uaR n f x.1 x.2.1 x.2.2=none↔Lvs n f x:=by
 rw [a7P]
 constructor
 ·intro h a b ha hb
  obtain⟨⟨b1,b2⟩,b3,b4⟩:=a0m (n:=(n:Int)) (by lia) x.1 x.2.1 x.2.2 a b
  rw [h _ _ (by lia) (by lia),a4M hn f hx _ _ ha hb]
 ·intro h r c hr hc
  obtain⟨a,b,ha,hb,e1,e2⟩:=a4I hn hx x.2.1 x.2.2 hr hc
  have h1:=h a b ha hb
  have h2:=a4M hn f hx x.2.1 x.2.2 ha hb
  rw [e1,e2,tn,tn] at h1 h2
  rw [h1,h2]
theorem b7C{n:Nat}(hn:0<n){f:Nat->Nat->Nat}{x y:MV}(hx:x.1∈m6)(hy:y.1∈m6)(lx:Lvs n f x)(ly:Lvs n f y):Lvs n f (mul n x y):=by
 intro a b ha hb
 obtain⟨⟨b1,b2⟩,b3,b4⟩:=a0m (n:=(n:Int)) (by lia) x.1 x.2.1 x.2.2 a b
 have h:=a9G (n:=(n:Int)) hx hy a b
 have h1:=ly (lr n x.1 x.2.1 x.2.2 a b).toNat (lc n x.1 x.2.1 x.2.2 a b).toNat (by lia) (by lia)
 rw [Int.toNat_of_nonneg b1,Int.toNat_of_nonneg b3] at h1
 rw [h.1,h.2,h1,lx a b ha hb]
def a6t(n:Nat):List MV:=a03.flatMap fun w=>(AL n).flatMap fun d=>(AL n).map fun t=>(w,((d:Nat):Int),((t:Nat):Int))
theorem a5U(n:Nat):a1A a03 n=(a6t n).map tp:=by
 unfold a1A a6t
 rw [List.map_flatMap]
 congr 1;funext w
 rw [List.map_flatMap]
 congr 1;funext d
 rw [Aw]
 rfl
theorem a7j{n:Nat}{x:MV}:x∈a6t n↔OkM n x:=by
 constructor
 ·intro h
  obtain⟨w,hw,h⟩:=List.mem_flatMap.mp h
  obtain⟨d,hd,h⟩:=List.mem_flatMap.mp h
  obtain⟨t,ht,rfl⟩:=Ag.mp h
  have hd:=List.mem_range.mp hd
  have ht:=List.mem_range.mp ht
  exact⟨b1t.mp hw,⟨by show(0:Int)<=(d:Nat);lia,by show((d:Nat):Int)<n;lia⟩,by show(0:Int)<=(t:Nat);lia,by show((t:Nat):Int)<n;lia⟩
 ·obtain⟨w,d,t⟩:=x
  rintro⟨h1,h2,h3⟩
  have a:0<=d/\d<n:=h2
  have b:0<=t/\t<n:=h3
  refine List.mem_flatMap.mpr ⟨w,b1t.mpr h1,List.mem_flatMap.mpr ⟨d.toNat,List.mem_range.mpr (by lia),Ag.mpr ⟨t.toNat,List.mem_range.mpr (by lia), ?_⟩⟩⟩
  rw [Int.toNat_of_nonneg a.1,Int.toNat_of_nonneg b.1]
theorem b1v:a03.Pairwise fun a b=>b8O (.inr b) (.inr a)=false/\a≠b:=by
 unfold a03
 decide+kernel
theorem a7K(n:Nat):(a6t n).Pairwise fun a b=>b9u (ky b) (ky a)=false/\a≠b:=by
 unfold a6t
 refine List.pairwise_flatMap.mpr ⟨fun w _=>List.pairwise_flatMap.mpr ⟨fun d _=>List.pairwise_map.mpr (List.pairwise_lt_range.imp fun {a b} h=> ?_),List.pairwise_lt_range.imp fun {a b} h x hx y hy=> ?_⟩,b1v.imp fun {a b} h x hx y hy=> ?_⟩
 ·constructor
  ·show(if(Sum.inr w:m5)=Sum.inr w then _ else _)=false
   rw [if_pos rfl]
   show(if(Sum.inl ((d:Nat):Int):m5)=Sum.inl ((d:Nat):Int) then _ else _)=false
   rw [if_pos rfl]
   show(if(Sum.inl ((b:Nat):Int):m5)=Sum.inl ((a:Nat):Int) then _ else _)=false
   rw [if_neg (by intro e;have:=Sum.inl.inj e;lia)]
   exact decide_eq_false (show ¬((b:Nat):Int)<(a:Nat) by lia)
  ·intro e
   have:=congrArg (fun z:MV=>z.2.2) e
   simp only at this
   lia
 ·obtain⟨t,_,rfl⟩:=Ag.mp hx
  obtain⟨u,_,rfl⟩:=Ag.mp hy
  constructor
  ·show(if(Sum.inr w:m5)=Sum.inr w then _ else _)=false
   rw [if_pos rfl]
   show(if(Sum.inl ((b:Nat):Int):m5)=Sum.inl ((a:Nat):Int) then _ else _)=false
   rw [if_neg (by intro e;have:=Sum.inl.inj e;lia)]
   exact decide_eq_false (show ¬((b:Nat):Int)<(a:Nat) by lia)
  ·intro e
   have:=congrArg (fun z:MV=>z.2.1) e
   simp only at this
   lia
 ·obtain⟨d,_,hx⟩:=List.mem_flatMap.mp hx
  obtain⟨t,_,rfl⟩:=Ag.mp hx
  obtain⟨d',_,hy⟩:=List.mem_flatMap.mp hy
  obtain⟨u,_,rfl⟩:=Ag.mp hy
  constructor
  ·show(if(Sum.inr b:m5)=Sum.inr a then _ else _)=false
   rw [if_neg (by intro e;exact h.2 (Sum.inr.inj e).symm)]
   exact h.1
  ·intro e
   exact h.2 (congrArg (fun z:MV=>z.1) e)
def B1(n:Nat)(f:Nat->Nat->Nat):List MV:=(a6t n).filter fun x=>(uaR n f x.1 x.2.1 x.2.2).isNone
theorem N4{n:Nat}(hn:0<n){f:Nat->Nat->Nat}{x:MV}:x∈B1 n f↔OkM n x/\Lvs n f x:=by
 unfold B1
 rw [List.mem_filter,a7j,Option.isNone_iff_eq_none]
 exact⟨fun h=>⟨h.1,(b5Q hn h.1.1).mp h.2⟩,fun h=>⟨h.1,(b5Q hn h.1.1).mpr h.2⟩⟩
theorem b2b(n:Nat)(f:Nat->Nat->Nat):(B1 n f).Pairwise fun a b=>b9u (ky b) (ky a)=false/\a≠b:=(a7K n).filter _
theorem b9v(n:Nat)(f:Nat->Nat->Nat):(B1 n f).Nodup:=(b2b n f).imp fun h=>h.2
theorem b18{n:Nat}(hn:0<n)(hn8:n<=8)(f:Nat->Nat->Nat):a2v [z7 n f]=some (.own ((B1 n f).map tp)):=by
 have hsz:(a6t n).length<=16777216:=by
  have e:(a6t n).length=(a1A a03 n).length:=by rw [a5U,Ae]
  rw [e,a6s]
  have hnn:n*n<=8*8:=Nat.mul_le_mul hn8 hn8
  have:a03.length*(n*n)<=8*(8*8):=Nat.mul_le_mul (by decide) hnn
  lia
 unfold a2v a8h
 rw [f7]
 rw [f8,K4 (ι:=tp) (f:=tp) (q:=fun x:MV=>(uaR n f x.1 x.2.1 x.2.2).isNone) (a6t n) (Q2 (r:= .ow (.lst (a1A a03 n))) (by simp (disch:=omega) only [A1,b8,b7,a9,b5,g7,AF,AI,AS,AQ,Af,O0,b4T hn8]) (by rw [a5U];rfl)) hsz]
 ·simp (disch:=omega) only [a97,h9,AF]
  rfl
 ·rintro⟨w,d,t⟩ hp
  have hw:=(a7j.mp hp).1
  refine⟨_,rfl, ?_,fun _=> ?_⟩
  ·have h:=b4j hn (by lia) f hw d t
   have h':a1V [z7 n f,tp (w,d,t)]=_:=h
   simp (disch:=omega) only [b8,d0,b7,a9,b5,g7,D8,a83,AF,AI,AS,AX,AQ,Af,Ab,AZ,AU,AV,h']
  ·unfold a3S
   simp (disch:=omega) only [b8,d0,b5,AF,AI,AS,AX,AQ,Af,Ab,AZ,AU,AV]
theorem b2a{n:Nat}(hn:0<n)(f:Nat->Nat->Nat):Gp n (B1 n f) where
 nd:=b9v n f
 ok:=fun x hx=>((N4 hn).mp hx).1
 mul:=fun x y hx hy=>by
  have h1:=(N4 hn).mp hx
  have h2:=(N4 hn).mp hy
  exact(N4 hn).mpr ⟨a3h (by lia) h1.1 h2.1,b7C hn h1.1.1 h2.1.1 h1.2 h2.2⟩
abbrev scL(ns:List Int):Option i7:=some (.val (.list (ns.map .int)))
abbrev c1Y:List PV:=[.tuple [.int 1,.int 0,.int 0,.int 1],.tuple [.int 0,.int 1,.int (-1),.int 0],.tuple [.int (-1),.int 0,.int 0,.int (-1)],.tuple [.int 0,.int (-1),.int 1,.int 0],.tuple [.int 1,.int 0,.int 0,.int (-1)],.tuple [.int (-1),.int 0,.int 0,.int 1],.tuple [.int 0,.int 1,.int 1,.int 0],.tuple [.int 0,.int (-1),.int (-1),.int 0]]
structure Mat(w:Str)(x y z t:Int):Prop where
 look:a14 m6 c1Y w=some (.tuple [.int x,.int y,.int z,.int t])
 row:∀a b:Int,x*a+y*b=f6 w a b
 col:∀a b:Int,z*a+t*b=e9 w a b
 sm:(-2<x/\x<2)/\(-2<y/\y<2)/\(-2<z/\z<2)/\(-2<t/\t<2)
theorem b9y{w:Str}(hw:w∈m6):∃x y z t:Int,Mat w x y z t:=by
 rcases D6 hw with rfl|rfl|rfl|rfl|rfl|rfl|rfl|rfl
 ·exact⟨1,0,0,1,O2 (j:=0) (by decide+kernel) rfl,fun a b=>by show _=a;lia,fun a b=>by show _=b;lia,by decide⟩
 ·exact⟨0,1,-1,0,O2 (j:=1) (by decide+kernel) rfl,fun a b=>by show _=b;lia,fun a b=>by show _= -a;lia,by decide⟩
 ·exact⟨-1,0,0,-1,O2 (j:=2) (by decide+kernel) rfl,fun a b=>by show _= -a;lia,fun a b=>by show _= -b;lia,by decide⟩
 ·exact⟨0,-1,1,0,O2 (j:=3) (by decide+kernel) rfl,fun a b=>by show _= -b;lia,fun a b=>by show _=a;lia,by decide⟩
 ·exact⟨1,0,0,-1,O2 (j:=4) (by decide+kernel) rfl,fun a b=>by show _=a;lia,fun a b=>by show _= -b;lia,by decide⟩
 ·exact⟨-1,0,0,1,O2 (j:=5) (by decide+kernel) rfl,fun a b=>by show _= -a;lia,fun a b=>by show _=b;lia,by decide⟩
 ·exact⟨0,1,1,0,O2 (j:=6) (by decide+kernel) rfl,fun a b=>by show _=b;lia,fun a b=>by show _=a;lia,by decide⟩
 ·exact⟨0,-1,-1,0,O2 (j:=7) (by decide+kernel) rfl,fun a b=>by show _= -b;lia,fun a b=>by show _= -a;lia,by decide⟩
theorem b6N(i j k l:Nat)(ρ:c6)(p q r s:PV):b8u [i,j,k,l] ρ (.val (.tuple [p,q,r,s]))=some (.nx ((((ρ.set i (some (.val p))).set j (some (.val q))).set k (some (.val r))).set l (some (.val s)))):=Eq.trans rfl rfl
theorem b0V{n:Nat}(hn:0<n)(hn8:n<=8)(f:Nat->Nat->Nat){w:Str}(hw:w∈m6)(d t:Int):K8 [z7 n f,T3 w d t]=some (.val (.bool (uaR n f w d t).isNone)):=by
 obtain⟨x,y,z,u,M⟩:=b9y hw
 have s1:=M.sm
 have hlook:=M.look
 unfold m6 at hlook
 have inner:∀(r:Nat),r<n->∀(q8 q9 q10:Option i7),((AL n).findSome? (fun(c:Nat)=>if(f (lr n w d t r c).toNat (lc n w d t r c).toNat==f r c)=true then none else some (i7.val (.bool false)))=none/\∃ρ',B2 B3 (g5 8) (P5 0 n) [some (.val (z7 n f)),some (.val (T3 w d t)),some (.val (.int n)),some (.val (.int x)),some (.val (.int y)),some (.val (.int z)),some (.val (.int u)),some (.val (.int (r:Nat))),q8,q9,q10]=some (.nx ρ')/\∃q7 q8 q9 q10:Option i7,ρ'=[some (.val (z7 n f)),some (.val (T3 w d t)),some (.val (.int n)),some (.val (.int x)),some (.val (.int y)),some (.val (.int z)),some (.val (.int u)),q7,q8,q9,q10])\/(∃v,(AL n).findSome? (fun(c:Nat)=>if(f (lr n w d t r c).toNat (lc n w d t r c).toNat==f r c)=true then none else some (i7.val (.bool false)))=some v/\B2 B3 (g5 8) (P5 0 n) [some (.val (z7 n f)),some (.val (T3 w d t)),some (.val (.int n)),some (.val (.int x)),some (.val (.int y)),some (.val (.int z)),some (.val (.int u)),some (.val (.int (r:Nat))),q8,q9,q10]=some (.rt v)):=by
  intro r hr q8 q9 q10
  have e1:∀c:Nat,(x*(r:Int)+y*(c:Int)+d) % n=lr n w d t r c:=fun c=>by rw [M.row];rfl
  have e2:∀c:Nat,(z*(r:Int)+u*(c:Int)+t) % n=lc n w d t r c:=fun c=>by rw [M.col];rfl
  rcases a2t (body:=B3) (tg:=g5 8) (I:=fun ρ=>∃q8 q9 q10:Option i7,ρ=[some (.val (z7 n f)),some (.val (T3 w d t)),some (.val (.int n)),some (.val (.int x)),some (.val (.int y)),some (.val (.int z)),some (.val (.int u)),some (.val (.int (r:Nat))),q8,q9,q10]) (f:=fun(c:Nat)=>if(f (lr n w d t r c).toNat (lc n w d t r c).toNat==f r c)=true then none else some (i7.val (.bool false))) (n:=n) (ρ:=[some (.val (z7 n f)),some (.val (T3 w d t)),some (.val (.int n)),some (.val (.int x)),some (.val (.int y)),some (.val (.int z)),some (.val (.int u)),some (.val (.int (r:Nat))),q8,q9,q10])
   (by
    rintro c hc ρ ⟨q8,q9,q10,rfl⟩ hf
    obtain⟨⟨b1,b2⟩,b3,b4⟩:=a0m (n:=(n:Int)) (by lia) w d t r c
    have hq:(f (lr n w d t r c).toNat (lc n w d t r c).toNat==f r c)=true:=by
     split at hf
     ·assumption
     ·cases hf
    apply a41 rfl
    ·unfold B3
     simp (disch:=omega) only [y4,L7,u7,t6,x6,j0,g9,b8,d0,j3,u6,c8,g0,g8,z8,k9,j4,l7,AF,AU,AV,Bool.not_true,e1,e2,a2r b1 b2,a4V b3 b4 (by lia),a2r (n:=n) (f:=f) (i:=((r:Nat):Int)) (by lia) (by lia),a4V (n:=n) (g:=fun c=>f r c) (j:=((c:Nat):Int)) (by lia) (by lia) (by lia),tn,a55,a5W,hq]
     try rfl
    ·exact⟨_,_,_,rfl⟩)
   (by
    rintro c hc ρ ⟨q8,q9,q10,rfl⟩ v hf
    obtain⟨⟨b1,b2⟩,b3,b4⟩:=a0m (n:=(n:Int)) (by lia) w d t r c
    have hq:(f (lr n w d t r c).toNat (lc n w d t r c).toNat==f r c)=false/\v= .val (.bool false):=by
     split at hf
     ·cases hf
     ·rename_i h;cases hf;exact⟨by simpa using h,rfl⟩
    obtain⟨hq,rfl⟩:=hq
    refine⟨_,rfl, ?_⟩
    unfold B3
    simp (disch:=omega) only [y4,L7,u7,t6,x6,j0,g9,b8,d0,j3,u6,f8,l8,c8,g0,g8,A6,j4,l7,AF,AU,AV,Bool.not_false,e1,e2,a2r b1 b2,a4V b3 b4 (by lia),a2r (n:=n) (f:=f) (i:=((r:Nat):Int)) (by lia) (by lia),a4V (n:=n) (g:=fun c=>f r c) (j:=((c:Nat):Int)) (by lia) (by lia) (by lia),tn,a55,a5W,hq]
    try rfl) ⟨q8,q9,q10,rfl⟩ with⟨h1,ρ',h2,a,b,c,rfl⟩|⟨v,h1,h2⟩
  ·exact .inl ⟨h1,_,h2,_,_,_,_,rfl⟩
  ·exact .inr ⟨v,h1,h2⟩
 have outer:=a2t (body:=K3) (tg:=g5 7) (I:=fun ρ=>∃q7 q8 q9 q10:Option i7,ρ=[some (.val (z7 n f)),some (.val (T3 w d t)),some (.val (.int n)),some (.val (.int x)),some (.val (.int y)),some (.val (.int z)),some (.val (.int u)),q7,q8,q9,q10]) (f:=fun(r:Nat)=>(AL n).findSome? (fun(c:Nat)=>if(f (lr n w d t r c).toNat (lc n w d t r c).toNat==f r c)=true then none else some (i7.val (.bool false)))) (n:=n) (ρ:=[some (.val (z7 n f)),some (.val (T3 w d t)),some (.val (.int n)),some (.val (.int x)),some (.val (.int y)),some (.val (.int z)),some (.val (.int u)),none,none,none,none])
  (by
   rintro r hr ρ ⟨q7,q8,q9,q10,rfl⟩ hf
   rcases inner r hr q8 q9 q10 with⟨_,ρ',h2,h3⟩|⟨v,h1,_⟩
   ·apply a41 rfl
    ·unfold K3
     simp (disch:=omega) only [b8,d0,b7,a9,b5,p9,v9,B8,AF,AU,AV]
     exact h2
    ·exact h3
   ·rw [h1] at hf;cases hf)
  (by
   rintro r hr ρ ⟨q7,q8,q9,q10,rfl⟩ v hf
   rcases inner r hr q8 q9 q10 with⟨h1,_⟩|⟨v',h1,h2⟩
   ·rw [h1] at hf;cases hf
   ·rw [h1] at hf;cases hf
    refine⟨_,rfl, ?_⟩
    unfold K3
    simp (disch:=omega) only [b8,d0,b7,a9,b5,p9,v9,B8,AF,AU,AV]
    exact h2) ⟨none,none,none,none,rfl⟩
 unfold K8 a1v
 rcases outer with⟨h1,ρ',h2,a,b,c,e,rfl⟩|⟨v,h1,h2⟩
 ·have hN:uaR n f w d t=none:=by
   refine a7P.mpr fun r c hr hc=> ?_
   obtain⟨a,b,ha,hb,e1,e2⟩:=a4I hn hw d t hr hc
   have g1:=List.findSome?_eq_none_iff.mp h1 a (List.mem_range.mpr ha)
   have g2:=List.findSome?_eq_none_iff.mp g1 b (List.mem_range.mpr hb)
   have g3:=a4M hn f hw d t ha hb
   have g4:f (lr n w d t a b).toNat (lc n w d t a b).toNat=f a b:=by
    split at g2
    ·rename_i h;simpa using h
    ·cases g2
   rw [<-g3,e1,e2,tn,tn] at g4
   exact g4
  rw [hN]
  simp (disch:=omega) only [o0,j0,A1,g9,b8,d0,b7,a9,b5,o8,j3,u6,f8,l8,c8,g0,f7,h9,a16,a7s,B7,p9,v9,B8,AF,Ao,AI,AS,AX,AQ,Ab,AZ,AU,AV,AR,AY,↓reduceIte,sz,Nat.reduceAdd,Ad,Int.reduceNeg,O0,a15,b17,hlook,b6N,h2]
  try rfl
 ·obtain⟨r,hr,g1⟩:=List.exists_of_findSome?_eq_some h1
  obtain⟨c,hc,g2⟩:=List.exists_of_findSome?_eq_some g1
  have hr:=List.mem_range.mp hr
  have hc:=List.mem_range.mp hc
  have hq:(f (lr n w d t r c).toNat (lc n w d t r c).toNat==f r c)=false/\v= .val (.bool false):=by
   split at g2
   ·cases g2
   ·rename_i h;cases g2;exact⟨by simpa using h,rfl⟩
  obtain⟨hq,rfl⟩:=hq
  have hS:(uaR n f w d t).isNone=false:=by
   cases hu:uaR n f w d t with
   |some _=>rfl
   |none=>
    obtain⟨⟨b1,b2⟩,b3,b4⟩:=a0m (n:=(n:Int)) (by lia) w d t r c
    have g3:=a7P.mp hu (lr n w d t r c).toNat (lc n w d t r c).toNat (by lia) (by lia)
    rw [a4M hn f hw d t hr hc] at g3
    rw [g3] at hq
    simp at hq
  rw [hS]
  simp (disch:=omega) only [o0,j0,A1,g9,b8,d0,b7,a9,b5,o8,j3,u6,c8,g0,u5,f7,h9,a16,a7s,B7,p9,v9,B8,AF,Ao,AI,AS,AX,AQ,Ab,AZ,AU,AV,AR,AY,↓reduceIte,sz,Nat.reduceAdd,Ad,Int.reduceNeg,O0,a15,b17,hlook,b6N,h2]
  try rfl
theorem b4R{n:Nat}(hn8:n<=8):a2u [.int n]=some (.own (a1A a03 n)):=by
 obtain⟨q2,q3,q4,e⟩:=b3I hn8 a03 (by decide)
 unfold a2u a8g
 simp (disch:=omega) only [g9,b7,a9,b5,o8,x8,j3,P0,c8,g0,f7,p9,AF,AI,AS,AX,AQ,Ab,AZ,AU,AV,AR,AY,↓reduceIte,U9,B4,sz,Nat.reduceAdd,Ad]
 rw [show B2 a3R (g5 2) [.str (AD "back"),.str (AD "cross"),.str (AD "flip"),.str (AD "half"),.str (AD "other"),.str (AD "side"),.str (AD "stay"),.str (AD "turn")] [some (.val (.int n)),some (.own []),none,none,none]=_ from e]
 simp (disch:=omega) only [g0,h9,AF,a2y,a2z]
theorem b7I(N:Int):∃m:Int,(0<m/\m<=8)/\v6 (.own [.int 4,.int 4,.int 4,.int 4,.int 4,.int 8]) (.val (.int (N % 6)))=some (.val (.int m)):=by
 have h:N % 6=0\/N % 6=1\/N % 6=2\/N % 6=3\/N % 6=4\/N % 6=5:=by lia
 rcases h with h|h|h|h|h|h<;>rw [h]
 ·exact⟨4,by decide,rfl⟩
 ·exact⟨4,by decide,rfl⟩
 ·exact⟨4,by decide,rfl⟩
 ·exact⟨4,by decide,rfl⟩
 ·exact⟨4,by decide,rfl⟩
 ·exact⟨8,by decide,rfl⟩
theorem b26{body:MS}{tg:PV->c6->Option c6}{p:PV}{ps:List PV}{ρ ρ1 ρ2:c6}(h1:tg p ρ=some ρ1)(h2:body ρ1=some (.nx ρ2)):B2 body tg (p::ps) ρ=B2 body tg ps ρ2:=by
 rw [B2,h1,AF,h2]
 rfl
def a1B(n:Nat)(H:List MV):PV:= .tuple [.str (wd n H),V9 n H]
theorem a58{n:Nat}(hn:0<n)(hn8:n<=8)(f:Nat->Nat->Nat):Y9 [z7 n f]=some (.val (a1B n (B1 n f))):=by
 have G:=b2a hn f
 have hl:=G.len hn8
 obtain⟨e1,e2⟩:=b7V hn hn8 G.nd (by lia)
 have e0:=b18 hn hn8 f
 unfold Y9 b4U
 simp (disch:=omega) only [A1,b8,d0,b7,a9,b5,U6,o8,g7,j3,u6,f8,l8,c8,g0,f7,h9,AF,AI,AS,AX,AQ,Ab,AZ,AU,AV,AR,AY,↓reduceIte,sz,Nat.reduceAdd,Ad,O0,e0,e1,e2]
 rfl
theorem c0M{n:Nat}(hn:0<n)(hn8:n<=8){H:List MV}(h:Gp n H):J9 [.int n,dv (C2 H)]=some (.val (V9 n H))/\K2 [V9 n H]=some (.val (.str (wd n H))):=by
 have e:=b1f hn hn8 (by have:=h.len hn8;lia) h.half
 obtain⟨p,h1,h2⟩:=b6T hn hn8 h
 rw [e] at h1
 cases h1
 exact⟨e,h2⟩
theorem a4y{n:Nat}(hn:0<n)(hn8:n<=8)(f:Nat->Nat->Nat){s0 s2 s5 s6 s7 s8 s9:Option i7}:∀(xs L:List MV) (q4:Option i7),(∀x∈xs,OkM n x)->(L++xs).Nodup->L.length+xs.length<=10000->
 ∃q4',B2 a1Z (g5 4) (xs.map tp) [s0,some (.val (z7 n f)),s2,some (.ow (.dct (C2 L))),q4,s5,s6,s7,s8,s9]=some (.nx [s0,some (.val (z7 n f)),s2,some (.ow (.dct (C2 (L++xs.filter fun x=>(uaR n f x.1 x.2.1 x.2.2).isNone)))),q4',s5,s6,s7,s8,s9])
 |[],L,q4,_,_,_=>⟨q4,by rw [List.filter_nil,Af];rfl⟩
 |x::xs,L,q4,ho,nd,hl=>by
  rw [AR] at hl
  have hw:=(ho x Am).1
  have le:K8 [z7 n f,tp x]=some (.val (.bool (uaR n f x.1 x.2.1 x.2.2).isNone)):=b0V hn hn8 f hw x.2.1 x.2.2
  have hx:x∉L:=fun h=>by
   have:=(List.nodup_append.mp nd).2.2 x h x Am
   exact this rfl
  cases hu:(uaR n f x.1 x.2.1 x.2.2).isNone with
  |true=>
   rw [hu] at le
   obtain⟨q,ih⟩:=a4y hn hn8 f (s0:=s0) (s2:=s2) (s5:=s5) (s6:=s6) (s7:=s7) (s8:=s8) (s9:=s9) xs (L++[x]) (some (.val (tp x))) (fun y hy=>ho y (Ak _ hy)) (by rw [List.append_assoc];exact nd) (by rw [Ah,List.length_singleton];lia)
   refine⟨q, ?_⟩
   rw [AI,b26 (ρ1:=[s0,some (.val (z7 n f)),s2,some (.ow (.dct (C2 L))),some (.val (tp x)),s5,s6,s7,s8,s9]) (ρ2:=[s0,some (.val (z7 n f)),s2,some (.ow (.dct (C2 (L++[x])))),some (.val (tp x)),s5,s6,s7,s8,s9]) rfl ?_,ih,List.filter_cons,if_pos hu,List.append_assoc]
   ·rfl
   ·have kk:a5q (.val (tp x))=some (ky x):=rfl
    unfold a1Z
    simp (disch:=omega) only [g9,b8,d0,b7,a9,b5,g7,g8,A6,D8,a83,AF,le,a5t,kk]
    rw [a6M rfl (by rw [b2R];lia),b2S hx]
    rfl
  |false=>
   rw [hu] at le
   obtain⟨q,ih⟩:=a4y hn hn8 f (s0:=s0) (s2:=s2) (s5:=s5) (s6:=s6) (s7:=s7) (s8:=s8) (s9:=s9) xs L (some (.val (tp x))) (fun y hy=>ho y (Ak _ hy)) (by
    have:=nd
    rw [List.nodup_append] at this ⊢
    exact⟨this.1,(List.nodup_cons.mp this.2.1).2,fun a ha b hb=>this.2.2 a ha b (Ak _ hb)⟩) (by lia)
   refine⟨q, ?_⟩
   rw [AI,b26 (ρ1:=[s0,some (.val (z7 n f)),s2,some (.ow (.dct (C2 L))),some (.val (tp x)),s5,s6,s7,s8,s9]) (ρ2:=[s0,some (.val (z7 n f)),s2,some (.ow (.dct (C2 L))),some (.val (tp x)),s5,s6,s7,s8,s9]) rfl ?_,ih,List.filter_cons,if_neg (by rw [hu];exact Al)]
   unfold a1Z
   simp (disch:=omega) only [b8,d0,b7,a9,b5,g7,g8,z8,k9,D8,a83,AF,le]
theorem a7Z{n:Nat}(hn:0<n)(hn8:n<=8)(f:Nat->Nat->Nat){w:Str}(hw:w∈m6)(d t r:Int):
 a0j [z7 n f,T3 w d t,.int r]=some (.val (row ((AL n).map fun(c:Nat)=>f (lr n w d t r c).toNat (lc n w d t r c).toNat))):=by
 unfold a0j a5k
 simp (disch:=omega) only [A1,b8,j3,u6,c8,g0,f7,AF,AI,AS,AX,AQ,Ab,AZ,AU,AV,O0]
 rw [Q1 (f:=fun c:Nat=> .tuple [.int (lr n w d t r c),.int (lc n w d t r c)]) (AL n) (a8L (n:=n) rfl (by lia)) (by rw [Aq];lia)]
 ·simp (disch:=omega) only [j0,g9,P0,f8,g0,AF,AU,AV]
  rw [Q1 (ι:=fun c:Nat=> .tuple [.int (lr n w d t r c),.int (lc n w d t r c)]) (f:=fun c:Nat=>row [f (lr n w d t r c).toNat (lc n w d t r c).toNat]) (AL n) (Q2 (r:= .bor ((AL n).map fun c:Nat=> .tuple [.int (lr n w d t r c),.int (lc n w d t r c)])) rfl rfl) (by rw [Aq];lia)]
  ·simp (disch:=omega) only [l8,h9,AF,show AD ""=S [] from rfl,a60 (k:=n) (by lia)]
  ·intro c hc
   obtain⟨⟨b1,b2⟩,b3,b4⟩:=a0m (n:=(n:Int)) (by lia) w d t r c
   refine⟨_,rfl, ?_⟩
   unfold a13
   simp (disch:=omega) only [o0,t6,j0,g9,b8,d0,b5,AF,AX,AQ,Ab,AZ,AU,AV,a2r b1 b2,a4V b3 b4 (by lia)]
 ·intro c hc
  refine⟨_,rfl, ?_⟩
  unfold a12
  simp (disch:=omega) only [b8,d0,b7,a9,b5,o8,g7,AF,AX,AQ,Ab,AZ,AU,AV,AR,AY,↓reduceIte,sz,Nat.reduceAdd,Ad,a9F hw (s:=(n:Int)) (by lia)]
theorem b4m{n:Nat}(hn:0<n)(hn8:n<=8)(f:Nat->Nat->Nat){w:Str}(hw:w∈m6)(d t:Int):a56 [z7 n f,T3 w d t]=some (.val (z7 n (mvd n f w d t))):=by
 unfold a56 b2K
 simp (disch:=omega) only [A1,b8,d0,b7,a9,b5,g7,j3,u6,f8,c8,g0,f7,AF,AI,AS,AX,AQ,Ab,AZ,AU,AV,O0,b2z hw (s:=(n:Int)) (by lia)]
 rw [Q1 (f:=fun r:Nat=>row ((AL n).map fun(c:Nat)=>mvd n f w d t r c)) (AL n) (a8L (n:=n) rfl (by lia)) (by rw [Aq];lia)]
 ·simp (disch:=omega) only [l8,h9,AF,a63]
  unfold z7 b2M
  rw [Aw]
  rfl
 ·intro r hr
  refine⟨_,rfl, ?_⟩
  unfold a7c
  simp (disch:=omega) only [b8,d0,b7,a9,b5,g7,AF,AX,AQ,Ab,AZ,AU,AV,a7Z hn hn8 f (a6C hw).1]
  rfl
theorem b7K{x:Int}(h:0<=x):((x.toNat:Nat):Int)=x:=by lia
theorem b5P{n:Nat}(hn:0<n){f:Nat->Nat->Nat}{v:Str}{d t:Int}(hv:v∈m6){x:MV}(hx:x.1∈m6):Lvs n (mvd n f v d t) x↔Lvs n f (Z1 n v d t x):=by
 have bkw:(bkM n v d t).1∈m6:=(a6C hv).1
 have key:∀a b:Nat,mvd n f v d t (lr n x.1 x.2.1 x.2.2 (lr n v d t a b) (lc n v d t a b)).toNat (lc n x.1 x.2.1 x.2.2 (lr n v d t a b) (lc n v d t a b)).toNat=f (lr n (Z1 n v d t x).1 (Z1 n v d t x).2.1 (Z1 n v d t x).2.2 a b).toNat (lc n (Z1 n v d t x).1 (Z1 n v d t x).2.1 (Z1 n v d t x).2.2 a b).toNat:=fun a b=>by
  obtain⟨⟨b1,_⟩,b3,_⟩:=a0m (n:=(n:Int)) (by lia) x.1 x.2.1 x.2.2 (lr n v d t a b) (lc n v d t a b)
  have hm:(mul n (byM v d t) x).1∈m6:=a3J hv hx
  have h1:=a9G (n:=(n:Int)) (x:=mul n (byM v d t) x) (y:=bkM n v d t) hm bkw a b
  have h2:=a9G (n:=(n:Int)) (x:=byM v d t) (y:=x) hv hx a b
  unfold Z1
  rw [h1.1,h1.2,h2.1,h2.2]
  unfold mvd
  rw [b7K b1,b7K b3]
  rfl
 constructor
 ·intro h a b ha hb
  obtain⟨⟨b1,b2⟩,b3,b4⟩:=a0m (n:=(n:Int)) (by lia) v d t a b
  have:=h (lr n v d t a b).toNat (lc n v d t a b).toNat (by lia) (by lia)
  rw [b7K b1,b7K b3,key,a4M hn f hv d t ha hb] at this
  exact this
 ·intro h r c hr hc
  obtain⟨a,b,ha,hb,e1,e2⟩:=a4I hn hv d t hr hc
  have h1:=h a b ha hb
  rw [<-key,e1,e2] at h1
  have h2:=a4M hn f hv d t ha hb
  rw [e1,e2,tn,tn] at h2
  rw [h1,h2]
theorem b6Q{n:Nat}(hn:0<n)(h8:n<=8)(f:Nat->Nat->Nat){v:Str}{d t:Int}(ho:OkM n (byM v d t)):wd n (B1 n (mvd n f v d t))=wd n (B1 n f):=by
 have G:=b2a hn f
 have J:=c0u hn ho G.ok
 rw [<-b8x hn h8 G J]
 refine b3M fun x=> ?_
 rw [N4 hn]
 constructor
 ·rintro⟨h1,h2⟩
  have h3:Z1 n v d t x∈B1 n f:=(N4 hn).mpr ⟨a3h (by lia) (a3h (by lia) ho h1) (b3o hn ho.1 d t),(b5P hn ho.1 h1.1).mp h2⟩
  exact Ag.mpr ⟨_,h3,c0t hn ho.1 d t ho h1⟩
 ·intro h
  obtain⟨y,hy,rfl⟩:=Ag.mp h
  have hk:=J.okK _ h
  have hy':=(N4 hn).mp hy
  refine⟨hk,(b5P hn ho.1 hk.1).mpr ?_⟩
  rw [c0J hn ho.1 d t ho hy'.1]
  exact hy'.2
abbrev dyT:List Nat:=[97,98,99,100,101,113,119,120,121,122]
def dyI(x:Nat):Nat:=dyT.findIdx (· ==x)
def dyC(k x:Nat):Nat:=dyT.getD ((dyI x+k) % 10) 0
theorem b68:(dyT.all fun x=>a9t (S dyT) (S [x])==((dyI x:Nat):Int))=true:=by decide+kernel
theorem b1P:((AL 10).all fun k=>dyT.all fun x=>dyT.all fun y=>(dyC k x==dyC k y)==(x==y))=true:=by decide+kernel
theorem b9c{k x y:Nat}(hk:k<10)(hx:x∈dyT)(hy:y∈dyT):dyC k x=dyC k y↔x=y:=by
 have h:=List.all_eq_true.mp (List.all_eq_true.mp (List.all_eq_true.mp b1P k (List.mem_range.mpr hk)) x hx) y hy
 have h:(dyC k x==dyC k y)=(x==y):=by simpa using h
 constructor
 ·intro e
  rw [e,beq_self_eq_true] at h
  exact eq_of_beq h.symm
 ·rintro rfl;rfl
theorem b9b:(dyT.all fun x=>decide (dyI x<10))=true:=by decide+kernel
theorem b67:AD "abcdeqwxyz"=S dyT:=by decide+kernel
theorem b4D{m:M}{ρ:c6}{l:List Nat}(h:m ρ=some (.val (row l))):a9L m ρ=some (l.map fun x=>row [x]):=by
 unfold a9L
 rw [h]
 show some ((S l).cps.toList.map fun c=>PyData.str ⟨#[c]⟩)=_
 rw [b8D]
 rfl
theorem b69{n:Nat}(hn8:n<=8){f:Nat->Nat->Nat}(hf:∀r c,r<n->c<n->f r c∈dyT){N:Int}(hN:0<=N):∃k:Nat,k<10/\a1h [z7 n f,.int N]=some (.val (z7 n fun r c=>dyC k (f r c))):=by
 obtain⟨k,ek,hk⟩:∃k:Nat,1+N % 9=(k:Int)/\k<10:=⟨(1+N % 9).toNat,by lia,by lia⟩
 refine⟨k,hk, ?_⟩
 unfold a1h a6w
 simp (disch:=omega) only [y4,u7,j0,A1,g9,b8,d0,j3,u6,f8,c8,g0,f7,AF,AI,AS,AX,AQ,Ab,AZ,AU,AV,b67,ek]
 rw [Q1 (ι:=fun r:Nat=>row ((AL n).map fun c=>f r c)) (f:=fun r:Nat=>row ((AL n).map fun c=>dyC k (f r c))) (AL n) (by
  refine Q2 (r:= .val (z7 n f)) rfl ?_
  show some (((AL n).map fun r=>(AL n).map fun c=>f r c).map row)=_
  rw [Aw]
  rfl) (by rw [Aq];lia)]
 ·simp (disch:=omega) only [l8,h9,AF,a63]
  unfold z7 b2M
  rw [Aw]
  rfl
 ·intro r hr
  have hr:=List.mem_range.mp hr
  refine⟨_,rfl, ?_⟩
  unfold a2U
  simp (disch:=omega) only [j0,g9,AF,AX,AQ,Ab,AZ,AU,AV]
  rw [Q1 (ι:=fun c:Nat=>row [f r c]) (f:=fun c:Nat=>row [dyC k (f r c)]) (AL n) (by
   rw [b4D (l:=(AL n).map fun c=>f r c) rfl,Aw]
   rfl) (by rw [Aq];lia)]
  ·simp (disch:=omega) only [b5,AF,show AD ""=S [] from rfl,a60 (k:=n) (by lia)]
  ·intro c hc
   have hc:=List.mem_range.mp hc
   have hx:=hf r c hr hc
   have h1:a9t (S dyT) (S [f r c])=((dyI (f r c):Nat):Int):=eq_of_beq (List.all_eq_true.mp b68 _ hx)
   have hi:=of_decide_eq_true (List.all_eq_true.mp b9b _ hx)
   have g1:a4C (.val (.str (S dyT))) (.val (row [f r c]))=some (.val (.int ((dyI (f r c):Nat):Int))):=by
    show some (i7.val (.int (a9t (S dyT) (S [f r c]))))=_
    rw [h1]
   have ix:v6 (.val (.str (S dyT))) (.val (.int ((((dyI (f r c):Nat):Int)+(k:Int)) % 10)))=some (.val (row [dyC k (f r c)])):=by
    have e:(((dyI (f r c):Nat):Int)+(k:Int)) % 10=(((dyI (f r c)+k) % 10:Nat):Int):=by lia
    rw [e]
    have:=b7l (l:=dyT) (m:=10) rfl (by lia) (j:=(((dyI (f r c)+k) % 10:Nat):Int)) (by lia) (by lia)
    rw [tn] at this
    exact this
   refine⟨_,rfl, ?_⟩
   unfold a2T
   simp (disch:=omega) only [y4,u7,j0,g9,b8,d0,b5,AF,AX,AQ,Ab,AZ,AU,AV,g1,ix]
theorem b8y{n:Nat}(hn:0<n){f:Nat->Nat->Nat}(hf:∀r c,r<n->c<n->f r c∈dyT){k:Nat}(hk:k<10):wd n (B1 n fun r c=>dyC k (f r c))=wd n (B1 n f):=by
 refine b3M fun x=> ?_
 rw [N4 hn,N4 hn]
 have h:Lvs n (fun r c=>dyC k (f r c)) x↔Lvs n f x:=by
  constructor
  ·intro h a b ha hb
   obtain⟨⟨b1,b2⟩,b3,b4⟩:=a0m (n:=(n:Int)) (by lia) x.1 x.2.1 x.2.2 a b
   exact(b9c hk (hf _ _ (by lia) (by lia)) (hf a b ha hb)).mp (h a b ha hb)
  ·intro h a b ha hb
   exact congrArg (dyC k) (h a b ha hb)
 rw [h]
abbrev dbl(n:Nat)(f:Nat->Nat->Nat):Nat->Nat->Nat:=fun r c=>f (r % n) (c % n)
theorem b9a{n:Nat}(hn:0<n){w:Str}(hw:w∈m6)(d t a b:Int):(lr ((2*n:Nat):Int) w d t a b) % n=lr n w (d % n) (t % n) (a % n) (b % n)/\(lc ((2*n:Nat):Int) w d t a b) % n=lc n w (d % n) (t % n) (a % n) (b % n):=by
 have e:((2*n:Nat):Int)=2*(n:Int):=by lia
 have m2:∀p:Int,p %(2*(n:Int)) % n=p % n:=b2g n
 constructor
 ·show((f6 w a b+d) %((2*n:Nat):Int)) % n=(f6 w (a % n) (b % n)+d % n) % n
  rw [e,m2,a0q hw,Int.add_emod_emod]
 ·show((e9 w a b+t) %((2*n:Nat):Int)) % n=(e9 w (a % n) (b % n)+t % n) % n
  rw [e,m2,a0d hw,Int.add_emod_emod]
theorem a82{x:Int}{n:Nat}(h:0<=x):x.toNat % n=(x % n).toNat:=by
 rw [<-BG (x.toNat % n),Int.natCast_emod,Int.toNat_of_nonneg h]
theorem b65{n:Nat}(hn:0<n){f:Nat->Nat->Nat}{w:Str}(hw:w∈m6)(d t:Int):Lvs (2*n) (dbl n f) (w,d,t)↔Lvs n f (w,d % n,t % n):=by
 have key:∀a b:Nat,dbl n f (lr ((2*n:Nat):Int) w d t a b).toNat (lc ((2*n:Nat):Int) w d t a b).toNat=f (lr n w (d % n) (t % n) ((a % n:Nat):Int) ((b % n:Nat):Int)).toNat (lc n w (d % n) (t % n) ((a % n:Nat):Int) ((b % n:Nat):Int)).toNat:=fun a b=>by
  obtain⟨⟨b1,b2⟩,b3,b4⟩:=a0m (n:=((2*n:Nat):Int)) (by lia) w d t a b
  obtain⟨h1,h2⟩:=b9a hn hw d t a b
  show f ((lr ((2*n:Nat):Int) w d t a b).toNat % n) ((lc ((2*n:Nat):Int) w d t a b).toNat % n)=_
  rw [a82 b1,a82 b3,h1,h2,Int.natCast_emod,Int.natCast_emod]
 constructor
 ·intro h a b ha hb
  have:=h a b (by lia) (by lia)
  rw [show dbl n f (lr ((2*n:Nat):Int) (w,d,t).1 (w,d,t).2.1 (w,d,t).2.2 a b).toNat (lc ((2*n:Nat):Int) (w,d,t).1 (w,d,t).2.1 (w,d,t).2.2 a b).toNat=_ from key a b,Nat.mod_eq_of_lt ha,Nat.mod_eq_of_lt hb] at this
  have e:dbl n f a b=f a b:=by show f (a % n) (b % n)=_;rw [Nat.mod_eq_of_lt ha,Nat.mod_eq_of_lt hb]
  rw [e] at this
  exact this
 ·intro h a b _ _
  rw [show dbl n f (lr ((2*n:Nat):Int) (w,d,t).1 (w,d,t).2.1 (w,d,t).2.2 a b).toNat (lc ((2*n:Nat):Int) (w,d,t).1 (w,d,t).2.1 (w,d,t).2.2 a b).toNat=_ from key a b]
  exact h (a % n) (b % n) (Nat.mod_lt _ hn) (Nat.mod_lt _ hn)
theorem a1b{n:Nat}(hn:0<n){f:Nat->Nat->Nat}{w:Str}(hw:w∈m6)(p q:Int):(w,p %((2*n:Nat):Int),q %((2*n:Nat):Int))∈B1 (2*n) (dbl n f)↔(w,p % n,q % n)∈B1 n f:=by
 have e:((2*n:Nat):Int)=2*(n:Int):=by lia
 rw [N4 (by lia),N4 hn,b65 hn hw,e,b2g,b2g,<-e]
 have o1:OkM ((2*n:Nat):Int) (w,p %((2*n:Nat):Int),q %((2*n:Nat):Int)):=⟨hw,⟨Int.emod_nonneg _ (by lia),Int.emod_lt_of_pos _ (by lia)⟩,Int.emod_nonneg _ (by lia),Int.emod_lt_of_pos _ (by lia)⟩
 have o2:OkM (n:Int) (w,p %(n:Int),q %(n:Int)):=⟨hw,⟨Int.emod_nonneg _ (by lia),Int.emod_lt_of_pos _ (by lia)⟩,Int.emod_nonneg _ (by lia),Int.emod_lt_of_pos _ (by lia)⟩
 exact⟨fun h=>⟨o2,h.2⟩,fun h=>⟨o1,h.2⟩⟩
theorem b58{n:Nat}{x:MV}(h:OkM n x):(x.1,x.2.1 %(n:Int),x.2.2 %(n:Int))=x:=by
 rw [Int.emod_eq_of_lt h.2.1.1 h.2.1.2,Int.emod_eq_of_lt h.2.2.1 h.2.2.2]
theorem c0m{n:Nat}(hn:0<n)(h4:n<=4)(f:Nat->Nat->Nat):wd (2*n) (B1 (2*n) (dbl n f))=wd n (B1 n f):=by
 have hn2:0<2*n:=by lia
 have hw:∀z:Str,z∈ws (B1 (2*n) (dbl n f))↔z∈ws (B1 n f):=fun z=>by
  constructor
  ·intro h
   obtain⟨x,hx,rfl⟩:=Ag.mp h
   have ho:=((N4 hn2).mp hx).1
   have:=(a1b hn ho.1 x.2.1 x.2.2).mp (by rw [b58 ho];exact hx)
   exact Ag.mpr ⟨_,this,rfl⟩
  ·intro h
   obtain⟨x,hx,rfl⟩:=Ag.mp h
   have ho:=((N4 hn).mp hx).1
   have:=(a1b hn ho.1 x.2.1 x.2.2).mpr (by rw [b58 ho];exact hx)
   exact Ag.mpr ⟨_,this,rfl⟩
 have e1:tn4 (ws (B1 (2*n) (dbl n f)))=tn4 (ws (B1 n f)):=by
  unfold tn4
  simp only [hw]
 have e2:X9 (ws (B1 (2*n) (dbl n f)))=X9 (ws (B1 n f)):=by
  unfold X9
  refine List.filter_congr fun x _=> ?_
  rw [decide_eq_decide]
  exact hw x
 have fl:∀w∈i8,(fnd (2*n) (B1 (2*n) (dbl n f)) w).length=(fnd n (B1 n f) w).length:=fun w hb=>by
  rw [b23 hn2 (by lia) hb,b23 hn (by lia) hb]
  have:Mir (2*n) (B1 (2*n) (dbl n f)) w↔Mir n (B1 n f) w:=by
   unfold Mir
   simp only [a1b hn (K7 (C9 hb))]
  by_cases h:Mir n (B1 n f) w
  ·rw [if_pos h,if_pos (this.mpr h)]
  ·rw [if_neg h,if_neg (fun z=>h (this.mp z))]
 have e3:(D9 (2*n) (B1 (2*n) (dbl n f)) i8).length=(D9 n (B1 n f) i8).length:=by
  obtain⟨bC,bF,bO,bS⟩:=bIn
  rw [b24,b24,fl _ bC,fl _ bF,fl _ bO,fl _ bS]
 have e4:lsN (2*n) (B1 (2*n) (dbl n f))=lsN n (B1 n f):=by
  rw [Bool.eq_iff_iff,a9J hn2 (by lia),a9J hn (by lia)]
  unfold NL
  constructor
  ·intro h w hb p q hm
   obtain⟨e,g,a1,a2,a3⟩:=h w hb p q ((a1b hn (K7 (C9 hb)) p q).mpr hm)
   exact⟨e,g,a1,a2,(a1b hn (K7 (C9 hb)) e g).mp a3⟩
  ·intro h w hb p q hm
   obtain⟨e,g,a1,a2,a3⟩:=h w hb p q ((a1b hn (K7 (C9 hb)) p q).mp hm)
   exact⟨e,g,a1,a2,(a1b hn (K7 (C9 hb)) e g).mpr a3⟩
 unfold wd
 rw [e1,e2,e3,e4]
theorem a8u:∀R:List (List Nat),a6S (R.map row)=true
 |[]=>rfl
 |a::R=>by
  show(a7Y (row a)&& a6S (R.map row))=true
  rw [a8u R]
  rfl
theorem b3m:∀l:List Str,ndL (l.map .str)=true
 |[]=>rfl
 |a::l=>by
  show(nd (.str a)&& ndL (l.map .str))=true
  rw [b3m l]
  rfl
theorem c0P(n:Nat)(H:List MV):nd (lsP n H)=true:=by
 rcases b5O n H with⟨_,e⟩|⟨_,x,e⟩<;>rw [e]<;>rfl
theorem c0R(n:Nat)(H:List MV)(k:Nat):u0 (lsP n H) (k+1)=true:=by
 rcases b5O n H with⟨_,e⟩|⟨_,x,e⟩<;>rw [e]<;>rfl
theorem b9B(n:Nat)(H:List MV):nd (V9 n H)=true:=by
 show(true &&(ndL ((X9 (ws H)).map .str)&&(ndL ((D9 n H i8).map tp)&&(nd (lsP n H)&& true))))=true
 rw [b3m,b50,c0P]
 rfl
theorem b9E(n:Nat)(H:List MV):u0 (a1B n H) 50=true:=by
 unfold a1B V9
 simp only [u0,E5,b3n,b9D,c0R,Bool.and_true,Bool.true_and,Bool.and_self]
theorem b6J{α:Type}(n:Nat)(g:Nat->α):(AL n).map g++(AL n).map g=(AL (2*n)).map fun r=>g (r % n):=by
 rw [Nat.two_mul,List.range_add,Az,Aw]
 congr 1
 ·refine List.map_congr_left fun r hr=> ?_
  rw [Nat.mod_eq_of_lt (List.mem_range.mp hr)]
 ·refine List.map_congr_left fun r hr=> ?_
  show g r=g ((n+r) % n)
  rw [Nat.add_mod_left,Nat.mod_eq_of_lt (List.mem_range.mp hr)]
theorem b6K{n:Nat}(hn:0<n)(hn8:n<=8)(f:Nat->Nat->Nat)(s0 s2 s3 s4 s5 s6 s7 s8 s9:Option i7):D5 1 (y8 (m2 C7 (a8 1) (a8 1))) (g5 10) a0o a7b [s0,some (.val (z7 n f)),s2,s3,s4,s5,s6,s7,s8,s9]=some (.own (((AL (2*n)).map fun r=>(AL (2*n)).map fun c=>dbl n f r c).map row)):=by
 have ga:C7 (.val (z7 n f)) (.val (z7 n f))=some (.val (.tuple (((AL (2*n)).map fun r=>(AL n).map fun c=>f (r % n) c).map row))):=by
  show(if(((((AL n).map fun r=>(AL n).map fun c=>f r c).map row).length≠0/\(((AL n).map fun r=>(AL n).map fun c=>f r c).map row).length≠0)/\(((AL n).map fun r=>(AL n).map fun c=>f r c).map row).length+(((AL n).map fun r=>(AL n).map fun c=>f r c).map row).length<=AM) then some (i7.val (.tuple ((((AL n).map fun r=>(AL n).map fun c=>f r c).map row)++(((AL n).map fun r=>(AL n).map fun c=>f r c).map row)))) else none)=_
  rw [if_pos (by simp only [Ae,Aq,sizeLine_eq];lia),<-Az,b6J n fun r=>(AL n).map fun c=>f r c]
 rw [Q1 (ι:=fun r:Nat=>row ((AL n).map fun c=>f (r % n) c)) (f:=fun r:Nat=>row ((AL (2*n)).map fun c=>dbl n f r c)) (AL (2*n)) (by
  refine Q2 (r:= .val (.tuple (((AL (2*n)).map fun r=>(AL n).map fun c=>f (r % n) c).map row))) (by simp (disch:=omega) only [j0,b8,d0,AF,ga]) ?_
  show some _=_
  rw [Aw]
  rfl) (by rw [Aq];lia)]
 ·rw [Aw]
  rfl
 ·intro r _
  have g2:C7 (.val (row ((AL n).map fun c=>f (r % n) c))) (.val (row ((AL n).map fun c=>f (r % n) c)))=some (.val (row ((AL (2*n)).map fun c=>dbl n f r c))):=by
   have:=b5v (l:=(AL n).map fun c=>f (r % n) c) (k:=(AL n).map fun c=>f (r % n) c) (by simp only [Ae,Aq];lia)
   rw [b6J n fun c=>f (r % n) c] at this
   exact this
  refine⟨_,rfl, ?_⟩
  unfold a7b
  simp (disch:=omega) only [j0,b8,d0,b5,AF,AX,AQ,Ab,AZ,AU,AV,g2]
theorem main:∀ns:List Int,ns.length<=63->b8N [.list (ns.map .int)]=some (.val (.bool true)):=by
 intro ns hl
 obtain⟨c0,hc0⟩:=a0P (ns:=ns) (k:=0) (by lia)
 obtain⟨c1,hc1⟩:=a0P (ns:=ns) (k:=1) (by lia)
 obtain⟨most,hm,em⟩:=b7I c0
 obtain⟨n,f,hn,hf,ec⟩:=b42 (ns:=ns) hm
 have hn0:=hn.1
 have hn8:n<=8:=by lia
 have hf:∀r c,r<n->c<n->f r c∈dyT:=hf
 have G:=b2a hn0 f
 obtain⟨q4,dl⟩:=a4y hn0 hn8 f (s0:=scL ns) (s2:=some (.val (.int n))) (s5:=none) (s6:=none) (s7:=none) (s8:=none) (s9:=none) (a6t n) [] none (fun x hx=>a7j.mp hx) (by rw [AZ];exact(a7K n).imp fun h=>h.2) (by
  have e:(a6t n).length=(a1A a03 n).length:=by rw [a5U,Ae]
  rw [e,a6s,show a03.length=8 from rfl,AY]
  have:n*n<=8*8:=Nat.mul_le_mul hn8 hn8
  lia)
 rw [AZ,<-a5U] at dl
 have dl:B2 a1Z (g5 4) (a1A a03 n) [scL ns,some (.val (z7 n f)),some (.val (.int n)),some (.ow (.dct [])),none,none,none,none,none,none]=some (.nx [scL ns,some (.val (z7 n f)),some (.val (.int n)),some (.ow (.dct (C2 (B1 n f)))),q4,none,none,none,none,none]):=dl
 obtain⟨lp,lw⟩:=c0M hn0 hn8 G
 have ke:=a58 hn0 hn8 f
 have al:=b4R hn8
 have cd:a59 J9 3 (a8 2) [scL ns,some (.val (z7 n f)),some (.val (.int n)),some (.ow (.dct (C2 (B1 n f)))),q4,none,none,none,none,none]=some (.val (V9 n (B1 n f))):=by
  unfold a59
  show(J9 [.int n,dv (C2 (B1 n f))]).bind _=_
  rw [lp]
  show(if nd (V9 n (B1 n f))=true then _ else _)=_
  rw [if_pos (b9B _ _)]
 have lb:((X9 (ws (B1 n f))).map PyData.str).length<=4:=by rw [Ae];unfold X9;exact Nat.le_trans (List.length_filter_le _ _) (by decide)
 have lm:((D9 n (B1 n f) i8).map tp).length<=4:=by rw [Ae];exact Nat.le_trans (a1e n (B1 n f) i8) (by decide)
 obtain⟨H,hH⟩:∃H,H=B1 n f:=⟨_,rfl⟩
 have ok:=b9E n (B1 n f)
 have n1:gNe (.val (a1B n (B1 n f))) (.val (a1B n (B1 n f)))=some (.val (.bool false)):=b0O ok
 have q1:gEq (.val (a1B n (B1 n f))) (.val (a1B n (B1 n f)))=some (.val (.bool true)):=b5x ok
 have n2:gNe (.val (.str (wd n (B1 n f)))) (.val (.str (wd n (B1 n f))))=some (.val (.bool false)):=b0O rfl
 have fl:b5p [1] [scL ns,some (.val (z7 n f)),some (.val (.int n)),some (.ow (.dct (C2 (B1 n f)))),q4,some (.val (V9 n (B1 n f))),none,none,none,none]=true:=by
  show(a7Y (z7 n f)&& true)=true
  rw [show a7Y (z7 n f)=true from a8u _]
  rfl
 have i0:∀g:List MV,v6 (.val (a1B n g)) (.val (.int 0))=some (.val (.str (wd n g))):=fun g=>rfl
 have i1:v6 (.val (a1B n (B1 n f))) (.val (.int 1))=some (.val (V9 n (B1 n f))):=rfl
 have t1:a3d "tuple" (a1B n (B1 n f))=true:=rfl
 have t2:a3d "tuple" (V9 n (B1 n f))=true:=rfl
 have f1:b4d (a1B n (B1 n f))=false:=rfl
 have f2:b4d (V9 n (B1 n f))=false:=rfl
 show(b4W [scL ns,none,none,none,none,none,none,none,none,none]).bind b97=_
 unfold b4W
 have s1:z5 1 (m3 Q9 (a6 (a8 0) (a6 (m2 v6 (S4 (a6 (mC (.int 4)) (a6 (mC (.int 4)) (a6 (mC (.int 4)) (a6 (mC (.int 4)) (a6 (mC (.int 4)) (a6 (mC (.int 8)) c7))))))) (m2 (S8 (fun _ j=>0<j) fun i j=> .int (i % j)) (m3 y9 (a6 (a8 0) (a6 (mC (.int 0)) c7))) (mC (.int 6)))) c7))) [scL ns,none,none,none,none,none,none,none,none,none]=some (.nx [scL ns,some (.val (z7 n f)),none,none,none,none,none,none,none,none]):=by
  simp (disch:=omega) only [u7,j0,g9,b8,b7,a9,b5,x8,g7,j3,u6,AF,AU,AV,AR,AY,↓reduceIte,sz,Nat.reduceAdd,Ad,hc0,em,ec]
 rw [c8,s1,AF,g0]
 simp (disch:=omega) only [A1,b8,d0,b7,a9,b5,U6,g7,j3,u6,c8,g0,p9,AF,AU,AV,P4,B4,O0,a8K,a4q,al,dl,cd]
 have mt:a5R (X1 (mtV (m1 (a6Y "tuple") (a8 6)))) (a5R (N9 (m2 gNe (a8 6) (A7 (a6 (a8 7) (a6 (a8 5) c7))))) (X1 (mtV (m1 (a6Y "tuple") (m2 v6 (a8 6) (mC (.int 1))))))) [scL ns,some (.val (z7 n f)),some (.val (.int n)),some (.ow (.dct (C2 (B1 n f)))),q4,some (.val (V9 n (B1 n f))),some (.val (a1B n (B1 n f))),some (.val (.str (wd n (B1 n f)))),none,none]=some false:=by
  have n1':gNe (.val (a1B n (B1 n f))) (.val (.tuple [.str (wd n (B1 n f)),V9 n (B1 n f)]))=some (.val (.bool false)):=n1
  simp (disch:=omega) only [j0,A1,g9,b8,d0,b7,a9,b5,o8,D8,j4,l7,a83,C8,a0Y,b1d,b5z,AF,Ao,AR,AY,↓reduceIte,Bool.not_true,sz,Nat.reduceAdd,Ad,c0s,t1,f1,n1',i1,t2,f2]
 have lw':m3 K2 (a6 (a8 5) c7) [scL ns,some (.val (z7 n f)),some (.val (.int n)),some (.ow (.dct (C2 (B1 n f)))),q4,some (.val (V9 n (B1 n f))),some (.val (a1B n (B1 n f))),none,none,none]=some (.val (.str (wd n (B1 n f)))):=by
  simp (disch:=omega) only [b8,d0,b7,a9,b5,g7,AF,lw]
 have ke':m3 Y9 (a6 (a8 1) c7) (keep [1] [scL ns,some (.val (z7 n f)),some (.val (.int n)),some (.ow (.dct (C2 (B1 n f)))),q4,some (.val (V9 n (B1 n f))),none,none,none,none])=some (.val (a1B n (B1 n f))):=by
  show(Y9 [z7 n f])=_
  exact ke
 have m4:N9 (m2 (gI fun i j=> .bool (decide (j<i))) (a8 2) (mC (.int 4))) [scL ns,some (.val (z7 n f)),some (.val (.int n)),some (.ow (.dct (C2 (B1 n f)))),q4,some (.val (V9 n (B1 n f))),some (.val (a1B n (B1 n f))),some (.val (.str (wd n (B1 n f)))),none,none]=some (decide ((4:Int)<n)):=by
  simp (disch:=omega) only [a1U,j0,g9,b8,d0,j4,l7,AF]
 have pk:∀r:MS,a7g 6 7 [1] (m3 Y9 (a6 (a8 1) c7)) (m3 K2 (a6 (a8 5) c7)) (a5R (X1 (mtV (m1 (a6Y "tuple") (a8 6)))) (a5R (N9 (m2 gNe (a8 6) (A7 (a6 (a8 7) (a6 (a8 5) c7))))) (X1 (mtV (m1 (a6Y "tuple") (m2 v6 (a8 6) (mC (.int 1)))))))) (N9 (m2 (gI fun i j=> .bool (decide (j<i))) (a8 2) (mC (.int 4)))) (v7 (mC (.bool true))) r [scL ns,some (.val (z7 n f)),some (.val (.int n)),some (.ow (.dct (C2 (B1 n f)))),q4,some (.val (V9 n (B1 n f))),none,none,none,none]=if(4:Int)<n then some (.rt (.val (.bool true))) else r [scL ns,some (.val (z7 n f)),some (.val (.int n)),some (.ow (.dct (C2 (B1 n f)))),q4,some (.val (V9 n (B1 n f))),none,some (.val (.str (wd n (B1 n f)))),none,none]:=fun r=>by
  unfold a7g
  rw [if_pos fl,ke']
  show(if _ then _ else _)=_
  rw [if_pos ⟨⟨by show(6:Nat)<10;lia,by show(7:Nat)<10;lia,rfl⟩,by rw [sizeLine_eq];lia,by rw [sizeLine_eq];lia⟩]
  have lw'':m3 K2 (a6 (a8 5) c7) ([scL ns,some (.val (z7 n f)),some (.val (.int n)),some (.ow (.dct (C2 (B1 n f)))),q4,some (.val (V9 n (B1 n f))),none,none,none,none].set 6 (some (.val (.tuple [.str (wd n (B1 n f)),.tuple [.int (tn4 (ws (B1 n f))),.list ((X9 (ws (B1 n f))).map .str),.list ((D9 n (B1 n f) i8).map tp),lsP n (B1 n f)]]))))=some (.val (.str (wd n (B1 n f)))):=lw'
  rw [lw'']
  have mt'':a5R (X1 (mtV (m1 (a6Y "tuple") (a8 6)))) (a5R (N9 (m2 gNe (a8 6) (A7 (a6 (a8 7) (a6 (a8 5) c7))))) (X1 (mtV (m1 (a6Y "tuple") (m2 v6 (a8 6) (mC (.int 1))))))) (([scL ns,some (.val (z7 n f)),some (.val (.int n)),some (.ow (.dct (C2 (B1 n f)))),q4,some (.val (V9 n (B1 n f))),none,none,none,none].set 6 (some (.val (.tuple [.str (wd n (B1 n f)),.tuple [.int (tn4 (ws (B1 n f))),.list ((X9 (ws (B1 n f))).map .str),.list ((D9 n (B1 n f) i8).map tp),lsP n (B1 n f)]])))).set 7 (some (.val (.str (wd n (B1 n f))))))=some false:=mt
  have m4'':N9 (m2 (gI fun i j=> .bool (decide (j<i))) (a8 2) (mC (.int 4))) (([scL ns,some (.val (z7 n f)),some (.val (.int n)),some (.ow (.dct (C2 (B1 n f)))),q4,some (.val (V9 n (B1 n f))),none,none,none,none].set 6 (some (.val (.tuple [.str (wd n (B1 n f)),.tuple [.int (tn4 (ws (B1 n f))),.list ((X9 (ws (B1 n f))).map .str),.list ((D9 n (B1 n f) i8).map tp),lsP n (B1 n f)]])))).set 7 (some (.val (.str (wd n (B1 n f))))))=some (decide ((4:Int)<n)):=m4
  dsimp only
  rw [mt'',m4'']
  by_cases h:(4:Int)<n
  ·rw [decide_eq_true h,if_pos h]
   rfl
  ·rw [decide_eq_false h,if_neg h]
   rfl
 rw [pk]
 by_cases h4:(4:Int)<n
 ·rw [if_pos h4]
  rfl
 rw [if_neg h4]
 have x1:=a18 (c:=c1) (k:=40) (by lia)
 have hN:=(c0N c1 40).1
 generalize mix c1 40=N at x1 hN
 obtain⟨w,hw,ew⟩:=b3l (n:=(n:Int)) N (by lia)
 have ho:OkM n (byM w (N / 8 % n) (N / 64 % n)):=⟨hw,⟨Int.emod_nonneg _ (by lia),Int.emod_lt_of_pos _ (by lia)⟩,Int.emod_nonneg _ (by lia),Int.emod_lt_of_pos _ (by lia)⟩
 have mv:=b4m hn0 hn8 f hw (N / 8 % n) (N / 64 % n)
 have km:=a58 hn0 hn8 (mvd n f w (N / 8 % n) (N / 64 % n))
 have im:=i0 (B1 n (mvd n f w (N / 8 % n) (N / 64 % n)))
 rw [b6Q hn0 hn8 f ho] at im
 obtain⟨k,hk,dy⟩:=b69 hn8 hf hN
 have kd:=a58 hn0 hn8 fun r c=>dyC k (f r c)
 have id:=i0 (B1 n fun r c=>dyC k (f r c))
 rw [b8y hn0 hf hk] at id
 have tw:=b6K hn0 hn8 f (scL ns) (some (.val (.int n))) (some (.ow (.dct (C2 (B1 n f))))) q4 (some (.val (V9 n (B1 n f)))) none (some (.val (.str (wd n (B1 n f))))) (some (.val (.int N))) none
 have tt:a1f (.own (((AL (2*n)).map fun r=>(AL (2*n)).map fun c=>dbl n f r c).map row))=some (.val (z7 (2*n) (dbl n f))):=rfl
 have q1':gEq (.val (a1B n (B1 n f))) (.val (.tuple [.str (wd n (B1 n f)),V9 n (B1 n f)]))=some (.val (.bool true)):=q1
 by_cases h3:(n:Int)<4
 ·have k2:=a58 (n:=2*n) (by lia) (by lia) (dbl n f)
  have i2:v6 (.val (a1B (2*n) (B1 (2*n) (dbl n f)))) (.val (.int 0))=some (.val (.str (wd n (B1 n f)))):=by
   rw [<-c0m hn0 (by lia) f]
   rfl
  simp (disch:=omega) only [a9v,j0,A1,g9,b8,d0,b7,a9,b5,o8,g7,j3,u6,f8,l8,c8,g0,g8,z8,k9,h9,j4,l7,a0Y,Q3,b1d,a9g,AF,AU,AV,AR,AY,↓reduceIte,sz,Nat.reduceAdd,Ad,hc1,x1,ew,mv,km,im,n2,dy,kd,id,tw,tt,decide_eq_true h3,k2,i2,ke,q1']
 ·simp (disch:=omega) only [a9v,j0,A1,g9,b8,d0,b7,a9,b5,o8,g7,j3,u6,f8,l8,c8,g0,g8,z8,k9,h9,j4,l7,a0Y,Q3,b1d,a9f,AF,AU,AV,AR,AY,↓reduceIte,sz,Nat.reduceAdd,Ad,hc1,x1,ew,mv,km,im,n2,dy,kd,id,tw,tt,decide_eq_false h3,ke,q1']
end LW
set_option maxHeartbeats 4000000
namespace LW
open PySem PySem.Spec PyProof.Rows L2 PU
def top(i:Nat):Stmt:=PySem.Challenge.pw_carpetkin_k64_whole_kind_of_a_carpet.main.body.getD i (.Pass ⟨0,0,0,0⟩)
abbrev a2e:Stmt:=top 40
theorem a39:l9 ["_law_way","_law_r","_law_c"] ["_law_way","_law_r","_law_c"] (i9 a2e):=mkS
abbrev a2d:Stmt:=top 41
theorem a38:l9 ["_law_n","_law_movement_here","_law_place_here","_law_r","_law_c"] ["_law_n","_law_movement_here","_law_place_here"] (i9 a2d):=mkS
abbrev a2f:Stmt:=top 44
theorem a4a:l9 ["_law_n","_law_wish","_law_roots_here","_law_r","_law_c","_law_waiting","_law_here","_law_movement_here","_law_there"] ["_law_n","_law_wish"] (i9 a2f):=mkS
abbrev a2b:Stmt:=top 39
theorem a36:l9 ["_law_cell","_law_k"] ["_law_cell","_law_k"] (i9 a2b):=mkS
abbrev Z8:Stmt:=top 42
theorem a1y:l9 ["_law_n","_law_number","_law_way"] ["_law_n","_law_number"] (i9 Z8):=mkS
abbrev a0B:Stmt:=top 38
theorem a2k:l9 ["_law_script","_law_k"] ["_law_script","_law_k"] (i9 a0B):=mkS
abbrev a1l:Stmt:=top 45
theorem a2X:l9 ["_law_script","_law_most","_law_n","_law_wish","_law_k","_law_roots_here","_law_letters","_law_rows","_law_r","_law_row","_law_c","_law_at","_law_number"] ["_law_script","_law_most"] (i9 a1l):=mkS
abbrev a4W:Stmt:=top 43
theorem a7D:l9 ["_law_n","_law_found","_law_way","_law_r","_law_c"] ["_law_n"] (i9 a4W):=mkS
abbrev a2h:Stmt:=top 49
theorem a4c:l9 ["_law_n","_law_movements","_law_found","_law_way","_law_low","_law_far"] ["_law_n","_law_movements"] (i9 a2h):=mkS
abbrev a2g:Stmt:=top 48
theorem a4b:l9 ["_law_n","_law_wide","_law_r","_law_c","_law_low","_law_far"] ["_law_n","_law_wide"] (i9 a2g):=mkS
abbrev a1m:Stmt:=top 47
theorem a2Y:l9 ["_law_n","_law_wide","_law_low","_law_far","_law_r","_law_c"] ["_law_n","_law_wide"] (i9 a1m):=mkS
theorem a7m:List.Nodup (α:=Str) ["_law_n","_law_movements","_law_ways","_law_turn","_law_bends","_law_wides_here","_law_mirrors","_law_way","_law_loose","_law_movement_here"]:=by decide+kernel
theorem a7n:List.Nodup (α:=Str) ["_law_n","_law_movements","_law_ways","_law_turn","_law_bends","_law_wides_here","_law_mirrors","0_law_way","_law_loose","_law_way"]:=by decide+kernel
theorem a7o:List.Nodup (α:=Str) ["_law_n","_law_movements","_law_ways","_law_turn","_law_bends","_law_wides_here","_law_mirrors","_law_way","_law_loose","_law_wide"]:=by decide+kernel
theorem a7p:List.Nodup (α:=Str) ["_law_n","_law_movements","_law_ways","_law_turn","_law_bends","_law_wides_here","_law_mirrors","_law_way","_law_loose","_law_wide"]:=by decide+kernel
abbrev a2c:Stmt:=top 50
theorem a37:l9 ["_law_n","_law_movements","_law_ways","_law_turn","_law_bends","_law_wides_here","_law_mirrors","_law_way","_law_loose"] ["_law_n","_law_movements"] (i9 a2c):=mkS
theorem a9O:List.Nodup (α:=Str) ["movements","movement"]:=by decide+kernel
abbrev a4Z:Stmt:=top 24
theorem a7G:l9 ["movements"] ["movements"] (i9 a4Z):=mkS
abbrev a4Y:Stmt:=top 25
theorem a7F:l9 ["movements","ways"] ["movements"] (i9 a4Y):=mkS
theorem a70:List.Nodup (α:=Str) ["movements","ways","way"]:=by decide+kernel
abbrev a3k:Stmt:=top 26
theorem a5B:l9 ["movements","ways"] ["movements"] (i9 a3k):=mkS
theorem b01:List.Nodup (α:=Str) ["movements","movement"]:=by decide+kernel
abbrev a7B:Stmt:=top 27
theorem a8X:l9 ["movements"] ["movements"] (i9 a7B):=mkS
abbrev U4:Stmt:=top 5
theorem a0u:l9 ["n","way","found","down","right"] ["n","way"] (i9 U4):=mkS
abbrev a7C:Stmt:=top 6
theorem a8Y:l9 ["n","wide"] ["n","wide"] (i9 a7C):=mkS
theorem a4N:List.Nodup (α:=Str) ["n","known","way","wide"]:=by decide+kernel
abbrev a0C:Stmt:=top 28
theorem a2l:l9 ["n","known","way"] ["n","known","way"] (i9 a0C):=mkS
abbrev a2a:Stmt:=top 2
theorem a35:l9 ["n","wide","way"] ["n","wide"] (i9 a2a):=mkS
theorem a5S:List.Nodup (α:=Str) ["n","movements","known","found","way","mirrors","wide"]:=by decide+kernel
abbrev a1n:Stmt:=top 29
theorem a2Z:l9 ["n","movements","known","found","way","mirrors"] ["n","movements"] (i9 a1n):=mkS
abbrev W6:Stmt:=top 3
theorem a02:l9 ["n","wide","half"] ["n","wide"] (i9 W6):=mkS
abbrev a3q:Stmt:=top 4
theorem a5H:l9 ["n","wide"] ["n","wide"] (i9 a3q):=mkS
abbrev a3n:Stmt:=top 30
theorem a5E:l9 ["n","movements","known","way","wide"] ["n","movements"] (i9 a3n):=mkS
abbrev a3o:Stmt:=top 34
theorem a5F:l9 ["n","movements"] ["n","movements"] (i9 a3o):=mkS
abbrev W0:Stmt:=top 12
theorem a00:l9 ["side","movements","way","down","right"] ["side"] (i9 W0):=mkS
abbrev a3r:Stmt:=top 15
theorem a5I:l9 ["way"] ["way"] (i9 a3r):=mkS
abbrev a3p:Stmt:=top 13
theorem a5G:l9 ["way","place","lead"] ["way","place"] (i9 a3p):=mkS
abbrev a1o:Stmt:=top 16
theorem a20:l9 ["side","movement","way","shove"] ["side","movement"] (i9 a1o):=mkS
abbrev b6C:Stmt:=top 14
theorem b6E:l9 ["side","movement","place","found"] ["side","movement","place"] (i9 b6C):=mkS
abbrev b2v:Stmt:=top 8
theorem b3C:l9 ["carpet","r","c","side"] ["carpet","r","c"] (i9 b2v):=mkS
abbrev a2j:Stmt:=top 20
theorem a4e:l9 ["carpet","movement","side","back","r","c","place"] ["carpet","movement"] (i9 a2j):=mkS
abbrev a7A:Stmt:=top 21
theorem a8W:l9 ["carpet","movement"] ["carpet","movement"] (i9 a7A):=mkS
theorem a9N:List.Nodup (α:=Str) ["carpet","movement"]:=by decide+kernel
abbrev a4X:Stmt:=top 22
theorem a7E:l9 ["carpet"] ["carpet"] (i9 a4X):=mkS
abbrev U3:Stmt:=top 33
theorem a0t:l9 ["bends","mirrors"] ["bends","mirrors"] (i9 U3):=mkS
abbrev U1:Stmt:=top 31
theorem a0r:l9 ["bends","mirrors","loose"] ["bends","mirrors","loose"] (i9 U1):=mkS
abbrev U2:Stmt:=top 32
theorem a0s:l9 ["bends","mirrors","loose"] ["bends","mirrors","loose"] (i9 U2):=mkS
abbrev a40:Stmt:=top 35
theorem a7H:l9 ["paper"] ["paper"] (i9 a40):=mkS
abbrev b2u:Stmt:=top 36
theorem b3B:l9 ["carpet","paper"] ["carpet"] (i9 b2u):=mkS
abbrev a3m:Stmt:=top 51
theorem a5D:l9 ["_law_paper_here","_law_turn","_law_bends","_law_mirrors","_law_loose"] ["_law_paper_here"] (i9 a3m):=mkS
abbrev W5:Stmt:=top 46
theorem a01:l9 ["_law_carpet_here","_law_movement_here","_law_n","_law_a","_law_b","_law_c","_law_d","_law_r","_law_k","_law_low","_law_far"] ["_law_carpet_here","_law_movement_here"] (i9 W5):=mkS
theorem a7q:List.Nodup (α:=Str) ["carpet","back","r","side","places","c"]:=by decide+kernel
theorem a7r:List.Nodup (α:=Str) ["carpet","back","r","side","places","place"]:=by decide+kernel
abbrev a2i:Stmt:=top 17
theorem a4d:l9 ["carpet","back","r","side","places"] ["carpet","back","r"] (i9 a2i):=mkS
theorem b2h:List.Nodup (α:=Str) ["carpet","movement","side","back","r"]:=by decide+kernel
abbrev a98:Stmt:=top 18
theorem b1k:l9 ["carpet","movement","side","back"] ["carpet","movement"] (i9 a98):=mkS
theorem a71:List.Nodup (α:=Str) ["_law_carpet_here","_law_number","_law_letters","_law_at","_law_row"]:=by decide+kernel
theorem a72:List.Nodup (α:=Str) ["_law_carpet_here","_law_number","_law_letters","_law_at","_law_row","_law_sign"]:=by decide+kernel
abbrev a3l:Stmt:=top 52
theorem a5C:l9 ["_law_carpet_here","_law_number","_law_letters","_law_at"] ["_law_carpet_here","_law_number"] (i9 a3l):=mkS
theorem b51:List.Nodup (α:=Str) ["_law_script","_law_carpet_here","_law_n","_law_movements","_law_movement_here","_law_paper_here","_law_found","_law_word_here","_law_number","_law_twice","_law_row"]:=by decide+kernel
abbrev b6B:Stmt:=top 53
theorem b6D:l9 ["_law_script","_law_carpet_here","_law_n","_law_movements","_law_movement_here","_law_paper_here","_law_found","_law_word_here","_law_number","_law_twice"] ["_law_script"] (i9 b6B):=mkS
structure MoB(K:AE)(mg:Str->Option AA):Prop where
 z_dict:mg "dict"=none
 z_int:mg "int"=none
 z_isinstance:mg "isinstance"=none
 z_len:mg "len"=none
 z_range:mg "range"=none
 z_sorted:mg "sorted"=none
 z_tuple:mg "tuple"=none
 nk:a5y K=true
 nl:b7L K=true
section
variable (P:AN)(w:AK)(K:AE)(mg:Str->Option AA)(base:Heap)
abbrev a0c:Prop:=v8 P w K mg base "_law_plain" ["_law_way","_law_r","_law_c"] 1 M2
abbrev a46:Prop:=v8 P w K mg base "_law_place" ["_law_n","_law_movement_here","_law_place_here"] 2 a0g
abbrev a47:Prop:=v8 P w K mg base "_law_roots" ["_law_n","_law_wish"] 3 a0h
abbrev a1E:Prop:=v8 P w K mg base "_law_mixed" ["_law_cell","_law_k"] 1 J8
abbrev Y2:Prop:=v8 P w K mg base "_law_movement" ["_law_n","_law_number"] 1 M1
abbrev a0v:Prop:=v8 P w K mg base "_law_cell_at" ["_law_script","_law_k"] 1 y9
abbrev a3w:Prop:=v8 P w K mg base "_law_carpet" ["_law_script","_law_most"] 4 Q9
abbrev a8b:Prop:=v8 P w K mg base "_law_all" ["_law_n"] 1 a2u
abbrev a49:Prop:=v8 P w K mg base "_law_wides" ["_law_n","_law_movements"] 1 a0i
abbrev a48:Prop:=v8 P w K mg base "_law_stand" ["_law_n","_law_wide"] 2 K0
abbrev a3x:Prop:=v8 P w K mg base "_law_mirror" ["_law_n","_law_wide"] 2 E1
abbrev a45:Prop:=v8 P w K mg base "_law_paper" ["_law_n","_law_movements"] 3 J9
abbrev a4p:Prop:=v8 P w K mg base "ways_of" ["movements"] 1 a0T
abbrev a8d:Prop:=v8 P w K mg base "turn_of" ["movements"] 2 a2w
abbrev a6k:Prop:=v8 P w K mg base "bends_of" ["movements"] 2 a1g
abbrev a6n:Prop:=v8 P w K mg base "listed" ["movements"] 1 a1W
abbrev a0K:Prop:=v8 P w K mg base "wide_movements" ["n","way"] 1 F9
abbrev b0p:Prop:=v8 P w K mg base "narrow" ["n","wide"] 1 a1X
abbrev a0w:Prop:=v8 P w K mg base "wide_within" ["n","known","way"] 2 C6
abbrev a44:Prop:=v8 P w K mg base "is_mirror" ["n","wide"] 1 P8
abbrev a3y:Prop:=v8 P w K mg base "mirrors_of" ["n","movements"] 3 X4
abbrev a1t:Prop:=v8 P w K mg base "slanted_stand" ["n","wide"] 1 x9
abbrev a6q:Prop:=v8 P w K mg base "stand_of" ["n","wide"] 2 C0
abbrev a6o:Prop:=v8 P w K mg base "loose_of" ["n","movements"] 3 a1i
abbrev a6p:Prop:=v8 P w K mg base "paper_of" ["n","movements"] 4 Z0
abbrev a1r:Prop:=v8 P w K mg base "all_movements" ["side"] 1 O7
abbrev a6r:Prop:=v8 P w K mg base "way_back" ["way"] 1 a3c
abbrev a21:Prop:=v8 P w K mg base "place_by" ["way","place"] 1 T7
abbrev a04:Prop:=v8 P w K mg base "taken_back" ["side","movement"] 2 R5
abbrev b4Q:Prop:=v8 P w K mg base "led" ["side","movement","place"] 2 a8w
abbrev b4P:Prop:=v8 P w K mg base "knot" ["carpet","r","c"] 1 a64
abbrev a5b:Prop:=v8 P w K mg base "unlike_at" ["carpet","movement"] 3 a0k
abbrev b0o:Prop:=v8 P w K mg base "leaves" ["carpet","movement"] 4 a1V
abbrev a8c:Prop:=v8 P w K mg base "leaving" ["carpet"] 5 a2v
abbrev a0J:Prop:=v8 P w K mg base "kind_of_turn_4" ["bends","mirrors"] 1 N3
abbrev a0H:Prop:=v8 P w K mg base "kind_of_turn_1" ["bends","mirrors","loose"] 1 N1
abbrev a0I:Prop:=v8 P w K mg base "kind_of_turn_2" ["bends","mirrors","loose"] 1 N2
abbrev a8e:Prop:=v8 P w K mg base "word_of" ["paper"] 2 a0U
abbrev b4O:Prop:=v8 P w K mg base "kind" ["carpet"] 6 Y9
abbrev a6m:Prop:=v8 P w K mg base "_law_word" ["_law_paper_here"] 1 K2
abbrev a1s:Prop:=v8 P w K mg base "_law_leaves_it" ["_law_carpet_here","_law_movement_here"] 1 K8
abbrev a5a:Prop:=v8 P w K mg base "moved_row" ["carpet","back","r"] 3 a0j
abbrev b2G:Prop:=v8 P w K mg base "moved" ["carpet","movement"] 4 a56
abbrev a6l:Prop:=v8 P w K mg base "_law_dyed" ["_law_carpet_here","_law_number"] 1 a1h
end
section
variable (P:AN)(w:AK){K:AE}{mg:Str->Option AA}(base:Heap)
theorem a9T(D:Df K mg "_law_plain" a2e):a0c P w K mg base:=by
 refine t4 (k:=0) D a39 (fun _ _ _ _ _ _=>el3 (fun _ _ _=>rfl)) fun f cdv A outer s H E hr=> ?_
 have S:=a39
 have hu:=hr.units
 refine f9 ?_
 refine l0 ?_
 refine a8s ?_ ?_ ?_ ?_
 ·exact hu
 ·refine C3 ?_ ?_
  ·exact(p7 (a5 (a7 1 (pv 1)) (a5 (a7 2 (pv 2)) b9)))
  refine C3 ?_ ?_
  ·exact(p7 (a5 (a7 2 (pv 2)) (a5 (K1 (a7 1 (pv 1))) b9)))
  refine C3 ?_ ?_
  ·exact(p7 (a5 (K1 (a7 1 (pv 1))) (a5 (K1 (a7 2 (pv 2))) b9)))
  refine C3 ?_ ?_
  ·exact(p7 (a5 (K1 (a7 2 (pv 2))) (a5 (a7 1 (pv 1)) b9)))
  refine C3 ?_ ?_
  ·exact(p7 (a5 (a7 1 (pv 1)) (a5 (K1 (a7 2 (pv 2))) b9)))
  exact(C3 (p7 (a5 (K1 (a7 1 (pv 1))) (a5 (a7 2 (pv 2)) b9))) (C3 (p7 (a5 (a7 2 (pv 2)) (a5 (a7 1 (pv 1)) b9))) (C3 (p7 (a5 (K1 (a7 2 (pv 2))) (a5 (K1 (a7 1 (pv 1))) b9))) b2Z)))
 ·exact(a7 0 (pv 0))
 decide+kernel
theorem a9S(D:Df K mg "_law_place" a2d)(M0:a0c P w K mg base):a46 P w K mg base:=by
 refine t4 (k:=1) D a38 (fun _ _ _ _ _ _=>el3 (fun _ _ _=>rfl)) fun f cdv A outer s H E hr=> ?_
 have S:=a38
 have hu:=hr.units
 refine c9 ?_ ?_
 ·refine a6Q (is:=[3,4]) ?_ ?_ ?_
  ·exact rfl
  ·exact(l6 M0 hr (by decide) rfl (b6 (b6 (b6 j6))) (a5 (j8 (a7 1 (pv 1)) b0) (a5 (j8 (a7 2 (pv 2)) b0) (a5 (j8 (a7 2 (pv 2)) b0) b9))))
  exact(E3 (k7 (i:=3) S.nd rfl (Or.inl rfl)) (E3 (k7 (i:=4) S.nd rfl (Or.inl rfl)) a32))
 exact(f9 (l0 (p7 (a5 (g6 r8 (g6 t7 (a7 3 (pv 3)) (j8 (a7 1 (pv 1)) b0)) (a7 0 (pv 0))) (a5 (g6 r8 (g6 t7 (a7 4 (pv 4)) (j8 (a7 1 (pv 1)) b0)) (a7 0 (pv 0))) b9)))))
theorem a9U(D:Df K mg "_law_roots" a2f)(M:MoB K mg)(a1K:a46 P w K mg base):a47 P w K mg base:=by
 refine t4 (k:=2) D a4a (fun _ _ _ _ _ _=>el2 (fun _ _=>rfl)) fun f cdv A outer s H E hr=> ?_
 have S:=a4a
 have hu:=hr.units
 refine c9 ?_ ?_
 ·exact(m7 (i:=2) S.nd b2U)
 refine c9 ?_ ?_
 ·refine B5 PassesOwn.never ?_ ?_ M.z_range ?_ ?_ (o9 3) ?_
  ·exact rfl
  ·exact rfl
  ·exact(a5 (a7 0 (pv 0)) b9)
  ·exact(k7 (i:=3) S.nd rfl (Or.inl rfl))
  refine f9 ?_
  refine B5 PassesOwn.never ?_ ?_ M.z_range ?_ ?_ (o9 4) ?_
  ·exact rfl
  ·exact rfl
  ·exact(a5 (a7 0 (pv 0)) b9)
  ·exact(k7 (i:=4) S.nd rfl (Or.inl rfl))
  refine f9 ?_
  refine A8 ?_ ?_ ?_
  ·exact(a6R 2 hu M.nk (pv 2) (p7 (a5 (a7 3 (pv 3)) (a5 (a7 4 (pv 4)) b9))) (by first|rfl|exact nomark _))
  ·refine c9 ?_ ?_
   ·exact(b7e 2 hu (pv 2) (a5 (a7 3 (pv 3)) (a5 (a7 4 (pv 4)) b9)) (p7 (a5 (a7 3 (pv 3)) (a5 (a7 4 (pv 4)) b9))))
   refine c9 ?_ ?_
   ·exact(m7 (i:=5) S.nd (C4 (a5 (p7 (a5 (a7 3 (pv 3)) (a5 (a7 4 (pv 4)) b9))) b9)))
   refine f9 ?_
   refine b5o 100 PassesOwn.never ?_ ?_
   ·exact(v5 (a3i hu) (a7 5 (pv 5)) (C4 b9) (by first|rfl|exact nomark _))
   refine c9 ?_ ?_
   ·exact(b9h 6 5 S.nd (pv 5))
   refine f9 ?_
   refine Y6 PassesOwn.never ?_ ?_ ?_ (o9 7) ?_
   ·exact rfl
   ·exact(a7 1 (pv 1))
   ·exact(k7 (i:=7) S.nd rfl (Or.inl rfl))
   refine c9 ?_ ?_
   ·exact(m7 (i:=8) S.nd (l6 a1K hr (by decide) rfl (b6 (b6 (b6 j6))) (a5 (a7 0 (pv 0)) (a5 (a7 7 (pv 7)) (a5 (a7 6 (pv 6)) b9)))))
   exact(f9 (A8 (a6R 2 hu M.nk (pv 2) (a7 8 (pv 8)) (by first|rfl|exact nomark _)) (c9 (a8t 2 hu M.nk (pv 2) (a7 8 (pv 8)) (p7 (a5 (a7 3 (pv 3)) (a5 (a7 4 (pv 4)) b9)))) (f9 (T6 5 (pv 5) (a7 8 (pv 8))))) v4))
  exact v4
 exact(f9 (a0f 2 (pv 2)))
theorem a9Q(D:Df K mg "_law_mixed" a2b):a1E P w K mg base:=by
 refine t4 (k:=0) D a36 (fun _ _ _ _ _ _=>el2 (fun _ _=>rfl)) fun f cdv A outer s H E hr=> ?_
 have S:=a36
 have hu:=hr.units
 exact(f9 (l0 (g6 r8 (g6 z9 (g6 t7 (g6 t7 (g6 r8 (a7 0 (pv 0)) b0) (g6 z9 (a7 1 (pv 1)) (a7 1 (pv 1)))) b0) b0) b0)))
theorem a5T(D:Df K mg "_law_movement" Z8):Y2 P w K mg base:=by
 refine t4 (k:=0) D a1y (fun _ _ _ _ _ _=>el2 (fun _ _=>rfl)) fun f cdv A outer s H E hr=> ?_
 have S:=a1y
 have hu:=hr.units
 refine c9 ?_ ?_
 ·exact(m7 (i:=2) S.nd (j8 (C4 (a5 j7 (a5 j7 (a5 j7 (a5 j7 (a5 j7 (a5 j7 (a5 j7 (a5 j7 b9))))))))) (g6 r8 (a7 1 (pv 1)) b0)))
 exact(f9 (l0 (p7 (a5 (a7 2 (pv 2)) (a5 (g6 r8 (g6 Z6 (a7 1 (pv 1)) b0) (a7 0 (pv 0))) (a5 (g6 r8 (g6 Z6 (a7 1 (pv 1)) b0) (a7 0 (pv 0))) b9))))))
theorem a7t(D:Df K mg "_law_cell_at" a0B)(M:MoB K mg):a0v P w K mg base:=by
 refine t4 (k:=0) D a2k (fun _ _ _ _ _ _=>el2 (fun _ _=>rfl)) fun f cdv A outer s H E hr=> ?_
 have S:=a2k
 have hu:=hr.units
 exact(c9 (A8 (v5 b3q (a7 1 (pv 1)) (W9 P3 rfl M.z_len (by rfl) (a7 0 (pv 0))) (by first|rfl|exact nomark _)) (f9 (l0 (j8 (a7 0 (pv 0)) (a7 1 (pv 1))))) v4) (f9 (l0 b0)))
theorem a73(D:Df K mg "_law_carpet" a1l)(M:MoB K mg)(a1L:a47 P w K mg base)(J7:a1E P w K mg base)(L9:Y2 P w K mg base)(A2:a0v P w K mg base):a3w P w K mg base:=by
 refine t4 (k:=3) D a2X (fun _ _ _ _ _ _=>el2 (fun _ _=>rfl)) fun f cdv A outer s H E hr=> ?_
 have S:=a2X
 have hu:=hr.units
 refine c9 ?_ ?_
 ·refine m7 (i:=2) ?_ ?_
  ·exact S.nd
  exact(g6 t7 b0 (g6 r8 (l6 J7 hr (by decide) rfl (b6 (b6 j6)) (a5 (l6 A2 hr (by decide) rfl (b6 (b6 j6)) (a5 (a7 0 (pv 0)) (a5 b0 b9))) (a5 b0 b9))) (a7 1 (pv 1))))
 refine c9 ?_ ?_
 ·exact(m7 (i:=3) S.nd (C4 b9))
 refine c9 ?_ ?_
 ·refine B5 PassesOwn.never ?_ ?_ M.z_range ?_ ?_ (o9 4) ?_
  ·exact rfl
  ·exact rfl
  ·exact(a5 (j8 (C4 (a5 b0 (a5 b0 (a5 b0 (a5 b0 (a5 b0 (a5 b0 b9))))))) (g6 r8 (l6 A2 hr (by decide) rfl (b6 (b6 j6)) (a5 (a7 0 (pv 0)) (a5 b0 b9))) b0)) b9)
  ·exact(k7 (i:=4) S.nd rfl (Or.inl rfl))
  refine f9 ?_
  refine T6 3 (pv 3) ?_
  refine l6 L9 hr ?_ ?_ ?_ ?_
  ·decide
  ·exact rfl
  ·exact(b6 (b6 j6))
  refine a5 ?_ ?_
  ·exact(a7 2 (pv 2))
  exact(a5 (l6 J7 hr (by decide) rfl (b6 (b6 j6)) (a5 (l6 A2 hr (by decide) rfl (b6 (b6 j6)) (a5 (a7 0 (pv 0)) (a5 b0 b9))) (a5 (g6 t7 b0 (a7 4 (pv 4))) b9))) b9)
 refine c9 ?_ ?_
 ·exact(a9r 3 (m7 (i:=5) S.nd (l6 a1L hr (by decide) rfl (b6 (b6 j6)) (a5 (a7 2 (pv 2)) (a5 (a7 3 (pv 3)) b9)))))
 refine c9 ?_ ?_
 ·refine m7 (i:=6) ?_ ?_
  ·exact S.nd
  refine j8 ?_ ?_
  ·exact(C4 (a5 j7 (a5 j7 (a5 j7 (a5 j7 (a5 j7 b9))))))
  exact(g6 r8 (l6 J7 hr (by decide) rfl (b6 (b6 j6)) (a5 (l6 A2 hr (by decide) rfl (b6 (b6 j6)) (a5 (a7 0 (pv 0)) (a5 b0 b9))) (a5 b0 b9))) b0)
 refine c9 ?_ ?_
 ·exact(m7 (i:=7) S.nd (C4 b9))
 refine c9 ?_ ?_
 ·refine B5 PassesOwn.never ?_ ?_ M.z_range ?_ ?_ (o9 8) ?_
  ·exact rfl
  ·exact rfl
  ·exact(a5 (a7 2 (pv 2)) b9)
  ·exact(k7 (i:=8) S.nd rfl (Or.inl rfl))
  refine c9 ?_ ?_
  ·exact(m7 (i:=9) S.nd j7)
  refine c9 ?_ ?_
  ·refine B5 PassesOwn.never ?_ ?_ M.z_range ?_ ?_ (o9 10) ?_
   ·exact rfl
   ·exact rfl
   ·exact(a5 (a7 2 (pv 2)) b9)
   ·exact(k7 (i:=10) S.nd rfl (Or.inl rfl))
   refine c9 ?_ ?_
   ·exact(m7 (i:=11) S.nd (b7b 5 hu (pv 5) (a5 (a7 8 (pv 8)) (a5 (a7 10 (pv 10)) b9))))
   refine c9 ?_ ?_
   ·refine m7 (i:=12) ?_ ?_
    ·exact S.nd
    refine l6 J7 hr ?_ ?_ ?_ ?_
    ·decide
    ·exact rfl
    ·exact(b6 (b6 j6))
    refine a5 ?_ ?_
    ·exact(l6 A2 hr (by decide) rfl (b6 (b6 j6)) (a5 (a7 0 (pv 0)) (a5 (g6 t7 (g6 t7 b0 (g6 z9 (j8 (a7 11 (pv 11)) b0) (a7 2 (pv 2)))) (j8 (a7 11 (pv 11)) b0)) b9)))
    exact(a5 (g6 t7 (g6 t7 b0 (g6 z9 (j8 (a7 11 (pv 11)) b0) (a7 2 (pv 2)))) (j8 (a7 11 (pv 11)) b0)) b9)
   exact(f9 (m7 (i:=9) S.nd (g6 t7 (a7 9 (pv 9)) (j8 (a7 6 (pv 6)) (g6 r8 (g6 Z6 (a7 12 (pv 12)) b0) (W9 P3 rfl M.z_len (by rfl) (a7 6 (pv 6))))))))
  exact(f9 (T6 7 (pv 7) (a7 9 (pv 9))))
 exact(f9 (l0 (a2R a3K rfl M.z_tuple (by rfl) (a7 7 (pv 7)))))
theorem b2j(D:Df K mg "_law_all" a4W)(M:MoB K mg):a8b P w K mg base:=by
 refine t4 (k:=0) D a7D (fun _ _ _ _ _ _=>el1 (fun _=>rfl)) fun f cdv A outer s H E hr=> ?_
 have S:=a7D
 have hu:=hr.units
 refine c9 ?_ ?_
 ·exact(m7 (i:=1) S.nd (C4 b9))
 refine c9 ?_ ?_
 ·refine Y6 PassesOwn.never ?_ ?_ ?_ (o9 2) ?_
  ·exact rfl
  ·exact(p7 (a5 j7 (a5 j7 (a5 j7 (a5 j7 (a5 j7 (a5 j7 (a5 j7 (a5 j7 b9)))))))))
  ·exact(k7 (i:=2) S.nd rfl (Or.inl rfl))
  refine f9 ?_
  refine B5 PassesOwn.never ?_ ?_ M.z_range ?_ ?_ (o9 3) ?_
  ·exact rfl
  ·exact rfl
  ·exact(a5 (a7 0 (pv 0)) b9)
  ·exact(k7 (i:=3) S.nd rfl (Or.inl rfl))
  exact(f9 (B5 PassesOwn.never rfl rfl M.z_range (a5 (a7 0 (pv 0)) b9) (k7 (i:=4) S.nd rfl (Or.inl rfl)) (o9 4) (f9 (T6 1 (pv 1) (p7 (a5 (a7 2 (pv 2)) (a5 (a7 3 (pv 3)) (a5 (a7 4 (pv 4)) b9))))))))
 exact(f9 (a0f 1 (pv 1)))
theorem a9W(D:Df K mg "_law_wides" a2h)(M:MoB K mg):a49 P w K mg base:=by
 refine t4 (k:=0) D a4c (fun _ _ _ _ _ _=>el2 (fun _ _=>rfl)) fun f cdv A outer s H E hr=> ?_
 have S:=a4c
 have hu:=hr.units
 refine c9 ?_ ?_
 ·exact(m7 (i:=2) S.nd (C4 b9))
 refine c9 ?_ ?_
 ·refine Y6 PassesOwn.never ?_ ?_ ?_ (o9 3) ?_
  ·exact rfl
  ·exact(p7 (a5 j7 (a5 j7 (a5 j7 (a5 j7 b9)))))
  ·exact(k7 (i:=3) S.nd rfl (Or.inl rfl))
  refine f9 ?_
  refine B5 PassesOwn.never ?_ ?_ M.z_range ?_ ?_ (o9 4) ?_
  ·exact rfl
  ·exact rfl
  ·exact(a5 (g6 z9 b0 (a7 0 (pv 0))) b9)
  ·exact(k7 (i:=4) S.nd rfl (Or.inl rfl))
  refine f9 ?_
  refine B5 PassesOwn.never ?_ ?_ M.z_range ?_ ?_ (o9 5) ?_
  ·exact rfl
  ·exact rfl
  ·exact(a5 (g6 z9 b0 (a7 0 (pv 0))) b9)
  ·exact(k7 (i:=5) S.nd rfl (Or.inl rfl))
  refine f9 ?_
  refine A8 ?_ ?_ ?_
  ·exact(b21 1 hu (b54 M.nk) (pv 1) (p7 (a5 (a7 3 (pv 3)) (a5 (g6 r8 (a7 4 (pv 4)) (a7 0 (pv 0))) (a5 (g6 r8 (a7 5 (pv 5)) (a7 0 (pv 0))) b9)))) (by first|rfl|exact nomark _))
  ·exact(f9 (T6 2 (pv 2) (p7 (a5 (a7 3 (pv 3)) (a5 (a7 4 (pv 4)) (a5 (a7 5 (pv 5)) b9))))))
  exact v4
 exact(f9 (a0f 2 (pv 2)))
theorem a9V(D:Df K mg "_law_stand" a2g)(M0:a0c P w K mg base):a48 P w K mg base:=by
 refine t4 (k:=1) D a4b (fun _ _ _ _ _ _=>el2 (fun _ _=>rfl)) fun f cdv A outer s H E hr=> ?_
 have S:=a4b
 have hu:=hr.units
 refine c9 ?_ ?_
 ·refine a6Q (is:=[2,3]) ?_ ?_ ?_
  ·exact rfl
  ·exact(l6 M0 hr (by decide) rfl (b6 (b6 (b6 j6))) (a5 (j8 (a7 1 (pv 1)) b0) (a5 (j8 (a7 1 (pv 1)) b0) (a5 (j8 (a7 1 (pv 1)) b0) b9))))
  exact(E3 (k7 (i:=2) S.nd rfl (Or.inl rfl)) (E3 (k7 (i:=3) S.nd rfl (Or.inl rfl)) a32))
 refine c9 ?_ ?_
 ·exact(m7 (i:=4) S.nd (g6 a31 (j8 (a7 1 (pv 1)) b0) (a7 2 (pv 2))))
 refine c9 ?_ ?_
 ·exact(m7 (i:=5) S.nd (g6 a31 (j8 (a7 1 (pv 1)) b0) (a7 3 (pv 3))))
 refine c9 ?_ ?_
 ·exact(A8 (PW.pt (b22 (v5 (A4 hu) (g6 r8 (a7 4 (pv 4)) b0) b0 (by first|rfl|exact nomark _)) (b1U (v5 (A4 hu) (g6 r8 (a7 5 (pv 5)) b0) b0 (by first|rfl|exact nomark _))))) (f9 (l0 a0y)) v4)
 exact(f9 (l0 (p7 (a5 (j8 (a7 1 (pv 1)) b0) (a5 (g6 r8 (g6 Z6 (a7 4 (pv 4)) b0) (a7 0 (pv 0))) (a5 (g6 r8 (g6 Z6 (a7 5 (pv 5)) b0) (a7 0 (pv 0))) b9))))))
theorem a74(D:Df K mg "_law_mirror" a1m)(M0:a0c P w K mg base):a3x P w K mg base:=by
 refine t4 (k:=1) D a2Y (fun _ _ _ _ _ _=>el2 (fun _ _=>rfl)) fun f cdv A outer s H E hr=> ?_
 have S:=a2Y
 have hu:=hr.units
 refine c9 ?_ ?_
 ·refine Y6 PassesOwn.never ?_ ?_ ?_ (o9 2) ?_
  ·exact rfl
  ·exact(C4 (a5 (j8 (a7 1 (pv 1)) b0) (a5 (g6 a31 (j8 (a7 1 (pv 1)) b0) (g6 z9 b0 (a7 0 (pv 0)))) b9)))
  ·exact(k7 (i:=2) S.nd rfl (Or.inl rfl))
  refine f9 ?_
  refine Y6 PassesOwn.never ?_ ?_ ?_ (o9 3) ?_
  ·exact rfl
  ·exact(C4 (a5 (j8 (a7 1 (pv 1)) b0) (a5 (g6 a31 (j8 (a7 1 (pv 1)) b0) (g6 z9 b0 (a7 0 (pv 0)))) b9)))
  ·exact(k7 (i:=3) S.nd rfl (Or.inl rfl))
  refine c9 ?_ ?_
  ·refine a6Q (is:=[4,5]) ?_ ?_ ?_
   ·exact rfl
   ·exact(l6 M0 hr (by decide) rfl (b6 (b6 (b6 j6))) (a5 (j8 (a7 1 (pv 1)) b0) (a5 (a7 2 (pv 2)) (a5 (a7 3 (pv 3)) b9))))
   exact(E3 (k7 (i:=4) S.nd rfl (Or.inl rfl)) (E3 (k7 (i:=5) S.nd rfl (Or.inl rfl)) a32))
  refine f9 ?_
  exact(A8 (PW.pt (b1T (v5 (A4 hu) (g6 t7 (a7 4 (pv 4)) (a7 2 (pv 2))) b0 (by first|rfl|exact nomark _)) (a9s (v5 (A4 hu) (g6 t7 (a7 5 (pv 5)) (a7 3 (pv 3))) b0 (by first|rfl|exact nomark _))))) (f9 (l0 a2Q)) v4)
 exact(f9 (l0 a2Q))
theorem a9R(D:Df K mg "_law_paper" a2c)(M:MoB K mg)(a1N:a49 P w K mg base)(a1M:a48 P w K mg base)(a09:a3x P w K mg base):a45 P w K mg base:=by
 refine t4 (k:=2) D a37 (fun _ _ _ _ _ _=>el2 (fun _ _=>rfl)) fun f cdv A outer s H E hr=> ?_
 have S:=a37
 have hu:=hr.units
 refine c9 ?_ ?_
 ·refine m7 (i:=2) ?_ ?_ ?_ (Or.inr rfl)
  ·exact S.nd
  ·refine b31 1 (N0:=["_law_n","_law_movements","_law_ways","_law_turn","_law_bends","_law_wides_here","_law_mirrors","_law_way","_law_loose"]) (fun _ _ h=>h) ?_ ⟨by kernel_rfl,rfl,of_decide_eq_true rfl,of_decide_eq_true rfl,of_decide_eq_true rfl⟩ (pv 1) (fun C fp pins s H=>k7 (i:=9) a7m rfl (Or.inl rfl)) (fun C fp pins s H=>pv 9)
   exact rfl
  exact rfl
 refine c9 ?_ ?_
 ·refine m7 (i:=3) ?_ ?_
  ·exact S.nd
  exact(g6 t7 (g6 t7 b0 (a2R a6G rfl M.z_int (by rfl) (T4 (a2B hu) j7 (a7 2 (pv 2)) (by first|rfl|exact nomark _)))) (g6 z9 b0 (a2R a6G rfl M.z_int (by rfl) (T4 (a2B hu) j7 (a7 2 (pv 2)) (by first|rfl|exact nomark _)))))
 refine c9 ?_ ?_
 ·refine a52 (i:=4) (ys:=["_law_way"]) (N0:=["_law_n","_law_movements","_law_ways","_law_turn","_law_bends","_law_wides_here","_law_mirrors","0_law_way","_law_loose"]) ?_ (fun _ _ h=>h) ?_ ⟨by kernel_rfl,rfl,of_decide_eq_true rfl,of_decide_eq_true rfl,of_decide_eq_true rfl⟩ ?_ (fun C fp pins s H=>k7 (i:=9) a7n rfl (Or.inl rfl)) (fun n h=>z6 (i:=9) (Nat.le_of_eq h)) ?_ ?_
  ·exact S.nd
  ·exact rfl
  ·exact(V6 (p7 (a5 j7 (a5 j7 (a5 j7 (a5 j7 b9))))))
  ·intro C fp pins s H
   exact(a3a (v5 (a2B hu) (a7 9 (pv 9)) (a7 2 (pv 2)) (by first|rfl|exact nomark _)))
  intro C fp pins s H
  exact(a7 9 (pv 9))
 refine c9 ?_ ?_
 ·exact(m7 (i:=5) S.nd (l6 a1N hr (by decide) rfl (b6 (b6 j6)) (a5 (a7 0 (pv 0)) (a5 (a7 1 (pv 1)) b9))))
 refine c9 ?_ ?_
 ·exact(m7 (i:=6) S.nd (C4 b9))
 refine c9 ?_ ?_
 ·refine a9r 4 ?_
  refine Y6 PassesOwn.never ?_ ?_ ?_ (o9 7) ?_
  ·exact rfl
  ·exact(a7 4 (pv 4))
  ·exact(k7 (i:=7) S.nd rfl (Or.inr rfl))
  refine f9 ?_
  refine m7 (i:=6) ?_ ?_
  ·exact S.nd
  refine g6 t7 ?_ ?_
  ·exact(a7 6 (pv 6))
  refine b0G ?_ ?_ ?_
  ·refine Q8 (ys:=["_law_wide"]) (N0:=["_law_n","_law_movements","_law_ways","_law_turn","_law_bends","_law_wides_here","_law_mirrors","_law_way","_law_loose"]) (fun _ _ h=>h) ?_ ⟨by kernel_rfl,rfl,of_decide_eq_true rfl,of_decide_eq_true rfl,of_decide_eq_true rfl⟩ ?_ (fun C fp pins s H=>k7 (i:=9) a7o rfl (Or.inl rfl)) (fun n h=>z6 (i:=9) (Nat.le_of_eq h)) ?_ ?_
   ·exact rfl
   ·exact(V6 (a7 5 (pv 5)))
   ·intro C fp pins s H
    exact(a3a (PW.pt (b1T (v5 (A4 hu) (j8 (a7 9 (pv 9)) b0) (a7 7 (pv 7)) (by first|rfl|exact nomark _)) (a9s (Y7 (l6 a09 hr (by decide) rfl (b6 (b6 j6)) (a5 (a7 0 (pv 0)) (a5 (a7 9 (pv 9)) b9))))))))
   intro C fp pins s H
   exact(a7 9 (pv 9))
  ·exact b2X
  exact(b2Y b0)
 refine c9 ?_ ?_
 ·refine a52 (i:=8) (ys:=["_law_wide"]) (N0:=["_law_n","_law_movements","_law_ways","_law_turn","_law_bends","_law_wides_here","_law_mirrors","_law_way","_law_loose"]) ?_ (fun _ _ h=>h) ?_ ⟨by kernel_rfl,rfl,of_decide_eq_true rfl,of_decide_eq_true rfl,of_decide_eq_true rfl⟩ ?_ (fun C fp pins s H=>k7 (i:=9) a7p rfl (Or.inl rfl)) (fun n h=>z6 (i:=9) (Nat.le_of_eq h)) ?_ ?_
  ·exact S.nd
  ·exact rfl
  ·exact(V6 (a7 5 (pv 5)))
  ·intro C fp pins s H
   exact(a3a (b0I 1 hu (b54 M.nk) (pv 1) (l6 a1M hr (by decide) rfl (b6 (b6 j6)) (a5 (a7 0 (pv 0)) (a5 (a7 9 (pv 9)) b9))) (by first|rfl|exact nomark _)))
  intro C fp pins s H
  exact(a7 9 (pv 9))
 exact(f9 (a9r 6 (a9r 4 (l0 (p7 (a5 (a7 3 (pv 3)) (a5 (a7 4 (pv 4)) (a5 (a7 6 (pv 6)) (a5 (j8 (g6 t7 (a7 8 (pv 8)) (C4 (a5 a0y b9))) b0) b9)))))))))
theorem b2m(D:Df K mg "ways_of" a4Z):a4p P w K mg base:=by
 refine t4 (k:=0) D a7G (fun _ _ _ _ _ _=>el1 (fun _=>rfl)) fun f cdv A outer s H E hr=> ?_
 have S:=a7G
 have hu:=hr.units
 refine f9 ?_
 refine l0 ?_
 refine Q8 (ys:=["movement"]) (N0:=["movements"]) (fun _ _ h=>h) ?_ ⟨by kernel_rfl,rfl,of_decide_eq_true rfl,of_decide_eq_true rfl,of_decide_eq_true rfl⟩ ?_ (fun C fp pins s H=>k7 (i:=1) a9O rfl (Or.inl rfl)) (fun n h=>z6 (i:=1) (Nat.le_of_eq h)) (fun C fp pins s H=>a1R) ?_
 ·exact rfl
 ·exact(V6 (a7 0 (pv 0)))
 intro C fp pins s H
 exact(j8 (a7 1 (pv 1)) b0)
theorem b2l(D:Df K mg "turn_of" a4Y)(a0Q:a4p P w K mg base):a8d P w K mg base:=by
 refine t4 (k:=1) D a7F (fun _ _ _ _ _ _=>el1 (fun _=>rfl)) fun f cdv A outer s H E hr=> ?_
 have S:=a7F
 have hu:=hr.units
 refine c9 ?_ ?_
 ·exact(m7 (i:=1) S.nd (l6 a0Q hr (by decide) rfl (b6 j6) (a5 (a7 0 (pv 0)) b9)))
 exact(c9 (A8 (v5 (a2B hu) j7 (a7 1 (pv 1)) (by first|rfl|exact nomark _)) (f9 (l0 b0)) v4) (c9 (A8 (v5 (a2B hu) j7 (a7 1 (pv 1)) (by first|rfl|exact nomark _)) (f9 (l0 b0)) v4) (f9 (l0 b0))))
theorem b05(D:Df K mg "bends_of" a3k){u_BENDING:AA}{n_BENDING:Nat}(m_BENDING:mg "BENDING"=some u_BENDING)(c_BENDING:a1z K n_BENDING u_BENDING=some I0)(a0Q:a4p P w K mg base):a6k P w K mg base:=by
 refine t4 (k:=1) D a5B (fun _ _ _ _ _ _=>el1 (fun _=>rfl)) fun f cdv A outer s H E hr=> ?_
 have S:=a5B
 have hu:=hr.units
 refine c9 ?_ ?_
 ·exact(m7 (i:=1) S.nd (l6 a0Q hr (by decide) rfl (b6 j6) (a5 (a7 0 (pv 0)) b9)) rfl (Or.inr rfl))
 refine f9 ?_
 refine l0 ?_
 refine Q8 (ys:=["way"]) (N0:=["movements","ways"]) (fun _ _ h=>h) ?_ ⟨by kernel_rfl,rfl,of_decide_eq_true rfl,of_decide_eq_true rfl,of_decide_eq_true rfl⟩ ?_ (fun C fp pins s H=>k7 (i:=2) a70 rfl (Or.inl rfl)) (fun n h=>z6 (i:=2) (Nat.le_of_eq h)) ?_ ?_
 ·exact rfl
 ·exact(V6 (a51 rfl m_BENDING c_BENDING))
 ·intro C fp pins s H
  exact(a3a (v5 (a2B hu) (a7 2 (pv 2)) (a7 1 (pv 1)) (by first|rfl|exact nomark _)))
 intro C fp pins s H
 exact(a7 2 (pv 2))
theorem b4t(D:Df K mg "listed" a7B)(M:MoB K mg):a6n P w K mg base:=by
 refine t4 (k:=0) D a8X (fun _ _ _ _ _ _=>el1 (fun _=>rfl)) fun f cdv A outer s H E hr=> ?_
 have S:=a8X
 have hu:=hr.units
 refine f9 ?_
 refine l0 ?_
 refine a2R (b47 rfl hu (b54 M.nk)) ?_ M.z_dict ?_ ?_
 ·exact rfl
 ·rfl
 refine Q8 (ys:=["movement"]) (N0:=["movements"]) (fun _ _ h=>h) ?_ ⟨by kernel_rfl,rfl,of_decide_eq_true rfl,of_decide_eq_true rfl,of_decide_eq_true rfl⟩ ?_ (fun C fp pins s H=>k7 (i:=1) b01 rfl (Or.inl rfl)) (fun n h=>z6 (i:=1) (Nat.le_of_eq h)) (fun C fp pins s H=>a1R) ?_
 ·exact rfl
 ·exact(V6 (a7 0 (pv 0)))
 intro C fp pins s H
 exact(p7 (a5 (a7 1 (pv 1)) (a5 a2Q b9)))
theorem a3Z(D:Df K mg "wide_movements" U4)(M:MoB K mg):a0K P w K mg base:=by
 refine t4 (k:=0) D a0u (fun _ _ _ _ _ _=>el2 (fun _ _=>rfl)) fun f cdv A outer s H E hr=> ?_
 have S:=a0u
 have hu:=hr.units
 refine c9 ?_ ?_
 ·exact(m7 (i:=2) S.nd (C4 b9))
 refine c9 ?_ ?_
 ·refine B5 PassesOwn.never ?_ ?_ M.z_range ?_ ?_ (o9 3) ?_
  ·exact rfl
  ·exact rfl
  ·exact(a5 (g6 z9 b0 (a7 0 (pv 0))) b9)
  ·exact(k7 (i:=3) S.nd rfl (Or.inl rfl))
  exact(f9 (B5 PassesOwn.never rfl rfl M.z_range (a5 (g6 z9 b0 (a7 0 (pv 0))) b9) (k7 (i:=4) S.nd rfl (Or.inl rfl)) (o9 4) (f9 (T6 2 (pv 2) (p7 (a5 (a7 1 (pv 1)) (a5 (a7 3 (pv 3)) (a5 (a7 4 (pv 4)) b9))))))))
 exact(f9 (a0f 2 (pv 2)))
theorem b4u(D:Df K mg "narrow" a7C):b0p P w K mg base:=by
 refine t4 (k:=0) D a8Y (fun _ _ _ _ _ _=>el2 (fun _ _=>rfl)) fun f cdv A outer s H E hr=> ?_
 have S:=a8Y
 have hu:=hr.units
 exact(f9 (l0 (p7 (a5 (j8 (a7 1 (pv 1)) b0) (a5 (g6 r8 (j8 (a7 1 (pv 1)) b0) (a7 0 (pv 0))) (a5 (g6 r8 (j8 (a7 1 (pv 1)) b0) (a7 0 (pv 0))) b9))))))
theorem a7u(D:Df K mg "wide_within" a0C)(M:MoB K mg)(T2:a0K P w K mg base)(a6I:b0p P w K mg base):a0w P w K mg base:=by
 refine t4 (k:=1) D a2l (fun _ _ _ _ _ _=>el3 (fun _ _ _=>rfl)) fun f cdv A outer s H E hr=> ?_
 have S:=a2l
 have hu:=hr.units
 refine f9 ?_
 refine l0 ?_
 refine Q8 (ys:=["wide"]) (N0:=["n","known","way"]) (fun _ _ h=>h) ?_ ⟨by kernel_rfl,rfl,of_decide_eq_true rfl,of_decide_eq_true rfl,of_decide_eq_true rfl⟩ ?_ (fun C fp pins s H=>k7 (i:=3) a4N rfl (Or.inl rfl)) (fun n h=>z6 (i:=3) (Nat.le_of_eq h)) ?_ ?_
 ·exact rfl
 ·exact(V6 (l6 T2 hr (by decide) rfl (b6 (b6 j6)) (a5 (a7 0 (pv 0)) (a5 (a7 2 (pv 2)) b9))))
 ·intro C fp pins s H
  exact(a3a (b21 1 hu (b54 M.nk) (pv 1) (l6 a6I hr (by decide) rfl (b6 (b6 j6)) (a5 (a7 0 (pv 0)) (a5 (a7 3 (pv 3)) b9))) (by first|rfl|exact nomark _)))
 intro C fp pins s H
 exact(a7 3 (pv 3))
theorem a9P(D:Df K mg "is_mirror" a2a):a44 P w K mg base:=by
 refine t4 (k:=0) D a35 (fun _ _ _ _ _ _=>el2 (fun _ _=>rfl)) fun f cdv A outer s H E hr=> ?_
 have S:=a35
 have hu:=hr.units
 refine c9 ?_ ?_
 ·exact(m7 (i:=2) S.nd (j8 (a7 1 (pv 1)) b0))
 refine c9 ?_ ?_
 ·exact(A8 (v5 (A4 hu) (a7 2 (pv 2)) j7 (by first|rfl|exact nomark _)) (f9 (l0 (T4 (A4 hu) (j8 (a7 1 (pv 1)) b0) b0 (by first|rfl|exact nomark _)))) v4)
 refine c9 ?_ ?_
 ·exact(A8 (v5 (A4 hu) (a7 2 (pv 2)) j7 (by first|rfl|exact nomark _)) (f9 (l0 (T4 (A4 hu) (j8 (a7 1 (pv 1)) b0) b0 (by first|rfl|exact nomark _)))) v4)
 refine c9 ?_ ?_
 ·refine A8 ?_ ?_ ?_
  ·exact(v5 (A4 hu) (a7 2 (pv 2)) j7 (by first|rfl|exact nomark _))
  ·refine f9 ?_
   refine l0 ?_
   refine c0z ?_ ?_
   ·exact(T4 (A4 hu) (g6 t7 (j8 (a7 1 (pv 1)) b0) (j8 (a7 1 (pv 1)) b0)) b0 (by first|rfl|exact nomark _))
   exact(b5l (T4 (A4 hu) (g6 t7 (j8 (a7 1 (pv 1)) b0) (j8 (a7 1 (pv 1)) b0)) (g6 z9 b0 (a7 0 (pv 0))) (by first|rfl|exact nomark _)))
  exact v4
 exact(f9 (l0 (b9d (T4 (A4 hu) (a7 2 (pv 2)) j7 (by first|rfl|exact nomark _)) (b5l (T4 (A4 hu) (j8 (a7 1 (pv 1)) b0) (j8 (a7 1 (pv 1)) b0) (by first|rfl|exact nomark _))))))
theorem a75(D:Df K mg "mirrors_of" a1n){u_BENDING:AA}{n_BENDING:Nat}(m_BENDING:mg "BENDING"=some u_BENDING)(c_BENDING:a1z K n_BENDING u_BENDING=some I0)(a1O:a6n P w K mg base)(O1:a0w P w K mg base)(a1I:a44 P w K mg base):a3y P w K mg base:=by
 refine t4 (k:=2) D a2Z (fun _ _ _ _ _ _=>el2 (fun _ _=>rfl)) fun f cdv A outer s H E hr=> ?_
 have S:=a2Z
 have hu:=hr.units
 refine c9 ?_ ?_
 ·exact(m7 (i:=2) S.nd (l6 a1O hr (by decide) rfl (b6 j6) (a5 (a7 1 (pv 1)) b9)))
 refine c9 ?_ ?_
 ·exact(m7 (i:=3) S.nd (C4 b9))
 refine c9 ?_ ?_
 ·refine Y6 PassesOwn.never ?_ ?_ ?_ (o9 4) ?_
  ·exact rfl
  ·exact(a51 rfl m_BENDING c_BENDING)
  ·exact(k7 (i:=4) S.nd rfl (Or.inl rfl))
  refine c9 ?_ ?_
  ·refine a52 (i:=5) (ys:=["wide"]) (N0:=["n","movements","known","found","way","mirrors"]) ?_ (fun _ _ h=>h) ?_ ⟨by kernel_rfl,rfl,of_decide_eq_true rfl,of_decide_eq_true rfl,of_decide_eq_true rfl⟩ ?_ (fun C fp pins s H=>k7 (i:=6) a5S rfl (Or.inl rfl)) (fun n h=>z6 (i:=6) (Nat.le_of_eq h)) ?_ ?_
   ·exact S.nd
   ·exact rfl
   ·exact(V6 (b0F 2 O1 hr (by decide) rfl (a7 0 (pv 0)) (pv 2) (a7 4 (pv 4))))
   ·intro C fp pins s H
    exact(a3a (Y7 (l6 a1I hr (by decide) rfl (b6 (b6 j6)) (a5 (a7 0 (pv 0)) (a5 (a7 6 (pv 6)) b9)))))
   intro C fp pins s H
   exact(a7 6 (pv 6))
  exact(f9 (b32 3 (pv 3) (b0G (a7 5 (pv 5)) b2X (b2Y b0))))
 exact(f9 (a0f 3 (pv 3)))
theorem a4R(D:Df K mg "slanted_stand" W6):a1t P w K mg base:=by
 refine t4 (k:=0) D a02 (fun _ _ _ _ _ _=>el2 (fun _ _=>rfl)) fun f cdv A outer s H E hr=> ?_
 have S:=a02
 have hu:=hr.units
 refine c9 ?_ ?_
 ·exact(A8 (v5 (A4 hu) (g6 r8 (g6 t7 (j8 (a7 1 (pv 1)) b0) (j8 (a7 1 (pv 1)) b0)) b0) b0 (by first|rfl|exact nomark _)) (f9 (l0 a0y)) v4)
 refine c9 ?_ ?_
 ·refine A8 ?_ ?_ ?_
  ·exact(v5 (A4 hu) (j8 (a7 1 (pv 1)) b0) j7 (by first|rfl|exact nomark _))
  ·refine c9 ?_ ?_
   ·exact(m7 (i:=2) S.nd (g6 Z6 (g6 a31 (j8 (a7 1 (pv 1)) b0) (j8 (a7 1 (pv 1)) b0)) b0))
   exact(f9 (l0 (p7 (a5 j7 (a5 (g6 r8 (a7 2 (pv 2)) (a7 0 (pv 0))) (a5 (g6 r8 (K1 (a7 2 (pv 2))) (a7 0 (pv 0))) b9))))))
  exact v4
 refine c9 ?_ ?_
 ·exact(m7 (i:=2) S.nd (g6 Z6 (g6 t7 (j8 (a7 1 (pv 1)) b0) (j8 (a7 1 (pv 1)) b0)) b0))
 exact(f9 (l0 (p7 (a5 j7 (a5 (g6 r8 (a7 2 (pv 2)) (a7 0 (pv 0))) (a5 (g6 r8 (a7 2 (pv 2)) (a7 0 (pv 0))) b9))))))
theorem b1b(D:Df K mg "stand_of" a3q)(V5:a1t P w K mg base):a6q P w K mg base:=by
 refine t4 (k:=1) D a5H (fun _ _ _ _ _ _=>el2 (fun _ _=>rfl)) fun f cdv A outer s H E hr=> ?_
 have S:=a5H
 have hu:=hr.units
 refine c9 ?_ ?_
 ·exact(A8 (v5 (A4 hu) (j8 (a7 1 (pv 1)) b0) j7 (by first|rfl|exact nomark _)) (f9 (l0 (p7 (a5 j7 (a5 b0 (a5 (g6 r8 (j8 (a7 1 (pv 1)) b0) (a7 0 (pv 0))) b9)))))) v4)
 refine c9 ?_ ?_
 ·exact(A8 (v5 (A4 hu) (j8 (a7 1 (pv 1)) b0) j7 (by first|rfl|exact nomark _)) (f9 (l0 (p7 (a5 j7 (a5 (g6 r8 (j8 (a7 1 (pv 1)) b0) (a7 0 (pv 0))) (a5 b0 b9)))))) v4)
 exact(f9 (l0 (l6 V5 hr (by decide) rfl (b6 (b6 j6)) (a5 (a7 0 (pv 0)) (a5 (a7 1 (pv 1)) b9)))))
theorem b08(D:Df K mg "loose_of" a3n)(M:MoB K mg){u_BENDING:AA}{n_BENDING:Nat}(m_BENDING:mg "BENDING"=some u_BENDING)(c_BENDING:a1z K n_BENDING u_BENDING=some I0)(a1O:a6n P w K mg base)(O1:a0w P w K mg base)(a28:a6q P w K mg base):a6o P w K mg base:=by
 refine t4 (k:=2) D a5E (fun _ _ _ _ _ _=>el2 (fun _ _=>rfl)) fun f cdv A outer s H E hr=> ?_
 have S:=a5E
 have hu:=hr.units
 refine c9 ?_ ?_
 ·exact(m7 (i:=2) S.nd (l6 a1O hr (by decide) rfl (b6 j6) (a5 (a7 1 (pv 1)) b9)))
 refine c9 ?_ ?_
 ·refine Y6 PassesOwn.never ?_ ?_ ?_ (o9 3) ?_
  ·exact rfl
  ·exact(a51 rfl m_BENDING c_BENDING)
  ·exact(k7 (i:=3) S.nd rfl (Or.inl rfl))
  refine f9 ?_
  refine Y6 PassesOwn.never ?_ ?_ ?_ (o9 4) ?_
  ·exact rfl
  ·exact(b0F 2 O1 hr (by decide) rfl (a7 0 (pv 0)) (pv 2) (a7 3 (pv 3)))
  ·exact(k7 (i:=4) S.nd rfl (Or.inl rfl))
  exact(f9 (A8 (b1S 2 hu (b54 M.nk) (pv 2) (l6 a28 hr (by decide) rfl (b6 (b6 j6)) (a5 (a7 0 (pv 0)) (a5 (a7 4 (pv 4)) b9))) (by first|rfl|exact nomark _)) (f9 (a0f 4 (pv 4))) v4))
 exact(f9 (l0 a0y))
theorem b09(D:Df K mg "paper_of" a3o)(a4w:a8d P w K mg base)(a22:a6k P w K mg base)(a1a:a3y P w K mg base)(a26:a6o P w K mg base):a6p P w K mg base:=by
 refine t4 (k:=3) D a5F (fun _ _ _ _ _ _=>el2 (fun _ _=>rfl)) fun f cdv A outer s H E hr=> ?_
 have S:=a5F
 have hu:=hr.units
 refine f9 ?_
 refine l0 ?_
 refine p7 ?_
 refine a5 ?_ ?_
 ·exact(l6 a4w hr (by decide) rfl (b6 j6) (a5 (a7 1 (pv 1)) b9))
 refine a5 ?_ ?_
 ·exact(l6 a22 hr (by decide) rfl (b6 j6) (a5 (a7 1 (pv 1)) b9))
 exact(a5 (l6 a1a hr (by decide) rfl (b6 (b6 j6)) (a5 (a7 0 (pv 0)) (a5 (a7 1 (pv 1)) b9))) (a5 (l6 a26 hr (by decide) rfl (b6 (b6 j6)) (a5 (a7 0 (pv 0)) (a5 (a7 1 (pv 1)) b9))) b9))
theorem a4P(D:Df K mg "all_movements" W0)(M:MoB K mg){u_WAYS:AA}{n_WAYS:Nat}(m_WAYS:mg "WAYS"=some u_WAYS)(c_WAYS:a1z K n_WAYS u_WAYS=some b0e):a1r P w K mg base:=by
 refine t4 (k:=0) D a00 (fun _ _ _ _ _ _=>el1 (fun _=>rfl)) fun f cdv A outer s H E hr=> ?_
 have S:=a00
 have hu:=hr.units
 refine c9 ?_ ?_
 ·exact(m7 (i:=1) S.nd (C4 b9))
 refine c9 ?_ ?_
 ·refine Y6 PassesOwn.never ?_ ?_ ?_ (o9 2) ?_
  ·exact rfl
  ·exact(W9 b49 rfl M.z_sorted (by rfl) (a51 rfl m_WAYS c_WAYS))
  ·exact(k7 (i:=2) S.nd rfl (Or.inl rfl))
  refine f9 ?_
  refine B5 PassesOwn.never ?_ ?_ M.z_range ?_ ?_ (o9 3) ?_
  ·exact rfl
  ·exact rfl
  ·exact(a5 (a7 0 (pv 0)) b9)
  ·exact(k7 (i:=3) S.nd rfl (Or.inl rfl))
  exact(f9 (B5 PassesOwn.never rfl rfl M.z_range (a5 (a7 0 (pv 0)) b9) (k7 (i:=4) S.nd rfl (Or.inl rfl)) (o9 4) (f9 (T6 1 (pv 1) (p7 (a5 (a7 2 (pv 2)) (a5 (a7 3 (pv 3)) (a5 (a7 4 (pv 4)) b9))))))))
 exact(f9 (a0f 1 (pv 1)))
theorem b1c(D:Df K mg "way_back" a3r):a6r P w K mg base:=by
 refine t4 (k:=0) D a5I (fun _ _ _ _ _ _=>el1 (fun _=>rfl)) fun f cdv A outer s H E hr=> ?_
 have S:=a5I
 have hu:=hr.units
 exact(c9 (A8 (v5 (A4 hu) (a7 0 (pv 0)) j7 (by first|rfl|exact nomark _)) (f9 (l0 j7)) v4) (c9 (A8 (v5 (A4 hu) (a7 0 (pv 0)) j7 (by first|rfl|exact nomark _)) (f9 (l0 j7)) v4) (f9 (a0f 0 (pv 0)))))
theorem b1a(D:Df K mg "place_by" a3p){a_LEADS:AB}(m_LEADS:mg "LEADS"=some (.ref a_LEADS))(t_LEADS:Tab P w K a_LEADS L8):a21 P w K mg base:=by
 refine t4 (k:=0) D a5G (fun _ _ _ _ _ _=>el2 (fun _ _=>rfl)) fun f cdv A outer s H E hr=> ?_
 have S:=a5G
 have hu:=hr.units
 refine c9 ?_ ?_
 ·exact(m7 (i:=2) S.nd (b9e t_LEADS rfl m_LEADS (a7 0 (pv 0))))
 refine f9 ?_
 refine l0 ?_
 refine p7 ?_
 refine a5 ?_ ?_
 ·exact(g6 t7 (g6 z9 (j8 (a7 2 (pv 2)) b0) (j8 (a7 1 (pv 1)) b0)) (g6 z9 (j8 (a7 2 (pv 2)) b0) (j8 (a7 1 (pv 1)) b0)))
 exact(a5 (g6 t7 (g6 z9 (j8 (a7 2 (pv 2)) b0) (j8 (a7 1 (pv 1)) b0)) (g6 z9 (j8 (a7 2 (pv 2)) b0) (j8 (a7 1 (pv 1)) b0))) b9)
theorem a76(D:Df K mg "taken_back" a1o)(a29:a6r P w K mg base)(Y5:a21 P w K mg base):a04 P w K mg base:=by
 refine t4 (k:=1) D a20 (fun _ _ _ _ _ _=>el2 (fun _ _=>rfl)) fun f cdv A outer s H E hr=> ?_
 have S:=a20
 have hu:=hr.units
 refine c9 ?_ ?_
 ·exact(m7 (i:=2) S.nd (l6 a29 hr (by decide) rfl (b6 j6) (a5 (j8 (a7 1 (pv 1)) b0) b9)))
 refine c9 ?_ ?_
 ·exact(m7 (i:=3) S.nd (l6 Y5 hr (by decide) rfl (b6 (b6 j6)) (a5 (a7 2 (pv 2)) (a5 (p7 (a5 (K1 (j8 (a7 1 (pv 1)) b0)) (a5 (K1 (j8 (a7 1 (pv 1)) b0)) b9))) b9))))
 exact(f9 (l0 (p7 (a5 (a7 2 (pv 2)) (a5 (g6 r8 (j8 (a7 3 (pv 3)) b0) (a7 0 (pv 0))) (a5 (g6 r8 (j8 (a7 3 (pv 3)) b0) (a7 0 (pv 0))) b9))))))
theorem b9G(D:Df K mg "led" b6C)(Y5:a21 P w K mg base):b4Q P w K mg base:=by
 refine t4 (k:=1) D b6E (fun _ _ _ _ _ _=>el3 (fun _ _ _=>rfl)) fun f cdv A outer s H E hr=> ?_
 have S:=b6E
 have hu:=hr.units
 refine c9 ?_ ?_
 ·exact(m7 (i:=3) S.nd (l6 Y5 hr (by decide) rfl (b6 (b6 j6)) (a5 (j8 (a7 1 (pv 1)) b0) (a5 (a7 2 (pv 2)) b9))))
 exact(f9 (l0 (p7 (a5 (g6 r8 (g6 t7 (j8 (a7 3 (pv 3)) b0) (j8 (a7 1 (pv 1)) b0)) (a7 0 (pv 0))) (a5 (g6 r8 (g6 t7 (j8 (a7 3 (pv 3)) b0) (j8 (a7 1 (pv 1)) b0)) (a7 0 (pv 0))) b9)))))
theorem b7P(D:Df K mg "knot" b2v)(M:MoB K mg):b4P P w K mg base:=by
 refine t4 (k:=0) D b3C (fun _ _ _ _ _ _=>el3 (fun _ _ _=>rfl)) fun f cdv A outer s H E hr=> ?_
 have S:=b3C
 have hu:=hr.units
 exact(c9 (m7 (i:=3) S.nd (W9 P3 rfl M.z_len (by rfl) (a7 0 (pv 0)))) (f9 (l0 (j8 (j8 (a7 0 (pv 0)) (g6 r8 (a7 1 (pv 1)) (a7 3 (pv 3)))) (g6 r8 (a7 2 (pv 2)) (a7 3 (pv 3)))))))
theorem a9Y(D:Df K mg "unlike_at" a2j)(M:MoB K mg)(Q7:a04 P w K mg base)(b0y:b4Q P w K mg base)(a9n:b4P P w K mg base):a5b P w K mg base:=by
 refine t4 (k:=2) D a4e (fun _ _ _ _ _ _=>el2 (fun _ _=>rfl)) fun f cdv A outer s H E hr=> ?_
 have S:=a4e
 have hu:=hr.units
 refine c9 ?_ ?_
 ·exact(m7 (i:=2) S.nd (W9 P3 rfl M.z_len (by rfl) (a7 0 (pv 0))))
 refine c9 ?_ ?_
 ·exact(m7 (i:=3) S.nd (l6 Q7 hr (by decide) rfl (b6 (b6 j6)) (a5 (a7 2 (pv 2)) (a5 (a7 1 (pv 1)) b9))))
 refine c9 ?_ ?_
 ·refine B5 PassesOwn.never ?_ ?_ M.z_range ?_ ?_ (o9 4) ?_
  ·exact rfl
  ·exact rfl
  ·exact(a5 (a7 2 (pv 2)) b9)
  ·exact(k7 (i:=4) S.nd rfl (Or.inl rfl))
  refine f9 ?_
  refine B5 PassesOwn.never ?_ ?_ M.z_range ?_ ?_ (o9 5) ?_
  ·exact rfl
  ·exact rfl
  ·exact(a5 (a7 2 (pv 2)) b9)
  ·exact(k7 (i:=5) S.nd rfl (Or.inl rfl))
  refine c9 ?_ ?_
  ·exact(m7 (i:=6) S.nd (l6 b0y hr (by decide) rfl (b6 (b6 (b6 j6))) (a5 (a7 2 (pv 2)) (a5 (a7 3 (pv 3)) (a5 (p7 (a5 (a7 4 (pv 4)) (a5 (a7 5 (pv 5)) b9))) b9)))))
  refine f9 ?_
  refine A8 ?_ ?_ ?_
  ·refine v5 (a3i hu) ?_ ?_ ?_
   ·exact(l6 a9n hr (by decide) rfl (b6 (b6 (b6 j6))) (a5 (a7 0 (pv 0)) (a5 (a7 4 (pv 4)) (a5 (a7 5 (pv 5)) b9))))
   ·exact(l6 a9n hr (by decide) rfl (b6 (b6 (b6 j6))) (a5 (a7 0 (pv 0)) (a5 (j8 (a7 6 (pv 6)) b0) (a5 (j8 (a7 6 (pv 6)) b0) b9))))
   first|rfl|exact nomark _
  ·exact(f9 (l0 (p7 (a5 (a7 4 (pv 4)) (a5 (a7 5 (pv 5)) b9)))))
  exact v4
 exact(f9 (l0 a0y))
theorem b4s(D:Df K mg "leaves" a7A)(a1Q:a5b P w K mg base):b0o P w K mg base:=by
 refine t4 (k:=3) D a8W (fun _ _ _ _ _ _=>el2 (fun _ _=>rfl)) fun f cdv A outer s H E hr=> ?_
 have S:=a8W
 have hu:=hr.units
 exact(f9 (l0 (T4 a30 (l6 a1Q hr (by decide) rfl (b6 (b6 j6)) (a5 (a7 0 (pv 0)) (a5 (a7 1 (pv 1)) b9))) a0y (by first|rfl|exact nomark _))))
theorem b2k(D:Df K mg "leaving" a4X)(M:MoB K mg)(V3:a1r P w K mg base)(a6H:b0o P w K mg base):a8c P w K mg base:=by
 refine t4 (k:=4) D a7E (fun _ _ _ _ _ _=>el1 (fun _=>rfl)) fun f cdv A outer s H E hr=> ?_
 have S:=a7E
 have hu:=hr.units
 refine f9 ?_
 refine l0 ?_
 refine Q8 (ys:=["movement"]) (N0:=["carpet"]) (fun _ _ h=>h) ?_ ⟨by kernel_rfl,rfl,of_decide_eq_true rfl,of_decide_eq_true rfl,of_decide_eq_true rfl⟩ ?_ (fun C fp pins s H=>k7 (i:=1) a9N rfl (Or.inl rfl)) (fun n h=>z6 (i:=1) (Nat.le_of_eq h)) ?_ ?_
 ·exact rfl
 ·exact(V6 (l6 V3 hr (by decide) rfl (b6 j6) (a5 (W9 P3 rfl M.z_len (by rfl) (a7 0 (pv 0))) b9)))
 ·intro C fp pins s H
  exact(a3a (Y7 (l6 a6H hr (by decide) rfl (b6 (b6 j6)) (a5 (a7 0 (pv 0)) (a5 (a7 1 (pv 1)) b9)))))
 intro C fp pins s H
 exact(a7 1 (pv 1))
theorem a3Y(D:Df K mg "kind_of_turn_4" U3)(M:MoB K mg):a0J P w K mg base:=by
 refine t4 (k:=0) D a0t (fun _ _ _ _ _ _=>el2 (fun _ _=>rfl)) fun f cdv A outer s H E hr=> ?_
 have S:=a0t
 have hu:=hr.units
 exact(c9 (A8 (a3b (Y7 (a7 0 (pv 0)))) (f9 (l0 j7)) v4) (c9 (A8 (v5 (A4 hu) (W9 P3 rfl M.z_len (by rfl) (a7 1 (pv 1))) b0 (by first|rfl|exact nomark _)) (f9 (l0 j7)) v4) (f9 (l0 j7))))
theorem a3W(D:Df K mg "kind_of_turn_1" U1):a0H P w K mg base:=by
 refine t4 (k:=0) D a0r (fun _ _ _ _ _ _=>el3 (fun _ _ _=>rfl)) fun f cdv A outer s H E hr=> ?_
 have S:=a0r
 have hu:=hr.units
 refine c9 ?_ ?_
 ·exact(A8 (a3b (Y7 (a7 0 (pv 0)))) (f9 (l0 j7)) v4)
 exact(c9 (A8 (a3b (Y7 (a7 1 (pv 1)))) (f9 (l0 j7)) v4) (c9 (A8 (v5 a30 (a7 2 (pv 2)) a0y (by first|rfl|exact nomark _)) (f9 (l0 j7)) v4) (f9 (l0 j7))))
theorem a3X(D:Df K mg "kind_of_turn_2" U2)(M:MoB K mg):a0I P w K mg base:=by
 refine t4 (k:=0) D a0s (fun _ _ _ _ _ _=>el3 (fun _ _ _=>rfl)) fun f cdv A outer s H E hr=> ?_
 have S:=a0s
 have hu:=hr.units
 refine c9 ?_ ?_
 ·exact(A8 (a3b (Y7 (a7 0 (pv 0)))) (f9 (l0 j7)) v4)
 refine c9 ?_ ?_
 ·exact(A8 (a3b (Y7 (a7 1 (pv 1)))) (f9 (l0 j7)) v4)
 refine c9 ?_ ?_
 ·exact(A8 (v5 (A4 hu) (W9 P3 rfl M.z_len (by rfl) (a7 1 (pv 1))) b0 (by first|rfl|exact nomark _)) (f9 (l0 j7)) v4)
 exact(c9 (A8 (v5 a30 (a7 2 (pv 2)) a0y (by first|rfl|exact nomark _)) (f9 (l0 j7)) v4) (f9 (l0 j7)))
theorem b2n(D:Df K mg "word_of" a40)(T1:a0J P w K mg base)(S9:a0H P w K mg base)(T0:a0I P w K mg base):a8e P w K mg base:=by
 refine t4 (k:=1) D a7H (fun _ _ _ _ _ _=>el1 (fun _=>rfl)) fun f cdv A outer s H E hr=> ?_
 have S:=a7H
 have hu:=hr.units
 refine c9 ?_ ?_
 ·refine A8 ?_ ?_ ?_
  ·exact(v5 (A4 hu) (j8 (a7 0 (pv 0)) b0) b0 (by first|rfl|exact nomark _))
  ·exact(f9 (l0 (l6 S9 hr (by decide) rfl (b6 (b6 (b6 j6))) (a5 (j8 (a7 0 (pv 0)) b0) (a5 (j8 (a7 0 (pv 0)) b0) (a5 (j8 (a7 0 (pv 0)) b0) b9))))))
  exact v4
 refine c9 ?_ ?_
 ·refine A8 ?_ ?_ ?_
  ·exact(v5 (A4 hu) (j8 (a7 0 (pv 0)) b0) b0 (by first|rfl|exact nomark _))
  ·exact(f9 (l0 (l6 T0 hr (by decide) rfl (b6 (b6 (b6 j6))) (a5 (j8 (a7 0 (pv 0)) b0) (a5 (j8 (a7 0 (pv 0)) b0) (a5 (j8 (a7 0 (pv 0)) b0) b9))))))
  exact v4
 exact(f9 (l0 (l6 T1 hr (by decide) rfl (b6 (b6 j6)) (a5 (j8 (a7 0 (pv 0)) b0) (a5 (j8 (a7 0 (pv 0)) b0) b9)))))
theorem b7O(D:Df K mg "kind" b2u)(M:MoB K mg)(a27:a6p P w K mg base)(a4v:a8c P w K mg base)(a4x:a8e P w K mg base):b4O P w K mg base:=by
 refine t4 (k:=5) D b3B (fun _ _ _ _ _ _=>el1 (fun _=>rfl)) fun f cdv A outer s H E hr=> ?_
 have S:=b3B
 have hu:=hr.units
 refine c9 ?_ ?_
 ·exact(m7 (i:=1) S.nd (l6 a27 hr (by decide) rfl (b6 (b6 j6)) (a5 (W9 P3 rfl M.z_len (by rfl) (a7 0 (pv 0))) (a5 (l6 a4v hr (by decide) rfl (b6 j6) (a5 (a7 0 (pv 0)) b9)) b9))))
 exact(f9 (l0 (p7 (a5 (l6 a4x hr (by decide) rfl (b6 j6) (a5 (a7 1 (pv 1)) b9)) (a5 (a7 1 (pv 1)) b9)))))
theorem b07(D:Df K mg "_law_word" a3m)(M:MoB K mg):a6m P w K mg base:=by
 refine t4 (k:=0) D a5D (fun _ _ _ _ _ _=>el1 (fun _=>rfl)) fun f cdv A outer s H E hr=> ?_
 have S:=a5D
 have hu:=hr.units
 refine c9 ?_ ?_
 ·exact(a6Q (is:=[1,2,3,4]) rfl (a7 0 (pv 0)) (E3 (k7 (i:=1) S.nd rfl (Or.inl rfl)) (E3 (k7 (i:=2) S.nd rfl (Or.inl rfl)) (E3 (k7 (i:=3) S.nd rfl (Or.inl rfl)) (E3 (k7 (i:=4) S.nd rfl (Or.inl rfl)) a32)))))
 refine c9 ?_ ?_
 ·exact(A8 (v5 (A4 hu) (a7 2 (pv 2)) (C4 b9) (by first|rfl|exact nomark _)) (f9 (l0 (j8 (C4 (a5 j7 (a5 j7 (a5 j7 (a5 j7 (a5 j7 b9)))))) (a7 1 (pv 1))))) v4)
 refine c9 ?_ ?_
 ·refine A8 ?_ ?_ ?_
  ·exact(v5 (A4 hu) (a7 1 (pv 1)) b0 (by first|rfl|exact nomark _))
  ·exact(f9 (l0 (j8 (C4 (a5 j7 (a5 j7 b9))) (a2R a6G rfl M.z_int (by rfl) (T4 (A4 hu) (W9 P3 rfl M.z_len (by rfl) (a7 3 (pv 3))) b0 (by first|rfl|exact nomark _))))))
  exact v4
 refine c9 ?_ ?_
 ·refine A8 ?_ ?_ ?_
  ·exact(v5 (A4 hu) (a7 1 (pv 1)) b0 (by first|rfl|exact nomark _))
  ·exact(f9 (l0 (j8 (C4 (a5 j7 (a5 (j8 (C4 (a5 j7 (a5 j7 b9))) (a2R a6G rfl M.z_int (by rfl) (T4 a30 (a7 4 (pv 4)) a0y (by first|rfl|exact nomark _)))) b9))) (W9 P3 rfl M.z_len (by rfl) (a7 3 (pv 3))))))
  exact v4
 refine f9 ?_
 refine l0 ?_
 exact(j8 (C4 (a5 j7 (a5 j7 (a5 (j8 (C4 (a5 j7 (a5 j7 b9))) (a2R a6G rfl M.z_int (by rfl) (T4 a30 (a7 4 (pv 4)) a0y (by first|rfl|exact nomark _)))) b9)))) (W9 P3 rfl M.z_len (by rfl) (a7 3 (pv 3))))
theorem a4Q(D:Df K mg "_law_leaves_it" W5)(M:MoB K mg):a1s P w K mg base:=by
 refine t4 (k:=0) D a01 (fun _ _ _ _ _ _=>el2 (fun _ _=>rfl)) fun f cdv A outer s H E hr=> ?_
 have S:=a01
 have hu:=hr.units
 refine c9 ?_ ?_
 ·exact(m7 (i:=2) S.nd (W9 P3 rfl M.z_len (by rfl) (a7 0 (pv 0))))
 refine c9 ?_ ?_
 ·refine a6Q (is:=[3,4,5,6]) ?_ ?_ ?_
  ·exact rfl
  ·refine a8s ?_ ?_ ?_ ?_
   ·exact hu
   ·refine C3 ?_ ?_
    ·exact(p7 (a5 b0 (a5 b0 (a5 b0 (a5 b0 b9)))))
    refine C3 ?_ ?_
    ·exact(p7 (a5 b0 (a5 b0 (a5 (K1 b0) (a5 b0 b9)))))
    refine C3 ?_ ?_
    ·exact(p7 (a5 (K1 b0) (a5 b0 (a5 b0 (a5 (K1 b0) b9)))))
    refine C3 ?_ ?_
    ·exact(p7 (a5 b0 (a5 (K1 b0) (a5 b0 (a5 b0 b9)))))
    refine C3 ?_ ?_
    ·exact(p7 (a5 b0 (a5 b0 (a5 b0 (a5 (K1 b0) b9)))))
    refine C3 ?_ ?_
    ·exact(p7 (a5 (K1 b0) (a5 b0 (a5 b0 (a5 b0 b9)))))
    exact(C3 (p7 (a5 b0 (a5 b0 (a5 b0 (a5 b0 b9))))) (C3 (p7 (a5 b0 (a5 (K1 b0) (a5 (K1 b0) (a5 b0 b9))))) b2Z))
   ·exact(j8 (a7 1 (pv 1)) b0)
   decide+kernel
  exact(E3 (k7 (i:=3) S.nd rfl (Or.inl rfl)) (E3 (k7 (i:=4) S.nd rfl (Or.inl rfl)) (E3 (k7 (i:=5) S.nd rfl (Or.inl rfl)) (E3 (k7 (i:=6) S.nd rfl (Or.inl rfl)) a32))))
 refine c9 ?_ ?_
 ·refine B5 PassesOwn.never ?_ ?_ M.z_range ?_ ?_ (o9 7) ?_
  ·exact rfl
  ·exact rfl
  ·exact(a5 (a7 2 (pv 2)) b9)
  ·exact(k7 (i:=7) S.nd rfl (Or.inl rfl))
  refine f9 ?_
  refine B5 PassesOwn.never ?_ ?_ M.z_range ?_ ?_ (o9 8) ?_
  ·exact rfl
  ·exact rfl
  ·exact(a5 (a7 2 (pv 2)) b9)
  ·exact(k7 (i:=8) S.nd rfl (Or.inl rfl))
  refine c9 ?_ ?_
  ·exact(m7 (i:=9) S.nd (g6 t7 (g6 t7 (g6 z9 (a7 3 (pv 3)) (a7 7 (pv 7))) (g6 z9 (a7 4 (pv 4)) (a7 8 (pv 8)))) (j8 (a7 1 (pv 1)) b0)))
  refine c9 ?_ ?_
  ·exact(m7 (i:=10) S.nd (g6 t7 (g6 t7 (g6 z9 (a7 5 (pv 5)) (a7 7 (pv 7))) (g6 z9 (a7 6 (pv 6)) (a7 8 (pv 8)))) (j8 (a7 1 (pv 1)) b0)))
  refine f9 ?_
  refine A8 ?_ ?_ ?_
  ·exact(v5 (a3i hu) (j8 (j8 (a7 0 (pv 0)) (g6 r8 (a7 9 (pv 9)) (a7 2 (pv 2)))) (g6 r8 (a7 10 (pv 10)) (a7 2 (pv 2)))) (j8 (j8 (a7 0 (pv 0)) (a7 7 (pv 7))) (a7 8 (pv 8))) (by first|rfl|exact nomark _))
  ·exact(f9 (l0 a2Q))
  exact v4
 exact(f9 (l0 a2Q))
theorem a9X(D:Df K mg "moved_row" a2i)(M:MoB K mg)(b0y:b4Q P w K mg base):a5a P w K mg base:=by
 refine t4 (k:=2) D a4d (fun _ _ _ _ _ _=>el3 (fun _ _ _=>rfl)) fun f cdv A outer s H E hr=> ?_
 have S:=a4d
 have hu:=hr.units
 refine c9 ?_ ?_
 ·exact(m7 (i:=3) S.nd (W9 P3 rfl M.z_len (by rfl) (a7 0 (pv 0))) rfl (Or.inr rfl))
 refine c9 ?_ ?_
 ·refine a52 (i:=4) (ys:=["c"]) (N0:=["carpet","back","r","side","places"]) ?_ (fun _ _ h=>h) ?_ ⟨by kernel_rfl,rfl,of_decide_eq_true rfl,of_decide_eq_true rfl,of_decide_eq_true rfl⟩ ?_ (fun C fp pins s H=>k7 (i:=5) a7q rfl (Or.inl rfl)) (fun n h=>z6 (i:=5) (Nat.le_of_eq h)) (fun C fp pins s H=>a1R) ?_
  ·exact S.nd
  ·exact rfl
  ·exact(b2W rfl M.z_range (a5 (a7 3 (pv 3)) b9))
  intro C fp pins s H
  exact(l6 b0y hr (by decide) rfl (b6 (b6 (b6 j6))) (a5 (a7 3 (pv 3)) (a5 (a7 1 (pv 1)) (a5 (p7 (a5 (a7 2 (pv 2)) (a5 (a7 5 (pv 5)) b9))) b9))))
 refine f9 ?_
 refine l0 ?_
 refine b2V ?_ ?_
 ·exact j7
 refine Q8 (ys:=["place"]) (N0:=["carpet","back","r","side","places"]) (fun _ _ h=>h) ?_ ⟨by kernel_rfl,rfl,of_decide_eq_true rfl,of_decide_eq_true rfl,of_decide_eq_true rfl⟩ ?_ (fun C fp pins s H=>k7 (i:=5) a7r rfl (Or.inl rfl)) (fun n h=>z6 (i:=5) (Nat.le_of_eq h)) (fun C fp pins s H=>a1R) ?_
 ·exact rfl
 ·exact(V6 (a7 4 (pv 4)))
 intro C fp pins s H
 exact(j8 (j8 (a7 0 (pv 0)) (j8 (a7 5 (pv 5)) b0)) (j8 (a7 5 (pv 5)) b0))
theorem b59(D:Df K mg "moved" a98)(M:MoB K mg)(Q7:a04 P w K mg base)(a1P:a5a P w K mg base):b2G P w K mg base:=by
 refine t4 (k:=3) D b1k (fun _ _ _ _ _ _=>el2 (fun _ _=>rfl)) fun f cdv A outer s H E hr=> ?_
 have S:=b1k
 have hu:=hr.units
 refine c9 ?_ ?_
 ·exact(m7 (i:=2) S.nd (W9 P3 rfl M.z_len (by rfl) (a7 0 (pv 0))))
 refine c9 ?_ ?_
 ·exact(m7 (i:=3) S.nd (l6 Q7 hr (by decide) rfl (b6 (b6 j6)) (a5 (a7 2 (pv 2)) (a5 (a7 1 (pv 1)) b9))) rfl (Or.inr rfl))
 refine f9 ?_
 refine l0 ?_
 refine a2R a3K ?_ M.z_tuple ?_ ?_
 ·exact rfl
 ·rfl
 refine Q8 (ys:=["r"]) (N0:=["carpet","movement","side","back"]) (fun _ _ h=>h) ?_ ⟨by kernel_rfl,rfl,of_decide_eq_true rfl,of_decide_eq_true rfl,of_decide_eq_true rfl⟩ ?_ (fun C fp pins s H=>k7 (i:=4) b2h rfl (Or.inl rfl)) (fun n h=>z6 (i:=4) (Nat.le_of_eq h)) (fun C fp pins s H=>a1R) ?_
 ·exact rfl
 ·exact(b2W rfl M.z_range (a5 (a7 2 (pv 2)) b9))
 intro C fp pins s H
 exact(l6 a1P hr (by decide) rfl (b6 (b6 (b6 j6))) (a5 (a7 0 (pv 0)) (a5 (a7 3 (pv 3)) (a5 (a7 4 (pv 4)) b9))))
theorem b06(D:Df K mg "_law_dyed" a3l)(M:MoB K mg):a6l P w K mg base:=by
 refine t4 (k:=0) D a5C (fun _ _ _ _ _ _=>el2 (fun _ _=>rfl)) fun f cdv A outer s H E hr=> ?_
 have S:=a5C
 have hu:=hr.units
 refine c9 ?_ ?_
 ·exact(m7 (i:=2) S.nd j7 rfl (Or.inr rfl))
 refine c9 ?_ ?_
 ·exact(m7 (i:=3) S.nd (g6 t7 b0 (g6 r8 (a7 1 (pv 1)) b0)) rfl (Or.inr rfl))
 refine f9 ?_
 refine l0 ?_
 refine a2R a3K ?_ M.z_tuple ?_ ?_
 ·exact rfl
 ·rfl
 refine Q8 (ys:=["_law_row"]) (N0:=["_law_carpet_here","_law_number","_law_letters","_law_at"]) (fun _ _ h=>h) ?_ ⟨by kernel_rfl,rfl,of_decide_eq_true rfl,of_decide_eq_true rfl,of_decide_eq_true rfl⟩ ?_ (fun C fp pins s H=>k7 (i:=4) a71 rfl (Or.inl rfl)) (fun n h=>z6 (i:=4) (Nat.le_of_eq h)) (fun C fp pins s H=>a1R) ?_
 ·exact rfl
 ·exact(V6 (a7 0 (pv 0)))
 intro C fp pins s H
 refine b2V ?_ ?_
 ·exact j7
 refine Q8 (ys:=["_law_sign"]) (N0:=["_law_carpet_here","_law_number","_law_letters","_law_at","_law_row"]) (fun _ _ h=>h) ?_ ⟨by kernel_rfl,rfl,of_decide_eq_true rfl,of_decide_eq_true rfl,of_decide_eq_true rfl⟩ (EIF.ei (b7c (a7 4 (pv 4)))) (fun C fp pins s H=>k7 (i:=5) a72 rfl (Or.inl rfl)) (fun n h=>z6 (i:=5) (Nat.le_of_eq h)) (fun C fp pins s H=>a1R) ?_
 ·exact rfl
 intro C fp pins s H
 exact(j8 (a7 2 (pv 2)) (g6 r8 (g6 t7 (b5j (a7 2 (pv 2)) (a7 5 (pv 5))) (a7 3 (pv 3))) b0))
theorem b9F{f:AB}{fd:FuncData}(F:Fun K "law" "law" b6B f fd)(M:MoB K mg)(a08:a3w P w K mg base)(a4u:a8b P w K mg base)(a1J:a45 P w K mg base)(a23:b4O P w K mg base)(a25:a6m P w K mg base)(J7:a1E P w K mg base)(V4:a1s P w K mg base)(A2:a0v P w K mg base)(a9o:b2G P w K mg base)(a24:a6l P w K mg base)(L9:Y2 P w K mg base):a0G P w K mg base CX0 7 f fd ["_law_script"] (spP K 1 b8N):=by
 refine b8L (k:=6) F b6D fun cdv A outer s H E hr=> ?_
 have S:=b6D
 have hu:=hr.units
 refine c9 ?_ ?_
 ·refine m7 (i:=1) ?_ ?_
  ·exact S.nd
  refine l6 a08 hr ?_ ?_ ?_ ?_
  ·decide
  ·exact rfl
  ·exact(b6 (b6 j6))
  refine a5 ?_ ?_
  ·exact(a7 0 (pv 0))
  exact(a5 (j8 (C4 (a5 b0 (a5 b0 (a5 b0 (a5 b0 (a5 b0 (a5 b0 b9))))))) (g6 r8 (l6 A2 hr (by decide) rfl (b6 (b6 j6)) (a5 (a7 0 (pv 0)) (a5 b0 b9))) b0)) b9)
 refine c9 ?_ ?_
 ·exact(m7 (i:=2) S.nd (W9 P3 rfl M.z_len (by rfl) (a7 1 (pv 1))))
 refine c9 ?_ ?_
 ·exact(m7 (i:=3) S.nd b2U)
 refine c9 ?_ ?_
 ·refine Y6 PassesOwn.never ?_ ?_ ?_ (o9 4) ?_
  ·exact rfl
  ·exact(l6 a4u hr (by decide) rfl (b6 j6) (a5 (a7 2 (pv 2)) b9))
  ·exact(k7 (i:=4) S.nd rfl (Or.inl rfl))
  exact(f9 (A8 (Y7 (l6 V4 hr (by decide) rfl (b6 (b6 j6)) (a5 (a7 1 (pv 1)) (a5 (a7 4 (pv 4)) b9)))) (f9 (a8t 3 hu M.nk (pv 3) (a7 4 (pv 4)) a2Q)) v4))
 refine c9 ?_ ?_
 ·exact(m7 (i:=5) S.nd (b5i 3 a1J hr (by decide) rfl (a7 2 (pv 2)) (pv 3)))
 refine b5n (x:=6) (y:=7) (A:=[1]) (n3:=(v7 (mC (.bool false)))) (ma:="stay") (mb:="stay") ?_ M.nl ?_ ?_ (PW.pt (b22 (a3b (Y7 (b5k (.inr (.inr (.inr (.inr (.inl rfl))))) rfl M.z_isinstance (a7 6 (pv 6)) (b3t rfl M.z_tuple (by rfl) rfl)))) (b22 (v5 (a3i hu) (a7 6 (pv 6)) (p7 (a5 (a7 7 (pv 7)) (a5 (a7 5 (pv 5)) b9))) (by first|rfl|exact nomark _)) (b1U (a3b (Y7 (b5k (.inr (.inr (.inr (.inr (.inl rfl))))) rfl M.z_isinstance (j8 (a7 6 (pv 6)) b0) (b3t rfl M.z_tuple (by rfl) rfl)))))))) ?_ ?_ ?_ (pv 6) ?_ ?_ (pv 6) ?_ ?_ ?_ ?_ ?_
 ·exact S.nd
 ·exact(l6 a23 hr (by decide) rfl (b6 j6) (a5 (a7 1 (pv 1)) b9))
 ·exact(l6 a25 hr (by decide) rfl (b6 j6) (a5 (a7 5 (pv 5)) b9))
 ·exact(f9 (l0 a2Q))
 ·exact(v5 b9P (a7 2 (pv 2)) b0 (by first|rfl|exact nomark _))
 ·exact(f9 (l0 a2Q))
 ·exact b0
 ·exact b0
 ·exact b0
 ·exact b0
 ·exact j7
 ·exact j7
 refine c9 ?_ ?_
 ·exact(m7 (i:=8) S.nd (l6 J7 hr (by decide) rfl (b6 (b6 j6)) (a5 (l6 A2 hr (by decide) rfl (b6 (b6 j6)) (a5 (a7 0 (pv 0)) (a5 b0 b9))) (a5 b0 b9))))
 refine c9 ?_ ?_
 ·refine A8 (PW.pt (b22 (v5 (a3i hu) (j8 (l6 a23 hr (by decide) rfl (b6 j6) (a5 (l6 a9o hr (by decide) rfl (b6 (b6 j6)) (a5 (a7 1 (pv 1)) (a5 (l6 L9 hr (by decide) rfl (b6 (b6 j6)) (a5 (a7 2 (pv 2)) (a5 (a7 8 (pv 8)) b9))) b9))) b9)) b0) (a7 7 (pv 7)) (by first|rfl|exact nomark _)) (b1U (v5 (a3i hu) (j8 (l6 a23 hr (by decide) rfl (b6 j6) (a5 (l6 a24 hr (by decide) rfl (b6 (b6 j6)) (a5 (a7 1 (pv 1)) (a5 (a7 8 (pv 8)) b9))) b9)) b0) (a7 7 (pv 7)) (by first|rfl|exact nomark _))))) ?_ ?_
  ·exact(f9 (l0 a2Q))
  exact v4
 refine c9 ?_ ?_
 ·refine m7 (i:=9) ?_ ?_
  ·exact S.nd
  refine a2R a3K ?_ M.z_tuple ?_ ?_
  ·exact rfl
  ·rfl
  refine Q8 (ys:=["_law_row"]) (N0:=["_law_script","_law_carpet_here","_law_n","_law_movements","_law_movement_here","_law_paper_here","_law_found","_law_word_here","_law_number","_law_twice"]) (fun _ _ h=>h) ?_ ⟨by kernel_rfl,rfl,of_decide_eq_true rfl,of_decide_eq_true rfl,of_decide_eq_true rfl⟩ ?_ (fun C fp pins s H=>k7 (i:=10) b51 rfl (Or.inl rfl)) (fun n h=>z6 (i:=10) (Nat.le_of_eq h)) (fun C fp pins s H=>a1R) ?_
  ·exact rfl
  ·exact(V6 (g6 t7 (a7 1 (pv 1)) (a7 1 (pv 1))))
  intro C fp pins s H
  exact(g6 t7 (a7 10 (pv 10)) (a7 10 (pv 10)))
 refine c9 ?_ ?_
 ·refine A8 (PW.pt (b1T (v5 b3q (a7 2 (pv 2)) b0 (by first|rfl|exact nomark _)) (a9s (v5 (a3i hu) (j8 (l6 a23 hr (by decide) rfl (b6 j6) (a5 (a7 9 (pv 9)) b9)) b0) (a7 7 (pv 7)) (by first|rfl|exact nomark _))))) ?_ ?_
  ·exact(f9 (l0 a2Q))
  exact v4
 exact(f9 (l0 (T4 (A4 hu) (l6 a23 hr (by decide) rfl (b6 j6) (a5 (a7 1 (pv 1)) b9)) (p7 (a5 (a7 7 (pv 7)) (a5 (a7 5 (pv 5)) b9))) (by first|rfl|exact nomark _))))
end
theorem b85{l:PySem.W.OpenLaw}{w:AK}{K:AE}{h:Heap}{mg:Str->Option AA}{fa:AB}(X:K.In h)(G:h.Ns mainGlobals mg)(hfa:mg "law"=some (.ref fa))
 {uu_BENDING:AA}
 {uu_WAYS:AA}
 {aa_LEADS:AB}
 (M0:X7 K "_law_plain" a2e)
 (a1K:X7 K "_law_place" a2d)
 (a1L:X7 K "_law_roots" a2f)
 (J7:X7 K "_law_mixed" a2b)
 (L9:X7 K "_law_movement" Z8)
 (A2:X7 K "_law_cell_at" a0B)
 (a08:X7 K "_law_carpet" a1l)
 (a4u:X7 K "_law_all" a4W)
 (a1N:X7 K "_law_wides" a2h)
 (a1M:X7 K "_law_stand" a2g)
 (a09:X7 K "_law_mirror" a1m)
 (a1J:X7 K "_law_paper" a2c)
 (a0Q:X7 K "ways_of" a4Z)
 (a4w:X7 K "turn_of" a4Y)
 (a22:X7 K "bends_of" a3k)
 (a1O:X7 K "listed" a7B)
 (T2:X7 K "wide_movements" U4)
 (a6I:X7 K "narrow" a7C)
 (O1:X7 K "wide_within" a0C)
 (a1I:X7 K "is_mirror" a2a)
 (a1a:X7 K "mirrors_of" a1n)
 (V5:X7 K "slanted_stand" W6)
 (a28:X7 K "stand_of" a3q)
 (a26:X7 K "loose_of" a3n)
 (a27:X7 K "paper_of" a3o)
 (V3:X7 K "all_movements" W0)
 (a29:X7 K "way_back" a3r)
 (Y5:X7 K "place_by" a3p)
 (Q7:X7 K "taken_back" a1o)
 (b0y:X7 K "led" b6C)
 (a9n:X7 K "knot" b2v)
 (a1Q:X7 K "unlike_at" a2j)
 (a6H:X7 K "leaves" a7A)
 (a4v:X7 K "leaving" a4X)
 (T1:X7 K "kind_of_turn_4" U3)
 (S9:X7 K "kind_of_turn_1" U1)
 (T0:X7 K "kind_of_turn_2" U2)
 (a4x:X7 K "word_of" a40)
 (a23:X7 K "kind" b2u)
 (a25:X7 K "_law_word" a3m)
 (V4:X7 K "_law_leaves_it" W5)
 (a1P:X7 K "moved_row" a2i)
 (a9o:X7 K "moved" a98)
 (a24:X7 K "_law_dyed" a3l)
 (c0v:X7 K "law" b6B)
 (nk:a5y K=true)
 (nl:b7L K=true)
 (z_dict:PySem.W.nsIn K mainGlobals "dict"=some none)
 (z_int:PySem.W.nsIn K mainGlobals "int"=some none)
 (z_isinstance:PySem.W.nsIn K mainGlobals "isinstance"=some none)
 (z_len:PySem.W.nsIn K mainGlobals "len"=some none)
 (z_range:PySem.W.nsIn K mainGlobals "range"=some none)
 (z_sorted:PySem.W.nsIn K mainGlobals "sorted"=some none)
 (z_tuple:PySem.W.nsIn K mainGlobals "tuple"=some none)
 (e_BENDING:PySem.W.nsIn K mainGlobals "BENDING"=some (some uu_BENDING)) (q_BENDING:a1z K 40 uu_BENDING=some I0)
 (e_WAYS:PySem.W.nsIn K mainGlobals "WAYS"=some (some uu_WAYS)) (q_WAYS:a1z K 40 uu_WAYS=some b0e)
 (e_LEADS:PySem.W.nsIn K mainGlobals "LEADS"=some (some (.ref aa_LEADS)))
 (t_LEADS:c0g K 9 aa_LEADS=some L8) (h_LEADS:a9x K aa_LEADS=L8.map (fun kv=>b4f w kv.1))
 :∃fd:FuncData,(∀(s:AC) (v:AA),BindsTo s fd ⟨[v],[]⟩ [("_law_script",v)])/\∀base:Heap,K.In base->base.Ns mainGlobals mg->a0G l.prog w K mg base CX0 7 fa fd ["_law_script"] (b1l K):=by
 have M:MoB K mg:=⟨PySem.W.mg_none_of X G z_dict,PySem.W.mg_none_of X G z_int,PySem.W.mg_none_of X G z_isinstance,PySem.W.mg_none_of X G z_len,PySem.W.mg_none_of X G z_range,PySem.W.mg_none_of X G z_sorted,PySem.W.mg_none_of X G z_tuple,nk,nl⟩
 have mm_BENDING:=PySem.W.mg_of X G e_BENDING
 have mm_WAYS:=PySem.W.mg_of X G e_WAYS
 have mm_LEADS:=PySem.W.mg_of X G e_LEADS
 have tt_LEADS:Tab l.prog w K aa_LEADS L8:=c0i 9 t_LEADS h_LEADS (by decide+kernel)
 refine b7y (c0v.to X G) hfa (fun _ _ _ _ _ _ _=>rfl) main fun base f fd kb F=> ?_
 have a1D:=a9T l.prog w base (M0.to X G)
 have b0h:=a9S l.prog w base (a1K.to X G) a1D
 have b0i:=a9U l.prog w base (a1L.to X G) M b0h
 have a43:=a9Q l.prog w base (J7.to X G)
 have a1C:=a5T l.prog w base (L9.to X G)
 have a2J:=a7t l.prog w base (A2.to X G) M
 have a89:=a73 l.prog w base (a08.to X G) M b0i a43 a1C a2J
 have b3O:=b2j l.prog w base (a4u.to X G) M
 have b0k:=a9W l.prog w base (a1N.to X G) M
 have b0j:=a9V l.prog w base (a1M.to X G) a1D
 have a9a:=a74 l.prog w base (a09.to X G) a1D
 have b0g:=a9R l.prog w base (a1J.to X G) M b0k b0j a9a
 have a78:=b2m l.prog w base (a0Q.to X G)
 have b3Q:=b2l l.prog w base (a4w.to X G) a78
 have b1y:=b05 l.prog w base (a22.to X G) mm_BENDING q_BENDING a78
 have b0l:=b4t l.prog w base (a1O.to X G) M
 have a4m:=a3Z l.prog w base (T2.to X G) M
 have b4J:=b4u l.prog w base (a6I.to X G)
 have a2K:=a7u l.prog w base (O1.to X G) M a4m b4J
 have b0f:=a9P l.prog w base (a1I.to X G)
 have a9b:=a75 l.prog w base (a1a.to X G) mm_BENDING q_BENDING b0l a2K b0f
 have a5P:=a4R l.prog w base (V5.to X G)
 have b1D:=b1b l.prog w base (a28.to X G) a5P
 have b1B:=b08 l.prog w base (a26.to X G) M mm_BENDING q_BENDING b0l a2K b1D
 have b1C:=b09 l.prog w base (a27.to X G) b3Q b1y a9b b1B
 have a5N:=a4P l.prog w base (V3.to X G) M mm_WAYS q_WAYS
 have b1E:=b1c l.prog w base (a29.to X G)
 have a6i:=b1a l.prog w base (Y5.to X G) mm_LEADS tt_LEADS
 have a3u:=a76 l.prog w base (Q7.to X G) b1E a6i
 have b8C:=b9G l.prog w base (b0y.to X G) a6i
 have b81:=b7P l.prog w base (a9n.to X G) M
 have b0n:=a9Y l.prog w base (a1Q.to X G) M a3u b8C b81
 have b4I:=b4s l.prog w base (a6H.to X G) b0n
 have b3P:=b2k l.prog w base (a4v.to X G) M a5N b4I
 have a4l:=a3Y l.prog w base (T1.to X G) M
 have a4j:=a3W l.prog w base (S9.to X G)
 have a4k:=a3X l.prog w base (T0.to X G) M
 have b3R:=b2n l.prog w base (a4x.to X G) a4l a4j a4k
 have b80:=b7O l.prog w base (a23.to X G) M b1C b3P b3R
 have b1A:=b07 l.prog w base (a25.to X G) M
 have a5O:=a4Q l.prog w base (V4.to X G) M
 have b0m:=a9X l.prog w base (a1P.to X G) M b8C
 have b6V:=b59 l.prog w base (a9o.to X G) M a3u b0m
 have b1z:=b06 l.prog w base (a24.to X G) M
 exact b9F l.prog w base F M a89 b3O b0g b80 b1A a43 a5O a2J b6V b1z a1C
end LW
namespace PySem.W.Fast
def tw4121212251524232420:=()
def tw2340286119148068793:=()
def tw6069959074244519542:=()
def tw15326002183409375860:=()
def tw11186037871486752799:=()
def tw7544770227524410746:=()
def tw6307725609696030774:=()
def tw8342194216340469645:=()
def tw15608562272484220695:=()
def tw13114579729169426201:=()
def tw8325011735837568356:=()
def tw12417834913631792594:=()
def tw15151670831572414910:=()
def tw14273642671083448001:=()
def tw11791801024216751663:=()
def tw947100961890542482:=()
def tw4136691498253740240:=()
def tw7504061238893925778:=()
def tw12076211609062589476:=()
def tw8025118085175899837:=()
def tw7109964669985929616:=()
def tw15862011725966288141:=()
def tw12443664809078945509:=()
def tw1686120178369423453:=()
def tw5440754228792537224:=()
def tw11222689492701122294:=()
def tw2549268005033128279:=()
def tw9003057843672349439:=()
def tw13744871789644174608:=()
def tw3066877333355116970:=()
def tw18386119000980681586:=()
def tw17064537563130358409:=()
def tw16194857201970894371:=()
def tw12919589138224963439:=()
def tw469350284540156365:=()
def tw7216374964166136871:=()
def tw231268076445857118:=()
def tw17842411692446359516:=()
def tw11527686114961271342:=()
def tw10807658748169292550:=()
def tw4384400390511613005:=()
def tw11435444470603184084:=()
def tw15314007773118881739:=()
def tw9416155631770048721:=()
def tw13291977232249454532:=()
def tw7082753810739447445:=()
def tw16040263253252247341:=()
def tw3298577894190694754:=()
def tw10098799001264929256:=()
def tw13662083281504959656:=()
def tw15374469275626753277:=()
def tw12521919213772726812:=()
def tw2256589530368188697:=()
def tw1052591920456154796:=()
def tw395323201333373685:=()
def tw11910814749329545776:=()
def tw11364743483877415440:=()
def tw16727156009576147538:=()
def tw5105955684364579050:=()
def tw15926419828753294534:=()
def tw13364497377321674297:=()
def tw156143098017460677:=()
def tw1447948007833344016:=()
def tw7373672780901145247:=()
def tw3540534535756837198:=()
def tw2829921189908920517:=()
def tw17455629626226462293:=()
def tw16926643143618468434:=()
def tw5814646637580596070:=()
def tw16097679343940801000:=()
def tw3211057407871603244:=()
def tw16323970562542826971:=()
def tw14831116736510832016:=()
def tw15085807833217129594:=()
def tw4408311082153314646:=()
def tw16484589402929871443:=()
def tw2729808880648310540:=()
def tw9198957182798574939:=()
def tw1123624262412542698:=()
def tw15073936962543339181:=()
def tw16788617477752997130:=()
def tw15060905274161876858:=()
def tw6882566478109480765:=()
def tw7733744855842018117:=()
def tw17681891331679607932:=()
def tw1730674374128802049:=()
def tw542921646841577890:=()
def tw2362251540881087582:=()
def tw6329636788067413612:=()
def tw12504870651950438131:=()
def tw2733835526554335865:=()
def tw1498600099822199501:=()
def tw6972927553609125150:=()
def tw12108492939820569534:=()
def tw450542223640658269:=()
def tw18379157960863323031:=()
def tw7414486521177930651:=()
def tw5303174191977253602:=()
def tw1346526089530865440:=()
end PySem.W.Fast
open PySem PySem.W PyProof.Rows
set_option maxRecDepth 100000 in
set_option maxHeartbeats 0 in
theorem PySem.Challenge.cw_carpetkin_k64_whole_kind_of_a_carpet_holds : PySem.Challenge.rw_carpetkin_k64_whole_kind_of_a_carpet.Holds := by
 w_on;o_law;k_head;(case hw=>w_witness2)
 k_fill
 refine PU.c1Z (k:=7) (x:="_law_script") (l:=PySem.Challenge.rw_carpetkin_k64_whole_kind_of_a_carpet) (by decide) rfl rfl (fun w h Y=>PySem.W.kIn_of Y) ?F
 case F=>
  intro w mg fa h KX G hmg
  refine' LW.b85 KX G hmg ?_ ?_ ?_ ?_ ?_ ?_ ?_ ?_ ?_ ?_ ?_ ?_ ?_ ?_ ?_ ?_ ?_ ?_ ?_ ?_ ?_ ?_ ?_ ?_ ?_ ?_ ?_ ?_ ?_ ?_ ?_ ?_ ?_ ?_ ?_ ?_ ?_ ?_ ?_ ?_ ?_ ?_ ?_ ?_ ?_ ?_ ?_ ?_ ?_ ?_ ?_ ?_ ?_ ?_ ?_ ?_ ?_ ?_ ?_ ?_ ?_
  all_goals first|(apply PU.c0w<;>k_is)|(apply PU.dm_mk<;>first|k_is|kernel_rfl)|k_is|kernel_rfl|skip
