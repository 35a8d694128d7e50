import PyProof.Rows.All
import Wide.All
import OpenK.AllK
import Wide.FinOn
import Lean
import PyProof.EqAt
import PyProof.EqKinds
import PyProof.TupleCall
import PyProof.Rows.SortPure
import PyProof.Rows.SortWalk
import PyProof.AttrMissHeap
import KE.KDictOf
import KE.KIntText
import PyProof.StrBlockH
import PyProof.CallStr
import PyProof.StrLawsIn
import PyProof.StrLawsOcc
import PyProof.StationsW
import PyProof.ExcClass2
import PyProof.ExcBaseAll.ValueError
import PyProof.RulesTry
import PyProof.Rows.CatchBare
import PyProof.Rows.CatchOwn
import OpenK.KOwn
import PyProof.NsDelKeeps
import PyProof.Rows.RuleDivmod
import PyProof.Rows.SumAny
import PySem.Challenge.RW_carpetkin_k22_texts_of_no_motif
set_option Elab.async false
set_option linter.all false
set_option maxRecDepth 100000
noncomputable section
open PySem renaming Value -> AA
open PySem renaming Addr -> AB
open PySem renaming Shared -> AC
open PySem.W renaming Frag -> AD
open PySem.Str renaming ofString -> AE
open PySem renaming wpAny_bind -> AF
open PySem renaming Expr -> AG
open Option renaming bind_some -> AH
open PySem renaming wpAny -> AI
open PySem renaming World -> AJ
open PySem renaming Around -> AK
open PySem renaming Program -> AL
open List renaming map_cons -> AM
open PySem renaming starEach -> AN
open PySem renaming sizeLine -> AO
open List renaming replicate_zero -> AQ
open List renaming replicate -> AR
open PySem renaming wpAny_pure -> AS
open List renaming map_nil -> AT
open List renaming length_cons -> AU
open Nat renaming le_refl -> AV
open List renaming replicate_succ -> AW
open List renaming cons_append -> AX
open List renaming nil_append -> AY
open List renaming length_append -> AZ
open PySem.Heap renaming lt_size -> Aa
open List renaming set_cons_zero -> Ab
open List renaming set_cons_succ -> Ac
open List renaming append_nil -> Ae
open Option renaming map_some -> Af
open List renaming length_nil -> Ag
open PySem.Heap renaming get?_push_of_some -> Ah
open List renaming mem_cons_self -> Ai
open List renaming mem_cons_of_mem -> Aj
open List renaming mem_cons -> Ak
open List renaming range -> Al
open List renaming size_toArray -> Am
open List renaming length_map -> An
open Nat renaming ne_of_lt -> Ao
open Bool renaming false_ne_true -> Aq
open PySem.Heap renaming get?_push_size -> Ar
open Nat renaming lt_of_lt_of_le -> As
open List renaming mem_append_right -> At
open List renaming mem_append -> Au
open Nat renaming reduceLeDiff -> Av
open List renaming getElem?_eq_some_iff -> Aw
open List renaming getElem?_map -> Ax
open List renaming getElem?_eq_getElem -> Ay
open List renaming getElem?_append_left -> Az
open List renaming map_map -> BA
open Nat renaming le_of_lt -> BB
open List renaming mem_of_getElem? -> BC
open List renaming mem_append_left -> BD
open List renaming mem_map -> BE
namespace L2
open PySem PySem.Spec PyProof.Rows
abbrev A1:=Sum Int Str
def b3E:A1->AA->Bool
 | .inl k,v=>Value.isInt k v
 | .inr x,v=>Value.isStrOf x v
def b9v(w:AJ):A1->Int
 | .inl k=>hashInt k
 | .inr x=>hashStr w x
theorem D7:∀{k:A1} {v:AA},b3E k v=true->(∃i t,k=Sum.inl i/\v=Value.int i t)\/(∃x t,k=Sum.inr x/\v=Value.str x t)
 | .inl i,v,h=>by
   obtain⟨t,e⟩:=Value.isInt_shape (k:=i) (v:=v) h
   exact .inl ⟨i,t,rfl,e⟩
 | .inr x,v,h=>by
   obtain⟨t,e⟩:=Value.isStrOf_shape (x:=x) (v:=v) h
   exact .inr ⟨x,t,rfl,e⟩
theorem b7v(a b:Int):decide ((Sum.inl a:A1)=Sum.inl b)=(a==b):=by
 by_cases e:a=b
 ·subst e;simp
 ·have h:¬(Sum.inl a:A1)=Sum.inl b:=fun q=>e (Sum.inl.inj q)
  rw [decide_eq_false h]
  exact(beq_eq_false_iff_ne.mpr e).symm
theorem b7y(a b:Str):decide ((Sum.inr a:A1)=Sum.inr b)=decide (a=b):=by
 by_cases e:a=b
 ·subst e;simp
 ·have h:¬(Sum.inr a:A1)=Sum.inr b:=fun q=>e (Sum.inr.inj q)
  rw [decide_eq_false h,decide_eq_false e]
theorem b7w(a:Int)(b:Str):decide ((Sum.inl a:A1)=Sum.inr b)=false:=decide_eq_false (fun q=>nomatch q)
theorem b7x(a:Str)(b:Int):decide ((Sum.inr a:A1)=Sum.inl b)=false:=decide_eq_false (fun q=>nomatch q)
def a5l(prog:AL)(w:AJ):PySem.KeyKind prog w A1 where
 is:=b3E
 hash:=b9v w
 inj:=fun v a b ha hb=>by
  rcases D7 ha with⟨i,t,rfl,rfl⟩|⟨x,t,rfl,rfl⟩
  ·rcases D7 hb with⟨j,u,rfl,e⟩|⟨y,u,rfl,e⟩
   ·injection e with e1 _;rw [e1]
   ·exact nomatch e
  ·rcases D7 hb with⟨j,u,rfl,e⟩|⟨y,u,rfl,e⟩
   ·exact nomatch e
   ·injection e with e1 _;rw [e1]
 byValue:=fun k v h=>by
   rcases D7 h with⟨i,t,rfl,rfl⟩|⟨x,t,rfl,rfl⟩<;>rfl
 pyHash:=fun hv h=>by
  rcases D7 hv with⟨i,t,rfl,rfl⟩|⟨x,t,rfl,rfl⟩
  ·exact wpAny_pyHash_int h
  ·exact wpAny_pyHash_str h
 eqBool:=fun hu hv h=>by
  rcases D7 hu with⟨i,t,rfl,rfl⟩|⟨x,t,rfl,rfl⟩
  ·rcases D7 hv with⟨j,u,rfl,rfl⟩|⟨y,u,rfl,rfl⟩
   ·rw [b7v] at h;exact wpAny_eqBool_int h
   ·rw [b7w] at h;exact SeqAt.EqAt.int_str i t y u _ _ _ _ h
  ·rcases D7 hv with⟨j,u,rfl,rfl⟩|⟨y,u,rfl,rfl⟩
   ·rw [b7x] at h;exact SeqAt.EqAt.str_int x t j u _ _ _ _ h
   ·rw [b7y] at h;exact wpAny_eqBool_str h
 «strs»:=fun k x t v h=>by
  rcases D7 h with⟨i,u,rfl,e⟩|⟨y,u,rfl,e⟩
  ·exact nomatch e
  ·injection e with e1 _
   subst e1
   cases v<;>rfl
inductive V where
 |non|bl (b:Bool)|int (i:Int)|str (x:Str)|byt (b:Array UInt8)|flt (b:UInt64)|ref (a:AB)|ty (n:String)
 deriving DecidableEq
def z4:V->AA->Prop
 | .non,u=>u=Value.none
 | .bl b,u=>u=Value.bool b
 | .int i,u=>∃t,u=Value.int i t
 | .str x,u=>∃t,u=Value.str x t
 | .byt b,u=>∃t,u=Value.bytes b t
 | .flt b,u=>∃t,u=Value.float b t
 | .ref a,u=>u=Value.ref a
 | .ty n,u=>u=Value.type n
abbrev u3:List V->List AA->Prop:=Paired z4
theorem u3.length{xs:List V}{us:List AA}(r:u3 xs us):xs.length=us.length:=Paired.length r
theorem u3.get:∀{xs:List V} {us:List AA} {i:Nat} {x:V},u3 xs us->xs[i]?=some x->∃u,us[i]?=some u/\z4 x u
 |_,_,_,_,.nil,e=>by simp at e
 |_,_,0,_,.cons r _,e=>by simp at e;subst e;exact⟨_,rfl,r⟩
 |_,_,i+1,x,.cons _ t,e=>by
  obtain⟨u,h1,h2⟩:=u3.get (i:=i) (x:=x) t (by simpa using e)
  exact⟨u,by simpa using h1,h2⟩
theorem u3.set{x:V}{u:AA}(r:z4 x u):∀{xs:List V} {us:List AA} (i:Nat),u3 xs us->u3 (xs.set i x) (us.set i u)
 |_,_,_,.nil=> .nil
 |_,_,0,.cons _ t=> .cons r t
 |_,_,i+1,.cons q t=> .cons q (u3.set r i t)
theorem u3.append:∀{xs ys:List V} {us ws:List AA},u3 xs us->u3 ys ws->u3 (xs++ys) (us++ws)
 |_,_,_,_,.nil,s=>s
 |_,_,_,_,.cons r t,s=> .cons r (u3.append t s)
theorem u3.take:∀{xs:List V} {us:List AA} (n:Nat),u3 xs us->u3 (xs.take n) (us.take n)
 |_,_,0,_=> .nil
 |_,_,_+1,.nil=> .nil
 |_,_,n+1,.cons r t=> .cons r (u3.take n t)
theorem u3.drop:∀{xs:List V} {us:List AA} (n:Nat),u3 xs us->u3 (xs.drop n) (us.drop n)
 |_,_,0,r=>r
 |_,_,_+1,.nil=> .nil
 |_,_,n+1,.cons _ t=>u3.drop n t
theorem u3.none_of:∀{xs:List V} {us:List AA} {i:Nat},u3 xs us->xs[i]?=none->us[i]?=none:=fun {xs us i} r e=>by
 have h1:=r.length
 have h2:xs.length<=i:=List.getElem?_eq_none_iff.mp e
 exact List.getElem?_eq_none_iff.mpr (by lia)
def a2P:Option V->Option AA->Prop
 |some v,some u=>z4 v u
 |none,none=>True
 |_,_=>False
def KV{κ:Type}:List (κ×V)->List (κ×AA)->Prop:=Paired fun(p:κ×V) (q:κ×AA)=>p.1=q.1/\z4 p.2 q.2
def kV:A1->V
 | .inl i=> .int i
 | .inr x=> .str x
inductive HO where
 |lst (xs:List V)
 |tup (xs:List V)
 |dK (kvs:List (A1×V))|dT (kvs:List (List A1×V))
 |set (S:Int->Bool) (n:Nat)
 |ins (C dx:AB) (fs:List (Str×V))
 |own (x:AB)
 |xd (fs:List (Str×V))
 |met (f x:AB)
 |rng (lo hi:Int)
 |frz (o:Obj) (u:HO)
 |tbl (ps:Array AA)
 |ext (φ:Heap->Prop)
abbrev Hp:=AB->Option HO
def upd(H:Hp)(a:AB)(o:HO):Hp:=fun b=>if b=a then some o else H b
theorem y4{H:Hp}{a:AB}{o:HO}:upd H a o a=some o:=by unfold upd;rw [if_pos rfl]
theorem o8{H:Hp}{a b:AB}{o:HO}(h:b≠a):upd H a o b=H b:=by unfold upd;rw [if_neg h]
theorem b1Q{H:Hp}{a:AB}{o u:HO}:upd (upd H a o) a u=upd H a u:=by
 funext b;unfold upd;split<;>rfl
theorem a9F{H:Hp}{a b:AB}{o u:HO}(h:H a=some o)(h':H b=some u)(d:o≠u):a≠b:=by
 intro e;subst e;rw [h] at h';exact d (Option.some.inj h')
theorem p6{H:Hp}{a b:AB}{o:HO}(h:H a=some o)(h':H b=none):a≠b:=by
 intro e;subst e;rw [h] at h';cases h'
section
variable (P:AL)(w:AJ)
def O8(H:Hp)(h:Heap)(a:AB):HO->Prop
 | .lst xs=>xs.length<=AO/\∃(its:List AA) (n:Nat),u3 xs its/\h.get? a=some {cls:= .type "list",data:= .seq its.toArray n}
 | .tup xs=>xs.length<=AO/\∃its:List AA,u3 xs its/\IsTup h a its.toArray
 | .dK kvs=>kvs.length<=AO/\(a==sysModules)=false/\∃vs,KV kvs vs/\h.DictOf (a5l P w) a vs
 | .dT kvs=>kvs.length<=AO/\(a==sysModules)=false/\∃xs:List (List A1×AB×AA),
  Paired (fun(p:List A1×V) (q:List A1×AB×AA)=>p.1=q.1/\H q.2.1=some (.tup (p.1.map kV))/\z4 p.2 q.2.2) kvs xs/\
  ∃o es ep,h.get? a=some o/\o.ExactDict/\o.data= .dict es ep/\es.toList=xs.map (entryOfKey (tupleKind (a5l P w)))/\(xs.map (·.1)).Nodup
 | .set S n=>h.SetOf (intKind P w) a S n
 | .ins C dx fs=>H dx=some (.own a)/\fs.length<=1000/\dx≠a/\h.get? a=some (PySem.W.instObj C dx)/\
  ∃mA,h.Ns1 dx mA/\(∀f,a2P (fs.lookup f) (mA f))/\PySem.Within mA (fs.map (·.1))
 | .own _=>∃o,h.get? a=some o
 | .xd fs=>∃mA,h.Ns1 a mA/\∀f,a2P (fs.lookup f) (mA f)
 | .rng lo hi=>∃t u v,h.get? a=some {cls:= .type "range",data:= .fields #[.int lo t,.int hi u,.int 1 v]}
 | .frz o u=>h.get? a=some o/\O8 H h a u
 | .tbl ps=>h.get? a=some {cls:= .none,data:= .fields ps}
 | .met f x=>h.get? a=some (PySem.W.methodObj (.ref f) (.ref x))
 | .ext φ=>φ h/\(∃o,h.get? a=some o)/\∀h1 h2:Heap,φ h1->(∀o,h1.get? a=some o->h2.get? a=some o)->φ h2
def HOk(H:Hp)(h:Heap):Prop:=∀a o,H a=some o->O8 P w H h a o
end
section
variable {P:AL}{w:AJ}{H H':Hp}{h h':Heap}{a:AB}{o:HO}
theorem O8.lt(x:O8 P w H h a o):a<h.objs.size:=by
 cases o with
 |lst xs=>obtain⟨_,_,_,_,e⟩:=x;exact Aa e
 |tup xs=>obtain⟨_,_,_,p⟩:=x;exact p.lt
 |dK kvs=>obtain⟨_,_,_,_,o,_,_,e,_⟩:=x;exact Aa e
 |dT kvs=>obtain⟨_,_,_,_,o,_,_,e,_⟩:=x;exact Aa e
 |set S n=>obtain⟨o,_,_,_,e,_⟩:=x;exact Aa e
 |ins C dx fs=>obtain⟨_,_,_,e,_⟩:=x;exact Aa e
 |own y=>obtain⟨_,e⟩:=x;exact Aa e
 |xd fs=>obtain⟨_,⟨_,_,_,e,_⟩,_⟩:=x;exact Aa e
 |rng lo hi=>obtain⟨_,_,_,e⟩:=x;exact Aa e
 |frz ob u=>obtain⟨e,_⟩:=x;exact Aa e
 |tbl ps=>exact Aa (show h.get? a=some _ from x)
 |met f y=>exact Aa (show h.get? a=some _ from x)
 |ext φ=>obtain⟨_,⟨_,e⟩,_⟩:=x;exact Aa e
theorem Paired.mapP{α β:Type}{F G:α->β->Prop}:∀{l₁:List α} {l₂:List β},Paired F l₁ l₂->(∀a b,F a b->G a b)->Paired G l₁ l₂
 |_,_,.nil,_=> .nil
 |_,_,.cons r t,f=> .cons (f _ _ r) (Paired.mapP t f)
theorem O8.stay(x:O8 P w H h a o)(k:∀b u,(b=a\/H b=some (.own a))->h.get? b=some u->h'.get? b=some u)
 (ho:∀b,H b=some (.own a)->H' b=some (.own a)) (ht:∀b xs,H b=some (.tup xs)->H' b=some (.tup xs)):O8 P w H' h' a o:=by
 induction o with
 |lst xs=>obtain⟨z,its,n,r,e⟩:=x;exact⟨z,its,n,r,k _ _ (.inl rfl) e⟩
 |tup xs=>obtain⟨z,its,r,ob,e,c⟩:=x;exact⟨z,its,r,ob,k _ _ (.inl rfl) e,c⟩
 |dK kvs=>obtain⟨z,y,vs,r,ob,es,ep,e,c⟩:=x;exact⟨z,y,vs,r,ob,es,ep,k _ _ (.inl rfl) e,c⟩
 |dT kvs=>
  obtain⟨z,y,xs,r,ob,es,ep,e,c⟩:=x
  exact⟨z,y,xs,Paired.mapP r fun p q z=>⟨z.1,ht _ _ z.2.1,z.2.2⟩,ob,es,ep,k _ _ (.inl rfl) e,c⟩
 |set S n=>obtain⟨ob,es,ep,t,e,c⟩:=x;exact⟨ob,es,ep,t,k _ _ (.inl rfl) e,c⟩
 |ins C dx fs=>
  obtain⟨d,z,ne,e,mA,⟨od,es,ep,e2,c⟩,r⟩:=x
  exact⟨ho _ d,z,ne,k _ _ (.inl rfl) e,mA,⟨od,es,ep,k _ _ (.inr d) e2,c⟩,r⟩
 |own y=>obtain⟨ob,e⟩:=x;exact⟨ob,k _ _ (.inl rfl) e⟩
 |xd fs=>obtain⟨mA,⟨od,es,ep,e,c⟩,r⟩:=x;exact⟨mA,⟨od,es,ep,k _ _ (.inl rfl) e,c⟩,r⟩
 |rng lo hi=>obtain⟨t,u,v,e⟩:=x;exact⟨t,u,v,k _ _ (.inl rfl) e⟩
 |frz ob u ih=>obtain⟨e,q⟩:=x;exact⟨k _ _ (.inl rfl) e,ih q⟩
 |tbl ps=>
  have e:h.get? a=some {cls:= .none,data:= .fields ps}:=x
  show h'.get? a=some {cls:= .none,data:= .fields ps}
  exact k a _ (.inl rfl) e
 |met f y=>
  have e:h.get? a=some (PySem.W.methodObj (.ref f) (.ref y)):=x
  show h'.get? a=some (PySem.W.methodObj (.ref f) (.ref y))
  exact k a _ (.inl rfl) e
 |ext φ=>obtain⟨p,⟨o,e⟩,st⟩:=x;exact⟨st _ _ p fun o q=>k _ _ (.inl rfl) q,⟨o,k _ _ (.inl rfl) e⟩,st⟩
theorem HOk.lt(x:HOk P w H h)(e:H a=some o):a<h.objs.size:=(x a o e).lt
theorem HOk.fresh(x:HOk P w H h)(e:h.objs.size<=a):H a=none:=by
 cases q:H a with
 |none=>rfl
 |some u=>exact absurd (As (x.lt q) e) (Nat.lt_irrefl _)
theorem HOk.kept(x:HOk P w H h)(k:∀b u,h.get? b=some u->h'.get? b=some u):HOk P w H h':=fun a o e=>
 (x a o e).stay (fun b u _ q=>k b u q) (fun _ q=>q) fun _ _ q=>q
theorem HOk.laid(x:HOk P w H h)(k:∀b u,h.get? b=some u->h'.get? b=some u)(hp:h.objs.size<=a)(new:O8 P w (upd H a o) h' a o):HOk P w (upd H a o) h':=fun b u e=>by
 have hn:=x.fresh hp
 by_cases hb:b=a
 ·subst hb;rw [y4] at e;cases e;exact new
 ·rw [o8 hb] at e
  exact(x b u e).stay (fun c v _ q=>k c v q) (fun c q=>by rw [o8 (p6 q hn)];exact q) fun c xs q=>by rw [o8 (p6 q hn)];exact q
end
def Rd(H:Hp)(a:AB)(u:HO):Prop:=H a=some u\/∃o,H a=some (.frz o u)
theorem Rd.of{H:Hp}{a:AB}{u:HO}(h:H a=some u):Rd H a u:= .inl h
theorem Rd.ok{P:AL}{w:AJ}{H:Hp}{h:Heap}{a:AB}{u:HO}(r:Rd H a u)(x:HOk P w H h):O8 P w H h a u:=by
 rcases r with r|⟨o,r⟩
 ·exact x a u r
 ·obtain⟨_,q⟩:=x a _ r
  exact q
def Mut:Option HO->Prop
 |some (.lst _)=>True
 |some (.dK _)=>True
 |some (.dT _)=>True
 |some (.set _ _)=>True
 |some (.ins _ _ _)=>True
 |some (.ext _)=>True
 |_=>False
section
variable {P:AL}{w:AJ}{H:Hp}{h h':Heap}{x e:AB}{o':HO}
theorem HOk.write(ok:HOk P w H h)(mu:Mut (H x))(he:e=x\/H e=some (.own x))(k:∀b u,b≠e->h.get? b=some u->h'.get? b=some u)(heo:∃u,h'.get? e=some u)
 (new:O8 P w (upd H x o') h' x o'):HOk P w (upd H x o') h':=fun b u q=>by
 have nown:∀c y,H c=some (.own y)->c≠x:=fun c y r z=>by subst z;rw [r] at mu;exact mu
 have ntup:∀c xs,H c=some (.tup xs)->c≠x:=fun c xs r z=>by subst z;rw [r] at mu;exact mu
 by_cases hb:b=x
 ·subst hb;rw [y4] at q;cases q;exact new
 ·rw [o8 hb] at q
  by_cases hbe:b=e
  ·have q':H b=some (.own x):=by
    rcases he with z|z
    ·exact absurd (hbe.trans z) hb
    ·rw [hbe];exact z
   rw [q] at q';cases q'
   obtain⟨v,hv⟩:=heo
   exact⟨v,by rw [hbe];exact hv⟩
  ·refine(ok b u q).stay (fun c v hc r=>k c v ?_ r) (fun c r=>by rw [o8 (nown c b r)];exact r) fun c xs r=>by rw [o8 (ntup c xs r)];exact r
   rcases hc with rfl|hc
   ·exact hbe
   ·rintro rfl
    rcases he with z|z
    ·exact nown c b hc z
    ·rw [hc] at z;cases z;exact hb rfl
end
structure Un(fs ex:List AB)(H H':Hp)(h h':Heap):Prop where
 keep:∀b o,h.get? b=some o->H b=none->b∉fs->b∉ex->h'.get? b=some o
 slot:∀b o,h.get? b=some o->H b=none->b∈fs->b∉ex->∃sl,h'.get? b=some {o with slots:=sl}
 free:∀b o,h.get? b=some o->H b=none->b∉ex->H' b=none
 there:∀b o,h.get? b=some o->b∉ex->∃o',h'.get? b=some o'
 tups:∀b xs,H b=some (.tup xs)->H' b=some (.tup xs)
 frzs:∀b o u,H b=some (.frz o u)->H' b=some (.frz o u)
 tbls:∀b ps,H b=some (.tbl ps)->∃more,H' b=some (.tbl (ps++more))
section
variable {fs fs' ex ex':List AB}{H H1 H2:Hp}{h h1 h2 h':Heap}{a x e:AB}{o:HO}
theorem Un.any(u:Un fs ex H H1 h h1){b:AB}{ob:Obj}(q:h.get? b=some ob)(n:H b=none)(hx:b∉ex):∃sl,h1.get? b=some {ob with slots:=sl}:=by
 by_cases hb:b∈fs
 ·exact u.slot b ob q n hb hx
 ·exact⟨ob.slots,u.keep b ob q n hb hx⟩
theorem Un.trans(a:Un fs ex H H1 h h1)(b:Un fs ex H1 H2 h1 h2):Un fs ex H H2 h h2 where
 keep:=fun c ob q n hc hx=>b.keep c ob (a.keep c ob q n hc hx) (a.free c ob q n hx) hc hx
 slot:=fun c ob q n hc hx=>by
  obtain⟨sl,e1⟩:=a.slot c ob q n hc hx
  obtain⟨sl',e2⟩:=b.slot c _ e1 (a.free c ob q n hx) hc hx
  exact⟨sl',e2⟩
 free:=fun c ob q n hx=>by
  obtain⟨o',e1⟩:=a.there c ob q hx
  exact b.free c o' e1 (a.free c ob q n hx) hx
 there:=fun c ob q hx=>by
  obtain⟨o',e1⟩:=a.there c ob q hx
  exact b.there c o' e1 hx
 tups:=fun c xs q=>b.tups c xs (a.tups c xs q)
 frzs:=fun c ob xs q=>b.frzs c ob xs (a.frzs c ob xs q)
 tbls:=fun c ps q=>by
  obtain⟨m1,e1⟩:=a.tbls c ps q
  obtain⟨m2,e2⟩:=b.tbls c _ e1
  exact⟨m1++m2,by rw [e2,Array.append_assoc]⟩
theorem Un.kept(k:∀b u,h.get? b=some u->h'.get? b=some u):Un fs ex H H h h':=
 ⟨fun b ob q _ _ _=>k b ob q,fun b ob q _ _ _=>⟨ob.slots,k b ob q⟩,fun _ _ _ n _=>n,fun b ob q _=>⟨ob,k b ob q⟩,fun _ _ q=>q,fun _ _ _ q=>q,fun _ ps q=>⟨#[],by rw [q];simp⟩⟩
theorem Un.refl:Un fs ex H H h h:=Un.kept fun _ _ q=>q
theorem Un.laid(k:∀b u,h.get? b=some u->h'.get? b=some u)(hp:h.objs.size<=a)(hn:H a=none):Un fs ex H (upd H a o) h h' where
 keep:=fun b u q _ _ _=>k b u q
 slot:=fun b u q _ _ _=>⟨u.slots,k b u q⟩
 free:=fun b u q n _=>by rw [o8 (Ao (As (Aa q) hp))];exact n
 there:=fun b u q _=>⟨u,k b u q⟩
 tups:=fun b xs q=>by rw [o8 (p6 q hn)];exact q
 frzs:=fun b u xs q=>by rw [o8 (p6 q hn)];exact q
 tbls:=fun b ps q=>⟨#[],by rw [o8 (p6 q hn),q];simp⟩
theorem Un.write(mu:Mut (H x))(he:e=x\/H e=some (.own x))(k:∀b u,b≠e->h.get? b=some u->h'.get? b=some u)(heo:∃u,h'.get? e=some u):Un fs ex H (upd H x o) h h':=by
 have hx:∀b,H b=none->b≠x:=fun b n z=>by subst z;rw [n] at mu;exact mu
 have hb:∀b,H b=none->b≠e:=fun b n z=>by
  subst z
  rcases he with r|r
  ·exact hx b n r
  ·rw [n] at r;cases r
 have hm:∀b u,H b=some u->¬Mut (some u)->b≠x:=fun b u q nm z=>by subst z;rw [q] at mu;exact nm mu
 refine⟨fun b u q n _ _=>k b u (hb b n) q,fun b u q n _ _=>⟨u.slots,k b u (hb b n) q⟩,fun b u q n _=>by rw [o8 (hx b n)];exact n,fun b u q _=> ?_,
  fun b xs q=>by rw [o8 (hm b _ q fun z=>z)];exact q,fun b u xs q=>by rw [o8 (hm b _ q fun z=>z)];exact q,fun b ps q=>⟨#[],by rw [o8 (hm b _ q fun z=>z),q];simp⟩⟩
 by_cases hbe:b=e
 ·subst hbe;exact heo
 ·exact⟨u,k b u hbe q⟩
theorem Un.mono(u:Un fs ex H H1 h h1)(hs:∀b∈fs,b∈fs')(hx:∀b∈ex,b∈ex'):Un fs' ex' H H1 h h1:=
 ⟨fun b ob q n hb he=>u.keep b ob q n (fun z=>hb (hs b z)) fun z=>he (hx b z),fun _ _ q n _ he=>u.any q n fun z=>he (hx _ z),fun b ob q n he=>u.free b ob q n fun z=>he (hx b z),fun b ob q he=>u.there b ob q fun z=>he (hx b z),u.tups,u.frzs,u.tbls⟩
end
def trk(h:Heap)(H:Hp):List AB:=(Al h.objs.size).filter fun a=>(H a).isSome
def a8r(h:Heap)(H:Hp):Heap:=PySem.W.hideAll h (trk h H)
theorem b2b(h:Heap)(H:Hp):(a8r h H).objs.size=h.objs.size:=PySem.W.hideAll_size _ _
theorem b3w{h:Heap}{H:Hp}{b:AB}{o:Obj}(e:h.get? b=some o)(n:H b=none):(a8r h H).get? b=some o:=
 PySem.W.hideAll_get _ e fun hm=>by
  have q:(H b).isSome=true:=(List.mem_filter.mp hm).2
  rw [n] at q;simp at q
theorem b5R{h:Heap}{H:Hp}{b:AB}{o:Obj}(e:(a8r h H).get? b=some o):h.get? b=some o/\H b=none:=by
 have e':h.get? b=some o:=PySem.W.of_hideAll (trk h H) e
 refine⟨e', ?_⟩
 cases q:H b with
 |none=>rfl
 |some x=>
  have hm:b∈trk h H:=List.mem_filter.mpr ⟨List.mem_range.mpr (Aa e'),by simp [q]⟩
  have z:(a8r h H).get? b=none:=PySem.W.hideAll_none (trk h H) hm
  rw [z] at e;cases e
def b4U(g h:Heap)(L:AB):List (AB×Obj):=(Al h.objs.size).filterMap fun a=>if a=L\/(g.get? a).isSome=true then none else(h.get? a).map fun o=>(a,o)
def A3(g h:Heap)(L d:AB):List (AB×Obj):=(b4U g h L).filter fun p=>decide (p.1≠d)
structure Mod(K:AD)(mg:Str->Option AA)(base:Heap):Prop where
 kin:K.In base
 glob:base.Ns mainGlobals mg
 blt:∃mb,base.Ns builtinsNs mb/\∀x:Str,x≠"__name__"->mb x=bootBuiltins x
 nolimit:base.NoLimit
structure Cx where
 prog:AL
 w:AJ
 K:AD
 mg:Str->Option AA
 base:Heap
 A:AK
 N:List Str
 s₀:AC
 H₀:Hp
 env:Env
 outer:List Env
 stack:List Env
 ex:List AB
 fn:Str->Bool
 calm:Bool
 pn:List (AB×Obj)
 xe:AA->AC->Prop
def frs(l:List Env):List AB:=l.filterMap (·.frame)
abbrev Cx.fs(X:Cx):List AB:=frs X.outer
def Vis(sc:Scope)(x:Str):Prop:=sc.names.lookup x=some .local\/sc.names.lookup x=some .cell\/sc.names.lookup x=some .free
def Loc(sc:Scope)(x:Str):Prop:=sc.names.lookup x=some .local\/sc.names.lookup x=some .cell
def b9l(env:Env)(h:Heap)(m:Str->Option AA)(x:Str)(u:AA):Prop:=
 (env.kindOf x=some .local/\m x=some u)\/((env.kindOf x=some .cell\/env.kindOf x=some .free)/\∃c,env.cells.lookup x=some c/\h.IsCell c (some u))
structure Cx.Ok(X:Cx):Prop where
 mod:Mod X.K X.mg X.base
 kind:X.env.scope.kind= .function
 glob:X.env.globals=mainGlobals
 blt:X.env.builtins=builtinsNs
 above:X.s₀.heap.objs.size<=X.env.locals
 inj:∀x y c,X.env.cells.lookup x=some c->X.env.cells.lookup y=some c->x=y
 has:∀x,(X.env.kindOf x=some .cell\/X.env.kindOf x=some .free)->∃c,X.env.cells.lookup x=some c
 cab:∀x c,X.fn x=true->X.env.cells.lookup x=some c->X.s₀.heap.objs.size<=c
 hd:X.calm=true->X.A.handled=none
 frames:X.A.frames=some X.stack
 stk:X.stack=X.outer\/(X.stack=X.env::X.outer/\X.env.frame=some X.env.locals)
 exf:∀b∈X.ex,b≠X.env.locals/\∀x c,X.env.cells.lookup x=some c->c≠b
 bs:∀b o,X.base.get? b=some o->X.s₀.heap.get? b=some o/\X.H₀ b=none
 bsz:X.base.objs.size<=X.s₀.heap.objs.size
 noex:∀b o,X.base.get? b=some o->b∉X.ex
 exfs:∀b∈X.ex,b∉X.fs
 funs:X.s₀.heap.FunFrames X.base X.outer
 frf:∀b∈X.fs,X.H₀ b=none
structure n4(X:Cx)(pins:List (AB×Obj))(σ:List (Option V))(H:Hp)(s:AC):Prop where
 ok:X.Ok
 os:s.os=X.s₀.os
 bare:AllBare s.gens
 base:Un X.fs X.ex X.H₀ H X.s₀.heap s.heap
 loc:∃m,s.heap.Ns X.env.locals m/\∀(i:Nat) (x:Str) (v:V),X.N[i]?=some x->σ[i]?=some (some v)->Vis X.env.scope x->∃u,z4 v u/\b9l X.env s.heap m x u
 cell:∀x c,X.env.cells.lookup x=some c->∃v,s.heap.IsCell c v
 free:H X.env.locals=none
 freeC:∀x c,X.env.cells.lookup x=some c->H c=none
 pin:∀p∈X.pn++pins,s.heap.get? p.1=some p.2/\H p.1=none/\p.1≠X.env.locals/\p.1∉X.fs/\∀v,p.2.data≠.cell v
 hok:HOk X.prog X.w H s.heap
 len:σ.length=X.N.length
section
variable {X:Cx}{pins:List (AB×Obj)}{σ:List (Option V)}{H H':Hp}{s:AC}{h':Heap}
theorem Cx.Ok.nofr(ok:X.Ok){b:AB}{o:Obj}(e:X.base.get? b=some o):b∉X.fs:=fun hb=>by
 have:=(ok.funs.mem hb).1
 rw [e] at this;cases this
theorem n4.bs(I:n4 X pins σ H s):∀b o,X.base.get? b=some o->s.heap.get? b=some o/\H b=none:=fun b o e=>
 ⟨I.base.keep b o (I.ok.bs b o e).1 (I.ok.bs b o e).2 (I.ok.nofr e) (I.ok.noex b o e),I.base.free b o (I.ok.bs b o e).1 (I.ok.bs b o e).2 (I.ok.noex b o e)⟩
theorem n4.bk(I:n4 X pins σ H s):∀b o,X.base.get? b=some o->s.heap.get? b=some o:=fun b o e=>(I.bs b o e).1
theorem n4.mod(I:n4 X pins σ H s):Mod X.K X.mg X.base:=I.ok.mod
theorem n4.kIn(I:n4 X pins σ H s):X.K.In s.heap:=I.ok.mod.kin.keeps I.bk
theorem n4.nolimit(I:n4 X pins σ H s):s.heap.NoLimit:=I.ok.mod.nolimit.keeps I.bk
theorem n4.fr(I:n4 X pins σ H s):∃m,Fr X.base X.env.locals s.heap m:=
 let ⟨m,hn,_⟩:=I.loc
 ⟨m,hn,I.bk,Nat.le_trans I.ok.bsz I.ok.above⟩
theorem n4.lt(I:n4 X pins σ H s):X.env.locals<s.heap.objs.size:=let ⟨_,hn,_⟩:=I.loc;hn.lt
theorem n4.sz(I:n4 X pins σ H s):X.s₀.heap.objs.size<=s.heap.objs.size:=Nat.le_trans I.ok.above (BB I.lt)
theorem n4.nofs(I:n4 X pins σ H s){a:AB}(h:s.heap.objs.size<=a):a∉X.fs:=fun hb=>by
 obtain⟨_,o,ho,_⟩:=I.ok.funs.mem hb
 exact absurd (As (Aa ho) (Nat.le_trans I.sz h)) (Nat.lt_irrefl _)
theorem n4.cne(I:n4 X pins σ H s):∀x c,X.env.cells.lookup x=some c->c≠X.env.locals:=fun x c e z=>by
 obtain⟨v,o,ho,hd⟩:=I.cell x c e
 obtain⟨m,⟨o',es,ep,ho',hd',_⟩,_⟩:=I.loc
 rw [z,ho'] at ho;cases ho;rw [hd'] at hd;cases hd
theorem n4.funs(I:n4 X pins σ H s):s.heap.FunFrames X.base X.outer:=by
 have all:∀(l:List Env),(∀b∈frs l,b∈X.fs)->X.s₀.heap.FunFrames X.base l->s.heap.FunFrames X.base l:=by
  intro l
  induction l with
  |nil=>intro _ _;trivial
  |cons env r ih=>
   intro hs hl
   obtain⟨hk,⟨L,o,hf,hn,ho,hd⟩,hr⟩:=hl
   have hL:L∈X.fs:=hs L (by unfold frs;rw [List.filterMap_cons,hf];exact Ai)
   obtain⟨sl,e⟩:=I.base.slot L o ho (I.ok.frf L hL) hL fun z=>I.ok.exfs L z hL
   exact⟨hk,⟨L,_,hf,hn,e,hd⟩,ih (fun b hb=>hs b (by unfold frs;rw [List.filterMap_cons,hf];exact Aj _ hb)) hr⟩
 exact all X.outer (fun _ hb=>hb) I.ok.funs
theorem n4.stack(I:n4 X pins σ H s):s.heap.FunFrames X.base X.stack:=by
 rcases I.ok.stk with e|⟨e,hf⟩
 ·rw [e];exact I.funs
 ·rw [e]
  obtain⟨m,hn,_⟩:=I.loc
  refine .cons (by rw [I.ok.kind];decide) hf hn ?_ I.funs
  exact Heap.get?_none_of_le (Nat.le_trans I.ok.bsz I.ok.above)
theorem n4.stkSub(I:n4 X pins σ H s):∀b∈frs X.stack,b∈X.env.locals::X.fs:=fun b hb=>by
 rcases I.ok.stk with e|⟨e,hf⟩
 ·rw [e] at hb;exact Aj _ hb
 ·rw [e] at hb
  unfold frs at hb
  rw [List.filterMap_cons,hf] at hb
  exact hb
theorem n4.stkFree(I:n4 X pins σ H s):∀b∈frs X.stack,H b=none:=fun b hb=>by
 rcases Ak.mp (I.stkSub b hb) with e|hb
 ·rw [e];exact I.free
 ·obtain⟨_,o,ho,_⟩:=I.ok.funs.mem hb
  exact I.base.free b o ho (I.ok.frf b hb) fun z=>I.ok.exfs b z hb
theorem n4.step{g':Array GenState}{t':Nat}{d':Drawn}{ch:List AB}(I:n4 X pins σ H s)
 (hch:∀b∈ch,(b∈X.ex\/X.s₀.heap.objs.size<=b)/\b≠X.env.locals/\(∀x c,X.env.cells.lookup x=some c->c≠b)/\∀p∈X.pn++pins,p.1≠b)
 (keep:∀b o,b≠X.env.locals->b∉X.fs->b∉ch->s.heap.get? b=some o->H b=none->h'.get? b=some o)
 (slot:∀b o,b≠X.env.locals->b∈X.fs->b∉ch->s.heap.get? b=some o->H b=none->∃sl,h'.get? b=some {o with slots:=sl}) (free:∀b o,b∉ch->s.heap.get? b=some o->H b=none->H' b=none)
 (there:∀b o,b∉ch->s.heap.get? b=some o->∃o',h'.get? b=some o')
 (tups:∀b xs,H b=some (.tup xs)->H' b=some (.tup xs)) (frzs:∀b o u,H b=some (.frz o u)->H' b=some (.frz o u)) (tbls:∀b ps,H b=some (.tbl ps)->∃more,H' b=some (.tbl (ps++more)))
 (ns:∀m,s.heap.Ns X.env.locals m->h'.Ns X.env.locals m) (hok:HOk X.prog X.w H' h') (hg:AllBare g'):
 n4 X pins σ H' {s with heap:=h',gens:=g',drawn:=d',toks:=t'}:=by
 have neL:∀b o,X.s₀.heap.get? b=some o->b≠X.env.locals:=fun b o e=>Ao (As (Aa e) I.ok.above)
 have neC:∀b o,X.s₀.heap.get? b=some o->b∉X.ex->b∉ch:=fun b o e hx hb=>by
  rcases(hch b hb).1 with z|z
  ·exact hx z
  ·exact absurd (As (Aa e) z) (Nat.lt_irrefl _)
 have cellK:∀x c,X.env.cells.lookup x=some c->∀v,s.heap.IsCell c v->h'.IsCell c v:=fun x c e v ⟨o,ho,hd⟩=>by
  have nch:c∉ch:=fun z=>(hch c z).2.2.1 x c e rfl
  by_cases hc:c∈X.fs
  ·obtain⟨sl,q⟩:=slot c o (I.cne x c e) hc nch ho (I.freeC x c e)
   exact⟨_,q,hd⟩
  ·exact⟨o,keep c o (I.cne x c e) hc nch ho (I.freeC x c e),hd⟩
 refine⟨I.ok,I.os,hg,⟨fun b o e n hb hx=> ?_,fun b o e n hb hx=> ?_,fun b o e n hx=> ?_,fun b o e hx=> ?_,fun b xs e=>tups b xs (I.base.tups b xs e),fun b o xs e=>frzs b o xs (I.base.frzs b o xs e),fun b ps e=> ?_⟩, ?_,fun x c e=> ?_, ?_,fun x c e=> ?_,fun p hp=> ?_,hok,I.len⟩
 ·exact keep b o (neL b o e) hb (neC b o e hx) (I.base.keep b o e n hb hx) (I.base.free b o e n hx)
 ·obtain⟨sl,e1⟩:=I.base.slot b o e n hb hx
  obtain⟨sl',e2⟩:=slot b _ (neL b o e) hb (neC b o e hx) e1 (I.base.free b o e n hx)
  exact⟨sl',e2⟩
 ·obtain⟨o',e1⟩:=I.base.there b o e hx
  exact free b o' (neC b o e hx) e1 (I.base.free b o e n hx)
 ·obtain⟨o',e1⟩:=I.base.there b o e hx
  exact there b o' (neC b o e hx) e1
 ·obtain⟨m1,e1⟩:=I.base.tbls b ps e
  obtain⟨m2,e2⟩:=tbls b _ e1
  exact⟨m1++m2,by rw [e2,Array.append_assoc]⟩
 ·obtain⟨m,hn,hl⟩:=I.loc
  refine⟨m,ns m hn,fun i x v e1 e2 e3=> ?_⟩
  obtain⟨u,r,l⟩:=hl i x v e1 e2 e3
  refine⟨u,r, ?_⟩
  rcases l with l|⟨k,c,e,z⟩
  ·exact .inl l
  ·exact .inr ⟨k,c,e,cellK x c e _ z⟩
 ·obtain⟨v,z⟩:=I.cell x c e
  exact⟨v,cellK x c e v z⟩
 ·obtain⟨m,⟨o,_,_,ho,_⟩,_⟩:=I.loc
  exact free _ o (fun z=>(hch _ z).2.1 rfl) ho I.free
 ·obtain⟨v,o,ho,hd⟩:=I.cell x c e
  exact free c o (fun z=>(hch c z).2.2.1 x c e rfl) ho (I.freeC x c e)
 ·obtain⟨e,n,ne,nf,d⟩:=I.pin p hp
  have nch:p.1∉ch:=fun z=>(hch p.1 z).2.2.2 p hp rfl
  exact⟨keep p.1 p.2 ne nf nch e n,free p.1 p.2 nch e n,ne,nf,d⟩
theorem n4.un{t':Nat}(I:n4 X pins σ H s)(u:Un X.fs [] H H' s.heap h')(hok:HOk X.prog X.w H' h'):n4 X pins σ H' {s with heap:=h',toks:=t'}:=by
 obtain⟨m,⟨o,es,ep,ho,r⟩,_⟩:=id I.loc
 obtain⟨sl,hL⟩:=u.any ho I.free (by simp)
 exact I.step (g':=s.gens) (d':=s.drawn) (ch:=[]) (fun _ z=>nomatch z) (fun b o _ hb _ e n=>u.keep b o e n hb (by simp)) (fun b o _ hb _ e n=>u.slot b o e n hb (by simp)) (fun b o _ e n=>u.free b o e n (by simp)) (fun b o _ e=>u.there b o e (by simp)) u.tups u.frzs u.tbls (fun m' hm=>by
  obtain⟨o',es',ep',ho',r'⟩:=hm
  rw [ho] at ho';cases ho'
  exact⟨_,es',ep',hL,r'⟩) hok I.bare
theorem n4.call{g':Array GenState}{t':Nat}{d':Drawn}{ch:List AB}(I:n4 X pins σ H s)(u:Un (frs X.stack) ch H H' s.heap h')(hok:HOk X.prog X.w H' h')(hg:AllBare g')
 (hch:∀b∈ch,(b∈X.ex\/X.s₀.heap.objs.size<=b)/\b≠X.env.locals/\(∀x c,X.env.cells.lookup x=some c->c≠b)/\∀p∈X.pn++pins,p.1≠b):
 n4 X pins σ H' {s with heap:=h',gens:=g',drawn:=d',toks:=t'}:=by
 obtain⟨m,⟨o,es,ep,ho,r⟩,_⟩:=id I.loc
 obtain⟨sl,hL⟩:=u.any ho I.free fun z=>(hch _ z).2.1 rfl
 exact I.step (ch:=ch) hch (fun b o hL hb hc e n=>u.keep b o e n (fun z=>(Ak.mp (I.stkSub b z)).elim hL hb) hc) (fun b o _ _ hc e n=>u.any e n hc) (fun b o hc e n=>u.free b o e n hc) (fun b o hc e=>u.there b o e hc) u.tups u.frzs u.tbls (fun m' hm=>by
  obtain⟨o',es',ep',ho',r'⟩:=hm
  rw [ho] at ho';cases ho'
  exact⟨_,es',ep',hL,r'⟩) hok hg
theorem n4.turned{t':Nat}{it:AB}(I:n4 X pins σ H s)(k:∀b o,b≠it->s.heap.get? b=some o->h'.get? b=some o)(hn:H it=none)(hL:it≠X.env.locals)
 (h1:it∈X.ex\/X.s₀.heap.objs.size<=it) (h2:∀x c,X.env.cells.lookup x=some c->c≠it) (h3:∀p∈X.pn++pins,p.1≠it):n4 X pins σ H {s with heap:=h',toks:=t'}:=by
 have nit:∀b u,H b=some u->b≠it:=fun b u e z=>by rw [z,hn] at e;cases e
 refine I.step (g':=s.gens) (d':=s.drawn) (ch:=[it]) (fun b hb=> ?_) (fun b o _ _ hc e _=>k b o (fun z=>hc (by simp [z])) e) (fun b o _ _ hc e _=>⟨o.slots,k b o (fun z=>hc (by simp [z])) e⟩) (fun _ _ _ _ n=>n)
  (fun b o hc e=>⟨o,k b o (fun z=>hc (by simp [z])) e⟩) (fun _ _ e=>e) (fun _ _ _ e=>e) (fun b ps e=>⟨#[],by rw [e];simp⟩) (fun m hm=> ?_) (fun b u e=> ?_) I.bare
 ·have e:b=it:=by simpa using hb
  subst e
  exact⟨h1,hL,h2,h3⟩
 ·obtain⟨o,es,ep,ho,r⟩:=hm
  exact⟨o,es,ep,k _ o (Ne.symm hL) ho,r⟩
 ·refine(I.hok b u e).stay (fun c v hc q=>k c v ?_ q) (fun _ q=>q) fun _ _ q=>q
  rcases hc with z|z
  ·rw [z];exact nit b u e
  ·exact nit c _ z
theorem n4.tok(I:n4 X pins σ H s)(t:Nat):n4 X pins σ H {s with toks:=t}:=I.un (h':=s.heap) (t':=t) Un.refl I.hok
theorem n4.kept{t':Nat}(I:n4 X pins σ H s)(k:∀b u,s.heap.get? b=some u->h'.get? b=some u):n4 X pins σ H {s with heap:=h',toks:=t'}:=I.un (Un.kept k) (I.hok.kept k)
theorem n4.laid{a:AB}{o:HO}{t':Nat}(I:n4 X pins σ H s)(k:∀b u,s.heap.get? b=some u->h'.get? b=some u)(hp:s.heap.objs.size<=a)(new:O8 X.prog X.w (upd H a o) h' a o):
 n4 X pins σ (upd H a o) {s with heap:=h',toks:=t'}:=I.un (Un.laid k hp (I.hok.fresh hp)) (I.hok.laid k hp new)
theorem n4.write{x e:AB}{o:HO}{t':Nat}(I:n4 X pins σ H s)(mu:Mut (H x))(he:e=x\/H e=some (.own x))(k:∀b u,b≠e->s.heap.get? b=some u->h'.get? b=some u)(heo:∃u,h'.get? e=some u)
 (new:O8 X.prog X.w (upd H x o) h' x o):n4 X pins σ (upd H x o) {s with heap:=h',toks:=t'}:=I.un (Un.write mu he k heo) (I.hok.write mu he k heo new)
theorem n4.weak{σ':List (Option V)}(I:n4 X pins σ H s)(hl:σ'.length=σ.length)(w:∀(i:Nat) v,σ'[i]?=some (some v)->σ[i]?=some (some v)):n4 X pins σ' H s:=
 ⟨I.ok,I.os,I.bare,I.base,let ⟨m,hn,hl'⟩:=I.loc;⟨m,hn,fun i x v e1 e2 e3=>hl' i x v e1 (w i v e2) e3⟩,I.cell,I.free,I.freeC,I.pin,I.hok,hl.trans I.len⟩
theorem n4.pins_of{pins':List (AB×Obj)}(I:n4 X pins σ H s)(h:∀p∈pins',s.heap.get? p.1=some p.2/\H p.1=none/\p.1≠X.env.locals/\p.1∉X.fs/\∀v,p.2.data≠.cell v):n4 X pins' σ H s:=
 ⟨I.ok,I.os,I.bare,I.base,I.loc,I.cell,I.free,I.freeC,fun p hp=>(Au.mp hp).elim (fun z=>I.pin p (BD _ z)) (h p),I.hok,I.len⟩
theorem a9G{N:List Str}(hN:N.Nodup){i j:Nat}{x:Str}(a:N[i]?=some x)(b:N[j]?=some x):i=j:=by
 obtain⟨h1,e1⟩:=Aw.mp a
 obtain⟨h2,e2⟩:=Aw.mp b
 exact(List.getElem_inj hN).mp (e1.trans e2.symm)
theorem b2O{M:Model}{A:AK}{E:AA->AC->Prop}{i:Nat}{x:Str}{v:V}{u:AA}{Q:Unit->AC->Prop}(I:n4 X pins σ H s)(hN:X.N.Nodup)(hi:X.N[i]?=some x)(hx:Loc X.env.scope x)(r:z4 v u)
 (h:∀s',n4 X pins (σ.set i (some v)) H s'->(∃a,Heap.SameBut a s.heap s'.heap/\(a=X.env.locals\/X.env.cells.lookup x=some a))->Q () s') (hf:X.fn x=true\/X.env.scope.names.lookup x=some .local:=by first|exact .inl rfl|exact .inr rfl|assumption):AI M A (storeName X.env x u) Q E s:=by
 obtain⟨m,hn,hl⟩:=id I.loc
 have hcls:(X.env.scope.kind== .class||(X.env.scope.kind== .module && X.env.locals !=X.env.globals))=false:=by rw [I.ok.kind];rfl
 have hiσ:i<σ.length:=by rw [I.len];exact(Aw.mp hi).1
 have cne:=I.cne
 have tracked:∀{a:AB} {h':Heap},(∃o,s.heap.get? a=some o/\H a=none)->Heap.SameBut a s.heap h'->HOk X.prog X.w H h':=fun {a h'} ha hs b ob e=>by
  obtain⟨_,_,hfree⟩:=ha
  refine(I.hok b ob e).stay (fun c w' hc q=>(hs.2 c ?_).trans q) (fun _ q=>q) fun _ _ q=>q
  rintro rfl
  rcases hc with rfl|hc
  ·rw [hfree] at e;cases e
  ·rw [hfree] at hc;cases hc
 rcases hx with hk|hk
 ·refine wpAny_storeName_local hk hn (fun h' hn' hs=> ?_) hcls
  obtain⟨oL,_,_,hoL,_⟩:=id hn
  refine h _ ⟨I.ok,I.os,I.bare,⟨fun b o e n hb hx=> ?_,fun b o e n hb hx=> ?_,I.base.free,fun b o e hx=> ?_,I.base.tups,I.base.frzs,I.base.tbls⟩,⟨_,hn',fun j y v' e1 e2 e3=> ?_⟩,fun y c e=> ?_,I.free,I.freeC,fun p hp=> ?_,tracked ⟨oL,hoL,I.free⟩ hs,by simpa using I.len⟩ ⟨_,hs,.inl rfl⟩
  ·exact(hs.2 b (Ao (As (Aa e) I.ok.above))).trans (I.base.keep b o e n hb hx)
  ·obtain⟨sl,e1⟩:=I.base.slot b o e n hb hx
   exact⟨sl,(hs.2 b (Ao (As (Aa e) I.ok.above))).trans e1⟩
  ·obtain⟨o',e1⟩:=I.base.there b o e hx
   exact⟨o',(hs.2 b (Ao (As (Aa e) I.ok.above))).trans e1⟩
  ·by_cases hj:j=i
   ·subst hj
    rw [hi] at e1;cases e1
    rw [List.getElem?_set_self hiσ] at e2
    cases e2
    exact⟨u,r,.inl ⟨hk,by simp⟩⟩
   ·rw [List.getElem?_set_ne (Ne.symm hj)] at e2
    obtain⟨u',r',q⟩:=hl j y v' e1 e2 e3
    refine⟨u',r', ?_⟩
    rcases q with⟨k,e⟩|⟨k,c,e,z⟩
    ·refine .inl ⟨k, ?_⟩
     have:y≠x:=fun e=>hj (a9G hN e1 (e▸hi))
     simp [this,e]
    ·exact .inr ⟨k,c,e,z.sameBut hs (cne y c e)⟩
  ·obtain⟨w',z⟩:=I.cell y c e
   exact⟨w',z.sameBut hs (cne y c e)⟩
  ·obtain⟨e,n,ne,nf,d⟩:=I.pin p hp
   exact⟨(hs.2 p.1 ne).trans e,n,ne,nf,d⟩
 ·have hfn:X.fn x=true:=by
   rcases hf with z|z
   ·exact z
   ·rw [z] at hk;cases hk
  obtain⟨c,hc⟩:=I.ok.has x (.inl hk)
  obtain⟨w',z⟩:=I.cell x c hc
  refine wpAny_storeName_cell I.ok.kind hk hc z (fun h' hc' hs=> ?_)
  obtain⟨oc,hoc,hocd⟩:=id z
  refine h {s with heap:=h'} ⟨I.ok,I.os,I.bare,⟨fun b o e n hb hx=> ?_,fun b o e n hb hx=> ?_,I.base.free,fun b o e hx=> ?_,I.base.tups,I.base.frzs,I.base.tbls⟩,⟨m,hn.sameBut hs (Ne.symm (cne x c hc)),fun j y v' e1 e2 e3=> ?_⟩,fun y c' e=> ?_,I.free,I.freeC,fun p hp=> ?_,tracked ⟨oc,hoc,I.freeC x c hc⟩ hs,by simpa using I.len⟩ ⟨c,hs,.inr hc⟩
  ·exact(hs.2 b (Ao (As (Aa e) (I.ok.cab x c hfn hc)))).trans (I.base.keep b o e n hb hx)
  ·obtain⟨sl,e1⟩:=I.base.slot b o e n hb hx
   exact⟨sl,(hs.2 b (Ao (As (Aa e) (I.ok.cab x c hfn hc)))).trans e1⟩
  ·obtain⟨o',e1⟩:=I.base.there b o e hx
   exact⟨o',(hs.2 b (Ao (As (Aa e) (I.ok.cab x c hfn hc)))).trans e1⟩
  ·by_cases hj:j=i
   ·subst hj
    rw [hi] at e1;cases e1
    rw [List.getElem?_set_self hiσ] at e2
    cases e2
    exact⟨u,r,.inr ⟨.inl hk,c,hc,hc'⟩⟩
   ·rw [List.getElem?_set_ne (Ne.symm hj)] at e2
    obtain⟨u',r',q⟩:=hl j y v' e1 e2 e3
    refine⟨u',r', ?_⟩
    rcases q with q|⟨k,c',e,z'⟩
    ·exact .inl q
    ·refine .inr ⟨k,c',e,z'.sameBut hs ?_⟩
     rintro rfl
     exact hj (a9G hN e1 (I.ok.inj _ _ _ e hc▸hi))
  ·by_cases hcc:c'=c
   ·subst hcc;exact⟨_,hc'⟩
   ·obtain⟨w2,z2⟩:=I.cell y c' e
    exact⟨w2,z2.sameBut hs hcc⟩
  ·obtain⟨e,n,ne,nf,d⟩:=I.pin p hp
   refine⟨(hs.2 p.1 ?_).trans e,n,ne,nf,d⟩
   intro q
   rw [q,hoc] at e
   have q':oc=p.2:=Option.some.inj e
   exact d w' (by rw [<-q'];exact hocd)
theorem a6I{M:Model}{A:AK}{E:AA->AC->Prop}{i:Nat}{x:Str}{v:V}{u:AA}{Q:Unit->AC->Prop}(I:n4 X pins σ H s)(hN:X.N.Nodup)(hi:X.N[i]?=some x)(hx:Loc X.env.scope x)(r:z4 v u)
 (h:∀s',n4 X pins (σ.set i (some v)) H s'->Q () s') (hf:X.fn x=true\/X.env.scope.names.lookup x=some .local:=by first|exact .inl rfl|exact .inr rfl|assumption):AI M A (storeName X.env x u) Q E s:=
 b2O I hN hi hx r (fun s' I' _=>h s' I') hf
theorem n4.call'{s':AC}{ch:List AB}(I:n4 X pins σ H s)(ho:s'.os=s.os)(u:Un (frs X.stack) ch H H' s.heap s'.heap)(hok:HOk X.prog X.w H' s'.heap)(hg:AllBare s'.gens)
 (hch:∀b∈ch,(b∈X.ex\/X.s₀.heap.objs.size<=b)/\b≠X.env.locals/\(∀x c,X.env.cells.lookup x=some c->c≠b)/\∀p∈X.pn++pins,p.1≠b):n4 X pins σ H' s':=by
 obtain⟨h',g',d',t',o'⟩:=s'
 have e:o'=s.os:=ho
 subst e
 exact I.call (g':=g') (t':=t') (d':=d') u hok hg hch
end
abbrev XK:=AA->Option AB->Hp->Prop
abbrev St:=List (Option V)
abbrev VK:=V->Hp->Prop
abbrev TE:=St->Hp->VK->Prop
abbrev TT:=St->Hp->(Bool->Hp->Prop)->Prop
abbrev TA:=St->Hp->(List V->Hp->Prop)->Prop
structure W2 where
 nx:St->Hp->Prop
 rt:VK
 bk:St->Hp->Prop:=fun _ _=>False
 ct:St->Hp->Prop:=fun _ _=>False
abbrev TS:=W2->St->Hp->Prop
def EP(X:Cx)(pins:List (AB×Obj))(σ:St)(Q:VK)(u:AA)(s':AC):Prop:=∃v H',n4 X pins σ H' s'/\z4 v u/\Q v H'
def TP(X:Cx)(pins:List (AB×Obj))(σ:St)(Q:Bool->Hp->Prop)(b:Bool)(s':AC):Prop:=∃H',n4 X pins σ H' s'/\Q b H'
def AP(X:Cx)(pins:List (AB×Obj))(σ:St)(Q:List V->Hp->Prop)(us:List AA)(s':AC):Prop:=∃vs H',n4 X pins σ H' s'/\u3 vs us/\Q vs H'
def SP(X:Cx)(pins:List (AB×Obj))(D:W2)(f:Flow)(s':AC):Prop:=
 match f with
 | .next=>∃σ' H',n4 X pins σ' H' s'/\D.nx σ' H'
 | .brk=>∃σ' H',n4 X pins σ' H' s'/\D.bk σ' H'
 | .cont=>∃σ' H',n4 X pins σ' H' s'/\D.ct σ' H'
 | .ret u=>∃v σ' H',n4 X pins σ' H' s'/\z4 v u/\D.rt v H'
def PE(X:Cx)(e:AG)(t:TE):Prop:=
 ∀(pins:List (AB×Obj)) (s:AC) (σ:St) (H:Hp) (Q:VK),n4 X pins σ H s->t σ H Q->AI (model X.prog X.w) X.A (eval e X.env) (EP X pins σ Q) X.xe s
def PT(X:Cx)(e:AG)(t:TT):Prop:=
 ∀(pins:List (AB×Obj)) (s:AC) (σ:St) (H:Hp) (Q:Bool->Hp->Prop),n4 X pins σ H s->t σ H Q->AI (model X.prog X.w) X.A (isTrue e X.env (eval e X.env)) (TP X pins σ Q) X.xe s
def PW(X:Cx)(e:AG)(t:TT):Prop:=
 ∀(whole:Sem AA) (pins:List (AB×Obj)) (s:AC) (σ:St) (H:Hp) (Q:Bool->Hp->Prop),n4 X pins σ H s->t σ H Q->AI (model X.prog X.w) X.A (isTrue e X.env whole) (TP X pins σ Q) X.xe s
theorem PW.pt{X:Cx}{e:AG}{t:TT}(h:PW X e t):PT X e t:=h _
def PA(X:Cx)(es:List AG)(t:TA):Prop:=
 ∀(pos:Pos) (pins:List (AB×Obj)) (s:AC) (σ:St) (H:Hp) (Q:List V->Hp->Prop),n4 X pins σ H s->t σ H Q->AI (model X.prog X.w) X.A (spliced (backTo pos (AN es X.env))) (AP X pins σ Q) X.xe s
def PS(X:Cx)(st:Stmt)(t:TS):Prop:=
 ∀(pins:List (AB×Obj)) (s:AC) (σ:St) (H:Hp) (D:W2),n4 X pins σ H s->t D σ H->AI (model X.prog X.w) X.A (exec st X.env) (SP X pins D) X.xe s
def PSs(X:Cx)(st:List Stmt)(t:TS):Prop:=
 ∀(pins:List (AB×Obj)) (s:AC) (σ:St) (H:Hp) (D:W2),n4 X pins σ H s->t D σ H->AI (model X.prog X.w) X.A (execs st X.env) (SP X pins D) X.xe s
theorem M3{α:Type}{t:Sem α}{Q Q':α->AC->Prop}{M:Model}{A:AK}{E:AA->AC->Prop}{s:AC}(h:AI M A t Q E s)(hQ:∀a s,Q a s->Q' a s):AI M A t Q' E s:=wpAny_mono h hQ fun _ _ x=>x
section
variable {X:Cx}
def b02(i:Nat):TE:=fun σ H Q=>∃v,σ[i]?=some (some v)/\Q v H
def tC(v:V):TE:=fun _ H Q=>Q v H
theorem b7Z{i:Nat}{x:Str}{pos:Pos}(hN:X.N[i]?=some x)(hv:Vis X.env.scope x)(hd:(x==("__debug__":Str))=false:=by decide)(hcd:(x==("__classdict__":Str))=false:=by decide):PE X (.Name x pos) (b02 i):=by
 intro pins s σ H Q I h
 obtain⟨v,e,h⟩:=h
 obtain⟨m,hn,hl⟩:=I.loc
 obtain⟨u,r,l⟩:=hl i x v hN e hv
 have fin:EP X pins σ Q u s:=⟨v,H,I,r,h⟩
 rcases l with⟨hk,hm⟩|⟨hk,c,hc,hcell⟩
 ·exact wpAny_Name (wpAny_loadName_local I.ok.kind hk hn hm fin) hd
 ·rcases hk with hk|hk
  ·exact wpAny_Name (wpAny_loadName_cell I.ok.kind hk hc hcell fin) hd
  ·exact wpAny_Name (wpAny_loadName_free I.ok.kind hk hc hcell fin hcd) hd
theorem b4a{i j pos}:PE X (.Constant (.int i) j pos) (tC (.int i)):=fun _ _ _ H _ I h=>wpAny_Constant_int ⟨.int i,H,I.tok _,⟨_,rfl⟩,h⟩
theorem b8X{b j pos}:PE X (.Constant (.bool b) j pos) (tC (.bl b)):=fun _ _ _ H _ I h=>Constant_bool ⟨.bl b,H,I,rfl,h⟩
theorem b7V{j pos}:PE X (.Constant .none j pos) (tC .non):=fun _ _ _ H _ I h=>Constant_none ⟨.non,H,I,rfl,h⟩
theorem b7X{x j pos}:PE X (.Constant (.str x) j pos) (tC (.str x)):=fun _ _ _ H _ I h=>Calls.Constant_str ⟨.str x,H,I.tok _,⟨_,rfl⟩,h⟩
def Gl(X:Cx)(x:Str):Prop:=X.env.kindOf x=some .globalImplicit
theorem a1m{E:AA->AC->Prop}{pins:List (AB×Obj)}{s:AC}{σ:St}{H:Hp}{x:Str}{u:AA}{pos:Pos}{Q:AA->AC->Prop}(I:n4 X pins σ H s)(hg:Gl X x)(hm:X.mg x=some u)(h:Q u s)
 (hd:(x==("__debug__":Str))=false:=by decide):AI (model X.prog X.w) X.A (eval (.Name x pos) X.env) Q E s:=
 Calls.Name_function_global I.ok.kind hg (Calls.loadGlobal_global (by rw [I.ok.glob];exact I.mod.glob.keeps I.bk) hm h) hd
theorem a5V{E:AA->AC->Prop}{pins:List (AB×Obj)}{s:AC}{σ:St}{H:Hp}{x:Str}{u:AA}{pos:Pos}{Q:AA->AC->Prop}(I:n4 X pins σ H s)(hg:Gl X x)(hm:X.mg x=none)(hv:bootBuiltins x=some u)(h:Q u s)
 (hn:x≠"__name__":=by decide) (hd:(x==("__debug__":Str))=false:=by decide):AI (model X.prog X.w) X.A (eval (.Name x pos) X.env) Q E s:=by
 obtain⟨mb,h1,h2⟩:=I.mod.blt
 exact Calls.Name_function_global I.ok.kind hg (Calls.loadGlobal_builtin (by rw [I.ok.glob];exact I.mod.glob.keeps I.bk) hm (by rw [I.ok.blt];exact h1.keeps I.bk) ((h2 x hn).trans hv) h) hd
theorem b55{x:Str}{v:V}{u:AA}{pos:Pos}(hg:Gl X x)(hm:X.mg x=some u)(r:z4 v u)(hd:(x==("__debug__":Str))=false:=by decide):PE X (.Name x pos) (tC v):=
 fun _ _ _ H _ I h=>a1m I hg hm ⟨v,H,I,r,h⟩ hd
theorem a5m{x:Str}{v:V}{u:AA}{pos:Pos}(hg:Gl X x)(hm:X.mg x=none)(hv:bootBuiltins x=some u)(r:z4 v u)(hn:x≠"__name__":=by decide)(hd:(x==("__debug__":Str))=false:=by decide):PE X (.Name x pos) (tC v):=
 fun _ _ _ H _ I h=>a5V I hg hm hv ⟨v,H,I,r,h⟩ hn hd
variable {a b:AG}{ta tb:TE}{pos:Pos}
variable {tA tB':TT}{A3:List AG}
def b9E(t u:TT):TT:=fun σ H Q=>t σ H fun c H1=>if c=true then u σ H1 Q else Q false H1
def tOr(t u:TT):TT:=fun σ H Q=>t σ H fun c H1=>if c=true then Q true H1 else u σ H1 Q
def b9L(t:TT):TT:=fun σ H Q=>t σ H fun c H1=>Q (!c) H1
theorem b6c(ha:PT X a tA):PW X (.BoolOp .And [a] pos) tA:=by
 intro wh pins s σ H Q I h
 refine isTrue_and (M3 (ha pins s σ H Q I h) fun c s1 e=> ?_)
 cases c with
 |true=>exact isTrue_and_nil e
 |false=>exact e
theorem b76(ha:PT X a tA):PW X (.BoolOp .Or [a] pos) tA:=by
 intro wh pins s σ H Q I h
 refine isTrue_or (M3 (ha pins s σ H Q I h) fun c s1 e=> ?_)
 cases c with
 |false=>exact isTrue_or_nil e
 |true=>exact e
theorem b75(ha:PT X a tA)(hb:PW X (.BoolOp .And (b::A3) pos) tB'):PW X (.BoolOp .And (a::b::A3) pos) (b9E tA tB'):=by
 intro wh pins s σ H Q I h
 refine isTrue_and (M3 (ha pins s σ H _ I h) fun c s1 ⟨H1,I1,q1⟩=> ?_)
 cases c with
 |true=>exact hb wh pins s1 σ H1 Q I1 q1
 |false=>exact⟨H1,I1,q1⟩
theorem b82(ha:PT X a tA)(hb:PW X (.BoolOp .Or (b::A3) pos) tB'):PW X (.BoolOp .Or (a::b::A3) pos) (tOr tA tB'):=by
 intro wh pins s σ H Q I h
 refine isTrue_or (M3 (ha pins s σ H _ I h) fun c s1 ⟨H1,I1,q1⟩=> ?_)
 cases c with
 |true=>exact⟨H1,I1,q1⟩
 |false=>exact hb wh pins s1 σ H1 Q I1 q1
theorem b74(ha:PT X a tA):PT X (.UnaryOp .Not a pos) (b9L tA):=by
 intro pins s σ H Q I h
 exact isTrue_not (ha pins s σ H (fun c H1=>Q (!c) H1) I h)
def b9a(ta tb:TE):TE:=fun σ H Q=>ta σ H fun x H1=>∃c,x= .bl c/\if c=true then tb σ H1 Q else Q (.bl false) H1
theorem b7W{op}{t:TE}(h:PE X a t):PE X (.BoolOp op [a] pos) t:=fun pins s σ H Q I hw=>BoolOp_one (h pins s σ H Q I hw)
theorem b7S(ha:PE X a ta)(hb:PE X (.BoolOp .And (b::A3) pos) tb):PE X (.BoolOp .And (a::b::A3) pos) (b9a ta tb):=by
 intro pins s σ H Q I h
 refine BoolOp_and (M3 (ha pins s σ H _ I h) fun v s1 ⟨x,H1,I1,r1,q1⟩=> ?_)
 obtain⟨c,rfl,q1⟩:=q1
 cases r1
 refine wpAny_truthy_bool ?_
 cases c with
 |true=>exact hb pins s1 σ H1 Q I1 q1
 |false=>exact⟨.bl false,H1,I1,rfl,q1⟩
end
def SqL(K:AD)(H:Hp)(a:AB)(xs:List V):Prop:=
 Rd H a (.lst xs)\/
  ∃(o:Obj) (its:Array AA) (n:Nat),K.lookup a=some o/\o.cls= .type "list"/\o.dict=none/\o.data= .seq its n/\its.size<=AO/\u3 xs its.toList
def SqT(K:AD)(H:Hp)(a:AB)(xs:List V):Prop:=
 Rd H a (.tup xs)\/
  ∃(o:Obj) (its:Array AA) (n:Nat),K.lookup a=some o/\o.cls= .type "tuple"/\o.data= .seq its n/\its.size<=AO/\u3 xs its.toList
def b9o:AA->Option V
 | .none=>some .non
 | .bool b=>some (.bl b)
 | .int i _=>some (.int i)
 | .str x _=>some (.str x)
 | .bytes b _=>some (.byt b)
 | .float b _=>some (.flt b)
 | .ref a=>some (.ref a)
 | .type n=>some (.ty n)
 |_=>none
theorem z4.abs{x:V}{u:AA}(r:z4 x u):b9o u=some x:=by
 cases x with
 |non=>cases r;rfl
 |bl _=>cases r;rfl
 |int _=>obtain⟨t,rfl⟩:=r;rfl
 |str _=>obtain⟨t,rfl⟩:=r;rfl
 |byt _=>obtain⟨t,rfl⟩:=r;rfl
 |flt _=>obtain⟨t,rfl⟩:=r;rfl
 |ref _=>cases r;rfl
 |ty _=>cases r;rfl
theorem z4.inj{x y:V}{u:AA}(r:z4 x u)(q:z4 y u):x=y:=Option.some.inj (r.abs.symm.trans q.abs)
theorem u3.inj:∀{xs ys:List V} {us:List AA},u3 xs us->u3 ys us->xs=ys
 |_,_,_,.nil,.nil=>rfl
 |_,_,_,.cons r t,.cons r' t'=>by rw [r.inj r',u3.inj t t']
section
variable {X:Cx}{pins:List (AB×Obj)}{σ:St}{H:Hp}{s:AC}{a:AB}{xs ys:List V}
theorem SqL.of{K:AD}(h:H a=some (.lst xs)):SqL K H a xs:= .inl (.inl h)
theorem SqT.of{K:AD}(h:H a=some (.tup xs)):SqT K H a xs:= .inl (.inl h)
theorem n4.list(I:n4 X pins σ H s)(h:SqL X.K H a xs):∃its:List AA,u3 xs its/\PlainL s.heap a its.toArray/\xs.length<=AO:=by
 rcases h with h|⟨o,its,n,hk,hc,hd,hs,hz,r⟩
 ·obtain⟨z,its,n,r,e⟩:=h.ok I.hok
  exact⟨its,r,⟨_,n,e,rfl,rfl,rfl⟩,z⟩
 ·refine⟨its.toList,r,⟨o,n,I.kIn a o hk,hc,hd,by simpa using hs⟩, ?_⟩
  have e:=r.length
  simp only [Array.length_toList] at e
  lia
theorem n4.tuple(I:n4 X pins σ H s)(h:SqT X.K H a xs):∃its:List AA,u3 xs its/\IsTup s.heap a its.toArray/\xs.length<=AO:=by
 rcases h with h|⟨o,its,n,hk,hc,hs,hz,r⟩
 ·obtain⟨z,its,r,p⟩:=h.ok I.hok
  exact⟨its,r,p,z⟩
 ·refine⟨its.toList,r,⟨o,I.kIn a o hk,hc,n,by simpa using hs⟩, ?_⟩
  have e:=r.length
  simp only [Array.length_toList] at e
  lia
theorem n4.list_inj(I:n4 X pins σ H s)(h:SqL X.K H a xs)(h':SqL X.K H a ys):xs=ys:=by
 obtain⟨its,r,⟨o,n,e,_,_,d⟩,_⟩:=I.list h
 obtain⟨its',r',⟨o',n',e',_,_,d'⟩,_⟩:=I.list h'
 rw [e] at e';cases e'
 rw [d] at d'
 injection d' with d1 _
 have:its=its':=by simpa using congrArg Array.toList d1
 subst this
 exact r.inj r'
theorem n4.tuple_inj(I:n4 X pins σ H s)(h:SqT X.K H a xs)(h':SqT X.K H a ys):xs=ys:=by
 obtain⟨its,r,⟨o,e,_,n,d⟩,_⟩:=I.tuple h
 obtain⟨its',r',⟨o',e',_,n',d'⟩,_⟩:=I.tuple h'
 rw [e] at e';cases e'
 rw [d] at d'
 injection d' with d1 _
 have:its=its':=by simpa using congrArg Array.toList d1
 subst this
 exact r.inj r'
end
abbrev Cx.wish(X:Cx)(E:AA->AC->Prop):Cx:={X with xe:=E}
abbrev Cx.nox(X:Cx):Cx:=X.wish fun _ _=>False
theorem Cx.Ok.wish{X:Cx}(ok:X.Ok)(E:AA->AC->Prop):(X.wish E).Ok:=
 ⟨ok.mod,ok.kind,ok.glob,ok.blt,ok.above,ok.inj,ok.has,ok.cab,ok.hd,ok.frames,ok.stk,ok.exf,ok.bs,ok.bsz,ok.noex,ok.exfs,ok.funs,ok.frf⟩
theorem Cx.Ok.unwish{X:Cx}{E:AA->AC->Prop}(ok:(X.wish E).Ok):X.Ok:=
 ⟨ok.mod,ok.kind,ok.glob,ok.blt,ok.above,ok.inj,ok.has,ok.cab,ok.hd,ok.frames,ok.stk,ok.exf,ok.bs,ok.bsz,ok.noex,ok.exfs,ok.funs,ok.frf⟩
section
variable {X:Cx}{pins:List (AB×Obj)}{σ:St}{H:Hp}{s:AC}{E:AA->AC->Prop}
theorem n4.wish(I:n4 X pins σ H s)(E:AA->AC->Prop):n4 (X.wish E) pins σ H s:=⟨I.ok.wish E,I.os,I.bare,I.base,I.loc,I.cell,I.free,I.freeC,I.pin,I.hok,I.len⟩
theorem n4.unwish(I:n4 (X.wish E) pins σ H s):n4 X pins σ H s:=⟨I.ok.unwish,I.os,I.bare,I.base,I.loc,I.cell,I.free,I.freeC,I.pin,I.hok,I.len⟩
theorem SP.unwish{D:W2}{f:Flow}{s':AC}(h:SP (X.wish E) pins D f s'):SP X pins D f s':=by
 cases f with
 |next=>obtain⟨σ',H',I,q⟩:=h;exact⟨σ',H',I.unwish,q⟩
 |brk=>obtain⟨σ',H',I,q⟩:=h;exact⟨σ',H',I.unwish,q⟩
 |cont=>obtain⟨σ',H',I,q⟩:=h;exact⟨σ',H',I.unwish,q⟩
 |ret u=>obtain⟨v,σ',H',I,r,q⟩:=h;exact⟨v,σ',H',I.unwish,r,q⟩
theorem PE.nox{e:AG}{t:TE}(h:PE X.nox e t):PE X e t:=fun pins s σ H Q I hw=>
 wpAny_mono (h pins s σ H Q (I.wish _) hw) (fun _ _ ⟨v,H',I',r,q⟩=>⟨v,H',I'.unwish,r,q⟩) fun _ _ z=>False.elim z
theorem PT.nox{e:AG}{t:TT}(h:PT X.nox e t):PT X e t:=fun pins s σ H Q I hw=>
 wpAny_mono (h pins s σ H Q (I.wish _) hw) (fun _ _ ⟨H',I',q⟩=>⟨H',I'.unwish,q⟩) fun _ _ z=>False.elim z
theorem PSs.nox{st:List Stmt}{t:TS}(h:PSs X.nox st t):PSs X st t:=fun pins s σ H D I hw=>
 wpAny_mono (h pins s σ H D (I.wish _) hw) (fun _ _ q=>q.unwish) fun _ _ z=>False.elim z
end
section
variable {X:Cx}{st:Stmt}{A3:List Stmt}{t u:TS}{e:AG}{te:TE}{pos:Pos}
def b6K:TS:=fun D σ H=>D.nx σ H
def b9e(t u:TS):TS:=fun D σ H=>t {D with nx:=u D} σ H
theorem W9:PSs X [] b6K:=fun _ _ σ H _ I h=>wpAny_execs_nil ⟨σ,H,I,h⟩
theorem C3(h1:PS X st t)(h2:PSs X A3 u):PSs X (st::A3) (b9e t u):=by
 intro pins s σ H D I h
 refine wpAny_execs_cons (M3 (h1 pins s σ H {D with nx:=u D} I h) fun f s1 q=> ?_)
 cases f with
 |next=>
  obtain⟨σ',H',I',q⟩:=q
  exact h2 pins s1 σ' H' D I' q
 |ret v=>exact q
 |brk=>exact q
 |cont=>exact q
theorem b1I(h1:PS X st t):PSs X [st] t:=by
 intro pins s σ H D I h
 refine wpAny_execs_cons (M3 (h1 pins s σ H D I h) fun f s1 q=> ?_)
 cases f with
 |next=>exact wpAny_execs_nil q
 |ret v=>exact q
 |brk=>exact q
 |cont=>exact q
theorem n4.quiet{pins:List (AB×Obj)}{σ:St}{H:Hp}{s:AC}(I:n4 X pins σ H s):interactive X.env=false:=by simp [interactive,I.ok.kind]
def b9b(te:TE):TS:=fun D σ H=>te σ H fun _ H1=>D.nx σ H1
theorem b6a(he:PE X e te)(hs:swapsWith e none pos.line X.env=pure false:=by rfl):PS X (.Expr e pos) (b9b te):=by
 intro pins s σ H D I h
 exact wpAny_Expr_any (M3 (he pins s σ H _ I h) fun v s1 ⟨x,H1,I1,r1,q1⟩=>⟨σ,H1,I1,q1⟩) I.quiet hs
def b9M(te:TE):TS:=fun D σ H=>te σ H D.rt
theorem b4i(he:PE X e te):PS X (.Return (some e) pos) (b9M te):=by
 intro pins s σ H D I h
 exact wpAny_Return_some (M3 (he pins s σ H _ I h) fun v s1 ⟨x,H1,I1,r1,q1⟩=>⟨x,σ,H1,I1,r1,q1⟩)
def b9J(c:TT)(t u:TS):TS:=fun D σ H=>c σ H fun b H1=>if b=true then t D σ H1 else u D σ H1
theorem b6H{c:AG}{a b:List Stmt}{tc:TT}(hc:PT X c tc)(ha:PSs X a t)(hb:PSs X b u):PS X (.If c a b pos) (b9J tc t u):=by
 intro pins s σ H D I h
 refine wpAny_If (M3 (hc pins s σ H _ I h) fun d s1 ⟨H1,I1,q1⟩=> ?_)
 cases d with
 |true=>exact ha pins s1 σ H1 D I1 q1
 |false=>exact hb pins s1 σ H1 D I1 q1
end
abbrev TG:=V->St->Hp->(St->Hp->Prop)->Prop
def PG(X:Cx)(target:AG)(t:TG):Prop:=
 ∀(pins:List (AB×Obj)) (s:AC) (σ:St) (H:Hp) (v:V) (u:AA) (Q:St->Hp->Prop),n4 X pins σ H s->z4 v u->t v σ H Q->
  AI (model X.prog X.w) X.A (assign target X.env u) (fun _ s'=>∃σ' H',n4 X pins σ' H' s'/\Q σ' H') X.xe s
abbrev TIp:=V->V->Hp->VK->Prop
def PIp(X:Cx)(op:Operator)(t:TIp):Prop:=
 ∀(pins:List (AB×Obj)) (s:AC) (σ:St) (H:Hp) (x y:V) (v u:AA) (Q:VK),n4 X pins σ H s->z4 x v->z4 y u->t x y H Q->
  AI (model X.prog X.w) X.A (inplaceOp op v u) (EP X pins σ Q) X.xe s
section
variable {X:Cx}{pos:Pos}
def b1r(i:Nat):TG:=fun v σ H Q=>Q (σ.set i (some v)) H
theorem W8{i:Nat}{x:Str}(hN:X.N.Nodup)(hi:X.N[i]?=some x)(hx:Loc X.env.scope x)(hf:X.fn x=true\/X.env.scope.names.lookup x=some .local:=by first|exact .inl rfl|exact .inr rfl|assumption):PG X (.Name x pos) (b1r i):=by
 intro pins s σ H v u Q I r h
 exact wpAny_assign_Name (a6I I hN hi hx r (fun s' I'=>⟨_,H,I',h⟩) hf)
def b9F(te:TE)(g:TG):TS:=fun D σ H=>te σ H fun x H1=>g x σ H1 D.nx
theorem b4j{i:Nat}{x:Str}{e:AG}{te:TE}{pos':Pos}(hN:X.N.Nodup)(hi:X.N[i]?=some x)(hx:Loc X.env.scope x)(he:PE X e te)(hs:swapsWith e (some (.Name x pos')) pos.line X.env=pure false:=by rfl)(hf:X.fn x=true\/X.env.scope.names.lookup x=some .local:=by first|exact .inl rfl|exact .inr rfl|assumption):
 PS X (.Assign [.Name x pos'] e pos) (b9F te (b1r i)):=by
 intro pins s σ H D I h
 refine wpAny_Assign_Name (M3 (he pins s σ H _ I h) fun v s1 ⟨y,H1,I1,r1,q1⟩=> ?_) hs
 exact a6I I1 hN hi hx r1 (fun s2 I2=>⟨_,H1,I2,q1⟩) hf
def b9G(i:Nat)(te:TE)(ti:TIp):TS:=fun D σ H=>∃x,σ[i]?=some (some x)/\te σ H fun y H1=>ti x y H1 fun z H2=>D.nx (σ.set i (some z)) H2
theorem b72{i:Nat}{x:Str}{e:AG}{te:TE}{op:Operator}{ti:TIp}{pos':Pos}(hN:X.N.Nodup)(hi:X.N[i]?=some x)(hx:Loc X.env.scope x)(he:PE X e te)(ho:PIp X op ti)(hf:X.fn x=true\/X.env.scope.names.lookup x=some .local:=by first|exact .inl rfl|exact .inr rfl|assumption):
 PS X (.AugAssign (.Name x pos') op e pos) (b9G i te ti):=by
 intro pins s σ H D I h
 obtain⟨v,e1,h⟩:=h
 obtain⟨m,hn,hl⟩:=I.loc
 have vis:Vis X.env.scope x:=by rcases hx with k|k;exact .inl k;exact .inr (.inl k)
 obtain⟨u,r,l⟩:=hl i x v hi e1 vis
 refine wpAny_AugAssign_Name ?_
 have go:AI (model X.prog X.w) X.A (eval e X.env) (fun w s₂=>AI (model X.prog X.w) X.A (inplaceOp op u w) (fun r s₃=>AI (model X.prog X.w) X.A (storeName X.env x r) (fun _=>SP X pins D .next) X.xe s₃) X.xe s₂) X.xe s:=by
  refine M3 (he pins s σ H _ I h) fun w s1 ⟨y,H1,I1,r1,q1⟩=> ?_
  refine M3 (ho pins s1 σ H1 v y u w _ I1 r r1 q1) fun z s2 ⟨zv,H2,I2,r2,q2⟩=> ?_
  exact a6I I2 hN hi hx r2 (fun s3 I3=>⟨_,H2,I3,q2⟩) hf
 rcases l with⟨hk,hm⟩|⟨hk,c,hc,hcell⟩
 ·exact wpAny_loadName_local I.ok.kind hk hn hm go
 ·rcases hk with hk|hk
  ·exact wpAny_loadName_cell I.ok.kind hk hc hcell go
  ·rcases hx with k|k
   ·have:X.env.scope.names.lookup x=some .free:=hk
    rw [k] at this;cases this
   ·have:X.env.scope.names.lookup x=some .free:=hk
    rw [k] at this;cases this
end
section
variable {X:Cx}{pos:Pos}
def b8h(c:TT)(tb:TS):TS:=fun D σ H=>∃W:Nat->St->Hp->Prop,(∃m,W m σ H)/\∀m σ H,W m σ H->
 c σ H fun b H1=>if b=true then ∃N:St->Hp->Prop,(∀σ' H',N σ' H'->∃m',m'<m/\W m' σ' H')/\tb {D with nx:=N,ct:=N,bk:=D.nx} σ H1 else D.nx σ H1
theorem b4k{c:AG}{body:List Stmt}{tc:TT}{tb:TS}(hp:PassesOwn (model X.prog X.w) X.A X.env X.xe)(hc:PT X c tc)(hb:PSs X body tb):PS X (.While c body [] pos) (b8h tc tb):=by
 intro pins s σ H D I h
 obtain⟨W,⟨m0,w0⟩,turn⟩:=h
 refine wpAny_While (codeAny_whileLoop (fun n s'=>∃σ' H',n4 X pins σ' H' s'/\W n σ' H') ?_ m0 ⟨σ,H,I,w0⟩)
 rintro n s1 ⟨σ1,H1,I1,w1⟩
 refine wpAny_passesOwn hp (M3 (hc pins s1 σ1 H1 _ I1 (turn n σ1 H1 w1)) fun b s2 ⟨H2,I2,q2⟩=> ?_)
 cases b with
 |true=>
  obtain⟨N,hN,q2⟩:=q2
  rw [if_pos rfl]
  refine wpAny_passesOwn hp (M3 (hb pins s2 σ1 H2 _ I2 q2) fun f s3 q3=> ?_)
  cases f with
  |next=>
   obtain⟨σ3,H3,I3,n3⟩:=q3
   obtain⟨m',hm,w3⟩:=hN σ3 H3 n3
   exact⟨m',hm,σ3,H3,I3,w3⟩
  |cont=>
   obtain⟨σ3,H3,I3,n3⟩:=q3
   obtain⟨m',hm,w3⟩:=hN σ3 H3 n3
   exact⟨m',hm,σ3,H3,I3,w3⟩
  |brk=>exact q3
  |ret v=>exact q3
 |false=>
  rw [if_neg Aq]
  exact wpAny_execs_nil ⟨σ1,H2,I2,q2⟩
end
structure It where
 go:Nat->Hp->Prop
 yld:Nat->Hp->V->Hp->Prop
 stop:Nat->Hp->Prop
def a4g(X:Cx)(pins:List (AB×Obj))(H:Hp)(b:AB):Prop:=
 H b=none/\b≠X.env.locals/\b∉X.fs/\(b∈X.ex\/X.s₀.heap.objs.size<=b)/\(∀x c,X.env.cells.lookup x=some c->c≠b)/\∀p∈X.pn++pins,p.1≠b
theorem n4.fpOk{X:Cx}{pins:List (AB×Obj)}{σ:St}{H H':Hp}{s:AC}{b:AB}(I:n4 X pins σ H s)(hb:s.heap.objs.size<=b)(hn:H' b=none):a4g X pins H' b:=by
 refine⟨hn,Nat.ne_of_gt (As I.lt hb),I.nofs hb,.inr (Nat.le_trans I.sz hb),fun x c e z=> ?_,fun p hp z=> ?_⟩
 ·obtain⟨v,q⟩:=I.cell x c e
  exact absurd (As q.lt (by rw [z];exact hb)) (Nat.lt_irrefl _)
 ·exact absurd (As (Aa (I.pin p hp).1) (by rw [z];exact hb)) (Nat.lt_irrefl _)
structure b1X(P:AL)(w:AJ)(K:AD)(tg:AG)(J:It)(fp:List AB)(it:AB)(tn:Nat->Heap->Prop):Prop where
 mem:it∈fp
 obj:∀i h,tn i h->∀b∈fp,∃o,h.get? b=some o/\∀v,o.data≠.cell v
 keep:∀i h h',tn i h->(∀b∈fp,∀o,h.get? b=some o->h'.get? b=some o)->tn i h'
 item:∀(X:Cx),X.prog=P->X.w=w->X.K=K->X.calm=true->∀(i:Nat) (pins:List (AB×Obj)) (s:AC) (σ:St) (H:Hp) (E:AA->AC->Prop),n4 X pins σ H s->(∀b∈fp,a4g X pins H b)->tn i s.heap->J.go i H->
  AI (model P w) X.A (pyNext (.ref it)) (fun r s1=>∃u,r=some u/\
   AI (model P w) X.A (letOwnedTupleGo tg (.ref it) u) (fun _ s2=>∃x H',n4 X pins σ H' s2/\z4 x u/\J.yld i H x H'/\tn (i+1) s2.heap/\∀b∈fp,H' b=none) E s1) E s
 done:∀(X:Cx),X.prog=P->X.w=w->X.K=K->X.calm=true->∀(i:Nat) (pins:List (AB×Obj)) (s:AC) (σ:St) (H:Hp) (E:AA->AC->Prop),n4 X pins σ H s->(∀b∈fp,a4g X pins H b)->tn i s.heap->J.stop i H->
   AI (model P w) X.A (pyNext (.ref it)) (fun r s1=>r=none/\n4 X pins σ H s1) E s
 self:∀(A:AK) (i:Nat) (s:AC) (Q:AA->AC->Prop) (E:AA->AC->Prop),tn i s.heap->Q (.ref it) s->AI (model P w) A (pyIter (.ref it)) Q E s
abbrev TI:=St->Hp->(It->Hp->Prop)->Prop
def PIE(X:Cx)(pins:List (AB×Obj))(σ:St)(tg:AG)(R:It->Hp->Prop)(itv:AA)(s2:AC):Prop:=
 ∃(it:AB) (fp:List AB) (tn:Nat->Heap->Prop) (J:It) (H':Hp),itv= .ref it/\n4 X pins σ H' s2/\b1X X.prog X.w X.K tg J fp it tn/\tn 0 s2.heap/\(∀b∈fp,a4g X pins H' b)/\R J H'
def PI(X:Cx)(tg iter:AG)(wi:TI):Prop:=
 ∀(pins:List (AB×Obj)) (s:AC) (σ:St) (H:Hp) (R:It->Hp->Prop),n4 X pins σ H s->wi σ H R->
  AI (model X.prog X.w) X.A (eval iter X.env) (fun v s1=>AI (model X.prog X.w) X.A (pyIter v) (PIE X pins σ tg R) X.xe s1) X.xe s
theorem b1u{M:Model}{A:AK}{E:AA->AC->Prop}{s:AC}{tg:AG}{it:AB}{u:AA}{o:Obj}{n:String}{vs:Array AA}{Q:Unit->AC->Prop}(ho:s.heap.get? it=some o)(hc:o.cls= .type n)(hd:o.data= .fields vs)
 (hn:["enumerate","zip","dict_itemiterator","dict_reverseitemiterator","odict_iterator","itertools.zip_longest","itertools.pairwise"].contains n=false) (hQ:Q () s):AI M A (letOwnedTupleGo tg (.ref it) u) Q E s:=by
 unfold letOwnedTupleGo
 cases tg<;>first
  |exact AS hQ
  |(cases u<;>first
   |exact AS hQ
   |(refine AF (wpAny_load ho ?_)
     rw [hc,hd]
     show AI M A (if(["enumerate","zip","dict_itemiterator","dict_reverseitemiterator","odict_iterator","itertools.zip_longest","itertools.pairwise"].contains n && vs[0]?==some (rawInt _))=true then _ else _) Q E s
     rw [if_neg (by intro h;rw [hn,Bool.false_and] at h;cases h)]
     exact AS hQ))
def Itl(K:AD)(a:AB):It:=
 ⟨fun i H=>∃xs x,SqL K H a xs/\xs[i]?=some x,fun i H x H'=>H'=H/\∀xs,SqL K H a xs->xs[i]?=some x,fun i H=>∃xs,SqL K H a xs/\xs.length<=i⟩
def Itt(K:AD)(a:AB):It:=
 ⟨fun i H=>∃xs x,SqT K H a xs/\xs[i]?=some x,fun i H x H'=>H'=H/\∀xs,SqT K H a xs->xs[i]?=some x,fun i H=>∃xs,SqT K H a xs/\xs.length<=i⟩
def Itr(lo:Int)(n:Nat):It:=⟨fun i _=>i<n,fun i H x H'=>H'=H/\x= .int (lo+i),fun i _=>n<=i⟩
theorem b2P{P:AL}{w:AJ}{K:AD}{tg:AG}(a it:AB):b1X P w K tg (Itl K a) [it] it (fun i h=>h.IsListIter it a i) where
 mem:=by simp
 obj:=fun i h st b hb=>by
  have e:b=it:=by simpa using hb
  subst e
  obtain⟨o,e,c,d⟩:=st
  exact⟨o,e,fun v z=>by rw [d] at z;cases z⟩
 keep:=fun i h h' st k=>st.at fun o e=>k it (by simp) o e
 item:=by
  intro X hP hw hK hc i pins s σ H E I hf st hg
  subst hP hw hK
  obtain⟨xs,x,hq,hx⟩:=hg
  obtain⟨its,rv,p,hz⟩:=I.list hq
  obtain⟨u,hu,ru⟩:=rv.get hx
  obtain⟨f0,f1,f2,f3,f4,f5⟩:=hf it (by simp)
  refine wpAny_pyNext_list_item st p.isList (x:=u) (by simpa using hu) fun h' st' sb=> ?_
  have I1:n4 X pins σ H {s with heap:=h'}:=I.turned (t':=s.toks) (fun b o hb e=>(sb.2 b hb).trans e) f0 f1 f3 f4 f5
  obtain⟨o,e,c,d⟩:=id st'
  exact⟨u,rfl,b1u (s:={s with heap:=h'}) e c d (by decide) ⟨x,H,I1,ru,⟨rfl,fun ys hy=>by rw [I.list_inj hy hq];exact hx⟩,st',fun b hb=>(hf b hb).1⟩⟩
 done:=by
   intro X hP hw hK hc i pins s σ H E I hf st hg
   subst hP hw hK
   obtain⟨xs,hq,hx⟩:=hg
   obtain⟨its,rv,p,hz⟩:=I.list hq
   obtain⟨f0,f1,f2,f3,f4,f5⟩:=hf it (by simp)
   have hl:=rv.length
   exact wpAny_pyNext_list_end (I.ok.hd hc) st p.isList (by simp;lia) fun h' eb=>⟨rfl,I.turned (t':=s.toks) (fun b o hb e=>eb b o hb e) f0 f1 f3 f4 f5⟩
 self:=fun _ _ _ _ _ st h=>wpAny_pyIter_listiter st h
theorem b05{P:AL}{w:AJ}{K:AD}{tg:AG}(a it:AB):b1X P w K tg (Itt K a) [it] it (fun i h=>h.IsTupleIter it a i) where
 mem:=by simp
 obj:=fun i h st b hb=>by
  have e:b=it:=by simpa using hb
  subst e
  obtain⟨o,e,c,d⟩:=st
  exact⟨o,e,fun v z=>by rw [d] at z;cases z⟩
 keep:=fun i h h' st k=>st.at fun o e=>k it (by simp) o e
 item:=by
  intro X hP hw hK hc i pins s σ H E I hf st hg
  subst hP hw hK
  obtain⟨xs,x,hq,hx⟩:=hg
  obtain⟨its,rv,p,hz⟩:=I.tuple hq
  obtain⟨u,hu,ru⟩:=rv.get hx
  obtain⟨f0,f1,f2,f3,f4,f5⟩:=hf it (by simp)
  refine wpAny_pyNext_tuple_item st (show s.heap.IsTuple a its.toArray from p) (x:=u) (by simpa using hu) fun h' st' sb=> ?_
  have I1:n4 X pins σ H {s with heap:=h'}:=I.turned (t':=s.toks) (fun b o hb e=>(sb.2 b hb).trans e) f0 f1 f3 f4 f5
  obtain⟨o,e,c,d⟩:=id st'
  exact⟨u,rfl,b1u (s:={s with heap:=h'}) e c d (by decide) ⟨x,H,I1,ru,⟨rfl,fun ys hy=>by rw [I.tuple_inj hy hq];exact hx⟩,st',fun b hb=>(hf b hb).1⟩⟩
 done:=by
   intro X hP hw hK hc i pins s σ H E I hf st hg
   subst hP hw hK
   obtain⟨xs,hq,hx⟩:=hg
   obtain⟨its,rv,p,hz⟩:=I.tuple hq
   obtain⟨f0,f1,f2,f3,f4,f5⟩:=hf it (by simp)
   have hl:=rv.length
   exact wpAny_pyNext_tuple_end (I.ok.hd hc) st (show s.heap.IsTuple a its.toArray from p) (by simp;lia) fun h' eb=>⟨rfl,I.turned (t':=s.toks) (fun b o hb e=>eb b o hb e) f0 f1 f3 f4 f5⟩
 self:=fun _ _ _ _ _ st h=>wpAny_pyIter_tupleiter st h
theorem b04{P:AL}{w:AJ}{K:AD}{tg:AG}(it:AB)(lo:Int)(n:Nat):b1X P w K tg (Itr lo n) [it] it (fun i h=>IsRangeIter h it (lo+(i:Nat)*1) ((n:Int) - (i:Nat)) 1) where
 mem:=by simp
 obj:=fun i h st b hb=>by
  have e:b=it:=by simpa using hb
  subst e
  exact⟨_,st,fun v z=>by
   have z':Data.fields _=Data.cell v:=z
   cases z'⟩
 keep:=fun i h h' st k=>k it (by simp) _ st
 item:=by
  intro X hP hw hK hc i pins s σ H E I hf st hg
  subst hP hw hK
  obtain⟨f0,f1,f2,f3,f4,f5⟩:=hf it (by simp)
  have W:=Walks.range (prog:=X.prog) (w:=X.w) (I.ok.hd hc) it lo 1 n
  refine W.item i s _ _ hg st fun v h' tk hv st' kk=> ?_
  obtain⟨t,rfl⟩:=hv
  have I1:n4 X pins σ H {s with heap:=h',toks:=tk}:=I.turned (fun b o hb e=>kk b o (by simpa using hb) e) f0 f1 f3 f4 f5
  refine⟨_,rfl,b1u (s:={s with heap:=h',toks:=tk}) (n:="range_iterator") st' rfl rfl (by decide) ⟨.int (lo+i),H,I1,⟨t, ?_⟩,⟨rfl,rfl⟩,st',fun b hb=>(hf b hb).1⟩⟩
  rw [Int.mul_one]
 done:=by
   intro X hP hw hK hc i pins s σ H E I hf st hg
   subst hP hw hK
   obtain⟨f0,f1,f2,f3,f4,f5⟩:=hf it (by simp)
   exact wpAny_pyNext_range_end (I.ok.hd hc) st (by have:n<=i:=hg;lia) fun h' eb=>⟨rfl,I.turned (t':=s.toks) (fun b o hb e=>eb b o hb e) f0 f1 f3 f4 f5⟩
 self:=fun _ _ _ _ _ st h=>wpAny_pyIter_rangeiter st h
section
variable {X:Cx}{tg:AG}
theorem b4p{pins:List (AB×Obj)}{σ:St}{H:Hp}{s:AC}{R:It->Hp->Prop}{E:AA->AC->Prop}{lo hi:Int}{t u v:Tok}{tk:Nat}(I:n4 X pins σ H s)(h1: -(2 ^ 62)<=lo)(h2:lo<2 ^ 62)(h3: -(2 ^ 62)<=hi)(h4:hi<2 ^ 62)
 (q:R (Itr lo (hi - lo).toNat) H):AI (model X.prog X.w) X.A (pyIter (.ref s.heap.objs.size)) (PIE X pins σ tg R) E {s with heap:=s.heap.push {cls:= .type "range",data:= .fields #[.int lo t,.int hi u,.int 1 v]},toks:=tk}:=by
 refine wpAny_pyIter_range (IsRange.new ..) (small_one h1 h2 h3 h4) ?_
 have I1:n4 X pins σ H {s with heap:=s.heap.push {cls:= .type "range",data:= .fields #[.int lo t,.int hi u,.int 1 v]},toks:=tk}:=I.kept fun b o e=>Ah _ e
 refine⟨(s.heap.push {cls:= .type "range",data:= .fields #[.int lo t,.int hi u,.int 1 v]}).objs.size,[(s.heap.push {cls:= .type "range",data:= .fields #[.int lo t,.int hi u,.int 1 v]}).objs.size],_,_,H,rfl,
  I1.kept (t':=tk) fun b o e=>Ah _ e,b04 _ lo (hi - lo).toNat, ?_,fun b hb=> ?_,q⟩
 ·have e1:lo+((0:Nat):Int)*1=lo:=by simp
  have e2:(((hi - lo).toNat:Nat):Int) - ((0:Nat):Int)=Builtin.Range.rangeSize lo hi 1:=by rw [rangeSize_one];split<;>lia
  show IsRangeIter _ _ (lo+((0:Nat):Int)*1) ((((hi - lo).toNat:Nat):Int) - ((0:Nat):Int)) 1
  rw [e1,e2]
  exact Ar _ rfl
 ·have e:b=(s.heap.push {cls:= .type "range",data:= .fields #[.int lo t,.int hi u,.int 1 v]}).objs.size:=by simpa using hb
  subst e
  exact I1.fpOk (AV _) (I1.hok.fresh (AV _))
def b8K(ta:TA):TI:=fun σ H R=>ta σ H fun vs H1=>∃j:Int,vs=[.int j]/\ -(2 ^ 62)<=j/\j<2 ^ 62/\R (Itr 0 j.toNat) H1
theorem b2C{a:AG}{ta:TA}{p pos:Pos}(hg:Gl X "range")(hm:X.mg "range"=none)(ha:PA X [a] ta)(hs:AN [a] X.env=[(false,eval a X.env)]:=by rfl):PI X tg (.Call (.Name "range" p) [a] [] pos) (b8K ta):=by
 intro pins s σ H R I h
 refine Call_ (a5V I hg hm boot_range (PyProof.Rows.callWith_type1 (M3 (ha pos pins s σ H _ I h) fun us s1 ⟨vs,H1,I1,r1,q1⟩=> ?_) hs rfl))
 obtain⟨j,e,q1,q2,q⟩:=q1
 subst e
 cases r1 with
 |cons r rr=>
  cases rr
  obtain⟨t,rfl⟩:=r
  exact call_range_1 (b4p I1 (by lia) (by lia) q1 q2 (by simpa using q))
def b9I(wi:TI)(g:TG)(tb:TS):TS:=fun D σ H=>wi σ H fun J H1=>∃W:Nat->Nat->St->Hp->Prop,(∃m,W 0 m σ H1)/\∀i m σ H,W i m σ H->
 (J.stop i H/\D.nx σ H)\/(J.go i H/\∃N:St->Hp->Prop,(∀σ' H',N σ' H'->∃m',m'<m/\W (i+1) m' σ' H')/\∀x H',J.yld i H x H'->g x σ H' fun σ2 H2=>tb {D with nx:=N,ct:=N,bk:=D.nx} σ2 H2)
def a6u(fp:List AB)(h:Heap):List (AB×Obj):=fp.filterMap fun b=>(h.get? b).map fun o=>(b,o)
theorem a1n{fp:List AB}{h:Heap}{b:AB}{o:Obj}(hb:b∈fp)(e:h.get? b=some o):(b,o)∈a6u fp h:=List.mem_filterMap.mpr ⟨b,hb,by rw [e];rfl⟩
theorem b2u{fp:List AB}{h:Heap}{p:AB×Obj}(hp:p∈a6u fp h):p.1∈fp/\h.get? p.1=some p.2:=by
 obtain⟨b,hb,e⟩:=List.mem_filterMap.mp hp
 cases q:h.get? b with
 |none=>rw [q] at e;cases e
 |some o=>
  rw [q] at e
  have e':(b,o)=p:=Option.some.inj e
  subst e'
  exact⟨hb,q⟩
theorem n4.pinned{pins:List (AB×Obj)}{σ:St}{H:Hp}{s:AC}{fp:List AB}(I:n4 X pins σ H s)(hf:∀b∈fp,a4g X pins H b)(ho:∀b∈fp,∃o,s.heap.get? b=some o/\∀v,o.data≠.cell v):n4 X (pins++a6u fp s.heap) σ H s:=
 I.pins_of fun p hp=>(Au.mp hp).elim (fun z=>I.pin p (At _ z)) fun z=>by
  obtain⟨hb,e⟩:=b2u z
  obtain⟨f0,f1,f2,_⟩:=hf p.1 hb
  obtain⟨o,e',d⟩:=ho p.1 hb
  rw [e] at e';cases e'
  exact⟨e,f0,f1,f2,d⟩
theorem n4.unpinned{pins pl:List (AB×Obj)}{σ:St}{H:Hp}{s:AC}(I:n4 X (pins++pl) σ H s):n4 X pins σ H s:=I.pins_of fun p hp=>I.pin p (At _ (BD _ hp))
theorem b4g{iter:AG}{body:List Stmt}{wi:TI}{g:TG}{tb:TS}{pos:Pos}(hp:PassesOwn (model X.prog X.w) X.A X.env X.xe)(hc:X.calm=true)(hi:PI X tg iter wi)(hg:PG X tg g)(hb:PSs X body tb)
 (hs:∀x,foldedSetIterable iter X.env x=pure x:=by intro _;rfl):PS X (.For tg iter body [] pos) (b9I wi g tb):=by
 intro pins s σ H D I h
 refine wpAny_For (M3 (hi pins s σ H _ I h) fun v s1 h1=>M3 h1 fun itv s2 h2=> ?_) hs
 obtain⟨it,fp,tn,J,H2,e,I2,T,st2,f2,W,⟨m0,w0⟩,turn⟩:=h2
 subst e
 have stat:∀{H':Hp},(∀b∈fp,H' b=none)->∀b∈fp,a4g X pins H' b:=fun hn b hb=>⟨hn b hb,(f2 b hb).2⟩
 refine codeAny_forLoop_any (fun n s'=>∃i σ' H',n4 X pins σ' H' s'/\tn i s'.heap/\(∀b∈fp,H' b=none)/\W i n σ' H') ?_ m0 ⟨0,σ,H2,I2,st2,fun b hb=>(f2 b hb).1,w0⟩
 rintro n s3 ⟨i,σ3,H3,I3,st3,fr3,w3⟩
 rcases turn i n σ3 H3 w3 with⟨stop,qn⟩|⟨go,N,hN,step⟩
 ·refine wpAny_passesOwn hp (M3 (T.done X rfl rfl rfl hc i pins s3 σ3 H3 X.xe I3 (stat fr3) st3 stop) fun r s4 ⟨hr,I4⟩=> ?_)
  subst hr
  exact wpAny_execs_nil ⟨σ3,H3,I4,qn⟩
 ·refine wpAny_passesOwn hp (M3 (T.item X rfl rfl rfl hc i pins s3 σ3 H3 X.xe I3 (stat fr3) st3 go) fun r s4 ⟨u,hr,h4⟩=> ?_)
  subst hr
  refine wpAny_passesOwn hp (M3 h4 fun _ s5 ⟨x,H5,I5,r5,y5,st5,fr5⟩=> ?_)
  have I5':=I5.pinned (stat fr5) (T.obj _ _ st5)
  refine wpAny_passesOwn hp (M3 (hg _ s5 σ3 H5 x u _ I5' r5 (step x H5 y5)) fun _ s6 ⟨σ6,H6,I6,q6⟩=> ?_)
  refine wpAny_passesOwn hp (M3 (hb _ s6 σ6 H6 _ I6 q6) fun f s7 q7=> ?_)
  have again:∀{σ7:St} {H7:Hp},n4 X (pins++a6u fp s5.heap) σ7 H7 s7->N σ7 H7->∃m,m<n/\∃i σ' H',n4 X pins σ' H' s7/\tn i s7.heap/\(∀b∈fp,H' b=none)/\W i m σ' H':=fun {σ7 H7} I7 n7=>by
   obtain⟨m',hm,w7⟩:=hN σ7 H7 n7
   refine⟨m',hm,i+1,σ7,H7,I7.unpinned,T.keep _ _ _ st5 fun b hb o e=>(I7.pin (b,o) (At _ (At _ (a1n hb e)))).1,fun b hb=> ?_,w7⟩
   obtain⟨o,e,d⟩:=T.obj _ _ st5 b hb
   exact(I7.pin (b,o) (At _ (At _ (a1n hb e)))).2.1
  cases f with
  |next=>obtain⟨σ7,H7,I7,n7⟩:=q7;exact again I7 n7
  |cont=>obtain⟨σ7,H7,I7,n7⟩:=q7;exact again I7 n7
  |brk=>obtain⟨σ7,H7,I7,q7⟩:=q7;exact⟨σ7,H7,I7.unpinned,q7⟩
  |ret v=>obtain⟨x7,σ7,H7,I7,r7,q7⟩:=q7;exact⟨x7,σ7,H7,I7.unpinned,r7,q7⟩
end
theorem b3m{K:AD}{a:AB}{xs:List V}{g:TG}{tb:TS}{D:W2}{σ:St}{H:Hp}(Pv:Nat->St->Hp->Prop)(h0:Pv 0 σ H)(hl:∀i σ H,i<=xs.length->Pv i σ H->SqL K H a xs)
 (hs:∀i x σ H,xs[i]?=some x->Pv i σ H->g x σ H fun σ2 H2=>tb {D with nx:=Pv (i+1),ct:=Pv (i+1),bk:=D.nx} σ2 H2) (hd:∀σ H,Pv xs.length σ H->D.nx σ H):
 ∃W:Nat->Nat->St->Hp->Prop,(∃m,W 0 m σ H)/\∀i m σ H,W i m σ H->
  ((Itl K a).stop i H/\D.nx σ H)\/((Itl K a).go i H/\∃N:St->Hp->Prop,(∀σ' H',N σ' H'->∃m',m'<m/\W (i+1) m' σ' H')/\∀x H',(Itl K a).yld i H x H'->g x σ H' fun σ2 H2=>tb {D with nx:=N,ct:=N,bk:=D.nx} σ2 H2):=by
 refine⟨fun i m σ H=>m=xs.length - i/\i<=xs.length/\Pv i σ H,⟨xs.length,by simp,Nat.zero_le _,h0⟩, ?_⟩
 rintro i m σ H ⟨rfl,hi,p⟩
 have q:=hl i σ H hi p
 by_cases hlt:i<xs.length
 ·refine .inr ⟨⟨xs,xs[i],q,by simp [hlt]⟩,Pv (i+1),fun σ' H' p'=>⟨xs.length - (i+1),by lia,rfl,hlt,p'⟩,fun x H' y=> ?_⟩
  obtain⟨e,y⟩:=y
  subst e
  exact hs i x σ _ (y xs q) p
 ·have e:i=xs.length:=by lia
  subst e
  exact .inl ⟨⟨xs,q,AV _⟩,hd σ H p⟩
theorem b5h{K:AD}{a:AB}{xs:List V}{g:TG}{tb:TS}{D:W2}{σ:St}{H:Hp}(Pv:Nat->St->Hp->Prop)(h0:Pv 0 σ H)(hl:∀i σ H,i<=xs.length->Pv i σ H->SqT K H a xs)
 (hs:∀i x σ H,xs[i]?=some x->Pv i σ H->g x σ H fun σ2 H2=>tb {D with nx:=Pv (i+1),ct:=Pv (i+1),bk:=D.nx} σ2 H2) (hd:∀σ H,Pv xs.length σ H->D.nx σ H):
 ∃W:Nat->Nat->St->Hp->Prop,(∃m,W 0 m σ H)/\∀i m σ H,W i m σ H->
  ((Itt K a).stop i H/\D.nx σ H)\/((Itt K a).go i H/\∃N:St->Hp->Prop,(∀σ' H',N σ' H'->∃m',m'<m/\W (i+1) m' σ' H')/\∀x H',(Itt K a).yld i H x H'->g x σ H' fun σ2 H2=>tb {D with nx:=N,ct:=N,bk:=D.nx} σ2 H2):=by
 refine⟨fun i m σ H=>m=xs.length - i/\i<=xs.length/\Pv i σ H,⟨xs.length,by simp,Nat.zero_le _,h0⟩, ?_⟩
 rintro i m σ H ⟨rfl,hi,p⟩
 have q:=hl i σ H hi p
 by_cases hlt:i<xs.length
 ·refine .inr ⟨⟨xs,xs[i],q,by simp [hlt]⟩,Pv (i+1),fun σ' H' p'=>⟨xs.length - (i+1),by lia,rfl,hlt,p'⟩,fun x H' y=> ?_⟩
  obtain⟨e,y⟩:=y
  subst e
  exact hs i x σ _ (y xs q) p
 ·have e:i=xs.length:=by lia
  subst e
  exact .inl ⟨⟨xs,q,AV _⟩,hd σ H p⟩
theorem b18{lo:Int}{n:Nat}{g:TG}{tb:TS}{D:W2}{σ:St}{H:Hp}(Pv:Nat->St->Hp->Prop)(h0:Pv 0 σ H)
 (hs:∀i σ H,i<n->Pv i σ H->g (.int (lo+i)) σ H fun σ2 H2=>tb {D with nx:=Pv (i+1),ct:=Pv (i+1),bk:=D.nx} σ2 H2) (hd:∀σ H,Pv n σ H->D.nx σ H):
 ∃W:Nat->Nat->St->Hp->Prop,(∃m,W 0 m σ H)/\∀i m σ H,W i m σ H->
  ((Itr lo n).stop i H/\D.nx σ H)\/((Itr lo n).go i H/\∃N:St->Hp->Prop,(∀σ' H',N σ' H'->∃m',m'<m/\W (i+1) m' σ' H')/\∀x H',(Itr lo n).yld i H x H'->g x σ H' fun σ2 H2=>tb {D with nx:=N,ct:=N,bk:=D.nx} σ2 H2):=by
 refine⟨fun i m σ H=>m=n - i/\i<=n/\Pv i σ H,⟨n,by simp,Nat.zero_le _,h0⟩, ?_⟩
 rintro i m σ H ⟨rfl,hi,p⟩
 by_cases hlt:i<n
 ·refine .inr ⟨hlt,Pv (i+1),fun σ' H' p'=>⟨n - (i+1),by lia,rfl,hlt,p'⟩,fun x H' y=> ?_⟩
  obtain⟨e,y⟩:=y
  subst e y
  exact hs i σ _ hlt p
 ·have e:i=n:=by lia
  subst e
  exact .inl ⟨AV _,hd σ H p⟩
abbrev R2:=V->V->Hp->VK->Prop
def OpR(X:Cx)(f:AA->AA->Sem AA)(r:R2):Prop:=
 ∀(pins:List (AB×Obj)) (s:AC) (σ:St) (H:Hp) (x y:V) (v u:AA) (Q:VK),n4 X pins σ H s->z4 x v->z4 y u->r x y H Q->
  AI (model X.prog X.w) X.A (f v u) (EP X pins σ Q) X.xe s
def O7(X:Cx)(f:AA)(r:List V->Hp->VK->Prop):Prop:=
 ∀(pins:List (AB×Obj)) (s:AC) (σ:St) (H:Hp) (xs:List V) (us:List AA) (Q:VK),n4 X pins σ H s->u3 xs us->r xs H Q->
  AI (model X.prog X.w) X.A (call f us) (EP X pins σ Q) X.xe s
def b9n(X:Cx)(r:V->Hp->(Bool->Hp->Prop)->Prop):Prop:=
 ∀(pins:List (AB×Obj)) (s:AC) (σ:St) (H:Hp) (x:V) (v:AA) (Q:Bool->Hp->Prop),n4 X pins σ H s->z4 x v->r x H Q->
  AI (model X.prog X.w) X.A (truthy v) (TP X pins σ Q) X.xe s
def tOp(r:R2)(ta tb:TE):TE:=fun σ H Q=>ta σ H fun x H1=>tb σ H1 fun y H2=>r x y H2 Q
def rI(C:Int->Int->Prop)(g:Int->Int->V):R2:=fun x y H Q=>∃i j,x= .int i/\y= .int j/\C i j/\Q (g i j) H
def rI0(g:Int->Int->V):R2:=fun x y H Q=>∃i j,x= .int i/\y= .int j/\Q (g i j) H
section
variable {X:Cx}{a b c:AG}{ta tb tc:TE}{pos:Pos}
theorem b64(ha:PE X a ta)(hb:PE X b tb){pins:List (AB×Obj)}{s:AC}{σ:St}{H:Hp}{R:V->V->Hp->Prop}(I:n4 X pins σ H s)
 (h:ta σ H fun x H1=>tb σ H1 fun y H2=>R x y H2) {Q:AA->AC->Prop} {f:AA->AA->Sem AA}
 (hf:∀v u s2 x y H2,n4 X pins σ H2 s2->z4 x v->z4 y u->R x y H2->AI (model X.prog X.w) X.A (f v u) Q X.xe s2):
 AI (model X.prog X.w) X.A (eval a X.env) (fun v s₁=>AI (model X.prog X.w) X.A (eval b X.env) (fun u s₂=>AI (model X.prog X.w) X.A (f v u) Q X.xe s₂) X.xe s₁) X.xe s:=by
 refine M3 (ha pins s σ H _ I h) fun v s1 ⟨x,H1,I1,r1,q1⟩=> ?_
 refine M3 (hb pins s1 σ H1 _ I1 q1) fun u s2 ⟨y,H2,I2,r2,q2⟩=> ?_
 exact hf v u s2 x y H2 I2 r1 r2 q2
theorem b8Z{op:Operator}{r:R2}(ho:OpR X (binaryOp op) r)(ha:PE X a ta)(hb:PE X b tb):PE X (.BinOp a op b pos) (tOp r ta tb):=by
 intro pins s σ H Q I h
 exact wpAny_BinOp (b64 ha hb I h fun v u s2 x y H2 I2 rx ry q=>ho pins s2 σ H2 x y v u Q I2 rx ry q)
theorem opI{f:AA->AA->Sem AA}{C:Int->Int->Prop}{g:Int->Int->Int}
 (rule:∀(i j:Int) (t u:Tok) (s:AC) (Q:AA->AC->Prop) (E:AA->AC->Prop),C i j->Q (.int (g i j) s.toks) {s with toks:=s.toks+1}->AI (model X.prog X.w) X.A (f (.int i t) (.int j u)) Q E s):
 OpR X f (rI C fun i j=> .int (g i j)):=by
 intro pins s σ H x y v u Q I rx ry h
 obtain⟨i,j,rfl,rfl,hc,q⟩:=h
 obtain⟨t,rfl⟩:=rx
 obtain⟨t',rfl⟩:=ry
 exact rule i j t t' s _ _ hc ⟨.int (g i j),H,I.tok _,⟨_,rfl⟩,q⟩
theorem b7I{f:AA->AA->Sem AA}{g:Int->Int->Int}
 (rule:∀(i j:Int) (t u:Tok) (s:AC) (Q:AA->AC->Prop) (E:AA->AC->Prop),Q (.int (g i j) s.toks) {s with toks:=s.toks+1}->AI (model X.prog X.w) X.A (f (.int i t) (.int j u)) Q E s):
 OpR X f (rI0 fun i j=> .int (g i j)):=by
 intro pins s σ H x y v u Q I rx ry h
 obtain⟨i,j,rfl,rfl,q⟩:=h
 obtain⟨t,rfl⟩:=rx
 obtain⟨t',rfl⟩:=ry
 exact rule i j t t' s _ _ ⟨.int (g i j),H,I.tok _,⟨_,rfl⟩,q⟩
theorem b7H{f:AA->AA->Sem AA}{g:Int->Int->Bool}
 (rule:∀(i j:Int) (t u:Tok) (s:AC) (Q:AA->AC->Prop) (E:AA->AC->Prop),Q (.bool (g i j)) s->AI (model X.prog X.w) X.A (f (.int i t) (.int j u)) Q E s):
 OpR X f (rI0 fun i j=> .bl (g i j)):=by
 intro pins s σ H x y v u Q I rx ry h
 obtain⟨i,j,rfl,rfl,q⟩:=h
 obtain⟨t,rfl⟩:=rx
 obtain⟨t',rfl⟩:=ry
 exact rule i j t t' s _ _ ⟨.bl (g i j),H,I,rfl,q⟩
def a8W(i j:Int):Prop:=0<j/\j<1073741824
def b1S(i j:Int):Prop:=0<=j/\j<=1000000/\i.natAbs<2 ^ 64
def a7X(i j:Int):Prop:=(-(2 ^ 64)<i/\i<2 ^ 64)\/(-(2 ^ 64)<j/\j<2 ^ 64)
theorem a7X.ok{i j:Int}(h:a7X i j):IntMulOk i j:=by
 rcases h with⟨h1,h2⟩|⟨h1,h2⟩
 ·exact .of_left (intBits_le_64 h1 h2)
 ·exact .of_right (intBits_le_64 h1 h2)
theorem b7J:OpR X (binaryOp .Add) (rI0 fun i j=> .int (i+j)):=b7I fun _ _ _ _ _ _ _ q=>add_int q
theorem b7Q:OpR X (binaryOp .Sub) (rI0 fun i j=> .int (i - j)):=b7I fun _ _ _ _ _ _ _ q=>sub_int q
theorem b7N:OpR X (binaryOp .Mult) (rI a7X fun i j=> .int (i*j)):=opI fun _ _ _ _ _ _ _ hc q=>mul_int q hc.ok
theorem b5T:OpR X (binaryOp .FloorDiv) (rI a8W fun i j=> .int (i / j)):=opI fun i j _ _ _ _ _ hc q=>by
 have h1:(0:Int)<j:=hc.1
 have h2:j<1073741824:=hc.2
 exact floordiv_int (by lia) (by rw [Int.fdiv_eq_ediv_of_nonneg i (by lia)];exact q) (.inl (PyProof.noPylong_small (by lia)))
theorem b7M:OpR X (binaryOp .Mod) (rI (fun _ j=>0<j) fun i j=> .int (i % j)):=opI fun i j _ _ _ _ _ hc q=>by
 have h1:(0:Int)<j:=hc
 exact mod_int' (by lia) (by rw [Int.fmod_eq_emod_of_nonneg i (by lia)];exact q)
theorem b7O:OpR X (binaryOp .Pow) (rI b1S fun i j=> .int (i ^ j.toNat)):=opI fun _ _ _ _ _ _ _ hc q=>pow_int_small hc.1 hc.2.1 hc.2.2 q
theorem b5q:OpR X (inplaceOp .Add) (rI0 fun i j=> .int (i+j)):=b7I fun _ _ _ _ _ _ _ q=>iadd_int q
end
section
variable {X:Cx}{a b c:AG}{ta tb tc:TE}{pos:Pos}
theorem a5I{pins:List (AB×Obj)}{σ:St}{H:Hp}{s:AC}{Q:VK}{k k':Bool}(I:n4 X pins σ H s)(q:Q (.bl k) H)(e:k=k'):EP X pins σ Q (.bool k') s:=by
 subst e
 exact⟨.bl k,H,I,rfl,q⟩
theorem b8V:OpR X (compareOp .Lt) (rI0 fun i j=> .bl (decide (i<j))):=b7H fun _ _ _ _ _ _ _ q=>lt_int q
theorem b8U:OpR X (compareOp .LtE) (rI0 fun i j=> .bl (decide (i<=j))):=b7H fun _ _ _ _ _ _ _ q=>le_int q
theorem b8T:OpR X (compareOp .Gt) (rI0 fun i j=> .bl (decide (j<i))):=b7H fun _ _ _ _ _ _ _ q=>gt_int q
theorem b2z:OpR X (compareOp .Lt) (fun x y H Q=>∃i j,x= .str i/\y= .str j/\Q (.bl (decide (i.cps.toList<j.cps.toList))) H):=by
 intro pins s σ H x y v u Q I rx ry h
 obtain⟨i,j,rfl,rfl,q⟩:=h
 obtain⟨t,rfl⟩:=rx
 obtain⟨t',rfl⟩:=ry
 exact lt_str (a5I I q rfl)
theorem b2y:OpR X (compareOp .In) (fun x y H Q=>∃i j,x= .str i/\y= .str j/\Q (.bl (!(Builtin.Str.occurrences j i 0 j.length 1).isEmpty)) H):=by
 intro pins s σ H x y v u Q I rx ry h
 obtain⟨i,j,rfl,rfl,q⟩:=h
 obtain⟨t,rfl⟩:=rx
 obtain⟨t',rfl⟩:=ry
 exact in_str (a5I I q rfl)
theorem b7L:OpR X (compareOp .Is) (fun x y H Q=>y= .non/\Q (.bl (decide (x= .non))) H):=by
 intro pins s σ H x y v u Q I rx ry h
 obtain⟨rfl,q⟩:=h
 cases ry
 refine is_none_gen (a5I I q ?_)
 cases x<;>first
  |(cases rx;rfl)
  |(obtain⟨t,rfl⟩:=rx;rfl)
theorem b5U:OpR X (compareOp .IsNot) (fun x y H Q=>y= .non/\Q (.bl (!decide (x= .non))) H):=by
 intro pins s σ H x y v u Q I rx ry h
 obtain⟨rfl,q⟩:=h
 cases ry
 refine isnot_none_gen (a5I I q ?_)
 cases x<;>first
  |(cases rx;rfl)
  |(obtain⟨t,rfl⟩:=rx;rfl)
theorem a8F:OpR X (compareOp .NotIn) (fun x y H Q=>∃i j,x= .str i/\y= .str j/\Q (.bl (!(!(Builtin.Str.occurrences j i 0 j.length 1).isEmpty))) H):=by
 intro pins s σ H x y v u Q I rx ry h
 obtain⟨i,j,rfl,rfl,q⟩:=h
 obtain⟨t,rfl⟩:=rx
 obtain⟨t',rfl⟩:=ry
 exact notIn_str (a5I I q rfl)
theorem OpR.or{f:AA->AA->Sem AA}{r r':R2}(h:OpR X f r)(h':OpR X f r'):OpR X f (fun x y H Q=>r x y H Q\/r' x y H Q):=by
 intro pins s σ H x y v u Q I rx ry q
 rcases q with q|q
 ·exact h pins s σ H x y v u Q I rx ry q
 ·exact h' pins s σ H x y v u Q I rx ry q
theorem t6(b:AG){op:CmpOp}(h:op≠.In:=by decide)(h2:op≠.NotIn:=by decide):behindInMarks op b=false:=by
 have e1:(op==CmpOp.In)=false:=by cases op<;>first|rfl|exact absurd rfl h
 have e2:(op==CmpOp.NotIn)=false:=by cases op<;>first|rfl|exact absurd rfl h2
 cases b<;>simp [behindInMarks,e1,e2]
theorem b53{op:CmpOp}{r:R2}(ho:OpR X (compareOp op) r)(ha:PE X a ta)(hb:PE X b tb)(hm:behindInMarks op b=false):PE X (.Compare a [op] [b] pos) (tOp r ta tb):=by
 intro pins s σ H Q I h
 exact wpAny_Compare1 (b64 ha hb I h fun v u s2 x y H2 I2 rx ry q=>ho pins s2 σ H2 x y v u Q I2 rx ry q) hm
def b6L(t:TE):TT:=fun σ H Q=>t σ H fun x H'=>∃k,x= .bl k/\Q k H'
theorem b6b{op:CmpOp}{r:R2}(ho:OpR X (compareOp op) r)(ha:PE X a ta)(hb:PE X b tb)(hm:behindInMarks op b=false):PT X (.Compare a [op] [b] pos) (b6L (tOp r ta tb)):=by
 intro pins s σ H Q I h
 refine wpAny_isTrue_Compare1 (M3 (ha pins s σ H _ I h) fun v s1 ⟨x,H1,I1,r1,q1⟩=>M3 (hb pins s1 σ H1 _ I1 q1) fun u s2 ⟨y,H2,I2,r2,q2⟩=>
  M3 (ho pins s2 σ H2 x y v u _ I2 r1 r2 q2) fun c s3 ⟨z,H3,I3,r3,k,e,q3⟩=> ?_) hm
 subst e
 cases r3
 exact wpAny_truthy_bool ⟨H3,I3,q3⟩
def b01(r r':R2)(ta tb tc:TE):TE:=fun σ H Q=>ta σ H fun x H1=>tb σ H1 fun y H2=>r x y H2 fun z H3=>∃k,z= .bl k/\
 (if k=true then tc σ H3 fun w' H4=>r' y w' H4 Q else Q (.bl false) H3)
theorem b38{op op':CmpOp}{r r':R2}(ho:OpR X (compareOp op) r)(ho':OpR X (compareOp op') r')(ha:PE X a ta)(hb:PE X b tb)(hc:PE X c tc)
 (hm:lastMarks [op,op'] [b,c]=false:=by with_unfolding_all rfl):PE X (.Compare a [op,op'] [b,c] pos) (b01 r r' ta tb tc):=by
 intro pins s σ H Q I h
 refine Compare_chain (M3 (ha pins s σ H _ I h) fun v s1 ⟨x,H1,I1,r1,q1⟩=>chain_link (M3 (hb pins s1 σ H1 _ I1 q1) fun u s2 ⟨y,H2,I2,r2,q2⟩=>
  M3 (ho pins s2 σ H2 x y v u _ I2 r1 r2 q2) fun d s3 ⟨z,H3,I3,r3,k,e,q3⟩=> ?_)) hm
 subst e
 cases r3
 refine wpAny_truthy_bool ?_
 cases k with
 |false=>exact ite_ff ⟨.bl false,H3,I3,rfl,q3⟩
 |true=>exact ite_tt (chain_last (M3 (hc pins s3 σ H3 _ I3 q3) fun w' s4 ⟨z',H4,I4,r4,q4⟩=>ho' pins s4 σ H4 y z' u w' Q I4 r2 r4 q4))
theorem b4l{op op':CmpOp}{r r':R2}(ho:OpR X (compareOp op) r)(ho':OpR X (compareOp op') r')(ha:PE X a ta)(hb:PE X b tb)(hc:PE X c tc)
 (hm:lastMarks [op,op'] [b,c]=false:=by with_unfolding_all rfl):PT X (.Compare a [op,op'] [b,c] pos) (b6L (b01 r r' ta tb tc)):=by
 intro pins s σ H Q I h
 refine isTrue_chain (M3 (ha pins s σ H _ I h) fun v s1 ⟨x,H1,I1,r1,q1⟩=>test_link (M3 (hb pins s1 σ H1 _ I1 q1) fun u s2 ⟨y,H2,I2,r2,q2⟩=>
  M3 (ho pins s2 σ H2 x y v u _ I2 r1 r2 q2) fun d s3 ⟨z,H3,I3,r3,k,e,q3⟩=> ?_)) hm
 subst e
 cases r3
 refine wpAny_truthy_bool ?_
 cases k with
 |false=>
  obtain⟨k',e',q'⟩:=q3
  cases e'
  exact ite_ff ⟨H3,I3,q'⟩
 |true=>
  refine ite_tt (test_last (M3 (hc pins s3 σ H3 _ I3 q3) fun w' s4 ⟨z',H4,I4,r4,q4⟩=>M3 (ho' pins s4 σ H4 y z' u w' _ I4 r2 r4 q4) fun d' s5 ⟨z2,H5,I5,r5,k2,e2,q5⟩=> ?_))
  subst e2
  cases r5
  exact wpAny_truthy_bool ⟨H5,I5,q5⟩
def b6T(K:AD)(x:V)(H:Hp)(k:Bool):Prop:=
 match x with
 | .non=>k=false
 | .bl b=>k=b
 | .int i=>k=(i !=0)
 | .str y=>y.length<=AO/\k=((y.length:Int) !=0)
 | .byt y=>y.size<=AO/\k=((y.size:Int) !=0)
 | .ref p=>(∃xs,SqL K H p xs/\k= !xs.isEmpty)\/(∃xs,SqT K H p xs/\k= !xs.isEmpty)\/∃kvs,H p=some (.dK kvs)/\k= !kvs.isEmpty
 |_=>False
theorem b0s{κ:Type}{kvs:List (κ×V)}{vs:List (κ×AA)}(r:KV kvs vs):(!vs.isEmpty)= !kvs.isEmpty:=by
 cases r<;>rfl
theorem a5S{xs:List V}{its:List AA}(r:u3 xs its):(!its.toArray.isEmpty)= !xs.isEmpty:=by
 cases r<;>simp
theorem a4t:(AO:Nat)<2 ^ 63:=by rw [sizeLine_eq];decide
theorem b8i:b9n X (fun x H Q=>∃k,b6T X.K x H k/\Q k H):=by
 intro pins s σ H x v Q I rx h
 obtain⟨k,e,q⟩:=h
 have hl:=a4t
 have hs:AO=16777216:=sizeLine_eq
 cases x with
 |non=>
  cases rx
  have e':k=false:=e
  subst e'
  exact truthy_none ⟨H,I,q⟩
 |bl b=>
  cases rx
  have e':k=b:=e
  subst e'
  exact wpAny_truthy_bool ⟨H,I,q⟩
 |int i=>
  obtain⟨t,rfl⟩:=rx
  have e':k=(i !=0):=e
  subst e'
  exact PySem.P.truthy_int ⟨H,I,q⟩
 |str y=>
  obtain⟨t,rfl⟩:=rx
  obtain⟨hy,e'⟩:y.length<=AO/\k=((y.length:Int) !=0):=e
  subst e'
  exact PySem.P.truthy_str (by lia) ⟨H,I.tok _,q⟩
 |byt y=>
  obtain⟨t,rfl⟩:=rx
  obtain⟨hy,e'⟩:y.size<=AO/\k=((y.size:Int) !=0):=e
  subst e'
  exact PySem.W.truthy_bytes (by lia) ⟨H,I.tok _,q⟩
 |ref p=>
  cases rx
  have e':(∃xs,SqL X.K H p xs/\k= !xs.isEmpty)\/(∃xs,SqT X.K H p xs/\k= !xs.isEmpty)\/∃kvs,H p=some (.dK kvs)/\k= !kvs.isEmpty:=e
  rcases e' with⟨xs,hx,e'⟩|⟨xs,hx,e'⟩|⟨kvs,hx,e'⟩
  ·subst e'
   obtain⟨its,r,pl,hz⟩:=I.list hx
   have hlen:=r.length
   exact wpAny_truthy_list pl.isList (by simp only [Am];lia) ⟨H,I.tok _,by rw [a5S r];exact q⟩
  ·subst e'
   obtain⟨its,r,pl,hz⟩:=I.tuple hx
   have hlen:=r.length
   exact truthy_tuple pl (by simp only [Am];lia) ⟨H,I.tok _,by rw [a5S r];exact q⟩
  ·subst e'
   obtain⟨hz,hS,vs,r,m⟩:kvs.length<=AO/\(p==sysModules)=false/\∃vs,KV kvs vs/\s.heap.DictOf (a5l X.prog X.w) p vs:=I.hok p _ hx
   have hlen:kvs.length=vs.length:=Paired.length r
   exact wpAny_truthy_dict hS m (by lia) ⟨H,I.tok _,by rw [b0s r];exact q⟩
 |_=>exact(show False from e).elim
theorem b4m(ha:PE X a ta)(he:∀whole,isTrue a X.env whole=(do let v<-whole;standAt a.pos;holding [v] (truthy v))):
 PT X a (fun σ H Q=>ta σ H fun x H'=>∃k,b6T X.K x H' k/\Q k H'):=by
 intro pins s σ H Q I h
 exact isTrue_plain (M3 (ha pins s σ H _ I h) fun v s1 ⟨x,H1,I1,r1,q1⟩=>b8i pins s1 σ H1 x v Q I1 r1 q1) (he _)
theorem b0M:OpR X (binaryOp .Add) (fun x y H Q=>∃i j,x= .str i/\y= .str j/\i.length+j.length<=AO/\Q (.str (i++j)) H):=by
 intro pins s σ H x y v u Q I rx ry h
 obtain⟨i,j,rfl,rfl,hz,q⟩:=h
 obtain⟨t,rfl⟩:=rx
 obtain⟨t',rfl⟩:=ry
 exact add_str (fun t' tk=>⟨.str (i++j),H,I.tok _,⟨_,rfl⟩,q⟩) hz
theorem a3e{x:V}{us:List AA}(r:u3 [x] us):∃u,us=[u]/\z4 x u:=by
 cases r with
 |cons r1 r2=>cases r2;exact⟨_,rfl,r1⟩
theorem b9i{x y:V}{us:List AA}(r:u3 [x,y] us):∃u w',us=[u,w']/\z4 x u/\z4 y w':=by
 cases r with
 |cons r1 r2=>
  cases r2 with
  |cons r3 r4=>cases r4;exact⟨_,_,rfl,r1,r3⟩
theorem b1Z(hc:X.calm=true):O7 X (.builtin "min") (fun xs H Q=>∃i j,xs=[.int i,.int j]/\Q (.int (if j<i then j else i)) H):=by
 intro pins s σ H xs us Q I r h
 obtain⟨i,j,rfl,q⟩:=h
 obtain⟨u,w',rfl,⟨t,rfl⟩,⟨t',rfl⟩⟩:=b9i r
 refine min_two_ints (I.ok.hd hc) fun h' tk k=>⟨_,H,I.kept k, ?_,q⟩
 by_cases hj:j<i
 ·rw [if_pos hj,if_pos hj];exact⟨_,rfl⟩
 ·rw [if_neg hj,if_neg hj];exact⟨_,rfl⟩
end
structure a96(h:Heap)(x dx C:AB)(mA:Str->Option AA):Prop where
 obj:h.get? x=some (PySem.W.instObj C dx)
 ns:h.Ns1 dx mA
 ne:dx≠x
theorem b2h{h:Heap}{dx:AB}{mA:Str->Option AA}(n:h.Ns1 dx mA):∃od,h.get? dx=some od/\∀name,PySem.W.lookIn name od=some (mA name):=by
 obtain⟨o,es,ep,ho,hd,hk,_,hm⟩:=n
 refine⟨o,ho,fun name=> ?_⟩
 have e:=hm name
 unfold nsFind findBy at e
 rw [<-Array.find?_toList] at e
 unfold PySem.W.lookIn
 rw [hd]
 dsimp only
 split
 ·rename_i y q
  rw [q] at e
  exact congrArg some e
 ·rename_i q
  rw [q] at e
  have a:es.toList.any (·.refKey)=false:=by
   rw [List.any_eq_false]
   intro y hy
   obtain⟨z,t,hkey⟩:=hk y (Array.mem_toList_iff.mp hy)
   simp [DictEntry.refKey,hkey]
  have a':¬es.toList.any (·.refKey)=true:=by rw [a];exact Aq
  rw [if_neg a']
  exact congrArg some e
theorem a96.look{h:Heap}{x dx C:AB}{mA:Str->Option AA}(I:a96 h x dx C mA):∃od,PySem.W.InstAt h x (PySem.W.instObj C dx) C (some od)/\∀name,PySem.W.lookIn name od=some (mA name):=
 let ⟨od,ho,hl⟩:=b2h I.ns
 ⟨od,⟨I.obj,rfl,rfl,ho⟩,hl⟩
section
variable {prog:AL}{w:AJ}{A:AK}{E:AA->AC->Prop}{s:AC}{K:AD}{x dx C f:AB}{mA:Str->Option AA}{name:Str}{v:AA}
theorem b5n{expr:Bool}{Q:AA->AC->Prop}(X:K.In s.heap)(I:a96 s.heap x dx C mA)(hg:PySem.W.plainGet K C name=true)(hh:PySem.W.hasDictIn K C=true)
 (ha:PySem.W.findIn K (.ref C) name=some none) (hv:mA name=some v) (hv':PySem.W.handedIn v=true) (h:Q v {s with toks:=s.toks+1}):
 AI (model prog w) A (getAttr (.ref x) name expr) Q E s:=by
 obtain⟨od,J,hl⟩:=I.look
 exact PySem.W.get_value X J (PySem.W.plainGet_of hg).1 (PySem.W.findObj_own hh ha rfl (by rw [hl,hv])) hv' h
theorem b3v{pl:Sem Bool}{Q:AA×List AA->AC->Prop}(X:K.In s.heap)(I:a96 s.heap x dx C mA)(hg:PySem.W.plainGet K C name=true)
 (hf:PySem.W.findIn K (.ref C) name=some (some (.ref f))) (ht:PySem.W.isFn K (.ref f)=true) (hv:mA name=none) (h:Q (.ref f,[.ref x]) s):
 AI (model prog w) A (getMethod (.ref x) name pl) Q E s:=by
 obtain⟨od,J,hl⟩:=I.look
 exact PySem.W.method_fn X J (PySem.W.plainGet_of hg).1 (PySem.W.plainGet_of hg).2 hf (beq_iff_eq.mp ht) (by show(PySem.W.lookIn name od).map (·.isSome)=some false;rw [hl,hv];rfl) h
theorem b6j{ns:List Str}{Q:Unit->AC->Prop}(X:K.In s.heap)(I:a96 s.heap x dx C mA)
 (hs:PySem.W.findIn K (.ref C) "__setattr__"=some (some (.builtin "object.__setattr__"))) (hp:PySem.W.plainOver K C=true) (ht:PySem.W.takerIn K C name=some none) (hh:PySem.W.hasDictIn K C=true)
 (hw:PySem.Within mA ns) (hsz:ns.length<=AO)
 (h:∀h',a96 h' x dx C (fun y=>if y=name then some v else mA y)->Heap.SameBut dx s.heap h'->Q () {s with heap:=h',toks:=s.toks+2}):
 AI (model prog w) A (setAttr (.ref x) name v) Q E s:=by
 obtain⟨od,J,hl⟩:=I.look
 refine PySem.W.set_plain X J hs (PySem.W.osa_open (s:={s with toks:=s.toks+1}) (r:=none) X J hp ht fun b=> ?_)
 obtain⟨cd,hc,hd'⟩:=PySem.W.any_some hh
 have hx:s.heap.get? x=some ⟨.ref C,some dx,.plain, #[]⟩:=I.obj
 refine AF (AS (AF (AF (wpAny_loadPart hx (AF (PySem.W.Looks.here (s:={s with toks:=s.toks+1}) (PySem.W.looks_clsIn X hc) ?_))))))
 rw [hd']
 refine AS (a:=some dx) (AF (AS (AF ?_)))
 refine wpAny_nsSet1 (s:={s with toks:=s.toks+1}) I.ns fun h' hn2 hs2=> ?_
 obtain⟨oD,esD,epD,hoD,hdD,hcD⟩:=hn2.count (PySem.Within.cons name v hw)
 refine AF (wpAny_lookBehind hoD (by rw [hdD];exact pastItsLine_dict (Nat.le_trans hcD (by rw [AU];lia))) ?_)
 exact AS (h _ ⟨(hs2.2 _ (Ne.symm I.ne)).trans I.obj,hn2,I.ne⟩ hs2)
theorem b3L{R:Result->AC->Prop}{vs:List AA}{kw:List (Str×AA)}(X:K.In s.heap)(hm:PySem.W.makesIn K C=true)
 (hi:PySem.W.findIn K (.ref C) "__init__"=some (some (.ref f))) (hf:PySem.W.typeIn K (.ref f)=some (.type "function"))
 (h:codeAny (model prog w) (A.under (.builtin "type.__call__" ⟨.ref C::vs,kw⟩)) (.call (.ref f) ⟨.ref (s.heap.objs.size+1)::vs,kw⟩) (PySem.W.InitBack (s.heap.objs.size+1) R)
  {s with heap:=(s.heap.push PySem.W.emptyDict).push (PySem.W.instObj C s.heap.objs.size)}):
 codeAny (model prog w) A (.call (.ref C) ⟨vs,kw⟩) R s:=by
 obtain⟨hh,g,d,t,os⟩:=s
 exact PySem.W.make_core (PySem.W.makes_of X hm) (PySem.W.looks_findIn X hi) (fun self=>PySem.W.bind_fn X self hf) (.inl rfl) h
end
def a2l(f:Str)(v:V):List (Str×V)->List (Str×V)
 |[]=>[(f,v)]
 |(g,x)::r=>if g=f then(g,v)::r else(g,x)::a2l f v r
theorem a4Q(f g:Str)(v:V):∀fs:List (Str×V),(a2l f v fs).lookup g=if g=f then some v else fs.lookup g
 |[]=>by
  show List.lookup g [(f,v)]=_
  by_cases h:g=f
  ·have hb:(g==f)=true:=beq_iff_eq.mpr h
   simp only [List.lookup,hb,if_pos h]
  ·have hb:(g==f)=false:=beq_eq_false_iff_ne.mpr h
   simp only [List.lookup,hb,if_neg h]
 |(k,x)::r=>by
  have ih:=a4Q f g v r
  rw [show a2l f v ((k,x)::r)=(if k=f then(k,v)::r else(k,x)::a2l f v r) from rfl]
  by_cases hk:k=f
  ·rw [if_pos hk]
   by_cases h:g=k
   ·have hb:(g==k)=true:=beq_iff_eq.mpr h
    simp only [List.lookup,hb,if_pos (h.trans hk)]
   ·have hb:(g==k)=false:=beq_eq_false_iff_ne.mpr h
    simp only [List.lookup,hb,if_neg (fun e:g=f=>h (e.trans hk.symm))]
  ·rw [if_neg hk]
   by_cases h:g=k
   ·have hb:(g==k)=true:=beq_iff_eq.mpr h
    simp only [List.lookup,hb,if_neg (fun e:g=f=>hk (h.symm.trans e))]
   ·have hb:(g==k)=false:=beq_eq_false_iff_ne.mpr h
    simp only [List.lookup,hb]
    exact ih
theorem a4r(f:Str)(v:V):∀fs:List (Str×V),f∈(a2l f v fs).map (·.1)/\∀g,g∈fs.map (·.1)->g∈(a2l f v fs).map (·.1)
 |[]=>⟨by simp [a2l],fun g h=>by simp at h⟩
 |(k,x)::r=>by
  obtain⟨i1,i2⟩:=a4r f v r
  rw [show a2l f v ((k,x)::r)=(if k=f then(k,v)::r else(k,x)::a2l f v r) from rfl]
  by_cases hk:k=f
  ·rw [if_pos hk]
   subst hk
   exact⟨by simp,fun g h=>by simpa using h⟩
  ·rw [if_neg hk]
   refine⟨?_,fun g h=> ?_⟩
   ·rw [AM]
    exact Aj _ i1
   ·rw [AM] at h ⊢
    rcases Ak.mp h with e|e
    ·exact Ak.mpr (.inl e)
    ·exact Aj _ (i2 g e)
theorem a4P(f:Str)(v:V):∀fs:List (Str×V),(a2l f v fs).length<=fs.length+1
 |[]=>by simp [a2l]
 |(k,x)::r=>by
  have ih:=a4P f v r
  rw [show a2l f v ((k,x)::r)=(if k=f then(k,v)::r else(k,x)::a2l f v r) from rfl]
  by_cases hk:k=f
  ·rw [if_pos hk,AU,AU];lia
  ·rw [if_neg hk,AU,AU];lia
theorem a2P.some_of{v:V}{o:Option AA}(r:a2P (some v) o):∃u,o=some u/\z4 v u:=by
 cases o with
 |none=>exact(show False from r).elim
 |some u=>exact⟨u,rfl,r⟩
theorem a2P.none_of{o:Option AA}(r:a2P none o):o=none:=by
 cases o with
 |none=>rfl
 |some u=>exact(show False from r).elim
theorem b2a{v:V}{u:AA}(r:z4 v u):PySem.W.handedIn u=true:=by
 cases v with
 |non=>cases(show u=Value.none from r);rfl
 |bl b=>cases(show u=Value.bool b from r);rfl
 |int i=>obtain⟨t,e⟩:=(show ∃t,u=Value.int i t from r);cases e;rfl
 |str x=>obtain⟨t,e⟩:=(show ∃t,u=Value.str x t from r);cases e;rfl
 |byt b=>obtain⟨t,e⟩:=(show ∃t,u=Value.bytes b t from r);cases e;rfl
 |flt b=>obtain⟨t,e⟩:=(show ∃t,u=Value.float b t from r);cases e;rfl
 |ref a=>cases(show u=Value.ref a from r);rfl
 |ty n=>cases(show u=Value.type n from r);rfl
section
variable {P:AL}{w:AJ}{H H':Hp}{h h':Heap}{a C dx:AB}{fs fs':List (Str×V)}
theorem a8u(hok:HOk P w H h)(e:H a=some (.ins C dx fs)):∃mA,a96 h a dx C mA/\(∀f,a2P (fs.lookup f) (mA f))/\PySem.Within mA (fs.map (·.1))/\fs.length<=1000/\H dx=some (.own a):=by
 obtain⟨d,z,ne,ob,mA,n,r,q⟩:=(show O8 P w H h a (.ins C dx fs) from hok a _ e)
 exact⟨mA,⟨ob,n,ne⟩,r,q,z,d⟩
end
structure Cls(K:AD)(C:AB):Prop where
 pg:PySem.W.plainGet K C Str.empty=true
 hd:PySem.W.hasDictIn K C=true
 po:PySem.W.plainOver K C=true
 sa:PySem.W.findIn K (.ref C) "__setattr__"=some (some (.builtin "object.__setattr__"))
theorem Cls.get{K:AD}{C:AB}(c:Cls K C)(f:Str):PySem.W.plainGet K C f=true:=c.pg
def B6(K:AD)(C:AB)(f:Str):Prop:=PySem.W.findIn K (.ref C) f=some none
theorem B6.taker{K:AD}{C:AB}{f:Str}(n:B6 K C f):PySem.W.takerIn K C f=some none:=by
 unfold PySem.W.takerIn
 rw [show PySem.W.findIn K (.ref C) f=some none from n]
 rfl
structure b8s(K:AD)(C:AB)(m:Str)(f:AB):Prop where
 at_:PySem.W.findIn K (.ref C) m=some (some (.ref f))
 fn:PySem.W.isFn K (.ref f)=true
 kp:PySem.W.keepIn K (.ref f)=true
section
variable {X:Cx}{pins:List (AB×Obj)}{σ:St}{H:Hp}{s:AC}{a C dx:AB}{fs:List (Str×V)}{f:Str}{v:V}{A:AK}{E:AA->AC->Prop}
theorem b0q{b:Bool}{Q:AA->AC->Prop}(I:n4 X pins σ H s)(e:H a=some (.ins C dx fs))(c:Cls X.K C)(n:B6 X.K C f)(l:fs.lookup f=some v)
 (h:∀u s',n4 X pins σ H s'->z4 v u->Q u s'):AI (model X.prog X.w) A (getAttr (.ref a) f b) Q E s:=by
 obtain⟨mA,O,r,_,_,_⟩:=a8u I.hok e
 obtain⟨u,hu,ru⟩:=a2P.some_of (v:=v) (o:=mA f) (by rw [<-l];exact r f)
 exact b5n I.kIn O (c.get f) c.hd n hu (b2a ru) (h u _ (I.tok _) ru)
theorem b0r{m:Str}{g:AB}{pl:Sem Bool}{Q:AA×List AA->AC->Prop}(I:n4 X pins σ H s)(e:H a=some (.ins C dx fs))(c:Cls X.K C)(k:b8s X.K C m g)(l:fs.lookup m=none)
 (h:Q (.ref g,[.ref a]) s):AI (model X.prog X.w) A (getMethod (.ref a) m pl) Q E s:=by
 obtain⟨mA,O,r,_,_,_⟩:=a8u I.hok e
 have hn:mA m=none:=a2P.none_of (by rw [<-l];exact r m)
 exact b3v I.kIn O (c.get m) k.at_ k.fn hn h
theorem b0Y{y:V}{u:AA}{Q:Unit->AC->Prop}(I:n4 X pins σ H s)(e:H a=some (.ins C dx fs))(c:Cls X.K C)(n:B6 X.K C f)(hl:fs.length<1000)(ry:z4 y u)
 (h:∀s',n4 X pins σ (upd H a (.ins C dx (a2l f y fs))) s'->Q () s'):AI (model X.prog X.w) A (setAttr (.ref a) f u) Q E s:=by
 obtain⟨mA,O,r,wi,_,ho⟩:=a8u I.hok e
 have hz:(fs.map (·.1)).length<=AO:=by rw [An,sizeLine_eq];lia
 refine b6j I.kIn O c.sa c.po n.taker c.hd wi hz fun h' O' sb=>h _ ?_
 have hd:∃o,h'.get? dx=some o:=let ⟨o,_,_,e',_⟩:=O'.ns;⟨o,e'⟩
 refine I.write (x:=a) (e:=dx) (by rw [e];exact True.intro) (.inr ho) (fun b q hb z=>(sb.2 b hb).trans z) hd ?_
 refine⟨by rw [o8 O.ne];exact ho, ?_,O.ne,O'.obj,_,O'.ns,fun g=> ?_,fun g hg=> ?_⟩
 ·have:=a4P f y fs;lia
 ·show a2P ((a2l f y fs).lookup g) (if g=f then some u else mA g)
  rw [a4Q]
  by_cases q:g=f
  ·rw [if_pos q,if_pos q];exact ry
  ·rw [if_neg q,if_neg q];exact r g
 ·by_cases q:g=f
  ·rw [q];exact(a4r f y fs).1
  ·refine(a4r f y fs).2 g (wi g fun z=>hg ?_)
   show(if g=f then some u else mA g)=none
   rw [if_neg q];exact z
theorem n4.made(I:n4 X pins σ H s):n4 X pins σ (upd (upd H s.heap.objs.size (.own (s.heap.objs.size+1))) (s.heap.objs.size+1) (.ins C s.heap.objs.size []))
 {s with heap:=(s.heap.push PySem.W.emptyDict).push (PySem.W.instObj C s.heap.objs.size)}:=by
 have e1:(s.heap.push PySem.W.emptyDict).get? s.heap.objs.size=some PySem.W.emptyDict:=Ar s.heap rfl
 have e2:((s.heap.push PySem.W.emptyDict).push (PySem.W.instObj C s.heap.objs.size)).get? (s.heap.objs.size+1)=some (PySem.W.instObj C s.heap.objs.size):=by
  have:=Ar (s.heap.push PySem.W.emptyDict) (o:=PySem.W.instObj C s.heap.objs.size) rfl
  rwa [Heap.size_push] at this
 have e3:(s.heap.push PySem.W.emptyDict).Ns s.heap.objs.size (fun _=>none):=⟨PySem.W.emptyDict, #[],_,e1,rfl,(fun e he=>absurd he (by simp)),fun _=>rfl⟩
 have I1:=I.laid (a:=s.heap.objs.size) (o:= .own (s.heap.objs.size+1)) (h':=s.heap.push PySem.W.emptyDict) (t':=s.toks) (fun b u q=>Ah _ q) (AV _) ⟨_,e1⟩
 refine I1.laid (a:=s.heap.objs.size+1) (o:= .ins C s.heap.objs.size []) (t':=s.toks) (fun b u q=>Ah _ q) (Nat.le_of_eq (Heap.size_push _ _)) ?_
 have ne:s.heap.objs.size≠s.heap.objs.size+1:=Ao (Nat.lt_succ_self _)
 refine⟨by rw [o8 ne,y4],Nat.zero_le _,ne,e2,fun _=>none,(Heap.Ns1.of_empty e3).at fun o q=>Ah _ q,fun _=>True.intro,fun y hy=>absurd rfl hy⟩
theorem b4W{prog:AL}{w:AJ}{env:Env}{e:AG}{f:Str}{pos:Pos}{s:AC}{Q:AA->AC->Prop}(hb:attributeBase e f env (eval e env)=eval e env)
 (h:AI (model prog w) A (eval e env) (fun o s₁=>AI (model prog w) A (getAttr o f true) Q E s₁) E s):AI (model prog w) A (eval (.Attribute e f pos) env) Q E s:=
 Attribute_any_ h (by rw [arm_eval_Attribute,hb])
end
def b9H(K:AD)(ta:TE)(f:Str):TE:=fun σ H Q=>ta σ H fun x H1=>∃a C dx fs v,x= .ref a/\H1 a=some (.ins C dx fs)/\Cls K C/\B6 K C f/\fs.lookup f=some v/\Q v H1
def b87(K:AD)(ta tv:TE)(f:Str):TS:=fun D σ H=>tv σ H fun y H1=>ta σ H1 fun x H2=>∃a C dx fs,x= .ref a/\H2 a=some (.ins C dx fs)/\Cls K C/\B6 K C f/\fs.length<1000/\
 D.nx σ (upd H2 a (.ins C dx (a2l f y fs)))
section
variable {X:Cx}{o e value:AG}{f:Str}{pos pos' tpos:Pos}{ta tv:TE}
theorem b7T(he:PE X e ta)(hb:attributeBase e f X.env (eval e X.env)=eval e X.env):PE X (.Attribute e f pos) (b9H X.K ta f):=by
 intro pins s σ H Q I h
 refine b4W hb (M3 (he pins s σ H _ I h) fun u s1 ⟨x,H1,I1,rx,a,C,dx,fs,v,ex,ea,c,n,l,q⟩=> ?_)
 subst ex
 obtain rfl:u=Value.ref a:=rx
 exact b0q I1 ea c n l fun u' s2 I2 ru=>⟨v,H1,I2,ru,q⟩
theorem S7(ha:PE X o ta)(hv:PE X value tv)(hs:swapsWith value (some (.Attribute o f pos')) pos.line X.env=pure false):PS X (.Assign [.Attribute o f pos'] value pos) (b87 X.K ta tv f):=by
 intro pins s σ H D I h
 refine plainObj_wpAny_Assign_Attribute (M3 (hv pins s σ H _ I h) fun u s1 ⟨y,H1,I1,ry,q⟩=>M3 (ha pins s1 σ H1 _ I1 q) fun ov s2 ⟨x,H2,I2,rx,a,C,dx,fs,ex,ea,c,n,l,q2⟩=> ?_) hs
 subst ex
 obtain rfl:ov=Value.ref a:=rx
 exact b0Y I2 ea c n l ry fun s3 I3=>⟨σ,_,I3,q2⟩
end
section
variable {X:Cx}{pins:List (AB×Obj)}{σ:St}{H:Hp}{s:AC}{A:AK}{E:AA->AC->Prop}{Q:AA->AC->Prop}{c:AA}{b:Bool}
inductive a5x (K:AD) (H:Hp):V->AA->Prop where
 |non:a5x K H .non (.type "NoneType")
 |bl (x:Bool):a5x K H (.bl x) (.type "bool")
 |int (i:Int):a5x K H (.int i) (.type "int")
 |str (x:Str):a5x K H (.str x) (.type "str")
 |flt (x:UInt64):a5x K H (.flt x) (.type "float")
 |lst {a:AB} {xs:List V} (e:H a=some (.lst xs)):a5x K H (.ref a) (.type "list")
 |frz {a:AB} {o:Obj} {xs:List V} (e:H a=some (.frz o (.lst xs))):a5x K H (.ref a) (.type "list")
 |tup {a:AB} {xs:List V} (e:H a=some (.tup xs)):a5x K H (.ref a) (.type "tuple")
 |dK {a:AB} {kvs:List (A1×V)} (e:H a=some (.dK kvs)):a5x K H (.ref a) (.type "dict")
 |dT {a:AB} {kvs:List (List A1×V)} (e:H a=some (.dT kvs)):a5x K H (.ref a) (.type "dict")
 |ins {a C dx:AB} {fs:List (Str×V)} (e:H a=some (.ins C dx fs)) (cl:Cls K C) (ha:PySem.W.findIn K (.ref C) "__class__"=some (some (.builtin "object.__class__")))
  (hn:PySem.W.specialIn K (.builtin "object.__class__") "__get__"=some (some (.builtin "getset_descriptor.__get__"))) (htk:PySem.W.takesIn K (.builtin "object.__class__")=some true)
  (hm:PySem.W.mroIn K C (.type "object")=some true):a5x K H (.ref a) (.ref C)
end
structure D3(k:Nat)(A:AK):Prop where
 hd:A.handled=none
 dp:A.depth+3*k+5<recursionLimit
 un:A.units+16*k+200<cLine
theorem D3.mono{j k:Nat}{A:AK}(r:D3 k A)(h:j<=k):D3 j A:=⟨r.hd,by have:=r.dp;lia,by have:=r.un;lia⟩
theorem D3.deeper{k:Nat}{A:AK}(r:D3 (k+1) A)(env:Env):D3 k (A.deeper env):=
 ⟨r.hd,by have:=r.dp;show A.depth+1+3*k+5<_;lia,by have:=r.un;show A.units+3+16*k+200<_;lia⟩
theorem D3.in1{k:Nat}{A:AK}(r:D3 (k+1) A):D3 k A.in1:=
 ⟨r.hd,by have:=r.dp;show A.depth+3*k+5<_;lia,by have:=r.un;show A.units+1+16*k+200<_;lia⟩
theorem b0A{A:AK}{C:AB}{us:List AA}{kw:List (Str×AA)}:(A.under (.builtin "type.__call__" ⟨.ref C::us,kw⟩)).depth=A.depth+1:=by
 first|rfl|simp [Around.under,Code.weight,Code.isCreation,Code.isGuard,Code.isCaller,Code.frames,Code.isFrame,guardIds]
theorem b0B{A:AK}{C:AB}{us:List AA}{kw:List (Str×AA)}:(A.under (.builtin "type.__call__" ⟨.ref C::us,kw⟩)).units=A.units+1:=by
 first|rfl|simp [Around.under,Code.cUnits,Code.frames,Code.isFrame]
theorem D3.make{k:Nat}{A:AK}(r:D3 (k+1) A)(C:AB)(us:List AA)(kw:List (Str×AA)):D3 k (A.under (.builtin "type.__call__" ⟨.ref C::us,kw⟩)):=
 ⟨r.hd,by have:=r.dp;rw [b0A];lia,by have:=r.un;rw [b0B];lia⟩
theorem D3.depth{k:Nat}{A:AK}(r:D3 k A):A.depth<recursionLimit:=by have:=r.dp;lia
theorem D3.units{k:Nat}{A:AK}(r:D3 k A):A.units+64<cLine:=by have:=r.un;lia
def b4H:TA:=fun _ H Q=>Q [] H
def a9Z(ta:TE)(tr:TA):TA:=fun σ H Q=>ta σ H fun x H1=>tr σ H1 fun xs H2=>Q (x::xs) H2
section
variable {X:Cx}{e:AG}{es:List AG}{te:TE}{t:TA}{pos:Pos}
theorem Z2:PA X [] b4H:=fun _ _ _ _ H Q I h=>Calls.spliced_nil ⟨[],H,I,.nil,h⟩
theorem J2(ha:PE X e te)(hr:PA X es t)(hs:AN (e::es) X.env=(false,eval e X.env)::AN es X.env:=by rfl):PA X (e::es) (a9Z te t):=by
 intro pos pins s σ H Q I h
 rw [hs]
 show AI _ _ (spliced ((false,eval e X.env)::backTo pos (AN es X.env))) _ _ s
 refine Calls.spliced_cons (M3 (ha pins s σ H _ I h) fun u s1 ⟨x,H1,I1,r1,q1⟩=> ?_)
 exact M3 (hr pos pins s1 σ H1 _ I1 q1) fun us s2 ⟨xs,H2,I2,r2,q2⟩=>⟨x::xs,H2,I2,.cons r1 r2,q2⟩
def b9N(t:TA):TE:=fun σ H Q=>t σ H fun xs H1=>xs.length<=AO/\∀p,H1 p=none->Q (.ref p) (upd H1 p (.tup xs))
def b9K(t:TA):TE:=fun σ H Q=>t σ H fun xs H1=>xs.length<=AO/\∀p,H1 p=none->Q (.ref p) (upd H1 p (.lst xs))
theorem b7Y{x1}(h:PA X es t):PE X (.Tuple es x1 pos) (b9N t):=by
 intro pins s σ H Q I hq
 refine wpAny_Tuple_spliced (M3 (h pos pins s σ H _ I hq) fun us s1 ⟨xs,H1,I1,r,z,q⟩=>⟨by rw [<-r.length];exact z, ?_⟩)
 have hf:H1 s1.heap.objs.size=none:=I1.hok.fresh (AV _)
 refine⟨.ref s1.heap.objs.size,upd H1 s1.heap.objs.size (.tup xs),I1.laid (t':=s1.toks) (fun b u e=>Ah _ e) (AV _) ?_,rfl,q _ hf⟩
 exact⟨z,us,r,⟨_,Ar _ rfl,rfl,_,rfl⟩⟩
theorem b7U(h:PA X es t):PE X (.List es pos) (b9K t):=by
 intro pins s σ H Q I hq
 refine wpAny_List_spliced (M3 (h pos pins s σ H _ I hq) fun us s1 ⟨xs,H1,I1,r,z,q⟩=>⟨by rw [<-r.length];exact z, ?_⟩)
 have hf:H1 s1.heap.objs.size=none:=I1.hok.fresh (AV _)
 refine⟨.ref s1.heap.objs.size,upd H1 s1.heap.objs.size (.lst xs),I1.laid (t':=s1.toks) (fun b u e=>Ah _ e) (AV _) ?_,rfl,q _ hf⟩
 exact⟨z,us,0,r,Ar _ rfl⟩
end
abbrev Sp:=List V->Hp->VK->XK->Prop
abbrev CXT:=List Env->Hp->AC->XK->AA->AC->Prop
structure a6R(P:AL)(w:AJ)(K:AD)(mg:Str->Option AA)(base:Heap)(A:AK)(outer:List Env)(s:AC)(H:Hp):Prop where
 frames:A.frames=some outer
 mod:Mod K mg base
 bs:∀b o,base.get? b=some o->s.heap.get? b=some o/\H b=none
 bsz:base.objs.size<=s.heap.objs.size
 funs:s.heap.FunFrames base outer
 frf:∀b∈frs outer,H b=none
 hok:HOk P w H s.heap
 bare:AllBare s.gens
def CE(outer:List Env)(P:AL)(w:AJ)(H:Hp)(s:AC)(Q:VK)(u:AA)(s':AC):Prop:=
 ∃v H',s'.os=s.os/\AllBare s'.gens/\Un (frs outer) [] H H' s.heap s'.heap/\HOk P w H' s'.heap/\z4 v u/\Q v H'
def CR(CX:CXT)(outer:List Env)(P:AL)(w:AJ)(H:Hp)(s:AC)(Q:VK)(E:XK)(r:Result)(s':AC):Prop:=
 match r with
 | .ok (.ret u)=>CE outer P w H s Q u s'
 | .ok _=>False
 | .error e=>CX outer H s E e s'
structure M8(P:AL)(w:AJ)(K:AD)(mg:Str->Option AA)(base:Heap)(CX:CXT)(k:Nat)(f:AB)(fd:FuncData)(ps:List Str)(sp:Sp):Prop where
 len:∀vs H Q E,sp vs H Q E->vs.length=ps.length
 run:∀(A:AK) (outer:List Env) (s:AC) (H:Hp) (args:Args) (us:List AA) (vs:List V) (Q:VK) (E:XK),D3 k A->a6R P w K mg base A outer s H->BindsTo s fd args (ps.zip us)->u3 vs us->sp vs H Q E->
  codeAny (model P w) A (.call (.ref f) args) (CR CX outer P w H s Q E) s
theorem M8.mono{P:AL}{w:AJ}{K:AD}{mg:Str->Option AA}{base:Heap}{CX:CXT}{j k:Nat}{f:AB}{fd:FuncData}{ps:List Str}{sp:Sp}(F:M8 P w K mg base CX j f fd ps sp)(h:j<=k):
 M8 P w K mg base CX k f fd ps sp:=⟨F.len,fun A outer s H args us vs Q E hr=>F.run A outer s H args us vs Q E (hr.mono h)⟩
theorem M8.imp{P:AL}{w:AJ}{K:AD}{mg:Str->Option AA}{base:Heap}{CX:CXT}{k:Nat}{f:AB}{fd:FuncData}{ps:List Str}{sp sp':Sp}(F:M8 P w K mg base CX k f fd ps sp)
 (h:∀vs H Q E,sp' vs H Q E->sp vs H Q E):M8 P w K mg base CX k f fd ps sp':=
 ⟨fun vs H Q E q=>F.len vs H Q E (h _ _ _ _ q),fun A outer s H args us vs Q E hr he hb hv hs=>F.run A outer s H args us vs Q E hr he hb hv (h _ _ _ _ hs)⟩
theorem a6R.make{P:AL}{w:AJ}{K:AD}{mg:Str->Option AA}{base:Heap}{A:AK}{outer:List Env}{s:AC}{H:Hp}(e:a6R P w K mg base A outer s H)(C:AB)(us:List AA)(kw:List (Str×AA)):
 a6R P w K mg base (A.under (.builtin "type.__call__" ⟨.ref C::us,kw⟩)) outer s H:=⟨by first|exact e.frames|(simpa [Around.under,Code.envs,Code.isFrame,pushEnvs] using e.frames),e.mod,e.bs,e.bsz,e.funs,e.frf,e.hok,e.bare⟩
theorem a6R.in1{P:AL}{w:AJ}{K:AD}{mg:Str->Option AA}{base:Heap}{A:AK}{outer:List Env}{s:AC}{H:Hp}(e:a6R P w K mg base A outer s H):
 a6R P w K mg base A.in1 outer s H:=⟨e.frames,e.mod,e.bs,e.bsz,e.funs,e.frf,e.hok,e.bare⟩
section
variable {X:Cx}{pins:List (AB×Obj)}{σ:St}{H:Hp}{s s':AC}
theorem n4.env0(I:n4 X pins σ H s):a6R X.prog X.w X.K X.mg X.base X.A X.stack s H:=
 ⟨I.ok.frames,I.ok.mod,I.bs,Nat.le_trans I.ok.bsz I.sz,I.stack,I.stkFree,I.hok,I.bare⟩
theorem n4.after{Q:VK}{u:AA}(I:n4 X pins σ H s)(h:CE X.stack X.prog X.w H s Q u s'):EP X pins σ Q u s':=by
 obtain⟨v,H',os,bare,un,hok,r,q⟩:=h
 obtain⟨hh,g,d,t,os'⟩:=s'
 obtain rfl:os'=s.os:=os
 exact⟨v,H',I.call (h':=hh) (g':=g) (d':=d) (t':=t) (ch:=[]) un hok bare (fun b z=>absurd z (by simp)),r,q⟩
end
def b6J(sp:Sp)(dvs:List V)(E:XK)(t:TA):TE:=fun σ H Q=>t σ H fun vs H1=>sp (vs++dvs) H1 Q E
def b9c(C:AB)(sp:Sp)(dvs:List V)(E:XK)(t:TA):TE:=fun σ H Q=>t σ H fun vs H1=>∀x dx,H1 x=none->H1 dx=none->dx≠x->
 sp (.ref x::(vs++dvs)) (upd (upd H1 dx (.own x)) x (.ins C dx [])) (fun v H2=>v= .non/\Q (.ref x) H2) E
def U1(K:AD)(fd:FuncData)(ps:List Str)(ds:List AA):Prop:=
 ∀(s:AC) (us:List AA),K.In s.heap->(us++ds).length=ps.length->BindsTo s fd ⟨us,[]⟩ (ps.zip (us++ds))
theorem U1.all{K:AD}{fd:FuncData}{ps:List Str}(h:∀us:List AA,us.length=ps.length->bindArgs fd ⟨us,[]⟩=pure (ps.zip us)):U1 K fd ps []:=fun s us _ hl=>by
 rw [Ae] at hl ⊢
 exact .of_eq (h us hl)
def a3f(CX:CXT)(X:Cx)(E:XK):Prop:=∀(pins:List (AB×Obj)) (σ:St) (H:Hp) (s:AC) (e:AA) (s':AC),n4 X pins σ H s->CX X.stack H s E e s'->X.xe e s'
section
variable {X:Cx}{CX:CXT}{k:Nat}{f C:AB}{fd:FuncData}{ps:List Str}{sp:Sp}{dvs:List V}{ds:List AA}{E:XK}{x m:Str}{p pos apos:Pos}{e o:AG}{es:List AG}{ta:TE}{t:TA}
theorem b0T{pins:List (AB×Obj)}{σ:St}{H:Hp}{s:AC}{Q:VK}{us:List AA}{vs:List V}(F:M8 X.prog X.w X.K X.mg X.base CX k f fd ps sp)(hr:D3 k X.A)(hb:U1 X.K fd ps ds)(hd:u3 dvs ds)(hx:a3f CX X E)
 (I:n4 X pins σ H s) (r:u3 vs us) (h:sp (vs++dvs) H Q E):AI (model X.prog X.w) X.A (call (.ref f) us) (EP X pins σ Q) X.xe s:=by
 have r2:u3 (vs++dvs) (us++ds):=r.append hd
 have hl:(us++ds).length=ps.length:=by rw [<-r2.length];exact F.len _ _ _ _ h
 refine wpAny_call (codeAny_mono (F.run X.A X.stack s H ⟨us,[]⟩ (us++ds) (vs++dvs) Q E hr I.env0 (hb s us I.kIn hl) r2 h) fun r s' hq=> ?_)
 cases r with
 |error e=>exact hx pins σ H s e s' I hq
 |ok fl=>
  cases fl with
  |ret u=>exact I.after hq
  |next=>exact False.elim hq
  |brk=>exact False.elim hq
  |cont=>exact False.elim hq
theorem b52(F:M8 X.prog X.w X.K X.mg X.base CX k f fd ps sp)(hr:D3 k X.A)(hg:Gl X x)(hm:X.mg x=some (.ref f))(hk:PySem.W.keepIn X.K (.ref f)=true)(hb:U1 X.K fd ps ds)(hd:u3 dvs ds)(hx:a3f CX X E)
 (ha:PA X (e::es) t) (hdb:(x==("__debug__":Str))=false:=by decide) (he:AN (e::es) X.env=(false,eval e X.env)::AN es X.env:=by rfl) (hpl:(backTo pos (AN es X.env)).any (·.1)=false:=by rfl):
 PE X (.Call (.Name x p) (e::es) [] pos) (b6J sp dvs E t):=by
 intro pins s σ H Q I h
 refine wpAny_Call_Name_kw (a1m I hg hm ?_ hdb)
 refine PySem.W.callWith_K (h₀:=X.base) I.ok.mod.kin hk (M3 (ha pos pins s σ H _ I h) fun us s1 ⟨vs,H1,I1,r,q⟩=>⟨I1.kIn, ?_⟩) he hpl
 exact b0T F hr hb hd hx I1 r q
theorem b36(F:M8 X.prog X.w X.K X.mg X.base CX k f fd ps sp)(hr:D3 k X.A)(hg:Gl X x)(hm:X.mg x=some (.ref f))(hk:PySem.W.keepIn X.K (.ref f)=true)(hb:U1 X.K fd ps ds)(hd:u3 dvs ds)(hx:a3f CX X E)
 (hdb:(x==("__debug__":Str))=false:=by decide):PE X (.Call (.Name x p) [] [] pos) (b6J sp dvs E b4H):=by
 intro pins s σ H Q I h
 refine wpAny_Call_Name_kw (a1m I hg hm ?_ hdb)
 exact PySem.W.callWith_K0 I.kIn hk (b0T (us:=[]) F hr hb hd hx I .nil h)
structure Mk(K:AD)(C f:AB):Prop where
 makes:PySem.W.makesIn K C=true
 init:PySem.W.findIn K (.ref C) "__init__"=some (some (.ref f))
 fn:PySem.W.isFn K (.ref f)=true
 kp:PySem.W.keepIn K (.ref C)=true
theorem b4z{pins:List (AB×Obj)}{σ:St}{H:Hp}{s:AC}{Q:VK}{us:List AA}{vs:List V}(M:Mk X.K C f)(F:M8 X.prog X.w X.K X.mg X.base CX k f fd ps sp)(hr:D3 (k+1) X.A)(hb:U1 X.K fd ps ds)(hd:u3 dvs ds)
 (hx:a3f CX X E) (I:n4 X pins σ H s) (r:u3 vs us)
 (h:∀x dx,H x=none->H dx=none->dx≠x->sp (.ref x::(vs++dvs)) (upd (upd H dx (.own x)) x (.ins C dx [])) (fun v H2=>v= .non/\Q (.ref x) H2) E):
 AI (model X.prog X.w) X.A (call (.ref C) us) (EP X pins σ Q) X.xe s:=by
 have hq:=h (s.heap.objs.size+1) s.heap.objs.size (I.hok.fresh (Nat.le_succ _)) (I.hok.fresh (AV _)) (Ao (Nat.lt_succ_self _))
 have I2:=n4.made (C:=C) I
 have r2:u3 (V.ref (s.heap.objs.size+1)::(vs++dvs)) (Value.ref (s.heap.objs.size+1)::(us++ds)):= .cons rfl (r.append hd)
 have hl:(Value.ref (s.heap.objs.size+1)::us++ds).length=ps.length:=by
  have e:=r2.length
  rw [F.len _ _ _ _ hq] at e
  exact e.symm
 refine wpAny_call (b3L (f:=f) I.kIn M.makes M.init (beq_iff_eq.mp M.fn) (codeAny_mono (F.run _ X.stack _ _ ⟨Value.ref (s.heap.objs.size+1)::us,[]⟩ (Value.ref (s.heap.objs.size+1)::(us++ds)) _ _ E (hr.make C us [])
  (I2.env0.make C us []) (hb _ (Value.ref (s.heap.objs.size+1)::us) I2.kIn hl) r2 hq) fun r s' hq'=> ?_))
 cases r with
 |error e=>exact hx pins σ _ _ e s' I2 hq'
 |ok fl=>
  cases fl with
  |ret u=>
   obtain⟨v,H',I3,rv,ev,q3⟩:=I2.after hq'
   subst ev
   exact⟨rv,⟨V.ref (s.heap.objs.size+1),H',I3,rfl,q3⟩⟩
  |next=>exact False.elim hq'
  |brk=>exact False.elim hq'
  |cont=>exact False.elim hq'
theorem b56(M:Mk X.K C f)(F:M8 X.prog X.w X.K X.mg X.base CX k f fd ps sp)(hr:D3 (k+1) X.A)(hg:Gl X x)(hm:X.mg x=some (.ref C))(hb:U1 X.K fd ps ds)(hd:u3 dvs ds)(hx:a3f CX X E)
 (ha:PA X (e::es) t) (hdb:(x==("__debug__":Str))=false:=by decide) (he:AN (e::es) X.env=(false,eval e X.env)::AN es X.env:=by rfl) (hpl:(backTo pos (AN es X.env)).any (·.1)=false:=by rfl):
 PE X (.Call (.Name x p) (e::es) [] pos) (b9c C sp dvs E t):=by
 intro pins s σ H Q I h
 refine wpAny_Call_Name_kw (a1m I hg hm ?_ hdb)
 refine PySem.W.callWith_K (h₀:=X.base) I.ok.mod.kin M.kp (M3 (ha pos pins s σ H _ I h) fun us s1 ⟨vs,H1,I1,r,q⟩=>⟨I1.kIn, ?_⟩) he hpl
 exact b4z M F hr hb hd hx I1 r q
end
def PK(X:Cx)(kws:List Keyword)(t:TA):Prop:=
 ∀(pos:Pos) (pins:List (AB×Obj)) (s:AC) (σ:St) (H:Hp) (Q:List V->Hp->Prop),n4 X pins σ H s->t σ H Q->AI (model X.prog X.w) X.A (evalAll ((backToKw pos (keywordEach kws X.env)).map (·.2))) (AP X pins σ Q) X.xe s
section
variable {X:Cx}{CX:CXT}{k:Nat}{f C:AB}{fd:FuncData}{ps ks:List Str}{sp:Sp}{E:XK}{x m:Str}{p pos apos kpos:Pos}{e o:AG}{es:List AG}{kws:List Keyword}{te ta:TE}{t tk:TA}{nm:Option Str}
theorem b71:PK X [] b4H:=fun _ _ _ _ H Q I h=>wpAny_evalAll_nil ⟨[],H,I,.nil,h⟩
theorem b57(ha:PE X e te)(hr:PK X kws t):PK X (⟨nm,e,kpos⟩::kws) (a9Z te t):=by
 intro pos pins s σ H Q I h
 show AI _ _ (evalAll ((do let v<-eval e X.env;standAt pos;pure v)::(backToKw pos (keywordEach kws X.env)).map (·.2))) _ _ s
 refine wpAny_evalAll_cons (AF (M3 (ha pins s σ H _ I h) fun u s1 ⟨x,H1,I1,r1,q1⟩=>AF (wpAny_standAt (AS ?_))))
 exact M3 (hr pos pins s1 σ H1 _ I1 q1) fun us s2 ⟨xs,H2,I2,r2,q2⟩=>⟨x::xs,H2,I2,.cons r1 r2,q2⟩
variable {g:List AA->List AA->List AA}{gV:List V->List V->List V}
end
structure j8(N P:List Str)(sc:Scope):Prop where
 kind:sc.kind= .function
 co:sc.isCoroutine=false
 gen:sc.isGenerator=false
 nd:N.Nodup
 pre:N.take P.length=P
 par:∀x∈P,sc.names.lookup x=some .local\/sc.names.lookup x=some .cell
 nofree:∀y∈sc.names,y.2≠.free
theorem a7m{kindOf:Str->Option NameKind}{x:Str}:∀{binds:List (Str×AA)} {m:Str->Option AA},(∀v,(x,v)∉binds)->bindL kindOf binds m x=m x
 |[],_,_=>rfl
 |(n,v)::r,m,h=>by
  unfold bindL
  rw [a7m fun w hw=>h w (Aj _ hw)]
  split
  ·have:x≠n:=by rintro rfl;exact h v Ai
   simp [this]
  ·rfl
theorem a7k{kindOf:Str->Option NameKind}{x:Str}:∀{binds:List (Str×AA)} {m:Str->Option AA},(∀v,(x,v)∉binds)->bindC kindOf binds m x=m x
 |[],_,_=>rfl
 |(n,v)::r,m,h=>by
  unfold bindC
  rw [a7k fun w hw=>h w (Aj _ hw)]
  split
  ·rfl
  ·have:x≠n:=by rintro rfl;exact h v Ai
   simp [this]
theorem a7l{kindOf:Str->Option NameKind}{x:Str}{v:AA}:∀{P:List Str} {vs:List AA} {i:Nat} {m:Str->Option AA},P.Nodup->P[i]?=some x->vs[i]?=some v->kindOf x=some .local->
 bindL kindOf (P.zip vs) m x=some v
 |[],_,_,_,_,h,_,_=>by simp at h
 |_::_,[],_,_,_,_,h,_=>by simp at h
 |p::P,w::vs,0,m,nd,h1,h2,hk=>by
  simp at h1 h2;subst h1;subst h2
  show bindL kindOf ((p,w)::P.zip vs) m p=_
  unfold bindL
  rw [a7m fun v hv=>(List.nodup_cons.mp nd).1 (List.of_mem_zip hv).1,if_pos hk]
  simp
 |p::P,w::vs,i+1,m,nd,h1,h2,hk=>by
  show bindL kindOf ((p,w)::P.zip vs) m x=_
  unfold bindL
  exact a7l (i:=i) (List.nodup_cons.mp nd).2 (by simpa using h1) (by simpa using h2) hk
theorem a7j{kindOf:Str->Option NameKind}{x:Str}{v:AA}:∀{P:List Str} {vs:List AA} {i:Nat} {m:Str->Option AA},P.Nodup->P[i]?=some x->vs[i]?=some v->kindOf x≠some .local->
 bindC kindOf (P.zip vs) m x=some v
 |[],_,_,_,_,h,_,_=>by simp at h
 |_::_,[],_,_,_,_,h,_=>by simp at h
 |p::P,w::vs,0,m,nd,h1,h2,hk=>by
  simp at h1 h2;subst h1;subst h2
  show bindC kindOf ((p,w)::P.zip vs) m p=_
  unfold bindC
  rw [a7k fun v hv=>(List.nodup_cons.mp nd).1 (List.of_mem_zip hv).1,if_neg hk]
  simp
 |p::P,w::vs,i+1,m,nd,h1,h2,hk=>by
  show bindC kindOf ((p,w)::P.zip vs) m x=_
  unfold bindC
  exact a7j (i:=i) (List.nodup_cons.mp nd).2 (by simpa using h1) (by simpa using h2) hk
def a1M(N:List Str)(vs:List V):St:=vs.map some++AR (N.length - vs.length) none
def a1N(CX:CXT)(P:AL)(w:AJ)(K:AD)(mg:Str->Option AA)(base:Heap)(N:List Str)(qual:Str)(scope:Scope)(f:AB)(cd:AA)(A:AK)(outer:List Env)(s:AC)(H:Hp)(E:XK):Cx where
 prog:=P
 w:=w
 K:=K
 mg:=mg
 base:=base
 A:=A.deeper (envOfC qual scope s.heap.objs.size f cd)
 N:=N
 s₀:=s
 H₀:=H
 env:=envOfC qual scope s.heap.objs.size f cd
 outer:=outer
 stack:=envOfC qual scope s.heap.objs.size f cd::outer
 ex:=[]
 calm:=true
 fn:=fun _=>true
 pn:=[]
 xe:=fun e s'=>AI (model P w) (A.deeper (envOfC qual scope s.heap.objs.size f cd)) (leaving (envOfC qual scope s.heap.objs.size f cd) e) (fun _ s''=>CX outer H s E e s'') (fun e' s''=>CX outer H s E e' s'') s'
theorem a88{sc:Scope}{n:Nat}{x:Str}(h:sc.names.lookup x=some .cell):∃c,(cellsFrom n sc.names []).lookup x=some c:=by
 have q:=PySem.W.cellsFrom_some sc.names n [] (.inl h)
 exact Option.isSome_iff_exists.mp q
theorem b2c{CX:CXT}{P:AL}{w:AJ}{K:AD}{mg:Str->Option AA}{base:Heap}{N ps:List Str}{qual:Str}{scope:Scope}{f:AB}{cd:AA}{A:AK}{outer:List Env}{s s1:AC}{H:Hp}{E:XK}{us:List AA}{vs:List V}
 (S:j8 N ps scope) (hd:A.handled=none) (e0:a6R P w K mg base A outer s H) (hl:vs.length=ps.length) (r:u3 vs us)
 (x:InCallC s s.heap.objs.size (bindL (envOfC qual scope s.heap.objs.size f cd).kindOf (ps.zip us) fun _=>none) (cellsFrom (s.heap.objs.size+1) scope.names []) (bindC (envOfC qual scope s.heap.objs.size f cd).kindOf (ps.zip us) fun _=>none) s1):
 n4 (a1N CX P w K mg base N qual scope f cd A outer s H E) [] (a1M N vs) H s1:=by
 have hpl:ps.length<=N.length:=by have:=congrArg List.length S.pre;rw [List.length_take] at this;lia
 obtain⟨h1,tk,rfl,hk⟩:=x.done
 have noA:∀b:AB,b∉(a1N CX P w K mg base N qual scope f cd A outer s H E).ex:=fun b z=>absurd (show b∈([]:List AB) from z) (by simp)
 refine⟨⟨e0.mod,S.kind,rfl,rfl,AV _,fun y z c h1 h2=> ?_,fun y hy=> ?_,fun y c _ h=> ?_,fun _=>hd,Around.frames_deeper e0.frames,.inr ⟨rfl,rfl⟩,fun b z=>absurd z (noA b),e0.bs,e0.bsz,fun b _ _=>noA b,fun b z=>absurd z (noA b),e0.funs,e0.frf⟩,
  rfl,e0.bare,Un.kept hk,⟨_,x.toInCall.ns,fun i y v h1 h2 h3=> ?_⟩,fun y c h=>⟨_,x.cell y c h⟩,e0.hok.fresh (AV _),fun y c h=> ?_,fun p hp=>absurd (show p∈([]:List (AB×Obj)) from hp) (by simp),e0.hok.kept hk, ?_⟩
 ·exact name_of_addr x.apart (PySem.mem_of_lookup h1) (PySem.mem_of_lookup h2)
 ·have hy:scope.names.lookup y=some .cell\/scope.names.lookup y=some .free:=hy
  rcases hy with hy|hy
  ·exact a88 hy
  ·exact absurd rfl (S.nofree _ (PySem.mem_of_lookup hy))
 ·exact BB (x.above y c (PySem.mem_of_lookup h))
 ·have hi:i<vs.length:=by
   unfold a1M at h2
   by_cases hi:i<vs.length
   ·exact hi
   ·rw [List.getElem?_append_right (by simpa using hi)] at h2
    rw [List.getElem?_replicate] at h2
    split at h2<;>cases h2
  have ha:vs[i]?=some v:=by
   unfold a1M at h2
   rw [Az (by simpa using hi),Ax] at h2
   cases e:vs[i]? with
   |none=>rw [e] at h2;cases h2
   |some a=>rw [e] at h2;cases h2;rfl
  obtain⟨u,hu,rv⟩:=r.get ha
  have hp:ps[i]?=some y:=by
   rw [<-S.pre,List.getElem?_take_of_lt (by lia)];exact h1
  have ndP:ps.Nodup:=by rw [<-S.pre];exact S.nd.sublist (List.take_sublist _ _)
  refine⟨u,rv, ?_⟩
  rcases S.par y (BC hp) with k|k
  ·exact .inl ⟨k,a7l ndP hp hu k⟩
  ·obtain⟨c,e⟩:=a88 (n:=s.heap.objs.size+1) k
   refine .inr ⟨.inl k,c,e, ?_⟩
   have q:=x.cell y c e
   rw [a7j ndP hp hu (by show scope.names.lookup y≠_;rw [k];decide)] at q
   exact q
 ·exact e0.hok.fresh (BB (x.above y c (PySem.mem_of_lookup h)))
 ·unfold a1M
  show _=N.length
  rw [AZ,An,List.length_replicate]
  lia
theorem b6C{CX:CXT}{P:AL}{w:AJ}{K:AD}{mg:Str->Option AA}{base:Heap}{k:Nat}{f:AB}{name qual:Str}{params:Arguments}{body:List Stmt}{scope:Scope}{dV kV doc pm cdv ct oc:AA}{an od:Option AB}
 {osl:Array (Option AA)} {N ps:List Str} {sp:Sp} (lk:K.lookup f=some ⟨oc,od,.func (PySem.W.fnOf name qual params body scope dV kV doc pm an cdv ct),osl⟩) (hcd:PySem.W.codeIn K cdv qual=true) (S:j8 N ps scope)
 (len:∀vs H Q E,sp vs H Q E->vs.length=ps.length)
 (hbody:∀(A:AK) (outer:List Env) (s:AC) (H:Hp) (vs:List V) (Q:VK) (E:XK),D3 k (A.deeper (envOfC qual scope s.heap.objs.size f cdv))->sp vs H Q E->
  ∃t,PSs (a1N CX P w K mg base N qual scope f cdv A outer s H E) body t/\t {nx:=fun _ H'=>Q .non H',rt:=Q} (a1M N vs) H):
 M8 P w K mg base CX (k+1) f (PySem.W.fnOf name qual params body scope dV kV doc pm an cdv ct) ps sp:=by
 refine⟨len,fun A outer s H args us vs Q E hr e0 hb r hsp=> ?_⟩
 have hl:=len _ _ _ _ hsp
 have KX:K.In s.heap:=e0.mod.kin.keeps fun b o e=>(e0.bs b o e).1
 have lim:s.heap.NoLimit:=e0.mod.nolimit.keeps fun b o e=>(e0.bs b o e).1
 have hkind:∀y∈ps.zip us,scope.names.lookup y.1=some .local\/(scope.names.lookup y.1=some .cell/\((cellsFrom (s.heap.objs.size+1) scope.names []).lookup y.1).isSome=true):=fun⟨n,v⟩ hy=>by
  rcases S.par n (List.of_mem_zip hy).1 with q|q
  ·exact .inl q
  ·exact .inr ⟨q,PySem.W.cellsFrom_some _ _ _ (.inl q)⟩
 refine codeAny_call_function hr.depth (KX _ _ lk) rfl S.co S.gen rfl (PySem.W.codeRec_of KX hcd) (hb _ _ _ _ ?_)
 refine wpAny_newFunctionEnv_cells S.kind hkind fun env he s1 x=> ?_
 subst he
 refine⟨lim.keeps x.toInCall.keep,codeAny_func ?_⟩
 obtain⟨t,ht,hq⟩:=hbody A outer s H vs Q E (hr.deeper _) hsp
 have I:n4 (a1N CX P w K mg base N qual scope f cdv A outer s H E) [] (a1M N vs) H s1:=b2c S hr.hd e0 hl r x
 refine wpAny_mono (ht [] s1 (a1M N vs) H _ I hq) (fun fl s' hs=> ?_) fun e s' hs=>hs
 have fin:∀{σ':St} {H':Hp} {v:V} {u:AA},n4 (a1N CX P w K mg base N qual scope f cdv A outer s H E) [] σ' H' s'->z4 v u->Q v H'->CE outer P w H s Q u s':=
  fun {σ' H' v u} J rv q=>⟨v,H',J.os,J.bare,J.base,J.hok,rv,q⟩
 cases fl with
 |ret u=>
  obtain⟨v,σ',H',J,rv,q⟩:=hs
  exact fin J rv q
 |next=>
  obtain⟨σ',H',J,q⟩:=hs
  exact fin (v:=V.non) (u:=Value.none) J rfl q
 |brk=>
  obtain⟨_,_,_,q⟩:=hs
  exact False.elim q
 |cont=>
  obtain⟨_,_,_,q⟩:=hs
  exact False.elim q
section
variable {X:Cx}{x:Str}{p pos:Pos}{e:AG}{es:List AG}{t:TA}{id T:String}{r:List V->Hp->VK->Prop}
def tCB(r:List V->Hp->VK->Prop)(t:TA):TE:=fun σ H Q=>t σ H fun vs H1=>r vs H1 Q
theorem a6t(hc:O7 X (.builtin id) r)(hg:Gl X x)(hm:X.mg x=none)(hv:bootBuiltins x=some (.builtin id))(ha:PA X (e::es) t)(hn:x≠"__name__":=by decide)(hdb:(x==("__debug__":Str))=false:=by decide)
 (he:AN (e::es) X.env=(false,eval e X.env)::AN es X.env:=by rfl) (hpl:(backTo pos (AN es X.env)).any (·.1)=false:=by rfl):PE X (.Call (.Name x p) (e::es) [] pos) (tCB r t):=by
 intro pins s σ H Q I h
 refine wpAny_Call_Name_kw (a5V I hg hm hv ?_ hn hdb)
 exact PyProof.Rows.callWith_builtin1 (M3 (ha pos pins s σ H _ I h) fun us s1 ⟨vs,H1,I1,r1,q1⟩=>hc pins s1 σ H1 vs us Q I1 r1 q1) he hpl
theorem b2B(hc:O7 X (.type T) r)(hg:Gl X x)(hm:X.mg x=none)(hv:bootBuiltins x=some (.type T))(ha:PA X (e::es) t)(hn:x≠"__name__":=by decide)(hdb:(x==("__debug__":Str))=false:=by decide)
 (he:AN (e::es) X.env=(false,eval e X.env)::AN es X.env:=by rfl) (hpl:(backTo pos (AN es X.env)).any (·.1)=false:=by rfl):PE X (.Call (.Name x p) (e::es) [] pos) (tCB r t):=by
 intro pins s σ H Q I h
 refine wpAny_Call_Name_kw (a5V I hg hm hv ?_ hn hdb)
 exact PyProof.Rows.callWith_type1 (M3 (ha pos pins s σ H _ I h) fun us s1 ⟨vs,H1,I1,r1,q1⟩=>hc pins s1 σ H1 vs us Q I1 r1 q1) he hpl
end
end L2
namespace HT
open PySem PyProof.Rows
section
open PySem.SeqAt
open PySem.AutoSeq1 (wpAny_loadPart')
open PySem.MeetsSeq PySem.MeetsSeq2 PySem.MeetsSeq3
end
section
variable {prog:AL}{w:AJ}{A:AK}{E:AA->AC->Prop}{s:AC}
theorem cat_tup{t b:AB}{vs ws:List AA}{Q:AA->AC->Prop}(ht:IsTup s.heap t vs.toArray)(hb:IsTup s.heap b ws.toArray)(hv:vs≠[])
 (h1:ws=[]->Q (.ref t) s) (h2:ws≠[]->Q (.ref s.heap.objs.size) {s with heap:=s.heap.push {cls:= .type "tuple",data:= .seq (vs++ws).toArray}})
 (hsz:vs.length+ws.length<=AO):AI (model prog w) A (binaryOp .Add (.ref t) (.ref b)) Q E s:=by
 obtain⟨⟨cls,dd,data,sl⟩,ho,hc,n,hd⟩:=id ht
 obtain⟨⟨cls2,dd2,data2,sl2⟩,ho2,hc2,n2,hd2⟩:=id hb
 simp only at hc hd hc2 hd2
 subst hc hd hc2 hd2
 have e:vs.toArray++ws.toArray=(vs++ws).toArray:=by simp
 by_cases hw:ws=[]
 ·exact concat_meets ⟨_,ho,rfl⟩ ⟨_,ho2,rfl⟩ noFill_tuple_add seq_tuple_add PySem.F.slot_tuple_add PySem.F.entry_tuple_add (PySem.F.args_tuple_add_2 _ _)
   (tuple_addW1 t b vs.toArray ws.toArray n n2 dd dd2 sl sl2 (by simpa using hv) (by simp [hw])) ⟨ho,ho2,h1 hw⟩
 ·refine concat_meets ⟨_,ho,rfl⟩ ⟨_,ho2,rfl⟩ noFill_tuple_add seq_tuple_add PySem.F.slot_tuple_add PySem.F.entry_tuple_add (PySem.F.args_tuple_add_2 _ _)
   (tuple_addW2 t b vs.toArray ws.toArray n n2 dd dd2 sl sl2 (by simpa using hv) (by simpa using hw) (by rw [Am,Am];exact hsz)) ⟨ho,ho2, ?_⟩
  rw [e]
  exact h2 hw
def sIx(n d:Nat):Option Int->Nat
 |none=>d
 |some v=>if v<0 then(v+(n:Int)).toNat else min v.toNat n
theorem sIx_nat(n d k:Nat):sIx n d (some (k:Int))=min k n:=by
 show(if(k:Int)<0 then((k:Int)+(n:Int)).toNat else min (k:Int).toNat n)=min k n
 rw [if_neg (by lia),Int.toNat_natCast]
theorem sIx_le(n d:Nat)(hd:d<=n)(o:Option Int):sIx n d o<=n:=by
 cases o with
 |none=>exact hd
 |some v=>
  show(if v<0 then(v+(n:Int)).toNat else min v.toNat n)<=n
  by_cases hv:v<0
  ·rw [if_pos hv];lia
  ·rw [if_neg hv];exact Nat.min_le_right _ _
theorem b1d(v:Int)(n d:Nat):(if v<0 then max (v+(n:Int)) 0 else min v (n:Int))=((sIx n d (some v):Nat):Int):=by
 show(if v<0 then max (v+(n:Int)) 0 else min v (n:Int))=(((if v<0 then(v+(n:Int)).toNat else min v.toNat n):Nat):Int)
 by_cases hv:v<0
 ·simp only [if_pos hv];lia
 ·simp only [if_neg hv];lia
theorem b0b(lo hi:Option Int)(n:Nat):Builtin.Slice.sliceAdjust lo hi 1 (n:Int)=(((sIx n 0 lo:Nat):Int),((sIx n n hi:Nat):Int)):=by
 have h1:¬((1:Int)<0):=by lia
 unfold Builtin.Slice.sliceAdjust
 simp only [h1,if_false]
 refine Prod.ext ?_ ?_
 ·cases lo with
  |none=>rfl
  |some v=>exact b1d v n 0
 ·cases hi with
  |none=>rfl
  |some v=>exact b1d v n n
theorem b0P(i j:Nat):Builtin.Slice.slicePlaces (i:Int) (j:Int) 1=j - i:=by
 unfold Builtin.Slice.slicePlaces
 have h1:(1:Int)>0:=by lia
 simp only [h1,if_true,Int.ediv_one]
 split<;>lia
theorem a6F{v:AA}{o:Option Int}{Q:Option Int->AC->Prop}(p:IsPart v o)(h:Q o s):AI (model prog w) A (Builtin.Slice.slicePartIndex v) Q E s:=by
 cases p with
 |none=>exact slicePart_none h
 |int i t=>exact slicePart_int h
theorem sliceApplied_gen{sl:AB}{vl vu:AA}{lo hi:Option Int}{n:Nat}{Q:Int×Int×Nat->AC->Prop}(hs:s.heap.IsSliceOf sl vl vu .none)(pl:IsPart vl lo)(pu:IsPart vu hi)
 (h:Q (((sIx n 0 lo:Nat):Int),1,sIx n n hi - sIx n 0 lo) s):AI (model prog w) A (Builtin.Slice.sliceApplied (.ref sl) (pure (n:Int))) Q E s:=by
 obtain⟨os,hos,hcs,hds⟩:=id hs
 unfold Builtin.Slice.sliceApplied Builtin.Slice.sliceFields
 refine AF (AF (wpAny_field hos hds (x:=vl) rfl (AF (wpAny_field hos hds (x:=vu) rfl (AF (wpAny_field hos hds (x:= .none) rfl (AS ?_)))))))
 refine AF (slicePart_none ?_)
 show AI _ _ (if((1:Int)==0)=true then _ else _) _ _ s
 rw [if_neg (by decide)]
 refine AF (a6F pl (AF (a6F pu (AF (AS ?_)))))
 show AI _ _ (match Builtin.Slice.sliceAdjust lo hi 1 (n:Int) with|(lo,hi)=>pure (lo,(1:Int),Builtin.Slice.slicePlaces lo hi 1)) _ _ s
 rw [b0b lo hi n]
 show AI _ _ (pure (((sIx n 0 lo:Nat):Int),(1:Int),Builtin.Slice.slicePlaces ((sIx n 0 lo:Nat):Int) ((sIx n n hi:Nat):Int) 1)) _ _ s
 rw [b0P]
 exact AS h
theorem b4d(xs:Array AA)(i k:Nat):((Al k).filterMap fun(m:Nat)=>xs[((i:Int)+(m:Int)*1).toNat]?).toArray=((xs.toList.drop i).take k).toArray:=by
 have e:(fun(m:Nat)=>xs[((i:Int)+(m:Int)*1).toNat]?)=fun m=>xs[i+m]?:=by
  funext m
  have:((i:Int)+(m:Int)*1).toNat=i+m:=by lia
  rw [this]
 rw [e]
 have:=pick_run xs i k
 rw [List.filterMap_map] at this
 have e2:((fun x=>xs[x]?)∘fun x=>i+x)=fun m=>xs[i+m]?:=rfl
 rw [e2] at this
 rw [this]
theorem getItem_tuple_cut{t sl:AB}{items:Array AA}{vl vu:AA}{lo hi:Option Int}{Q:AA->AC->Prop}(ht:IsTup s.heap t items)(hs:s.heap.IsSliceOf sl vl vu .none)(pl:IsPart vl lo)(pu:IsPart vu hi)
 (hw:¬(sIx items.size 0 lo=0/\sIx items.size items.size hi=items.size))
 (h:Q (.ref s.heap.objs.size) {s with heap:=s.heap.push {cls:= .type "tuple",data:= .seq ((items.toList.drop (sIx items.size 0 lo)).take (sIx items.size items.size hi - sIx items.size 0 lo)).toArray}})
 (hsz:items.size<=AO):AI (model prog w) A (getItem (.ref t) (.ref sl)) Q E s:=by
 have htake:sizeOk (.seq ((items.toList.drop (sIx items.size 0 lo)).take (sIx items.size items.size hi - sIx items.size 0 lo)).toArray):=by
  show((items.toList.drop (sIx items.size 0 lo)).take (sIx items.size items.size hi - sIx items.size 0 lo)).toArray.size<=AO
  rw [Am,List.length_take,List.length_drop,Array.length_toList]
  lia
 have hj:sIx items.size items.size hi<=items.size:=sIx_le _ _ (AV _) hi
 obtain⟨os,hos,hcs,hds⟩:=id hs
 have hTs:s.TypeIs (.ref sl) "slice":=⟨os,hos,hcs⟩
 unfold getItem
 try with_reducible refine wpAny_holding ?_
 first|refine AF (AS ?_)|skip
 refine AF (wpAny_sequenceKey ht.typeIs (by decide) ?_)
 refine AF (wpAny_callSpecial?_slot (name:=AE "__getitem__") ht.typeIs PyProof.Rows.slot_tuple_getitem
  (wpAny_call_entry PyProof.Rows.slot_tuple_getitem ht.typeIs entry_tuple_getitem ?_ (args_tuple_getitem _ _)))
 show AI _ _ (Builtin.Tuple.tupleItemsOf (.ref t)>>=_) _ _ s
 refine AF (tupleItemsOf_ ht ?_)
 refine AF (wpAny_typeOf hTs ?_)
 rw [if_pos (by decide)]
 refine AF (sliceApplied_gen hs pl pu ?_)
 have hno:¬((((sIx items.size 0 lo:Nat):Int)==0 &&(1:Int)==1 &&(sIx items.size items.size hi - sIx items.size 0 lo)==items.size)=true):=by
  intro q
  rw [Bool.and_eq_true,Bool.and_eq_true] at q
  have q1:((sIx items.size 0 lo:Nat):Int)=0:=eq_of_beq q.1.1
  have q2:sIx items.size items.size hi - sIx items.size 0 lo=items.size:=eq_of_beq q.2
  exact hw ⟨by lia,by lia⟩
 show AI _ _ (if(((sIx items.size 0 lo:Nat):Int)==0 &&(1:Int)==1 &&(sIx items.size items.size hi - sIx items.size 0 lo)==items.size)=true then _ else _) _ _ s
 rw [if_neg hno,b4d]
 first
  |exact AF (m:=Builtin.Tuple.tupleExact _) (wpAny_newObj_type (AS ⟨_,rfl,AS h⟩) htake)
  |exact AF (m:=Builtin.Tuple.tupleExact _) (wpAny_newObj_type (AF (AS (AS ⟨_,rfl,AS h⟩))) htake)
  |exact AF (AF (m:=Builtin.Tuple.tupleExact _) (wpAny_newObj_type (AS (AS ⟨_,rfl,AS h⟩)) htake))
  |exact AF (AF (m:=Builtin.Tuple.tupleExact _) (wpAny_newObj_type (AS ⟨_,rfl,AS h⟩) htake))
end
end HT
namespace L2
open PySem PySem.Spec PyProof.Rows
abbrev TO:=St->Hp->(Option Int->Hp->Prop)->Prop
def PO(X:Cx)(e:Option AG)(t:TO):Prop:=
 ∀(pins:List (AB×Obj)) (s:AC) (σ:St) (H:Hp) (Q:Option Int->Hp->Prop),n4 X pins σ H s->t σ H Q->
  AI (model X.prog X.w) X.A (evalPart e X.env) (fun u s'=>∃o H',n4 X pins σ H' s'/\IsPart u o/\Q o H') X.xe s
def b9d(t:TE):TO:=fun σ H Q=>t σ H fun x H1=>∃i,x= .int i/\Q (some i) H1
section
variable {X:Cx}{e:AG}{te:TE}{lo hi:Option AG}{tl th:TO}{pos p2:Pos}
theorem b59(h:PE X e te):PO X (some e) (b9d te):=by
 intro pins s σ H Q I hw
 rw [evalPart_some]
 refine M3 (h pins s σ H _ I hw) fun u s1 ⟨x,H1,I1,r1,q1⟩=> ?_
 obtain⟨i,rfl,q⟩:=q1
 obtain⟨t,rfl⟩:=r1
 exact⟨some i,H1,I1,.int i t,q⟩
def SlR(X:Cx)(r:V->Option Int->Option Int->Hp->VK->Prop):Prop:=
 ∀(pins:List (AB×Obj)) (s:AC) (σ:St) (H:Hp) (x:V) (v vl vu:AA) (lo hi:Option Int) (sl:AB) (Q:VK),n4 X pins σ H s->z4 x v->s.heap.IsSliceOf sl vl vu .none->IsPart vl lo->IsPart vu hi->r x lo hi H Q->
  ∃T id,typeLookup (.type T) "__getitem__"=pure (some (.builtin id))/\s.TypeIs v T/\AI (model X.prog X.w) X.A (getItem v (.ref sl)) (EP X pins σ Q) X.xe s
theorem SlR.or{r r':V->Option Int->Option Int->Hp->VK->Prop}(h:SlR X r)(h':SlR X r'):SlR X (fun x lo hi H Q=>r x lo hi H Q\/r' x lo hi H Q):=by
 intro pins s σ H x v vl vu lo hi sl Q I rx hs pl pu q
 rcases q with q|q
 ·exact h pins s σ H x v vl vu lo hi sl Q I rx hs pl pu q
 ·exact h' pins s σ H x v vl vu lo hi sl Q I rx hs pl pu q
def tSl(r:V->Option Int->Option Int->Hp->VK->Prop)(te:TE)(tl th:TO):TE:=fun σ H Q=>te σ H fun x H1=>tl σ H1 fun l H2=>th σ H2 fun u H3=>r x l u H3 Q
theorem b4b{r:V->Option Int->Option Int->Hp->VK->Prop}(hr:SlR X r)(he:PE X e te)(hl:PO X lo tl)(hu:PO X hi th):PE X (.Subscript e (.Slice lo hi none p2) pos) (tSl r te tl th):=by
 intro pins s σ H Q I h
 refine Subscript_ (M3 (he pins s σ H _ I h) fun v s1 ⟨x,H1,I1,r1,q1⟩=> ?_)
 refine wpAny_Slice (M3 (hl pins s1 σ H1 _ I1 q1) fun vl s2 ⟨l,H2,I2,pl,q2⟩=>M3 (hu pins s2 σ H2 _ I2 q2) fun vu s3 ⟨u,H3,I3,pu,q3⟩=> ?_)
 rw [evalPart_none]
 refine AS ?_
 have I4:n4 X pins σ H3 {s3 with heap:=s3.heap.push {cls:= .type "slice",data:= .fields #[vl,vu,.none]}}:=I3.kept (t':=s3.toks) fun b ob q=>Ah _ q
 obtain⟨T,id,hT,ht,hg⟩:=hr pins {s3 with heap:=s3.heap.push {cls:= .type "slice",data:= .fields #[vl,vu,.none]}} σ H3 x v vl vu l u s3.heap.objs.size Q I4 r1 (Heap.IsSliceOf.new ..) pl pu q3
 show AI (model X.prog X.w) X.A (subscriptTail e (.Slice lo hi none p2) v (.ref s3.heap.objs.size)) (EP X pins σ Q) X.xe {s3 with heap:=s3.heap.push {cls:= .type "slice",data:= .fields #[vl,vu,.none]}}
 exact tail_any (ops:=[.ref s3.heap.objs.size,v]) ht hT hg (by with_unfolding_all rfl)
def b41(xs:List V)(lo hi:Option Int):List V:=(xs.drop (HT.sIx xs.length 0 lo)).take (HT.sIx xs.length xs.length hi - HT.sIx xs.length 0 lo)
theorem a9b(xs:List V)(lo hi:Option Int):(b41 xs lo hi).length<=xs.length:=by
 unfold b41
 rw [List.length_take,List.length_drop]
 lia
def b9B(K:AD):V->Option Int->Option Int->Hp->VK->Prop:=fun x lo hi H Q=>∃a xs,x= .ref a/\SqT K H a xs/\
 ¬(HT.sIx xs.length 0 lo=0/\HT.sIx xs.length xs.length hi=xs.length)/\∀p,H p=none->Q (.ref p) (upd H p (.tup (b41 xs lo hi)))
theorem b8d:SlR X (b9B X.K):=by
 intro pins s σ H x v vl vu lo hi sl Q I rx hs pl pu h
 obtain⟨a,xs,rfl,hx,hw,q⟩:=h
 cases rx
 obtain⟨its,r,ht,hz⟩:=I.tuple hx
 have hlen:its.toArray.size=xs.length:=by rw [Am];exact r.length.symm
 refine⟨"tuple",_,PyProof.Rows.slot_tuple_getitem.lookup,ht.typeIs, ?_⟩
 refine HT.getItem_tuple_cut ht hs pl pu (by rw [hlen];exact hw) ?_ (by rw [hlen];exact hz)
 rw [hlen]
 refine⟨.ref s.heap.objs.size,_,I.laid (t':=s.toks) (o:= .tup (b41 xs lo hi)) (fun b ob q=>Ah _ q) (AV _) ?_,rfl,q _ (I.hok.fresh (AV _))⟩
 exact⟨Nat.le_trans (a9b xs lo hi) hz,_,(r.drop (HT.sIx xs.length 0 lo)).take (HT.sIx xs.length xs.length hi - HT.sIx xs.length 0 lo),IsTup.new _ _⟩
def b83(K:AD):R2:=fun x y H Q=>∃a b xs ys,x= .ref a/\y= .ref b/\SqT K H a xs/\SqT K H b ys/\xs≠[]/\xs.length+ys.length<=AO/\
 (ys=[]->Q (.ref a) H)/\(ys≠[]->∀p,H p=none->Q (.ref p) (upd H p (.tup (xs++ys))))
theorem u3.nil_iff{xs:List V}{us:List AA}(r:u3 xs us):us=[]↔xs=[]:=by
 cases r with
 |nil=>simp
 |cons _ _=>simp
theorem b5S:OpR X (binaryOp .Add) (b83 X.K):=by
 intro pins s σ H x y v u Q I rx ry h
 obtain⟨a,b,xs,ys,rfl,rfl,ha,hb,hx,hz,q1,q2⟩:=h
 cases rx
 cases ry
 obtain⟨its,r1,p1,_⟩:=I.tuple ha
 obtain⟨its2,r2,p2,_⟩:=I.tuple hb
 refine HT.cat_tup p1 p2 (fun z=>hx (r1.nil_iff.mp z)) (fun z=>⟨.ref a,H,I,rfl,q1 (r2.nil_iff.mp z)⟩) (fun z=> ?_) (by rw [<-r1.length,<-r2.length];exact hz)
 refine⟨.ref s.heap.objs.size,_,I.laid (t':=s.toks) (o:= .tup (xs++ys)) (fun b ob q=>Ah _ q) (AV _) ?_,rfl,q2 (fun w=>z (r2.nil_iff.mpr w)) _ (I.hok.fresh (AV _))⟩
 exact⟨by rw [AZ];exact hz,_,r1.append r2,IsTup.new _ _⟩
end
def ixN(n:Nat)(i:Int):Option Nat:=if 0<=i then(if i<n then some i.toNat else none) else if -(n:Int)<=i then some (i+n).toNat else none
def atI{α:Type}(xs:List α)(i:Int):Option α:=(ixN xs.length i).bind fun j=>xs[j]?
theorem b5r{n:Nat}{i:Int}{j:Nat}(h:ixN n i=some j):seqIndex? i n=some j/\j<n/\ -(n:Int)<=i/\i<n:=by
 unfold ixN at h
 by_cases h0:0<=i
 ·rw [if_pos h0] at h
  by_cases h1:i<n
  ·rw [if_pos h1] at h
   have e:i.toNat=j:=Option.some.inj h
   exact⟨by rw [seqIndex_of h0 h1,e],by lia,by lia,h1⟩
  ·rw [if_neg h1] at h;cases h
 ·rw [if_neg h0] at h
  by_cases h1: -(n:Int)<=i
  ·rw [if_pos h1] at h
   have e:(i+n).toNat=j:=Option.some.inj h
   exact⟨by rw [seqIndex_neg (by lia) h1,e],by lia,h1,by lia⟩
  ·rw [if_neg h1] at h;cases h
theorem a77{α:Type}{xs:List α}{i:Int}{v:α}(h:atI xs i=some v):∃j,seqIndex? i xs.length=some j/\xs[j]?=some v/\j<xs.length/\ -(xs.length:Int)<=i/\i<xs.length:=by
 unfold atI at h
 cases e:ixN xs.length i with
 |none=>rw [e] at h;cases h
 |some j=>
  rw [e] at h
  obtain⟨h1,h2,h3,h4⟩:=b5r e
  exact⟨j,h1,h,h2,h3,h4⟩
def b09(b:AG):Prop:=∀o i,subscripted b false o i=operate [o,i] (getItem o i)
def IxR(X:Cx)(r:R2):Prop:=
 ∀(value slice:AG) (pins:List (AB×Obj)) (s:AC) (σ:St) (H:Hp) (x y:V) (v u:AA) (Q:VK),n4 X pins σ H s->z4 x v->z4 y u->r x y H Q->
  subscripted slice false v u=operate [v,u] (getItem v u)->AI (model X.prog X.w) X.A (subscriptTail value slice v u) (EP X pins σ Q) X.xe s
def MtR(X:Cx)(id:String)(r:V->List V->Hp->VK->Prop):Prop:=
 ∀(pins:List (AB×Obj)) (s:AC) (σ:St) (H:Hp) (x:V) (xs:List V) (v:AA) (us:List AA) (Q:VK),n4 X pins σ H s->z4 x v->u3 xs us->r x xs H Q->
  AI (model X.prog X.w) X.A (call (.builtin id) (v::us)) (EP X pins σ Q) X.xe s
section
variable {X:Cx}{a b:AG}{ta tb:TE}{pos:Pos}
theorem IxR.or{r r':R2}(h:IxR X r)(h':IxR X r'):IxR X (fun x y H Q=>r x y H Q\/r' x y H Q):=by
 intro value slice pins s σ H x y v u Q I rx ry q hs
 rcases q with q|q
 ·exact h value slice pins s σ H x y v u Q I rx ry q hs
 ·exact h' value slice pins s σ H x y v u Q I rx ry q hs
theorem MtR.or{id:String}{r r':V->List V->Hp->VK->Prop}(h:MtR X id r)(h':MtR X id r'):MtR X id (fun x xs H Q=>r x xs H Q\/r' x xs H Q):=by
 intro pins s σ H x xs v us Q I rx rs q
 rcases q with q|q
 ·exact h pins s σ H x xs v us Q I rx rs q
 ·exact h' pins s σ H x xs v us Q I rx rs q
theorem b8Y{r:R2}(hr:IxR X r)(ha:PE X a ta)(hb:PE X b tb)(hs:b09 b):PE X (.Subscript a b pos) (tOp r ta tb):=by
 intro pins s σ H Q I h
 exact Subscript_ (b64 ha hb I h fun v u s2 x y H2 I2 rx ry q=>hr a b pins s2 σ H2 x y v u Q I2 rx ry q (hs _ _))
def b9x(K:AD):R2:=fun x y H Q=>∃p xs i v,x= .ref p/\y= .int i/\SqL K H p xs/\atI xs i=some v/\Q v H
def b9z(K:AD):R2:=fun x y H Q=>∃p xs i v,x= .ref p/\y= .int i/\SqT K H p xs/\atI xs i=some v/\Q v H
def b9y:R2:=fun x y H Q=>∃z i c,x= .str z/\y= .int i/\z.length<=AO/\atI z.cps.toList i=some c/\Q (.str ⟨#[c]⟩) H
theorem b5s:IxR X (b9x X.K):=by
 intro value slice pins s σ H x y v u Q I rx ry h hs
 obtain⟨p,xs,i,z,rfl,rfl,hq,he,q⟩:=h
 cases rx
 obtain⟨t,rfl⟩:=ry
 obtain⟨its,r,pl,hz⟩:=I.list hq
 obtain⟨j,h1,h2,h3,h4,h5⟩:=a77 he
 obtain⟨w,ew,rw'⟩:=r.get h2
 have hl:=r.length
 have hn:=a4t
 have fin:EP X pins σ Q w s:=⟨z,H,I,rw',q⟩
 by_cases h0:0<=i
 ·have hj:i.toNat=j:=by
   rw [seqIndex_of h0 h5] at h1
   exact Option.some.inj h1
  exact item_listR pl.isList h0 (by lia) (by rw [hj];simpa using ew) fin hs
 ·have hj:(i+(its.toArray.size:Int)).toNat=j:=by
   rw [seqIndex_neg (by lia) h4] at h1
   rw [Am,<-hl]
   exact Option.some.inj h1
  exact subscriptTail_builtinR (x:=w) pl.isList.typeIs slot_list_getitem.lookup
   (wpAny_getItem_list_neg (Q:=fun r s'=>r=w/\EP X pins σ Q r s') pl.isList (by lia) (by rw [Am]<;>lia) (by lia) (by rw [hj];simpa using ew) ⟨rfl,fin⟩) hs
theorem b7u:IxR X (b9z X.K):=by
 intro value slice pins s σ H x y v u Q I rx ry h hs
 obtain⟨p,xs,i,z,rfl,rfl,hq,he,q⟩:=h
 cases rx
 obtain⟨t,rfl⟩:=ry
 obtain⟨its,r,pl,hz⟩:=I.tuple hq
 obtain⟨j,h1,h2,h3,h4,h5⟩:=a77 he
 obtain⟨w,ew,rw'⟩:=r.get h2
 have hl:=r.length
 have hn:=a4t
 have fin:EP X pins σ Q w s:=⟨z,H,I,rw',q⟩
 exact subscriptTail_builtinR (x:=w) pl.typeIs slot_tuple_getitem.lookup
  (getItem_tuple (j:=j) (Q:=fun r s'=>r=w/\EP X pins σ Q r s') pl (by lia) (by lia) (by rw [Am,<-hl];exact h1) (by simpa using ew) ⟨rfl,fin⟩) hs
theorem b7t:IxR X b9y:=by
 intro value slice pins s σ H x y v u Q I rx ry h hs
 obtain⟨z,i,c,rfl,rfl,hz,he,q⟩:=h
 obtain⟨t,rfl⟩:=rx
 obtain⟨t',rfl⟩:=ry
 obtain⟨j,h1,h2,h3,h4,h5⟩:=a77 he
 have hl:z.cps.toList.length=z.length:=by simp [Str.length]
 rw [hl] at h1 h4 h5
 have hn:=a4t
 exact tail_any (typeIs_str s z t) slot_str_getitem.lookup (getItem_str (c:=c) (by
  have e1:decide (i< -(2 ^ 63:Int))=false:=decide_eq_false (by lia)
  have e2:decide (i>=2 ^ 63)=false:=decide_eq_false (by lia)
  rw [e1,e2,Bool.or_false]) (by rw [h1];simpa using h2) ⟨.str ⟨#[c]⟩,H,I.tok _,⟨_,rfl⟩,q⟩) hs
theorem n4.lst{pins:List (AB×Obj)}{σ:St}{H:Hp}{s:AC}{p:AB}{xs:List V}(I:n4 X pins σ H s)(h:H p=some (.lst xs)):
 ∃(its:List AA) (n:Nat),u3 xs its/\s.heap.get? p=some {cls:= .type "list",data:= .seq its.toArray n}/\xs.length<=AO:=by
 obtain⟨z,its,n,r,e⟩:=I.hok p _ h
 exact⟨its,n,r,e,z⟩
def b84:V->V->V->Hp->(Hp->Prop)->Prop:=fun o i v H Q=>∃p xs k j,o= .ref p/\i= .int k/\H p=some (.lst xs)/\ixN xs.length k=some j/\Q (upd H p (.lst (xs.set j v)))
theorem a8R(lo hi:Option Int)(n:Nat):(sliceBounds lo hi none n).1=((HT.sIx n 0 lo:Nat):Int)/\(sliceBounds lo hi none n).2.1=((HT.sIx n n hi:Nat):Int)/\(sliceBounds lo hi none n).2.2=1:=by
 refine⟨?_, ?_,rfl⟩
 ·cases lo with
  |none=>simp [sliceBounds,HT.sIx]
  |some i=>
   simp only [sliceBounds,HT.sIx,Option.getD_none,show(1:Int)>0 by decide,if_true]
   by_cases h:i<0
   ·simp only [h,if_true]<;>lia
   ·simp only [h,if_false]<;>lia
 ·cases hi with
  |none=>simp [sliceBounds,HT.sIx]
  |some i=>
   simp only [sliceBounds,HT.sIx,Option.getD_none,show(1:Int)>0 by decide,if_true]
   by_cases h:i<0
   ·simp only [h,if_true]<;>lia
   ·simp only [h,if_false]<;>lia
theorem a3d(its:List AA)(lo hi:Option Int):slicePick its.toArray lo hi none=((its.drop (HT.sIx its.length 0 lo)).take (HT.sIx its.length its.length hi - HT.sIx its.length 0 lo)).toArray:=by
 obtain⟨h1,h2,h3⟩:=a8R lo hi its.toArray.size
 unfold slicePick
 rw [h1,h2,h3]
 simp only [sliceRange_one,pick_run,Am]<;>rfl
theorem a8c:O7 X (.builtin "len") (fun xs H Q=>∃p ys,xs=[.ref p]/\(SqL X.K H p ys\/SqT X.K H p ys)/\Q (.int ys.length) H):=by
 intro pins s σ H xs us Q I r h
 obtain⟨p,ys,rfl,hq,q⟩:=h
 obtain⟨u,rfl,rx⟩:=a3e r
 cases rx
 have hn:=a4t
 rcases hq with hq|hq
 ·obtain⟨its,r',pl,hz⟩:=I.list hq
  have hlen:=r'.length
  exact Calls.call_len_list pl.isList (by simp only [Am]<;>lia) ⟨.int ys.length,H,I.tok _,⟨s.toks+1,by rw [Am,hlen]⟩,q⟩
 ·obtain⟨its,r',pl,hz⟩:=I.tuple hq
  have hlen:=r'.length
  exact len_tuple pl (by simp only [Am]<;>lia) ⟨.int ys.length,H,I.tok _,⟨s.toks+1,by rw [Am,hlen]⟩,q⟩
theorem a8d:O7 X (.builtin "len") (fun xs H Q=>∃z,xs=[.str z]/\z.length<=AO/\Q (.int z.length) H):=by
 intro pins s σ H xs us Q I r h
 obtain⟨z,rfl,hz,q⟩:=h
 obtain⟨u,rfl,t,rfl⟩:=a3e r
 have hn:=a4t
 exact len_str (by lia) ⟨.int z.length,H,I.tok _,⟨_,rfl⟩,q⟩
theorem O7.or{f:AA}{r r':List V->Hp->VK->Prop}(h:O7 X f r)(h':O7 X f r'):O7 X f (fun xs H Q=>r xs H Q\/r' xs H Q):=by
 intro pins s σ H xs us Q I rs q
 rcases q with q|q
 ·exact h pins s σ H xs us Q I rs q
 ·exact h' pins s σ H xs us Q I rs q
theorem a6Y:O7 X (.type "tuple") (fun xs H Q=>∃p ys,xs=[.ref p]/\((SqL X.K H p ys/\∀l,H l=none->Q (.ref l) (upd H l (.tup ys)))\/(SqT X.K H p ys/\Q (.ref p) H))):=by
 intro pins s σ H xs us Q I r h
 obtain⟨p,ys,rfl,h⟩:=h
 obtain⟨u,rfl,rx⟩:=a3e r
 cases rx
 rcases h with⟨hq,q⟩|⟨hq,q⟩
 ·obtain⟨its,r',pl,hz⟩:=I.list hq
  have hlen:=r'.length
  refine call_tuple_list pl.isList (fun h' kp=> ?_) (by simp only [Am]<;>lia)
  have I1:n4 X pins σ H {s with heap:=h'}:=I.kept (t':=s.toks) kp
  have I2:n4 X pins σ (upd H h'.objs.size (.tup ys)) {s with heap:=h'.push {cls:= .type "tuple",data:= .seq its.toArray}}:=
   I1.laid (t':=s.toks) (fun b o e=>Ah _ e) (AV _) (show O8 X.prog X.w _ _ _ (.tup ys) from⟨hz,its,r',IsTup.new _ _⟩)
  exact⟨.ref h'.objs.size,_,I2,rfl,q _ (I1.hok.fresh (AV _))⟩
 ·obtain⟨its,r',pl,hz⟩:=I.tuple hq
  exact call_tuple_same pl ⟨.ref p,H,I,rfl,q⟩
def tyV(K:AD)(T:String)(x:V)(H:Hp):Prop:=match x with
 | .str _=>T="str"
 | .int _=>T="int"
 | .ref p=>(T="list"/\∃xs,SqL K H p xs)\/(T="tuple"/\∃o,K.lookup p=some o/\o.cls= .type "tuple"/\o.dict=none)\/
  (T="dict"/\((∃kvs,H p=some (.dK kvs))\/∃kvs,H p=some (.dT kvs)))\/(T="set"/\∃S n,H p=some (.set S n))
 |_=>False
theorem b8n{pins:List (AB×Obj)}{σ:St}{H:Hp}{s:AC}{T:String}{x:V}{v:AA}(I:n4 X pins σ H s)(r:z4 x v)(ty:tyV X.K T x H):
 s.TypeIs v T/\∀a,v= .ref a->∃ob,s.heap.get? a=some ob/\ob.dict=none:=by
 cases x with
 |str z=>
  obtain⟨t,rfl⟩:=r
  cases(show T="str" from ty)
  exact⟨typeIs_str s z t,fun _ e=>nomatch e⟩
 |int i=>
  obtain⟨t,rfl⟩:=r
  cases(show T="int" from ty)
  exact⟨typeIs_int s i t,fun _ e=>nomatch e⟩
 |ref p=>
  cases r
  rcases ty with⟨rfl,xs,hq⟩|⟨rfl,o,hk,hc,hd⟩|⟨rfl,hk⟩|⟨rfl,S,n,hk⟩
  ·obtain⟨its,_,pl,_⟩:=I.list hq
   refine⟨pl.isList.typeIs,fun a e=> ?_⟩
   cases e
   obtain⟨o,n,e,c,hd,_⟩:=pl
   exact⟨o,e,hd⟩
  ·refine⟨⟨o,I.kIn p o hk,hc⟩,fun a e=> ?_⟩
   cases e
   exact⟨o,I.kIn _ o hk,hd⟩
  ·have z:∃o,s.heap.get? p=some o/\o.ExactDict:=by
    rcases hk with⟨kvs,hk⟩|⟨kvs,hk⟩
    ·obtain⟨_,_,_,_,o,_,_,e,ex,_⟩:=I.hok p _ hk
     exact⟨o,e,ex⟩
    ·obtain⟨_,_,_,_,o,_,_,e,ex,_⟩:=I.hok p _ hk
     exact⟨o,e,ex⟩
   obtain⟨o,e,ex⟩:=z
   refine⟨⟨o,e,ex.1⟩,fun a e2=> ?_⟩
   cases e2
   exact⟨o,e,ex.2.1⟩
  ·obtain⟨o,_,_,_,e,ex,_⟩:=I.hok p _ hk
   refine⟨⟨o,e,ex.1⟩,fun a e2=> ?_⟩
   cases e2
   exact⟨o,e,ex.2.1⟩
 |_=>exact False.elim ty
def tBM(K:AD)(T:String)(r:V->List V->Hp->VK->Prop)(to:TE)(t:TA):TE:=fun σ H Q=>to σ H fun x H1=>tyV K T x H1/\t σ H1 fun xs H2=>r x xs H2 Q
variable {o e:AG}{es:List AG}{to:TE}{t:TA}{name:Str}{apos cpos:Pos}{T id:String}{r:V->List V->Hp->VK->Prop}
theorem a9M(pa:PlainAttrs T)(slot:Slot T name id)(hty:typeOf (.builtin id)=pure (.type "method_descriptor"))(hm:MtR X id r)(ho:PE X o to)(ha:PA X (e::es) t)
 (hbase:attributeBase o name X.env (eval o X.env)=eval o X.env:=by rfl)
 (hfew:((backTo cpos (AN (e::es) X.env)).all (fun x=> !x.1)&&(backToKw cpos (keywordEach [] X.env)).all (fun x=>x.1.isSome)
  && decide ((e::es).length+([]:List Keyword).length+(if([]:List Keyword).isEmpty then 0 else 1)<30))=true:=by rfl)
 (hline:(apos.endLine==cpos.line)=true:=by rfl) (hs:AN (e::es) X.env=(false,eval e X.env)::AN es X.env:=by rfl) (hplain:(backTo cpos (AN es X.env)).any (·.1)=false:=by rfl):
 PE X (.Call (.Attribute o name apos) (e::es) [] cpos) (tBM X.K T r to t):=by
 intro pins s σ H Q I h
 refine wpAny_Call_method_late hbase hfew hline rfl (M3 (ho pins s σ H _ I h) fun v s1 ⟨x,H1,I1,r1,ty,q1⟩=> ?_)
 obtain⟨h1,h2⟩:=b8n I1 r1 ty
 refine⟨T,id,pa,slot,hty,h1,h2, ?_⟩
 have hA:=ha cpos pins s1 σ H1 _ I1 q1
 rw [hs] at hA ⊢
 refine Calls.callWith_builtin (by show(false||(backTo cpos (AN es X.env)).any (·.1))=false;rw [hplain]<;>rfl) (Calls.evalArgs_plain ?_)
 exact M3 hA fun us s2 ⟨vs,H2,I2,r2,q2⟩=>hm pins s2 σ H2 x vs v us Q I2 r1 r2 q2
end
def MtM(X:Cx)(id:String)(r:V->List V->Hp->VK->Prop):Prop:=
 ∀(pins:List (AB×Obj)) (s:AC) (σ:St) (H:Hp) (x:V) (xs:List V) (v:AA) (us:List AA) (Q:VK),n4 X pins σ H s->z4 x v->u3 xs us->r x xs H Q->
  AI (model X.prog X.w) X.A (call (.builtin id) (v::us)) (EP X pins σ Q) X.xe s
theorem u3.one:∀{x:V} {us:List AA},u3 [x] us->∃u,us=[u]/\z4 x u
 |_,_,.cons r .nil=>⟨_,rfl,r⟩
theorem u3.zero:∀{us:List AA},u3 [] us->us=[]
 |_,.nil=>rfl
theorem u3.dropLast{xs:List V}{us:List AA}(h:u3 xs us):u3 xs.dropLast us.dropLast:=by
 induction h with
 |nil=>exact .nil
 |cons r t ih=>
  cases t with
  |nil=>exact .nil
  |cons q t'=>exact .cons r ih
theorem u3.reverse{xs:List V}{us:List AA}(h:u3 xs us):u3 xs.reverse us.reverse:=by
 induction h with
 |nil=>exact .nil
 |cons r t ih=>rw [List.reverse_cons,List.reverse_cons];exact u3.append ih (.cons r .nil)
theorem u3.rep{xs:List V}{us:List AA}(h:u3 xs us):∀k:Nat,u3 (AR k xs).flatten (AR k us).flatten
 |0=> .nil
 |k+1=>by
  rw [AW,AW,List.flatten_cons,List.flatten_cons]
  exact u3.append h (u3.rep h k)
theorem a4n(its:List AA):∀(k:Nat) (acc:List AA),
 List.foldl (fun x1 x2=>x1++x2) acc.toArray (AR k its.toArray)=(acc++(AR k its).flatten).toArray
 |0,acc=>by simp
 |k+1,acc=>by
  have e:acc.toArray++its.toArray=(acc++its).toArray:=by simp
  have e2:(acc++its)++(AR k its).flatten=acc++(AR (k+1) its).flatten:=by
   rw [AW,List.flatten_cons,List.append_assoc]
  rw [<-e2,<-a4n its k (acc++its),<-e,AW,List.foldl_cons]
section
variable {X:Cx}{pins:List (AB×Obj)}{σ:St}{H:Hp}{s:AC}{l b:AB}{xs ys zs:List V}
theorem n4.lset{its its':List AA}{n:Nat}{f:Array AA->Array AA}{t':Nat}(I:n4 X pins σ H s)(hH:H l=some (.lst xs))
 (e:s.heap.get? l=some {cls:= .type "list",data:= .seq its.toArray n}) (hf:f its.toArray=its'.toArray) (hv:u3 ys its') (hz:ys.length<=AO):
 n4 X pins σ (upd H l (.lst ys)) {s with heap:=s.heap.update l (Obj.mapSeq f),toks:=t'}:=by
 have q:=PySem.IsL.update e f
 rw [hf] at q
 refine I.write (x:=l) (e:=l) (by rw [hH];exact trivial) (.inl rfl) (fun b' u hb hu=>(Heap.get?_update_other s.heap (Obj.mapSeq f) (Ne.symm hb)).trans hu) ⟨_,q⟩ ?_
 exact⟨hz,its',_,hv,q⟩
theorem n4.lnew{its:List AA}{t':Nat}(I:n4 X pins σ H s)(hv:u3 ys its)(hz:ys.length<=AO):
 n4 X pins σ (upd H s.heap.objs.size (.lst ys)) {s with heap:=s.heap.push {cls:= .type "list",data:= .seq its.toArray},toks:=t'}:=
 I.laid (fun _ _ q=>Ah _ q) (AV _) ⟨hz,its,0,hv,Ar _ rfl⟩
theorem n4.fresh(I:n4 X pins σ H s):H s.heap.objs.size=none:=I.hok.fresh (AV _)
theorem n4.lstM(I:n4 X pins σ H s)(hH:H l=some (.lst xs)):xs.length<=AO/\∃(its:List AA) (n:Nat),u3 xs its/\xs.length=its.length/\s.heap.get? l=some {cls:= .type "list",data:= .seq its.toArray n}:=by
 obtain⟨z,its,n,r,e⟩:=I.hok l _ hH
 exact⟨z,its,n,r,r.length,e⟩
theorem b3S{n:Nat}(h:n<=AO):Builtin.List.listTooLong n=false:=by
 unfold Builtin.List.listTooLong
 exact decide_eq_false (by lia)
end
section
variable {X:Cx}
def b6d:V->List V->Hp->VK->Prop:=fun x vs H Q=>∃l xs y,x= .ref l/\vs=[y]/\H l=some (.lst xs)/\xs.length<AO/\Q .non (upd H l (.lst (xs++[y])))
theorem a7D:MtM X "list.append" b6d:=by
 intro pins s σ H x vs v us Q I rx rv h
 obtain⟨l,xs,y,rfl,rfl,hH,hz,q⟩:=h
 cases rx
 obtain⟨u,rfl,ru⟩:=rv.one
 obtain⟨z,its,n,r,hl,e⟩:=I.lstM hH
 refine call_meets F.slot_list_append ⟨_,e,rfl⟩ F.entry_list_append (F.args_list_append_2 _ _) (PySem.list_append l its.toArray n u (by rw [Am];lia)) ⟨e, ?_⟩
 refine⟨.non,_,I.lset (its':=its++[u]) hH e (by simp) (r.append (.cons ru .nil)) ?_,rfl,q⟩
 rw [AZ,List.length_singleton]
 lia
def b9w:R2:=fun x y H Q=>∃l b xs zs,x= .ref l/\y= .ref b/\H l=some (.lst xs)/\H b=some (.lst zs)/\xs.length+zs.length<=AO/\∀p,H p=none->Q (.ref p) (upd H p (.lst (xs++zs)))
theorem b7K:OpR X (binaryOp .Add) b9w:=by
 intro pins s σ H x y v u Q I rx ry h
 obtain⟨l,b,xs,zs,rfl,rfl,hH,hB,hz,q⟩:=h
 cases rx
 cases ry
 obtain⟨z,its,n,r,hl,e⟩:=I.lstM hH
 obtain⟨z2,its2,n2,r2,hl2,e2⟩:=I.lstM hB
 refine PySem.P.add_list e e2 ?_ (by rw [Am,Am];lia)
 have ea:its.toArray++its2.toArray=(its++its2).toArray:=by simp
 rw [ea]
 exact⟨.ref _,_,I.lnew (t':=s.toks) (r.append r2) (by rw [AZ];lia),rfl,q _ I.fresh⟩
def b9A:R2:=fun x y H Q=>∃l k xs,x= .ref l/\y= .int k/\H l=some (.lst xs)/\ -(2 ^ 63)<=k/\k<2 ^ 63/\xs.length*k.toNat<=AO/\
 ∀p,H p=none->Q (.ref p) (upd H p (.lst (AR k.toNat xs).flatten))
theorem a8w{α:Type}(xs:List α)(k:Nat):(AR k xs).flatten.length=k*xs.length:=by
 induction k with
 |zero=>simp
 |succ k ih=>rw [AW,List.flatten_cons,AZ,ih,Nat.succ_mul,Nat.add_comm]
theorem b7P:OpR X (binaryOp .Mult) b9A:=by
 intro pins s σ H x y v u Q I rx ry h
 obtain⟨l,k,xs,rfl,rfl,hH,h1,h2,hz,q⟩:=h
 cases rx
 obtain⟨t,rfl⟩:=ry
 obtain⟨z,its,n,r,hl,e⟩:=I.lstM hH
 have hlen:its.toArray.size*k.toNat<=AO:=by rw [Am,<-hl];exact hz
 have hcap:¬its.toArray.size*k.toNat>(2 ^ 63 - 1)/ 8:=by
  have:(AO:Nat)<=(2 ^ 63 - 1)/ 8:=by decide
  lia
 have hfit:¬(!Builtin.List.listFitsIndex k)=true:=by
  rw [fitsIndex_both h1 h2]
  exact Aq
 have hlong:¬Builtin.List.listTooLong (its.toArray.size*k.toNat)=true:=by
  rw [b3S hlen]
  exact Aq
 have hnew:List.foldl (fun x1 x2=>x1++x2) #[] (AR (if its.toArray.isEmpty=true then 0 else k.toNat) its.toArray)=(AR k.toNat its).flatten.toArray:=by
  have f0:∀m:Nat,List.foldl (fun x1 x2=>x1++x2) #[] (AR m its.toArray)=(AR m its).flatten.toArray:=fun m=>by
   have:=a4n its m []
   rw [AY] at this
   exact this
  rw [f0]
  cases its with
  |nil=>simp
  |cons a r'=>rw [if_neg (by simp)]
 refine wpAny_binaryOp_repeat_ref (T:="list") (U:="int") (by decide) ⟨_,e,rfl⟩ (fun s'=>typeIs_int s' k t) noFill_list_mul F.fills_int_mul F.slot_int_rmul repeat_list F.slot_int_index.lookup
  (call_meets F.slot_int_rmul (typeIs_int s k t) F.entry_int_rmul (F.args_int_rmul_2 _ _) (int___rmul___int_list k t l its.toArray n)
   ⟨e,rfl,⟨_,e,rfl⟩,call_meets F.slot_list_mul ⟨_,e,rfl⟩ F.entry_list_mul (F.args_list_mul_2 _ _) (AutoListH.list___mul___list_int_3 l its.toArray n k t hfit hcap hlong) ⟨e, ?_⟩⟩)
 rw [hnew]
 exact⟨.ref _,_,I.lnew (t':=s.toks) (r.rep k.toNat) (by rw [a8w,Nat.mul_comm];exact hz),rfl,q _ I.fresh⟩
end
section
variable {prog:AL}{w:AJ}{A:AK}{E:AA->AC->Prop}{s:AC}
end
section
variable {X:Cx}
end
end L2
namespace Att
open PySem PySem.W PySem.Calls PyProof.Rows
theorem a43{P:Params}{h:Heap}:∀(ns:List Int) (vs:List AA),WellAll P h vs (ns.map WData.int)->IntsAre vs ns:=by
 intro ns
 induction ns with
 |nil=>
  intro vs w
  rw [AT] at w
  cases w
  exact .nil
 |cons n ns ih=>
  intro vs w
  rw [AM] at w
  cases w with
  |cons a b=>
   cases a
   exact .cons _ _ (ih _ b)
theorem b2L{l:OpenLaw}{n:Nat}(hn:l.most=some n){P:Params}{h:Heap}{args:List WData}{vals:List AA}
 (hpre:l.row.toRowW.claim.pre args=true) (hwl:WellAll P h vals args):
 ∃a vs ns,vals=[Value.ref a]/\args=[WData.list (ns.map WData.int)]/\h.get? a=some {cls:= .type "list",data:= .seq vs.toArray}/\IntsAre vs ns/\ns.length<=n:=by
 have hsh:WShape.hasAll [] args [.list .int]=true:=(pre_splitW hpre).1
 have hc:l.pre.holds [] {args:=args}=true:=(pre_splitW hpre).2
 obtain⟨d,r,rfl,h1,h2⟩:=hasAllW_cons hsh
 obtain rfl:=hasAllW_nil h2
 obtain⟨xs,rfl,h3⟩:=hasW_list h1
 obtain⟨ns,rfl⟩:=items_int h3
 have hlen:ns.length<=n:=by
  unfold OpenLaw.pre at hc
  have h4:(WTm.not (.lt (.lit (.int (n:Int))) (.len (.arg 0)))).holds [] {args:=[.list (ns.map .int)]}=true:=by
   have h4:=(holds_andW hc).1
   rw [hn] at h4
   exact h4
  have h5:=condW_of h4 (w_not (w_lt w_lit (w_len_list (w_arg rfl))))
  rw [An] at h5
  refine Nat.le_of_not_lt fun q=> ?_
  have q':(n:Int)<((ns.length:Nat):Int):=by lia
  first
   |(rw [decide_eq_true q'] at h5;exact absurd h5 (by decide))
   |(simp at h5;lia)
 cases hwl with
 |cons w1 w2=>
  cases w2
  cases w1 with
  |list ho hall=>exact⟨_,_,ns,rfl,rfl,ho,a43 ns _ hall,hlen⟩
theorem b2D(l:OpenLaw)(args:List WData):l.row.toRowW.claim.post args (.bool true) args=true:=
 postW_of (r:=l.row.toRowW) (X:=(true==true))
  (show WShape.has [] (.bool true) .bool=true by first|rfl|decide|simp [WShape.has,WShape.arms,WShape.armsAll])
  (show(WTm.eq .res (.lit (.bool true))).value [] {args:=args,res:=some (.bool true),after:=args}=some (.bool (true==true)) from w_eq_bool (w_res rfl) w_lit) rfl
theorem attach_call{l:OpenLaw}{n:Nat}{q:AL}{loose:List Str}{XP:(Str->Option AA)->Heap->Prop}{YP:AJ->Heap->Prop}{d:DefRec}
 (hn:l.most=some n) (hdf:d.params.defaults=[])
 (call:∀(w:AJ) (s₀ s₁:AC) (mg mb:Str->Option AA) (fa:AB) (o:Obj) (pm cd doc:AA) (a:AB) (vs:List AA) (ns:List Int),
  Ground q loose [] XP w s₀ mg mb s₁.heap->YP w s₁.heap->
  s₁.heap.get? fa=some o->o.data= .func (docDef d.name d.params d.body d.scope pm cd doc)->s₁.heap.CodeRec cd d.name->mg d.name=some (.ref fa)->
  s₁.heap.get? a=some {cls:= .type "list",data:= .seq vs.toArray}->IntsAre vs ns->ns.length<=n->s₁.gens= #[]->
  codeAny (model l.prog w) callerA (.call (.ref fa) ⟨[.ref a],[]⟩) (fun r s'=>r= .ok (.ret (.bool true))/\OldK s₁.heap s'.heap/\s'.os=s₁.os/\AllBare s'.gens) s₁):
 WalkO q loose XP YP l.row.toRowW d [] (fun f vs=>PySem.call f vs):=by
 intro w s₀ s₁ mg mb G Y fa o pm cd doc dV kV ho hd hcd hD hmg hg args vals as hpre hlay hrd hwl hlo
 obtain rfl:dV= .none:=Dflts.none hD hdf
 obtain rfl:kV= .none:=Dflts.noKw hD
 obtain⟨a,vs,ns,rfl,rfl,hobj,hints,hlen⟩:=b2L hn hpre hwl
 refine enter_call (codeAny_mono (call w s₀ s₁ mg mb fa o pm cd doc a vs ns G Y ho (fd_plain hd) hcd hmg hobj hints hlen hg) fun r s' hq=> ?_)
 obtain⟨rfl,h2,h3,h4⟩:=hq
 exact⟨.inl ⟨.bool true,.bool true,[],rfl,fun _=>rfl,.bool true,b2D l _,fun _=>⟨List.Pairwise.nil,fun _ hm=>(nomatch hm)⟩⟩,h2,h3,h4⟩
section
variable {prog:AL}{w:AJ}{A:AK}{E:AA->AC->Prop}{s:AC}{K:Frag}
end
end Att
namespace L2
open PySem PySem.Spec PyProof.Rows
theorem a7U:∀{vs:List AA} {ns:List Int},IntsAre vs ns->u3 (ns.map V.int) vs
 |_,_,.nil=> .nil
 |_,_,.cons n t h=> .cons ⟨t,rfl⟩ (a7U h)
def b6R(H:Hp):Prop:=∀b,H b=none\/∃o xs,H b=some (.frz o (.lst xs))
theorem b3G{P:AL}{w:AJ}{K:AD}{mg mb:Str->Option AA}{CX:CXT}{k:Nat}{fa a:AB}{fd:FuncData}{x:Str}{sp:Sp}{s₁:AC}{vs:List AA}{ns:List Int}
 (KX:K.In s₁.heap) (hns:s₁.heap.Ns mainGlobals mg) (hb:s₁.heap.Ns builtinsNs mb) (hbb:∀x:Str,x≠"__name__"->mb x=bootBuiltins x) (hlim:s₁.heap.NoLimit) (hg:s₁.gens= #[])
 (ha:s₁.heap.get? a=some {cls:= .type "list",data:= .seq vs.toArray}) (hi:IntsAre vs ns) (hl:ns.length<=AO) (hr:D3 k callerA)
 (F:∀base:Heap,K.In base->base.Ns mainGlobals mg->M8 P w K mg base CX k fa fd [x] sp) (hbind:∀(s:AC) (u:AA),BindsTo s fd ⟨[u],[]⟩ [(x,u)])
 (hsp:∀H:Hp,b6R H->SqL K H a (ns.map V.int)->sp [.ref a] H (fun v _=>v= .bl true) fun _ _ _=>False)
 (hCX:∀H e s',CX [] H s₁ (fun _ _ _=>False) e s'->False):
 codeAny (model P w) callerA (.call (.ref fa) ⟨[.ref a],[]⟩) (fun r s'=>r= .ok (.ret (.bool true))/\OldK s₁.heap s'.heap/\s'.os=s₁.os/\AllBare s'.gens) s₁:=by
 have rv:=a7U hi
 have lenV:=hi.length
 have core:∀H:Hp,b6R H->SqL K H a (ns.map V.int)->HOk P w H s₁.heap->(∀b,H b≠none->b=a)->(H a≠none->K.lookup a=none)->
  codeAny (model P w) callerA (.call (.ref fa) ⟨[.ref a],[]⟩) (fun r s'=>r= .ok (.ret (.bool true))/\OldK s₁.heap s'.heap/\s'.os=s₁.os/\AllBare s'.gens) s₁:=by
  intro H hO hS hok hA hK
  have base_of:∀{b:AB} {o:Obj},s₁.heap.get? b=some o->H b=none->(a8r s₁.heap H).get? b=some o:=fun e n=>b3w e n
  have noA:∀{b:AB} {o:Obj} {es:Array DictEntry} {ep:Nat},s₁.heap.get? b=some o->o.data= .dict es ep->H b=none:=fun {b o es ep} e d=>by
   cases q:H b with
   |none=>rfl
   |some u=>
    have e':b=a:=hA b (by rw [q];simp)
    subst e'
    rw [ha] at e;cases e
    have d':Data.seq vs.toArray _=Data.dict es ep:=d
    cases d'
  have nsK:∀{b:AB} {m:Str->Option AA},s₁.heap.Ns b m->(a8r s₁.heap H).Ns b m:=fun {b m} ⟨o,es,ep,e,d,r⟩=>⟨o,es,ep,base_of e (noA e d),d,r⟩
  have hKb:K.In (a8r s₁.heap H):=fun b o e=>base_of (KX b o e) (by
   cases q:H b with
   |none=>rfl
   |some u=>
    have e':b=a:=hA b (by rw [q];simp)
    subst e'
    rw [hK (by rw [q];simp)] at e;cases e)
  have hM:Mod K mg (a8r s₁.heap H):=⟨hKb,nsK hns,⟨mb,nsK hb,hbb⟩,let ⟨mc,h1,h2⟩:=hlim;⟨mc,nsK h1,h2⟩⟩
  have e0:a6R P w K mg (a8r s₁.heap H) callerA [] s₁ H:=⟨rfl,hM,fun b o e=>b5R e,Nat.le_of_eq (b2b _ _),trivial,fun b hb=>absurd (show b∈([]:List AB) from hb) (by simp),hok,.of_eq hg⟩
  refine codeAny_mono ((F _ hKb (nsK hns)).run callerA [] s₁ H ⟨[.ref a],[]⟩ [.ref a] [.ref a] _ _ hr e0 (hbind s₁ (.ref a)) (.cons rfl .nil) (hsp H hO hS)) fun r s' h=> ?_
  cases r with
  |error e=>exact(hCX H e s' h).elim
  |ok fl=>
   cases fl with
   |next=>exact False.elim h
   |brk=>exact False.elim h
   |cont=>exact False.elim h
   |ret u=>
    obtain⟨v,H',os,bare,un,hok',r',q⟩:=h
    have q':v= .bl true:=q
    subst q'
    obtain rfl:u=Value.bool true:=r'
    refine⟨rfl,OldK.of_keep fun b o e=> ?_,os,bare⟩
    cases q:H b with
    |none=>exact un.keep b o e q (by intro z;exact absurd (show b∈([]:List AB) from z) (by simp)) (by simp)
    |some u=>
     rcases hO b with z|⟨ob,xs,z⟩
     ·rw [q] at z;cases z
     ·have z2:=un.frzs b ob _ z
      obtain⟨e1,_⟩:=hok b _ z
      obtain⟨e2,_⟩:=hok' b _ z2
      rw [e] at e1;cases e1
      exact e2
 cases hk:K.lookup a with
 |some o=>
  have e:=KX a o hk
  rw [ha] at e
  cases e
  refine core (fun _=>none) (fun _=> .inl rfl) (.inr ⟨_,vs.toArray,_,hk,rfl,rfl,rfl,by rw [Am,lenV];exact hl,by simpa using rv⟩) (fun b u z=>by have z':(none:Option HO)=some u:=z;cases z') (fun b z=>absurd rfl z) fun z=>absurd rfl z
 |none=>
  refine core (fun b=>if b=a then some (.frz {cls:= .type "list",data:= .seq vs.toArray} (.lst (ns.map V.int))) else none) (fun b=> ?_) (.inl (.inr ⟨{cls:= .type "list",data:= .seq vs.toArray},if_pos rfl⟩)) (fun b u z=> ?_) (fun b z=> ?_) fun _=>hk
  ·by_cases hb:b=a
   ·exact .inr ⟨_,_,if_pos hb⟩
   ·exact .inl (if_neg hb)
  ·by_cases hb:b=a
   ·have z':=(if_pos hb).symm.trans z
    cases z'
    subst hb
    exact⟨ha,by rw [An];exact hl,vs,_,rv,ha⟩
   ·have z':=(if_neg hb).symm.trans z
    cases z'
  ·by_cases hb:b=a
   ·exact hb
   ·exact absurd (if_neg hb) z
theorem b6w{l:PySem.W.OpenLaw}{n k:Nat}{q:AL}{loose:List Str}{XP:(Str->Option AA)->Heap->Prop}{YP:AJ->Heap->Prop}{d:DefRec}{K:Params->AD}{CX:AJ->CXT}{sp:AJ->Sp}{x:Str}
 (hn:l.most=some n) (hn2:n<=AO) (hdf:d.params.defaults=[]) (hr:D3 k callerA)
 (hY:∀(w:AJ) (h:Heap),YP w h->(K w.params).In h)
 (F:∀(w:AJ) (mg:Str->Option AA) (fa:AB) (h:Heap),(K w.params).In h->h.Ns mainGlobals mg->mg d.name=some (.ref fa)->
  ∃fd:FuncData,(∀(s:AC) (u:AA),BindsTo s fd ⟨[u],[]⟩ [(x,u)])/\
   ∀base:Heap,(K w.params).In base->base.Ns mainGlobals mg->M8 l.prog w (K w.params) mg base (CX w) k fa fd [x] (sp w))
 (hsp:∀(w:AJ) (H:Hp) (a:AB) (ns:List Int),ns.length<=n->b6R H->SqL (K w.params) H a (ns.map V.int)->sp w [.ref a] H (fun v _=>v= .bl true) fun _ _ _=>False)
 (hCX:∀(w:AJ) (H:Hp) (s:AC) (e:AA) (s':AC),CX w [] H s (fun _ _ _=>False) e s'->False):
 PySem.W.WalkO q loose XP YP l.row.toRowW d [] (fun f vs=>PySem.call f vs):=by
 refine Att.attach_call hn hdf fun w s₀ s₁ mg mb fa o pm cd doc a vs ns G Y ho hd hcd hmg hobj hints hlen hg=> ?_
 have KX:=hY w _ Y
 obtain⟨fd,hb,hF⟩:=F w mg fa _ KX G.T.g hmg
 exact b3G KX G.T.g G.T.b G.T.builtins G.T.nolimit hg hobj hints (Nat.le_trans hlen hn2) hr hF hb (fun H hO hS=>hsp w H a ns hlen hO hS) fun H e s'=>hCX w H s₁ e s'
def Q3(s:Stmt):Arguments:=match s with
 | .FunctionDef _ a _ _ _ _ _ _ _ _=>a
 |_=>{posonlyargs:=[],args:=[],vararg:=none,kwonlyargs:=[],kw_defaults:=[],kwarg:=none,defaults:=[]}
def B7(s:Stmt):List Stmt:=match s with
 | .FunctionDef _ _ b _ _ _ _ _ _ _=>b
 |_=>[]
def d6(s:Stmt):Scope:=match s with
 | .FunctionDef _ _ _ _ _ _ sc _ _ _=>sc
 |_=>{kind:= .function,names:=[],isGenerator:=false,isCoroutine:=false}
abbrev CX0:CXT:=fun _ _ _ _ _ _=>False
abbrev E0:XK:=fun _ _ _=>False
theorem b1H{X:Cx}:a3f CX0 X E0:=fun _ _ _ _ _ _ _ h=>h.elim
structure Fun(K:AD)(x qual:Str)(st:Stmt)(f:AB)(fd:FuncData):Prop where
 ex:∃(oc:AA) (od:Option AB) (kV doc pm:AA) (an:Option AB) (cdv ct:AA) (osl:Array (Option AA)),
  fd=PySem.W.fnOf x qual (Q3 st) (B7 st) (d6 st) .none kV doc pm an cdv ct/\K.lookup f=some ⟨oc,od,.func fd,osl⟩/\PySem.W.codeIn K cdv qual=true
 kp:PySem.W.keepIn K (.ref f)=true
section
variable {P:AL}{w:AJ}{K:AD}{mg:Str->Option AA}{base:Heap}
theorem Fun.ok{x qual:Str}{st:Stmt}{f:AB}{fd:FuncData}{N ps:List Str}{k:Nat}{sp:Sp}(F:Fun K x qual st f fd)(S:j8 N ps (d6 st))(len:∀vs H Q E,sp vs H Q E->vs.length=ps.length)
 (hbody:∀(cdv:AA) (A:AK) (outer:List Env) (s:AC) (H:Hp) (vs:List V) (Q:VK) (E:XK),D3 k (A.deeper (envOfC qual (d6 st) s.heap.objs.size f cdv))->sp vs H Q E->
  ∃t,PSs (a1N CX0 P w K mg base N qual (d6 st) f cdv A outer s H E).nox (B7 st) t/\t {nx:=fun _ H'=>Q .non H',rt:=Q} (a1M N vs) H):M8 P w K mg base CX0 (k+1) f fd ps sp:=by
 obtain⟨oc,od,kV,doc,pm,an,cdv,ct,osl,rfl,lk,hcd⟩:=F.ex
 refine b6C lk hcd S len fun A outer s H vs Q E hr hsp=> ?_
 obtain⟨t,h,q⟩:=hbody cdv A outer s H vs Q E hr hsp
 exact⟨t,h.nox,q⟩
theorem Fun.binds{x qual:Str}{st:Stmt}{f:AB}{fd:FuncData}{ps:List Str}(F:Fun K x qual st f fd)
 (h:∀(kV doc pm:AA) (an:Option AB) (cdv ct:AA) (us:List AA),us.length=ps.length->bindArgs (PySem.W.fnOf x qual (Q3 st) (B7 st) (d6 st) .none kV doc pm an cdv ct) ⟨us,[]⟩=pure (ps.zip us)):U1 K fd ps []:=by
 obtain⟨oc,od,kV,doc,pm,an,cdv,ct,osl,rfl,lk,hcd⟩:=F.ex
 exact .all (h kV doc pm an cdv ct)
theorem b3n{x qual:Str}{st:Stmt}{f:AB}{oc:AA}{od an:Option AB}{osl:Array (Option AA)}{kV doc pm cdv ct:AA}(l:K.lookup f=some ⟨oc,od,.func (PySem.W.fnOf x qual (Q3 st) (B7 st) (d6 st) .none kV doc pm an cdv ct),osl⟩)
 (c:PySem.W.codeIn K cdv qual=true) (k:PySem.W.keepIn K (.ref f)=true):Fun K x qual st f (PySem.W.fnOf x qual (Q3 st) (B7 st) (d6 st) .none kV doc pm an cdv ct):=⟨⟨oc,od,kV,doc,pm,an,cdv,ct,osl,rfl,l,c⟩,k⟩
end
theorem b2M{n:Nat}(h:n<=1000):n<AO:=Nat.lt_of_le_of_lt h (by decide)
section
variable {X:Cx}
theorem pv(i:Nat){x:Str}{pos:Pos}(hN:X.N[i]?=some x:=by rfl)(hv:Vis X.env.scope x:=by first|exact Or.inl rfl|exact Or.inr (Or.inl rfl)|exact Or.inr (Or.inr rfl))(hd:(x==("__debug__":Str))=false:=by decide)
 (hcd:(x==("__classdict__":Str))=false:=by decide):PE X (.Name x pos) (b02 i):=b7Z hN hv hd hcd
end
theorem a9u{A B:Prop}(h:B):if false=true then A else B:=by
 rw [if_neg Aq]
 exact h
theorem a9v{A B:Prop}(h:A):if true=true then A else B:=by
 rw [if_pos rfl]
 exact h
def u4(H H':Hp):Prop:=∀b o,H b=some o->H' b=some o
theorem u4.refl(H:Hp):u4 H H:=fun _ _ h=>h
theorem u4.trans{H H1 H2:Hp}(a:u4 H H1)(b:u4 H1 H2):u4 H H2:=fun c o h=>b c o (a c o h)
theorem u4.free{H H':Hp}(e:u4 H H'){l:AB}(h:H' l=Option.none):H l=Option.none:=by
 cases q:H l with
 |none=>rfl
 |some o=>
  rw [e l o q] at h
  cases h
theorem u4.seq{K:AD}{H H':Hp}{a:AB}{xs:List V}(e:u4 H H')(h:SqL K H a xs):SqL K H' a xs:=by
 rcases h with(h|⟨o,h⟩)|h
 ·exact .inl (.inl (e _ _ h))
 ·exact .inl (.inr ⟨o,e _ _ h⟩)
 ·exact .inr h
section
variable (P:AL)(w:AJ)
end
section
variable {P:AL}{w:AJ}{H H':Hp}{h h':Heap}{a:AB}{o:HO}
end
section
variable {P:AL}{w:AJ}{H:Hp}{h h':Heap}{x e:AB}{o':HO}
end
section
variable {fs fs' ex ex':List AB}{H H1 H2:Hp}{h h1 h2 h':Heap}{a x e:AB}{o:HO}
end
section
variable {X:Cx}{pins:List (AB×Obj)}{σ:List (Option V)}{H H':Hp}{s:AC}{h':Heap}
end
section
variable {X:Cx}
variable {a b:AG}{ta tb:TE}{pos:Pos}
variable {tA tB':TT}{A3:List AG}
end
section
variable {X:Cx}{pins:List (AB×Obj)}{σ:St}{H:Hp}{s:AC}{a:AB}{xs ys:List V}
end
section
variable {X:Cx}{pins:List (AB×Obj)}{σ:St}{H:Hp}{s:AC}{E:AA->AC->Prop}
end
section
variable {X:Cx}{st:Stmt}{A3:List Stmt}{t u:TS}{e:AG}{te:TE}{pos:Pos}
end
section
variable {X:Cx}{pos:Pos}
end
section
variable {X:Cx}{pos:Pos}
end
section
variable {X:Cx}{tg:AG}
end
section
variable {X:Cx}{a b c:AG}{ta tb tc:TE}{pos:Pos}
end
section
variable {X:Cx}{a b c:AG}{ta tb tc:TE}{pos:Pos}
end
section
variable {prog:AL}{w:AJ}{A:AK}{E:AA->AC->Prop}{s:AC}{K:AD}{x dx C f:AB}{mA:Str->Option AA}{name:Str}{v:AA}
end
section
variable {P:AL}{w:AJ}{H H':Hp}{h h':Heap}{a C dx:AB}{fs fs':List (Str×V)}
end
section
variable {X:Cx}{pins:List (AB×Obj)}{σ:St}{H:Hp}{s:AC}{a C dx:AB}{fs:List (Str×V)}{f:Str}{v:V}{A:AK}{E:AA->AC->Prop}
end
section
variable {X:Cx}{o e value:AG}{f:Str}{pos pos' tpos:Pos}{ta tv:TE}
end
section
variable {X:Cx}{pins:List (AB×Obj)}{σ:St}{H:Hp}{s:AC}{A:AK}{E:AA->AC->Prop}{Q:AA->AC->Prop}{c:AA}{b:Bool}
end
section
variable {X:Cx}{e:AG}{es:List AG}{te:TE}{t:TA}{pos:Pos}
end
section
variable {X:Cx}{pins:List (AB×Obj)}{σ:St}{H:Hp}{s s':AC}
end
section
variable {X:Cx}{CX:CXT}{k:Nat}{f C:AB}{fd:FuncData}{ps:List Str}{sp:Sp}{dvs:List V}{ds:List AA}{E:XK}{x m:Str}{p pos apos:Pos}{e o:AG}{es:List AG}{ta:TE}{t:TA}
end
section
variable {X:Cx}{CX:CXT}{k:Nat}{f C:AB}{fd:FuncData}{ps ks:List Str}{sp:Sp}{E:XK}{x m:Str}{p pos apos kpos:Pos}{e o:AG}{es:List AG}{kws:List Keyword}{te ta:TE}{t tk:TA}{nm:Option Str}
variable {g:List AA->List AA->List AA}{gV:List V->List V->List V}
end
section
variable {X:Cx}{x:Str}{p pos:Pos}{e:AG}{es:List AG}{t:TA}{id T:String}{r:List V->Hp->VK->Prop}
end
section
variable {κ:Type}[DecidableEq κ]
def a1P(kvs:List (κ×V))(k:κ):Option V:=(kvs.find? fun kv=>decide (kv.1=k)).map (·.2)
def a7d(kvs:List (κ×V))(k:κ)(v:V):List (κ×V):=
 if(kvs.any fun kv=>decide (kv.1=k))=true then kvs.map (fun kv=>if kv.1=k then(kv.1,v) else kv) else kvs++[(k,v)]
def b6y(kvs:List (κ×V))(k:κ):List (κ×V):=kvs.filter fun kv=>decide (kv.1≠k)
theorem a4b{p:κ×V}{r:List (κ×V)}{k:κ}(e:p.1=k):a1P (p::r) k=some p.2:=by simp [a1P,List.find?_cons,e]
theorem a4a{p:κ×V}{r:List (κ×V)}{k:κ}(e:¬p.1=k):a1P (p::r) k=a1P r k:=by simp [a1P,List.find?_cons,e]
theorem a91(k:κ):∀kvs:List (κ×V),(kvs.any fun kv=>decide (kv.1=k))=(a1P kvs k).isSome
 |[]=>rfl
 |p::r=>by
  rw [List.any_cons]
  by_cases e:p.1=k
  ·simp only [a4b e,decide_eq_true e,Bool.true_or,Option.isSome_some]
  ·rw [a4a e,decide_eq_false e,Bool.false_or];exact a91 k r
theorem a2P.isSome_eq{o:Option V}{u:Option AA}(r:a2P o u):o.isSome=u.isSome:=by
 cases o with
 |none=>cases u with
  |none=>rfl
  |some _=>exact(show False from r).elim
 |some _=>cases u with
  |none=>exact(show False from r).elim
  |some _=>rfl
theorem a2P.getD{o:Option V}{u:Option AA}{d:V}{d':AA}(r:a2P o u)(rd:z4 d d'):z4 (o.getD d) (u.getD d'):=by
 cases o with
 |none=>cases u with
  |none=>exact rd
  |some _=>exact(show False from r).elim
 |some _=>cases u with
  |none=>exact(show False from r).elim
  |some _=>exact r
theorem KV.val{kvs:List (κ×V)}{vs:List (κ×AA)}(r:KV kvs vs)(k:κ):a2P (a1P kvs k) (valueAt vs k):=by
 unfold KV at r
 induction r with
 |nil=>exact True.intro
 | @cons p q ps qs h t ih=>
   obtain⟨h1,h2⟩:=h
   by_cases e:p.1=k
   ·have e':q.1=k:=h1.symm.trans e
    have b:valueAt (q::qs) k=some q.2:=by simp [valueAt,List.find?_cons,e']
    rw [a4b e,b];exact h2
   ·have e':¬q.1=k:=fun z=>e (h1.trans z)
    have b:valueAt (q::qs) k=valueAt qs k:=by simp [valueAt,List.find?_cons,e']
    rw [a4a e,b];exact ih
theorem KV.any{kvs:List (κ×V)}{vs:List (κ×AA)}(r:KV kvs vs)(k:κ):(kvs.any fun kv=>decide (kv.1=k))=vs.any fun kv=>decide (kv.1=k):=by
 unfold KV at r
 induction r with
 |nil=>rfl
 |cons h t ih=>rw [List.any_cons,List.any_cons,ih,h.1]
theorem KV.repl{kvs:List (κ×V)}{vs:List (κ×AA)}(r:KV kvs vs)(k:κ){y:V}{u:AA}(ry:z4 y u):
 KV (kvs.map fun kv=>if kv.1=k then(kv.1,y) else kv) (vs.map fun kv=>if kv.1=k then(kv.1,u) else kv):=by
 unfold KV at r ⊢
 induction r with
 |nil=>exact .nil
 | @cons p q ps qs h t ih=>
   rw [AM,AM]
   refine .cons ?_ ih
   obtain⟨h1,h2⟩:=h
   by_cases e:p.1=k
   ·rw [if_pos e,if_pos (h1.symm.trans e)];exact⟨h1,ry⟩
   ·rw [if_neg e,if_neg (fun z=>e (h1.trans z))];exact⟨h1,h2⟩
theorem KV.put{kvs:List (κ×V)}{vs:List (κ×AA)}(r:KV kvs vs)(k:κ){y:V}{u:AA}(ry:z4 y u):KV (a7d kvs k y) (stored vs k u):=by
 unfold a7d stored
 rw [r.any k]
 by_cases e:(vs.any fun kv=>decide (kv.1=k))=true
 ·rw [if_pos e,if_pos e];exact r.repl k ry
 ·rw [if_neg e,if_neg e];exact Paired.snoc r ⟨rfl,ry⟩
theorem KV.drop{kvs:List (κ×V)}{vs:List (κ×AA)}(r:KV kvs vs)(k:κ):KV (b6y kvs k) (without vs k):=by
 unfold KV at r ⊢
 unfold b6y without
 induction r with
 |nil=>exact .nil
 | @cons p q ps qs h t ih=>
   obtain⟨h1,h2⟩:=h
   rw [List.filter_cons,List.filter_cons]
   by_cases e:p.1=k
   ·have a:¬decide (p.1≠k)=true:=by simp [e]
    have b:¬decide (q.1≠k)=true:=by simp [h1.symm.trans e]
    rw [if_neg a,if_neg b];exact ih
   ·have e':¬q.1=k:=fun z=>e (h1.trans z)
    have a:decide (p.1≠k)=true:=by simp [e]
    have b:decide (q.1≠k)=true:=by simp [e']
    rw [if_pos a,if_pos b];exact .cons ⟨h1,h2⟩ ih
theorem KV.length{kvs:List (κ×V)}{vs:List (κ×AA)}(r:KV kvs vs):kvs.length=vs.length:=Paired.length r
end
theorem b0u{a b:A1}(e:kV a=kV b):a=b:=by
 cases a with
 |inl i=>cases b with
  |inl j=>have e':V.int i=V.int j:=e;injection e' with e';rw [e']
  |inr y=>exact nomatch (show V.int i=V.str y from e)
 |inr x=>cases b with
  |inl j=>exact nomatch (show V.str x=V.int j from e)
  |inr y=>have e':V.str x=V.str y:=e;injection e' with e';rw [e']
theorem a5i:∀{a b:List A1},a.map kV=b.map kV->a=b
 |[],[],_=>rfl
 |[],_::_,e=>by simp at e
 |_::_,[],e=>by simp at e
 |x::xs,y::ys,e=>by
  rw [AM,AM] at e
  injection e with e1 e2
  rw [b0u e1,a5i e2]
abbrev KT(H:Hp):List (List A1×V)->List (List A1×AB×AA)->Prop:=Paired fun p q=>p.1=q.1/\H q.2.1=some (.tup (p.1.map kV))/\z4 p.2 q.2.2
theorem KT.val{H:Hp}{kvs:List (List A1×V)}{xs:List (List A1×AB×AA)}(r:KT H kvs xs)(k:List A1):a2P (a1P kvs k) ((atKey xs k).map (·.2)):=by
 induction r with
 |nil=>exact True.intro
 | @cons p q ps qs h t ih=>
   obtain⟨h1,_,h2⟩:=h
   by_cases e:p.1=k
   ·have e':q.1=k:=h1.symm.trans e
    have b:atKey (q::qs) k=some q.2:=by simp [atKey,List.find?_cons,e']
    rw [a4b e,b];exact h2
   ·have e':¬q.1=k:=fun z=>e (h1.trans z)
    have b:atKey (q::qs) k=atKey qs k:=by simp [atKey,List.find?_cons,e']
    rw [a4a e,b];exact ih
theorem KT.repl{H:Hp}{kvs:List (List A1×V)}{xs:List (List A1×AB×AA)}(r:KT H kvs xs)(k:List A1){y:V}{u:AA}(ry:z4 y u):
 KT H (kvs.map fun kv=>if kv.1=k then(kv.1,y) else kv) (xs.map (putAt k u)):=by
 induction r with
 |nil=>exact .nil
 | @cons p q ps qs h t ih=>
   rw [AM,AM]
   refine .cons ?_ ih
   obtain⟨h1,h2,h3⟩:=h
   unfold putAt
   by_cases e:p.1=k
   ·rw [if_pos e,if_pos (h1.symm.trans e)];exact⟨h1,h2,ry⟩
   ·rw [if_neg e,if_neg (fun z=>e (h1.trans z))];exact⟨h1,h2,h3⟩
theorem KT.put{H:Hp}{kvs:List (List A1×V)}{xs:List (List A1×AB×AA)}(r:KT H kvs xs)(k:List A1){b:AB}{y:V}{u:AA}(hb:H b=some (.tup (k.map kV)))(ry:z4 y u):
 KT H (a7d kvs k y) (storedH xs k b u):=by
 have e:(kvs.any fun kv=>decide (kv.1=k))=(atKey xs k).isSome:=by
  rw [a91,(r.val k).isSome_eq,Option.isSome_map]
 unfold a7d storedH
 rw [e]
 by_cases q:(atKey xs k).isSome=true
 ·rw [if_pos q,if_pos q];exact r.repl k ry
 ·rw [if_neg q,if_neg q];exact Paired.snoc r ⟨rfl,hb,ry⟩
theorem KT.keeps{H H':Hp}{kvs:List (List A1×V)}{xs:List (List A1×AB×AA)}(r:KT H kvs xs)(ht:∀b ys,H b=some (.tup ys)->H' b=some (.tup ys)):KT H' kvs xs:=
 Paired.mapP r fun _ _ z=>⟨z.1,ht _ _ z.2.1,z.2.2⟩
section
variable {P:AL}{w:AJ}{H:Hp}{h:Heap}{a:AB}
end
def b4P(H:Hp)(a:AB)(y:V)(r:Option V):Prop:=
 (∃kvs k,Rd H a (.dK kvs)/\y=kV k/\r=a1P kvs k)\/∃kvs k b,Rd H a (.dT kvs)/\y= .ref b/\H b=some (.tup (k.map kV))/\r=a1P kvs k
def b4Q(H:Hp)(a:AB)(y v:V)(H':Hp):Prop:=
 (∃kvs k,H a=some (.dK kvs)/\y=kV k/\kvs.length<AO/\H'=upd H a (.dK (a7d kvs k v)))\/
 ∃kvs k b,H a=some (.dT kvs)/\y= .ref b/\H b=some (.tup (k.map kV))/\kvs.length<AO/\H'=upd H a (.dT (a7d kvs k v))
theorem b4P.k{H:Hp}{a:AB}{kvs:List (A1×V)}{k:A1}(e:H a=some (.dK kvs)):b4P H a (kV k) (a1P kvs k):= .inl ⟨kvs,k,.inl e,rfl,rfl⟩
theorem b4P.t{H:Hp}{a b:AB}{kvs:List (List A1×V)}{k:List A1}(e:H a=some (.dT kvs))(eb:H b=some (.tup (k.map kV))):b4P H a (.ref b) (a1P kvs k):= .inr ⟨kvs,k,b,.inl e,rfl,eb,rfl⟩
theorem b4Q.k{H:Hp}{a:AB}{kvs:List (A1×V)}{k:A1}{v:V}(e:H a=some (.dK kvs))(hl:kvs.length<AO):b4Q H a (kV k) v (upd H a (.dK (a7d kvs k v))):= .inl ⟨kvs,k,e,rfl,hl,rfl⟩
theorem b4Q.t{H:Hp}{a b:AB}{kvs:List (List A1×V)}{k:List A1}{v:V}(e:H a=some (.dT kvs))(eb:H b=some (.tup (k.map kV)))(hl:kvs.length<AO):
 b4Q H a (.ref b) v (upd H a (.dT (a7d kvs k v))):= .inr ⟨kvs,k,b,e,rfl,eb,hl,rfl⟩
section
variable {X:Cx}{pins:List (AB×Obj)}{σ:St}{H:Hp}{s:AC}{a:AB}{y v:V}{u r:AA}{o:Option V}{A:AK}{E:AA->AC->Prop}
theorem n4.big(I:n4 X pins σ H s):sysModules<s.heap.objs.size:=by
 have h:mainGlobals<s.heap.objs.size:=(I.mod.glob.keeps I.bk).lt
 exact Nat.lt_trans (by decide) h
end
section
variable {X:Cx}{pins:List (AB×Obj)}{σ:St}{H:Hp}{s:AC}{a:AB}{kvs:List (A1×V)}{k:A1}{u:AA}{A:AK}{E:AA->AC->Prop}
end
section
variable {X:Cx}{o i e value:AG}{pos pos' tpos:Pos}{td ty tv:TE}
end
theorem b3a{P:AL}{w:AJ}{H:Hp}(h:Heap)(hb:sysModules<h.objs.size):O8 P w H (h.push {cls:= .type "dict",data:= .dict #[]}) h.objs.size (.dK []):=
 ⟨Nat.zero_le _,beq_eq_false_iff_ne.mpr (Ne.symm (Ao hb)),[],.nil,Heap.DictOf.new h⟩
def b8f:TE:=fun _ H Q=>∀p,H p=none->Q (.ref p) (upd H p (.dK []))
section
variable {X:Cx}{pos:Pos}
theorem b39:PE X (.Dict [] [] pos) b8f:=fun pins s σ H Q I h=>
 wpAny_Dict_empty ⟨.ref s.heap.objs.size,_,I.laid (a:=s.heap.objs.size) (o:= .dK []) (t':=s.toks) (fun _ _ q=>Ah _ q) (AV _) (b3a s.heap I.big),rfl,h _ (I.hok.fresh (AV _))⟩
end
def b8g:List (TE×TE)->St->Hp->(List (V×V)->Hp->Prop)->Prop
 |[],_,H,Q=>Q [] H
 |(tk,tv)::r,σ,H,Q=>tk σ H fun x H1=>tv σ H1 fun y H2=>b8g r σ H2 fun ps H3=>Q ((x,y)::ps) H3
section
variable {X:Cx}{pins:List (AB×Obj)}{σ:St}{H:Hp}{s:AC}{a:AB}{y d:V}{u r:AA}{o:Option V}{A:AK}{E:AA->AC->Prop}
end
section
variable {X:Cx}{o e f:AG}{apos cpos:Pos}{td ty tx:TE}
end
section
variable {X:Cx}{pins:List (AB×Obj)}{σ:St}{H:Hp}{s:AC}{a:AB}{kvs:List (A1×V)}{A:AK}{E:AA->AC->Prop}
end
section
variable {X:Cx}{pins:List (AB×Obj)}{σ:St}{H:Hp}{s:AC}{a:AB}{y:V}{u:AA}{A:AK}{E:AA->AC->Prop}
end
end L2
namespace Att
open PySem PySem.W PySem.Calls PyProof.Rows
section
variable {prog:AL}{w:AJ}{A:AK}{E:AA->AC->Prop}{s:AC}{K:Frag}
end
end Att
namespace L2
open PySem PySem.Spec PyProof.Rows
section
variable {P:AL}{w:AJ}{K:AD}{mg:Str->Option AA}{base:Heap}
end
section
variable {X:Cx}
end
section
variable {κ:Type}[DecidableEq κ]
end
end L2
set_option maxHeartbeats 4000000
namespace PU
open PySem PySem.Spec PyProof.Rows L2
abbrev PV:=PyData
def TqT(K:AD)(H:Hp)(a:AB)(xs:List V):Prop:=
 H a=some (.tup xs)\/∃(o:Obj) (its:Array AA) (n:Nat),K.lookup a=some o/\o.cls= .type "tuple"/\o.data= .seq its n/\its.size<=AO/\u3 xs its.toList
theorem TqT.of{K:AD}{H:Hp}{a:AB}{xs:List V}(h:H a=some (.tup xs)):TqT K H a xs:= .inl h
theorem TqT.sq{K:AD}{H:Hp}{a:AB}{xs:List V}(h:TqT K H a xs):SqT K H a xs:=h.elim (fun h=> .inl (.inl h)) .inr
instance {K:AD} {H:Hp} {a:AB} {xs:List V}:Coe (TqT K H a xs) (SqT K H a xs):=⟨TqT.sq⟩
theorem b6i{K:AD}{H H':Hp}{a:AB}{xs:List V}(s:u4 H H')(h:TqT K H a xs):TqT K H' a xs:=h.elim (fun h=> .inl (s _ _ h)) .inr
def b2T(K:AD)(x:Str)(v:V):Prop:=∃(a:AB) (oc:AA) (od:Option AB) (fd:FuncData) (osl:Array (Option AA)),v= .ref a/\K.lookup a=some ⟨oc,od,.func fd,osl⟩/\fd.name=x
def R8(K:AD)(x:Str)(C:AB):Prop:=PySem.W.nsIn K mainGlobals x=some (some (.ref C))/\∃(oc:AA) (od:Option AB) (cd:ClassData) (osl:Array (Option AA)),K.lookup C=some ⟨oc,od,.cls cd,osl⟩/\cd.name=x
theorem R8.inj{K:AD}{x y:Str}{C:AB}(h:R8 K x C)(h':R8 K y C):x=y:=by
 obtain⟨_,_,_,_,_,k,n⟩:=h
 obtain⟨_,_,_,_,_,k',n'⟩:=h'
 rw [k] at k';cases k'
 rw [<-n,n']
theorem R8.uniq{K:AD}{x:Str}{C D:AB}(h:R8 K x C)(h':R8 K x D):C=D:=by
 have:=h.1.symm.trans h'.1
 cases this;rfl
def b6U(K:AD)(H:Hp)(x:Str)(v:V):Prop:=∃(a C:AB) (φ:Heap->Prop),v= .ref a/\H a=some (.ext φ)/\
 (∀h:Heap,φ h->∃oe vs,h.get? a=some oe/\oe.cls= .ref C/\oe.data= .fields vs/\oe.dict=none)/\R8 K x C
def a4f(K:AD)(H:Hp)(x:Str)(t:PV)(v:V):Prop:=(t= .none/\b2T K x v)\/(t= .bool true/\b6U K H x v)
theorem a4f.ref{K:AD}{H:Hp}{x:Str}{t:PV}{v:V}(h:a4f K H x t v):∃a,v= .ref a:=by
 rcases h with⟨_,a,_,_,_,_,e,_⟩|⟨_,a,_,_,e,_⟩<;>exact⟨a,e⟩
theorem a4f.mono{K:AD}{H H':Hp}{x:Str}{t:PV}{v:V}(s:u4 H H')(h:a4f K H x t v):a4f K H' x t v:=by
 rcases h with h|⟨z,a,C,φ,e,q,r⟩
 ·exact .inl h
 ·exact .inr ⟨z,a,C,φ,e,s _ _ q,r⟩
def a3x(K:AD)(H:Hp)(x:Str)(m:V)(fs:List (Str×V))(v:V):Prop:=
 (m= .bl false/\∃a C dx,v= .ref a/\H a=some (.ins C dx fs)/\R8 K x C)\/
 (m= .int 0/\∃(a C dx:AB) (φ:Heap->Prop),v= .ref a/\H a=some (.ext φ)/\(∀h:Heap,φ h->∃oe vs,h.get? a=some oe/\oe.cls= .ref C/\oe.data= .fields vs/\oe.dict=some dx)/\H dx=some (.xd fs)/\R8 K x C)
theorem a3x.ref{K:AD}{H:Hp}{x:Str}{m:V}{fs:List (Str×V)}{v:V}(h:a3x K H x m fs v):∃a,v= .ref a:=by
 rcases h with⟨_,a,_,_,e,_⟩|⟨_,a,_,_,_,e,_⟩<;>exact⟨a,e⟩
theorem a3x.mono{K:AD}{H H':Hp}{x:Str}{m:V}{fs:List (Str×V)}{v:V}(s:u4 H H')(h:a3x K H x m fs v):a3x K H' x m fs v:=by
 rcases h with⟨z,a,C,dx,e,q,n⟩|⟨z,a,C,dx,φ,e,q,r,d,n⟩
 ·exact .inl ⟨z,a,C,dx,e,s _ _ q,n⟩
 ·exact .inr ⟨z,a,C,dx,φ,e,s _ _ q,r,s _ _ d,n⟩
def kP:A1->PV
 | .inl i=> .int i
 | .inr x=> .str x
def s1{α:Type}(kv:A1×α):List A1×α:=([kv.1],kv.2)
mutual
def M2(K:AD)(H:Hp):PV->V->Prop
 | .none,v=>v= .non
 | .bool b,v=>v= .bl b
 | .int i,v=>v= .int i
 | .str x,v=>v= .str x
 | .tuple ps,v=>∃a xs,v= .ref a/\TqT K H a xs/\p8 K H ps xs
 | .list ps,v=>∃a xs,v= .ref a/\SqL K H a xs/\p8 K H ps xs
 | .dict kvs,v=>(∃a ys,v= .ref a/\H a=some (.dK ys)/\a0M K H kvs (ys.map s1))\/(∃a xs,v= .ref a/\H a=some (.dT xs)/\a0M K H kvs (([],.non)::xs))\/(∃x t,kvs=[(.str x,t)]/\a4f K H x t v)\/(∃x m fs,a3x K H x m fs v/\a1T K H kvs ((x,m)::fs))
def p8(K:AD)(H:Hp):List PV->List V->Prop
 |[],vs=>vs=[]
 |p::ps,vs=>∃v r,vs=v::r/\M2 K H p v/\p8 K H ps r
def a0M(K:AD)(H:Hp):List (PV×PV)->List (List A1×V)->Prop
 |[],ys=>ys=[]
 |(k,p)::r,ys=>∃kk v t,ys=(kk,v)::t/\k= .tuple (kk.map kP)/\M2 K H p v/\a0M K H r t
def a1T(K:AD)(H:Hp):List (PV×PV)->List (Str×V)->Prop
 |[],ys=>ys=[]
 |(k,p)::r,ys=>∃f v t,ys=(f,v)::t/\k= .str f/\M2 K H p v/\a1T K H r t
end
theorem D9{K:AD}{H H':Hp}{a:AB}{xs:List V}(s:u4 H H')(h:SqT K H a xs):SqT K H' a xs:=by
 rcases h with(h|⟨o,h⟩)|h
 ·exact .inl (.inl (s _ _ h))
 ·exact .inl (.inr ⟨o,s _ _ h⟩)
 ·exact .inr h
theorem R1{K:AD}{H H':Hp}{a:AB}{xs:List V}(s:u4 H H')(h:SqL K H a xs):SqL K H' a xs:=by
 rcases h with(h|⟨o,h⟩)|h
 ·exact .inl (.inl (s _ _ h))
 ·exact .inl (.inr ⟨o,s _ _ h⟩)
 ·exact .inr h
mutual
theorem M2.mono{K:AD}{H H':Hp}(s:u4 H H'):∀(p:PV) {v:V},M2 K H p v->M2 K H' p v
 | .none,_,h=>h
 | .bool _,_,h=>h
 | .int _,_,h=>h
 | .str _,_,h=>h
 | .dict kvs,_,.inl ⟨a,ys,q,h,r⟩=> .inl ⟨a,ys,q,s _ _ h,a0M.mono s kvs r⟩
 | .dict kvs,_,.inr (.inl ⟨a,xs,q,h,r⟩)=> .inr (.inl ⟨a,xs,q,s _ _ h,a0M.mono s kvs r⟩)
 | .dict _,_,.inr (.inr (.inl ⟨x,t,e,h⟩))=> .inr (.inr (.inl ⟨x,t,e,h.mono s⟩))
 | .dict kvs,_,.inr (.inr (.inr ⟨x,m,fs,h,r⟩))=> .inr (.inr (.inr ⟨x,m,fs,h.mono s,a1T.mono s kvs r⟩))
 | .tuple ps,_,⟨a,xs,e,q,r⟩=>⟨a,xs,e,b6i s q,p8.mono s ps r⟩
 | .list ps,_,⟨a,xs,e,q,r⟩=>⟨a,xs,e,R1 s q,p8.mono s ps r⟩
theorem p8.mono{K:AD}{H H':Hp}(s:u4 H H'):∀(ps:List PV) {vs:List V},p8 K H ps vs->p8 K H' ps vs
 |[],_,h=>h
 |p::ps,_,⟨v,r,e,q,t⟩=>⟨v,r,e,M2.mono s p q,p8.mono s ps t⟩
theorem a0M.mono{K:AD}{H H':Hp}(s:u4 H H'):∀(es:List (PV×PV)) {ys:List (List A1×V)},a0M K H es ys->a0M K H' es ys
 |[],_,h=>h
 |(k,p)::es,_,⟨kk,v,r,e,z,q,t⟩=>⟨kk,v,r,e,z,M2.mono s p q,a0M.mono s es t⟩
theorem a1T.mono{K:AD}{H H':Hp}(s:u4 H H'):∀(es:List (PV×PV)) {ys:List (Str×V)},a1T K H es ys->a1T K H' es ys
 |[],_,h=>h
 |(k,p)::es,_,⟨kk,v,r,e,z,q,t⟩=>⟨kk,v,r,e,z,M2.mono s p q,a1T.mono s es t⟩
end
theorem p8.length{K:AD}{H:Hp}:∀{ps:List PV} {vs:List V},p8 K H ps vs->vs.length=ps.length
 |[],_,h=>by cases h;rfl
 |_::ps,_,⟨v,r,e,_,t⟩=>by subst e;rw [AU,AU,p8.length t]
theorem p8.get{K:AD}{H:Hp}:∀{ps:List PV} {vs:List V} {i:Nat} {p:PV},p8 K H ps vs->ps[i]?=some p->∃v,vs[i]?=some v/\M2 K H p v
 |[],_,_,_,_,h=>by simp at h
 |q::ps,_,0,p,⟨v,r,e,a,t⟩,h=>by subst e;simp at h;subst h;exact⟨v,rfl,a⟩
 |q::ps,_,i+1,p,⟨v,r,e,a,t⟩,h=>by subst e;exact p8.get (i:=i) t (by simpa using h)
theorem p8.getV{K:AD}{H:Hp}:∀{ps:List PV} {vs:List V} {i:Nat} {v:V},p8 K H ps vs->vs[i]?=some v->∃p,ps[i]?=some p/\M2 K H p v
 |[],_,_,_,h,e=>by cases h;simp at e
 |q::ps,_,0,v,⟨w,r,e,a,t⟩,h=>by subst e;simp at h;subst h;exact⟨q,rfl,a⟩
 |q::ps,_,i+1,v,⟨w,r,e,a,t⟩,h=>by subst e;exact p8.getV (i:=i) t (by simpa using h)
theorem p8.append{K:AD}{H:Hp}:∀{ps qs:List PV} {vs ws:List V},p8 K H ps vs->p8 K H qs ws->p8 K H (ps++qs) (vs++ws)
 |[],_,_,_,h,t=>by cases h;exact t
 |_::ps,_,_,_,⟨v,r,e,a,t⟩,s=>by subst e;exact⟨v,_,rfl,a,p8.append t s⟩
theorem p8.drop{K:AD}{H:Hp}:∀{ps:List PV} {vs:List V} (n:Nat),p8 K H ps vs->p8 K H (ps.drop n) (vs.drop n)
 |_,_,0,h=>h
 |[],_,n+1,h=>by cases h;rfl
 |_::ps,_,n+1,⟨v,r,e,a,t⟩=>by subst e;exact p8.drop n t
theorem p8.take{K:AD}{H:Hp}:∀{ps:List PV} {vs:List V} (n:Nat),p8 K H ps vs->p8 K H (ps.take n) (vs.take n)
 |_,_,0,h=>rfl
 |[],_,n+1,h=>by cases h;rfl
 |_::ps,_,n+1,⟨v,r,e,a,t⟩=>by subst e;exact⟨v,_,rfl,a,p8.take n t⟩
def K5(K:AD)(H:Hp):List (List A1×PV)->List (List A1×V)->Prop
 |[],ys=>ys=[]
 |(k,p)::r,ys=>∃v t,ys=(k,v)::t/\M2 K H p v/\K5 K H r t
theorem K5.mono{K:AD}{H H':Hp}(s:u4 H H'):∀(kvs:List (List A1×PV)) {ys:List (List A1×V)},K5 K H kvs ys->K5 K H' kvs ys
 |[],_,h=>h
 |(k,p)::r,_,⟨v,t,e,q,h⟩=>⟨v,t,e,M2.mono s p q,K5.mono s r h⟩
inductive a1Q where
 |lst (ps:List PV)|dct (kvs:List (List A1×PV))|txt (kvs:List (List A1×PV))
inductive g6 where
 |val (p:PV)|ow (c:a1Q)|bo (c:a1Q)
abbrev g6.own(ps:List PV):g6:= .ow (.lst ps)
abbrev g6.bor(ps:List PV):g6:= .bo (.lst ps)
abbrev g6.dct(kvs:List (List A1×PV)):g6:= .ow (.dct kvs)
def a1S(K:AD)(F H:Hp)(v:V):a1Q->Prop
 | .lst ps=>∃a xs,v= .ref a/\F a=none/\H a=some (.lst xs)/\p8 K F ps xs
 | .dct kvs=>∃a xs,v= .ref a/\F a=none/\H a=some (.dT xs)/\K5 K F kvs xs
 | .txt kvs=>∃a xs,v= .ref a/\F a=none/\H a=some (.dK xs)/\K5 K F kvs (xs.map s1)
def O0(K:AD)(F H:Hp)(v:V):g6->Prop
 | .val p=>M2 K F p v
 | .ow c=>a1S K F H v c
 | .bo c=>a1S K F H v c
theorem a1S.at_{K:AD}{F H:Hp}{v:V}:∀{c:a1Q},a1S K F H v c->∃a o,v= .ref a/\F a=none/\H a=some o
 | .lst _,⟨a,_,e,n,q,_⟩=>⟨a,_,e,n,q⟩
 | .dct _,⟨a,_,e,n,q,_⟩=>⟨a,_,e,n,q⟩
 | .txt _,⟨a,_,e,n,q,_⟩=>⟨a,_,e,n,q⟩
def NT(o:HO):Prop:=∀xs,o≠.tup xs
structure Ext(F H F' H':Hp):Prop where
 f:u4 F F'
 h:u4 H H'
 fh:u4 F' H'
 nw:∀b o,F b=none->H b=some o->NT o->F' b=none
 nf:∀b o u,F' b=some (.frz o u)->F b=some (.frz o u)
theorem u4.refl(H:Hp):u4 H H:=fun _ _ e=>e
theorem Ext.refl{F H:Hp}(s:u4 F H):Ext F H F H:=⟨u4.refl F,u4.refl H,s,fun _ _ e _ _=>e,fun _ _ _ e=>e⟩
theorem Ext.trans{F H F1 H1 F2 H2:Hp}(a:Ext F H F1 H1)(b:Ext F1 H1 F2 H2):Ext F H F2 H2:=
 ⟨a.f.trans b.f,a.h.trans b.h,b.fh,fun c o e q t=>b.nw c o (a.nw c o e q t) (a.h c o q) t,fun c o u e=>a.nf c o u (b.nf c o u e)⟩
theorem b3R{F0 F:Hp}{a:AB}{xs:List V}(h:∀b o u,F b=some (.frz o u)->F0 b=some (.frz o u)):∀b o u,upd F a (.lst xs) b=some (.frz o u)->F0 b=some (.frz o u):=fun b o u z=>by
 by_cases hb:b=a
 ·subst hb;rw [y4] at z;cases z
 ·rw [o8 hb] at z;exact h _ _ _ z
theorem a1S.ext{K:AD}{F H F' H':Hp}{v:V}(x:Ext F H F' H'):∀{c:a1Q},a1S K F H v c->a1S K F' H' v c
 | .lst _,⟨a,xs,e,n,q,r⟩=>⟨a,xs,e,x.nw _ _ n q (fun _ h=>nomatch h),x.h _ _ q,p8.mono x.f _ r⟩
 | .dct _,⟨a,xs,e,n,q,r⟩=>⟨a,xs,e,x.nw _ _ n q (fun _ h=>nomatch h),x.h _ _ q,K5.mono x.f _ r⟩
 | .txt _,⟨a,xs,e,n,q,r⟩=>⟨a,xs,e,x.nw _ _ n q (fun _ h=>nomatch h),x.h _ _ q,K5.mono x.f _ r⟩
theorem O0.ext{K:AD}{F H F' H':Hp}{v:V}(x:Ext F H F' H'):∀{r:g6},O0 K F H v r->O0 K F' H' v r
 | .val p,h=>M2.mono x.f p h
 | .ow _,h=>a1S.ext x h
 | .bo _,h=>a1S.ext x h
def a1Q.rd:a1Q->PV
 | .lst ps=> .list ps
 | .dct kvs=> .dict ((.tuple [],.none)::kvs.map fun kv=>(.tuple (kv.1.map kP),kv.2))
 | .txt kvs=> .dict (kvs.map fun kv=>(.tuple (kv.1.map kP),kv.2))
def g6.rd:g6->PV
 | .val p=>p
 | .ow c=>c.rd
 | .bo c=>c.rd
def g6.toVal:g6->Option PV
 | .val p=>some p
 | .ow (.lst ps)=>some (.list ps)
 | .ow (.dct _)=>none
 | .ow (.txt _)=>none
 | .bo _=>none
theorem a0M.of{K:AD}{F H:Hp}(s:u4 F H):∀{kvs:List (List A1×PV)} {xs:List (List A1×V)},K5 K F kvs xs->a0M K H (kvs.map fun kv=>(PyData.tuple (kv.1.map kP),kv.2)) xs
 |[],_,h=>h
 |(k,p)::r,_,⟨v,t,e,q,h⟩=>⟨k,v,t,e,rfl,M2.mono s p q,a0M.of s h⟩
theorem a1S.rd{K:AD}{F H:Hp}{v:V}(s:u4 F H):∀{c:a1Q},a1S K F H v c->M2 K H c.rd v
 | .lst ps,⟨a,xs,e,n,q,r⟩=>⟨a,xs,e,SqL.of q,p8.mono s _ r⟩
 | .dct kvs,⟨a,xs,e,n,q,r⟩=> .inr (.inl ⟨a,xs,e,q,[],.non,xs,rfl,rfl,rfl,a0M.of s r⟩)
 | .txt kvs,⟨a,xs,e,n,q,r⟩=> .inl ⟨a,xs,e,q,a0M.of s r⟩
theorem O0.rd{K:AD}{F H:Hp}{v:V}(s:u4 F H):∀{r:g6},O0 K F H v r->M2 K H r.rd v
 | .val p,h=>M2.mono s p h
 | .ow _,h=>a1S.rd s h
 | .bo _,h=>a1S.rd s h
structure A4(K:AD)(F H F' H':Hp)(v:V)(r:g6):Prop where
 x:Ext F H F' H'
 rep:O0 K F' H' v r
 fr:∀c a,r= .ow c->v= .ref a->H a=none
theorem A4.val{K:AD}{F H F' H':Hp}{v:V}{p:PV}(x:Ext F H F' H')(r:M2 K F' p v):A4 K F H F' H' v (.val p):=⟨x,r,fun _ _ e=>nomatch e⟩
theorem A4.here{K:AD}{F H:Hp}{v:V}{p:PV}(s:u4 F H)(r:M2 K F p v):A4 K F H F H v (.val p):=A4.val (Ext.refl s) r
theorem A4.trans{K:AD}{F H F1 H1 F2 H2:Hp}{v:V}{r:g6}(a:Ext F H F1 H1)(b:A4 K F1 H1 F2 H2 v r):A4 K F H F2 H2 v r:=
 ⟨a.trans b.x,b.rep,fun ps c e q=>a.h.free (b.fr ps c e q)⟩
theorem A4.toVal{K:AD}{F H F' H':Hp}{v:V}{p:PV}:∀{r:g6},A4 K F H F' H' v r->r.toVal=some p->∃F2,A4 K F H F2 H' v (.val p)
 | .val q,o,e=>by cases e;exact⟨F',o⟩
 | .bo _,_,e=>nomatch e
 | .ow (.dct _),_,e=>nomatch e
 | .ow (.txt _),_,e=>nomatch e
 | .ow (.lst ps),o,e=>by
   cases e
   obtain⟨a,xs,rfl,n,q,r⟩:=o.rep
   have fr:=o.fr _ a rfl rfl
   have up:u4 F' (upd F' a (.lst xs)):=fun b u z=>by rw [o8 (p6 z n)];exact z
   refine⟨upd F' a (.lst xs),A4.val ⟨o.x.f.trans up,o.x.h,fun b u z=> ?_,fun b u z y t=> ?_,b3R o.x.nf⟩ ⟨a,xs,rfl,SqL.of y4,p8.mono up _ r⟩⟩
   ·by_cases hb:b=a
    ·subst hb;rw [y4] at z;cases z;exact q
    ·rw [o8 hb] at z;exact o.x.fh _ _ z
   ·rw [o8 (p6 y fr)];exact o.x.nw b u z y t
theorem a2r{H:Hp}{a:AB}{o:HO}(n:H a=none):u4 H (upd H a o):=fun b u z=>by rw [o8 (p6 z n)];exact z
theorem Ext.lay{F H:Hp}{a:AB}{o:HO}(s:u4 F H)(n:H a=none)(hf:∀x u,o≠.frz x u:=by intro _ _ h;cases h):Ext F H (upd F a o) (upd H a o):=
 ⟨a2r (s.free n),a2r n,fun b u z=>by
  by_cases hb:b=a
  ·subst hb;rw [y4] at z ⊢;exact z
  ·rw [o8 hb] at z ⊢;exact s _ _ z,fun b u z y _=>by rw [o8 (p6 y n)];exact z,fun b w u z=>by
  by_cases hb:b=a
  ·subst hb;rw [y4] at z;exact absurd (Option.some.inj z) (hf w u)
  ·rw [o8 hb] at z;exact z⟩
theorem Ext.layH{F H:Hp}{a:AB}{o:HO}(s:u4 F H)(n:H a=none):Ext F H F (upd H a o):=
 ⟨u4.refl F,a2r n,fun b u z=>by rw [o8 (p6 (s _ _ z) n)];exact s _ _ z,fun b u z y _=>z,fun _ _ _ z=>z⟩
theorem A4.tup{K:AD}{F H:Hp}{a:AB}{xs:List V}{ps:List PV}(s:u4 F H)(n:H a=none)(r:p8 K F ps xs):A4 K F H (upd F a (.tup xs)) (upd H a (.tup xs)) (.ref a) (.val (.tuple ps)):=
 A4.val (Ext.lay s n) ⟨a,xs,rfl,TqT.of y4,p8.mono (a2r (s.free n)) _ r⟩
theorem A4.lst{K:AD}{F H:Hp}{a:AB}{xs:List V}{ps:List PV}(s:u4 F H)(n:H a=none)(r:p8 K F ps xs):A4 K F H F (upd H a (.lst xs)) (.ref a) (.own ps):=
 ⟨Ext.layH s n,⟨a,xs,rfl,s.free n,y4,r⟩,fun _ _ _ e=>by cases e;exact n⟩
abbrev d4:=List (Option g6)
structure K4(K:AD)(F H:Hp)(σ:L2.St)(ρ:d4):Prop where
 fh:u4 F H
 len:σ.length=ρ.length
 at_:∀(i:Nat) (r:g6),ρ[i]?=some (some r)->∃v,σ[i]?=some (some v)/\O0 K F H v r
 nb:∀(i:Nat) (c:a1Q),ρ[i]?≠some (some (.bo c))
 ap:∀(i j:Nat) (c d:a1Q) (a:AB),i≠j->ρ[i]?=some (some (.ow c))->ρ[j]?=some (some (.ow d))->σ[i]?=some (some (.ref a))->σ[j]?≠some (some (.ref a))
theorem K4.ext{K:AD}{F H F' H':Hp}{σ:L2.St}{ρ:d4}(e:K4 K F H σ ρ)(x:Ext F H F' H'):K4 K F' H' σ ρ:=
 ⟨x.fh,e.len,fun i r q=>let ⟨v,a,b⟩:=e.at_ i r q;⟨v,a,b.ext x⟩,e.nb,e.ap⟩
abbrev M:=d4->Option g6
def tM(K:AD)(m:M):TE:=fun σ H Q=>∃F ρ r,K4 K F H σ ρ/\m ρ=some r/\∀v F' H',A4 K F H F' H' v r->Q v H'
abbrev EE(X:Cx)(e:AG)(m:M):Prop:=PE X e (tM X.K m)
theorem C2{X:Cx}{e:AG}{t t':TE}(h:PE X e t)(i:∀σ H Q,t' σ H Q->t σ H Q):PE X e t':=fun pins s σ H Q I q=>h pins s σ H Q I (i σ H Q q)
theorem a8K{X:Cx}{e:AG}{t t':TT}(h:PT X e t)(i:∀σ H Q,t' σ H Q->t σ H Q):PT X e t':=fun pins s σ H Q I q=>h pins s σ H Q I (i σ H Q q)
theorem b4o{X:Cx}{e:AG}{t t':TT}(h:PW X e t)(i:∀σ H Q,t' σ H Q->t σ H Q):PW X e t':=fun wh pins s σ H Q I q=>h wh pins s σ H Q I (i σ H Q q)
theorem b33{X:Cx}{e:List AG}{t t':TA}(h:PA X e t)(i:∀σ H Q,t' σ H Q->t σ H Q):PA X e t':=fun pos pins s σ H Q I q=>h pos pins s σ H Q I (i σ H Q q)
theorem O5{X:Cx}{e:Stmt}{t t':TS}(h:PS X e t)(i:∀D σ H,t' D σ H->t D σ H):PS X e t':=fun pins s σ H D I q=>h pins s σ H D I (i D σ H q)
theorem a5n{X:Cx}{e:List Stmt}{t t':TS}(h:PSs X e t)(i:∀D σ H,t' D σ H->t D σ H):PSs X e t':=fun pins s σ H D I q=>h pins s σ H D I (i D σ H q)
def mC(p:PV):M:=fun _=>some (.val p)
def b6(i:Nat):M:=fun ρ=>match ρ[i]? with
 |some (some (.ow c))=>some (.bo c)
 |some (some r)=>some r
 |_=>none
section
variable {X:Cx}{a b c:AG}{ma mb mc:M}{pos:Pos}
theorem a14{e:AG}{v:V}{p:PV}(h:PE X e (tC v))(r:∀H,M2 X.K H p v):EE X e (mC p):=
 C2 h fun σ H Q ⟨F,ρ,q,he,hm,k⟩=>by
  cases hm
  exact k v F H (A4.here he.fh (r F))
theorem j0{i j pos}:EE X (.Constant (.int i) j pos) (mC (.int i)):=a14 b4a fun _=>rfl
theorem a3I{b j pos}:EE X (.Constant (.bool b) j pos) (mC (.bool b)):=a14 b8X fun _=>rfl
theorem w8{j pos}:EE X (.Constant .none j pos) (mC .none):=a14 b7V fun _=>rfl
theorem b9{x j pos}:EE X (.Constant (.str x) j pos) (mC (.str x)):=a14 b7X fun _=>rfl
theorem b5(i:Nat){x:Str}{pos:Pos}(h:PE X (.Name x pos) (b02 i)):EE X (.Name x pos) (b6 i):=
 C2 h fun σ H Q ⟨F,ρ,r,he,hm,k⟩=>by
  unfold b6 at hm
  split at hm
  ·rename_i ps e
   cases hm
   obtain⟨v,e1,rr⟩:=he.at_ i _ e
   exact⟨v,e1,k v F H ⟨Ext.refl he.fh,rr,fun _ _ z=>nomatch z⟩⟩
  ·rename_i r' nn e
   cases hm
   obtain⟨v,e1,rr⟩:=he.at_ i _ e
   exact⟨v,e1,k v F H ⟨Ext.refl he.fh,rr,fun ps _ z=>absurd z (nn ps)⟩⟩
  ·cases hm
def rM2(K:AD)(g:g6->g6->Option g6):R2:=fun x y H Q=>∃F rx ry rz,u4 F H/\O0 K F H x rx/\O0 K F H y ry/\g rx ry=some rz/\∀v F' H',A4 K F H F' H' v rz->Q v H'
abbrev OpM(X:Cx)(f:AA->AA->Sem AA)(g:g6->g6->Option g6):Prop:=OpR X f (rM2 X.K g)
def m2(g:g6->g6->Option g6)(ma mb:M):M:=fun ρ=>(ma ρ).bind fun x=>(mb ρ).bind fun y=>g x y
theorem bind_some{α β:Type}{o:Option α}{f:α->Option β}{b:β}(h:o.bind f=some b):∃a,o=some a/\f a=some b:=by
 cases o with
 |none=>cases h
 |some a=>exact⟨a,rfl,h⟩
theorem a8T{K:AD}{g:g6->g6->Option g6}{σ:L2.St}{H:Hp}{Q:VK}(h:tM K (m2 g ma mb) σ H Q):tOp (rM2 K g) (tM K ma) (tM K mb) σ H Q:=by
 obtain⟨F,ρ,r,he,hm,k⟩:=h
 obtain⟨rx,e1,hm⟩:=bind_some hm
 obtain⟨ry,e2,hm⟩:=bind_some hm
 exact⟨F,ρ,rx,he,e1,fun v F1 H1 o1=>⟨F1,ρ,ry,he.ext o1.x,e2,fun u F2 H2 o2=>⟨F2,rx,ry,r,o2.x.fh,o1.rep.ext o2.x,o2.rep,hm,fun z F3 H3 o3=>k z F3 H3 (A4.trans (o1.x.trans o2.x) o3)⟩⟩⟩
theorem f9{op:Operator}{g:g6->g6->Option g6}(ho:OpM X (binaryOp op) g)(ha:EE X a ma)(hb:EE X b mb):EE X (.BinOp a op b pos) (m2 g ma mb):=
 C2 (b8Z ho ha hb) fun _ _ _ h=>a8T h
theorem a4m{op:CmpOp}{g:g6->g6->Option g6}(ho:OpM X (compareOp op) g)(ha:EE X a ma)(hb:EE X b mb)(hm:behindInMarks op b=false):EE X (.Compare a [op] [b] pos) (m2 g ma mb):=
 C2 (b53 ho ha hb hm) fun _ _ _ h=>a8T h
theorem a2J{f:AA->AA->Sem AA}{r:R2}{g:g6->g6->Option g6}(h:OpR X f r)
 (i:∀F H x y rx ry rz,u4 F H->O0 X.K F H x rx->O0 X.K F H y ry->g rx ry=some rz->∀Q:VK,(∀v F' H',A4 X.K F H F' H' v rz->Q v H')->r x y H Q):OpM X f g:=
 fun pins s σ H x y v u Q I rx ry ⟨F,ra,rb,rz,s0,h1,h2,h3,k⟩=>h pins s σ H x y v u Q I rx ry (i F H x y ra rb rz s0 h1 h2 h3 Q k)
end
def gI(f:Int->Int->PV):g6->g6->Option g6
 | .val (.int i),.val (.int j)=>some (.val (f i j))
 |_,_=>none
theorem b3T:∃f:(Int->Int->Prop)->Int->Int->Bool,∀C i j,f C i j=true↔C i j:=⟨fun C i j=> @decide (C i j) (Classical.propDecidable _),fun C i j=> @decide_eq_true_iff (C i j) (Classical.propDecidable _)⟩
def okC:(Int->Int->Prop)->Int->Int->Bool:=b3T.choose
theorem a0j{C:Int->Int->Prop}{i j:Int}:okC C i j=true↔C i j:=b3T.choose_spec C i j
def gIc(C:Int->Int->Prop)[∀i j,Decidable (C i j)](f:Int->Int->PV):g6->g6->Option g6
 | .val (.int i),.val (.int j)=>if okC C i j=true then some (.val (f i j)) else none
 |_,_=>none
theorem b1o{f:Int->Int->PV}{rx ry rz:g6}(h:gI f rx ry=some rz):∃i j,rx= .val (.int i)/\ry= .val (.int j)/\rz= .val (f i j):=by
 unfold gI at h
 split at h
 ·cases h;exact⟨_,_,rfl,rfl,rfl⟩
 ·cases h
theorem b3p{C:Int->Int->Prop}[∀i j,Decidable (C i j)]{f:Int->Int->PV}{rx ry rz:g6}(h:gIc C f rx ry=some rz):∃i j,rx= .val (.int i)/\ry= .val (.int j)/\C i j/\rz= .val (f i j):=by
 unfold gIc at h
 split at h
 ·split at h
  ·rename_i c;cases h;exact⟨_,_,rfl,rfl,a0j.mp c,rfl⟩
  ·cases h
 ·cases h
section
variable {X:Cx}
theorem b3W{f:AA->AA->Sem AA}{g:Int->Int->V}{g':Int->Int->PV}(h:OpR X f (rI0 g))(e:∀i j H,M2 X.K H (g' i j) (g i j)):OpM X f (gI g'):=
 a2J h fun F H x y rx ry rz s h1 h2 h3 Q k=>by
  obtain⟨i,j,rfl,rfl,rfl⟩:=b1o h3
  exact⟨i,j,h1,h2,k _ F H (A4.here s (e i j F))⟩
theorem a8G{f:AA->AA->Sem AA}{C:Int->Int->Prop}[∀i j,Decidable (C i j)]{g:Int->Int->V}{g':Int->Int->PV}(h:OpR X f (rI C g))(e:∀i j H,M2 X.K H (g' i j) (g i j)):OpM X f (gIc C g'):=
 a2J h fun F H x y rx ry rz s h1 h2 h3 Q k=>by
  obtain⟨i,j,rfl,rfl,c,rfl⟩:=b3p h3
  exact⟨i,j,h1,h2,c,k _ F H (A4.here s (e i j F))⟩
end
section
variable {X:Cx}{pins:List (AB×Obj)}{σ:L2.St}{H:Hp}{s:AC}
theorem a2h(I:n4 X pins σ H s){a:AB}{xs ys:List V}(h:SqL X.K H a xs)(h':SqT X.K H a ys):False:=by
 obtain⟨its,r,p,_⟩:=I.list h
 obtain⟨its',r',p',_⟩:=I.tuple h'
 exact SeqAt.ne_of_list_tuple p.isList (show s.heap.IsTuple a its'.toArray from p') rfl
theorem a4T(I:n4 X pins σ H s){a:AB}{xs:List V}{ys:List (A1×V)}(h:H a=some (.dK ys))(h':SqL X.K H a xs):False:=by
 obtain⟨its,r,⟨o,n,e,c,_⟩,_⟩:=I.list h'
 obtain⟨_,_,_,_,o',_,_,e',ex,_⟩:=I.hok a _ h
 rw [e] at e';cases e'
 have:=ex.1
 rw [c] at this;exact absurd this (by simp)
theorem a4U(I:n4 X pins σ H s){a:AB}{xs:List V}{ys:List (A1×V)}(h:H a=some (.dK ys))(h':SqT X.K H a xs):False:=by
 obtain⟨its,r,⟨o,e,c,_⟩,_⟩:=I.tuple h'
 obtain⟨_,_,_,_,o',_,_,e',ex,_⟩:=I.hok a _ h
 rw [e] at e';cases e'
 have:=ex.1
 rw [c] at this;exact absurd this (by simp)
theorem a54(I:n4 X pins σ H s){a:AB}{ys:List (List A1×V)}{xs:List V}(h:H a=some (.dT ys))(h':SqL X.K H a xs):False:=by
 obtain⟨its,r,⟨o,n,e,c,_⟩,_⟩:=I.list h'
 obtain⟨_,_,_,_,o',_,_,e',ex,_⟩:=I.hok a _ h
 rw [e] at e';cases e'
 have:=ex.1
 rw [c] at this;exact absurd this (by simp)
theorem a55(I:n4 X pins σ H s){a:AB}{ys:List (List A1×V)}{xs:List V}(h:H a=some (.dT ys))(h':SqT X.K H a xs):False:=by
 obtain⟨its,r,⟨o,e,c,_⟩,_⟩:=I.tuple h'
 obtain⟨_,_,_,_,o',_,_,e',ex,_⟩:=I.hok a _ h
 rw [e] at e';cases e'
 have:=ex.1
 rw [c] at this;exact absurd this (by simp)
theorem b1m(I:n4 X pins σ H s){x:Str}{v:V}(h:b2T X.K x v):∃(a:AB) (o:Obj) (fd:FuncData),v= .ref a/\s.heap.get? a=some o/\o.data= .func fd/\fd.name=x:=by
 obtain⟨a,oc,od,fd,osl,e,k,n⟩:=h
 exact⟨a,_,fd,e,I.kIn a _ k,rfl,n⟩
theorem a4d(I:n4 X pins σ H s){x:Str}{v:V}(h:b6U X.K H x v):∃(a C:AB) (o:Obj) (vs:Array AA),v= .ref a/\s.heap.get? a=some o/\o.cls= .ref C/\o.data= .fields vs/\R8 X.K x C/\o.dict=none:=by
 obtain⟨a,C,φ,e,q,k,n⟩:=h
 obtain⟨oe,vs,h1,h2,h3,h4⟩:=k _ (I.hok a _ q).1
 exact⟨a,C,oe,vs,e,h1,h2,h3,n,h4⟩
theorem a58(I:n4 X pins σ H s){x:Str}{a:AB}{xs:List V}{t:PV}(h:a4f X.K H x t (.ref a))(h':SqT X.K H a xs):False:=by
 obtain⟨its,r,⟨o',e',c',n',d'⟩,_⟩:=I.tuple h'
 rcases h with⟨_,h⟩|⟨_,h⟩
 ·obtain⟨b,o,fd,e,g,d,_⟩:=b1m I h
  cases e
  rw [g] at e';cases e'
  rw [d] at d';cases d'
 ·obtain⟨b,C,o,vs,e,g,c,d,_⟩:=a4d I h
  cases e
  rw [g] at e';cases e'
  rw [d] at d';cases d'
theorem a57(I:n4 X pins σ H s){x:Str}{a:AB}{xs:List V}{t:PV}(h:a4f X.K H x t (.ref a))(h':SqL X.K H a xs):False:=by
 obtain⟨its,r,pl,_⟩:=I.list h'
 obtain⟨o',e',c',n',d'⟩:=pl.isList
 rcases h with⟨_,h⟩|⟨_,h⟩
 ·obtain⟨b,o,fd,e,g,d,_⟩:=b1m I h
  cases e
  rw [g] at e';cases e'
  rw [d] at d';cases d'
 ·obtain⟨b,C,o,vs,e,g,c,d,_⟩:=a4d I h
  cases e
  rw [g] at e';cases e'
  rw [d] at d';cases d'
theorem a56(I:n4 X pins σ H s){x:Str}{a:AB}{ys:List (A1×V)}{t:PV}(h:a4f X.K H x t (.ref a))(h':H a=some (.dK ys)):False:=by
 rcases h with⟨_,b,oc,od,fd,osl,e,k,_⟩|⟨_,b,C,φ,e,q,_⟩
 ·cases e
  have:=(I.bs a _ (I.ok.mod.kin a _ k)).2
  rw [this] at h';cases h'
 ·cases e
  rw [q] at h';cases h'
theorem a7G(I:n4 X pins σ H s){x:Str}{a:AB}{ys:List (List A1×V)}{t:PV}(h:a4f X.K H x t (.ref a))(h':H a=some (.dT ys)):False:=by
 rcases h with⟨_,b,oc,od,fd,osl,e,k,_⟩|⟨_,b,C,φ,e,q,_⟩
 ·cases e
  have:=(I.bs a _ (I.ok.mod.kin a _ k)).2
  rw [this] at h';cases h'
 ·cases e
  rw [q] at h';cases h'
theorem a7H(I:n4 X pins σ H s){x y:Str}{v:V}(h:b2T X.K x v)(h':b6U X.K H y v):False:=by
 obtain⟨b,oc,od,fd,osl,e,k,_⟩:=h
 obtain⟨b',C,φ,e',q,_⟩:=h'
 rw [e] at e';cases e'
 have:=(I.bs b _ (I.ok.mod.kin b _ k)).2
 rw [this] at q;cases q
theorem b8I(I:n4 X pins σ H s){x y:Str}{t u:PV}{v:V}(h:a4f X.K H x t v)(h':a4f X.K H y u v):x=y/\t=u:=by
 rcases h with⟨rfl,h⟩|⟨rfl,h⟩<;>rcases h' with⟨rfl,h'⟩|⟨rfl,h'⟩
 all_goals first|refine⟨?_,rfl⟩|skip
 ·obtain⟨b,oc,od,fd,osl,e,k,n⟩:=h
  obtain⟨b',oc',od',fd',osl',e',k',n'⟩:=h'
  rw [e] at e';cases e'
  rw [k] at k';cases k'
  rw [<-n,n']
 ·exact(a7H I h h').elim
 ·exact(a7H I h' h).elim
 ·obtain⟨b,C,o,vs,e,g,c,d,n,_⟩:=a4d I h
  obtain⟨b',C',o',vs',e',g',c',d',n',_⟩:=a4d I h'
  rw [e] at e';cases e'
  rw [g] at g';cases g'
  rw [c] at c';cases c'
  exact n.inj n'
theorem b1G(I:n4 X pins σ H s){x:Str}{m v:V}{fs:List (Str×V)}(h:a3x X.K H x m fs v):∃(a C:AB) (o:Obj),v= .ref a/\s.heap.get? a=some o/\o.cls= .ref C/\R8 X.K x C:=by
 rcases h with⟨_,a,C,dx,e,q,n⟩|⟨_,a,C,dx,φ,e,q,r,d,n⟩
 ·obtain⟨_,_,_,g,_⟩:=I.hok a _ q
  exact⟨a,C,_,e,g,rfl,n⟩
 ·obtain⟨oe,vs,h1,h2,_⟩:=r _ (I.hok a _ q).1
  exact⟨a,C,oe,e,h1,h2,n⟩
theorem a6b(I:n4 X pins σ H s){x:Str}{m:V}{fs:List (Str×V)}{a:AB}{xs:List V}(h:a3x X.K H x m fs (.ref a))(h':SqT X.K H a xs):False:=by
 obtain⟨its,r,⟨o',e',c',n',d'⟩,_⟩:=I.tuple h'
 obtain⟨b,C,o,e,g,c,_⟩:=b1G I h
 cases e
 rw [g] at e';cases e'
 rw [c] at c';cases c'
theorem a6a(I:n4 X pins σ H s){x:Str}{m:V}{fs:List (Str×V)}{a:AB}{xs:List V}(h:a3x X.K H x m fs (.ref a))(h':SqL X.K H a xs):False:=by
 obtain⟨its,r,pl,_⟩:=I.list h'
 obtain⟨o',e',c',n',d'⟩:=pl.isList
 obtain⟨b,C,o,e,g,c,_⟩:=b1G I h
 cases e
 rw [g] at e';cases e'
 rw [c] at c';cases c'
theorem a59{x:Str}{m:V}{fs:List (Str×V)}{a:AB}{ys:List (A1×V)}(h:a3x X.K H x m fs (.ref a))(h':H a=some (.dK ys)):False:=by
 rcases h with⟨_,b,C,dx,e,q,n⟩|⟨_,b,C,dx,φ,e,q,r,d,n⟩
 ·cases e;rw [q] at h';cases h'
 ·cases e;rw [q] at h';cases h'
theorem a7I{x:Str}{m:V}{fs:List (Str×V)}{a:AB}{ys:List (List A1×V)}(h:a3x X.K H x m fs (.ref a))(h':H a=some (.dT ys)):False:=by
 rcases h with⟨_,b,C,dx,e,q,n⟩|⟨_,b,C,dx,φ,e,q,r,d,n⟩
 ·cases e;rw [q] at h';cases h'
 ·cases e;rw [q] at h';cases h'
theorem a7J(I:n4 X pins σ H s){x y:Str}{m v:V}{fs:List (Str×V)}{t:PV}(h:a3x X.K H x m fs v)(h':a4f X.K H y t v):False:=by
 rcases h' with⟨_,h'⟩|⟨_,h'⟩
 ·obtain⟨b,oc,od,fd,osl,e,k,_⟩:=h'
  have nn:=(I.bs b _ (I.ok.mod.kin b _ k)).2
  rcases h with⟨_,b',C,dx,e',q,n⟩|⟨_,b',C,dx,φ,e',q,r,d,n⟩
  ·rw [e] at e';cases e';rw [nn] at q;cases q
  ·rw [e] at e';cases e';rw [nn] at q;cases q
 ·obtain⟨b,C,o,vs,e,g,c,d,n,dn⟩:=a4d I h'
  rcases h with⟨_,b',C',dx,e',q,n'⟩|⟨_,b',C',dx,φ,e',q,r,d',n'⟩
  ·rw [e] at e';cases e'
   obtain⟨_,_,_,g',_⟩:=I.hok _ _ q
   rw [g] at g';cases g'
   cases dn
  ·rw [e] at e';cases e'
   obtain⟨oe,vs',h1,h2,h3,h4⟩:=r _ (I.hok _ _ q).1
   rw [g] at h1;cases h1
   rw [dn] at h4;cases h4
theorem b8S(I:n4 X pins σ H s){x y:Str}{m m' v:V}{fs fs':List (Str×V)}(h:a3x X.K H x m fs v)(h':a3x X.K H y m' fs' v):(x,m)::fs=(y,m')::fs':=by
 rcases h with⟨rfl,b,C,dx,e,q,n⟩|⟨rfl,b,C,dx,φ,e,q,r,d,n⟩<;>rcases h' with⟨rfl,b',C',dx',e',q',n'⟩|⟨rfl,b',C',dx',φ',e',q',r',d',n'⟩
 ·rw [e] at e';cases e';rw [q] at q';cases q';rw [n.inj n']
 ·rw [e] at e';cases e';rw [q] at q';cases q'
 ·rw [e] at e';cases e';rw [q] at q';cases q'
 ·rw [e] at e';cases e';rw [q] at q';cases q'
  obtain⟨o1,v1,a1,a2,a3,a4⟩:=r _ (I.hok _ _ q).1
  obtain⟨o2,v2,b1,b2,b3,b4⟩:=r' _ (I.hok _ _ q).1
  rw [a1] at b1;cases b1
  rw [a2] at b2;cases b2
  rw [a4] at b4;cases b4
  rw [d] at d';cases d'
  rw [n.inj n']
mutual
theorem M2.inj(I:n4 X pins σ H s):∀(p q:PV) {v:V},M2 X.K H p v->M2 X.K H q v->p=q
 | .tuple ps,q,v,⟨a,xs,e,h,r⟩,h'=>by
   subst e
   cases q with
   |tuple qs=>
    obtain⟨a',xs',e',h',r'⟩:=h'
    cases e'
    cases I.tuple_inj h.sq h'.sq
    rw [p8.inj I ps qs r r']
   |list qs=>obtain⟨a',xs',e',h',r'⟩:=h';cases e';exact(a2h I h' h.sq).elim
   |dict qs=>
    rcases h' with⟨a',_,e',h',_⟩|⟨a',_,e',h',_⟩|⟨x,t,_,h'⟩|⟨x,m,fs,h',_⟩
    ·cases e';exact(a4U I h' h.sq).elim
    ·cases e';exact(a55 I h' h.sq).elim
    ·exact(a58 I h' h.sq).elim
    ·exact(a6b I h' h.sq).elim
   |_=>cases h'
 | .list ps,q,v,⟨a,xs,e,h,r⟩,h'=>by
   subst e
   cases q with
   |list qs=>
    obtain⟨a',xs',e',h',r'⟩:=h'
    cases e'
    cases I.list_inj h h'
    rw [p8.inj I ps qs r r']
   |tuple qs=>obtain⟨a',xs',e',h',r'⟩:=h';cases e';exact(a2h I h h'.sq).elim
   |dict qs=>
    rcases h' with⟨a',_,e',h',_⟩|⟨a',_,e',h',_⟩|⟨x,t,_,h'⟩|⟨x,m,fs,h',_⟩
    ·cases e';exact(a4T I h' h).elim
    ·cases e';exact(a54 I h' h).elim
    ·exact(a57 I h' h).elim
    ·exact(a6a I h' h).elim
   |_=>cases h'
 | .dict ps,q,v,.inl ⟨a,ys,e,h,hr⟩,h'=>by
   subst e
   cases q with
   |tuple qs=>obtain⟨a',xs',e',h',r'⟩:=h';cases e';exact(a4U I h h'.sq).elim
   |list qs=>obtain⟨a',xs',e',h',r'⟩:=h';cases e';exact(a4T I h h').elim
   |dict qs=>
    rcases h' with⟨a',_,e',h',r'⟩|⟨a',_,e',h',_⟩|⟨x,t,_,h'⟩|⟨x,m,fs,h',_⟩
    ·cases e';rw [h] at h';cases h';rw [a0M.inj I ps qs hr r']
    ·cases e';rw [h] at h';cases h'
    ·exact(a56 I h' h).elim
    ·exact(a59 h' h).elim
   |_=>cases h'
 | .dict ps,q,v,.inr (.inl ⟨a,ys,e,h,hr⟩),h'=>by
   subst e
   cases q with
   |tuple qs=>obtain⟨a',xs',e',h',r'⟩:=h';cases e';exact(a55 I h h'.sq).elim
   |list qs=>obtain⟨a',xs',e',h',r'⟩:=h';cases e';exact(a54 I h h').elim
   |dict qs=>
    rcases h' with⟨a',_,e',h',_⟩|⟨a',_,e',h',r'⟩|⟨x,t,_,h'⟩|⟨x,m,fs,h',_⟩
    ·cases e';rw [h] at h';cases h'
    ·cases e';rw [h] at h';cases h';rw [a0M.inj I ps qs hr r']
    ·exact(a7G I h' h).elim
    ·exact(a7I h' h).elim
   |_=>cases h'
 | .dict ps,q,v,.inr (.inr (.inr ⟨x,m,fs,h,hr⟩)),h'=>by
   cases q with
   |tuple qs=>obtain⟨a',xs',e',h',r'⟩:=h';subst e';exact(a6b I h h'.sq).elim
   |list qs=>obtain⟨a',xs',e',h',r'⟩:=h';subst e';exact(a6a I h h').elim
   |dict qs=>
    rcases h' with⟨a',_,e',h',_⟩|⟨a',_,e',h',_⟩|⟨y,u,e1,h'⟩|⟨y,m',fs',h',hr'⟩
    ·subst e';exact(a59 h h').elim
    ·subst e';exact(a7I h h').elim
    ·exact(a7J I h h').elim
    ·have z:=b8S I h h'
     rw [z] at hr
     rw [a1T.inj I ps qs hr hr']
   |none=>obtain⟨_,e⟩:=h.ref;rw [e] at h';cases h'
   |bool _=>obtain⟨_,e⟩:=h.ref;rw [e] at h';cases h'
   |int _=>obtain⟨_,e⟩:=h.ref;rw [e] at h';cases h'
   |str _=>obtain⟨_,e⟩:=h.ref;rw [e] at h';cases h'
 | .dict ps,q,v,.inr (.inr (.inl ⟨x,t,e0,h⟩)),h'=>by
   subst e0
   cases q with
   |tuple qs=>obtain⟨a',xs',e',h',r'⟩:=h';subst e';exact(a58 I h h'.sq).elim
   |list qs=>obtain⟨a',xs',e',h',r'⟩:=h';subst e';exact(a57 I h h').elim
   |dict qs=>
    rcases h' with⟨a',_,e',h',_⟩|⟨a',_,e',h',_⟩|⟨y,u,e1,h'⟩|⟨y,m,fs,h',_⟩
    ·subst e';exact(a56 I h h').elim
    ·subst e';exact(a7G I h h').elim
    ·obtain⟨z1,z2⟩:=b8I I h h';rw [e1,z1,z2]
    ·exact(a7J I h' h).elim
   |none=>obtain⟨_,e⟩:=h.ref;rw [e] at h';cases h'
   |bool _=>obtain⟨_,e⟩:=h.ref;rw [e] at h';cases h'
   |int _=>obtain⟨_,e⟩:=h.ref;rw [e] at h';cases h'
   |str _=>obtain⟨_,e⟩:=h.ref;rw [e] at h';cases h'
 | .none,q,v,h,h'=>by
   cases h
   cases q with
   |none=>rfl
   |tuple _=>obtain⟨_,_,e,_⟩:=h';cases e
   |list _=>obtain⟨_,_,e,_⟩:=h';cases e
   |dict _=>
    rcases h' with⟨_,_,e,_,_⟩|⟨_,_,e,_⟩|⟨_,_,_,h'⟩|⟨_,_,_,h',_⟩
    ·cases e
    ·cases e
    ·obtain⟨_,e⟩:=h'.ref;cases e
    ·obtain⟨_,e⟩:=h'.ref;cases e
   |_=>cases h'
 | .bool _,q,v,h,h'=>by
   cases h
   cases q with
   |bool _=>cases h';rfl
   |tuple _=>obtain⟨_,_,e,_⟩:=h';cases e
   |list _=>obtain⟨_,_,e,_⟩:=h';cases e
   |dict _=>
    rcases h' with⟨_,_,e,_,_⟩|⟨_,_,e,_⟩|⟨_,_,_,h'⟩|⟨_,_,_,h',_⟩
    ·cases e
    ·cases e
    ·obtain⟨_,e⟩:=h'.ref;cases e
    ·obtain⟨_,e⟩:=h'.ref;cases e
   |_=>cases h'
 | .int _,q,v,h,h'=>by
   cases h
   cases q with
   |int _=>cases h';rfl
   |tuple _=>obtain⟨_,_,e,_⟩:=h';cases e
   |list _=>obtain⟨_,_,e,_⟩:=h';cases e
   |dict _=>
    rcases h' with⟨_,_,e,_,_⟩|⟨_,_,e,_⟩|⟨_,_,_,h'⟩|⟨_,_,_,h',_⟩
    ·cases e
    ·cases e
    ·obtain⟨_,e⟩:=h'.ref;cases e
    ·obtain⟨_,e⟩:=h'.ref;cases e
   |_=>cases h'
 | .str _,q,v,h,h'=>by
   cases h
   cases q with
   |str _=>cases h';rfl
   |tuple _=>obtain⟨_,_,e,_⟩:=h';cases e
   |list _=>obtain⟨_,_,e,_⟩:=h';cases e
   |dict _=>
    rcases h' with⟨_,_,e,_,_⟩|⟨_,_,e,_⟩|⟨_,_,_,h'⟩|⟨_,_,_,h',_⟩
    ·cases e
    ·cases e
    ·obtain⟨_,e⟩:=h'.ref;cases e
    ·obtain⟨_,e⟩:=h'.ref;cases e
   |_=>cases h'
theorem p8.inj(I:n4 X pins σ H s):∀(ps qs:List PV) {vs:List V},p8 X.K H ps vs->p8 X.K H qs vs->ps=qs
 |[],qs,vs,h,h'=>by
  cases h
  cases qs with
  |nil=>rfl
  |cons q qs=>obtain⟨_,_,e,_⟩:=h';cases e
 |p::ps,qs,vs,⟨v,r,e,h,t⟩,h'=>by
  subst e
  cases qs with
  |nil=>cases h'
  |cons q qs=>
   obtain⟨v',r',e',h',t'⟩:=h'
   cases e'
   rw [M2.inj I p q h h',p8.inj I ps qs t t']
theorem a0M.inj(I:n4 X pins σ H s):∀(es fs:List (PV×PV)) {ys:List (List A1×V)},a0M X.K H es ys->a0M X.K H fs ys->es=fs
 |[],fs,ys,h,h'=>by
  cases h
  cases fs with
  |nil=>rfl
  |cons f fs=>obtain⟨k,p⟩:=f;obtain⟨_,_,_,e,_⟩:=h';cases e
 |(k,p)::es,fs,ys,⟨kk,v,r,e,z,q,t⟩,h'=>by
  subst e
  cases fs with
  |nil=>cases h'
  |cons f fs=>
   obtain⟨k',p'⟩:=f
   obtain⟨kk',v',r',e',z',q',t'⟩:=h'
   cases e'
   rw [z,z',M2.inj I p p' q q',a0M.inj I es fs t t']
theorem a1T.inj(I:n4 X pins σ H s):∀(es fs:List (PV×PV)) {ys:List (Str×V)},a1T X.K H es ys->a1T X.K H fs ys->es=fs
 |[],fs,ys,h,h'=>by
  cases h
  cases fs with
  |nil=>rfl
  |cons f fs=>obtain⟨k,p⟩:=f;obtain⟨_,_,_,e,_⟩:=h';cases e
 |(k,p)::es,fs,ys,⟨kk,v,r,e,z,q,t⟩,h'=>by
  subst e;subst z
  cases fs with
  |nil=>cases h'
  |cons f fs=>
   obtain⟨k',p'⟩:=f
   obtain⟨kk',v',r',e',z',q',t'⟩:=h'
   cases e';subst z'
   rw [M2.inj I p p' q q',a1T.inj I es fs t t']
end
end
mutual
def A7:PV->Nat->Bool
 | .list xs,n+1=>Q5 xs n
 | .tuple xs,n+1=>Q5 xs n
 | .list _,0=>false
 | .tuple _,0=>false
 | .dict _,_=>false
 | .none,_=>true
 | .bool _,_=>true
 | .int _,_=>true
 | .str _,_=>true
def Q5:List PV->Nat->Bool
 |[],_=>true
 |x::xs,n=>A7 x n && Q5 xs n
end
mutual
theorem b3f:∀(p:PV) (n:Nat),A7 p n=true->PyData.eqv p p=true
 | .none,_,_=>by simp [PyData.eqv]
 | .bool _,_,_=>by simp [PyData.eqv]
 | .int _,_,_=>by simp [PyData.eqv]
 | .str _,_,_=>by simp [PyData.eqv]
 | .list xs,n+1,h=>by simp only [PyData.eqv];exact a0S xs n (by simpa [A7] using h)
 | .tuple xs,n+1,h=>by simp only [PyData.eqv];exact a0S xs n (by simpa [A7] using h)
 | .list xs,0,h=>by simp [A7] at h
 | .tuple xs,0,h=>by simp [A7] at h
 | .dict _,_,h=>by simp [A7] at h
theorem a0S:∀(ps:List PV) (n:Nat),Q5 ps n=true->PyData.eqvAll ps ps=true
 |[],_,_=>by simp [PyData.eqvAll]
 |x::xs,n,h=>by
  have h':A7 x n=true/\Q5 xs n=true:=by simpa [Q5] using h
  simp only [PyData.eqvAll,b3f x n h'.1,a0S xs n h'.2,Bool.and_self]
end
def eAt(ps qs:List PV)(j:Nat):Bool:=match ps[j]?,qs[j]? with
 |some p,some q=>PyData.eqv p q
 |_,_=>false
theorem W5:∀(ps qs:List PV),PyData.eqvAll ps qs=((Al (min ps.length qs.length)).all (eAt ps qs)&& ps.length==qs.length)
 |[],[]=>by simp [PyData.eqvAll]
 |[],_::_=>by simp [PyData.eqvAll]
 |_::_,[]=>by simp [PyData.eqvAll]
 |p::ps,q::qs=>by
  have e:min (p::ps).length (q::qs).length=min ps.length qs.length+1:=by simp only [AU];lia
  rw [e,List.range_succ_eq_map,List.all_cons,List.all_map]
  have h0:eAt (p::ps) (q::qs) 0=PyData.eqv p q:=rfl
  have h1:(eAt (p::ps) (q::qs)∘Nat.succ)=eAt ps qs:=by funext j;simp [eAt,Function.comp]
  rw [h0,h1]
  simp only [PyData.eqvAll,W5 ps qs,AU,Bool.and_assoc]
  have e2:(ps.length+1==qs.length+1)=(ps.length==qs.length):=by
   rw [Bool.eq_iff_iff];simp
  rw [e2]
section
variable {X:Cx}{pins:List (AB×Obj)}{σ:L2.St}{H:Hp}{s:AC}
structure b2S(A:AK)(s:AC)(u w:AA)(b:Bool):Prop where
 rc:SeqAt.RcAt A s u w b
 ne:SeqAt.RcNeAt A s u w (!b)
 eq:SeqAt.EqAt A s u w b
theorem a7x(A:AK):A.in1.units=A.units+1:=rfl
theorem b1R{xs:List V}{its:List AA}{j:Nat}(r:u3 xs its)(h:j<its.length):∃x,xs[j]?=some x/\z4 x its[j]:=by
 have hx:j<xs.length:=by rw [r.length];exact h
 obtain⟨u,h1,h2⟩:=r.get (i:=j) (x:=xs[j]) (by simp [hx])
 rw [Ay h] at h1
 cases h1
 exact⟨xs[j],by simp [hx],h2⟩
theorem a90{A:AK}{ps qs:List PV}{xs ys:List V}{its its2:List AA}(r:p8 X.K H ps xs)(r':p8 X.K H qs ys)(rv:u3 xs its)(rv':u3 ys its2)
 (ih:∀p q x y u w,p∈ps->q∈qs->M2 X.K H p x->M2 X.K H q y->z4 x u->z4 y w->b2S A s u w (PyData.eqv p q)):
 ∀j (h1:j<its.toArray.size) (h2:j<its2.toArray.size),SeqAt.EqAt A s its.toArray[j] its2.toArray[j] (eAt ps qs j):=by
 intro j h1 h2
 have h1':j<its.length:=by simpa using h1
 have h2':j<its2.length:=by simpa using h2
 obtain⟨x,ex,rx⟩:=b1R rv h1'
 obtain⟨y,ey,ry⟩:=b1R rv' h2'
 obtain⟨p,ep,hp⟩:=r.getV ex
 obtain⟨q,eq,hq⟩:=r'.getV ey
 have:eAt ps qs j=PyData.eqv p q:=by simp [eAt,ep,eq]
 rw [this]
 have z:=(ih p q x y _ _ (BC ep) (BC eq) hp hq rx ry).eq
 simpa using z
theorem X3:∀{ps:List PV} {n:Nat} {p:PV},Q5 ps n=true->p∈ps->A7 p n=true
 |[],_,_,_,h=>by cases h
 |x::xs,n,p,h,hp=>by
  have h':A7 x n=true/\Q5 xs n=true:=by simpa [Q5] using h
  rcases Ak.mp hp with rfl|hp
  ·exact h'.1
  ·exact X3 h'.2 hp
theorem b0j(I:n4 X pins σ H s):∀(n:Nat) (A:AK) (p q:PV) (x y:V) (u w:AA),A.units+n<cLine->A7 p n=true->A7 q n=true->M2 X.K H p x->M2 X.K H q y->z4 x u->z4 y w->b2S A s u w (PyData.eqv p q):=by
 intro n
 induction n with
 |zero=>
  intro A p q x y u w hu hp hq rp rq rx ry
  cases p with
  |none=>
   cases rp;cases rx
   cases q with
   |none=>cases rq;cases ry;simp only [PyData.eqv];exact⟨.none_none,.none_none,.same _⟩
   |bool j=>cases rq;cases ry;simp only [PyData.eqv];exact⟨.none_bool _,.none_bool _,.none_bool _⟩
   |int j=>cases rq;obtain⟨ty,rfl⟩:=ry;simp only [PyData.eqv];exact⟨.none_int _ _,.none_int _ _,.none_int _ _⟩
   |str j=>cases rq;obtain⟨ty,rfl⟩:=ry;simp only [PyData.eqv];exact⟨.none_str _ _,.none_str _ _,.none_str _ _⟩
   |dict _=>simp [A7] at hq
   |list _=>simp [A7] at hq
   |tuple _=>simp [A7] at hq
  |bool i=>
   cases rp;cases rx
   cases q with
   |none=>cases rq;cases ry;simp only [PyData.eqv];exact⟨.bool_none _,.bool_none _,.bool_none _⟩
   |bool j=>cases rq;cases ry;simp only [PyData.eqv];exact⟨.bool_bool _ _,.bool_bool _ _,.bool_bool _ _⟩
   |int j=>cases rq;obtain⟨ty,rfl⟩:=ry;simp only [PyData.eqv];exact⟨.bool_int _ _ _,.bool_int _ _ _,.bool_int _ _ _⟩
   |str j=>cases rq;obtain⟨ty,rfl⟩:=ry;simp only [PyData.eqv];exact⟨.bool_str _ _ _,.bool_str _ _ _,.bool_str _ _ _⟩
   |dict _=>simp [A7] at hq
   |list _=>simp [A7] at hq
   |tuple _=>simp [A7] at hq
  |int i=>
   cases rp;obtain⟨tx,rfl⟩:=rx
   cases q with
   |none=>cases rq;cases ry;simp only [PyData.eqv];exact⟨.int_none _ _,.int_none _ _,.int_none _ _⟩
   |bool j=>cases rq;cases ry;simp only [PyData.eqv];exact⟨.int_bool _ _ _,.int_bool _ _ _,.int_bool _ _ _⟩
   |int j=>cases rq;obtain⟨ty,rfl⟩:=ry;simp only [PyData.eqv];exact⟨.int_int _ _ _ _,.int_int _ _ _ _,.int_int _ _ _ _⟩
   |str j=>cases rq;obtain⟨ty,rfl⟩:=ry;simp only [PyData.eqv];exact⟨.int_str _ _ _ _,.int_str _ _ _ _,.int_str _ _ _ _⟩
   |dict _=>simp [A7] at hq
   |list _=>simp [A7] at hq
   |tuple _=>simp [A7] at hq
  |str i=>
   cases rp;obtain⟨tx,rfl⟩:=rx
   cases q with
   |none=>cases rq;cases ry;simp only [PyData.eqv];exact⟨.str_none _ _,.str_none _ _,.str_none _ _⟩
   |bool j=>cases rq;cases ry;simp only [PyData.eqv];exact⟨.str_bool _ _ _,.str_bool _ _ _,.str_bool _ _ _⟩
   |int j=>cases rq;obtain⟨ty,rfl⟩:=ry;simp only [PyData.eqv];exact⟨.str_int _ _ _ _,.str_int _ _ _ _,.str_int _ _ _ _⟩
   |str j=>cases rq;obtain⟨ty,rfl⟩:=ry;simp only [PyData.eqv];exact⟨.str_str _ _ _ _,.str_str _ _ _ _,.str_str _ _ _ _⟩
   |dict _=>simp [A7] at hq
   |list _=>simp [A7] at hq
   |tuple _=>simp [A7] at hq
  |dict _=>simp [A7] at hp
  |list _=>simp [A7] at hp
  |tuple _=>simp [A7] at hp
 |succ n ih=>
  intro A p q x y u w hu hp hq rp rq rx ry
  have hu0:A.units<cLine:=by lia
  have hu1:A.in1.units+n<cLine:=by rw [a7x];lia
  cases p with
  |dict _=>simp [A7] at hp
  |list ps=>
   obtain⟨a,xs,rfl,hs,r⟩:=rp
   cases rx
   obtain⟨its,rv,pl,hz⟩:=I.list hs
   have okp:Q5 ps n=true:=by simpa [A7] using hp
   cases q with
   |dict _=>simp [A7] at hq
   |list qs=>
    obtain⟨b,ys,rfl,hs',r'⟩:=rq
    cases ry
    obtain⟨its2,rv',pl',hz'⟩:=I.list hs'
    have okq:Q5 qs n=true:=by simpa [A7] using hq
    have hle:its.toArray.size=ps.length:=by rw [<-r.length,rv.length];simp
    have hle':its2.toArray.size=qs.length:=by rw [<-r'.length,rv'.length];simp
    have he:=a90 (A:=A.in1) (s:=s) r r' rv rv' fun p q x y u w hp' hq' rp' rq' rx' ry'=>ih A.in1 p q x y u w hu1 (X3 okp hp') (X3 okq hq') rp' rq' rx' ry'
    simp only [PyData.eqv]
    have main:SeqAt.RcAt A s (.ref a) (.ref b) (PyData.eqvAll ps qs)/\SeqAt.RcNeAt A s (.ref a) (.ref b) (!PyData.eqvAll ps qs):=by
     by_cases e:its.toArray.size=its2.toArray.size
     ·have el:ps.length=qs.length:=by rw [<-hle,<-hle',e]
      have e3:PyData.eqvAll ps qs=(Al its.toArray.size).all (eAt ps qs):=by
       rw [W5,el,Nat.min_self,hle,el];simp
      rw [e3]
      exact⟨.lists pl.isList pl'.isList e hu0 he,.lists pl.isList pl'.isList e hu0 he⟩
     ·have e3:PyData.eqvAll ps qs=false:=by
       rw [W5]
       have:(ps.length==qs.length)=false:=by
        rw [beq_eq_false_iff_ne];intro z;exact e (by rw [hle,hle',z])
       rw [this,Bool.and_false]
      have e4:(its.toArray.size !=its2.toArray.size)=true:=by simpa using e
      rw [e3]
      exact⟨.lists_lengths pl.isList pl'.isList e4 hu0,.lists_lengths pl.isList pl'.isList e4 hu0⟩
    refine⟨main.1,main.2, ?_⟩
    by_cases hab:a=b
    ·subst hab
     cases I.list_inj hs hs'
     cases p8.inj I ps qs r r'
     rw [a0S ps n okp]
     exact .same _
    ·exact .of_refs hab main.1
   |tuple qs=>
    obtain⟨b,ys,rfl,hs',r'⟩:=rq
    cases ry
    obtain⟨its2,rv',pl',hz'⟩:=I.tuple hs'.sq
    simp only [PyData.eqv]
    exact⟨.list_tuple pl.isList pl' hu0,.list_tuple pl.isList pl' hu0,.list_tuple pl.isList pl' hu0⟩
   |none=>cases rq;cases ry;simp only [PyData.eqv];exact⟨.list_none pl.isList hu0,.list_none pl.isList hu0,.list_none pl.isList hu0⟩
   |bool k=>cases rq;cases ry;simp only [PyData.eqv];exact⟨.list_bool _ pl.isList hu0,.list_bool _ pl.isList hu0,.list_bool _ pl.isList hu0⟩
   |int k=>cases rq;obtain⟨t,rfl⟩:=ry;simp only [PyData.eqv];exact⟨.list_int _ _ pl.isList hu0,.list_int _ _ pl.isList hu0,.list_int _ _ pl.isList hu0⟩
   |str k=>cases rq;obtain⟨t,rfl⟩:=ry;simp only [PyData.eqv];exact⟨.list_str _ _ pl.isList hu0,.list_str _ _ pl.isList hu0,.list_str _ _ pl.isList hu0⟩
  |tuple ps=>
   obtain⟨a,xs,rfl,hs,r⟩:=rp
   cases rx
   obtain⟨its,rv,pl,hz⟩:=I.tuple hs.sq
   have okp:Q5 ps n=true:=by simpa [A7] using hp
   cases q with
   |dict _=>simp [A7] at hq
   |tuple qs=>
    obtain⟨b,ys,rfl,hs',r'⟩:=rq
    cases ry
    obtain⟨its2,rv',pl',hz'⟩:=I.tuple hs'.sq
    have okq:Q5 qs n=true:=by simpa [A7] using hq
    have hle:its.toArray.size=ps.length:=by rw [<-r.length,rv.length];simp
    have hle':its2.toArray.size=qs.length:=by rw [<-r'.length,rv'.length];simp
    have he:=a90 (A:=A.in1) (s:=s) r r' rv rv' fun p q x y u w hp' hq' rp' rq' rx' ry'=>ih A.in1 p q x y u w hu1 (X3 okp hp') (X3 okq hq') rp' rq' rx' ry'
    simp only [PyData.eqv]
    have e3:PyData.eqvAll ps qs=((Al (min its.toArray.size its2.toArray.size)).all (eAt ps qs)&& its.toArray.size==its2.toArray.size):=by
     rw [W5,hle,hle']
    have main:SeqAt.RcAt A s (.ref a) (.ref b) (PyData.eqvAll ps qs)/\SeqAt.RcNeAt A s (.ref a) (.ref b) (!PyData.eqvAll ps qs):=by
     rw [e3]
     exact⟨.tuples pl pl' hu0 he,.tuples pl pl' hu0 he⟩
    refine⟨main.1,main.2, ?_⟩
    by_cases hab:a=b
    ·subst hab
     cases I.tuple_inj hs.sq hs'.sq
     cases p8.inj I ps qs r r'
     rw [a0S ps n okp]
     exact .same _
    ·exact .of_refs hab main.1
   |list qs=>
    obtain⟨b,ys,rfl,hs',r'⟩:=rq
    cases ry
    obtain⟨its2,rv',pl',hz'⟩:=I.list hs'
    simp only [PyData.eqv]
    exact⟨.tuple_list pl pl'.isList hu0,.tuple_list pl pl'.isList hu0,.tuple_list pl pl'.isList hu0⟩
   |none=>cases rq;cases ry;simp only [PyData.eqv];exact⟨.tuple_none pl hu0,.tuple_none pl hu0,.tuple_none pl hu0⟩
   |bool k=>cases rq;cases ry;simp only [PyData.eqv];exact⟨.tuple_bool _ pl hu0,.tuple_bool _ pl hu0,.tuple_bool _ pl hu0⟩
   |int k=>cases rq;obtain⟨t,rfl⟩:=ry;simp only [PyData.eqv];exact⟨.tuple_int _ _ pl hu0,.tuple_int _ _ pl hu0,.tuple_int _ _ pl hu0⟩
   |str k=>cases rq;obtain⟨t,rfl⟩:=ry;simp only [PyData.eqv];exact⟨.tuple_str _ _ pl hu0,.tuple_str _ _ pl hu0,.tuple_str _ _ pl hu0⟩
  |none=>
   cases q with
   |list qs=>
    obtain⟨b,ys,rfl,hs',r'⟩:=rq;cases ry;obtain⟨its2,rv',pl',hz'⟩:=I.list hs';cases rp;cases rx;simp only [PyData.eqv]
    exact⟨.none_list pl'.isList hu0,.none_list pl'.isList hu0,.none_list pl'.isList hu0⟩
   |tuple qs=>
    obtain⟨b,ys,rfl,hs',r'⟩:=rq;cases ry;obtain⟨its2,rv',pl',hz'⟩:=I.tuple hs'.sq;cases rp;cases rx;simp only [PyData.eqv]
    exact⟨.none_tuple pl' hu0,.none_tuple pl' hu0,.none_tuple pl' hu0⟩
   |dict _=>simp [A7] at hq
   |_=>exact ih A _ _ x y u w (by lia) (by simp [A7]) (by simp [A7]) rp rq rx ry
  |bool k=>
   cases q with
   |list qs=>
    obtain⟨b,ys,rfl,hs',r'⟩:=rq;cases ry;obtain⟨its2,rv',pl',hz'⟩:=I.list hs';cases rp;cases rx;simp only [PyData.eqv]
    exact⟨.bool_list _ pl'.isList hu0,.bool_list _ pl'.isList hu0,.bool_list _ pl'.isList hu0⟩
   |tuple qs=>
    obtain⟨b,ys,rfl,hs',r'⟩:=rq;cases ry;obtain⟨its2,rv',pl',hz'⟩:=I.tuple hs'.sq;cases rp;cases rx;simp only [PyData.eqv]
    exact⟨.bool_tuple _ pl' hu0,.bool_tuple _ pl' hu0,.bool_tuple _ pl' hu0⟩
   |dict _=>simp [A7] at hq
   |_=>exact ih A _ _ x y u w (by lia) (by simp [A7]) (by simp [A7]) rp rq rx ry
  |int k=>
   cases q with
   |list qs=>
    obtain⟨b,ys,rfl,hs',r'⟩:=rq;cases ry;obtain⟨its2,rv',pl',hz'⟩:=I.list hs';cases rp;obtain⟨t,rfl⟩:=rx;simp only [PyData.eqv]
    exact⟨.int_list _ _ pl'.isList hu0,.int_list _ _ pl'.isList hu0,.int_list _ _ pl'.isList hu0⟩
   |tuple qs=>
    obtain⟨b,ys,rfl,hs',r'⟩:=rq;cases ry;obtain⟨its2,rv',pl',hz'⟩:=I.tuple hs'.sq;cases rp;obtain⟨t,rfl⟩:=rx;simp only [PyData.eqv]
    exact⟨.int_tuple _ _ pl' hu0,.int_tuple _ _ pl' hu0,.int_tuple _ _ pl' hu0⟩
   |dict _=>simp [A7] at hq
   |_=>exact ih A _ _ x y u w (by lia) (by simp [A7]) (by simp [A7]) rp rq rx ry
  |str k=>
   cases q with
   |list qs=>
    obtain⟨b,ys,rfl,hs',r'⟩:=rq;cases ry;obtain⟨its2,rv',pl',hz'⟩:=I.list hs';cases rp;obtain⟨t,rfl⟩:=rx;simp only [PyData.eqv]
    exact⟨.str_list _ _ pl'.isList hu0,.str_list _ _ pl'.isList hu0,.str_list _ _ pl'.isList hu0⟩
   |tuple qs=>
    obtain⟨b,ys,rfl,hs',r'⟩:=rq;cases ry;obtain⟨its2,rv',pl',hz'⟩:=I.tuple hs'.sq;cases rp;obtain⟨t,rfl⟩:=rx;simp only [PyData.eqv]
    exact⟨.str_tuple _ _ pl' hu0,.str_tuple _ _ pl' hu0,.str_tuple _ _ pl' hu0⟩
   |dict _=>simp [A7] at hq
   |_=>exact ih A _ _ x y u w (by lia) (by simp [A7]) (by simp [A7]) rp rq rx ry
end
end PU
set_option maxHeartbeats 1000000
namespace PU
open PySem PySem.Spec PyProof.Rows L2
instance:DecidableRel (fun(i j:Int)=>a7X i j):=fun i j=>by unfold a7X;infer_instance
instance (i j:Int):Decidable (a7X i j):=by unfold a7X;infer_instance
instance (i j:Int):Decidable (a8W i j):=by unfold a8W;infer_instance
instance (i j:Int):Decidable (b1S i j):=by unfold b1S;infer_instance
def g6.mine:g6->Option (List PV)
 | .ow (.lst ps)=>some ps
 | .bo (.lst ps)=>some ps
 |_=>none
theorem a9A{K:AD}{F H:Hp}{v:V}{r:g6}{ps:List PV}(h:O0 K F H v r)(e:r.mine=some ps):∃a xs,v= .ref a/\F a=none/\H a=some (.lst xs)/\p8 K F ps xs:=by
 cases r with
 |val _=>cases e
 |ow c=>cases c<;>cases e;exact h
 |bo c=>cases c<;>cases e;exact h
def p3(x y:g6):Option g6:=match x,y with
 | .val (.int i),.val (.int j)=>some (.val (.int (i+j)))
 | .val (.str i),.val (.str j)=>if i.length+j.length<=AO then some (.val (.str (i++j))) else none
 | .val (.tuple ps),.val (.tuple qs)=>if(ps.length≠0/\qs.length≠0)/\ps.length+qs.length<=AO then some (.val (.tuple (ps++qs))) else none
 |x,y=>match x.mine,y.mine with
  |some ps,some qs=>if ps.length+qs.length<=AO then some (.own (ps++qs)) else none
  |_,_=>none
section
variable {X:Cx}
theorem g7:OpM X (binaryOp .Add) p3:=by
 intro pins s σ H x y v u Q I rx ry h
 obtain⟨F,ra,rb,rz,s0,h1,h2,h3,k⟩:=h
 unfold p3 at h3
 split at h3
 ·cases h3
  cases h1;cases h2
  exact b7J pins s σ H _ _ v u Q I rx ry ⟨_,_,rfl,rfl,k _ F H (A4.here s0 rfl)⟩
 ·rename_i i j
  split at h3
  ·rename_i c
   cases h3
   cases h1;cases h2
   exact b0M pins s σ H _ _ v u Q I rx ry ⟨i,j,rfl,rfl,c,k _ F H (A4.here s0 rfl)⟩
  ·cases h3
 ·rename_i ps qs
  split at h3
  ·rename_i c
   cases h3
   obtain⟨a,xs,rfl,hq,r⟩:=h1
   obtain⟨b,ys,rfl,hq',r'⟩:=h2
   refine b5S pins s σ H _ _ v u Q I rx ry ⟨a,b,xs,ys,rfl,rfl,D9 s0 hq.sq,D9 s0 hq'.sq, ?_,by rw [r.length,r'.length];exact c.2, ?_⟩
   ·intro z
    subst z
    exact c.1.1 r.length.symm
   ·refine⟨fun z=> ?_,fun _ p hp=>k _ _ _ (A4.tup s0 hp (r.append r'))⟩
    subst z
    exact absurd r'.length.symm c.1.2
  ·cases h3
 ·split at h3
  ·rename_i ps qs e1 e2
   split at h3
   ·rename_i c
    cases h3
    obtain⟨a,xs,rfl,_,hq,r⟩:=a9A h1 e1
    obtain⟨b,ys,rfl,_,hq',r'⟩:=a9A h2 e2
    refine b7K pins s σ H _ _ v u Q I rx ry ⟨a,b,xs,ys,rfl,rfl,hq,hq',by rw [r.length,r'.length];exact c,fun p hp=> ?_⟩
    exact k _ _ _ (A4.lst s0 hp (r.append r'))
   ·cases h3
  ·cases h3
theorem b50:OpM X (binaryOp .Sub) (gI fun i j=> .int (i - j)):=b3W b7Q fun _ _ _=>rfl
theorem b5Y:OpM X (binaryOp .Mult) (gIc a7X fun i j=> .int (i*j)):=a8G b7N fun _ _ _=>rfl
theorem N8:OpM X (binaryOp .Mod) (gIc (fun _ j=>0<j) fun i j=> .int (i % j)):=a8G b7M fun _ _ _=>rfl
theorem b3X:OpM X (binaryOp .FloorDiv) (gIc a8W fun i j=> .int (i / j)):=a8G b5T fun _ _ _=>rfl
theorem b5Z:OpM X (binaryOp .Pow) (gIc b1S fun i j=> .int (i ^ j.toNat)):=a8G b7O fun _ _ _=>rfl
theorem b3Y:OpM X (compareOp .Gt) (gI fun i j=> .bool (decide (j<i))):=b3W b8T fun _ _ _=>rfl
def gEq(x y:g6):Option g6:=if A7 x.rd 50=true/\A7 y.rd 50=true then some (.val (.bool (PyData.eqv x.rd y.rd))) else none
def gNe(x y:g6):Option g6:=if A7 x.rd 50=true/\A7 y.rd 50=true then some (.val (.bool (!PyData.eqv x.rd y.rd))) else none
theorem C7(hu:X.A.units+64<cLine):OpM X (compareOp .Eq) gEq:=by
 intro pins s σ H x y v u Q I rx ry h
 obtain⟨F,ra,rb,rz,s0,h1,h2,h3,k⟩:=h
 unfold gEq at h3
 split at h3
 ·rename_i c
  cases h3
  have z:=b0j I 50 X.A _ _ x y v u (by lia) c.1 c.2 (h1.rd s0) (h2.rd s0) rx ry
  exact z.rc _ _ _ _ ⟨.bl _,H,I,rfl,k _ F H (A4.here s0 rfl)⟩
 ·cases h3
theorem a8I(hu:X.A.units+64<cLine):OpM X (compareOp .NotEq) gNe:=by
 intro pins s σ H x y v u Q I rx ry h
 obtain⟨F,ra,rb,rz,s0,h1,h2,h3,k⟩:=h
 unfold gNe at h3
 split at h3
 ·rename_i c
  cases h3
  have z:=b0j I 50 X.A _ _ x y v u (by lia) c.1 c.2 (h1.rd s0) (h2.rd s0) rx ry
  exact z.ne _ _ _ _ ⟨.bl _,H,I,rfl,k _ F H (A4.here s0 rfl)⟩
 ·cases h3
open Classical in
def a2R(K:AD)(H:Hp)(q:PV)(u:AA):Bool:=if h:∃p v,z4 v u/\M2 K H p v then PyData.eqv h.choose q else false
theorem b1g{pins:List (AB×Obj)}{σ:L2.St}{H:Hp}{s:AC}(I:n4 X pins σ H s){p q:PV}{v:V}{u:AA}(r:z4 v u)(h:M2 X.K H p v):a2R X.K H q u=PyData.eqv p q:=by
 have hx:∃p v,z4 v u/\M2 X.K H p v:=⟨p,v,r,h⟩
 unfold a2R
 rw [dif_pos hx]
 obtain⟨v',r',h'⟩:=hx.choose_spec
 cases r.inj r'
 rw [M2.inj I _ _ h' h]
theorem a1V{pins:List (AB×Obj)}{σ:L2.St}{H:Hp}{s:AC}(I:n4 X pins σ H s){q:PV}:∀{ps:List PV} {xs:List V} {us:List AA},p8 X.K H ps xs->u3 xs us->us.any (a2R X.K H q)=ps.any fun p=>PyData.eqv p q
 |[],_,_,r,v=>by cases r;cases v;rfl
 |p::ps,_,_,⟨x,r,e,h,t⟩,v=>by
  subst e
  cases v with
  |cons a b=>rw [List.any_cons,List.any_cons,b1g I a h,a1V I t b]
theorem b1F{H:Hp}:∀{ps:List PV} {xs:List V} {us:List AA} {u:AA},p8 X.K H ps xs->u3 xs us->u∈us->∃p x,p∈ps/\z4 x u/\M2 X.K H p x
 |[],_,_,_,r,v,h=>by cases r;cases v;cases h
 |p::ps,_,_,u,⟨x,r,e,hp,t⟩,v,h=>by
  subst e
  cases v with
  |cons a b=>
   rcases Ak.mp h with rfl|h
   ·exact⟨p,x,Ai,a,hp⟩
   ·obtain⟨p',x',h1,h2,h3⟩:=b1F t b h
    exact⟨p',x',Aj _ h1,h2,h3⟩
def PyData.items?:PV->Option (List PV)
 | .list ps=>some ps
 | .tuple ps=>some ps
 |_=>none
def gIn(neg:Bool)(x y:g6):Option g6:=match PyData.items? y.rd with
 |some ps=>if A7 x.rd 50=true/\Q5 ps 50=true then some (.val (.bool (if neg then !(ps.any fun p=>PyData.eqv p x.rd) else ps.any fun p=>PyData.eqv p x.rd))) else none
 |none=>none
theorem a3S{pins:List (AB×Obj)}{σ:L2.St}{H:Hp}{s:AC}(I:n4 X pins σ H s)(hu:X.A.units+64<cLine){q:PV}{ps:List PV}{x:V}{xs:List V}{v:AA}{us:List AA}(hq:A7 q 50=true)(hp:Q5 ps 50=true)
 (rq:M2 X.K H q x) (rx:z4 x v) (r:p8 X.K H ps xs) (rv:u3 xs us):∀y,y∈us.toArray->SeqAt.EqAt X.A.in1 s y v (a2R X.K H q y):=by
 intro y hy
 have hy':y∈us:=by simpa using hy
 obtain⟨p,z,h1,h2,h3⟩:=b1F r rv hy'
 rw [b1g I h2 h3]
 exact(b0j I 50 X.A.in1 p q z x y v (by rw [a7x];lia) (X3 hp h1) hq h3 rq h2 rx).eq
theorem P3{F H:Hp}{v:V}{r:g6}{ps:List PV}(s0:u4 F H)(h:O0 X.K F H v r)(e:PyData.items? r.rd=some ps):∃a xs,v= .ref a/\(SqL X.K H a xs\/SqT X.K H a xs)/\p8 X.K F ps xs:=by
 cases r with
 |val p=>
  cases p with
  |list qs=>cases e;obtain⟨a,xs,rfl,hq,r⟩:=h;exact⟨a,xs,rfl,.inl (R1 s0 hq),r⟩
  |tuple qs=>cases e;obtain⟨a,xs,rfl,hq,r⟩:=h;exact⟨a,xs,rfl,.inr (D9 s0 hq.sq),r⟩
  |_=>cases e
 |ow c=>cases c<;>cases e;obtain⟨a,xs,rfl,_,hq,r⟩:=h;exact⟨a,xs,rfl,.inl (SqL.of hq),r⟩
 |bo c=>cases c<;>cases e;obtain⟨a,xs,rfl,_,hq,r⟩:=h;exact⟨a,xs,rfl,.inl (SqL.of hq),r⟩
theorem b7R(hu:X.A.units+64<cLine):OpM X (compareOp .In) (gIn false):=by
 intro pins s σ H x y v u Q I rx ry h
 obtain⟨F,ra,rb,rz,s0,h1,h2,h3,k⟩:=h
 unfold gIn at h3
 split at h3
 ·rename_i ps e
  split at h3
  ·rename_i c
   cases h3
   obtain⟨a,xs,rfl,hq,r⟩:=P3 s0 h2 e
   cases ry
   have rH:=p8.mono s0 _ r
   rcases hq with hq|hq
   ·obtain⟨its,rv,pl,hz⟩:=I.list hq
    refine SeqAt.in_listAt (a2R X.K H ra.rd) pl.isList (a3S I hu c.1 c.2 (h1.rd s0) rx rH rv) ⟨.bl _,H,I,rfl, ?_⟩
    rw [show its.toArray.any (a2R X.K H ra.rd)=its.any (a2R X.K H ra.rd) by simp,a1V I rH rv]
    exact k _ F H (A4.here s0 rfl)
   ·obtain⟨its,rv,pl,hz⟩:=I.tuple hq
    refine SeqAt.in_tupleAt (a2R X.K H ra.rd) pl (a3S I hu c.1 c.2 (h1.rd s0) rx rH rv) ⟨.bl _,H,I,rfl, ?_⟩
    rw [show its.toArray.any (a2R X.K H ra.rd)=its.any (a2R X.K H ra.rd) by simp,a1V I rH rv]
    exact k _ F H (A4.here s0 rfl)
  ·cases h3
 ·cases h3
theorem b2A(hu:X.A.units+64<cLine):OpM X (compareOp .NotIn) (gIn true):=by
 intro pins s σ H x y v u Q I rx ry h
 obtain⟨F,ra,rb,rz,s0,h1,h2,h3,k⟩:=h
 unfold gIn at h3
 split at h3
 ·rename_i ps e
  split at h3
  ·rename_i c
   cases h3
   obtain⟨a,xs,rfl,hq,r⟩:=P3 s0 h2 e
   cases ry
   have rH:=p8.mono s0 _ r
   rcases hq with hq|hq
   ·obtain⟨its,rv,pl,hz⟩:=I.list hq
    refine SeqAt.notIn_listAt (a2R X.K H ra.rd) pl.isList (a3S I hu c.1 c.2 (h1.rd s0) rx rH rv) ⟨.bl _,H,I,rfl, ?_⟩
    rw [show its.toArray.any (a2R X.K H ra.rd)=its.any (a2R X.K H ra.rd) by simp,a1V I rH rv]
    exact k _ F H (A4.here s0 rfl)
   ·obtain⟨its,rv,pl,hz⟩:=I.tuple hq
    refine SeqAt.notIn_tupleAt (a2R X.K H ra.rd) pl (a3S I hu c.1 c.2 (h1.rd s0) rx rH rv) ⟨.bl _,H,I,rfl, ?_⟩
    rw [show its.toArray.any (a2R X.K H ra.rd)=its.any (a2R X.K H ra.rd) by simp,a1V I rH rv]
    exact k _ F H (A4.here s0 rfl)
  ·cases h3
 ·cases h3
def b3q(neg:Bool)(x y:g6):Option g6:=match y with
 | .val .none=>(match x.rd with
   | .none=>some (.val (.bool (!neg)))
   |_=>some (.val (.bool neg)))
 |_=>none
def PyData.isNone:PV->Bool
 | .none=>true
 |_=>false
theorem b1J{K:AD}{H:Hp}{p:PV}{v:V}(h:M2 K H p v):decide (v=V.non)=PyData.isNone p:=by
 cases p with
 |none=>cases h;rfl
 |bool _=>cases h;rfl
 |int _=>cases h;rfl
 |str _=>cases h;rfl
 |list _=>obtain⟨_,_,rfl,_⟩:=h;rfl
 |tuple _=>obtain⟨_,_,rfl,_⟩:=h;rfl
 |dict _=>
  rcases h with⟨_,_,rfl,_⟩|⟨_,_,rfl,_⟩|⟨_,_,_,h⟩|⟨_,_,_,h,_⟩
  ·rfl
  ·rfl
  ·obtain⟨_,rfl⟩:=h.ref;rfl
  ·obtain⟨_,rfl⟩:=h.ref;rfl
theorem b5X:OpM X (compareOp .Is) (b3q false):=
 a2J b7L fun F H x y rx ry rz s0 h1 h2 h3 Q k=>by
  unfold b3q at h3
  split at h3
  ·cases h2
   have e:=b1J (h1.rd s0)
   refine⟨rfl, ?_⟩
   rw [e]
   cases hp:rx.rd<;>rw [hp] at h3<;>cases h3<;>exact k _ F H (A4.here s0 rfl)
  ·cases h3
theorem b32:OpM X (compareOp .IsNot) (b3q true):=
 a2J b5U fun F H x y rx ry rz s0 h1 h2 h3 Q k=>by
  unfold b3q at h3
  split at h3
  ·cases h2
   have e:=b1J (h1.rd s0)
   refine⟨rfl, ?_⟩
   rw [e]
   cases hp:rx.rd<;>rw [hp] at h3<;>cases h3<;>exact k _ F H (A4.here s0 rfl)
  ·cases h3
def J4(x y:g6):Option g6:=match y with
 | .val (.int i)=>(match x.rd with
   | .str z=>if z.length<=AO then(atI z.cps.toList i).map fun c=> .val (.str ⟨#[c]⟩) else none
   |p=>match PyData.items? p with
    |some ps=>(atI ps i).map .val
    |none=>none)
 |_=>none
theorem p8.atI{K:AD}{H:Hp}{ps:List PV}{xs:List V}{i:Int}{p:PV}(r:p8 K H ps xs)(e:L2.atI ps i=some p):∃v,L2.atI xs i=some v/\M2 K H p v:=by
 unfold L2.atI at e ⊢
 rw [r.length]
 obtain⟨j,e1,e2⟩:=bind_some e
 rw [e1]
 exact r.get e2
theorem ixm:IxR X (rM2 X.K J4):=by
 intro value slice pins s σ H x y v u Q I rx ry h hs
 obtain⟨F,ra,rb,rz,s0,h1,h2,h3,k⟩:=h
 unfold J4 at h3
 split at h3
 ·rename_i i
  cases h2
  split at h3
  ·rename_i z ez
   split at h3
   ·rename_i c
    have rr:=h1.rd s0
    rw [ez] at rr
    cases rr
    cases ea:L2.atI z.cps.toList i with
    |none=>rw [ea] at h3;cases h3
    |some ch=>
     rw [ea] at h3;cases h3
     exact b7t value slice pins s σ H _ _ v u Q I rx ry ⟨z,i,ch,rfl,rfl,c,ea,k _ F H (A4.here s0 rfl)⟩ hs
   ·cases h3
  ·split at h3
   ·rename_i ps e
    cases ea:L2.atI ps i with
    |none=>rw [ea] at h3;cases h3
    |some p=>
     rw [ea] at h3;cases h3
     obtain⟨a,xs,rfl,hq,r⟩:=P3 s0 h1 e
     obtain⟨z,ez,rp⟩:=r.atI ea
     rcases hq with hq|hq
     ·exact b5s value slice pins s σ H _ _ v u Q I rx ry ⟨a,xs,i,z,rfl,rfl,hq,ez,k _ F H (A4.here s0 rp)⟩ hs
     ·exact b7u value slice pins s σ H _ _ v u Q I rx ry ⟨a,xs,i,z,rfl,rfl,hq,ez,k _ F H (A4.here s0 rp)⟩ hs
   ·cases h3
 ·cases h3
theorem B9{a b:AG}{ma mb:M}{pos:Pos}(ha:EE X a ma)(hb:EE X b mb)(hs:b09 b:=by intro _ _;rfl):EE X (.Subscript a b pos) (m2 J4 ma mb):=
 C2 (b8Y ixm ha hb hs) fun _ _ _ h=>a8T h
abbrev MA:=d4->Option (List PV)
def tMA(K:AD)(m:MA):TA:=fun σ H Q=>∃F ρ ps,K4 K F H σ ρ/\m ρ=some ps/\∀vs F' H',Ext F H F' H'->p8 K F' ps vs->Q vs H'
abbrev EA(X:Cx)(es:List AG)(m:MA):Prop:=PA X es (tMA X.K m)
def g5:MA:=fun _=>some []
def a8(m:M)(r:MA):MA:=fun ρ=>((m ρ).bind g6.toVal).bind fun p=>(r ρ).bind fun ps=>some (p::ps)
theorem j6:EA X [] g5:=b33 Z2 fun σ H Q ⟨F,ρ,ps,he,hm,k⟩=>by
 cases hm
 exact k [] F H (Ext.refl he.fh) rfl
theorem a9{e:AG}{es:List AG}{m:M}{r:MA}(ha:EE X e m)(hr:EA X es r)(hs:AN (e::es) X.env=(false,eval e X.env)::AN es X.env:=by rfl):EA X (e::es) (a8 m r):=
 b33 (J2 ha hr hs) fun σ H Q ⟨F,ρ,ps,he,hm,k⟩=>by
  obtain⟨p,e1,hm⟩:=bind_some hm
  obtain⟨r1,e1,e2⟩:=bind_some e1
  obtain⟨qs,e3,hm⟩:=bind_some hm
  cases hm
  refine⟨F,ρ,r1,he,e1,fun v F1 H1 o1=> ?_⟩
  obtain⟨F2,o2⟩:=o1.toVal e2
  exact⟨F2,ρ,qs,he.ext o2.x,e3,fun vs F3 H3 x3 rl=>k _ F3 H3 (o2.x.trans x3) ⟨v,vs,rfl,M2.mono x3.f _ o2.rep,rl⟩⟩
def S5(m:MA):M:=fun ρ=>(m ρ).bind fun ps=>if ps.length<=AO then some (.val (.tuple ps)) else none
def W7(m:MA):M:=fun ρ=>(m ρ).bind fun ps=>if ps.length<=AO then some (.own ps) else none
theorem M4{es:List AG}{m:MA}{x1:Nat}{pos:Pos}(h:EA X es m):EE X (.Tuple es x1 pos) (S5 m):=
 C2 (b7Y h) fun σ H Q ⟨F,ρ,r,he,hm,k⟩=>by
  obtain⟨ps,e1,hm⟩:=bind_some hm
  split at hm
  ·rename_i c
   cases hm
   exact⟨F,ρ,ps,he,e1,fun vs F1 H1 x rl=>⟨by rw [rl.length];exact c,fun p hp=>k _ _ _ (A4.trans x (A4.tup x.fh hp rl))⟩⟩
  ·cases hm
theorem L0{es:List AG}{m:MA}{pos:Pos}(h:EA X es m):EE X (.List es pos) (W7 m):=
 C2 (b7U h) fun σ H Q ⟨F,ρ,r,he,hm,k⟩=>by
  obtain⟨ps,e1,hm⟩:=bind_some hm
  split at hm
  ·rename_i c
   cases hm
   exact⟨F,ρ,ps,he,e1,fun vs F1 H1 x rl=>⟨by rw [rl.length];exact c,fun p hp=>k _ _ _ (A4.trans x (A4.lst x.fh hp rl))⟩⟩
  ·cases hm
def spP(K:AD)(n:Nat)(g:List PV->Option g6):Sp:=fun vs H Q _=>∃F ps r,u4 F H/\p8 K F ps vs/\ps.length=n/\g ps=some r/\∀v F' H',A4 K F H F' H' v r->Q v H'
def v6(g:List PV->Option g6)(m:MA):M:=fun ρ=>(m ρ).bind g
theorem b46{k n:Nat}{f:AB}{fd:FuncData}{ps:List Str}{g:List PV->Option g6}{x:Str}{p pos:Pos}{e:AG}{es:List AG}{m:MA}
 (G:M8 X.prog X.w X.K X.mg X.base CX0 k f fd ps (spP X.K n g)) (hr:D3 k X.A) (hg:Gl X x) (hm:X.mg x=some (.ref f)) (hk:PySem.W.keepIn X.K (.ref f)=true) (hb:U1 X.K fd ps []) (hn:∀ρ ps,m ρ=some ps->ps.length=n) (ha:EA X (e::es) m)
 (hdb:(x==("__debug__":Str))=false:=by decide) (he:AN (e::es) X.env=(false,eval e X.env)::AN es X.env:=by rfl) (hpl:(backTo pos (AN es X.env)).any (·.1)=false:=by rfl):
 EE X (.Call (.Name x p) (e::es) [] pos) (v6 g m):=
 C2 (b52 G hr hg hm hk hb .nil b1H ha hdb he hpl) fun σ H Q ⟨F,ρ,r,he,hm,k⟩=>by
  obtain⟨qs,e1,hm⟩:=bind_some hm
  refine⟨F,ρ,qs,he,e1,fun vs F1 H1 x rl=> ?_⟩
  show spP X.K n g (vs++[]) H1 Q E0
  rw [Ae]
  exact⟨F1,qs,r,x.fh,rl,hn _ _ e1,hm,fun v F2 H2 o=>k v F2 H2 (A4.trans x o)⟩
theorem b3c{k:Nat}{f:AB}{fd:FuncData}{ps:List Str}{g:List PV->Option g6}{x:Str}{p pos:Pos}
 (G:M8 X.prog X.w X.K X.mg X.base CX0 k f fd ps (spP X.K 0 g)) (hr:D3 k X.A) (hg:Gl X x) (hm:X.mg x=some (.ref f)) (hk:PySem.W.keepIn X.K (.ref f)=true) (hb:U1 X.K fd ps [])
 (hdb:(x==("__debug__":Str))=false:=by decide):
 EE X (.Call (.Name x p) [] [] pos) (fun _=>g []):=
 C2 (b36 G hr hg hm hk hb .nil b1H hdb) fun σ H Q ⟨F,ρ,r,he,hm,k⟩=>by
  exact⟨F,[],r,he.fh,rfl,rfl,hm,k⟩
theorem n8:∀ρ ps,g5 ρ=some ps->ps.length=0:=fun _ _ h=>by cases h;rfl
theorem c7{m:M}{r:MA}{n:Nat}(h:∀ρ ps,r ρ=some ps->ps.length=n):∀ρ ps,a8 m r ρ=some ps->ps.length=n+1:=fun ρ ps e=>by
 obtain⟨p,e1,e⟩:=bind_some e
 obtain⟨qs,e3,e⟩:=bind_some e
 cases e
 rw [AU,h ρ qs e3]
end
mutual
def O1(K:AD):Nat->AA->Option PV
 |0,_=>none
 |_+1,.none=>some .none
 |_+1,.bool b=>some (.bool b)
 |_+1,.int i _=>some (.int i)
 |_+1,.str x _=>some (.str x)
 |n+1,.ref a=>match K.lookup a with
  |some ⟨.type "tuple",_,.seq its _,_⟩=>if its.size<=1000 then(a3B K n its.toList).map .tuple else none
  |some ⟨.type "list",none,.seq its _,_⟩=>if its.size<=1000 then(a3B K n its.toList).map .list else none
  |_=>none
 |_+1,_=>none
def a3B(K:AD):Nat->List AA->Option (List PV)
 |0,_=>none
 |_+1,[]=>some []
 |n+1,u::us=>(O1 K n u).bind fun p=>(a3B K n us).bind fun ps=>some (p::ps)
end
theorem a6G{n:Nat}(h:n<=1000):n<=AO:=BB (b2M h)
theorem b20(K:AD):∀(n:Nat),(∀(u:AA) (p:PV),O1 K n u=some p->∃v,z4 v u/\∀H,M2 K H p v)/\(∀(us:List AA) (ps:List PV),a3B K n us=some ps->∃vs,u3 vs us/\∀H,p8 K H ps vs):=by
 intro n
 induction n with
 |zero=>exact⟨fun u p h=>by simp [O1] at h,fun u p h=>by simp [a3B] at h⟩
 |succ n ih=>
  constructor
  ·intro u p h
   cases u with
   |none=>simp only [O1] at h;cases h;exact⟨.non,rfl,fun _=>rfl⟩
   |bool b=>simp only [O1] at h;cases h;exact⟨.bl b,rfl,fun _=>rfl⟩
   |int i t=>simp only [O1] at h;cases h;exact⟨.int i,⟨t,rfl⟩,fun _=>rfl⟩
   |str x t=>simp only [O1] at h;cases h;exact⟨.str x,⟨t,rfl⟩,fun _=>rfl⟩
   |ref a=>
    simp only [O1] at h
    split at h
    ·rename_i d its m sl e
     split at h
     ·rename_i c
      cases q:a3B K n its.toList with
      |none=>rw [q] at h;cases h
      |some ps=>
       rw [q] at h;cases h
       obtain⟨vs,h1,h2⟩:=ih.2 _ _ q
       exact⟨.ref a,rfl,fun H=>⟨a,vs,rfl,.inr ⟨_,its,m,e,rfl,rfl,a6G c,h1⟩,h2 H⟩⟩
     ·cases h
    ·rename_i its m sl e
     split at h
     ·rename_i c
      cases q:a3B K n its.toList with
      |none=>rw [q] at h;cases h
      |some ps=>
       rw [q] at h;cases h
       obtain⟨vs,h1,h2⟩:=ih.2 _ _ q
       exact⟨.ref a,rfl,fun H=>⟨a,vs,rfl,.inr ⟨_,its,m,e,rfl,rfl,rfl,a6G c,h1⟩,h2 H⟩⟩
     ·cases h
    ·cases h
   |_=>simp [O1] at h
  ·intro us ps h
   cases us with
   |nil=>simp only [a3B] at h;cases h;exact⟨[],.nil,fun _=>rfl⟩
   |cons u us=>
    simp only [a3B] at h
    obtain⟨p,e1,h⟩:=bind_some h
    obtain⟨qs,e2,h⟩:=bind_some h
    cases h
    obtain⟨v,r1,r2⟩:=ih.1 _ _ e1
    obtain⟨vs,r3,r4⟩:=ih.2 _ _ e2
    exact⟨v::vs,.cons r1 r3,fun H=>⟨v,vs,rfl,r2 H,r4 H⟩⟩
section
variable {X:Cx}
theorem W4{x:Str}{u:AA}{p:PV}{pos:Pos}{n:Nat}(hg:Gl X x)(hm:X.mg x=some u)(ha:O1 X.K n u=some p)(hd:(x==("__debug__":Str))=false:=by decide):EE X (.Name x pos) (mC p):=by
 obtain⟨v,r,h⟩:=(b20 X.K n).1 u p ha
 exact a14 (b55 hg hm r hd) h
def b8P:PV->Option A1
 | .int i=>some (.inl i)
 | .str x=>some (.inr x)
 |_=>none
def b6z:List DictEntry->Option (List (A1×AA))
 |[]=>some []
 |e::es=>match e.key with
  | .int i _=>(b6z es).map fun r=>(.inl i,e.val)::r
  | .str x _=>(b6z es).map fun r=>(.inr x,e.val)::r
  |_=>none
def b4T{κ:Type}(K:AD)(n:Nat):List (κ×AA)->Option (List (κ×PV))
 |[]=>some []
 |(k,u)::r=>(O1 K n u).bind fun p=>(b4T K n r).bind fun t=>some ((k,p)::t)
def b8Q{κ:Type}[DecidableEq κ](tbl:List (κ×PV))(k:κ):Option PV:=match tbl with
 |[]=>none
 |(k',p)::r=>if k'=k then some p else b8Q r k
def b7z:List PV->Option (List A1)
 |[]=>some []
 |p::ps=>(b8P p).bind fun k=>(b7z ps).bind fun ks=>some (k::ks)
def a4q:List AA->Option (List A1)
 |[]=>some []
 | .int i _::r=>(a4q r).map fun t=> .inl i::t
 | .str x _::r=>(a4q r).map fun t=> .inr x::t
 |_::_=>none
end
def b8G(K:AD):List DictEntry->Option (List (List A1×AB×AA))
 |[]=>some []
 |e::es=>match e.key with
  | .ref b=>(match K.lookup b with
    |some ⟨.type "tuple",_,.seq its _,_⟩=>(a4q its.toList).bind fun ks=>(b8G K es).bind fun r=>some ((ks,b,e.val)::r)
    |_=>none)
  |_=>none
def b21(K:AD)(n:Nat):List (List A1×AB×AA)->Option (List (List A1×PV))
 |[]=>some []
 |(k,_,u)::r=>(O1 K n u).bind fun p=>(b21 K n r).bind fun t=>some ((k,p)::t)
section
variable {X:Cx}
abbrev MT:=d4->Option Bool
def tMT(K:AD)(c:MT):TT:=fun σ H Q=>∃F ρ b,K4 K F H σ ρ/\c ρ=some b/\∀F' H',Ext F H F' H'->Q b H'
abbrev ET(X:Cx)(e:AG)(c:MT):Prop:=PT X e (tMT X.K c)
abbrev EW(X:Cx)(e:AG)(c:MT):Prop:=PW X e (tMT X.K c)
def a8M:g6->Option Bool
 | .val (.bool b)=>some b
 |_=>none
def tru(r:g6):Option Bool:=match r.rd with
 | .none=>some false
 | .bool b=>some b
 | .int i=>some (i !=0)
 | .str z=>if z.length<=AO then some ((z.length:Int) !=0) else none
 | .list ps=>some (!ps.isEmpty)
 | .tuple ps=>some (!ps.isEmpty)
 | .dict _=>none
def mtV(m:M):MT:=fun ρ=>(m ρ).bind tru
def L3(m:M):MT:=fun ρ=>(m ρ).bind a8M
theorem p8.empty{K:AD}{H:Hp}{ps:List PV}{vs:List V}(r:p8 K H ps vs):vs.isEmpty=ps.isEmpty:=by
 cases ps with
 |nil=>cases r;rfl
 |cons p ps=>obtain⟨_,_,e,_⟩:=r;subst e;rfl
theorem b6p{H:Hp}{r:g6}{v:V}{b:Bool}(h:M2 X.K H r.rd v)(e:tru r=some b):b6T X.K v H b:=by
 unfold tru at e
 cases hp:r.rd with
 |none=>rw [hp] at h e;cases h;cases e;exact rfl
 |bool k=>rw [hp] at h e;cases h;cases e;exact rfl
 |int i=>rw [hp] at h e;cases h;cases e;exact rfl
 |str z=>
  rw [hp] at h e;cases h
  dsimp only at e
  split at e
  ·rename_i c;cases e;exact⟨c,rfl⟩
  ·cases e
 |list ps=>rw [hp] at h e;obtain⟨a,xs,rfl,hq,rl⟩:=h;cases e;exact .inl ⟨xs,hq,by rw [rl.empty]⟩
 |tuple ps=>rw [hp] at h e;obtain⟨a,xs,rfl,hq,rl⟩:=h;cases e;exact .inr (.inl ⟨xs,hq.sq,by rw [rl.empty]⟩)
 |dict _=>rw [hp] at e;cases e
theorem M5{e:AG}{m:M}(h:EE X e m)(he:∀whole,isTrue e X.env whole=(do let v<-whole;standAt e.pos;holding [v] (truthy v)):=by intro _;rfl):ET X e (mtV m):=
 a8K (b4m h he) fun σ H Q ⟨F,ρ,b,h1,h2,k⟩=>by
  obtain⟨r,e1,e2⟩:=bind_some h2
  exact⟨F,ρ,r,h1,e1,fun v F1 H1 o=>⟨b,b6p (o.rep.rd o.x.fh) e2,k F1 H1 o.x⟩⟩
theorem a34{K:AD}{F H:Hp}{r:g6}{v:V}{b:Bool}(h:O0 K F H v r)(e:a8M r=some b):v= .bl b:=by
 unfold a8M at e
 split at e
 ·cases e;exact h
 ·cases e
theorem v3{a b:AG}{ma mb:M}{pos:Pos}{op:CmpOp}{g:g6->g6->Option g6}(ho:OpM X (compareOp op) g)(ha:EE X a ma)(hb:EE X b mb)(hm:behindInMarks op b=false):ET X (.Compare a [op] [b] pos) (L3 (m2 g ma mb)):=
 a8K (b6b ho ha hb hm) fun σ H Q ⟨F,ρ,k,h1,h2,q⟩=>by
  obtain⟨r,e1,e2⟩:=bind_some h2
  exact a8T ⟨F,ρ,r,h1,e1,fun v F1 H1 o=>⟨k,a34 o.rep e2,q F1 H1 o.x⟩⟩
def P6(c:MT):MT:=fun ρ=>(c ρ).map not
theorem L1{a:AG}{c:MT}{pos:Pos}(ha:ET X a c):ET X (.UnaryOp .Not a pos) (P6 c):=
 a8K (b74 ha) fun σ H Q ⟨F,ρ,k,h1,h2,q⟩=>by
  unfold P6 at h2
  cases e:c ρ with
  |none=>rw [e] at h2;cases h2
  |some b=>rw [e] at h2;cases h2;exact⟨F,ρ,b,h1,e,q⟩
def a52(c d:MT):MT:=fun ρ=>(c ρ).bind fun b=>if b=true then d ρ else some false
def a0Z(c d:MT):MT:=fun ρ=>(c ρ).bind fun b=>if b=true then some true else d ρ
theorem b1i{a:AG}{c:MT}{pos:Pos}(ha:ET X a c):EW X (.BoolOp .And [a] pos) c:=b6c ha
theorem V3{a:AG}{c:MT}{pos:Pos}(ha:ET X a c):EW X (.BoolOp .Or [a] pos) c:=b76 ha
theorem b3h{a b:AG}{A3:List AG}{c d:MT}{pos:Pos}(ha:ET X a c)(hb:EW X (.BoolOp .And (b::A3) pos) d):EW X (.BoolOp .And (a::b::A3) pos) (a52 c d):=
 b4o (b75 ha hb) fun σ H Q ⟨F,ρ,k,h1,h2,q⟩=>by
  obtain⟨b,e1,e2⟩:=bind_some h2
  refine⟨F,ρ,b,h1,e1,fun F1 H1 x=> ?_⟩
  cases b with
  |true=>exact a9v ⟨F1,ρ,k,h1.ext x,e2,fun F2 H2 y=>q F2 H2 (x.trans y)⟩
  |false=>cases e2;exact a9u (q F1 H1 x)
theorem a0U{a b:AG}{A3:List AG}{c d:MT}{pos:Pos}(ha:ET X a c)(hb:EW X (.BoolOp .Or (b::A3) pos) d):EW X (.BoolOp .Or (a::b::A3) pos) (a0Z c d):=
 b4o (b82 ha hb) fun σ H Q ⟨F,ρ,k,h1,h2,q⟩=>by
  obtain⟨b,e1,e2⟩:=bind_some h2
  refine⟨F,ρ,b,h1,e1,fun F1 H1 x=> ?_⟩
  cases b with
  |false=>exact a9u ⟨F1,ρ,k,h1.ext x,e2,fun F2 H2 y=>q F2 H2 (x.trans y)⟩
  |true=>cases e2;exact a9v (q F1 H1 x)
def a9w(m n:M):M:=fun ρ=>(m ρ).bind fun r=>(a8M r).bind fun b=>if b=true then n ρ else some (.val (.bool false))
theorem a8i{op:BoolOp}{a:AG}{m:M}{pos:Pos}(h:EE X a m):EE X (.BoolOp op [a] pos) m:=b7W h
theorem a8g{a b:AG}{A3:List AG}{m n:M}{pos:Pos}(ha:EE X a m)(hb:EE X (.BoolOp .And (b::A3) pos) n):EE X (.BoolOp .And (a::b::A3) pos) (a9w m n):=
 C2 (b7S ha hb) fun σ H Q ⟨F,ρ,r,h1,h2,q⟩=>by
  obtain⟨r1,e1,h2⟩:=bind_some h2
  obtain⟨b,e2,h2⟩:=bind_some h2
  refine⟨F,ρ,r1,h1,e1,fun v F1 H1 o=>⟨b,a34 o.rep e2, ?_⟩⟩
  cases b with
  |true=>exact a9v ⟨F1,ρ,r,h1.ext o.x,h2,fun w F2 H2 y=>q w F2 H2 (A4.trans o.x y)⟩
  |false=>cases h2;exact a9u (q _ F1 H1 (A4.val o.x rfl))
def O4(g g':g6->g6->Option g6)(ma mb mc:M):M:=fun ρ=>(ma ρ).bind fun x=>(mb ρ).bind fun y=>(g x y).bind fun z=>(a8M z).bind fun b=>if b=true then(mc ρ).bind fun w=>g' y w else some (.val (.bool false))
theorem a89{ma mb mc:M}{g g':g6->g6->Option g6}{σ:L2.St}{H:Hp}{Q:VK}(h:tM X.K (O4 g g' ma mb mc) σ H Q):b01 (rM2 X.K g) (rM2 X.K g') (tM X.K ma) (tM X.K mb) (tM X.K mc) σ H Q:=by
 obtain⟨F,ρ,r,he,hm,k⟩:=h
 obtain⟨rx,e1,hm⟩:=bind_some hm
 obtain⟨ry,e2,hm⟩:=bind_some hm
 obtain⟨rz,e3,hm⟩:=bind_some hm
 obtain⟨b,e4,hm⟩:=bind_some hm
 refine⟨F,ρ,rx,he,e1,fun v F1 H1 o1=>⟨F1,ρ,ry,he.ext o1.x,e2,fun u F2 H2 o2=>⟨F2,rx,ry,rz,o2.x.fh,o1.rep.ext o2.x,o2.rep,e3,fun z F3 H3 o3=>⟨b,a34 o3.rep e4, ?_⟩⟩⟩⟩
 have x3:=(o1.x.trans o2.x).trans o3.x
 cases b with
 |true=>
  rw [if_pos rfl] at hm
  obtain⟨rw',e5,hm⟩:=bind_some hm
  exact a9v ⟨F3,ρ,rw',he.ext x3,e5,fun w F4 H4 o4=>⟨F4,ry,rw',r,o4.x.fh,(o2.rep.ext o3.x).ext o4.x,o4.rep,hm,fun z F5 H5 o5=>k z F5 H5 (A4.trans (x3.trans o4.x) o5)⟩⟩
 |false=>
  rw [if_neg Aq] at hm
  cases hm
  exact a9u (k _ F3 H3 (A4.val x3 rfl))
theorem a9d{a b c:AG}{ma mb mc:M}{pos:Pos}{op op':CmpOp}{g g':g6->g6->Option g6}(ho:OpM X (compareOp op) g)(ho':OpM X (compareOp op') g')(ha:EE X a ma)(hb:EE X b mb)(hc:EE X c mc)
 (hm:lastMarks [op,op'] [b,c]=false:=by with_unfolding_all rfl):EE X (.Compare a [op,op'] [b,c] pos) (O4 g g' ma mb mc):=
 C2 (b38 ho ho' ha hb hc hm) fun _ _ _ h=>a89 h
theorem a0T{a b c:AG}{ma mb mc:M}{pos:Pos}{op op':CmpOp}{g g':g6->g6->Option g6}(ho:OpM X (compareOp op) g)(ho':OpM X (compareOp op') g')(ha:EE X a ma)(hb:EE X b mb)(hc:EE X c mc)
 (hm:lastMarks [op,op'] [b,c]=false:=by with_unfolding_all rfl):ET X (.Compare a [op,op'] [b,c] pos) (L3 (O4 g g' ma mb mc)):=
 a8K (b4l ho ho' ha hb hc hm) fun σ H Q ⟨F,ρ,k,h1,h2,q⟩=>by
  obtain⟨r,e1,e2⟩:=bind_some h2
  exact a89 ⟨F,ρ,r,h1,e1,fun v F1 H1 o=>⟨k,a34 o.rep e2,q F1 H1 o.x⟩⟩
end
inductive Fl where
 |nx (ρ:d4)|rt (r:g6)|bk (ρ:d4)|ct (ρ:d4)
abbrev MS:=d4->Option Fl
structure SOk(K:AD)(F0 H0 F H:Hp)(σ:L2.St)(ρ:d4):Prop where
 x:Ext F0 H0 F H
 e:K4 K F H σ ρ
 nw:∀(i:Nat) (c:a1Q) (a:AB),ρ[i]?=some (some (.ow c))->σ[i]?=some (some (.ref a))->H0 a=none
def Fin(K:AD)(F0 H0 F:Hp)(D:W2):Fl->Prop
 | .nx ρ=>∀σ' F' H',u4 F F'->SOk K F0 H0 F' H' σ' ρ->D.nx σ' H'
 | .rt r=>∀v F' H',A4 K F0 H0 F' H' v r->D.rt v H'
 | .bk ρ=>∀σ' F' H',u4 F F'->SOk K F0 H0 F' H' σ' ρ->D.bk σ' H'
 | .ct ρ=>∀σ' F' H',u4 F F'->SOk K F0 H0 F' H' σ' ρ->D.ct σ' H'
theorem Fin.later{K:AD}{F0 H0 F F1:Hp}{D:W2}(s:u4 F F1):∀{fl:Fl},Fin K F0 H0 F D fl->Fin K F0 H0 F1 D fl
 | .nx _,h=>fun σ' F' H' s' so=>h σ' F' H' (s.trans s') so
 | .rt _,h=>h
 | .bk _,h=>fun σ' F' H' s' so=>h σ' F' H' (s.trans s') so
 | .ct _,h=>fun σ' F' H' s' so=>h σ' F' H' (s.trans s') so
def tMS(K:AD)(m:MS):TS:=fun D σ H=>∃F0 H0 F ρ fl,SOk K F0 H0 F H σ ρ/\m ρ=some fl/\Fin K F0 H0 F D fl
abbrev ES(X:Cx)(st:Stmt)(m:MS):Prop:=PS X st (tMS X.K m)
abbrev ESs(X:Cx)(st:List Stmt)(m:MS):Prop:=PSs X st (tMS X.K m)
theorem SOk.ext{K:AD}{F0 H0 F H F' H':Hp}{σ:L2.St}{ρ:d4}(s:SOk K F0 H0 F H σ ρ)(x:Ext F H F' H'):SOk K F0 H0 F' H' σ ρ:=⟨s.x.trans x,s.e.ext x,s.nw⟩
def g6.nb:g6->Bool
 | .bo _=>false
 |_=>true
theorem SOk.set{K:AD}{F0 H0 F H F' H':Hp}{σ:L2.St}{ρ:d4}{v:V}{r:g6}(s:SOk K F0 H0 F H σ ρ)(o:A4 K F H F' H' v r)(hb:r.nb=true)(i:Nat):SOk K F0 H0 F' H' (σ.set i (some v)) (ρ.set i (some r)):=by
 have s1:=s.ext o.x
 have le:=s.e.len
 refine⟨s1.x,⟨s1.e.fh,by simp [le],fun j q e=> ?_,fun j ps e=> ?_,fun j k ps qs a hjk e1 e2 e3 e4=> ?_⟩,fun j ps a e1 e2=> ?_⟩
 ·rw [List.getElem?_set] at e ⊢
  by_cases hij:i=j
  ·subst hij
   rw [if_pos rfl] at e ⊢
   rw [le]
   split at e
   ·rename_i c;cases e;rw [if_pos c];exact⟨v,rfl,o.rep⟩
   ·cases e
  ·rw [if_neg hij] at e ⊢
   exact s1.e.at_ j q e
 ·rw [List.getElem?_set] at e
  by_cases hij:i=j
  ·subst hij
   rw [if_pos rfl] at e
   split at e
   ·cases e;cases hb
   ·cases e
  ·rw [if_neg hij] at e
   exact s1.e.nb j ps e
 ·rw [List.getElem?_set] at e1 e2 e3 e4
  by_cases hij:i=j
  ·subst hij
   rw [if_pos rfl] at e1 e3
   rw [if_neg hjk] at e2 e4
   split at e1
   ·cases e1
    split at e3
    ·cases e3
     have fr:=o.fr ps a rfl rfl
     obtain⟨w,h1,rr⟩:=s.e.at_ k _ e2
     obtain⟨a',xs,h2,_,h3⟩:=a1S.at_ rr
     rw [e4] at h1;cases h1
     cases h2
     rw [fr] at h3;cases h3
    ·cases e3
   ·cases e1
  ·rw [if_neg hij] at e1 e3
   by_cases hik:i=k
   ·subst hik
    rw [if_pos rfl] at e2 e4
    split at e2
    ·cases e2
     split at e4
     ·cases e4
      have fr:=o.fr qs a rfl rfl
      obtain⟨w,h1,rr⟩:=s.e.at_ j _ e1
      obtain⟨a',xs,h2,_,h3⟩:=a1S.at_ rr
      rw [e3] at h1;cases h1
      cases h2
      rw [fr] at h3;cases h3
     ·cases e4
    ·cases e2
   ·rw [if_neg hik] at e2 e4
    exact s1.e.ap j k ps qs a hjk e1 e2 e3 e4
 ·rw [List.getElem?_set] at e1 e2
  by_cases hij:i=j
  ·subst hij
   rw [if_pos rfl] at e1 e2
   split at e1
   ·cases e1
    split at e2
    ·cases e2;exact s.x.h.free (o.fr ps a rfl rfl)
    ·cases e2
   ·cases e1
  ·rw [if_neg hij] at e1 e2
   exact s.nw j ps a e1 e2
section
variable {X:Cx}
def y9:MS:=fun ρ=>some (.nx ρ)
def t7(m n:MS):MS:=fun ρ=>(m ρ).bind fun fl=>match fl with
 | .nx ρ'=>n ρ'
 |f=>some f
theorem v5:ESs X [] y9:=a5n W9 fun D σ H ⟨F0,H0,F,ρ,fl,so,e,fin⟩=>by
 cases e
 exact fin σ F H (PU.u4.refl F) so
theorem i4{st:Stmt}{A3:List Stmt}{m n:MS}(h1:ES X st m)(h2:ESs X A3 n):ESs X (st::A3) (t7 m n):=
 a5n (C3 h1 h2) fun D σ H ⟨F0,H0,F,ρ,fl,so,e,fin⟩=>by
  obtain⟨f1,e1,e⟩:=bind_some e
  cases f1 with
  |nx ρ'=>exact⟨F0,H0,F,ρ,.nx ρ',so,e1,fun σ' F' H' s so'=>⟨F0,H0,F',ρ',fl,so',e,fin.later s⟩⟩
  |rt r=>cases e;exact⟨F0,H0,F,ρ,_,so,e1,fin⟩
  |bk r=>cases e;exact⟨F0,H0,F,ρ,_,so,e1,fin⟩
  |ct r=>cases e;exact⟨F0,H0,F,ρ,_,so,e1,fin⟩
theorem g8{st:Stmt}{m:MS}(h1:ES X st m):ESs X [st] m:=b1I h1
def B3(i:Nat)(m:M):MS:=fun ρ=>(m ρ).bind fun r=>if r.nb=true then some (.nx (ρ.set i (some r))) else none
theorem u6{i:Nat}{x:Str}{e:AG}{m:M}{pos pos':Pos}(hN:X.N.Nodup)(he:EE X e m)(hi:X.N[i]?=some x:=by rfl)(hx:Loc X.env.scope x:=by exact Or.inl rfl)(hs:swapsWith e (some (.Name x pos')) pos.line X.env=pure false:=by rfl)(hf:X.fn x=true\/X.env.scope.names.lookup x=some .local:=by first|exact .inl rfl|exact .inr rfl|assumption):
 ES X (.Assign [.Name x pos'] e pos) (B3 i m):=
 O5 (b4j hN hi hx he hs hf) fun D σ H ⟨F0,H0,F,ρ,fl,so,e,fin⟩=>by
  obtain⟨r,e1,e⟩:=bind_some e
  split at e
  ·rename_i c
   cases e
   exact⟨F,ρ,r,so.e,e1,fun v F' H' o=>fin _ F' H' o.x.f (so.set o c i)⟩
  ·cases e
def u5(m:M):MS:=fun ρ=>(m ρ).bind fun r=>if r.nb=true then some (.rt r) else none
theorem j9{e:AG}{m:M}{pos:Pos}(he:EE X e m):ES X (.Return (some e) pos) (u5 m):=
 O5 (b4i he) fun D σ H ⟨F0,H0,F,ρ,fl,so,e,fin⟩=>by
  obtain⟨r,e1,e⟩:=bind_some e
  split at e
  ·rename_i c
   cases e
   exact⟨F,ρ,r,so.e,e1,fun v F' H' o=>fin v F' H' (A4.trans so.x o)⟩
  ·cases e
def a24(i:Nat):MS:=fun ρ=>match ρ[i]? with
 |some (some r)=>some (.rt r)
 |_=>none
theorem a3L(i:Nat){x:Str}{p pos:Pos}(h:PE X (.Name x p) (b02 i)):ES X (.Return (some (.Name x p)) pos) (a24 i):=
 O5 (b4i h) fun D σ H ⟨F0,H0,F,ρ,fl,so,e,fin⟩=>by
  unfold a24 at e
  split at e
  ·rename_i r er
   cases e
   obtain⟨v,e1,rr⟩:=so.e.at_ i _ er
   exact⟨v,e1,fin v F H ⟨so.x,rr,fun ps a z1 z2=>by subst z1;subst z2;exact so.nw i ps a er e1⟩⟩
  ·cases e
def A8(c:MT)(m n:MS):MS:=fun ρ=>(c ρ).bind fun b=>if b=true then m ρ else n ρ
theorem y8{c:AG}{a b:List Stmt}{mc:MT}{m n:MS}{pos:Pos}(hc:ET X c mc)(ha:ESs X a m)(hb:ESs X b n):ES X (.If c a b pos) (A8 mc m n):=
 O5 (b6H hc ha hb) fun D σ H ⟨F0,H0,F,ρ,fl,so,e,fin⟩=>by
  obtain⟨b,e1,e⟩:=bind_some e
  refine⟨F,ρ,b,so.e,e1,fun F1 H1 x=> ?_⟩
  cases b with
  |true=>exact a9v ⟨F0,H0,F1,ρ,fl,so.ext x,e,fin.later x.f⟩
  |false=>exact a9u ⟨F0,H0,F1,ρ,fl,so.ext x,e,fin.later x.f⟩
def setAll{α:Type}:List (Option α)->List Nat->List α->List (Option α)
 |σ,i::is,x::xs=>setAll (σ.set i (some x)) is xs
 |σ,_,_=>σ
theorem SOk.setAll{K:AD}{F0 H0 F H:Hp}:∀{is:List Nat} {xs:List V} {ps:List PV} {σ:L2.St} {ρ:d4},SOk K F0 H0 F H σ ρ->p8 K F ps xs->SOk K F0 H0 F H (PU.setAll σ is xs) (PU.setAll ρ is (ps.map .val))
 |[],xs,ps,σ,ρ,s,r=>by
  have e1:PU.setAll σ [] xs=σ:=by cases xs<;>rfl
  have e2:PU.setAll ρ [] (ps.map g6.val)=ρ:=by cases ps<;>rfl
  rw [e1,e2];exact s
 |i::is,xs,[],σ,ρ,s,r=>by cases r;exact s
 |i::is,xs,p::ps,σ,ρ,s,⟨v,t,e,rp,rl⟩=>by
  subst e
  exact SOk.setAll (is:=is) (s.set (A4.here s.e.fh rp) rfl i) rl
def a42(body:MS)(tg:PV->d4->Option d4):List PV->d4->Option Fl
 |[],ρ=>some (.nx ρ)
 |p::ps,ρ=>(tg p ρ).bind fun ρ1=>(body ρ1).bind fun fl=>match fl with
  | .nx ρ'=>a42 body tg ps ρ'
  | .ct ρ'=>a42 body tg ps ρ'
  | .bk ρ'=>some (.nx ρ')
  | .rt r=>some (.rt r)
def B8(i:Nat):PV->d4->Option d4:=fun p ρ=>some (ρ.set i (some (.val p)))
def b4S(K:AD)(g:TG)(tg:PV->d4->Option d4):Prop:=
 ∀F0 H0 F H σ ρ ρ1 p x (Q:L2.St->Hp->Prop),SOk K F0 H0 F H σ ρ->M2 K F p x->tg p ρ=some ρ1->(∀σ',SOk K F0 H0 F H σ' ρ1->Q σ' H)->g x σ H Q
theorem a2N{K:AD}(i:Nat):b4S K (b1r i) (B8 i):=fun F0 H0 F H σ ρ ρ1 p x Q so r e k=>by
 cases e
 exact k _ (so.set (A4.here so.e.fh r) rfl i)
theorem b17{body:MS}{tg:PV->d4->Option d4}{ps:List PV}{p:PV}{ρ:d4}{fl:Fl}(h:a42 body tg (p::ps) ρ=some fl):∃ρ1 f1,tg p ρ=some ρ1/\body ρ1=some f1/\(match f1 with
 | .nx ρ'=>a42 body tg ps ρ'
 | .ct ρ'=>a42 body tg ps ρ'
 | .bk ρ'=>some (.nx ρ')
 | .rt r=>some (.rt r))=some fl:=by
 unfold a42 at h
 obtain⟨ρ1,e1,h⟩:=bind_some h
 obtain⟨f1,e2,h⟩:=bind_some h
 exact⟨ρ1,f1,e1,e2,h⟩
def PvL(K:AD)(F0 H0 F1:Hp)(body:MS)(tg:PV->d4->Option d4)(ps:List PV)(fl:Fl)(k:Nat)(σ:L2.St)(H:Hp):Prop:=
 ∃F ρ,u4 F1 F/\SOk K F0 H0 F H σ ρ/\a42 body tg (ps.drop k) ρ=some fl
theorem a4u{K:AD}{F0 H0 F1:Hp}{body:MS}{tg:PV->d4->Option d4}{g:TG}{ps:List PV}{fl:Fl}{D:W2}{k:Nat}{p:PV}{x:V}{σ:L2.St}{H:Hp}(T:b4S K g tg)(fin:Fin K F0 H0 F1 D fl)(ep:ps[k]?=some p)
 (hp:PvL K F0 H0 F1 body tg ps fl k σ H) (rx:∀F,u4 F1 F->M2 K F p x):
 g x σ H fun σ2 H2=>tMS K body {D with nx:=PvL K F0 H0 F1 body tg ps fl (k+1),ct:=PvL K F0 H0 F1 body tg ps fl (k+1),bk:=D.nx} σ2 H2:=by
 obtain⟨F,ρ,s,so,e⟩:=hp
 have hk:k<ps.length:=(Aw.mp ep).1
 have hd:ps.drop k=p::ps.drop (k+1):=by
  rw [List.drop_eq_getElem_cons hk]
  congr 1
  exact(Aw.mp ep).2
 rw [hd] at e
 obtain⟨ρ1,f1,e1,e2,e3⟩:=b17 e
 refine T F0 H0 F H σ ρ ρ1 p x _ so (rx F s) e1 fun σ' so'=>⟨F0,H0,F,ρ1,f1,so',e2, ?_⟩
 cases f1 with
 |nx ρ'=>exact fun σ2 F2 H2 s2 so2=>⟨F2,ρ',s.trans s2,so2,e3⟩
 |ct ρ'=>exact fun σ2 F2 H2 s2 so2=>⟨F2,ρ',s.trans s2,so2,e3⟩
 |bk ρ'=>cases e3;exact fun σ2 F2 H2 s2 so2=>fin σ2 F2 H2 (s.trans s2) so2
 |rt r=>cases e3;exact fin
theorem a5X{K:AD}{F0 H0 F1:Hp}{body:MS}{tg:PV->d4->Option d4}{ps:List PV}{fl:Fl}{D:W2}{σ:L2.St}{H:Hp}(fin:Fin K F0 H0 F1 D fl)
 (hp:PvL K F0 H0 F1 body tg ps fl ps.length σ H):D.nx σ H:=by
 obtain⟨F,ρ,s,so,e⟩:=hp
 rw [List.drop_length] at e
 cases e
 exact fin σ F H s so
abbrev MI:=d4->Option (List PV)
def b0y(m:M):MI:=fun ρ=>((m ρ).bind g6.toVal).bind PyData.items?
def b9t(K:AD)(tl:TE):TI:=fun σ H R=>tl σ H fun x H1=>∃a,x= .ref a/\(((∃xs,SqL K H1 a xs)/\R (Itl K a) H1)\/((∃xs,SqT K H1 a xs)/\R (Itt K a) H1))
theorem b4c{tg l:AG}{tl:TE}(hl:PE X l tl):PI X tg l (b9t X.K tl):=by
 intro pins s σ H R I h
 refine M3 (hl pins s σ H _ I h) fun v s1 ⟨x,H1,I1,r1,q1⟩=> ?_
 obtain⟨a,e,q⟩:=q1
 subst e
 cases r1
 rcases q with⟨⟨xs,hq⟩,q⟩|⟨⟨xs,hq⟩,q⟩
 ·obtain⟨its,rv,p,hz⟩:=I1.list hq
  refine wpAny_pyIter_list p.isList ?_
  refine⟨s1.heap.objs.size,[s1.heap.objs.size],_,_,H1,rfl,I1.kept (t':=s1.toks) fun b o e=>Ah _ e,b2P a _,⟨_,Ar _ rfl,rfl,rfl⟩,fun b hb=> ?_,q⟩
  have e:b=s1.heap.objs.size:=by simpa using hb
  subst e
  exact I1.fpOk (AV _) (I1.hok.fresh (AV _))
 ·obtain⟨its,rv,p,hz⟩:=I1.tuple hq
  refine wpAny_pyIter_tuple (show s1.heap.IsTuple a its.toArray from p) ?_
  refine⟨s1.heap.objs.size,[s1.heap.objs.size],_,_,H1,rfl,I1.kept (t':=s1.toks) fun b o e=>Ah _ e,b05 a _,⟨_,Ar _ rfl,rfl,rfl⟩,fun b hb=> ?_,q⟩
  have e:b=s1.heap.objs.size:=by simpa using hb
  subst e
  exact I1.fpOk (AV _) (I1.hok.fresh (AV _))
def a9y(it:MI)(tg:PV->d4->Option d4)(body:MS):MS:=fun ρ=>(it ρ).bind fun ps=>a42 body tg ps ρ
theorem b69{tg iter:AG}{body:List Stmt}{m:M}{g:TG}{t:PV->d4->Option d4}{b:MS}{pos:Pos}(hp:PassesOwn (model X.prog X.w) X.A X.env X.xe)(hc:X.calm=true)(hi:EE X iter m)(hg:PG X tg g)(T:b4S X.K g t)(hb:ESs X body b)
 (hs:∀x,foldedSetIterable iter X.env x=pure x:=by intro _;rfl):ES X (.For tg iter body [] pos) (a9y (b0y m) t b):=
 O5 (b4g hp hc (b4c hi) hg hb hs) fun D σ H ⟨F0,H0,F,ρ,fl,so,e,fin⟩=>by
  obtain⟨ps,e1,e⟩:=bind_some e
  obtain⟨q,e1,e2⟩:=bind_some e1
  obtain⟨r,e1,e3⟩:=bind_some e1
  refine⟨F,ρ,r,so.e,e1,fun v F' H' o=> ?_⟩
  obtain⟨F1,o1⟩:=o.toVal e3
  have fin1:=fin.later o1.x.f
  have so1:=so.ext o1.x
  obtain⟨a,xs,rfl,hq,rl⟩:=P3 (F:=F1) (H:=F1) (PU.u4.refl F1) (show O0 X.K F1 F1 v (.val q) from o1.rep) e2
  have hlen:=rl.length
  have get:∀k x,xs[k]?=some x->∃p,ps[k]?=some p/\∀F,u4 F1 F->M2 X.K F p x:=fun k x ex=>by
   obtain⟨p,ep,rp⟩:=rl.getV ex
   exact⟨p,ep,fun F s=>M2.mono s _ rp⟩
  rcases hq with hq|hq
  ·refine⟨a,rfl,.inl ⟨⟨xs,R1 o1.x.fh hq⟩,b3m (K:=X.K) (a:=a) (xs:=xs) (PvL X.K F0 H0 F1 b t ps fl) ⟨F1,ρ,PU.u4.refl F1,so1,e⟩ (fun k σ H _ ⟨F,_,s,so2,_⟩=>R1 (s.trans so2.e.fh) hq) (fun k x σ H ex hp=> ?_) (fun σ H hp=> ?_)⟩⟩
   ·obtain⟨p,ep,rp⟩:=get k x ex
    exact a4u T fin1 ep hp rp
   ·rw [hlen] at hp
    exact a5X fin1 hp
  ·refine⟨a,rfl,.inr ⟨⟨xs,D9 o1.x.fh hq⟩,b5h (K:=X.K) (a:=a) (xs:=xs) (PvL X.K F0 H0 F1 b t ps fl) ⟨F1,ρ,PU.u4.refl F1,so1,e⟩ (fun k σ H _ ⟨F,_,s,so2,_⟩=>D9 (s.trans so2.e.fh) hq) (fun k x σ H ex hp=> ?_) (fun σ H hp=> ?_)⟩⟩
   ·obtain⟨p,ep,rp⟩:=get k x ex
    exact a4u T fin1 ep hp rp
   ·rw [hlen] at hp
    exact a5X fin1 hp
def a5b(lo hi:Int):List PV:=(Al (hi - lo).toNat).map fun k=> .int (lo+(k:Nat))
theorem b3z:∃f:Int->Bool,∀j,f j=decide (-(2 ^ 62)<=j/\j<2 ^ 62):=⟨_,fun _=>rfl⟩
def inR:Int->Bool:=b3z.choose
theorem b7o(j:Int):inR j=decide (-(2 ^ 62)<=j/\j<2 ^ 62):=b3z.choose_spec j
theorem b1v{j:Int}:inR j=true↔(-(2 ^ 62)<=j/\j<2 ^ 62):=by rw [b7o,decide_eq_true_iff]
def a4S(m:MA):MI:=fun ρ=>(m ρ).bind fun ps=>match ps with
 |[.int j]=>if inR j=true then some (a5b 0 j) else none
 |_=>none
theorem b4s{lo hi:Int}{k:Nat}(h:k<(hi - lo).toNat):(a5b lo hi)[k]?=some (.int (lo+k)):=by
 simp [a5b,h]
theorem b4t(lo hi:Int):(a5b lo hi).length=(hi - lo).toNat:=by simp [a5b]
theorem a5G{tg a:AG}{body:List Stmt}{m:MA}{g:TG}{t:PV->d4->Option d4}{b:MS}{p rp pos:Pos}(hp:PassesOwn (model X.prog X.w) X.A X.env X.xe)(hc:X.calm=true)(hgl:Gl X "range")(hm:X.mg "range"=none)(ha:EA X [a] m)(hg:PG X tg g)(T:b4S X.K g t)(hb:ESs X body b)
 (hst:AN [a] X.env=[(false,eval a X.env)]:=by rfl) (hs:∀x,foldedSetIterable (.Call (.Name "range" p) [a] [] rp) X.env x=pure x:=by intro _;rfl):ES X (.For tg (.Call (.Name "range" p) [a] [] rp) body [] pos) (a9y (a4S m) t b):=
 O5 (b4g hp hc (b2C hgl hm ha hst) hg hb hs) fun D σ H ⟨F0,H0,F,ρ,fl,so,e,fin⟩=>by
  obtain⟨ps,e1,e⟩:=bind_some e
  obtain⟨qs,e1,e2⟩:=bind_some e1
  refine⟨F,ρ,qs,so.e,e1,fun vs F1 H1 x rl=> ?_⟩
  split at e2
  ·rename_i j
   split at e2
   ·rename_i c
    have c:=b1v.mp c
    cases e2
    obtain⟨v,r,rfl,rv,rr⟩:=rl
    cases rv
    cases rr
    have fin1:=fin.later x.f
    have hz:(j - 0).toNat=j.toNat:=by lia
    refine⟨j,rfl,c.1,c.2,b18 (lo:=0) (n:=j.toNat) (PvL X.K F0 H0 F1 b t (a5b 0 j) fl) ⟨F1,ρ,PU.u4.refl F1,so.ext x,e⟩ (fun k σ H hk hp=> ?_) (fun σ H hp=> ?_)⟩
    ·exact a4u T fin1 (b4s (by lia)) hp fun _ _=>rfl
    ·have:j.toNat=(a5b 0 j).length:=by rw [b4t,hz]
     rw [this] at hp
     exact a5X fin1 hp
   ·cases e2
  ·cases e2
def O6(c:MT)(body:MS):Nat->d4->Option Fl
 |0,_=>none
 |n+1,ρ=>(c ρ).bind fun b=>if b=true then(body ρ).bind fun fl=>match fl with
  | .nx ρ'=>O6 c body n ρ'
  | .ct ρ'=>O6 c body n ρ'
  | .bk ρ'=>some (.nx ρ')
  | .rt r=>some (.rt r) else some (.nx ρ)
theorem a9f(n:Nat){c:AG}{body:List Stmt}{mc:MT}{b:MS}{pos:Pos}(hp:PassesOwn (model X.prog X.w) X.A X.env X.xe)(hc:ET X c mc)(hb:ESs X body b):ES X (.While c body [] pos) (O6 mc b n):=
 O5 (b4k hp hc hb) fun D σ H ⟨F0,H0,F,ρ,fl,so,e,fin⟩=>by
  refine⟨fun k σ H=>∃F1 ρ,u4 F F1/\SOk X.K F0 H0 F1 H σ ρ/\O6 mc b k ρ=some fl,⟨n,F,ρ,PU.u4.refl F,so,e⟩, ?_⟩
  rintro k σ H ⟨F1,ρ,s,so,e⟩
  cases k with
  |zero=>cases e
  |succ k=>
   unfold O6 at e
   obtain⟨d,e1,e⟩:=bind_some e
   refine⟨F1,ρ,d,so.e,e1,fun F2 H2 x=> ?_⟩
   have s2:=s.trans x.f
   cases d with
   |true=>
    rw [if_pos rfl] at e
    obtain⟨f1,e2,e⟩:=bind_some e
    refine a9v ⟨fun σ' H'=>∃F1 ρ,u4 F F1/\SOk X.K F0 H0 F1 H' σ' ρ/\O6 mc b k ρ=some fl,fun σ' H' h=>⟨k,Nat.lt_succ_self k,h⟩,⟨F0,H0,F2,ρ,f1,so.ext x,e2, ?_⟩⟩
    cases f1 with
    |nx ρ'=>exact fun σ3 F3 H3 s3 so3=>⟨F3,ρ',s2.trans s3,so3,e⟩
    |ct ρ'=>exact fun σ3 F3 H3 s3 so3=>⟨F3,ρ',s2.trans s3,so3,e⟩
    |bk ρ'=>cases e;exact fun σ3 F3 H3 s3 so3=>fin σ3 F3 H3 (s2.trans s3) so3
    |rt r=>cases e;exact fin
   |false=>
    rw [if_neg Aq] at e
    cases e
    exact a9u (fin σ F2 H2 s2 (so.ext x))
def p7(n:Nat)(body:MS)(ps:List PV):Option g6:=(body (ps.map (fun p=>some (g6.val p))++AR n none)).bind fun fl=>match fl with
 | .rt r=>some r
 | .nx _=>some (.val .none)
 |_=>none
end
theorem a9Y{K:AD}{F H:Hp}{ps:List PV}{vs:List V}(n:Nat)(s:u4 F H)(r:p8 K F ps vs):SOk K F H F H (vs.map some++AR n none) (ps.map (fun p=>some (g6.val p))++AR n none):=by
 have hl:=r.length
 have key:∀(i:Nat) (q:g6),(ps.map (fun p=>some (g6.val p))++AR n none)[i]?=some (some q)->∃p v,q= .val p/\(vs.map some++AR n none)[i]?=some (some v)/\M2 K F p v:=by
  intro i q e
  by_cases h:i<ps.length
  ·rw [Az (by simpa using h),Ax] at e
   rw [Az (by rw [An,hl];exact h),Ax]
   cases q':ps[i]? with
   |none=>rw [q'] at e;cases e
   |some p=>
    rw [q'] at e
    cases e
    obtain⟨v,h1,h2⟩:=r.get q'
    exact⟨p,v,rfl,by rw [h1];rfl,h2⟩
  ·rw [List.getElem?_append_right (by simpa using h),List.getElem?_replicate] at e
   split at e<;>cases e
 refine⟨Ext.refl s,⟨s,by simp [hl],fun i q e=> ?_,fun i qs e=> ?_,fun i j qs _ a _ e=> ?_⟩,fun i qs a e=> ?_⟩
 ·obtain⟨p,v,rfl,h1,h2⟩:=key i q e;exact⟨v,h1,h2⟩
 ·obtain⟨p,v,z,_⟩:=key i _ e;cases z
 ·obtain⟨p,v,z,_⟩:=key i _ e;cases z
 ·obtain⟨p,v,z,_⟩:=key i _ e;cases z
theorem b3l{P:AL}{w:AJ}{K:AD}{mg:Str->Option AA}{base:Heap}{x qual:Str}{st:Stmt}{f:AB}{fd:FuncData}{N ps:List Str}{k:Nat}{m:MS}(F:Fun K x qual st f fd)(S:j8 N ps (d6 st))
 (hb:∀(cdv:AA) (A:AK) (outer:List Env) (s:AC) (H:Hp) (E:XK),D3 k (A.deeper (envOfC qual (d6 st) s.heap.objs.size f cdv))->ESs (a1N CX0 P w K mg base N qual (d6 st) f cdv A outer s H E).nox (B7 st) m):
 M8 P w K mg base CX0 (k+1) f fd ps (spP K ps.length (p7 (N.length - ps.length) m)):=by
 refine F.ok S (fun vs H Q E h=> ?_) (fun cdv A outer s H vs Q E hr h=> ?_)
 ·obtain⟨_,qs,_,_,r,h2,_⟩:=h
  rw [r.length,h2]
 ·obtain⟨F1,qs,r,s1,rl,hl,e,k⟩:=h
  refine⟨_,hb cdv A outer s H E hr, ?_⟩
  unfold p7 at e
  obtain⟨fl,e1,e2⟩:=bind_some e
  have hv:vs.length=ps.length:=by rw [rl.length,hl]
  refine⟨F1,H,F1,_,fl, ?_,e1, ?_⟩
  ·have:=a9Y (N.length - ps.length) s1 rl
   unfold L2.a1M
   rw [hv]
   exact this
  ·cases fl with
   |rt q=>cases e2;exact fun v F' H' o=>k v F' H' o
   |nx ρ=>cases e2;exact fun σ' F' H' _ so=>k .non F' H' (A4.val so.x rfl)
   |bk ρ=>cases e2
   |ct ρ=>cases e2
section
variable {X:Cx}
def rC1(K:AD)(g:g6->Option g6):List V->Hp->VK->Prop:=fun xs H Q=>∃F x rx rz,xs=[x]/\u4 F H/\O0 K F H x rx/\g rx=some rz/\∀v F' H',A4 K F H F' H' v rz->Q v H'
def rC2(K:AD)(g:g6->g6->Option g6):List V->Hp->VK->Prop:=fun xs H Q=>∃F x y rx ry rz,xs=[x,y]/\u4 F H/\O0 K F H x rx/\O0 K F H y ry/\g rx ry=some rz/\∀v F' H',A4 K F H F' H' v rz->Q v H'
def m1(g:g6->Option g6)(m:M):M:=fun ρ=>(m ρ).bind g
theorem b3V{m:M}{g:g6->Option g6}{σ:L2.St}{H:Hp}{Q:VK}(h:tM X.K (m1 g m) σ H Q):tCB (rC1 X.K g) (a9Z (tM X.K m) b4H) σ H Q:=by
 obtain⟨F,ρ,r,he,hm,k⟩:=h
 obtain⟨rx,e1,hm⟩:=bind_some hm
 exact⟨F,ρ,rx,he,e1,fun v F1 H1 o1=>⟨F1,v,rx,r,rfl,o1.x.fh,o1.rep,hm,fun z F2 H2 o2=>k z F2 H2 (A4.trans o1.x o2)⟩⟩
theorem b6t{m n:M}{g:g6->g6->Option g6}{σ:L2.St}{H:Hp}{Q:VK}(h:tM X.K (m2 g m n) σ H Q):tCB (rC2 X.K g) (a9Z (tM X.K m) (a9Z (tM X.K n) b4H)) σ H Q:=by
 obtain⟨F,ρ,r,he,hm,k⟩:=h
 obtain⟨rx,e1,hm⟩:=bind_some hm
 obtain⟨ry,e2,hm⟩:=bind_some hm
 exact⟨F,ρ,rx,he,e1,fun v F1 H1 o1=>⟨F1,ρ,ry,he.ext o1.x,e2,fun u F2 H2 o2=>⟨F2,v,u,rx,ry,r,rfl,o2.x.fh,o1.rep.ext o2.x,o2.rep,hm,fun z F3 H3 o3=>k z F3 H3 (A4.trans (o1.x.trans o2.x) o3)⟩⟩⟩
theorem S0{id:String}{x:Str}{p pos:Pos}{e:AG}{g:g6->Option g6}{m:M}(hc:O7 X (.builtin id) (rC1 X.K g))(hg:Gl X x)(hm:X.mg x=none)(hv:bootBuiltins x=some (.builtin id))(ha:EE X e m)(hn:x≠"__name__":=by decide)(hdb:(x==("__debug__":Str))=false:=by decide)
 (he:AN [e] X.env=(false,eval e X.env)::AN [] X.env:=by rfl) (hpl:(backTo pos (AN [] X.env)).any (·.1)=false:=by rfl):EE X (.Call (.Name x p) [e] [] pos) (m1 g m):=
 C2 (a6t hc hg hm hv (J2 ha Z2 he) hn hdb he hpl) fun _ _ _ h=>b3V h
theorem b8F{id:String}{x:Str}{p pos:Pos}{e e2:AG}{g:g6->g6->Option g6}{m n:M}(hc:O7 X (.builtin id) (rC2 X.K g))(hg:Gl X x)(hm:X.mg x=none)(hv:bootBuiltins x=some (.builtin id))(ha:EE X e m)(hb:EE X e2 n)(hn:x≠"__name__":=by decide)(hdb:(x==("__debug__":Str))=false:=by decide)
 (he:AN [e,e2] X.env=(false,eval e X.env)::AN [e2] X.env:=by rfl) (he2:AN [e2] X.env=(false,eval e2 X.env)::AN [] X.env:=by rfl) (hpl:(backTo pos (AN [e2] X.env)).any (·.1)=false:=by rfl):EE X (.Call (.Name x p) [e,e2] [] pos) (m2 g m n):=
 C2 (a6t hc hg hm hv (J2 ha (J2 hb Z2 he2) he) hn hdb he hpl) fun _ _ _ h=>b6t h
theorem a7r{T:String}{x:Str}{p pos:Pos}{e:AG}{g:g6->Option g6}{m:M}(hc:O7 X (.type T) (rC1 X.K g))(hg:Gl X x)(hm:X.mg x=none)(hv:bootBuiltins x=some (.type T))(ha:EE X e m)(hn:x≠"__name__":=by decide)(hdb:(x==("__debug__":Str))=false:=by decide)
 (he:AN [e] X.env=(false,eval e X.env)::AN [] X.env:=by rfl) (hpl:(backTo pos (AN [] X.env)).any (·.1)=false:=by rfl):EE X (.Call (.Name x p) [e] [] pos) (m1 g m):=
 C2 (b2B hc hg hm hv (J2 ha Z2 he) hn hdb he hpl) fun _ _ _ h=>b3V h
def L6(x:g6):Option g6:=match x.rd with
 | .str z=>if z.length<=AO then some (.val (.int z.length)) else none
 |p=>match PyData.items? p with
  |some ps=>some (.val (.int ps.length))
  |none=>none
theorem O3:O7 X (.builtin "len") (rC1 X.K L6):=by
 intro pins s σ H xs us Q I rv h
 obtain⟨F,x,rx,rz,rfl,s0,h1,h2,k⟩:=h
 unfold L6 at h2
 split at h2
 ·rename_i z ez
  split at h2
  ·rename_i c
   cases h2
   have rr:=h1.rd s0
   rw [ez] at rr
   cases rr
   exact a8d pins s σ H _ us Q I rv ⟨z,rfl,c,k _ F H (A4.here s0 rfl)⟩
  ·cases h2
 ·split at h2
  ·rename_i ps e
   cases h2
   obtain⟨a,xs,rfl,hq,r⟩:=P3 s0 h1 e
   refine a8c pins s σ H _ us Q I rv ⟨a,xs,rfl,hq, ?_⟩
   rw [r.length]
   exact k _ F H (A4.here s0 rfl)
  ·cases h2
theorem b65(hc:X.calm=true):O7 X (.builtin "min") (rC2 X.K (gI fun i j=> .int (if j<i then j else i))):=by
 intro pins s σ H xs us Q I rv h
 obtain⟨F,x,y,rx,ry,rz,rfl,s0,h1,h2,h3,k⟩:=h
 obtain⟨i,j,rfl,rfl,rfl⟩:=b1o h3
 cases h1;cases h2
 exact b1Z hc pins s σ H _ us Q I rv ⟨i,j,rfl,k _ F H (A4.here s0 rfl)⟩
def a4p(x:g6):Option g6:=match PyData.items? x.rd with
 |some ps=>some (.val (.tuple ps))
 |none=>none
theorem b2e{F H:Hp}{v:V}{r:g6}{ps:List PV}(s0:u4 F H)(h:O0 X.K F H v r)(e:PyData.items? r.rd=some ps):∃a xs,v= .ref a/\(SqL X.K H a xs\/(SqT X.K H a xs/\M2 X.K F (.tuple ps) v))/\p8 X.K F ps xs:=by
 cases r with
 |val p=>
  cases p with
  |list qs=>cases e;obtain⟨a,xs,rfl,hq,r⟩:=h;exact⟨a,xs,rfl,.inl (R1 s0 hq),r⟩
  |tuple qs=>cases e;obtain⟨a,xs,rfl,hq,r⟩:=h;exact⟨a,xs,rfl,.inr ⟨D9 s0 hq.sq,⟨a,xs,rfl,hq,r⟩⟩,r⟩
  |_=>cases e
 |ow c=>cases c<;>cases e;obtain⟨a,xs,rfl,_,hq,r⟩:=h;exact⟨a,xs,rfl,.inl (SqL.of hq),r⟩
 |bo c=>cases c<;>cases e;obtain⟨a,xs,rfl,_,hq,r⟩:=h;exact⟨a,xs,rfl,.inl (SqL.of hq),r⟩
theorem a9a:O7 X (.type "tuple") (rC1 X.K a4p):=by
 intro pins s σ H xs us Q I rv h
 obtain⟨F,x,rx,rz,rfl,s0,h1,h2,k⟩:=h
 unfold a4p at h2
 split at h2
 ·rename_i ps e
  cases h2
  obtain⟨a,xs,rfl,hq,r⟩:=b2e s0 h1 e
  refine a6Y pins s σ H _ us Q I rv ⟨a,xs,rfl, ?_⟩
  rcases hq with hq|⟨hq,rp⟩
  ·exact .inl ⟨hq,fun l hl=>k _ _ _ (A4.tup s0 hl r)⟩
  ·exact .inr ⟨hq,k _ F H (A4.here s0 rp)⟩
 ·cases h2
def kindOf:PV->String
 | .none=>"NoneType"
 | .bool _=>"bool"
 | .int _=>"int"
 | .str _=>"str"
 | .list _=>"list"
 | .tuple _=>"tuple"
 | .dict _=>"dict"
def a2d(T:String)(p:PV):Bool:=kindOf p==T||(kindOf p=="bool" && T=="int")
def isFn:PV->Bool
 | .dict ((.str _,_)::_)=>true
 |_=>false
def a8q(T:String)(x:g6):Option g6:=bif isFn x.rd then none else some (.val (.bool (a2d T x.rd)))
def b2W(T:String):Prop:=T="int"\/T="bool"\/T="str"\/T="list"\/T="tuple"\/T="dict"
theorem b2f{K:AD}{T:String}(h:b2W T):∀p:PV,PySem.W.kitOne K (.type (kindOf p)) (.type T)=some (a2d T p):=by
 intro p
 rcases h with rfl|rfl|rfl|rfl|rfl|rfl<;>cases p<;>kernel_rfl
theorem a8h{T:String}{e:AG}{m:M}{p p2 pos:Pos}(kt:b2W T)(hg:Gl X "isinstance")(hm:X.mg "isinstance"=none)(ha:EE X e m)(hT:PE X (.Name (AE T) p2) (tC (.ty T)))
 (he:AN [e,.Name (AE T) p2] X.env=(false,eval e X.env)::AN [.Name (AE T) p2] X.env:=by rfl) (he2:AN [.Name (AE T) p2] X.env=(false,eval (.Name (AE T) p2) X.env)::AN [] X.env:=by rfl) (hpl:(backTo pos (AN [.Name (AE T) p2] X.env)).any (·.1)=false:=by rfl)
 (hv:bootBuiltins "isinstance"=some (.builtin "isinstance"):=by rfl):
 EE X (.Call (.Name "isinstance" p) [e,.Name (AE T) p2] [] pos) (m1 (a8q T) m):=by
 have hc:O7 X (.builtin "isinstance") (fun xs H Q=>∃F x rx,xs=[x,.ty T]/\u4 F H/\O0 X.K F H x rx/\isFn rx.rd=false/\Q (.bl (a2d T rx.rd)) H):=by
  intro pins s σ H xs us Q I rv h
  obtain⟨F,x,rx,rfl,s0,h1,nf,q⟩:=h
  obtain⟨u,u2,rfl,ru,ru2⟩:∃u1 u2,us=[u1,u2]/\z4 x u1/\z4 (.ty T) u2:=by
   cases rv with
   |cons p q=>
    cases q with
    |cons p' q'=>
     cases q'
     exact⟨_,_,rfl,p,p'⟩
  cases ru2
  have rr:=h1.rd s0
  have kk:=b2f (K:=X.K) kt rx.rd
  have fin:∀tk,EP X pins σ Q (.bool (a2d T rx.rd)) {s with toks:=tk}:=fun tk=>⟨.bl _,H,I.tok tk,rfl,q⟩
  cases hp:rx.rd with
  |none=>rw [hp] at rr kk fin;cases rr;cases ru;exact PySem.W.kia_one PySem.W.kitx_none I.kIn True.intro kk (fun z=>nomatch z) fin
  |bool b=>rw [hp] at rr kk fin;cases rr;cases ru;exact PySem.W.kia_one PySem.W.kitx_bool I.kIn True.intro kk (fun z=>nomatch z) fin
  |int b=>rw [hp] at rr kk fin;cases rr;obtain⟨t,rfl⟩:=ru;exact PySem.W.kia_one PySem.W.kitx_int I.kIn True.intro kk (fun z=>nomatch z) fin
  |str b=>rw [hp] at rr kk fin;cases rr;obtain⟨t,rfl⟩:=ru;exact PySem.W.kia_one PySem.W.kitx_str I.kIn True.intro kk (fun z=>nomatch z) fin
  |list ps=>
   rw [hp] at rr kk fin
   obtain⟨a,ys,rfl,hq,_⟩:=rr
   cases ru
   obtain⟨its,_,⟨o,n,e1,e2,_⟩,_⟩:=I.list hq
   exact PySem.W.kia_one PySem.W.kitx_list I.kIn ⟨o,e1,e2⟩ kk (fun z=>nomatch z) fin
  |tuple ps=>
   rw [hp] at rr kk fin
   obtain⟨a,ys,rfl,hq,_⟩:=rr
   cases ru
   obtain⟨its,_,⟨o,e1,e2,_⟩,_⟩:=I.tuple hq.sq
   exact PySem.W.kia_one PySem.W.kitx_tuple I.kIn ⟨o,e1,e2⟩ kk (fun z=>nomatch z) fin
  |dict ps=>
   rw [hp] at rr kk fin nf
   rcases rr with⟨a,_,rfl,hq,_⟩|⟨a,_,rfl,hq,_⟩|⟨x,_,rfl,_⟩|⟨x,m,fs,_,hf⟩
   ·cases ru
    obtain⟨_,_,_,_,o,_,_,e1,e2,_⟩:=I.hok a _ hq
    exact PySem.W.kia_one PySem.W.kitx_dict I.kIn ⟨o,e1,e2.1⟩ kk (fun z=>nomatch z) fin
   ·cases ru
    obtain⟨_,_,_,_,o,_,_,e1,e2,_⟩:=I.hok a _ hq
    exact PySem.W.kia_one PySem.W.kitx_dict I.kIn ⟨o,e1,e2.1⟩ kk (fun z=>nomatch z) fin
   ·cases nf
   ·cases ps with
    |nil=>cases hf
    |cons f ps=>obtain⟨k,p⟩:=f;obtain⟨_,_,_,_,z,_⟩:=hf;subst z;cases nf
 exact C2 (a6t hc hg hm hv (J2 ha (J2 hT Z2 he2) he) (by decide) (by decide) he hpl) fun σ H Q ⟨F,ρ,r,h1,h2,k⟩=>by
  obtain⟨rx,e1,h2⟩:=bind_some h2
  unfold a8q at h2
  cases nf:isFn rx.rd with
  |true=>rw [nf] at h2;cases h2
  |false=>
   rw [nf] at h2
   cases h2
   exact⟨F,ρ,rx,h1,e1,fun v F1 H1 o=>⟨F1,v,rx,rfl,o.x.fh,o.rep,nf,k _ F1 H1 (A4.val o.x rfl)⟩⟩
theorem SOk.putC{K:AD}{F0 H0 F H:Hp}{σ:L2.St}{ρ:d4}{i:Nat}{c d:a1Q}{a:AB}{o:HO}(s:SOk K F0 H0 F H σ ρ)(e:ρ[i]?=some (some (.ow c)))(ea:σ[i]?=some (some (.ref a)))(r:F a=none->a1S K F (upd H a o) (.ref a) d):
 SOk K F0 H0 F (upd H a o) σ (ρ.set i (some (.ow d))):=by
 obtain⟨v,h1,rr0⟩:=s.e.at_ i _ e
 obtain⟨a',xs,rfl,fa,ha⟩:=a1S.at_ rr0
 rw [ea] at h1;cases h1
 have na:H0 a=none:=s.nw i c a e ea
 have hi:i<ρ.length:=(Aw.mp e).1
 refine⟨⟨s.x.f,fun b o z=>by rw [o8 (p6 z na)];exact s.x.h _ _ z,fun b o z=>by rw [o8 (p6 z fa)];exact s.x.fh _ _ z,s.x.nw,s.x.nf⟩,⟨fun b o z=>by rw [o8 (p6 z fa)];exact s.e.fh _ _ z,by simp [s.e.len],fun j q ej=> ?_,fun j z ej=> ?_,fun j k z1 z2 c' hjk e1 e2 e3 e4=> ?_⟩,fun j z c' e1 e2=> ?_⟩
 ·rw [List.getElem?_set] at ej
  by_cases hij:i=j
  ·subst hij
   rw [if_pos rfl,if_pos hi] at ej
   cases ej
   exact⟨.ref a,ea,r fa⟩
  ·rw [if_neg hij] at ej
   obtain⟨v,h1,rr⟩:=s.e.at_ j q ej
   refine⟨v,h1, ?_⟩
   cases q with
   |val p=>exact rr
   |bo z=>exact absurd ej (s.e.nb j z)
   |ow z=>
    have key:∀b,v= .ref b->b≠a:=fun b hb hab=>by subst hab;subst hb;exact s.e.ap i j c z b hij e ej ea h1
    cases z with
    |lst z=>
     obtain⟨b,zs,rfl,fb,hb,rz⟩:=rr
     exact⟨b,zs,rfl,fb,by rw [o8 (key b rfl)];exact hb,rz⟩
    |dct z=>
     obtain⟨b,zs,rfl,fb,hb,rz⟩:=rr
     exact⟨b,zs,rfl,fb,by rw [o8 (key b rfl)];exact hb,rz⟩
    |txt z=>
     obtain⟨b,zs,rfl,fb,hb,rz⟩:=rr
     exact⟨b,zs,rfl,fb,by rw [o8 (key b rfl)];exact hb,rz⟩
 ·rw [List.getElem?_set] at ej
  by_cases hij:i=j
  ·subst hij;rw [if_pos rfl,if_pos hi] at ej;cases ej
  ·rw [if_neg hij] at ej;exact s.e.nb j z ej
 ·have own_at:∀(j:Nat) (z:a1Q),(ρ.set i (some (g6.ow d)))[j]?=some (some (g6.ow z))->∃z':a1Q,ρ[j]?=some (some (g6.ow z')):=fun j z h=>by
   rw [List.getElem?_set] at h
   by_cases hij:i=j
   ·subst hij;exact⟨c,e⟩
   ·rw [if_neg hij] at h;exact⟨z,h⟩
  obtain⟨y1,h1⟩:=own_at j z1 e1
  obtain⟨y2,h2⟩:=own_at k z2 e2
  exact s.e.ap j k y1 y2 c' hjk h1 h2 e3 e4
 ·rw [List.getElem?_set] at e1
  by_cases hij:i=j
  ·subst hij;rw [ea] at e2;cases e2;exact na
  ·rw [if_neg hij] at e1;exact s.nw j z c' e1 e2
theorem SOk.put{K:AD}{F0 H0 F H:Hp}{σ:L2.St}{ρ:d4}{i:Nat}{ps qs:List PV}{a:AB}{ys:List V}(s:SOk K F0 H0 F H σ ρ)(e:ρ[i]?=some (some (.own ps)))(ea:σ[i]?=some (some (.ref a)))(r:p8 K F qs ys):
 SOk K F0 H0 F (upd H a (.lst ys)) σ (ρ.set i (some (.own qs))):=s.putC e ea fun fa=>⟨a,ys,rfl,fa,y4,r⟩
def a3V(i:Nat)(m:M):MS:=fun ρ=>(m ρ).bind fun r=>r.toVal.bind fun p=>match ρ[i]? with
 |some (some (.ow (.lst ps)))=>if ps.length<AO then some (.nx (ρ.set i (some (.own (ps++[p]))))) else none
 |_=>none
theorem b15(i:Nat){x:Str}{p apos cpos pos:Pos}{e:AG}{m:M}(hx:PE X (.Name x p) (b02 i))(ha:EE X e m)
 (hbase:attributeBase (.Name x p) "append" X.env (eval (.Name x p) X.env)=eval (.Name x p) X.env:=by rfl)
 (hfew:((backTo cpos (AN [e] X.env)).all (fun x=> !x.1)&&(backToKw cpos (keywordEach [] X.env)).all (fun x=>x.1.isSome)
  && decide ([e].length+([]:List Keyword).length+(if([]:List Keyword).isEmpty then 0 else 1)<30))=true:=by rfl)
 (hline:(apos.endLine==cpos.line)=true:=by rfl) (hs:AN [e] X.env=(false,eval e X.env)::AN [] X.env:=by rfl) (hplain:(backTo cpos (AN [] X.env)).any (·.1)=false:=by rfl)
 (hsw:swapsWith (.Call (.Attribute (.Name x p) "append" apos) [e] [] cpos) none pos.line X.env=pure false:=by rfl):
 ES X (.Expr (.Call (.Attribute (.Name x p) "append" apos) [e] [] cpos) pos) (a3V i m):=
 O5 (b6a (a9M PySem.F.plainAttrs_list PySem.F.slot_list_append PySem.F.type_list_append a7D hx (J2 ha Z2 hs) hbase hfew hline hs hplain) hsw) fun D σ H ⟨F0,H0,F,ρ,fl,so,e,fin⟩=>by
  obtain⟨r,e1,e⟩:=bind_some e
  obtain⟨q,e2,e⟩:=bind_some e
  split at e
  ·rename_i ps eo
   split at e
   ·rename_i c
    cases e
    obtain⟨v,h1,a,xs,rfl,fa,ha',rl⟩:=so.e.at_ i _ eo
    refine⟨.ref a,h1,.inl ⟨rfl,xs,SqL.of ha'⟩,F,ρ,r,so.e,e1,fun w F1 H1 o=> ?_⟩
    obtain⟨F2,o2⟩:=o.toVal e2
    have so2:=so.ext o2.x
    refine⟨a,xs,w,rfl,rfl,o.x.h _ _ ha',by rw [rl.length];exact c, ?_⟩
    exact fin σ F2 _ o2.x.f (so2.put eo h1 ((p8.mono o2.x.f _ rl).append ⟨w,[],rfl,o2.rep,rfl⟩))
   ·cases e
  ·cases e
def b5B(i:Nat)(g:g6->g6->Option g6)(m:M):MS:=fun ρ=>match ρ[i]? with
 |some (some (.val x))=>(m ρ).bind fun y=>(g (.val x) y).bind fun z=>if z.nb=true then some (.nx (ρ.set i (some z))) else none
 |_=>none
theorem b68{i:Nat}{x:Str}{e:AG}{m:M}{g:g6->g6->Option g6}{op:Operator}{pos pos':Pos}(hN:X.N.Nodup)(he:EE X e m)(ho:OpM X (inplaceOp op) g)(hi:X.N[i]?=some x:=by rfl)(hx:Loc X.env.scope x:=by exact Or.inl rfl)(hf:X.fn x=true\/X.env.scope.names.lookup x=some .local:=by first|exact .inl rfl|exact .inr rfl|assumption):
 ES X (.AugAssign (.Name x pos') op e pos) (b5B i g m):=
 O5 (b72 hN hi hx he (ti:=rM2 X.K g) ho hf) fun D σ H ⟨F0,H0,F,ρ,fl,so,e,fin⟩=>by
  unfold b5B at e
  split at e
  ·rename_i p ep
   obtain⟨y,e1,e⟩:=bind_some e
   obtain⟨z,e2,e⟩:=bind_some e
   split at e
   ·rename_i c
    cases e
    obtain⟨v,h1,rv⟩:=so.e.at_ i _ ep
    exact⟨v,h1,F,ρ,y,so.e,e1,fun u F1 H1 o=>⟨F1,.val p,y,z,o.x.fh,rv.ext o.x,o.rep,e2,fun t F2 H2 o2=>fin _ F2 H2 (o.x.f.trans o2.x.f) ((so.ext o.x).set o2 c i)⟩⟩
   ·cases e
  ·cases e
theorem b3Z:OpM X (inplaceOp .Add) (gI fun i j=> .int (i+j)):=b3W b5q fun _ _ _=>rfl
def b3I(i:Nat)(n:MS):MS:=fun ρ=>match ρ[i]? with
 |some (some (.ow (.lst ps)))=>n (ρ.set i (some (.val (.list ps))))
 |_=>n ρ
theorem SOk.frz{K:AD}{F0 H0 F H:Hp}{σ:L2.St}{ρ:d4}{i:Nat}{ps:List PV}(s:SOk K F0 H0 F H σ ρ)(e:ρ[i]?=some (some (.own ps))):∃F',u4 F F'/\SOk K F0 H0 F' H σ (ρ.set i (some (.val (.list ps)))):=by
 obtain⟨v,h1,a,xs,rfl,fa,ha,rl⟩:=s.e.at_ i _ e
 have na:H0 a=none:=s.nw i _ a e h1
 have hi:i<ρ.length:=(Aw.mp e).1
 have up:u4 F (upd F a (.lst xs)):=a2r fa
 have fh:u4 (upd F a (.lst xs)) H:=fun b o z=>by
  by_cases hb:b=a
  ·subst hb;rw [y4] at z;cases z;exact ha
  ·rw [o8 hb] at z;exact s.e.fh _ _ z
 refine⟨upd F a (.lst xs),up,⟨⟨s.x.f.trans up,s.x.h,fh,fun b o z y t=>by rw [o8 (p6 y na)];exact s.x.nw b o z y t,b3R s.x.nf⟩,⟨fh,by simp [s.e.len],fun j q ej=> ?_,fun j z ej=> ?_,fun j k z1 z2 c hjk e1 e2 e3 e4=> ?_⟩,fun j z c e1 e2=> ?_⟩⟩
 ·rw [List.getElem?_set] at ej
  by_cases hij:i=j
  ·subst hij
   rw [if_pos rfl,if_pos hi] at ej
   cases ej
   exact⟨.ref a,h1,a,xs,rfl,SqL.of y4,p8.mono up _ rl⟩
  ·rw [if_neg hij] at ej
   obtain⟨v,h2,rr⟩:=s.e.at_ j q ej
   refine⟨v,h2, ?_⟩
   cases q with
   |val p=>exact M2.mono up p rr
   |bo z=>exact absurd ej (s.e.nb j z)
   |ow z=>
    have key:∀b,v= .ref b->b≠a:=fun b hb hab=>by subst hab;subst hb;exact s.e.ap i j _ z b hij e ej h1 h2
    cases z with
    |lst z=>
     obtain⟨b,zs,rfl,fb,hb,rz⟩:=rr
     exact⟨b,zs,rfl,by rw [o8 (key b rfl)];exact fb,hb,p8.mono up _ rz⟩
    |dct z=>
     obtain⟨b,zs,rfl,fb,hb,rz⟩:=rr
     exact⟨b,zs,rfl,by rw [o8 (key b rfl)];exact fb,hb,K5.mono up _ rz⟩
    |txt z=>
     obtain⟨b,zs,rfl,fb,hb,rz⟩:=rr
     exact⟨b,zs,rfl,by rw [o8 (key b rfl)];exact fb,hb,K5.mono up _ rz⟩
 ·rw [List.getElem?_set] at ej
  by_cases hij:i=j
  ·subst hij;rw [if_pos rfl,if_pos hi] at ej;cases ej
  ·rw [if_neg hij] at ej;exact s.e.nb j z ej
 ·have own_at:∀(j:Nat) (z:a1Q),(ρ.set i (some (g6.val (.list ps))))[j]?=some (some (g6.ow z))->ρ[j]?=some (some (g6.ow z)):=fun j z h=>by
   rw [List.getElem?_set] at h
   by_cases hij:i=j
   ·subst hij;rw [if_pos rfl,if_pos hi] at h;cases h
   ·rw [if_neg hij] at h;exact h
  exact s.e.ap j k z1 z2 c hjk (own_at j z1 e1) (own_at k z2 e2) e3 e4
 ·rw [List.getElem?_set] at e1
  by_cases hij:i=j
  ·subst hij;rw [if_pos rfl,if_pos hi] at e1;cases e1
  ·rw [if_neg hij] at e1;exact s.nw j z c e1 e2
theorem b3g(i:Nat){st:Stmt}{n:MS}(h:ES X st n):ES X st (b3I i n):=O5 h fun D σ H ⟨F0,H0,F,ρ,fl,so,e,fin⟩=>by
 unfold b3I at e
 split at e
 ·rename_i ps eo
  obtain⟨F',s,so'⟩:=so.frz eo
  exact⟨F0,H0,F',_,fl,so',e,fin.later s⟩
 ·exact⟨F0,H0,F,ρ,fl,so,e,fin⟩
end
def j7(P:AL)(w:AJ)(K:AD)(mg:Str->Option AA)(base:Heap)(x:Str)(ps:List Str)(k:Nat)(g:List PV->Option g6):Prop:=
 ∃f fd,M8 P w K mg base CX0 k f fd ps (spP K ps.length g)/\mg x=some (.ref f)/\PySem.W.keepIn K (.ref f)=true/\U1 K fd ps []
theorem b6m{K:AD}{n:Nat}{g g':List PV->Option g6}(h:∀ps r,g' ps=some r->g ps=some r):∀vs H Q E,spP K n g' vs H Q E->spP K n g vs H Q E:=
 fun vs H Q E ⟨F,ps,r,s,rl,hl,e,k⟩=>⟨F,ps,r,s,rl,hl,h _ _ e,k⟩
theorem j7.imp{P:AL}{w:AJ}{K:AD}{mg:Str->Option AA}{base:Heap}{x:Str}{ps:List Str}{k:Nat}{g g':List PV->Option g6}(d:j7 P w K mg base x ps k g)(h:∀qs r,g' qs=some r->g qs=some r):j7 P w K mg base x ps k g':=by
 obtain⟨f,fd,G,r⟩:=d
 exact⟨f,fd,G.imp (b6m h),r⟩
section
variable {X:Cx}
theorem v9{k k':Nat}{ps:List Str}{g:List PV->Option g6}{x:Str}{p pos:Pos}{e:AG}{es:List AG}{m:MA}
 (d:j7 X.prog X.w X.K X.mg X.base x ps k g) (hr:D3 k' X.A) (hk:k<=k') (hg:Gl X x) (hn:∀ρ qs,m ρ=some qs->qs.length=ps.length) (ha:EA X (e::es) m)
 (hdb:(x==("__debug__":Str))=false:=by decide) (he:AN (e::es) X.env=(false,eval e X.env)::AN es X.env:=by rfl) (hpl:(backTo pos (AN es X.env)).any (·.1)=false:=by rfl):
 EE X (.Call (.Name x p) (e::es) [] pos) (v6 g m):=by
 obtain⟨f,fd,G,h1,h2,h3⟩:=d
 exact b46 G (hr.mono hk) hg h1 h2 h3 hn ha hdb he hpl
theorem b47{k k':Nat}{g:List PV->Option g6}{x:Str}{p pos:Pos}
 (d:j7 X.prog X.w X.K X.mg X.base x [] k g) (hr:D3 k' X.A) (hk:k<=k') (hg:Gl X x) (hdb:(x==("__debug__":Str))=false:=by decide):
 EE X (.Call (.Name x p) [] [] pos) (fun _=>g []):=by
 obtain⟨f,fd,G,h1,h2,h3⟩:=d
 exact b3c G (hr.mono hk) hg h1 h2 h3 hdb
end
def a9X(K:AD):Sp:=fun vs H Q _=>∃(a:AB) (ns:List Int),vs=[.ref a]/\SqL K H a (ns.map V.int)/\ns.length<=63/\∀H',Q (.bl true) H'
theorem a7M{K:AD}{H:Hp}:∀ns:List Int,p8 K H (ns.map PyData.int) (ns.map V.int)
 |[]=>rfl
 |n::ns=>⟨.int n,_,rfl,rfl,a7M ns⟩
theorem b5y{K:AD}{g:List PV->Option g6}(h:∀ns:List Int,ns.length<=63->g [.list (ns.map .int)]=some (.val (.bool true))):∀vs H Q E,a9X K vs H Q E->spP K 1 g vs H Q E:=
 fun vs H Q E ⟨a,ns,e,hs,hl,k⟩=>by
  subst e
  exact⟨H,[.list (ns.map .int)],_,PU.u4.refl H,⟨.ref a,[],rfl,⟨a,_,rfl,hs,a7M ns⟩,rfl⟩,rfl,h ns hl,fun v F' H' o=>by
   have:v= .bl true:=o.rep
   subst this
   exact k H'⟩
def b5j(x y:g6):Option g6:=gIc a7X (fun i j=> .int (i*j)) x y
theorem b30{X:Cx}:OpM X (binaryOp .Mult) b5j:=b5Y
theorem z9(i j:Int):p3 (.val (.int i)) (.val (.int j))=some (.val (.int (i+j))):=Eq.trans rfl rfl
theorem b3o{i j:Str}(h:i.length+j.length<=AO):p3 (.val (.str i)) (.val (.str j))=some (.val (.str (i++j))):=by simp [p3,h]
theorem b0l(f:Int->Int->PV)(i j:Int):gI f (.val (.int i)) (.val (.int j))=some (.val (f i j)):=Eq.trans rfl rfl
theorem a5f{C:Int->Int->Prop}[∀i j,Decidable (C i j)](f:Int->Int->PV){i j:Int}(h:C i j):gIc C f (.val (.int i)) (.val (.int j))=some (.val (f i j)):=by
 show(if okC C i j=true then some (g6.val (f i j)) else none)=_
 rw [if_pos (a0j.mpr h)]
theorem b7l{i j:Int}(h: -18446744073709551616<i/\i<18446744073709551616):b5j (.val (.int i)) (.val (.int j))=some (.val (.int (i*j))):=a5f _ (.inl (by lia))
theorem b7m{i j:Int}(h: -18446744073709551616<j/\j<18446744073709551616):b5j (.val (.int i)) (.val (.int j))=some (.val (.int (i*j))):=a5f _ (.inr (by lia))
theorem a3Q{f:Int->Int->PV}{i j:Int}(h:0<j):gIc (fun _ j=>0<j) f (.val (.int i)) (.val (.int j))=some (.val (f i j)):=a5f _ h
theorem b3u{f:Int->Int->PV}{i j:Int}(h:(0<=j/\j<=1000000)/\i.natAbs<18446744073709551616):gIc b1S f (.val (.int i)) (.val (.int j))=some (.val (f i j)):=a5f _ ⟨h.1.1,h.1.2,h.2⟩
theorem b7k{x y:g6}(h:A7 x.rd 50=true/\A7 y.rd 50=true):gEq x y=some (.val (.bool (PyData.eqv x.rd y.rd))):=by simp [gEq,h]
theorem b3t{x y:g6}(h:A7 x.rd 50=true/\A7 y.rd 50=true):gNe x y=some (.val (.bool (!PyData.eqv x.rd y.rd))):=by simp [gNe,h]
theorem a5M(ps:List PV):L6 (.val (.tuple ps))=some (.val (.int ps.length)):=Eq.trans rfl rfl
theorem b5i{ps:List PV}{i:Int}{p:PV}(h:L2.atI ps i=some p):J4 (.val (.tuple ps)) (.val (.int i))=some (.val p):=by simp [J4,g6.rd,a1Q.rd,PyData.items?,h]
theorem b3r(p:PV)(ps:List PV):J4 (.val (.tuple (p::ps))) (.val (.int 0))=some (.val p):=by
 refine b5i ?_
 have h:(0:Int)<(((p::ps).length:Nat):Int):=by simp only [AU];lia
 unfold L2.atI L2.ixN
 rw [if_pos (by decide),if_pos h]
 rfl
theorem l6(g:g6->g6->Option g6)(ma mb:M)(ρ:d4):m2 g ma mb ρ=(ma ρ).bind fun x=>(mb ρ).bind fun y=>g x y:=Eq.trans rfl rfl
theorem z6(g:g6->Option g6)(ma:M)(ρ:d4):m1 g ma ρ=(ma ρ).bind g:=Eq.trans rfl rfl
theorem i9(p:PV)(ρ:d4):mC p ρ=some (.val p):=Eq.trans rfl rfl
theorem d9(p:PV)(ρ:d4):b6 0 (some (.val p)::ρ)=some (.val p):=Eq.trans rfl rfl
theorem b5E(p:List PV)(ρ:d4):b6 0 (some (.own p)::ρ)=some (.bor p):=Eq.trans rfl rfl
theorem l8(n:Nat)(r:Option g6)(ρ:d4):b6 (n+1) (r::ρ)=b6 n ρ:=Eq.trans rfl rfl
theorem d8(ρ:d4):g5 ρ=some []:=Eq.trans rfl rfl
theorem d5(m:M)(r:MA)(ρ:d4):a8 m r ρ=((m ρ).bind g6.toVal).bind fun p=>(r ρ).bind fun ps=>some (p::ps):=Eq.trans rfl rfl
theorem d7(p:PV):(g6.val p).toVal=some p:=Eq.trans rfl rfl
theorem N4(m:MA)(ρ:d4):S5 m ρ=(m ρ).bind fun ps=>if ps.length<=AO then some (.val (.tuple ps)) else none:=Eq.trans rfl rfl
theorem b3J(m:MA)(ρ:d4):W7 m ρ=(m ρ).bind fun ps=>if ps.length<=AO then some (.own ps) else none:=Eq.trans rfl rfl
theorem i3(g:List PV->Option g6)(m:MA)(ρ:d4):v6 g m ρ=(m ρ).bind g:=Eq.trans rfl rfl
def b6Z(i:Nat)(ρ:d4)(r:g6):Option Fl:=if r.nb=true then some (.nx (ρ.set i (some r))) else none
theorem n5(i:Nat)(m:M)(ρ:d4):B3 i m ρ=(m ρ).bind (b6Z i ρ):=Eq.trans rfl rfl
theorem v7(i:Nat)(ρ:d4)(p:PV):b6Z i ρ (.val p)=some (.nx (ρ.set i (some (.val p)))):=Eq.trans rfl rfl
theorem b60(i:Nat)(ρ:d4)(p:List PV):b6Z i ρ (.own p)=some (.nx (ρ.set i (some (.own p)))):=Eq.trans rfl rfl
def b85(r:g6):Option Fl:=if r.nb=true then some (.rt r) else none
theorem g9(m:M)(ρ:d4):u5 m ρ=(m ρ).bind b85:=Eq.trans rfl rfl
theorem m5(p:PV):b85 (.val p)=some (.rt (.val p)):=Eq.trans rfl rfl
def b8a(n:MS):Fl->Option Fl
 | .nx ρ=>n ρ
 |f=>some f
theorem i8(m n:MS)(ρ:d4):t7 m n ρ=(m ρ).bind (b8a n):=Eq.trans rfl rfl
theorem m8(n:MS)(ρ:d4):b8a n (.nx ρ)=n ρ:=Eq.trans rfl rfl
theorem p5(n:MS)(r:g6):b8a n (.rt r)=some (.rt r):=Eq.trans rfl rfl
def ifK(m n:MS)(ρ:d4)(b:Bool):Option Fl:=if b=true then m ρ else n ρ
theorem j1(c:MT)(m n:MS)(ρ:d4):A8 c m n ρ=(c ρ).bind (ifK m n ρ):=Eq.trans rfl rfl
theorem z8(m n:MS)(ρ:d4):ifK m n ρ true=m ρ:=Eq.trans rfl rfl
theorem B0(m n:MS)(ρ:d4):ifK m n ρ false=n ρ:=Eq.trans rfl rfl
theorem m6(ρ:d4):y9 ρ=some (.nx ρ):=Eq.trans rfl rfl
def b86:Fl->Option g6
 | .rt r=>some r
 | .nx _=>some (.val .none)
 |_=>none
theorem h9(n:Nat)(b:MS)(ps:List PV):p7 n b ps=(b (ps.map (fun p=>some (g6.val p))++AR n none)).bind b86:=Eq.trans rfl rfl
theorem j5(r:g6):b86 (.rt r)=some r:=Eq.trans rfl rfl
theorem x8(m:M)(ρ:d4):mtV m ρ=(m ρ).bind tru:=Eq.trans rfl rfl
theorem l7(m:M)(ρ:d4):L3 m ρ=(m ρ).bind a8M:=Eq.trans rfl rfl
theorem o0(b:Bool):a8M (.val (.bool b))=some b:=Eq.trans rfl rfl
theorem E8(b:Bool):tru (.val (.bool b))=some b:=Eq.trans rfl rfl
theorem o9(c:MT)(ρ:d4):P6 c ρ=(c ρ).map not:=Eq.trans rfl rfl
def orK(d:MT)(ρ:d4)(b:Bool):Option Bool:=if b=true then some true else d ρ
def b6X(d:MT)(ρ:d4)(b:Bool):Option Bool:=if b=true then d ρ else some false
theorem n6(c d:MT)(ρ:d4):a0Z c d ρ=(c ρ).bind (orK d ρ):=Eq.trans rfl rfl
theorem P5(c d:MT)(ρ:d4):a52 c d ρ=(c ρ).bind (b6X d ρ):=Eq.trans rfl rfl
theorem a2i(d:MT)(ρ:d4):orK d ρ true=some true:=Eq.trans rfl rfl
theorem C6(d:MT)(ρ:d4):orK d ρ false=d ρ:=Eq.trans rfl rfl
theorem a5y(d:MT)(ρ:d4):b6X d ρ true=d ρ:=Eq.trans rfl rfl
theorem b0c(d:MT)(ρ:d4):b6X d ρ false=some false:=Eq.trans rfl rfl
def b6Y(n:M)(ρ:d4)(r:g6):Option g6:=(a8M r).bind fun b=>if b=true then n ρ else some (.val (.bool false))
theorem Y9(m n:M)(ρ:d4):a9w m n ρ=(m ρ).bind (b6Y n ρ):=Eq.trans rfl rfl
theorem b0d(n:M)(ρ:d4):b6Y n ρ (.val (.bool true))=n ρ:=Eq.trans rfl rfl
theorem a76(n:M)(ρ:d4):b6Y n ρ (.val (.bool false))=some (.val (.bool false)):=Eq.trans rfl rfl
theorem a3O(T:String)(p:PV):a8q T (.val p)=bif isFn p then none else some (.val (.bool (a2d T p))):=Eq.trans rfl rfl
theorem a9p(i:Str):isFn (.str i)=false:=Eq.trans rfl rfl
theorem a9q(ps:List PV):isFn (.tuple ps)=false:=Eq.trans rfl rfl
theorem b1a{α:Type}(a b:α):(bif false then a else b)=b:=Eq.trans rfl rfl
theorem b4q(p:PV):(g6.val p).rd=p:=Eq.trans rfl rfl
def b6I:List PV->Option (List PV)
 |[.int j]=>if inR j=true then some (a5b 0 j) else none
 |_=>none
theorem b2l(m:MA)(ρ:d4):a4S m ρ=(m ρ).bind b6I:=Eq.trans rfl rfl
theorem b6g{j:Int}(h: -4611686018427387904<=j/\j<4611686018427387904):b6I [.int j]=some (a5b 0 j):=by
 show(if inR j=true then some (a5b 0 j) else none)=_
 rw [if_pos (b1v.mpr (by lia))]
theorem b1s(i j:Int):gNe (.val (.int i)) (.val (.int j))=some (.val (.bool (!(i==j)))):=Eq.trans rfl rfl
theorem a5K(i j:Int):gEq (.val (.int i)) (.val (.int j))=some (.val (.bool (i==j))):=Eq.trans rfl rfl
theorem a5h(ps:List PV):a2d "tuple" (.tuple ps)=true:=Eq.trans rfl rfl
theorem sz(n:Nat):(n<=AO)=(n<=16777216):=by rw [sizeLine_eq]
end PU
namespace L2
open PySem PySem.Spec PyProof.Rows
theorem J7:∀(names:List (Str×NameKind)) (n:Nat) (acc:List (Str×AB)),cellsFrom n names acc=cellsFrom n names []++acc
 |[],_,_=>rfl
 |(x,k)::r,n,acc=>by
  unfold cellsFrom
  split
  ·rw [J7 r (n+1) ((x,n)::acc),J7 r (n+1) [(x,n)],List.append_assoc];rfl
  ·exact J7 r n acc
theorem Q0:∀{names:List (Str×NameKind)} {n:Nat} {x:Str} {c:AB},(x,c)∈cellsFrom n names []->n<=c/\(x,NameKind.cell)∈names
 |[],_,_,_,h=>nomatch h
 |(y,k)::r,n,x,c,h=>by
  unfold cellsFrom at h
  split at h
  ·rename_i hk
   rw [J7] at h
   rcases Au.mp h with h|h
   ·obtain⟨a,b⟩:=Q0 h
    exact⟨by lia,Aj _ b⟩
   ·have e:(x,c)=(y,n):=by simpa using h
    cases e
    have:k= .cell:=by simpa using hk
    subst this
    exact⟨AV _,Ai⟩
  ·obtain⟨a,b⟩:=Q0 h
   exact⟨a,Aj _ b⟩
theorem a5W{α:Type}:∀{l:List (Str×α)} {x:Str},(∀c,(x,c)∉l)->l.lookup x=none:=fun {l x} h=>by
 cases e:l.lookup x with
 |none=>rfl
 |some c=>exact absurd (PySem.mem_of_lookup e) (h c)
theorem a23{α:Type}:∀{l r:List (Str×α)} {x:Str},l.lookup x=none->(l++r).lookup x=r.lookup x
 |[],_,_,_=>rfl
 |(y,v)::l,r,x,h=>by
  rw [AX,List.lookup_cons]
  rw [List.lookup_cons] at h
  cases e:x==y with
  |true=>rw [e] at h;cases h
  |false=>rw [e] at h;exact a23 h
def V8(cells:List (Str×AB)):List (Str×NameKind)->List (Str×AB)->List (Str×AB)
 |[],acc=>acc
 |(x,k)::r,acc=>if k== .free then V8 cells r ((x,(cells.lookup x).getD 0)::acc) else V8 cells r acc
theorem a4k{cells:List (Str×AB)}:∀{names:List (Str×NameKind)} {acc:List (Str×AB)} {x:Str} {c:AB},(x,c)∈V8 cells names acc->(x,c)∈acc\/((x,NameKind.free)∈names/\c=(cells.lookup x).getD 0)
 |[],_,_,_,h=> .inl h
 |(y,k)::r,acc,x,c,h=>by
  unfold V8 at h
  split at h
  ·rename_i hk
   rcases a4k h with h|⟨h1,h2⟩
   ·rcases Ak.mp h with e|h
    ·cases e
     have:k= .free:=by simpa using hk
     subst this
     exact .inr ⟨Ai,rfl⟩
    ·exact .inl h
   ·exact .inr ⟨Aj _ h1,h2⟩
  ·rcases a4k h with h|⟨h1,h2⟩
   ·exact .inl h
   ·exact .inr ⟨Aj _ h1,h2⟩
theorem a10{cells:List (Str×AB)}:∀{names:List (Str×NameKind)} {acc:List (Str×AB)} {x:Str},x∉names.map (·.1)->(V8 cells names acc).lookup x=acc.lookup x
 |[],_,_,_=>rfl
 |(y,k)::r,acc,x,h=>by
  have h':¬(x=y)/\x∉r.map (·.1):=by simpa using h
  unfold V8
  split
  ·rw [a10 h'.2,List.lookup_cons]
   have e:(x==y)=false:=by simpa using h'.1
   rw [e]
  ·exact a10 h'.2
theorem a1b{cells:List (Str×AB)}:∀{names:List (Str×NameKind)} {acc:List (Str×AB)} {x:Str},(names.map (·.1)).Nodup->names.lookup x=some .free->(V8 cells names acc).lookup x=some ((cells.lookup x).getD 0)
 |[],_,_,_,h=>by cases h
 |(y,k)::r,acc,x,nd,h=>by
  have nd':y∉r.map (·.1)/\(r.map (·.1)).Nodup:=List.nodup_cons.mp nd
  rw [List.lookup_cons] at h
  unfold V8
  cases e:x==y with
  |true=>
   rw [e] at h
   have hk:k= .free:=by simpa using h
   subst hk
   have exy:x=y:=by simpa using e
   subst exy
   rw [if_pos (show(NameKind.free==NameKind.free)=true from rfl),a10 nd'.1,List.lookup_cons,e]
  |false=>
   rw [e] at h
   split
   ·exact a1b nd'.2 h
   ·exact a1b nd'.2 h
theorem a0v{env:Env}(f:Str×NameKind->List (Str×AB)->Sem (ForInStep (List (Str×AB))))(hf:∀x k cs,f (x,k) cs=if k== .free then(do let c<-cellOf env x;pure (.yield ((x,c)::cs))) else pure (.yield cs)):
 ∀(names:List (Str×NameKind)) (acc:List (Str×AB)),(∀x∈names,x.2= .free->(env.cells.lookup x.1).isSome=true)->forIn names acc f=pure (V8 env.cells names acc)
 |[],acc,_=>rfl
 |(x,k)::r,acc,h=>by
  rw [List.forIn_cons,hf]
  unfold V8
  have hr:=fun y hy=>h y (Aj _ hy)
  split
  ·rename_i hk
   have:=h (x,k) Ai (by simpa using hk)
   obtain⟨c,hc⟩:=Option.isSome_iff_exists.mp this
   unfold cellOf
   rw [hc]
   show forIn r ((x,c)::acc) f=_
   exact a0v f hf r _ hr
  ·exact a0v f hf r acc hr
theorem a6Z{scope:Scope}{env:Env}(h:∀x∈scope.names,x.2= .free->(env.cells.lookup x.1).isSome=true):closureFor scope env=pure (V8 env.cells scope.names []):=by
 unfold closureFor
 have e:=a0v (env:=env) (fun(x:Str×NameKind) (cs:List (Str×AB))=>if x.2== .free then(do let c<-cellOf env x.1;pure (.yield ((x.1,c)::cs))) else pure (.yield cs)) (fun _ _ _=>rfl) scope.names [] h
 show(forIn scope.names [] _>>=fun r=>pure r)=_
 refine Eq.trans (congrArg (· >>=fun r=>pure r) (Eq.trans (congrArg (forIn scope.names []) ?_) e)) rfl
 funext x cs
 cases x with
 |mk n k=>cases k<;>rfl
theorem a2n{env:Env}{x:Str}:∀{names:List (Str×NameKind)},(names.map fun(p:Str×NameKind)=>if(p.2==NameKind.free && env.scope.kind== .function && env.kindOf p.1==some .cell) then(p.1,NameKind.cell) else(p.1,p.2)).lookup x
 =(names.lookup x).map fun k=>if(k==NameKind.free && env.scope.kind== .function && env.kindOf x==some .cell) then NameKind.cell else k
 |[]=>rfl
 |(n,k)::r=>by
  rw [AM]
  have ih:= @a2n env x r
  show List.lookup x ((if(k==NameKind.free && env.scope.kind== .function && env.kindOf n==some .cell)=true then(n,NameKind.cell) else(n,k))::_)=_
  cases hx:x==n with
  |true=>
   have e:x=n:=by simpa using hx
   subst e
   by_cases c:(k==NameKind.free && env.scope.kind== .function && env.kindOf x==some .cell)=true
   ·rw [if_pos c,List.lookup_cons,hx,List.lookup_cons,hx];exact congrArg some (if_pos c).symm
   ·rw [if_neg c,List.lookup_cons,hx,List.lookup_cons,hx];exact congrArg some (if_neg c).symm
  |false=>
   by_cases c:(k==NameKind.free && env.scope.kind== .function && env.kindOf n==some .cell)=true
   ·rw [if_pos c,List.lookup_cons,hx,List.lookup_cons,hx];exact ih
   ·rw [if_neg c,List.lookup_cons,hx,List.lookup_cons,hx];exact ih
def O9(scope:Scope)(C:AB)(env:Env):Env:=
 {scope:=relabel scope env,locals:=C,globals:=env.globals,cells:=cellsFrom (C+1) scope.names (V8 env.cells scope.names []),qual:=env.qual,func:=none,code:=env.code,frame:=env.frame,builtins:=env.builtins}
def hid(ys:List Str)(x:Str):Str:=if ys.contains x=true then AE "0"++x else x
def Y0(X:Cx)(N0:List Str)(scope:Scope)(ys:List Str)(C:AB)(fp:List AB)(pins:List (AB×Obj))(s₃:AC)(H₃:Hp):Cx:=
 {X with N:=N0++ys,s₀:=s₃,H₀:=H₃,env:=O9 scope C X.env,outer:=X.stack,ex:=fp,fn:=fun x=>scope.names.lookup x==some .cell,pn:=X.pn++pins}
theorem Y1{scope:Scope}{C:AB}{env:Env}{x:Str}:(O9 scope C env).kindOf x=(scope.names.lookup x).map fun k=>if(k==NameKind.free && env.scope.kind== .function && env.kindOf x==some .cell) then NameKind.cell else k:=
 a2n
structure a0L(N N0 ys:List Str)(env:Env)(scope:Scope):Prop where
 eq:N0=N.map (hid ys)
 kind:scope.kind= .function
 nd:(scope.names.map (·.1)).Nodup
 fr:∀x∈scope.names,x.2= .free->env.kindOf x.1=some .cell\/env.kindOf x.1=some .free
 ou:∀x∈N,(ys.contains x=true->scope.names.lookup (hid ys x)=none)/\(ys.contains x=false->scope.names.lookup x=none\/scope.names.lookup x=some .free\/scope.names.lookup x=some .globalImplicit)
theorem G6{α:Type}:∀{l:List (Str×α)} {x:Str} {v:α},(l.map (·.1)).Nodup->(x,v)∈l->l.lookup x=some v
 |[],_,_,_,h=>nomatch h
 |(y,w)::r,x,v,nd,h=>by
  have nd':y∉r.map (·.1)/\(r.map (·.1)).Nodup:=List.nodup_cons.mp nd
  rw [List.lookup_cons]
  rcases Ak.mp h with e|h
  ·cases e;simp
  ·have:x≠y:=fun e=>nd'.1 (by rw [<-e];exact BE.mpr ⟨_,h,rfl⟩)
   have e:(x==y)=false:=by simpa using this
   rw [e]
   exact G6 nd'.2 h
section
variable {M:Model}{A:AK}{E:AA->AC->Prop}{s:AC}
theorem a2T{scope:Scope}{globals:AB}{cl:List (Str×AB)}{qual:Str}{env:Env}{builtins:AB}{Q:Env->AC->Prop}
 (h:Q (newEnv scope s.heap.objs.size globals (cellsFrom (s.heap.objs.size+1) scope.names cl) qual none .none (some env) builtins) {s with heap:=pushCells (s.heap.push {cls:= .type "dict",data:= .dict #[]}) scope.names}):
 AI M A (newFunctionEnv scope globals cl [] qual none .none (some env) builtins) Q E s:=by
 simp only [newFunctionEnv,Option.isSome_some,if_true]
 refine AF (wpAny_alloc ?_)
 refine AF (wpAny_layCells _ (fun name kind cells=>by cases hkc:kind==NameKind.cell<;>simp [hkc]) _ _ _ _ ?_)
 rw [show({s with heap:=s.heap.push {cls:= .type "dict",data:= .dict #[]}}:AC).heap.objs.size=s.heap.objs.size+1 from Heap.size_push ..]
 exact AF (AS (AS h))
end
section
variable {prog:AL}{w:AJ}{A:AK}{R:Result->AC->Prop}{s:AC}
theorem a2Q{elt target iter:AG}{ifs:List AG}{scope:Scope}{pos:Pos}{it acc:AA}{env:Env}(I:Nat->AC->Prop)
 (turn:∀n s,I n s->AI (model prog w) A (pyNext it) (fun r s₁=>match r with
  |none=>R (.ok .next) s₁
  |some v=>AI (model prog w) A (letOwnedTupleGo target it v) (fun _ s₁'=>AI (model prog w) A (assign target env v) (fun _ s₂=>
   AI (model prog w) A (forIn ifs true fun c r=>if r=true then do let ok<-isTrue c env (eval c env);pure (ForInStep.yield ok) else pure (ForInStep.yield r)) (fun ok s₃=>
    if ok=true then AI (model prog w) A (eval elt env) (fun x s₄=>
     AI (model prog w) A (call (.builtin "list.append") [acc,x]) (fun _ s₅=>∃m,m<n/\I m s₅) (fun _ _=>False) s₄) (fun _ _=>False) s₃
    else ∃m,m<n/\I m s₃) (fun _ _=>False) s₂) (fun _ _=>False) s₁') (fun _ _=>False) s₁) (fun _ _=>False) s)
 (n:Nat) (h:I n s):
 codeAny (model prog w) A (.compLoop (.ListComp elt [⟨target,iter,ifs,0⟩] scope pos) 0 it acc env) R s:=by
 refine codeAny_loop rfl I (fun n s hI=> ?_) n h
 show AI _ A ((compTurn (.ListComp elt [⟨target,iter,ifs,0⟩] scope pos) 0 it acc env).onRaise (fun x=>do noteFrame x env;theTreesLotGoes x)) _ _ s
 refine wpAny_noted ?_
 rw [compTurn_list]
 refine AF (wpAny_standAt (AF (wpAny_mono (turn n s hI) (fun r s₁ h₁=> ?_) fun _ _ h'=>h'.elim)))
 cases r with
 |none=>exact AS h₁
 |some v=>
  refine AF (wpAny_mono h₁ (fun _ s₁' h₁'=> ?_) fun _ _ h'=>h'.elim)
  refine AF (wpAny_mono h₁' (fun _ s₂ h₂=>AF (wpAny_mono h₂ (fun ok s₃ h₃=> ?_) fun _ _ h'=>h'.elim)) fun _ _ h'=>h'.elim)
  cases ok with
  |false=>exact AS ⟨rfl,h₃⟩
  |true=>
   exact AF (AF (wpAny_mono h₃ (fun x s₄ h₄=>AF (wpAny_mono h₄ (fun _ s₅ h₅=>AS (AS ⟨rfl,h₅⟩)) fun _ _ h'=>h'.elim)) fun _ _ h'=>h'.elim))
end
def PCs(X:Cx)(ifs:List AG)(t:TT):Prop:=
 ∀(pins:List (AB×Obj)) (s:AC) (σ:St) (H:Hp) (Q:Bool->Hp->Prop),n4 X pins σ H s->t σ H Q->
  AI (model X.prog X.w) X.A (forIn ifs true fun c r=>if r=true then do let ok<-isTrue c X.env (eval c X.env);pure (ForInStep.yield ok) else pure (ForInStep.yield r)) (TP X pins σ Q) X.xe s
def b9f:TT:=fun _ H Q=>Q true H
theorem b51{X:Cx}:PCs X [] b9f:=fun pins s σ H Q I h=>wpAny_tests_nil ⟨H,I,h⟩
def b4G(wi:TI)(g:TG)(tc:TT)(te:TE)(k:Nat):TE:=fun σ H Q=>wi σ H fun J H1=>∀D,H1 D=none->∃W:Nat->Nat->List V->Hp->Prop,(∃m,W 0 m [] (upd H1 D (.lst [])))/\∀i m xs H2,W i m xs H2->H2 D=some (.lst xs)->
 (J.stop i H2/\Q (.ref D) H2)\/(J.go i H2/\∀x H3,J.yld i H2 x H3->g x (σ++AR k none) H3 fun σ4 H4=>(∀(j:Nat) v,(σ++AR k none)[j]?=some (some v)->σ4[j]?=some (some v))/\tc σ4 H4 fun b H5=>if b=true then te σ4 H5 fun v H6=>H6 D=some (.lst xs)/\xs.length<AO/\∃m',m'<m/\W (i+1) m' (xs++[v]) (upd H6 D (.lst (xs++[v])))
  else H5 D=some (.lst xs)/\∃m',m'<m/\W (i+1) m' xs H5)
section
variable {X:Cx}{elt iter tg:AG}{ifs:List AG}{scope:Scope}{N0 ys:List Str}{wi:TI}{g:TG}{tc:TT}{te:TE}{pos:Pos}
theorem a1l{pins:List (AB×Obj)}{σ:St}{H:Hp}{s:AC}(I:n4 X pins σ H s)(S:a0L X.N N0 ys X.env scope){x:Str}(h:(x,NameKind.free)∈scope.names):∃c,X.env.cells.lookup x=some c:=I.ok.has x (S.fr _ h rfl)
theorem b0g{pins:List (AB×Obj)}{σ:St}{H:Hp}{s:AC}{fp:List AB}(S:a0L X.N N0 ys X.env scope)(I:n4 X pins σ H s)(hf:∀b∈fp,a4g X pins H b)(ho:∀b∈fp,∃o,s.heap.get? b=some o/\∀v,o.data≠.cell v):
 n4 (Y0 X N0 scope ys s.heap.objs.size fp pins s H) [] (σ++AR ys.length none) H {s with heap:=pushCells (s.heap.push {cls:= .type "dict",data:= .dict #[]}) scope.names}:=by
 have up:∀b o,s.heap.get? b=some o->(pushCells (s.heap.push {cls:= .type "dict",data:= .dict #[]}) scope.names).get? b=some o:=fun b o e=>pushCells_keeps _ _ b o (Ah _ e)
 have okc:=cellsFrom_ok scope.names (s.heap.push {cls:= .type "dict",data:= .dict #[]}) (s.heap.objs.size+1) [] ⟨fun _ _ hm=>(nomatch hm),List.Pairwise.nil⟩ (by rw [Heap.size_push];exact AV _)
 rw [Heap.size_push] at okc
 have cel:∀x c,(O9 scope s.heap.objs.size X.env).cells.lookup x=some c->((x,c)∈cellsFrom (s.heap.objs.size+1) scope.names []/\(x,NameKind.cell)∈scope.names/\s.heap.objs.size<c)\/(X.env.cells.lookup x=some c/\(x,NameKind.free)∈scope.names):=fun x c e=>by
  have m:=PySem.mem_of_lookup e
  have m:(x,c)∈cellsFrom (s.heap.objs.size+1) scope.names (V8 X.env.cells scope.names []):=m
  rw [J7] at m
  rcases Au.mp m with m|m
  ·obtain⟨h1,h2⟩:=Q0 m
   exact .inl ⟨m,h2,h1⟩
  ·rcases a4k m with m|⟨m,e⟩
   ·exact nomatch m
   ·obtain⟨c',hc'⟩:=a1l I S m
    rw [hc'] at e
    exact .inr ⟨by rw [hc',e];rfl,m⟩
 have celLt:∀x c,X.env.cells.lookup x=some c->c<s.heap.objs.size:=fun x c e=>let ⟨_,h⟩:=I.cell x c e;h.lt
 have fpLt:∀b∈fp,b<s.heap.objs.size:=fun b hb=>let ⟨_,e,_⟩:=ho b hb;Aa e
 have cellNo:∀x,(x,NameKind.cell)∉scope.names->(cellsFrom (s.heap.objs.size+1) scope.names []).lookup x=none:=fun x hx=>a5W fun c m=>hx (Q0 m).2
 have look:∀x,(x,NameKind.free)∈scope.names->(O9 scope s.heap.objs.size X.env).cells.lookup x=X.env.cells.lookup x:=fun x m=>by
  have hl:=G6 S.nd m
  have hn:(x,NameKind.cell)∉scope.names:=fun z=>by
   have:=G6 S.nd z
   rw [hl] at this;cases this
  show(cellsFrom (s.heap.objs.size+1) scope.names (V8 X.env.cells scope.names [])).lookup x=_
  rw [J7,a23 (cellNo x hn),a1b S.nd hl]
  obtain⟨c,hc⟩:=a1l I S m
  rw [hc];rfl
 have kindF:∀x,scope.names.lookup x=some .free->X.env.kindOf x=some .cell\/X.env.kindOf x=some .free:=fun x h=>S.fr _ (PySem.mem_of_lookup h) rfl
 refine⟨⟨I.mod,S.kind,I.ok.glob,I.ok.blt,AV _,fun x y c h1 h2=> ?_,fun x h=> ?_,fun x c h1 h2=> ?_,I.ok.hd,I.ok.frames,.inl rfl,fun b hb=> ?_,I.bs,Nat.le_trans I.ok.bsz I.sz,fun b o e hb=> ?_,fun b hb hz=> ?_,I.stack,I.stkFree⟩,
  rfl,I.bare,Un.kept up,⟨fun _=>none, ?_,fun i x v h1 h2 h3=> ?_⟩,fun x c e=> ?_,I.hok.fresh (AV _),fun x c e=> ?_,fun p hp=> ?_,I.hok.kept up, ?_⟩
 ·rcases cel x c h1 with⟨a1,b1,c1⟩|⟨a1,b1⟩
  ·rcases cel y c h2 with⟨a2,b2,c2⟩|⟨a2,b2⟩
   ·exact name_of_addr okc.apart a1 a2
   ·exact absurd (Nat.lt_trans c1 (celLt y c a2)) (Nat.lt_irrefl _)
  ·rcases cel y c h2 with⟨a2,b2,c2⟩|⟨a2,b2⟩
   ·exact absurd (Nat.lt_trans c2 (celLt x c a1)) (Nat.lt_irrefl _)
   ·exact I.ok.inj x y c a1 a2
 ·have hk:(O9 scope s.heap.objs.size X.env).kindOf x=some .cell\/(O9 scope s.heap.objs.size X.env).kindOf x=some .free:=h
  rw [Y1] at hk
  cases e:scope.names.lookup x with
  |none=>rw [e] at hk;rcases hk with z|z<;>cases z
  |some k=>
   rw [e] at hk
   have hk':k= .cell\/k= .free:=by
    by_cases c:(k==NameKind.free && X.env.scope.kind== .function && X.env.kindOf x==some .cell)=true
    ·have:(k==NameKind.free)=true:=by
      rw [Bool.and_eq_true,Bool.and_eq_true] at c;exact c.1.1
     exact .inr (by simpa using this)
    ·simp only [Af] at hk
     rw [if_neg c] at hk
     rcases hk with z|z
     ·cases z;exact .inl rfl
     ·cases z;exact .inr rfl
   rcases hk' with rfl|rfl
   ·have q:=PySem.W.cellsFrom_some (x:=x) scope.names (s.heap.objs.size+1) (V8 X.env.cells scope.names []) (.inl e)
    exact Option.isSome_iff_exists.mp q
   ·obtain⟨c,hc⟩:=a1l I S (PySem.mem_of_lookup e)
    exact⟨c,by show(O9 scope s.heap.objs.size X.env).cells.lookup x=_;rw [look x (PySem.mem_of_lookup e)];exact hc⟩
 ·rcases cel x c h2 with⟨_,_,c1⟩|⟨_,b1⟩
  ·exact BB c1
  ·have h1':(scope.names.lookup x==some .cell)=true:=h1
   rw [G6 S.nd b1] at h1'
   cases h1'
 ·refine⟨Ao (fpLt b hb),fun x c e z=> ?_⟩
  rcases cel x c e with⟨_,_,c1⟩|⟨a1,_⟩
  ·rw [z] at c1;exact absurd (Nat.lt_trans c1 (fpLt b hb)) (Nat.lt_irrefl _)
  ·exact(hf b hb).2.2.2.2.1 x c a1 z
 ·have hb:b∈fp:=hb
  rcases(hf b hb).2.2.2.1 with z|z
  ·exact I.ok.noex b o e z
  ·have h1:=(I.ok.bs b o e).1
   have:=Aa h1
   exact absurd (As this z) (Nat.lt_irrefl _)
 ·have hb:b∈fp:=hb
  have hz:b∈frs X.stack:=hz
  rcases Ak.mp (I.stkSub b hz) with z|z
  ·exact(hf b hb).2.1 z
  ·exact(hf b hb).2.2.1 z
 ·exact(Heap.Ns.new s.heap (.type "dict")).keeps (pushCells_keeps _ _)
 ·have h1:(N0++ys)[i]?=some x:=h1
  rw [S.eq] at h1
  have hi:i<σ.length:=by
   by_cases hi:i<σ.length
   ·exact hi
   ·rw [List.getElem?_append_right (by lia),List.getElem?_replicate] at h2
    split at h2<;>cases h2
  rw [Az hi] at h2
  rw [Az (by rw [An,<-I.len];exact hi),Ax] at h1
  have hvis:Vis (O9 scope s.heap.objs.size X.env).scope x:=h3
  have hkn:scope.names.lookup x=none->False:=fun z=>by
   have hk:∀k,(O9 scope s.heap.objs.size X.env).kindOf x=some k->scope.names.lookup x≠none:=fun k z e=>by
    rw [Y1,e] at z;cases z
   rcases hvis with e|e|e<;>exact absurd z (hk _ e)
  have h1:X.N[i]?=some x/\ys.contains x=false:=by
   cases e0:X.N[i]? with
   |none=>rw [e0] at h1;cases h1
   |some x0=>
    rw [e0] at h1
    have h1:hid ys x0=x:=Option.some.inj h1
    have ho:=S.ou x0 (BC e0)
    cases hc:ys.contains x0 with
    |true=>exact(hkn (by rw [<-h1];exact ho.1 hc)).elim
    |false=>
     have hx:x0=x:=by rw [<-h1];unfold hid;rw [if_neg (by rw [hc];exact Aq)]
     subst hx
     exact⟨rfl,hc⟩
  obtain⟨h1,hys⟩:=h1
  have hfree:scope.names.lookup x=some .free:=by
   have hk:∀k,(O9 scope s.heap.objs.size X.env).kindOf x=some k->scope.names.lookup x≠none:=fun k z e=>by
    rw [Y1,e] at z;cases z
   rcases(S.ou x (BC h1)).2 hys with z|z|z
   ·rcases hvis with e|e|e<;>exact absurd z (hk _ e)
   ·exact z
   ·have hg:(O9 scope s.heap.objs.size X.env).kindOf x=some .globalImplicit:=by
     rw [Y1,z];rfl
    rcases hvis with e|e|e
    ·have e:(O9 scope s.heap.objs.size X.env).kindOf x=some .local:=e
     rw [hg] at e;cases e
    ·have e:(O9 scope s.heap.objs.size X.env).kindOf x=some .cell:=e
     rw [hg] at e;cases e
    ·have e:(O9 scope s.heap.objs.size X.env).kindOf x=some .free:=e
     rw [hg] at e;cases e
  obtain⟨m,hn,hl⟩:=I.loc
  have hv:Vis X.env.scope x:=by
   rcases kindF x hfree with z|z
   ·exact .inr (.inl z)
   ·exact .inr (.inr z)
  obtain⟨u,r,l⟩:=hl i x v h1 h2 hv
  refine⟨u,r, ?_⟩
  rcases l with⟨k,_⟩|⟨k,c,e,z⟩
  ·rcases kindF x hfree with q|q<;>rw [q] at k<;>cases k
  ·refine .inr ⟨?_,c,by show(O9 scope s.heap.objs.size X.env).cells.lookup x=_;rw [look x (PySem.mem_of_lookup hfree)];exact e,z.keeps up⟩
   show(O9 scope s.heap.objs.size X.env).kindOf x=some .cell\/(O9 scope s.heap.objs.size X.env).kindOf x=some .free
   rw [Y1,hfree]
   by_cases cc:((NameKind.free==NameKind.free)&& X.env.scope.kind== .function && X.env.kindOf x==some .cell)=true
   ·exact .inl (congrArg some (if_pos cc))
   ·exact .inr (congrArg some (if_neg cc))
 ·rcases cel x c e with⟨a1,_,_⟩|⟨a1,_⟩
  ·exact⟨none,(okc.empty x c a1).1⟩
  ·obtain⟨v,z⟩:=I.cell x c a1
   exact⟨v,z.keeps up⟩
 ·rcases cel x c e with⟨_,_,c1⟩|⟨a1,_⟩
  ·exact I.hok.fresh (BB c1)
  ·exact I.freeC x c a1
 ·have hp:p∈(X.pn++pins)++[]:=hp
  rw [Ae] at hp
  obtain⟨e,n,ne,nf,d⟩:=I.pin p hp
  refine⟨up _ _ e,n,Ao (Aa e),fun hz=> ?_,d⟩
  have hz:p.1∈frs X.stack:=hz
  rcases Ak.mp (I.stkSub p.1 hz) with z|z
  ·exact ne z
  ·exact nf z
 ·show(σ++AR ys.length none).length=(N0++ys).length
  rw [AZ,List.length_replicate,AZ,S.eq,An,I.len]
end
section
variable {X:Cx}{elt iter tg:AG}{ifs:List AG}{scope:Scope}{N0 ys:List Str}{wi:TI}{g:TG}{tc:TT}{te:TE}{pos:Pos}
def b2U(X:Cx)(pins:List (AB×Obj))(C:AB):Prop:=C≠X.env.locals/\X.s₀.heap.objs.size<=C/\(∀x c,X.env.cells.lookup x=some c->c≠C)/\∀p∈X.pn++pins,p.1≠C
theorem b10{pos':Pos}{use:Option (AA->Sem Unit)}{QQ:AA->AC->Prop}(hx:∀e s,X.xe e s->False)(hc:X.calm=true)(S:a0L X.N N0 ys X.env scope)(hi:PI X tg iter wi)
 (hg:∀C fp pins s H,PG (Y0 X N0 scope ys C fp pins s H) tg g) (ht:∀C fp pins s H,PCs (Y0 X N0 scope ys C fp pins s H) ifs tc) (he:∀C fp pins s H,PE (Y0 X N0 scope ys C fp pins s H) elt te)
 (hs:∀x,foldedSetIterable iter X.env x=pure x) {pins:List (AB×Obj)} {s:AC} {σ:St} {H:Hp} {Q:VK} (I:n4 X pins σ H s) (h:b4G wi g tc te ys.length σ H Q)
 (fin:∀D C s' H' m,n4 X pins σ H' s'->s'.heap.Ns C m->H' C=none->b2U X pins C->Q (.ref D) H'->compPost (model X.prog X.w) X.A X.xe use QQ (.ref D) C (.ok .next) s'):
 AI (model X.prog X.w) X.A (comprehension (.ListComp elt [⟨tg,iter,ifs,0⟩] scope pos) scope X.env pos' (newList []) false (eval iter X.env) use) QQ X.xe s:=by
 have hcl:closureFor scope X.env=pure (V8 X.env.cells scope.names []):=a6Z fun x hx' hk=>by
  obtain⟨c,e⟩:=a1l (ys:=ys) I S (x:=x.1) (by rw [<-hk];exact hx')
  rw [e];rfl
 refine wpAny_comprehension_free (use:=use) rfl hs hcl S.kind (fun x hx' hk=>G6 S.nd (by rw [<-hk];exact hx')) (M3 (hi pins s σ H _ I h) fun v s1 h1=>M3 h1 fun itv s2 h2=> ?_)
 obtain⟨it,fp,tn,J,H2,e,I2,T,st2,f2,hW⟩:=h2
 subst e
 have hfr:=I2.hok.fresh (AV _)
 obtain⟨W,⟨m0,w0⟩,turn⟩:=hW s2.heap.objs.size hfr
 have fpLt:∀b∈fp,b<s2.heap.objs.size:=fun b hb=>let ⟨_,e,_⟩:=T.obj _ _ st2 b hb;Aa e
 refine wpAny_newObj_type ?_
 have I3:n4 X pins σ (upd H2 s2.heap.objs.size (.lst [])) {s2 with heap:=s2.heap.push {cls:= .type "list",data:= .seq ([]:List AA).toArray}}:=
  I2.laid (t':=s2.toks) (fun b o e=>Ah _ e) (AV _) ⟨by decide,[],0,.nil,Ar _ rfl⟩
 have up3:∀b o,s2.heap.get? b=some o->(s2.heap.push {cls:= .type "list",data:= .seq ([]:List AA).toArray}).get? b=some o:=fun b o e=>Ah _ e
 have st3:tn 0 (s2.heap.push {cls:= .type "list",data:= .seq ([]:List AA).toArray}):=T.keep _ _ _ st2 fun b _ o e=>up3 b o e
 have f3:∀b∈fp,a4g X pins (upd H2 s2.heap.objs.size (.lst [])) b:=fun b hb=>⟨by rw [o8 (Ao (fpLt b hb))];exact(f2 b hb).1,(f2 b hb).2⟩
 generalize hs3:({s2 with heap:=s2.heap.push {cls:= .type "list",data:= .seq ([]:List AA).toArray}}:AC)=s3 at I3
 have hs3h:s3.heap=s2.heap.push {cls:= .type "list",data:= .seq ([]:List AA).toArray}:=by rw [<-hs3]
 rw [<-hs3h] at st3 up3
 refine a2T ?_
 have I4:=b0g S I3 f3 (T.obj _ _ st3)
 generalize hs4:({s3 with heap:=pushCells (s3.heap.push {cls:= .type "dict",data:= .dict #[]}) scope.names}:AC)=s4 at I4 ⊢
 have hs4h:s4.heap=pushCells (s3.heap.push {cls:= .type "dict",data:= .dict #[]}) scope.names:=by rw [<-hs4]
 have st4:tn 0 s4.heap:=T.keep _ _ _ st3 fun b _ o e=>by rw [hs4h];exact pushCells_keeps _ _ b o (Ah _ e)
 generalize hX:Y0 X N0 scope ys s3.heap.objs.size fp pins s3 (upd H2 s2.heap.objs.size (.lst []))=Y at I4
 have Yp:Y.prog=X.prog:=by rw [<-hX];rfl
 have Yw:Y.w=X.w:=by rw [<-hX];rfl
 have YK:Y.K=X.K:=by rw [<-hX];rfl
 have YA:Y.A=X.A:=by rw [<-hX];rfl
 have Yc:Y.calm=true:=by rw [<-hX];exact hc
 have Yx:Y.xe=X.xe:=by rw [<-hX];rfl
 have YL:Y.env.locals=s3.heap.objs.size:=by rw [<-hX];rfl
 have Yf:Y.fs=frs X.stack:=by rw [<-hX];rfl
 have Ye:Y.ex=fp:=by rw [<-hX];rfl
 have Yn:Y.pn=X.pn++pins:=by rw [<-hX];rfl
 have Ys:Y.s₀=s3:=by rw [<-hX];rfl
 have YH:Y.H₀=upd H2 s2.heap.objs.size (.lst []):=by rw [<-hX];rfl
 have YE:Y.env=O9 scope s3.heap.objs.size X.env:=by rw [<-hX];rfl
 have hgY:PG Y tg g:=by rw [<-hX];exact hg _ _ _ _ _
 have htY:PCs Y ifs tc:=by rw [<-hX];exact ht _ _ _ _ _
 have heY:PE Y elt te:=by rw [<-hX];exact he _ _ _ _ _
 have nlen:(σ++AR ys.length none).length=Y.N.length:=I4.len
 have exf:=I4.ok.exf
 have exfs:=I4.ok.exfs
 have stat:∀{H':Hp},(∀b∈fp,H' b=none)->∀b∈fp,a4g Y [] H' b:=fun {H'} hn b hb=>by
  have hb':b∈Y.ex:=by rw [Ye];exact hb
  refine⟨hn b hb,(exf b hb').1,exfs b hb',.inl hb',(exf b hb').2,fun p hp=> ?_⟩
  rw [Ae,Yn] at hp
  exact(f2 b hb).2.2.2.2.2 p hp
 have TY:b1X Y.prog Y.w Y.K tg J fp it tn:=by rw [Yp,Yw,YK];exact T
 have noX:∀e s,Y.xe e s->False:=fun e s h=>hx e s (by rw [<-Yx];exact h)
 have loop:∀R:Result->AC->Prop,(∀s' H' m,n4 X pins σ H' s'->s'.heap.Ns s3.heap.objs.size m->H' s3.heap.objs.size=none->b2U X pins s3.heap.objs.size->Q (.ref s2.heap.objs.size) H'->R (.ok .next) s')->
  codeAny (model X.prog X.w) X.A (.compLoop (.ListComp elt [⟨tg,iter,ifs,0⟩] scope pos) 0 (.ref it) (.ref s2.heap.objs.size) (O9 scope s3.heap.objs.size X.env)) R s4:=by
  intro R hR
  refine a2Q (fun n s'=>∃i xs H' σ',n4 Y [] σ' H' s'/\(∀(j:Nat) v,(σ++AR ys.length none)[j]?=some (some v)->σ'[j]?=some (some v))/\tn i s'.heap/\(∀b∈fp,H' b=none)/\H' s2.heap.objs.size=some (.lst xs)/\W i n xs H') ?_ m0
   ⟨0,[],_,_,I4,fun _ _ e=>e,st4,fun b hb=>(f3 b hb).1,y4,w0⟩
  rintro n s5 ⟨i,xs,H5,σ5,I5,k5,st5,fr5,hD5,w5⟩
  have I5:n4 Y [] (σ++AR ys.length none) H5 s5:=I5.weak (by rw [nlen,I5.len]) k5
  rw [<-Yp,<-Yw,<-YA]
  rcases turn i n xs H5 w5 hD5 with⟨stop,q⟩|⟨go,step⟩
  ·refine wpAny_mono (TY.done Y rfl rfl rfl Yc i [] s5 _ H5 (fun _ _=>False) I5 (stat fr5) st5 stop) (fun r s6 ⟨hr,I6⟩=> ?_) fun _ _ z=>z
   subst hr
   obtain⟨m,hn,_⟩:=I6.loc
   have un:=I6.base
   rw [Yf,Ye,Ys,YH] at un
   rw [YL] at hn
   have hfC:=I6.free
   rw [YL] at hfC
   refine hR s6 H5 m (I3.call' (ch:=fp) (by rw [I6.os,Ys]) un (by have z:=I6.hok;rw [Yp,Yw] at z;exact z) I6.bare fun b hb=>⟨(f3 b hb).2.2.2.1,(f3 b hb).2.1,(f3 b hb).2.2.2.2.1,(f3 b hb).2.2.2.2.2⟩) hn hfC ⟨Nat.ne_of_gt I3.lt,I3.sz,fun x c e=> ?_,fun p hp=> ?_⟩ q
   ·obtain⟨v,z⟩:=I3.cell x c e
    exact Ao z.lt
   ·exact Ao (Aa (I3.pin p hp).1)
  ·refine wpAny_mono (TY.item Y rfl rfl rfl Yc i [] s5 _ H5 (fun _ _=>False) I5 (stat fr5) st5 go) (fun r s6 ⟨u,hr,h6⟩=> ?_) fun _ _ z=>z
   subst hr
   dsimp only
   refine wpAny_mono h6 (fun _ s7 ⟨x,H7,I7,r7,y7,st7,fr7⟩=> ?_) fun _ _ z=>z
   have I7':=I7.pinned (stat fr7) (T.obj _ _ st7)
   rw [<-YE]
   have keepT:∀{σ8:St} {H8:Hp} {s8:AC},n4 Y ([]++a6u fp s7.heap) σ8 H8 s8->tn (i+1) s8.heap/\∀b∈fp,H8 b=none:=fun {σ8 H8 s8} I8=>by
    refine⟨T.keep _ _ _ st7 fun b hb o e=>(I8.pin (b,o) (At _ (At _ (a1n hb e)))).1,fun b hb=> ?_⟩
    obtain⟨o,e,d⟩:=T.obj _ _ st7 b hb
    exact(I8.pin (b,o) (At _ (At _ (a1n hb e)))).2.1
   refine wpAny_mono (hgY _ s7 _ H7 x u _ I7' r7 (step x H7 y7)) (fun _ s8 ⟨σ8,H8,I8,k8,q8⟩=> ?_) fun e s z=>noX e s z
   refine wpAny_mono (htY _ s8 σ8 H8 _ I8 q8) (fun b s9 ⟨H9,I9,q9⟩=> ?_) fun e s z=>noX e s z
   cases b with
   |false=>
    rw [if_neg Aq] at q9 ⊢
    obtain⟨hD9,m',lt,w9⟩:=q9
    obtain⟨t9,n9⟩:=keepT I9
    exact⟨m',lt,i+1,xs,H9,σ8,I9.pins_of (fun p hp=>nomatch hp),k8,t9,n9,hD9,w9⟩
   |true=>
    rw [if_pos rfl] at q9 ⊢
    refine wpAny_mono (heY _ s9 σ8 H9 _ I9 q9) (fun y s10 ⟨v,H10,I10,r10,hD10,hz,m',lt,w10⟩=> ?_) fun e s z=>noX e s z
    refine wpAny_mono (a7D _ s10 σ8 H10 (.ref s2.heap.objs.size) [v] (.ref s2.heap.objs.size) [y] (fun _ H'=>H'=upd H10 s2.heap.objs.size (.lst (xs++[v]))) I10 rfl (.cons r10 .nil) ⟨_,xs,v,rfl,rfl,hD10,hz,rfl⟩) (fun _ s11 ⟨_,H11,I11,_,e11⟩=> ?_) fun e s z=>noX e s z
    subst e11
    obtain⟨t11,n11⟩:=keepT I11
    exact⟨m',lt,i+1,xs++[v],_,σ8,I11.pins_of (fun p hp=>nomatch hp),k8,t11,n11,y4,w10⟩
 show codeAny _ _ (.compStart _ 0 _ _ (O9 scope s3.heap.objs.size X.env)) _ _
 refine codeAny_compStart_list (loop _ fun s' H' m a b c d e=>fin _ _ s' H' m a b c d e) (T.self _ 0 _ _ _ st4 (loop _ fun s' H' m a b c d e=>fin _ _ s' H' m a b c d e))
end
section
variable {X:Cx}{elt iter tg:AG}{ifs:List AG}{scope:Scope}{N0 ys:List Str}{wi:TI}{g:TG}{tc:TT}{te:TE}{pos:Pos}
theorem b54(hx:∀e s,X.xe e s->False)(hc:X.calm=true)(S:a0L X.N N0 ys X.env scope)(hi:PI X tg iter wi)
 (hg:∀C fp pins s H,PG (Y0 X N0 scope ys C fp pins s H) tg g) (ht:∀C fp pins s H,PCs (Y0 X N0 scope ys C fp pins s H) ifs tc) (he:∀C fp pins s H,PE (Y0 X N0 scope ys C fp pins s H) elt te)
 (hs:∀x,foldedSetIterable iter X.env x=pure x:=by intro _;rfl):PE X (.ListComp elt [⟨tg,iter,ifs,0⟩] scope pos) (b4G wi g tc te ys.length):=by
 intro pins s σ H Q I h
 rw [eval_ListComp]
 refine b10 hx hc S hi hg ht he hs I h fun D C s' H' m I' hn hC gone q=>⟨m,hn,fun h' hs'=>⟨.ref D,H', ?_,rfl,q⟩⟩
 obtain⟨g1,g2,g3,g4⟩:=gone
 exact I'.turned (t':=s'.toks) (fun b o hb e=>hs'.extBut b o hb e) hC g1 (.inr g2) g3 g4
end
end L2
namespace PU
open PySem PySem.Spec PyProof.Rows L2
def a4M(c:MT)(elt:M)(tg:PV->d4->Option d4)(ρ:d4):List PV->Option (List PV)
 |[]=>some []
 |p::ps=>(tg p ρ).bind fun ρ1=>(c ρ1).bind fun b=>if b=true then((elt ρ1).bind g6.toVal).bind fun q=>(a4M c elt tg ρ ps).bind fun r=>some (q::r) else a4M c elt tg ρ ps
def Z0:MT:=fun _=>some true
def V9(k:Nat)(it:MI)(tg:PV->d4->Option d4)(c:MT)(elt:M):M:=fun ρ=>(it ρ).bind fun ps=>if ps.length<=AO then(a4M c elt tg (ρ++AR k none) ps).bind fun r=>some (.own r) else none
def a85(K:AD)(n:Nat)(g:TG)(tg:PV->d4->Option d4):Prop:=
 ∀F H σ ρ ρ1 p x (Q:L2.St->Hp->Prop),K4 K F H σ ρ->M2 K F p x->tg p ρ=some ρ1->(∀σ',K4 K F H σ' ρ1->(∀(j:Nat),j<n->σ'[j]?=σ[j]?)->Q σ' H)->g x σ H Q
theorem K4.set{K:AD}{F H:Hp}{σ:L2.St}{ρ:d4}{p:PV}{x:V}(e:K4 K F H σ ρ)(r:M2 K F p x)(i:Nat):K4 K F H (σ.set i (some x)) (ρ.set i (some (.val p))):=by
 refine⟨e.fh,by simp [e.len],fun j q h=> ?_,fun j ps h=> ?_,fun j k ps qs a hjk h1 h2 h3 h4=> ?_⟩
 ·rw [List.getElem?_set] at h ⊢
  by_cases hij:i=j
  ·subst hij
   rw [if_pos rfl] at h ⊢
   rw [e.len]
   split at h
   ·rename_i c;cases h;rw [if_pos c];exact⟨x,rfl,r⟩
   ·cases h
  ·rw [if_neg hij] at h ⊢;exact e.at_ j q h
 ·rw [List.getElem?_set] at h
  by_cases hij:i=j
  ·subst hij
   rw [if_pos rfl] at h
   split at h<;>cases h
  ·rw [if_neg hij] at h;exact e.nb j ps h
 ·have get:∀(j:Nat) (ps:a1Q),(ρ.set i (some (g6.val p)))[j]?=some (some (g6.ow ps))->i≠j/\ρ[j]?=some (some (g6.ow ps)):=fun j ps h=>by
   rw [List.getElem?_set] at h
   by_cases hij:i=j
   ·subst hij
    rw [if_pos rfl] at h
    split at h<;>cases h
   ·rw [if_neg hij] at h;exact⟨hij,h⟩
  obtain⟨n1,h1⟩:=get j ps h1
  obtain⟨n2,h2⟩:=get k qs h2
  rw [List.getElem?_set_ne n1] at h3
  rw [List.getElem?_set_ne n2] at h4
  exact e.ap j k ps qs a hjk h1 h2 h3 h4
theorem a0c{K:AD}{n i:Nat}(h:n<=i):a85 K n (b1r i) (B8 i):=fun F H σ ρ ρ1 p x Q e r q k=>by
 cases q
 exact k _ (e.set r i) fun j hj=>by rw [List.getElem?_set_ne (by lia)]
theorem K4.setAll{K:AD}{F H:Hp}{n:Nat}:∀{is:List Nat} {xs:List V} {ps:List PV} {σ:L2.St} {ρ:d4},(∀i∈is,n<=i)->K4 K F H σ ρ->p8 K F ps xs->K4 K F H (PU.setAll σ is xs) (PU.setAll ρ is (ps.map .val))/\∀(j:Nat),j<n->(PU.setAll σ is xs)[j]?=σ[j]?
 |[],xs,ps,σ,ρ,_,s,r=>by
  have e1:PU.setAll σ [] xs=σ:=by cases xs<;>rfl
  have e2:PU.setAll ρ [] (ps.map g6.val)=ρ:=by cases ps<;>rfl
  rw [e1,e2];exact⟨s,fun _ _=>rfl⟩
 |i::is,xs,[],σ,ρ,_,s,r=>by cases r;exact⟨s,fun _ _=>rfl⟩
 |i::is,xs,p::ps,σ,ρ,h,s,⟨v,t,e,rp,rl⟩=>by
  subst e
  obtain⟨h1,h2⟩:=K4.setAll (is:=is) (n:=n) (fun j hj=>h j (Aj _ hj)) (s.set rp i) rl
  refine⟨h1,fun j hj=> ?_⟩
  have hi:=h i Ai
  show(PU.setAll (σ.set i (some v)) is t)[j]?=_
  rw [h2 j hj,List.getElem?_set_ne (by lia)]
theorem K4.more{K:AD}{F H:Hp}{σ:L2.St}{ρ:d4}(e:K4 K F H σ ρ)(k:Nat):K4 K F H (σ++AR k none) (ρ++AR k none):=by
 have key:∀(j:Nat) (q:g6),(ρ++AR k none)[j]?=some (some q)->ρ[j]?=some (some q)/\(σ++AR k none)[j]?=σ[j]?:=fun j q h=>by
  by_cases hj:j<ρ.length
  ·rw [Az hj] at h
   rw [Az (by rw [e.len];exact hj)]
   exact⟨h,rfl⟩
  ·rw [List.getElem?_append_right (by lia),List.getElem?_replicate] at h
   split at h<;>cases h
 refine⟨e.fh,by simp [e.len],fun j q h=> ?_,fun j ps h=>e.nb j ps (key j _ h).1,fun j k' ps qs a hjk h1 h2 h3 h4=> ?_⟩
 ·obtain⟨h1,h2⟩:=key j q h
  rw [h2];exact e.at_ j q h1
 ·obtain⟨a1,b1⟩:=key j _ h1
  obtain⟨a2,b2⟩:=key k' _ h2
  rw [b1] at h3
  rw [b2] at h4
  exact e.ap j k' ps qs a hjk a1 a2 h3 h4
def WC(K:AD)(F H:Hp)(D:AB)(c:MT)(elt:M)(tg:PV->d4->Option d4)(ρ:d4)(ps r:List PV)(i m:Nat)(xs:List V)(H':Hp):Prop:=
 ∃F' done A3,i<=ps.length/\m=ps.length - i/\Ext F H F' H'/\F' D=none/\p8 K F' done xs/\done.length<=i/\a4M c elt tg ρ (ps.drop i)=some A3/\done++A3=r
theorem b12{K:AD}{F H:Hp}{D:AB}{c:MT}{elt:M}{tg:PV->d4->Option d4}{g:TG}{σ:L2.St}{ρ:d4}{k:Nat}{ps r:List PV}{i m:Nat}{xs:List V}{H':Hp}{p:PV}{x:V}
 (T:a85 K ρ.length g tg) (en:K4 K F H σ ρ) (hD:H D=none) (hsz:ps.length<=AO) (W:WC K F H D c elt tg (ρ++AR k none) ps r i m xs H') (hx:H' D=some (.lst xs)) (ep:ps[i]?=some p) (rx:M2 K F p x):
 g x (σ++AR k none) H' fun σ4 H4=>(∀(j:Nat) v,(σ++AR k none)[j]?=some (some v)->σ4[j]?=some (some v))/\tMT K c σ4 H4 fun b H5=>if b=true then tM K elt σ4 H5 fun v H6=>H6 D=some (.lst xs)/\xs.length<AO/\∃m',m'<m/\WC K F H D c elt tg (ρ++AR k none) ps r (i+1) m' (xs++[v]) (upd H6 D (.lst (xs++[v])))
  else H5 D=some (.lst xs)/\∃m',m'<m/\WC K F H D c elt tg (ρ++AR k none) ps r (i+1) m' xs H5:=by
 obtain⟨F',done,A3,hi,hm,ex,fD,rl,dl,hc,hr⟩:=W
 have hk:i<ps.length:=(Aw.mp ep).1
 have hd:ps.drop i=p::ps.drop (i+1):=by
  rw [List.drop_eq_getElem_cons hk]
  congr 1
  exact(Aw.mp ep).2
 rw [hd] at hc
 unfold a4M at hc
 obtain⟨ρ1,e1,hc⟩:=bind_some hc
 obtain⟨b,e2,hc⟩:=bind_some hc
 have en':=(en.ext ex).more k
 refine T F' H' _ _ ρ1 p x _ en' (M2.mono ex.f _ rx) e1 fun σ4 en4 keep=>⟨fun j v e=> ?_, ?_⟩
 ·by_cases hj:j<ρ.length
  ·rw [keep j hj];exact e
  ·rw [List.getElem?_append_right (by rw [en.len];lia),List.getElem?_replicate] at e
   split at e<;>cases e
 refine⟨F',ρ1,b,en4,e2,fun F5 H5 x5=> ?_⟩
 have ex5:=ex.trans x5
 have fD5:F5 D=none:=x5.nw D _ fD hx (fun _ h=>nomatch h)
 cases b with
 |false=>
  rw [if_neg Aq] at hc
  refine a9u ⟨x5.h _ _ hx,ps.length - (i+1),by lia,F5,done,A3,by lia,rfl,ex5,fD5,p8.mono x5.f _ rl,by lia,hc,hr⟩
 |true=>
  rw [if_pos rfl] at hc
  obtain⟨q,e3,hc⟩:=bind_some hc
  obtain⟨rt,e4,hc⟩:=bind_some hc
  cases hc
  obtain⟨re,e5,e6⟩:=bind_some e3
  refine a9v ⟨F5,ρ1,re,en4.ext x5,e5,fun v F6 H6 o6=> ?_⟩
  obtain⟨F7,o7⟩:=o6.toVal e6
  have hx6:H6 D=some (.lst xs):=o6.x.h _ _ (x5.h _ _ hx)
  have fD7:F7 D=none:=o7.x.nw D _ fD5 (x5.h _ _ hx) (fun _ h=>nomatch h)
  have ex7:=ex5.trans o7.x
  have hlen:=rl.length
  refine⟨hx6,by lia,ps.length - (i+1),by lia,F7,done++[q],rt,by lia,rfl,⟨ex7.f,fun a o z=> ?_,fun a o z=> ?_,ex7.nw,ex7.nf⟩,fD7,p8.append (p8.mono (x5.f.trans o7.x.f) _ rl) ⟨v,[],rfl,o7.rep,rfl⟩,by simp;lia,e4,by rw [List.append_assoc];exact hr⟩
  ·rw [o8 (p6 z hD)];exact ex7.h _ _ z
  ·rw [o8 (p6 z fD7)];exact ex7.fh _ _ z
theorem b28{K:AD}{F H:Hp}{D:AB}{c:MT}{elt:M}{tg:PV->d4->Option d4}{ρ:d4}{ps r:List PV}{m:Nat}{xs:List V}{H':Hp}(hD:H D=none)(W:WC K F H D c elt tg ρ ps r ps.length m xs H')(hx:H' D=some (.lst xs)):∃F',A4 K F H F' H' (.ref D) (.own r):=by
 obtain⟨F',done,A3,hi,hm,ex,fD,rl,dl,hc,hr⟩:=W
 rw [List.drop_length] at hc
 cases hc
 rw [Ae] at hr
 subst hr
 exact⟨F',ex,⟨D,xs,rfl,fD,hx,rl⟩,fun _ _ _ e=>by cases e;exact hD⟩
structure Src(K:AD)(F0 F H:Hp)(J:It)(ps:List PV):Prop where
 st:∀i H',u4 H H'->ps.length<=i->J.stop i H'
 go:∀i p H',u4 H H'->ps[i]?=some p->J.go i H'
 yd:∀i p x H' H'',u4 H H'->ps[i]?=some p->J.yld i H' x H''->H''=H'/\M2 K F p x
def SI(K:AD)(mi:MI)(wi:TI):Prop:=∀F H σ ρ ps (R:It->Hp->Prop),K4 K F H σ ρ->mi ρ=some ps->(∀F1 H1 J,Ext F H F1 H1->Src K F F1 H1 J ps->R J H1)->wi σ H R
abbrev EI(X:Cx)(tg iter:AG)(mi:MI):Prop:=∃wi,PI X tg iter wi/\SI X.K mi wi
section
variable {X:Cx}{tg:AG}
def F8(m:M):MI:=fun ρ=>(m ρ).bind fun r=>PyData.items? r.rd
theorem a8j{l:AG}{m:M}(h:EE X l m):EI X tg l (F8 m):=⟨_,b4c h,fun F H σ ρ ps R en e k=>by
 obtain⟨r,e1,e2⟩:=bind_some e
 refine⟨F,ρ,r,en,e1,fun v F1 H1 o1=> ?_⟩
 obtain⟨a,xs,rfl,hq,rl⟩:=P3 o1.x.fh o1.rep e2
 have hlen:=rl.length
 rcases hq with hq|hq
 ·refine⟨a,rfl,.inl ⟨⟨xs,hq⟩,k F1 H1 _ o1.x ⟨fun i H2 s h=>⟨xs,R1 s hq,by lia⟩,fun i p H2 s h=> ?_,fun i p x H2 H3 s h y=> ?_⟩⟩⟩
  ·obtain⟨v,ev,_⟩:=rl.get h
   exact⟨xs,v,R1 s hq,ev⟩
  ·obtain⟨v,ev,rv⟩:=rl.get h
   obtain⟨e,y⟩:=y
   have:=y xs (R1 s hq)
   rw [ev] at this;cases this
   exact⟨e,rv⟩
 ·refine⟨a,rfl,.inr ⟨⟨xs,hq⟩,k F1 H1 _ o1.x ⟨fun i H2 s h=>⟨xs,D9 s hq,by lia⟩,fun i p H2 s h=> ?_,fun i p x H2 H3 s h y=> ?_⟩⟩⟩
  ·obtain⟨v,ev,_⟩:=rl.get h
   exact⟨xs,v,D9 s hq,ev⟩
  ·obtain⟨v,ev,rv⟩:=rl.get h
   obtain⟨e,y⟩:=y
   have:=y xs (D9 s hq)
   rw [ev] at this;cases this
   exact⟨e,rv⟩⟩
abbrev EC(X:Cx)(ifs:List AG)(c:MT):Prop:=PCs X ifs (tMT X.K c)
theorem a5F:EC X [] Z0:=fun pins s σ H Q I ⟨F,ρ,b,en,e,k⟩=>by
 cases e
 exact b51 pins s σ H Q I (k F H (Ext.refl en.fh))
theorem b11{mi:MI}{wi:TI}{g:TG}{c:MT}{elt:M}{t:PV->d4->Option d4}{N:List Str}{k:Nat}(hi:SI X.K mi wi)(T:∀n,n=N.length->a85 X.K n g t){σ:L2.St}{H:Hp}{Q:VK}(hl:σ.length=N.length)(h:tM X.K (V9 k mi t c elt) σ H Q):b4G wi g (tMT X.K c) (tM X.K elt) k σ H Q:=by
 obtain⟨F,ρ,r,en,e,kk⟩:=h
 obtain⟨ps,e1,e⟩:=bind_some e
 split at e
 ·rename_i hsz
  obtain⟨rs,e2,e⟩:=bind_some e
  cases e
  refine hi F H σ ρ ps _ en e1 fun F1 H1 J x1 S D hD=> ?_
  have en1:=en.ext x1
  have T':a85 X.K ρ.length g t:=T _ (by rw [<-en.len,hl])
  refine⟨WC X.K F1 H1 D c elt t (ρ++AR k none) ps rs,⟨ps.length,F1,[],rs,Nat.zero_le _,rfl,Ext.layH x1.fh hD,x1.fh.free hD,rfl,AV _,e2,rfl⟩,fun i m xs H2 W hx=> ?_⟩
  have W':=W
  obtain⟨F',done,A3,hi',hm,ex,fD,rl,dl,hc,hr⟩:=W'
  have sF:u4 H1 H2:=ex.h
  by_cases hlt:i<ps.length
  ·refine .inr ⟨S.go i ps[i] H2 sF (by simp [hlt]),fun x H3 y=> ?_⟩
   obtain⟨e3,rx⟩:=S.yd i ps[i] x H2 H3 sF (by simp [hlt]) y
   subst e3
   exact b12 T' en1 hD hsz W hx (by simp [hlt]) rx
  ·have e3:i=ps.length:=by lia
   subst e3
   refine .inl ⟨S.st _ H2 sF (AV _), ?_⟩
   obtain⟨F2,o⟩:=b28 hD W hx
   exact kk _ F2 H2 (A4.trans x1 o)
 ·cases e
theorem a3J{elt iter:AG}{ifs:List AG}{scope:Scope}{N0 ys:List Str}{mi:MI}{g:TG}{c:MT}{m:M}{t:PV->d4->Option d4}{pos:Pos}(hx:∀e s,X.xe e s->False)(hc:X.calm=true)(S:a0L X.N N0 ys X.env scope)(hi:EI X tg iter mi)
 (hg:∀C fp pins s H,PG (Y0 X N0 scope ys C fp pins s H) tg g) (T:∀n,n=X.N.length->a85 X.K n g t) (ht:∀C fp pins s H,EC (Y0 X N0 scope ys C fp pins s H) ifs c) (he:∀C fp pins s H,EE (Y0 X N0 scope ys C fp pins s H) elt m)
 (hs:∀x,foldedSetIterable iter X.env x=pure x:=by intro _;rfl):EE X (.ListComp elt [⟨tg,iter,ifs,0⟩] scope pos) (V9 ys.length mi t c m):=by
 obtain⟨wi,h1,h2⟩:=hi
 intro pins s σ H Q I h
 exact b54 hx hc S h1 hg ht he hs pins s σ H Q I (b11 (N:=X.N) h2 T I.len h)
end
def a1D:List PV->Option (List Str)
 |[]=>some []
 | .str x::r=>(a1D r).map (x::·)
 |_=>none
theorem a6J:∀xs:List Str,a1D (xs.map .str)=some xs
 |[]=>rfl
 |x::xs=>by rw [AM];simp only [a1D,a6J xs,Af]
theorem a3t{K:AD}{H:Hp}:∀{ps:List PV} {ys:List Str} {xs:List V} {us:List AA},a1D ps=some ys->p8 K H ps xs->u3 xs us->StrsAre us ys
 |[],_,_,_,h,r,v=>by cases h;cases r;cases v;exact .nil
 |p::ps,ys,_,_,h,⟨x,r,e,hp,t⟩,v=>by
  subst e
  cases p with
  |str z=>
   simp only [a1D] at h
   cases q:a1D ps with
   |none=>rw [q] at h;cases h
   |some zs=>
    rw [q] at h;cases h
    cases hp
    cases v with
    |cons a b=>
     obtain⟨tk,rfl⟩:=a
     exact .cons z tk (a3t q t b)
  |_=>simp [a1D] at h
def a3P(x y:g6):Option g6:=match x with
 | .val (.str z)=>(match PyData.items? y.rd with
   |some ps=>(a1D ps).bind fun ys=>if(ys.map (·.length)).sum+ys.length*z.length<=16777216 then some (.val (.str (Txt.join z ys))) else none
   |none=>none)
 |_=>none
section
variable {X:Cx}
theorem b5L:MtR X "str.join" (fun x xs H Q=>∃F y rx ry rz,xs=[y]/\u4 F H/\O0 X.K F H x rx/\O0 X.K F H y ry/\a3P rx ry=some rz/\∀v F' H',A4 X.K F H F' H' v rz->Q v H'):=by
 intro pins s σ H x xs v us Q I rx rv h
 obtain⟨F,y,ra,rb,rz,rfl,s0,h1,h2,h3,k⟩:=h
 obtain⟨u,rfl,ru⟩:=a3e rv
 unfold a3P at h3
 split at h3
 ·rename_i z
  split at h3
  ·rename_i ps e
   obtain⟨ys,e2,h3⟩:=bind_some h3
   split at h3
   ·rename_i c
    cases h3
    cases h1
    obtain⟨t,rfl⟩:=rx
    obtain⟨a,xs,rfl,hq,r⟩:=P3 s0 h2 e
    cases ru
    rcases hq with hq|hq
    ·obtain⟨its,rv,pl,hz⟩:=I.list hq
     exact join_list pl.isList (by simpa using a3t e2 r rv) c fun t' k'=>⟨.str _,H,I.tok _,⟨_,rfl⟩,k _ F H (A4.here s0 rfl)⟩
    ·obtain⟨its,rv,pl,hz⟩:=I.tuple hq
     exact join_tuple pl (by simpa using a3t e2 r rv) c fun t' k'=>⟨.str _,H,I.tok _,⟨_,rfl⟩,k _ F H (A4.here s0 rfl)⟩
   ·cases h3
  ·cases h3
 ·cases h3
theorem b1h{o e:AG}{m n:M}{apos cpos:Pos}(ho:EE X o m)(ha:EE X e n)
 (hbase:attributeBase o "join" X.env (eval o X.env)=eval o X.env:=by rfl)
 (hfew:((backTo cpos (AN [e] X.env)).all (fun x=> !x.1)&&(backToKw cpos (keywordEach [] X.env)).all (fun x=>x.1.isSome)
  && decide ([e].length+([]:List Keyword).length+(if([]:List Keyword).isEmpty then 0 else 1)<30))=true:=by rfl)
 (hline:(apos.endLine==cpos.line)=true:=by rfl) (hs:AN [e] X.env=(false,eval e X.env)::AN [] X.env:=by rfl) (hplain:(backTo cpos (AN [] X.env)).any (·.1)=false:=by rfl):
 EE X (.Call (.Attribute o "join" apos) [e] [] cpos) (m2 a3P m n):=
 C2 (a9M PySem.F.plainAttrs_str PySem.F.slot_str_join PySem.F.type_str_join b5L ho (J2 ha Z2 hs) hbase hfew hline hs hplain) fun σ H Q ⟨F,ρ,r,he,hm,k⟩=>by
  obtain⟨rx,e1,hm⟩:=bind_some hm
  obtain⟨ry,e2,hm⟩:=bind_some hm
  refine⟨F,ρ,rx,he,e1,fun v F1 H1 o1=>⟨?_,⟨F1,ρ,ry,he.ext o1.x,e2,fun u F2 H2 o2=>⟨F2,u,rx,ry,r,rfl,o2.x.fh,o1.rep.ext o2.x,o2.rep,hm,fun z F3 H3 o3=>k z F3 H3 (A4.trans (o1.x.trans o2.x) o3)⟩⟩⟩⟩
  unfold a3P at hm
  split at hm
  ·cases o1.rep;rfl
  ·cases hm
end
def cut{α:Type}(xs:List α)(lo hi:Option Int):List α:=(xs.drop (HT.sIx xs.length 0 lo)).take (HT.sIx xs.length xs.length hi - HT.sIx xs.length 0 lo)
theorem a3H(n d:Nat)(hd:d<=n)(o:Option Int):(match o with|none=>(d:Int)|some i=>max 0 (min (if i<0 then i+n else i) n))=((HT.sIx n d o:Nat):Int):=by
 cases o with
 |none=>rfl
 |some i=>unfold HT.sIx;dsimp only;split<;>lia
theorem b42(n:Nat)(lo hi:Option Int):Builtin.Str.strSliceIndices lo hi 1 n=(Al (HT.sIx n n hi - HT.sIx n 0 lo)).map (HT.sIx n 0 lo+·):=by
 have h1:=a3H n 0 (Nat.zero_le _) lo
 have h2:=a3H n n (AV _) hi
 have key:∀a b:Int,a=((HT.sIx n 0 lo:Nat):Int)->b=((HT.sIx n n hi:Nat):Int)->sliceRange a b 1=(Al (HT.sIx n n hi - HT.sIx n 0 lo)).map (HT.sIx n 0 lo+·):=fun a b ha hb=>by rw [ha,hb,sliceRange_one]
 refine key _ _ ?_ ?_
 ·cases lo with
  |none=>rfl
  |some i=>exact h1
 ·cases hi with
  |none=>rfl
  |some i=>exact h2
theorem b6l(z:Str)(lo hi:Option Int):Txt.slice z lo hi=⟨(cut z.cps.toList lo hi).toArray⟩:=by
 have hz:z.cps.toList.length=z.length:=by simp [Str.length]
 unfold Txt.slice
 rw [b42,pick_run z.cps]
 split
 ·rename_i c
  have c':HT.sIx z.length z.length hi - HT.sIx z.length 0 lo=z.length:=by
   simpa using c
  have hle:=HT.sIx_le z.length z.length (AV _) hi
  unfold cut
  rw [hz,c']
  have:HT.sIx z.length 0 lo=0\/z.length=0:=by lia
  cases z with
  |mk a=>
   congr 1
   rcases this with h|h
   ·rw [h,List.drop_zero]
    have:a.toList.length=(⟨a⟩:Str).length:=hz
    rw [<-this,List.take_length]
   ·have h0:a.toList=[]:=List.length_eq_zero_iff.mp (by rw [<-h];exact hz)
    have:a= #[]:=by
     apply Array.ext'
     rw [h0]
    subst this
    simp
 ·unfold cut
  rw [hz]
theorem a3d(items:Array AA)(lo hi:Option Int):slicePick items lo hi none=(cut items.toList lo hi).toArray:=by
 have hz:items.toList.length=items.size:=by simp
 unfold slicePick cut
 rw [hz]
 have key:∀a b:Int,a=((HT.sIx items.size 0 lo:Nat):Int)->b=((HT.sIx items.size items.size hi:Nat):Int)->(List.filterMap (items[·]?) (sliceRange a b 1)).toArray=((items.toList.drop (HT.sIx items.size 0 lo)).take (HT.sIx items.size items.size hi - HT.sIx items.size 0 lo)).toArray:=fun a b ha hb=>by rw [ha,hb,sliceRange_one,pick_run]
 refine key _ _ ?_ ?_
 ·cases lo with
  |none=>rfl
  |some i=>exact a3H items.size 0 (Nat.zero_le _) (some i)
 ·cases hi with
  |none=>rfl
  |some i=>exact a3H items.size items.size (AV _) (some i)
theorem p8.cut{K:AD}{H:Hp}{ps:List PV}{xs:List V}(r:p8 K H ps xs)(lo hi:Option Int):p8 K H (PU.cut ps lo hi) (PU.cut xs lo hi):=by
 unfold PU.cut
 rw [r.length]
 exact(r.drop _).take _
theorem b43{α:Type}(xs:List α)(lo hi:Option Int):(cut xs lo hi).length<=xs.length:=by
 unfold cut
 rw [List.length_take,List.length_drop];lia
theorem a2S{prog:AL}{w:AJ}{A:AK}{E:AA->AC->Prop}{s:AC}{t sl:AB}{items:Array AA}{vl vu:AA}{lo hi:Option Int}{Q:AA->AC->Prop}(ht:IsTup s.heap t items)(hs:s.heap.IsSliceOf sl vl vu .none)(pl:IsPart vl lo)(pu:IsPart vu hi)
 (hw:HT.sIx items.size 0 lo=0/\HT.sIx items.size items.size hi=items.size)
 (h:Q (.ref t) s):AI (model prog w) A (getItem (.ref t) (.ref sl)) Q E s:=by
 obtain⟨os,hos,hcs,hds⟩:=id hs
 have hTs:s.TypeIs (.ref sl) "slice":=⟨os,hos,hcs⟩
 unfold getItem
 try with_reducible refine wpAny_holding ?_
 first|refine AF (AS ?_)|skip
 refine AF (wpAny_sequenceKey ht.typeIs (by decide) ?_)
 refine AF (wpAny_callSpecial?_slot (name:=AE "__getitem__") ht.typeIs PyProof.Rows.slot_tuple_getitem
  (wpAny_call_entry PyProof.Rows.slot_tuple_getitem ht.typeIs entry_tuple_getitem ?_ (args_tuple_getitem _ _)))
 show AI _ _ (Builtin.Tuple.tupleItemsOf (.ref t)>>=_) _ _ s
 refine AF (tupleItemsOf_ ht ?_)
 refine AF (wpAny_typeOf hTs ?_)
 rw [if_pos (by decide)]
 refine AF (HT.sliceApplied_gen hs pl pu ?_)
 have hno:(((HT.sIx items.size 0 lo:Nat):Int)==0 &&(1:Int)==1 &&(HT.sIx items.size items.size hi - HT.sIx items.size 0 lo)==items.size)=true:=by
  rw [hw.1,hw.2];simp
 show AI _ _ (if(((HT.sIx items.size 0 lo:Nat):Int)==0 &&(1:Int)==1 &&(HT.sIx items.size items.size hi - HT.sIx items.size 0 lo)==items.size)=true then _ else _) _ _ s
 rw [if_pos hno]
 refine AF (AF (m:=typeOf (.ref t)) (wpAny_typeOf ht.typeIs (AS ?_)))
 rw [if_pos (by decide)]
 wp_walk
 exact⟨_,rfl,AS h⟩
theorem b6k{X:Cx}:SlR X (fun x lo hi H Q=>∃a xs,x= .ref a/\SqT X.K H a xs/\(HT.sIx xs.length 0 lo=0/\HT.sIx xs.length xs.length hi=xs.length)/\Q (.ref a) H):=by
 intro pins s σ H x v vl vu lo hi sl Q I rx hs pl pu h
 obtain⟨a,xs,rfl,hx,hw,q⟩:=h
 cases rx
 obtain⟨its,r,ht,hz⟩:=I.tuple hx
 have hlen:its.toArray.size=xs.length:=by rw [Am];exact r.length.symm
 refine⟨"tuple",_,PyProof.Rows.slot_tuple_getitem.lookup,ht.typeIs, ?_⟩
 exact a2S ht hs pl pu (by rw [hlen];exact hw) ⟨.ref a,H,I,rfl,q⟩
theorem b13{α:Type}{xs:List α}{lo hi:Option Int}(h:HT.sIx xs.length 0 lo=0/\HT.sIx xs.length xs.length hi=xs.length):cut xs lo hi=xs:=by
 unfold cut
 rw [h.1,h.2,List.drop_zero,Nat.sub_zero,List.take_length]
section
variable {X:Cx}
theorem b0t{h:Heap}{sl:AB}{vl vu:AA}{lo hi:Option Int}(hs:h.IsSliceOf sl vl vu .none)(pl:IsPart vl lo)(pu:IsPart vu hi):∃l u:Option (Int×Tok),h.IsSlice sl l u none/\l.map (·.1)=lo/\u.map (·.1)=hi:=by
 obtain⟨o,ho,hc,hd⟩:=hs
 cases pl with
 |none=>
  cases pu with
  |none=>exact⟨none,none,⟨o,ho,hc,hd⟩,rfl,rfl⟩
  |int j t=>exact⟨none,some (j,t),⟨o,ho,hc,hd⟩,rfl,rfl⟩
 |int i t=>
  cases pu with
  |none=>exact⟨some (i,t),none,⟨o,ho,hc,hd⟩,rfl,rfl⟩
  |int j t'=>exact⟨some (i,t),some (j,t'),⟨o,ho,hc,hd⟩,rfl,rfl⟩
theorem b8c:SlR X (fun x lo hi H Q=>∃z,x= .str z/\z.length<=AO/\Q (.str (Txt.slice z lo hi)) H):=by
 intro pins s σ H x v vl vu lo hi sl Q I rx hs pl pu h
 obtain⟨z,rfl,hz,q⟩:=h
 obtain⟨t,rfl⟩:=rx
 obtain⟨l,u,hs',e1,e2⟩:=b0t hs pl pu
 subst e1 e2
 exact⟨"str",_,PySem.F.slot_str_getitem.lookup,typeIs_str _ _ _,wpAny_getItem_str_slice hs' rfl (post_val_or_str ⟨Nat.le_trans (Txt.slice_le z _ _) hz,fun t' k=>⟨.str _,H,I.tok _,⟨_,rfl⟩,q⟩⟩)⟩
theorem b8b:SlR X (fun x lo hi H Q=>∃a xs,x= .ref a/\SqL X.K H a xs/\∀p,H p=none->Q (.ref p) (upd H p (.lst (PU.cut xs lo hi)))):=by
 intro pins s σ H x v vl vu lo hi sl Q I rx hs pl pu h
 obtain⟨a,xs,rfl,hx,q⟩:=h
 cases rx
 obtain⟨its,r,pl',hz⟩:=I.list hx
 have hlen:=r.length
 refine⟨"list",_,list_getitem_lookup,pl'.isList.typeIs, ?_⟩
 refine wpAny_getItem_list_slice pl'.isList hs pl pu .none (by simp) ?_ (by rw [Am];lia)
 rw [a3d]
 refine⟨.ref s.heap.objs.size,_,I.laid (t':=s.toks) (o:= .lst (PU.cut xs lo hi)) (fun b ob q=>Ah _ q) (AV _) ?_,rfl,q _ (I.hok.fresh (AV _))⟩
 refine⟨Nat.le_trans (b43 xs lo hi) hz,PU.cut its lo hi,0, ?_,Ar _ rfl⟩
 unfold PU.cut
 rw [hlen]
 exact(r.drop _).take _
def gSl(x:g6)(lo hi:Option Int):Option g6:=match x with
 | .val (.str z)=>if z.length<=AO then some (.val (.str ⟨(cut z.cps.toList lo hi).toArray⟩)) else none
 | .val (.tuple ps)=>some (.val (.tuple (cut ps lo hi)))
 | .val (.list ps)=>some (.own (cut ps lo hi))
 | .ow (.lst ps)=>some (.own (cut ps lo hi))
 | .bo (.lst ps)=>some (.own (cut ps lo hi))
 |_=>none
def rSl(K:AD):V->Option Int->Option Int->Hp->VK->Prop:=fun x lo hi H Q=>∃F rx rz,u4 F H/\O0 K F H x rx/\gSl rx lo hi=some rz/\∀v F' H',A4 K F H F' H' v rz->Q v H'
theorem slm:SlR X (rSl X.K):=by
 intro pins s σ H x v vl vu lo hi sl Q I rx hs pl pu h
 obtain⟨F,ra,rz,s0,h1,h2,k⟩:=h
 have lst:∀ps,PyData.items? ra.rd=some ps->(∃a xs,x= .ref a/\SqL X.K H a xs/\p8 X.K F ps xs)->rz= .own (cut ps lo hi)->∃T id,typeLookup (.type T) "__getitem__"=pure (some (.builtin id))/\s.TypeIs v T/\AI (model X.prog X.w) X.A (getItem v (.ref sl)) (EP X pins σ Q) X.xe s:=fun ps e ⟨a,xs,e1,hq,rl⟩ e2=>by
  subst e2
  exact b8b pins s σ H x v vl vu lo hi sl Q I rx hs pl pu ⟨a,xs,e1,hq,fun p hp=>k _ _ _ (A4.lst s0 hp (rl.cut lo hi))⟩
 unfold gSl at h2
 split at h2
 ·rename_i z
  split at h2
  ·rename_i c
   cases h2
   cases h1
   refine b8c pins s σ H _ v vl vu lo hi sl Q I rx hs pl pu ⟨z,rfl,c, ?_⟩
   rw [b6l]
   exact k _ F H (A4.here s0 rfl)
  ·cases h2
 ·rename_i ps
  cases h2
  by_cases c:HT.sIx ps.length 0 lo=0/\HT.sIx ps.length ps.length hi=ps.length
  ·obtain⟨a,xs,rfl,hq,rl⟩:=h1
   have hlen:=rl.length
   refine b6k pins s σ H _ v vl vu lo hi sl Q I rx hs pl pu ⟨a,xs,rfl,D9 s0 hq.sq,by rw [hlen];exact c, ?_⟩
   rw [b13 c] at k
   exact k _ F H (A4.here s0 ⟨a,xs,rfl,hq,rl⟩)
  ·obtain⟨a,xs,rfl,hq,rl⟩:=h1
   have hlen:=rl.length
   refine b8d pins s σ H _ v vl vu lo hi sl Q I rx hs pl pu ⟨a,xs,rfl,D9 s0 hq.sq,by rw [hlen];exact c,fun p hp=> ?_⟩
   exact k _ _ _ (A4.tup s0 hp (rl.cut lo hi))
 ·rename_i ps
  cases h2
  obtain⟨a,xs,e1,hq,rl⟩:=h1
  exact lst ps rfl ⟨a,xs,e1,R1 s0 hq,rl⟩ rfl
 ·rename_i ps
  cases h2
  obtain⟨a,xs,e1,_,hq,rl⟩:=h1
  exact lst ps rfl ⟨a,xs,e1,SqL.of hq,rl⟩ rfl
 ·rename_i ps
  cases h2
  obtain⟨a,xs,e1,_,hq,rl⟩:=h1
  exact lst ps rfl ⟨a,xs,e1,SqL.of hq,rl⟩ rfl
 ·cases h2
abbrev MO:=d4->Option (Option Int)
def tMO(K:AD)(m:MO):TO:=fun σ H Q=>∃F ρ o,K4 K F H σ ρ/\m ρ=some o/\∀F' H',Ext F H F' H'->Q o H'
abbrev EO(X:Cx)(e:Option AG)(m:MO):Prop:=PO X e (tMO X.K m)
def b1x:g6->Option (Option Int)
 | .val (.int i)=>some (some i)
 |_=>none
def Q8(m:M):MO:=fun ρ=>(m ρ).bind b1x
theorem a0g{e:AG}{m:M}(h:EE X e m):EO X (some e) (Q8 m):=fun pins s σ H Q I ⟨F,ρ,o,en,e1,k⟩=>by
 obtain⟨r,e2,e3⟩:=bind_some e1
 refine b59 h pins s σ H Q I ⟨F,ρ,r,en,e2,fun v F1 H1 o1=> ?_⟩
 unfold b1x at e3
 split at e3
 ·cases e3
  exact⟨_,o1.rep,k F1 H1 o1.x⟩
 ·cases e3
def a2f(m:M)(lo hi:MO):M:=fun ρ=>(m ρ).bind fun r=>(lo ρ).bind fun l=>(hi ρ).bind fun h=>gSl r l h
theorem a3K{e:AG}{lo hi:Option AG}{m:M}{ml mh:MO}{pos p2:Pos}(he:EE X e m)(hl:EO X lo ml)(hh:EO X hi mh):EE X (.Subscript e (.Slice lo hi none p2) pos) (a2f m ml mh):=
 C2 (b4b slm he hl hh) fun σ H Q ⟨F,ρ,r,en,e,k⟩=>by
  obtain⟨ra,e1,e⟩:=bind_some e
  obtain⟨l,e2,e⟩:=bind_some e
  obtain⟨h,e3,e⟩:=bind_some e
  exact⟨F,ρ,ra,en,e1,fun v F1 H1 o1=>⟨F1,ρ,l,en.ext o1.x,e2,fun F2 H2 x2=>⟨F2,ρ,h,(en.ext o1.x).ext x2,e3,fun F3 H3 x3=>⟨F3,ra,r,x3.fh,(o1.rep.ext x2).ext x3,e,fun z F4 H4 o4=>k z F4 H4 (A4.trans ((o1.x.trans x2).trans x3) o4)⟩⟩⟩⟩
end
def Its(x:Str):It:=⟨fun i _=>i<x.cps.size,fun i H v H'=>H'=H/\∃c,x.cps[i]?=some c/\v= .str ⟨#[c]⟩,fun i _=>x.cps.size<=i⟩
theorem b4J{P:AL}{w:AJ}{K:AD}{tg:AG}(b:Bool)(it:AB)(x:Str)(t:Tok):b1X P w K tg (Its x) [it] it (fun i h=>h.IsStrIter it (if b then "str_ascii_iterator" else "str_iterator") x t i) where
 mem:=by simp
 obj:=fun i h st c hb=>by
  have e:c=it:=by simpa using hb
  subst e
  obtain⟨o,e,c,d⟩:=st
  exact⟨o,e,fun v z=>by rw [d] at z;cases z⟩
 keep:=fun i h h' st k=>let ⟨o,e,r⟩:=st;⟨o,k it (by simp) o e,r⟩
 item:=by
  intro X hP hw hK hc i pins s σ H E I hf st hg
  subst hP hw hK
  obtain⟨f0,f1,f2,f3,f4,f5⟩:=hf it (by simp)
  have hg:i<x.cps.size:=hg
  have hx:x.cps[i]?=some x.cps[i]:=by simp [hg]
  have fin:∀h':Heap,h'.IsStrIter it (if b then "str_ascii_iterator" else "str_iterator") x t (i+1)->Heap.SameBut it s.heap h'->∃u,some (Value.str ⟨#[x.cps[i]]⟩ s.toks)=some u/\
   AI (model X.prog X.w) X.A (letOwnedTupleGo tg (.ref it) u) (fun _ s2=>∃y H',n4 X pins σ H' s2/\z4 y u/\(Its x).yld i H y H'/\s2.heap.IsStrIter it (if b then "str_ascii_iterator" else "str_iterator") x t (i+1)/\∀b∈[it],H' b=none) E {s with heap:=h',toks:=s.toks+1}:=fun h' st' sb=>by
   have I1:n4 X pins σ H {s with heap:=h',toks:=s.toks+1}:=I.turned (fun b o hb e=>(sb.2 b hb).trans e) f0 f1 f3 f4 f5
   obtain⟨o,e,c,d⟩:=id st'
   refine⟨_,rfl,b1u (s:={s with heap:=h',toks:=s.toks+1}) (n:=if b then "str_ascii_iterator" else "str_iterator") e c d (by cases b<;>decide) ⟨.str ⟨#[x.cps[i]]⟩,H,I1,⟨_,rfl⟩,⟨rfl,_,hx,rfl⟩,st',fun b hb=>(hf b hb).1⟩⟩
  cases b with
  |true=>exact wpAny_pyNext_ascii_item st hx fun h' a b=>fin h' a b
  |false=>exact wpAny_pyNext_wide_item st hx fun h' a b=>fin h' a b
 done:=by
   intro X hP hw hK hc i pins s σ H E I hf st hg
   subst hP hw hK
   obtain⟨f0,f1,f2,f3,f4,f5⟩:=hf it (by simp)
   have hg:x.cps.size<=i:=hg
   have hx:x.cps[i]?=none:=by simp [hg]
   cases b with
   |true=>exact wpAny_pyNext_ascii_end (I.ok.hd hc) st hx fun h' eb=>⟨rfl,I.turned (t':=s.toks) (fun b o hb e=>eb b o hb e) f0 f1 f3 f4 f5⟩
   |false=>exact wpAny_pyNext_wide_end (I.ok.hd hc) st hx fun h' eb=>⟨rfl,I.turned (t':=s.toks) (fun b o hb e=>eb b o hb e) f0 f1 f3 f4 f5⟩
 self:=fun _ _ _ _ _ st h=>by
  cases b with
  |true=>exact wpAny_pyIter_striter_ascii st h
  |false=>exact wpAny_pyIter_striter_wide st h
section
variable {X:Cx}{tg:AG}
def b9u(tl:TE):TI:=fun σ H R=>tl σ H fun x H1=>∃z,x= .str z/\R (Its z) H1
theorem b70{l:AG}{tl:TE}(hl:PE X l tl):PI X tg l (b9u tl):=by
 intro pins s σ H R I h
 refine M3 (hl pins s σ H _ I h) fun v s1 ⟨x,H1,I1,r1,q1⟩=> ?_
 obtain⟨z,e,q⟩:=q1
 subst e
 obtain⟨t,rfl⟩:=r1
 have fin:∀b:Bool,PIE X pins σ tg R (.ref s1.heap.objs.size) {s1 with heap:=s1.heap.push {cls:= .type (if b then "str_ascii_iterator" else "str_iterator"),data:= .fields #[.str z t,.int 0 0]}}:=fun b=>by
  refine⟨s1.heap.objs.size,[s1.heap.objs.size],_,_,H1,rfl,I1.kept (t':=s1.toks) fun b o e=>Ah _ e,b4J b _ z t,⟨_,Ar _ rfl,rfl,rfl⟩,fun c hb=> ?_,q⟩
  have e:c=s1.heap.objs.size:=by simpa using hb
  subst e
  exact I1.fpOk (AV _) (I1.hok.fresh (AV _))
 cases ha:z.cps.all (· <128)
 ·exact wpAny_pyIter_wide ha (fin false)
 ·exact wpAny_pyIter_ascii ha (fin true)
structure b9m(K:AD)(F:Hp)(J:It)(ps:List PV):Prop where
 st:∀i H',u4 F H'->ps.length<=i->J.stop i H'
 go:∀i p H',u4 F H'->ps[i]?=some p->J.go i H'
 yd:∀i p x H' H'',u4 F H'->ps[i]?=some p->J.yld i H' x H''->H''=H'/\M2 K F p x
def SIF(K:AD)(mi:MI)(wi:TI):Prop:=∀F H σ ρ ps (R:It->Hp->Prop),K4 K F H σ ρ->mi ρ=some ps->(∀F1 H1 J,Ext F H F1 H1->b9m K F1 J ps->R J H1)->wi σ H R
abbrev EIF(X:Cx)(tg iter:AG)(mi:MI):Prop:=∃wi,PI X tg iter wi/\SIF X.K mi wi
theorem EIF.ei{iter:AG}{mi:MI}(h:EIF X tg iter mi):EI X tg iter mi:=by
 obtain⟨wi,h1,h2⟩:=h
 exact⟨wi,h1,fun F H σ ρ ps R en e k=>h2 F H σ ρ ps R en e fun F1 H1 J x S=>k F1 H1 J x ⟨fun i H' s=>S.st i H' (x.fh.trans s),fun i p H' s=>S.go i p H' (x.fh.trans s),fun i p y H' H'' s=>S.yd i p y H' H'' (x.fh.trans s)⟩⟩
def a5Y(m:M):MI:=fun ρ=>(m ρ).bind fun r=>match r with
 | .val (.str z)=>some (z.cps.toList.map fun c=> .str ⟨#[c]⟩)
 |_=>none
theorem b5a{l:AG}{m:M}(h:EE X l m):EIF X tg l (a5Y m):=⟨_,b70 h,fun F H σ ρ ps R en e k=>by
 obtain⟨r,e1,e2⟩:=bind_some e
 refine⟨F,ρ,r,en,e1,fun v F1 H1 o1=> ?_⟩
 split at e2
 ·rename_i z
  cases e2
  cases o1.rep
  refine⟨z,rfl,k F1 H1 _ o1.x ⟨fun i H2 s h=> ?_,fun i p H2 s h=> ?_,fun i p x H2 H3 s h y=> ?_⟩⟩
  ·have h:z.cps.size<=i:=by simpa using h
   exact h
  ·have:=(Aw.mp h).1
   have h:i<z.cps.size:=by simpa using this
   exact h
  ·obtain⟨e,c,hc,rfl⟩:=y
   refine⟨e, ?_⟩
   rw [Ax,Array.getElem?_toList,hc] at h
   cases h
   rfl
 ·cases e2⟩
def P9:List PV->Option (List Bool)
 |[]=>some []
 | .bool b::r=>(P9 r).map (b::·)
 |_=>none
theorem a4K:∀bs:List Bool,P9 (bs.map .bool)=some bs
 |[]=>rfl
 |b::bs=>by rw [AM];simp only [P9,a4K bs,Af]
theorem a4L{K:AD}{H:Hp}:∀{ps:List PV} {bs:List Bool} {xs:List V} {us:List AA},P9 ps=some bs->p8 K H ps xs->u3 xs us->us=bs.map Value.bool
 |[],_,_,_,h,r,v=>by cases h;cases r;cases v;rfl
 |p::ps,bs,_,_,h,⟨x,r,e,hp,t⟩,v=>by
  subst e
  cases p with
  |bool z=>
   simp only [P9] at h
   cases q:P9 ps with
   |none=>rw [q] at h;cases h
   |some zs=>
    rw [q] at h;cases h
    cases hp
    cases v with
    |cons a b=>rw [a4L q t b,show _=_ from a];rfl
  |_=>simp [P9] at h
def b19(x:g6):Option g6:=match x.rd with
 | .list ps=>(P9 ps).map fun bs=> .val (.bool (bs.all id))
 |_=>none
theorem b2F(bs:List Bool):(Al bs.length).all (fun i=>bs.getD i false)=bs.all id:=by
 rw [Bool.eq_iff_iff,List.all_eq_true,List.all_eq_true]
 constructor
 ·intro h b hb
  obtain⟨i,hi,rfl⟩:=List.getElem_of_mem hb
  have:=h i (List.mem_range.mpr hi)
  simpa [List.getD,hi] using this
 ·intro h i hi
  have hi:=List.mem_range.mp hi
  have:=h bs[i] (List.getElem_mem _)
  simpa [List.getD,hi] using this
theorem b2G(bs:List Bool):(Al bs.length).any (fun i=>bs.getD i false)=bs.any id:=by
 rw [Bool.eq_iff_iff,List.any_eq_true,List.any_eq_true]
 constructor
 ·rintro⟨i,hi,h⟩
  have hi:=List.mem_range.mp hi
  exact⟨bs[i],List.getElem_mem _,by simpa [List.getD,hi] using h⟩
 ·rintro⟨b,hb,h⟩
  obtain⟨i,hi,rfl⟩:=List.getElem_of_mem hb
  exact⟨i,List.mem_range.mpr hi,by simpa [List.getD,hi] using h⟩
theorem b0e{pins:List (AB×Obj)}{σ:L2.St}{H:Hp}{s:AC}{a:AB}{xs:List V}{ps:List PV}{bs:List Bool}{F:Hp}(hc:X.calm=true)(I:n4 X pins σ H s)(hq:SqL X.K H a xs)(r:p8 X.K F ps xs)(e:P9 ps=some bs){E:AA->AC->Prop}{Q:AA->AC->Prop}(c:Bool)
 (h:∀h' tk,(∀b o,b∉[s.heap.objs.size]->(s.heap.push {cls:= .type "list_iterator",data:= .fields #[.ref a,.int 0 0]}).get? b=some o->h'.get? b=some o)->Q (.bool (if c then bs.all id else bs.any id)) {s with heap:=h',toks:=tk}):
 AI (model X.prog X.w) X.A.in1 (pyIter (.ref a)) (fun it s₂=>∃I fp wr n P St tr,it= .ref I/\Walks X.prog X.w X.A.in1 I fp wr n P St/\St 0 s₂.heap/\TruthOf X.prog X.w X.A.in1 P tr/\
  ∀h' tk,(∀b o,b∉wr->s₂.heap.get? b=some o->h'.get? b=some o)->Q (.bool (if c then(Al n).all tr else(Al n).any tr)) {s₂ with heap:=h',toks:=tk}) E s:=by
 obtain⟨its,rv,pl,hz⟩:=I.list hq
 have eb:=a4L e r rv
 have hlt:a<s.heap.objs.size:=by obtain⟨_,e,_⟩:=pl.isList;exact Aa e
 refine wpAny_pyIter_list pl.isList ?_
 refine⟨s.heap.objs.size,[s.heap.objs.size,a],[s.heap.objs.size],its.toArray.size,_,_,fun i=>bs.getD i false,rfl,Walks.list (by show X.A.handled=none;exact I.ok.hd hc) s.heap.objs.size a (Ao hlt) its.toArray,⟨⟨_,Ar _ rfl,rfl,rfl⟩,pl.isList.push _⟩,fun i v s' Q E hv hQ=> ?_,fun h' tk hk=> ?_⟩
 ·rw [eb] at hv
  have hv:(bs.map Value.bool)[i]?=some v:=by simpa using hv
  rw [Ax] at hv
  cases q:bs[i]? with
  |none=>rw [q] at hv;cases hv
  |some z=>
   rw [q] at hv;cases hv
   have:bs.getD i false=z:=by simp [List.getD,q]
   have hQ:Q (bs.getD i false) s':=hQ
   rw [this] at hQ
   exact AS hQ
 ·have hn:its.toArray.size=bs.length:=by rw [eb];simp
  rw [hn,b2F,b2G]
  exact h h' tk hk
theorem b0h(hc:X.calm=true):O7 X (.builtin "all") (rC1 X.K b19):=by
 intro pins s σ H xs us Q I rv h
 obtain⟨F,x,rx,rz,rfl,s0,h1,h2,k⟩:=h
 obtain⟨u,rfl,ru⟩:=a3e rv
 unfold b19 at h2
 split at h2
 ·rename_i ps ep
  cases e:P9 ps with
  |none=>rw [e] at h2;cases h2
  |some bs=>
   rw [e] at h2;cases h2
   obtain⟨a,xs,rfl,hq,r⟩:=P3 (ps:=ps) s0 h1 (by rw [ep];rfl)
   have hq:SqL X.K H a xs:=by
    have rr:=h1.rd s0
    rw [ep] at rr
    obtain⟨a',xs',e1,hq',rl⟩:=rr
    cases e1
    rcases hq with hq|hq
    ·exact hq
    ·exact(a2h I hq' hq).elim
   cases ru
   exact call_all_walk (b0e hc I hq r e true fun h' tk hk=>⟨.bl _,H,I.turned (it:=s.heap.objs.size) (fun b o hb e=>hk b o (by simpa using hb) (Ah _ e)) (I.hok.fresh (AV _)) (Nat.ne_of_gt I.lt) (.inr I.sz) (fun x c e=>by obtain⟨v,z⟩:=I.cell x c e;exact Ao z.lt) (fun p hp=>Ao (Aa (I.pin p hp).1)),rfl,k _ F H (A4.here s0 rfl)⟩)
 ·cases h2
end
def a60:g6->g6->Option g6
 | .val (.int i),.val (.int j)=>some (.val (.bool (decide (i<j))))
 | .val (.str i),.val (.str j)=>some (.val (.bool (decide (i.cps.toList<j.cps.toList))))
 |_,_=>none
def S3:g6->g6->Option g6
 | .val (.int i),.val (.int j)=>some (.val (.bool (decide (i<=j))))
 | .val (.str i),.val (.str j)=>some (.val (.bool (!decide (j.cps.toList<i.cps.toList))))
 |_,_=>none
section
variable {X:Cx}
theorem a8H:OpM X (compareOp .Lt) a60:=by
 intro pins s σ H x y v u Q I rx ry h
 obtain⟨F,ra,rb,rz,s0,h1,h2,h3,k⟩:=h
 unfold a60 at h3
 split at h3
 ·cases h3;cases h1;cases h2
  exact b8V pins s σ H _ _ v u Q I rx ry ⟨_,_,rfl,rfl,k _ F H (A4.here s0 rfl)⟩
 ·cases h3;cases h1;cases h2
  exact b2z pins s σ H _ _ v u Q I rx ry ⟨_,_,rfl,rfl,k _ F H (A4.here s0 rfl)⟩
 ·cases h3
theorem F9:OpM X (compareOp .LtE) S3:=by
 intro pins s σ H x y v u Q I rx ry h
 obtain⟨F,ra,rb,rz,s0,h1,h2,h3,k⟩:=h
 unfold S3 at h3
 split at h3
 ·cases h3;cases h1;cases h2
  exact b8U pins s σ H _ _ v u Q I rx ry ⟨_,_,rfl,rfl,k _ F H (A4.here s0 rfl)⟩
 ·cases h3;cases h1;cases h2
  obtain⟨t,rfl⟩:=rx
  obtain⟨t',rfl⟩:=ry
  exact PySem.P.le_str ⟨.bl _,H,I,rfl,k _ F H (A4.here s0 rfl)⟩
 ·cases h3
def a9j(neg:Bool)(x y:g6):Option g6:=match x,y with
 | .val (.str i),.val (.str j)=>some (.val (.bool (if neg then !(!(Builtin.Str.occurrences j i 0 j.length 1).isEmpty) else !(Builtin.Str.occurrences j i 0 j.length 1).isEmpty)))
 |x,y=>gIn neg x y
theorem b5W(hu:X.A.units+64<cLine):OpM X (compareOp .In) (a9j false):=by
 intro pins s σ H x y v u Q I rx ry h
 obtain⟨F,ra,rb,rz,s0,h1,h2,h3,k⟩:=h
 unfold a9j at h3
 split at h3
 ·cases h3;cases h1;cases h2
  exact b2y pins s σ H _ _ v u Q I rx ry ⟨_,_,rfl,rfl,k _ F H (A4.here s0 rfl)⟩
 ·exact b7R hu pins s σ H x y v u Q I rx ry ⟨F,_,_,rz,s0,h1,h2,h3,k⟩
theorem b0N(hu:X.A.units+64<cLine):OpM X (compareOp .NotIn) (a9j true):=by
 intro pins s σ H x y v u Q I rx ry h
 obtain⟨F,ra,rb,rz,s0,h1,h2,h3,k⟩:=h
 unfold a9j at h3
 split at h3
 ·cases h3;cases h1;cases h2
  exact a8F pins s σ H _ _ v u Q I rx ry ⟨_,_,rfl,rfl,k _ F H (A4.here s0 rfl)⟩
 ·exact b2A hu pins s σ H x y v u Q I rx ry ⟨F,_,_,rz,s0,h1,h2,h3,k⟩
def M6(neg:Bool)(x y:g6):Option g6:=match x,y with
 | .val (.bool a),.val (.bool b)=>some (.val (.bool (if neg then !(a==b) else a==b)))
 |x,y=>b3q neg x y
theorem b3B{a b:Bool}{M:Model}{A:AK}{E:AA->AC->Prop}{s:AC}{Q:AA->AC->Prop}(h:Q (.bool (a==b)) s):AI M A (compareOp .Is (.bool a) (.bool b)) Q E s:=by
 refine wpAny_is_plain (by cases a<;>cases b<;>rfl) ?_
 have e:(Value.bool a==Value.bool b)=(a==b):=by cases a<;>cases b<;>rfl
 rw [e];exact h
theorem Q9:OpM X (compareOp .Is) (M6 false):=by
 intro pins s σ H x y v u Q I rx ry h
 obtain⟨F,ra,rb,rz,s0,h1,h2,h3,k⟩:=h
 unfold M6 at h3
 split at h3
 ·cases h3;cases h1;cases h2;cases rx;cases ry
  exact b3B ⟨.bl _,H,I,rfl,k _ F H (A4.here s0 rfl)⟩
 ·exact b5X pins s σ H x y v u Q I rx ry ⟨F,_,_,rz,s0,h1,h2,h3,k⟩
theorem a9t{a b:Bool}{M:Model}{A:AK}{E:AA->AC->Prop}{s:AC}{Q:AA->AC->Prop}(h:Q (.bool (!(a==b))) s):AI M A (compareOp .IsNot (.bool a) (.bool b)) Q E s:=by
 refine wpAny_isNot_plain (by cases a<;>cases b<;>rfl) ?_
 have e:(Value.bool a==Value.bool b)=(a==b):=by cases a<;>cases b<;>rfl
 first
  |(rw [e];exact h)
  |(have e2:(Value.bool a !=Value.bool b)= !(a==b):=by cases a<;>cases b<;>rfl
    rw [e2];exact h)
theorem a31:OpM X (compareOp .IsNot) (M6 true):=by
 intro pins s σ H x y v u Q I rx ry h
 obtain⟨F,ra,rb,rz,s0,h1,h2,h3,k⟩:=h
 unfold M6 at h3
 split at h3
 ·cases h3;cases h1;cases h2;cases rx;cases ry
  exact a9t ⟨.bl _,H,I,rfl,k _ F H (A4.here s0 rfl)⟩
 ·exact b32 pins s σ H x y v u Q I rx ry ⟨F,_,_,rz,s0,h1,h2,h3,k⟩
def a3R:g6->g6->Option g6
 | .val (.str z),.val (.int k)=>if okC (fun k n=>0<=k/\k<=1000000/\n*k<=16777216) k z.length=true then some (.val (.str ⟨(AR k.toNat z.cps.toList).flatten.toArray⟩)) else none
 | .ow (.lst ps),.val (.int k)=>if okC (fun k n=>0<=k/\k<=1000000/\n*k<=16777216) k ps.length=true then some (.own (AR k.toNat ps).flatten) else none
 |x,y=>b5j x y
theorem a5J(xs:List Nat):∀(m:Nat) (acc:Array Nat),(AR m xs.toArray).foldl (· ++·) acc=acc++(AR m xs).flatten.toArray
 |0,acc=>by simp
 |m+1,acc=>by
  rw [AW,List.foldl_cons,a5J xs m,AW,List.flatten_cons]
  apply Array.ext'
  simp
theorem b6u{z:Str}{k:Int}(h0:0<=k):Txt.mul z k=⟨(AR k.toNat z.cps.toList).flatten.toArray⟩:=by
 unfold Txt.mul
 by_cases h1:k<1
 ·have:k=0:=by lia
  subst this
  rfl
 ·rw [if_neg h1]
  by_cases h2:(k==1||z.length==0)=true
  ·rw [if_pos h2]
   rw [Bool.or_eq_true] at h2
   cases z with
   |mk a=>
    rcases h2 with h2|h2
    ·have:k=1:=by simpa using h2
     subst this
     show(⟨a⟩:Str)=_
     congr 1
     apply Array.ext'
     simp
    ·have ha:a.size=0:=by simpa [Str.length] using h2
     have:a= #[]:=Array.eq_empty_of_size_eq_zero ha
     subst this
     congr 1
     apply Array.ext'
     simp
  ·rw [if_neg h2]
   have e:z.cps=z.cps.toList.toArray:=by simp
   congr 1
   rw [e,a5J]
   simp
theorem a6y{K:AD}{H:Hp}{ps:List PV}{xs:List V}(r:p8 K H ps xs):∀m:Nat,p8 K H (AR m ps).flatten (AR m xs).flatten
 |0=>rfl
 |m+1=>by
  rw [AW,AW,List.flatten_cons,List.flatten_cons]
  exact r.append (a6y r m)
theorem b31:OpM X (binaryOp .Mult) a3R:=by
 intro pins s σ H x y v u Q I rx ry h
 obtain⟨F,ra,rb,rz,s0,h1,h2,h3,k⟩:=h
 unfold a3R at h3
 split at h3
 ·rename_i z n
  split at h3
  ·rename_i c
   obtain⟨c0,c1,c2⟩:=a0j.mp c
   cases h3;cases h1;cases h2
   obtain⟨t,rfl⟩:=rx
   obtain⟨t',rfl⟩:=ry
   have hz:z.length*n.toNat<=AO:=by
    rw [sizeLine_eq]
    have:((z.length*n.toNat:Nat):Int)=z.length*n:=by rw [Int.natCast_mul,Int.toNat_of_nonneg c0]
    lia
   refine SB.mul ⟨?_,fun h4 h5 h6=> ?_,fun h4 h5=> ?_⟩ fun t' k'=>⟨.str _,H,I.tok _,⟨_,rfl⟩, ?_⟩
   ·have e1:¬n< -(2 ^ 63:Int):=by lia
    have e2:¬n>=2 ^ 63:=by lia
    simp [e1,e2]
    lia
   ·have h7:(2 ^ 63 - 1:Int)/ n<z.length:=h6
    have h8:(2 ^ 63 - 1:Int)<(z.length:Int)*n:=by
     have:=Int.lt_mul_of_ediv_lt (a:=(2 ^ 63 - 1:Int)) (b:=(z.length:Int)) (c:=n) (by lia) h7
     exact this
    lia
   ·unfold Builtin.Str.tooLong
    rw [decide_eq_false (by lia)]
   ·rw [b6u c0]
    exact k _ F H (A4.here s0 rfl)
  ·cases h3
 ·rename_i ps n
  split at h3
  ·rename_i c
   obtain⟨c0,c1,c2⟩:=a0j.mp c
   cases h3;cases h2
   obtain⟨a,xs,rfl,fa,hq,rl⟩:=h1
   have hlen:=rl.length
   have hz:xs.length*n.toNat<=AO:=by
    rw [sizeLine_eq,hlen]
    have:((ps.length*n.toNat:Nat):Int)=ps.length*n:=by rw [Int.natCast_mul,Int.toNat_of_nonneg c0]
    lia
   exact b7P pins s σ H _ _ v u Q I rx ry ⟨a,n,xs,rfl,rfl,hq,by lia,by lia,hz,fun p hp=>k _ _ _ (A4.lst s0 hp (a6y rl _))⟩
  ·cases h3
 ·exact b30 pins s σ H x y v u Q I rx ry ⟨F,_,_,rz,s0,h1,h2,h3,k⟩
def b0x:M:=fun _=>some (.val (.dict []))
theorem b3d{pos:Pos}:EE X (.Dict [] [] pos) b0x:=
 C2 b39 fun σ H Q ⟨F,ρ,r,en,e,k⟩=>by
  cases e
  exact fun d hd=>k _ _ _ (A4.val (Ext.lay en.fh hd) (Or.inl ⟨d,[],rfl,y4,rfl⟩))
theorem p8.set{K:AD}{H:Hp}{p:PV}{v:V}(h:M2 K H p v):∀{ps:List PV} {xs:List V} (j:Nat),p8 K H ps xs->p8 K H (ps.set j p) (xs.set j v)
 |[],_,_,r=>by cases r;exact rfl
 |_::ps,_,0,⟨w,t,e,_,rl⟩=>by subst e;exact⟨v,t,rfl,h,rl⟩
 |q::ps,_,j+1,⟨w,t,e,hq,rl⟩=>by subst e;exact⟨w,_,rfl,hq,p8.set h j rl⟩
end
theorem a4w:fillsNumberSlot (.type "tuple") "mul"=pure false:=
 PySem.fillsNumberSlot_seq (id:="tuple.__mul__") (r:=some (.builtin "tuple.__rmul__")) PySem.F.slot_tuple_mul.lookup (by decide+kernel) PySem.F.slot_tuple_rmul.lookup (by decide+kernel)
theorem a8L:seqRepeat? (.type "tuple")=pure (some (.builtin "tuple.__mul__")):=by
 unfold seqRepeat?
 rw [PySem.seqSlot_of (T:="tuple") (name:="__mul__") (id:="tuple.__mul__") PySem.F.slot_tuple_mul.lookup (by decide+kernel),PySem.seqSlot_of (T:="tuple") (name:="__rmul__") (id:="tuple.__rmul__") PySem.F.slot_tuple_rmul.lookup (by decide+kernel)]
 rfl
theorem a5Q(a:Int)(t:Tok)(l:AB)(items:Array AA)(n:Nat)(dd:Option AB)(sl:Array (Option AA)):Meets (Builtin.«int.__rmul__» ⟨[.int a t,.ref l],[]⟩) (fun _ R s=>s.heap.get? l=some {cls:= .type "tuple",dict:=dd,data:= .seq items n,slots:=sl}/\R (.ok (.ret Value.notImplemented)) s):=
 .of_wp fun prog w A R s h=>by obtain⟨hp,g,d,tk,os⟩:=s;obtain⟨hl,h⟩:=h;wp_walk;exact⟨_,rfl,h⟩
theorem a6L(l:AB)(items:Array AA)(n:Nat)(dd:Option AB)(sl:Array (Option AA))(x:Int)(u:Tok)(hc0:(decide (x< -(2 ^ 63))||decide (x>=2 ^ 63))=false)(hc1:(items.isEmpty||x==1)=false)(hc2:(decide (x<=0)||items.isEmpty)=false)(hc3:¬(items.size:Int)*x>(2 ^ 63 - 1)/ 8)(hc4:Builtin.Tuple.tupleTooMany ((items.size:Int)*x)=false)(hz:((AR x.toNat items).foldl (· ++·) #[]).size<=AO):
 Meets (Builtin.«tuple.__mul__» ⟨[.ref l,.int x u],[]⟩) (fun _ R s=>s.heap.get? l=some {cls:= .type "tuple",dict:=dd,data:= .seq items n,slots:=sl}/\R (.ok (.ret (Value.ref s.heap.objs.size))) {s with heap:=s.heap.push {cls:=Value.type "tuple",data:=Data.seq ((AR x.toNat items).foldl (· ++·) #[])},toks:=s.toks}):=
 .of_wp fun prog w A R s h=>by
  obtain⟨hp,g,d,tk,os⟩:=s;obtain⟨hl,h⟩:=h
  wp_walk
  have ht:IsTup hp l items:=⟨_,hl,rfl,n,rfl⟩
  rw [if_neg (by rw [hc0];exact Aq)]
  wp_walk
  rw [if_neg hc3]
  wp_walk
  exact⟨_,rfl,h⟩
section
variable {X:Cx}
theorem b5V:OpR X (binaryOp .Mult) (fun x y H Q=>∃a xs n,x= .ref a/\y= .int n/\SqT X.K H a xs/\xs≠[]/\2<=n/\n<=1000000/\xs.length*n.toNat<=AO/\∀p,H p=none->Q (.ref p) (upd H p (.tup (AR n.toNat xs).flatten))):=by
 intro pins s σ H x y v u Q I rx ry h
 obtain⟨a,xs,n,rfl,rfl,hx,hne,h1,h2,hz,q⟩:=h
 cases rx
 obtain⟨t,rfl⟩:=ry
 obtain⟨its,r,ht,_⟩:=I.tuple hx
 have hlen:its.toArray.size=xs.length:=by rw [Am];exact r.length.symm
 have hie:its.toArray.isEmpty=false:=by
  cases its with
  |nil=>exact absurd (r.nil_iff.mp rfl) hne
  |cons _ _=>rfl
 have hnew:List.foldl (fun x1 x2=>x1++x2) #[] (AR n.toNat its.toArray)=(AR n.toNat its).flatten.toArray:=by
  have:=a4n its n.toNat []
  rw [AY] at this
  exact this
 have hc:((xs.length*n.toNat:Nat):Int)=(xs.length:Int)*n:=by rw [Int.natCast_mul,Int.toNat_of_nonneg (by lia)]
 have hsl:=sizeLine_eq
 obtain⟨⟨cls,dd,data,sl⟩,ho,hc',m,hd⟩:=id ht
 simp only at hc' hd
 subst hc' hd
 have hzz:(List.foldl (fun x1 x2=>x1++x2) #[] (AR n.toNat its.toArray)).size<=AO:=by
  rw [hnew,Am,a8w,Nat.mul_comm,<-r.length];exact hz
 refine wpAny_binaryOp_repeat_ref (T:="tuple") (U:="int") (by decide) ht.typeIs (fun s'=>typeIs_int s' n t) a4w F.fills_int_mul F.slot_int_rmul a8L F.slot_int_index.lookup
  (call_meets F.slot_int_rmul (typeIs_int s n t) F.entry_int_rmul (F.args_int_rmul_2 _ _) (a5Q n t a its.toArray m dd sl)
   ⟨ho,rfl,ht.typeIs,call_meets PySem.F.slot_tuple_mul ht.typeIs PySem.F.entry_tuple_mul (PySem.F.args_tuple_mul_2 _ _) (a6L a its.toArray m dd sl n t ?_ ?_ ?_ ?_ ?_ hzz) ⟨ho, ?_⟩⟩)
 ·have e1:¬n< -(2 ^ 63:Int):=by lia
  have e2:¬n>=2 ^ 63:=by lia
  simp [e1,e2]
  lia
 ·rw [hie]
  have:n≠1:=by lia
  simp [this]
 ·rw [hie]
  have:¬n<=0:=by lia
  simp [this]
 ·rw [hlen,<-hc]
  lia
 ·rw [hlen,<-hc]
  unfold Builtin.Tuple.tupleTooMany
  rw [decide_eq_false (by lia)]
 ·rw [hnew]
  refine⟨.ref s.heap.objs.size,_,I.laid (t':=s.toks) (o:= .tup (AR n.toNat xs).flatten) (fun b ob q=>Ah _ q) (AV _) ?_,rfl,q _ (I.hok.fresh (AV _))⟩
  exact⟨by rw [a8w,Nat.mul_comm];exact hz,_,r.rep n.toNat,IsTup.new _ _⟩
def D6:g6->g6->Option g6
 | .val (.tuple ps),.val (.int k)=>if okC (fun k n=>2<=k/\k<=1000000/\1<=n/\n*k<=16777216) k ps.length=true then some (.val (.tuple (AR k.toNat ps).flatten)) else none
 |x,y=>a3R x y
theorem L4:OpM X (binaryOp .Mult) D6:=by
 intro pins s σ H x y v u Q I rx ry h
 obtain⟨F,ra,rb,rz,s0,h1,h2,h3,k⟩:=h
 unfold D6 at h3
 split at h3
 ·rename_i ps n
  split at h3
  ·rename_i c
   obtain⟨c0,c1,c2,c3⟩:=a0j.mp c
   cases h3;cases h2
   obtain⟨a,xs,rfl,hq,rl⟩:=h1
   have hlen:=rl.length
   have hz:xs.length*n.toNat<=AO:=by
    rw [sizeLine_eq,hlen]
    have:((ps.length*n.toNat:Nat):Int)=ps.length*n:=by rw [Int.natCast_mul,Int.toNat_of_nonneg (by lia)]
    lia
   refine b5V pins s σ H _ _ v u Q I rx ry ⟨a,xs,n,rfl,rfl,D9 s0 hq.sq, ?_,by lia,by lia,hz,fun p hp=>k _ _ _ (A4.tup s0 hp (a6y rl _))⟩
   intro e
   rw [e] at hlen
   simp at hlen
   lia
  ·cases h3
 ·exact b31 pins s σ H x y v u Q I rx ry ⟨F,_,_,rz,s0,h1,h2,h3,k⟩
end
section
variable {prog:AL}{w:AJ}{A:AK}{E:AA->AC->Prop}{s:AC}
end
def b2V(h:Heap)(it:AB)(v:AA)(i:Int):Prop:=∃o,h.get? it=some o/\o.cls= .type "reversed"/\o.data= .fields #[v,rawInt i]
theorem b2V.typeIs{s:AC}{it:AB}{v:AA}{i:Int}(x:b2V s.heap it v i):s.TypeIs (.ref it) "reversed":=let ⟨o,ho,hc,_⟩:=x;⟨o,ho,hc⟩
theorem b2V.at{h h':Heap}{it:AB}{v:AA}{i:Int}(x:b2V h it v i)(e:∀o,h.get? it=some o->h'.get? it=some o):b2V h' it v i:=let ⟨o,ho,r⟩:=x;⟨o,e _ ho,r⟩
section
variable {prog:AL}{w:AJ}{A:AK}{E:AA->AC->Prop}{s:AC}{u:AA}{T gid:String}{fp:List AB}{n:Nat}{P:Nat->AA->Prop}{Sq:Heap->Prop}
end
section
variable {prog:AL}{w:AJ}{A:AK}{E:AA->AC->Prop}{s:AC}{u:AA}{T gid:String}{fp:List AB}{n:Nat}{P:Nat->AA->Prop}{Sq:Heap->Prop}
end
section
variable {prog:AL}{w:AJ}{A:AK}{E:AA->AC->Prop}{s:AC}
end
section
variable {X:Cx}
theorem p8.reverse{K:AD}{H:Hp}:∀{ps:List PV} {xs:List V},p8 K H ps xs->p8 K H ps.reverse xs.reverse
 |[],_,r=>by cases r;exact rfl
 |p::ps,_,⟨x,r,e,hp,t⟩=>by
  subst e
  rw [List.reverse_cons,List.reverse_cons]
  exact(p8.reverse t).append ⟨x,[],rfl,hp,rfl⟩
theorem u3.reverse:∀{xs:List V} {us:List AA},u3 xs us->u3 xs.reverse us.reverse
 |_,_,.nil=> .nil
 |_,_,.cons a b=>by
  rw [List.reverse_cons,List.reverse_cons]
  exact(u3.reverse b).append (.cons a .nil)
end
section
variable {X:Cx}
theorem p8.last{K:AD}{H:Hp}{ps:List PV}{xs:List V}{p:PV}(r:p8 K H ps xs)(h:ps.getLast?=some p):∃v,xs.getLast?=some v/\M2 K H p v:=by
 rw [List.getLast?_eq_getElem?] at h
 obtain⟨v,e,q⟩:=r.get h
 exact⟨v,by rw [List.getLast?_eq_getElem?,r.length];exact e,q⟩
theorem p8.dropLast{K:AD}{H:Hp}{ps:List PV}{xs:List V}(r:p8 K H ps xs):p8 K H ps.dropLast xs.dropLast:=by
 rw [List.dropLast_eq_take,List.dropLast_eq_take,r.length]
 exact r.take _
end
def a8V(kvs:List (List A1×PV))(k:List A1):Option PV:=(kvs.find? fun kv=>decide (kv.1=k)).map (·.2)
def b81(kvs:List (List A1×PV))(k:List A1)(v:PV):List (List A1×PV):=
 if(kvs.any fun kv=>decide (kv.1=k))=true then kvs.map (fun kv=>if kv.1=k then(kv.1,v) else kv) else kvs++[(k,v)]
theorem K5.length{K:AD}{H:Hp}:∀{kvs:List (List A1×PV)} {ys:List (List A1×V)},K5 K H kvs ys->ys.length=kvs.length
 |[],_,h=>by cases h;rfl
 |(k,p)::r,_,⟨v,t,e,q,h⟩=>by subst e;rw [AU,AU,K5.length h]
theorem K5.any{K:AD}{H:Hp}{k:List A1}:∀{kvs:List (List A1×PV)} {ys:List (List A1×V)},K5 K H kvs ys->(ys.any fun kv=>decide (kv.1=k))=(kvs.any fun kv=>decide (kv.1=k))
 |[],_,h=>by cases h;rfl
 |(k',p)::r,_,⟨v,t,e,q,h⟩=>by subst e;rw [List.any_cons,List.any_cons,K5.any h]
theorem K5.val{K:AD}{H:Hp}{k:List A1}:∀{kvs:List (List A1×PV)} {ys:List (List A1×V)},K5 K H kvs ys->(∀p,a8V kvs k=some p->∃v,a1P ys k=some v/\M2 K H p v)/\(a8V kvs k=none->a1P ys k=none)
 |[],_,h=>by cases h;exact⟨fun p e=>(nomatch e),fun _=>rfl⟩
 |(k',p)::r,_,⟨v,t,e,q,h⟩=>by
  subst e
  by_cases c:k'=k
  ·have e1:a8V ((k',p)::r) k=some p:=by simp [a8V,List.find?_cons,c]
   have e2:a1P ((k',v)::t) k=some v:=a4b c
   rw [e1,e2]
   exact⟨fun p' e'=>(by cases e';exact⟨v,rfl,q⟩),fun e'=>(nomatch e')⟩
  ·have e1:a8V ((k',p)::r) k=a8V r k:=by simp [a8V,List.find?_cons,c]
   have e2:a1P ((k',v)::t) k=a1P t k:=a4a c
   rw [e1,e2]
   exact K5.val h
theorem K5.repl{K:AD}{H:Hp}{k:List A1}{p:PV}{v:V}(hp:M2 K H p v):∀{kvs:List (List A1×PV)} {ys:List (List A1×V)},K5 K H kvs ys->K5 K H (kvs.map fun kv=>if kv.1=k then(kv.1,p) else kv) (ys.map fun kv=>if kv.1=k then(kv.1,v) else kv)
 |[],_,h=>by cases h;exact rfl
 |(k',p')::r,_,⟨v',t,e,q,h⟩=>by
  subst e
  by_cases c:k'=k
  ·rw [AM,AM]
   simp only [if_pos c]
   exact⟨v,_,rfl,hp,K5.repl hp h⟩
  ·rw [AM,AM]
   simp only [if_neg c]
   exact⟨v',_,rfl,q,K5.repl hp h⟩
theorem K5.snoc{K:AD}{H:Hp}{k:List A1}{p:PV}{v:V}(hp:M2 K H p v):∀{kvs:List (List A1×PV)} {ys:List (List A1×V)},K5 K H kvs ys->K5 K H (kvs++[(k,p)]) (ys++[(k,v)])
 |[],_,h=>by cases h;exact⟨v,[],rfl,hp,rfl⟩
 |(k',p')::r,_,⟨v',t,e,q,h⟩=>by subst e;exact⟨v',_,rfl,q,K5.snoc hp h⟩
theorem K5.put{K:AD}{H:Hp}{k:List A1}{p:PV}{v:V}{kvs:List (List A1×PV)}{ys:List (List A1×V)}(r:K5 K H kvs ys)(hp:M2 K H p v):K5 K H (b81 kvs k p) (a7d ys k v):=by
 unfold b81 a7d
 rw [r.any]
 split
 ·exact r.repl hp
 ·exact r.snoc hp
theorem A4.dct{K:AD}{F H:Hp}{a:AB}(s:u4 F H)(n:H a=none):A4 K F H F (upd H a (.dT [])) (.ref a) (.dct []):=
 ⟨Ext.layH s n,⟨a,[],rfl,s.free n,y4,rfl⟩,fun _ _ _ e=>by cases e;exact n⟩
section
variable {X:Cx}
end
section
variable {prog:AL}{w:AJ}{A:AK}{E:AA->AC->Prop}{s:AC}
end
section
variable {X:Cx}{pins:List (AB×Obj)}{σ:L2.St}{H:Hp}{s:AC}{a:AB}{A:AK}{E:AA->AC->Prop}
end
section
variable {X:Cx}
end
theorem K5.isSome{K:AD}{H:Hp}{k:List A1}{kvs:List (List A1×PV)}{ys:List (List A1×V)}(r:K5 K H kvs ys):(a1P ys k).isSome=(a8V kvs k).isSome:=by
 cases hv:a8V kvs k with
 |none=>rw [(r.val (k:=k)).2 hv];rfl
 |some p=>
  obtain⟨v,e,_⟩:=(r.val (k:=k)).1 p hv
  rw [e];rfl
section
variable {X:Cx}
end
section
variable {prog:AL}{w:AJ}{A:AK}{E:AA->AC->Prop}{s:AC}
end
theorem a7N{K:AD}{H:Hp}:∀ss:List Str,p8 K H (ss.map PyData.str) (ss.map V.str)
 |[]=>rfl
 |x::r=>⟨_,_,rfl,rfl,a7N r⟩
section
variable {X:Cx}
end
section
variable {X:Cx}
end
section
variable {prog:AL}{w:AJ}{A:AK}{E:AA->AC->Prop}{s:AC}
end
section
variable {prog:AL}{w:AJ}{A:AK}{E:AA->AC->Prop}{s:AC}
end
section
variable {X:Cx}
end
def a5v(A:AK)(s:AC)(u v:AA)(b:Bool):Prop:=∀(prog:AL) (w:AJ) (E:AA->AC->Prop) (Q:AA->AC->Prop),Q (.bool b) s->AI (model prog w) A (richCompare .Lt u v) Q E s
section
open AutoSeq1 (wpAny_loadPart')
theorem a8S(l b:AB)(xs ys:Array AA)(n n2:Nat)(dd dd2:Option AB)(sl sl2:Array (Option AA))(e:Nat->Bool)(c:Bool):
 Meets (Builtin.«tuple.__lt__» ⟨[.ref l,.ref b],[]⟩)
  (fun A R s=>(s.heap.get? l=some {cls:= .type "tuple",dict:=dd,data:= .seq xs n,slots:=sl}/\s.heap.get? b=some {cls:= .type "tuple",dict:=dd2,data:= .seq ys n2,slots:=sl2})/\
   (∀j (h1:j<xs.size) (h2:j<ys.size),SeqAt.EqAt A.in1 s xs[j] ys[j] (e j))/\(∀j (h1:j<xs.size) (h2:j<ys.size),(∀k,k<j->e k=true)->e j=false->a5v A.in1 s xs[j] ys[j] c)/\
   ((∀k,k<min xs.size ys.size->e k=true)->c=decide (xs.size<ys.size))/\R (.ok (.ret (.bool c))) s):=
 .of_wp fun prog w A R s h=>by
  obtain⟨hp,g,d,tk,os⟩:=s
  obtain⟨⟨hl,hb⟩,he,hlt,hce,h⟩:=h
  have f2:=AutoSeq1.sub_tuple_tuple
  have hZ:(xs.toList.zip ys.toList).length=min xs.size ys.size:=by simp
  wp_walk using wpAny_loadPart' hl,wpAny_loadPart' hb,wpAny_forIn_list _ (fun A3 b s'=>b.1=none/\s'=⟨hp,g,d,tk,os⟩/\∃i,i<=min xs.size ys.size/\A3=(xs.toList.zip ys.toList).drop i/\∀k,k<i->e k=true) _
  case turn=>
   rintro⟨y,x⟩ A3 b s' ⟨hb',rfl,i,hi,hz,hR⟩
   have hlt':i<(xs.toList.zip ys.toList).length:=by
    rcases Nat.lt_or_ge i (xs.toList.zip ys.toList).length with h'|h'
    ·exact h'
    ·rw [List.drop_of_length_le h'] at hz;cases hz
   have hm:i<min xs.size ys.size:=by lia
   have h1:i<xs.size:=by lia
   have h2:i<ys.size:=by lia
   rw [List.drop_eq_getElem_cons hlt'] at hz
   injection hz with hyx hrest
   have hy:y=xs[i]:=by simpa using congrArg Prod.fst hyx
   have hx:x=ys[i]:=by simpa using congrArg Prod.snd hyx
   subst hy hx
   refine AF (he i h1 h2 prog w _ _ ?_)
   cases hq:e i with
   |true=>
    wp_walk
    exact⟨rfl,rfl,i+1,by lia,hrest,fun k hk=>by
     rcases Nat.lt_or_ge k i with h'|h'
     ·exact hR k h'
     ·rw [show k=i by lia];exact hq⟩
   |false=>
    have hl3:=hlt i h1 h2 hR hq
    show AI _ A.in1 (rule _>>=fun _=>richCompare .Lt xs[i] ys[i]>>=fun v=>ret v>>=fun q=>pure (ForInStep.done (some q,()))) _ _ _
    refine AF (wpAny_rule ?_)
    refine AF (hl3 prog w _ _ ?_)
    refine AF (AS ?_)
    refine AS ?_
    exact AS ⟨_,rfl,h⟩
  case fin=>
   rintro⟨b1,b2⟩ s' ⟨hb',rfl,i,hi,hz,hR⟩
   simp only at hb'
   subst hb'
   have hge:min xs.size ys.size<=i:=by
    rcases Nat.lt_or_ge i (xs.toList.zip ys.toList).length with h'|h'
    ·rw [List.drop_eq_getElem_cons h'] at hz;cases hz
    ·lia
   wp_walk
   refine⟨_,rfl, ?_⟩
   rw [hce fun k hk=>hR k (by lia)] at h
   exact h
  case h=>
   exact⟨rfl,rfl,0,by lia,rfl,fun k hk=>by lia⟩
variable {A:AK}{s:AC}
theorem a5v.tuples{l b:AB}{xs ys:Array AA}{e:Nat->Bool}{c:Bool}(hl:s.heap.IsTuple l xs)(hb:s.heap.IsTuple b ys)(hu:A.units<cLine)
 (he:∀j (h1:j<xs.size) (h2:j<ys.size),SeqAt.EqAt A.in1 s xs[j] ys[j] (e j)) (hlt:∀j (h1:j<xs.size) (h2:j<ys.size),(∀k,k<j->e k=true)->e j=false->a5v A.in1 s xs[j] ys[j] c)
 (hce:(∀k,k<min xs.size ys.size->e k=true)->c=decide (xs.size<ys.size)):a5v A s (.ref l) (.ref b) c:=fun prog w E Q h=>by
 obtain⟨⟨c1,d1,t1,s1⟩,o1,e1,n1,k1⟩:=id hl
 obtain⟨⟨c2,d2,t2,s2⟩,o2,e2,n2,k2⟩:=id hb
 simp only at e1 k1 e2 k2
 subst e1 k1 e2 k2
 exact richCompare_meets_room (op:= .Lt) ⟨_,o1,rfl⟩ ⟨_,o2,rfl⟩ F.slot_tuple_lt F.entry_tuple_lt (F.args_tuple_lt_2 _ _) (a8S l b xs ys n1 n2 d1 d2 s1 s2 e c)
  ⟨⟨o1,o2⟩,he,hlt,hce,show Value.bool c≠Value.notImplemented/\Q (.bool c) s from⟨(fun x=>nomatch x),h⟩⟩ hu
theorem a5v.strs(a b:Str)(t u:Tok):a5v A s (.str a t) (.str b u) (decide (a.cps.toList<b.cps.toList)):=fun prog w E Q h=>lt_str h
end
section
variable {X:Cx}{pins:List (AB×Obj)}{σ:L2.St}{H:Hp}{s:AC}
end
section
variable {X:Cx}
end
section
variable {prog:AL}{w:AJ}{A:AK}{R:Result->AC->Prop}{I:AB}{fp wr:List AB}{n:Nat}{P:Nat->AA->Prop}{St:Nat->Heap->Prop}
end
section
variable {prog:AL}{w:AJ}{A:AK}{E:AA->AC->Prop}{s:AC}
end
section
variable {X:Cx}
end
end PU
namespace TS
open PySem PyProof.Rows
abbrev SM(α:Type):=StateT SortSt Sem α
def g(a:Array Keyed)(i:Nat):Keyed:=(a[i]?).getD (Value.none,Value.none)
theorem b7n{a:Array Keyed}{i:Nat}(h:i<a.size):a[i]?=some (g a i):=by
 unfold g;rw [getElem?_pos a i h];rfl
theorem b0p{a:Array Keyed}{i:Nat}(h:i<a.size):a.toList[i]?=some (g a i):=by
 rw [Array.getElem?_toList];exact b7n h
section
variable {prog:AL}{w:AJ}{A:AK}{E:AA->AC->Prop}{s:AC}
structure Cmp(prog:AL)(w:AJ)(A:AK)(E:AA->AC->Prop)(s:AC)(κ:SortKind)(S:Keyed->Prop)(R:Keyed->Keyed->Bool):Prop where
 lt:∀x y,S x->S y->∀(st:SortSt) (Q:Option Bool->SortSt->Prop),kindOf st=κ->Q (some (R x y)) st->wpS (model prog w) A E s (lt' x y) Q st
 tr:∀x y z,S x->S y->S z->R y x=false->R z y=false->R z x=false
 as:∀x y,S x->S y->R x y=true->R y x=false
variable {κ:SortKind}{S:Keyed->Prop}{R:Keyed->Keyed->Bool}
end
def Seg(R:Keyed->Keyed->Bool)(a:Array Keyed)(lo hi:Nat):Prop:=∀i j,lo<=i->i<=j->j<hi->R (g a j) (g a i)=false
def Fix(lo:Nat)(a b:Array Keyed):Prop:=∀i,i<lo->g b i=g a i
theorem Fix.refl{lo:Nat}{a:Array Keyed}:Fix lo a a:=fun _ _=>rfl
theorem Fix.trans{lo:Nat}{a b c:Array Keyed}(h:Fix lo a b)(k:Fix lo b c):Fix lo a c:=fun i hi=>(k i hi).trans (h i hi)
structure B(κ:SortKind)(a₀:Array Keyed)(st:SortSt):Prop where
 perm:(arrOf st).Perm a₀
 kind:kindOf st=κ
 failed:failedOf st=none
section
variable {prog:AL}{w:AJ}{A:AK}{E:AA->AC->Prop}{s:AC}
variable {κ:SortKind}{S:Keyed->Prop}{R:Keyed->Keyed->Bool}{a₀:Array Keyed}
theorem B.size{st:SortSt}(h:B κ a₀ st):(arrOf st).size=a₀.size:=h.perm.size_eq
theorem B.set{st:SortSt}(h:B κ a₀ st){xs:Array Keyed}(hp:xs.Perm (arrOf st)):B κ a₀ (setArr st xs):=⟨hp.trans h.perm,h.kind,h.failed⟩
def up(lo a nrem:Nat):SM (Option (Option Nat)×Nat):=
 forIn [a:nrem] ((none,a):Option (Option Nat)×Nat) fun _ c=>do
  let t<-ltAt' (lo+c.2) (lo+c.2 - 1)
  match t with
  |some b=>if b=true then pure (.done (none,c.2)) else pure (.yield (none,c.2+1))
  |_=>pure (.done (some none,c.2))
def dn(lo n nrem:Nat):SM (Option (Option Nat)×Nat×Nat):=
 forIn [n:nrem] ((none,n,0):Option (Option Nat)×Nat×Nat) fun _ c=>do
  let t<-ltAt' (lo+c.2.1) (lo+c.2.1 - 1)
  match t with
  |some b=>
   if b=true then
    if c.2.2>0 then do
     reverseSlice' (lo+c.2.1 - (c.2.2+1)) (lo+c.2.1)
     pure (.yield (none,c.2.1+1,0))
    else pure (.yield (none,c.2.1+1,0))
   else do
    let t<-ltAt' (lo+c.2.1 - 1) (lo+c.2.1)
    match t with
    |some b=>if b=true then pure (.done (none,c.2.1,c.2.2)) else pure (.yield (none,c.2.1+1,c.2.2+1))
    |_=>pure (.done (some none,c.2.1,c.2.2))
  |_=>pure (.done (some none,c.2.1,c.2.2))
end
def le(R:Keyed->Keyed->Bool)(x y:Keyed):Prop:=R y x=false
def Mg(R:Keyed->Keyed->Bool)(W out la lb:List Keyed):Prop:=(out++la).Pairwise (le R)/\(out++lb).Pairwise (le R)/\(out++(la++lb)).Perm W
section
variable {R:Keyed->Keyed->Bool}{W out la lb xs:List Keyed}
theorem Mg.takeA(h:Mg R W out (xs++la) lb)(k:∀x∈xs,∀y∈lb,le R x y):Mg R W (out++xs) la lb:=by
 obtain⟨h1,h2,h3⟩:=h
 have e1:=List.pairwise_append.mp (show((out++xs)++la).Pairwise (le R) by rw [List.append_assoc];exact h1)
 have e2:=List.pairwise_append.mp h2
 refine⟨by rw [List.append_assoc];exact h1,List.pairwise_append.mpr ⟨e1.1,e2.2.1,fun x hx y hy=> ?_⟩,by rw [List.append_assoc,<-List.append_assoc xs];exact h3⟩
 rcases Au.mp hx with hx|hx
 ·exact e2.2.2 x hx y hy
 ·exact k x hx y hy
theorem Mg.swap(h:Mg R W out la lb):Mg R W out lb la:=⟨h.2.1,h.1,(List.Perm.append_left out List.perm_append_comm).trans h.2.2⟩
theorem Mg.takeB(h:Mg R W out la (xs++lb))(k:∀x∈xs,∀y∈la,le R x y):Mg R W (out++xs) la lb:=(h.swap.takeA k).swap
def a6S(R:Keyed->Keyed->Bool)(W r:List Keyed):Prop:=r.Pairwise (le R)/\r.Perm W
theorem Mg.doneB(h:Mg R W out la []):a6S R W (out++la):=⟨h.1,by have:=h.2.2;rwa [Ae] at this⟩
theorem Mg.doneA(h:Mg R W out [] lb):a6S R W (out++lb):=⟨h.2.1,h.2.2⟩
theorem Mg.last{x:Keyed}(h:Mg R W out [x] lb)(k:∀y∈lb,le R y x):a6S R W ((out++lb)++[x]):=by
 obtain⟨h1,h2,h3⟩:=h
 have e1:=List.pairwise_append.mp h1
 refine⟨List.pairwise_append.mpr ⟨h2,e1.2.1,fun y hy z hz=> ?_⟩, ?_⟩
 ·cases List.mem_singleton.mp hz
  rcases Au.mp hy with hy|hy
  ·exact e1.2.2 y hy x (List.mem_singleton.mpr rfl)
  ·exact k y hy
 ·rw [List.append_assoc]
  exact(List.Perm.append_left out List.perm_append_comm).trans h3
end
theorem a2F{a:Array Keyed}{i:Nat}(h:i<a.size):a.toList.drop i=g a i::a.toList.drop (i+1):=by
 have h':i<a.toList.length:=h
 rw [List.drop_eq_getElem_cons h']
 congr 1
 have:=b0p h
 rw [Ay h'] at this
 exact Option.some.inj this
theorem a5Z{a:Array Keyed}{i:Nat}{x:Keyed}(h:x∈a.toList.drop i):∃j,i<=j/\j<a.size/\x=g a j:=by
 obtain⟨k,hk,e⟩:=List.mem_iff_getElem.mp h
 have hk':i+k<a.size:=by rw [List.length_drop] at hk;have:a.toList.length=a.size:=rfl;lia
 refine⟨i+k,by lia,hk', ?_⟩
 have e2:=b0p hk'
 rw [List.getElem_drop] at e
 rw [Ay (show i+k<a.toList.length from hk')] at e2
 exact e.symm.trans (Option.some.inj e2)
theorem a2g{a:Array Keyed}{i k:Nat}{x:Keyed}(h:x∈(a.toList.drop i).take k)(hk:i+k<=a.size):∃j,j<k/\x=g a (i+j):=by
 obtain⟨q,hq,e⟩:=List.mem_iff_getElem.mp h
 rw [List.length_take,List.length_drop] at hq
 rw [List.getElem_take,List.getElem_drop] at e
 refine⟨q,by lia, ?_⟩
 have hk':i+q<a.size:=by lia
 have e2:=b0p hk'
 rw [Ay (show i+q<a.toList.length from hk')] at e2
 exact e.symm.trans (Option.some.inj e2)
theorem Q6(a:Array Keyed)(i j:Nat):(a.extract i j).toList=(a.toList.drop i).take (j - i):=by
 rw [Array.toList_extract,List.extract_eq_take_drop]
theorem a5e{a:Array Keyed}{i:Nat}:(a.extract i a.size).toList=a.toList.drop i:=by
 rw [Q6,List.take_of_length_le]
 rw [List.length_drop];exact AV _
section
variable {prog:AL}{w:AJ}{A:AK}{E:AA->AC->Prop}{s:AC}
variable {κ:SortKind}{S:Keyed->Prop}{R:Keyed->Keyed->Bool}
structure Sm(st st':SortSt):Prop where
 k:kindOf st'=kindOf st
 a:arrOf st'=arrOf st
 p:pendingOf st'=pendingOf st
 f:failedOf st'=failedOf st
theorem Sm.refl{st:SortSt}:Sm st st:=⟨rfl,rfl,rfl,rfl⟩
def rs(a b o:Array Keyed)(i j:Nat):Array Keyed:=o++a.extract i a.size++b.extract j b.size
def D(R:Keyed->Keyed->Bool)(a b o:Array Keyed)(i j:Nat):Prop:=Mg R (a.toList++b.toList) o.toList (a.toList.drop i) (b.toList.drop j)
structure Two(S:Keyed->Prop)(R:Keyed->Keyed->Bool)(a b:Array Keyed):Prop where
 Sa:∀i,i<a.size->S (g a i)
 Sb:∀i,i<b.size->S (g b i)
 sa:Seg R a 0 a.size
 sb:Seg R b 0 b.size
 pa:0<a.size
 pb:0<b.size
 lo:∀i,i<a.size->le R (g b 0) (g a i)
 hi:∀j,j<b.size->le R (g b j) (g a (a.size - 1))
theorem D.takeAk(C:Cmp prog w A E s κ S R){a b o:Array Keyed}{i j k:Nat}(T:Two S R a b)(h:D R a b o i j)(hk:i+k<=a.size)(hj:j<b.size)(q:∀l,l<k->le R (g a (i+l)) (g b j)):
 D R a b (o++a.extract i (i+k)) (i+k) j:=by
 unfold D at h ⊢
 rw [Array.toList_append,Q6,show i+k - i=k by lia]
 refine Mg.takeA (by rw [<-List.drop_drop,List.take_append_drop];exact h) fun x hx y hy=> ?_
 obtain⟨l,hl,rfl⟩:=a2g hx hk
 obtain⟨m,hm,hm2,rfl⟩:=a5Z hy
 exact C.tr _ (g b j) _ (T.Sa _ (by lia)) (T.Sb _ hj) (T.Sb _ hm2) (q l hl) (T.sb j m (by lia) hm hm2)
theorem D.takeBk(C:Cmp prog w A E s κ S R){a b o:Array Keyed}{i j k:Nat}(T:Two S R a b)(h:D R a b o i j)(hk:j+k<=b.size)(hi:i<a.size)(q:∀l,l<k->le R (g b (j+l)) (g a i)):
 D R a b (o++b.extract j (j+k)) i (j+k):=by
 unfold D at h ⊢
 rw [Array.toList_append,Q6,show j+k - j=k by lia]
 refine Mg.takeB (by rw [<-List.drop_drop,List.take_append_drop];exact h) fun x hx y hy=> ?_
 obtain⟨l,hl,rfl⟩:=a2g hx hk
 obtain⟨m,hm,hm2,rfl⟩:=a5Z hy
 exact C.tr _ (g a i) _ (T.Sb _ (by lia)) (T.Sa _ hi) (T.Sa _ hm2) (q l hl) (T.sa i m (by lia) hm hm2)
theorem a6v{o a:Array Keyed}{i:Nat}(h:i<a.size):o.push (g a i)=o++a.extract i (i+1):=by
 apply Array.toList_inj.mp
 rw [Array.toList_push,Array.toList_append,Q6,a2F h,show i+1 - i=1 by lia]
 rfl
theorem D.takeA(C:Cmp prog w A E s κ S R){a b o:Array Keyed}{i j:Nat}(T:Two S R a b)(h:D R a b o i j)(hi:i<a.size)(hj:j<b.size)(q:le R (g a i) (g b j)):D R a b (o.push (g a i)) (i+1) j:=by
 rw [a6v hi]
 exact h.takeAk C T (by lia) hj fun l hl=>by rw [show i+l=i by lia];exact q
theorem D.takeB(C:Cmp prog w A E s κ S R){a b o:Array Keyed}{i j:Nat}(T:Two S R a b)(h:D R a b o i j)(hi:i<a.size)(hj:j<b.size)(q:le R (g b j) (g a i)):D R a b (o.push (g b j)) i (j+1):=by
 rw [a6v hj]
 exact h.takeBk C T (by lia) hi fun l hl=>by rw [show j+l=j by lia];exact q
theorem D.done{a b o:Array Keyed}{i j:Nat}(h:D R a b o i j)(e:i=a.size\/j=b.size):a6S R (a.toList++b.toList) (rs a b o i j).toList:=by
 unfold rs
 rw [Array.toList_append,Array.toList_append,a5e,a5e]
 unfold D at h
 have nil:∀c:Array Keyed,c.toList.drop c.size=[]:=fun c=>List.drop_eq_nil_of_le (AV _)
 rcases e with rfl|rfl
 ·rw [nil] at h ⊢;rw [Ae];exact h.doneA
 ·rw [nil] at h ⊢;rw [Ae];exact h.doneB
theorem D.last{a b o:Array Keyed}{i j:Nat}(T:Two S R a b)(h:D R a b o i j)(e:i+1=a.size):a6S R (a.toList++b.toList) (rs b a o j i).toList:=by
 unfold rs
 rw [Array.toList_append,Array.toList_append,a5e,a5e]
 unfold D at h
 have e1:a.toList.drop i=[g a (a.size - 1)]:=by
  rw [a2F (by lia),e,show i=a.size - 1 by lia]
  congr 1
  exact List.drop_eq_nil_of_le (AV _)
 rw [e1] at h ⊢
 exact h.last fun y hy=>by
  obtain⟨m,hm,hm2,rfl⟩:=a5Z hy
  exact T.hi m hm2
section
variable {a b o:Array Keyed}{st st':SortSt}{i j mg u v x₀ x:Nat}
end
section
variable {a b:Array Keyed}{st st':SortSt}{x₀ x mg:Nat}
end
end
def Mh(R:Keyed->Keyed->Bool)(W out la lb:List Keyed):Prop:=(la++out).Pairwise (le R)/\(lb++out).Pairwise (le R)/\((la++lb)++out).Perm W
section
variable {R:Keyed->Keyed->Bool}{W out la lb xs:List Keyed}
theorem Mh.swap(h:Mh R W out la lb):Mh R W out lb la:=⟨h.2.1,h.1,(List.Perm.append_right out List.perm_append_comm).trans h.2.2⟩
theorem Mh.takeA(h:Mh R W out (la++xs) lb)(k:∀x∈xs,∀y∈lb,le R y x):Mh R W (xs++out) la lb:=by
 obtain⟨h1,h2,h3⟩:=h
 have e1:=List.pairwise_append.mp (show(la++(xs++out)).Pairwise (le R) by rw [<-List.append_assoc];exact h1)
 have e2:=List.pairwise_append.mp h2
 refine⟨by rw [<-List.append_assoc];exact h1,List.pairwise_append.mpr ⟨e2.1,e1.2.1,fun y hy x hx=> ?_⟩, ?_⟩
 ·rcases Au.mp hx with hx|hx
  ·exact k x hx y hy
  ·exact e2.2.2 y hy x hx
 ·refine List.Perm.trans ?_ h3
  rw [<-List.append_assoc]
  refine List.Perm.append_right out ?_
  rw [List.append_assoc,List.append_assoc]
  exact List.Perm.append_left la List.perm_append_comm
theorem Mh.takeB(h:Mh R W out la (lb++xs))(k:∀x∈xs,∀y∈la,le R y x):Mh R W (xs++out) la lb:=(h.swap.takeA k).swap
theorem Mh.doneB(h:Mh R W out la []):a6S R W (la++out):=⟨h.1,by have:=h.2.2;rwa [Ae] at this⟩
theorem Mh.doneA(h:Mh R W out [] lb):a6S R W (lb++out):=⟨h.2.1,h.2.2⟩
theorem Mh.first{x:Keyed}(h:Mh R W out la [x])(k:∀y∈la,le R x y):a6S R W ([x]++(la++out)):=by
 obtain⟨h1,h2,h3⟩:=h
 have e2:=List.pairwise_append.mp h2
 refine⟨List.pairwise_append.mpr ⟨e2.1,h1,fun y hy z hz=> ?_⟩, ?_⟩
 ·cases List.mem_singleton.mp hy
  rcases Au.mp hz with hz|hz
  ·exact k z hz
  ·exact e2.2.2 x (List.mem_singleton.mpr rfl) z hz
 ·rw [<-List.append_assoc]
  exact(List.Perm.append_right out List.perm_append_comm).trans h3
end
theorem a50{a:Array Keyed}{n:Nat}{x:Keyed}(hn:n<=a.size)(h:x∈a.toList.take n):∃j,j<n/\x=g a j:=by
 obtain⟨j,hj,e⟩:=a2g (i:=0) (k:=n) (a:=a) (x:=x) (by rwa [List.drop_zero]) (by lia)
 exact⟨j,hj,by rwa [Nat.zero_add] at e⟩
theorem a6K{a:Array Keyed}{m n:Nat}(h:m<=n):a.toList.take n=a.toList.take m++(a.extract m n).toList:=by
 rw [Q6,<-List.take_add,show m+(n - m)=n by lia]
theorem a3M(a:Array Keyed)(n:Nat):(a.extract 0 n).toList=a.toList.take n:=by
 rw [Q6,List.drop_zero,Nat.sub_zero]
section
variable {prog:AL}{w:AJ}{A:AK}{E:AA->AC->Prop}{s:AC}
variable {κ:SortKind}{S:Keyed->Prop}{R:Keyed->Keyed->Bool}
def rh(a b o:Array Keyed)(i j:Nat):Array Keyed:=a.extract 0 i++b.extract 0 j++o.reverse
def H(R:Keyed->Keyed->Bool)(a b o:Array Keyed)(i j:Nat):Prop:=Mh R (a.toList++b.toList) o.toList.reverse (a.toList.take i) (b.toList.take j)
theorem H.takeAk(C:Cmp prog w A E s κ S R){a b o:Array Keyed}{i j m:Nat}(T:Two S R a b)(h:H R a b o i j)(hi:i<=a.size)(hm:m<=i)(hj:j<=b.size)(h0:0<j)(q:∀l,m<=l->l<i->le R (g b (j - 1)) (g a l)):
 H R a b (o++(a.extract m i).reverse) m j:=by
 unfold H at h ⊢
 rw [a6K hm] at h
 rw [Array.toList_append,Array.toList_reverse,List.reverse_append,List.reverse_reverse]
 refine Mh.takeA h fun x hx y hy=> ?_
 rw [Q6] at hx
 obtain⟨l,hl,rfl⟩:=a2g hx (by lia)
 obtain⟨k,hk,rfl⟩:=a50 hj hy
 exact C.tr _ (g b (j - 1)) _ (T.Sb _ (by lia)) (T.Sb _ (by lia)) (T.Sa _ (by lia)) (T.sb k (j - 1) (by lia) (by lia) (by lia)) (q _ (by lia) (by lia))
theorem H.takeBk(C:Cmp prog w A E s κ S R){a b o:Array Keyed}{i j m:Nat}(T:Two S R a b)(h:H R a b o i j)(hj:j<=b.size)(hm:m<=j)(hi:i<=a.size)(h0:0<i)(q:∀l,m<=l->l<j->le R (g a (i - 1)) (g b l)):
 H R a b (o++(b.extract m j).reverse) i m:=by
 unfold H at h ⊢
 rw [a6K hm] at h
 rw [Array.toList_append,Array.toList_reverse,List.reverse_append,List.reverse_reverse]
 refine Mh.takeB h fun x hx y hy=> ?_
 rw [Q6] at hx
 obtain⟨l,hl,rfl⟩:=a2g hx (by lia)
 obtain⟨k,hk,rfl⟩:=a50 hi hy
 exact C.tr _ (g a (i - 1)) _ (T.Sa _ (by lia)) (T.Sa _ (by lia)) (T.Sb _ (by lia)) (T.sa k (i - 1) (by lia) (by lia) (by lia)) (q _ (by lia) (by lia))
theorem a9P{o a:Array Keyed}{i:Nat}(h:i<a.size):o.push (g a i)=o++(a.extract i (i+1)).reverse:=by
 rw [a6v h]
 congr 1
 apply Array.toList_inj.mp
 rw [Array.toList_reverse,Q6,a2F h,show i+1 - i=1 by lia]
 rfl
theorem H.takeA(C:Cmp prog w A E s κ S R){a b o:Array Keyed}{i j:Nat}(T:Two S R a b)(h:H R a b o i j)(hi:i<=a.size)(hi0:0<i)(hj:j<=b.size)(h0:0<j)(q:le R (g b (j - 1)) (g a (i - 1))):H R a b (o.push (g a (i - 1))) (i - 1) j:=by
 rw [a9P (by lia),show i - 1+1=i by lia]
 exact h.takeAk C T hi (by lia) hj h0 fun l h1 h2=>by rw [show l=i - 1 by lia];exact q
theorem H.takeB(C:Cmp prog w A E s κ S R){a b o:Array Keyed}{i j:Nat}(T:Two S R a b)(h:H R a b o i j)(hj:j<=b.size)(hj0:0<j)(hi:i<=a.size)(h0:0<i)(q:le R (g a (i - 1)) (g b (j - 1))):H R a b (o.push (g b (j - 1))) i (j - 1):=by
 rw [a9P (by lia),show j - 1+1=j by lia]
 exact h.takeBk C T hj (by lia) hi h0 fun l h1 h2=>by rw [show l=j - 1 by lia];exact q
theorem H.done{a b o:Array Keyed}{i j:Nat}(h:H R a b o i j)(e:i=0\/j=0):a6S R (a.toList++b.toList) (rh a b o i j).toList:=by
 unfold rh
 rw [Array.toList_append,Array.toList_append,a3M,a3M,Array.toList_reverse]
 unfold H at h
 rcases e with rfl|rfl
 ·rw [List.take_zero] at h ⊢;exact h.doneA
 ·rw [List.take_zero] at h ⊢;rw [Ae];exact h.doneB
theorem H.first{a b o:Array Keyed}{i j:Nat}(T:Two S R a b)(h:H R a b o i j)(hi:i<=a.size)(e:j=1):a6S R (a.toList++b.toList) (rh b a o j i).toList:=by
 unfold rh
 rw [Array.toList_append,Array.toList_append,a3M,a3M,Array.toList_reverse]
 unfold H at h
 subst e
 have e1:b.toList.take 1=[g b 0]:=by
  have:=a2F (a:=b) T.pb
  rw [List.drop_zero] at this
  rw [this];rfl
 rw [e1] at h ⊢
 rw [List.append_assoc]
 exact h.first fun y hy=>by
  obtain⟨m,hm,rfl⟩:=a50 hi hy
  exact T.lo m (by lia)
section
variable {a b o:Array Keyed}{st st':SortSt}{i j mg u v x₀ x:Nat}
end
section
variable {a b:Array Keyed}{st st':SortSt}{x₀ x mg:Nat}
end
end
def sp(r:Array Keyed)(d:Nat)(a:Array Keyed):Array Keyed:=r.toList.zipIdx.foldl (fun a (p,j)=>a.setIfInBounds (d+j) p) a
section
variable {prog:AL}{w:AJ}{A:AK}{E:AA->AC->Prop}{s:AC}
variable {κ:SortKind}{S:Keyed->Prop}{R:Keyed->Keyed->Bool}{a₀:Array Keyed}
end
def Cov(R:Keyed->Keyed->Bool)(a:Array Keyed):List (Nat×Nat×Nat)->Nat->Nat->Prop
 |[],f,t=>f=t
 |(p,n,_)::r,f,t=>p=f/\1<=n/\Seg R a p (p+n)/\Cov R a r (p+n) t
section
variable {R:Keyed->Keyed->Bool}{a b:Array Keyed}
theorem Cov.le:∀{l:List (Nat×Nat×Nat)} {f t:Nat},Cov R a l f t->f+l.length<=t
 |[],f,t,h=>by have:f=t:=h;rw [Ag];lia
 |(p,n,e)::r,f,t,h=>by
  obtain⟨h1,h2,_,h4⟩:=h
  have:=h4.le
  rw [AU];lia
theorem Cov.same:∀{l:List (Nat×Nat×Nat)} {f t:Nat},Cov R a l f t->(∀j,f<=j->j<t->g b j=g a j)->Cov R b l f t
 |[],f,t,h,_=>h
 |(p,n,e)::r,f,t,h,k=>by
  obtain⟨h1,h2,h3,h4⟩:=h
  have:=h4.le
  refine⟨h1,h2,fun i j hi hij hj=> ?_,h4.same fun j h5 h6=>k j (by lia) h6⟩
  rw [k i (by lia) (by lia),k j (by lia) (by lia)]
  exact h3 i j hi hij hj
theorem Cov.split:∀{l m:List (Nat×Nat×Nat)} {f t:Nat},Cov R a (l++m) f t->∃u,Cov R a l f u/\Cov R a m u t
 |[],m,f,t,h=>⟨f,rfl,h⟩
 |(p,n,e)::r,m,f,t,h=>by
  obtain⟨h1,h2,h3,h4⟩:=h
  obtain⟨u,h5,h6⟩:=h4.split
  exact⟨u,⟨h1,h2,h3,h5⟩,h6⟩
theorem Cov.join:∀{l m:List (Nat×Nat×Nat)} {f u t:Nat},Cov R a l f u->Cov R a m u t->Cov R a (l++m) f t
 |[],m,f,u,t,h,k=>by have:f=u:=h;subst this;exact k
 |(p,n,e)::r,m,f,u,t,h,k=>⟨h.1,h.2.1,h.2.2.1,h.2.2.2.join k⟩
end
section
variable {prog:AL}{w:AJ}{A:AK}{E:AA->AC->Prop}{s:AC}
variable {κ:SortKind}{S:Keyed->Prop}{R:Keyed->Keyed->Bool}{a₀:Array Keyed}
end
open PySem PySem.Spec PyProof.Rows
section
variable {prog:AL}{w:AJ}{A:AK}{E:AA->AC->Prop}{s:AC}
variable {κ:SortKind}{S:Keyed->Prop}{R:Keyed->Keyed->Bool}
def tw(v:AA):Keyed:=(v,v)
end
open PySem PySem.Spec PyProof.Rows L2 PU
section
variable {prog:AL}{w:AJ}{A:AK}{E:AA->AC->Prop}{s:AC}
variable {κ:SortKind}{S:Keyed->Prop}{R:Keyed->Keyed->Bool}
end
end TS
namespace PU
open PySem PySem.Spec PyProof.Rows L2
section
variable {α:Type}{lt:α->α->Bool}
end
open PySem PySem.Spec PyProof.Rows L2 PySem.W
theorem b0u:∀{a b:A1},kV a=kV b->a=b
 | .inl _,.inl _,h=>by cases h;rfl
 | .inr _,.inr _,h=>by cases h;rfl
 | .inl _,.inr _,h=>nomatch h
 | .inr _,.inl _,h=>nomatch h
theorem a5i:∀{a b:List A1},a.map kV=b.map kV->a=b
 |[],[],_=>rfl
 |[],_::_,h=>nomatch h
 |_::_,[],h=>nomatch h
 |x::a,y::b,h=>by
  rw [AM,AM] at h
  obtain⟨h1,h2⟩:=List.cons.inj h
  rw [b0u h1,a5i h2]
def b1W(h:Heap)(u:AA)(k:List A1):Prop:=∃(a:AB) (o:Obj) (xs:Array AA) (n:Nat),u= .ref a/\h.get? a=some o/\o.cls= .type "tuple"/\o.data= .seq xs n/\u3 (k.map kV) xs.toList
theorem b1W.inj{h:Heap}{u:AA}{k j:List A1}(a:b1W h u k)(b:b1W h u j):k=j:=by
 obtain⟨a1,o1,x1,n1,rfl,g1,_,d1,v1⟩:=a
 obtain⟨a2,o2,x2,n2,e2,g2,_,d2,v2⟩:=b
 cases e2
 rw [g1] at g2;cases g2
 rw [d1] at d2;cases d2
 exact a5i (v1.inj v2)
theorem b1W.keep{h h':Heap}{u:AA}{k:List A1}(a:b1W h u k)(kp:∀b o,h.get? b=some o->h'.get? b=some o):b1W h' u k:=
 let ⟨a1,o1,x1,n1,e,g1,c,d1,v1⟩:=a;⟨a1,o1,x1,n1,e,kp _ _ g1,c,d1,v1⟩
section
variable {prog:AL}{w:AJ}{A:AK}{E:AA->AC->Prop}{s:AC}
end
section
variable {prog:AL}{w:AJ}{A:AK}{E:AA->AC->Prop}{s:AC}
end
section
variable {X:Cx}{pins:List (AB×Obj)}{σ:L2.St}{F H:Hp}{s:AC}
end
section
variable {X:Cx}
end
section
variable {X:Cx}
end
section
variable {X:Cx}
end
def a81(h:Heap)(d:AB)(es:Array DictEntry)(ep:Nat):Prop:=∃o,h.get? d=some o/\o.ExactDict/\o.data= .dict es ep
section
variable {prog:AL}{w:AJ}{A:AK}{E:AA->AC->Prop}{s:AC}{it d:AB}{i ep:Nat}{es:Array DictEntry}
theorem a81.type(h:a81 s.heap d es ep):s.TypeIs (.ref d) "dict":=let ⟨o,ho,hc,_⟩:=h;⟨o,ho,hc.1⟩
theorem a81.at{h h':Heap}(x:a81 h d es ep)(e:∀o,h.get? d=some o->h'.get? d=some o):a81 h' d es ep:=let ⟨o,ho,r⟩:=x;⟨o,e _ ho,r⟩
end
end PU
namespace TS
open PySem PySem.Spec PyProof.Rows L2 PU
section
variable {prog:AL}{w:AJ}{A:AK}{E:AA->AC->Prop}{s:AC}
variable {κ:SortKind}{S:Keyed->Prop}{R:Keyed->Keyed->Bool}
end
end TS
namespace PU
open PySem PySem.Spec PyProof.Rows L2 PySem.W
section
variable {prog:AL}{w:AJ}{A:AK}{E:AA->AC->Prop}{s:AC}
end
section
variable {X:Cx}
end
open PySem PySem.Spec PyProof.Rows L2
section
variable {X:Cx}{pins:List (AB×Obj)}{σ:L2.St}{H:Hp}{s:AC}{a b:AB}{kvs:List (List A1×V)}{k:List A1}{v:V}{r:AA}{A:AK}{E:AA->AC->Prop}
end
section
variable {X:Cx}
end
mutual
def nl:PV->Bool
 | .list _=>false
 | .tuple ps=>nlL ps
 | .dict ((.tuple _,_)::_)=>false
 | .dict ((.str _,.bool false)::_)=>false
 | .dict ((.str _,.int _)::_)=>false
 |_=>true
def nlL:List PV->Bool
 |[]=>true
 |p::ps=>nl p && nlL ps
end
section
variable {K:AD}{F:Hp}{a:AB}{xs:List V}
end
section
variable {X:Cx}
end
section
variable {X:Cx}
end
section
variable {X:Cx}
end
section
variable {X:Cx}{tg:AG}
end
section
variable {prog:AL}{w:AJ}{A:AK}{E:AA->AC->Prop}{s:AC}
end
theorem b6n{K:AD}{H:Hp}{a D:AB}{xs:List V}{kvs kvs':List (List A1×V)}(e:H D=some (.dT kvs))(h:SqT K H a xs):SqT K (upd H D (.dT kvs')) a xs:=by
 rcases h with(h|⟨o,h⟩)|h
 ·exact .inl (.inl (by rw [o8 (a9F h e (fun z=>nomatch z))];exact h))
 ·exact .inl (.inr ⟨o,by rw [o8 (a9F h e (fun z=>nomatch z))];exact h⟩)
 ·exact .inr h
def b6S(K:AD)(H:Hp)(p:List A1×V)(x:V):Prop:=∃a b,x= .ref a/\SqT K H a [.ref b,p.2]/\H b=some (.tup (p.1.map kV))
theorem b6S.upd{K:AD}{H:Hp}{D:AB}{kvs kvs':List (List A1×V)}(e:H D=some (.dT kvs)){p:List A1×V}{x:V}(h:b6S K H p x):b6S K (upd H D (.dT kvs')) p x:=
 let ⟨a,b,h1,h2,h3⟩:=h
 ⟨a,b,h1,b6n e h2,by rw [o8 (a9F h3 e (fun z=>nomatch z))];exact h3⟩
section
variable {X:Cx}{pins:List (AB×Obj)}{σ:L2.St}{A:AK}{R:Result->AC->Prop}
end
section
variable {X:Cx}
end
section
variable {X:Cx}
end
section
variable {X:Cx}
end
open Builtin Builtin.Str
section
variable {prog:AL}{w:AJ}{A:AK}{E:AA->AC->Prop}{s:AC}{x y:Str}{t u:Tok}{Q:AA->AC->Prop}
theorem b0f(hy:(y.length==0)=false)
 (hq:∀l k,l.map (·.1)=Txt.split x y->Q (.ref s.heap.objs.size) {s with heap:=s.heap.push {cls:= .type "list",data:= .seq (strValues l).toArray},toks:=k})
 (hsz:x.length<=AO) (hsz2:(Txt.split x y).length<=AO):
 AI (model prog w) A (call (.builtin "str.split") [.str x t,.str y u]) Q E s:=by
 cases h1:(decide (x.length<y.length)||decide (strKind x<strKind y))
 ·cases hf:(occurrences x y 0 x.length (x.length+1)).isEmpty
  ·have e:Txt.split x y=partsBetween x (occurrences x y 0 x.length (x.length+1)) y.length:=(if_neg (ne_true_of_eq_false h1)).trans (if_neg (ne_true_of_eq_false hf))
   refine call_meets F.slot_str_split (typeIs_str _ _ _) F.entry_str_split (F.args_str_split_2 _ _) (meets_str_split_sep x y t u h1 hy hf hsz (by rw [<-e];exact hsz2)) ?_
   show wants Q E _ {s with toks:=_,heap:=s.heap.push {cls:= .type "list",data:= .seq (strsFrom s.toks (partsBetween x (occurrences x y 0 x.length (x.length+1)) y.length)).toArray}}
   rw [strsFrom_eq]
   exact hq (numbered s.toks _) _ ((numbered_texts _ _).trans e.symm)
  ·exact call_meets F.slot_str_split (typeIs_str _ _ _) F.entry_str_split (F.args_str_split_2 _ _) (meets_str_split_not_found x y t u h1 hy hf)
    (hq [(x,t)] s.toks ((if_neg (ne_true_of_eq_false h1)).trans (if_pos hf)).symm)
 ·exact call_meets F.slot_str_split (typeIs_str _ _ _) F.entry_str_split (F.args_str_split_2 _ _) (meets_str_split_cannot_occur x y t u h1)
   (hq [(x,t)] s.toks (if_pos h1).symm)
end
def a4o(x y:g6):Option g6:=match x,y with
 | .val (.str z),.val (.str y)=>if(y.length==0)=false/\z.length<=AO/\(Txt.split z y).length<=AO then some (.own ((Txt.split z y).map .str)) else none
 |_,_=>none
theorem a7V:∀(l:List (Str×Tok)),u3 ((l.map (·.1)).map V.str) (strValues l)
 |[]=> .nil
 |p::l=> .cons ⟨p.2,rfl⟩ (a7V l)
section
variable {X:Cx}
theorem b3N:MtR X "str.split" (fun x xs H Q=>∃F y rx ry rz,xs=[y]/\u4 F H/\O0 X.K F H x rx/\O0 X.K F H y ry/\a4o rx ry=some rz/\∀v F' H',A4 X.K F H F' H' v rz->Q v H'):=by
 intro pins s σ H x xs v us Q I rx rv h
 obtain⟨F,y,ra,rb,rz,rfl,s0,h1,h2,h3,k⟩:=h
 obtain⟨u,rfl,ru⟩:=a3e rv
 unfold a4o at h3
 split at h3
 ·rename_i z y
  split at h3
  ·rename_i c
   cases h3
   cases h1
   cases h2
   obtain⟨t,rfl⟩:=rx
   obtain⟨t2,rfl⟩:=ru
   refine b0f c.1 (fun l k' hl=> ?_) c.2.1 c.2.2
   have hf:=I.hok.fresh (AV s.heap.objs.size)
   refine⟨.ref s.heap.objs.size,_,I.laid (t':=k') (o:= .lst ((Txt.split z y).map V.str)) (fun b ob q=>Ah _ q) (AV _) ⟨by rw [An];exact c.2.2,strValues l,0, ?_,Ar _ rfl⟩,rfl,k _ F _ (A4.lst s0 hf (a7N _))⟩
   rw [<-hl]
   exact a7V l
  ·cases h3
 ·cases h3
theorem b3e{o e:AG}{m n:M}{apos cpos:Pos}(ho:EE X o m)(ha:EE X e n)
 (hbase:attributeBase o "split" X.env (eval o X.env)=eval o X.env:=by rfl)
 (hfew:((backTo cpos (AN [e] X.env)).all (fun x=> !x.1)&&(backToKw cpos (keywordEach [] X.env)).all (fun x=>x.1.isSome)
  && decide ([e].length+([]:List Keyword).length+(if([]:List Keyword).isEmpty then 0 else 1)<30))=true:=by rfl)
 (hline:(apos.endLine==cpos.line)=true:=by rfl) (hs:AN [e] X.env=(false,eval e X.env)::AN [] X.env:=by rfl) (hplain:(backTo cpos (AN [] X.env)).any (·.1)=false:=by rfl):
 EE X (.Call (.Attribute o "split" apos) [e] [] cpos) (m2 a4o m n):=
 C2 (a9M PySem.F.plainAttrs_str PySem.F.slot_str_split PySem.F.type_str_split b3N ho (J2 ha Z2 hs) hbase hfew hline hs hplain) fun σ H Q ⟨F,ρ,r,he,hm,k⟩=>by
  obtain⟨rx,e1,hm⟩:=bind_some hm
  obtain⟨ry,e2,hm⟩:=bind_some hm
  refine⟨F,ρ,rx,he,e1,fun v F1 H1 o1=>⟨?_,⟨F1,ρ,ry,he.ext o1.x,e2,fun u F2 H2 o2=>⟨F2,u,rx,ry,r,rfl,o2.x.fh,o1.rep.ext o2.x,o2.rep,hm,fun z F3 H3 o3=>k z F3 H3 (A4.trans (o1.x.trans o2.x) o3)⟩⟩⟩⟩
  unfold a4o at hm
  split at hm
  ·cases o1.rep;rfl
  ·cases hm
def b0n(x:g6):Option g6:=match x with
 | .val (.int i)=>if i.natAbs.log2<1920 then some (.val (.str (AE (toString i)))) else none
 |_=>none
theorem b29:O7 X (.type "str") (rC1 X.K b0n):=by
 intro pins s σ H xs us Q I rv h
 obtain⟨F,x,rx,rz,rfl,s0,h1,h2,k⟩:=h
 obtain⟨u,rfl,ru⟩:=a3e rv
 unfold b0n at h2
 split at h2
 ·rename_i i
  split at h2
  ·rename_i c
   cases h2
   cases h1
   obtain⟨t,rfl⟩:=ru
   exact PySem.P.str_of_int c ⟨.str _,H,I.tok _,⟨_,rfl⟩,k _ F H (A4.here s0 rfl)⟩
  ·cases h2
 ·cases h2
def a9k(x:g6):Option g6:=match x with
 | .val (.str z)=>if z.length<=640 then(PySem.intText? z).map fun n=> .val (.int n) else none
 |_=>none
theorem b1e:O7 X (.type "int") (rC1 X.K a9k):=by
 intro pins s σ H xs us Q I rv h
 obtain⟨F,x,rx,rz,rfl,s0,h1,h2,k⟩:=h
 obtain⟨u,rfl,ru⟩:=a3e rv
 unfold a9k at h2
 split at h2
 ·rename_i z
  split at h2
  ·rename_i c
   cases hn:PySem.intText? z with
   |none=>rw [hn] at h2;cases h2
   |some n=>
    rw [hn] at h2
    cases h2
    cases h1
    obtain⟨t,rfl⟩:=ru
    exact PySem.W.KIN.call_text hn c ⟨.int n,H,I.tok _,⟨_,rfl⟩,k _ F H (A4.here s0 rfl)⟩
  ·cases h2
 ·cases h2
end
structure Chg(fs ex:List AB)(h h':Heap):Prop where
 keep:∀b o,h.get? b=some o->b∉fs->b∉ex->h'.get? b=some o
 slot:∀b o,h.get? b=some o->b∈fs->b∉ex->∃sl,h'.get? b=some {o with slots:=sl}
 size:h.objs.size<=h'.objs.size
structure ExT(h:Heap)(e C T:AB)(fl:AA):Prop where
 obj:∃oe vs,h.get? e=some oe/\oe.cls= .ref C/\oe.data= .fields vs/\vs[1]?=some (.ref T)/\oe.dict=none
 ne:T≠e
 tb:∃oT ts,h.get? T=some oT/\oT.data= .fields ts/\ts[3]?=some fl
def Ex0(h:Heap)(e C:AB):Prop:=∃oe vs,h.get? e=some oe/\oe.cls= .ref C/\oe.data= .fields vs/\vs[1]?=some .none/\oe.dict=none
theorem b14(f:Array AA->Array AA)(o:Obj):(Obj.mapFields f o).dict=o.dict:=by
 obtain⟨c,d,dt,sl⟩:=o
 cases dt<;>rfl
section
variable {M:Model}{A:AK}{E:AA->AC->Prop}{s:AC}{base:Heap}{env:Env}{outer:List Env}{L e C:AB}
theorem a7F{oe:Obj}{vs:Array AA}{head:AA}{hadNext:Bool}{Q:Unit->AC->Prop}(hfr:A.frames=some (env::outer))(hl:s.heap.FunFrames base (env::outer))(hf:env.frame=some L)
 (he:s.heap.get? e=some oe) (hc:oe.cls= .ref C) (hd:oe.data= .fields vs) (hdn:oe.dict=none) (hsz:1<vs.size)
 (k:∀T h',s.heap.objs.size<=T->ExT h' e C T (rawInt L)->Chg ((env::outer).filterMap (·.frame)) [e] s.heap h'->Q () {s with heap:=h'}):
 AI M A (do let a<-frameOf env;let pl<-entryPlaceOf L hadNext;let b<-EntryCells.newEntry head a .none (rawInt L) .none pl;setField (.ref e) 1 b) Q E s:=by
 have hef:e∉(env::outer).filterMap (·.frame):=fun hm=>by
  obtain⟨_,o,ho,hnf⟩:=hl.mem hm
  rw [he] at ho
  cases ho
  exact hnf vs hd
 refine AF (wpAny_frameOf_fun hfr hl hf fun h₁ hs₁=> ?_)
 refine AF (wpAny_entryPlaceOf fun pl hpl=> ?_)
 unfold EntryCells.newEntry newFields
 refine AF (wpAny_newObj_type ?_ (hpl.sizeOk5 _ _ _ _ _))
 generalize hT:({cls:= .type "traceback",dict:=none,data:= .fields ([head,.ref L,.none,rawInt L,.none]++(if pl.isEmpty then AR 6 Value.none else pl)).toArray}:Obj)=oT
 have he₁:h₁.get? e=some oe:=(hs₁.2.1 e hef).trans he
 have he₂:=Ah (h:=h₁) oT he₁
 have hTe:h₁.objs.size≠e:=Nat.ne_of_gt (Aa he₁)
 have hd₃:=Obj.data_mapFields hd (·.setIfInBounds 1 (Value.ref h₁.objs.size))
 have he₃:=Heap.get?_update_self (Obj.mapFields (·.setIfInBounds 1 (Value.ref h₁.objs.size))) he₂ (Obj.isFreed_of_fields hd₃)
 have oth:∀b o,b≠e->h₁.get? b=some o->((h₁.push oT).update e (Obj.mapFields (·.setIfInBounds 1 (Value.ref h₁.objs.size)))).get? b=some o:=fun b o hb hbo=>by
  rw [Heap.get?_update_other _ _ (Ne.symm hb)]
  exact Ah _ hbo
 have hT3:((h₁.push oT).update e (Obj.mapFields (·.setIfInBounds 1 (Value.ref h₁.objs.size)))).get? h₁.objs.size=some oT:=by
  rw [Heap.get?_update_other _ _ (Ne.symm hTe)]
  exact Ar h₁ (by rw [<-hT];rfl)
 refine wpAny_setField he₂ hd hsz (k h₁.objs.size _ (Nat.le_of_eq hs₁.1.symm) ⟨⟨_,_,he₃,(Obj.cls_mapFields _ _).trans hc,hd₃,by simp [hsz],(b14 _ _).trans hdn⟩,hTe,oT,_,hT3,by rw [<-hT], ?_⟩ ⟨fun b o hb hbf hbe=> ?_,fun b o hb hbf hbe=> ?_, ?_⟩)
 ·rcases hpl with rfl|⟨_,_,_,_,_,_,_,rfl⟩<;>simp
 ·exact oth b o (fun z=>hbe (by rw [z];exact List.mem_singleton.mpr rfl)) ((hs₁.2.1 b hbf).trans hb)
 ·obtain⟨sl,hs⟩:=hs₁.2.2 b o hb
  exact⟨sl,oth b _ (fun z=>hbe (by rw [z];exact List.mem_singleton.mpr rfl)) hs⟩
 ·rw [Heap.size_update,Heap.size_push,hs₁.1];lia
theorem b0G{Q:Unit->AC->Prop}(hfr:A.frames=some (env::outer))(hl:s.heap.FunFrames base (env::outer))(hf:env.frame=some L)(x:Ex0 s.heap e C)
 (k:∀T h',s.heap.objs.size<=T->ExT h' e C T (rawInt L)->Chg ((env::outer).filterMap (·.frame)) [e] s.heap h'->Q () {s with heap:=h'}):AI M A (noteFrame (.ref e) env) Q E s:=by
 obtain⟨oe,vs,he,hc,hd,h1,hdn⟩:=x
 unfold noteFrame
 simp only [hf]
 refine AF (wpAny_field he hd h1 ?_)
 rw [if_neg (by decide)]
 exact a7F hfr hl hf he hc hd hdn (Array.getElem?_eq_some_iff.mp h1).1 k
theorem a8o{fl:AA}{T:AB}{Q:Unit->AC->Prop}(x:ExT s.heap e C T fl)(fr:Option AB)(k:∀h',ExT h' e C T (fr.elim .none fun f=>rawInt f)->Chg [] [T] s.heap h'->h'.objs.size=s.heap.objs.size->Q () {s with heap:=h'}):AI M A (setFlight (.ref e) fr) Q E s:=by
 obtain⟨⟨oe,vs,he,hc,hd,h1,hdn⟩,hne,oT,ts,hT,hdT,h3⟩:=x
 have hsz:=(Array.getElem?_eq_some_iff.mp h3).1
 unfold setFlight
 refine AF (wpAny_field he hd h1 ?_)
 rw [if_pos (show(Value.ref T !=Value.none)=true from by simp)]
 refine wpAny_setField hT hdT hsz (k _ ⟨⟨oe,vs, ?_,hc,hd,h1,hdn⟩,hne,_,_,Heap.get?_update_self _ hT (Obj.isFreed_of_fields (Obj.data_mapFields hdT _)),Obj.data_mapFields hdT _,by simp [hsz]⟩ ⟨fun b o hb _ hbe=> ?_,(fun b o _ hb=>nomatch hb), ?_⟩ ?_)
 ·rw [Heap.get?_update_other _ _ hne];exact he
 ·rw [Heap.get?_update_other _ _ (fun z=>hbe (by rw [<-z];exact List.mem_singleton.mpr rfl))];exact hb
 ·rw [Heap.size_update];exact AV _
 ·rw [Heap.size_update]
theorem Chg.trans{fs ex ex':List AB}{h h1 h2:Heap}(x:Chg fs ex h h1)(y:Chg fs ex' h1 h2):Chg fs (ex++ex') h h2 where
 keep:=fun b o e hf hx=>y.keep b o (x.keep b o e hf fun z=>hx (BD _ z)) hf fun z=>hx (At _ z)
 slot:=fun b o e hf hx=>by
  obtain⟨sl,e1⟩:=x.slot b o e hf fun z=>hx (BD _ z)
  obtain⟨sl2,e2⟩:=y.slot b {o with slots:=sl} e1 hf fun z=>hx (At _ z)
  exact⟨sl2,e2⟩
 size:=Nat.le_trans x.size y.size
theorem Chg.more{fs fs' ex ex':List AB}{h h':Heap}(x:Chg fs ex h h')(hf:∀b∈fs,b∈fs')(he:∀b∈ex,b∈ex'):Chg fs' ex' h h' where
 keep:=fun b o e h1 h2=>x.keep b o e (fun z=>h1 (hf b z)) fun z=>h2 (he b z)
 slot:=fun b o e h1 h2=>by
  by_cases hb:b∈fs
  ·exact x.slot b o e hb fun z=>h2 (he b z)
  ·exact⟨o.slots,x.keep b o e hb fun z=>h2 (he b z)⟩
 size:=x.size
theorem Chg.funs{fs ex:List AB}{h h':Heap}{l:List Env}(x:Chg fs ex h h')(hl:h.FunFrames base l)(hx:∀b∈ex,∀o,h.get? b=some o->∃vs,o.data= .fields vs):h'.FunFrames base l:=
 hl.of_keeps fun b o hb hnf=>by
  have hbx:b∉ex:=fun z=>by
   obtain⟨vs,hd⟩:=hx b z o hb
   exact hnf vs hd
  by_cases hbf:b∈fs
  ·obtain⟨sl,e⟩:=x.slot b o hb hbf hbx
   exact⟨_,e,rfl⟩
  ·exact⟨o,x.keep b o hb hbf hbx,rfl⟩
theorem a7K{fl:AA}{T:AB}{Q:Unit->AC->Prop}(hfr:A.frames=some (env::outer))(hl:s.heap.FunFrames base (env::outer))(hf:env.frame=some L)(x:ExT s.heap e C T fl)(hne:fl≠rawInt L)
 (k:∀T' h',s.heap.objs.size<=T'->ExT h' e C T' (rawInt L)->Chg ((env::outer).filterMap (·.frame)) [T,e] s.heap h'->Q () {s with heap:=h'}):AI M A (noteFrame (.ref e) env) Q E s:=by
 obtain⟨⟨oe,vs,he,hc,hd,h1,hdn⟩,hTe,oT,ts,hT,hdT,h3⟩:=x
 have hsz:=(Array.getElem?_eq_some_iff.mp h3).1
 unfold noteFrame
 simp only [hf]
 refine AF (wpAny_field he hd h1 ?_)
 rw [if_pos (show(Value.ref T !=Value.none)=true from by simp)]
 refine AF (wpAny_field hT hdT h3 ?_)
 rw [if_neg (by simpa using hne)]
 refine AF (wpAny_setField hT hdT hsz ?_)
 have c1:Chg ((env::outer).filterMap (·.frame)) [T] s.heap (s.heap.update T (Obj.mapFields (·.setIfInBounds 3 Value.none))):=⟨fun b o hb _ hbe=>by
  rw [Heap.get?_update_other _ _ (fun z=>hbe (by rw [<-z];exact List.mem_singleton.mpr rfl))];exact hb,fun b o hb _ hbe=>⟨o.slots,by
  rw [Heap.get?_update_other _ _ (fun z=>hbe (by rw [<-z];exact List.mem_singleton.mpr rfl))];exact hb⟩,by rw [Heap.size_update];exact AV _⟩
 have hl':=c1.funs hl fun b hb o ho=>by
  rw [List.mem_singleton.mp hb,hT] at ho
  cases ho
  exact⟨ts,hdT⟩
 refine a7F (s:={s with heap:=s.heap.update T (Obj.mapFields (·.setIfInBounds 3 Value.none))}) hfr hl' hf (by rw [Heap.get?_update_other _ _ hTe];exact he) hc hd hdn (Array.getElem?_eq_some_iff.mp h1).1 fun T' h' hT' x' c'=>k T' h' ?_ x' (c1.trans c')
 have:(s.heap.update T (Obj.mapFields (·.setIfInBounds 3 Value.none))).objs.size=s.heap.objs.size:=Heap.size_update ..
 rw [<-this];exact hT'
end
def CX1(P:AL)(w:AJ):CXT:=fun outer H s E e s'=>∃a C T H',e= .ref a/\s'.os=s.os/\AllBare s'.gens/\Un (frs outer) [] H H' s.heap s'.heap/\HOk P w H' s'.heap/\
 s.heap.get? a=none/\s.heap.get? T=none/\H' a=none/\H' T=none/\ExT s'.heap a C T .none/\E (.ref a) (some C) H'
theorem ExT.thereT{h:Heap}{e C T:AB}{fl:AA}(x:ExT h e C T fl):∃o,h.get? T=some o:=let ⟨o,_,h1,_⟩:=x.tb;⟨o,h1⟩
theorem a8s{P:AL}{w:AJ}{H:Hp}{h h':Heap}{fs ex:List AB}(x:HOk P w H h)(c:Chg fs ex h h')(hf:∀b∈fs,H b=none)(he:∀b∈ex,H b=none):HOk P w H h':=fun a o e=>
 (x a o e).stay (fun b u hb q=>by
  have hn:∃z,H b=some z:=by
   rcases hb with rfl|hb
   ·exact⟨_,e⟩
   ·exact⟨_,hb⟩
  obtain⟨z,hz⟩:=hn
  exact c.keep b u q (fun m=>by rw [hf b m] at hz;cases hz) fun m=>by rw [he b m] at hz;cases hz) (fun _ q=>q) fun _ _ q=>q
theorem b4K{fs ex fs':List AB}{H H1:Hp}{h h1 h2:Heap}(u:Un fs [] H H1 h h1)(c:Chg fs' ex h1 h2)(hfs:∀b∈fs',b∈fs\/h.objs.size<=b)(hex:∀b∈ex,h.get? b=none):Un fs [] H H1 h h2 where
 keep:=fun b o e hn hf hx=>by
  have hlt:b<h.objs.size:=Aa e
  refine c.keep b o (u.keep b o e hn hf hx) (fun m=> ?_) fun m=>by rw [hex b m] at e;cases e
  rcases hfs b m with h|h
  ·exact hf h
  ·exact Nat.lt_irrefl _ (As hlt h)
 slot:=fun b o e hn hf hx=>by
  have hlt:b<h.objs.size:=Aa e
  obtain⟨sl,e1⟩:=u.slot b o e hn hf hx
  by_cases hb:b∈fs'
  ·obtain⟨sl2,e2⟩:=c.slot b {o with slots:=sl} e1 hb fun m=>by rw [hex b m] at e;cases e
   exact⟨sl2,e2⟩
  ·exact⟨sl,c.keep b _ e1 hb fun m=>by rw [hex b m] at e;cases e⟩
 free:=u.free
 there:=fun b o e hx=>by
  obtain⟨o1,e1⟩:=u.there b o e hx
  by_cases hb:b∈ex
  ·rw [hex b hb] at e;cases e
  ·by_cases hb2:b∈fs'
   ·obtain⟨sl,e2⟩:=c.slot b o1 e1 hb2 hb
    exact⟨_,e2⟩
   ·exact⟨_,c.keep b o1 e1 hb2 hb⟩
 tups:=u.tups
 frzs:=u.frzs
 tbls:=u.tbls
section
variable {P:AL}{w:AJ}{K:AD}{mg:Str->Option AA}{base:Heap}{N:List Str}{qual:Str}{scope:Scope}{f:AB}{cd:AA}{A:AK}{outer:List Env}{s:AC}{H:Hp}{E:XK}
theorem a4O{pins:List (AB×Obj)}{σ:L2.St}{H2:Hp}{s2:AC}{a C:AB}(I:n4 (a1N (CX1 P w) P w K mg base N qual scope f cd A outer s H E) pins σ H2 s2)(x:Ex0 s2.heap a C)(ha:s.heap.get? a=none)(hn:H2 a=none)(hE:E (.ref a) (some C) H2):
 (a1N (CX1 P w) P w K mg base N qual scope f cd A outer s H E).xe (.ref a) s2:=by
 show AI (model P w) _ (leaving (envOfC qual scope s.heap.objs.size f cd) (.ref a)) _ _ s2
 unfold leaving
 have hfree:∀b∈(envOfC qual scope s.heap.objs.size f cd::outer).filterMap (·.frame),H2 b=none:=I.stkFree
 refine AF (b0G I.ok.frames I.stack rfl x fun T h1 hT x1 c1=> ?_)
 refine a8o x1 none fun h2 x2 c2 _=> ?_
 have hTn:H2 T=none:=I.hok.fresh hT
 have c:Chg ((envOfC qual scope s.heap.objs.size f cd::outer).filterMap (·.frame)) ([a]++[T]) s2.heap h2:=c1.trans (c2.more (fun b hb=>nomatch hb) fun b hb=>hb)
 have hsz:s.heap.objs.size<=s2.heap.objs.size:=I.sz
 have hex:∀b∈[a]++[T],s.heap.get? b=none:=fun b hb=>by
  rcases Au.mp hb with h|h<;>rw [List.mem_singleton.mp h]
  ·exact ha
  ·exact Heap.get?_none_of_le (Nat.le_trans hsz hT)
 refine⟨a,C,T,H2,rfl,I.os,I.bare,b4K I.base c (fun b hb=> ?_) hex,a8s I.hok c hfree fun b hb=> ?_,ha,Heap.get?_none_of_le (Nat.le_trans hsz hT),hn,hTn,x2,hE⟩
 ·rcases Ak.mp (I.stkSub b hb) with h|h
  ·exact .inr (by rw [h];exact I.ok.above)
  ·exact .inl h
 ·rcases Au.mp hb with h|h<;>rw [List.mem_singleton.mp h]
  ·exact hn
  ·exact hTn
theorem b0v:a3f (CX1 P w) (a1N (CX1 P w) P w K mg base N qual scope f cd A outer s H E) E:=by
 intro pins σ H1 s1 e s' I h
 obtain⟨a,C,T,H2,rfl,ho,hb,un,hok,ha,hT,hn,hTn,x,hE⟩:=h
 have J:n4 (a1N (CX1 P w) P w K mg base N qual scope f cd A outer s H E) pins σ H2 s':=I.call' (ch:=[]) ho un hok hb fun b z=>nomatch z
 show AI (model P w) _ (leaving (envOfC qual scope s.heap.objs.size f cd) (.ref a)) _ _ s'
 unfold leaving
 have hfree:∀b∈(envOfC qual scope s.heap.objs.size f cd::outer).filterMap (·.frame),H2 b=none:=J.stkFree
 refine AF (a7K J.ok.frames J.stack rfl x (by simp [rawInt]) fun T' h1 hT' x1 c1=> ?_)
 refine a8o x1 none fun h2 x2 c2 _=> ?_
 have hTn':H2 T'=none:=J.hok.fresh hT'
 have c:Chg ((envOfC qual scope s.heap.objs.size f cd::outer).filterMap (·.frame)) ([T,a]++[T']) s'.heap h2:=c1.trans (c2.more (fun b hb=>nomatch hb) fun b hb=>hb)
 have hsz:s.heap.objs.size<=s'.heap.objs.size:=J.sz
 have back:∀b,s1.heap.get? b=none->s.heap.get? b=none:=fun b hb=>by
  cases h:s.heap.get? b with
  |none=>rfl
  |some o=>
   obtain⟨o',e⟩:=I.base.there b o h (fun z=>nomatch z)
   rw [hb] at e;cases e
 have mem:∀b∈[T,a]++[T'],b=T\/b=a\/b=T':=fun b hb=>by simpa using hb
 obtain⟨oT,hoT⟩:=x.thereT
 refine⟨a,C,T',H2,rfl,J.os,J.bare,b4K J.base c (fun b hb=> ?_) (fun b hb=> ?_),a8s J.hok c hfree fun b hb=> ?_,back a ha,Heap.get?_none_of_le (Nat.le_trans hsz hT'),hn,hTn',x2,hE⟩
 ·rcases Ak.mp (J.stkSub b hb) with h|h
  ·exact .inr (by rw [h];exact J.ok.above)
  ·exact .inl h
 ·rcases mem b hb with rfl|rfl|rfl
  ·exact back _ hT
  ·exact back _ ha
  ·exact Heap.get?_none_of_le (Nat.le_trans hsz hT')
 ·rcases mem b hb with rfl|rfl|rfl
  ·exact hTn
  ·exact hn
  ·exact hTn'
end
theorem a97{P:AL}{w:AJ}{H:Hp}{h:Heap}{a:AB}:∀{o:HO},O8 P w H h a o->∃ob,h.get? a=some ob
 | .lst _,⟨_,_,_,_,e⟩=>⟨_,e⟩
 | .tup _,⟨_,_,_,o,e,_⟩=>⟨_,e⟩
 | .dK _,⟨_,_,_,_,o,_,_,e,_⟩=>⟨_,e⟩
 | .dT _,⟨_,_,_,_,o,_,_,e,_⟩=>⟨_,e⟩
 | .set _ _,⟨o,_,_,_,e,_⟩=>⟨_,e⟩
 | .ins _ _ _,⟨_,_,_,e,_⟩=>⟨_,e⟩
 | .own _,⟨_,e⟩=>⟨_,e⟩
 | .xd _,⟨_,⟨_,_,_,e,_⟩,_⟩=>⟨_,e⟩
 | .rng _ _,⟨_,_,_,e⟩=>⟨_,e⟩
 | .frz _ _,⟨e,_⟩=>⟨_,e⟩
 | .tbl _,e=>⟨_,e⟩
 | .met _ _,e=>⟨_,e⟩
 | .ext _,⟨_,e,_⟩=>e
def a8y:List AA:=[.type "ValueError",.type "Exception",.type "BaseException",.type "object"]
def b0a(C:AB)(h:Heap):Prop:=∃tl N nm q bs hdct sn sub ab col dd k0 k1 k2 k3 k5 mN,
 h.get? C=some (excClassObj nm q C N bs tl hdct sn sub ab col dd k0 k1 k2 k3 k5 "ValueError.__new__")/\h.Ns N mN/\mN "__init__"=none/\OwnTail h a8y tl
section
variable {X:Cx}{x:Str}{C:AB}{np cpos pos:Pos}{e₀:AG}{A3:List AG}{t:TA}{W:AB->Hp->Prop}
theorem b4h(hc:X.calm=true)(hx0:X.ex=[])(hg:Gl X x)(hm:X.mg x=some (.ref C))(hX:b0a C X.base)(ha:PA X (e₀::A3) t)
 (hxe:∀(pins:List (AB×Obj)) (σ:L2.St) (H:Hp) (s:AC) (a:AB),n4 X pins σ H s->Ex0 s.heap a C->X.s₀.heap.get? a=none->H a=none->W a H->X.xe (.ref a) s)
 (he:AN (e₀::A3) X.env=(false,eval e₀ X.env)::AN A3 X.env:=by rfl) (hplain:(backTo cpos (AN A3 X.env)).any (·.1)=false:=by rfl) (hdb:(x==("__debug__":Str))=false:=by decide):
 PS X (.Raise (some (.Call (.Name x np) (e₀::A3) [] cpos)) none pos) (fun _ σ H=>t σ H fun vs H1=>vs.length<=AO/\∀a,H1 a=none->W a H1):=by
 intro pins s σ H D I h
 obtain⟨tl,N,nm,q,bs,hdct,sn,sub,ab,col,dd,k0,k1,k2,k3,k5,mN,hC,hN,hni,T⟩:=hX
 have FB:=F.excBase_ValueError
 refine wpAny_Raise_call_subT (C:=C) (nm:=nm) (q:=q) (N:=N) (bs:=bs) (bm:=tl) (hdct:=hdct) (sn:=sn) (sub:=sub) (ab:=ab) (col:=col) (dd:=dd) (k0:=k0) (k1:=k1) (k2:=k2) (k3:=k3) (k5:=k5)
  FB (mN:=mN) (T.hasType FB.hasBase) (I.ok.hd hc) (by rw [he];show(false||(backTo cpos (AN A3 X.env)).any (·.1))=false;rw [hplain];rfl) hni (a1m I hg hm ⟨rfl, ?_⟩ hdb)
 have hA:=ha cpos pins s σ H _ I h
 rw [he] at hA ⊢
 refine Calls.evalArgs_plain (M3 hA fun us s2 ⟨vs,H2,I2,r2,hl,q2⟩=>⟨rfl,by rw [<-r2.length];exact hl,I2.bk _ _ hC,hN.keeps I2.bk,T.keeps I2.bk,fun h' a hmk=> ?_⟩)
 obtain⟨tt,h1,_,_⟩:=hmk.there
 have hn:H2 a=none:=by
  cases h:H2 a with
  |none=>rfl
  |some o=>
   obtain⟨ob,e⟩:=a97 (I2.hok a o h)
   rw [hmk.new] at e;cases e
 have h0:X.s₀.heap.get? a=none:=by
  cases h:X.s₀.heap.get? a with
  |none=>rfl
  |some o=>
   obtain⟨o',e⟩:=I2.base.there a o h (fun z=>by rw [hx0] at z;cases z)
   rw [hmk.new] at e;cases e
 have I3:n4 X pins σ H2 {s2 with heap:=h'}:=I2.kept (t':=s2.toks) hmk.keeps
 exact hxe pins σ H2 {s2 with heap:=h'} a I3 ⟨_,_,h1,rfl,rfl,rfl,rfl⟩ h0 hn (q2 a hn)
end
theorem b6v{fs ex0 ex fs':List AB}{H H1:Hp}{h h1 h2:Heap}(u:Un fs ex0 H H1 h h1)(c:Chg fs' ex h1 h2)(hfs:∀b∈fs',b∈fs\/h.objs.size<=b)(hex:∀b∈ex,h.get? b=none):Un fs ex0 H H1 h h2 where
 keep:=fun b o e hn hf hx=>by
  have hlt:b<h.objs.size:=Aa e
  refine c.keep b o (u.keep b o e hn hf hx) (fun m=> ?_) fun m=>by rw [hex b m] at e;cases e
  rcases hfs b m with h|h
  ·exact hf h
  ·exact Nat.lt_irrefl _ (As hlt h)
 slot:=fun b o e hn hf hx=>by
  obtain⟨sl,e1⟩:=u.slot b o e hn hf hx
  by_cases hb:b∈fs'
  ·obtain⟨sl2,e2⟩:=c.slot b {o with slots:=sl} e1 hb fun m=>by rw [hex b m] at e;cases e
   exact⟨sl2,e2⟩
  ·exact⟨sl,c.keep b _ e1 hb fun m=>by rw [hex b m] at e;cases e⟩
 free:=u.free
 there:=fun b o e hx=>by
  obtain⟨o1,e1⟩:=u.there b o e hx
  by_cases hb:b∈ex
  ·rw [hex b hb] at e;cases e
  ·by_cases hb2:b∈fs'
   ·obtain⟨sl,e2⟩:=c.slot b o1 e1 hb2 hb
    exact⟨_,e2⟩
   ·exact⟨_,c.keep b o1 e1 hb2 hb⟩
 tups:=u.tups
 frzs:=u.frzs
 tbls:=u.tbls
theorem Chg.any{fs ex:List AB}{h h':Heap}(c:Chg fs ex h h'){b:AB}{o:Obj}(e:h.get? b=some o)(hb:b∉ex):∃sl,h'.get? b=some {o with slots:=sl}:=by
 by_cases hf:b∈fs
 ·exact c.slot b o e hf hb
 ·exact⟨o.slots,c.keep b o e hf hb⟩
section
variable {X:Cx}{pins:List (AB×Obj)}{σ:L2.St}{H:Hp}{s:AC}
theorem n4.chg{h':Heap}{ex:List AB}(I:n4 X pins σ H s)(c:Chg (frs X.stack) ex s.heap h')(h0:∀b∈ex,X.s₀.heap.get? b=none)(hn:∀b∈ex,H b=none)
 (hL:∀b∈ex,b≠X.env.locals) (hc:∀b∈ex,∀x z,X.env.cells.lookup x=some z->z≠b) (hp:∀b∈ex,∀p∈X.pn++pins,p.1≠b):n4 X pins σ H {s with heap:=h'} where
 ok:=I.ok
 os:=I.os
 bare:=I.bare
 base:=b6v I.base c (fun b hb=>by
  rcases Ak.mp (I.stkSub b hb) with h|h
  ·exact .inr (by rw [h];exact I.ok.above)
  ·exact .inl h) h0
 loc:=by
  obtain⟨m,⟨o,es,ep,ho,hd,r⟩,hm⟩:=I.loc
  obtain⟨sl,e⟩:=c.any ho fun z=>hL _ z rfl
  refine⟨m,⟨_,es,ep,e,hd,r⟩,fun i x v h1 h2 h3=> ?_⟩
  obtain⟨u,ru,hk⟩:=hm i x v h1 h2 h3
  refine⟨u,ru, ?_⟩
  rcases hk with hk|⟨hk,z,hz,oz,hoz,hdz⟩
  ·exact .inl hk
  ·obtain⟨sl2,e2⟩:=c.any hoz fun m=>hc _ m x z hz rfl
   exact .inr ⟨hk,z,hz,_,e2,hdz⟩
 cell:=fun x z hz=>by
  obtain⟨v,oz,hoz,hdz⟩:=I.cell x z hz
  obtain⟨sl2,e2⟩:=c.any hoz fun m=>hc _ m x z hz rfl
  exact⟨v,_,e2,hdz⟩
 free:=I.free
 freeC:=I.freeC
 pin:=fun p hpm=>by
  obtain⟨h1,h2,h3,h4,h5⟩:=I.pin p hpm
  refine⟨c.keep _ _ h1 (fun m=> ?_) fun m=>hp _ m p hpm rfl,h2,h3,h4,h5⟩
  rcases Ak.mp (I.stkSub _ m) with h|h
  ·exact h3 h
  ·exact h4 h
 hok:=a8s I.hok c (fun b hb=>I.stkFree b hb) hn
 len:=I.len
end
inductive FX where
 |fl (f:Fl)|rz (c:Str) (ρ:d4)
abbrev MX:=d4->Option FX
def b4R(K:AD)(mg:Str->Option AA)(E:L2.St->XK)(F0 H0 F:Hp)(σ0:L2.St)(D:W2):FX->Prop
 | .fl f=>Fin K F0 H0 F D f
 | .rz c ρ=>∃C,mg c=some (.ref C)/\∀σ a F' H',u4 F F'->SOk K F0 H0 F' H' σ ρ->H' a=none->E σ (.ref a) (some C) H'
theorem b4R.later{K:AD}{mg:Str->Option AA}{E:L2.St->XK}{F0 H0 F F1:Hp}{σ0 σ1:L2.St}{D:W2}(s:u4 F F1):∀{fx:FX},b4R K mg E F0 H0 F σ0 D fx->b4R K mg E F0 H0 F1 σ1 D fx
 | .fl _,h=>Fin.later s h
 | .rz _ _,⟨C,h1,h2⟩=>⟨C,h1,fun σ a F' H' s' so hn=>h2 σ a F' H' (s.trans s') so hn⟩
def tMX(K:AD)(mg:Str->Option AA)(E:L2.St->XK)(m:MX):TS:=fun D σ H=>∃F0 H0 F ρ fx,SOk K F0 H0 F H σ ρ/\m ρ=some fx/\b4R K mg E F0 H0 F σ D fx
abbrev EX(X:Cx)(E:L2.St->XK)(st:Stmt)(m:MX):Prop:=PS X st (tMX X.K X.mg E m)
abbrev EXs(X:Cx)(E:L2.St->XK)(st:List Stmt)(m:MX):Prop:=PSs X st (tMX X.K X.mg E m)
def a53(m:MS):MX:=fun ρ=>(m ρ).map .fl
def a9C(m n:MX):MX:=fun ρ=>(m ρ).bind fun fx=>match fx with
 | .fl (.nx ρ')=>n ρ'
 |f=>some f
def b5O(c:MT)(m n:MX):MX:=fun ρ=>(c ρ).bind fun b=>if b=true then m ρ else n ρ
def b3P(c:Str)(ma:MA):MX:=fun ρ=>(ma ρ).bind fun ps=>if ps.length<=AO then some (.rz c ρ) else none
section
variable {X:Cx}{E:L2.St->XK}
theorem b6M{m:MS}{D:W2}{σ:L2.St}{H:Hp}(h:tMX X.K X.mg E (a53 m) D σ H):tMS X.K m D σ H:=by
 obtain⟨F0,H0,F,ρ,fx,so,e,fin⟩:=h
 unfold a53 at e
 cases hm:m ρ with
 |none=>rw [hm] at e;cases e
 |some f=>rw [hm] at e;cases e;exact⟨F0,H0,F,ρ,f,so,hm,fin⟩
theorem b8H{st:Stmt}{m:MS}(h:ES X st m):EX X E st (a53 m):=O5 h fun _ _ _ q=>b6M q
theorem b7d{st:List Stmt}{m:MS}(h:ESs X st m):EXs X E st (a53 m):=a5n h fun _ _ _ q=>b6M q
theorem a8l{st:Stmt}{m:MX}(h:EX X E st m):EXs X E [st] m:=b1I h
theorem a5H{st:Stmt}{A3:List Stmt}{m n:MX}(h1:EX X E st m)(h2:EXs X E A3 n):EXs X E (st::A3) (a9C m n):=
 a5n (C3 h1 h2) fun D σ H ⟨F0,H0,F,ρ,fx,so,e,fin⟩=>by
  obtain⟨f1,e1,e⟩:=bind_some e
  cases f1 with
  |rz c ρ1=>cases e;exact⟨F0,H0,F,ρ,.rz c ρ1,so,e1,fin⟩
  |fl f=>
   cases f with
   |nx ρ'=>exact⟨F0,H0,F,ρ,.fl (.nx ρ'),so,e1,fun σ' F' H' s so'=>⟨F0,H0,F',ρ',fx,so',e,fin.later s⟩⟩
   |rt r=>cases e;exact⟨F0,H0,F,ρ,_,so,e1,fin⟩
   |bk r=>cases e;exact⟨F0,H0,F,ρ,_,so,e1,fin⟩
   |ct r=>cases e;exact⟨F0,H0,F,ρ,_,so,e1,fin⟩
theorem b6A{c:AG}{a b:List Stmt}{mc:MT}{m n:MX}{pos:Pos}(hc:ET X c mc)(ha:EXs X E a m)(hb:EXs X E b n):EX X E (.If c a b pos) (b5O mc m n):=
 O5 (b6H hc ha hb) fun D σ H ⟨F0,H0,F,ρ,fx,so,e,fin⟩=>by
  obtain⟨b,e1,e⟩:=bind_some e
  refine⟨F,ρ,b,so.e,e1,fun F1 H1 x=> ?_⟩
  cases b with
  |true=>exact a9v ⟨F0,H0,F1,ρ,fx,so.ext x,e,fin.later x.f⟩
  |false=>exact a9u ⟨F0,H0,F1,ρ,fx,so.ext x,e,fin.later x.f⟩
end
def spX(K:AD)(mg:Str->Option AA)(n:Nat)(g:List PV->Option (g6 ⊕ Str)):Sp:=fun vs H Q E=>∃F ps r,u4 F H/\p8 K F ps vs/\ps.length=n/\g ps=some r/\(match r with
 | .inl r=>∀v F' H',A4 K F H F' H' v r->Q v H'
 | .inr c=>∃C,mg c=some (.ref C)/\∀a F' H',Ext F H F' H'->H' a=none->E (.ref a) (some C) H')
def a04(CX:CXT)(X:Cx)(E:L2.St->XK):Prop:=∀(pins:List (AB×Obj)) (σ:L2.St) (H:Hp) (s:AC) (e:AA) (s':AC),n4 X pins σ H s->CX X.stack H s (E σ) e s'->X.xe e s'
section
variable {X:Cx}{E:L2.St->XK}{CX:CXT}
theorem b37{k:Nat}{f:AB}{fd:FuncData}{ps:List Str}{sp:Sp}{x:Str}{p pos:Pos}{e:AG}{es:List AG}{t:TA}(F:M8 X.prog X.w X.K X.mg X.base CX k f fd ps sp)(hr:D3 k X.A)(hg:Gl X x)(hm:X.mg x=some (.ref f))(hk:PySem.W.keepIn X.K (.ref f)=true)(hb:U1 X.K fd ps [])(hx:a04 CX X E)
 (ha:PA X (e::es) t) (hdb:(x==("__debug__":Str))=false:=by decide) (he:AN (e::es) X.env=(false,eval e X.env)::AN es X.env:=by rfl) (hpl:(backTo pos (AN es X.env)).any (·.1)=false:=by rfl):
 PE X (.Call (.Name x p) (e::es) [] pos) (fun σ H Q=>t σ H fun vs H1=>sp vs H1 Q (E σ)):=by
 intro pins s σ H Q I h
 refine wpAny_Call_Name_kw (a1m I hg hm ?_ hdb)
 refine PySem.W.callWith_K (h₀:=X.base) I.ok.mod.kin hk (M3 (ha pos pins s σ H _ I h) fun us s1 ⟨vs,H1,I1,r,q⟩=>⟨I1.kIn, ?_⟩) he hpl
 have hl:(us++[]).length=ps.length:=by rw [Ae,<-r.length];exact F.len _ _ _ _ q
 have hb':=hb s1 us I1.kIn hl
 rw [Ae] at hb'
 refine wpAny_call (codeAny_mono (F.run X.A X.stack s1 H1 ⟨us,[]⟩ us vs Q (E σ) hr I1.env0 hb' r q) fun r s' hq=> ?_)
 cases r with
 |error e=>exact hx pins σ H1 s1 e s' I1 hq
 |ok fl=>
  cases fl with
  |ret u=>exact I1.after hq
  |next=>exact False.elim hq
  |brk=>exact False.elim hq
  |cont=>exact False.elim hq
def b1c(g:List PV->Option (g6 ⊕ Str))(m:MA):d4->Option (g6 ⊕ Str):=fun ρ=>(m ρ).bind g
def a3Z(i:Nat)(g:List PV->Option (g6 ⊕ Str))(m:MA):MX:=fun ρ=>(b1c g m ρ).bind fun r=>match r with
 | .inl r=>if r.nb=true then some (.fl (.nx (ρ.set i (some r)))) else none
 | .inr c=>some (.rz c ρ)
theorem b40{n:Nat}{g:List PV->Option (g6 ⊕ Str)}{m:MA}{F0 H0 F H:Hp}{σ:L2.St}{ρ:d4}{Q:VK}{r:g6 ⊕ Str}(so:SOk X.K F0 H0 F H σ ρ)(hn:∀ρ ps,m ρ=some ps->ps.length=n)(e:b1c g m ρ=some r)
 (k:match r with
  | .inl r=>∀v F' H',A4 X.K F H F' H' v r->Q v H'
  | .inr c=>∃C,X.mg c=some (.ref C)/\∀a F' H',Ext F H F' H'->H' a=none->E σ (.ref a) (some C) H'):
 tMA X.K m σ H fun vs H1=>spX X.K X.mg n g vs H1 Q (E σ):=by
 obtain⟨qs,e1,e2⟩:=bind_some e
 refine⟨F,ρ,qs,so.e,e1,fun vs F1 H1 x rl=>⟨F1,qs,r,x.fh,rl,hn _ _ e1,e2, ?_⟩⟩
 cases r with
 |inl r=>exact fun v F2 H2 o=>k v F2 H2 (A4.trans x o)
 |inr c=>
  obtain⟨C,h1,h2⟩:=k
  exact⟨C,h1,fun a F2 H2 y hn=>h2 a F2 H2 (x.trans y) hn⟩
theorem b7b{k n i:Nat}{f:AB}{fd:FuncData}{ps:List Str}{g:List PV->Option (g6 ⊕ Str)}{x y:Str}{p pos pos' pos2:Pos}{e:AG}{es:List AG}{m:MA}(hN:X.N.Nodup)
 (G:M8 X.prog X.w X.K X.mg X.base CX k f fd ps (spX X.K X.mg n g)) (hr:D3 k X.A) (hg:Gl X x) (hm:X.mg x=some (.ref f)) (hk:PySem.W.keepIn X.K (.ref f)=true) (hb:U1 X.K fd ps []) (hx:a04 CX X E) (hn:∀ρ ps,m ρ=some ps->ps.length=n) (ha:EA X (e::es) m)
 (hi:X.N[i]?=some y:=by rfl) (hy:Loc X.env.scope y:=by exact Or.inl rfl) (hs:swapsWith (.Call (.Name x p) (e::es) [] pos) (some (.Name y pos')) pos2.line X.env=pure false:=by rfl) (hf:X.fn y=true\/X.env.scope.names.lookup y=some .local:=by first|exact .inl rfl|exact .inr rfl|assumption)
 (hdb:(x==("__debug__":Str))=false:=by decide) (he:AN (e::es) X.env=(false,eval e X.env)::AN es X.env:=by rfl) (hpl:(backTo pos (AN es X.env)).any (·.1)=false:=by rfl):
 EX X E (.Assign [.Name y pos'] (.Call (.Name x p) (e::es) [] pos) pos2) (a3Z i g m):=
 O5 (b4j hN hi hy (b37 (E:=E) G hr hg hm hk hb hx ha hdb he hpl) hs hf) fun D σ H ⟨F0,H0,F,ρ,fx,so,e,fin⟩=>by
  obtain⟨r,e1,e⟩:=bind_some e
  refine b40 so hn e1 ?_
  cases r with
  |inl r=>
   have e:(if r.nb=true then some (FX.fl (.nx (ρ.set i (some r)))) else none)=some fx:=e
   split at e
   ·rename_i c
    cases e
    exact fun v F' H' o=>fin _ F' H' o.x.f (so.set o c i)
   ·cases e
  |inr c=>
   cases e
   obtain⟨C,h1,h2⟩:=fin
   exact⟨C,h1,fun a F' H' y hn=>h2 σ a F' H' y.f (so.ext y) hn⟩
theorem a9g{E1:XK}{x:Str}{C:AB}{np cpos pos:Pos}{e₀:AG}{A3:List AG}{m:MA}(hc:X.calm=true)(hx0:X.ex=[])(hg:Gl X x)(hm:X.mg x=some (.ref C))(hX:b0a C X.base)(ha:EA X (e₀::A3) m)
 (hxe:∀(pins:List (AB×Obj)) (σ:L2.St) (H:Hp) (s:AC) (a:AB),n4 X pins σ H s->Ex0 s.heap a C->X.s₀.heap.get? a=none->H a=none->E1 (.ref a) (some C) H->X.xe (.ref a) s)
 (he:AN (e₀::A3) X.env=(false,eval e₀ X.env)::AN A3 X.env:=by rfl) (hplain:(backTo cpos (AN A3 X.env)).any (·.1)=false:=by rfl) (hdb:(x==("__debug__":Str))=false:=by decide):
 EX X (fun _=>E1) (.Raise (some (.Call (.Name x np) (e₀::A3) [] cpos)) none pos) (b3P x m):=
 O5 (b4h (W:=fun a H=>E1 (.ref a) (some C) H) hc hx0 hg hm hX ha hxe he hplain hdb) fun D σ H ⟨F0,H0,F,ρ,fx,so,e,fin⟩=>by
  obtain⟨qs,e1,e⟩:=bind_some e
  split at e
  ·rename_i c
   cases e
   obtain⟨C',h1,h2⟩:=fin
   rw [hm] at h1
   cases h1
   refine⟨F,ρ,qs,so.e,e1,fun vs F1 H1 y rl=>⟨by rw [rl.length];exact c,fun a hn=>h2 σ a F1 H1 y.f (so.ext y) hn⟩⟩
  ·cases e
end
def b4u(n:Nat)(body:MX)(ps:List PV):Option (g6 ⊕ Str):=(body (ps.map (fun p=>some (g6.val p))++AR n none)).bind fun fx=>match fx with
 | .fl (.rt r)=>some (.inl r)
 | .fl (.nx _)=>some (.inl (.val .none))
 | .rz c _=>some (.inr c)
 |_=>none
theorem b7h{P:AL}{w:AJ}{K:AD}{mg:Str->Option AA}{base:Heap}{x qual:Str}{st:Stmt}{f:AB}{fd:FuncData}{N ps:List Str}{k:Nat}{m:MX}(F:Fun K x qual st f fd)(S:j8 N ps (d6 st))
 (hb:∀(cdv:AA) (A:AK) (outer:List Env) (s:AC) (H:Hp) (E:XK),D3 k (A.deeper (envOfC qual (d6 st) s.heap.objs.size f cdv))->EXs (a1N (CX1 P w) P w K mg base N qual (d6 st) f cdv A outer s H E) (fun _=>E) (B7 st) m):
 M8 P w K mg base (CX1 P w) (k+1) f fd ps (spX K mg ps.length (b4u (N.length - ps.length) m)):=by
 obtain⟨oc,od,kV,doc,pm,an,cdv,ct,osl,rfl,lk,hcd⟩:=F.ex
 refine b6C lk hcd S (fun vs H Q E h=> ?_) fun A outer s H vs Q E hr h=> ?_
 ·obtain⟨_,qs,_,_,r,h2,_⟩:=h
  rw [r.length,h2]
 ·obtain⟨F1,qs,r,s1,rl,hl,e,k⟩:=h
  refine⟨_,hb cdv A outer s H E hr, ?_⟩
  unfold b4u at e
  obtain⟨fx,e1,e2⟩:=bind_some e
  have hv:vs.length=ps.length:=by rw [rl.length,hl]
  refine⟨F1,H,F1,_,fx, ?_,e1, ?_⟩
  ·have:=a9Y (N.length - ps.length) s1 rl
   unfold L2.a1M
   rw [hv]
   exact this
  ·cases fx with
   |rz c ρ1=>
    cases e2
    obtain⟨C,h1,h2⟩:=k
    exact⟨C,h1,fun _ a F' H' _ so' hn=>h2 a F' H' so'.x hn⟩
   |fl f=>
    cases f with
    |rt q=>cases e2;exact fun v F' H' o=>k v F' H' o
    |nx ρ=>cases e2;exact fun σ' F' H' _ so=>k .non F' H' (A4.val so.x rfl)
    |bk ρ=>cases e2
    |ct ρ=>cases e2
def a95(P:AL)(w:AJ)(K:AD)(mg:Str->Option AA)(base:Heap)(x:Str)(ps:List Str)(k:Nat)(g:List PV->Option (g6 ⊕ Str)):Prop:=
 ∃f fd,M8 P w K mg base (CX1 P w) k f fd ps (spX K mg ps.length g)/\mg x=some (.ref f)/\PySem.W.keepIn K (.ref f)=true/\U1 K fd ps []
def left(g:List PV->Option (g6 ⊕ Str))(ps:List PV):Option g6:=(g ps).bind fun r=>match r with
 | .inl r=>some r
 | .inr _=>none
section
variable {X:Cx}
end
section
variable {X:Cx}
abbrev _root_.L2.Cx.aim(X:Cx)(Y:AA->AC->Prop)(pn:List (AB×Obj)):Cx:={X with xe:=Y,pn:=pn}
theorem b6V{Y:AA->AC->Prop}{pins:List (AB×Obj)}{σ:L2.St}{H:Hp}{s:AC}(I:n4 X pins σ H s):n4 (X.aim Y (X.pn++pins)) [] σ H s:=⟨⟨I.ok.mod,I.ok.kind,I.ok.glob,I.ok.blt,I.ok.above,I.ok.inj,I.ok.has,I.ok.cab,I.ok.hd,I.ok.frames,I.ok.stk,I.ok.exf,I.ok.bs,I.ok.bsz,I.ok.noex,I.ok.exfs,I.ok.funs,I.ok.frf⟩,I.os,I.bare,I.base,I.loc,I.cell,I.free,I.freeC,fun p hp=>I.pin p (by simpa using hp),I.hok,I.len⟩
theorem a2C{Y:AA->AC->Prop}{pins pins1:List (AB×Obj)}{σ:L2.St}{H:Hp}{s:AC}(I:n4 (X.aim Y (X.pn++pins)) pins1 σ H s):n4 X pins σ H s:=⟨⟨I.ok.mod,I.ok.kind,I.ok.glob,I.ok.blt,I.ok.above,I.ok.inj,I.ok.has,I.ok.cab,I.ok.hd,I.ok.frames,I.ok.stk,I.ok.exf,I.ok.bs,I.ok.bsz,I.ok.noex,I.ok.exfs,I.ok.funs,I.ok.frf⟩,I.os,I.bare,I.base,I.loc,I.cell,I.free,I.freeC,fun p hp=>I.pin p (BD _ hp),I.hok,I.len⟩
def Ap(X:Cx)(pins:List (AB×Obj))(b:AB):Prop:=X.s₀.heap.get? b=none/\b≠X.env.locals/\(∀x z,X.env.cells.lookup x=some z->z≠b)/\∀p∈X.pn++pins,p.1≠b
def Hnd(X:Cx)(hs:List ExceptHandler)(th:AB->AB->TS):Prop:=
 ∀(pins:List (AB×Obj)) (s:AC) (σ:L2.St) (H:Hp) (D:W2) (a C T:AB),n4 X pins σ H s->ExT s.heap a C T .none->H a=none->H T=none->Ap X pins a->Ap X pins T->th a C D σ H->
  AI (model X.prog X.w) X.A (handleBy (.ref a) X.env hs) (SP X pins D) X.xe s
theorem apart{pins:List (AB×Obj)}{σ:L2.St}{H:Hp}{s:AC}{b:AB}(I:n4 X pins σ H s)(hx0:X.ex=[])(h:s.heap.get? b=none):X.s₀.heap.get? b=none/\b≠X.env.locals/\(∀x z,X.env.cells.lookup x=some z->z≠b)/\∀p∈X.pn++pins,p.1≠b:=by
 refine⟨?_,fun e=> ?_,fun x z hz e=> ?_,fun p hp e=> ?_⟩
 ·cases h0:X.s₀.heap.get? b with
  |none=>rfl
  |some o=>
   obtain⟨o',e⟩:=I.base.there b o h0 (fun z=>by rw [hx0] at z;cases z)
   rw [h] at e;cases e
 ·obtain⟨m,⟨o,_,_,ho,_⟩,_⟩:=I.loc
  rw [<-e,h] at ho;cases ho
 ·obtain⟨v,o,ho,_⟩:=I.cell x z hz
  rw [e,h] at ho;cases ho
 ·have:=(I.pin p hp).1
  rw [e,h] at this;cases this
theorem b73{body:List Stmt}{h₀:ExceptHandler}{hs:List ExceptHandler}{pos:Pos}{tb:(L2.St->XK)->TS}{th:AB->AB->TS}(hx0:X.ex=[])(hst:X.stack=X.env::X.outer)(hfr:X.env.frame=some X.env.locals)
 (hb:∀(Y:AA->AC->Prop) (pn:List (AB×Obj)) (E:L2.St->XK),a04 (CX1 X.prog X.w) (X.aim Y pn) E->PSs (X.aim Y pn) body (tb E)) (hh:Hnd X (h₀::hs) th):
 PS X (.Try body (h₀::hs) [] [] pos) (fun D σ H=>tb (fun σ1 v oc H1=>∃a C,v= .ref a/\oc=some C/\th a C D σ1 H1) D σ H):=by
 intro pins s σ H D I h
 refine wpAny_Try_except ?_
 have key:=hb (fun e s₁=>AI (model X.prog X.w) X.A (noteFrame e X.env) (fun _ s₂=>AI (model X.prog X.w) X.A (setFlight e none) (fun _ s₃=>AI (model X.prog X.w) X.A (handleBy e X.env (h₀::hs)) (SP X pins D) X.xe s₃) X.xe s₂) X.xe s₁) (X.pn++pins) _ ?_ [] s σ H D (b6V I) h
 ·refine M3 key fun fl s1 hq=> ?_
  cases fl with
  |next=>
   obtain⟨σ',H',J,q⟩:=hq
   exact wpAny_execs_nil ⟨σ',H',a2C J,q⟩
  |brk=>obtain⟨σ',H',J,q⟩:=hq;exact⟨σ',H',a2C J,q⟩
  |cont=>obtain⟨σ',H',J,q⟩:=hq;exact⟨σ',H',a2C J,q⟩
  |ret u=>obtain⟨v,σ',H',J,r,q⟩:=hq;exact⟨v,σ',H',a2C J,r,q⟩
 ·intro pins1 σ1 H1 s1 e s' I1 hx
  obtain⟨a,C,T,H2,rfl,ho,hbare,un,hok,ha,hT,hn,hTn,x,a',C',e1,e2,ht⟩:=hx
  cases e1
  cases e2
  have J1:=I1.call' (ch:=[]) ho un hok hbare fun b z=>nomatch z
  have J:n4 X pins σ1 H2 s':=a2C J1
  have J0:n4 X pins σ1 H1 s1:=a2C I1
  show AI (model X.prog X.w) X.A (noteFrame (.ref a) X.env) _ X.xe s'
  have fr:X.A.frames=some (X.env::X.outer):=by rw [<-hst];exact J.ok.frames
  have fn:s'.heap.FunFrames X.base (X.env::X.outer):=by rw [<-hst];exact J.stack
  refine a7K fr fn hfr x (by simp [rawInt]) fun T' h1 hT' x1 c1=> ?_
  refine a8o x1 none fun h2 x2 c2 _=> ?_
  have hTn':H2 T'=none:=J.hok.fresh hT'
  have c:Chg (frs X.stack) ([T,a]++[T']) s'.heap h2:=by
   rw [hst]
   exact c1.trans (c2.more (fun b hb=>nomatch hb) fun b hb=>hb)
  have mem:∀b∈[T,a]++[T'],b=T\/b=a\/b=T':=fun b hb=>by simpa using hb
  have q1:=apart J0 hx0 hT
  have q2:=apart J0 hx0 ha
  have q3:=apart J hx0 (Heap.get?_none_of_le hT')
  have K:n4 X pins σ1 H2 {s' with heap:=h2}:=n4.chg J c (fun b hb=> ?_) (fun b hb=> ?_) (fun b hb=> ?_) (fun b hb=> ?_) (fun b hb=> ?_)
  ·exact hh pins _ σ1 H2 D a C T' K x2 hn hTn' q2 q3 ht
  all_goals rcases mem b hb with rfl|rfl|rfl
  ·exact q1.1
  ·exact q2.1
  ·exact q3.1
  ·exact hTn
  ·exact hn
  ·exact hTn'
  ·exact q1.2.1
  ·exact q2.2.1
  ·exact q3.2.1
  ·exact q1.2.2.1
  ·exact q2.2.2.1
  ·exact q3.2.2.1
  ·exact q1.2.2.2
  ·exact q2.2.2.2
  ·exact q3.2.2.2
end
theorem b16{M:Model}{A:AK}{E:AA->AC->Prop}{h:Heap}{g:Array GenState}{d:Drawn}{t:Nat}{os:OsState}{e C B:AB}{oe:Obj}{Q:Bool->AC->Prop}(hC:b0a C h)(hB:b0a B h)
 (he:h.get? e=some oe) (hcls:oe.cls= .ref C) (hq:∀tl:List AA,OwnTail h a8y tl->(∃N nm q bs hdct sn sub ab col dd k0 k1 k2 k3 k5,h.get? C=some (excClassObj nm q C N bs tl hdct sn sub ab col dd k0 k1 k2 k3 k5 "ValueError.__new__"))->Q ((Value.ref C::tl).contains (.ref B)) ⟨h,g,d,t,os⟩):AI M A (excMatches (.ref e) (.ref B)) Q E ⟨h,g,d,t,os⟩:=by
 obtain⟨tl,N,nm,q,bs,hdct,sn,sub,ab,col,dd,k0,k1,k2,k3,k5,mN,hC,hN,hni,T⟩:=hC
 obtain⟨tl',N',nm',q',bs',hdct',sn',sub',ab',col',dd',k0',k1',k2',k3',k5',mN',hB,hN',hni',T'⟩:=hB
 have hq':=hq tl T ⟨_,_,_,_,_,_,_,_,_,_,_,_,_,_,_,hC⟩
 have hcB:(Value.ref B::tl').contains (.type "BaseException")=true:=by rw [List.contains_cons,T'.hasType (show a8y.contains (.type "BaseException")=true by decide),Bool.or_true]
 have f:=tc_notTuple
 unfold excMatches
 repeat (first|(with_reducible refine wpAny_loadPart_at he ?_;rw [hcls])|with_reducible refine wpAny_loadPart_at hB ?_|(with_reducible refine wpAny_isSubtype_exc hB ?_;rw [hcB])|with_reducible refine wpAny_isSubtype_exc hC ?_|wp_step)
 cases hb:(Value.ref C::tl).contains (.ref B)<;>(rw [hb] at hq';wp_walk;exact hq')
def a7W(X:Cx)(C B:AB)(b:Bool):Prop:=∀h:Heap,X.K.In h->b0a C h/\b0a B h/\∀(tl:List AA) N nm q bs hdct sn sub ab col dd k0 k1 k2 k3 k5,h.get? C=some (excClassObj nm q C N bs tl hdct sn sub ab col dd k0 k1 k2 k3 k5 "ValueError.__new__")->(Value.ref C::tl).contains (.ref B)=b
section
variable {X:Cx}
abbrev _root_.L2.Cx.caught(X:Cx)(a:AB)(Y:AA->AC->Prop):Cx:={X with A:=X.A.mark (some (.ref a)),calm:=false,xe:=Y}
theorem a7n{a:AB}{Y:AA->AC->Prop}{pins:List (AB×Obj)}{σ:L2.St}{H:Hp}{s:AC}(I:n4 X pins σ H s):n4 (X.caught a Y) pins σ H s:=⟨⟨I.ok.mod,I.ok.kind,I.ok.glob,I.ok.blt,I.ok.above,I.ok.inj,I.ok.has,I.ok.cab,(fun z=>nomatch z),I.ok.frames,I.ok.stk,I.ok.exf,I.ok.bs,I.ok.bsz,I.ok.noex,I.ok.exfs,I.ok.funs,I.ok.frf⟩,I.os,I.bare,I.base,I.loc,I.cell,I.free,I.freeC,I.pin,I.hok,I.len⟩
theorem a1a{a:AB}{Y:AA->AC->Prop}{pins:List (AB×Obj)}{σ:L2.St}{H:Hp}{s:AC}(hd:X.calm=true->X.A.handled=none)(I:n4 (X.caught a Y) pins σ H s):n4 X pins σ H s:=⟨⟨I.ok.mod,I.ok.kind,I.ok.glob,I.ok.blt,I.ok.above,I.ok.inj,I.ok.has,I.ok.cab,hd,I.ok.frames,I.ok.stk,I.ok.exf,I.ok.bs,I.ok.bsz,I.ok.noex,I.ok.exfs,I.ok.funs,I.ok.frf⟩,I.os,I.bare,I.base,I.loc,I.cell,I.free,I.freeC,I.pin,I.hok,I.len⟩
theorem b3y{x:Str}{B:AB}{np pos:Pos}{b₀:Stmt}{suite:List Stmt}{A3:List ExceptHandler}{ts:TS}(hg:Gl X x)(hm:X.mg x=some (.ref B))(hdb:(x==("__debug__":Str))=false)(hs:∀a Y,PSs (X.caught a Y) (b₀::suite) ts):
 Hnd X (.ExceptHandler (some (.Name x np)) none (b₀::suite) pos::A3) (fun _ C D σ H=>a7W X C B true/\ts D σ H):=by
 intro pins s σ H D a C T I ex hn hTn apA apT ⟨hbl,q⟩
 have J:n4 (X.caught a (notedBy (model X.prog X.w) (X.A.mark (some (.ref a))) X.env (cameBackBy (model X.prog X.w) X.A X.env X.xe))) pins σ H s:=a7n I
 refine wpAny_handleBy_cons (codeAny_handlers_test (a1m (X:=X.caught a _) J hg hm ?_ hdb)) (by intro q;cases q)
 obtain⟨hC,hB,hin⟩:=hbl s.heap I.kIn
 obtain⟨oe,vs,he,hcls,_⟩:=ex.obj
 obtain⟨hh,g,d,tk,os⟩:=s
 refine b16 hC hB he hcls fun tl T0 ⟨N,nm,q0,bs,hdct,sn,sub,ab,col,dd,k0,k1,k2,k3,k5,hc⟩=> ?_
 rw [hin tl N nm q0 bs hdct sn sub ab col dd k0 k1 k2 k3 k5 hc]
 refine codeAny_handlers_suite ?_
 refine a8o (s:=⟨hh,g,d,tk,os⟩) ex none fun h2 x2 c2 hsz=> ?_
 have one:∀b∈[T],b=T:=fun b hb=>List.mem_singleton.mp hb
 have K:n4 X pins σ H ⟨h2,g,d,tk,os⟩:=n4.chg I (c2.more (fun b hb=>nomatch hb) fun b hb=>hb) (fun b hb=>by rw [one b hb];exact apT.1) (fun b hb=>by rw [one b hb];exact hTn) (fun b hb=>by rw [one b hb];exact apT.2.1) (fun b hb=>by rw [one b hb];exact apT.2.2.1) (fun b hb=>by rw [one b hb];exact apT.2.2.2)
 refine M3 (hs a _ pins _ σ H D (a7n K) q) fun fl s1 hq=> ?_
 show SP X pins D fl s1
 cases fl with
 |next=>obtain⟨σ',H',J,q⟩:=hq;exact⟨σ',H',a1a I.ok.hd J,q⟩
 |brk=>obtain⟨σ',H',J,q⟩:=hq;exact⟨σ',H',a1a I.ok.hd J,q⟩
 |cont=>obtain⟨σ',H',J,q⟩:=hq;exact⟨σ',H',a1a I.ok.hd J,q⟩
 |ret u=>obtain⟨v,σ',H',J,r,q⟩:=hq;exact⟨v,σ',H',a1a I.ok.hd J,r,q⟩
end
theorem a5q{K:AD}{h:Heap}{C:AB}(X:K.In h)(q:PySem.W.excIn K C a8y "ValueError.__new__"=true):b0a C h:=by
 unfold PySem.W.excIn at q
 cases hk:K.lookup C with
 |none=>rw [hk] at q;cases q
 |some o=>
  rw [hk] at q
  split at q
  ·rename_i dd cd sl e
   cases e
   obtain⟨nm,bs,mro,ns,qn,hd,sn,sub,ab,col,del⟩:=cd
   obtain⟨l⟩:=sl
   split at q
   ·rename_i C' bm k0 k1 k2 k3 n k5 hm hs
    have hm:mro= .ref C'::bm:=hm
    have hs:l=[k0,k1,k2,k3,some (.builtin n),k5]:=hs
    subst hm hs
    rw [Bool.and_eq_true,Bool.and_eq_true,Bool.and_eq_true,Bool.and_eq_true,Bool.and_eq_true] at q
    obtain⟨⟨⟨⟨⟨c1,c2⟩,c3⟩,c4⟩,c5⟩,c6⟩:=q
    have c3':del=false:=by simpa using c3
    cases(beq_iff_eq.mp c1)
    cases(beq_iff_eq.mp c2)
    clear c3
    subst c3'
    exact⟨bm,ns,nm,qn,bs,hd,sn,sub,ab,col,dd,k0,k1,k2,k3,k5,_,X _ _ hk,.of_isNs (PySem.W.isNs_of_in X c5),PySem.W.nsMap_none_of_in X c5 (beq_iff_eq.mp c6),PySem.W.tail_of_in X c4⟩
   ·cases q
  ·cases q
def a9o(K:AD)(C B:AB):Bool:=match K.lookup C with
 |some ⟨_,_,.cls cd,_⟩=>cd.mro.contains (.ref B)
 |_=>false
theorem b25{X:Cx}{C B:AB}(q1:PySem.W.excIn X.K C a8y "ValueError.__new__"=true)(q2:PySem.W.excIn X.K B a8y "ValueError.__new__"=true):a7W X C B (a9o X.K C B):=fun h I=>⟨a5q I q1,a5q I q2,fun tl N nm q bs hdct sn sub ab col dd k0 k1 k2 k3 k5 hc=>by
 cases hk:X.K.lookup C with
 |none=>unfold PySem.W.excIn at q1;rw [hk] at q1;cases q1
 |some o=>
  have:=I _ _ hk
  rw [hc] at this
  cases this
  unfold a9o
  rw [hk]⟩
def b0z(b:MX)(inm:Str->Bool)(hd:MS):MS:=fun ρ=>(b ρ).bind fun fx=>match fx with
 | .fl f=>some f
 | .rz c ρ'=>if inm c=true then hd ρ' else none
section
variable {X:Cx}
theorem b7a{body:List Stmt}{x:Str}{B:AB}{np hpos pos:Pos}{b₀:Stmt}{suite:List Stmt}{b:MX}{inm:Str->Bool}{hd:MS}(hx0:X.ex=[])(hst:X.stack=X.env::X.outer)(hfr:X.env.frame=some X.env.locals)
 (hg:Gl X x) (hm:X.mg x=some (.ref B)) (hdb:(x==("__debug__":Str))=false) (hin:∀c,inm c=true->∃C,X.mg c=some (.ref C)/\a7W X C B true)
 (hb:∀(Y:AA->AC->Prop) (pn:List (AB×Obj)) (E:L2.St->XK),a04 (CX1 X.prog X.w) (X.aim Y pn) E->EXs (X.aim Y pn) E body b) (hs:∀a Y,ESs (X.caught a Y) (b₀::suite) hd):
 ES X (.Try body [.ExceptHandler (some (.Name x np)) none (b₀::suite) hpos] [] [] pos) (b0z b inm hd):=
 O5 (b73 hx0 hst hfr (tb:=fun E=>tMX X.K X.mg E b) hb (b3y (ts:=tMS X.K hd) hg hm hdb fun a Y=>hs a Y)) fun D σ H ⟨F0,H0,F,ρ,fl,so,e,fin⟩=>by
  obtain⟨fx,e1,e⟩:=bind_some e
  cases fx with
  |fl f=>cases e;exact⟨F0,H0,F,ρ,.fl _,so,e1,fin⟩
  |rz c ρ1=>
   have e:(if inm c=true then hd ρ1 else none)=some fl:=e
   split at e
   ·rename_i hc
    obtain⟨C,h1,h2⟩:=hin c hc
    exact⟨F0,H0,F,ρ,.rz c ρ1,so,e1,C,h1,fun σ1 a F' H' s' so' hn=>⟨a,C,rfl,rfl,h2,F0,H0,F',ρ1,fl,so',e,fin.later s'⟩⟩
   ·cases e
end
section
variable {X:Cx}{pins:List (AB×Obj)}{σ:L2.St}{H:Hp}{s:AC}
end
def W2.drop(D:W2)(i:Nat):W2:=⟨fun σ H=>D.nx (σ.set i none) H,D.rt,fun σ H=>D.bk (σ.set i none) H,fun σ H=>D.ct (σ.set i none) H⟩
section
variable {X:Cx}
end
def b7e(i:Nat):Fl->Fl
 | .nx ρ=> .nx (ρ.set i none)
 | .rt r=> .rt r
 | .bk ρ=> .bk (ρ.set i none)
 | .ct ρ=> .ct (ρ.set i none)
theorem E2{α:Type}{l:List (Option α)}{i j:Nat}{r:α}(h:(l.set i none)[j]?=some (some r)):i≠j/\l[j]?=some (some r):=by
 rw [List.getElem?_set] at h
 by_cases hij:i=j
 ·rw [if_pos hij] at h
  split at h
  ·cases h
  ·cases h
 ·rw [if_neg hij] at h;exact⟨hij,h⟩
theorem SOk.drop{K:AD}{F0 H0 F H:Hp}{σ:L2.St}{ρ:d4}(s:SOk K F0 H0 F H σ ρ)(i:Nat):SOk K F0 H0 F H (σ.set i none) (ρ.set i none):=by
 refine⟨s.x,⟨s.e.fh,by simp [s.e.len],fun j q e=> ?_,fun j ps e=> ?_,fun j k ps qs a hjk e1 e2 e3 e4=> ?_⟩,fun j ps a e1 e2=> ?_⟩
 ·obtain⟨n,e⟩:=E2 e
  rw [List.getElem?_set_ne n]
  exact s.e.at_ j q e
 ·exact s.e.nb j ps (E2 e).2
 ·exact s.e.ap j k ps qs a hjk (E2 e1).2 (E2 e2).2 (E2 e3).2 (E2 e4).2
 ·exact s.nw j ps a (E2 e1).2 (E2 e2).2
theorem Fin.drop{K:AD}{F0 H0 F:Hp}{D:W2}{i:Nat}:∀{fl:Fl},Fin K F0 H0 F D (b7e i fl)->Fin K F0 H0 F (W2.drop D i) fl
 | .nx _,h=>fun σ' F' H' s' so=>h _ F' H' s' (so.drop i)
 | .rt _,h=>h
 | .bk _,h=>fun σ' F' H' s' so=>h _ F' H' s' (so.drop i)
 | .ct _,h=>fun σ' F' H' s' so=>h _ F' H' s' (so.drop i)
section
variable {X:Cx}
theorem b5c{E:L2.St->XK}{k k' i:Nat}{ps:List Str}{g:List PV->Option (g6 ⊕ Str)}{x y:Str}{p pos pos' pos2:Pos}{e:AG}{es:List AG}{m:MA}(hN:X.N.Nodup)
 (d:a95 X.prog X.w X.K X.mg X.base x ps k g) (hr:D3 k' X.A) (hk:k<=k') (hg:Gl X x) (hx:a04 (CX1 X.prog X.w) X E) (hn:∀ρ qs,m ρ=some qs->qs.length=ps.length) (ha:EA X (e::es) m)
 (hi:X.N[i]?=some y:=by rfl) (hy:Loc X.env.scope y:=by exact Or.inl rfl) (hs:swapsWith (.Call (.Name x p) (e::es) [] pos) (some (.Name y pos')) pos2.line X.env=pure false:=by rfl) (hf:X.fn y=true\/X.env.scope.names.lookup y=some .local:=by first|exact .inl rfl|exact .inr rfl|assumption)
 (hdb:(x==("__debug__":Str))=false:=by decide) (he:AN (e::es) X.env=(false,eval e X.env)::AN es X.env:=by rfl) (hpl:(backTo pos (AN es X.env)).any (·.1)=false:=by rfl):
 EX X E (.Assign [.Name y pos'] (.Call (.Name x p) (e::es) [] pos) pos2) (a3Z i g m):=by
 obtain⟨f,fd,G,h1,h2,h3⟩:=d
 exact b7b hN G (hr.mono hk) hg h1 h2 h3 hx hn ha hi hy hs hf hdb he hpl
end
def S6(K:AD)(C:AB)(x:Str):Bool:=match K.lookup C with
 |some ⟨_,_,.cls cd,_⟩=>cd.name==x
 |_=>false
structure XC(K:AD)(mg:Str->Option AA)(c:Str)(C:AB):Prop where
 mg:mg c=some (.ref C)
 named:R8 K c C
 exc:PySem.W.excIn K C a8y "ValueError.__new__"=true
theorem b9k{K:AD}{mg:Str->Option AA}{h:Heap}{c:Str}{C:AB}(X:K.In h)(G:h.Ns mainGlobals mg)(e:PySem.W.nsIn K mainGlobals c=some (some (.ref C)))(q:(S6 K C c && PySem.W.excIn K C a8y "ValueError.__new__")=true):XC K mg c C:=by
 rw [Bool.and_eq_true] at q
 obtain⟨q1,q3⟩:=q
 refine⟨PySem.W.mg_of X G e,⟨e, ?_⟩,q3⟩
 unfold S6 at q1
 split at q1
 ·rename_i oc od cd sl hk
  exact⟨oc,od,cd,sl,hk,beq_iff_eq.mp q1⟩
 ·cases q1
section
variable {X:Cx}
end
def inL(l:List Str)(c:Str):Bool:=l.contains c
section
variable {X:Cx}
def Hin(X:Cx)(B:AB)(l:List Str):Prop:=∀c,inL l c=true->∃C,X.mg c=some (.ref C)/\a7W X C B true/\R8 X.K c C
theorem b5p{B:AB}:Hin X B []:=fun _ h=>nomatch h
theorem b3x{B C:AB}{b c:Str}{l:List Str}(xB:XC X.K X.mg b B)(x:XC X.K X.mg c C)(e:a9o X.K C B=true)(h:Hin X B l):Hin X B (c::l):=fun c1 q=>by
 unfold inL at q
 rw [List.contains_cons,Bool.or_eq_true] at q
 rcases q with q|q
 ·rw [beq_iff_eq.mp q]
  exact⟨C,x.mg,by rw [<-e];exact b25 x.exc xB.exc,x.named⟩
 ·exact h c1 q
theorem b5b{l:List Str}{body:List Stmt}{x:Str}{B:AB}{np hpos pos:Pos}{b₀:Stmt}{suite:List Stmt}{b:MX}{hd:MS}(xB:XC X.K X.mg x B)(hin:Hin X B l)
 (hb:∀(Y:AA->AC->Prop) (pn:List (AB×Obj)) (E:L2.St->XK),a04 (CX1 X.prog X.w) (X.aim Y pn) E->EXs (X.aim Y pn) E body b) (hs:∀a Y,ESs (X.caught a Y) (b₀::suite) hd)
 (hx0:X.ex=[]:=by rfl) (hst:X.stack=X.env::X.outer:=by rfl) (hfr:X.env.frame=some X.env.locals:=by rfl) (hg:Gl X x:=by rfl) (hdb:(x==("__debug__":Str))=false:=by decide):
 ES X (.Try body [.ExceptHandler (some (.Name x np)) none (b₀::suite) hpos] [] [] pos) (b0z b (inL l) hd):=
 b7a hx0 hst hfr hg xB.mg hdb (fun c q=>let ⟨C,h1,h2,_⟩:=hin c q;⟨C,h1,h2⟩) hb hs
end
section
variable {X:Cx}
end
section
variable {X:Cx}
end
section
variable {X:Cx}
theorem a8m{E:L2.St->XK}{st:List Stmt}{m:MS}(h:ESs X.nox st m):EXs X E st (a53 m):=b7d (PSs.nox h)
theorem b7c{E:L2.St->XK}{st:Stmt}{m:MS}(h:ES X.nox st m):EX X E st (a53 m):=b8H fun pins s σ H D I hw=>
 wpAny_mono (h pins s σ H D (I.wish _) hw) (fun fl s1 hq=>by
  cases fl with
  |next=>obtain⟨σ',H',J,q⟩:=hq;exact⟨σ',H',J.unwish,q⟩
  |brk=>obtain⟨σ',H',J,q⟩:=hq;exact⟨σ',H',J.unwish,q⟩
  |cont=>obtain⟨σ',H',J,q⟩:=hq;exact⟨σ',H',J.unwish,q⟩
  |ret u=>obtain⟨v,σ',H',J,r,q⟩:=hq;exact⟨v,σ',H',J.unwish,r,q⟩) fun _ _ z=>z.elim
end
section
variable {X:Cx}
end
section
variable {X:Cx}
end
section
variable {X:Cx}
end
section
variable {X:Cx}
end
section
variable {X:Cx}
def b6O(Φ:L2.St->Hp->Prop)(K:AD)(F0 H0 F:Hp)(D:W2):Fl->Prop
 | .nx ρ=>∀σ' F' H',u4 F F'->SOk K F0 H0 F' H' σ' ρ->Φ σ' H'->D.nx σ' H'
 | .rt r=>∀v F' H',A4 K F0 H0 F' H' v r->D.rt v H'
 | .bk ρ=>∀σ' F' H',u4 F F'->SOk K F0 H0 F' H' σ' ρ->Φ σ' H'->D.bk σ' H'
 | .ct ρ=>∀σ' F' H',u4 F F'->SOk K F0 H0 F' H' σ' ρ->Φ σ' H'->D.ct σ' H'
theorem b6O.later{Φ:L2.St->Hp->Prop}{K:AD}{F0 H0 F F1:Hp}{D:W2}(s:u4 F F1):∀{fl:Fl},b6O Φ K F0 H0 F D fl->b6O Φ K F0 H0 F1 D fl
 | .nx _,h=>fun σ' F' H' s' so=>h σ' F' H' (s.trans s') so
 | .rt _,h=>h
 | .bk _,h=>fun σ' F' H' s' so=>h σ' F' H' (s.trans s') so
 | .ct _,h=>fun σ' F' H' s' so=>h σ' F' H' (s.trans s') so
variable {Φ:L2.St->Hp->Prop}{I:List Nat}
end
mutual
def b9s:PV->Bool
 | .none=>true
 | .bool _=>true
 | .int _=>true
 | .str _=>true
 | .tuple ps=>b6B ps
 |_=>false
def b6B:List PV->Bool
 |[]=>true
 |p::ps=>b9s p && b6B ps
end
def keep(A:List Nat)(ρ:d4):d4:=ρ.zipIdx.map fun p=>if p.2∈A then p.1 else none
section
variable {X:Cx}
end
abbrev dv(kvs:List (List A1×PV)):PV:= .dict ((.tuple [],.none)::kvs.map fun kv=>(PyData.tuple (kv.1.map kP),kv.2))
section
variable {X:Cx}
end
mutual
def nd:PV->Bool
 | .list ps=>ndL ps
 | .tuple ps=>ndL ps
 | .dict ((.tuple _,_)::_)=>false
 | .dict ((.str _,.bool false)::_)=>false
 | .dict ((.str _,.int _)::_)=>false
 |_=>true
def ndL:List PV->Bool
 |[]=>true
 |p::ps=>nd p && ndL ps
end
section
variable {K:AD}{F:Hp}{a:AB}{xs:List (List A1×V)}
end
section
variable {X:Cx}
end
section
variable {prog:AL}{w:AJ}{K:Type}[DecidableEq K]{kd:KeyKind prog w K}{A:AK}{E:AA->AC->Prop}{s:AC}
end
section
variable {X:Cx}{pins:List (AB×Obj)}{σ:L2.St}{H:Hp}{s:AC}{a:AB}{kvs:List (List A1×V)}{A:AK}{E:AA->AC->Prop}
end
section
variable {X:Cx}{o i:AG}{td ty:TE}
end
section
variable {X:Cx}
end
def byT(w:AJ):Bool:=w.params.followText "set-order"
def b1V(prog:AL)(w:AJ)(h:Heap)(a:AB)(es:Array (Int×AA))(ep:Nat):Prop:=
 ∃o t,h.get? a=some o/\o.ExactSet/\o.data= .set es ep t/\ElemsOf (a5l prog w) es.toList/\es.size<scanBound/\t.fits es.size=true/\t.led= !byT w/\(es.size≠0->t.plain=false)
def sOf:AA->Str
 | .str x _=>x
 |_=>⟨#[]⟩
abbrev b6F(es:Array (Int×AA)):List Str:=es.toList.map fun e=>sOf e.2
structure TxE(es:Array (Int×AA))(zs:List Str):Prop where
 all:∀e∈es.toList,∃x t,e.2= .str x t
 nd:(b6F es).Nodup
 mem:∀x,x∈b6F es↔x∈zs
theorem b1V.at'{prog:AL}{w:AJ}{h h':Heap}{a:AB}{es:Array (Int×AA)}{ep:Nat}(x:b1V prog w h a es ep)(e:∀o,h.get? a=some o->h'.get? a=some o):b1V prog w h' a es ep:=
 let ⟨o,t,ho,r⟩:=x;⟨o,t,e _ ho,r⟩
section
variable {prog:AL}{w:AJ}{A:AK}{E:AA->AC->Prop}{s:AC}
theorem TxE.perm{es es':Array (Int×AA)}{zs:List Str}(p:es'.toList.Perm es.toList)(T:TxE es zs):TxE es' zs where
 all:=fun e he=>T.all e (p.mem_iff.mp he)
 nd:=((p.map _).nodup_iff).mpr T.nd
 mem:=fun x=>((p.map _).mem_iff).trans (T.mem x)
end
end PU
set_option maxHeartbeats 3200000
namespace PU
open PySem PySem.Spec PyProof.Rows L2 PySem.W
section
variable {prog:AL}{w:AJ}{A:AK}{E:AA->AC->Prop}{s:AC}
end
end PU
set_option maxHeartbeats 1000000
namespace PU
open PySem PySem.Spec PyProof.Rows L2 PySem.W
def a80(h:Heap)(it:AB)(first:AA)(i:Nat)(a:AB)(n ep:Nat):Prop:=∃o,h.get? it=some o/\o.cls= .type "set_iterator"/\o.data= .fields #[first,.int i 0,.ref a,.int n 0,.int ep 0]
theorem a80.typeIs{s:AC}{it:AB}{first:AA}{i:Nat}{a:AB}{n ep:Nat}(x:a80 s.heap it first i a n ep):s.TypeIs (.ref it) "set_iterator":=let ⟨o,ho,hc,_⟩:=x;⟨o,ho,hc⟩
theorem a80.at'{h h':Heap}{it:AB}{first:AA}{i:Nat}{a:AB}{n ep:Nat}(x:a80 h it first i a n ep)(e:∀o,h.get? it=some o->h'.get? it=some o):a80 h' it first i a n ep:=let ⟨o,ho,r⟩:=x;⟨o,e _ ho,r⟩
section
variable {prog:AL}{w:AJ}{A:AK}{E:AA->AC->Prop}{s:AC}{it a:AB}{i ep:Nat}{es:Array (Int×AA)}
theorem b1V.typeIs(x:b1V prog w s.heap a es ep):s.TypeIs (.ref a) "set":=let ⟨o,_,ho,hc,_⟩:=x;⟨o,ho,hc.1⟩
end
section
variable {prog:AL}{w:AJ}{A:AK}{E:AA->AC->Prop}{s:AC}{it a:AB}{i ep:Nat}{es:Array (Int×AA)}
end
section
variable {prog:AL}{w:AJ}{A:AK}{E:AA->AC->Prop}{s:AC}{a:AB}{ep:Nat}{es:Array (Int×AA)}
end
section
variable {prog:AL}{w:AJ}{A:AK}{E:AA->AC->Prop}{s:AC}{a:AB}{ep:Nat}{es:Array (Int×AA)}
end
section
variable {X:Cx}{pins:List (AB×Obj)}{σ:L2.St}{H:Hp}{s:AC}
end
open PySem PySem.Spec PyProof.Rows L2
theorem A4.txt{K:AD}{F H:Hp}{a:AB}(s:u4 F H)(n:H a=none):A4 K F H F (upd H a (.dK [])) (.ref a) (.ow (.txt [])):=
 ⟨Ext.layH s n,⟨a,[],rfl,s.free n,y4,rfl⟩,fun _ _ _ e=>by cases e;exact n⟩
section
variable {X:Cx}
end
abbrev ItO(f0:AA)(f1:Bool)(d:AB)(i n ep:Nat)(ok ov:AA):Obj:={cls:= .type "dict_itemiterator",dict:=none,data:= .fields #[f0,.bool f1,.ref d,.int i 0,.int n 0,.int ep 0,ok,ov],slots:= #[]}
def ItA(h:Heap)(it d:AB)(i n ep:Nat):Prop:=∃f0 f1 ok ov,h.get? it=some (ItO f0 f1 d i n ep ok ov)/\((f0= .none/\f1=false)\/∃a o,f0=rawInt (a:Nat)/\h.get? a=some o/\a≠it)
theorem ItA.at'{h h':Heap}{it d:AB}{i n ep:Nat}(x:ItA h it d i n ep)(e:∀b o,h.get? b=some o->h'.get? b=some o):ItA h' it d i n ep:=by
 obtain⟨f0,f1,ok,ov,h1,h2⟩:=x
 refine⟨f0,f1,ok,ov,e _ _ h1, ?_⟩
 rcases h2 with h2|⟨a,o,h2,h3,h4⟩
 ·exact .inl h2
 ·exact .inr ⟨a,o,h2,e _ _ h3,h4⟩
section
variable {prog:AL}{w:AJ}{K:Type}[DecidableEq K]{knd:KeyKind prog w K}{A:AK}{E:AA->AC->Prop}{s:AC}
end
section
variable {prog:AL}{w:AJ}{A:AK}{E:AA->AC->Prop}{s:AC}
def a98(h:Heap)(lo:Nat)(v:AA)(kv:A1×AA):Prop:=∃a key,v= .ref a/\lo<=a/\b3E kv.1 key=true/\h.get? a=some {cls:= .type "tuple",data:= .seq #[key,kv.2]}
theorem a98.keep{h h':Heap}{lo:Nat}{v:AA}{kv:A1×AA}(x:a98 h lo v kv)(e:∀b o,lo<=b->(∀xs n,o.data= .seq xs n->o.cls= .type "tuple"->h.get? b=some o->h'.get? b=some o)):a98 h' lo v kv:=
 let ⟨a,key,r,l,k,g⟩:=x;⟨a,key,r,l,k,e a _ l _ _ rfl rfl g⟩
end
end PU
namespace TS
open PySem PySem.Spec PyProof.Rows L2 PU
section
variable {prog:AL}{w:AJ}{A:AK}{E:AA->AC->Prop}{s:AC}
variable {κ:SortKind}{S:Heap->Keyed->Prop}{R:Heap->Keyed->Keyed->Bool}
end
end TS
namespace PU
open PySem PySem.Spec PyProof.Rows L2 PySem.W
section
variable {X:Cx}{pins:List (AB×Obj)}{σ:L2.St}{H H':Hp}{s:AC}{h':Heap}
theorem n4.many{t':Nat}(I:n4 X pins σ H s)(k:∀b u,s.heap.get? b=some u->h'.get? b=some u)(old:∀b,b<s.heap.objs.size->H' b=H b)(new:∀b o,s.heap.objs.size<=b->H' b=some o->O8 X.prog X.w H' h' b o):
 n4 X pins σ H' {s with heap:=h',toks:=t'}:=by
 have tr:∀b o,H b=some o->H' b=some o:=fun b o e=>by rw [old b (I.hok.lt e)];exact e
 refine I.un ⟨fun b u q _ _ _=>k b u q,fun b u q _ _ _=>⟨u.slots,k b u q⟩,fun b u q n _=>by rw [old b (Aa q)];exact n,fun b u q _=>⟨u,k b u q⟩,fun b xs q=>tr b _ q,fun b u xs q=>tr b _ q,fun b ps q=>⟨#[],by rw [tr b _ q];simp⟩⟩ fun b o e=> ?_
 rcases Nat.lt_or_ge b s.heap.objs.size with hb|hb
 ·rw [old b hb] at e
  exact(I.hok b o e).stay (fun c v _ q=>k c v q) (fun c q=>tr c _ q) fun c xs q=>tr c _ q
 ·exact new b o hb e
end
section
variable {X:Cx}
end
section
variable {X:Cx}
end
open PySem PySem.Spec PyProof.Rows L2
section
variable {X:Cx}{pins:List (AB×Obj)}{σ:L2.St}{H:Hp}{s:AC}{a:AB}{kvs:List (A1×V)}{k:A1}{v:V}{u r:AA}{A:AK}{E:AA->AC->Prop}
end
theorem b4F{K:AD}{H:Hp}{a D:AB}{xs:List V}{kvs kvs':List (A1×V)}(e:H D=some (.dK kvs))(h:SqT K H a xs):SqT K (upd H D (.dK kvs')) a xs:=by
 rcases h with(h|⟨o,h⟩)|h
 ·exact .inl (.inl (by rw [o8 (a9F h e (fun z=>nomatch z))];exact h))
 ·exact .inl (.inr ⟨o,by rw [o8 (a9F h e (fun z=>nomatch z))];exact h⟩)
 ·exact .inr h
def b2X(K:AD)(H:Hp)(p:A1×V)(x:V):Prop:=∃a,x= .ref a/\SqT K H a [kV p.1,p.2]
theorem b2X.upd{K:AD}{H:Hp}{D:AB}{kvs kvs':List (A1×V)}(e:H D=some (.dK kvs)){p:A1×V}{x:V}(h:b2X K H p x):b2X K (upd H D (.dK kvs')) p x:=
 let ⟨a,h1,h2⟩:=h
 ⟨a,h1,b4F e h2⟩
section
variable {X:Cx}{pins:List (AB×Obj)}{σ:L2.St}{A:AK}{R:Result->AC->Prop}
end
section
variable {X:Cx}
end
section
variable {X:Cx}
end
abbrev tv(kvs:List (List A1×PV)):PV:= .dict (kvs.map fun kv=>(PyData.tuple (kv.1.map kP),kv.2))
section
variable {X:Cx}
end
mutual
def nk:PV->Bool
 | .list ps=>nkL ps
 | .tuple ps=>nkL ps
 | .dict _=>false
 |_=>true
def nkL:List PV->Bool
 |[]=>true
 |p::ps=>nk p && nkL ps
end
section
variable {K:AD}{F:Hp}{a:AB}{xs:List (A1×V)}
end
section
variable {X:Cx}
end
section
variable {X:Cx}
end
structure ZA(z TI TO i1 i2:AB):Prop where
 TIz:TI≠z
 TOz:TO≠z
 i1z:i1≠z
 i2z:i2≠z
 TITO:TI≠TO
 TIi1:TI≠i1
 TIi2:TI≠i2
 TOi1:TO≠i1
 TOi2:TO≠i2
 i12:i1≠i2
section
variable {prog:AL}{w:AJ}{A:AK}{E:AA->AC->Prop}{s:AC}{z TI TO i1 i2:AB}{n1 n2 i:Nat}{P1 P2:Nat->AA->Prop}{St1 St2:Nat->Heap->Prop}{a b:AA}
theorem a4F{Q:AA->AC->Prop}(D:ZA z TI TO i1 i2)(D1:∀A',A'.handled=none->Draws prog w A' i1 [i1] n1 P1 St1)(D2:∀A',A'.handled=none->Draws prog w A' i2 [i2] n2 P2 St2)(hh:A.handled=none)
 (hz:IsZip s.heap z TI TO .none) (hTI:IsPair s.heap TI (.ref i1) (.ref i2)) (hTO:IsPair s.heap TO a b) (h1:St1 i s.heap) (h2:St2 i s.heap) (l1:i<n1) (l2:i<n2)
 (hQ:∀x y h' tk,P1 i x->P2 i y->IsZip h' z TI TO (rawInt s.heap.objs.size)->IsPair h' TO x y->St1 (i+1) h'->St2 (i+1) h'->IsPair h' s.heap.objs.size x y->h'.objs.size=s.heap.objs.size+1->
  (∀c o,c≠z->c≠TO->c≠i1->c≠i2->s.heap.get? c=some o->h'.get? c=some o)->Q (.ref s.heap.objs.size) {s with heap:=h',toks:=tk}):
 AI (model prog w) A (Builtin.«zip.__next__» ⟨[.ref z],[]⟩) (fun fin s'=>∃v,fin= .done (.ret v)/\Q v s') E s:=by
 show AI _ _ (field (.ref z) 2>>=_) _ _ _
 refine AF (wpAny_field hz rfl (x:= .bool false) rfl ?_)
 show AI _ _ (field (.ref z) 3>>=_) _ _ _
 refine AF (wpAny_field hz rfl (x:= .ref TI) rfl ?_)
 refine AF (wpAny_seqItems hTI rfl ?_)
 show AI _ _ (Builtin.SmallTypes.ownedTupleIsFree (.ref z)>>=_) _ _ _
 refine AF ?_
 unfold Builtin.SmallTypes.ownedTupleIsFree
 refine AF (wpAny_field hz rfl (x:= .none) rfl (AS ?_))
 simp only [if_true]
 refine AF (wpAny_rule ?_)
 refine AF (wpAny_field hz rfl (x:= .ref TO) rfl ?_)
 refine AF (wpAny_setField_rec hz (by simp) fun h₁ hz₁ hs₁=> ?_)
 replace hz₁:IsZip h₁ z TI TO .ellipsis:=hz₁
 refine AF ?_
 simp only [List.zipIdx_cons,List.zipIdx_nil,List.forIn_cons,List.forIn_nil]
 have f1:∀{x:AB} {h h':Heap} {i},x≠i1->Heap.SameBut x h h'->St1 i h->St1 i h':=fun n k st=>(D1 A hh).frame _ _ _ st fun b hb o e=>by
  have hb:b=i1:=by simpa using hb
  exact k.extBut _ _ (by rw [hb];exact Ne.symm n) e
 have f2:∀{x:AB} {h h':Heap} {i},x≠i2->Heap.SameBut x h h'->St2 i h->St2 i h':=fun n k st=>(D2 A hh).frame _ _ _ st fun b hb o e=>by
  have hb:b=i2:=by simpa using hb
  exact k.extBut _ _ (by rw [hb];exact Ne.symm n) e
 refine AF (AF (wpAny_onRaise ?_))
 show AI _ _ (Builtin.SmallTypes.nextOf (.ref i1)>>=_) _ _ _
 refine AF ((D1 _ hh).item i _ _ _ l1 (f1 D.i1z.symm hs₁ h1) fun x h₂ tk₂ px h1₂ hs₂=>AS ?_)
 have hTO₂:IsPair h₂ TO a b:=hs₂.extBut _ _ D.TOi1 (hs₁.extBut _ _ D.TOz hTO)
 refine AF (wpAny_seqItems hTO₂ rfl ?_)
 refine AF (wpAny_updateSeq_pair hTO₂ fun h₃ hTO₃ hs₃=> ?_)
 replace hTO₃:IsPair h₃ TO x b:=hTO₃
 refine AF (wpAny_letGo (AS ?_))
 refine AF (AF (wpAny_onRaise ?_))
 show AI _ _ (Builtin.SmallTypes.nextOf (.ref i2)>>=_) _ _ _
 refine AF ((D2 _ hh).item i _ _ _ l2 (f2 D.TOi2 hs₃ (f2 D.i12 hs₂ (f2 D.i2z.symm hs₁ h2))) fun y h₄ tk₄ py h2₄ hs₄=>AS ?_)
 have hTO₄:IsPair h₄ TO x b:=hs₄.extBut _ _ D.TOi2 hTO₃
 refine AF (wpAny_seqItems hTO₄ rfl ?_)
 refine AF (wpAny_updateSeq_pair hTO₄ fun h₅ hTO₅ hs₅=> ?_)
 replace hTO₅:IsPair h₅ TO x y:=hTO₅
 refine AF (wpAny_letGo (AS (AS ?_)))
 refine AF (wpAny_seqItems hTO₅ rfl ?_)
 refine AF (wpAny_newTuple ?_)
 have hsz:h₅.objs.size=s.heap.objs.size:=by rw [hs₅.1,hs₄.1,hs₃.1,hs₂.1,hs₁.1]
 have hz₅:IsZip h₅ z TI TO .ellipsis:=hs₅.extBut _ _ D.TOz.symm (hs₄.extBut _ _ D.i2z.symm (hs₃.extBut _ _ D.TOz.symm (hs₂.extBut _ _ D.i1z.symm hz₁)))
 have hk₅:∀c o,c≠z->c≠TO->c≠i1->c≠i2->s.heap.get? c=some o->h₅.get? c=some o:=fun c o c1 c2 c3 c4 e=>
  hs₅.extBut _ _ c2 (hs₄.extBut _ _ c4 (hs₃.extBut _ _ c2 (hs₂.extBut _ _ c3 (hs₁.extBut _ _ c1 e))))
 have h1₅:St1 (i+1) h₅:=f1 D.TOi1 hs₅ (f1 D.i12.symm hs₄ (f1 D.TOi1 hs₃ h1₂))
 have h2₅:St2 (i+1) h₅:=f2 D.TOi2 hs₅ h2₄
 have hzlt:z<h₅.objs.size:=Aa hz₅
 have hTOlt:TO<h₅.objs.size:=Aa hTO₅
 have hi1lt:i1<h₅.objs.size:=by obtain⟨_,e⟩:=(D1 A hh).live _ _ h1₅;exact Aa e
 have hi2lt:i2<h₅.objs.size:=by obtain⟨_,e⟩:=(D2 A hh).live _ _ h2₅;exact Aa e
 show AI _ _ (Builtin.SmallTypes.ownedTupleHandOut (.ref z) (.ref h₅.objs.size)>>=_) _ _ _
 refine AF ?_
 unfold Builtin.SmallTypes.ownedTupleHandOut
 have hz₆:IsZip (h₅.push {cls:= .type "tuple",data:= .seq #[x,y]}) z TI TO .ellipsis:=Ah _ hz₅
 refine AF (wpAny_setField_rec hz₆ (by simp) fun h₇ hz₇ hs₇=> ?_)
 replace hz₇:IsZip h₇ z TI TO (rawInt h₅.objs.size):=hz₇
 refine wpAny_setField_rec hz₇ (by simp) fun h₈ hz₈ hs₈=> ?_
 replace hz₈:IsZip h₈ z TI TO (rawInt h₅.objs.size):=hz₈
 have up:∀c o,c≠z->h₅.get? c=some o->h₈.get? c=some o:=fun c o c1 e=>hs₈.extBut _ _ c1 (hs₇.extBut _ _ c1 (Ah _ e))
 have hT₈:IsPair h₈ h₅.objs.size x y:=hs₈.extBut _ _ (Nat.ne_of_gt hzlt) (hs₇.extBut _ _ (Nat.ne_of_gt hzlt) (Ar _ rfl))
 have hz8:h₈.objs.size=h₅.objs.size+1:=by rw [hs₈.1,hs₇.1,Heap.size_push]
 rw [hsz] at hz₈ hT₈ hz8
 refine AS ⟨_,rfl, ?_⟩
 show Q (.ref h₅.objs.size) _
 rw [hsz]
 refine hQ x y h₈ _ px py hz₈ (up _ _ D.TOz hTO₅) ?_ ?_ hT₈ hz8 fun c o c1 c2 c3 c4 e=>up c o c1 (hk₅ c o c1 c2 c3 c4 e)
 ·refine(D1 A hh).frame _ _ _ h1₅ fun b hb o e=>up b o ?_ e
  rw [List.mem_singleton.mp hb]
  exact D.i1z
 ·refine(D2 A hh).frame _ _ _ h2₅ fun b hb o e=>up b o ?_ e
  rw [List.mem_singleton.mp hb]
  exact D.i2z
theorem a6N{Q:PySem.Fin->AC->Prop}(D:ZA z TI TO i1 i2)(D1:∀A',A'.handled=none->Draws prog w A' i1 [i1] n1 P1 St1)(D2:∀A',A'.handled=none->Draws prog w A' i2 [i2] n2 P2 St2)(hh:A.handled=none)
 (hz:IsZip s.heap z TI TO .none) (hTI:IsPair s.heap TI (.ref i1) (.ref i2)) (hTO:IsPair s.heap TO a b) (h1:St1 i s.heap) (h2:St2 i s.heap) (l1:i<=n1) (l2:i<=n2) (hend:i=n1\/i=n2)
 (hE:∀h' e tk,(∀c o,c≠z->c≠TO->c≠i1->c≠i2->s.heap.get? c=some o->h'.get? c=some o)->(∃o,h'.get? e=some o/\o.cls= .type "StopIteration")->E (.ref e) {s with heap:=h',toks:=tk}):
 AI (model prog w) A (Builtin.«zip.__next__» ⟨[.ref z],[]⟩) Q E s:=by
 show AI _ _ (field (.ref z) 2>>=_) _ _ _
 refine AF (wpAny_field hz rfl (x:= .bool false) rfl ?_)
 show AI _ _ (field (.ref z) 3>>=_) _ _ _
 refine AF (wpAny_field hz rfl (x:= .ref TI) rfl ?_)
 refine AF (wpAny_seqItems hTI rfl ?_)
 show AI _ _ (Builtin.SmallTypes.ownedTupleIsFree (.ref z)>>=_) _ _ _
 refine AF ?_
 unfold Builtin.SmallTypes.ownedTupleIsFree
 refine AF (wpAny_field hz rfl (x:= .none) rfl (AS ?_))
 simp only [if_true]
 refine AF (wpAny_rule ?_)
 refine AF (wpAny_field hz rfl (x:= .ref TO) rfl ?_)
 refine AF (wpAny_setField_rec hz (by simp) fun h₁ hz₁ hs₁=> ?_)
 replace hz₁:IsZip h₁ z TI TO .ellipsis:=hz₁
 refine AF ?_
 simp only [List.zipIdx_cons,List.zipIdx_nil,List.forIn_cons,List.forIn_nil]
 have f1:∀{x:AB} {h h':Heap} {i},x≠i1->Heap.SameBut x h h'->St1 i h->St1 i h':=fun n k st=>(D1 A hh).frame _ _ _ st fun b hb o e=>by
  have hb:b=i1:=by simpa using hb
  exact k.extBut _ _ (by rw [hb];exact Ne.symm n) e
 have f2:∀{x:AB} {h h':Heap} {i},x≠i2->Heap.SameBut x h h'->St2 i h->St2 i h':=fun n k st=>(D2 A hh).frame _ _ _ st fun b hb o e=>by
  have hb:b=i2:=by simpa using hb
  exact k.extBut _ _ (by rw [hb];exact Ne.symm n) e
 refine AF (AF (wpAny_onRaise ?_))
 show AI _ _ (Builtin.SmallTypes.nextOf (.ref i1)>>=_) _ _ _
 by_cases hx:i=n1
 ·subst hx
  refine AF ((D1 _ hh).done _ _ _ (f1 D.i1z.symm hs₁ h1) fun h₂ e hs₂ he=> ?_)
  obtain⟨oe,hoe,hce⟩:=he
  have hz₂:IsZip h₂ z TI TO .ellipsis:=hs₂ _ _ D.i1z.symm hz₁
  have hez:e≠z:=fun x=>by subst x;rw [hz₂] at hoe;cases hoe;simp at hce
  exact wpAny_setField_rec hz₂ (by simp) fun h₃ _ hs₃=>hE h₃ e _ (fun c o c1 _ c3 _ x=>hs₃.extBut _ _ c1 (hs₂ _ _ c3 (hs₁.extBut _ _ c1 x))) ⟨oe,hs₃.extBut _ _ hez hoe,hce⟩
 ·have hy:i=n2:=hend.resolve_left hx
  subst hy
  refine AF ((D1 _ hh).item i _ _ _ (Nat.lt_of_le_of_ne l1 hx) (f1 D.i1z.symm hs₁ h1) fun x h₂ tk₂ px h1₂ hs₂=>AS ?_)
  have hTO₂:IsPair h₂ TO a b:=hs₂.extBut _ _ D.TOi1 (hs₁.extBut _ _ D.TOz hTO)
  refine AF (wpAny_seqItems hTO₂ rfl ?_)
  refine AF (wpAny_updateSeq_pair hTO₂ fun h₃ hTO₃ hs₃=> ?_)
  refine AF (wpAny_letGo (AS ?_))
  refine AF (AF (wpAny_onRaise ?_))
  show AI _ _ (Builtin.SmallTypes.nextOf (.ref i2)>>=_) _ _ _
  refine AF ((D2 _ hh).done _ _ _ (f2 D.TOi2 hs₃ (f2 D.i12 hs₂ (f2 D.i2z.symm hs₁ h2))) fun h₄ e hs₄ he=> ?_)
  obtain⟨oe,hoe,hce⟩:=he
  have hz₄:IsZip h₄ z TI TO .ellipsis:=hs₄ _ _ D.i2z.symm (hs₃.extBut _ _ D.TOz.symm (hs₂.extBut _ _ D.i1z.symm hz₁))
  have hez:e≠z:=fun x=>by subst x;rw [hz₄] at hoe;cases hoe;simp at hce
  exact wpAny_setField_rec hz₄ (by simp) fun h₅ _ hs₅=>hE h₅ e _ (fun c o c1 c2 c3 c4 x=>hs₅.extBut _ _ c1 (hs₄ _ _ c4 (hs₃.extBut _ _ c2 (hs₂.extBut _ _ c3 (hs₁.extBut _ _ c1 x))))) ⟨oe,hs₅.extBut _ _ hez hoe,hce⟩
theorem a4A{Q:Option AA->AC->Prop}(D:ZA z TI TO i1 i2)(D1:∀A',A'.handled=none->Draws prog w A' i1 [i1] n1 P1 St1)(D2:∀A',A'.handled=none->Draws prog w A' i2 [i2] n2 P2 St2)(hh:A.handled=none)
 (hz:IsZip s.heap z TI TO .none) (hTI:IsPair s.heap TI (.ref i1) (.ref i2)) (hTO:IsPair s.heap TO a b) (h1:St1 i s.heap) (h2:St2 i s.heap) (l1:i<n1) (l2:i<n2)
 (hQ:∀x y h' tk,P1 i x->P2 i y->IsZip h' z TI TO (rawInt s.heap.objs.size)->IsPair h' TO x y->St1 (i+1) h'->St2 (i+1) h'->IsPair h' s.heap.objs.size x y->h'.objs.size=s.heap.objs.size+1->
  (∀c o,c≠z->c≠TO->c≠i1->c≠i2->s.heap.get? c=some o->h'.get? c=some o)->Q (some (.ref s.heap.objs.size)) {s with heap:=h',toks:=tk}):
 AI (model prog w) A (pyNext (.ref z)) Q E s:=by
 have hT:s.TypeIs (.ref z) "zip":=⟨_,hz,rfl⟩
 unfold pyNext
 exact AF (wpAny_attempt (wpAny_callSpecial?_slot (name:=AE "__next__") hT F.slot_zip_next
  (wpAny_call_entry F.slot_zip_next hT F.entry_zip_next
   (a4F D D1 D2 hh hz hTI hTO h1 h2 l1 l2 fun x y h' tk p1 p2 a1 a2 a3 a4 a5 a6 a7=>AS (hQ x y h' tk p1 p2 a1 a2 a3 a4 a5 a6 a7)) (F.args_zip_next_1 _))))
theorem a5a{Q:Option AA->AC->Prop}(D:ZA z TI TO i1 i2)(D1:∀A',A'.handled=none->Draws prog w A' i1 [i1] n1 P1 St1)(D2:∀A',A'.handled=none->Draws prog w A' i2 [i2] n2 P2 St2)(hh:A.handled=none)
 (hz:IsZip s.heap z TI TO .none) (hTI:IsPair s.heap TI (.ref i1) (.ref i2)) (hTO:IsPair s.heap TO a b) (h1:St1 i s.heap) (h2:St2 i s.heap) (l1:i<=n1) (l2:i<=n2) (hend:i=n1\/i=n2)
 (hQ:∀h' tk,(∀c o,c≠z->c≠TO->c≠i1->c≠i2->s.heap.get? c=some o->h'.get? c=some o)->Q none {s with heap:=h',toks:=tk}):AI (model prog w) A (pyNext (.ref z)) Q E s:=by
 have hT:s.TypeIs (.ref z) "zip":=⟨_,hz,rfl⟩
 unfold pyNext
 refine AF (wpAny_attempt (wpAny_callSpecial?_slot (name:=AE "__next__") hT F.slot_zip_next
  (wpAny_call_entry F.slot_zip_next hT F.entry_zip_next (a6N D D1 D2 hh hz hTI hTO h1 h2 l1 l2 hend fun h' e tk hk he=> ?_) (F.args_zip_next_1 _))))
 obtain⟨o,ho,hc⟩:=he
 refine AF (wpAny_isInstance (T:="StopIteration") (b:=true) ⟨o,ho,hc⟩ isSubtype_stop ?_)
 exact AS (hQ _ _ hk)
end
theorem n4.turnedTupN{X:Cx}{pins:List (AB×Obj)}{σ:L2.St}{H:Hp}{s:AC}{h':Heap}{t':Nat}{ch:List AB}{xs:List V}(I:n4 X pins σ H s)(f:∀b∈ch,a4g X pins H b)
 (k:∀b o,b∉ch->s.heap.get? b=some o->h'.get? b=some o) (new:O8 X.prog X.w (upd H s.heap.objs.size (.tup xs)) h' s.heap.objs.size (.tup xs)):
 n4 X pins σ (upd H s.heap.objs.size (.tup xs)) {s with heap:=h',toks:=t'}:=by
 have hn:H s.heap.objs.size=none:=I.hok.fresh (AV _)
 have nb:∀b u,H b=some u->b∉ch:=fun b u q z=>by rw [(f b z).1] at q;cases q
 refine I.step (g':=s.gens) (d':=s.drawn) (ch:=ch) (fun b hb=>⟨(f b hb).2.2.2.1,(f b hb).2.1,(f b hb).2.2.2.2.1,(f b hb).2.2.2.2.2⟩) (fun b o _ _ hc q _=>k b o hc q) (fun b o _ _ hc q _=>⟨o.slots,k b o hc q⟩)
  (fun b o _ q n=>by rw [o8 (Ao (Aa q))];exact n) (fun b o hc q=>⟨o,k b o hc q⟩)
  (fun b xs q=>by rw [o8 (p6 q hn)];exact q) (fun b o u q=>by rw [o8 (p6 q hn)];exact q) (fun b ps q=>⟨#[],by rw [o8 (p6 q hn),q];simp⟩) (fun m hm=> ?_) (fun b u q=> ?_) I.bare
 ·obtain⟨o,es,ep,ho,r⟩:=hm
  exact⟨o,es,ep,k _ o (fun z=>(f _ z).2.1 rfl) ho,r⟩
 ·by_cases hb:b=s.heap.objs.size
  ·subst hb
   rw [y4] at q
   cases q
   exact new
  ·rw [o8 hb] at q
   refine(I.hok b u q).stay (fun c v hc y=>k c v ?_ y) (fun c y=>by rw [o8 (p6 y hn)];exact y) fun c ys y=>by rw [o8 (p6 y hn)];exact y
   rcases hc with z|z
   ·rw [z];exact nb b u q
   ·exact nb c _ z
theorem n4.turnedN{X:Cx}{pins:List (AB×Obj)}{σ:L2.St}{H:Hp}{s:AC}{h':Heap}{t':Nat}{ch:List AB}(I:n4 X pins σ H s)(f:∀b∈ch,a4g X pins H b)
 (k:∀b o,b∉ch->s.heap.get? b=some o->h'.get? b=some o):n4 X pins σ H {s with heap:=h',toks:=t'}:=by
 have nb:∀b u,H b=some u->b∉ch:=fun b u q z=>by rw [(f b z).1] at q;cases q
 refine I.step (g':=s.gens) (d':=s.drawn) (ch:=ch) (fun b hb=>⟨(f b hb).2.2.2.1,(f b hb).2.1,(f b hb).2.2.2.2.1,(f b hb).2.2.2.2.2⟩) (fun b o _ _ hc q _=>k b o hc q) (fun b o _ _ hc q _=>⟨o.slots,k b o hc q⟩)
  (fun _ _ _ _ n=>n) (fun b o hc q=>⟨o,k b o hc q⟩) (fun _ _ e=>e) (fun _ _ _ e=>e) (fun b ps e=>⟨#[],by rw [e];simp⟩) (fun m hm=> ?_) (fun b u q=> ?_) I.bare
 ·obtain⟨o,es,ep,ho,r⟩:=hm
  exact⟨o,es,ep,k _ o (fun z=>(f _ z).2.1 rfl) ho,r⟩
 ·refine(I.hok b u q).stay (fun c v hc y=>k c v ?_ y) (fun _ y=>y) fun _ _ y=>y
  rcases hc with z|z
  ·rw [z];exact nb b u q
  ·exact nb c _ z
theorem b26:bootBuiltins "zip"=some (.type "zip"):=by decide+kernel
theorem b8q(n:Nat):ZA (n+4) (n+2) (n+3) n (n+1):=by
 exact⟨(by lia:(n+2:Nat)≠n+4),(by lia:(n+3:Nat)≠n+4),(by lia:(n:Nat)≠n+4),(by lia:(n+1:Nat)≠n+4),(by lia:(n+2:Nat)≠n+3),(by lia:(n+2:Nat)≠n),(by lia:(n+2:Nat)≠n+1),
  (by lia:(n+3:Nat)≠n),(by lia:(n+3:Nat)≠n+1),(by lia:(n:Nat)≠n+1)⟩
section
variable {X:Cx}
end
section
variable {prog:AL}{w:AJ}{K:Type}[DecidableEq K]{knd:KeyKind prog w K}{A:AK}{E:AA->AC->Prop}{s:AC}
end
section
variable {X:Cx}
end
section
variable {X:Cx}{tg:AG}
end
end PU
set_option maxHeartbeats 3200000
namespace PU
open PySem PySem.Spec PyProof.Rows L2 PySem.W
section
variable {prog:AL}{w:AJ}{A:AK}{E:AA->AC->Prop}{s:AC}
end
end PU
set_option maxHeartbeats 1000000
namespace PU
open PySem PySem.Spec PyProof.Rows L2
section
variable {X:Cx}
def b84(X:Cx):List V->Hp->VK->Prop:=fun xs H Q=>∃(a:AB) (zs:List Str),xs=[.ref a]/\H a=some (.lst (zs.map V.str))/\zs.length+1<4096/\∀p es ep,H p=none->TxE es zs->es.size<=zs.length->Q (.ref p) (upd H p (.ext fun h=>b1V X.prog X.w h p es ep))
end
section
variable {X:Cx}
end
section
variable {X:Cx}
def a20:List PV->Option (List Int)
 |[]=>some []
 | .int i::r=>(a20 r).map (i::·)
 |_=>none
def a3G(is:List Int):Int:=is.getD (argBest (fun i j=>decide (is.getD i 0>is.getD j 0)) (is.length - 1)) 0
theorem a5R{K:AD}{F:Hp}:∀{ps:List PV} {is:List Int} {xs:List V},a20 ps=some is->p8 K F ps xs->xs=is.map V.int
 |[],_,_,h,r=>by cases h;cases r;rfl
 |p::ps,is,xs,h,⟨v,vs,e,rv,rt⟩=>by
  subst e
  cases p with
  |int z=>
   cases hs:a20 ps with
   |none=>simp [a20,hs] at h
   |some is'=>
    have h:is=z::is':=by simpa [a20,hs] using h.symm
    subst h
    have e1:=a5R hs rt
    cases rv
    rw [e1];rfl
  |_=>simp [a20] at h
theorem a6M:∀{is:List Int} {its:List AA},u3 (is.map V.int) its->∃xs:List (Int×Tok),xs.map (·.1)=is/\its=xs.map fun p=>Value.int p.1 p.2
 |[],_,.nil=>⟨[],rfl,rfl⟩
 |i::is,_,.cons r t=>by
  obtain⟨xs,h1,h2⟩:=a6M t
  obtain⟨u,rfl⟩:=r
  exact⟨(i,u)::xs,by rw [AM,h1],by rw [AM,h2]⟩
end
section
open AutoSeq1 (wpAny_loadPart')
open PySem.MeetsSeq3 (plain_eq_loop entry_eq_loop)
theorem b2j(l b:AB)(xs ys:Array AA)(n n2:Nat)(dd dd2:Option AB)(sl sl2:Array (Option AA))(e:Nat->Bool)(c:Bool)(k:Nat):
 ∀i:Nat,min xs.size ys.size - i=k->i<=min xs.size ys.size->(∀j,j<i->e j=true)->Meets (Builtin.«list.__eq__.loop» ⟨[.ref l,.ref b,rawInt i,rawInt 0],[]⟩)
  (fun A R s=>s.heap.get? l=some {cls:= .type "list",dict:=dd,data:= .seq xs n,slots:=sl}/\s.heap.get? b=some {cls:= .type "list",dict:=dd2,data:= .seq ys n2,slots:=sl2}/\
   (∀j (h1:j<xs.size) (h2:j<ys.size),SeqAt.EqAt A.in1 s xs[j] ys[j] (e j))/\(∀j (h1:j<xs.size) (h2:j<ys.size),(∀k,k<j->e k=true)->e j=false->a5v A.in1 s xs[j] ys[j] c)/\
   ((∀k,k<min xs.size ys.size->e k=true)->c=decide (xs.size<ys.size))/\R (.ok (.ret (.bool c))) s):=by
 induction k with
 |zero=>
  intro i hk hi hb4 prog w A R s h
  obtain⟨hp,g,d,tk,os⟩:=s;obtain⟨hl,hb,he,hlt,hce,h⟩:=h
  have hce':=hce fun k hk'=>hb4 k (by lia)
  wp_walk using wpAny_loadPart' hl,wpAny_loadPart' hb
  rcases Nat.lt_or_ge i xs.size with h1|h1
  ·have h2:ys.size<=i:=by lia
   have hi1:xs[((i:Nat):Int).toNat]?=some xs[i]:=by simp [h1]
   have hi2:ys[((i:Nat):Int).toNat]?=none:=by simp;lia
   rw [hi1,hi2]
   wp_walk using wpAny_loadPart' hl,wpAny_loadPart' hb
   show R (.ok (.ret (.bool (decide (xs.size<ys.size))))) _
   rw [<-hce'];exact h
  ·have hi1:xs[((i:Nat):Int).toNat]?=none:=by simp;lia
   rw [hi1]
   wp_walk using wpAny_loadPart' hl,wpAny_loadPart' hb
   show R (.ok (.ret (.bool (decide (xs.size<ys.size))))) _
   rw [<-hce'];exact h
 |succ k ih=>
  intro i hk hi hb4 prog w A R s h
  obtain⟨hp,g,d,tk,os⟩:=s;obtain⟨hl,hb,he,hlt,hce,h⟩:=h
  wp_walk using wpAny_loadPart' hl,wpAny_loadPart' hb
  have h1:i<xs.size:=by lia
  have h2:i<ys.size:=by lia
  have hi1:xs[((i:Nat):Int).toNat]?=some xs[i]:=by simp [h1]
  have hi2:ys[((i:Nat):Int).toNat]?=some ys[i]:=by simp [h2]
  have hc:((i:Int)+1)=((i+1:Nat):Int):=by push_cast;rfl
  rw [hi1,hi2]
  refine AF (he i h1 h2 prog w _ _ ?_)
  cases hq:e i with
  |true=>
   wp_walk
   rw [hc]
   exact⟨plainId_quiet plain_eq_loop _,codeAny_builtin entry_eq_loop (by
    rw [Around.under_plainId plain_eq_loop _]
    exact ih (i+1) (by lia) (by lia) (fun j hj=>by
     rcases Nat.lt_or_ge j i with h'|h'
     ·exact hb4 j h'
     ·rw [show j=i by lia];exact hq) prog w A R _ ⟨hl,hb,he,hlt,hce,h⟩)⟩
  |false=>
   have hl3:=hlt i h1 h2 hb4 hq
   wp_walk using wpAny_loadPart' hl,wpAny_loadPart' hb
   rw [hi1,hi2]
   show AI _ A.in1 (richCompare .Lt xs[i] ys[i]>>=fun v=>ret v) _ _ _
   refine AF (hl3 prog w _ _ ?_)
   exact AS h
theorem a61(l b:AB)(xs ys:Array AA)(n n2:Nat)(dd dd2:Option AB)(sl sl2:Array (Option AA))(e:Nat->Bool)(c:Bool):
 Meets (Builtin.«list.__lt__» ⟨[.ref l,.ref b],[]⟩)
  (fun A R s=>s.heap.get? l=some {cls:= .type "list",dict:=dd,data:= .seq xs n,slots:=sl}/\s.heap.get? b=some {cls:= .type "list",dict:=dd2,data:= .seq ys n2,slots:=sl2}/\
   (∀j (h1:j<xs.size) (h2:j<ys.size),SeqAt.EqAt A.in1 s xs[j] ys[j] (e j))/\(∀j (h1:j<xs.size) (h2:j<ys.size),(∀k,k<j->e k=true)->e j=false->a5v A.in1 s xs[j] ys[j] c)/\
   ((∀k,k<min xs.size ys.size->e k=true)->c=decide (xs.size<ys.size))/\R (.ok (.ret (.bool c))) s):=by
 intro prog w A R s h
 obtain⟨hp,g,d,tk,os⟩:=s;obtain⟨hl,hb,he,hlt,hce,h⟩:=h
 have f3:=AutoSeq1.sub_list_list
 wp_walk using wpAny_loadPart' hl,wpAny_loadPart' hb
 exact⟨plainId_quiet plain_eq_loop _,codeAny_builtin entry_eq_loop (by
  rw [Around.under_plainId plain_eq_loop _]
  exact b2j l b xs ys n n2 dd dd2 sl sl2 e c _ 0 rfl (Nat.zero_le _) (fun j hj=>by lia) prog w A R _ ⟨hl,hb,he,hlt,hce,h⟩)⟩
variable {A:AK}{s:AC}
theorem a5v.lists{l b:AB}{xs ys:Array AA}{e:Nat->Bool}{c:Bool}(hl:s.heap.IsList l xs)(hb:s.heap.IsList b ys)(hu:A.units<cLine)
 (he:∀j (h1:j<xs.size) (h2:j<ys.size),SeqAt.EqAt A.in1 s xs[j] ys[j] (e j)) (hlt:∀j (h1:j<xs.size) (h2:j<ys.size),(∀k,k<j->e k=true)->e j=false->a5v A.in1 s xs[j] ys[j] c)
 (hce:(∀k,k<min xs.size ys.size->e k=true)->c=decide (xs.size<ys.size)):a5v A s (.ref l) (.ref b) c:=fun prog w E Q h=>by
 obtain⟨⟨c1,d1,t1,s1⟩,o1,e1,n1,k1⟩:=id hl
 obtain⟨⟨c2,d2,t2,s2⟩,o2,e2,n2,k2⟩:=id hb
 simp only at e1 k1 e2 k2
 subst e1 k1 e2 k2
 exact richCompare_meets_room (op:= .Lt) ⟨_,o1,rfl⟩ ⟨_,o2,rfl⟩ PySem.F.slot_list_lt PySem.F.entry_list_lt (PySem.F.args_list_lt_2 _ _) (a61 l b xs ys n1 n2 d1 d2 s1 s2 e c)
  ⟨o1,o2,he,hlt,hce,show Value.bool c≠Value.notImplemented/\Q (.bool c) s from⟨(fun x=>nomatch x),h⟩⟩ hu
end
open PySem PySem.Spec PyProof.Rows L2 PySem.W
abbrev PtL:=List (Int×Int)
def plv(p:Int×Int):PV:= .tuple [.int p.1,.int p.2]
def llv(L:PtL):PV:= .list (L.map plv)
section
variable {X:Cx}{pins:List (AB×Obj)}{σ:L2.St}{H:Hp}{s:AC}
def Gd(X:Cx)(H:Hp)(v:AA)(L:PtL):Prop:=∃x,z4 x v/\M2 X.K H (llv L) x
theorem b58{p q:Int×Int}(h:plv p=plv q):p=q:=by
 unfold plv at h
 injection h with h
 injection h with h1 h
 injection h with h2 _
 injection h1 with h1
 injection h2 with h2
 exact Prod.ext h1 h2
theorem b5A{L M:PtL}(h:llv L=llv M):L=M:=by
 unfold llv at h
 injection h with h
 exact List.map_inj_right (fun _ _=>b58)|>.mp h
theorem Gd.uniq(I:n4 X pins σ H s){v:AA}{L M:PtL}(h:Gd X H v L)(g:Gd X H v M):L=M:=by
 obtain⟨x,r,h⟩:=h
 obtain⟨y,t,g⟩:=g
 obtain⟨a,xs,rfl,h1,h2⟩:=id h
 obtain⟨b,ys,rfl,g1,g2⟩:=id g
 cases r
 cases t
 exact b5A (M2.inj I _ _ h g)
end
section
variable {X:Cx}
end
section
variable {X:Cx}
end
end PU
namespace L2
open PySem PySem.Spec PyProof.Rows
structure b2Y(k:Nat)(A:AK):Prop where
 dp:A.depth+3*k+5<recursionLimit
 un:A.units+16*k+200<cLine
theorem b2Y.units{k:Nat}{A:AK}(r:b2Y k A):A.units+64<cLine:=by have:=r.un;lia
theorem D3.q{k:Nat}{A:AK}(r:D3 k A)(v:Option AA):b2Y k (A.mark v):=⟨r.dp,r.un⟩
end L2
namespace PU
open PySem PySem.Spec PyProof.Rows L2
open PySem.W (Looks InstAt looks_findIn looks_find looks_subIn looks_mroIn)
section
variable {prog:AL}{w:AJ}{A:AK}{E:AA->AC->Prop}{s:AC}{K:AD}{x D:AB}{ox:Obj}
end
section
variable {X:Cx}
end
end PU
namespace ZT
open PySem PySem.Spec PyProof.Rows L2 PU
structure ZA(z TI TO i1 i2:AB):Prop where
 TIz:TI≠z
 TOz:TO≠z
 i1z:i1≠z
 i2z:i2≠z
 TITO:TI≠TO
 TIi1:TI≠i1
 TIi2:TI≠i2
 TOi1:TO≠i1
 TOi2:TO≠i2
 i12:i1≠i2
def LA(z TO i1 i2 l:AB):Prop:=l≠z/\l≠TO/\l≠i1/\l≠i2
section
variable {prog:AL}{w:AJ}{A:AK}{E:AA->AC->Prop}{s:AC}{z TI TO i1 i2:AB}{n1 n2 i:Nat}{P1 P2:Nat->AA->Prop}{St1 St2:Nat->Heap->Prop}{a b:AA}{l1 l2:AB}
theorem a4F{Q:AA->AC->Prop}(D:ZA z TI TO i1 i2)(D1:∀A',A'.handled=none->Draws prog w A' i1 [i1,l1] n1 P1 St1)(D2:∀A',A'.handled=none->Draws prog w A' i2 [i2,l2] n2 P2 St2)(hh:A.handled=none)(a1:LA z TO i1 i2 l1)(a2:LA z TO i1 i2 l2)
 (hz:IsZip s.heap z TI TO .none) (hTI:IsPair s.heap TI (.ref i1) (.ref i2)) (hTO:IsPair s.heap TO a b) (h1:St1 i s.heap) (h2:St2 i s.heap) (m1:i<n1) (m2:i<n2)
 (hQ:∀x y h' tk,P1 i x->P2 i y->IsZip h' z TI TO (rawInt s.heap.objs.size)->IsPair h' TO x y->St1 (i+1) h'->St2 (i+1) h'->IsPair h' s.heap.objs.size x y->h'.objs.size=s.heap.objs.size+1->
  (∀c o,c≠z->c≠TO->c≠i1->c≠i2->s.heap.get? c=some o->h'.get? c=some o)->Q (.ref s.heap.objs.size) {s with heap:=h',toks:=tk}):
 AI (model prog w) A (Builtin.«zip.__next__» ⟨[.ref z],[]⟩) (fun fin s'=>∃v,fin= .done (.ret v)/\Q v s') E s:=by
 show AI _ _ (field (.ref z) 2>>=_) _ _ _
 refine AF (wpAny_field hz rfl (x:= .bool false) rfl ?_)
 show AI _ _ (field (.ref z) 3>>=_) _ _ _
 refine AF (wpAny_field hz rfl (x:= .ref TI) rfl ?_)
 refine AF (wpAny_seqItems hTI rfl ?_)
 show AI _ _ (Builtin.SmallTypes.ownedTupleIsFree (.ref z)>>=_) _ _ _
 refine AF ?_
 unfold Builtin.SmallTypes.ownedTupleIsFree
 refine AF (wpAny_field hz rfl (x:= .none) rfl (AS ?_))
 simp only [if_true]
 refine AF (wpAny_rule ?_)
 refine AF (wpAny_field hz rfl (x:= .ref TO) rfl ?_)
 refine AF (wpAny_setField_rec hz (by simp) fun h₁ hz₁ hs₁=> ?_)
 replace hz₁:IsZip h₁ z TI TO .ellipsis:=hz₁
 refine AF ?_
 simp only [List.zipIdx_cons,List.zipIdx_nil,List.forIn_cons,List.forIn_nil]
 have f1:∀{x:AB} {h h':Heap} {i},x≠i1->x≠l1->Heap.SameBut x h h'->St1 i h->St1 i h':=fun n n' k st=>(D1 A hh).frame _ _ _ st fun b hb o e=>by
  have hb:b=i1\/b=l1:=by simpa using hb
  rcases hb with hb|hb
  ·exact k.extBut _ _ (by rw [hb];exact Ne.symm n) e
  ·exact k.extBut _ _ (by rw [hb];exact Ne.symm n') e
 have f2:∀{x:AB} {h h':Heap} {i},x≠i2->x≠l2->Heap.SameBut x h h'->St2 i h->St2 i h':=fun n n' k st=>(D2 A hh).frame _ _ _ st fun b hb o e=>by
  have hb:b=i2\/b=l2:=by simpa using hb
  rcases hb with hb|hb
  ·exact k.extBut _ _ (by rw [hb];exact Ne.symm n) e
  ·exact k.extBut _ _ (by rw [hb];exact Ne.symm n') e
 refine AF (AF (wpAny_onRaise ?_))
 show AI _ _ (Builtin.SmallTypes.nextOf (.ref i1)>>=_) _ _ _
 refine AF ((D1 _ hh).item i _ _ _ m1 (f1 D.i1z.symm (Ne.symm a1.1) hs₁ h1) fun x h₂ tk₂ px h1₂ hs₂=>AS ?_)
 have hTO₂:IsPair h₂ TO a b:=hs₂.extBut _ _ D.TOi1 (hs₁.extBut _ _ D.TOz hTO)
 refine AF (wpAny_seqItems hTO₂ rfl ?_)
 refine AF (wpAny_updateSeq_pair hTO₂ fun h₃ hTO₃ hs₃=> ?_)
 replace hTO₃:IsPair h₃ TO x b:=hTO₃
 refine AF (wpAny_letGo (AS ?_))
 refine AF (AF (wpAny_onRaise ?_))
 show AI _ _ (Builtin.SmallTypes.nextOf (.ref i2)>>=_) _ _ _
 refine AF ((D2 _ hh).item i _ _ _ m2 (f2 D.TOi2 (Ne.symm a2.2.1) hs₃ (f2 D.i12 (Ne.symm a2.2.2.1) hs₂ (f2 D.i2z.symm (Ne.symm a2.1) hs₁ h2))) fun y h₄ tk₄ py h2₄ hs₄=>AS ?_)
 have hTO₄:IsPair h₄ TO x b:=hs₄.extBut _ _ D.TOi2 hTO₃
 refine AF (wpAny_seqItems hTO₄ rfl ?_)
 refine AF (wpAny_updateSeq_pair hTO₄ fun h₅ hTO₅ hs₅=> ?_)
 replace hTO₅:IsPair h₅ TO x y:=hTO₅
 refine AF (wpAny_letGo (AS (AS ?_)))
 refine AF (wpAny_seqItems hTO₅ rfl ?_)
 refine AF (wpAny_newTuple ?_)
 have hsz:h₅.objs.size=s.heap.objs.size:=by rw [hs₅.1,hs₄.1,hs₃.1,hs₂.1,hs₁.1]
 have hz₅:IsZip h₅ z TI TO .ellipsis:=hs₅.extBut _ _ D.TOz.symm (hs₄.extBut _ _ D.i2z.symm (hs₃.extBut _ _ D.TOz.symm (hs₂.extBut _ _ D.i1z.symm hz₁)))
 have hk₅:∀c o,c≠z->c≠TO->c≠i1->c≠i2->s.heap.get? c=some o->h₅.get? c=some o:=fun c o c1 c2 c3 c4 e=>
  hs₅.extBut _ _ c2 (hs₄.extBut _ _ c4 (hs₃.extBut _ _ c2 (hs₂.extBut _ _ c3 (hs₁.extBut _ _ c1 e))))
 have h1₅:St1 (i+1) h₅:=f1 D.TOi1 (Ne.symm a1.2.1) hs₅ (f1 D.i12.symm (Ne.symm a1.2.2.2) hs₄ (f1 D.TOi1 (Ne.symm a1.2.1) hs₃ h1₂))
 have h2₅:St2 (i+1) h₅:=f2 D.TOi2 (Ne.symm a2.2.1) hs₅ h2₄
 have hzlt:z<h₅.objs.size:=Aa hz₅
 have hTOlt:TO<h₅.objs.size:=Aa hTO₅
 have hi1lt:i1<h₅.objs.size:=by obtain⟨_,e⟩:=(D1 A hh).live _ _ h1₅;exact Aa e
 have hi2lt:i2<h₅.objs.size:=by obtain⟨_,e⟩:=(D2 A hh).live _ _ h2₅;exact Aa e
 show AI _ _ (Builtin.SmallTypes.ownedTupleHandOut (.ref z) (.ref h₅.objs.size)>>=_) _ _ _
 refine AF ?_
 unfold Builtin.SmallTypes.ownedTupleHandOut
 have hz₆:IsZip (h₅.push {cls:= .type "tuple",data:= .seq #[x,y]}) z TI TO .ellipsis:=Ah _ hz₅
 refine AF (wpAny_setField_rec hz₆ (by simp) fun h₇ hz₇ hs₇=> ?_)
 replace hz₇:IsZip h₇ z TI TO (rawInt h₅.objs.size):=hz₇
 refine wpAny_setField_rec hz₇ (by simp) fun h₈ hz₈ hs₈=> ?_
 replace hz₈:IsZip h₈ z TI TO (rawInt h₅.objs.size):=hz₈
 have up:∀c o,c≠z->h₅.get? c=some o->h₈.get? c=some o:=fun c o c1 e=>hs₈.extBut _ _ c1 (hs₇.extBut _ _ c1 (Ah _ e))
 have hT₈:IsPair h₈ h₅.objs.size x y:=hs₈.extBut _ _ (Nat.ne_of_gt hzlt) (hs₇.extBut _ _ (Nat.ne_of_gt hzlt) (Ar _ rfl))
 have hz8:h₈.objs.size=h₅.objs.size+1:=by rw [hs₈.1,hs₇.1,Heap.size_push]
 rw [hsz] at hz₈ hT₈ hz8
 refine AS ⟨_,rfl, ?_⟩
 show Q (.ref h₅.objs.size) _
 rw [hsz]
 refine hQ x y h₈ _ px py hz₈ (up _ _ D.TOz hTO₅) ?_ ?_ hT₈ hz8 fun c o c1 c2 c3 c4 e=>up c o c1 (hk₅ c o c1 c2 c3 c4 e)
 ·refine(D1 A hh).frame _ _ _ h1₅ fun b hb o e=>up b o ?_ e
  have hb:b=i1\/b=l1:=by simpa using hb
  rcases hb with hb|hb
  ·rw [hb];exact D.i1z
  ·rw [hb];exact a1.1
 ·refine(D2 A hh).frame _ _ _ h2₅ fun b hb o e=>up b o ?_ e
  have hb:b=i2\/b=l2:=by simpa using hb
  rcases hb with hb|hb
  ·rw [hb];exact D.i2z
  ·rw [hb];exact a2.1
theorem a6N{Q:PySem.Fin->AC->Prop}(D:ZA z TI TO i1 i2)(D1:∀A',A'.handled=none->Draws prog w A' i1 [i1,l1] n1 P1 St1)(D2:∀A',A'.handled=none->Draws prog w A' i2 [i2,l2] n2 P2 St2)(hh:A.handled=none)(a1:LA z TO i1 i2 l1)(a2:LA z TO i1 i2 l2)
 (hz:IsZip s.heap z TI TO .none) (hTI:IsPair s.heap TI (.ref i1) (.ref i2)) (hTO:IsPair s.heap TO a b) (h1:St1 i s.heap) (h2:St2 i s.heap) (m1:i<=n1) (m2:i<=n2) (hend:i=n1\/i=n2)
 (hE:∀h' e tk,(∀c o,c≠z->c≠TO->c≠i1->c≠i2->s.heap.get? c=some o->h'.get? c=some o)->(∃o,h'.get? e=some o/\o.cls= .type "StopIteration")->E (.ref e) {s with heap:=h',toks:=tk}):
 AI (model prog w) A (Builtin.«zip.__next__» ⟨[.ref z],[]⟩) Q E s:=by
 show AI _ _ (field (.ref z) 2>>=_) _ _ _
 refine AF (wpAny_field hz rfl (x:= .bool false) rfl ?_)
 show AI _ _ (field (.ref z) 3>>=_) _ _ _
 refine AF (wpAny_field hz rfl (x:= .ref TI) rfl ?_)
 refine AF (wpAny_seqItems hTI rfl ?_)
 show AI _ _ (Builtin.SmallTypes.ownedTupleIsFree (.ref z)>>=_) _ _ _
 refine AF ?_
 unfold Builtin.SmallTypes.ownedTupleIsFree
 refine AF (wpAny_field hz rfl (x:= .none) rfl (AS ?_))
 simp only [if_true]
 refine AF (wpAny_rule ?_)
 refine AF (wpAny_field hz rfl (x:= .ref TO) rfl ?_)
 refine AF (wpAny_setField_rec hz (by simp) fun h₁ hz₁ hs₁=> ?_)
 replace hz₁:IsZip h₁ z TI TO .ellipsis:=hz₁
 refine AF ?_
 simp only [List.zipIdx_cons,List.zipIdx_nil,List.forIn_cons,List.forIn_nil]
 have f1:∀{x:AB} {h h':Heap} {i},x≠i1->x≠l1->Heap.SameBut x h h'->St1 i h->St1 i h':=fun n n' k st=>(D1 A hh).frame _ _ _ st fun b hb o e=>by
  have hb:b=i1\/b=l1:=by simpa using hb
  rcases hb with hb|hb
  ·exact k.extBut _ _ (by rw [hb];exact Ne.symm n) e
  ·exact k.extBut _ _ (by rw [hb];exact Ne.symm n') e
 have f2:∀{x:AB} {h h':Heap} {i},x≠i2->x≠l2->Heap.SameBut x h h'->St2 i h->St2 i h':=fun n n' k st=>(D2 A hh).frame _ _ _ st fun b hb o e=>by
  have hb:b=i2\/b=l2:=by simpa using hb
  rcases hb with hb|hb
  ·exact k.extBut _ _ (by rw [hb];exact Ne.symm n) e
  ·exact k.extBut _ _ (by rw [hb];exact Ne.symm n') e
 refine AF (AF (wpAny_onRaise ?_))
 show AI _ _ (Builtin.SmallTypes.nextOf (.ref i1)>>=_) _ _ _
 by_cases hx:i=n1
 ·subst hx
  refine AF ((D1 _ hh).done _ _ _ (f1 D.i1z.symm (Ne.symm a1.1) hs₁ h1) fun h₂ e hs₂ he=> ?_)
  obtain⟨oe,hoe,hce⟩:=he
  have hz₂:IsZip h₂ z TI TO .ellipsis:=hs₂ _ _ D.i1z.symm hz₁
  have hez:e≠z:=fun x=>by subst x;rw [hz₂] at hoe;cases hoe;simp at hce
  exact wpAny_setField_rec hz₂ (by simp) fun h₃ _ hs₃=>hE h₃ e _ (fun c o c1 _ c3 _ x=>hs₃.extBut _ _ c1 (hs₂ _ _ c3 (hs₁.extBut _ _ c1 x))) ⟨oe,hs₃.extBut _ _ hez hoe,hce⟩
 ·have hy:i=n2:=hend.resolve_left hx
  subst hy
  refine AF ((D1 _ hh).item i _ _ _ (Nat.lt_of_le_of_ne m1 hx) (f1 D.i1z.symm (Ne.symm a1.1) hs₁ h1) fun x h₂ tk₂ px h1₂ hs₂=>AS ?_)
  have hTO₂:IsPair h₂ TO a b:=hs₂.extBut _ _ D.TOi1 (hs₁.extBut _ _ D.TOz hTO)
  refine AF (wpAny_seqItems hTO₂ rfl ?_)
  refine AF (wpAny_updateSeq_pair hTO₂ fun h₃ hTO₃ hs₃=> ?_)
  refine AF (wpAny_letGo (AS ?_))
  refine AF (AF (wpAny_onRaise ?_))
  show AI _ _ (Builtin.SmallTypes.nextOf (.ref i2)>>=_) _ _ _
  refine AF ((D2 _ hh).done _ _ _ (f2 D.TOi2 (Ne.symm a2.2.1) hs₃ (f2 D.i12 (Ne.symm a2.2.2.1) hs₂ (f2 D.i2z.symm (Ne.symm a2.1) hs₁ h2))) fun h₄ e hs₄ he=> ?_)
  obtain⟨oe,hoe,hce⟩:=he
  have hz₄:IsZip h₄ z TI TO .ellipsis:=hs₄ _ _ D.i2z.symm (hs₃.extBut _ _ D.TOz.symm (hs₂.extBut _ _ D.i1z.symm hz₁))
  have hez:e≠z:=fun x=>by subst x;rw [hz₄] at hoe;cases hoe;simp at hce
  exact wpAny_setField_rec hz₄ (by simp) fun h₅ _ hs₅=>hE h₅ e _ (fun c o c1 c2 c3 c4 x=>hs₅.extBut _ _ c1 (hs₄ _ _ c4 (hs₃.extBut _ _ c2 (hs₂.extBut _ _ c3 (hs₁.extBut _ _ c1 x))))) ⟨oe,hs₅.extBut _ _ hez hoe,hce⟩
theorem a4A{Q:Option AA->AC->Prop}(D:ZA z TI TO i1 i2)(D1:∀A',A'.handled=none->Draws prog w A' i1 [i1,l1] n1 P1 St1)(D2:∀A',A'.handled=none->Draws prog w A' i2 [i2,l2] n2 P2 St2)(hh:A.handled=none)(a1:LA z TO i1 i2 l1)(a2:LA z TO i1 i2 l2)
 (hz:IsZip s.heap z TI TO .none) (hTI:IsPair s.heap TI (.ref i1) (.ref i2)) (hTO:IsPair s.heap TO a b) (h1:St1 i s.heap) (h2:St2 i s.heap) (m1:i<n1) (m2:i<n2)
 (hQ:∀x y h' tk,P1 i x->P2 i y->IsZip h' z TI TO (rawInt s.heap.objs.size)->IsPair h' TO x y->St1 (i+1) h'->St2 (i+1) h'->IsPair h' s.heap.objs.size x y->h'.objs.size=s.heap.objs.size+1->
  (∀c o,c≠z->c≠TO->c≠i1->c≠i2->s.heap.get? c=some o->h'.get? c=some o)->Q (some (.ref s.heap.objs.size)) {s with heap:=h',toks:=tk}):
 AI (model prog w) A (pyNext (.ref z)) Q E s:=by
 have hT:s.TypeIs (.ref z) "zip":=⟨_,hz,rfl⟩
 unfold pyNext
 exact AF (wpAny_attempt (wpAny_callSpecial?_slot (name:=AE "__next__") hT F.slot_zip_next
  (wpAny_call_entry F.slot_zip_next hT F.entry_zip_next
   (a4F D D1 D2 hh a1 a2 hz hTI hTO h1 h2 m1 m2 fun x y h' tk p1 p2 a1 a2 a3 a4 a5 a6 a7=>AS (hQ x y h' tk p1 p2 a1 a2 a3 a4 a5 a6 a7)) (F.args_zip_next_1 _))))
theorem a5a{Q:Option AA->AC->Prop}(D:ZA z TI TO i1 i2)(D1:∀A',A'.handled=none->Draws prog w A' i1 [i1,l1] n1 P1 St1)(D2:∀A',A'.handled=none->Draws prog w A' i2 [i2,l2] n2 P2 St2)(hh:A.handled=none)(a1:LA z TO i1 i2 l1)(a2:LA z TO i1 i2 l2)
 (hz:IsZip s.heap z TI TO .none) (hTI:IsPair s.heap TI (.ref i1) (.ref i2)) (hTO:IsPair s.heap TO a b) (h1:St1 i s.heap) (h2:St2 i s.heap) (m1:i<=n1) (m2:i<=n2) (hend:i=n1\/i=n2)
 (hQ:∀h' tk,(∀c o,c≠z->c≠TO->c≠i1->c≠i2->s.heap.get? c=some o->h'.get? c=some o)->Q none {s with heap:=h',toks:=tk}):AI (model prog w) A (pyNext (.ref z)) Q E s:=by
 have hT:s.TypeIs (.ref z) "zip":=⟨_,hz,rfl⟩
 unfold pyNext
 refine AF (wpAny_attempt (wpAny_callSpecial?_slot (name:=AE "__next__") hT F.slot_zip_next
  (wpAny_call_entry F.slot_zip_next hT F.entry_zip_next (a6N D D1 D2 hh a1 a2 hz hTI hTO h1 h2 m1 m2 hend fun h' e tk hk he=> ?_) (F.args_zip_next_1 _))))
 obtain⟨o,ho,hc⟩:=he
 refine AF (wpAny_isInstance (T:="StopIteration") (b:=true) ⟨o,ho,hc⟩ isSubtype_stop ?_)
 exact AS (hQ _ _ hk)
end
section
variable {prog:AL}{w:AJ}{A:AK}{E:AA->AC->Prop}{s:AC}
end
theorem n4.turnedTupN{X:Cx}{pins:List (AB×Obj)}{σ:L2.St}{H:Hp}{s:AC}{h':Heap}{t':Nat}{ch:List AB}{xs:List V}(I:n4 X pins σ H s)(f:∀b∈ch,a4g X pins H b)
 (k:∀b o,b∉ch->s.heap.get? b=some o->h'.get? b=some o) (new:O8 X.prog X.w (upd H s.heap.objs.size (.tup xs)) h' s.heap.objs.size (.tup xs)):
 n4 X pins σ (upd H s.heap.objs.size (.tup xs)) {s with heap:=h',toks:=t'}:=by
 have hn:H s.heap.objs.size=none:=I.hok.fresh (AV _)
 have nb:∀b u,H b=some u->b∉ch:=fun b u q z=>by rw [(f b z).1] at q;cases q
 refine I.step (g':=s.gens) (d':=s.drawn) (ch:=ch) (fun b hb=>⟨(f b hb).2.2.2.1,(f b hb).2.1,(f b hb).2.2.2.2.1,(f b hb).2.2.2.2.2⟩) (fun b o _ _ hc q _=>k b o hc q) (fun b o _ _ hc q _=>⟨o.slots,k b o hc q⟩)
  (fun b o _ q n=>by rw [o8 (Ao (Aa q))];exact n) (fun b o hc q=>⟨o,k b o hc q⟩)
  (fun b xs q=>by rw [o8 (p6 q hn)];exact q) (fun b o u q=>by rw [o8 (p6 q hn)];exact q) (fun b ps q=>⟨#[],by rw [o8 (p6 q hn),q];simp⟩) (fun m hm=> ?_) (fun b u q=> ?_) I.bare
 ·obtain⟨o,es,ep,ho,r⟩:=hm
  exact⟨o,es,ep,k _ o (fun z=>(f _ z).2.1 rfl) ho,r⟩
 ·by_cases hb:b=s.heap.objs.size
  ·subst hb
   rw [y4] at q
   cases q
   exact new
  ·rw [o8 hb] at q
   refine(I.hok b u q).stay (fun c v hc y=>k c v ?_ y) (fun c y=>by rw [o8 (p6 y hn)];exact y) fun c ys y=>by rw [o8 (p6 y hn)];exact y
   rcases hc with z|z
   ·rw [z];exact nb b u q
   ·exact nb c _ z
theorem n4.turnedN{X:Cx}{pins:List (AB×Obj)}{σ:L2.St}{H:Hp}{s:AC}{h':Heap}{t':Nat}{ch:List AB}(I:n4 X pins σ H s)(f:∀b∈ch,a4g X pins H b)
 (k:∀b o,b∉ch->s.heap.get? b=some o->h'.get? b=some o):n4 X pins σ H {s with heap:=h',toks:=t'}:=by
 have nb:∀b u,H b=some u->b∉ch:=fun b u q z=>by rw [(f b z).1] at q;cases q
 refine I.step (g':=s.gens) (d':=s.drawn) (ch:=ch) (fun b hb=>⟨(f b hb).2.2.2.1,(f b hb).2.1,(f b hb).2.2.2.2.1,(f b hb).2.2.2.2.2⟩) (fun b o _ _ hc q _=>k b o hc q) (fun b o _ _ hc q _=>⟨o.slots,k b o hc q⟩)
  (fun _ _ _ _ n=>n) (fun b o hc q=>⟨o,k b o hc q⟩) (fun _ _ e=>e) (fun _ _ _ e=>e) (fun b ps e=>⟨#[],by rw [e];simp⟩) (fun m hm=> ?_) (fun b u q=> ?_) I.bare
 ·obtain⟨o,es,ep,ho,r⟩:=hm
  exact⟨o,es,ep,k _ o (fun z=>(f _ z).2.1 rfl) ho,r⟩
 ·refine(I.hok b u q).stay (fun c v hc y=>k c v ?_ y) (fun _ y=>y) fun _ _ y=>y
  rcases hc with z|z
  ·rw [z];exact nb b u q
  ·exact nb c _ z
theorem b26:bootBuiltins "zip"=some (.type "zip"):=by decide+kernel
theorem b8q(n:Nat):ZA (n+4) (n+2) (n+3) n (n+1):=by
 exact⟨(by lia:(n+2:Nat)≠n+4),(by lia:(n+3:Nat)≠n+4),(by lia:(n:Nat)≠n+4),(by lia:(n+1:Nat)≠n+4),(by lia:(n+2:Nat)≠n+3),(by lia:(n+2:Nat)≠n),(by lia:(n+2:Nat)≠n+1),
  (by lia:(n+3:Nat)≠n),(by lia:(n+3:Nat)≠n+1),(by lia:(n:Nat)≠n+1)⟩
section
variable {X:Cx}
end
end ZT
namespace PU
open PySem PySem.Spec PyProof.Rows L2
section
variable {X:Cx}
end
section
variable {X:Cx}
inductive EJ (X:Cx):List AG->List M->Prop where
 |nil:EJ X [] []
 |cons {e:AG} {m:M} {es:List AG} {ms:List M} (h:EE X e m) (t:EJ X es ms):EJ X (e::es) (m::ms)
end
section
variable {X:Cx}{tg:AG}
end
section
variable {X:Cx}
end
def a7f(H:Hp)(b:AB)(xs:List V)(n:Nat):Prop:=∃e:List V,e.length<=n/\H b=some (.lst (xs++e))
theorem a7f.same{H H':Hp}{b:AB}{xs:List V}{n:Nat}(g:a7f H b xs n)(s:u4 H H'):a7f H' b xs n:=let ⟨e,l,h⟩:=g;⟨e,l,s _ _ h⟩
structure Pk(K:AD)(H:Hp)(ah a0 a3 b1 b2 b3:AB)(z0 z3 y1 y2 y3:List V)(J:Hp)(n:Nat):Prop where
 t0:SqT K J a0 z0
 t3:SqT K J a3 z3
 g1:a7f J b1 y1 n
 g2:a7f J b2 y2 n
 g3:a7f J b3 y3 n
 o:∀c u,c≠ah->H c=some u->J c=some u
section
variable {K:AD}{H J J':Hp}{ah a0 a3 b1 b2 b3 c:AB}{z0 z3 y1 y2 y3:List V}{n:Nat}
theorem Pk.same(p:Pk K H ah a0 a3 b1 b2 b3 z0 z3 y1 y2 y3 J n)(s:u4 J J'):Pk K H ah a0 a3 b1 b2 b3 z0 z3 y1 y2 y3 J' n:=
 ⟨D9 s p.t0,D9 s p.t3,p.g1.same s,p.g2.same s,p.g3.same s,fun c u h q=>s _ _ (p.o c u h q)⟩
end
section
variable {X:Cx}
end
section
variable {X:Cx}
end
def Df0(K:AD)(x:Str)(st:Stmt):Prop:=∃f fd,PySem.W.nsIn K mainGlobals x=some (some (.ref f))/\Fun K x x st f fd
def Df(K:AD)(mg:Str->Option AA)(x:Str)(st:Stmt):Prop:=∃f fd,Fun K x x st f fd/\mg x=some (.ref f)
theorem b8B{K:AD}{x:Str}{st:Stmt}{f:AB}{oc:AA}{od an:Option AB}{osl:Array (Option AA)}{kV doc pm cdv ct:AA}(a:PySem.W.nsIn K mainGlobals x=some (some (.ref f)))
 (l:K.lookup f=some ⟨oc,od,.func (PySem.W.fnOf x x (Q3 st) (B7 st) (d6 st) .none kV doc pm an cdv ct),osl⟩) (c:PySem.W.codeIn K cdv x=true) (k:PySem.W.keepIn K (.ref f)=true):Df0 K x st:=⟨_,_,a,b3n l c k⟩
theorem Df0.to{K:AD}{h:Heap}{mg:Str->Option AA}{x:Str}{st:Stmt}(d:Df0 K x st)(X:K.In h)(G:h.Ns mainGlobals mg):Df K mg x st:=let ⟨f,fd,a,F⟩:=d;⟨f,fd,F,PySem.W.mg_of X G a⟩
theorem U7{N P:List Str}{sc:Scope}(h1:sc.kind= .function:=by rfl)(h2:sc.isCoroutine=false:=by rfl)(h3:sc.isGenerator=false:=by rfl)(h4:N.Nodup:=by decide+kernel)(h5:N.take P.length=P:=by rfl)
 (h6:∀x∈P,sc.names.lookup x=some .local\/sc.names.lookup x=some .cell:=by decide+kernel) (h7:∀y∈sc.names,y.2≠.free:=by decide+kernel):j8 N P sc:=⟨h1,h2,h3,h4,h5,h6,h7⟩
section
variable {P:AL}{w:AJ}{K:AD}{mg:Str->Option AA}{base:Heap}
theorem x4{x:Str}{st:Stmt}{N ps:List Str}{k:Nat}{m:MS}(D:Df K mg x st)(S:j8 N ps (d6 st))
 (hi:∀(kV doc pm:AA) (an:Option AB) (cdv ct:AA) (us:List AA),us.length=ps.length->bindArgs (PySem.W.fnOf x x (Q3 st) (B7 st) (d6 st) .none kV doc pm an cdv ct) ⟨us,[]⟩=pure (ps.zip us))
 (hb:∀(f:AB) (cdv:AA) (A:AK) (outer:List Env) (s:AC) (H:Hp) (E:XK),D3 k (A.deeper (envOfC x (d6 st) s.heap.objs.size f cdv))->ESs (a1N CX0 P w K mg base N x (d6 st) f cdv A outer s H E).nox (B7 st) m):
 j7 P w K mg base x ps (k+1) (p7 (N.length - ps.length) m):=
 let ⟨f,fd,F,hm⟩:=D
 ⟨f,fd,b3l F S (hb f),hm,F.kp,F.binds hi⟩
theorem b5x{fa:AB}{st:Stmt}{x:Str}{k:Nat}{g:List PV->Option g6}(D:Df K mg "law" st)(hfa:mg "law"=some (.ref fa))
 (hi:∀(kV doc pm:AA) (an:Option AB) (cdv ct v:AA),bindArgs (PySem.W.fnOf "law" "law" (Q3 st) (B7 st) (d6 st) .none kV doc pm an cdv ct) ⟨[v],[]⟩=pure [(x,v)])
 (main:∀ns:List Int,ns.length<=63->g [.list (ns.map .int)]=some (.val (.bool true)))
 (H:∀(base:Heap) (f:AB) (fd:FuncData),K.In base->Fun K "law" "law" st f fd->M8 P w K mg base CX0 k f fd [x] (spP K 1 g)):
 ∃fd:FuncData,(∀(s:AC) (v:AA),BindsTo s fd ⟨[v],[]⟩ [(x,v)])/\∀base:Heap,K.In base->base.Ns mainGlobals mg->M8 P w K mg base CX0 k fa fd [x] (a9X K):=by
 obtain⟨f,fd,F,hm⟩:=D
 have e:=hfa.symm.trans hm
 cases e
 refine⟨fd,fun s v=> ?_,fun base kb _=>(H base _ fd kb F).imp (b5y main)⟩
 obtain⟨oc,od,kV,doc,pm,an,cdv,ct,osl,rfl,lk,hcd⟩:=F.ex
 exact .of_eq (hi kV doc pm an cdv ct v)
end
theorem el0{C:List AA->Prop}(h:C [])(us:List AA)(e:us.length=0):C us:=List.length_eq_zero_iff.mp e▸h
theorem el1{C:List AA->Prop}(h:∀a,C [a])(us:List AA)(e:us.length=1):C us:=by
 obtain⟨a,rfl⟩:=List.length_eq_one_iff.mp e
 exact h a
theorem elS{n:Nat}{us:List AA}(e:us.length=n+1):∃a t,us=a::t/\t.length=n:=by
 cases us with
 |nil=>cases e
 |cons a t=>exact⟨a,t,rfl,Nat.succ.inj e⟩
theorem el2{C:List AA->Prop}(h:∀a b,C [a,b])(us:List AA)(e:us.length=2):C us:=by
 obtain⟨a,t,rfl,z⟩:=elS e
 exact el1 (C:=fun t=>C (a::t)) (h a) t z
theorem el3{C:List AA->Prop}(h:∀a b c,C [a,b,c])(us:List AA)(e:us.length=3):C us:=by
 obtain⟨a,t,rfl,z⟩:=elS e
 exact el2 (C:=fun t=>C (a::t)) (h a) t z
theorem el4{C:List AA->Prop}(h:∀a b c d,C [a,b,c,d])(us:List AA)(e:us.length=4):C us:=by
 obtain⟨a,t,rfl,z⟩:=elS e
 exact el3 (C:=fun t=>C (a::t)) (h a) t z
section
variable {X:Cx}
theorem B5{st:List Stmt}:ESs X st (fun _=>none):=fun pins s σ H D I h=>by
 obtain⟨F0,H0,F,ρ,fl,so,e,fin⟩:=h
 cases e
def K3(x y z:g6):Option g6:=match x,y,z with
 | .val (.str a),.val (.str b),.val (.int i)=>some (.val (.bool (fromIndex a.length i+b.length<=a.length && Builtin.Str.subAt a b (fromIndex a.length i))))
 |_,_,_=>none
def m3(g:g6->g6->g6->Option g6)(a b c:M):M:=fun ρ=>(a ρ).bind fun x=>(b ρ).bind fun y=>(c ρ).bind fun z=>g x y z
theorem b2r:MtR X "str.startswith" (fun x xs H Q=>∃F y z rx ry rz r,xs=[y,z]/\u4 F H/\O0 X.K F H x rx/\O0 X.K F H y ry/\O0 X.K F H z rz/\K3 rx ry rz=some r/\∀v F' H',A4 X.K F H F' H' v r->Q v H'):=by
 intro pins s σ H x xs v us Q I rx rv h
 obtain⟨F,y,z,ra,rb,rc,r,rfl,s0,h1,h2,h3,h4,k⟩:=h
 cases rv with
 |cons ru rv=>
  cases rv with
  |cons ru2 rv=>
   cases rv
   unfold K3 at h4
   split at h4
   ·rename_i a b i
    cases h4
    cases h1
    cases h2
    cases h3
    obtain⟨t,rfl⟩:=rx
    obtain⟨t2,rfl⟩:=ru
    obtain⟨t3,rfl⟩:=ru2
    exact call_gives PySem.F.slot_str_startswith (typeIs_str _ _ _) PySem.F.entry_str_startswith (PySem.F.args_str_startswith_3 _ _ _) (gives_str_startswith_from a b i t t2 t3) ⟨.bl _,H,I,rfl,k _ F H (A4.here s0 rfl)⟩
   ·cases h4
theorem S2{o e f:AG}{m n l:M}{apos cpos:Pos}(ho:EE X o m)(ha:EE X e n)(hb:EE X f l)
 (hbase:attributeBase o "startswith" X.env (eval o X.env)=eval o X.env:=by rfl)
 (hfew:((backTo cpos (AN [e,f] X.env)).all (fun x=> !x.1)&&(backToKw cpos (keywordEach [] X.env)).all (fun x=>x.1.isSome)
  && decide ([e,f].length+([]:List Keyword).length+(if([]:List Keyword).isEmpty then 0 else 1)<30))=true:=by rfl)
 (hline:(apos.endLine==cpos.line)=true:=by rfl) (hs:AN [e,f] X.env=(false,eval e X.env)::AN [f] X.env:=by rfl) (hs2:AN [f] X.env=(false,eval f X.env)::AN [] X.env:=by rfl) (hplain:(backTo cpos (AN [f] X.env)).any (·.1)=false:=by rfl):
 EE X (.Call (.Attribute o "startswith" apos) [e,f] [] cpos) (m3 K3 m n l):=
 C2 (a9M PySem.F.plainAttrs_str PySem.F.slot_str_startswith PySem.F.type_str_startswith b2r ho (J2 ha (J2 hb Z2 hs2) hs) hbase hfew hline hs hplain) fun σ H Q ⟨F,ρ,r,he,hm,k⟩=>by
  obtain⟨rx,e1,hm⟩:=bind_some hm
  obtain⟨ry,e2,hm⟩:=bind_some hm
  obtain⟨rz,e3,hm⟩:=bind_some hm
  refine⟨F,ρ,rx,he,e1,fun v F1 H1 o1=>⟨?_,⟨F1,ρ,ry,he.ext o1.x,e2,fun u F2 H2 o2=>⟨F2,ρ,rz,(he.ext o1.x).ext o2.x,e3,fun w F3 H3 o3=>⟨F3,u,w,rx,ry,rz,r,rfl,o3.x.fh,(o1.rep.ext o2.x).ext o3.x,o2.rep.ext o3.x,o3.rep,hm,fun z F4 H4 o4=>k z F4 H4 (A4.trans ((o1.x.trans o2.x).trans o3.x) o4)⟩⟩⟩⟩⟩
  unfold K3 at hm
  split at hm
  ·cases o1.rep;rfl
  ·cases hm
end
section
variable {X:Cx}
end
abbrev obV(x:Str)(es:List (PV×PV)):PV:= .dict ((.str x,.bool false)::es)
def a8n(f:Str):List (PV×PV)->Option PV
 |[]=>none
 |(.str g,p)::r=>if f==g then some p else a8n f r
 |_::_=>none
def b8r:List Str->List PV->List (PV×PV)
 |f::fs,q::qs=>(.str f,q)::b8r fs qs
 |_,_=>[]
section
variable {K:AD}{F:Hp}
theorem b1l{f:Str}:∀{es:List (PV×PV)} {fs:List (Str×V)} {p:PV},a1T K F es fs->a8n f es=some p->∃v,fs.lookup f=some v/\M2 K F p v
 |[],_,_,_,h=>by cases h
 |(k,q)::es,_,p,⟨g,v,t,e,z,r,rt⟩,h=>by
  subst e;subst z
  unfold a8n at h
  rw [List.lookup_cons]
  cases hg:f==g with
  |true=>rw [hg] at h;cases h;exact⟨v,rfl,r⟩
  |false=>rw [hg] at h;exact b1l rt h
theorem a9h{f:Str}:∀{es:List (PV×PV)} {fs:List (Str×V)},a1T K F es fs->a8n f es=none->fs.lookup f=none
 |[],_,h,_=>by cases h;rfl
 |(k,q)::es,_,⟨g,v,t,e,z,r,rt⟩,h=>by
  subst e;subst z
  unfold a8n at h
  rw [List.lookup_cons]
  cases hg:f==g with
  |true=>rw [hg] at h;cases h
  |false=>rw [hg] at h;exact a9h rt h
theorem a9R:∀{fs:List Str} {qs:List PV} {vs:List V},p8 K F qs vs->a1T K F (b8r fs qs) (fs.zip vs)
 |[],qs,vs,_=>rfl
 |f::fs,[],vs,h=>by cases h;rfl
 |f::fs,q::qs,vs,⟨v,t,e,r,rt⟩=>by subst e;exact⟨f,v,_,rfl,rfl,r,a9R rt⟩
theorem b6G{x:Str}{es:List (PV×PV)}{v:V}(h:M2 K F (obV x es) v):∃a C dx fs,v= .ref a/\F a=some (.ins C dx fs)/\R8 K x C/\a1T K F es fs:=by
 rcases h with⟨a,ys,_,_,kk,w,t,_,z,_⟩|⟨a,ys,_,_,kk,w,t,_,z,_⟩|⟨y,t,e,h⟩|⟨y,m,fs,ho,hf⟩
 ·cases z
 ·cases z
 ·cases e
  rcases h with⟨z,_⟩|⟨z,_⟩<;>cases z
 ·obtain⟨g,v',t,e,z,r,rt⟩:=hf
  cases e;cases z
  rcases ho with⟨rfl,a,C,dx,e,q,n⟩|⟨rfl,_⟩
  ·exact⟨a,C,dx,fs,e,q,n,rt⟩
  ·cases r
end
theorem b4L{H:Hp}{a:AB}{o:HO}(h:H a=some o):upd H a o=H:=by
 funext b;unfold upd;split
 ·rename_i e;rw [e,h]
 ·rfl
theorem a9Q{f:Str}{v:V}:∀{gs:List (Str×V)},f∉gs.map (·.1)->a2l f v gs=gs++[(f,v)]
 |[],_=>rfl
 |(g,x)::r,h=>by
  simp only [AM,Ak,not_or] at h
  show(if g=f then _ else _)=_
  rw [if_neg fun e=>h.1 e.symm,a9Q h.2];rfl
def tFl(K:AD):Nat->List Str->TS
 |_,[]=>b6K
 |i,f::r=>b9e (b87 K (b02 0) (b02 i) f) (tFl K (i+1) r)
theorem b1N{K:AD}{C:AB}(c:Cls K C){a dx:AB}{D:W2}{σ:L2.St}(h0:σ[0]?=some (some (.ref a))):∀(fs:List Str) (i:Nat) (gs:List (Str×V)) (ws:List V) (H:Hp),
 (∀f∈fs,B6 K C f)->fs.Nodup->(∀f∈fs,f∉gs.map (·.1))->gs.length+fs.length<=1000->ws.length=fs.length->(∀j w,ws[j]?=some w->σ[i+j]?=some (some w))->H a=some (.ins C dx gs)->
 D.nx σ (upd H a (.ins C dx (gs++fs.zip ws)))->tFl K i fs D σ H
 |[],i,gs,ws,H,_,_,_,_,_,_,hH,k=>by
  rw [List.zip_nil_left,Ae,b4L hH] at k
  exact k
 |f::fs,i,gs,ws,H,hn,nd,hd,hl,hw,hs,hH,k=>by
  cases ws with
  |nil=>cases hw
  |cons w ws=>
   have hl':gs.length+(fs.length+1)<=1000:=hl
   refine⟨w,hs 0 w rfl,.ref a,h0,a,C,dx,gs,rfl,hH,c,hn f Ai,by lia, ?_⟩
   have hp:=a9Q (v:=w) (hd f Ai)
   rw [hp]
   rw [List.nodup_cons] at nd
   refine b1N c h0 fs (i+1) (gs++[(f,w)]) ws _ (fun g hg=>hn g (Aj _ hg)) nd.2 (fun g hg=> ?_) (by simp only [AZ,AU,Ag];lia) (Nat.succ.inj hw) (fun j u hj=> ?_) y4 ?_
   ·simp only [List.map_append,AM,AT,Au,List.mem_singleton,not_or]
    exact⟨hd g (Aj _ hg),fun e=>nd.1 (e▸hg)⟩
   ·have:=hs (j+1) u (by simpa using hj)
    rwa [show i+(j+1)=i+1+j by lia] at this
   ·rw [b1Q,List.append_assoc]
    exact k
def spI(C:AB)(fs:List Str):Sp:=fun vs H Q _=>∃a dx ws,vs= .ref a::ws/\ws.length=fs.length/\H a=some (.ins C dx [])/\Q .non (upd H a (.ins C dx (fs.zip ws)))
theorem b7i{P:AL}{w:AJ}{K:AD}{mg:Str->Option AA}{base:Heap}{qual:Str}{st:Stmt}{f C:AB}{fd:FuncData}{ps fs:List Str}{k:Nat}(F:Fun K "__init__" qual st f fd)(S:j8 ps ps (d6 st))(hl:ps.length=fs.length+1)
 (c:Cls K C) (na:∀f∈fs,B6 K C f) (nd:fs.Nodup) (hs:fs.length<=1000)
 (hb:∀(cdv:AA) (A:AK) (outer:List Env) (s:AC) (H:Hp) (E:XK),D3 k (A.deeper (envOfC qual (d6 st) s.heap.objs.size f cdv))->PSs (a1N CX0 P w K mg base ps qual (d6 st) f cdv A outer s H E).nox (B7 st) (tFl K 1 fs)):
 M8 P w K mg base CX0 (k+1) f fd ps (spI C fs):=by
 refine F.ok S (fun vs H Q E h=> ?_) (fun cdv A outer s H vs Q E hr h=> ?_)
 ·obtain⟨a,dx,ws,rfl,h2,_⟩:=h
  rw [AU,h2,hl]
 ·obtain⟨a,dx,ws,rfl,h2,hH,q⟩:=h
  refine⟨_,hb cdv A outer s H E hr, ?_⟩
  refine b1N (σ:=a1M ps (.ref a::ws)) c rfl fs 1 [] ws H na nd (fun _ _ z=>nomatch z) (by simpa using hs) h2 (fun j u hj=> ?_) hH q
  unfold L2.a1M
  rw [Az (by rw [An,AU];have:=(Aw.mp hj).1;lia),Nat.add_comm,AM,List.getElem?_cons_succ,Ax,hj]
  rfl
def B4(P:AL)(w:AJ)(K:AD)(mg:Str->Option AA)(base:Heap)(x:Str)(fs:List Str)(k:Nat):Prop:=
 ∃C f fd ps,Mk K C f/\M8 P w K mg base CX0 k f fd ps (spI C fs)/\mg x=some (.ref C)/\U1 K fd ps []/\R8 K x C
def V4(x:Str)(fs:List Str)(m:MA):M:=fun ρ=>(m ρ).bind fun qs=>some (.val (obV x (b8r fs qs)))
section
variable {X:Cx}
theorem a15{k k':Nat}{fs:List Str}{x:Str}{p pos:Pos}{e:AG}{es:List AG}{m:MA}
 (d:B4 X.prog X.w X.K X.mg X.base x fs k) (hr:D3 k' X.A) (hk:k+1<=k') (hg:Gl X x) (hn:∀ρ qs,m ρ=some qs->qs.length=fs.length) (ha:EA X (e::es) m)
 (hdb:(x==("__debug__":Str))=false:=by decide) (he:AN (e::es) X.env=(false,eval e X.env)::AN es X.env:=by rfl) (hpl:(backTo pos (AN es X.env)).any (·.1)=false:=by rfl):
 EE X (.Call (.Name x p) (e::es) [] pos) (V4 x fs m):=by
 obtain⟨C,f,fd,ps,M,G,hm,hb,nm⟩:=d
 refine C2 (b56 M G (hr.mono hk) hg hm hb .nil b1H ha hdb he hpl) fun σ H Q ⟨F,ρ,r,en,em,kk⟩=> ?_
 obtain⟨qs,e1,e2⟩:=bind_some em
 cases e2
 refine⟨F,ρ,qs,en,e1,fun vs F1 H1 x1 rl=> ?_⟩
 intro y dx hy hdx hne
 refine⟨y,dx,vs,by rw [Ae],by rw [rl.length,hn _ _ e1],y4,rfl, ?_⟩
 rw [b1Q]
 have x2:Ext F1 H1 F1 (upd H1 dx (.own y)):=Ext.layH x1.fh hdx
 have hy2:upd H1 dx (.own y) y=none:=by rw [o8 fun z=>hne z.symm];exact hy
 have x3:Ext F1 (upd H1 dx (.own y)) (upd F1 y (.ins C dx (fs.zip vs))) (upd (upd H1 dx (.own y)) y (.ins C dx (fs.zip vs))):=Ext.lay x2.fh hy2
 refine kk _ _ _ (A4.trans (x1.trans x2) (A4.val x3 ?_))
 refine .inr (.inr (.inr ⟨x,.bl false,fs.zip vs,.inl ⟨rfl,y,C,dx,rfl,y4,nm⟩,x,.bl false,_,rfl,rfl,rfl, ?_⟩))
 exact a1T.mono x3.f _ (a9R rl)
def a73(K:AD)(tab:List Str)(f:Str):Prop:=∀x,tab.contains x=true->∀C,R8 K x C->Cls K C/\B6 K C f
def C5(tab:List Str)(f:Str)(r:g6):Option g6:=match r with
 | .val (.dict ((.str x,.bool false)::es))=>if tab.contains x=true then(a8n f es).map .val else none
 |_=>none
theorem G8{tab:List Str}{f:Str}{e:AG}{m:M}{pos:Pos}(T:a73 X.K tab f)(ha:EE X e m)(hb:attributeBase e f X.env (eval e X.env)=eval e X.env:=by rfl):EE X (.Attribute e f pos) (m1 (C5 tab f) m):=
 C2 (b7T ha hb) fun σ H Q ⟨F,ρ,r,en,em,k⟩=>by
  obtain⟨rx,e1,e2⟩:=bind_some em
  refine⟨F,ρ,rx,en,e1,fun v F1 H1 o=> ?_⟩
  unfold C5 at e2
  split at e2
  ·rename_i x es
   split at e2
   ·rename_i hc
    cases hp:a8n f es with
    |none=>rw [hp] at e2;cases e2
    |some q=>
     rw [hp] at e2;cases e2
     obtain⟨a,C,dx,fs,rfl,ha,nm,hr⟩:=b6G o.rep
     obtain⟨v,hl,rv⟩:=b1l hr hp
     obtain⟨c,n⟩:=T x hc C nm
     exact⟨a,C,dx,fs,v,rfl,o.x.fh _ _ ha,c,n,hl,k v F1 H1 (A4.val o.x rv)⟩
   ·cases e2
  ·cases e2
def a5c(X:Cx)(m:Str)(n k':Nat)(tab:List (Str×(List PV->Option g6))):Prop:=∀x g,tab.lookup x=some g->∀C,R8 X.K x C->∃f fd ps k,Cls X.K C/\b8s X.K C m f/\M8 X.prog X.w X.K X.mg X.base CX0 k f fd ps (spP X.K ps.length g)/\k<=k'/\U1 X.K fd ps []/\ps.length=n+1
def p4(P:AL)(w:AJ)(K:AD)(mg:Str->Option AA)(base:Heap)(f:AB)(ps:List Str)(k:Nat)(g:List PV->Option g6):Prop:=
 ∃fd,M8 P w K mg base CX0 k f fd ps (spP K ps.length g)/\PySem.W.isFn K (.ref f)=true/\PySem.W.keepIn K (.ref f)=true/\U1 K fd ps []
structure KC(K:AD)(x:Str)(C:AB):Prop where
 named:R8 K x C
 cls:Cls K C
theorem D8{m:Str}{n k':Nat}:a5c X m n k' []:=fun _ _ h=>nomatch h
theorem b7{m:Str}{n k k':Nat}{x:Str}{f C:AB}{ps:List Str}{g:List PV->Option g6}{t:List (Str×(List PV->Option g6))}(d:p4 X.prog X.w X.K X.mg X.base f ps k g)(c:KC X.K x C)(h:PySem.W.findIn X.K (.ref C) m=some (some (.ref f)))(hk:k<=k')(hn:ps.length=n+1)(T:a5c X m n k' t):a5c X m n k' ((x,g)::t):=fun y g' q D nm=>by
 rw [List.lookup_cons] at q
 split at q
 ·rename_i z
  cases q
  rw [beq_iff_eq.mp z] at nm
  cases nm.uniq c.named
  obtain⟨fd,G,h1,h2,h3⟩:=d
  exact⟨f,fd,ps,k,c.cls,⟨h,h1,h2⟩,G,hk,h3,hn⟩
 ·exact T y g' q D nm
def P4(tab:List (Str×(List PV->Option g6)))(m:Str)(mo:M)(ma:MA):M:=fun ρ=>(mo ρ).bind fun r=>match r with
 | .val (.dict ((.str x,.bool false)::es))=>if(a8n m es).isNone=true then(tab.lookup x).bind fun g=>(ma ρ).bind fun qs=>g (obV x es::qs) else none
 |_=>none
theorem b5I{tab:List (Str×(List PV->Option g6))}{m:Str}{mo:M}{ma:MA}{ρ:d4}{r:g6}(h:P4 tab m mo ma ρ=some r):∃x es g qs,mo ρ=some (.val (obV x es))/\a8n m es=none/\tab.lookup x=some g/\ma ρ=some qs/\g (obV x es::qs)=some r:=by
 unfold P4 at h
 obtain⟨r1,e1,h⟩:=bind_some h
 split at h
 ·rename_i x es
  split at h
  ·rename_i hn
   obtain⟨g,e2,h⟩:=bind_some h
   obtain⟨qs,e3,h⟩:=bind_some h
   exact⟨x,es,g,qs,e1,Option.isNone_iff_eq_none.mp hn,e2,e3,h⟩
  ·cases h
 ·cases h
theorem Q4{tab:List (Str×(List PV->Option g6))}{m:Str}{k':Nat}{o:AG}{mo:M}{pl:Sem Bool}{apos pos:Pos}(T:a5c X m 0 k' tab)(hr:D3 k' X.A)(ho:EE X o mo)
 (ht:eval (.Call (.Attribute o m apos) [] [] pos) X.env=(do
  let ov<-eval o X.env
  standAt apos.atName
  let (f,first)<-holding [ov] (getMethod ov m pl)
  callWith pos f first (backTo pos (AN [] X.env)) (backToKw pos (keywordEach [] X.env))):=by rfl):
 EE X (.Call (.Attribute o m apos) [] [] pos) (P4 tab m mo g5):=by
 intro pins s σ H Q I ⟨F,ρ,r,env,hm,k⟩
 obtain⟨x,fe,g,qs,e1,e2,e3,e4,e5⟩:=b5I hm
 cases e4
 refine PySem.W.methodCall_KW (pl:=pl) (M3 (ho pins s σ H _ I ⟨F,ρ,_,env,e1,fun v F1 H1 o1=>(⟨F1,o1⟩:∃F1,A4 X.K F H F1 H1 v (.val (obV x fe)))⟩) fun u s1 ⟨v,H1,I1,rx,F1,o1⟩=> ?_) ht
 obtain⟨a,C,dx,fs,rfl,ha',nm,hf⟩:=b6G o1.rep
 obtain rfl:u=Value.ref a:=rx
 obtain⟨f,fd,ps,kk,c,hM,G,hk,hb,hl⟩:=T x g e3 C nm
 refine b0r I1 (o1.x.fh _ _ ha') c hM (a9h hf e2) ?_
 refine PySem.W.callWith_K0 (first:=[.ref a]) I1.kIn hM.kp ?_
 refine b0T (us:=[.ref a]) (vs:=[.ref a]) (dvs:=[]) (ds:=[]) (sp:=spP X.K ps.length g) (E:=E0) G (hr.mono hk) hb .nil b1H I1 (.cons rfl .nil) ?_
 show spP X.K ps.length g ([.ref a]++[]) H1 Q E0
 rw [Ae]
 exact⟨F1,[obV x fe],r,o1.x.fh,⟨.ref a,[],rfl,o1.rep,rfl⟩,by rw [hl];rfl,e5,fun v F3 H3 o=>k v F3 H3 (A4.trans o1.x o)⟩
end
section
variable {P:AL}{w:AJ}{K:AD}{mg:Str->Option AA}{base:Heap}
def Dm(K:AD)(x qual:Str)(st:Stmt)(f:AB):Prop:=PySem.W.isFn K (.ref f)=true/\∃fd,Fun K x qual st f fd
theorem b8C{x qual:Str}{st:Stmt}{f:AB}{oc:AA}{od an:Option AB}{osl:Array (Option AA)}{kV doc pm cdv ct:AA}
 (l:K.lookup f=some ⟨oc,od,.func (PySem.W.fnOf x qual (Q3 st) (B7 st) (d6 st) .none kV doc pm an cdv ct),osl⟩) (c:PySem.W.codeIn K cdv qual=true) (k:PySem.W.keepIn K (.ref f)=true) (i:PySem.W.isFn K (.ref f)=true):Dm K x qual st f:=⟨i,_,b3n l c k⟩
theorem A5{x qual:Str}{st:Stmt}{N ps:List Str}{k:Nat}{m:MS}{f:AB}(D:Dm K x qual st f)(S:j8 N ps (d6 st))
 (hi:∀(kV doc pm:AA) (an:Option AB) (cdv ct:AA) (us:List AA),us.length=ps.length->bindArgs (PySem.W.fnOf x qual (Q3 st) (B7 st) (d6 st) .none kV doc pm an cdv ct) ⟨us,[]⟩=pure (ps.zip us))
 (hb:∀(cdv:AA) (A:AK) (outer:List Env) (s:AC) (H:Hp) (E:XK),D3 k (A.deeper (envOfC qual (d6 st) s.heap.objs.size f cdv))->ESs (a1N CX0 P w K mg base N qual (d6 st) f cdv A outer s H E).nox (B7 st) m):
 p4 P w K mg base f ps (k+1) (p7 (N.length - ps.length) m):=
 let ⟨i,fd,F⟩:=D
 ⟨fd,b3l F S hb,i,F.kp,F.binds hi⟩
theorem U6{x qual:Str}{st:Stmt}{ps fs:List Str}{k:Nat}{f C:AB}(D:Dm K "__init__" qual st f)(S:j8 ps ps (d6 st))(hl:ps.length=fs.length+1)(c:KC K x C)(hm:mg x=some (.ref C))(M:Mk K C f)(na:∀f∈fs,B6 K C f)(nd:fs.Nodup)(hs:fs.length<=1000)
 (hi:∀(kV doc pm:AA) (an:Option AB) (cdv ct:AA) (us:List AA),us.length=ps.length->bindArgs (PySem.W.fnOf "__init__" qual (Q3 st) (B7 st) (d6 st) .none kV doc pm an cdv ct) ⟨us,[]⟩=pure (ps.zip us))
 (hb:∀(cdv:AA) (A:AK) (outer:List Env) (s:AC) (H:Hp) (E:XK),D3 k (A.deeper (envOfC qual (d6 st) s.heap.objs.size f cdv))->PSs (a1N CX0 P w K mg base ps qual (d6 st) f cdv A outer s H E).nox (B7 st) (tFl K 1 fs)):
 B4 P w K mg base x fs (k+1):=
 let ⟨i,fd,F⟩:=D
 ⟨C,f,fd,ps,M,b7i F S hl c.cls na nd hs hb,hm,F.binds hi,c.named⟩
end
theorem w4{K:AD}{f:Str}:a73 K [] f:=fun _ h=>nomatch h
theorem e9{K:AD}{f x:Str}{C:AB}{t:List Str}(c:KC K x C)(n:B6 K C f)(h:a73 K t f):a73 K (x::t) f:=fun y q D nm=>by
 rw [List.contains_cons,Bool.or_eq_true] at q
 rcases q with q|q
 ·rw [beq_iff_eq.mp q] at nm
  cases nm.uniq c.named
  exact⟨c.cls,n⟩
 ·exact h y q D nm
section
variable {X:Cx}
end
def K2(st:Stmt)(j:Nat):Stmt:=match st with
 | .ClassDef _ _ _ body _ _ _ _ _ _ _=>body.getD j st
 |_=>st
end PU
set_option maxHeartbeats 2000000
namespace PU
open PySem PySem.Spec PyProof.Rows L2 PySem.W
section
variable {prog:AL}{w:AJ}{A:AK}{E:AA->AC->Prop}{s:AC}
abbrev kwD(d:AA):List (Str×AA):=[(AE "default",d)]
theorem b2n(a d:AA):argsOk "max" ⟨[a],kwD d⟩:=by unfold argsOk;kernel_rfl
theorem b2o(d:AA):Builtin.Builtins.bindParams "max" ["key","default"] 0 ⟨[],kwD d⟩=pure [none,some d]:=rfl
theorem a5k:(toString "max"++toString ".loop":String)="max.loop":=by decide
theorem b5G{R:Result->AC->Prop}{I:AB}{fp wr:List AB}{n:Nat}{P:Nat->AA->Prop}{St:Nat->Heap->Prop}{d:AA}(bt:Nat->Nat->Bool)(W:Walks prog w A.in1 I fp wr n P St)(cm:CmpOf prog w A.in1 .Gt P bt){B:AB}(nB:B∉fp)(m:Nat):
 ∀(i:Nat) (t:AC) (b:AA) (cc:Nat),i+1+m=n->St (i+1) t.heap->P (argBest bt i) b->t.heap.get? B=some {cls:= .type "list",dict:=none,data:= .seq #[b,b] cc,slots:= #[]}->
  (∀r g z,P (argBest bt (n - 1)) r->(∀c o,c∉wr->c≠B->t.heap.get? c=some o->g.get? c=some o)->R (.ok (.ret r)) {t with heap:=g,toks:=z})->
  codeAny (model prog w) A (.builtin "max.loop" ⟨[.ref I,.none,.ref B],kwD d⟩) R t:=by
 have wB:B∉wr:=fun q=>nB (W.sub _ q)
 induction m with
 |zero=>
  intro i t b cc e st pb oB fin
  refine codeAny_builtin F.entry_max_loop (by
   rw [Around.under_plainId F.plain_max_loop _]
   refine AF (wpAny_seqItems oB rfl (AF (wpAny_tryCatch (W.done t _ _ (by rw [<-e];exact st) fun g z kp=> ?_))))
   refine AF (wpAny_updateSeq (kp B _ wB oB) rfl (AF (wpAny_letGo (AS (fin b _ z (by rw [<-e];exact pb) fun c o c1 c2 q=> ?_)))))
   exact(Heap.get?_update_other _ _ fun y=>c2 y.symm).trans (kp c o c1 q))
 |succ m ih=>
  intro i t b cc e st pb oB fin
  refine codeAny_builtin F.entry_max_loop (by
   rw [Around.under_plainId F.plain_max_loop _]
   refine AF (wpAny_seqItems oB rfl (AF (wpAny_tryCatch (W.item (i+1) t _ _ (by lia) st fun r g z pr st' kp=> ?_))))
   have oB':=kp B _ wB oB
   refine AF (AS ?_)
   refine AF (wpAny_tryCatch (wpAny_holding (AF (cm (i+1) (argBest bt i) r b _ _ _ pr pb (AF (wpAny_holding (wpAny_truthy_bool (AF (wpAny_letGo (AS ?_))))))))))
   cases q:bt (i+1) (argBest bt i) with
   |true=>
    rw [if_pos rfl]
    refine AF (wpAny_updateSeq oB' rfl (AF (wpAny_letGo ?_)))
    rw [a5k]
    refine AS ⟨plainId_quiet F.plain_max_loop _,ih (i+1) _ r _ (by lia) (W.frame _ _ _ st' fun c h o y=>(Heap.get?_update_other _ _ fun x:B=c=>nB (x▸h)).trans y) (by rw [argBest,q];exact pr) (Heap.get?_update_self _ oB' rfl) fun r' g' z' p' kp'=>fin r' g' z' p' fun c o c1 c2 y=>kp' c o c1 c2 ((Heap.get?_update_other _ _ fun x=>c2 x.symm).trans (kp c o c1 y))⟩
   |false=>
    rw [if_neg Aq]
    refine AF (wpAny_letGo ?_)
    rw [a5k]
    exact AS ⟨plainId_quiet F.plain_max_loop _,ih (i+1) _ b cc (by lia) st' (by rw [argBest,q];exact pb) oB' fun r' g' z' p' kp'=>fin r' g' z' p' fun c o c1 c2 y=>kp' c o c1 c2 (kp c o c1 y)⟩)
theorem b2p{l:AB}{xs:Array (Int×Tok)}{d:AA}{Q:AA->AC->Prop}(hh:A.handled=none)(hl:s.heap.IsList l (intItems xs))
 (h0:xs.size=0->∀h' tk,(∀b o,s.heap.get? b=some o->h'.get? b=some o)->Q d {s with heap:=h',toks:=tk})
 (h:0<xs.size->∀v h' tk,(intItems xs)[argBest (fun i j=>decide (numAt xs i>numAt xs j)) (xs.size - 1)]?=some v->(∀b o,s.heap.get? b=some o->h'.get? b=some o)->Q v {s with heap:=h',toks:=tk}):
 AI (model prog w) A (call (.builtin "max") [.ref l] (kwD d)) Q E s:=by
 refine kmb_tree F.kind_max F.plain_max F.entry_max (b2n _ _) ?_
 refine AF (wpAny_of_eq (b2o d) (AF (AS (AF (iter_intList hl fun s₂ e st hfp hlI=> ?_)))))
 subst e
 have W:=Walks.list (prog:=prog) (w:=w) (A:=A.in1) hh _ l hlI (intItems xs)
 refine AF (wpAny_newList ?_ (Nat.zero_le _))
 rw [a5k]
 have hsz:(intItems xs).size=xs.size:=by simp [intItems]
 generalize hs2:({s with heap:=s.heap.push {cls:= .type "list_iterator",data:= .fields #[.ref l,.int 0 0]}}:AC)=t at*
 have hk1:∀b o,s.heap.get? b=some o->t.heap.get? b=some o:=fun b o q=>by rw [<-hs2];exact Ah _ q
 have nB:t.heap.objs.size∉[s.heap.objs.size,l]:=fun q=>Nat.lt_irrefl _ (hfp _ q)
 have oB:(t.heap.push (seqObj "list" #[] 0)).get? t.heap.objs.size=some (seqObj "list" #[] 0):=Ar _ rfl
 have wB:t.heap.objs.size∉[s.heap.objs.size]:=fun q=>nB (Ak.mpr (.inl (List.mem_singleton.mp q)))
 have kept:∀{g:Heap},(∀c o,c∉[s.heap.objs.size]->c≠t.heap.objs.size->(t.heap.push (seqObj "list" #[] 0)).get? c=some o->g.get? c=some o)->∀b o,s.heap.get? b=some o->g.get? b=some o:=fun {g} y b o q=>
  y b o (fun z=>absurd (List.mem_singleton.mp z▸Aa q) (Nat.lt_irrefl _)) (Ao (Aa (hk1 b o q))) (Ah _ (hk1 b o q))
 have st1:=W.frame _ _ (t.heap.push (seqObj "list" #[] 0)) st fun b _ o q=>Ah _ q
 refine AS ⟨plainId_quiet F.plain_max_loop _,codeAny_builtin F.entry_max_loop ?_⟩
 rw [Around.under_plainId F.plain_max_loop _]
 refine AF (wpAny_seqItems oB rfl ?_)
 by_cases hn:xs.size=0
 ·refine AF (wpAny_tryCatch (W.done _ _ _ (by rw [hsz,hn];exact st1) fun g z kp=> ?_))
  refine AF (wpAny_rule (AS ?_))
  have:=h0 hn g z (kept fun c o c1 c2 q=>kp c o c1 q)
  rw [<-hs2]
  exact this
 ·refine AF (wpAny_tryCatch (W.item 0 _ _ _ (by rw [hsz];lia) st1 fun r g z pr st' kp=> ?_))
  have oB':=kp _ _ wB oB
  refine AF (AS ?_)
  refine AF (wpAny_updateSeq oB' rfl ?_)
  rw [a5k]
  refine AS ⟨plainId_quiet F.plain_max_loop _,b5G _ W (CmpOf.ints_gt (numAt xs) (fun _ _=>intItems_at)) nB (xs.size - 1) 0 _ r _ (by rw [hsz];lia) (W.frame _ _ _ st' fun c hc o y=>(Heap.get?_update_other _ _ fun x:t.heap.objs.size=c=>nB (x▸hc)).trans y) pr (Heap.get?_update_self _ oB' rfl) fun r' g' z' p' kp'=> ?_⟩
  have:=h (by lia) r' g' z' (by rw [hsz] at p';exact p') (kept fun c o c1 c2 q=>kp' c o c1 c2 ((Heap.get?_update_other _ _ fun x=>c2 x.symm).trans (kp c o c1 q)))
  rw [<-hs2]
  exact this
end
section
variable {X:Cx}
def a7v(x:g6):Option g6:=match x with
 | .ow (.lst ps)=>(a20 ps).bind fun is=>if is.length<=1000 then some (.val (.int (if is.length=0 then 0 else a3G is))) else none
 |_=>none
theorem b49{e:AG}{m:M}{p cp kp pos:Pos}{j:Nat}(hc:X.calm=true)(hg:Gl X "max")(hm:X.mg "max"=none)(ha:EE X e m)(hv:bootBuiltins "max"=some (.builtin "max"):=by rfl)
 (he:AN [e] X.env=(false,eval e X.env)::AN [] X.env:=by rfl) (he2:backTo pos (AN [e] X.env)=(false,eval e X.env)::backTo pos (AN [] X.env):=by rfl)
 (hp:(backTo pos (AN [e] X.env)).any (·.1)=false:=by rfl):
 EE X (.Call (.Name "max" p) [e] [⟨some "default",.Constant (.int 0) j cp,kp⟩] pos) (m1 a7v m):=by
 intro pins s σ H Q I ⟨F,ρ,r,en,em,k⟩
 obtain⟨rx,e1,e2⟩:=bind_some em
 unfold a7v at e2
 split at e2
 ·rename_i ps
  obtain⟨is,e3,e2⟩:=bind_some e2
  split at e2
  ·rename_i hz
   cases e2
   refine wpAny_Call_Name_kw (a5V I hg hm hv ?_ (by decide) (by decide))
   refine callWith_kw (M3 ((J2 ha Z2 he) pos pins s σ H (fun vs H1=>∃v F1,vs=[v]/\A4 X.K F H F1 H1 v (.own ps)) I ⟨F,ρ,_,en,e1,fun v F1 H1 o=>⟨v,F1,rfl,o⟩⟩) fun us s1 ⟨vs,H1,I1,rv,v,F1,ev,o⟩=> ?_) he2 hp rfl rfl
   subst ev
   obtain⟨u,rfl,ru⟩:=a3e rv
   refine M3 ((b57 (b4a (i:=0)) b71) pos pins s1 σ H1 (fun ws H2=>ws=[.int 0]/\H2=H1) I1 ⟨rfl,rfl⟩) fun us2 s2 ⟨ws,H2,I2,rw2,ew,eH⟩=> ?_
   subst ew;subst eH
   obtain⟨u2,rfl,ru2⟩:=a3e rw2
   obtain⟨t2,rfl⟩:=ru2
   obtain⟨a,ys,rfl,fa,ha',rl⟩:=o.rep
   cases ru
   have ey:=a5R e3 rl
   subst ey
   obtain⟨_,its,n,vv,ea⟩:=(show O8 X.prog X.w H2 s2.heap a (.lst (is.map V.int)) from I2.hok a _ ha')
   obtain⟨zs,hz1,hz2⟩:=a6M vv
   have hit:its.toArray=intItems zs.toArray:=by rw [hz2];simp [intItems]
   have hat:∀i,numAt zs.toArray i=is.getD i 0:=fun i=>by
    unfold numAt
    rw [<-hz1,List.getD_eq_getElem?_getD,Ax]
    simp
   have hlen:zs.length=is.length:=by rw [<-hz1,An]
   refine b2p (l:=a) (xs:=zs.toArray) (I2.ok.hd hc) ⟨_,ea,rfl,n,by rw [hit]⟩ (fun h0 h' tk hk=> ?_) (fun h0 v h' tk hv hk=> ?_)
   ·have hi0:is.length=0:=by rw [<-hlen];simpa using h0
    refine⟨.int 0,H2,I2.kept (t':=tk) hk,⟨t2,rfl⟩, ?_⟩
    have:=k (.int 0) F1 H2 (A4.trans o.x (A4.here o.x.fh (by rw [if_pos hi0];rfl)))
    exact this
   ·have hi0:¬is.length=0:=by rw [<-hlen];have:=h0;simp at this;lia
    obtain⟨t,rfl⟩:=intItems_at hv
    have hb:numAt zs.toArray (argBest (fun i j=>decide (numAt zs.toArray i>numAt zs.toArray j)) (zs.toArray.size - 1))=a3G is:=by
     unfold a3G
     rw [hat,show zs.toArray.size=is.length by simp [hlen]]
     congr 2
     funext i j
     rw [hat,hat]
    rw [hb]
    exact⟨.int (a3G is),H2,I2.kept (t':=tk) hk,⟨t,rfl⟩,k _ F1 H2 (A4.trans o.x (A4.here o.x.fh (by rw [if_neg hi0];rfl)))⟩
  ·cases e2
 ·cases e2
end
section
variable {X:Cx}
def b1k(a b:Str)(i:Int):Int:=match Builtin.Str.occurrences a b (fromIndex a.length i) a.length 1 with
 |k::_=>(k:Int)
 |[]=> -1
def a7u(x y z:g6):Option g6:=match x,y,z with
 | .val (.str a),.val (.str b),.val (.int i)=>some (.val (.int (b1k a b i)))
 |_,_,_=>none
theorem b5K:MtR X "str.find" (fun x xs H Q=>∃F y z rx ry rz r,xs=[y,z]/\u4 F H/\O0 X.K F H x rx/\O0 X.K F H y ry/\O0 X.K F H z rz/\a7u rx ry rz=some r/\∀v F' H',A4 X.K F H F' H' v r->Q v H'):=by
 intro pins s σ H x xs v us Q I rx rv h
 obtain⟨F,y,z,ra,rb,rc,r,rfl,s0,h1,h2,h3,h4,k⟩:=h
 cases rv with
 |cons ru rv=>
  cases rv with
  |cons ru2 rv=>
   cases rv
   unfold a7u at h4
   split at h4
   ·rename_i a b i
    cases h4
    cases h1
    cases h2
    cases h3
    obtain⟨t,rfl⟩:=rx
    obtain⟨t2,rfl⟩:=ru
    obtain⟨t3,rfl⟩:=ru2
    exact call_gives PySem.F.slot_str_find (typeIs_str _ _ _) PySem.F.entry_str_find (PySem.F.args_str_find_3 _ _ _) (gives_str_find_from a b i t t2 t3) ⟨.int _,H,I.tok _,⟨_,rfl⟩,k _ F H (A4.here s0 rfl)⟩
   ·cases h4
theorem b48{o e f:AG}{m n l:M}{apos cpos:Pos}(ho:EE X o m)(ha:EE X e n)(hb:EE X f l)
 (hbase:attributeBase o "find" X.env (eval o X.env)=eval o X.env:=by rfl)
 (hfew:((backTo cpos (AN [e,f] X.env)).all (fun x=> !x.1)&&(backToKw cpos (keywordEach [] X.env)).all (fun x=>x.1.isSome)
  && decide ([e,f].length+([]:List Keyword).length+(if([]:List Keyword).isEmpty then 0 else 1)<30))=true:=by rfl)
 (hline:(apos.endLine==cpos.line)=true:=by rfl) (hs:AN [e,f] X.env=(false,eval e X.env)::AN [f] X.env:=by rfl) (hs2:AN [f] X.env=(false,eval f X.env)::AN [] X.env:=by rfl) (hplain:(backTo cpos (AN [f] X.env)).any (·.1)=false:=by rfl):
 EE X (.Call (.Attribute o "find" apos) [e,f] [] cpos) (m3 a7u m n l):=
 C2 (a9M PySem.F.plainAttrs_str PySem.F.slot_str_find PySem.F.type_str_find b5K ho (J2 ha (J2 hb Z2 hs2) hs) hbase hfew hline hs hplain) fun σ H Q ⟨F,ρ,r,he,hm,k⟩=>by
  obtain⟨rx,e1,hm⟩:=bind_some hm
  obtain⟨ry,e2,hm⟩:=bind_some hm
  obtain⟨rz,e3,hm⟩:=bind_some hm
  refine⟨F,ρ,rx,he,e1,fun v F1 H1 o1=>⟨?_,⟨F1,ρ,ry,he.ext o1.x,e2,fun u F2 H2 o2=>⟨F2,ρ,rz,(he.ext o1.x).ext o2.x,e3,fun w F3 H3 o3=>⟨F3,u,w,rx,ry,rz,r,rfl,o3.x.fh,(o1.rep.ext o2.x).ext o3.x,o2.rep.ext o3.x,o3.rep,hm,fun z F4 H4 o4=>k z F4 H4 (A4.trans ((o1.x.trans o2.x).trans o3.x) o4)⟩⟩⟩⟩⟩
  unfold a7u at hm
  split at hm
  ·cases o1.rep;rfl
  ·cases hm
end
section
variable {P:AL}{w:AJ}{K:AD}{mg:Str->Option AA}{base:Heap}
theorem b5g{x:Str}{st:Stmt}{N ps:List Str}{k:Nat}{m:MX}(D:Df K mg x st)(S:j8 N ps (d6 st))
 (hi:∀(kV doc pm:AA) (an:Option AB) (cdv ct:AA) (us:List AA),us.length=ps.length->bindArgs (PySem.W.fnOf x x (Q3 st) (B7 st) (d6 st) .none kV doc pm an cdv ct) ⟨us,[]⟩=pure (ps.zip us))
 (hb:∀(f:AB) (cdv:AA) (A:AK) (outer:List Env) (s:AC) (H:Hp) (E:XK),D3 k (A.deeper (envOfC x (d6 st) s.heap.objs.size f cdv))->a04 (CX1 P w) (a1N (CX1 P w) P w K mg base N x (d6 st) f cdv A outer s H E) (fun _=>E)->EXs (a1N (CX1 P w) P w K mg base N x (d6 st) f cdv A outer s H E) (fun _=>E) (B7 st) m):
 a95 P w K mg base x ps (k+1) (b4u (N.length - ps.length) m):=
 let ⟨f,fd,F,hm⟩:=D
 ⟨f,fd,b7h F S fun cdv A outer s H E hr=>hb f cdv A outer s H E hr fun pins σ H s e s' I h=>b0v pins σ H s e s' I h,hm,F.kp,F.binds hi⟩
end
theorem b9j{l:PySem.W.OpenLaw}{q:AL}{loose:List Str}{XP:(Str->Option AA)->Heap->Prop}{YP:AJ->Heap->Prop}{d:DefRec}{K:Params->AD}{x:Str}{k:Nat}(hk:k<=200)(hn:l.most=some 63)(hdf:d.params.defaults=[])
 (hY:∀(w:AJ) (h:Heap),YP w h->(K w.params).In h)
 (F:∀(w:AJ) (mg:Str->Option AA) (fa:AB) (h:Heap),(K w.params).In h->h.Ns mainGlobals mg->mg d.name=some (.ref fa)->
  ∃fd:FuncData,(∀(s:AC) (u:AA),BindsTo s fd ⟨[u],[]⟩ [(x,u)])/\∀base:Heap,(K w.params).In base->base.Ns mainGlobals mg->M8 l.prog w (K w.params) mg base CX0 k fa fd [x] (a9X (K w.params))):
 PySem.W.WalkO q loose XP YP l.row.toRowW d [] (fun f vs=>PySem.call f vs):=
 L2.b6w (n:=63) (k:=200) (x:=x) (CX:=fun _=>CX0) (sp:=fun w=>a9X (K w.params)) hn (by decide) hdf ⟨rfl,by decide,by decide⟩ hY (fun w mg fa h a b c=>let ⟨fd,h1,h2⟩:=F w mg fa h a b c;⟨fd,h1,fun base x y=>(h2 base x y).mono hk⟩) (fun _ _ a ns hl _ hS=>⟨a,ns,rfl,hS,hl,fun _=>rfl⟩) fun _ _ _ _ _ z=>z
theorem a4N{K:AD}{x:Str}{C:AB}(e:PySem.W.nsIn K mainGlobals x=some (some (.ref C)))(q:S6 K C x=true)(o1:PySem.W.plainGet K C Str.empty=true)(o2:PySem.W.hasDictIn K C=true)(o3:PySem.W.plainOver K C=true)
 (o4:PySem.W.findIn K (.ref C) "__setattr__"=some (some (.builtin "object.__setattr__"))):KC K x C:=by
 refine⟨⟨e, ?_⟩,o1,o2,o3,o4⟩
 unfold S6 at q
 split at q
 ·rename_i oc od cd sl hk
  exact⟨oc,od,cd,sl,hk,beq_iff_eq.mp q⟩
 ·cases q
open PySem PySem.Spec PyProof.Rows L2
theorem C0{P:Str->Prop}{x:Str}{l:List Str}(h:P x)(t:∀y∈l,P y):∀y∈x::l,P y:=fun y hy=>(Ak.mp hy).elim (fun e=>e▸h) (t y)
end PU
set_option maxHeartbeats 1000000
namespace PU
open PySem PySem.Spec PyProof.Rows L2
def S(l:List Nat):Str:=⟨l.toArray⟩
theorem b6x(z:Str):S z.cps.toList=z:=by cases z;simp [S]
theorem b8t(a b:List Nat):S a++S b=S (a++b):=by
 show Str.append (S a) (S b)=_
 simp [Str.append,S]
theorem R9(a:List Nat):(S a).length=a.length:=by simp [S,Str.length]
theorem a0N(a:List Nat):(S a).cps.toList=a:=by simp [S]
theorem b2Z{a b:List Nat}(h:S a=S b):a=b:=by
 have:=congrArg (fun z:Str=>z.cps.toList) h
 simpa [S] using this
theorem b8u(a b:List Nat):(S a==S b)=(a==b):=by
 rw [Bool.eq_iff_iff]
 simp only [beq_iff_eq]
 exact⟨b2Z,fun h=>by rw [h]⟩
def A6(sep:List Nat):List (List Nat)->List Nat
 |[]=>[]
 |[x]=>x
 |x::y::r=>x++sep++A6 sep (y::r)
theorem a7w(sep:List Nat):∀(ls:List (List Nat)) (acc:List Nat),(ls.foldl (fun a p=>a++sep++p) acc)=if ls=[] then acc else acc++sep++A6 sep ls
 |[],acc=>rfl
 |[x],acc=>by simp [A6]
 |x::y::r,acc=>by
  rw [List.foldl_cons,a7w sep (y::r)]
  simp [A6]
theorem b1n(sep:List Nat):∀(ls:List (List Nat)) (acc:List Nat),(ls.map S).foldl (fun a (p:Str)=>a++(S sep).cps++p.cps) acc.toArray=(ls.foldl (fun a p=>a++sep++p) acc).toArray
 |[],acc=>rfl
 |x::r,acc=>by
  rw [AM,List.foldl_cons,List.foldl_cons]
  have:acc.toArray++(S sep).cps++(S x).cps=(acc++sep++x).toArray:=by simp [S]
  rw [this]
  exact b1n sep r (acc++sep++x)
theorem b3D(sep:List Nat)(ls:List (List Nat)):Txt.join (S sep) (ls.map S)=S (A6 sep ls):=by
 unfold Txt.join Builtin.Str.glued
 cases ls with
 |nil=>rfl
 |cons x r=>
  show(⟨((r.map S).foldl (fun acc (p:Str)=>acc++(S sep).cps++p.cps) (S x).cps)⟩:Str)=_
  rw [show(S x).cps=x.toArray from rfl,b1n,a7w]
  cases r with
  |nil=>rfl
  |cons y r=>rw [if_neg (by simp)];simp [S,A6]
theorem b61{α:Type}{xs:List α}{i:Int}(h:0<=i):L2.atI xs i=xs[i.toNat]?:=by
 unfold L2.atI L2.ixN
 rw [if_pos h]
 by_cases c:i<xs.length
 ·rw [if_pos c];rfl
 ·rw [if_neg c]
  have:xs.length<=i.toNat:=by lia
  rw [List.getElem?_eq_none_iff.mpr this];rfl
theorem b23{α:Type}{xs:List α}{k:Nat}:L2.atI xs (k:Int)=xs[k]?:=by
 rw [b61 (by lia)];simp
theorem b8J{l:List Nat}{i:Int}{c:Nat}(hl:l.length<=16777216)(h:L2.atI l i=some c):J4 (.val (.str (S l))) (.val (.int i))=some (.val (.str (S [c]))):=by
 have hs:(S l).length<=AO:=by rw [R9,sizeLine_eq];exact hl
 unfold J4
 simp only [g6.rd,a0N,h,Af,if_pos hs]
 rfl
theorem b7j{l k:List Nat}(h:l.length+k.length<=16777216):p3 (.val (.str (S l))) (.val (.str (S k)))=some (.val (.str (S (l++k)))):=by
 rw [b3o (by rw [R9,R9,sizeLine_eq];exact h),b8t]
theorem b5l{i j:Int}(h: -18446744073709551616<i/\i<18446744073709551616):a3R (.val (.int i)) (.val (.int j))=some (.val (.int (i*j))):=b7l h
theorem b5m{i j:Int}(h: -18446744073709551616<j/\j<18446744073709551616):a3R (.val (.int i)) (.val (.int j))=some (.val (.int (i*j))):=b7m h
theorem a17(i j:Int):a60 (.val (.int i)) (.val (.int j))=some (.val (.bool (decide (i<j)))):=Eq.trans rfl rfl
theorem E3(i j:Int):S3 (.val (.int i)) (.val (.int j))=some (.val (.bool (decide (i<=j)))):=Eq.trans rfl rfl
theorem b3s(a b:List Nat):S3 (.val (.str (S a))) (.val (.str (S b)))=some (.val (.bool (!decide (b<a)))):=by
 show some (g6.val (.bool (!decide ((S b).cps.toList<(S a).cps.toList))))=_
 rw [a0N,a0N]
theorem b5k{l:List Nat}{k:Int}(h:(0<=k/\k<=1000)/\l.length<=1000):a3R (.val (.str (S l))) (.val (.int k))=some (.val (.str (S (AR k.toNat l).flatten))):=by
 have hm:(l.length:Int)*k<=1000*1000:=Int.mul_le_mul (by lia) (by lia) (by lia) (by lia)
 show(if okC (fun k n=>0<=k/\k<=1000000/\n*k<=16777216) k (S l).length=true then some (g6.val (.str ⟨(AR k.toNat (S l).cps.toList).flatten.toArray⟩)) else none)=_
 rw [if_pos (a0j.mpr ⟨by lia,by lia,by rw [R9];lia⟩),a0N]
 rfl
theorem a5g{i j:Int}(h: -18446744073709551616<i/\i<18446744073709551616):D6 (.val (.int i)) (.val (.int j))=some (.val (.int (i*j))):=(show _=a3R (.val (.int i)) (.val (.int j)) from rfl).trans (b5l h)
theorem b1q{i j:Int}(h: -18446744073709551616<j/\j<18446744073709551616):D6 (.val (.int i)) (.val (.int j))=some (.val (.int (i*j))):=(show _=a3R (.val (.int i)) (.val (.int j)) from rfl).trans (b5m h)
theorem b1p{l:List Nat}{k:Int}(h:(0<=k/\k<=1000)/\l.length<=1000):D6 (.val (.str (S l))) (.val (.int k))=some (.val (.str (S (AR k.toNat l).flatten))):=(show _=a3R (.val (.str (S l))) (.val (.int k)) from rfl).trans (b5k h)
theorem a3j(bs:List Bool):b19 (.own (bs.map .bool))=some (.val (.bool (bs.all id))):=by
 show(P9 _).map _=_
 rw [a4K];rfl
theorem b3K{m:M}{ρ:d4}{l:List Nat}(h:m ρ=some (.val (.str (S l)))):a5Y m ρ=some (l.map fun c=> .str (S [c])):=by
 unfold a5Y
 rw [h,AH]
 show some ((S l).cps.toList.map _)=_
 rw [a0N]
 rfl
def chK(g':g6->g6->Option g6)(mc:M)(ρ:d4)(y z:g6):Option g6:=(a8M z).bind fun b=>if b=true then(mc ρ).bind fun w=>g' y w else some (.val (.bool false))
theorem k4(g g':g6->g6->Option g6)(ma mb mc:M)(ρ:d4):O4 g g' ma mb mc ρ=(ma ρ).bind fun x=>(mb ρ).bind fun y=>(g x y).bind (chK g' mc ρ y):=Eq.trans rfl rfl
theorem U2(g':g6->g6->Option g6)(mc:M)(ρ:d4)(y:g6):chK g' mc ρ y (.val (.bool true))=(mc ρ).bind fun w=>g' y w:=Eq.trans rfl rfl
theorem a7o(g':g6->g6->Option g6)(mc:M)(ρ:d4)(y:g6):chK g' mc ρ y (.val (.bool false))=some (.val (.bool false)):=Eq.trans rfl rfl
abbrev row(l:List Nat):PV:= .str (S l)
def b9O(rows:List (List Nat)):PV:= .tuple (rows.map row)
theorem a8k(a b:List Nat):PyData.eqv (row a) (row b)=(a==b):=by
 show PyData.eqv (.str (S a)) (.str (S b))=_
 rw [show PyData.eqv (.str (S a)) (.str (S b))=(S a==S b) by simp only [PyData.eqv],b8u]
theorem a9e(a:List Nat)(n:Nat):A7 (row a) n=true:=by cases n<;>rfl
theorem a9i{body:MS}{tg:PV->d4->Option d4}{I:Nat->d4->Prop}:∀{ps:List PV} {ρ:d4} (k:Nat),(∀(i:Nat) p,ps[i]?=some p->∀ρ,I (k+i) ρ->∃ρ1 ρ2,tg p ρ=some ρ1/\(body ρ1=some (.nx ρ2)\/body ρ1=some (.ct ρ2))/\I (k+i+1) ρ2)->I k ρ->∃ρ',a42 body tg ps ρ=some (.nx ρ')/\I (k+ps.length) ρ'
 |[],ρ,k,_,h=>⟨ρ,rfl,h⟩
 |p::ps,ρ,k,s,h=>by
  obtain⟨ρ1,ρ2,h1,h2,h3⟩:=s 0 p rfl ρ h
  obtain⟨ρ',h4,h5⟩:=a9i (ps:=ps) (ρ:=ρ2) (k+1) (fun i q hq ρ hi=>by
   have e:k+1+i=k+(i+1):=by lia
   rw [e] at hi ⊢
   exact s (i+1) q (by simpa using hq) ρ hi) h3
  refine⟨ρ', ?_,by rw [AU];have e:k+(ps.length+1)=k+1+ps.length:=by lia
                   rw [e];exact h5⟩
  unfold a42
  rw [h1]
  show(body ρ1).bind _=_
  rcases h2 with h2|h2<;>rw [h2]<;>exact h4
theorem a2G{body:MS}{tg:PV->d4->Option d4}(I:Nat->d4->Prop){ps:List PV}{ρ:d4}(s:∀(i:Nat) p,ps[i]?=some p->∀ρ,I i ρ->∃ρ1 ρ2,tg p ρ=some ρ1/\(body ρ1=some (.nx ρ2)\/body ρ1=some (.ct ρ2))/\I (i+1) ρ2)(h:I 0 ρ):∃ρ',a42 body tg ps ρ=some (.nx ρ')/\I ps.length ρ':=by
 obtain⟨ρ',a,b⟩:=a9i (I:=I) 0 (fun i p hp ρ hi=>by rw [Nat.zero_add] at hi ⊢;exact s i p hp ρ hi) h
 rw [Nat.zero_add] at b
 exact⟨ρ',a,b⟩
theorem a5o{body:MS}{tg:PV->d4->Option d4}{I:d4->Prop}{p:PV}{ρ ρ1 ρ2:d4}(h1:tg p ρ=some ρ1)(h2:body ρ1=some (.nx ρ2))(h3:I ρ2):∃ρ1 ρ2,tg p ρ=some ρ1/\(body ρ1=some (.nx ρ2)\/body ρ1=some (.ct ρ2))/\I ρ2:=⟨ρ1,ρ2,h1,.inl h2,h3⟩
theorem b6h(n:Nat):a5b 0 (n:Int)=(Al n).map fun k=> .int (k:Nat):=by
 unfold a5b
 have e:((n:Int) - 0).toNat=n:=by lia
 rw [e]
 exact List.map_congr_left fun k _=>by simp
theorem b2k(k:Nat)(it:MI)(tg:PV->d4->Option d4)(c:MT)(elt:M)(ρ:d4):V9 k it tg c elt ρ=(it ρ).bind fun ps=>if ps.length<=AO then(a4M c elt tg (ρ++AR k none) ps).bind fun r=>some (.own r) else none:=Eq.trans rfl rfl
theorem a7q{α:Type}{ι f:α->PV}{elt:M}{tg:PV->d4->Option d4}{ρ:d4}:∀{xs:List α},(∀x∈xs,∃ρ1,tg (ι x) ρ=some ρ1/\(elt ρ1).bind g6.toVal=some (f x))->a4M Z0 elt tg ρ (xs.map ι)=some (xs.map f)
 |[],_=>rfl
 |x::xs,h=>by
  obtain⟨ρ1,h1,h2⟩:=h x Ai
  rw [AM,AM]
  unfold a4M
  rw [h1,AH]
  show((elt ρ1).bind g6.toVal).bind _=_
  rw [h2,AH,a7q fun y hy=>h y (Aj _ hy),AH]
theorem a0Y{α:Type}{ι f:α->PV}{k:Nat}{it:MI}{elt:M}{tg:PV->d4->Option d4}{ρ:d4}(xs:List α)(h1:it ρ=some (xs.map ι))(h2:xs.length<=16777216)
 (h:∀x∈xs,∃ρ1,tg (ι x) (ρ++AR k none)=some ρ1/\(elt ρ1).bind g6.toVal=some (f x)):V9 k it tg Z0 elt ρ=some (.own (xs.map f)):=by
 rw [b2k,h1,AH,if_pos (by rw [An,sizeLine_eq];exact h2),a7q h,AH]
theorem a9z(m:M)(ρ:d4):F8 m ρ=(m ρ).bind fun r=>PyData.items? r.rd:=Eq.trans rfl rfl
theorem E5(m:M)(lo hi:MO)(ρ:d4):a2f m lo hi ρ=(m ρ).bind fun r=>(lo ρ).bind fun l=>(hi ρ).bind fun h=>gSl r l h:=Eq.trans rfl rfl
theorem E6(m:M)(ρ:d4):Q8 m ρ=(m ρ).bind b1x:=Eq.trans rfl rfl
theorem T6(i:Int):b1x (.val (.int i))=some (some i):=Eq.trans rfl rfl
theorem a4R{m:M}{ρ:d4}{r:g6}{ps:List PV}(h:m ρ=some r)(h2:PyData.items? r.rd=some ps):F8 m ρ=some ps:=by
 unfold F8
 rw [h,AH,h2]
theorem a4v{m:M}{ρ:d4}{n:Nat}(h:m ρ=some (.val (.int n)))(hn:n<4611686018427387904):a4S (a8 m g5) ρ=some ((Al n).map fun k=> .int (k:Nat)):=by
 have e:a8 m g5 ρ=some [.int n]:=by rw [d5,h];rfl
 rw [b2l,e,AH,b6g (j:=(n:Int)) ⟨by lia,by lia⟩,b6h]
theorem a5L{sep:List Nat}{rows:List (List Nat)}{y:g6}(h:PyData.items? y.rd=some (rows.map row))(hl:(rows.map (·.length)).sum+rows.length*sep.length<=16777216):a3P (.val (.str (S sep))) y=some (.val (row (A6 sep rows))):=by
 have e1:a1D (rows.map row)=some (rows.map S):=by
  have:rows.map row=(rows.map S).map PyData.str:=by rw [BA];rfl
  rw [this,a6J]
 have e2:((rows.map S).map (·.length))=rows.map (·.length):=by rw [BA];exact List.map_congr_left fun a _=>R9 a
 unfold a3P
 simp only [h,e1,AH,e2,An,R9,if_pos hl,b3D]
theorem b0o(ps:List PV):a4p (.own ps)=some (.val (.tuple ps)):=Eq.trans rfl rfl
theorem a9x{i:Nat}{m:M}{ρ:d4}{r:g6}{p:PV}{ps:List PV}(h1:m ρ=some r)(h2:r.toVal=some p)(h3:ρ[i]?=some (some (.own ps)))(h:ps.length<16777216):a3V i m ρ=some (.nx (ρ.set i (some (.own (ps++[p]))))):=by
 unfold a3V
 rw [h1,AH,h2,AH,h3]
 simp only [sizeLine_eq,if_pos h]
theorem a3W(p:g6)(ρ:d4):a24 0 (some p::ρ)=some (.rt p):=Eq.trans rfl rfl
theorem a3X(n:Nat)(r:Option g6)(ρ:d4):a24 (n+1) (r::ρ)=a24 n ρ:=Eq.trans rfl rfl
theorem b1t(a b:List Nat):gNe (.val (row a)) (.val (row b))=some (.val (.bool (!(a==b)))):=by
 rw [b3t (x:= .val (row a)) (y:= .val (row b)) ⟨a9e a 50,a9e b 50⟩,b4q,b4q,a8k]
end PU
set_option maxHeartbeats 4000000
namespace LW
open PySem PySem.Spec PyProof.Rows L2 PU
def X5:PV:=(.int 24)
def R5:PV:=(.int 4)
def R4:PV:=(.int 8)
def a5p:PV:=(.tuple [(.str "beside"),(.str "above"),(.str "across"),(.str "down"),(.str "turn"),(.str "half"),(.str "back"),(.str "side"),(.str "flip"),(.str "cross"),(.str "other"),(.str "dye")])
def a02:PV:=(.tuple [(.str "turn"),(.str "half"),(.str "back"),(.str "side"),(.str "flip"),(.str "cross"),(.str "other")])
def a2O:PV:=(.int 8)
def R6:PV:=(.int 6)
def X2:PV:=(.int 24)
def a7i:MS:=
 (t7 (B3 0 (W7 (a8 (mC (.str "")) (a8 (mC (.str " ")) (a8 (mC (.str "[]")) (a8 (mC (.str "[a")) (a8 (mC (.str "a]")) (a8 (mC (.str "[A]")) (a8 (mC (.str "[a/]")) (a8 (mC (.str "[/a]")) (a8 (mC (.str "[a/bc]")) (a8 (mC (.str "[a b]")) (a8 (mC (.str "[1]")) (a8 (mC (.str "[a]]")) g5))))))))))))))
 (t7 (B3 0 (m2 p3 (b6 0) (W7 (a8 (m2 p3 (m2 p3 (mC (.str "[")) (m2 D6 (mC (.str "a")) (mC (.int 25)))) (mC (.str "]"))) (a8 (m2 p3 (m2 p3 (mC (.str "[")) (m2 D6 (mC (.str "a/")) (mC (.int 24)))) (mC (.str "a]"))) (a8 (mC (.str "abcdefghi")) (a8 (mC (.str "A")) (a8 (mC (.str "a1")) (a8 (mC (.str "a b")) g5)))))))))
 (t7 (B3 0 (m2 p3 (b6 0) (W7 (a8 (mC (.str "turn")) (a8 (mC (.str "dye")) (a8 (mC (.str "across")) (a8 (mC (.str "beside")) (a8 (mC (.str "turn()")) (a8 (mC (.str "turn(a")) (a8 (mC (.str "turn a")) (a8 (mC (.str "turn(a))")) g5)))))))))))
 (t7 (B3 0 (m2 p3 (b6 0) (W7 (a8 (mC (.str "[[a]]")) (a8 (mC (.str "turn(a, b)")) (a8 (mC (.str "Turn(a)")) (a8 (mC (.str "stay(a)")) (a8 (mC (.str "k(a)")) (a8 (mC (.str "turn (a)")) (a8 (mC (.str "turn( a)")) g5))))))))))
 (t7 (B3 0 (m2 p3 (b6 0) (W7 (a8 (mC (.str "turn(a )")) (a8 (mC (.str "beside(a)")) (a8 (mC (.str "beside(a,b)")) (a8 (mC (.str "above()")) (a8 (mC (.str "beside(a,  b)")) g5))))))))
 (t7 (B3 0 (m2 p3 (b6 0) (W7 (a8 (mC (.str "beside(a, )")) (a8 (mC (.str "beside(, a)")) (a8 (mC (.str "beside(a, b, c, d, e, f, g)")) (a8 (mC (.str "above(a)")) g5)))))))
 (t7 (B3 0 (m2 p3 (b6 0) (W7 (a8 (mC (.str "across(a)")) (a8 (mC (.str "across(0, a)")) (a8 (mC (.str "across(25, a)")) (a8 (mC (.str "across(02, a)")) (a8 (mC (.str "across(2,a)")) g5))))))))
 (t7 (B3 0 (m2 p3 (b6 0) (W7 (a8 (mC (.str "across(2 a)")) (a8 (mC (.str "across(-1, a)")) (a8 (mC (.str "across(+1, a)")) (a8 (mC (.str "across(a, 2)")) (a8 (mC (.str "across(2, a, b)")) g5))))))))
 (t7 (B3 0 (m2 p3 (b6 0) (W7 (a8 (mC (.str "across(1_0, a)")) (a8 (mC (.str "down()")) (a8 (mC (.str "down(2)")) (a8 (mC (.str "down(2, )")) (a8 (mC (.str "down(100, a)")) (a8 (mC (.str "down(2.0, a)")) g5)))))))))
 (t7 (B3 0 (m2 p3 (b6 0) (W7 (a8 (mC (.str "down(, a)")) (a8 (mC (.str "dye(a, b)")) (a8 (mC (.str "dye(a, bc, d)")) (a8 (mC (.str "dye(, b, c)")) (a8 (mC (.str "dye(a, B, c)")) g5))))))))
 (t7 (B3 0 (m2 p3 (b6 0) (W7 (a8 (mC (.str "dye(a,b, c)")) (a8 (mC (.str "dye(a, b, c, d)")) (a8 (mC (.str "dye(1, b, c)")) (a8 (mC (.str "a,b")) (a8 (mC (.str "(a)")) (a8 (mC (.str "[a](b)")) (a8 (mC (.str "turn[a]")) g5))))))))))
 (u5 (m2 p3 (b6 0) (W7 (a8 (mC (.str "flip([a/b]")) (a8 (mC (.str "half(half(a)")) (a8 (mC (.str "[a]\n")) (a8 (mC (.str "a\n")) g5))))))))))))))))))
def a0V:List PV→Option g6:=p7 1 a7i
def a3E:MS:=
 (u5 (m2 p3 (m2 D6 (m2 (gIc (fun _ j=>0<j) fun i j=> .int (i % j)) (b6 0) (m2 (gIc b1S fun i j=> .int (i ^ j.toNat)) (mC (.int 10)) (mC (.int 18)))) (m2 p3 (m2 D6 (mC (.int 2)) (b6 1)) (mC (.int 3)))) (m2 D6 (b6 1) (b6 1))))
def Q7:List PV→Option g6:=p7 0 a3E
def G9:MS:=
 (t7 (B3 4 (m2 (gIc (fun _ j=>0<j) fun i j=> .int (i % j)) (m2 p3 (m2 (gIc a8W fun i j=> .int (i / j)) (b6 2) (m2 p3 (b6 3) (mC (.int 1)))) (m2 D6 (b6 3) (b6 3))) (mC (.int 8))))
 (A8 (L3 (m2 a60 (b6 4) (mC (.int 3)))) (B3 0 (m2 p3 (m2 p3 (m2 p3 (m2 J4 (W7 (a8 (mC (.str "turn")) (a8 (mC (.str "half")) (a8 (mC (.str "cross")) g5)))) (b6 4)) (mC (.str "("))) (b6 0)) (mC (.str ")")))) (A8 (L3 (m2 gEq (b6 4) (mC (.int 3)))) (B3 0 (m2 p3 (m2 p3 (mC (.str "across(1, ")) (b6 0)) (mC (.str ")")))) (A8 (L3 (m2 gEq (b6 4) (mC (.int 4)))) (B3 0 (m2 p3 (m2 p3 (mC (.str "down(24, ")) (b6 0)) (mC (.str ")")))) (A8 (L3 (m2 gEq (b6 4) (mC (.int 5)))) (B3 0 (m2 p3 (m2 p3 (mC (.str "beside(k, ")) (b6 0)) (mC (.str ")")))) (A8 (L3 (m2 gEq (b6 4) (mC (.int 6)))) (B3 0 (m2 p3 (m2 p3 (mC (.str "above(")) (b6 0)) (mC (.str ", [ab], zz)")))) (B3 0 (m2 p3 (m2 p3 (mC (.str "dye(a, b, ")) (b6 0)) (mC (.str ")"))))))))))
def U9:MS:=
 (t7 (a9y (a4S (a8 (b6 1) g5)) (B8 3) G9)
 (a24 0))
def N6:List PV→Option g6:=p7 2 U9
def W6:MS:=
 (b5B 4 (gI fun i j=> .int (i+j)) (mC (.int 1)))
def a4j:MS:=
 (t7 (B3 4 (b6 1))
 (t7 (O6 (a52 (L3 (m2 a60 (b6 4) (m1 L6 (b6 0)))) (L3 (O4 S3 S3 (b6 2) (m2 J4 (b6 0) (b6 4)) (b6 3)))) W6 500)
 (a24 4)))
def a0W:List PV→Option g6:=p7 1 a4j
def a2Y:MS:=
 (u5 (v6 a0W (a8 (b6 0) (a8 (b6 1) (a8 (mC (.str "a")) (a8 (mC (.str "z")) g5))))))
def E4:List PV→Option g6:=p7 0 a2Y
def a1G:MS:=
 (u5 (a9w (O4 S3 S3 (mC (.int 1)) (m1 L6 (b6 0)) (mC R4)) (m2 gEq (v6 E4 (a8 (b6 0) (a8 (mC (.int 0)) g5))) (m1 L6 (b6 0)))))
def N5:List PV→Option g6:=p7 0 a1G
def a7h:MS:=
 (u5 (a9w (v6 N5 (a8 (b6 0) g5)) (m2 (a9j true) (b6 0) (mC a5p))))
def a2H:List PV→Option g6:=p7 0 a7h
def a2e:M:=
 (O4 S3 S3 (mC (.str "a")) (b6 1) (mC (.str "z")))
def a86:MS:=
 (t7 (A8 (a0Z (P6 (mtV (m1 (a8q "str") (b6 0)))) (P6 (L3 (O4 S3 S3 (mC (.int 1)) (m1 L6 (b6 0)) (mC X5))))) (u5 (mC (.bool false))) y9)
 (u5 (m1 b19 (V9 1 (a5Y (b6 0)) (B8 1) Z0 a2e))))
def a2a:List PV→Option g6:=p7 0 a86
def a0B:M:=
 (v6 a2a (a8 (b6 1) g5))
def a0C:M:=
 (m2 gEq (m1 L6 (b6 1)) (m1 L6 (m2 J4 (b6 0) (mC (.int 0)))))
def a5C:MS:=
 (t7 (A8 (a0Z (P6 (mtV (m1 (a8q "tuple") (b6 0)))) (P6 (L3 (O4 S3 S3 (mC (.int 1)) (m1 L6 (b6 0)) (mC X5))))) (u5 (mC (.bool false))) y9)
 (t7 (A8 (P6 (mtV (m1 b19 (V9 1 (F8 (b6 0)) (B8 1) Z0 a0B)))) (u5 (mC (.bool false))) y9)
 (u5 (m1 b19 (V9 1 (F8 (b6 0)) (B8 1) Z0 a0C)))))
def a1f:List PV→Option g6:=p7 0 a5C
def a3F:MX:=
 (a9C (b5O (P6 (mtV (m1 (a8q "str") (b6 0)))) (b3P "NoCloth" (a8 (mC (.str "what is no text writes no cloth")) g5)) (a53 y9))
 (a9C (a53 (B3 1 (m1 a4p (m2 a4o (b6 0) (mC (.str "/"))))))
 (a9C (b5O (P6 (mtV (v6 a1f (a8 (b6 1) g5)))) (b3P "NoCloth" (a8 (mC (.str "the text writes no cloth")) g5)) (a53 y9))
 (a53 (a24 1)))))
def M0:List PV→Option (g6 ⊕ Str):=b4u 1 a3F
def a5D:MS:=
 (t7 (B3 2 (m3 a7u (b6 0) (mC (.str "]")) (b6 1)))
 (t7 (A8 (L3 (m2 a60 (b6 2) (mC (.int 0)))) (u5 (mC .none)) y9)
 (t7 (b0z (a3Z 3 M0 (a8 (a2f (b6 0) (Q8 (m2 p3 (b6 1) (mC (.int 1)))) (Q8 (b6 2))) g5)) (inL ["NoCloth"]) (u5 (mC .none)))
 (u5 (S5 (a8 (V4 "Plain" ["rows"] (a8 (b6 3) g5)) (a8 (m2 p3 (b6 2) (mC (.int 1))) g5)))))))
def a1g:List PV→Option g6:=p7 2 a5D
def a2X:MS:=
 (u5 (v6 a0W (a8 (b6 0) (a8 (b6 1) (a8 (mC (.str "0")) (a8 (mC (.str "9")) g5))))))
def K0:List PV→Option g6:=p7 0 a2X
def a4I:MS:=
 (t7 (A8 (a0Z (P6 (L3 (O4 S3 S3 (mC (.int 1)) (m1 L6 (b6 0)) (mC R5)))) (L3 (m2 gNe (v6 K0 (a8 (b6 0) (a8 (mC (.int 0)) g5))) (m1 L6 (b6 0))))) (u5 (mC .none)) y9)
 (t7 (A8 (a52 (L3 (m2 gEq (m2 J4 (b6 0) (mC (.int 0))) (mC (.str "0")))) (L3 (m2 (gI fun i j=> .bool (decide (j<i))) (m1 L6 (b6 0)) (mC (.int 1))))) (u5 (mC .none)) y9)
 (u5 (m1 a9k (b6 0)))))
def a0i:List PV→Option g6:=p7 0 a4I
def a0P:MS:=
 (t7 (B3 3 (v6 a0i (a8 (b6 0) g5)))
 (t7 (A8 (a0Z (L3 (m2 (M6 false) (b6 3) (mC .none))) (P6 (L3 (O4 S3 S3 (b6 1) (b6 3) (b6 2))))) (u5 (mC .none)) y9)
 (a24 3)))
def L9:List PV→Option g6:=p7 1 a0P
def a4J:MS:=
 (t7 (B3 2 (v6 K0 (a8 (b6 0) (a8 (b6 1) g5))))
 (t7 (A8 (a0Z (L3 (m2 (M6 false) (v6 L9 (a8 (a2f (b6 0) (Q8 (b6 1)) (Q8 (b6 2))) (a8 (mC (.int 1)) (a8 (mC X2) g5)))) (mC .none))) (P6 (mtV (m3 K3 (b6 0) (mC (.str ", ")) (b6 2))))) (u5 (mC .none)) y9)
 (a24 2)))
def U4:List PV→Option g6:=p7 1 a4J
def a1Y:MS:=
 (u5 (a9w (m2 gEq (v6 E4 (a8 (b6 0) (a8 (b6 1) g5))) (m2 p3 (b6 1) (mC (.int 1)))) (m3 K3 (b6 0) (mC (.str ", ")) (m2 p3 (b6 1) (mC (.int 1))))))
def G5:List PV→Option g6:=p7 0 a1Y
def a2D(R_dyed_at R_laid_at R_last_part_at R_made_of_parts_at l9 R_parts_at R_repeated_at R_turned_at:List PV→Option g6):MS:=
 (t7 (A8 (a0Z (P6 (mtV (v6 G5 (a8 (b6 0) (a8 (b6 1) g5))))) (P6 (mtV (v6 G5 (a8 (b6 0) (a8 (m2 p3 (b6 1) (mC (.int 3))) g5)))))) (u5 (mC .none)) y9)
 (t7 (B3 3 (v6 R_last_part_at (a8 (b6 0) (a8 (m2 p3 (b6 1) (mC (.int 6))) (a8 (b6 2) g5)))))
 (t7 (A8 (L3 (m2 (M6 false) (b6 3) (mC .none))) (u5 (mC .none)) y9)
 (u5 (S5 (a8 (V4 "Dyed" ["one","other","part"] (a8 (m2 J4 (b6 0) (b6 1)) (a8 (m2 J4 (b6 0) (m2 p3 (b6 1) (mC (.int 3)))) (a8 (m2 J4 (b6 3) (mC (.int 0))) g5)))) (a8 (m2 J4 (b6 3) (mC (.int 1))) g5)))))))
def a2E(R_dyed_at R_laid_at R_last_part_at R_made_of_parts_at l9 R_parts_at R_repeated_at R_turned_at:List PV→Option g6):MS:=
 (t7 (B3 4 (v6 R_parts_at (a8 (b6 0) (a8 (b6 2) (a8 (b6 3) g5)))))
 (t7 (A8 (a0Z (L3 (m2 (M6 false) (b6 4) (mC .none))) (P6 (mtV (m3 K3 (b6 0) (mC (.str ")")) (m2 J4 (b6 4) (mC (.int 1))))))) (u5 (mC .none)) y9)
 (t7 (A8 (P6 (L3 (O4 S3 S3 (mC (.int 2)) (m1 L6 (m2 J4 (b6 4) (mC (.int 0)))) (mC R6)))) (u5 (mC .none)) y9)
 (t7 (A8 (L3 (m2 gEq (b6 1) (mC (.str "beside")))) (u5 (S5 (a8 (V4 "Beside" ["parts"] (a8 (m2 J4 (b6 4) (mC (.int 0))) g5)) (a8 (m2 p3 (m2 J4 (b6 4) (mC (.int 1))) (mC (.int 1))) g5)))) y9)
 (u5 (S5 (a8 (V4 "Above" ["parts"] (a8 (m2 J4 (b6 4) (mC (.int 0))) g5)) (a8 (m2 p3 (m2 J4 (b6 4) (mC (.int 1))) (mC (.int 1))) g5))))))))
def P8(R_dyed_at R_laid_at R_last_part_at R_made_of_parts_at l9 R_parts_at R_repeated_at R_turned_at:List PV→Option g6):MS:=
 (t7 (B3 3 (v6 l9 (a8 (b6 0) (a8 (b6 1) (a8 (b6 2) g5)))))
 (t7 (A8 (a0Z (L3 (m2 (M6 false) (b6 3) (mC .none))) (P6 (mtV (m3 K3 (b6 0) (mC (.str ")")) (m2 J4 (b6 3) (mC (.int 1))))))) (u5 (mC .none)) y9)
 (u5 (S5 (a8 (m2 J4 (b6 3) (mC (.int 0))) (a8 (m2 p3 (m2 J4 (b6 3) (mC (.int 1))) (mC (.int 1))) g5))))))
def C1(R_dyed_at R_laid_at R_last_part_at R_made_of_parts_at l9 R_parts_at R_repeated_at R_turned_at:List PV→Option g6):MS:=
 (t7 (A8 (a0Z (L3 (m2 gEq (b6 1) (mC (.str "beside")))) (L3 (m2 gEq (b6 1) (mC (.str "above"))))) (u5 (v6 R_laid_at (a8 (b6 0) (a8 (b6 1) (a8 (b6 2) (a8 (b6 3) g5)))))) y9)
 (t7 (A8 (a0Z (L3 (m2 gEq (b6 1) (mC (.str "across")))) (L3 (m2 gEq (b6 1) (mC (.str "down"))))) (u5 (v6 R_repeated_at (a8 (b6 0) (a8 (b6 1) (a8 (b6 2) (a8 (b6 3) g5)))))) y9)
 (t7 (A8 (L3 (m2 (a9j false) (b6 1) (mC a02))) (u5 (v6 R_turned_at (a8 (b6 0) (a8 (b6 1) (a8 (b6 2) (a8 (b6 3) g5)))))) y9)
 (t7 (A8 (L3 (m2 gEq (b6 1) (mC (.str "dye")))) (u5 (v6 R_dyed_at (a8 (b6 0) (a8 (b6 2) (a8 (b6 3) g5))))) y9)
 (u5 (mC .none))))))
def O2(R_dyed_at R_laid_at R_last_part_at R_made_of_parts_at l9 R_parts_at R_repeated_at R_turned_at:List PV→Option g6):MS:=
 (t7 (A8 (L3 (m2 gEq (b6 2) (mC (.int 0)))) (u5 (mC .none)) y9)
 (t7 (A8 (mtV (m3 K3 (b6 0) (mC (.str "[")) (b6 1))) (u5 (v6 a1g (a8 (b6 0) (a8 (b6 1) g5)))) y9)
 (t7 (B3 3 (v6 E4 (a8 (b6 0) (a8 (b6 1) g5))))
 (t7 (B3 4 (a2f (b6 0) (Q8 (b6 1)) (Q8 (b6 3))))
 (t7 (A8 (mtV (m3 K3 (b6 0) (mC (.str "(")) (b6 3))) (b3I 4 (u5 (v6 R_made_of_parts_at (a8 (b6 0) (a8 (b6 4) (a8 (m2 p3 (b6 3) (mC (.int 1))) (a8 (m2 (gI fun i j=> .int (i - j)) (b6 2) (mC (.int 1))) g5))))))) y9)
 (t7 (b3I 4 (A8 (mtV (v6 a2H (a8 (b6 4) g5))) (u5 (S5 (a8 (V4 "Named" ["name"] (a8 (b6 4) g5)) (a8 (b6 3) g5)))) y9))
 (u5 (mC .none))))))))
def B2(R_dyed_at R_laid_at R_last_part_at R_made_of_parts_at l9 R_parts_at R_repeated_at R_turned_at:List PV→Option g6):MS:=
 (t7 (B3 4 (v6 l9 (a8 (b6 0) (a8 (b6 1) (a8 (b6 2) g5)))))
 (t7 (A8 (L3 (m2 (M6 false) (b6 4) (mC .none))) (u5 (mC .none)) y9)
 (t7 (a3V 3 (m2 J4 (b6 4) (mC (.int 0))))
 (t7 (A8 (P6 (mtV (m3 K3 (b6 0) (mC (.str ", ")) (m2 J4 (b6 4) (mC (.int 1)))))) (u5 (S5 (a8 (m1 a4p (b6 3)) (a8 (m2 J4 (b6 4) (mC (.int 1))) g5)))) y9)
 (B3 1 (m2 p3 (m2 J4 (b6 4) (mC (.int 1))) (mC (.int 2))))))))
def a08(R_dyed_at R_laid_at R_last_part_at R_made_of_parts_at l9 R_parts_at R_repeated_at R_turned_at:List PV→Option g6):MS:=
 (t7 (B3 3 (W7 g5))
 (O6 (mtV (mC (.bool true))) (B2 R_dyed_at R_laid_at R_last_part_at R_made_of_parts_at l9 R_parts_at R_repeated_at R_turned_at) 500))
def T5(R_dyed_at R_laid_at R_last_part_at R_made_of_parts_at l9 R_parts_at R_repeated_at R_turned_at:List PV→Option g6):MS:=
 (t7 (B3 4 (v6 U4 (a8 (b6 0) (a8 (b6 2) g5))))
 (t7 (A8 (L3 (m2 (M6 false) (b6 4) (mC .none))) (u5 (mC .none)) y9)
 (t7 (B3 5 (v6 R_last_part_at (a8 (b6 0) (a8 (m2 p3 (b6 4) (mC (.int 2))) (a8 (b6 3) g5)))))
 (t7 (A8 (L3 (m2 (M6 false) (b6 5) (mC .none))) (u5 (mC .none)) y9)
 (t7 (B3 6 (m1 a9k (a2f (b6 0) (Q8 (b6 2)) (Q8 (b6 4)))))
 (t7 (A8 (L3 (m2 gEq (b6 1) (mC (.str "across")))) (u5 (S5 (a8 (V4 "Across" ["many","part"] (a8 (b6 6) (a8 (m2 J4 (b6 5) (mC (.int 0))) g5))) (a8 (m2 J4 (b6 5) (mC (.int 1))) g5)))) y9)
 (u5 (S5 (a8 (V4 "Down" ["many","part"] (a8 (b6 6) (a8 (m2 J4 (b6 5) (mC (.int 0))) g5))) (a8 (m2 J4 (b6 5) (mC (.int 1))) g5))))))))))
def a0f(R_dyed_at R_laid_at R_last_part_at R_made_of_parts_at l9 R_parts_at R_repeated_at R_turned_at:List PV→Option g6):MS:=
 (t7 (B3 4 (v6 R_last_part_at (a8 (b6 0) (a8 (b6 2) (a8 (b6 3) g5)))))
 (t7 (A8 (L3 (m2 (M6 false) (b6 4) (mC .none))) (u5 (mC .none)) y9)
 (u5 (S5 (a8 (V4 "Turned" ["way","part"] (a8 (b6 1) (a8 (m2 J4 (b6 4) (mC (.int 0))) g5))) (a8 (m2 J4 (b6 4) (mC (.int 1))) g5))))))
def c9:Nat→(List PV→Option g6)×(List PV→Option g6)×(List PV→Option g6)×(List PV→Option g6)×(List PV→Option g6)×(List PV→Option g6)×(List PV→Option g6)×(List PV→Option g6)
 |0=>(p7 1 (fun _=>none),p7 1 (fun _=>none),p7 1 (fun _=>none),p7 0 (fun _=>none),p7 2 (fun _=>none),p7 2 (fun _=>none),p7 3 (fun _=>none),p7 1 (fun _=>none))
 |n+1=>(p7 1 (a2D ((c9 n).1) ((c9 n).2.1) ((c9 n).2.2.1) ((c9 n).2.2.2.1) ((c9 n).2.2.2.2.1) ((c9 n).2.2.2.2.2.1) ((c9 n).2.2.2.2.2.2.1) ((c9 n).2.2.2.2.2.2.2)),p7 1 (a2E ((c9 n).1) ((c9 n).2.1) ((c9 n).2.2.1) ((c9 n).2.2.2.1) ((c9 n).2.2.2.2.1) ((c9 n).2.2.2.2.2.1) ((c9 n).2.2.2.2.2.2.1) ((c9 n).2.2.2.2.2.2.2)),p7 1 (P8 ((c9 n).1) ((c9 n).2.1) ((c9 n).2.2.1) ((c9 n).2.2.2.1) ((c9 n).2.2.2.2.1) ((c9 n).2.2.2.2.2.1) ((c9 n).2.2.2.2.2.2.1) ((c9 n).2.2.2.2.2.2.2)),p7 0 (C1 ((c9 n).1) ((c9 n).2.1) ((c9 n).2.2.1) ((c9 n).2.2.2.1) ((c9 n).2.2.2.2.1) ((c9 n).2.2.2.2.2.1) ((c9 n).2.2.2.2.2.2.1) ((c9 n).2.2.2.2.2.2.2)),p7 2 (O2 ((c9 n).1) ((c9 n).2.1) ((c9 n).2.2.1) ((c9 n).2.2.2.1) ((c9 n).2.2.2.2.1) ((c9 n).2.2.2.2.2.1) ((c9 n).2.2.2.2.2.2.1) ((c9 n).2.2.2.2.2.2.2)),p7 2 (a08 ((c9 n).1) ((c9 n).2.1) ((c9 n).2.2.1) ((c9 n).2.2.2.1) ((c9 n).2.2.2.2.1) ((c9 n).2.2.2.2.2.1) ((c9 n).2.2.2.2.2.2.1) ((c9 n).2.2.2.2.2.2.2)),p7 3 (T5 ((c9 n).1) ((c9 n).2.1) ((c9 n).2.2.1) ((c9 n).2.2.2.1) ((c9 n).2.2.2.2.1) ((c9 n).2.2.2.2.2.1) ((c9 n).2.2.2.2.2.2.1) ((c9 n).2.2.2.2.2.2.2)),p7 1 (a0f ((c9 n).1) ((c9 n).2.1) ((c9 n).2.2.1) ((c9 n).2.2.2.1) ((c9 n).2.2.2.2.1) ((c9 n).2.2.2.2.2.1) ((c9 n).2.2.2.2.2.2.1) ((c9 n).2.2.2.2.2.2.2)))
def a3l(n:Nat):List PV→Option g6:=(c9 n).1
def a3m(n:Nat):List PV→Option g6:=(c9 n).2.1
def N7(n:Nat):List PV→Option g6:=(c9 n).2.2.1
def E9(n:Nat):List PV→Option g6:=(c9 n).2.2.2.1
def P0(n:Nat):List PV→Option g6:=(c9 n).2.2.2.2.1
def a3k:List PV→Option g6:=P0 40
def a2c(n:Nat):List PV→Option g6:=(c9 n).2.2.2.2.2.1
def Y6(n:Nat):List PV→Option g6:=(c9 n).2.2.2.2.2.2.1
def a1k(n:Nat):List PV→Option g6:=(c9 n).2.2.2.2.2.2.2
def a09:MS:=
 (t7 (A8 (P6 (mtV (m1 (a8q "str") (b6 0)))) (u5 (mC .none)) y9)
 (t7 (B3 1 (v6 a3k (a8 (b6 0) (a8 (mC (.int 0)) (a8 (mC a2O) g5)))))
 (t7 (A8 (a0Z (L3 (m2 (M6 false) (b6 1) (mC .none))) (L3 (m2 gNe (m2 J4 (b6 1) (mC (.int 1))) (m1 L6 (b6 0))))) (u5 (mC .none)) y9)
 (u5 (m2 J4 (b6 1) (mC (.int 0)))))))
def w6:List PV→Option g6:=p7 1 a09
def a1Z:MS:=
 (t7 (B3 2 (m2 (gIc (fun _ j=>0<j) fun i j=> .int (i % j)) (b6 1) (mC (.int 6))))
 (t7 (A8 (L3 (m2 gEq (b6 2) (mC (.int 0)))) (u5 (m2 p3 (m2 p3 (mC (.str "turn(")) (b6 0)) (mC (.str ")")))) y9)
 (t7 (A8 (L3 (m2 gEq (b6 2) (mC (.int 1)))) (u5 (m2 p3 (m2 p3 (mC (.str "across(3, ")) (b6 0)) (mC (.str ")")))) y9)
 (t7 (A8 (L3 (m2 gEq (b6 2) (mC (.int 2)))) (u5 (m2 p3 (m2 p3 (mC (.str "beside([ab], ")) (b6 0)) (mC (.str ")")))) y9)
 (t7 (A8 (L3 (m2 gEq (b6 2) (mC (.int 3)))) (u5 (m2 p3 (m2 p3 (mC (.str "above(")) (b6 0)) (mC (.str ", k, zz)")))) y9)
 (t7 (A8 (L3 (m2 gEq (b6 2) (mC (.int 4)))) (u5 (m2 p3 (m2 p3 (mC (.str "dye(a, b, ")) (b6 0)) (mC (.str ")")))) y9)
 (u5 (m2 p3 (m2 p3 (mC (.str "beside(flip(k), ")) (b6 0)) (mC (.str ", [a/b])"))))))))))
def a2b:List PV→Option g6:=p7 1 a1Z
def a2Z:MS:=
 (u5 (m2 a3P (mC (.str "/")) (b6 0)))
def N3:List PV→Option g6:=p7 0 a2Z
def a8b:MS:=
 (u5 (m2 p3 (m2 p3 (mC (.str "[")) (v6 N3 (a8 (m1 (C5 ["Plain"] "rows") (b6 0)) g5))) (mC (.str "]"))))
def u0:List PV→Option g6:=p7 0 a8b
def a8a:MS:=
 (u5 (m1 (C5 ["Named"] "name") (b6 0)))
def t8:List PV→Option g6:=p7 0 a8a
def a07(j4 i5 i6 k7 k9 i7 R_written_parts:List PV→Option g6):MS:=
 (u5 (m2 p3 (m2 p3 (mC (.str "above(")) (v6 R_written_parts (a8 (m1 (C5 ["Beside","Above"] "parts") (b6 0)) g5))) (mC (.str ")"))))
def a0s(j4 i5 i6 k7 k9 i7 R_written_parts:List PV→Option g6):MS:=
 (u5 (m2 p3 (m2 p3 (m2 p3 (m2 p3 (mC (.str "across(")) (m1 b0n (m1 (C5 ["Across","Down"] "many") (b6 0)))) (mC (.str ", "))) (P4 [("Plain",u0),("Named",t8),("Beside",i6),("Above",j4),("Across",i5),("Down",k7),("Turned",i7),("Dyed",k9)] "text" (m1 (C5 ["Across","Down","Turned","Dyed"] "part") (b6 0)) g5)) (mC (.str ")"))))
def a0t(j4 i5 i6 k7 k9 i7 R_written_parts:List PV→Option g6):MS:=
 (u5 (m2 p3 (m2 p3 (mC (.str "beside(")) (v6 R_written_parts (a8 (m1 (C5 ["Beside","Above"] "parts") (b6 0)) g5))) (mC (.str ")"))))
def a1W(j4 i5 i6 k7 k9 i7 R_written_parts:List PV→Option g6):MS:=
 (u5 (m2 p3 (m2 p3 (m2 p3 (m2 p3 (mC (.str "down(")) (m1 b0n (m1 (C5 ["Across","Down"] "many") (b6 0)))) (mC (.str ", "))) (P4 [("Plain",u0),("Named",t8),("Beside",i6),("Above",j4),("Across",i5),("Down",k7),("Turned",i7),("Dyed",k9)] "text" (m1 (C5 ["Across","Down","Turned","Dyed"] "part") (b6 0)) g5)) (mC (.str ")"))))
def a1X(j4 i5 i6 k7 k9 i7 R_written_parts:List PV→Option g6):MS:=
 (u5 (m2 p3 (m2 p3 (m2 p3 (m2 p3 (m2 p3 (m2 p3 (mC (.str "dye(")) (m1 (C5 ["Dyed"] "one") (b6 0))) (mC (.str ", "))) (m1 (C5 ["Dyed"] "other") (b6 0))) (mC (.str ", "))) (P4 [("Plain",u0),("Named",t8),("Beside",i6),("Above",j4),("Across",i5),("Down",k7),("Turned",i7),("Dyed",k9)] "text" (m1 (C5 ["Across","Down","Turned","Dyed"] "part") (b6 0)) g5)) (mC (.str ")"))))
def a0u(j4 i5 i6 k7 k9 i7 R_written_parts:List PV→Option g6):MS:=
 (u5 (m2 p3 (m2 p3 (m2 p3 (m1 (C5 ["Turned"] "way") (b6 0)) (mC (.str "("))) (P4 [("Plain",u0),("Named",t8),("Beside",i6),("Above",j4),("Across",i5),("Down",k7),("Turned",i7),("Dyed",k9)] "text" (m1 (C5 ["Across","Down","Turned","Dyed"] "part") (b6 0)) g5)) (mC (.str ")"))))
def I0(j4 i5 i6 k7 k9 i7 R_written_parts:List PV→Option g6):M:=
 (P4 [("Plain",u0),("Named",t8),("Beside",i6),("Above",j4),("Across",i5),("Down",k7),("Turned",i7),("Dyed",k9)] "text" (b6 1) g5)
def V0(j4 i5 i6 k7 k9 i7 R_written_parts:List PV→Option g6):MS:=
 (u5 (m2 a3P (mC (.str ", ")) (V9 1 (F8 (b6 0)) (B8 1) Z0 (I0 j4 i5 i6 k7 k9 i7 R_written_parts))))
def b8:Nat→(List PV→Option g6)×(List PV→Option g6)×(List PV→Option g6)×(List PV→Option g6)×(List PV→Option g6)×(List PV→Option g6)×(List PV→Option g6)
 |0=>(p7 0 (fun _=>none),p7 0 (fun _=>none),p7 0 (fun _=>none),p7 0 (fun _=>none),p7 0 (fun _=>none),p7 0 (fun _=>none),p7 0 (fun _=>none))
 |n+1=>(p7 0 (a07 ((b8 n).1) ((b8 n).2.1) ((b8 n).2.2.1) ((b8 n).2.2.2.1) ((b8 n).2.2.2.2.1) ((b8 n).2.2.2.2.2.1) ((b8 n).2.2.2.2.2.2)),p7 0 (a0s ((b8 n).1) ((b8 n).2.1) ((b8 n).2.2.1) ((b8 n).2.2.2.1) ((b8 n).2.2.2.2.1) ((b8 n).2.2.2.2.2.1) ((b8 n).2.2.2.2.2.2)),p7 0 (a0t ((b8 n).1) ((b8 n).2.1) ((b8 n).2.2.1) ((b8 n).2.2.2.1) ((b8 n).2.2.2.2.1) ((b8 n).2.2.2.2.2.1) ((b8 n).2.2.2.2.2.2)),p7 0 (a1W ((b8 n).1) ((b8 n).2.1) ((b8 n).2.2.1) ((b8 n).2.2.2.1) ((b8 n).2.2.2.2.1) ((b8 n).2.2.2.2.2.1) ((b8 n).2.2.2.2.2.2)),p7 0 (a1X ((b8 n).1) ((b8 n).2.1) ((b8 n).2.2.1) ((b8 n).2.2.2.1) ((b8 n).2.2.2.2.1) ((b8 n).2.2.2.2.2.1) ((b8 n).2.2.2.2.2.2)),p7 0 (a0u ((b8 n).1) ((b8 n).2.1) ((b8 n).2.2.1) ((b8 n).2.2.2.1) ((b8 n).2.2.2.2.1) ((b8 n).2.2.2.2.2.1) ((b8 n).2.2.2.2.2.2)),p7 0 (V0 ((b8 n).1) ((b8 n).2.1) ((b8 n).2.2.1) ((b8 n).2.2.2.1) ((b8 n).2.2.2.2.1) ((b8 n).2.2.2.2.2.1) ((b8 n).2.2.2.2.2.2)))
def a0A(n:Nat):List PV→Option g6:=(b8 n).1
def a1e:List PV→Option g6:=a0A 20
def Y3(n:Nat):List PV→Option g6:=(b8 n).2.1
def a0x:List PV→Option g6:=Y3 20
def Y4(n:Nat):List PV→Option g6:=(b8 n).2.2.1
def a0y:List PV→Option g6:=Y4 20
def a1i(n:Nat):List PV→Option g6:=(b8 n).2.2.2.1
def a18:List PV→Option g6:=a1i 20
def a1j(n:Nat):List PV→Option g6:=(b8 n).2.2.2.2.1
def a19:List PV→Option g6:=a1j 20
def Y5(n:Nat):List PV→Option g6:=(b8 n).2.2.2.2.2.1
def a0z:List PV→Option g6:=Y5 20
def S4(n:Nat):List PV→Option g6:=(b8 n).2.2.2.2.2.2
def a6X:MS:=
 (u5 (S5 g5))
def z5:List PV→Option g6:=p7 0 a6X
def a5A:MS:=
 (u5 (m1 (C5 ["Beside","Above"] "parts") (b6 0)))
def G3:List PV→Option g6:=p7 0 a5A
def a6W:MS:=
 (u5 (m1 (C5 ["Beside","Above"] "parts") (b6 0)))
def J9:List PV→Option g6:=p7 0 a6W
def a5z:MS:=
 (u5 (S5 (a8 (m1 (C5 ["Across","Down","Turned","Dyed"] "part") (b6 0)) g5)))
def G2:List PV→Option g6:=p7 0 a5z
def a78:MS:=
 (u5 (S5 (a8 (m1 (C5 ["Across","Down","Turned","Dyed"] "part") (b6 0)) g5)))
def L7:List PV→Option g6:=p7 0 a78
def a5B:MS:=
 (u5 (S5 (a8 (m1 (C5 ["Across","Down","Turned","Dyed"] "part") (b6 0)) g5)))
def G4:List PV→Option g6:=p7 0 a5B
def a79:MS:=
 (u5 (S5 (a8 (m1 (C5 ["Across","Down","Turned","Dyed"] "part") (b6 0)) g5)))
def L8:List PV→Option g6:=p7 0 a79
def J6(y6:List PV→Option g6):M:=
 (P4 [("Plain",y6),("Named",y6),("Beside",y6),("Above",y6),("Across",y6),("Down",y6),("Turned",y6),("Dyed",y6)] "deep" (b6 1) g5)
def a3D(y6:List PV→Option g6):MS:=
 (u5 (m2 p3 (mC (.int 1)) (m1 a7v (V9 1 (F8 (P4 [("Plain",z5),("Named",z5),("Beside",G3),("Above",J9),("Across",G2),("Down",L7),("Turned",G4),("Dyed",L8)] "inner" (b6 0) g5)) (B8 1) Z0 (J6 y6)))))
def a25:Nat→(List PV→Option g6)
 |0=>(p7 0 (fun _=>none))
 |n+1=>(p7 0 (a3D ((a25 n))))
def m9(n:Nat):List PV→Option g6:=(a25 n)
def m7:List PV→Option g6:=m9 12
def a3T:MS:=
 (B3 4 (v6 a2b (a8 (b6 4) (a8 (m2 (gIc (fun _ j=>0<j) fun i j=> .int (i % j)) (m2 D6 (b6 3) (m2 p3 (m2 D6 (mC (.int 2)) (b6 5)) (mC (.int 39373)))) (mC (.int 999953))) g5))))
def a3U:MS:=
 (t7 (B3 3 (v6 Q7 (a8 (m2 J4 (b6 0) (b6 2)) (a8 (b6 2) g5))))
 (t7 (B3 4 (m2 J4 (b6 1) (m2 (gIc (fun _ j=>0<j) fun i j=> .int (i % j)) (m2 (gIc (fun _ j=>0<j) fun i j=> .int (i % j)) (m2 D6 (b6 3) (mC (.int 48271))) (mC (.int 1000003))) (m1 L6 (b6 1)))))
 (t7 (a9y (a4S (a8 (m2 (gIc (fun _ j=>0<j) fun i j=> .int (i % j)) (m2 (gIc (fun _ j=>0<j) fun i j=> .int (i % j)) (m2 D6 (b6 3) (mC (.int 16807))) (mC (.int 999979))) (mC (.int 3))) g5)) (B8 5) a3T)
 (t7 (A8 (L3 (m2 (M6 true) (v6 w6 (a8 (b6 4) g5)) (mC .none))) (u5 (mC (.bool false))) y9)
 (t7 (B3 6 (m2 (gIc (fun _ j=>0<j) fun i j=> .int (i % j)) (m2 (gIc (fun _ j=>0<j) fun i j=> .int (i % j)) (m2 D6 (b6 3) (mC (.int 40692))) (mC (.int 999961))) (mC (.int 10))))
 (t7 (B3 4 (v6 N6 (a8 (m2 J4 (W7 (a8 (mC (.str "[ab/ba]")) (a8 (mC (.str "zz")) g5))) (m2 (gIc (fun _ j=>0<j) fun i j=> .int (i % j)) (b6 3) (mC (.int 2)))) (a8 (b6 6) (a8 (m2 (gIc (fun _ j=>0<j) fun i j=> .int (i % j)) (b6 3) (mC (.int 1000))) g5)))))
 (t7 (B3 7 (v6 w6 (a8 (b6 4) g5)))
 (A8 (L3 (m2 (gI fun i j=> .bool (decide (j<i))) (b6 6) (mC (.int 7)))) (A8 (L3 (m2 (M6 true) (b6 7) (mC .none))) (u5 (mC (.bool false))) y9) (A8 (a0Z (L3 (m2 (M6 false) (b6 7) (mC .none))) (a0Z (L3 (m2 gNe (P4 [("Plain",u0),("Named",t8),("Beside",a0y),("Above",a1e),("Across",a0x),("Down",a18),("Turned",a0z),("Dyed",a19)] "text" (b6 7) g5) (b6 4))) (L3 (m2 gNe (P4 [("Plain",m7),("Named",m7),("Beside",m7),("Above",m7),("Across",m7),("Down",m7),("Turned",m7),("Dyed",m7)] "deep" (b6 7) g5) (m2 p3 (b6 6) (mC (.int 1))))))) (u5 (mC (.bool false))) y9)))))))))
def a5U:MS:=
 (A8 (L3 (m2 (M6 true) (v6 w6 (a8 (b6 8) g5)) (mC .none))) (u5 (mC (.bool false))) y9)
def b24:MS:=
 (t7 (B3 1 (fun _=>a0V []))
 (t7 (a9y (a4S (a8 (m2 (gI fun i j=> .int (if j<i then j else i)) (m1 L6 (b6 0)) (mC (.int 30))) g5)) (B8 2) a3U)
 (t7 (a9y (b0y (W7 (a8 (mC .none) (a8 (mC (.int 1)) (a8 (mC (.bool true)) (a8 (W7 (a8 (mC (.str "a")) g5)) (a8 (S5 (a8 (mC (.str "a")) g5)) (a8 b0x g5)))))))) (B8 8) a5U)
 (u5 (a9w (m2 gEq (m1 L6 (b6 1)) (mC (.int 74))) (m2 (M6 true) (v6 w6 (a8 (mC (.str "beside(a, b, c, d, e, f)")) g5)) (mC .none)))))))
def b6D:List PV→Option g6:=p7 8 b24
end LW
set_option maxHeartbeats 1000000
namespace LW
open PySem PySem.Spec PyProof.Rows L2 PU
theorem b6Q:X5= .int 24:=rfl
theorem a_S:AE "a"=S [97]:=by decide+kernel
theorem z_S:AE "z"=S [122]:=by decide+kernel
theorem b1A(z:Str):a2d "str" (.str z)=true:=rfl
theorem b0m{l:List Nat}(h:l.length≤16777216):L6 (.val (row l))=some (.val (.int l.length)):=by
 show(if(S l).length≤AO then some (g6.val (.int (S l).length)) else none)=_
 rw [if_pos (by rw [R9,sizeLine_eq];exact h),R9]
def C9(c:Nat):Bool:=decide (97≤c)&& decide (c≤122)
def rOk(l:List Nat):Bool:=decide (1≤l.length)&&(decide (l.length≤24)&& l.all C9)
def Z3:PV→Bool
 | .str z=>rOk z.cps.toList
 |_=>false
theorem b3H(a b:Nat):decide ([a]<[b])=decide (a<b):=by
 rw [decide_eq_decide,List.cons_lt_cons_iff]
 simp
theorem b3C{l:List Nat}(h:l.length≤16777216):a2a [row l]=some (.val (.bool (rOk l))):=by
 unfold a2a a86
 have hc:V9 1 (a5Y (b6 0)) (B8 1) Z0 a2e [some (.val (row l))]=some (.own (l.map fun c=> .bool (C9 c))):=by
  refine a0Y (ι:=fun c=> .str (S [c])) l (b3K rfl) h fun c _=>⟨_,rfl, ?_⟩
  unfold a2e C9
  simp (disch:=omega) only [k4,i9,d9,l8,AH,AW,AQ,AX,AY,Ab,Ac,a_S,z_S,b3s,b3H]
  by_cases h1:97≤c
  ·rw [decide_eq_false (show ¬c<97 by lia),decide_eq_true h1]
   simp (disch:=omega) only [U2,i9,d7,AH,Bool.not_false,Bool.true_and,b3s,b3H]
   by_cases h2:c≤122
   ·rw [decide_eq_false (show ¬122<c by lia),decide_eq_true h2];rfl
   ·rw [decide_eq_true (show 122<c by lia),decide_eq_false h2];rfl
  ·rw [decide_eq_true (show c<97 by lia),decide_eq_false h1]
   rfl
 have ha:(l.map fun c=>PyData.bool (C9 c))=(l.map C9).map .bool:=by rw [BA];rfl
 have ha2:(l.map C9).all id=l.all C9:=by rw [List.all_map];rfl
 unfold rOk
 simp (disch:=omega) only [E3,k4,z6,i9,d9,i8,j1,h9,x8,l7,E8,o9,n6,C6,a3O,AH,Af,AM,AT,AQ,Ae,Bool.not_true,a9p,b1a,b1A,b0m h,b6Q]
 by_cases h1:1≤l.length
 ·rw [decide_eq_true (show(1:Int)≤(l.length:Int) by lia),decide_eq_true h1]
  simp (disch:=omega) only [E3,U2,i9,o0,AH,Af]
  by_cases h2:l.length≤24
  ·rw [decide_eq_true (show(l.length:Int)≤24 by lia),decide_eq_true h2]
   simp (disch:=omega) only [z6,g9,m5,m8,B0,m6,j5,AH,Bool.not_true,hc,ha,a3j,ha2,Bool.true_and]
  ·rw [decide_eq_false (show ¬(l.length:Int)≤24 by lia),decide_eq_false h2]
   simp (disch:=omega) only [i9,g9,m5,p5,z8,j5,AH,Bool.not_false,Bool.false_and,Bool.and_false]
 ·rw [decide_eq_false (show ¬(1:Int)≤(l.length:Int) by lia),decide_eq_false h1]
  simp (disch:=omega) only [a7o,i9,g9,m5,p5,z8,j5,o0,AH,Af,Bool.not_false,Bool.false_and]
def b6P(p:PV):Prop:=∃l,p=row l∧l.length≤16777216
theorem b4n(p:PV):(∃l,p=row l)∨(a2d "str" p=false∧Z3 p=false):=by
 cases p with
 |str z=>exact .inl ⟨z.cps.toList,by rw [row,b6x]⟩
 |_=>exact .inr ⟨rfl,rfl⟩
theorem a8O(l:List Nat):Z3 (row l)=rOk l:=by show rOk (S l).cps.toList=_;rw [a0N]
theorem b2d{p:PV}(h:b6P p):a2a [p]=some (.val (.bool (Z3 p))):=by
 obtain⟨l,rfl,hl⟩:=h
 rw [b3C hl,a8O]
def a0D:PV→Nat
 | .str z=>z.length
 |_=>0
theorem b0w(l:List Nat):a0D (row l)=l.length:=R9 l
theorem a7O{p:PV}(h:Z3 p=true):∃l,p=row l∧l.length≤16777216:=by
 rcases b4n p with⟨l,rfl⟩|⟨h1,h2⟩
 ·refine⟨l,rfl, ?_⟩
  rw [a8O] at h
  unfold rOk at h
  simp only [Bool.and_eq_true,decide_eq_true_eq] at h
  lia
 ·rw [h2] at h;cases h
def a8f:List PV→Bool
 |[]=>false
 |p::ps=>decide ((p::ps).length≤24)&&((p::ps).all Z3 &&(p::ps).all fun q=>a0D q==a0D p)
theorem a9s{ps:List PV}(hs:ps.length≤16777216)(h:∀p∈ps,b6P p):a1f [.tuple ps]=some (.val (.bool (a8f ps))):=by
 unfold a1f a5C
 cases ps with
 |nil=>
  simp (disch:=omega) only [E3,k4,a5M,z6,i9,d9,i8,j1,h9,x8,l7,E8,o9,n6,C6,a3O,AH,Af,AM,AT,AQ,Ae,Ag,Bool.not_true,Int.cast_ofNat_Int,a5h,a9q,b1a,a5h,b6Q,show decide ((1:Int)≤((0:Nat):Int))=false from rfl]
  rfl
 |cons p0 ps=>
  have hc:V9 1 (F8 (b6 0)) (B8 1) Z0 a0B [some (.val (.tuple (p0::ps)))]=some (.own ((p0::ps).map fun p=> .bool (Z3 p))):=by
   refine a0Y (ι:=fun p=>p) (p0::ps) (by rw [a4R (r:= .val (.tuple (p0::ps))) (ps:=p0::ps) rfl rfl,List.map_id']) hs fun p hp=>⟨_,rfl, ?_⟩
   unfold a0B
   simp (disch:=omega) only [d9,l8,d8,d5,d7,i3,AH,AW,AQ,AX,AY,Ab,Ac,b2d (h p hp)]
  have ha:((p0::ps).map fun p=>PyData.bool (Z3 p))=((p0::ps).map Z3).map .bool:=by rw [BA];rfl
  have ha2:((p0::ps).map Z3).all id=(p0::ps).all Z3:=by rw [List.all_map];rfl
  have hk:a8f (p0::ps)=(decide ((p0::ps).length≤24)&&((p0::ps).all Z3 &&(p0::ps).all fun q=>a0D q==a0D p0)):=rfl
  generalize hP:p0::ps=P at*
  rw [hk]
  simp (disch:=omega) only [E3,k4,a5M,z6,i9,d9,i8,j1,h9,x8,l7,E8,o9,n6,C6,a3O,AH,Af,AM,AT,AQ,Ae,Bool.not_true,a5h,a9q,b1a,a5h,b6Q,a5M]
  have hl:1≤P.length:=by rw [←hP];simp
  rw [decide_eq_true (show(1:Int)≤(P.length:Int) by lia)]
  simp (disch:=omega) only [E3,U2,i9,o0,AH,Af]
  by_cases h2:P.length≤24
  ·rw [decide_eq_true (show(P.length:Int)≤24 by lia),decide_eq_true h2]
   simp (disch:=omega) only [z6,i8,m8,j1,B0,m6,x8,E8,o9,AH,Af,Bool.not_true,hc,ha,a3j,ha2,Bool.true_and]
   cases hr:P.all Z3 with
   |false=>simp (disch:=omega) only [i9,g9,m5,p5,z8,j5,AH,Bool.not_false,Bool.false_and]
   |true=>
    have hrow:∀p∈P,Z3 p=true:=fun p hp=>List.all_eq_true.mp hr p hp
    obtain⟨l0,e0,hl0⟩:=a7O (hrow p0 (by rw [←hP];exact Ai))
    have hix:J4 (.val (.tuple P)) (.val (.int 0))=some (.val (row l0)):=by rw [←hP,b3r,e0]
    have hc2:V9 1 (F8 (b6 0)) (B8 1) Z0 a0C [some (.val (.tuple P))]=some (.own (P.map fun p=> .bool (a0D p==a0D p0))):=by
     refine a0Y (ι:=fun p=>p) P (by rw [a4R (r:= .val (.tuple P)) (ps:=P) rfl rfl,List.map_id']) hs fun p hp=>⟨_,rfl, ?_⟩
     obtain⟨l,rfl,hl⟩:=a7O (hrow p hp)
     unfold a0C
     simp (disch:=omega) only [l6,z6,i9,d9,l8,d7,AH,AW,AQ,AX,AY,Ab,Ac,a5K,b0m hl,hix,b0m hl0,e0,b0w]
     have:((l.length:Int)==(l0.length:Int))=(l.length==l0.length):=by rw [Bool.eq_iff_iff,beq_iff_eq,beq_iff_eq];lia
     rw [this]
    have hb:(P.map fun p=>PyData.bool (a0D p==a0D p0))=(P.map fun p=>a0D p==a0D p0).map .bool:=by rw [BA];rfl
    have hb2:(P.map fun p=>a0D p==a0D p0).all id=P.all fun p=>a0D p==a0D p0:=by rw [List.all_map];rfl
    simp (disch:=omega) only [z6,g9,m5,m8,B0,m6,j5,AH,Bool.not_true,hc2,hb,a3j,hb2,Bool.true_and]
  ·rw [decide_eq_false (show ¬(P.length:Int)≤24 by lia),decide_eq_false h2]
   simp (disch:=omega) only [i9,g9,m5,p5,z8,j5,AH,Bool.not_false,Bool.false_and]
theorem a9c{c:Nat}:∀{a b u v:List Nat},c∉a→c∉b→a++c::u=b++c::v→a=b∧u=v
 |[],[],u,v,_,_,h=>by simpa using h
 |[],y::b,u,v,_,hb,h=>by
  simp only [AY,AX,List.cons.injEq] at h
  exact absurd (by rw [h.1];exact Ai) hb
 |x::a,[],u,v,ha,_,h=>by
  simp only [AY,AX,List.cons.injEq] at h
  exact absurd (by rw [h.1];exact Ai) ha
 |x::a,y::b,u,v,ha,hb,h=>by
  simp only [AX,List.cons.injEq] at h
  obtain⟨e1,e2⟩:=a9c (fun z=>ha (Aj _ z)) (fun z=>hb (Aj _ z)) h.2
  exact⟨by rw [h.1,e1],e2⟩
theorem U5(c:Nat)(a b:List Nat)(r:List (List Nat)):A6 [c] (a::b::r)=a++c::A6 [c] (b::r):=by
 show a++[c]++A6 [c] (b::r)=_
 simp
theorem a5N{c:Nat}:∀{A B:List (List Nat)},A≠[]→B≠[]→(∀p∈A,c∉p)→(∀p∈B,c∉p)→A6 [c] A=A6 [c] B→A=B
 |[],_,h,_,_,_,_=>absurd rfl h
 |_,[],_,h,_,_,_=>absurd rfl h
 |[a],[b],_,_,_,_,h=>by
  have h:a=b:=h
  rw [h]
 |[a],b::b'::r,_,_,ha,_,h=>by
  rw [U5] at h
  have h:a=b++c::A6 [c] (b'::r):=h
  exact absurd (by rw [h];simp) (ha a Ai)
 |a::a'::r,[b],_,_,_,hb,h=>by
  rw [U5] at h
  have h:a++c::A6 [c] (a'::r)=b:=h
  exact absurd (by rw [←h];simp) (hb b Ai)
 |a::a'::r,b::b'::t,_,_,ha,hb,h=>by
  rw [U5,U5] at h
  obtain⟨e1,e2⟩:=a9c (ha a Ai) (hb b Ai) h
  have:=a5N (A:=a'::r) (B:=b'::t) (by simp) (by simp) (fun p hp=>ha p (Aj _ hp)) (fun p hp=>hb p (Aj _ hp)) e2
  rw [e1,this]
theorem b00{l:List Nat}{c:Nat}{R:List (List Nat)}(h0:R≠[])(h1:∀p∈R,c∉p)(h2:A6 [c] R=l):Txt.split (S l) (S [c])=R.map S:=by
 have f:=StrLaws.split_free (S l) c
 have j:=StrLaws.join_split (S l) (S [c])
 rw [show(⟨#[c]⟩:Str)=S [c] from rfl] at f
 generalize hT:Txt.split (S l) (S [c])=T at f j
 have e:T=(T.map fun z=>z.cps.toList).map S:=by
  rw [BA]
  conv=>lhs;rw [←List.map_id T]
  refine List.map_congr_left fun z _=> ?_
  exact(b6x z).symm
 have hT0:T≠[]:=by
  intro z
  rw [←hT] at z
  unfold Txt.split at z
  split at z
  ·cases z
  ·split at z
   ·cases z
   ·rw [StrLaws.partsBetween_eq] at z
    obtain⟨p,r,q⟩:=StrLaws.partsFrom_ne (S l) (S [c]).length 0 (Builtin.Str.occurrences (S l) (S [c]) 0 (S l).length ((S l).length+1))
    rw [q] at z;cases z
 rw [e] at j
 have j2:S (A6 [c] (T.map fun z=>z.cps.toList))=S l:=by
  rw [←b3D]
  show Builtin.Str.glued _ _=_
  rw [StrLaws.glued_eq_join]
  exact j
 have j3:=b2Z j2
 rw [←h2] at j3
 have:=a5N (c:=c) (A:=T.map fun z=>z.cps.toList) (B:=R) (by simpa using hT0) h0 (fun p hp=>by
  obtain⟨z,hz,rfl⟩:=BE.mp hp
  exact f z hz) h1 j3
 rw [e,this]
theorem b1M:AE "/"=S [47]:=by decide+kernel
theorem a5O(c:Nat):∀R:List (List Nat),R≠[]→(A6 [c] R).length+1=(R.map (·.length)).sum+R.length
 |[],h=>absurd rfl h
 |[a],_=>by simp [A6]
 |a::b::r,_=>by
  have:=a5O c (b::r) (by simp)
  rw [U5]
  simp only [AZ,AU,AM,List.sum_cons] at this ⊢
  lia
theorem b5H{R:List (List Nat)}{p:List Nat}(h:p∈R):p.length≤(R.map (·.length)).sum:=by
 induction R with
 |nil=>cases h
 |cons a r ih=>
  rw [AM,List.sum_cons]
  rcases Ak.mp h with rfl|h
  ·lia
  ·have:=ih h;lia
def okR(r0 l:List Nat):Bool:=(l.length==r0.length)&& l.all C9
def a6d:List (List Nat)→Bool
 |[]=>false
 |r0::R=>decide ((r0::R).length≤24)&&(rOk r0 &&(r0::R).all (okR r0))
def b4N(n:MX):FX→Option FX
 | .fl (.nx ρ)=>n ρ
 |f=>some f
def b8o(m n:MX)(ρ:d4)(b:Bool):Option FX:=if b=true then m ρ else n ρ
def b4v:FX→Option (g6 ⊕ Str)
 | .fl (.rt r)=>some (.inl r)
 | .fl (.nx _)=>some (.inl (.val .none))
 | .rz c _=>some (.inr c)
 |_=>none
theorem b2s(m n:MX)(ρ:d4):a9C m n ρ=(m ρ).bind (b4N n):=Eq.trans rfl rfl
theorem a92(n:MX)(ρ:d4):b4N n (.fl (.nx ρ))=n ρ:=Eq.trans rfl rfl
theorem b4O(n:MX)(c:Str)(ρ:d4):b4N n (.rz c ρ)=some (.rz c ρ):=Eq.trans rfl rfl
theorem b3O(c:MT)(m n:MX)(ρ:d4):b5O c m n ρ=(c ρ).bind (b8o m n ρ):=Eq.trans rfl rfl
theorem b8p(m n:MX)(ρ:d4):b8o m n ρ true=m ρ:=Eq.trans rfl rfl
theorem b4M(m n:MX)(ρ:d4):b8o m n ρ false=n ρ:=Eq.trans rfl rfl
theorem a9D(m:MS)(ρ:d4):a53 m ρ=(m ρ).map .fl:=Eq.trans rfl rfl
theorem b3Q(c:Str)(p:PV)(ρ:d4):b3P c (a8 (mC p) g5) ρ=some (.rz c ρ):=by
 unfold b3P
 simp (disch:=omega) only [i9,d8,d5,d7,AH,AU,Ag,↓reduceIte,sz,Nat.reduceAdd,Av]
theorem b4y(n:Nat)(b:MX)(ps:List PV):b4u n b ps=(b (ps.map (fun p=>some (g6.val p))++AR n none)).bind b4v:=Eq.trans rfl rfl
theorem b4w(r:g6):b4v (.fl (.rt r))=some (.inl r):=Eq.trans rfl rfl
theorem b4x(c:Str)(ρ:d4):b4v (.rz c ρ)=some (.inr c):=Eq.trans rfl rfl
theorem b5M{i:Nat}{g:List PV→Option (g6 ⊕ Str)}{m:MA}{ρ:d4}{ps:List PV}{p:PV}(h1:m ρ=some ps)(h2:g ps=some (.inl (.val p))):a3Z i g m ρ=some (.fl (.nx (ρ.set i (some (.val p))))):=by
 unfold a3Z b1c
 rw [h1,AH,h2]
 rfl
theorem b5N{i:Nat}{g:List PV→Option (g6 ⊕ Str)}{m:MA}{ρ:d4}{ps:List PV}{c:Str}(h1:m ρ=some ps)(h2:g ps=some (.inr c)):a3Z i g m ρ=some (.rz c ρ):=by
 unfold a3Z b1c
 rw [h1,AH,h2]
 rfl
theorem b5D{b:MX}{inm:Str→Bool}{hd:MS}{ρ ρ':d4}{c:Str}(h:b ρ=some (.rz c ρ'))(hc:inm c=true):b0z b inm hd ρ=hd ρ':=by
 unfold b0z
 rw [h,AH]
 exact if_pos hc
abbrev nc:Str:=AE "NoCloth"
theorem b8z{R:List (List Nat)}:a8f (R.map row)=a6d R:=by
 cases R with
 |nil=>rfl
 |cons r0 R=>
  show(decide (((r0::R).map row).length≤24)&&(((r0::R).map row).all Z3 &&((r0::R).map row).all fun q=>a0D q==a0D (row r0)))=(decide ((r0::R).length≤24)&&(rOk r0 &&(r0::R).all (okR r0)))
  rw [An,List.all_map,List.all_map]
  congr 1
  have e1:(Z3∘row)=rOk:=by funext l;exact a8O l
  have e2:((fun q=>a0D q==a0D (row r0))∘row)=fun l:List Nat=>l.length==r0.length:=by
   funext l
   show(a0D (row l)==a0D (row r0))=_
   rw [b0w,b0w]
  rw [e1,e2,Bool.eq_iff_iff]
  simp only [Bool.and_eq_true,List.all_eq_true]
  constructor
  ·rintro⟨h1,h2⟩
   refine⟨h1 r0 Ai,fun l hl=> ?_⟩
   have:=h1 l hl
   unfold rOk at this
   unfold okR
   simp only [Bool.and_eq_true] at this ⊢
   exact⟨h2 l hl,this.2.2⟩
  ·rintro⟨h1,h2⟩
   refine⟨fun l hl=> ?_,fun l hl=> ?_⟩
   ·have:=h2 l hl
    unfold okR at this
    unfold rOk at h1 ⊢
    simp only [Bool.and_eq_true,decide_eq_true_eq,beq_iff_eq] at this h1 ⊢
    exact⟨by lia,by lia,this.2⟩
   ·have:=h2 l hl
    unfold okR at this
    simp only [Bool.and_eq_true] at this
    exact this.1
theorem b6e{l:List Nat}{R:List (List Nat)}(hl:l.length≤10000)(h0:R≠[])(h1:∀p∈R,47∉p)(h2:A6 [47] R=l):M0 [row l]=some (if a6d R=true then .inl (.val (.tuple (R.map row))) else .inr nc):=by
 have hlen:=a5O 47 R h0
 rw [h2] at hlen
 have hsz:∀p∈R.map row,b6P p:=fun p hp=>by
  obtain⟨k,hk,rfl⟩:=BE.mp hp
  have:=b5H hk
  have:0<R.length:=List.length_pos_iff.mpr h0
  exact⟨k,rfl,by lia⟩
 have hs:a4o (.val (row l)) (.val (.str (S [47])))=some (.own (R.map row)):=by
  show(if(((S [47]).length==0)=false∧(S l).length≤AO∧(Txt.split (S l) (S [47])).length≤AO) then some (g6.own ((Txt.split (S l) (S [47])).map .str)) else none)=_
  rw [b00 h0 h1 h2,if_pos ⟨rfl,by rw [R9,sizeLine_eq];lia,by rw [An,sizeLine_eq];lia⟩,BA]
  rfl
 have hc:=a9s (ps:=R.map row) (by rw [An];lia) hsz
 rw [b8z] at hc
 unfold M0 a3F
 simp (disch:=omega) only [l6,z6,i9,d9,l8,d8,d5,d7,i3,n5,v7,m6,x8,E8,o9,a3O,AH,Af,AM,AT,AW,AQ,AX,AY,Ab,Ac,Bool.not_true,b0o,a9p,b1a,b4y,b2s,b3O,b1A,b4M,a9D,a92,b1M,hs,hc]
 cases a6d R with
 |true=>simp (disch:=omega) only [m6,AH,Af,↓reduceIte,Bool.not_true,a3W,a3X,b4M,a9D,a92,b4w]
 |false=>simp (disch:=omega) only [AH,↓reduceIte,Bool.not_false,Bool.false_eq_true,b8p,b3Q,b4O,b4x]
theorem b4E{R:List (List Nat)}(hl:(A6 [47] R).length≤10000)(h0:R≠[]):N3 [.tuple (R.map row)]=some (.val (row (A6 [47] R))):=by
 have hlen:=a5O 47 R h0
 unfold N3 a2Z
 simp (disch:=omega) only [l6,i9,d9,g9,m5,h9,j5,AH,AM,AT,AQ,Ae,AU,Ag,b1M,a5L (sep:=[47]) (rows:=R) (y:= .val (.tuple (R.map row))) rfl (by simp only [AU,Ag];lia)]
theorem b7A(a b:Nat):S3 (.val (row [a])) (.val (row [b]))=some (.val (.bool (decide (a≤b)))):=by
 show some (g6.val (.bool (!decide ((S [b]).cps.toList<(S [a]).cps.toList))))=_
 rw [a0N,a0N]
 congr 3
 have:([b]<[a])↔b<a:=by rw [List.cons_lt_cons_iff];simp
 by_cases h:a≤b
 ·rw [decide_eq_true h,decide_eq_false (fun z=>by have:=this.mp z;lia)];rfl
 ·rw [decide_eq_false h,decide_eq_true (this.mpr (by lia))];rfl
theorem a38{pre r:List Nat}{x:Nat}(hl:(pre++x::r).length≤10000):J4 (.val (row (pre++x::r))) (.val (.int (pre.length:Nat)))=some (.val (row [x])):=by
 refine b8J (by lia) ?_
 rw [b23,List.getElem?_append_right (AV _),Nat.sub_self]
 rfl
theorem a16{l:List Nat}(h:l.length≤10000):L6 (.val (row l))=some (.val (.int (l.length:Nat))):=by
 show(if(S l).length≤AO then some (g6.val (.int ((S l).length:Nat))) else none)=_
 rw [R9,if_pos (by rw [sizeLine_eq];lia)]
theorem a0h(a b:List Nat):gEq (.val (row a)) (.val (row b))=some (.val (.bool (a==b))):=by
 have h:=b1t a b
 rw [b3t (x:= .val (row a)) (y:= .val (row b)) ⟨rfl,rfl⟩] at h
 rw [b7k (x:= .val (row a)) (y:= .val (row b)) ⟨rfl,rfl⟩]
 have h:=Option.some.inj h
 injection h with h
 injection h with h
 rw [Bool.not_inj h]
theorem b44{pre ds post:List Nat}:cut (pre++(ds++post)) (some (pre.length:Nat)) (some ((pre.length+ds.length:Nat):Int))=ds:=by
 unfold cut
 have h1:HT.sIx (pre++(ds++post)).length 0 (some (pre.length:Nat))=pre.length:=by rw [HT.sIx_nat];simp
 have h2:HT.sIx (pre++(ds++post)).length (pre++(ds++post)).length (some ((pre.length+ds.length:Nat):Int))=pre.length+ds.length:=by
  rw [HT.sIx_nat];simp
 rw [h1,h2,List.drop_left,Nat.add_sub_cancel_left,List.take_left]
theorem a8Q{pre ds post:List Nat}(hT:(pre++(ds++post)).length≤10000):gSl (.val (row (pre++(ds++post)))) (some (pre.length:Nat)) (some ((pre.length+ds.length:Nat):Int))=some (.val (row ds)):=by
 show(if(S (pre++(ds++post))).length≤AO then some (g6.val (.str ⟨(cut (S (pre++(ds++post))).cps.toList (some (pre.length:Nat)) (some ((pre.length+ds.length:Nat):Int))).toArray⟩)) else none)=_
 rw [R9,if_pos (by rw [sizeLine_eq];lia),a0N,b44]
 rfl
theorem T1{pre s y:List Nat}:K3 (.val (row (pre++s))) (.val (row y)) (.val (.int (pre.length:Nat)))=some (.val (.bool (y.isPrefixOf s))):=by
 show some (g6.val (.bool _))=_
 congr 3
 have f:fromIndex (S (pre++s)).length (pre.length:Nat)=pre.length:=by
  unfold fromIndex
  rw [if_neg (by lia)]
  lia
 rw [f,R9,R9]
 unfold Builtin.Str.subAt
 rw [R9]
 have e:(S (pre++s)).cps.extract pre.length (pre.length+y.length)=(s.take y.length).toArray:=by
  apply Array.ext'
  rw [Array.toList_extract,a0N]
  simp [List.extract]
 rw [e]
 have e2:((s.take y.length).toArray==(S y).cps)=(s.take y.length==y):=by
  show((s.take y.length).toArray==y.toArray)=_
  simp
 rw [e2]
 cases h:y.isPrefixOf s with
 |true=>
  have h:=List.isPrefixOf_iff_prefix.mp h
  obtain⟨t,rfl⟩:=h
  simp
 |false=>
  have h:¬y<+:s:=fun z=>by rw [List.isPrefixOf_iff_prefix.mpr z] at h;cases h
  by_cases hl:pre.length+y.length≤(pre++s).length
  ·rw [decide_eq_true hl,Bool.true_and]
   have:s.take y.length≠y:=fun z=>h (z▸List.take_prefix _ _)
   simpa using this
  ·rw [decide_eq_false hl,Bool.false_and]
def m4(p:Nat→Bool):List Nat→List Nat×List Nat
 |[]=>([],[])
 |x::r=>if p x=true then(x::(m4 p r).1,(m4 p r).2) else([],x::r)
theorem D0(p:Nat→Bool):∀s:List Nat,s=(m4 p s).1++(m4 p s).2
 |[]=>rfl
 |x::r=>by
  unfold m4
  split
  ·rw [AX,←D0 p r]
  ·rfl
theorem P7(p:Nat→Bool):∀(s:List Nat),∀x∈(m4 p s).1,p x=true
 |[],x,h=>by cases h
 |y::r,x,h=>by
  unfold m4 at h
  split at h
  ·rename_i hy
   rcases Ak.mp h with rfl|h
   ·exact hy
   ·exact P7 p r x h
  ·cases h
theorem a1C(p:Nat→Bool):∀(s:List Nat) (y:Nat) (r:List Nat),(m4 p s).2=y::r→p y=false
 |[],y,r,h=>by cases h
 |x::s,y,r,h=>by
  unfold m4 at h
  split at h
  ·exact a1C p s y r h
  ·rename_i hx
   cases h
   simpa using hx
theorem a6A{lo hi:Nat}{post:List Nat}(hp:∀y r,post=y::r→¬(lo≤y∧y≤hi)){T:List Nat}(hT:T.length≤10000){q1:Option g6}:∀(ds pre:List Nat) (fuel:Nat),T=pre++(ds++post)→(∀x∈ds,lo≤x∧x≤hi)→ds.length<fuel→
 O6 (a52 (L3 (m2 a60 (b6 4) (m1 L6 (b6 0)))) (L3 (O4 S3 S3 (b6 2) (m2 J4 (b6 0) (b6 4)) (b6 3)))) W6 fuel [some (.val (row T)),q1,some (.val (row [lo])),some (.val (row [hi])),some (.val (.int (pre.length:Nat)))]
  =some (.nx [some (.val (row T)),q1,some (.val (row [lo])),some (.val (row [hi])),some (.val (.int ((pre.length+ds.length:Nat):Int)))])
 |[],pre,fuel,e,_,hf=>by
  obtain⟨fuel,rfl⟩:∃k,fuel=k+1:=⟨fuel - 1,by have:([]:List Nat).length=0:=rfl;lia⟩
  have gl:=a16 hT
  have c:a52 (L3 (m2 a60 (b6 4) (m1 L6 (b6 0)))) (L3 (O4 S3 S3 (b6 2) (m2 J4 (b6 0) (b6 4)) (b6 3))) [some (.val (row T)),q1,some (.val (row [lo])),some (.val (row [hi])),some (.val (.int (pre.length:Nat)))]=some false:=by
   cases post with
   |nil=>
    have hlt:decide ((pre.length:Int)<(T.length:Nat))=false:=decide_eq_false (by rw [e];simp)
    simp (disch:=omega) only [a17,l6,z6,d9,l8,l7,o0,P5,b0c,AH,gl,hlt]
   |cons y r=>
    have hlt:decide ((pre.length:Int)<(T.length:Nat))=true:=decide_eq_true (by rw [e];simp;lia)
    have sa:J4 (.val (row T)) (.val (.int (pre.length:Nat)))=some (.val (row [y])):=by rw [e];exact a38 (by rw [e] at hT;exact hT)
    have hy:=hp y r rfl
    by_cases h1:lo≤y
    ·have h2:decide (y≤hi)=false:=decide_eq_false fun z=>hy ⟨h1,z⟩
     simp (disch:=omega) only [a17,k4,U2,l6,z6,d9,l8,l7,o0,P5,a5y,AH,gl,hlt,sa,b7A,decide_eq_true h1,h2]
    ·simp (disch:=omega) only [a17,k4,a7o,l6,z6,d9,l8,l7,o0,P5,a5y,AH,gl,hlt,sa,b7A,decide_eq_false h1]
  rw [O6,c,AH,if_neg Aq]
  rfl
 |d::ds,pre,fuel,e,hd,hf=>by
  obtain⟨fuel,rfl⟩:∃k,fuel=k+1:=⟨fuel - 1,by rw [AU] at hf;lia⟩
  rw [AU] at hf
  have gl:=a16 hT
  have e':T=pre++d::(ds++post):=e
  have hlt:decide ((pre.length:Int)<(T.length:Nat))=true:=decide_eq_true (by rw [e'];simp;lia)
  have sa:J4 (.val (row T)) (.val (.int (pre.length:Nat)))=some (.val (row [d])):=by rw [e'];exact a38 (by rw [e'] at hT;exact hT)
  have hd1:=hd d Ai
  have c:a52 (L3 (m2 a60 (b6 4) (m1 L6 (b6 0)))) (L3 (O4 S3 S3 (b6 2) (m2 J4 (b6 0) (b6 4)) (b6 3))) [some (.val (row T)),q1,some (.val (row [lo])),some (.val (row [hi])),some (.val (.int (pre.length:Nat)))]=some true:=by
   simp (disch:=omega) only [a17,k4,U2,l6,z6,d9,l8,l7,o0,P5,a5y,AH,gl,hlt,sa,b7A,decide_eq_true hd1.1,decide_eq_true hd1.2]
  have b:W6 [some (.val (row T)),q1,some (.val (row [lo])),some (.val (row [hi])),some (.val (.int (pre.length:Nat)))]=some (.nx [some (.val (row T)),q1,some (.val (row [lo])),some (.val (row [hi])),some (.val (.int ((pre++[d]).length:Nat)))]):=by
   unfold W6 b5B
   show some _=_
   rw [AZ,List.length_singleton,Int.natCast_add]
   rfl
  have ih:=a6A hp hT (q1:=q1) ds (pre++[d]) fuel (by rw [e];simp) (fun x hx=>hd x (Aj _ hx)) (by lia)
  rw [O6,c,AH,if_pos rfl,b,AH]
  show O6 _ _ fuel _=_
  rw [ih,AZ,List.length_singleton,AU,show pre.length+1+ds.length=pre.length+(ds.length+1) by lia]
def isF(x:Nat):Bool:=decide (48≤x)&& decide (x≤57)
theorem a5j{x:Nat}:C9 x=true↔97≤x∧x≤122:=by unfold C9;simp
theorem a8v{x:Nat}:isF x=true↔48≤x∧x≤57:=by unfold isF;simp
theorem a8x{pre s:List Nat}(hT:(pre++s).length≤450):E4 [row (pre++s),.int (pre.length:Nat)]=some (.val (.int ((pre.length+(m4 C9 s).1.length:Nat):Int))):=by
 have ap:=D0 C9 s
 have hlen:(m4 C9 s).1.length≤s.length:=by have:=congrArg List.length ap;rw [AZ] at this;lia
 rw [AZ] at hT
 have e:=a6A (lo:=97) (hi:=122) (post:=(m4 C9 s).2) (fun y r h z=>by have:=a1C C9 s y r h;rw [a5j.mpr z] at this;cases this) (T:=pre++s) (by rw [AZ];lia) (q1:=some (.val (.int (pre.length:Nat)))) (m4 C9 s).1 pre 500 (by rw [←ap]) (fun x hx=>a5j.mp (P7 C9 s x hx)) (by lia)
 have s0:AE "a"=S [97]:=rfl
 have s9:AE "z"=S [122]:=rfl
 unfold E4 a2Y a0W a4j
 rw [s0,s9]
 simp (disch:=omega) only [i9,d9,l8,d8,d5,d7,i3,n5,v7,g9,m5,i8,m8,h9,j5,AH,AM,AT,AW,AQ,Ae,AX,AY,Ab,Ac,a3W,a3X,e]
theorem b1j{pre s:List Nat}(hT:(pre++s).length≤450):K0 [row (pre++s),.int (pre.length:Nat)]=some (.val (.int ((pre.length+(m4 isF s).1.length:Nat):Int))):=by
 have ap:=D0 isF s
 have hlen:(m4 isF s).1.length≤s.length:=by have:=congrArg List.length ap;rw [AZ] at this;lia
 rw [AZ] at hT
 have e:=a6A (lo:=48) (hi:=57) (post:=(m4 isF s).2) (fun y r h z=>by have:=a1C isF s y r h;rw [a8v.mpr z] at this;cases this) (T:=pre++s) (by rw [AZ];lia) (q1:=some (.val (.int (pre.length:Nat)))) (m4 isF s).1 pre 500 (by rw [←ap]) (fun x hx=>a8v.mp (P7 isF s x hx)) (by lia)
 have s0:AE "0"=S [48]:=rfl
 have s9:AE "9"=S [57]:=rfl
 unfold K0 a2X a0W a4j
 rw [s0,s9]
 simp (disch:=omega) only [i9,d9,l8,d8,d5,d7,i3,n5,v7,g9,m5,i8,m8,h9,j5,AH,AM,AT,AW,AQ,Ae,AX,AY,Ab,Ac,a3W,a3X,e]
inductive Mo where
 |plain (rows:List (List Nat))|named (w:List Nat)|beside (ps:List Mo)|above (ps:List Mo)|across (k:Nat) (p:Mo)|down (k:Nat) (p:Mo)|turned (w:List Nat) (p:Mo)|dyed (a b:Nat) (p:Mo)
mutual
def z7:Mo→PV
 | .plain rows=>obV (AE "Plain") [(.str (AE "rows"),.tuple (rows.map row))]
 | .named w=>obV (AE "Named") [(.str (AE "name"),row w)]
 | .beside ps=>obV (AE "Beside") [(.str (AE "parts"),.tuple (b2E ps))]
 | .above ps=>obV (AE "Above") [(.str (AE "parts"),.tuple (b2E ps))]
 | .across k p=>obV (AE "Across") [(.str (AE "many"),.int (k:Nat)),(.str (AE "part"),z7 p)]
 | .down k p=>obV (AE "Down") [(.str (AE "many"),.int (k:Nat)),(.str (AE "part"),z7 p)]
 | .turned w p=>obV (AE "Turned") [(.str (AE "way"),row w),(.str (AE "part"),z7 p)]
 | .dyed a b p=>obV (AE "Dyed") [(.str (AE "one"),row [a]),(.str (AE "other"),row [b]),(.str (AE "part"),z7 p)]
def b2E:List Mo→List PV
 |[]=>[]
 |p::ps=>z7 p::b2E ps
end
theorem a2m:∀ps:List Mo,b2E ps=ps.map z7
 |[]=>by rw [b2E];rfl
 |p::ps=>by rw [b2E,a2m ps];rfl
def C8:List Nat→List (List Nat)
 |[]=>[[]]
 |x::r=>if x=47 then []::C8 r else match C8 r with
  |h::t=>(x::h)::t
  |[]=>[[x]]
theorem a2M:∀l:List Nat,C8 l≠[]
 |[]=>by simp [C8]
 |x::r=>by
  unfold C8
  split
  ·simp
  ·split<;>simp
theorem a4E:∀(l:List Nat),∀p∈C8 l,47∉p
 |[],p,h=>by
  have:p=[]:=by simpa [C8] using h
  subst this;simp
 |x::r,p,h=>by
  have ih:=a4E r
  unfold C8 at h
  split at h
  ·rcases Ak.mp h with rfl|h
   ·simp
   ·exact ih p h
  ·rename_i hx
   split at h
   ·rename_i q t e
    rcases Ak.mp h with rfl|h
    ·have:=ih q (by rw [e];exact Ai)
     simp only [Ak,not_or]
     exact⟨fun z=>hx z.symm,this⟩
    ·exact ih p (by rw [e];exact Aj _ h)
   ·rename_i e
    exact absurd e (a2M r)
theorem a2A:∀l:List Nat,A6 [47] (C8 l)=l
 |[]=>rfl
 |x::r=>by
  have ih:=a2A r
  have ne:=a2M r
  unfold C8
  split
  ·rename_i hx
   cases e:C8 r with
   |nil=>exact absurd e ne
   |cons h t=>rw [U5,←e,ih,hx];rfl
  ·cases e:C8 r with
   |nil=>exact absurd e ne
   |cons h t=>
    dsimp only
    rw [e] at ih
    cases t with
    |nil=>
     have:h=r:=by rw [←ih];simp [A6]
     rw [this];simp [A6]
    |cons b t=>
     rw [U5] at ih ⊢
     rw [AX,ih]
def A0:List Nat:=[98,101,115,105,100,101]
def R7:List Nat:=[97,98,111,118,101]
def C4:List Nat:=[97,99,114,111,115,115]
def a4c:List Nat:=[100,111,119,110]
def b07:List Nat:=[100,121,101]
def a39:List (List Nat):=[[116,117,114,110],[104,97,108,102],[98,97,99,107],[115,105,100,101],[102,108,105,112],[99,114,111,115,115],[111,116,104,101,114]]
def b4V:List (List Nat):=[A0,R7,C4,a4c]++(a39++[b07])
theorem b06:a5p= .tuple (b4V.map row):=by kernel_rfl
theorem a8U:a02= .tuple (a39.map row):=by kernel_rfl
abbrev a41(ds:List Nat):Nat:=PySem.NumText.digitsVal ds
def a6c(ds:List Nat):Option Nat:=if(decide (1≤ds.length)&& decide (ds.length≤4))=true then if(ds.head?==some 48 && decide (1<ds.length))=true then none else if(decide (1≤a41 ds)&& decide (a41 ds≤24))=true then some (a41 ds) else none else none
def a7E(w:List Nat):Bool:=(decide (1≤w.length)&& decide (w.length≤8))&& !(b4V.contains w)
def J5(mot:List Nat→Option (Mo×List Nat))(s:List Nat):Option (Mo×List Nat):=match mot s with
 |some (m,41::r)=>some (m,r)
 |_=>none
def E7(mot:List Nat→Option (Mo×List Nat)):Nat→List Nat→Option (List Mo×List Nat)
 |0,_=>none
 |k+1,s=>match mot s with
  |none=>none
  |some (m,r)=>match r with
   |44::32::r'=>match E7 mot k r' with
    |some (ms,e)=>some (m::ms,e)
    |none=>none
   |_=>some ([m],r)
def a0X(mot:List Nat→Option (Mo×List Nat))(w s:List Nat):Option (Mo×List Nat):=match E7 mot 500 s with
 |some (ps,41::r)=>if(decide (2≤ps.length)&& decide (ps.length≤6))=true then some (if w=A0 then .beside ps else .above ps,r) else none
 |_=>none
def a9S(mot:List Nat→Option (Mo×List Nat))(w s:List Nat):Option (Mo×List Nat):=match(m4 isF s).2 with
 |44::32::r=>match a6c (m4 isF s).1 with
  |some k=>match J5 mot r with
   |some (m,e)=>some (if w=C4 then .across k m else .down k m,e)
   |none=>none
  |none=>none
 |_=>none
def a7T(mot:List Nat→Option (Mo×List Nat))(w s:List Nat):Option (Mo×List Nat):=match J5 mot s with
 |some (m,e)=>some (.turned w m,e)
 |none=>none
def a3h:List Nat→Bool
 |c::44::32::_=>C9 c
 |_=>false
def b0i(mot:List Nat→Option (Mo×List Nat))(s:List Nat):Option (Mo×List Nat):=match s with
 |a::44::32::b::44::32::r=>if(C9 a && C9 b)=true then match J5 mot r with
  |some (m,e)=>some (.dyed a b m,e)
  |none=>none
  else none
 |_=>none
def a1H(mot:List Nat→Option (Mo×List Nat))(w s:List Nat):Option (Mo×List Nat):=
 if w=A0∨w=R7 then a0X mot w s else if w=C4∨w=a4c then a9S mot w s else if a39.contains w=true then a7T mot w s else if w=b07 then b0i mot s else none
def a2k(r:List Nat):Option (Mo×List Nat):=match(m4 (· !=93) r).2 with
 |_::e=>if a6d (C8 (m4 (· !=93) r).1)=true then some (.plain (C8 (m4 (· !=93) r).1),e) else none
 |[]=>none
def M1:Nat→List Nat→Option (Mo×List Nat)
 |0,_=>none
 |n+1,s=>match s with
  |91::r=>a2k r
  |s=>match(m4 C9 s).2 with
   |40::r=>a1H (M1 n) (m4 C9 s).1 r
   |r=>if a7E (m4 C9 s).1=true then some (.named (m4 C9 s).1,r) else none
def a4V(t:List Nat):Option Mo:=match M1 8 t with
 |some (m,[])=>some m
 |_=>none
theorem a3s{p:Nat→Bool}:∀{w:List Nat},(∀x∈w,p x=true)→m4 p w=(w,[])
 |[],_=>rfl
 |x::r,h=>by
  unfold m4
  rw [if_pos (h x Ai),a3s fun y hy=>h y (Aj _ hy)]
theorem a8k(a b:List Nat):PyData.eqv (row a) (row b)=(a==b):=by
 show(S a==S b)=_
 rw [Bool.eq_iff_iff,beq_iff_eq,beq_iff_eq]
 exact⟨fun h=>b2Z h,fun h=>by rw [h]⟩
theorem b1w(neg:Bool)(w:List Nat)(W:List (List Nat))(hok:Q5 (W.map row) 50=true):a9j neg (.val (row w)) (.val (.tuple (W.map row)))=some (.val (.bool (if neg=true then !(W.contains w) else W.contains w))):=by
 have h0:a9j neg (.val (row w)) (.val (.tuple (W.map row)))=gIn neg (.val (row w)) (.val (.tuple (W.map row))):=rfl
 have any:∀l:List (List Nat),((l.map row).any fun p=>PyData.eqv p (row w))=l.contains w:=by
  intro l
  induction l with
  |nil=>rfl
  |cons z l ih=>
   rw [AM,List.any_cons,ih,List.contains_cons,a8k]
   congr 1
   rw [Bool.eq_iff_iff,beq_iff_eq,beq_iff_eq];exact⟨fun h=>h.symm,fun h=>h.symm⟩
 rw [h0]
 show(if A7 (row w) 50=true∧Q5 (W.map row) 50=true then some (g6.val (.bool (if neg=true then !((W.map row).any fun p=>PyData.eqv p (row w)) else((W.map row).any fun p=>PyData.eqv p (row w))))) else none)=_
 rw [if_pos ⟨rfl,hok⟩,any]
theorem b2N{w:List Nat}(hw:∀x∈w,C9 x=true)(hl:w.length≤450):N5 [row w]=some (.val (.bool (decide (1≤w.length)&& decide (w.length≤8)))):=by
 have le:=a8x (pre:=[]) (s:=w) (by simpa using hl)
 rw [a3s hw,AY,Ag,Nat.zero_add] at le
 have le:E4 [row w,.int 0]=some (.val (.int (w.length:Nat))):=le
 have gl:=a16 (l:=w) (by lia)
 have ee:gEq (.val (.int (w.length:Nat))) (.val (.int (w.length:Nat)))=some (.val (.bool true)):=by simp (disch:=omega) only [beq_self_eq_true,a5K]
 have c8:R4= .int 8:=rfl
 unfold N5 a1G
 rw [c8]
 by_cases h1:(1:Int)≤(w.length:Nat)
 ·have d1:decide (1≤w.length)=true:=decide_eq_true (by lia)
  by_cases h2:((w.length:Nat):Int)≤8
  ·have d2:decide (w.length≤8)=true:=decide_eq_true (by lia)
   simp (disch:=omega) only [E3,k4,U2,l6,z6,i9,d9,d8,d5,d7,i3,g9,m5,h9,j5,Y9,b0d,AH,AM,AT,AQ,Ae,beq_self_eq_true,a5K,gl,le,decide_eq_true h1,decide_eq_true h2,d1,d2,k4]
   try rfl
  ·have d2:decide (w.length≤8)=false:=decide_eq_false (by lia)
   simp (disch:=omega) only [E3,k4,U2,z6,i9,d9,g9,m5,h9,j5,Y9,a76,AH,AM,AT,AQ,Ae,gl,le,decide_eq_true h1,decide_eq_false h2,d1,d2,k4]
   try rfl
 ·have d1:decide (1≤w.length)=false:=decide_eq_false (by lia)
  simp (disch:=omega) only [E3,k4,a7o,z6,i9,d9,g9,m5,h9,j5,Y9,a76,AH,AM,AT,AQ,Ae,gl,le,decide_eq_false h1,d1,k4]
  try rfl
theorem okW:Q5 (b4V.map row) 50=true:=by decide+kernel
theorem okT:Q5 (a39.map row) 50=true:=by decide+kernel
theorem b5P{w:List Nat}(hw:∀x∈w,C9 x=true)(hl:w.length≤450):a2H [row w]=some (.val (.bool (a7E w))):=by
 have h1:=b2N hw hl
 have h2:=b1w true w b4V okW
 unfold a2H a7h a7E
 rw [b06]
 cases hs:(decide (1≤w.length)&& decide (w.length≤8)) with
 |false=>
  rw [hs] at h1
  simp (disch:=omega) only [d9,d8,d5,d7,i3,g9,m5,h9,j5,Y9,a76,AH,AM,AT,AQ,Ae,h1]
  try rfl
 |true=>
  rw [hs] at h1
  simp (disch:=omega) only [l6,i9,d9,d8,d5,d7,i3,g9,m5,h9,j5,Y9,b0d,AH,AM,AT,AQ,Ae,↓reduceIte,h1,h2]
  try rfl
def b8W:Option Nat→PV
 |some k=> .int (k:Nat)
 |none=> .none
theorem b1y{ds:List Nat}(hd:∀x∈ds,isF x=true)(h1:1≤ds.length)(h4:ds.length≤4):a9k (.val (row ds))=some (.val (.int (a41 ds:Nat))):=by
 show(if(S ds).length≤640 then(intText? (S ds)).map (fun n=>g6.val (.int n)) else none)=_
 rw [R9,if_pos (by lia)]
 have:=PySem.intText_digits (x:=S ds) (by rw [a0N];exact fun c hc=>a8v.mp (hd c hc)) (by rw [a0N];intro z;rw [z] at h1;cases h1) (by rw [R9];lia)
 rw [this,a0N]
 rfl
theorem b2t{ds:List Nat}(hd:∀x∈ds,isF x=true)(hl:ds.length≤450):a0i [row ds]=some (.val (if(decide (1≤ds.length)&& decide (ds.length≤4))=true then if(ds.head?==some 48 && decide (1<ds.length))=true then .none else .int (a41 ds:Nat) else .none)):=by
 have fe:=b1j (pre:=[]) (s:=ds) (by simpa using hl)
 rw [a3s hd,AY,Ag,Nat.zero_add] at fe
 have fe:K0 [row ds,.int 0]=some (.val (.int (ds.length:Nat))):=fe
 have gl:=a16 (l:=ds) (by lia)
 have ne:gNe (.val (.int (ds.length:Nat))) (.val (.int (ds.length:Nat)))=some (.val (.bool false)):=by simp (disch:=omega) only [Bool.not_true,beq_self_eq_true,b1s]
 have c4:R5= .int 4:=rfl
 unfold a0i a4I
 rw [c4]
 by_cases h1:(1:Int)≤(ds.length:Nat)
 ·have d1:decide (1≤ds.length)=true:=decide_eq_true (by lia)
  by_cases h2:((ds.length:Nat):Int)≤4
  ·have d2:decide (ds.length≤4)=true:=decide_eq_true (by lia)
   have it:=b1y hd (by lia) (by lia)
   obtain⟨d,r,e⟩:∃d r,ds=d::r:=by
    cases ds with
    |nil=>exact absurd h1 (by simp)
    |cons d r=>exact⟨d,r,rfl⟩
   have ix:J4 (.val (row ds)) (.val (.int 0))=some (.val (row [d])):=by
    have:=a38 (pre:=[]) (x:=d) (r:=r) (by rw [AY,←e];lia)
    rw [AY,←e] at this
    exact this
   have s0:AE "0"=S [48]:=rfl
   have e0:=a0h [d] [48]
   have hh:(ds.head?==some 48)=([d]==[48]):=by rw [e];simp
   rw [s0,d1,d2,hh]
   by_cases h3:(1:Int)<(ds.length:Nat)
   ·have d3:decide (1<ds.length)=true:=decide_eq_true (by lia)
    rw [d3]
    cases hq:([d]==[48]) with
    |true=>
     rw [hq] at e0
     simp (disch:=omega) only [b0l,E3,k4,U2,l6,z6,i9,d9,d8,d5,d7,i3,g9,m5,i8,m8,p5,j1,z8,B0,m6,h9,j5,l7,o0,o9,n6,P5,C6,a5y,AH,Af,AM,AT,AQ,Ae,Bool.not_true,gl,fe,ne,decide_eq_true h1,decide_eq_true h2,ix,e0,decide_eq_true h3,k4]
     try rfl
    |false=>
     rw [hq] at e0
     simp (disch:=omega) only [E3,k4,U2,l6,z6,i9,d9,d8,d5,d7,i3,g9,m5,i8,m8,j1,B0,m6,h9,j5,l7,o0,o9,n6,P5,C6,b0c,AH,Af,AM,AT,AQ,Ae,Bool.not_true,gl,fe,ne,decide_eq_true h1,decide_eq_true h2,ix,e0,it,k4]
     try rfl
   ·have d3:decide (1<ds.length)=false:=decide_eq_false (by lia)
    rw [d3]
    cases hq:([d]==[48]) with
    |true=>
     rw [hq] at e0
     simp (disch:=omega) only [b0l,E3,k4,U2,l6,z6,i9,d9,d8,d5,d7,i3,g9,m5,i8,m8,j1,B0,m6,h9,j5,l7,o0,o9,n6,P5,C6,a5y,AH,Af,AM,AT,AQ,Ae,Bool.not_true,gl,fe,ne,decide_eq_true h1,decide_eq_true h2,ix,e0,decide_eq_false h3,it,k4]
     try rfl
    |false=>
     rw [hq] at e0
     simp (disch:=omega) only [E3,k4,U2,l6,z6,i9,d9,d8,d5,d7,i3,g9,m5,i8,m8,j1,B0,m6,h9,j5,l7,o0,o9,n6,P5,C6,b0c,AH,Af,AM,AT,AQ,Ae,Bool.not_true,gl,fe,ne,decide_eq_true h1,decide_eq_true h2,ix,e0,it,k4]
     try rfl
  ·have d2:decide (ds.length≤4)=false:=decide_eq_false (by lia)
   rw [d1,d2]
   simp (disch:=omega) only [E3,k4,U2,z6,i9,d9,g9,m5,i8,p5,j1,z8,h9,j5,l7,o0,o9,n6,a2i,AH,Af,AM,AT,AQ,Ae,Bool.not_false,gl,decide_eq_true h1,decide_eq_false h2,k4]
   try rfl
 ·have d1:decide (1≤ds.length)=false:=decide_eq_false (by lia)
  rw [d1]
  simp (disch:=omega) only [E3,k4,a7o,z6,i9,d9,g9,m5,i8,p5,j1,z8,h9,j5,l7,o0,o9,n6,a2i,AH,Af,AM,AT,AQ,Ae,Bool.not_false,gl,decide_eq_false h1,k4]
  try rfl
theorem b3A:M6 false (.val .none) (.val .none)=some (.val (.bool true)):=Eq.trans rfl rfl
theorem a7y(i:Int):M6 false (.val (.int i)) (.val .none)=some (.val (.bool false)):=Eq.trans rfl rfl
theorem b4Z{ds:List Nat}(hd:∀x∈ds,isF x=true)(hl:ds.length≤450):L9 [row ds,.int 1,.int 24]=some (.val (b8W (a6c ds))):=by
 have hn:=b2t hd hl
 unfold L9 a0P a6c
 cases c1:(decide (1≤ds.length)&& decide (ds.length≤4)) with
 |false=>
  rw [c1] at hn
  rw [if_neg Aq] at hn ⊢
  simp (disch:=omega) only [l6,i9,d9,l8,d8,d5,d7,i3,n5,v7,g9,m5,i8,m8,p5,j1,z8,h9,j5,l7,o0,n6,a2i,AH,AM,AT,AW,AQ,AX,AY,Ab,Ac,hn,b3A]
  try rfl
 |true=>
  rw [c1,if_pos rfl] at hn
  rw [if_pos rfl]
  cases c2:(ds.head?==some 48 && decide (1<ds.length)) with
  |true=>
   rw [c2,if_pos rfl] at hn
   rw [if_pos rfl]
   simp (disch:=omega) only [l6,i9,d9,l8,d8,d5,d7,i3,n5,v7,g9,m5,i8,m8,p5,j1,z8,h9,j5,l7,o0,n6,a2i,AH,AM,AT,AW,AQ,AX,AY,Ab,Ac,hn,b3A]
   try rfl
  |false=>
   rw [c2,if_neg Aq] at hn
   rw [if_neg Aq]
   by_cases h1:(1:Int)≤(a41 ds:Nat)
   ·have d1:decide (1≤a41 ds)=true:=decide_eq_true (by lia)
    by_cases h2:((a41 ds:Nat):Int)≤24
    ·have d2:decide (a41 ds≤24)=true:=decide_eq_true (by lia)
     rw [d1,d2]
     simp (disch:=omega) only [E3,k4,U2,l6,i9,d9,l8,d8,d5,d7,i3,n5,v7,i8,m8,j1,B0,m6,h9,j5,l7,o0,o9,n6,C6,AH,Af,AM,AT,AW,AQ,AX,AY,Ab,Ac,Bool.not_true,a3W,a3X,hn,a7y,decide_eq_true h1,decide_eq_true h2,k4]
     try rfl
    ·have d2:decide (a41 ds≤24)=false:=decide_eq_false (by lia)
     rw [d1,d2]
     simp (disch:=omega) only [E3,k4,U2,l6,i9,d9,l8,d8,d5,d7,i3,n5,v7,g9,m5,i8,m8,p5,j1,z8,h9,j5,l7,o0,o9,n6,C6,AH,Af,AM,AT,AW,AQ,AX,AY,Ab,Ac,Bool.not_false,hn,a7y,decide_eq_true h1,decide_eq_false h2,k4]
     try rfl
   ·have d1:decide (1≤a41 ds)=false:=decide_eq_false (by lia)
    rw [d1]
    simp (disch:=omega) only [E3,k4,a7o,l6,i9,d9,l8,d8,d5,d7,i3,n5,v7,g9,m5,i8,m8,p5,j1,z8,h9,j5,l7,o0,o9,n6,C6,AH,Af,AM,AT,AW,AQ,AX,AY,Ab,Ac,Bool.not_false,hn,a7y,decide_eq_false h1,k4]
    try rfl
theorem W3:AE ", "=S [44,32]:=by decide+kernel
theorem a9O(s:List Nat):([44,32].isPrefixOf s)=true↔∃r,s=44::32::r:=by
 rw [List.isPrefixOf_iff_prefix]
 exact⟨fun⟨r,h⟩=>⟨r,h.symm⟩,fun⟨r,h⟩=>⟨r,h.symm⟩⟩
theorem a9N(c:Nat)(s:List Nat):([c].isPrefixOf s)=true↔∃r,s=c::r:=by
 rw [List.isPrefixOf_iff_prefix]
 exact⟨fun⟨r,h⟩=>⟨r,h.symm⟩,fun⟨r,h⟩=>⟨r,h.symm⟩⟩
def a2B(s:List Nat):Bool:=(a6c (m4 isF s).1).isSome &&([44,32].isPrefixOf (m4 isF s).2)
theorem b8N(o:Option Nat):M6 false (.val (b8W o)) (.val .none)=some (.val (.bool (!o.isSome))):=by cases o<;>rfl
theorem b4I{pre s:List Nat}(hT:(pre++s).length≤450):U4 [row (pre++s),.int (pre.length:Nat)]=some (.val (if a2B s=true then .int ((pre.length+(m4 isF s).1.length:Nat):Int) else .none)):=by
 have fe:=b1j (pre:=pre) (s:=s) hT
 have ap:=D0 isF s
 obtain⟨ds,hds⟩:∃ds,ds=(m4 isF s).1:=⟨_,rfl⟩
 obtain⟨po,hpo⟩:∃po,po=(m4 isF s).2:=⟨_,rfl⟩
 have hall:=P7 isF s
 unfold a2B
 rw [←hds] at fe hall ap ⊢
 rw [←hpo] at ap ⊢
 subst ap
 have hl:ds.length≤450:=by rw [AZ,AZ] at hT;lia
 have sl:=a8Q (pre:=pre) (ds:=ds) (post:=po) (by lia)
 have be:=b4Z hall hl
 have st:=T1 (pre:=pre++ds) (s:=po) (y:=[44,32])
 rw [List.append_assoc,AZ] at st
 have c24:X2= .int 24:=rfl
 unfold U4 a4J
 rw [c24,W3]
 have io:=b8N (a6c ds)
 cases hn:(a6c ds).isSome with
 |false=>
  rw [hn] at io
  simp (disch:=omega) only [l6,i9,d9,l8,d8,d5,d7,i3,n5,v7,g9,m5,i8,m8,p5,j1,z8,h9,j5,l7,o0,n6,a2i,AH,AM,AT,AW,AQ,AX,AY,Ab,Ac,Bool.not_false,E5,E6,T6,fe,sl,be,io]
  try rfl
 |true=>
  rw [hn] at io
  cases hp:([44,32].isPrefixOf po) with
  |false=>
   rw [hp] at st
   simp (disch:=omega) only [l6,i9,d9,l8,d8,d5,d7,i3,n5,v7,g9,m5,i8,m8,p5,j1,z8,h9,j5,x8,l7,o0,E8,o9,n6,C6,AH,Af,AM,AT,AW,AQ,AX,AY,Ab,Ac,Bool.not_true,Bool.not_false,E5,E6,T6,fe,sl,be,io,st,m3]
   try rfl
  |true=>
   rw [hp] at st
   simp (disch:=omega) only [l6,i9,d9,l8,d8,d5,d7,i3,n5,v7,i8,m8,j1,B0,m6,h9,j5,x8,l7,o0,E8,o9,n6,C6,AH,Af,AM,AT,AW,AQ,AX,AY,Ab,Ac,Bool.not_true,E5,E6,T6,a3W,a3X,fe,sl,be,io,st,m3]
   try rfl
theorem a7p{pre s:List Nat}(hT:(pre++s).length≤450):G5 [row (pre++s),.int (pre.length:Nat)]=some (.val (.bool (a3h s))):=by
 have le:=a8x (pre:=pre) (s:=s) hT
 unfold G5 a1Y
 rw [W3]
 have hcast:((pre.length:Nat):Int)+1=((pre.length+1:Nat):Int):=by lia
 have g0:∀n:Nat,gEq (.val (.int ((pre.length+n:Nat):Int))) (.val (.int ((pre.length+1:Nat):Int)))=some (.val (.bool (decide (n=1)))):=fun n=>by
  simp (disch:=omega) only [a5K]
  by_cases h:n=1
  ·subst h;simp
  ·have:¬((pre.length+n:Nat):Int)=((pre.length+1:Nat):Int):=by lia
   rw [decide_eq_false h]
   simpa using this
 by_cases h1:(m4 C9 s).1.length=1
 ·have ap:=D0 C9 s
  obtain⟨c,hc⟩:=List.length_eq_one_iff.mp h1
  have hall:=P7 C9 s c (by rw [hc];exact Ai)
  rw [hc] at ap
  obtain⟨po,hpo⟩:∃po,po=(m4 C9 s).2:=⟨_,rfl⟩
  rw [←hpo] at ap
  have st:=T1 (pre:=pre++[c]) (s:=po) (y:=[44,32])
  rw [List.append_assoc,←ap,AZ,List.length_singleton] at st
  have g1:=g0 (m4 C9 s).1.length
  rw [decide_eq_true h1] at g1
  have hcol:a3h s=[44,32].isPrefixOf po:=by
   rw [ap]
   cases hp:([44,32].isPrefixOf po) with
   |true=>
    obtain⟨r,rfl⟩:=(a9O po).mp hp
    exact hall
   |false=>
    show a3h (c::po)=false
    unfold a3h
    split
    ·rename_i d r e
     cases e
     rw [(a9O _).mpr ⟨r,rfl⟩] at hp;cases hp
    ·rfl
  rw [hcol]
  simp (disch:=omega) only [z9,l6,i9,d9,l8,d8,d5,d7,i3,g9,m5,h9,j5,Y9,b0d,AH,AM,AT,AQ,Ae,le,hcast,g1,st,m3]
  try rfl
 ·have g1:=g0 (m4 C9 s).1.length
  rw [decide_eq_false h1] at g1
  have hcol:a3h s=false:=by
   unfold a3h
   split
   ·rename_i d r
    cases hd:C9 d with
    |false=>rfl
    |true=>
     refine absurd ?_ h1
     have:C9 44=false:=rfl
     simp [m4,hd,this]
   ·rfl
  rw [hcol]
  simp (disch:=omega) only [z9,l6,i9,d9,l8,d8,d5,d7,i3,g9,m5,h9,j5,Y9,a76,AH,AM,AT,AQ,Ae,le,hcast,g1]
  try rfl
theorem b5d{pre s:List Nat}{c:Nat}:b1k (S (pre++s)) (S [c]) (pre.length:Nat)=if(m4 (· !=c) s).2=[] then -1 else((pre.length+(m4 (· !=c) s).1.length:Nat):Int):=by
 have sp:=PySem.StrLaws.find3_spec (S (pre++s)) c (pre.length:Nat)
 have f:fromIndex (S (pre++s)).length (pre.length:Nat)=pre.length:=by
  unfold fromIndex
  rw [if_neg (by lia)]
  lia
 have gd:∀v,(S (pre++s)).cps.getD v 0=(pre++s).getD v 0:=fun v=>by simp [S,Array.getD,List.getD_eq_getElem?_getD];split<;>simp_all
 rw [f,R9] at sp
 simp only [gd] at sp
 have ap:=D0 (· !=c) s
 have ha:=P7 (· !=c) s
 have hs:=a1C (· !=c) s
 obtain⟨a,hA⟩:∃a,a=(m4 (· !=c) s).1:=⟨_,rfl⟩
 obtain⟨b,hB⟩:∃b,b=(m4 (· !=c) s).2:=⟨_,rfl⟩
 rw [←hA] at ap ha ⊢
 rw [←hB] at ap hs ⊢
 subst ap
 have show_:b1k (S (pre++(a++b))) (S [c]) (pre.length:Nat)=Txt.find3 (S (pre++(a++b))) ⟨#[c]⟩ (pre.length:Nat):=rfl
 rw [show_]
 have inA:∀v,pre.length≤v→v<pre.length+a.length→(pre++(a++b)).getD v 0≠c:=fun v h1 h2=>by
  rw [List.getD_eq_getElem?_getD,List.getElem?_append_right h1,Az (by lia),Ay (by lia)]
  have:=ha _ (List.getElem_mem (l:=a) (n:=v - pre.length) (by lia))
  simpa using this
 cases hb:b with
 |nil=>
  rw [if_pos rfl]
  rcases sp with⟨h,_⟩|⟨k,_,h2,h3,h4,_⟩
  ·rw [hb] at h;exact h
  ·exfalso
   rw [hb] at h3
   simp at h3
   exact inA k h2 (by lia) h4
 |cons y r=>
  rw [if_neg (by simp)]
  have hy:y=c:=by have:=hs y r hb;simpa using this
  have aty:(pre++(a++b)).getD (pre.length+a.length) 0=c:=by
   rw [hb,List.getD_eq_getElem?_getD,List.getElem?_append_right (by lia),List.getElem?_append_right (by lia),show pre.length+a.length - pre.length - a.length=0 by lia]
   exact hy
  rcases sp with⟨_,h⟩|⟨k,h1,h2,h3,h4,h5⟩
  ·exact absurd aty (h _ (by lia) (by rw [hb];simp))
  ·rw [hb] at h1
   rw [h1]
   have hk1:¬k<pre.length+a.length:=fun z=>inA k h2 z h4
   have hk2:¬pre.length+a.length<k:=fun z=>h5 _ (by lia) z aty
   have:k=pre.length+a.length:=by lia
   rw [this]
theorem b5C{b:MX}{inm:Str→Bool}{hd:MS}{ρ:d4}{f:Fl}(h:b ρ=some (.fl f)):b0z b inm hd ρ=some f:=by
 unfold b0z
 rw [h]
 rfl
def K1(T:List Nat):Option (Mo×List Nat)→PV
 |none=> .none
 |some (m,r)=> .tuple [z7 m,.int ((T.length - r.length:Nat):Int)]
theorem a8e:AE "]"=S [93]:=by decide+kernel
theorem b5J(m:M)(ρ:d4)(R:List (List Nat))(h:m ρ=some (.val (.tuple (R.map row)))):V4 (AE "Plain") [AE "rows"] (a8 m g5) ρ=some (.val (z7 (.plain R))):=by
 unfold V4 a8
 rw [h]
 show some (g6.val _)=_
 rw [z7]
 rfl
theorem b4e{pre r:List Nat}(hT:(pre++91::r).length≤450):a1g [row (pre++91::r),.int (pre.length:Nat)]=some (.val (K1 (pre++91::r) (a2k r))):=by
 obtain⟨T,eT⟩:∃T,T=pre++91::r:=⟨_,rfl⟩
 have fi:=b5d (pre:=pre) (s:=91::r) (c:=93)
 have ap:=D0 (· !=93) r
 obtain⟨b,hb⟩:∃b,b=(m4 (· !=93) r).1:=⟨_,rfl⟩
 obtain⟨po,hpo⟩:∃po,po=(m4 (· !=93) r).2:=⟨_,rfl⟩
 have sp1:(m4 (· !=93) (91::r)).1=91::b:=by rw [hb];simp [m4]
 have sp2:(m4 (· !=93) (91::r)).2=po:=by rw [hpo];simp [m4]
 rw [sp1,sp2,←eT] at fi
 unfold a2k
 rw [←hb,←hpo] at ap ⊢
 rw [←eT] at hT ⊢
 have gf:a7u (.val (row T)) (.val (row [93])) (.val (.int (pre.length:Nat)))=some (.val (.int (b1k (S T) (S [93]) (pre.length:Nat)))):=rfl
 rw [fi] at gf
 unfold a1g a5D
 rw [a8e]
 cases hp:po with
 |nil=>
  rw [hp,if_pos rfl] at gf
  simp (disch:=omega) only [a17,l6,i9,d9,l8,n5,v7,i8,m8,j1,h9,l7,o0,AH,AM,AT,AW,AQ,AX,AY,Ab,Ac,Int.reduceNeg,gf,m3]
  try rfl
 |cons y e=>
  rw [hp,if_neg (by simp)] at gf
  rw [hp] at ap
  have hlen:(91::b).length=b.length+1:=rfl
  rw [hlen] at gf
  have hT2:T=(pre++[91])++(b++y::e):=by rw [eT,ap];simp
  have sl:=a8Q (pre:=pre++[91]) (ds:=b) (post:=y::e) (by rw [←hT2];lia)
  rw [←hT2,AZ,List.length_singleton] at sl
  have hTl:T.length=pre.length+1+b.length+1+e.length:=by rw [hT2];simp;lia
  have lt0:decide (((pre.length+(b.length+1):Nat):Int)<0)=false:=decide_eq_false (by lia)
  have c1:((pre.length:Nat):Int)+1=((pre.length+1:Nat):Int):=by lia
  have c2:((pre.length+(b.length+1):Nat):Int)=((pre.length+1+b.length:Nat):Int):=by lia
  have c3:((pre.length+1+b.length:Nat):Int)+1=((T.length - e.length:Nat):Int):=by lia
  rw [c2] at gf lt0
  have re:=b6e (l:=b) (R:=C8 b) (by lia) (a2M b) (a4E b) (a2A b)
  cases ho:a6d (C8 b) with
  |true=>
   rw [ho,if_pos rfl] at re
   have asg:a3Z 3 M0 (a8 (a2f (b6 0) (Q8 (m2 p3 (b6 1) (mC (.int 1)))) (Q8 (b6 2))) g5) [some (.val (row T)),some (.val (.int (pre.length:Nat))),some (.val (.int ((pre.length+1+b.length:Nat):Int))),none]=some (.fl (.nx [some (.val (row T)),some (.val (.int (pre.length:Nat))),some (.val (.int ((pre.length+1+b.length:Nat):Int))),some (.val (.tuple ((C8 b).map row)))])):=by
    refine(b5M (ps:=[row b]) (p:= .tuple ((C8 b).map row)) ?_ re).trans rfl
    simp (disch:=omega) only [z9,l6,i9,d9,l8,d8,d5,d7,AH,E5,E6,T6,sl,c1]
   have tr:=b5C (inm:=inL [AE "NoCloth"]) (hd:=u5 (mC .none)) asg
   have mk:=b5J (b6 3) [some (.val (row T)),some (.val (.int (pre.length:Nat))),some (.val (.int ((pre.length+1+b.length:Nat):Int))),some (.val (.tuple ((C8 b).map row)))] (C8 b) rfl
   show _=some (g6.val (K1 T (some (Mo.plain (C8 b),e))))
   simp (disch:=omega) only [z9,a17,l6,i9,d9,l8,d8,d5,d7,N4,n5,v7,g9,m5,i8,m8,j1,B0,m6,h9,j5,l7,o0,AH,AM,AT,AW,AQ,AX,AY,Ab,Ac,AU,Ag,↓reduceIte,sz,Nat.reduceAdd,Av,gf,m3,lt0,tr,mk,c3]
   try rfl
  |false=>
   rw [ho,if_neg Aq] at re
   have asg:a3Z 3 M0 (a8 (a2f (b6 0) (Q8 (m2 p3 (b6 1) (mC (.int 1)))) (Q8 (b6 2))) g5) [some (.val (row T)),some (.val (.int (pre.length:Nat))),some (.val (.int ((pre.length+1+b.length:Nat):Int))),none]=some (.rz nc [some (.val (row T)),some (.val (.int (pre.length:Nat))),some (.val (.int ((pre.length+1+b.length:Nat):Int))),none]):=by
    refine(b5N (ps:=[row b]) ?_ re).trans rfl
    simp (disch:=omega) only [z9,l6,i9,d9,l8,d8,d5,d7,AH,E5,E6,T6,sl,c1]
   have tr:=b5D (inm:=inL [AE "NoCloth"]) (hd:=u5 (mC .none)) asg (by decide+kernel)
   show _=some (g6.val (K1 T none))
   simp (disch:=omega) only [a17,l6,i9,d9,l8,n5,v7,g9,m5,i8,m8,p5,j1,B0,m6,h9,j5,l7,o0,AH,AM,AT,AW,AQ,AX,AY,Ab,Ac,gf,m3,lt0,tr]
   try rfl
abbrev MF:=List Nat→Option (Mo×List Nat)
abbrev RF:=List PV→Option g6
def Suf(mot:MF):Prop:=∀s m r,mot s=some (m,r)→∃p,p≠[]∧s=p++r
def a1R(R:RF)(T:List Nat)(left:Int)(mot:MF):Prop:=∀pre s,T=pre++s→R [row T,.int (pre.length:Nat),.int left]=some (.val (K1 T (mot s)))
theorem a21(T:List Nat)(m:Mo)(r:List Nat):M6 false (.val (K1 T (some (m,r)))) (.val .none)=some (.val (.bool false)):=Eq.trans rfl rfl
theorem a7z(T:List Nat):M6 false (.val (K1 T none)) (.val .none)=some (.val (.bool true)):=Eq.trans rfl rfl
theorem a5T(T:List Nat)(m:Mo)(r:List Nat):J4 (.val (K1 T (some (m,r)))) (.val (.int 0))=some (.val (z7 m)):=Eq.trans rfl rfl
theorem a22(T:List Nat)(m:Mo)(r:List Nat):J4 (.val (K1 T (some (m,r)))) (.val (.int 1))=some (.val (.int ((T.length - r.length:Nat):Int))):=Eq.trans rfl rfl
theorem b4f{T q r:List Nat}(h:T=q++r):T.length - r.length=q.length:=by rw [h,AZ];lia
theorem a8P:AE ")"=S [41]:=by decide+kernel
theorem b7B:AE "("=S [40]:=by decide+kernel
theorem b5z:AE "["=S [91]:=by decide+kernel
theorem b88{T pre s:List Nat}{mot:MF}(hs:Suf mot){m:Mo}{r:List Nat}(eT:T=pre++s)(h:mot s=some (m,r))(y:List Nat):
 K3 (.val (row T)) (.val (row y)) (.val (.int ((T.length - r.length:Nat):Int)))=some (.val (.bool (y.isPrefixOf r))):=by
 obtain⟨p,_,e⟩:=hs s m r h
 have e2:T=(pre++p)++r:=by rw [eT,e,List.append_assoc]
 have:=T1 (pre:=pre++p) (s:=r) (y:=y)
 rw [←e2] at this
 rw [b4f e2]
 exact this
theorem b1D{mot:MF}{s:List Nat}(h:mot s=none):J5 mot s=none:=by unfold J5;rw [h]
theorem b1E{mot:MF}{s r:List Nat}{m:Mo}(h:mot s=some (m,41::r)):J5 mot s=some (m,r):=by unfold J5;rw [h];rfl
theorem b5v{mot:MF}{s r:List Nat}{m:Mo}(h:mot s=some (m,r))(hn:[41].isPrefixOf r=false):J5 mot s=none:=by
 unfold J5
 rw [h]
 split
 ·rename_i e
  cases e
  simp at hn
 ·rfl
theorem b2g{mot:MF}(hs:Suf mot):Suf (J5 mot):=fun s m r h=>by
 unfold J5 at h
 split at h
 ·rename_i m' r' e
  cases h
  obtain⟨p,hp,e2⟩:=hs _ _ _ e
  exact⟨p++[41],by simp,by rw [e2];simp⟩
 ·cases h
section
variable {RD RL RLa RM RMo RP RR RT:RF}{T:List Nat}{left:Int}{mot:MF}
theorem b5w(hs:Suf mot)(hm:a1R RMo T left mot):a1R (p7 1 (P8 RD RL RLa RM RMo RP RR RT)) T left (J5 mot):=fun pre s eT=>by
 have h:=hm pre s eT
 unfold P8
 rw [a8P]
 cases e:mot s with
 |none=>
  rw [e] at h
  rw [b1D e]
  simp (disch:=omega) only [l6,i9,d9,l8,d8,d5,d7,i3,n5,v7,g9,m5,i8,m8,p5,j1,z8,h9,j5,l7,o0,n6,a2i,AH,AM,AT,AW,AQ,AX,AY,Ab,Ac,h,a7z]
  try rfl
 |some v=>
  obtain⟨m,r⟩:=v
  rw [e] at h
  have st:=b88 hs eT e [41]
  cases hp:[41].isPrefixOf r with
  |false=>
   rw [hp] at st
   rw [b5v e hp]
   simp (disch:=omega) only [l6,i9,d9,l8,d8,d5,d7,i3,n5,v7,g9,m5,i8,m8,p5,j1,z8,h9,j5,x8,l7,o0,E8,o9,n6,C6,AH,Af,AM,AT,AW,AQ,AX,AY,Ab,Ac,Bool.not_false,h,a21,a22,st,m3]
   try rfl
  |true=>
   rw [hp] at st
   obtain⟨r',rfl⟩:=(a9N 41 r).mp hp
   rw [b1E e]
   obtain⟨p,_,e2⟩:=hs s m _ e
   have c:((T.length - (41::r').length:Nat):Int)+1=((T.length - r'.length:Nat):Int):=by
    have:T.length=pre.length+p.length+(r'.length+1):=by rw [eT,e2];simp;lia
    rw [AU];lia
   have st':=st
   rw [AU] at st' c
   have i1:=a22 T m (41::r')
   rw [AU] at i1
   simp (disch:=omega) only [z9,l6,i9,d9,l8,d8,d5,d7,N4,i3,n5,v7,g9,m5,i8,m8,j1,B0,m6,h9,j5,x8,l7,o0,E8,o9,n6,C6,AH,Af,AM,AT,AW,AQ,AX,AY,Ab,Ac,AU,Ag,↓reduceIte,Bool.not_true,sz,Nat.reduceAdd,Av,h,a21,a5T,i1,st',m3,c]
   try rfl
theorem b2Q(hm:a1R RLa T left (J5 mot)){w:List Nat}:∀pre s,T=pre++s→p7 1 (a0f RD RL RLa RM RMo RP RR RT) [row T,row w,.int (pre.length:Nat),.int left]=some (.val (K1 T (a7T mot w s))):=fun pre s eT=>by
 have h:=hm pre s eT
 unfold a0f a7T
 cases e:J5 mot s with
 |none=>
  rw [e] at h
  simp (disch:=omega) only [l6,i9,d9,l8,d8,d5,d7,i3,n5,v7,g9,m5,i8,m8,p5,j1,z8,h9,j5,l7,o0,AH,AM,AT,AW,AQ,AX,AY,Ab,Ac,h,a7z]
  try rfl
 |some v=>
  obtain⟨m,r⟩:=v
  rw [e] at h
  have mk:V4 (AE "Turned") [AE "way",AE "part"] (a8 (b6 1) (a8 (m2 J4 (b6 4) (mC (.int 0))) g5)) [some (.val (row T)),some (.val (row w)),some (.val (.int (pre.length:Nat))),some (.val (.int left)),some (.val (K1 T (some (m,r))))]=some (.val (z7 (.turned w m))):=by
   unfold V4
   simp (disch:=omega) only [l6,i9,d9,l8,d8,d5,d7,AH,a5T]
   rw [z7]
   rfl
  simp (disch:=omega) only [l6,i9,d9,l8,d8,d5,d7,N4,i3,n5,v7,g9,m5,i8,m8,j1,B0,m6,h9,j5,l7,o0,AH,AM,AT,AW,AQ,AX,AY,Ab,Ac,AU,Ag,↓reduceIte,sz,Nat.reduceAdd,Av,h,a21,mk,a22]
  try rfl
end
section
variable {RD RL RLa RM RMo RP RR RT:RF}{T:List Nat}{left:Int}{mot:MF}
theorem b3b{s:List Nat}(h:(a3h s && a3h (s.drop 3))=false):b0i mot s=none:=by
 unfold b0i
 split
 ·rename_i a b r
  rw [if_neg]
  intro z
  have:a3h (a::44::32::b::44::32::r)=C9 a:=rfl
  have h2:a3h (List.drop 3 (a::44::32::b::44::32::r))=C9 b:=rfl
  rw [this,h2,z] at h
  cases h
 ·rfl
theorem b27{s:List Nat}(h:a3h s=true):∃a r,s=a::44::32::r∧C9 a=true:=by
 unfold a3h at h
 split at h
 ·rename_i a r;exact⟨a,r,rfl,h⟩
 ·cases h
theorem b45(hT:T.length≤450)(hm:a1R RLa T left (J5 mot)):∀pre s,T=pre++s→p7 1 (a2D RD RL RLa RM RMo RP RR RT) [row T,.int (pre.length:Nat),.int left]=some (.val (K1 T (b0i mot s))):=fun pre s eT=>by
 have c1:=a7p (pre:=pre) (s:=s) (by rw [←eT];exact hT)
 rw [←eT] at c1
 unfold a2D
 cases h1:a3h s with
 |false=>
  rw [h1] at c1
  rw [b3b (by rw [h1];rfl)]
  simp (disch:=omega) only [i9,d9,l8,d8,d5,d7,i3,g9,m5,i8,p5,j1,z8,h9,j5,x8,E8,o9,n6,a2i,AH,Af,AM,AT,AW,AQ,AX,AY,Bool.not_false,c1]
  try rfl
 |true=>
  rw [h1] at c1
  obtain⟨a,r,rfl,la⟩:=b27 h1
  have c2:=a7p (pre:=pre++[a,44,32]) (s:=r) (by rw [List.append_assoc];exact eT▸hT)
  have e3:(pre++[a,44,32])++r=T:=by rw [eT,List.append_assoc];rfl
  rw [e3,AZ] at c2
  have c3:G5 [row T,.int ((pre.length+3:Nat):Int)]=some (.val (.bool (a3h r))):=c2
  clear c2
  have k3:((pre.length:Nat):Int)+3=((pre.length+3:Nat):Int):=by lia
  have xa:J4 (.val (row T)) (.val (.int (pre.length:Nat)))=some (.val (row [a])):=by rw [eT];exact a38 (by rw [←eT];lia)
  cases h2:a3h r with
  |false=>
   rw [h2] at c3
   rw [b3b (by rw [h1];exact h2)]
   simp (disch:=omega) only [z9,l6,i9,d9,l8,d8,d5,d7,i3,g9,m5,i8,p5,j1,z8,h9,j5,x8,E8,o9,n6,C6,AH,Af,AM,AT,AW,AQ,AX,AY,Bool.not_true,Bool.not_false,c1,c3,k3]
   try rfl
  |true=>
   rw [h2] at c3
   obtain⟨b,q,rfl,lb⟩:=b27 h2
   have h:=hm (pre++[a,44,32,b,44,32]) q (by rw [eT,List.append_assoc];rfl)
   rw [AZ] at h
   have h:RLa [row T,.int ((pre.length+6:Nat):Int),.int left]=some (.val (K1 T (J5 mot q))):=h
   have k6:((pre.length:Nat):Int)+6=((pre.length+6:Nat):Int):=by lia
   have xb:J4 (.val (row T)) (.val (.int ((pre.length+3:Nat):Int)))=some (.val (row [b])):=by
    have:=a38 (pre:=pre++[a,44,32]) (x:=b) (r:=44::32::q) (by rw [e3];lia)
    rw [e3,AZ] at this
    exact this
   have dy:b0i mot (a::44::32::b::44::32::q)=match J5 mot q with|some (m,e)=>some (.dyed a b m,e)|none=>none:=by
    show(if(C9 a && C9 b)=true then _ else _)=_
    rw [la,lb];rfl
   rw [dy]
   cases e:J5 mot q with
   |none=>
    rw [e] at h
    simp (disch:=omega) only [z9,l6,i9,d9,l8,d8,d5,d7,i3,n5,v7,g9,m5,i8,m8,p5,j1,z8,B0,m6,h9,j5,x8,l7,o0,E8,o9,n6,C6,AH,Af,AM,AT,AW,AQ,AX,AY,Ab,Ac,Bool.not_true,c1,c3,k3,k6,h,a7z]
    try rfl
   |some v=>
    obtain⟨m,r⟩:=v
    rw [e] at h
    have mk:V4 (AE "Dyed") [AE "one",AE "other",AE "part"] (a8 (m2 J4 (b6 0) (b6 1)) (a8 (m2 J4 (b6 0) (m2 p3 (b6 1) (mC (.int 3)))) (a8 (m2 J4 (b6 3) (mC (.int 0))) g5))) [some (.val (row T)),some (.val (.int (pre.length:Nat))),some (.val (.int left)),some (.val (K1 T (some (m,r))))]=some (.val (z7 (.dyed a b m))):=by
     unfold V4
     simp (disch:=omega) only [z9,l6,i9,d9,l8,d8,d5,d7,AH,a5T,xa,k3,xb]
     rw [z7]
     rfl
    simp (disch:=omega) only [z9,l6,i9,d9,l8,d8,d5,d7,N4,i3,n5,v7,g9,m5,i8,m8,j1,B0,m6,h9,j5,x8,l7,o0,E8,o9,n6,C6,AH,Af,AM,AT,AW,AQ,AX,AY,Ab,Ac,AU,Ag,↓reduceIte,Bool.not_true,sz,Nat.reduceAdd,Av,c1,c3,k3,k6,h,a21,mk,a22]
    try rfl
def b9C(w:List Nat)(k:Nat):Option (Mo×List Nat)→Option (Mo×List Nat)
 |some (m,e)=>some (if w=C4 then .across k m else .down k m,e)
 |none=>none
theorem b0S{w s r:List Nat}{k:Nat}(h2:(m4 isF s).2=44::32::r)(h1:a6c (m4 isF s).1=some k):a9S mot w s=b9C w k (J5 mot r):=by
 unfold a9S
 simp only [h2,h1]
 cases J5 mot r<;>rfl
theorem b4r{w s:List Nat}(h:a2B s=false):a9S mot w s=none:=by
 unfold a2B at h
 unfold a9S
 split
 ·rename_i r e
  rw [e,(a9O _).mpr ⟨r,rfl⟩,Bool.and_true] at h
  cases hn:a6c (m4 isF s).1 with
  |none=>rfl
  |some k=>rw [hn] at h;cases h
 ·rfl
theorem b77(hT:T.length≤450)(hm:a1R RLa T left (J5 mot)){w:List Nat}:∀pre s,T=pre++s→p7 3 (T5 RD RL RLa RM RMo RP RR RT) [row T,row w,.int (pre.length:Nat),.int left]=some (.val (K1 T (a9S mot w s))):=fun pre s eT=>by
 have te:=b4I (pre:=pre) (s:=s) (by rw [←eT];exact hT)
 rw [←eT] at te
 have ap:=D0 isF s
 have hall:=P7 isF s
 unfold T5
 have s1:AE "across"=S C4:=by decide+kernel
 rw [s1]
 cases ht:a2B s with
 |false=>
  rw [ht] at te
  have te:U4 [row T,.int (pre.length:Nat)]=some (.val .none):=te
  rw [b4r ht]
  simp (disch:=omega) only [l6,i9,d9,l8,d8,d5,d7,i3,n5,v7,g9,m5,i8,m8,p5,j1,z8,h9,j5,l7,o0,AH,AM,AT,AW,AQ,AX,AY,Ab,Ac,te,b3A]
  try rfl
 |true=>
  rw [ht,if_pos rfl] at te
  unfold a2B at ht
  rw [Bool.and_eq_true] at ht
  obtain⟨k,hn⟩:=Option.isSome_iff_exists.mp ht.1
  obtain⟨r,hr⟩:=(a9O _).mp ht.2
  rw [b0S hr hn]
  obtain⟨ds,hds⟩:∃ds,ds=(m4 isF s).1:=⟨_,rfl⟩
  rw [←hds] at te ap hn hall
  rw [hr] at ap
  have h:=hm (pre++(ds++[44,32])) r (by rw [eT];simp;exact ap)
  have hlen:(pre++(ds++[44,32])).length=pre.length+ds.length+2:=by simp;lia
  rw [hlen] at h
  have kd:((pre.length+ds.length:Nat):Int)+2=((pre.length+ds.length+2:Nat):Int):=by lia
  have hT2:T=pre++(ds++44::32::r):=by rw [eT,←ap]
  have sl:=a8Q (pre:=pre) (ds:=ds) (post:=44::32::r) (by rw [←hT2];lia)
  rw [←hT2] at sl
  have hk:(decide (1≤ds.length)&& decide (ds.length≤4))=true∧k=a41 ds:=by
   unfold a6c at hn
   split at hn
   ·rename_i c
    split at hn
    ·cases hn
    ·split at hn
     ·exact⟨c,(Option.some.inj hn).symm⟩
     ·cases hn
   ·cases hn
  have h14:1≤ds.length∧ds.length≤4:=by simpa using hk.1
  have it:=b1y hall h14.1 h14.2
  rw [←hk.2] at it
  have ew:=a0h w C4
  cases e:J5 mot r with
  |none=>
   rw [e] at h
   show _=some (g6.val (K1 T none))
   simp (disch:=omega) only [z9,l6,i9,d9,l8,d8,d5,d7,i3,n5,v7,g9,m5,i8,m8,p5,j1,z8,B0,m6,h9,j5,l7,o0,AH,AM,AT,AW,AQ,AX,AY,Ab,Ac,te,a7y,kd,h,a7z]
   try rfl
  |some v=>
   obtain⟨m,q⟩:=v
   rw [e] at h
   show _=some (g6.val (K1 T (some (if w=C4 then Mo.across k m else .down k m,q))))
   cases hw:(w==C4) with
   |true=>
    rw [hw] at ew
    have hw':w=C4:=by simpa using hw
    have mk:V4 (AE "Across") [AE "many",AE "part"] (a8 (b6 6) (a8 (m2 J4 (b6 5) (mC (.int 0))) g5)) [some (.val (row T)),some (.val (row w)),some (.val (.int (pre.length:Nat))),some (.val (.int left)),some (.val (.int ((pre.length+ds.length:Nat):Int))),some (.val (K1 T (some (m,q)))),some (.val (.int (k:Nat)))]=some (.val (z7 (.across k m))):=by
     unfold V4
     simp (disch:=omega) only [l6,i9,d9,l8,d8,d5,d7,AH,a5T]
     rw [z7]
     rfl
    rw [if_pos hw']
    simp (disch:=omega) only [z9,l6,z6,i9,d9,l8,d8,d5,d7,N4,i3,n5,v7,g9,m5,i8,m8,p5,j1,z8,B0,m6,h9,j5,l7,o0,AH,AM,AT,AW,AQ,AX,AY,Ab,Ac,AU,Ag,↓reduceIte,E5,E6,T6,sz,Nat.reduceAdd,Av,te,a7y,kd,h,a21,sl,it,ew,mk,a22]
    try rfl
   |false=>
    rw [hw] at ew
    have hw':¬w=C4:=by simpa using hw
    have mk:V4 (AE "Down") [AE "many",AE "part"] (a8 (b6 6) (a8 (m2 J4 (b6 5) (mC (.int 0))) g5)) [some (.val (row T)),some (.val (row w)),some (.val (.int (pre.length:Nat))),some (.val (.int left)),some (.val (.int ((pre.length+ds.length:Nat):Int))),some (.val (K1 T (some (m,q)))),some (.val (.int (k:Nat)))]=some (.val (z7 (.down k m))):=by
     unfold V4
     simp (disch:=omega) only [l6,i9,d9,l8,d8,d5,d7,AH,a5T]
     rw [z7]
     rfl
    rw [if_neg hw']
    simp (disch:=omega) only [z9,l6,z6,i9,d9,l8,d8,d5,d7,N4,i3,n5,v7,g9,m5,i8,m8,j1,B0,m6,h9,j5,l7,o0,AH,AM,AT,AW,AQ,AX,AY,Ab,Ac,AU,Ag,↓reduceIte,E5,E6,T6,sz,Nat.reduceAdd,Av,te,a7y,kd,h,a21,sl,it,ew,mk,a22]
    try rfl
end
section
variable {RD RL RLa RM RMo RP RR RT:RF}{T:List Nat}{left:Int}{mot:MF}
def a6z(T:List Nat)(acc:List PV):Option (List Mo×List Nat)→PV
 |none=> .none
 |some (ms,r)=> .tuple [.tuple (acc++ms.map z7),.int ((T.length - r.length:Nat):Int)]
theorem a32{k:Nat}{s:List Nat}(h:mot s=none):E7 mot (k+1) s=none:=by unfold E7;rw [h]
theorem a6p{k:Nat}{s r:List Nat}{m:Mo}(h:mot s=some (m,r))(hp:[44,32].isPrefixOf r=false):E7 mot (k+1) s=some ([m],r):=by
 unfold E7
 rw [h]
 dsimp only
 split
 ·rename_i r'
  rw [(a9O _).mpr ⟨r',rfl⟩] at hp;cases hp
 ·rfl
def b34(m:Mo):Option (List Mo×List Nat)→Option (List Mo×List Nat)
 |some (ms,e)=>some (m::ms,e)
 |none=>none
theorem a6q{k:Nat}{s r:List Nat}{m:Mo}(h:mot s=some (m,44::32::r)):E7 mot (k+1) s=b34 m (E7 mot k r):=by
 conv=>lhs;unfold E7
 simp only [h]
 cases E7 mot k r<;>rfl
theorem b78(T:List Nat)(acc:List PV)(m:Mo)(o:Option (List Mo×List Nat)):a6z T acc (b34 m o)=a6z T (acc++[z7 m]) o:=by
 cases o with
 |none=>rfl
 |some v=>
  obtain⟨ms,r⟩:=v
  show PyData.tuple [.tuple (acc++(m::ms).map z7),_]= .tuple [.tuple (acc++[z7 m]++ms.map z7),_]
  rw [AM,List.append_assoc];rfl
theorem a6r(hs:Suf mot)(hm:a1R RMo T left mot)(hT:T.length≤450):∀(fuel:Nat) (pre s:List Nat) (acc:List PV) (q:Option g6),T=pre++s→s.length<fuel→acc.length≤pre.length→
 O6 (mtV (mC (.bool true))) (B2 RD RL RLa RM RMo RP RR RT) fuel [some (.val (row T)),some (.val (.int (pre.length:Nat))),some (.val (.int left)),some (.own acc),q]=some (.rt (.val (a6z T acc (E7 mot fuel s))))
 |0,_,_,_,_,_,h,_=>absurd h (Nat.not_lt_zero _)
 |fuel+1,pre,s,acc,q,eT,hf,ha=>by
  have h:=hm pre s eT
  have lT:T.length=pre.length+s.length:=by rw [eT,AZ]
  rw [O6]
  show((B2 RD RL RLa RM RMo RP RR RT [some (.val (row T)),some (.val (.int (pre.length:Nat))),some (.val (.int left)),some (.own acc),q]).bind _)=_
  cases e:mot s with
  |none=>
   rw [e] at h
   have b:B2 RD RL RLa RM RMo RP RR RT [some (.val (row T)),some (.val (.int (pre.length:Nat))),some (.val (.int left)),some (.own acc),q]=some (.rt (.val .none)):=by
    unfold B2
    simp (disch:=omega) only [l6,i9,d9,l8,d8,d5,d7,i3,n5,v7,g9,m5,i8,m8,p5,j1,z8,l7,o0,AH,Ab,Ac,h,a7z]
    try rfl
   rw [b,a32 e]
   rfl
  |some v=>
   obtain⟨m,r⟩:=v
   rw [e] at h
   obtain⟨p,hp0,e2⟩:=hs s m r e
   have st:=b88 hs eT e [44,32]
   have ap:=a9x (i:=3) (m:=m2 J4 (b6 4) (mC (.int 0))) (ρ:=[some (.val (row T)),some (.val (.int (pre.length:Nat))),some (.val (.int left)),some (.own acc),some (.val (K1 T (some (m,r))))]) (r:= .val (z7 m)) (p:=z7 m) (ps:=acc) (by simp (disch:=omega) only [l6,i9,d9,l8,AH,a5T]) rfl rfl (by lia)
   have ap:a3V 3 (m2 J4 (b6 4) (mC (.int 0))) [some (.val (row T)),some (.val (.int (pre.length:Nat))),some (.val (.int left)),some (.own acc),some (.val (K1 T (some (m,r))))]=some (.nx [some (.val (row T)),some (.val (.int (pre.length:Nat))),some (.val (.int left)),some (.own (acc++[z7 m])),some (.val (K1 T (some (m,r))))]):=ap
   have gt:a4p (.bor (acc++[z7 m]))=some (.val (.tuple (acc++[z7 m]))):=rfl
   cases hp:[44,32].isPrefixOf r with
   |false=>
    rw [hp] at st
    have b:B2 RD RL RLa RM RMo RP RR RT [some (.val (row T)),some (.val (.int (pre.length:Nat))),some (.val (.int left)),some (.own acc),q]=some (.rt (.val (.tuple [.tuple (acc++[z7 m]),.int ((T.length - r.length:Nat):Int)]))):=by
     unfold B2
     rw [W3]
     simp (disch:=omega) only [l6,z6,i9,d9,b5E,l8,d8,d5,d7,N4,i3,n5,v7,g9,m5,i8,m8,p5,j1,z8,B0,m6,x8,l7,o0,E8,o9,AH,Af,Ab,Ac,AU,Ag,↓reduceIte,Bool.not_false,sz,Nat.reduceAdd,Av,h,a21,ap,a22,st,m3,gt]
     try rfl
    rw [b,a6p e hp]
    rfl
   |true=>
    rw [hp] at st
    obtain⟨r',rfl⟩:=(a9O r).mp hp
    have ls:s.length=p.length+(r'.length+2):=by rw [e2];simp
    have lp:0<p.length:=List.length_pos_iff.mpr hp0
    have c:((T.length - (44::32::r').length:Nat):Int)+2=((pre.length+p.length+2:Nat):Int):=by
     rw [AU,AU];lia
    rw [AU,AU] at c st
    have i1:=a22 T m (44::32::r')
    rw [AU,AU] at i1
    have b:B2 RD RL RLa RM RMo RP RR RT [some (.val (row T)),some (.val (.int (pre.length:Nat))),some (.val (.int left)),some (.own acc),q]=some (.nx [some (.val (row T)),some (.val (.int ((pre.length+p.length+2:Nat):Int))),some (.val (.int left)),some (.own (acc++[z7 m])),some (.val (K1 T (some (m,44::32::r'))))]):=by
     unfold B2
     rw [W3]
     simp (disch:=omega) only [z9,l6,i9,d9,l8,d8,d5,d7,i3,n5,v7,i8,m8,j1,B0,m6,x8,l7,o0,E8,o9,AH,Af,Ab,Ac,Bool.not_true,h,a21,ap,i1,st,m3,c]
     try rfl
    have ih:=a6r hs hm hT fuel (pre++(p++[44,32])) r' (acc++[z7 m]) (some (.val (K1 T (some (m,44::32::r'))))) (by rw [eT,e2];simp) (by lia) (by simp;lia)
    have l1:(pre++(p++[44,32])).length=pre.length+p.length+2:=by simp;lia
    rw [l1] at ih
    rw [b]
    show O6 _ _ fuel _=_
    rw [ih,a6q e,b78]
theorem b35(hs:Suf mot)(hm:a1R RMo T left mot)(hT:T.length≤450):∀pre s,T=pre++s→p7 2 (a08 RD RL RLa RM RMo RP RR RT) [row T,.int (pre.length:Nat),.int left]=some (.val (a6z T [] (E7 mot 500 s))):=fun pre s eT=>by
 have lT:T.length=pre.length+s.length:=by rw [eT,AZ]
 have h:=a6r (RD:=RD) (RL:=RL) (RLa:=RLa) (RM:=RM) (RP:=RP) (RR:=RR) (RT:=RT) hs hm hT 500 pre s [] none eT (by lia) (Nat.zero_le _)
 unfold a08
 simp (disch:=omega) only [d8,b3J,n5,b60,i8,m8,h9,j5,AH,AM,AT,AW,AQ,AX,AY,Ab,Ac,Ag,↓reduceIte,sz,Av,h]
 try rfl
theorem a1o(hs:Suf mot):∀(k:Nat) (s:List Nat) (ms:List Mo) (r:List Nat),E7 mot k s=some (ms,r)→∃p,p≠[]∧s=p++r
 |0,_,_,_,h=>by cases h
 |k+1,s,ms,r,h=>by
  cases e:mot s with
  |none=>rw [a32 e] at h;cases h
  |some v=>
   obtain⟨m,q⟩:=v
   obtain⟨p,hp,e2⟩:=hs s m q e
   cases hc:[44,32].isPrefixOf q with
   |false=>rw [a6p e hc] at h;cases h;exact⟨p,hp,e2⟩
   |true=>
    obtain⟨q',rfl⟩:=(a9O q).mp hc
    rw [a6q e] at h
    cases e3:E7 mot k q' with
    |none=>rw [e3] at h;cases h
    |some u=>
     obtain⟨ms',r'⟩:=u
     rw [e3] at h
     cases h
     obtain⟨p',_,e4⟩:=a1o hs k q' ms' _ e3
     exact⟨p++(44::32::p'),by simp,by rw [e2,e4];simp⟩
end
section
variable {RD RL RLa RM RMo RP RR RT:RF}{T:List Nat}{left:Int}{mot:MF}
theorem a9r(T:List Nat)(acc:List PV)(v:List Mo×List Nat):M6 false (.val (a6z T acc (some v))) (.val .none)=some (.val (.bool false)):=Eq.trans rfl rfl
theorem b7s(T:List Nat)(acc:List PV):M6 false (.val (a6z T acc none)) (.val .none)=some (.val (.bool true)):=Eq.trans rfl rfl
theorem b8O(T:List Nat)(ms:List Mo)(r:List Nat):J4 (.val (a6z T [] (some (ms,r)))) (.val (.int 0))=some (.val (.tuple (ms.map z7))):=Eq.trans rfl rfl
theorem b6E(T:List Nat)(acc:List PV)(ms:List Mo)(r:List Nat):J4 (.val (a6z T acc (some (ms,r)))) (.val (.int 1))=some (.val (.int ((T.length - r.length:Nat):Int))):=Eq.trans rfl rfl
theorem b9D{pre s:List Nat}(hs:Suf mot){ms:List Mo}{r:List Nat}{k:Nat}(eT:T=pre++s)(h:E7 mot k s=some (ms,r))(y:List Nat):
 K3 (.val (row T)) (.val (row y)) (.val (.int ((T.length - r.length:Nat):Int)))=some (.val (.bool (y.isPrefixOf r))):=by
 obtain⟨p,_,e⟩:=a1o hs k s ms r h
 have e2:T=(pre++p)++r:=by rw [eT,e,List.append_assoc]
 have:=T1 (pre:=pre++p) (s:=r) (y:=y)
 rw [←e2] at this
 rw [b4f e2]
 exact this
def b3F(w:List Nat)(ps:List Mo)(r:List Nat):Option (Mo×List Nat):=if(decide (2≤ps.length)&& decide (ps.length≤6))=true then some (if w=A0 then .beside ps else .above ps,r) else none
theorem b1B{w s:List Nat}(h:E7 mot 500 s=none):a0X mot w s=none:=by unfold a0X;rw [h]
theorem b5t{w s:List Nat}{ps:List Mo}{r:List Nat}(h:E7 mot 500 s=some (ps,r))(hp:[41].isPrefixOf r=false):a0X mot w s=none:=by
 unfold a0X
 rw [h]
 split
 ·rename_i e;cases e;simp at hp
 ·rfl
theorem b1C{w s:List Nat}{ps:List Mo}{r:List Nat}(h:E7 mot 500 s=some (ps,41::r)):a0X mot w s=b3F w ps r:=by
 unfold a0X
 rw [h]
 rfl
theorem b5u(hs:Suf mot)(hT:T.length≤450)(hm:∀pre s,T=pre++s→RP [row T,.int (pre.length:Nat),.int left]=some (.val (a6z T [] (E7 mot 500 s)))){w:List Nat}:
 ∀pre s,T=pre++s→p7 1 (a2E RD RL RLa RM RMo RP RR RT) [row T,row w,.int (pre.length:Nat),.int left]=some (.val (K1 T (a0X mot w s))):=fun pre s eT=>by
 have h:=hm pre s eT
 have s1:AE "beside"=S A0:=by decide+kernel
 have c6:R6= .int 6:=rfl
 unfold a2E
 rw [a8P,s1,c6]
 cases e:E7 mot 500 s with
 |none=>
  rw [e] at h
  rw [b1B e]
  simp (disch:=omega) only [l6,i9,d9,l8,d8,d5,d7,i3,n5,v7,g9,m5,i8,m8,p5,j1,z8,h9,j5,l7,o0,n6,a2i,AH,AM,AT,AW,AQ,AX,AY,Ab,Ac,h,b7s]
  try rfl
 |some v=>
  obtain⟨ms,r⟩:=v
  rw [e] at h
  have st:=b9D hs eT e [41]
  cases hp:[41].isPrefixOf r with
  |false=>
   rw [hp] at st
   rw [b5t e hp]
   simp (disch:=omega) only [l6,i9,d9,l8,d8,d5,d7,i3,n5,v7,g9,m5,i8,m8,p5,j1,z8,h9,j5,x8,l7,o0,E8,o9,n6,C6,AH,Af,AM,AT,AW,AQ,AX,AY,Ab,Ac,Bool.not_false,h,a9r,b6E,st,m3]
   try rfl
  |true=>
   rw [hp] at st
   obtain⟨r',rfl⟩:=(a9N 41 r).mp hp
   rw [b1C e]
   obtain⟨p,_,e2⟩:=a1o hs 500 s ms _ e
   have lT:T.length=pre.length+p.length+(r'.length+1):=by rw [eT,e2];simp;lia
   have c:((T.length - (r'.length+1):Nat):Int)+1=((T.length - r'.length:Nat):Int):=by lia
   rw [AU] at st
   have i1:=b6E T [] ms (41::r')
   rw [AU] at i1
   have i0:=b8O T ms (41::r')
   have gl:L6 (.val (.tuple (ms.map z7)))=some (.val (.int (ms.length:Nat))):=by
    show some (g6.val (.int ((ms.map z7).length:Nat)))=_
    rw [An]
   have ew:=a0h w A0
   unfold b3F
   by_cases h1:(2:Int)≤(ms.length:Nat)
   ·have d1:decide (2≤ms.length)=true:=decide_eq_true (by lia)
    by_cases h2:((ms.length:Nat):Int)≤6
    ·have d2:decide (ms.length≤6)=true:=decide_eq_true (by lia)
     rw [d1,d2]
     cases hw:(w==A0) with
     |true=>
      rw [hw] at ew
      have hw':w=A0:=by simpa using hw
      have mk:V4 (AE "Beside") [AE "parts"] (a8 (m2 J4 (b6 4) (mC (.int 0))) g5) [some (.val (row T)),some (.val (row w)),some (.val (.int (pre.length:Nat))),some (.val (.int left)),some (.val (a6z T [] (some (ms,41::r'))))]=some (.val (z7 (.beside ms))):=by
       unfold V4
       simp (disch:=omega) only [l6,i9,d9,l8,d8,d5,d7,AH,i0]
       rw [z7,a2m]
       rfl
      show _=some (g6.val (K1 T (some (if w=A0 then Mo.beside ms else .above ms,r'))))
      rw [if_pos hw']
      simp (disch:=omega) only [z9,E3,k4,U2,l6,z6,i9,d9,l8,d8,d5,d7,N4,i3,n5,v7,g9,m5,i8,m8,p5,j1,z8,B0,m6,h9,j5,x8,l7,o0,E8,o9,n6,C6,AH,Af,AM,AT,AW,AQ,AX,AY,Ab,Ac,AU,Ag,↓reduceIte,Bool.not_true,sz,Nat.reduceAdd,Av,h,a9r,i1,st,m3,i0,gl,decide_eq_true h1,decide_eq_true h2,k4,ew,mk,c]
      try rfl
     |false=>
      rw [hw] at ew
      have hw':¬w=A0:=by simpa using hw
      have mk:V4 (AE "Above") [AE "parts"] (a8 (m2 J4 (b6 4) (mC (.int 0))) g5) [some (.val (row T)),some (.val (row w)),some (.val (.int (pre.length:Nat))),some (.val (.int left)),some (.val (a6z T [] (some (ms,41::r'))))]=some (.val (z7 (.above ms))):=by
       unfold V4
       simp (disch:=omega) only [l6,i9,d9,l8,d8,d5,d7,AH,i0]
       rw [z7,a2m]
       rfl
      show _=some (g6.val (K1 T (some (if w=A0 then Mo.beside ms else .above ms,r'))))
      rw [if_neg hw']
      simp (disch:=omega) only [z9,E3,k4,U2,l6,z6,i9,d9,l8,d8,d5,d7,N4,i3,n5,v7,g9,m5,i8,m8,j1,B0,m6,h9,j5,x8,l7,o0,E8,o9,n6,C6,AH,Af,AM,AT,AW,AQ,AX,AY,Ab,Ac,AU,Ag,↓reduceIte,Bool.not_true,sz,Nat.reduceAdd,Av,h,a9r,i1,st,m3,i0,gl,decide_eq_true h1,decide_eq_true h2,k4,ew,mk,c]
      try rfl
    ·have d2:decide (ms.length≤6)=false:=decide_eq_false (by lia)
     rw [d1,d2]
     show _=some (g6.val (K1 T none))
     simp (disch:=omega) only [E3,k4,U2,l6,z6,i9,d9,l8,d8,d5,d7,i3,n5,v7,g9,m5,i8,m8,p5,j1,z8,B0,m6,h9,j5,x8,l7,o0,E8,o9,n6,C6,AH,Af,AM,AT,AW,AQ,AX,AY,Ab,Ac,Bool.not_true,Bool.not_false,h,a9r,i1,st,m3,i0,gl,decide_eq_true h1,decide_eq_false h2,k4]
     try rfl
   ·have d1:decide (2≤ms.length)=false:=decide_eq_false (by lia)
    rw [d1]
    show _=some (g6.val (K1 T none))
    simp (disch:=omega) only [E3,k4,a7o,l6,z6,i9,d9,l8,d8,d5,d7,i3,n5,v7,g9,m5,i8,m8,p5,j1,z8,B0,m6,h9,j5,x8,l7,o0,E8,o9,n6,C6,AH,Af,AM,AT,AW,AQ,AX,AY,Ab,Ac,Bool.not_true,Bool.not_false,h,a9r,i1,st,m3,i0,gl,decide_eq_false h1,k4]
    try rfl
theorem b5F(hL:∀w pre s,T=pre++s→RL [row T,row w,.int (pre.length:Nat),.int left]=some (.val (K1 T (a0X mot w s))))
 (hR:∀w pre s,T=pre++s→RR [row T,row w,.int (pre.length:Nat),.int left]=some (.val (K1 T (a9S mot w s))))
 (hTu:∀w pre s,T=pre++s→RT [row T,row w,.int (pre.length:Nat),.int left]=some (.val (K1 T (a7T mot w s))))
 (hD:∀pre s,T=pre++s→RD [row T,.int (pre.length:Nat),.int left]=some (.val (K1 T (b0i mot s)))):
 ∀w pre s,T=pre++s→p7 0 (C1 RD RL RLa RM RMo RP RR RT) [row T,row w,.int (pre.length:Nat),.int left]=some (.val (K1 T (a1H mot w s))):=fun w pre s eT=>by
 have s1:AE "beside"=S A0:=by decide+kernel
 have s2:AE "above"=S R7:=by decide+kernel
 have s3:AE "across"=S C4:=by decide+kernel
 have s4:AE "down"=S a4c:=by decide+kernel
 have s5:AE "dye"=S b07:=by decide+kernel
 have q1:=a0h w A0
 have q2:=a0h w R7
 have q3:=a0h w C4
 have q4:=a0h w a4c
 have q5:=a0h w b07
 have q6:=b1w false w a39 okT
 have h1:=hL w pre s eT
 have h2:=hR w pre s eT
 have h3:=hTu w pre s eT
 have h4:=hD pre s eT
 unfold C1 a1H
 rw [s1,s2,s3,s4,s5,a8U]
 have b1:∀v:List Nat,(w==v)=true↔w=v:=fun v=>beq_iff_eq
 have b0:∀v:List Nat,(w==v)=false→¬w=v:=fun v h z=>by rw [(b1 v).mpr z] at h;cases h
 cases e1:(w==A0) with
 |true=>rw [e1] at q1;rw [if_pos (.inl ((b1 _).mp e1))];simp (disch:=omega) only [l6,i9,d9,l8,d8,d5,d7,i3,g9,m5,i8,p5,j1,z8,h9,j5,l7,o0,n6,a2i,AH,AM,AT,AQ,Ae,q1,h1];try rfl
 |false=>
  rw [e1] at q1
  cases e2:(w==R7) with
  |true=>rw [e2] at q2;rw [if_pos (.inr ((b1 _).mp e2))];simp (disch:=omega) only [l6,i9,d9,l8,d8,d5,d7,i3,g9,m5,i8,p5,j1,z8,h9,j5,l7,o0,n6,C6,AH,AM,AT,AQ,Ae,q1,q2,h1];try rfl
  |false=>
   rw [e2] at q2
   rw [if_neg (fun z=>z.elim (b0 _ e1) (b0 _ e2))]
   cases e3:(w==C4) with
   |true=>rw [e3] at q3;rw [if_pos (.inl ((b1 _).mp e3))];simp (disch:=omega) only [l6,i9,d9,l8,d8,d5,d7,i3,g9,m5,i8,m8,p5,j1,z8,B0,m6,h9,j5,l7,o0,n6,a2i,C6,AH,AM,AT,AQ,Ae,q1,q2,q3,h2];try rfl
   |false=>
    rw [e3] at q3
    cases e4:(w==a4c) with
    |true=>rw [e4] at q4;rw [if_pos (.inr ((b1 _).mp e4))];simp (disch:=omega) only [l6,i9,d9,l8,d8,d5,d7,i3,g9,m5,i8,m8,p5,j1,z8,B0,m6,h9,j5,l7,o0,n6,C6,AH,AM,AT,AQ,Ae,q1,q2,q3,q4,h2];try rfl
    |false=>
     rw [e4] at q4
     rw [if_neg (fun z=>z.elim (b0 _ e3) (b0 _ e4))]
     rw [if_neg Aq] at q6
     cases e6:a39.contains w with
     |true=>rw [e6] at q6;rw [if_pos rfl];simp (disch:=omega) only [l6,i9,d9,l8,d8,d5,d7,i3,g9,m5,i8,m8,p5,j1,z8,B0,m6,h9,j5,l7,o0,n6,C6,AH,AM,AT,AQ,Ae,q1,q2,q3,q4,q6,h3];try rfl
     |false=>
      rw [e6] at q6
      rw [if_neg Aq]
      cases e5:(w==b07) with
      |true=>rw [e5] at q5;rw [if_pos ((b1 _).mp e5)];simp (disch:=omega) only [l6,i9,d9,l8,d8,d5,d7,i3,g9,m5,i8,m8,p5,j1,z8,B0,m6,h9,j5,l7,o0,n6,C6,AH,AM,AT,AQ,Ae,q1,q2,q3,q4,q6,q5,h4];try rfl
      |false=>rw [e5] at q5;rw [if_neg (b0 _ e5)];simp (disch:=omega) only [l6,i9,d9,l8,g9,m5,i8,m8,j1,B0,m6,h9,j5,l7,o0,n6,C6,AH,AM,AT,AQ,Ae,q1,q2,q3,q4,q6,q5];try rfl
end
theorem b0C(n:Nat)(r:List Nat):M1 (n+1) (91::r)=a2k r:=by rw [M1]
theorem b0D{n:Nat}{s r:List Nat}(h1:[91].isPrefixOf s=false)(h2:(m4 C9 s).2=40::r):M1 (n+1) s=a1H (M1 n) (m4 C9 s).1 r:=by
 rw [M1]
 ·simp only [h2]
 ·intro q e;subst e;simp at h1
theorem b0E{n:Nat}{s:List Nat}(h1:[91].isPrefixOf s=false)(h2:[40].isPrefixOf (m4 C9 s).2=false):M1 (n+1) s=if a7E (m4 C9 s).1=true then some (.named (m4 C9 s).1,(m4 C9 s).2) else none:=by
 rw [M1]
 ·split
  ·rename_i q e;rw [e] at h2;simp at h2
  ·rfl
 ·intro q e;subst e;simp at h1
theorem b0Q{r e:List Nat}{m:Mo}(h:a2k r=some (m,e)):∃p,r=p++e:=by
 have ap:=D0 (· !=93) r
 unfold a2k at h
 split at h
 ·rename_i y q hq
  split at h
  ·cases h
   rw [hq] at ap
   exact⟨(m4 (· !=93) r).1++[y],by rw [List.append_assoc];exact ap⟩
  ·cases h
 ·cases h
theorem b2m{mot:MF}(hs:Suf mot){w s:List Nat}{m:Mo}{r:List Nat}(h:a1H mot w s=some (m,r)):∃p,s=p++r:=by
 have hl:=b2g hs
 unfold a1H at h
 split at h
 ·unfold a0X at h
  split at h
  ·rename_i ps q e
   split at h
   ·cases h
    obtain⟨p,_,e2⟩:=a1o hs 500 s ps _ e
    exact⟨p++[41],by rw [e2];simp⟩
   ·cases h
  ·cases h
 ·split at h
  ·cases ht:a2B s with
   |false=>rw [b4r ht] at h;cases h
   |true=>
    unfold a2B at ht
    rw [Bool.and_eq_true] at ht
    obtain⟨k,hn⟩:=Option.isSome_iff_exists.mp ht.1
    obtain⟨q,hr⟩:=(a9O _).mp ht.2
    rw [b0S hr hn] at h
    have ap:=D0 isF s
    rw [hr] at ap
    cases e:J5 mot q with
    |none=>rw [e] at h;cases h
    |some v=>
     obtain⟨m',q'⟩:=v
     rw [e] at h
     cases h
     obtain⟨p,_,e2⟩:=hl q m' _ e
     exact⟨(m4 isF s).1++(44::32::p),ap.trans (by rw [e2];simp)⟩
  ·split at h
   ·unfold a7T at h
    split at h
    ·rename_i m' q' e
     cases h
     obtain⟨p,_,e2⟩:=hl s m' _ e
     exact⟨p,e2⟩
    ·cases h
   ·split at h
    ·unfold b0i at h
     split at h
     ·rename_i a b q
      split at h
      ·split at h
       ·rename_i m' q' e
        cases h
        obtain⟨p,_,e2⟩:=hl q m' _ e
        exact⟨a::44::32::b::44::32::p,by rw [e2];simp⟩
       ·cases h
      ·cases h
     ·cases h
    ·cases h
theorem a51:∀n:Nat,Suf (M1 n)
 |0=>fun s m r h=>by rw [M1] at h;cases h
 |n+1=>fun s m r h=>by
  have hs:=a51 n
  cases h1:[91].isPrefixOf s with
  |true=>
   obtain⟨q,rfl⟩:=(a9N 91 s).mp h1
   rw [b0C] at h
   obtain⟨p,e⟩:=b0Q h
   exact⟨91::p,by simp,by rw [e];rfl⟩
  |false=>
   have ap:=D0 C9 s
   cases h2:[40].isPrefixOf (m4 C9 s).2 with
   |true=>
    obtain⟨q,e⟩:=(a9N 40 _).mp h2
    rw [b0D h1 e] at h
    obtain⟨p,e2⟩:=b2m hs h
    rw [e,e2] at ap
    exact⟨(m4 C9 s).1++(40::p),by simp,by rw [List.append_assoc];exact ap⟩
   |false=>
    rw [b0E h1 h2] at h
    split at h
    ·rename_i hn
     cases h
     refine⟨(m4 C9 s).1,fun z=> ?_,ap⟩
     rw [z] at hn
     cases hn
    ·cases h
section
variable {RD RL RLa RM RMo RP RR RT:RF}{T:List Nat}
theorem b2q:a1R (p7 2 (O2 RD RL RLa RM RMo RP RR RT)) T 0 (M1 0):=fun pre s eT=>by
 unfold O2
 have e:K1 T (M1 0 s)= .none:=by rw [M1];rfl
 rw [e]
 simp (disch:=omega) only [l6,i9,d9,l8,g9,m5,i8,p5,j1,z8,h9,j5,l7,o0,AH,AM,AT,AW,AQ,AX,AY,beq_self_eq_true,a5K]
 try rfl
theorem b3M(hT:T.length≤450){n:Nat}(hM:∀w pre s,T=pre++s→RM [row T,row w,.int (pre.length:Nat),.int (n:Nat)]=some (.val (K1 T (a1H (M1 n) w s)))):
 a1R (p7 2 (O2 RD RL RLa RM RMo RP RR RT)) T ((n+1:Nat):Int) (M1 (n+1)):=fun pre s eT=>by
 have st:=T1 (pre:=pre) (s:=s) (y:=[91])
 rw [←eT] at st
 have n0:gEq (.val (.int ((n+1:Nat):Int))) (.val (.int 0))=some (.val (.bool false)):=by
  have:¬((n+1:Nat):Int)=0:=by lia
  simp (disch:=omega) only [a5K,this]
  try simpa using this
 have k1:((n+1:Nat):Int) - 1=(n:Nat):=by lia
 unfold O2
 rw [b7B,b5z]
 cases h1:[91].isPrefixOf s with
 |true=>
  rw [h1] at st
  obtain⟨q,rfl⟩:=(a9N 91 s).mp h1
  have pl:=b4e (pre:=pre) (r:=q) (by rw [←eT];exact hT)
  rw [←eT] at pl
  rw [b0C]
  simp (disch:=omega) only [l6,i9,d9,l8,d8,d5,d7,i3,g9,m5,i8,m8,p5,j1,z8,B0,m6,h9,j5,x8,l7,o0,E8,AH,AM,AT,AW,AQ,AX,AY,n0,st,m3,pl]
  try rfl
 |false=>
  rw [h1] at st
  have le:=a8x (pre:=pre) (s:=s) (by rw [←eT];exact hT)
  have ap:=D0 C9 s
  have hall:=P7 C9 s
  rw [←eT] at le
  have lT:T.length=pre.length+s.length:=by rw [eT,AZ]
  have ls:s.length=(m4 C9 s).1.length+(m4 C9 s).2.length:=by rw [←AZ,←ap]
  have sl:=a8Q (pre:=pre) (ds:=(m4 C9 s).1) (post:=(m4 C9 s).2) (by rw [←ap,←eT];lia)
  rw [←ap,←eT] at sl
  have st2:=T1 (pre:=pre++(m4 C9 s).1) (s:=(m4 C9 s).2) (y:=[40])
  rw [List.append_assoc,←ap,←eT,AZ] at st2
  have ne:=b5P hall (by lia)
  have fz:∀(nn:MS) (a b c d:Option g6) (p:PV),b3I 4 nn [a,b,c,d,some (.val p)]=nn [a,b,c,d,some (.val p)]:=fun _ _ _ _ _ _=>rfl
  cases h2:[40].isPrefixOf (m4 C9 s).2 with
  |true=>
   rw [h2] at st2
   obtain⟨q,e⟩:=(a9N 40 _).mp h2
   rw [b0D h1 e]
   have h:=hM (m4 C9 s).1 (pre++((m4 C9 s).1++[40])) q (by rw [eT];simp;rw [←e];exact ap)
   have l1:(pre++((m4 C9 s).1++[40])).length=pre.length+(m4 C9 s).1.length+1:=by simp;lia
   rw [l1] at h
   have c1:((pre.length+(m4 C9 s).1.length:Nat):Int)+1=((pre.length+(m4 C9 s).1.length+1:Nat):Int):=by lia
   generalize (m4 C9 s).1=w at*
   simp (disch:=omega) only [z9,b0l,l6,i9,d9,l8,d8,d5,d7,i3,n5,v7,g9,m5,i8,m8,p5,j1,z8,B0,m6,h9,j5,x8,l7,o0,E8,AH,AM,AT,AW,AQ,AX,AY,Ab,Ac,E5,E6,T6,n0,st,m3,le,sl,st2,fz,c1,k1,h]
   try rfl
  |false=>
   rw [h2] at st2
   rw [b0E h1 h2]
   cases hn:a7E (m4 C9 s).1 with
   |true=>
    rw [hn] at ne
    have mk:V4 (AE "Named") [AE "name"] (a8 (b6 4) g5) [some (.val (row T)),some (.val (.int (pre.length:Nat))),some (.val (.int ((n+1:Nat):Int))),some (.val (.int ((pre.length+(m4 C9 s).1.length:Nat):Int))),some (.val (row (m4 C9 s).1))]=some (.val (z7 (.named (m4 C9 s).1))):=by
     unfold V4
     simp (disch:=omega) only [d9,l8,d8,d5,d7,AH]
     rw [z7]
     rfl
    have c2:pre.length+(m4 C9 s).1.length=T.length - (m4 C9 s).2.length:=by lia
    have rs:K1 T (some (Mo.named (m4 C9 s).1,(m4 C9 s).2))= .tuple [z7 (.named (m4 C9 s).1),.int ((pre.length+(m4 C9 s).1.length:Nat):Int)]:=by rw [c2];rfl
    rw [if_pos rfl,rs]
    clear rs c2 ap ls hall
    generalize (m4 C9 s).1=w at*
    simp (disch:=omega) only [l6,i9,d9,l8,d8,d5,d7,N4,i3,n5,v7,g9,m5,i8,m8,p5,j1,z8,B0,m6,h9,j5,x8,l7,o0,E8,AH,AM,AT,AW,AQ,AX,AY,Ab,Ac,AU,Ag,↓reduceIte,E5,E6,T6,sz,Nat.reduceAdd,Av,n0,st,m3,le,sl,st2,fz,ne,mk]
    try rfl
   |false=>
    rw [hn] at ne
    rw [if_neg Aq]
    generalize (m4 C9 s).1=w at*
    simp (disch:=omega) only [l6,i9,d9,l8,d8,d5,d7,i3,n5,v7,g9,m5,i8,m8,j1,B0,m6,h9,j5,x8,l7,o0,E8,AH,AM,AT,AW,AQ,AX,AY,Ab,Ac,E5,E6,T6,n0,st,m3,le,sl,st2,fz,ne]
    try rfl
end
theorem a9n(n:Nat):P0 (n+1)=p7 2 (O2 (a3l n) (a3m n) (N7 n) (E9 n) (P0 n) (a2c n) (Y6 n) (a1k n)):=rfl
theorem b5o(n:Nat):E9 (n+1)=p7 0 (C1 (a3l n) (a3m n) (N7 n) (E9 n) (P0 n) (a2c n) (Y6 n) (a1k n)):=rfl
theorem a7C{T:List Nat}(hT:T.length≤450):∀(k n:Nat),4*k+1≤n→a1R (P0 n) T (k:Nat) (M1 k)
 |0,n,h=>by
  obtain⟨n,rfl⟩:∃m,n=m+1:=⟨n - 1,by lia⟩
  rw [a9n]
  exact b2q
 |k+1,n,h=>by
  obtain⟨n,rfl⟩:∃m,n=m+4:=⟨n - 4,by lia⟩
  have ih:=a7C hT k n (by lia)
  have hs:=a51 k
  have hla:a1R (N7 (n+1)) T (k:Nat) (J5 (M1 k)):=b5w hs ih
  rw [a9n]
  refine b3M hT ?_
  rw [b5o]
  exact b5F (fun w=>b5u hs hT (b35 hs ih hT)) (fun w=>b77 hT hla) (fun w=>b2Q hla) (b45 hT hla)
def b0O:Option Mo→PV
 |some m=>z7 m
 |none=> .none
theorem a6x{t:List Nat}(hl:t.length≤450):w6 [row t]=some (.val (b0O (a4V t))):=by
 have h:=a7C hl 8 40 (by lia) [] t rfl
 have h:a3k [row t,.int 0,.int 8]=some (.val (K1 t (M1 8 t))):=h
 have gl:=a16 (l:=t) (by lia)
 have c8:a2O= .int 8:=rfl
 have i1:a8q "str" (.val (row t))=some (.val (.bool true)):=rfl
 unfold w6 a09 a4V
 rw [c8]
 cases e:M1 8 t with
 |none=>
  rw [e] at h
  show _=some (g6.val PyData.none)
  simp (disch:=omega) only [l6,z6,i9,d9,l8,d8,d5,d7,i3,n5,v7,g9,m5,i8,m8,p5,j1,z8,B0,m6,h9,j5,x8,l7,o0,E8,o9,n6,a2i,AH,Af,AM,AT,AW,AQ,AX,AY,Ab,Ac,Bool.not_true,i1,h,a7z]
  try rfl
 |some v=>
  obtain⟨m,r⟩:=v
  rw [e] at h
  obtain⟨p,hp,e2⟩:=a51 8 t m r e
  have lt:t.length=p.length+r.length:=by rw [e2,AZ]
  have lp:0<p.length:=List.length_pos_iff.mpr hp
  cases r with
  |nil=>
   have i2:=a22 t m []
   rw [Ag,Nat.sub_zero] at i2
   have ne:gNe (.val (.int (t.length:Nat))) (.val (.int (t.length:Nat)))=some (.val (.bool false)):=by simp (disch:=omega) only [Bool.not_true,beq_self_eq_true,b1s]
   show _=some (g6.val (z7 m))
   simp (disch:=omega) only [l6,z6,i9,d9,l8,d8,d5,d7,i3,n5,v7,g9,m5,i8,m8,j1,B0,m6,h9,j5,x8,l7,o0,E8,o9,n6,C6,AH,Af,AM,AT,AW,AQ,AX,AY,Ab,Ac,Bool.not_true,i1,h,a21,i2,gl,ne,a5T]
   try rfl
  |cons y r=>
   have i2:=a22 t m (y::r)
   have ne:gNe (.val (.int ((t.length - (y::r).length:Nat):Int))) (.val (.int (t.length:Nat)))=some (.val (.bool true)):=by
    have:¬((t.length - (y::r).length:Nat):Int)=(t.length:Nat):=by rw [AU] at lt ⊢;lia
    simp (disch:=omega) only [AU,b1s]
    simpa using this
   rw [AU] at i2 ne
   show _=some (g6.val PyData.none)
   simp (disch:=omega) only [l6,z6,i9,d9,l8,d8,d5,d7,i3,n5,v7,g9,m5,i8,m8,p5,j1,z8,B0,m6,h9,j5,x8,l7,o0,E8,o9,n6,C6,AH,Af,AM,AT,AW,AQ,AX,AY,Ab,Ac,Bool.not_true,i1,h,a21,i2,gl,ne]
   try rfl
def dg(k:Nat):List Nat:=if k<10 then [48+k] else [48+k / 10,48+k % 10]
theorem b8e{k:Nat}(hk:k<25):b0n (.val (.int (k:Nat)))=some (.val (row (dg k))):=by
 match k,hk with
 |0,_=>rfl
 |1,_=>rfl
 |2,_=>rfl
 |3,_=>rfl
 |4,_=>rfl
 |5,_=>rfl
 |6,_=>rfl
 |7,_=>rfl
 |8,_=>rfl
 |9,_=>rfl
 |10,_=>rfl
 |11,_=>rfl
 |12,_=>rfl
 |13,_=>rfl
 |14,_=>rfl
 |15,_=>rfl
 |16,_=>rfl
 |17,_=>rfl
 |18,_=>rfl
 |19,_=>rfl
 |20,_=>rfl
 |21,_=>rfl
 |22,_=>rfl
 |23,_=>rfl
 |24,_=>rfl
 |k+25,h=>lia
theorem a87{bt:Nat→Nat→Bool}{K:Nat→Int}(h:∀i j,bt i j=decide (K i>K j)):∀m,argBest bt m≤m∧∀j,j≤m→K j≤K (argBest bt m)
 |0=>⟨AV _,fun j hj=>by
  have:j=0:=by lia
  subst this
  exact Int.le_refl _⟩
 |m+1=>by
  obtain⟨h1,h2⟩:=a87 h m
  have hb:=h (m+1) (argBest bt m)
  simp only [argBest]
  by_cases c:K (m+1)>K (argBest bt m)
  ·rw [hb,decide_eq_true c]
   simp only [if_true]
   refine⟨AV _,fun j hj=> ?_⟩
   rcases Nat.lt_or_ge j (m+1) with hj'|hj'
   ·have:=h2 j (by lia);lia
   ·have:j=m+1:=by lia
    subst this
    exact Int.le_refl _
  ·rw [hb,decide_eq_false c]
   simp only [Bool.false_eq_true,if_false]
   refine⟨by lia,fun j hj=> ?_⟩
   rcases Nat.lt_or_ge j (m+1) with hj'|hj'
   ·exact h2 j (by lia)
   ·have:j=m+1:=by lia
    subst this
    lia
theorem b1Y{is:List Int}(h0:0<is.length):a3G is∈is∧∀i∈is,i≤a3G is:=by
 obtain⟨h1,h2⟩:=a87 (bt:=fun i j=>decide (is.getD i 0>is.getD j 0)) (K:=fun i=>is.getD i 0) (fun i j=>rfl) (is.length - 1)
 have hb:argBest (fun i j=>decide (is.getD i 0>is.getD j 0)) (is.length - 1)<is.length:=by lia
 constructor
 ·unfold a3G
  rw [List.getD_eq_getElem?_getD,Ay hb]
  exact List.getElem_mem hb
 ·intro i hi
  obtain⟨j,hj,rfl⟩:=List.getElem_of_mem hi
  have:=h2 j (by lia)
  simp only [List.getD_eq_getElem?_getD,Ay hj] at this
  unfold a3G
  rw [List.getD_eq_getElem?_getD]
  simpa using this
mutual
def x6:Mo→List Nat
 | .plain rows=>[91]++A6 [47] rows++[93]
 | .named w=>w
 | .beside ps=>[98,101,115,105,100,101,40]++A6 [44,32] (b0Z ps)++[41]
 | .above ps=>[97,98,111,118,101,40]++A6 [44,32] (b0Z ps)++[41]
 | .across k p=>[97,99,114,111,115,115,40]++dg k++[44,32]++x6 p++[41]
 | .down k p=>[100,111,119,110,40]++dg k++[44,32]++x6 p++[41]
 | .turned w p=>w++[40]++x6 p++[41]
 | .dyed a b p=>[100,121,101,40]++[a]++[44,32]++[b]++[44,32]++x6 p++[41]
def b0Z:List Mo→List (List Nat)
 |[]=>[]
 |p::ps=>x6 p::b0Z ps
end
mutual
def G7:Mo→Nat
 | .plain _=>1
 | .named _=>1
 | .beside ps=>1+K9 ps
 | .above ps=>1+K9 ps
 | .across _ p=>1+G7 p
 | .down _ p=>1+G7 p
 | .turned _ p=>1+G7 p
 | .dyed _ _ p=>1+G7 p
def K9:List Mo→Nat
 |[]=>0
 |p::ps=>max (G7 p) (K9 ps)
end
mutual
def okM:Mo→Prop
 | .plain rows=>a6d rows=true
 | .named w=>a7E w=true∧∀x∈w,C9 x=true
 | .beside ps=>2≤ps.length∧ps.length≤6∧b2v ps
 | .above ps=>2≤ps.length∧ps.length≤6∧b2v ps
 | .across k p=>1≤k∧k≤24∧okM p
 | .down k p=>1≤k∧k≤24∧okM p
 | .turned w p=>w∈a39∧okM p
 | .dyed a b p=>C9 a=true∧C9 b=true∧okM p
def b2v:List Mo→Prop
 |[]=>True
 |p::ps=>okM p∧b2v ps
end
theorem R3:∀ps:List Mo,b0Z ps=ps.map x6
 |[]=>by rw [b0Z];rfl
 |p::ps=>by rw [b0Z,R3 ps];rfl
theorem Z1:∀{ps:List Mo} {p:Mo},b2v ps→p∈ps→okM p
 |[],_,_,h=>by cases h
 |q::ps,p,h,hp=>by
  rw [b2v] at h
  rcases Ak.mp hp with rfl|hp
  ·exact h.1
  ·exact Z1 h.2 hp
theorem a13:∀{ps:List Mo} {p:Mo},p∈ps→G7 p≤K9 ps
 |[],_,h=>by cases h
 |q::ps,p,hp=>by
  rw [K9]
  rcases Ak.mp hp with rfl|hp
  ·lia
  ·have:=a13 hp;lia
theorem a5d(m:Mo):1≤G7 m:=by cases m<;>rw [G7]<;>lia
theorem a1h{sep:List Nat}:∀{ls:List (List Nat)} {l:List Nat},l∈ls→l.length≤(A6 sep ls).length
 |[],_,h=>by cases h
 |[x],l,h=>by rw [List.mem_singleton.mp h];simp [A6]
 |x::y::r,l,h=>by
  rcases Ak.mp h with rfl|h
  ·simp [A6]
  ·have:=a1h (sep:=sep) h
   simp [A6];lia
theorem a9m{sep:List Nat}:∀{ls:List (List Nat)},(ls.map (·.length)).sum+ls.length*sep.length≤(A6 sep ls).length+sep.length
 |[]=>by simp [A6]
 |[x]=>by simp [A6]
 |x::y::r=>by
  have:=a9m (sep:=sep) (ls:=y::r)
  simp only [A6,AM,List.sum_cons,AU,AZ,Nat.add_mul,Nat.one_mul] at this ⊢
  lia
def a2j(f1 f2 f3 f4 f5 f6 f7 f8:RF):Mo→RF
 | .plain _=>f1
 | .named _=>f2
 | .beside _=>f3
 | .above _=>f4
 | .across _ _=>f5
 | .down _ _=>f6
 | .turned _ _=>f7
 | .dyed _ _ _=>f8
abbrev b03(f1 f2 f3 f4 f5 f6 f7 f8:RF):List (Str×RF):=[(AE "Plain",f1),(AE "Named",f2),(AE "Beside",f3),(AE "Above",f4),(AE "Across",f5),(AE "Down",f6),(AE "Turned",f7),(AE "Dyed",f8)]
theorem a2I{f1 f2 f3 f4 f5 f6 f7 f8:RF}{mo:M}{ρ:d4}{m:Mo}{x:Str}(hx:x=AE "text"∨x=AE "deep"∨x=AE "inner")(h:mo ρ=some (.val (z7 m))):
 P4 (b03 f1 f2 f3 f4 f5 f6 f7 f8) x mo g5 ρ=a2j f1 f2 f3 f4 f5 f6 f7 f8 m [z7 m]:=by
 unfold P4
 rw [h]
 cases m<;>rw [z7]<;>rcases hx with rfl|rfl|rfl<;>rfl
theorem b5f(R:List (List Nat)):C5 [AE "Plain"] (AE "rows") (.val (z7 (.plain R)))=some (.val (.tuple (R.map row))):=by rw [z7];rfl
theorem b5e(w:List Nat):C5 [AE "Named"] (AE "name") (.val (z7 (.named w)))=some (.val (row w)):=by rw [z7];rfl
theorem a7t(ps:List Mo):C5 [AE "Beside",AE "Above"] (AE "parts") (.val (z7 (.beside ps)))=some (.val (.tuple (ps.map z7))):=by rw [z7,a2m];rfl
theorem a7s(ps:List Mo):C5 [AE "Beside",AE "Above"] (AE "parts") (.val (z7 (.above ps)))=some (.val (.tuple (ps.map z7))):=by rw [z7,a2m];rfl
theorem b3j(k:Nat)(p:Mo):C5 [AE "Across",AE "Down"] (AE "many") (.val (z7 (.across k p)))=some (.val (.int (k:Nat))):=by rw [z7];rfl
theorem b3i(k:Nat)(p:Mo):C5 [AE "Across",AE "Down"] (AE "many") (.val (z7 (.down k p)))=some (.val (.int (k:Nat))):=by rw [z7];rfl
theorem b7g(w:List Nat)(p:Mo):C5 [AE "Turned"] (AE "way") (.val (z7 (.turned w p)))=some (.val (row w)):=by rw [z7];rfl
theorem b7f(a b:Nat)(p:Mo):C5 [AE "Dyed"] (AE "one") (.val (z7 (.dyed a b p)))=some (.val (row [a])):=by rw [z7];rfl
theorem b3k(a b:Nat)(p:Mo):C5 [AE "Dyed"] (AE "other") (.val (z7 (.dyed a b p)))=some (.val (row [b])):=by rw [z7];rfl
abbrev a7L:List Str:=[AE "Across",AE "Down",AE "Turned",AE "Dyed"]
theorem a3N{m p:Mo}(h:(∃k,m= .across k p)∨(∃k,m= .down k p)∨(∃w,m= .turned w p)∨∃a b,m= .dyed a b p):C5 a7L (AE "part") (.val (z7 m))=some (.val (z7 p)):=by
 rcases h with⟨k,rfl⟩|⟨k,rfl⟩|⟨w,rfl⟩|⟨a,b,rfl⟩<;>rw [z7]<;>rfl
theorem a3C{l k:List Nat}(h:l.length+k.length≤10000):p3 (.val (row l)) (.val (row k))=some (.val (row (l++k))):=b7j (by lia)
theorem ad{x y:M}{ρ:d4}{a b:List Nat}(hx:x ρ=some (.val (row a)))(hy:y ρ=some (.val (row b)))(h:a.length+b.length≤10000):m2 p3 x y ρ=some (.val (row (a++b))):=by
 unfold m2
 rw [hx,hy]
 exact a3C h
theorem cst{z:String}{l:List Nat}(h:AE z=S l)(ρ:d4):mC (.str (AE z)) ρ=some (.val (row l)):=by
 unfold mC
 rw [h]
theorem a1O{x:M}{ps:List PV}{p:PV}(h:x (ps.map fun q=>some (.val q))=some (.val p)):p7 0 (u5 x) ps=some (.val p):=by
 have e:x (ps.map (fun q=>some (g6.val q))++AR 0 none)=some (.val p):=by
  rw [AQ,Ae];exact h
 unfold p7 u5
 rw [e]
 rfl
theorem b0k{tab:List Str}{f:Str}{v p:PV}{ρ:d4}(h:C5 tab f (.val v)=some (.val p)):m1 (C5 tab f) (b6 0) (some (.val v)::ρ)=some (.val p):=h
theorem Y7{a b:List Nat}{n:Nat}(h:(a++b).length≤n):a.length+b.length≤n:=by rw [←AZ];exact h
theorem Y8{a b:List Nat}{n:Nat}(h:(a++b).length≤n):a.length≤n:=by rw [AZ] at h;lia
theorem up{n:Nat}(h:n≤450):n≤10000:=by lia
theorem b80{R:List (List Nat)}(h:a6d R=true)(hl:(x6 (.plain R)).length≤450):u0 [z7 (.plain R)]=some (.val (row (x6 (.plain R)))):=by
 have h0:R≠[]:=by intro z;rw [z] at h;cases h
 rw [x6] at hl ⊢
 have h2:=Y8 hl
 have sh:=b4E (R:=R) (by rw [AZ] at h2;lia) h0
 refine a1O (ad (ad (cst b5z _) ?_ (up (Y7 h2))) (cst a8e _) (up (Y7 hl)))
 show(a8 (m1 (C5 _ _) (b6 0)) g5 [some (.val (z7 (.plain R)))]).bind N3=_
 unfold a8
 rw [b0k (b5f R)]
 exact sh
theorem b8R(w:List Nat):t8 [z7 (.named w)]=some (.val (row (x6 (.named w)))):=by
 rw [x6]
 exact a1O (b0k (b5e w))
abbrev txt(n:Nat):Mo→RF:=a2j u0 t8 (Y4 n) (a0A n) (Y3 n) (a1i n) (Y5 n) (a1j n)
section
variable {RAb RAc RBe RDo RDy RTu RWr:RF}
theorem b6N{ps:List Mo}(hp:ps.length≤6)(h:∀p∈ps,a2j u0 t8 RBe RAb RAc RDo RTu RDy p [z7 p]=some (.val (row (x6 p))))(hl:(A6 [44,32] (ps.map x6)).length≤450):
 p7 0 (V0 RAb RAc RBe RDo RDy RTu RWr) [.tuple (ps.map z7)]=some (.val (row (A6 [44,32] (ps.map x6)))):=by
 have cm:=a0Y (ι:=z7) (f:=fun p=>row (x6 p)) (k:=1) (it:=F8 (b6 0)) (tg:=B8 1) (elt:=I0 RAb RAc RBe RDo RDy RTu RWr) (ρ:=[some (.val (.tuple (ps.map z7)))]) ps rfl (by lia) fun p hp=>by
  refine⟨[some (.val (.tuple (ps.map z7))),some (.val (z7 p))],rfl, ?_⟩
  unfold I0
  have:=a2I (f1:=u0) (f2:=t8) (f3:=RBe) (f4:=RAb) (f5:=RAc) (f6:=RDo) (f7:=RTu) (f8:=RDy) (mo:=b6 1) (ρ:=[some (.val (.tuple (ps.map z7))),some (.val (z7 p))]) (m:=p) (x:=AE "text") (.inl rfl) rfl
  rw [this,h p hp]
  rfl
 have jn:=a5L (sep:=[44,32]) (rows:=ps.map x6) (y:= .own (ps.map fun p=>row (x6 p))) (by show some _=some _;rw [BA];rfl) (by have:=a9m (sep:=[44,32]) (ls:=ps.map x6);simp only [AU,Ag] at this ⊢;lia)
 refine a1O ?_
 show m2 a3P (mC (.str (AE ", "))) (V9 1 (F8 (b6 0)) (B8 1) Z0 _) _=_
 unfold m2
 rw [cst W3,AH]
 show(V9 1 (F8 (b6 0)) (B8 1) Z0 (I0 RAb RAc RBe RDo RDy RTu RWr) [some (.val (.tuple (ps.map z7)))]).bind _=_
 rw [cm,AH]
 exact jn
theorem wr{ps:List Mo}{m:Mo}{tab:List Str}{f:Str}(fl:C5 tab f (.val (z7 m))=some (.val (.tuple (ps.map z7))))(h:RWr [.tuple (ps.map z7)]=some (.val (row (A6 [44,32] (ps.map x6))))):v6 RWr (a8 (m1 (C5 tab f) (b6 0)) g5) [some (.val (z7 m))]=some (.val (row (A6 [44,32] (ps.map x6)))):=by
 unfold v6 a8
 rw [b0k fl]
 exact h
theorem b8x{ps:List Mo}(h:RWr [.tuple (ps.map z7)]=some (.val (row (A6 [44,32] (ps.map x6)))))(hl:(x6 (.beside ps)).length≤450):p7 0 (a0t RAb RAc RBe RDo RDy RTu RWr) [z7 (.beside ps)]=some (.val (row (x6 (.beside ps)))):=by
 rw [x6,R3] at hl ⊢
 exact a1O (ad (ad (cst (by decide+kernel) _) (wr (a7t ps) h) (up (Y7 (Y8 hl)))) (cst a8P _) (up (Y7 hl)))
theorem b8v{ps:List Mo}(h:RWr [.tuple (ps.map z7)]=some (.val (row (A6 [44,32] (ps.map x6)))))(hl:(x6 (.above ps)).length≤450):p7 0 (a07 RAb RAc RBe RDo RDy RTu RWr) [z7 (.above ps)]=some (.val (row (x6 (.above ps)))):=by
 rw [x6,R3] at hl ⊢
 exact a1O (ad (ad (cst (by decide+kernel) _) (wr (a7s ps) h) (up (Y7 (Y8 hl)))) (cst a8P _) (up (Y7 hl)))
theorem a8J{m p:Mo}{ρ:d4}(hm:(∃k,m= .across k p)∨(∃k,m= .down k p)∨(∃w,m= .turned w p)∨∃a b,m= .dyed a b p)(h:a2j u0 t8 RBe RAb RAc RDo RTu RDy p [z7 p]=some (.val (row (x6 p)))):
 P4 (b03 u0 t8 RBe RAb RAc RDo RTu RDy) (AE "text") (m1 (C5 a7L (AE "part")) (b6 0)) g5 (some (.val (z7 m))::ρ)=some (.val (row (x6 p))):=
 (a2I (m:=p) (.inl rfl) (a3N hm)).trans h
theorem b89{k:Nat}(hk:k≤24){m:Mo}{tab:List Str}{f:Str}(fl:C5 tab f (.val (z7 m))=some (.val (.int (k:Nat)))):m1 b0n (m1 (C5 tab f) (b6 0)) [some (.val (z7 m))]=some (.val (row (dg k))):=by
 show(m1 (C5 tab f) (b6 0) [some (.val (z7 m))]).bind b0n=_
 rw [b0k fl]
 exact b8e (by lia)
theorem b8w{k:Nat}{p:Mo}(hk:k≤24)(h:a2j u0 t8 RBe RAb RAc RDo RTu RDy p [z7 p]=some (.val (row (x6 p))))(hl:(x6 (.across k p)).length≤450):p7 0 (a0s RAb RAc RBe RDo RDy RTu RWr) [z7 (.across k p)]=some (.val (row (x6 (.across k p)))):=by
 rw [x6] at hl ⊢
 exact a1O (ad (ad (ad (ad (cst (by decide+kernel) _) (b89 hk (b3j k p)) (up (Y7 (Y8 (Y8 (Y8 hl)))))) (cst W3 _) (up (Y7 (Y8 (Y8 hl))))) (a8J (.inl ⟨k,rfl⟩) h) (up (Y7 (Y8 hl)))) (cst a8P _) (up (Y7 hl)))
theorem b8D{k:Nat}{p:Mo}(hk:k≤24)(h:a2j u0 t8 RBe RAb RAc RDo RTu RDy p [z7 p]=some (.val (row (x6 p))))(hl:(x6 (.down k p)).length≤450):p7 0 (a1W RAb RAc RBe RDo RDy RTu RWr) [z7 (.down k p)]=some (.val (row (x6 (.down k p)))):=by
 rw [x6] at hl ⊢
 exact a1O (ad (ad (ad (ad (cst (by decide+kernel) _) (b89 hk (b3i k p)) (up (Y7 (Y8 (Y8 (Y8 hl)))))) (cst W3 _) (up (Y7 (Y8 (Y8 hl))))) (a8J (.inr (.inl ⟨k,rfl⟩)) h) (up (Y7 (Y8 hl)))) (cst a8P _) (up (Y7 hl)))
theorem b9g{w:List Nat}{p:Mo}(h:a2j u0 t8 RBe RAb RAc RDo RTu RDy p [z7 p]=some (.val (row (x6 p))))(hl:(x6 (.turned w p)).length≤450):p7 0 (a0u RAb RAc RBe RDo RDy RTu RWr) [z7 (.turned w p)]=some (.val (row (x6 (.turned w p)))):=by
 rw [x6] at hl ⊢
 exact a1O (ad (ad (ad (b0k (b7g w p)) (cst b7B _) (up (Y7 (Y8 (Y8 hl))))) (a8J (.inr (.inr (.inl ⟨w,rfl⟩))) h) (up (Y7 (Y8 hl)))) (cst a8P _) (up (Y7 hl)))
theorem b8E{a b:Nat}{p:Mo}(h:a2j u0 t8 RBe RAb RAc RDo RTu RDy p [z7 p]=some (.val (row (x6 p))))(hl:(x6 (.dyed a b p)).length≤450):p7 0 (a1X RAb RAc RBe RDo RDy RTu RWr) [z7 (.dyed a b p)]=some (.val (row (x6 (.dyed a b p)))):=by
 rw [x6] at hl ⊢
 have l1:=Y8 hl
 have l2:=Y8 l1
 have l3:=Y8 l2
 have l4:=Y8 l3
 have l5:=Y8 l4
 exact a1O (ad (ad (ad (ad (ad (ad (cst (by decide+kernel) _) (b0k (b7f a b p)) (up (Y7 l5))) (cst W3 _) (up (Y7 l4))) (b0k (b3k a b p)) (up (Y7 l3))) (cst W3 _) (up (Y7 l2))) (a8J (.inr (.inr (.inr ⟨a,b,rfl⟩))) h) (up (Y7 l1))) (cst a8P _) (up (Y7 hl)))
end
theorem b6o:∀(n:Nat) (m:Mo),okM m→2*G7 m≤n→(x6 m).length≤450→txt n m [z7 m]=some (.val (row (x6 m))):=by
 intro n
 induction n using Nat.strongRecOn with
 |ind n ih=>
  intro m ok hd hl
  have hp:=a5d m
  obtain⟨n,rfl⟩:∃k,n=k+2:=⟨n - 2,by lia⟩
  cases m with
  |plain R=>rw [okM] at ok;exact b80 ok hl
  |named w=>exact b8R w
  |beside ps=>
   rw [okM] at ok
   rw [G7] at hd
   have hw:S4 (n+1) [.tuple (ps.map z7)]=some (.val (row (A6 [44,32] (ps.map x6)))):=b6N ok.2.1 (fun p hp=>ih n (by lia) p (Z1 ok.2.2 hp) (by have:=a13 hp;lia) (by
    have:=a1h (sep:=[44,32]) (List.mem_map_of_mem (f:=x6) hp)
    rw [x6,R3] at hl
    simp only [AZ,AU,Ag] at hl
    lia)) (by
    rw [x6,R3] at hl
    simp only [AZ,AU,Ag] at hl
    lia)
   exact b8x hw hl
  |above ps=>
   rw [okM] at ok
   rw [G7] at hd
   have hw:S4 (n+1) [.tuple (ps.map z7)]=some (.val (row (A6 [44,32] (ps.map x6)))):=b6N ok.2.1 (fun p hp=>ih n (by lia) p (Z1 ok.2.2 hp) (by have:=a13 hp;lia) (by
    have:=a1h (sep:=[44,32]) (List.mem_map_of_mem (f:=x6) hp)
    rw [x6,R3] at hl
    simp only [AZ,AU,Ag] at hl
    lia)) (by
    rw [x6,R3] at hl
    simp only [AZ,AU,Ag] at hl
    lia)
   exact b8v hw hl
  |across k p=>
   rw [okM] at ok
   rw [G7] at hd
   exact b8w ok.2.1 (ih (n+1) (by lia) p ok.2.2 (by lia) (by rw [x6] at hl;simp only [AZ,AU,Ag] at hl;lia)) hl
  |down k p=>
   rw [okM] at ok
   rw [G7] at hd
   exact b8D ok.2.1 (ih (n+1) (by lia) p ok.2.2 (by lia) (by rw [x6] at hl;simp only [AZ,AU,Ag] at hl;lia)) hl
  |turned w p=>
   rw [okM] at ok
   rw [G7] at hd
   exact b9g (ih (n+1) (by lia) p ok.2 (by lia) (by rw [x6] at hl;simp only [AZ,AU,Ag] at hl;lia)) hl
  |dyed a b p=>
   rw [okM] at ok
   rw [G7] at hd
   exact b8E (ih (n+1) (by lia) p ok.2.2 (by lia) (by rw [x6] at hl;simp only [AZ,AU,Ag] at hl;lia)) hl
def a5P:Mo→List Mo
 | .plain _=>[]
 | .named _=>[]
 | .beside ps=>ps
 | .above ps=>ps
 | .across _ p=>[p]
 | .down _ p=>[p]
 | .turned _ p=>[p]
 | .dyed _ _ p=>[p]
theorem b67(m:Mo):G7 m=1+K9 (a5P m):=by
 cases m<;>rw [G7]<;>simp [a5P,K9]
abbrev b8L:Mo→RF:=a2j z5 z5 G3 J9 G2 L7 G4 L8
theorem b6s{x:M}{ρ:d4}{p:PV}(h:x ρ=some (.val p)):S5 (a8 x g5) ρ=some (.val (.tuple [p])):=by
 unfold S5 a8
 rw [h]
 rfl
theorem b7q(m:Mo):b8L m [z7 m]=some (.val (.tuple ((a5P m).map z7))):=by
 cases m with
 |plain R=>exact a1O (ps:=[z7 (.plain R)]) (x:=S5 g5) rfl
 |named w=>exact a1O (ps:=[z7 (.named w)]) (x:=S5 g5) rfl
 |beside ps=>exact a1O (ps:=[z7 (.beside ps)]) (x:=m1 (C5 [AE "Beside",AE "Above"] (AE "parts")) (b6 0)) (a7t ps)
 |above ps=>exact a1O (ps:=[z7 (.above ps)]) (x:=m1 (C5 [AE "Beside",AE "Above"] (AE "parts")) (b6 0)) (a7s ps)
 |across k p=>exact a1O (ps:=[z7 (.across k p)]) (x:=S5 (a8 (m1 (C5 a7L (AE "part")) (b6 0)) g5)) (b6s (a3N (.inl ⟨k,rfl⟩)))
 |down k p=>exact a1O (ps:=[z7 (.down k p)]) (x:=S5 (a8 (m1 (C5 a7L (AE "part")) (b6 0)) g5)) (b6s (a3N (.inr (.inl ⟨k,rfl⟩))))
 |turned w p=>exact a1O (ps:=[z7 (.turned w p)]) (x:=S5 (a8 (m1 (C5 a7L (AE "part")) (b6 0)) g5)) (b6s (a3N (.inr (.inr (.inl ⟨w,rfl⟩)))))
 |dyed a b p=>exact a1O (ps:=[z7 (.dyed a b p)]) (x:=S5 (a8 (m1 (C5 a7L (AE "part")) (b6 0)) g5)) (b6s (a3N (.inr (.inr (.inr ⟨a,b,rfl⟩)))))
theorem b1z:∀ps:List Mo,a20 (ps.map fun p=> .int (G7 p:Nat))=some (ps.map fun p=>((G7 p:Nat):Int))
 |[]=>rfl
 |p::ps=>by
  rw [AM,a20,b1z ps];rfl
theorem b4Y:∀ps:List Mo,(if(ps.map fun p=>((G7 p:Nat):Int)).length=0 then 0 else a3G (ps.map fun p=>((G7 p:Nat):Int)))=((K9 ps:Nat):Int):=fun ps=>by
 cases ps with
 |nil=>rw [K9];rfl
 |cons p r=>
  rw [if_neg (by simp)]
  obtain⟨h1,h2⟩:=b1Y (is:=(p::r).map fun p=>((G7 p:Nat):Int)) (by simp)
  obtain⟨q,hq,e⟩:=BE.mp h1
  have h3:G7 q≤K9 (p::r):=a13 hq
  have h4:∀l:List Mo,l≠[]→∃q∈l,G7 q=K9 l:=by
   intro l
   induction l with
   |nil=>intro h;exact absurd rfl h
   |cons a l ih=>
    intro _
    by_cases hl:l=[]
    ·subst hl
     exact⟨a,Ai,by rw [K9,K9];lia⟩
    ·obtain⟨q,h1,h2⟩:=ih hl
     by_cases hc:K9 l≤G7 a
     ·exact⟨a,Ai,by rw [K9];lia⟩
     ·exact⟨q,Aj _ h1,by rw [K9];lia⟩
  obtain⟨q',h5,h6⟩:=h4 (p::r) (by simp)
  have h7:=h2 _ (List.mem_map_of_mem (f:=fun p=>((G7 p:Nat):Int)) h5)
  rw [←e] at h7 ⊢
  lia
theorem b1f:∀(n:Nat) (m:Mo),okM m→G7 m≤n→m9 n [z7 m]=some (.val (.int (G7 m:Nat)))
 |0,m,_,h=>by have:=a5d m;lia
 |n+1,m,ok,h=>by
  have hd:=b67 m
  have hin:∀p∈a5P m,okM p:=by
   cases m<;>rw [okM] at ok<;>intro p hp
   ·cases hp
   ·cases hp
   ·exact Z1 ok.2.2 hp
   ·exact Z1 ok.2.2 hp
   ·rw [List.mem_singleton.mp hp];exact ok.2.2
   ·rw [List.mem_singleton.mp hp];exact ok.2.2
   ·rw [List.mem_singleton.mp hp];exact ok.2
   ·rw [List.mem_singleton.mp hp];exact ok.2.2
  have hlen:(a5P m).length≤6:=by
   cases m<;>rw [okM] at ok<;>simp only [a5P,AU,Ag]<;>lia
  have it:F8 (P4 (b03 z5 z5 G3 J9 G2 L7 G4 L8) (AE "inner") (b6 0) g5) [some (.val (z7 m))]=some ((a5P m).map z7):=by
   rw [a9z,a2I (m:=m) (.inr (.inr rfl)) rfl]
   show(b8L m [z7 m]).bind _=_
   rw [b7q]
   rfl
  have cm:=a0Y (ι:=z7) (f:=fun p=> .int (G7 p:Nat)) (k:=1) (tg:=B8 1) (elt:=J6 (m9 n)) (a5P m) it (by lia) fun p hp=>by
   refine⟨[some (.val (z7 m)),some (.val (z7 p))],rfl, ?_⟩
   unfold J6
   have:=a2I (f1:=m9 n) (f2:=m9 n) (f3:=m9 n) (f4:=m9 n) (f5:=m9 n) (f6:=m9 n) (f7:=m9 n) (f8:=m9 n) (mo:=b6 1) (ρ:=[some (.val (z7 m)),some (.val (z7 p))]) (m:=p) (x:=AE "deep") (.inr (.inl rfl)) rfl
   rw [this]
   have e:a2j (m9 n) (m9 n) (m9 n) (m9 n) (m9 n) (m9 n) (m9 n) (m9 n) p=m9 n:=by cases p<;>rfl
   rw [e,b1f n p (hin p hp) (by have:=a13 hp;lia)]
   rfl
  have mx:a7v (.own ((a5P m).map fun p=> .int (G7 p:Nat)))=some (.val (.int ((K9 (a5P m):Nat):Int))):=by
   show(a20 _).bind _=_
   rw [b1z,AH,if_pos (by rw [An];lia),b4Y]
  refine a1O (x:=m2 p3 (mC (.int 1)) (m1 a7v (V9 1 (F8 (P4 (b03 z5 z5 G3 J9 G2 L7 G4 L8) (AE "inner") (b6 0) g5)) (B8 1) Z0 (J6 (m9 n))))) ?_
  unfold m2 m1
  show(V9 1 (F8 (P4 (b03 z5 z5 G3 J9 G2 L7 G4 L8) (AE "inner") (b6 0) g5)) (B8 1) Z0 (J6 (m9 n)) [some (.val (z7 m))]|>.bind a7v).bind (fun y=>p3 (.val (.int 1)) y)=_
  rw [cm,AH,mx,AH,hd]
  show some (g6.val (.int (1+((K9 (a5P m):Nat):Int))))=_
  rw [Int.natCast_add]
  rfl
theorem a2z{p:Nat→Bool}{post:List Nat}(hp:∀y r,post=y::r→p y=false):∀{w:List Nat},(∀x∈w,p x=true)→m4 p (w++post)=(w,post)
 |[],_=>by
  cases post with
  |nil=>rfl
  |cons y r=>
   show m4 p (y::r)=_
   unfold m4
   rw [hp y r rfl,if_neg Aq]
 |x::w,h=>by
  rw [AX]
  unfold m4
  rw [if_pos (h x Ai),a2z hp fun y hy=>h y (Aj _ hy)]
def a6H(post:List Nat):Prop:=post=[]∨(∃r,post=41::r)∨∃r,post=44::r
theorem a6H.lt{post:List Nat}(h:a6H post):∀y r,post=y::r→C9 y=false:=fun y r e=>by
 rcases h with h|⟨q,h⟩|⟨q,h⟩
 ·rw [h] at e;cases e
 ·rw [h] at e;cases e;rfl
 ·rw [h] at e;cases e;rfl
theorem b7F{R:List (List Nat)}(h:a6d R=true):R≠[]:=by intro z;rw [z] at h;cases h
theorem X4{n:Nat}{w A3:List Nat}(h0:w≠[])(hw:∀x∈w,C9 x=true):M1 (n+1) (w++40::A3)=a1H (M1 n) w A3:=by
 have sp:=a2z (p:=C9) (post:=40::A3) (fun y r e=>by cases e;rfl) hw
 have h1:[91].isPrefixOf (w++40::A3)=false:=by
  cases w with
  |nil=>exact absurd rfl h0
  |cons x w=>
   have:=hw x Ai
   cases hc:[91].isPrefixOf (x::w++40::A3) with
   |false=>rfl
   |true=>
    obtain⟨r,e⟩:=(a9N 91 _).mp hc
    rw [AX] at e
    cases e
    cases this
 have h2:(m4 C9 (w++40::A3)).2=40::A3:=by rw [sp]
 rw [b0D h1 h2,sp]
theorem a6s{n:Nat}{post:List Nat}:∀(ps:List Mo) (k:Nat),ps≠[]→ps.length≤k→(∀p∈ps,∀post,a6H post→M1 n (x6 p++post)=if G7 p≤n then some (p,post) else none)→
 E7 (M1 n) k (A6 [44,32] (ps.map x6)++41::post)=if K9 ps≤n then some (ps,41::post) else none
 |[],_,h,_,_=>absurd rfl h
 |_::_,0,_,h,_=>by simp at h
 |[p],k+1,_,_,h=>by
  have e:=h p Ai (41::post) (.inr (.inl ⟨post,rfl⟩))
  have g:A6 [44,32] ([p].map x6)=x6 p:=rfl
  have d:K9 [p]=G7 p:=by rw [K9,K9];lia
  rw [g,d]
  by_cases c:G7 p≤n
  ·rw [if_pos c] at e ⊢
   exact a6p e rfl
  ·rw [if_neg c] at e ⊢
   exact a32 e
 |p::q::r,k+1,_,hk,h=>by
  have ih:=a6s (n:=n) (post:=post) (q::r) k (by simp) (by simp only [AU] at hk ⊢;lia) fun x hx=>h x (Aj _ hx)
  have g:A6 [44,32] ((p::q::r).map x6)++41::post=x6 p++44::32::(A6 [44,32] ((q::r).map x6)++41::post):=by
   show x6 p++[44,32]++A6 [44,32] (x6 q::r.map x6)++41::post=_
   simp
  have e:=h p Ai (44::32::(A6 [44,32] ((q::r).map x6)++41::post)) (.inr (.inr ⟨_,rfl⟩))
  have d:K9 (p::q::r)=max (G7 p) (K9 (q::r)):=by rw [K9]
  rw [g,d]
  by_cases c:G7 p≤n
  ·rw [if_pos c] at e
   rw [a6q e,ih]
   by_cases c2:K9 (q::r)≤n
   ·rw [if_pos c2,if_pos (by lia)];rfl
   ·rw [if_neg c2,if_neg (by lia)];rfl
  ·rw [if_neg c] at e
   rw [a32 e,if_neg (by lia)]
theorem a4s{n:Nat}{p:Mo}{post:List Nat}(h:∀post,a6H post→M1 n (x6 p++post)=if G7 p≤n then some (p,post) else none):J5 (M1 n) (x6 p++41::post)=if G7 p≤n then some (p,post) else none:=by
 have e:=h (41::post) (.inr (.inl ⟨post,rfl⟩))
 by_cases c:G7 p≤n
 ·rw [if_pos c] at e ⊢;exact b1E e
 ·rw [if_neg c] at e ⊢;exact b1D e
theorem b7D:(Al 25).all (fun k=>k==0||a6c (dg k)==some k &&(dg k).all isF)=true:=by decide+kernel
theorem b66{k:Nat}(h1:1≤k)(h2:k≤24):a6c (dg k)=some k∧∀x∈dg k,isF x=true:=by
 have:=List.all_eq_true.mp b7D k (List.mem_range.mpr (by lia))
 simp only [Bool.or_eq_true,beq_iff_eq,Bool.and_eq_true,List.all_eq_true] at this
 rcases this with h|h
 ·lia
 ·exact h
theorem b8m:(a39.all fun w=>(w !=[]&& w.all C9)&&(w !=A0 && w !=R7 && w !=C4 && w !=a4c))=true:=by decide+kernel
theorem a9T{n:Nat}{w:List Nat}{k:Nat}{p:Mo}{post:List Nat}(h1:1≤k)(h2:k≤24)(h:∀post,a6H post→M1 n (x6 p++post)=if G7 p≤n then some (p,post) else none):
 a9S (M1 n) w (dg k++44::32::(x6 p++41::post))=if G7 p≤n then some (if w=C4 then Mo.across k p else .down k p,post) else none:=by
 obtain⟨d1,d2⟩:=b66 h1 h2
 have sp:=a2z (p:=isF) (post:=44::32::(x6 p++41::post)) (fun y r e=>by cases e;rfl) d2
 rw [b0S (r:=x6 p++41::post) (k:=k) (by rw [sp]) (by rw [sp];exact d1),a4s h]
 by_cases c:G7 p≤n
 ·rw [if_pos c,if_pos c];rfl
 ·rw [if_neg c,if_neg c];rfl
theorem a7A{n:Nat}{w:List Nat}{ps:List Mo}{post:List Nat}(h2:2≤ps.length)(h6:ps.length≤6)(h:∀p∈ps,∀post,a6H post→M1 n (x6 p++post)=if G7 p≤n then some (p,post) else none):
 a0X (M1 n) w (A6 [44,32] (ps.map x6)++41::post)=if K9 ps≤n then some (if w=A0 then Mo.beside ps else .above ps,post) else none:=by
 have e:=a6s (n:=n) (post:=post) ps 500 (by intro z;rw [z] at h2;simp at h2) (by lia) h
 by_cases c:K9 ps≤n
 ·rw [if_pos c] at e ⊢
  rw [b1C e]
  unfold b3F
  rw [decide_eq_true h2,decide_eq_true h6]
  rfl
 ·rw [if_neg c] at e ⊢
  exact b1B e
theorem b3U{R:List (List Nat)}(h:a6d R=true):∀r∈R,∀x∈r,C9 x=true:=by
 cases R with
 |nil=>cases h
 |cons r0 R=>
  unfold a6d at h
  simp only [Bool.and_eq_true,List.all_eq_true] at h
  intro r hr x hx
  have:=h.2.2 r hr
  unfold okR at this
  simp only [Bool.and_eq_true,List.all_eq_true] at this
  exact this.2 x hx
theorem a9l{p:Nat→Prop}{c:Nat}(hc:p c):∀{R:List (List Nat)},(∀r∈R,∀x∈r,p x)→∀x∈A6 [c] R,p x
 |[],_,x,h=>by cases h
 |[r],hR,x,h=>hR r Ai x (by simpa [A6] using h)
 |r::q::R,hR,x,h=>by
  rw [U5] at h
  rcases Au.mp h with h|h
  ·exact hR r Ai x h
  ·rcases Ak.mp h with rfl|h
   ·exact hc
   ·exact a9l hc (fun y hy=>hR y (Aj _ hy)) x h
theorem b0R{R:List (List Nat)}{post:List Nat}(h:a6d R=true):a2k (A6 [47] R++93::post)=some (.plain R,post):=by
 have hr:=b3U h
 have ha:=a9l (p:=fun x=>x≠93) (c:=47) (by lia) (R:=R) fun r h1 x h2=>by have:=a5j.mp (hr r h1 x h2);lia
 have sp:=a2z (p:=(· !=93)) (post:=93::post) (fun y r e=>by cases e;rfl) (w:=A6 [47] R) fun x hx=>by simpa using ha x hx
 have e:C8 (A6 [47] R)=R:=a5N (a2M _) (b7F h) (a4E _) (fun p hp z=>by have:=a5j.mp (hr p hp 47 z);lia) (a2A _)
 unfold a2k
 simp only [sp,e]
 rw [if_pos h]
theorem a9B:∀(n:Nat) (m:Mo),okM m→∀post,a6H post→M1 n (x6 m++post)=if G7 m≤n then some (m,post) else none
 |0,m,_,post,_=>by rw [M1,if_neg (by have:=a5d m;lia)]
 |n+1,m,ok,post,hp=>by
  have ih:=a9B n
  cases m with
  |plain R=>
   rw [okM] at ok
   have e:x6 (.plain R)++post=91::(A6 [47] R++93::post):=by rw [x6];simp
   rw [e,b0C,b0R ok,G7,if_pos (by lia)]
  |named w=>
   rw [okM] at ok
   have e:x6 (.named w)=w:=by rw [x6]
   have sp:=a2z (p:=C9) hp.lt ok.2
   have w0:w≠[]:=by intro z;rw [z] at ok;cases ok.1
   have h1:[91].isPrefixOf (w++post)=false:=by
    cases w with
    |nil=>exact absurd rfl w0
    |cons x w=>
     have:=ok.2 x Ai
     cases hc:[91].isPrefixOf (x::w++post) with
     |false=>rfl
     |true=>
      obtain⟨r,e⟩:=(a9N 91 _).mp hc
      rw [AX] at e
      cases e
      cases this
   have h2:[40].isPrefixOf (m4 C9 (w++post)).2=false:=by
    rw [sp]
    rcases hp with h|⟨q,h⟩|⟨q,h⟩<;>rw [h]<;>rfl
   rw [e,b0E h1 h2,sp]
   dsimp only
   rw [if_pos ok.1,G7,if_pos (by lia)]
  |beside ps=>
   rw [okM] at ok
   have e:x6 (.beside ps)++post=A0++40::(A6 [44,32] (ps.map x6)++41::post):=by rw [x6,R3];simp [A0]
   rw [e,X4 (by decide) (by decide),G7]
   show(if A0=A0∨A0=R7 then a0X (M1 n) A0 _ else _)=_
   rw [if_pos (.inl rfl),a7A ok.1 ok.2.1 fun p hp=>ih p (Z1 ok.2.2 hp)]
   by_cases c:K9 ps≤n
   ·rw [if_pos c,if_pos (show 1+K9 ps≤n+1 by lia),if_pos rfl]
   ·rw [if_neg c,if_neg (show ¬1+K9 ps≤n+1 by lia)]
  |above ps=>
   rw [okM] at ok
   have e:x6 (.above ps)++post=R7++40::(A6 [44,32] (ps.map x6)++41::post):=by rw [x6,R3];simp [R7]
   rw [e,X4 (by decide) (by decide),G7]
   show(if R7=A0∨R7=R7 then a0X (M1 n) R7 _ else _)=_
   rw [if_pos (.inr rfl),a7A ok.1 ok.2.1 fun p hp=>ih p (Z1 ok.2.2 hp)]
   by_cases c:K9 ps≤n
   ·rw [if_pos c,if_pos (show 1+K9 ps≤n+1 by lia),if_neg (show ¬R7=A0 by decide)]
   ·rw [if_neg c,if_neg (show ¬1+K9 ps≤n+1 by lia)]
  |across k p=>
   rw [okM] at ok
   have e:x6 (.across k p)++post=C4++40::(dg k++44::32::(x6 p++41::post)):=by rw [x6];simp [C4]
   rw [e,X4 (by decide) (by decide),G7]
   unfold a1H
   rw [if_neg (by decide),if_pos (.inl rfl),a9T ok.1 ok.2.1 (ih p ok.2.2)]
   by_cases c:G7 p≤n
   ·rw [if_pos c,if_pos (show 1+G7 p≤n+1 by lia),if_pos rfl]
   ·rw [if_neg c,if_neg (show ¬1+G7 p≤n+1 by lia)]
  |down k p=>
   rw [okM] at ok
   have e:x6 (.down k p)++post=a4c++40::(dg k++44::32::(x6 p++41::post)):=by rw [x6];simp [a4c]
   rw [e,X4 (by decide) (by decide),G7]
   unfold a1H
   rw [if_neg (by decide),if_pos (.inr rfl),a9T ok.1 ok.2.1 (ih p ok.2.2)]
   by_cases c:G7 p≤n
   ·rw [if_pos c,if_pos (show 1+G7 p≤n+1 by lia),if_neg (show ¬a4c=C4 by decide)]
   ·rw [if_neg c,if_neg (show ¬1+G7 p≤n+1 by lia)]
  |turned w p=>
   rw [okM] at ok
   have tw:=List.all_eq_true.mp b8m w ok.1
   simp only [Bool.and_eq_true,bne_iff_ne,ne_eq,List.all_eq_true] at tw
   obtain⟨⟨t0,t1⟩,⟨⟨t2,t3⟩,t4⟩,t5⟩:=tw
   have e:x6 (.turned w p)++post=w++40::(x6 p++41::post):=by rw [x6];simp
   have hc:a39.contains w=true:=by simpa using ok.1
   rw [e,X4 t0 t1,G7]
   unfold a1H
   rw [if_neg (fun z=>z.elim t2 t3),if_neg (fun z=>z.elim t4 t5),if_pos hc]
   unfold a7T
   rw [a4s (ih p ok.2)]
   by_cases c:G7 p≤n
   ·rw [if_pos c,if_pos (show 1+G7 p≤n+1 by lia)]
   ·rw [if_neg c,if_neg (show ¬1+G7 p≤n+1 by lia)]
  |dyed a b p=>
   rw [okM] at ok
   have e:x6 (.dyed a b p)++post=b07++40::(a::44::32::b::44::32::(x6 p++41::post)):=by rw [x6];simp [b07]
   rw [e,X4 (by decide) (by decide),G7]
   unfold a1H
   rw [if_neg (by decide),if_neg (by decide),if_neg (by decide),if_pos rfl]
   show(if(C9 a && C9 b)=true then _ else _)=_
   rw [ok.1,ok.2.1,if_pos (show(true && true)=true from rfl),a4s (ih p ok.2.2)]
   by_cases c:G7 p≤n
   ·rw [if_pos c,if_pos (show 1+G7 p≤n+1 by lia)]
   ·rw [if_neg c,if_neg (show ¬1+G7 p≤n+1 by lia)]
theorem b2H{m:Mo}(ok:okM m):a4V (x6 m)=if G7 m≤8 then some m else none:=by
 have h:=a9B 8 m ok [] (.inl rfl)
 rw [Ae] at h
 unfold a4V
 rw [h]
 by_cases c:G7 m≤8
 ·rw [if_pos c,if_pos c]
 ·rw [if_neg c,if_neg c]
def A2:List (List Nat):=[[],[32],[91,93],[91,97],[97,93],[91,65,93],[91,97,47,93],[91,47,97,93],[91,97,47,98,99,93],[91,97,32,98,93],[91,49,93],[91,97,93,93],[91,97,97,97,97,97,97,97,97,97,97,97,97,97,97,97,97,97,97,97,97,97,97,97,97,97,93],[91,97,47,97,47,97,47,97,47,97,47,97,47,97,47,97,47,97,47,97,47,97,47,97,47,97,47,97,47,97,47,97,47,97,47,97,47,97,47,97,47,97,47,97,47,97,47,97,47,97,93],[97,98,99,100,101,102,103,104,105],[65],[97,49],[97,32,98],[116,117,114,110],[100,121,101],[97,99,114,111,115,115],[98,101,115,105,100,101],[116,117,114,110,40,41],[116,117,114,110,40,97],[116,117,114,110,32,97],[116,117,114,110,40,97,41,41],[91,91,97,93,93],[116,117,114,110,40,97,44,32,98,41],[84,117,114,110,40,97,41],[115,116,97,121,40,97,41],[107,40,97,41],[116,117,114,110,32,40,97,41],[116,117,114,110,40,32,97,41],[116,117,114,110,40,97,32,41],[98,101,115,105,100,101,40,97,41],[98,101,115,105,100,101,40,97,44,98,41],[97,98,111,118,101,40,41],[98,101,115,105,100,101,40,97,44,32,32,98,41],[98,101,115,105,100,101,40,97,44,32,41],[98,101,115,105,100,101,40,44,32,97,41],[98,101,115,105,100,101,40,97,44,32,98,44,32,99,44,32,100,44,32,101,44,32,102,44,32,103,41],[97,98,111,118,101,40,97,41],[97,99,114,111,115,115,40,97,41],[97,99,114,111,115,115,40,48,44,32,97,41],[97,99,114,111,115,115,40,50,53,44,32,97,41],[97,99,114,111,115,115,40,48,50,44,32,97,41],[97,99,114,111,115,115,40,50,44,97,41],[97,99,114,111,115,115,40,50,32,97,41],[97,99,114,111,115,115,40,45,49,44,32,97,41],[97,99,114,111,115,115,40,43,49,44,32,97,41],[97,99,114,111,115,115,40,97,44,32,50,41],[97,99,114,111,115,115,40,50,44,32,97,44,32,98,41],[97,99,114,111,115,115,40,49,95,48,44,32,97,41],[100,111,119,110,40,41],[100,111,119,110,40,50,41],[100,111,119,110,40,50,44,32,41],[100,111,119,110,40,49,48,48,44,32,97,41],[100,111,119,110,40,50,46,48,44,32,97,41],[100,111,119,110,40,44,32,97,41],[100,121,101,40,97,44,32,98,41],[100,121,101,40,97,44,32,98,99,44,32,100,41],[100,121,101,40,44,32,98,44,32,99,41],[100,121,101,40,97,44,32,66,44,32,99,41],[100,121,101,40,97,44,98,44,32,99,41],[100,121,101,40,97,44,32,98,44,32,99,44,32,100,41],[100,121,101,40,49,44,32,98,44,32,99,41],[97,44,98],[40,97,41],[91,97,93,40,98,41],[116,117,114,110,91,97,93],[102,108,105,112,40,91,97,47,98,93],[104,97,108,102,40,104,97,108,102,40,97,41],[91,97,93,10],[97,10]]
def a8N(t:List Nat):Nat→List Nat
 |0=>[116,117,114,110,40]++(t++[41])
 |1=>[97,99,114,111,115,115,40,51,44,32]++(t++[41])
 |2=>[98,101,115,105,100,101,40,91,97,98,93,44,32]++(t++[41])
 |3=>[97,98,111,118,101,40]++(t++[44,32,107,44,32,122,122,41])
 |4=>[100,121,101,40,97,44,32,98,44,32]++(t++[41])
 |_=>[98,101,115,105,100,101,40,102,108,105,112,40,107,41,44,32]++(t++[44,32,91,97,47,98,93,41])
def noB(t:List Nat):Bool:=(a4V t).isNone
set_option maxRecDepth 1000000 in
theorem b9p:(A2.all noB)=true:=by decide+kernel
set_option maxRecDepth 1000000 in
theorem b9q:(A2.all fun t=>(Al 6).all fun i=>noB (a8N t i))=true:=by decide+kernel
set_option maxRecDepth 1000000 in
theorem b9r:(A2.all fun t=>(Al 6).all fun i=>(Al 6).all fun j=>noB (a8N (a8N t i) j))=true:=by decide+kernel
theorem a1B{i:Nat}{e:M}{n:MS}{ρ:d4}{p:PV}(h:e ρ=some (.val p)):t7 (B3 i e) n ρ=n (ρ.set i (some (.val p))):=by
 unfold t7 B3
 rw [h]
 rfl
theorem a33{c:MT}{x:M}{n:MS}{ρ:d4}{p:PV}(hc:c ρ=some true)(hx:x ρ=some (.val p)):t7 (A8 c (u5 x) y9) n ρ=some (.rt (.val p)):=by
 unfold t7 A8
 rw [hc]
 show((u5 x ρ).bind _)=_
 unfold u5
 rw [hx]
 rfl
theorem G0{c:MT}{x n:MS}{ρ:d4}(hc:c ρ=some false):t7 (A8 c x y9) n ρ=n ρ:=by
 unfold t7 A8
 rw [hc]
 rfl
theorem b0U{n:Nat}{b:MS}{ps:List PV}{r:g6}(h:b (ps.map (fun p=>some (g6.val p))++AR n none)=some (.rt r)):p7 n b ps=some r:=by
 unfold p7
 rw [h]
 rfl
theorem eqt{w k:Int}{ρ:d4}{i:Nat}(h:b6 i ρ=some (.val (.int w))):L3 (m2 gEq (b6 i) (mC (.int k))) ρ=some (decide (w=k)):=by
 have e:m2 gEq (b6 i) (mC (.int k)) ρ=gEq (.val (.int w)) (.val (.int k)):=by unfold m2;rw [h];rfl
 have g:gEq (.val (.int w)) (.val (.int k))=some (.val (.bool (decide (w=k)))):=by
  simp (disch:=omega) only [a5K]
  by_cases hw:w=k
  ·subst hw;simp
  ·rw [decide_eq_false hw];simpa using hw
 unfold L3
 rw [e,g]
 rfl
theorem b08{z1 z2:String}{a b t:List Nat}{ρ:d4}(h1:AE z1=S a)(h2:AE z2=S b)(ht:a.length+t.length+b.length≤450):m2 p3 (m2 p3 (mC (.str (AE z1))) (b6 0)) (mC (.str (AE z2))) (some (.val (row t))::ρ)=some (.val (row (a++(t++b)))):=by
 rw [←List.append_assoc]
 exact ad (ad (cst h1 _) rfl (by lia)) (cst h2 _) (by rw [AZ];lia)
theorem b79{t:List Nat}(ht:t.length≤400)(N:Int):a2b [row t,.int N]=some (.val (row (a8N t (N % 6).toNat))):=by
 have e:m2 (gIc (fun _ j=>0<j) fun i j=> .int (i % j)) (b6 1) (mC (.int 6)) [some (.val (row t)),some (.val (.int N)),none]=some (.val (.int (N % 6))):=by simp (disch:=omega) only [a3Q,l6,i9,d9,l8,AH]
 obtain⟨w,hw⟩:∃w,w=N % 6:=⟨_,rfl⟩
 rw [←hw] at e ⊢
 have hr:w=0∨w=1∨w=2∨w=3∨w=4∨w=5:=by lia
 have q:∀k:Int,L3 (m2 gEq (b6 2) (mC (.int k))) [some (.val (row t)),some (.val (.int N)),some (.val (.int w))]=some (decide (w=k)):=fun k=>eqt rfl
 refine b0U ?_
 show a1Z [some (.val (row t)),some (.val (.int N)),none]=_
 unfold a1Z
 rw [a1B e]
 show t7 _ _ [some (.val (row t)),some (.val (.int N)),some (.val (.int w))]=_
 rcases hr with h|h|h|h|h|h
 ·have q0:=q 0;rw [decide_eq_true h] at q0
  rw [h]
  rw [h] at q0
  exact a33 q0 (b08 (by decide+kernel) (by decide+kernel) (by simp;lia))
 ·have q0:=q 0;rw [decide_eq_false (by lia)] at q0
  have q1:=q 1;rw [decide_eq_true h] at q1
  rw [h] at q0 q1 ⊢
  rw [G0 q0]
  exact a33 q1 (b08 (by decide+kernel) (by decide+kernel) (by simp;lia))
 ·have q0:=q 0;rw [decide_eq_false (by lia)] at q0
  have q1:=q 1;rw [decide_eq_false (by lia)] at q1
  have q2:=q 2;rw [decide_eq_true h] at q2
  rw [h] at q0 q1 q2 ⊢
  rw [G0 q0,G0 q1]
  exact a33 q2 (b08 (by decide+kernel) (by decide+kernel) (by simp;lia))
 ·have q0:=q 0;rw [decide_eq_false (by lia)] at q0
  have q1:=q 1;rw [decide_eq_false (by lia)] at q1
  have q2:=q 2;rw [decide_eq_false (by lia)] at q2
  have q3:=q 3;rw [decide_eq_true h] at q3
  rw [h] at q0 q1 q2 q3 ⊢
  rw [G0 q0,G0 q1,G0 q2]
  exact a33 q3 (b08 (by decide+kernel) (by decide+kernel) (by simp;lia))
 ·have q0:=q 0;rw [decide_eq_false (by lia)] at q0
  have q1:=q 1;rw [decide_eq_false (by lia)] at q1
  have q2:=q 2;rw [decide_eq_false (by lia)] at q2
  have q3:=q 3;rw [decide_eq_false (by lia)] at q3
  have q4:=q 4;rw [decide_eq_true h] at q4
  rw [h] at q0 q1 q2 q3 q4 ⊢
  rw [G0 q0,G0 q1,G0 q2,G0 q3]
  exact a33 q4 (b08 (by decide+kernel) (by decide+kernel) (by simp;lia))
 ·have q0:=q 0;rw [decide_eq_false (by lia)] at q0
  have q1:=q 1;rw [decide_eq_false (by lia)] at q1
  have q2:=q 2;rw [decide_eq_false (by lia)] at q2
  have q3:=q 3;rw [decide_eq_false (by lia)] at q3
  have q4:=q 4;rw [decide_eq_false (by lia)] at q4
  rw [h] at q0 q1 q2 q3 q4 ⊢
  rw [G0 q0,G0 q1,G0 q2,G0 q3,G0 q4]
  have:=b08 (z1:="beside(flip(k), ") (z2:=", [a/b])") (a:=[98,101,115,105,100,101,40,102,108,105,112,40,107,41,44,32]) (b:=[44,32,91,97,47,98,93,41]) (t:=t) (ρ:=[some (.val (.int N)),some (.val (.int 5))]) (by decide+kernel) (by decide+kernel) (by simp;lia)
  unfold u5
  rw [this]
  rfl
theorem b7E(c:Int){k:Nat}(hk:k≤100):∃N:Int,0≤N∧Q7 [.int c,.int (k:Nat)]=some (.val (.int N)):=by
 refine⟨c % 10 ^ 18*(2*(k:Int)+3)+(k:Int)*k, ?_, ?_⟩
 ·have h1:0≤c % 10 ^ 18:=Int.emod_nonneg _ (by decide)
  have h2:0≤c % 10 ^ 18*(2*(k:Int)+3):=Int.mul_nonneg h1 (by lia)
  have h3:0≤(k:Int)*k:=Int.mul_nonneg (by lia) (by lia)
  lia
 ·have m1:D6 (.val (.int (k:Nat))) (.val (.int (k:Nat)))=some (.val (.int ((k:Int)*k))):=a5g (by lia)
  unfold Q7 a3E
  simp (disch:=omega) only [z9,a5g,a3Q,b3u,l6,i9,d9,l8,g9,m5,h9,j5,AH,AM,AT,AQ,Ae,Int.reducePow,Int.reduceToNat,m1]
  try rfl
def tso(w:Nat)(m:Mo):Mo:=match w with
 |0=> .turned [116,117,114,110] m
 |1=> .turned [104,97,108,102] m
 |2=> .turned [99,114,111,115,115] m
 |3=> .across 1 m
 |4=> .down 24 m
 |5=> .beside [.named [107],m]
 |6=> .above [m,.plain [[97,98]],.named [122,122]]
 |_=> .dyed 97 98 m
theorem b8l{w:Nat}{m:Mo}(h:okM m):okM (tso w m):=by
 unfold tso
 split<;>simp only [okM,b2v]
 ·exact⟨by decide,h⟩
 ·exact⟨by decide,h⟩
 ·exact⟨by decide,h⟩
 ·exact⟨by lia,by lia,h⟩
 ·exact⟨by lia,by lia,h⟩
 ·exact⟨by simp,by simp,⟨by decide,by decide⟩,h,trivial⟩
 ·exact⟨by simp,by simp,h,by decide,⟨by decide,by decide⟩,trivial⟩
 ·exact⟨by decide,by decide,h⟩
theorem b8j{w:Nat}{m:Mo}:G7 (tso w m)=G7 m+1:=by
 have:=a5d m
 unfold tso
 split<;>simp only [G7,K9]<;>lia
def tsP:Nat→List Nat
 |0=>[116,117,114,110]++[40]
 |1=>[104,97,108,102]++[40]
 |2=>[99,114,111,115,115]++[40]
 |3=>[97,99,114,111,115,115,40,49,44,32]
 |4=>[100,111,119,110,40,50,52,44,32]
 |5=>[98,101,115,105,100,101,40,107,44,32]
 |6=>[97,98,111,118,101,40]
 |_=>[100,121,101,40,97,44,32,98,44,32]
def tsS:Nat→List Nat
 |6=>[44,32,91,97,98,93,44,32,122,122,41]
 |_=>[41]
theorem a3u(w:Nat)(m:Mo):x6 (tso w m)=tsP w++(x6 m++tsS w):=by
 have h1:dg 1=[49]:=rfl
 have h24:dg 24=[50,52]:=rfl
 unfold tso tsP tsS
 split<;>simp [x6,b0Z,A6,h1,h24]
theorem b1O(w:Nat):(tsP w).length≤10:=by unfold tsP;split<;>decide
theorem b1P(w:Nat):(tsS w).length≤11:=by unfold tsS;split<;>decide
theorem b6r(w:Nat)(m:Mo):(x6 (tso w m)).length≤(x6 m).length+21:=by
 rw [a3u]
 have h1:=b1O w
 have h2:=b1P w
 rw [AZ,AZ]
 lia
theorem a7B{c:MT}{x y:MS}{ρ:d4}(hc:c ρ=some true):A8 c x y ρ=x ρ:=by
 unfold A8;rw [hc];rfl
theorem a3Y{c:MT}{x y:MS}{ρ:d4}(hc:c ρ=some false):A8 c x y ρ=y ρ:=by
 unfold A8;rw [hc];rfl
theorem b22{i:Nat}{e:M}{ρ:d4}{p:PV}(h:e ρ=some (.val p)):B3 i e ρ=some (.nx (ρ.set i (some (.val p)))):=by
 unfold B3
 rw [h]
 rfl
theorem b6q{m:Mo}(hl:(x6 m).length≤300)(a z:Int){k:Nat}(hk:k≤100)(q:Option g6):∃w:Nat,w<8∧∃v:Int,G9 [some (.val (row (x6 m))),some (.val (.int a)),some (.val (.int z)),some (.val (.int (k:Nat))),q]=some (.nx [some (.val (row (x6 (tso w m)))),some (.val (.int a)),some (.val (.int z)),some (.val (.int (k:Nat))),some (.val (.int v))]):=by
 have m1:D6 (.val (.int (k:Nat))) (.val (.int (k:Nat)))=some (.val (.int ((k:Int)*k))):=a5g (by lia)
 obtain⟨W,hW⟩:∃W:Int,W=(z /((k:Int)+1)+(k:Int)*k) % 8:=⟨_,rfl⟩
 have e:m2 (gIc (fun _ j=>0<j) fun i j=> .int (i % j)) (m2 p3 (m2 (gIc a8W fun i j=> .int (i / j)) (b6 2) (m2 p3 (b6 3) (mC (.int 1)))) (m2 D6 (b6 3) (b6 3))) (mC (.int 8)) [some (.val (row (x6 m))),some (.val (.int a)),some (.val (.int z)),some (.val (.int (k:Nat))),q]=some (.val (.int W)):=by
  have dv:gIc a8W (fun i j=> .int (i / j)) (.val (.int z)) (.val (.int ((k:Int)+1)))=some (.val (.int (z /((k:Int)+1)))):=by
   show(if okC a8W z ((k:Int)+1)=true then _ else _)=_
   rw [if_pos (a0j.mpr ⟨by lia,by lia⟩)]
  rw [hW]
  simp (disch:=omega) only [z9,a3Q,l6,i9,d9,l8,AH,dv,m1]
 obtain⟨w,hw⟩:∃w:Nat,W=(w:Int):=⟨W.toNat,by lia⟩
 refine⟨w,by lia,W, ?_⟩
 obtain⟨ρ,hρ⟩:∃ρ:d4,ρ=[some (.val (row (x6 m))),some (.val (.int a)),some (.val (.int z)),some (.val (.int (k:Nat))),some (.val (.int W))]:=⟨_,rfl⟩
 have v4:b6 4 ρ=some (.val (.int W)):=by rw [hρ];rfl
 have lt3:L3 (m2 a60 (b6 4) (mC (.int 3))) ρ=some (decide (W<3)):=by rw [hρ];simp (disch:=omega) only [a17,l6,i9,d9,l8,l7,o0,AH]
 have q3:L3 (m2 gEq (b6 4) (mC (.int 3))) ρ=some (decide (W=3)):=eqt v4
 have q4:L3 (m2 gEq (b6 4) (mC (.int 4))) ρ=some (decide (W=4)):=eqt v4
 have q5:L3 (m2 gEq (b6 4) (mC (.int 5))) ρ=some (decide (W=5)):=eqt v4
 have q6:L3 (m2 gEq (b6 4) (mC (.int 6))) ρ=some (decide (W=6)):=eqt v4
 have fin:∀{x:M} {t:List Nat},x ρ=some (.val (row t))→t=x6 (tso w m)→B3 0 x ρ=some (.nx [some (.val (row (x6 (tso w m)))),some (.val (.int a)),some (.val (.int z)),some (.val (.int (k:Nat))),some (.val (.int W))]):=fun {x t} hx ht=>by
  rw [b22 hx,hρ,ht];rfl
 unfold G9
 rw [a1B e]
 show A8 _ _ _ [some (.val (row (x6 m))),some (.val (.int a)),some (.val (.int z)),some (.val (.int (k:Nat))),some (.val (.int W))]=_
 rw [←hρ]
 have hr:w=0∨w=1∨w=2∨w=3∨w=4∨w=5∨w=6∨w=7:=by lia
 by_cases c3:W<3
 ·rw [decide_eq_true c3] at lt3
  rw [a7B lt3]
  have ix:m2 J4 (W7 (a8 (mC (.str (AE "turn"))) (a8 (mC (.str (AE "half"))) (a8 (mC (.str (AE "cross"))) g5)))) (b6 4) ρ=some (.val (row (tsP w).dropLast)):=by
   rw [hρ,hw]
   rcases hr with h|h|h|h
   ·subst h;exact(by decide+kernel:AE "turn"=S [116,117,114,110])▸rfl
   ·subst h;exact(by decide+kernel:AE "half"=S [104,97,108,102])▸rfl
   ·subst h;exact(by decide+kernel:AE "cross"=S [99,114,111,115,115])▸rfl
   ·lia
  have hp:(tsP w).dropLast++[40]=tsP w∧tsS w=[41]∧(tsP w).dropLast.length≤10:=by
   rcases hr with h|h|h|h
   ·subst h;exact⟨rfl,rfl,by decide⟩
   ·subst h;exact⟨rfl,rfl,by decide⟩
   ·subst h;exact⟨rfl,rfl,by decide⟩
   ·lia
  have v0:b6 0 ρ=some (.val (row (x6 m))):=by rw [hρ];rfl
  obtain⟨hp1,hp2,hp3⟩:=hp
  obtain⟨pw,hpw⟩:∃pw,pw=(tsP w).dropLast:=⟨_,rfl⟩
  rw [←hpw] at ix hp1 hp3
  refine fin (ad (ad (ad ix (cst b7B _) (by simp only [AZ,AU,Ag];lia)) v0 (by simp only [AZ,AU,Ag];lia)) (cst a8P _) (by simp only [AZ,AU,Ag];lia)) ?_
  rw [a3u,hp2,←hp1]
  simp
 ·rw [decide_eq_false c3] at lt3
  rw [a3Y lt3]
  have ls:∀u:Nat,(tsP u).length+(x6 m).length+(tsS u).length≤450:=fun u=>by have h1:=b1O u;have h2:=b1P u;lia
  have wr:∀{z1 z2:String} {x y:List Nat},AE z1=S x→AE z2=S y→x.length+(x6 m).length+y.length≤450→m2 p3 (m2 p3 (mC (.str (AE z1))) (b6 0)) (mC (.str (AE z2))) ρ=some (.val (row (x++(x6 m++y)))):=fun h1 h2 h3=>by rw [hρ];exact b08 h1 h2 h3
  by_cases c:W=3
  ·rw [decide_eq_true c] at q3
   rw [a7B q3]
   have:w=3:=by lia
   subst this
   exact fin (wr (z1:="across(1, ") (z2:=")") (x:=tsP 3) (y:=tsS 3) (by decide+kernel) (by decide+kernel) (ls 3)) (a3u 3 m).symm
  ·rw [decide_eq_false c] at q3
   rw [a3Y q3]
   by_cases c:W=4
   ·rw [decide_eq_true c] at q4
    rw [a7B q4]
    have:w=4:=by lia
    subst this
    exact fin (wr (z1:="down(24, ") (z2:=")") (x:=tsP 4) (y:=tsS 4) (by decide+kernel) (by decide+kernel) (ls 4)) (a3u 4 m).symm
   ·rw [decide_eq_false c] at q4
    rw [a3Y q4]
    by_cases c:W=5
    ·rw [decide_eq_true c] at q5
     rw [a7B q5]
     have:w=5:=by lia
     subst this
     exact fin (wr (z1:="beside(k, ") (z2:=")") (x:=tsP 5) (y:=tsS 5) (by decide+kernel) (by decide+kernel) (ls 5)) (a3u 5 m).symm
    ·rw [decide_eq_false c] at q5
     rw [a3Y q5]
     by_cases c:W=6
     ·rw [decide_eq_true c] at q6
      rw [a7B q6]
      have:w=6:=by lia
      subst this
      exact fin (wr (z1:="above(") (z2:=", [ab], zz)") (x:=tsP 6) (y:=tsS 6) (by decide+kernel) (by decide+kernel) (ls 6)) (a3u 6 m).symm
     ·rw [decide_eq_false c] at q6
      rw [a3Y q6]
      have:w=7:=by lia
      subst this
      exact fin (wr (z1:="dye(a, b, ") (z2:=")") (x:=tsP 7) (y:=tsS 7) (by decide+kernel) (by decide+kernel) (ls 7)) (a3u 7 m).symm
theorem a8p{it:MI}{tg:PV→d4→Option d4}{body n:MS}{ρ ρ':d4}{ps:List PV}(h1:it ρ=some ps)(h2:a42 body tg ps ρ=some (.nx ρ')):t7 (a9y it tg body) n ρ=n ρ':=by
 unfold t7 a9y
 rw [h1,AH,h2]
 rfl
theorem a6w{n i:Nat}{p:PV}(h:((Al n).map fun k=>PyData.int (k:Nat))[i]?=some p):p= .int (i:Nat)∧i<n:=by
 rw [Ax] at h
 by_cases hi:i<n
 ·rw [List.getElem?_range hi] at h
  exact⟨(Option.some.inj h).symm,hi⟩
 ·rw [List.getElem?_eq_none (by simpa using hi)] at h
  cases h
theorem b8k{m0:Mo}(ok:okM m0)(d1:G7 m0=1)(hl:(x6 m0).length≤7){many:Nat}(hm:many≤9)(z:Int):
 ∃m,okM m∧G7 m=many+1∧(x6 m).length≤300∧N6 [row (x6 m0),.int (many:Nat),.int z]=some (.val (row (x6 m))):=by
 obtain⟨ρ',e,m,q3,q4,o1,o2,o3,rfl⟩:=a2G (body:=G9) (tg:=B8 3) (fun i ρ=>∃(m:Mo) (q3 q4:Option g6),okM m∧G7 m=i+1∧(x6 m).length≤7+21*i∧ρ=[some (.val (row (x6 m))),some (.val (.int (many:Nat))),some (.val (.int z)),q3,q4])
  (ps:=(Al many).map fun k=> .int (k:Nat)) (ρ:=[some (.val (row (x6 m0))),some (.val (.int (many:Nat))),some (.val (.int z)),none,none])
  (by
   rintro i p hp ρ ⟨m,q3,q4,o1,o2,o3,rfl⟩
   obtain⟨rfl,hi⟩:=a6w hp
   obtain⟨w,_,v,e⟩:=b6q (m:=m) (by lia) (many:Nat) z (k:=i) (by lia) q4
   refine a5o (ρ1:=[some (.val (row (x6 m))),some (.val (.int (many:Nat))),some (.val (.int z)),some (.val (.int (i:Nat))),q4]) rfl e ⟨tso w m,_,_,b8l o1,by rw [b8j,o2], ?_,rfl⟩
   have:=b6r w m
   lia)
  ⟨m0,none,none,ok,d1,hl,rfl⟩
 rw [An,List.length_range] at o2 o3
 refine⟨m,o1,o2,by lia, ?_⟩
 refine b0U ?_
 show U9 [some (.val (row (x6 m0))),some (.val (.int (many:Nat))),some (.val (.int z)),none,none]=_
 unfold U9
 rw [a8p (a4v rfl (by lia)) e]
 rfl
theorem b63:a0V []=some (.own (A2.map row)):=by
 have a1:D6 (.val (.str (AE "a"))) (.val (.int 25))=some (.val (row (AR 25 97))):=by
  have h:=b1p (l:=[97]) (k:=25) ⟨by lia,by simp⟩
  have e:AE "a"=S [97]:=by decide+kernel
  rw [e,h]
  rfl
 have a2:D6 (.val (.str (AE "a/"))) (.val (.int 24))=some (.val (row (AR 24 [97,47]).flatten)):=by
  have h:=b1p (l:=[97,47]) (k:=24) ⟨by lia,by simp⟩
  have e:AE "a/"=S [97,47]:=by decide+kernel
  rw [e,h]
  rfl
 have b1:p3 (.val (.str (AE "["))) (.val (row (AR 25 97)))=some (.val (row ([91]++AR 25 97))):=by rw [b5z];exact a3C (by simp)
 have b2:p3 (.val (row ([91]++AR 25 97))) (.val (.str (AE "]")))=some (.val (row (([91]++AR 25 97)++[93]))):=by rw [a8e];exact a3C (by simp)
 have s2:AE "a]"=S [97,93]:=by decide+kernel
 have b3:p3 (.val (.str (AE "["))) (.val (row (AR 24 [97,47]).flatten))=some (.val (row ([91]++(AR 24 [97,47]).flatten))):=by rw [b5z];exact a3C (by simp)
 have b4:p3 (.val (row ([91]++(AR 24 [97,47]).flatten))) (.val (.str (AE "a]")))=some (.val (row (([91]++(AR 24 [97,47]).flatten)++[97,93]))):=by rw [s2];exact a3C (by simp)
 have x1:∀ρ:d4,m2 p3 (m2 p3 (mC (.str (AE "["))) (m2 D6 (mC (.str (AE "a"))) (mC (.int 25)))) (mC (.str (AE "]"))) ρ=some (.val (row (A2.getD 12 []))):=fun ρ=>by
  show((((D6 (.val (.str (AE "a"))) (.val (.int 25))).bind fun y=>p3 (.val (.str (AE "["))) y)).bind fun x=>p3 x (.val (.str (AE "]"))))=_
  rw [a1,AH,b1,AH,b2]
  rfl
 have x2:∀ρ:d4,m2 p3 (m2 p3 (mC (.str (AE "["))) (m2 D6 (mC (.str (AE "a/"))) (mC (.int 24)))) (mC (.str (AE "a]"))) ρ=some (.val (row (A2.getD 13 []))):=fun ρ=>by
  show((((D6 (.val (.str (AE "a/"))) (.val (.int 24))).bind fun y=>p3 (.val (.str (AE "["))) y)).bind fun x=>p3 x (.val (.str (AE "a]"))))=_
  rw [a2,AH,b3,AH,b4]
  rfl
 have x1':=funext x1
 have x2':=funext x2
 unfold a0V a7i
 rw [x1',x2']
 kernel_rfl
def inT:Nat→List Nat→Prop
 |0,t=>t∈A2
 |n+1,t=>∃u,inT n u∧∃i,i<6∧t=a8N u i
theorem b4X:(A2.all fun t=>decide (t.length≤51))=true:=by decide+kernel
theorem b6f(t:List Nat)(i:Nat):(a8N t i).length≤t.length+30:=by
 unfold a8N
 split<;>simp only [AZ,AU,Ag]<;>lia
theorem a8t:∀{n:Nat} {t:List Nat},inT n t→t.length≤51+30*n
 |0,t,h=>by have:=List.all_eq_true.mp b4X t h;simpa using this
 |n+1,t,⟨u,h,i,_,e⟩=>by have:=a8t h;have:=b6f u i;rw [e];lia
theorem b7p{n:Nat}(hn:n≤2){t:List Nat}(h:inT n t):a4V t=none:=by
 have key:noB t=true→a4V t=none:=fun z=>Option.isNone_iff_eq_none.mp z
 match n,hn,h with
 |0,_,h=>exact key (List.all_eq_true.mp b9p t h)
 |1,_,⟨u,hu,i,hi,e⟩=>
  subst e
  exact key (List.all_eq_true.mp (List.all_eq_true.mp b9q u hu) i (List.mem_range.mpr hi))
 |2,_,⟨v,⟨u,hu,i,hi,e1⟩,j,hj,e⟩=>
  subst e;subst e1
  exact key (List.all_eq_true.mp (List.all_eq_true.mp (List.all_eq_true.mp b9r u hu) i (List.mem_range.mpr hi)) j (List.mem_range.mpr hj))
theorem b0F:M6 true (.val .none) (.val .none)=some (.val (.bool false)):=Eq.trans rfl rfl
theorem b8M(m:Mo):M6 false (.val (z7 m)) (.val .none)=some (.val (.bool false)):=by cases m<;>rw [z7]<;>rfl
theorem b7C(m:Mo):M6 true (.val (z7 m)) (.val .none)=some (.val (.bool true)):=by cases m<;>rw [z7]<;>rfl
theorem b7r{ns:List Int}{i:Nat}(h:i<ns.length):∃c:Int,J4 (.val (.list (ns.map .int))) (.val (.int (i:Nat)))=some (.val (.int c)):=by
 refine⟨ns[i], ?_⟩
 show((L2.atI (ns.map PyData.int) (i:Nat)).map g6.val)=_
 rw [b23,Ax,Ay h]
 rfl
theorem b62{j:Int}(h0:0≤j)(h1:j<74):∃t∈A2,J4 (.bor (A2.map row)) (.val (.int j))=some (.val (row t)):=by
 obtain⟨n,rfl⟩:∃n:Nat,j=n:=⟨j.toNat,by lia⟩
 have hl:A2.length=74:=by decide+kernel
 have hn:n<A2.length:=by lia
 refine⟨A2[n],List.getElem_mem hn, ?_⟩
 show((L2.atI (A2.map row) (n:Nat)).map g6.val)=_
 rw [b23,Ax,Ay hn]
 rfl
theorem md{a b:M}{ρ:d4}{x k:Int}(h:a ρ=some (.val (.int x)))(hb:b ρ=some (.val (.int k)))(hk:0<k):m2 (gIc (fun _ j=>0<j) fun i j=> .int (i % j)) a b ρ=some (.val (.int (x % k))):=by
 unfold m2
 rw [h,hb]
 show(if okC (fun _ j=>0<j) x k=true then some (g6.val (.int (x % k))) else none)=_
 rw [if_pos (a0j (C:=fun _ j=>0<j).mpr hk)]
theorem ml{a:M}{ρ:d4}{x k:Int}(h:a ρ=some (.val (.int x)))(hk: -18446744073709551616<k∧k<18446744073709551616):m2 D6 a (mC (.int k)) ρ=some (.val (.int (x*k))):=by
 unfold m2
 rw [h]
 exact b1q hk
theorem b5Q{p:PV}(h:a8q "str" (.val p)=some (.val (.bool false))):w6 [p]=some (.val .none):=by
 unfold w6 a09
 simp (disch:=omega) only [z6,i9,d9,g9,m5,i8,p5,j1,z8,h9,j5,x8,E8,o9,AH,Af,AM,AT,AW,AQ,AX,AY,Bool.not_false,h]
 try rfl
theorem b1b{g:RF}{x:M}{ρ:d4}{p:PV}(h:x ρ=some (.val p)):v6 g (a8 x g5) ρ=g [p]:=by
 unfold v6 a8
 rw [h]
 rfl
theorem b8y{g:RF}{x y z:M}{ρ:d4}{p q r:PV}(h1:x ρ=some (.val p))(h2:y ρ=some (.val q))(h3:z ρ=some (.val r)):v6 g (a8 x (a8 y (a8 z g5))) ρ=g [p,q,r]:=by
 unfold v6 a8
 rw [h1,h2,h3]
 rfl
theorem a4Y{g:g6→g6→Option g6}{x y:M}{ρ:d4}{r q:g6}{b:Bool}(h1:x ρ=some r)(h2:y ρ=some q)(h:g r q=some (.val (.bool b))):L3 (m2 g x y) ρ=some b:=by
 unfold L3 m2
 rw [h1,h2]
 show(g r q).bind _=_
 rw [h]
 rfl
def b2w(ns:List Int)(i:Nat)(q8:Option g6)(o:Option Fl):Prop:=∃q3' q4' q5' q6' q7':Option g6,o=some (.nx [some (.val (.list (ns.map .int))),some (.own (A2.map row)),some (.val (.int (i:Nat))),q3',q4',q5',q6',q7',q8])
theorem b9h{ns:List Int}{i:Nat}(hi:i<ns.length)(hi2:i<30)(q3 q4 q5 q6 q7 q8:Option g6):b2w ns i q8 (a3U [some (.val (.list (ns.map .int))),some (.own (A2.map row)),some (.val (.int (i:Nat))),q3,q4,q5,q6,q7,q8]):=by
 obtain⟨c,hc⟩:=b7r hi
 obtain⟨N,hN,eN⟩:=b7E c (k:=i) (by lia)
 unfold a3U
 have e1:v6 Q7 (a8 (m2 J4 (b6 0) (b6 2)) (a8 (b6 2) g5)) [some (.val (.list (ns.map .int))),some (.own (A2.map row)),some (.val (.int (i:Nat))),q3,q4,q5,q6,q7,q8]=some (.val (.int N)):=by
  unfold v6 a8
  have ex:m2 J4 (b6 0) (b6 2) [some (.val (.list (ns.map .int))),some (.own (A2.map row)),some (.val (.int (i:Nat))),q3,q4,q5,q6,q7,q8]=some (.val (.int c)):=hc
  rw [ex]
  exact eN
 rw [a1B e1]
 show b2w ns i q8 (t7 _ _ [some (.val (.list (ns.map .int))),some (.own (A2.map row)),some (.val (.int (i:Nat))),some (.val (.int N)),q4,q5,q6,q7,q8])
 obtain⟨t,ht,et⟩:=b62 (j:=N*48271 % 1000003 % 74) (by lia) (by lia)
 have gl:L6 (.bor (A2.map row))=some (.val (.int 74)):=by
  show some (g6.val (.int ((A2.map row).length:Nat)))=_
  rw [An,show A2.length=74 by decide+kernel]
  rfl
 have e2:m2 J4 (b6 1) (m2 (gIc (fun _ j=>0<j) fun i j=> .int (i % j)) (m2 (gIc (fun _ j=>0<j) fun i j=> .int (i % j)) (m2 D6 (b6 3) (mC (.int 48271))) (mC (.int 1000003))) (m1 L6 (b6 1))) [some (.val (.list (ns.map .int))),some (.own (A2.map row)),some (.val (.int (i:Nat))),some (.val (.int N)),q4,q5,q6,q7,q8]=some (.val (row t)):=by
  have ex:=md (b:=m1 L6 (b6 1)) (k:=74) (md (b:=mC (.int 1000003)) (k:=1000003) (ml (a:=b6 3) (x:=N) (k:=48271) (ρ:=[some (.val (.list (ns.map .int))),some (.own (A2.map row)),some (.val (.int (i:Nat))),some (.val (.int N)),q4,q5,q6,q7,q8]) rfl (by lia)) rfl (by lia)) gl (by lia)
  show Option.bind (some (g6.bor (A2.map row))) (fun x=>Option.bind _ fun y=>J4 x y)=_
  rw [AH]
  refine(congrArg (fun o=>Option.bind o fun y=>J4 (g6.bor (A2.map row)) y) ex).trans ?_
  exact et
 rw [a1B e2]
 show b2w ns i q8 (t7 _ _ [some (.val (.list (ns.map .int))),some (.own (A2.map row)),some (.val (.int (i:Nat))),some (.val (.int N)),some (.val (row t)),q5,q6,q7,q8])
 obtain⟨r,hr⟩:∃r:Nat,N*16807 % 999979 % 3=(r:Int):=⟨(N*16807 % 999979 % 3).toNat,by lia⟩
 have hr2:r≤2:=by lia
 have e3:a4S (a8 (m2 (gIc (fun _ j=>0<j) fun i j=> .int (i % j)) (m2 (gIc (fun _ j=>0<j) fun i j=> .int (i % j)) (m2 D6 (b6 3) (mC (.int 16807))) (mC (.int 999979))) (mC (.int 3))) g5) [some (.val (.list (ns.map .int))),some (.own (A2.map row)),some (.val (.int (i:Nat))),some (.val (.int N)),some (.val (row t)),q5,q6,q7,q8]=some ((Al r).map fun k=> .int (k:Nat)):=by
  refine a4v ?_ (by lia)
  rw [←hr]
  exact md (md (ml rfl (by lia)) rfl (by lia)) rfl (by lia)
 obtain⟨ρ',e4,t',q5',o1,rfl⟩:=a2G (body:=a3T) (tg:=B8 5) (fun j ρ=>∃(t:List Nat) (q5:Option g6),inT j t∧ρ=[some (.val (.list (ns.map .int))),some (.own (A2.map row)),some (.val (.int (i:Nat))),some (.val (.int N)),some (.val (row t)),q5,q6,q7,q8])
  (ps:=(Al r).map fun k=> .int (k:Nat)) (ρ:=[some (.val (.list (ns.map .int))),some (.own (A2.map row)),some (.val (.int (i:Nat))),some (.val (.int N)),some (.val (row t)),q5,q6,q7,q8])
  (by
   rintro j p hp ρ ⟨t,q5,o1,rfl⟩
   obtain⟨rfl,hj⟩:=a6w hp
   have hl:=a8t o1
   have er:=b79 (t:=t) (by lia) (N*(2*(j:Int)+39373) % 999953)
   have eb:a3T [some (.val (.list (ns.map .int))),some (.own (A2.map row)),some (.val (.int (i:Nat))),some (.val (.int N)),some (.val (row t)),some (.val (.int (j:Nat))),q6,q7,q8]=some (.nx [some (.val (.list (ns.map .int))),some (.own (A2.map row)),some (.val (.int (i:Nat))),some (.val (.int N)),some (.val (row (a8N t (N*(2*(j:Int)+39373) % 999953 % 6).toNat))),some (.val (.int (j:Nat))),q6,q7,q8]):=by
    unfold a3T
    refine(b22 (p:=row (a8N t (N*(2*(j:Int)+39373) % 999953 % 6).toNat)) ?_).trans rfl
    have g1:D6 (.val (.int N)) (.val (.int (2*(j:Int)+39373)))=some (.val (.int (N*(2*(j:Int)+39373)))):=b1q (by lia)
    simp (disch:=omega) only [z9,a5g,a3Q,l6,i9,d9,l8,d8,d5,d7,i3,AH,g1,er]
    try rfl
   exact a5o (ρ1:=[some (.val (.list (ns.map .int))),some (.own (A2.map row)),some (.val (.int (i:Nat))),some (.val (.int N)),some (.val (row t)),some (.val (.int (j:Nat))),q6,q7,q8]) rfl eb ⟨_,_,⟨t,o1,_,by lia,rfl⟩,rfl⟩)
  ⟨t,q5,ht,rfl⟩
 rw [An,List.length_range] at o1
 rw [a8p e3 e4]
 have hl:=a8t o1
 have e5:L3 (m2 (M6 true) (v6 w6 (a8 (b6 4) g5)) (mC .none)) [some (.val (.list (ns.map .int))),some (.own (A2.map row)),some (.val (.int (i:Nat))),some (.val (.int N)),some (.val (row t')),q5',q6,q7,q8]=some false:=by
  refine a4Y (r:= .val .none) ((b1b rfl).trans ?_) rfl b0F
  rw [a6x (by lia),b7p hr2 o1]
  rfl
 rw [G0 e5]
 obtain⟨many,hm⟩:∃r:Nat,N*40692 % 999961 % 10=(r:Int):=⟨(N*40692 % 999961 % 10).toNat,by lia⟩
 have hm9:many≤9:=by lia
 rw [a1B (p:= .int (many:Nat)) (by rw [←hm];exact md (md (ml rfl (by lia)) rfl (by lia)) rfl (by lia))]
 show b2w ns i q8 (t7 _ _ [some (.val (.list (ns.map .int))),some (.own (A2.map row)),some (.val (.int (i:Nat))),some (.val (.int N)),some (.val (row t')),q5',some (.val (.int (many:Nat))),q7,q8])
 obtain⟨m0,ok0,d0,l0,e6⟩:∃m0,okM m0∧G7 m0=1∧(x6 m0).length≤7∧m2 J4 (W7 (a8 (mC (.str (AE "[ab/ba]"))) (a8 (mC (.str (AE "zz"))) g5))) (m2 (gIc (fun _ j=>0<j) fun i j=> .int (i % j)) (b6 3) (mC (.int 2))) [some (.val (.list (ns.map .int))),some (.own (A2.map row)),some (.val (.int (i:Nat))),some (.val (.int N)),some (.val (row t')),q5',some (.val (.int (many:Nat))),q7,q8]=some (.val (row (x6 m0))):=by
  have ex:=md (a:=b6 3) (b:=mC (.int 2)) (x:=N) (k:=2) (ρ:=[some (.val (.list (ns.map .int))),some (.own (A2.map row)),some (.val (.int (i:Nat))),some (.val (.int N)),some (.val (row t')),q5',some (.val (.int (many:Nat))),q7,q8]) rfl rfl (by lia)
  have s1:AE "[ab/ba]"=S [91,97,98,47,98,97,93]:=by decide+kernel
  have s2:AE "zz"=S [122,122]:=by decide+kernel
  have h2:N % 2=0∨N % 2=1:=by lia
  rw [s1,s2]
  rcases h2 with h2|h2
  ·rw [h2] at ex
   refine⟨.plain [[97,98],[98,97]],by rw [okM];decide,by rw [G7],by rw [x6];decide, ?_⟩
   show Option.bind (some (g6.own [row [91,97,98,47,98,97,93],row [122,122]])) (fun x=>Option.bind _ fun y=>J4 x y)=_
   rw [AH]
   refine(congrArg (fun o=>Option.bind o fun y=>J4 (g6.own [row [91,97,98,47,98,97,93],row [122,122]]) y) ex).trans ?_
   rw [x6]
   rfl
  ·rw [h2] at ex
   refine⟨.named [122,122],by rw [okM];decide,by rw [G7],by rw [x6];decide, ?_⟩
   show Option.bind (some (g6.own [row [91,97,98,47,98,97,93],row [122,122]])) (fun x=>Option.bind _ fun y=>J4 x y)=_
   rw [AH]
   refine(congrArg (fun o=>Option.bind o fun y=>J4 (g6.own [row [91,97,98,47,98,97,93],row [122,122]]) y) ex).trans ?_
   rw [x6]
   rfl
 obtain⟨m,okm,dm,lm,e7⟩:=b8k ok0 d0 l0 hm9 (N % 1000)
 have e8:v6 N6 (a8 (m2 J4 (W7 (a8 (mC (.str (AE "[ab/ba]"))) (a8 (mC (.str (AE "zz"))) g5))) (m2 (gIc (fun _ j=>0<j) fun i j=> .int (i % j)) (b6 3) (mC (.int 2)))) (a8 (b6 6) (a8 (m2 (gIc (fun _ j=>0<j) fun i j=> .int (i % j)) (b6 3) (mC (.int 1000))) g5))) [some (.val (.list (ns.map .int))),some (.own (A2.map row)),some (.val (.int (i:Nat))),some (.val (.int N)),some (.val (row t')),q5',some (.val (.int (many:Nat))),q7,q8]=some (.val (row (x6 m))):=by
  have ex:=md (a:=b6 3) (b:=mC (.int 1000)) (x:=N) (k:=1000) (ρ:=[some (.val (.list (ns.map .int))),some (.own (A2.map row)),some (.val (.int (i:Nat))),some (.val (.int N)),some (.val (row t')),q5',some (.val (.int (many:Nat))),q7,q8]) rfl rfl (by lia)
  exact(b8y e6 rfl ex).trans e7
 rw [a1B e8]
 show b2w ns i q8 (t7 _ _ [some (.val (.list (ns.map .int))),some (.own (A2.map row)),some (.val (.int (i:Nat))),some (.val (.int N)),some (.val (row (x6 m))),q5',some (.val (.int (many:Nat))),q7,q8])
 have rm:=a6x (t:=x6 m) (by lia)
 rw [b2H okm] at rm
 rw [a1B (p:=b0O (if G7 m≤8 then some m else none)) ((b1b rfl).trans rm)]
 show b2w ns i q8 (A8 _ _ _ [some (.val (.list (ns.map .int))),some (.own (A2.map row)),some (.val (.int (i:Nat))),some (.val (.int N)),some (.val (row (x6 m))),q5',some (.val (.int (many:Nat))),some (.val (b0O (if G7 m≤8 then some m else none))),q8])
 refine⟨some (.val (.int N)),some (.val (row (x6 m))),q5',some (.val (.int (many:Nat))),some (.val (b0O (if G7 m≤8 then some m else none))), ?_⟩
 by_cases c:7<many
 ·rw [if_neg (show ¬G7 m≤8 by lia)]
  rw [a7B (a4Y (b:=true) (r:= .val (.int (many:Nat))) rfl (q:= .val (.int 7)) rfl (by show some (g6.val (.bool (decide ((7:Int)<(many:Nat)))))=_;rw [decide_eq_true (by lia)]))]
  rw [a3Y (a4Y (b:=false) (r:= .val .none) rfl (q:= .val .none) rfl b0F)]
  rfl
 ·rw [if_pos (show G7 m≤8 by lia)]
  rw [a3Y (a4Y (b:=false) (r:= .val (.int (many:Nat))) rfl (q:= .val (.int 7)) rfl (by show some (g6.val (.bool (decide ((7:Int)<(many:Nat)))))=_;rw [decide_eq_false (by lia)]))]
  have t1:L3 (m2 (M6 false) (b6 7) (mC .none)) [some (.val (.list (ns.map .int))),some (.own (A2.map row)),some (.val (.int (i:Nat))),some (.val (.int N)),some (.val (row (x6 m))),q5',some (.val (.int (many:Nat))),some (.val (b0O (some m))),q8]=some false:=a4Y (r:= .val (z7 m)) rfl (q:= .val .none) rfl (b8M m)
  have tx:=b6o 20 m okm (by lia) (by lia)
  have dx:=b1f 12 m okm (by lia)
  have t2:L3 (m2 gNe (P4 (b03 u0 t8 a0y a1e a0x a18 a0z a19) (AE "text") (b6 7) g5) (b6 4)) [some (.val (.list (ns.map .int))),some (.own (A2.map row)),some (.val (.int (i:Nat))),some (.val (.int N)),some (.val (row (x6 m))),q5',some (.val (.int (many:Nat))),some (.val (b0O (some m))),q8]=some false:=
   a4Y (r:= .val (row (x6 m))) ((a2I (m:=m) (.inl rfl) rfl).trans tx) (q:= .val (row (x6 m))) rfl (by rw [b1t];simp)
  have pd:a2j m7 m7 m7 m7 m7 m7 m7 m7 m=m7:=by cases m<;>rfl
  have t3:L3 (m2 gNe (P4 (b03 m7 m7 m7 m7 m7 m7 m7 m7) (AE "deep") (b6 7) g5) (m2 p3 (b6 6) (mC (.int 1)))) [some (.val (.list (ns.map .int))),some (.own (A2.map row)),some (.val (.int (i:Nat))),some (.val (.int N)),some (.val (row (x6 m))),q5',some (.val (.int (many:Nat))),some (.val (b0O (some m))),q8]=some false:=by
   refine a4Y (r:= .val (.int (G7 m:Nat))) ((a2I (m:=m) (.inr (.inl rfl)) rfl).trans (by rw [pd];exact dx)) (q:= .val (.int ((many:Int)+1))) rfl ?_
   have:((G7 m:Nat):Int)=(many:Int)+1:=by lia
   rw [this]
   simp (disch:=omega) only [Bool.not_true,beq_self_eq_true,b1s]
   try simp
  refine(a3Y (?_:a0Z _ (a0Z _ _) _=some false)).trans rfl
  unfold a0Z
  rw [t1]
  show(a0Z _ _ _)=_
  unfold a0Z
  rw [t2]
  exact t3
theorem main:∀ns:List Int,ns.length≤63→b6D [.list (ns.map .int)]=some (.val (.bool true)):=by
 intro ns hl
 obtain⟨n,hn⟩:∃n:Nat,n=min ns.length 30:=⟨_,rfl⟩
 obtain⟨ρ',e1,q2,q3,q4,q5,q6,q7,rfl⟩:=a2G (body:=a3U) (tg:=B8 2) (fun _ ρ=>∃q2 q3 q4 q5 q6 q7:Option g6,ρ=[some (.val (.list (ns.map .int))),some (.own (A2.map row)),q2,q3,q4,q5,q6,q7,none])
  (ps:=(Al n).map fun k=> .int (k:Nat)) (ρ:=[some (.val (.list (ns.map .int))),some (.own (A2.map row)),none,none,none,none,none,none,none])
  (by
   rintro i p hp ρ ⟨q2,q3,q4,q5,q6,q7,rfl⟩
   obtain⟨rfl,hi⟩:=a6w hp
   obtain⟨a,b,c,d,e,h⟩:=b9h (ns:=ns) (i:=i) (by lia) (by lia) q3 q4 q5 q6 q7 none
   exact a5o (ρ1:=[some (.val (.list (ns.map .int))),some (.own (A2.map row)),some (.val (.int (i:Nat))),q3,q4,q5,q6,q7,none]) rfl h ⟨_,_,_,_,_,_,rfl⟩)
  ⟨none,none,none,none,none,none,rfl⟩
 have it:a4S (a8 (m2 (gI fun i j=> .int (if j<i then j else i)) (m1 L6 (b6 0)) (mC (.int 30))) g5) [some (.val (.list (ns.map .int))),some (.own (A2.map row)),none,none,none,none,none,none,none]=some ((Al n).map fun k=> .int (k:Nat)):=by
  refine a4v ?_ (by lia)
  have gl:L6 (.val (.list (ns.map .int)))=some (.val (.int (ns.length:Nat))):=by
   show some (g6.val (.int ((ns.map PyData.int).length:Nat)))=_
   rw [An]
  have em:(if(30:Int)<(ns.length:Nat) then(30:Int) else(ns.length:Nat))=(n:Nat):=by split<;>lia
  show(L6 (.val (.list (ns.map .int)))).bind (fun x=>(gI fun i j=> .int (if j<i then j else i)) x (.val (.int 30)))=_
  rw [gl]
  show some (g6.val (.int (if(30:Int)<(ns.length:Nat) then(30:Int) else(ns.length:Nat))))=_
  rw [em]
 have nt:∀p∈([.none,.int 1,.bool true,.list [row [97]],.tuple [row [97]],.dict []]:List PV),w6 [p]=some (.val .none):=fun p hp=>by
  simp only [Ak,List.not_mem_nil,or_false] at hp
  rcases hp with rfl|rfl|rfl|rfl|rfl|rfl<;>exact b5Q rfl
 obtain⟨ρ'',e2,q8,rfl⟩:=a2G (body:=a5U) (tg:=B8 8) (fun _ ρ=>∃q8:Option g6,ρ=[some (.val (.list (ns.map .int))),some (.own (A2.map row)),q2,q3,q4,q5,q6,q7,q8])
  (ps:=[.none,.int 1,.bool true,.list [row [97]],.tuple [row [97]],.dict []]) (ρ:=[some (.val (.list (ns.map .int))),some (.own (A2.map row)),q2,q3,q4,q5,q6,q7,none])
  (by
   rintro i p hp ρ ⟨q8,rfl⟩
   have h:=nt p (BC hp)
   refine a5o (ρ1:=[some (.val (.list (ns.map .int))),some (.own (A2.map row)),q2,q3,q4,q5,q6,q7,some (.val p)]) rfl ?_ ⟨some (.val p),rfl⟩
   unfold a5U
   exact(a3Y (a4Y (b:=false) (r:= .val .none) ((b1b rfl).trans h) (q:= .val .none) rfl b0F)).trans rfl)
  ⟨none,rfl⟩
 have s1:AE "a"=S [97]:=by decide+kernel
 have it2:b0y (W7 (a8 (mC .none) (a8 (mC (.int 1)) (a8 (mC (.bool true)) (a8 (W7 (a8 (mC (.str (AE "a"))) g5)) (a8 (S5 (a8 (mC (.str (AE "a"))) g5)) (a8 b0x g5))))))) [some (.val (.list (ns.map .int))),some (.own (A2.map row)),q2,q3,q4,q5,q6,q7,none]=some [.none,.int 1,.bool true,.list [row [97]],.tuple [row [97]],.dict []]:=by
  rw [s1]
  rfl
 have six:∃m,a4V [98,101,115,105,100,101,40,97,44,32,98,44,32,99,44,32,100,44,32,101,44,32,102,41]=some m:=by
  refine Option.isSome_iff_exists.mp ?_
  decide+kernel
 obtain⟨m,hm⟩:=six
 have s6:AE "beside(a, b, c, d, e, f)"=S [98,101,115,105,100,101,40,97,44,32,98,44,32,99,44,32,100,44,32,101,44,32,102,41]:=by decide+kernel
 have r6:w6 [.str (AE "beside(a, b, c, d, e, f)")]=some (.val (z7 m)):=by
  rw [s6]
  have:=a6x (t:=[98,101,115,105,100,101,40,97,44,32,98,44,32,99,44,32,100,44,32,101,44,32,102,41]) (by simp)
  rw [hm] at this
  exact this
 have gl:L6 (.bor (A2.map row))=some (.val (.int 74)):=by
  show some (g6.val (.int ((A2.map row).length:Nat)))=_
  rw [An,show A2.length=74 by decide+kernel]
  rfl
 refine b0U ?_
 show b24 [some (.val (.list (ns.map .int))),none,none,none,none,none,none,none,none]=_
 unfold b24
 have b0:t7 (B3 1 (fun _=>a0V []))=fun(n:MS) (ρ:d4)=>n (ρ.set 1 (some (.own (A2.map row)))):=by
  funext n ρ
  unfold t7 B3
  rw [b63]
  rfl
 rw [b0]
 show t7 _ _ [some (.val (.list (ns.map .int))),some (.own (A2.map row)),none,none,none,none,none,none,none]=_
 rw [a8p it e1,a8p it2 e2]
 have g74:gEq (.val (.int 74)) (.val (.int 74))=some (.val (.bool true)):=rfl
 have c6:m2 (M6 true) (v6 w6 (a8 (mC (.str (AE "beside(a, b, c, d, e, f)"))) g5)) (mC .none) [some (.val (.list (ns.map .int))),some (.own (A2.map row)),q2,q3,q4,q5,q6,q7,q8]=some (.val (.bool true)):=by
  unfold m2
  rw [(b1b rfl).trans r6]
  exact b7C m
 have c5:m2 gEq (m1 L6 (b6 1)) (mC (.int 74)) [some (.val (.list (ns.map .int))),some (.own (A2.map row)),q2,q3,q4,q5,q6,q7,q8]=some (.val (.bool true)):=by
  show(L6 (.bor (A2.map row))).bind (fun x=>gEq x (.val (.int 74)))=_
  rw [gl]
  exact g74
 have ca:a9w (m2 gEq (m1 L6 (b6 1)) (mC (.int 74))) (m2 (M6 true) (v6 w6 (a8 (mC (.str (AE "beside(a, b, c, d, e, f)"))) g5)) (mC .none)) [some (.val (.list (ns.map .int))),some (.own (A2.map row)),q2,q3,q4,q5,q6,q7,q8]=some (.val (.bool true)):=by
  unfold a9w
  rw [c5]
  exact c6
 unfold u5
 rw [ca]
 rfl
end LW
set_option maxHeartbeats 4000000
namespace LW
open PySem PySem.Spec PyProof.Rows L2 PU
def U8(i:Nat):Stmt:=PySem.Challenge.pw_carpetkin_k22_texts_of_no_motif.main.body.getD i (.Pass ⟨0,0,0,0⟩)
abbrev a4C:Stmt:=U8 70
theorem a6D:j8 ["_law_some"] [] (d6 a4C):=U7
abbrev a1t:Stmt:=U8 69
theorem a3a:j8 ["_law_cell","_law_at"] ["_law_cell","_law_at"] (d6 a1t):=U7
abbrev V6:Stmt:=U8 72
theorem a01:j8 ["_law_text","_law_many","_law_number_here","_law_k","_law_way"] ["_law_text","_law_many","_law_number_here"] (d6 V6):=U7
abbrev a4D:Stmt:=U8 43
theorem a6E:j8 ["text","at","first","last","end"] ["text","at","first","last"] (d6 a4D):=U7
abbrev a0H:Stmt:=U8 44
theorem a2v:j8 ["text","at"] ["text","at"] (d6 a0H):=U7
abbrev V5:Stmt:=U8 48
theorem a00:j8 ["word"] ["word"] (d6 V5):=U7
abbrev a4B:Stmt:=U8 55
theorem a6C:j8 ["word"] ["word"] (d6 a4B):=U7
theorem a9E:List.Nodup (α:=Str) ["thing","sign"]:=by decide+kernel
abbrev a6B:Stmt:=U8 9
theorem a7S:j8 ["thing"] ["thing"] (d6 a6B):=U7
theorem a62:List.Nodup (α:=Str) ["thing","row"]:=by decide+kernel
theorem a63:List.Nodup (α:=Str) ["thing","row"]:=by decide+kernel
abbrev a3o:Stmt:=U8 10
theorem a4W:j8 ["thing"] ["thing"] (d6 a3o):=U7
abbrev a1w:Stmt:=U8 16
theorem a3b:j8 ["text","cloth"] ["text"] (d6 a1w):=U7
abbrev a3p:Stmt:=U8 56
theorem a4X:j8 ["text","at","end","rows"] ["text","at"] (d6 a3p):=U7
abbrev a0G:Stmt:=U8 45
theorem a2u:j8 ["text","at"] ["text","at"] (d6 a0G):=U7
abbrev a2p:Stmt:=U8 46
theorem a36:j8 ["word"] ["word"] (d6 a2p):=U7
abbrev S8:Stmt:=U8 47
theorem a0n:j8 ["word","least","most","number"] ["word","least","most"] (d6 S8):=U7
abbrev a2q:Stmt:=U8 60
theorem a37:j8 ["text","at","end"] ["text","at"] (d6 a2q):=U7
abbrev Z7:Stmt:=U8 63
theorem a1L:j8 ["text","at"] ["text","at"] (d6 Z7):=U7
abbrev a2K:Stmt:=U8 64
theorem a3q:j8 ["text","at","left","found"] ["text","at","left"] (d6 a2K):=U7
abbrev a2L:Stmt:=U8 58
theorem a3r:j8 ["text","word","at","left","found"] ["text","word","at","left"] (d6 a2L):=U7
abbrev R0:Stmt:=U8 59
theorem V7:j8 ["text","at","left","found"] ["text","at","left"] (d6 R0):=U7
abbrev J3:Stmt:=U8 65
theorem M7:j8 ["text","word","at","left"] ["text","word","at","left"] (d6 J3):=U7
abbrev a1u:Stmt:=U8 66
theorem a2w:j8 ["text","at","left","end","word"] ["text","at","left"] (d6 a1u):=U7
abbrev a1v:Stmt:=U8 57
theorem a2x:j8 ["text","at","left","parts","found"] ["text","at","left"] (d6 a1v):=U7
abbrev U0:Stmt:=U8 61
theorem a0b:j8 ["text","word","at","left","end","found","many"] ["text","word","at","left"] (d6 U0):=U7
abbrev a0m:Stmt:=U8 62
theorem a1A:j8 ["text","word","at","left","found"] ["text","word","at","left"] (d6 a0m):=U7
abbrev a1x:Stmt:=U8 67
theorem a3c:j8 ["text","found"] ["text"] (d6 a1x):=U7
abbrev a2o:Stmt:=U8 71
theorem a35:j8 ["_law_text","_law_number_here","_law_way"] ["_law_text","_law_number_here"] (d6 a2o):=U7
abbrev a0I:Stmt:=U8 17
theorem a2y:j8 ["cloth"] ["cloth"] (d6 a0I):=U7
abbrev a1s:Stmt:=K2 (U8 32) 1
theorem a29:j8 ["self"] ["self"] (d6 a1s):=U7
abbrev a1r:Stmt:=K2 (U8 33) 1
theorem a28:j8 ["self"] ["self"] (d6 a1r):=U7
abbrev X0:Stmt:=K2 (U8 35) 2
theorem a0J:j8 ["self"] ["self"] (d6 X0):=U7
abbrev T7:Stmt:=K2 (U8 36) 2
theorem Z8:j8 ["self"] ["self"] (d6 T7):=U7
abbrev T8:Stmt:=K2 (U8 34) 2
theorem Z9:j8 ["self"] ["self"] (d6 T8):=U7
abbrev a0k:Stmt:=K2 (U8 37) 2
theorem a1y:j8 ["self"] ["self"] (d6 a0k):=U7
abbrev a0l:Stmt:=K2 (U8 39) 2
theorem a1z:j8 ["self"] ["self"] (d6 a0l):=U7
abbrev T9:Stmt:=K2 (U8 38) 2
theorem a0a:j8 ["self"] ["self"] (d6 T9):=U7
theorem a3n:List.Nodup (α:=Str) ["parts","part"]:=by decide+kernel
abbrev N9:Stmt:=U8 30
theorem S9:j8 ["parts"] ["parts"] (d6 N9):=U7
abbrev a0F:Stmt:=K2 (U8 31) 0
theorem a2t:j8 ["self"] ["self"] (d6 a0F):=U7
abbrev Z5:Stmt:=K2 (U8 34) 1
theorem a1J:j8 ["self"] ["self"] (d6 Z5):=U7
abbrev a0E:Stmt:=K2 (U8 35) 1
theorem a2s:j8 ["self"] ["self"] (d6 a0E):=U7
abbrev Z4:Stmt:=K2 (U8 36) 1
theorem a1I:j8 ["self"] ["self"] (d6 Z4):=U7
abbrev a1p:Stmt:=K2 (U8 37) 1
theorem a26:j8 ["self"] ["self"] (d6 a1p):=U7
abbrev Z6:Stmt:=K2 (U8 38) 1
theorem a1K:j8 ["self"] ["self"] (d6 Z6):=U7
abbrev a1q:Stmt:=K2 (U8 39) 1
theorem a27:j8 ["self"] ["self"] (d6 a1q):=U7
theorem a44:List.Nodup (α:=Str) ["self","part"]:=by decide+kernel
abbrev X1:Stmt:=K2 (U8 31) 1
theorem a0K:j8 ["self"] ["self"] (d6 X1):=U7
abbrev b4A:Stmt:=U8 73
theorem b4D:j8 ["_law_script","_law_some","_law_at","_law_number_here","_law_text","_law_k","_law_many","_law_found","_law_thing"] ["_law_script"] (d6 b4A):=U7
structure MoB(K:AD)(mg:Str→Option AA):Prop where
 z_all:mg "all"=none
 z_int:mg "int"=none
 z_isinstance:mg "isinstance"=none
 z_len:mg "len"=none
 z_max:mg "max"=none
 z_min:mg "min"=none
 z_range:mg "range"=none
 z_str:mg "str"=none
 z_tuple:mg "tuple"=none
abbrev a9W:Stmt:=K2 (U8 32) 0
theorem b2K:j8 ["self","rows"] ["self","rows"] (d6 a9W):=U7
abbrev a9V:Stmt:=K2 (U8 33) 0
theorem b2J:j8 ["self","name"] ["self","name"] (d6 a9V):=U7
abbrev a7Q:Stmt:=K2 (U8 34) 0
theorem b0W:j8 ["self","parts"] ["self","parts"] (d6 a7Q):=U7
abbrev a9U:Stmt:=K2 (U8 35) 0
theorem b2I:j8 ["self","parts"] ["self","parts"] (d6 a9U):=U7
abbrev a7P:Stmt:=K2 (U8 36) 0
theorem b0V:j8 ["self","many","part"] ["self","many","part"] (d6 a7P):=U7
abbrev b1K:Stmt:=K2 (U8 37) 0
theorem b4B:j8 ["self","many","part"] ["self","many","part"] (d6 b1K):=U7
abbrev a7R:Stmt:=K2 (U8 38) 0
theorem b0X:j8 ["self","way","part"] ["self","way","part"] (d6 a7R):=U7
abbrev b1L:Stmt:=K2 (U8 39) 0
theorem b4C:j8 ["self","one","other","part"] ["self","one","other","part"] (d6 b1L):=U7
structure Ad where
 C_Plain:AB
 C_Named:AB
 C_Beside:AB
 C_Above:AB
 C_Across:AB
 C_Down:AB
 C_Turned:AB
 C_Dyed:AB
 f_Plain_text:AB
 f_Named_text:AB
 f_Above_text:AB
 f_Across_text:AB
 f_Beside_text:AB
 f_Down_text:AB
 f_Dyed_text:AB
 f_Turned_text:AB
 f_Motif_inner:AB
 f_Beside_inner:AB
 f_Above_inner:AB
 f_Across_inner:AB
 f_Down_inner:AB
 f_Turned_inner:AB
 f_Dyed_inner:AB
 f_Motif_deep:AB
structure Oc(K:AD)(mg:Str→Option AA)(a:Ad):Prop where
 kc_Plain:KC K "Plain" a.C_Plain
 kc_Named:KC K "Named" a.C_Named
 kc_Beside:KC K "Beside" a.C_Beside
 kc_Above:KC K "Above" a.C_Above
 kc_Across:KC K "Across" a.C_Across
 kc_Down:KC K "Down" a.C_Down
 kc_Turned:KC K "Turned" a.C_Turned
 kc_Dyed:KC K "Dyed" a.C_Dyed
 fi_Plain_deep:PySem.W.findIn K (.ref a.C_Plain) "deep"=some (some (.ref a.f_Motif_deep))
 fi_Named_deep:PySem.W.findIn K (.ref a.C_Named) "deep"=some (some (.ref a.f_Motif_deep))
 fi_Beside_deep:PySem.W.findIn K (.ref a.C_Beside) "deep"=some (some (.ref a.f_Motif_deep))
 fi_Above_deep:PySem.W.findIn K (.ref a.C_Above) "deep"=some (some (.ref a.f_Motif_deep))
 fi_Across_deep:PySem.W.findIn K (.ref a.C_Across) "deep"=some (some (.ref a.f_Motif_deep))
 fi_Down_deep:PySem.W.findIn K (.ref a.C_Down) "deep"=some (some (.ref a.f_Motif_deep))
 fi_Turned_deep:PySem.W.findIn K (.ref a.C_Turned) "deep"=some (some (.ref a.f_Motif_deep))
 fi_Dyed_deep:PySem.W.findIn K (.ref a.C_Dyed) "deep"=some (some (.ref a.f_Motif_deep))
 fi_Plain_inner:PySem.W.findIn K (.ref a.C_Plain) "inner"=some (some (.ref a.f_Motif_inner))
 fi_Named_inner:PySem.W.findIn K (.ref a.C_Named) "inner"=some (some (.ref a.f_Motif_inner))
 fi_Beside_inner:PySem.W.findIn K (.ref a.C_Beside) "inner"=some (some (.ref a.f_Beside_inner))
 fi_Above_inner:PySem.W.findIn K (.ref a.C_Above) "inner"=some (some (.ref a.f_Above_inner))
 fi_Across_inner:PySem.W.findIn K (.ref a.C_Across) "inner"=some (some (.ref a.f_Across_inner))
 fi_Down_inner:PySem.W.findIn K (.ref a.C_Down) "inner"=some (some (.ref a.f_Down_inner))
 fi_Turned_inner:PySem.W.findIn K (.ref a.C_Turned) "inner"=some (some (.ref a.f_Turned_inner))
 fi_Dyed_inner:PySem.W.findIn K (.ref a.C_Dyed) "inner"=some (some (.ref a.f_Dyed_inner))
 fi_Plain_text:PySem.W.findIn K (.ref a.C_Plain) "text"=some (some (.ref a.f_Plain_text))
 fi_Named_text:PySem.W.findIn K (.ref a.C_Named) "text"=some (some (.ref a.f_Named_text))
 fi_Beside_text:PySem.W.findIn K (.ref a.C_Beside) "text"=some (some (.ref a.f_Beside_text))
 fi_Above_text:PySem.W.findIn K (.ref a.C_Above) "text"=some (some (.ref a.f_Above_text))
 fi_Across_text:PySem.W.findIn K (.ref a.C_Across) "text"=some (some (.ref a.f_Across_text))
 fi_Down_text:PySem.W.findIn K (.ref a.C_Down) "text"=some (some (.ref a.f_Down_text))
 fi_Turned_text:PySem.W.findIn K (.ref a.C_Turned) "text"=some (some (.ref a.f_Turned_text))
 fi_Dyed_text:PySem.W.findIn K (.ref a.C_Dyed) "text"=some (some (.ref a.f_Dyed_text))
 na_Plain_rows:B6 K a.C_Plain "rows"
 na_Named_name:B6 K a.C_Named "name"
 na_Beside_parts:B6 K a.C_Beside "parts"
 na_Above_parts:B6 K a.C_Above "parts"
 na_Across_many:B6 K a.C_Across "many"
 na_Across_part:B6 K a.C_Across "part"
 na_Down_many:B6 K a.C_Down "many"
 na_Down_part:B6 K a.C_Down "part"
 na_Turned_way:B6 K a.C_Turned "way"
 na_Turned_part:B6 K a.C_Turned "part"
 na_Dyed_one:B6 K a.C_Dyed "one"
 na_Dyed_other:B6 K a.C_Dyed "other"
 na_Dyed_part:B6 K a.C_Dyed "part"
section
variable (P:AL)(w:AJ)(K:AD)(mg:Str→Option AA)(base:Heap)(a:Ad)
abbrev a7g:Prop:=j7 P w K mg base "_law_bad" [] 1 a0V
abbrev a3y:Prop:=j7 P w K mg base "_law_number" ["_law_cell","_law_at"] 1 Q7
abbrev a1F:Prop:=j7 P w K mg base "_law_turned_so" ["_law_text","_law_many","_law_number_here"] 1 N6
abbrev a4i:Prop:=j7 P w K mg base "run_end" ["text","at","first","last"] 1 a0W
abbrev M9:Prop:=j7 P w K mg base "letters_end" ["text","at"] 2 E4
abbrev a1E:Prop:=j7 P w K mg base "is_small_word" ["word"] 3 N5
abbrev a4h:Prop:=j7 P w K mg base "is_name" ["word"] 4 a2H
abbrev a84:Prop:=j7 P w K mg base "is_row" ["thing"] 1 a2a
abbrev a5w:Prop:=j7 P w K mg base "is_cloth" ["thing"] 2 a1f
abbrev a3z:Prop:=a95 P w K mg base "read_cloth" ["text"] 3 M0
abbrev a3g:Prop:=j7 P w K mg base "plain_at" ["text","at"] 4 a1g
abbrev a0r:Prop:=j7 P w K mg base "figures_end" ["text","at"] 2 K0
abbrev a4H:Prop:=j7 P w K mg base "number_in" ["word"] 3 a0i
abbrev a0O:Prop:=j7 P w K mg base "number_between" ["word","least","most"] 4 L9
abbrev a1U:Prop:=j7 P w K mg base "times_end" ["text","at"] 5 U4
abbrev X9:Prop:=j7 P w K mg base "is_colour_at" ["text","at"] 3 G5
abbrev a99:Prop:=j7 P w K mg base "motif_at" ["text","at","left"] 45 a3k
abbrev a3A:Prop:=j7 P w K mg base "read_motif" ["text"] 46 w6
abbrev a4G:Prop:=j7 P w K mg base "_law_round" ["_law_text","_law_number_here"] 1 a2b
abbrev a2W:Prop:=j7 P w K mg base "shown_cloth" ["cloth"] 1 N3
abbrev D5:Prop:=p4 P w K mg base a.f_Plain_text ["self"] 2 u0
abbrev D4:Prop:=p4 P w K mg base a.f_Named_text ["self"] 1 t8
abbrev a74:Prop:=p4 P w K mg base a.f_Above_text ["self"] 22 a1e
abbrev a6T:Prop:=p4 P w K mg base a.f_Across_text ["self"] 22 a0x
abbrev a6U:Prop:=p4 P w K mg base a.f_Beside_text ["self"] 22 a0y
abbrev a82:Prop:=p4 P w K mg base a.f_Down_text ["self"] 22 a18
abbrev a83:Prop:=p4 P w K mg base a.f_Dyed_text ["self"] 22 a19
abbrev a6V:Prop:=p4 P w K mg base a.f_Turned_text ["self"] 22 a0z
abbrev a0q:Prop:=p4 P w K mg base a.f_Motif_inner ["self"] 1 z5
abbrev X7:Prop:=p4 P w K mg base a.f_Beside_inner ["self"] 1 G3
abbrev a0p:Prop:=p4 P w K mg base a.f_Above_inner ["self"] 1 J9
abbrev X6:Prop:=p4 P w K mg base a.f_Across_inner ["self"] 1 G2
abbrev a05:Prop:=p4 P w K mg base a.f_Down_inner ["self"] 1 L7
abbrev X8:Prop:=p4 P w K mg base a.f_Turned_inner ["self"] 1 G4
abbrev a06:Prop:=p4 P w K mg base a.f_Dyed_inner ["self"] 1 L8
abbrev a75:Prop:=p4 P w K mg base a.f_Motif_deep ["self"] 13 m7
end
section
variable (P:AL)(w:AJ){K:AD}{mg:Str→Option AA}(base:Heap)(a:Ad)
theorem b0K(D:Df K mg "_law_bad" a4C):a7g P w K mg base:=by
 refine x4 (k:=0) D a6D (fun _ _ _ _ _ _=>el0 rfl) fun f cdv A outer s H E hr=> ?_
 have S:=a6D
 have hu:=hr.units
 refine i4 ?_ ?_
 ·refine u6 (i:=0) ?_ ?_
  ·exact S.nd
  refine L0 ?_
  refine a9 ?_ ?_
  ·exact b9
  refine a9 ?_ ?_
  ·exact b9
  refine a9 ?_ ?_
  ·exact b9
  refine a9 ?_ ?_
  ·exact b9
  exact(a9 b9 (a9 b9 (a9 b9 (a9 b9 (a9 b9 (a9 b9 (a9 b9 (a9 b9 j6))))))))
 refine i4 ?_ ?_
 ·refine u6 (i:=0) ?_ ?_
  ·exact S.nd
  refine f9 g7 ?_ ?_
  ·exact(b5 0 (pv 0))
  refine L0 ?_
  refine a9 ?_ ?_
  ·exact(f9 g7 (f9 g7 b9 (f9 L4 b9 j0)) b9)
  refine a9 ?_ ?_
  ·exact(f9 g7 (f9 g7 b9 (f9 L4 b9 j0)) b9)
  exact(a9 b9 (a9 b9 (a9 b9 (a9 b9 j6))))
 refine i4 ?_ ?_
 ·refine u6 (i:=0) ?_ ?_
  ·exact S.nd
  refine f9 g7 ?_ ?_
  ·exact(b5 0 (pv 0))
  refine L0 ?_
  exact(a9 b9 (a9 b9 (a9 b9 (a9 b9 (a9 b9 (a9 b9 (a9 b9 (a9 b9 j6))))))))
 refine i4 ?_ ?_
 ·refine u6 (i:=0) ?_ ?_
  ·exact S.nd
  refine f9 g7 ?_ ?_
  ·exact(b5 0 (pv 0))
  exact(L0 (a9 b9 (a9 b9 (a9 b9 (a9 b9 (a9 b9 (a9 b9 (a9 b9 j6))))))))
 refine i4 ?_ ?_
 ·refine u6 (i:=0) ?_ ?_
  ·exact S.nd
  exact(f9 g7 (b5 0 (pv 0)) (L0 (a9 b9 (a9 b9 (a9 b9 (a9 b9 (a9 b9 j6)))))))
 refine i4 ?_ ?_
 ·exact(u6 (i:=0) S.nd (f9 g7 (b5 0 (pv 0)) (L0 (a9 b9 (a9 b9 (a9 b9 (a9 b9 j6)))))))
 refine i4 ?_ ?_
 ·refine u6 (i:=0) ?_ ?_
  ·exact S.nd
  exact(f9 g7 (b5 0 (pv 0)) (L0 (a9 b9 (a9 b9 (a9 b9 (a9 b9 (a9 b9 j6)))))))
 refine i4 ?_ ?_
 ·refine u6 (i:=0) ?_ ?_
  ·exact S.nd
  exact(f9 g7 (b5 0 (pv 0)) (L0 (a9 b9 (a9 b9 (a9 b9 (a9 b9 (a9 b9 j6)))))))
 refine i4 ?_ ?_
 ·refine u6 (i:=0) ?_ ?_
  ·exact S.nd
  refine f9 g7 ?_ ?_
  ·exact(b5 0 (pv 0))
  exact(L0 (a9 b9 (a9 b9 (a9 b9 (a9 b9 (a9 b9 (a9 b9 j6)))))))
 refine i4 ?_ ?_
 ·refine u6 (i:=0) ?_ ?_
  ·exact S.nd
  exact(f9 g7 (b5 0 (pv 0)) (L0 (a9 b9 (a9 b9 (a9 b9 (a9 b9 (a9 b9 j6)))))))
 refine i4 ?_ ?_
 ·refine u6 (i:=0) ?_ ?_
  ·exact S.nd
  refine f9 g7 ?_ ?_
  ·exact(b5 0 (pv 0))
  exact(L0 (a9 b9 (a9 b9 (a9 b9 (a9 b9 (a9 b9 (a9 b9 (a9 b9 j6))))))))
 exact(g8 (j9 (f9 g7 (b5 0 (pv 0)) (L0 (a9 b9 (a9 b9 (a9 b9 (a9 b9 j6))))))))
theorem a7a(D:Df K mg "_law_number" a1t):a3y P w K mg base:=by
 refine x4 (k:=0) D a3a (fun _ _ _ _ _ _=>el2 (fun _ _=>rfl)) fun f cdv A outer s H E hr=> ?_
 have S:=a3a
 have hu:=hr.units
 refine g8 ?_
 refine j9 ?_
 refine f9 g7 ?_ ?_
 ·refine f9 L4 ?_ ?_
  ·exact(f9 N8 (b5 0 (pv 0)) (f9 b5Z j0 j0))
  exact(f9 g7 (f9 L4 j0 (b5 1 (pv 1))) j0)
 exact(f9 L4 (b5 1 (pv 1)) (b5 1 (pv 1)))
theorem a4y(D:Df K mg "_law_turned_so" V6)(M:MoB K mg):a1F P w K mg base:=by
 refine x4 (k:=0) D a01 (fun _ _ _ _ _ _=>el3 (fun _ _ _=>rfl)) fun f cdv A outer s H E hr=> ?_
 have S:=a01
 have hu:=hr.units
 refine i4 ?_ ?_
 ·refine a5G PassesOwn.never ?_ ?_ M.z_range ?_ ?_ (a2N 3) ?_
  ·exact rfl
  ·exact rfl
  ·exact(a9 (b5 1 (pv 1)) j6)
  ·exact(W8 (i:=3) S.nd rfl (Or.inl rfl))
  refine i4 ?_ ?_
  ·refine u6 (i:=4) ?_ ?_
   ·exact S.nd
   refine f9 N8 ?_ ?_
   ·exact(f9 g7 (f9 b3X (b5 2 (pv 2)) (f9 g7 (b5 3 (pv 3)) j0)) (f9 L4 (b5 3 (pv 3)) (b5 3 (pv 3))))
   exact j0
  refine g8 ?_
  refine y8 ?_ ?_ ?_
  ·exact(v3 a8H (b5 4 (pv 4)) j0 (by first|rfl|exact t6 _))
  ·refine g8 ?_
   refine u6 (i:=0) ?_ ?_
   ·exact S.nd
   refine f9 g7 ?_ ?_
   ·refine f9 g7 ?_ ?_
    ·exact(f9 g7 (B9 (L0 (a9 b9 (a9 b9 (a9 b9 j6)))) (b5 4 (pv 4))) b9)
    exact(b5 0 (pv 0))
   exact b9
  refine g8 ?_
  refine y8 ?_ ?_ ?_
  ·exact(v3 (C7 hu) (b5 4 (pv 4)) j0 (by first|rfl|exact t6 _))
  ·exact(g8 (u6 (i:=0) S.nd (f9 g7 (f9 g7 b9 (b5 0 (pv 0))) b9)))
  refine g8 ?_
  refine y8 ?_ ?_ ?_
  ·exact(v3 (C7 hu) (b5 4 (pv 4)) j0 (by first|rfl|exact t6 _))
  ·exact(g8 (u6 (i:=0) S.nd (f9 g7 (f9 g7 b9 (b5 0 (pv 0))) b9)))
  refine g8 ?_
  refine y8 ?_ ?_ ?_
  ·exact(v3 (C7 hu) (b5 4 (pv 4)) j0 (by first|rfl|exact t6 _))
  ·exact(g8 (u6 (i:=0) S.nd (f9 g7 (f9 g7 b9 (b5 0 (pv 0))) b9)))
  refine g8 ?_
  refine y8 ?_ ?_ ?_
  ·exact(v3 (C7 hu) (b5 4 (pv 4)) j0 (by first|rfl|exact t6 _))
  ·exact(g8 (u6 (i:=0) S.nd (f9 g7 (f9 g7 b9 (b5 0 (pv 0))) b9)))
  exact(g8 (u6 (i:=0) S.nd (f9 g7 (f9 g7 b9 (b5 0 (pv 0))) b9)))
 exact(g8 (a3L 0 (pv 0)))
theorem b0L(D:Df K mg "run_end" a4D)(M:MoB K mg):a4i P w K mg base:=by
 refine x4 (k:=0) D a6E (fun _ _ _ _ _ _=>el4 (fun _ _ _ _=>rfl)) fun f cdv A outer s H E hr=> ?_
 have S:=a6E
 have hu:=hr.units
 refine i4 ?_ ?_
 ·exact(u6 (i:=4) S.nd (b5 1 (pv 1)))
 refine i4 ?_ ?_
 ·refine a9f 500 PassesOwn.never (PW.pt (b3h (v3 a8H (b5 4 (pv 4)) (S0 O3 rfl M.z_len (by rfl) (b5 0 (pv 0))) (by first|rfl|exact t6 _)) (b1i (a0T F9 F9 (b5 2 (pv 2)) (B9 (b5 0 (pv 0)) (b5 4 (pv 4))) (b5 3 (pv 3)))))) ?_
  exact(g8 (b68 (i:=4) S.nd j0 b3Z))
 exact(g8 (a3L 4 (pv 4)))
theorem a6m(D:Df K mg "letters_end" a0H)(a0R:a4i P w K mg base):M9 P w K mg base:=by
 refine x4 (k:=1) D a2v (fun _ _ _ _ _ _=>el2 (fun _ _=>rfl)) fun f cdv A outer s H E hr=> ?_
 have S:=a2v
 have hu:=hr.units
 refine g8 ?_
 refine j9 ?_
 refine v9 a0R hr ?_ ?_ ?_ ?_
 ·decide
 ·exact rfl
 ·exact(c7 (c7 (c7 (c7 n8))))
 exact(a9 (b5 0 (pv 0)) (a9 (b5 1 (pv 1)) (a9 b9 (a9 b9 j6))))
theorem a4x(D:Df K mg "is_small_word" V5)(M:MoB K mg){u_LONGEST_WORD:AA}{n_LONGEST_WORD:Nat}(m_LONGEST_WORD:mg "LONGEST_WORD"=some u_LONGEST_WORD)(c_LONGEST_WORD:O1 K n_LONGEST_WORD u_LONGEST_WORD=some R4)(B1:M9 P w K mg base):a1E P w K mg base:=by
 refine x4 (k:=2) D a00 (fun _ _ _ _ _ _=>el1 (fun _=>rfl)) fun f cdv A outer s H E hr=> ?_
 have S:=a00
 have hu:=hr.units
 refine g8 ?_
 refine j9 ?_
 refine a8g ?_ ?_
 ·exact(a9d F9 F9 j0 (S0 O3 rfl M.z_len (by rfl) (b5 0 (pv 0))) (W4 rfl m_LONGEST_WORD c_LONGEST_WORD))
 refine a8i ?_
 refine a4m (C7 hu) ?_ ?_ ?_
 ·exact(v9 B1 hr (by decide) rfl (c7 (c7 n8)) (a9 (b5 0 (pv 0)) (a9 j0 j6)))
 ·exact(S0 O3 rfl M.z_len (by rfl) (b5 0 (pv 0)))
 first|rfl|exact t6 _
theorem b0I(D:Df K mg "is_name" a4B){u_WORDS:AA}{n_WORDS:Nat}(m_WORDS:mg "WORDS"=some u_WORDS)(c_WORDS:O1 K n_WORDS u_WORDS=some a5p)(V1:a1E P w K mg base):a4h P w K mg base:=by
 refine x4 (k:=3) D a6C (fun _ _ _ _ _ _=>el1 (fun _=>rfl)) fun f cdv A outer s H E hr=> ?_
 have S:=a6C
 have hu:=hr.units
 refine g8 ?_
 refine j9 ?_
 refine a8g ?_ ?_
 ·exact(v9 V1 hr (by decide) rfl (c7 n8) (a9 (b5 0 (pv 0)) j6))
 exact(a8i (a4m (b0N hu) (b5 0 (pv 0)) (W4 rfl m_WORDS c_WORDS) (by first|rfl|exact t6 _)))
theorem b2x(D:Df K mg "is_row" a6B)(M:MoB K mg){u_LONGEST:AA}{n_LONGEST:Nat}(m_LONGEST:mg "LONGEST"=some u_LONGEST)(c_LONGEST:O1 K n_LONGEST u_LONGEST=some X5):a84 P w K mg base:=by
 refine x4 (k:=0) D a7S (fun _ _ _ _ _ _=>el1 (fun _=>rfl)) fun f cdv A outer s H E hr=> ?_
 have S:=a7S
 have hu:=hr.units
 refine i4 ?_ ?_
 ·refine y8 (PW.pt (a0U (L1 (M5 (a8h (.inr (.inr (.inl rfl))) rfl M.z_isinstance (b5 0 (pv 0)) (a5m rfl M.z_str (by rfl) rfl)))) (V3 (L1 (a0T F9 F9 j0 (S0 O3 rfl M.z_len (by rfl) (b5 0 (pv 0))) (W4 rfl m_LONGEST c_LONGEST)))))) ?_ ?_
  ·exact(g8 (j9 a3I))
  exact v5
 refine g8 ?_
 refine j9 ?_
 refine S0 (b0h rfl) ?_ M.z_all ?_ ?_
 ·exact rfl
 ·rfl
 refine a3J (ys:=["sign"]) (N0:=["thing"]) (fun _ _ h=>h) ?_ ⟨by kernel_rfl,rfl,of_decide_eq_true rfl,of_decide_eq_true rfl,of_decide_eq_true rfl⟩ (EIF.ei (b5a (b5 0 (pv 0)))) (fun C fp pins s H=>W8 (i:=1) a9E rfl (Or.inl rfl)) (fun n h=>a0c (i:=1) (Nat.le_of_eq h)) (fun C fp pins s H=>a5F) ?_
 ·exact rfl
 intro C fp pins s H
 exact(a9d F9 F9 b9 (b5 1 (pv 1)) b9)
theorem a9I(D:Df K mg "is_cloth" a3o)(M:MoB K mg){u_LONGEST:AA}{n_LONGEST:Nat}(m_LONGEST:mg "LONGEST"=some u_LONGEST)(c_LONGEST:O1 K n_LONGEST u_LONGEST=some X5)(a5E:a84 P w K mg base):a5w P w K mg base:=by
 refine x4 (k:=1) D a4W (fun _ _ _ _ _ _=>el1 (fun _=>rfl)) fun f cdv A outer s H E hr=> ?_
 have S:=a4W
 have hu:=hr.units
 refine i4 ?_ ?_
 ·refine y8 (PW.pt (a0U (L1 (M5 (a8h (.inr (.inr (.inr (.inr (.inl rfl))))) rfl M.z_isinstance (b5 0 (pv 0)) (a5m rfl M.z_tuple (by rfl) rfl)))) (V3 (L1 (a0T F9 F9 j0 (S0 O3 rfl M.z_len (by rfl) (b5 0 (pv 0))) (W4 rfl m_LONGEST c_LONGEST)))))) ?_ ?_
  ·exact(g8 (j9 a3I))
  exact v5
 refine i4 ?_ ?_
 ·refine y8 ?_ ?_ ?_
  ·refine L1 ?_
   refine M5 ?_
   refine S0 (b0h rfl) ?_ M.z_all ?_ ?_
   ·exact rfl
   ·rfl
   refine a3J (ys:=["row"]) (N0:=["thing"]) (fun _ _ h=>h) ?_ ⟨by kernel_rfl,rfl,of_decide_eq_true rfl,of_decide_eq_true rfl,of_decide_eq_true rfl⟩ ?_ (fun C fp pins s H=>W8 (i:=1) a62 rfl (Or.inl rfl)) (fun n h=>a0c (i:=1) (Nat.le_of_eq h)) (fun C fp pins s H=>a5F) ?_
   ·exact rfl
   ·exact(a8j (b5 0 (pv 0)))
   intro C fp pins s H
   exact(v9 a5E hr (by decide) rfl (c7 n8) (a9 (b5 1 (pv 1)) j6))
  ·exact(g8 (j9 a3I))
  exact v5
 refine g8 ?_
 refine j9 ?_
 refine S0 (b0h rfl) ?_ M.z_all ?_ ?_
 ·exact rfl
 ·rfl
 refine a3J (ys:=["row"]) (N0:=["thing"]) (fun _ _ h=>h) ?_ ⟨by kernel_rfl,rfl,of_decide_eq_true rfl,of_decide_eq_true rfl,of_decide_eq_true rfl⟩ ?_ (fun C fp pins s H=>W8 (i:=1) a63 rfl (Or.inl rfl)) (fun n h=>a0c (i:=1) (Nat.le_of_eq h)) (fun C fp pins s H=>a5F) ?_
 ·exact rfl
 ·exact(a8j (b5 0 (pv 0)))
 intro C fp pins s H
 refine a4m (C7 hu) ?_ ?_ ?_
 ·exact(S0 O3 rfl M.z_len (by rfl) (b5 1 (pv 1)))
 ·exact(S0 O3 rfl M.z_len (by rfl) (B9 (b5 0 (pv 0)) j0))
 first|rfl|exact t6 _
theorem a7b(D:Df K mg "read_cloth" a1w)(M:MoB K mg)(kb:K.In base){C_NoCloth:AB}(x_NoCloth:XC K mg "NoCloth" C_NoCloth)(a3i:a5w P w K mg base):a3z P w K mg base:=by
 refine b5g (k:=2) D a3b (fun _ _ _ _ _ _=>el1 (fun _=>rfl)) fun f cdv A outer s H E hr hx=> ?_
 have S:=a3b
 have hu:=hr.units
 refine a5H ?_ ?_
 ·refine b6A ?_ ?_ ?_
  ·exact(L1 (M5 (a8h (.inr (.inr (.inl rfl))) rfl M.z_isinstance (b5 0 (pv 0)) (a5m rfl M.z_str (by rfl) rfl))))
  ·refine a8l ?_
   exact(a9g rfl rfl rfl x_NoCloth.mg (a5q kb x_NoCloth.exc) (a9 b9 j6) (fun pins σ H s a I x h0 hn e=>a4O I x h0 hn e))
  exact(a8m v5)
 refine a5H ?_ ?_
 ·exact(b7c (u6 (i:=1) S.nd (a7r a9a rfl M.z_tuple (by rfl) (b3e (b5 0 (pv 0)) b9))))
 refine a5H ?_ ?_
 ·refine b6A ?_ ?_ ?_
  ·exact(L1 (M5 (v9 a3i hr (by decide) rfl (c7 n8) (a9 (b5 1 (pv 1)) j6))))
  ·refine a8l ?_
   exact(a9g rfl rfl rfl x_NoCloth.mg (a5q kb x_NoCloth.exc) (a9 b9 j6) (fun pins σ H s a I x h0 hn e=>a4O I x h0 hn e))
  exact(a8m v5)
 exact(a8m (g8 (a3L 1 (pv 1))))
theorem a9L(D:Df K mg "plain_at" a3p)(i_Plain:B4 P w K mg base "Plain" ["rows"] 1){C_NoCloth:AB}(x_NoCloth:XC K mg "NoCloth" C_NoCloth)(im_NoCloth_NoCloth:a9o K C_NoCloth C_NoCloth=true)(a1d:a3z P w K mg base):a3g P w K mg base:=by
 refine x4 (k:=3) D a4X (fun _ _ _ _ _ _=>el2 (fun _ _=>rfl)) fun f cdv A outer s H E hr=> ?_
 have S:=a4X
 have hu:=hr.units
 refine i4 ?_ ?_
 ·exact(u6 (i:=2) S.nd (b48 (b5 0 (pv 0)) b9 (b5 1 (pv 1))))
 refine i4 ?_ ?_
 ·exact(y8 (v3 a8H (b5 2 (pv 2)) j0 (by first|rfl|exact t6 _)) (g8 (j9 w8)) v5)
 refine i4 ?_ ?_
 ·refine b5b x_NoCloth (b3x x_NoCloth x_NoCloth im_NoCloth_NoCloth b5p) ?_ ?_
  ·intro Y pn E hx
   refine a8l ?_
   refine b5c (i:=3) ?_ a1d hr ?_ ?_ hx ?_ ?_
   ·exact S.nd
   ·decide
   ·exact rfl
   ·exact(c7 n8)
   exact(a9 (a3K (b5 0 (pv 0)) (a0g (f9 g7 (b5 1 (pv 1)) j0)) (a0g (b5 2 (pv 2)))) j6)
  intro a Y
  exact(g8 (j9 w8))
 refine g8 ?_
 refine j9 ?_
 refine M4 ?_
 refine a9 ?_ ?_
 ·exact(a15 i_Plain hr (by decide) rfl (c7 n8) (a9 (b5 3 (pv 3)) j6))
 exact(a9 (f9 g7 (b5 2 (pv 2)) j0) j6)
theorem a6l(D:Df K mg "figures_end" a0G)(a0R:a4i P w K mg base):a0r P w K mg base:=by
 refine x4 (k:=1) D a2u (fun _ _ _ _ _ _=>el2 (fun _ _=>rfl)) fun f cdv A outer s H E hr=> ?_
 have S:=a2u
 have hu:=hr.units
 refine g8 ?_
 refine j9 ?_
 refine v9 a0R hr ?_ ?_ ?_ ?_
 ·decide
 ·exact rfl
 ·exact(c7 (c7 (c7 (c7 n8))))
 exact(a9 (b5 0 (pv 0)) (a9 (b5 1 (pv 1)) (a9 b9 (a9 b9 j6))))
theorem a8C(D:Df K mg "number_in" a2p)(M:MoB K mg){u_MOST_FIGURES:AA}{n_MOST_FIGURES:Nat}(m_MOST_FIGURES:mg "MOST_FIGURES"=some u_MOST_FIGURES)(c_MOST_FIGURES:O1 K n_MOST_FIGURES u_MOST_FIGURES=some R5)(N2:a0r P w K mg base):a4H P w K mg base:=by
 refine x4 (k:=2) D a36 (fun _ _ _ _ _ _=>el1 (fun _=>rfl)) fun f cdv A outer s H E hr=> ?_
 have S:=a36
 have hu:=hr.units
 refine i4 ?_ ?_
 ·refine y8 (PW.pt (a0U (L1 (a0T F9 F9 j0 (S0 O3 rfl M.z_len (by rfl) (b5 0 (pv 0))) (W4 rfl m_MOST_FIGURES c_MOST_FIGURES))) (V3 (v3 (a8I hu) (v9 N2 hr (by decide) rfl (c7 (c7 n8)) (a9 (b5 0 (pv 0)) (a9 j0 j6))) (S0 O3 rfl M.z_len (by rfl) (b5 0 (pv 0))) (by first|rfl|exact t6 _))))) ?_ ?_
  ·exact(g8 (j9 w8))
  exact v5
 refine i4 ?_ ?_
 ·refine y8 (PW.pt (b3h (v3 (C7 hu) (B9 (b5 0 (pv 0)) j0) b9 (by first|rfl|exact t6 _)) (b1i (v3 b3Y (S0 O3 rfl M.z_len (by rfl) (b5 0 (pv 0))) j0 (by first|rfl|exact t6 _))))) ?_ ?_
  ·exact(g8 (j9 w8))
  exact v5
 exact(g8 (j9 (a7r b1e rfl M.z_int (by rfl) (b5 0 (pv 0)))))
theorem a30(D:Df K mg "number_between" S8)(a12:a4H P w K mg base):a0O P w K mg base:=by
 refine x4 (k:=3) D a0n (fun _ _ _ _ _ _=>el3 (fun _ _ _=>rfl)) fun f cdv A outer s H E hr=> ?_
 have S:=a0n
 have hu:=hr.units
 refine i4 ?_ ?_
 ·exact(u6 (i:=3) S.nd (v9 a12 hr (by decide) rfl (c7 n8) (a9 (b5 0 (pv 0)) j6)))
 refine i4 ?_ ?_
 ·refine y8 (PW.pt (a0U (v3 Q9 (b5 3 (pv 3)) w8 (by first|rfl|exact t6 _)) (V3 (L1 (a0T F9 F9 (b5 1 (pv 1)) (b5 3 (pv 3)) (b5 2 (pv 2))))))) ?_ ?_
  ·exact(g8 (j9 w8))
  exact v5
 exact(g8 (a3L 3 (pv 3)))
theorem a8D(D:Df K mg "times_end" a2q){u_MOST_TIMES:AA}{n_MOST_TIMES:Nat}(m_MOST_TIMES:mg "MOST_TIMES"=some u_MOST_TIMES)(c_MOST_TIMES:O1 K n_MOST_TIMES u_MOST_TIMES=some X2)(N2:a0r P w K mg base)(S1:a0O P w K mg base):a1U P w K mg base:=by
 refine x4 (k:=4) D a37 (fun _ _ _ _ _ _=>el2 (fun _ _=>rfl)) fun f cdv A outer s H E hr=> ?_
 have S:=a37
 have hu:=hr.units
 refine i4 ?_ ?_
 ·refine u6 (i:=2) ?_ ?_
  ·exact S.nd
  exact(v9 N2 hr (by decide) rfl (c7 (c7 n8)) (a9 (b5 0 (pv 0)) (a9 (b5 1 (pv 1)) j6)))
 refine i4 ?_ ?_
 ·refine y8 (PW.pt (a0U (v3 Q9 (v9 S1 hr (by decide) rfl (c7 (c7 (c7 n8))) (a9 (a3K (b5 0 (pv 0)) (a0g (b5 1 (pv 1))) (a0g (b5 2 (pv 2)))) (a9 j0 (a9 (W4 rfl m_MOST_TIMES c_MOST_TIMES) j6)))) w8 (by first|rfl|exact t6 _)) (V3 (L1 (M5 (S2 (b5 0 (pv 0)) b9 (b5 2 (pv 2)))))))) ?_ ?_
  ·exact(g8 (j9 w8))
  exact v5
 exact(g8 (a3L 2 (pv 2)))
theorem a48(D:Df K mg "is_colour_at" Z7)(B1:M9 P w K mg base):X9 P w K mg base:=by
 refine x4 (k:=2) D a1L (fun _ _ _ _ _ _=>el2 (fun _ _=>rfl)) fun f cdv A outer s H E hr=> ?_
 have S:=a1L
 have hu:=hr.units
 refine g8 ?_
 refine j9 ?_
 refine a8g ?_ ?_
 ·refine a4m (C7 hu) ?_ ?_ ?_
  ·exact(v9 B1 hr (by decide) rfl (c7 (c7 n8)) (a9 (b5 0 (pv 0)) (a9 (b5 1 (pv 1)) j6)))
  ·exact(f9 g7 (b5 1 (pv 1)) j0)
  first|rfl|exact t6 _
 exact(a8i (S2 (b5 0 (pv 0)) b9 (f9 g7 (b5 1 (pv 1)) j0)))
theorem b0H{k:Nat}(hk0:5≤k){R_dyed_at R_laid_at R_last_part_at R_made_of_parts_at l9 R_parts_at R_repeated_at R_turned_at:List PV→Option g6}(D:Df K mg "dyed_at" a2K)(i_Dyed:B4 P w K mg base "Dyed" ["one","other","part"] 1)(G1:X9 P w K mg base)(d_dyed_at:j7 P w K mg base "dyed_at" ["text","at","left"] k R_dyed_at)(d_laid_at:j7 P w K mg base "laid_at" ["text","word","at","left"] k R_laid_at)(d_last_part_at:j7 P w K mg base "last_part_at" ["text","at","left"] k R_last_part_at)(d_made_of_parts_at:j7 P w K mg base "made_of_parts_at" ["text","word","at","left"] k R_made_of_parts_at)(A9:j7 P w K mg base "motif_at" ["text","at","left"] k l9)(d_parts_at:j7 P w K mg base "parts_at" ["text","at","left"] k R_parts_at)(d_repeated_at:j7 P w K mg base "repeated_at" ["text","word","at","left"] k R_repeated_at)(d_turned_at:j7 P w K mg base "turned_at" ["text","word","at","left"] k R_turned_at):j7 P w K mg base "dyed_at" ["text","at","left"] (k+1) (p7 1 (a2D R_dyed_at R_laid_at R_last_part_at R_made_of_parts_at l9 R_parts_at R_repeated_at R_turned_at)):=by
 refine x4 (k:=k) D a3q (fun _ _ _ _ _ _=>el3 (fun _ _ _=>rfl)) fun f cdv A outer s H E hr=> ?_
 have S:=a3q
 have hu:=hr.units
 refine i4 ?_ ?_
 ·refine y8 (PW.pt (a0U (L1 (M5 (v9 G1 hr (by lia) rfl (c7 (c7 n8)) (a9 (b5 0 (pv 0)) (a9 (b5 1 (pv 1)) j6))))) (V3 (L1 (M5 (v9 G1 hr (by lia) rfl (c7 (c7 n8)) (a9 (b5 0 (pv 0)) (a9 (f9 g7 (b5 1 (pv 1)) j0) j6)))))))) ?_ ?_
  ·exact(g8 (j9 w8))
  exact v5
 refine i4 ?_ ?_
 ·refine u6 (i:=3) ?_ ?_
  ·exact S.nd
  refine v9 d_last_part_at hr ?_ ?_ ?_ ?_
  ·lia
  ·exact rfl
  ·exact(c7 (c7 (c7 n8)))
  exact(a9 (b5 0 (pv 0)) (a9 (f9 g7 (b5 1 (pv 1)) j0) (a9 (b5 2 (pv 2)) j6)))
 refine i4 ?_ ?_
 ·exact(y8 (v3 Q9 (b5 3 (pv 3)) w8 (by first|rfl|exact t6 _)) (g8 (j9 w8)) v5)
 refine g8 ?_
 refine j9 ?_
 refine M4 ?_
 refine a9 ?_ ?_
 ·refine a15 i_Dyed hr ?_ ?_ ?_ ?_
  ·lia
  ·exact rfl
  ·exact(c7 (c7 (c7 n8)))
  refine a9 ?_ ?_
  ·exact(B9 (b5 0 (pv 0)) (b5 1 (pv 1)))
  exact(a9 (B9 (b5 0 (pv 0)) (f9 g7 (b5 1 (pv 1)) j0)) (a9 (B9 (b5 3 (pv 3)) j0) j6))
 exact(a9 (B9 (b5 3 (pv 3)) j0) j6)
theorem b0J{k:Nat}(hk0:5≤k){R_dyed_at R_laid_at R_last_part_at R_made_of_parts_at l9 R_parts_at R_repeated_at R_turned_at:List PV→Option g6}(D:Df K mg "laid_at" a2L)(M:MoB K mg)(i_Above:B4 P w K mg base "Above" ["parts"] 1)(i_Beside:B4 P w K mg base "Beside" ["parts"] 1){u_MOST_PARTS:AA}{n_MOST_PARTS:Nat}(m_MOST_PARTS:mg "MOST_PARTS"=some u_MOST_PARTS)(c_MOST_PARTS:O1 K n_MOST_PARTS u_MOST_PARTS=some R6)(d_dyed_at:j7 P w K mg base "dyed_at" ["text","at","left"] k R_dyed_at)(d_laid_at:j7 P w K mg base "laid_at" ["text","word","at","left"] k R_laid_at)(d_last_part_at:j7 P w K mg base "last_part_at" ["text","at","left"] k R_last_part_at)(d_made_of_parts_at:j7 P w K mg base "made_of_parts_at" ["text","word","at","left"] k R_made_of_parts_at)(A9:j7 P w K mg base "motif_at" ["text","at","left"] k l9)(d_parts_at:j7 P w K mg base "parts_at" ["text","at","left"] k R_parts_at)(d_repeated_at:j7 P w K mg base "repeated_at" ["text","word","at","left"] k R_repeated_at)(d_turned_at:j7 P w K mg base "turned_at" ["text","word","at","left"] k R_turned_at):j7 P w K mg base "laid_at" ["text","word","at","left"] (k+1) (p7 1 (a2E R_dyed_at R_laid_at R_last_part_at R_made_of_parts_at l9 R_parts_at R_repeated_at R_turned_at)):=by
 refine x4 (k:=k) D a3r (fun _ _ _ _ _ _=>el4 (fun _ _ _ _=>rfl)) fun f cdv A outer s H E hr=> ?_
 have S:=a3r
 have hu:=hr.units
 refine i4 ?_ ?_
 ·refine u6 (i:=4) ?_ ?_
  ·exact S.nd
  refine v9 d_parts_at hr ?_ ?_ ?_ ?_
  ·lia
  ·exact rfl
  ·exact(c7 (c7 (c7 n8)))
  exact(a9 (b5 0 (pv 0)) (a9 (b5 2 (pv 2)) (a9 (b5 3 (pv 3)) j6)))
 refine i4 ?_ ?_
 ·refine y8 (PW.pt (a0U (v3 Q9 (b5 4 (pv 4)) w8 (by first|rfl|exact t6 _)) (V3 (L1 (M5 (S2 (b5 0 (pv 0)) b9 (B9 (b5 4 (pv 4)) j0))))))) ?_ ?_
  ·exact(g8 (j9 w8))
  exact v5
 refine i4 ?_ ?_
 ·refine y8 ?_ ?_ ?_
  ·refine L1 ?_
   exact(a0T F9 F9 j0 (S0 O3 rfl M.z_len (by rfl) (B9 (b5 4 (pv 4)) j0)) (W4 rfl m_MOST_PARTS c_MOST_PARTS))
  ·exact(g8 (j9 w8))
  exact v5
 refine i4 ?_ ?_
 ·refine y8 ?_ ?_ ?_
  ·exact(v3 (C7 hu) (b5 1 (pv 1)) b9 (by first|rfl|exact t6 _))
  ·refine g8 ?_
   refine j9 ?_
   refine M4 ?_
   refine a9 ?_ ?_
   ·exact(a15 i_Beside hr (by lia) rfl (c7 n8) (a9 (B9 (b5 4 (pv 4)) j0) j6))
   exact(a9 (f9 g7 (B9 (b5 4 (pv 4)) j0) j0) j6)
  exact v5
 refine g8 ?_
 refine j9 ?_
 refine M4 ?_
 refine a9 ?_ ?_
 ·exact(a15 i_Above hr (by lia) rfl (c7 n8) (a9 (B9 (b5 4 (pv 4)) j0) j6))
 exact(a9 (f9 g7 (B9 (b5 4 (pv 4)) j0) j0) j6)
theorem a49{k:Nat}(hk0:5≤k){R_dyed_at R_laid_at R_last_part_at R_made_of_parts_at l9 R_parts_at R_repeated_at R_turned_at:List PV→Option g6}(D:Df K mg "last_part_at" R0)(d_dyed_at:j7 P w K mg base "dyed_at" ["text","at","left"] k R_dyed_at)(d_laid_at:j7 P w K mg base "laid_at" ["text","word","at","left"] k R_laid_at)(d_last_part_at:j7 P w K mg base "last_part_at" ["text","at","left"] k R_last_part_at)(d_made_of_parts_at:j7 P w K mg base "made_of_parts_at" ["text","word","at","left"] k R_made_of_parts_at)(A9:j7 P w K mg base "motif_at" ["text","at","left"] k l9)(d_parts_at:j7 P w K mg base "parts_at" ["text","at","left"] k R_parts_at)(d_repeated_at:j7 P w K mg base "repeated_at" ["text","word","at","left"] k R_repeated_at)(d_turned_at:j7 P w K mg base "turned_at" ["text","word","at","left"] k R_turned_at):j7 P w K mg base "last_part_at" ["text","at","left"] (k+1) (p7 1 (P8 R_dyed_at R_laid_at R_last_part_at R_made_of_parts_at l9 R_parts_at R_repeated_at R_turned_at)):=by
 refine x4 (k:=k) D V7 (fun _ _ _ _ _ _=>el3 (fun _ _ _=>rfl)) fun f cdv A outer s H E hr=> ?_
 have S:=V7
 have hu:=hr.units
 refine i4 ?_ ?_
 ·refine u6 (i:=3) ?_ ?_
  ·exact S.nd
  refine v9 A9 hr ?_ ?_ ?_ ?_
  ·lia
  ·exact rfl
  ·exact(c7 (c7 (c7 n8)))
  exact(a9 (b5 0 (pv 0)) (a9 (b5 1 (pv 1)) (a9 (b5 2 (pv 2)) j6)))
 refine i4 ?_ ?_
 ·refine y8 (PW.pt (a0U (v3 Q9 (b5 3 (pv 3)) w8 (by first|rfl|exact t6 _)) (V3 (L1 (M5 (S2 (b5 0 (pv 0)) b9 (B9 (b5 3 (pv 3)) j0))))))) ?_ ?_
  ·exact(g8 (j9 w8))
  exact v5
 exact(g8 (j9 (M4 (a9 (B9 (b5 3 (pv 3)) j0) (a9 (f9 g7 (B9 (b5 3 (pv 3)) j0) j0) j6)))))
theorem a2U{k:Nat}(hk0:5≤k){R_dyed_at R_laid_at R_last_part_at R_made_of_parts_at l9 R_parts_at R_repeated_at R_turned_at:List PV→Option g6}(D:Df K mg "made_of_parts_at" J3){u_TURNING:AA}{n_TURNING:Nat}(m_TURNING:mg "TURNING"=some u_TURNING)(c_TURNING:O1 K n_TURNING u_TURNING=some a02)(d_dyed_at:j7 P w K mg base "dyed_at" ["text","at","left"] k R_dyed_at)(d_laid_at:j7 P w K mg base "laid_at" ["text","word","at","left"] k R_laid_at)(d_last_part_at:j7 P w K mg base "last_part_at" ["text","at","left"] k R_last_part_at)(d_made_of_parts_at:j7 P w K mg base "made_of_parts_at" ["text","word","at","left"] k R_made_of_parts_at)(A9:j7 P w K mg base "motif_at" ["text","at","left"] k l9)(d_parts_at:j7 P w K mg base "parts_at" ["text","at","left"] k R_parts_at)(d_repeated_at:j7 P w K mg base "repeated_at" ["text","word","at","left"] k R_repeated_at)(d_turned_at:j7 P w K mg base "turned_at" ["text","word","at","left"] k R_turned_at):j7 P w K mg base "made_of_parts_at" ["text","word","at","left"] (k+1) (p7 0 (C1 R_dyed_at R_laid_at R_last_part_at R_made_of_parts_at l9 R_parts_at R_repeated_at R_turned_at)):=by
 refine x4 (k:=k) D M7 (fun _ _ _ _ _ _=>el4 (fun _ _ _ _=>rfl)) fun f cdv A outer s H E hr=> ?_
 have S:=M7
 have hu:=hr.units
 refine i4 ?_ ?_
 ·refine y8 (PW.pt (a0U (v3 (C7 hu) (b5 1 (pv 1)) b9 (by first|rfl|exact t6 _)) (V3 (v3 (C7 hu) (b5 1 (pv 1)) b9 (by first|rfl|exact t6 _))))) ?_ ?_
  ·refine g8 ?_
   refine j9 ?_
   refine v9 d_laid_at hr ?_ ?_ ?_ ?_
   ·lia
   ·exact rfl
   ·exact(c7 (c7 (c7 (c7 n8))))
   exact(a9 (b5 0 (pv 0)) (a9 (b5 1 (pv 1)) (a9 (b5 2 (pv 2)) (a9 (b5 3 (pv 3)) j6))))
  exact v5
 refine i4 ?_ ?_
 ·refine y8 (PW.pt (a0U (v3 (C7 hu) (b5 1 (pv 1)) b9 (by first|rfl|exact t6 _)) (V3 (v3 (C7 hu) (b5 1 (pv 1)) b9 (by first|rfl|exact t6 _))))) ?_ ?_
  ·refine g8 ?_
   refine j9 ?_
   refine v9 d_repeated_at hr ?_ ?_ ?_ ?_
   ·lia
   ·exact rfl
   ·exact(c7 (c7 (c7 (c7 n8))))
   exact(a9 (b5 0 (pv 0)) (a9 (b5 1 (pv 1)) (a9 (b5 2 (pv 2)) (a9 (b5 3 (pv 3)) j6))))
  exact v5
 refine i4 ?_ ?_
 ·refine y8 ?_ ?_ ?_
  ·exact(v3 (b5W hu) (b5 1 (pv 1)) (W4 rfl m_TURNING c_TURNING) (by first|rfl|exact t6 _))
  ·refine g8 ?_
   refine j9 ?_
   refine v9 d_turned_at hr ?_ ?_ ?_ ?_
   ·lia
   ·exact rfl
   ·exact(c7 (c7 (c7 (c7 n8))))
   exact(a9 (b5 0 (pv 0)) (a9 (b5 1 (pv 1)) (a9 (b5 2 (pv 2)) (a9 (b5 3 (pv 3)) j6))))
  exact v5
 refine i4 ?_ ?_
 ·refine y8 ?_ ?_ ?_
  ·exact(v3 (C7 hu) (b5 1 (pv 1)) b9 (by first|rfl|exact t6 _))
  ·refine g8 ?_
   refine j9 ?_
   refine v9 d_dyed_at hr ?_ ?_ ?_ ?_
   ·lia
   ·exact rfl
   ·exact(c7 (c7 (c7 n8)))
   exact(a9 (b5 0 (pv 0)) (a9 (b5 2 (pv 2)) (a9 (b5 3 (pv 3)) j6)))
  exact v5
 exact(g8 (j9 w8))
theorem a9J{k:Nat}(hk0:5≤k){R_dyed_at R_laid_at R_last_part_at R_made_of_parts_at l9 R_parts_at R_repeated_at R_turned_at:List PV→Option g6}(D:Df K mg "motif_at" a1u)(i_Named:B4 P w K mg base "Named" ["name"] 1)(B1:M9 P w K mg base)(a0Q:a4h P w K mg base)(Y2:a3g P w K mg base)(d_dyed_at:j7 P w K mg base "dyed_at" ["text","at","left"] k R_dyed_at)(d_laid_at:j7 P w K mg base "laid_at" ["text","word","at","left"] k R_laid_at)(d_last_part_at:j7 P w K mg base "last_part_at" ["text","at","left"] k R_last_part_at)(d_made_of_parts_at:j7 P w K mg base "made_of_parts_at" ["text","word","at","left"] k R_made_of_parts_at)(A9:j7 P w K mg base "motif_at" ["text","at","left"] k l9)(d_parts_at:j7 P w K mg base "parts_at" ["text","at","left"] k R_parts_at)(d_repeated_at:j7 P w K mg base "repeated_at" ["text","word","at","left"] k R_repeated_at)(d_turned_at:j7 P w K mg base "turned_at" ["text","word","at","left"] k R_turned_at):j7 P w K mg base "motif_at" ["text","at","left"] (k+1) (p7 2 (O2 R_dyed_at R_laid_at R_last_part_at R_made_of_parts_at l9 R_parts_at R_repeated_at R_turned_at)):=by
 refine x4 (k:=k) D a2w (fun _ _ _ _ _ _=>el3 (fun _ _ _=>rfl)) fun f cdv A outer s H E hr=> ?_
 have S:=a2w
 have hu:=hr.units
 refine i4 ?_ ?_
 ·exact(y8 (v3 (C7 hu) (b5 2 (pv 2)) j0 (by first|rfl|exact t6 _)) (g8 (j9 w8)) v5)
 refine i4 ?_ ?_
 ·refine y8 ?_ ?_ ?_
  ·exact(M5 (S2 (b5 0 (pv 0)) b9 (b5 1 (pv 1))))
  ·exact(g8 (j9 (v9 Y2 hr (by lia) rfl (c7 (c7 n8)) (a9 (b5 0 (pv 0)) (a9 (b5 1 (pv 1)) j6)))))
  exact v5
 refine i4 ?_ ?_
 ·refine u6 (i:=3) ?_ ?_
  ·exact S.nd
  exact(v9 B1 hr (by lia) rfl (c7 (c7 n8)) (a9 (b5 0 (pv 0)) (a9 (b5 1 (pv 1)) j6)))
 refine i4 ?_ ?_
 ·exact(u6 (i:=4) S.nd (a3K (b5 0 (pv 0)) (a0g (b5 1 (pv 1))) (a0g (b5 3 (pv 3)))))
 refine i4 ?_ ?_
 ·refine y8 ?_ ?_ ?_
  ·exact(M5 (S2 (b5 0 (pv 0)) b9 (b5 3 (pv 3))))
  ·refine g8 ?_
   refine b3g 4 ?_
   refine j9 ?_
   refine v9 d_made_of_parts_at hr ?_ ?_ ?_ ?_
   ·lia
   ·exact rfl
   ·exact(c7 (c7 (c7 (c7 n8))))
   refine a9 ?_ ?_
   ·exact(b5 0 (pv 0))
   exact(a9 (b5 4 (pv 4)) (a9 (f9 g7 (b5 3 (pv 3)) j0) (a9 (f9 b50 (b5 2 (pv 2)) j0) j6)))
  exact v5
 refine i4 ?_ ?_
 ·refine b3g 4 ?_
  refine y8 ?_ ?_ ?_
  ·exact(M5 (v9 a0Q hr (by lia) rfl (c7 n8) (a9 (b5 4 (pv 4)) j6)))
  ·refine g8 ?_
   refine j9 ?_
   exact(M4 (a9 (a15 i_Named hr (by lia) rfl (c7 n8) (a9 (b5 4 (pv 4)) j6)) (a9 (b5 3 (pv 3)) j6)))
  exact v5
 exact(g8 (j9 w8))
theorem a9K{k:Nat}(hk0:5≤k){R_dyed_at R_laid_at R_last_part_at R_made_of_parts_at l9 R_parts_at R_repeated_at R_turned_at:List PV→Option g6}(D:Df K mg "parts_at" a1v)(M:MoB K mg)(d_dyed_at:j7 P w K mg base "dyed_at" ["text","at","left"] k R_dyed_at)(d_laid_at:j7 P w K mg base "laid_at" ["text","word","at","left"] k R_laid_at)(d_last_part_at:j7 P w K mg base "last_part_at" ["text","at","left"] k R_last_part_at)(d_made_of_parts_at:j7 P w K mg base "made_of_parts_at" ["text","word","at","left"] k R_made_of_parts_at)(A9:j7 P w K mg base "motif_at" ["text","at","left"] k l9)(d_parts_at:j7 P w K mg base "parts_at" ["text","at","left"] k R_parts_at)(d_repeated_at:j7 P w K mg base "repeated_at" ["text","word","at","left"] k R_repeated_at)(d_turned_at:j7 P w K mg base "turned_at" ["text","word","at","left"] k R_turned_at):j7 P w K mg base "parts_at" ["text","at","left"] (k+1) (p7 2 (a08 R_dyed_at R_laid_at R_last_part_at R_made_of_parts_at l9 R_parts_at R_repeated_at R_turned_at)):=by
 refine x4 (k:=k) D a2x (fun _ _ _ _ _ _=>el3 (fun _ _ _=>rfl)) fun f cdv A outer s H E hr=> ?_
 have S:=a2x
 have hu:=hr.units
 refine i4 ?_ ?_
 ·exact(u6 (i:=3) S.nd (L0 j6))
 refine g8 ?_
 refine a9f 500 PassesOwn.never ?_ ?_
 ·exact(M5 a3I)
 refine i4 ?_ ?_
 ·refine u6 (i:=4) ?_ ?_
  ·exact S.nd
  refine v9 A9 hr ?_ ?_ ?_ ?_
  ·lia
  ·exact rfl
  ·exact(c7 (c7 (c7 n8)))
  exact(a9 (b5 0 (pv 0)) (a9 (b5 1 (pv 1)) (a9 (b5 2 (pv 2)) j6)))
 refine i4 ?_ ?_
 ·exact(y8 (v3 Q9 (b5 4 (pv 4)) w8 (by first|rfl|exact t6 _)) (g8 (j9 w8)) v5)
 refine i4 ?_ ?_
 ·exact(b15 3 (pv 3) (B9 (b5 4 (pv 4)) j0))
 refine i4 ?_ ?_
 ·refine y8 ?_ ?_ ?_
  ·exact(L1 (M5 (S2 (b5 0 (pv 0)) b9 (B9 (b5 4 (pv 4)) j0))))
  ·exact(g8 (j9 (M4 (a9 (a7r a9a rfl M.z_tuple (by rfl) (b5 3 (pv 3))) (a9 (B9 (b5 4 (pv 4)) j0) j6)))))
  exact v5
 exact(g8 (u6 (i:=1) S.nd (f9 g7 (B9 (b5 4 (pv 4)) j0) j0)))
theorem a6n{k:Nat}(hk0:5≤k){R_dyed_at R_laid_at R_last_part_at R_made_of_parts_at l9 R_parts_at R_repeated_at R_turned_at:List PV→Option g6}(D:Df K mg "repeated_at" U0)(M:MoB K mg)(i_Across:B4 P w K mg base "Across" ["many","part"] 1)(i_Down:B4 P w K mg base "Down" ["many","part"] 1)(U3:a1U P w K mg base)(d_dyed_at:j7 P w K mg base "dyed_at" ["text","at","left"] k R_dyed_at)(d_laid_at:j7 P w K mg base "laid_at" ["text","word","at","left"] k R_laid_at)(d_last_part_at:j7 P w K mg base "last_part_at" ["text","at","left"] k R_last_part_at)(d_made_of_parts_at:j7 P w K mg base "made_of_parts_at" ["text","word","at","left"] k R_made_of_parts_at)(A9:j7 P w K mg base "motif_at" ["text","at","left"] k l9)(d_parts_at:j7 P w K mg base "parts_at" ["text","at","left"] k R_parts_at)(d_repeated_at:j7 P w K mg base "repeated_at" ["text","word","at","left"] k R_repeated_at)(d_turned_at:j7 P w K mg base "turned_at" ["text","word","at","left"] k R_turned_at):j7 P w K mg base "repeated_at" ["text","word","at","left"] (k+1) (p7 3 (T5 R_dyed_at R_laid_at R_last_part_at R_made_of_parts_at l9 R_parts_at R_repeated_at R_turned_at)):=by
 refine x4 (k:=k) D a0b (fun _ _ _ _ _ _=>el4 (fun _ _ _ _=>rfl)) fun f cdv A outer s H E hr=> ?_
 have S:=a0b
 have hu:=hr.units
 refine i4 ?_ ?_
 ·refine u6 (i:=4) ?_ ?_
  ·exact S.nd
  exact(v9 U3 hr (by lia) rfl (c7 (c7 n8)) (a9 (b5 0 (pv 0)) (a9 (b5 2 (pv 2)) j6)))
 refine i4 ?_ ?_
 ·exact(y8 (v3 Q9 (b5 4 (pv 4)) w8 (by first|rfl|exact t6 _)) (g8 (j9 w8)) v5)
 refine i4 ?_ ?_
 ·refine u6 (i:=5) ?_ ?_
  ·exact S.nd
  refine v9 d_last_part_at hr ?_ ?_ ?_ ?_
  ·lia
  ·exact rfl
  ·exact(c7 (c7 (c7 n8)))
  exact(a9 (b5 0 (pv 0)) (a9 (f9 g7 (b5 4 (pv 4)) j0) (a9 (b5 3 (pv 3)) j6)))
 refine i4 ?_ ?_
 ·exact(y8 (v3 Q9 (b5 5 (pv 5)) w8 (by first|rfl|exact t6 _)) (g8 (j9 w8)) v5)
 refine i4 ?_ ?_
 ·exact(u6 (i:=6) S.nd (a7r b1e rfl M.z_int (by rfl) (a3K (b5 0 (pv 0)) (a0g (b5 2 (pv 2))) (a0g (b5 4 (pv 4))))))
 refine i4 ?_ ?_
 ·refine y8 ?_ ?_ ?_
  ·exact(v3 (C7 hu) (b5 1 (pv 1)) b9 (by first|rfl|exact t6 _))
  ·refine g8 ?_
   refine j9 ?_
   refine M4 ?_
   refine a9 ?_ ?_
   ·exact(a15 i_Across hr (by lia) rfl (c7 (c7 n8)) (a9 (b5 6 (pv 6)) (a9 (B9 (b5 5 (pv 5)) j0) j6)))
   exact(a9 (B9 (b5 5 (pv 5)) j0) j6)
  exact v5
 refine g8 ?_
 refine j9 ?_
 refine M4 ?_
 refine a9 ?_ ?_
 ·exact(a15 i_Down hr (by lia) rfl (c7 (c7 n8)) (a9 (b5 6 (pv 6)) (a9 (B9 (b5 5 (pv 5)) j0) j6)))
 exact(a9 (B9 (b5 5 (pv 5)) j0) j6)
theorem a8E{k:Nat}(hk0:5≤k){R_dyed_at R_laid_at R_last_part_at R_made_of_parts_at l9 R_parts_at R_repeated_at R_turned_at:List PV→Option g6}(D:Df K mg "turned_at" a0m)(i_Turned:B4 P w K mg base "Turned" ["way","part"] 1)(d_dyed_at:j7 P w K mg base "dyed_at" ["text","at","left"] k R_dyed_at)(d_laid_at:j7 P w K mg base "laid_at" ["text","word","at","left"] k R_laid_at)(d_last_part_at:j7 P w K mg base "last_part_at" ["text","at","left"] k R_last_part_at)(d_made_of_parts_at:j7 P w K mg base "made_of_parts_at" ["text","word","at","left"] k R_made_of_parts_at)(A9:j7 P w K mg base "motif_at" ["text","at","left"] k l9)(d_parts_at:j7 P w K mg base "parts_at" ["text","at","left"] k R_parts_at)(d_repeated_at:j7 P w K mg base "repeated_at" ["text","word","at","left"] k R_repeated_at)(d_turned_at:j7 P w K mg base "turned_at" ["text","word","at","left"] k R_turned_at):j7 P w K mg base "turned_at" ["text","word","at","left"] (k+1) (p7 1 (a0f R_dyed_at R_laid_at R_last_part_at R_made_of_parts_at l9 R_parts_at R_repeated_at R_turned_at)):=by
 refine x4 (k:=k) D a1A (fun _ _ _ _ _ _=>el4 (fun _ _ _ _=>rfl)) fun f cdv A outer s H E hr=> ?_
 have S:=a1A
 have hu:=hr.units
 refine i4 ?_ ?_
 ·refine u6 (i:=4) ?_ ?_
  ·exact S.nd
  refine v9 d_last_part_at hr ?_ ?_ ?_ ?_
  ·lia
  ·exact rfl
  ·exact(c7 (c7 (c7 n8)))
  exact(a9 (b5 0 (pv 0)) (a9 (b5 2 (pv 2)) (a9 (b5 3 (pv 3)) j6)))
 refine i4 ?_ ?_
 ·exact(y8 (v3 Q9 (b5 4 (pv 4)) w8 (by first|rfl|exact t6 _)) (g8 (j9 w8)) v5)
 refine g8 ?_
 refine j9 ?_
 refine M4 ?_
 refine a9 ?_ ?_
 ·exact(a15 i_Turned hr (by lia) rfl (c7 (c7 n8)) (a9 (b5 1 (pv 1)) (a9 (B9 (b5 4 (pv 4)) j0) j6)))
 exact(a9 (B9 (b5 4 (pv 4)) j0) j6)
theorem a9H(D_dyed_at:Df K mg "dyed_at" a2K)(D_laid_at:Df K mg "laid_at" a2L)(D_last_part_at:Df K mg "last_part_at" R0)(D_made_of_parts_at:Df K mg "made_of_parts_at" J3)(a03:Df K mg "motif_at" a1u)(D_parts_at:Df K mg "parts_at" a1v)(D_repeated_at:Df K mg "repeated_at" U0)(D_turned_at:Df K mg "turned_at" a0m)(M:MoB K mg)(i_Above:B4 P w K mg base "Above" ["parts"] 1)(i_Across:B4 P w K mg base "Across" ["many","part"] 1)(i_Beside:B4 P w K mg base "Beside" ["parts"] 1)(i_Down:B4 P w K mg base "Down" ["many","part"] 1)(i_Dyed:B4 P w K mg base "Dyed" ["one","other","part"] 1)(i_Named:B4 P w K mg base "Named" ["name"] 1)(i_Turned:B4 P w K mg base "Turned" ["way","part"] 1){u_MOST_PARTS:AA}{n_MOST_PARTS:Nat}(m_MOST_PARTS:mg "MOST_PARTS"=some u_MOST_PARTS)(c_MOST_PARTS:O1 K n_MOST_PARTS u_MOST_PARTS=some R6){u_TURNING:AA}{n_TURNING:Nat}(m_TURNING:mg "TURNING"=some u_TURNING)(c_TURNING:O1 K n_TURNING u_TURNING=some a02)(G1:X9 P w K mg base)(B1:M9 P w K mg base)(a0Q:a4h P w K mg base)(Y2:a3g P w K mg base)(U3:a1U P w K mg base):∀n:Nat,j7 P w K mg base "dyed_at" ["text","at","left"] (5+n) (a3l n)∧j7 P w K mg base "laid_at" ["text","word","at","left"] (5+n) (a3m n)∧j7 P w K mg base "last_part_at" ["text","at","left"] (5+n) (N7 n)∧j7 P w K mg base "made_of_parts_at" ["text","word","at","left"] (5+n) (E9 n)∧j7 P w K mg base "motif_at" ["text","at","left"] (5+n) (P0 n)∧j7 P w K mg base "parts_at" ["text","at","left"] (5+n) (a2c n)∧j7 P w K mg base "repeated_at" ["text","word","at","left"] (5+n) (Y6 n)∧j7 P w K mg base "turned_at" ["text","word","at","left"] (5+n) (a1k n):=by
 intro n
 induction n with
 |zero=>exact⟨x4 (k:=4) D_dyed_at a3q (fun _ _ _ _ _ _=>el3 (fun _ _ _=>rfl)) fun f cdv A outer s H E hr=>B5,x4 (k:=4) D_laid_at a3r (fun _ _ _ _ _ _=>el4 (fun _ _ _ _=>rfl)) fun f cdv A outer s H E hr=>B5,x4 (k:=4) D_last_part_at V7 (fun _ _ _ _ _ _=>el3 (fun _ _ _=>rfl)) fun f cdv A outer s H E hr=>B5,x4 (k:=4) D_made_of_parts_at M7 (fun _ _ _ _ _ _=>el4 (fun _ _ _ _=>rfl)) fun f cdv A outer s H E hr=>B5,x4 (k:=4) a03 a2w (fun _ _ _ _ _ _=>el3 (fun _ _ _=>rfl)) fun f cdv A outer s H E hr=>B5,x4 (k:=4) D_parts_at a2x (fun _ _ _ _ _ _=>el3 (fun _ _ _=>rfl)) fun f cdv A outer s H E hr=>B5,x4 (k:=4) D_repeated_at a0b (fun _ _ _ _ _ _=>el4 (fun _ _ _ _=>rfl)) fun f cdv A outer s H E hr=>B5,x4 (k:=4) D_turned_at a1A (fun _ _ _ _ _ _=>el4 (fun _ _ _ _=>rfl)) fun f cdv A outer s H E hr=>B5⟩
 |succ n ih=>
  obtain⟨h0,h1,h2,h3,h4,h5,h6,h7⟩:=ih
  exact⟨b0H P w base (Nat.le_add_right _ _) D_dyed_at i_Dyed G1 h0 h1 h2 h3 h4 h5 h6 h7,b0J P w base (Nat.le_add_right _ _) D_laid_at M i_Above i_Beside m_MOST_PARTS c_MOST_PARTS h0 h1 h2 h3 h4 h5 h6 h7,a49 P w base (Nat.le_add_right _ _) D_last_part_at h0 h1 h2 h3 h4 h5 h6 h7,a2U P w base (Nat.le_add_right _ _) D_made_of_parts_at m_TURNING c_TURNING h0 h1 h2 h3 h4 h5 h6 h7,a9J P w base (Nat.le_add_right _ _) a03 i_Named B1 a0Q Y2 h0 h1 h2 h3 h4 h5 h6 h7,a9K P w base (Nat.le_add_right _ _) D_parts_at M h0 h1 h2 h3 h4 h5 h6 h7,a6n P w base (Nat.le_add_right _ _) D_repeated_at M i_Across i_Down U3 h0 h1 h2 h3 h4 h5 h6 h7,a8E P w base (Nat.le_add_right _ _) D_turned_at i_Turned h0 h1 h2 h3 h4 h5 h6 h7⟩
theorem a7c(D:Df K mg "read_motif" a1x)(M:MoB K mg){u_DEEPEST:AA}{n_DEEPEST:Nat}(m_DEEPEST:mg "DEEPEST"=some u_DEEPEST)(c_DEEPEST:O1 K n_DEEPEST u_DEEPEST=some a2O)(A9:a99 P w K mg base):a3A P w K mg base:=by
 refine x4 (k:=45) D a3c (fun _ _ _ _ _ _=>el1 (fun _=>rfl)) fun f cdv A outer s H E hr=> ?_
 have S:=a3c
 have hu:=hr.units
 refine i4 ?_ ?_
 ·refine y8 ?_ ?_ ?_
  ·exact(L1 (M5 (a8h (.inr (.inr (.inl rfl))) rfl M.z_isinstance (b5 0 (pv 0)) (a5m rfl M.z_str (by rfl) rfl))))
  ·exact(g8 (j9 w8))
  exact v5
 refine i4 ?_ ?_
 ·refine u6 (i:=1) ?_ ?_
  ·exact S.nd
  refine v9 A9 hr ?_ ?_ ?_ ?_
  ·decide
  ·exact rfl
  ·exact(c7 (c7 (c7 n8)))
  exact(a9 (b5 0 (pv 0)) (a9 j0 (a9 (W4 rfl m_DEEPEST c_DEEPEST) j6)))
 refine i4 ?_ ?_
 ·refine y8 (PW.pt (a0U (v3 Q9 (b5 1 (pv 1)) w8 (by first|rfl|exact t6 _)) (V3 (v3 (a8I hu) (B9 (b5 1 (pv 1)) j0) (S0 O3 rfl M.z_len (by rfl) (b5 0 (pv 0))) (by first|rfl|exact t6 _))))) ?_ ?_
  ·exact(g8 (j9 w8))
  exact v5
 exact(g8 (j9 (B9 (b5 1 (pv 1)) j0)))
theorem a8B(D:Df K mg "_law_round" a2o):a4G P w K mg base:=by
 refine x4 (k:=0) D a35 (fun _ _ _ _ _ _=>el2 (fun _ _=>rfl)) fun f cdv A outer s H E hr=> ?_
 have S:=a35
 have hu:=hr.units
 refine i4 ?_ ?_
 ·exact(u6 (i:=2) S.nd (f9 N8 (b5 1 (pv 1)) j0))
 refine i4 ?_ ?_
 ·refine y8 ?_ ?_ ?_
  ·exact(v3 (C7 hu) (b5 2 (pv 2)) j0 (by first|rfl|exact t6 _))
  ·exact(g8 (j9 (f9 g7 (f9 g7 b9 (b5 0 (pv 0))) b9)))
  exact v5
 refine i4 ?_ ?_
 ·refine y8 ?_ ?_ ?_
  ·exact(v3 (C7 hu) (b5 2 (pv 2)) j0 (by first|rfl|exact t6 _))
  ·exact(g8 (j9 (f9 g7 (f9 g7 b9 (b5 0 (pv 0))) b9)))
  exact v5
 refine i4 ?_ ?_
 ·refine y8 ?_ ?_ ?_
  ·exact(v3 (C7 hu) (b5 2 (pv 2)) j0 (by first|rfl|exact t6 _))
  ·exact(g8 (j9 (f9 g7 (f9 g7 b9 (b5 0 (pv 0))) b9)))
  exact v5
 refine i4 ?_ ?_
 ·refine y8 ?_ ?_ ?_
  ·exact(v3 (C7 hu) (b5 2 (pv 2)) j0 (by first|rfl|exact t6 _))
  ·exact(g8 (j9 (f9 g7 (f9 g7 b9 (b5 0 (pv 0))) b9)))
  exact v5
 refine i4 ?_ ?_
 ·refine y8 ?_ ?_ ?_
  ·exact(v3 (C7 hu) (b5 2 (pv 2)) j0 (by first|rfl|exact t6 _))
  ·exact(g8 (j9 (f9 g7 (f9 g7 b9 (b5 0 (pv 0))) b9)))
  exact v5
 exact(g8 (j9 (f9 g7 (f9 g7 b9 (b5 0 (pv 0))) b9)))
theorem a6o(D:Df K mg "shown_cloth" a0I):a2W P w K mg base:=by
 refine x4 (k:=0) D a2y (fun _ _ _ _ _ _=>el1 (fun _=>rfl)) fun f cdv A outer s H E hr=> ?_
 have S:=a2y
 have hu:=hr.units
 exact(g8 (j9 (b1h b9 (b5 0 (pv 0)))))
theorem a69(D:Dm K "text" "Plain.text" a1s a.f_Plain_text)(O:Oc K mg a)(a0w:a2W P w K mg base):D5 P w K mg base a:=by
 refine A5 (k:=1) D a29 (fun _ _ _ _ _ _=>el1 (fun _=>rfl)) fun cdv A outer s H E hr=> ?_
 have S:=a29
 have hu:=hr.units
 refine g8 ?_
 refine j9 ?_
 refine f9 g7 ?_ ?_
 ·refine f9 g7 ?_ ?_
  ·exact b9
  refine v9 a0w hr ?_ ?_ ?_ ?_
  ·decide
  ·exact rfl
  ·exact(c7 n8)
  exact(a9 (G8 (e9 O.kc_Plain O.na_Plain_rows w4) (b5 0 (pv 0))) j6)
 exact b9
theorem a68(D:Dm K "text" "Named.text" a1r a.f_Named_text)(O:Oc K mg a):D4 P w K mg base a:=by
 refine A5 (k:=0) D a28 (fun _ _ _ _ _ _=>el1 (fun _=>rfl)) fun cdv A outer s H E hr=> ?_
 have S:=a28
 have hu:=hr.units
 exact(g8 (j9 (G8 (e9 O.kc_Named O.na_Named_name w4) (b5 0 (pv 0)))))
theorem a64{k:Nat}(hk0:2≤k){j4 i5 i6 k7 k9 i7 R_written_parts:List PV→Option g6}(D:Dm K "text" "Above.text" X0 a.f_Above_text)(O:Oc K mg a)(v8:p4 P w K mg base a.f_Above_text ["self"] k j4)(u7:p4 P w K mg base a.f_Across_text ["self"] k i5)(u8:p4 P w K mg base a.f_Beside_text ["self"] k i6)(x9:p4 P w K mg base a.f_Down_text ["self"] k k7)(y0:p4 P w K mg base a.f_Dyed_text ["self"] k k9)(u9:p4 P w K mg base a.f_Turned_text ["self"] k i7)(d_written_parts:j7 P w K mg base "written_parts" ["parts"] k R_written_parts):p4 P w K mg base a.f_Above_text ["self"] (k+1) (p7 0 (a07 j4 i5 i6 k7 k9 i7 R_written_parts)):=by
 refine A5 (k:=k) D a0J (fun _ _ _ _ _ _=>el1 (fun _=>rfl)) fun cdv A outer s H E hr=> ?_
 have S:=a0J
 have hu:=hr.units
 refine g8 ?_
 refine j9 ?_
 refine f9 g7 ?_ ?_
 ·refine f9 g7 ?_ ?_
  ·exact b9
  refine v9 d_written_parts hr ?_ ?_ ?_ ?_
  ·lia
  ·exact rfl
  ·exact(c7 n8)
  exact(a9 (G8 (e9 O.kc_Beside O.na_Beside_parts (e9 O.kc_Above O.na_Above_parts w4)) (b5 0 (pv 0))) j6)
 exact b9
theorem a6h{k:Nat}(hk0:2≤k){j4 i5 i6 k7 k9 i7 R_written_parts:List PV→Option g6}(D:Dm K "text" "Across.text" T7 a.f_Across_text)(M:MoB K mg)(O:Oc K mg a)(r9:D5 P w K mg base a)(r8:D4 P w K mg base a)(v8:p4 P w K mg base a.f_Above_text ["self"] k j4)(u7:p4 P w K mg base a.f_Across_text ["self"] k i5)(u8:p4 P w K mg base a.f_Beside_text ["self"] k i6)(x9:p4 P w K mg base a.f_Down_text ["self"] k k7)(y0:p4 P w K mg base a.f_Dyed_text ["self"] k k9)(u9:p4 P w K mg base a.f_Turned_text ["self"] k i7)(d_written_parts:j7 P w K mg base "written_parts" ["parts"] k R_written_parts):p4 P w K mg base a.f_Across_text ["self"] (k+1) (p7 0 (a0s j4 i5 i6 k7 k9 i7 R_written_parts)):=by
 refine A5 (k:=k) D Z8 (fun _ _ _ _ _ _=>el1 (fun _=>rfl)) fun cdv A outer s H E hr=> ?_
 have S:=Z8
 have hu:=hr.units
 refine g8 ?_
 refine j9 ?_
 refine f9 g7 ?_ ?_
 ·refine f9 g7 ?_ ?_
  ·refine f9 g7 ?_ ?_
   ·refine f9 g7 ?_ ?_
    ·exact b9
    refine a7r b29 ?_ M.z_str ?_ ?_
    ·exact rfl
    ·rfl
    exact(G8 (e9 O.kc_Across O.na_Across_many (e9 O.kc_Down O.na_Down_many w4)) (b5 0 (pv 0)))
   exact b9
  refine Q4 (b7 r9 O.kc_Plain O.fi_Plain_text (by lia) rfl (b7 r8 O.kc_Named O.fi_Named_text (by lia) rfl (b7 u8 O.kc_Beside O.fi_Beside_text (by lia) rfl (b7 v8 O.kc_Above O.fi_Above_text (by lia) rfl (b7 u7 O.kc_Across O.fi_Across_text (by lia) rfl (b7 x9 O.kc_Down O.fi_Down_text (by lia) rfl (b7 u9 O.kc_Turned O.fi_Turned_text (by lia) rfl (b7 y0 O.kc_Dyed O.fi_Dyed_text (by lia) rfl D8)))))))) hr ?_
  refine G8 (e9 O.kc_Across O.na_Across_part (e9 O.kc_Down O.na_Down_part (e9 O.kc_Turned O.na_Turned_part (e9 O.kc_Dyed O.na_Dyed_part w4)))) ?_
  exact(b5 0 (pv 0))
 exact b9
theorem a6i{k:Nat}(hk0:2≤k){j4 i5 i6 k7 k9 i7 R_written_parts:List PV→Option g6}(D:Dm K "text" "Beside.text" T8 a.f_Beside_text)(O:Oc K mg a)(v8:p4 P w K mg base a.f_Above_text ["self"] k j4)(u7:p4 P w K mg base a.f_Across_text ["self"] k i5)(u8:p4 P w K mg base a.f_Beside_text ["self"] k i6)(x9:p4 P w K mg base a.f_Down_text ["self"] k k7)(y0:p4 P w K mg base a.f_Dyed_text ["self"] k k9)(u9:p4 P w K mg base a.f_Turned_text ["self"] k i7)(d_written_parts:j7 P w K mg base "written_parts" ["parts"] k R_written_parts):p4 P w K mg base a.f_Beside_text ["self"] (k+1) (p7 0 (a0t j4 i5 i6 k7 k9 i7 R_written_parts)):=by
 refine A5 (k:=k) D Z9 (fun _ _ _ _ _ _=>el1 (fun _=>rfl)) fun cdv A outer s H E hr=> ?_
 have S:=Z9
 have hu:=hr.units
 refine g8 ?_
 refine j9 ?_
 refine f9 g7 ?_ ?_
 ·refine f9 g7 ?_ ?_
  ·exact b9
  refine v9 d_written_parts hr ?_ ?_ ?_ ?_
  ·lia
  ·exact rfl
  ·exact(c7 n8)
  exact(a9 (G8 (e9 O.kc_Beside O.na_Beside_parts (e9 O.kc_Above O.na_Above_parts w4)) (b5 0 (pv 0))) j6)
 exact b9
theorem a8z{k:Nat}(hk0:2≤k){j4 i5 i6 k7 k9 i7 R_written_parts:List PV→Option g6}(D:Dm K "text" "Down.text" a0k a.f_Down_text)(M:MoB K mg)(O:Oc K mg a)(r9:D5 P w K mg base a)(r8:D4 P w K mg base a)(v8:p4 P w K mg base a.f_Above_text ["self"] k j4)(u7:p4 P w K mg base a.f_Across_text ["self"] k i5)(u8:p4 P w K mg base a.f_Beside_text ["self"] k i6)(x9:p4 P w K mg base a.f_Down_text ["self"] k k7)(y0:p4 P w K mg base a.f_Dyed_text ["self"] k k9)(u9:p4 P w K mg base a.f_Turned_text ["self"] k i7)(d_written_parts:j7 P w K mg base "written_parts" ["parts"] k R_written_parts):p4 P w K mg base a.f_Down_text ["self"] (k+1) (p7 0 (a1W j4 i5 i6 k7 k9 i7 R_written_parts)):=by
 refine A5 (k:=k) D a1y (fun _ _ _ _ _ _=>el1 (fun _=>rfl)) fun cdv A outer s H E hr=> ?_
 have S:=a1y
 have hu:=hr.units
 refine g8 ?_
 refine j9 ?_
 refine f9 g7 ?_ ?_
 ·refine f9 g7 ?_ ?_
  ·refine f9 g7 ?_ ?_
   ·refine f9 g7 ?_ ?_
    ·exact b9
    refine a7r b29 ?_ M.z_str ?_ ?_
    ·exact rfl
    ·rfl
    exact(G8 (e9 O.kc_Across O.na_Across_many (e9 O.kc_Down O.na_Down_many w4)) (b5 0 (pv 0)))
   exact b9
  refine Q4 (b7 r9 O.kc_Plain O.fi_Plain_text (by lia) rfl (b7 r8 O.kc_Named O.fi_Named_text (by lia) rfl (b7 u8 O.kc_Beside O.fi_Beside_text (by lia) rfl (b7 v8 O.kc_Above O.fi_Above_text (by lia) rfl (b7 u7 O.kc_Across O.fi_Across_text (by lia) rfl (b7 x9 O.kc_Down O.fi_Down_text (by lia) rfl (b7 u9 O.kc_Turned O.fi_Turned_text (by lia) rfl (b7 y0 O.kc_Dyed O.fi_Dyed_text (by lia) rfl D8)))))))) hr ?_
  refine G8 (e9 O.kc_Across O.na_Across_part (e9 O.kc_Down O.na_Down_part (e9 O.kc_Turned O.na_Turned_part (e9 O.kc_Dyed O.na_Dyed_part w4)))) ?_
  exact(b5 0 (pv 0))
 exact b9
theorem a8A{k:Nat}(hk0:2≤k){j4 i5 i6 k7 k9 i7 R_written_parts:List PV→Option g6}(D:Dm K "text" "Dyed.text" a0l a.f_Dyed_text)(O:Oc K mg a)(r9:D5 P w K mg base a)(r8:D4 P w K mg base a)(v8:p4 P w K mg base a.f_Above_text ["self"] k j4)(u7:p4 P w K mg base a.f_Across_text ["self"] k i5)(u8:p4 P w K mg base a.f_Beside_text ["self"] k i6)(x9:p4 P w K mg base a.f_Down_text ["self"] k k7)(y0:p4 P w K mg base a.f_Dyed_text ["self"] k k9)(u9:p4 P w K mg base a.f_Turned_text ["self"] k i7)(d_written_parts:j7 P w K mg base "written_parts" ["parts"] k R_written_parts):p4 P w K mg base a.f_Dyed_text ["self"] (k+1) (p7 0 (a1X j4 i5 i6 k7 k9 i7 R_written_parts)):=by
 refine A5 (k:=k) D a1z (fun _ _ _ _ _ _=>el1 (fun _=>rfl)) fun cdv A outer s H E hr=> ?_
 have S:=a1z
 have hu:=hr.units
 refine g8 ?_
 refine j9 ?_
 refine f9 g7 ?_ ?_
 ·refine f9 g7 ?_ ?_
  ·refine f9 g7 ?_ ?_
   ·refine f9 g7 ?_ ?_
    ·exact(f9 g7 (f9 g7 b9 (G8 (e9 O.kc_Dyed O.na_Dyed_one w4) (b5 0 (pv 0)))) b9)
    exact(G8 (e9 O.kc_Dyed O.na_Dyed_other w4) (b5 0 (pv 0)))
   exact b9
  refine Q4 (b7 r9 O.kc_Plain O.fi_Plain_text (by lia) rfl (b7 r8 O.kc_Named O.fi_Named_text (by lia) rfl (b7 u8 O.kc_Beside O.fi_Beside_text (by lia) rfl (b7 v8 O.kc_Above O.fi_Above_text (by lia) rfl (b7 u7 O.kc_Across O.fi_Across_text (by lia) rfl (b7 x9 O.kc_Down O.fi_Down_text (by lia) rfl (b7 u9 O.kc_Turned O.fi_Turned_text (by lia) rfl (b7 y0 O.kc_Dyed O.fi_Dyed_text (by lia) rfl D8)))))))) hr ?_
  refine G8 (e9 O.kc_Across O.na_Across_part (e9 O.kc_Down O.na_Down_part (e9 O.kc_Turned O.na_Turned_part (e9 O.kc_Dyed O.na_Dyed_part w4)))) ?_
  exact(b5 0 (pv 0))
 exact b9
theorem a6k{k:Nat}(hk0:2≤k){j4 i5 i6 k7 k9 i7 R_written_parts:List PV→Option g6}(D:Dm K "text" "Turned.text" T9 a.f_Turned_text)(O:Oc K mg a)(r9:D5 P w K mg base a)(r8:D4 P w K mg base a)(v8:p4 P w K mg base a.f_Above_text ["self"] k j4)(u7:p4 P w K mg base a.f_Across_text ["self"] k i5)(u8:p4 P w K mg base a.f_Beside_text ["self"] k i6)(x9:p4 P w K mg base a.f_Down_text ["self"] k k7)(y0:p4 P w K mg base a.f_Dyed_text ["self"] k k9)(u9:p4 P w K mg base a.f_Turned_text ["self"] k i7)(d_written_parts:j7 P w K mg base "written_parts" ["parts"] k R_written_parts):p4 P w K mg base a.f_Turned_text ["self"] (k+1) (p7 0 (a0u j4 i5 i6 k7 k9 i7 R_written_parts)):=by
 refine A5 (k:=k) D a0a (fun _ _ _ _ _ _=>el1 (fun _=>rfl)) fun cdv A outer s H E hr=> ?_
 have S:=a0a
 have hu:=hr.units
 refine g8 ?_
 refine j9 ?_
 refine f9 g7 ?_ ?_
 ·refine f9 g7 ?_ ?_
  ·exact(f9 g7 (G8 (e9 O.kc_Turned O.na_Turned_way w4) (b5 0 (pv 0))) b9)
  refine Q4 (b7 r9 O.kc_Plain O.fi_Plain_text (by lia) rfl (b7 r8 O.kc_Named O.fi_Named_text (by lia) rfl (b7 u8 O.kc_Beside O.fi_Beside_text (by lia) rfl (b7 v8 O.kc_Above O.fi_Above_text (by lia) rfl (b7 u7 O.kc_Across O.fi_Across_text (by lia) rfl (b7 x9 O.kc_Down O.fi_Down_text (by lia) rfl (b7 u9 O.kc_Turned O.fi_Turned_text (by lia) rfl (b7 y0 O.kc_Dyed O.fi_Dyed_text (by lia) rfl D8)))))))) hr ?_
  refine G8 (e9 O.kc_Across O.na_Across_part (e9 O.kc_Down O.na_Down_part (e9 O.kc_Turned O.na_Turned_part (e9 O.kc_Dyed O.na_Dyed_part w4)))) ?_
  exact(b5 0 (pv 0))
 exact b9
theorem a4z{k:Nat}(hk0:2≤k){j4 i5 i6 k7 k9 i7 R_written_parts:List PV→Option g6}(D:Df K mg "written_parts" N9)(O:Oc K mg a)(r9:D5 P w K mg base a)(r8:D4 P w K mg base a)(v8:p4 P w K mg base a.f_Above_text ["self"] k j4)(u7:p4 P w K mg base a.f_Across_text ["self"] k i5)(u8:p4 P w K mg base a.f_Beside_text ["self"] k i6)(x9:p4 P w K mg base a.f_Down_text ["self"] k k7)(y0:p4 P w K mg base a.f_Dyed_text ["self"] k k9)(u9:p4 P w K mg base a.f_Turned_text ["self"] k i7)(d_written_parts:j7 P w K mg base "written_parts" ["parts"] k R_written_parts):j7 P w K mg base "written_parts" ["parts"] (k+1) (p7 0 (V0 j4 i5 i6 k7 k9 i7 R_written_parts)):=by
 refine x4 (k:=k) D S9 (fun _ _ _ _ _ _=>el1 (fun _=>rfl)) fun f cdv A outer s H E hr=> ?_
 have S:=S9
 have hu:=hr.units
 refine g8 ?_
 refine j9 ?_
 refine b1h ?_ ?_
 ·exact b9
 refine a3J (ys:=["part"]) (N0:=["parts"]) (fun _ _ h=>h) ?_ ⟨by kernel_rfl,rfl,of_decide_eq_true rfl,of_decide_eq_true rfl,of_decide_eq_true rfl⟩ ?_ (fun C fp pins s H=>W8 (i:=1) a3n rfl (Or.inl rfl)) (fun n h=>a0c (i:=1) (Nat.le_of_eq h)) (fun C fp pins s H=>a5F) ?_
 ·exact rfl
 ·exact(a8j (b5 0 (pv 0)))
 intro C fp pins s H
 refine Q4 (b7 r9 O.kc_Plain O.fi_Plain_text (by lia) rfl (b7 r8 O.kc_Named O.fi_Named_text (by lia) rfl (b7 u8 O.kc_Beside O.fi_Beside_text (by lia) rfl (b7 v8 O.kc_Above O.fi_Above_text (by lia) rfl (b7 u7 O.kc_Across O.fi_Across_text (by lia) rfl (b7 x9 O.kc_Down O.fi_Down_text (by lia) rfl (b7 u9 O.kc_Turned O.fi_Turned_text (by lia) rfl (b7 y0 O.kc_Dyed O.fi_Dyed_text (by lia) rfl D8)))))))) hr ?_
 exact(b5 1 (pv 1))
theorem a6e(W0:Dm K "text" "Above.text" X0 a.f_Above_text)(T2:Dm K "text" "Across.text" T7 a.f_Across_text)(T3:Dm K "text" "Beside.text" T8 a.f_Beside_text)(a0d:Dm K "text" "Down.text" a0k a.f_Down_text)(a0e:Dm K "text" "Dyed.text" a0l a.f_Dyed_text)(T4:Dm K "text" "Turned.text" T9 a.f_Turned_text)(D_written_parts:Df K mg "written_parts" N9)(M:MoB K mg)(O:Oc K mg a)(r9:D5 P w K mg base a)(r8:D4 P w K mg base a):∀n:Nat,p4 P w K mg base a.f_Above_text ["self"] (2+n) (a0A n)∧p4 P w K mg base a.f_Across_text ["self"] (2+n) (Y3 n)∧p4 P w K mg base a.f_Beside_text ["self"] (2+n) (Y4 n)∧p4 P w K mg base a.f_Down_text ["self"] (2+n) (a1i n)∧p4 P w K mg base a.f_Dyed_text ["self"] (2+n) (a1j n)∧p4 P w K mg base a.f_Turned_text ["self"] (2+n) (Y5 n)∧j7 P w K mg base "written_parts" ["parts"] (2+n) (S4 n):=by
 intro n
 induction n with
 |zero=>exact⟨A5 (k:=1) W0 a0J (fun _ _ _ _ _ _=>el1 (fun _=>rfl)) fun cdv A outer s H E hr=>B5,A5 (k:=1) T2 Z8 (fun _ _ _ _ _ _=>el1 (fun _=>rfl)) fun cdv A outer s H E hr=>B5,A5 (k:=1) T3 Z9 (fun _ _ _ _ _ _=>el1 (fun _=>rfl)) fun cdv A outer s H E hr=>B5,A5 (k:=1) a0d a1y (fun _ _ _ _ _ _=>el1 (fun _=>rfl)) fun cdv A outer s H E hr=>B5,A5 (k:=1) a0e a1z (fun _ _ _ _ _ _=>el1 (fun _=>rfl)) fun cdv A outer s H E hr=>B5,A5 (k:=1) T4 a0a (fun _ _ _ _ _ _=>el1 (fun _=>rfl)) fun cdv A outer s H E hr=>B5,x4 (k:=1) D_written_parts S9 (fun _ _ _ _ _ _=>el1 (fun _=>rfl)) fun f cdv A outer s H E hr=>B5⟩
 |succ n ih=>
  obtain⟨h0,h1,h2,h3,h4,h5,h6⟩:=ih
  exact⟨a64 P w base a (Nat.le_add_right _ _) W0 O h0 h1 h2 h3 h4 h5 h6,a6h P w base a (Nat.le_add_right _ _) T2 M O r9 r8 h0 h1 h2 h3 h4 h5 h6,a6i P w base a (Nat.le_add_right _ _) T3 O h0 h1 h2 h3 h4 h5 h6,a8z P w base a (Nat.le_add_right _ _) a0d M O r9 r8 h0 h1 h2 h3 h4 h5 h6,a8A P w base a (Nat.le_add_right _ _) a0e O r9 r8 h0 h1 h2 h3 h4 h5 h6,a6k P w base a (Nat.le_add_right _ _) T4 O r9 r8 h0 h1 h2 h3 h4 h5 h6,a4z P w base a (Nat.le_add_right _ _) D_written_parts O r9 r8 h0 h1 h2 h3 h4 h5 h6⟩
theorem a6j(D:Dm K "inner" "Motif.inner" a0F a.f_Motif_inner):a0q P w K mg base a:=by
 refine A5 (k:=0) D a2t (fun _ _ _ _ _ _=>el1 (fun _=>rfl)) fun cdv A outer s H E hr=> ?_
 have S:=a2t
 have hu:=hr.units
 exact(g8 (j9 (M4 j6)))
theorem a46(D:Dm K "inner" "Beside.inner" Z5 a.f_Beside_inner)(O:Oc K mg a):X7 P w K mg base a:=by
 refine A5 (k:=0) D a1J (fun _ _ _ _ _ _=>el1 (fun _=>rfl)) fun cdv A outer s H E hr=> ?_
 have S:=a1J
 have hu:=hr.units
 exact(g8 (j9 (G8 (e9 O.kc_Beside O.na_Beside_parts (e9 O.kc_Above O.na_Above_parts w4)) (b5 0 (pv 0)))))
theorem a6g(D:Dm K "inner" "Above.inner" a0E a.f_Above_inner)(O:Oc K mg a):a0p P w K mg base a:=by
 refine A5 (k:=0) D a2s (fun _ _ _ _ _ _=>el1 (fun _=>rfl)) fun cdv A outer s H E hr=> ?_
 have S:=a2s
 have hu:=hr.units
 exact(g8 (j9 (G8 (e9 O.kc_Beside O.na_Beside_parts (e9 O.kc_Above O.na_Above_parts w4)) (b5 0 (pv 0)))))
theorem a45(D:Dm K "inner" "Across.inner" Z4 a.f_Across_inner)(O:Oc K mg a):X6 P w K mg base a:=by
 refine A5 (k:=0) D a1I (fun _ _ _ _ _ _=>el1 (fun _=>rfl)) fun cdv A outer s H E hr=> ?_
 have S:=a1I
 have hu:=hr.units
 refine g8 ?_
 refine j9 ?_
 refine M4 ?_
 refine a9 ?_ ?_
 ·refine G8 (e9 O.kc_Across O.na_Across_part (e9 O.kc_Down O.na_Down_part (e9 O.kc_Turned O.na_Turned_part (e9 O.kc_Dyed O.na_Dyed_part w4)))) ?_
  exact(b5 0 (pv 0))
 exact j6
theorem a65(D:Dm K "inner" "Down.inner" a1p a.f_Down_inner)(O:Oc K mg a):a05 P w K mg base a:=by
 refine A5 (k:=0) D a26 (fun _ _ _ _ _ _=>el1 (fun _=>rfl)) fun cdv A outer s H E hr=> ?_
 have S:=a26
 have hu:=hr.units
 refine g8 ?_
 refine j9 ?_
 refine M4 ?_
 refine a9 ?_ ?_
 ·refine G8 (e9 O.kc_Across O.na_Across_part (e9 O.kc_Down O.na_Down_part (e9 O.kc_Turned O.na_Turned_part (e9 O.kc_Dyed O.na_Dyed_part w4)))) ?_
  exact(b5 0 (pv 0))
 exact j6
theorem a47(D:Dm K "inner" "Turned.inner" Z6 a.f_Turned_inner)(O:Oc K mg a):X8 P w K mg base a:=by
 refine A5 (k:=0) D a1K (fun _ _ _ _ _ _=>el1 (fun _=>rfl)) fun cdv A outer s H E hr=> ?_
 have S:=a1K
 have hu:=hr.units
 refine g8 ?_
 refine j9 ?_
 refine M4 ?_
 refine a9 ?_ ?_
 ·refine G8 (e9 O.kc_Across O.na_Across_part (e9 O.kc_Down O.na_Down_part (e9 O.kc_Turned O.na_Turned_part (e9 O.kc_Dyed O.na_Dyed_part w4)))) ?_
  exact(b5 0 (pv 0))
 exact j6
theorem a66(D:Dm K "inner" "Dyed.inner" a1q a.f_Dyed_inner)(O:Oc K mg a):a06 P w K mg base a:=by
 refine A5 (k:=0) D a27 (fun _ _ _ _ _ _=>el1 (fun _=>rfl)) fun cdv A outer s H E hr=> ?_
 have S:=a27
 have hu:=hr.units
 refine g8 ?_
 refine j9 ?_
 refine M4 ?_
 refine a9 ?_ ?_
 ·refine G8 (e9 O.kc_Across O.na_Across_part (e9 O.kc_Down O.na_Down_part (e9 O.kc_Turned O.na_Turned_part (e9 O.kc_Dyed O.na_Dyed_part w4)))) ?_
  exact(b5 0 (pv 0))
 exact j6
theorem a67{k:Nat}(hk0:1≤k){y6:List PV→Option g6}(D:Dm K "deep" "Motif.deep" X1 a.f_Motif_deep)(M:MoB K mg)(O:Oc K mg a)(J8:a0q P w K mg base a)(K7:X7 P w K mg base a)(N1:a0p P w K mg base a)(K6:X6 P w K mg base a)(Q1:a05 P w K mg base a)(K8:X8 P w K mg base a)(Q2:a06 P w K mg base a)(p9:p4 P w K mg base a.f_Motif_deep ["self"] k y6):p4 P w K mg base a.f_Motif_deep ["self"] (k+1) (p7 0 (a3D y6)):=by
 refine A5 (k:=k) D a0K (fun _ _ _ _ _ _=>el1 (fun _=>rfl)) fun cdv A outer s H E hr=> ?_
 have S:=a0K
 have hu:=hr.units
 refine g8 ?_
 refine j9 ?_
 refine f9 g7 ?_ ?_
 ·exact j0
 refine b49 ?_ ?_ M.z_max ?_
 ·exact rfl
 ·exact rfl
 refine a3J (ys:=["part"]) (N0:=["self"]) (fun _ _ h=>h) ?_ ⟨by kernel_rfl,rfl,of_decide_eq_true rfl,of_decide_eq_true rfl,of_decide_eq_true rfl⟩ ?_ (fun C fp pins s H=>W8 (i:=1) a44 rfl (Or.inl rfl)) (fun n h=>a0c (i:=1) (Nat.le_of_eq h)) (fun C fp pins s H=>a5F) ?_
 ·exact rfl
 ·refine a8j ?_
  refine Q4 (b7 J8 O.kc_Plain O.fi_Plain_inner (by lia) rfl (b7 J8 O.kc_Named O.fi_Named_inner (by lia) rfl (b7 K7 O.kc_Beside O.fi_Beside_inner (by lia) rfl (b7 N1 O.kc_Above O.fi_Above_inner (by lia) rfl (b7 K6 O.kc_Across O.fi_Across_inner (by lia) rfl (b7 Q1 O.kc_Down O.fi_Down_inner (by lia) rfl (b7 K8 O.kc_Turned O.fi_Turned_inner (by lia) rfl (b7 Q2 O.kc_Dyed O.fi_Dyed_inner (by lia) rfl D8)))))))) hr ?_
  exact(b5 0 (pv 0))
 intro C fp pins s H
 refine Q4 (b7 p9 O.kc_Plain O.fi_Plain_deep (by lia) rfl (b7 p9 O.kc_Named O.fi_Named_deep (by lia) rfl (b7 p9 O.kc_Beside O.fi_Beside_deep (by lia) rfl (b7 p9 O.kc_Above O.fi_Above_deep (by lia) rfl (b7 p9 O.kc_Across O.fi_Across_deep (by lia) rfl (b7 p9 O.kc_Down O.fi_Down_deep (by lia) rfl (b7 p9 O.kc_Turned O.fi_Turned_deep (by lia) rfl (b7 p9 O.kc_Dyed O.fi_Dyed_deep (by lia) rfl D8)))))))) hr ?_
 exact(b5 1 (pv 1))
theorem a6f(W1:Dm K "deep" "Motif.deep" X1 a.f_Motif_deep)(M:MoB K mg)(O:Oc K mg a)(J8:a0q P w K mg base a)(K7:X7 P w K mg base a)(N1:a0p P w K mg base a)(K6:X6 P w K mg base a)(Q1:a05 P w K mg base a)(K8:X8 P w K mg base a)(Q2:a06 P w K mg base a):∀n:Nat,p4 P w K mg base a.f_Motif_deep ["self"] (1+n) (m9 n):=by
 intro n
 induction n with
 |zero=>exact A5 (k:=0) W1 a0K (fun _ _ _ _ _ _=>el1 (fun _=>rfl)) fun cdv A outer s H E hr=>B5
 |succ n ih=>
  skip
  exact a67 P w base a (Nat.le_add_right _ _) W1 M O J8 K7 N1 K6 Q1 K8 Q2 ih
theorem b7G{f:AB}{fd:FuncData}(F:Fun K "law" "law" b4A f fd)(M:MoB K mg)(O:Oc K mg a)(a4l:a7g P w K mg base)(a1c:a3y P w K mg base)(V2:a1F P w K mg base)(L5:a3A P w K mg base)(a11:a4G P w K mg base)(r9:D5 P w K mg base a)(r8:D4 P w K mg base a)(u8:a6U P w K mg base a)(v8:a74 P w K mg base a)(u7:a6T P w K mg base a)(x9:a82 P w K mg base a)(u9:a6V P w K mg base a)(y0:a83 P w K mg base a)(p9:a75 P w K mg base a):M8 P w K mg base CX0 47 f fd ["_law_script"] (spP K 1 b6D):=by
 refine b3l (k:=46) F b4D fun cdv A outer s H E hr=> ?_
 have S:=b4D
 have hu:=hr.units
 refine i4 ?_ ?_
 ·exact(u6 (i:=1) S.nd (b47 a4l hr (by decide) rfl))
 refine i4 ?_ ?_
 ·refine a5G PassesOwn.never ?_ ?_ M.z_range ?_ ?_ (a2N 2) ?_
  ·exact rfl
  ·exact rfl
  ·exact(a9 (b8F (b65 rfl) rfl M.z_min (by rfl) (S0 O3 rfl M.z_len (by rfl) (b5 0 (pv 0))) j0) j6)
  ·exact(W8 (i:=2) S.nd rfl (Or.inl rfl))
  refine i4 ?_ ?_
  ·refine u6 (i:=3) ?_ ?_
   ·exact S.nd
   refine v9 a1c hr ?_ ?_ ?_ ?_
   ·decide
   ·exact rfl
   ·exact(c7 (c7 n8))
   exact(a9 (B9 (b5 0 (pv 0)) (b5 2 (pv 2))) (a9 (b5 2 (pv 2)) j6))
  refine i4 ?_ ?_
  ·refine u6 (i:=4) ?_ ?_
   ·exact S.nd
   refine B9 ?_ ?_
   ·exact(b5 1 (pv 1))
   exact(f9 N8 (f9 N8 (f9 L4 (b5 3 (pv 3)) j0) j0) (S0 O3 rfl M.z_len (by rfl) (b5 1 (pv 1))))
  refine i4 ?_ ?_
  ·refine a5G PassesOwn.never ?_ ?_ M.z_range ?_ ?_ (a2N 5) ?_
   ·exact rfl
   ·exact rfl
   ·exact(a9 (f9 N8 (f9 N8 (f9 L4 (b5 3 (pv 3)) j0) j0) j0) j6)
   ·exact(W8 (i:=5) S.nd rfl (Or.inl rfl))
   refine g8 ?_
   refine u6 (i:=4) ?_ ?_
   ·exact S.nd
   refine v9 a11 hr ?_ ?_ ?_ ?_
   ·decide
   ·exact rfl
   ·exact(c7 (c7 n8))
   refine a9 ?_ ?_
   ·exact(b5 4 (pv 4))
   exact(a9 (f9 N8 (f9 L4 (b5 3 (pv 3)) (f9 g7 (f9 L4 j0 (b5 5 (pv 5))) j0)) j0) j6)
  refine i4 ?_ ?_
  ·refine y8 ?_ ?_ ?_
   ·refine v3 a31 ?_ ?_ ?_
    ·exact(v9 L5 hr (by decide) rfl (c7 n8) (a9 (b5 4 (pv 4)) j6))
    ·exact w8
    first|rfl|exact t6 _
   ·exact(g8 (j9 a3I))
   exact v5
  refine i4 ?_ ?_
  ·exact(u6 (i:=6) S.nd (f9 N8 (f9 N8 (f9 L4 (b5 3 (pv 3)) j0) j0) j0))
  refine i4 ?_ ?_
  ·refine u6 (i:=4) ?_ ?_
   ·exact S.nd
   refine v9 V2 hr ?_ ?_ ?_ ?_
   ·decide
   ·exact rfl
   ·exact(c7 (c7 (c7 n8)))
   refine a9 ?_ ?_
   ·exact(B9 (L0 (a9 b9 (a9 b9 j6))) (f9 N8 (b5 3 (pv 3)) j0))
   exact(a9 (b5 6 (pv 6)) (a9 (f9 N8 (b5 3 (pv 3)) j0) j6))
  refine i4 ?_ ?_
  ·exact(u6 (i:=7) S.nd (v9 L5 hr (by decide) rfl (c7 n8) (a9 (b5 4 (pv 4)) j6)))
  refine g8 ?_
  refine y8 ?_ ?_ ?_
  ·exact(v3 b3Y (b5 6 (pv 6)) j0 (by first|rfl|exact t6 _))
  ·exact(g8 (y8 (v3 a31 (b5 7 (pv 7)) w8 (by first|rfl|exact t6 _)) (g8 (j9 a3I)) v5))
  refine g8 ?_
  refine y8 (PW.pt (a0U (v3 Q9 (b5 7 (pv 7)) w8 (by first|rfl|exact t6 _)) (a0U (v3 (a8I hu) (Q4 (b7 r9 O.kc_Plain O.fi_Plain_text (by decide) rfl (b7 r8 O.kc_Named O.fi_Named_text (by decide) rfl (b7 u8 O.kc_Beside O.fi_Beside_text (by decide) rfl (b7 v8 O.kc_Above O.fi_Above_text (by decide) rfl (b7 u7 O.kc_Across O.fi_Across_text (by decide) rfl (b7 x9 O.kc_Down O.fi_Down_text (by decide) rfl (b7 u9 O.kc_Turned O.fi_Turned_text (by decide) rfl (b7 y0 O.kc_Dyed O.fi_Dyed_text (by decide) rfl D8)))))))) hr (b5 7 (pv 7))) (b5 4 (pv 4)) (by first|rfl|exact t6 _)) (V3 (v3 (a8I hu) (Q4 (b7 p9 O.kc_Plain O.fi_Plain_deep (by decide) rfl (b7 p9 O.kc_Named O.fi_Named_deep (by decide) rfl (b7 p9 O.kc_Beside O.fi_Beside_deep (by decide) rfl (b7 p9 O.kc_Above O.fi_Above_deep (by decide) rfl (b7 p9 O.kc_Across O.fi_Across_deep (by decide) rfl (b7 p9 O.kc_Down O.fi_Down_deep (by decide) rfl (b7 p9 O.kc_Turned O.fi_Turned_deep (by decide) rfl (b7 p9 O.kc_Dyed O.fi_Dyed_deep (by decide) rfl D8)))))))) hr (b5 7 (pv 7))) (f9 g7 (b5 6 (pv 6)) j0) (by first|rfl|exact t6 _)))))) ?_ ?_
  ·exact(g8 (j9 a3I))
  exact v5
 refine i4 ?_ ?_
 ·refine b69 PassesOwn.never ?_ ?_ ?_ (a2N 8) ?_
  ·exact rfl
  ·refine L0 ?_
   refine a9 ?_ ?_
   ·exact w8
   exact(a9 j0 (a9 a3I (a9 (L0 (a9 b9 j6)) (a9 (M4 (a9 b9 j6)) (a9 b3d j6)))))
  ·exact(W8 (i:=8) S.nd rfl (Or.inl rfl))
  refine g8 ?_
  refine y8 ?_ ?_ ?_
  ·refine v3 a31 ?_ ?_ ?_
   ·exact(v9 L5 hr (by decide) rfl (c7 n8) (a9 (b5 8 (pv 8)) j6))
   ·exact w8
   first|rfl|exact t6 _
  ·exact(g8 (j9 a3I))
  exact v5
 refine g8 ?_
 refine j9 ?_
 refine a8g ?_ ?_
 ·exact(a4m (C7 hu) (S0 O3 rfl M.z_len (by rfl) (b5 1 (pv 1))) j0 (by first|rfl|exact t6 _))
 refine a8i ?_
 exact(a4m a31 (v9 L5 hr (by decide) rfl (c7 n8) (a9 b9 j6)) w8 (by first|rfl|exact t6 _))
end
theorem b6W{l:PySem.W.OpenLaw}{w:AJ}{K:AD}{h:Heap}{mg:Str→Option AA}{fa:AB}(X:K.In h)(G:h.Ns mainGlobals mg)(hfa:mg "law"=some (.ref fa))
 {C_Plain:AB}
 {C_Named:AB}
 {C_Beside:AB}
 {C_Above:AB}
 {C_Across:AB}
 {C_Down:AB}
 {C_Turned:AB}
 {C_Dyed:AB}
 {f0_Plain:AB}
 {f0_Named:AB}
 {f0_Beside:AB}
 {f0_Above:AB}
 {f0_Across:AB}
 {f0_Down:AB}
 {f0_Turned:AB}
 {f0_Dyed:AB}
 {f_Plain_text:AB}
 {f_Named_text:AB}
 {f_Above_text:AB}
 {f_Across_text:AB}
 {f_Beside_text:AB}
 {f_Down_text:AB}
 {f_Dyed_text:AB}
 {f_Turned_text:AB}
 {f_Motif_inner:AB}
 {f_Beside_inner:AB}
 {f_Above_inner:AB}
 {f_Across_inner:AB}
 {f_Down_inner:AB}
 {f_Turned_inner:AB}
 {f_Dyed_inner:AB}
 {f_Motif_deep:AB}
 {C_NoCloth:AB}
 {uu_LONGEST:AA}
 {uu_MOST_FIGURES:AA}
 {uu_LONGEST_WORD:AA}
 {uu_WORDS:AA}
 {uu_TURNING:AA}
 {uu_DEEPEST:AA}
 {uu_MOST_PARTS:AA}
 {uu_MOST_TIMES:AA}
 (a4l:Df0 K "_law_bad" a4C)
 (a1c:Df0 K "_law_number" a1t)
 (V2:Df0 K "_law_turned_so" V6)
 (a0R:Df0 K "run_end" a4D)
 (B1:Df0 K "letters_end" a0H)
 (V1:Df0 K "is_small_word" V5)
 (a0Q:Df0 K "is_name" a4B)
 (a5E:Df0 K "is_row" a6B)
 (a3i:Df0 K "is_cloth" a3o)
 (a1d:Df0 K "read_cloth" a1w)
 (Y2:Df0 K "plain_at" a3p)
 (N2:Df0 K "figures_end" a0G)
 (a12:Df0 K "number_in" a2p)
 (S1:Df0 K "number_between" S8)
 (U3:Df0 K "times_end" a2q)
 (G1:Df0 K "is_colour_at" Z7)
 (d_dyed_at:Df0 K "dyed_at" a2K)
 (d_laid_at:Df0 K "laid_at" a2L)
 (d_last_part_at:Df0 K "last_part_at" R0)
 (d_made_of_parts_at:Df0 K "made_of_parts_at" J3)
 (A9:Df0 K "motif_at" a1u)
 (d_parts_at:Df0 K "parts_at" a1v)
 (d_repeated_at:Df0 K "repeated_at" U0)
 (d_turned_at:Df0 K "turned_at" a0m)
 (L5:Df0 K "read_motif" a1x)
 (a11:Df0 K "_law_round" a2o)
 (a0w:Df0 K "shown_cloth" a0I)
 (d_written_parts:Df0 K "written_parts" N9)
 (b8A:Df0 K "law" b4A)
 (oa_Plain:PySem.W.nsIn K mainGlobals "Plain"=some (some (.ref C_Plain)))
 (oa_Named:PySem.W.nsIn K mainGlobals "Named"=some (some (.ref C_Named)))
 (oa_Beside:PySem.W.nsIn K mainGlobals "Beside"=some (some (.ref C_Beside)))
 (oa_Above:PySem.W.nsIn K mainGlobals "Above"=some (some (.ref C_Above)))
 (oa_Across:PySem.W.nsIn K mainGlobals "Across"=some (some (.ref C_Across)))
 (oa_Down:PySem.W.nsIn K mainGlobals "Down"=some (some (.ref C_Down)))
 (oa_Turned:PySem.W.nsIn K mainGlobals "Turned"=some (some (.ref C_Turned)))
 (oa_Dyed:PySem.W.nsIn K mainGlobals "Dyed"=some (some (.ref C_Dyed)))
 (on_Plain:S6 K C_Plain "Plain"=true) (o1_Plain:PySem.W.plainGet K C_Plain Str.empty=true) (o2_Plain:PySem.W.hasDictIn K C_Plain=true) (o3_Plain:PySem.W.plainOver K C_Plain=true) (o4_Plain:PySem.W.findIn K (.ref C_Plain) "__setattr__"=some (some (.builtin "object.__setattr__")))
 (oi_Plain:PySem.W.findIn K (.ref C_Plain) "__init__"=some (some (.ref f0_Plain))) (ow_Plain:PySem.W.makesIn K C_Plain=true) (ou_Plain:PySem.W.isFn K (.ref f0_Plain)=true) (ov_Plain:PySem.W.keepIn K (.ref C_Plain)=true) (dm0_Plain:Dm K "__init__" "Plain.__init__" a9W f0_Plain)
 (na_Plain_rows:PySem.W.findIn K (.ref C_Plain) "rows"=some none)
 (on_Named:S6 K C_Named "Named"=true) (o1_Named:PySem.W.plainGet K C_Named Str.empty=true) (o2_Named:PySem.W.hasDictIn K C_Named=true) (o3_Named:PySem.W.plainOver K C_Named=true) (o4_Named:PySem.W.findIn K (.ref C_Named) "__setattr__"=some (some (.builtin "object.__setattr__")))
 (oi_Named:PySem.W.findIn K (.ref C_Named) "__init__"=some (some (.ref f0_Named))) (ow_Named:PySem.W.makesIn K C_Named=true) (ou_Named:PySem.W.isFn K (.ref f0_Named)=true) (ov_Named:PySem.W.keepIn K (.ref C_Named)=true) (dm0_Named:Dm K "__init__" "Named.__init__" a9V f0_Named)
 (na_Named_name:PySem.W.findIn K (.ref C_Named) "name"=some none)
 (on_Beside:S6 K C_Beside "Beside"=true) (o1_Beside:PySem.W.plainGet K C_Beside Str.empty=true) (o2_Beside:PySem.W.hasDictIn K C_Beside=true) (o3_Beside:PySem.W.plainOver K C_Beside=true) (o4_Beside:PySem.W.findIn K (.ref C_Beside) "__setattr__"=some (some (.builtin "object.__setattr__")))
 (oi_Beside:PySem.W.findIn K (.ref C_Beside) "__init__"=some (some (.ref f0_Beside))) (ow_Beside:PySem.W.makesIn K C_Beside=true) (ou_Beside:PySem.W.isFn K (.ref f0_Beside)=true) (ov_Beside:PySem.W.keepIn K (.ref C_Beside)=true) (dm0_Beside:Dm K "__init__" "Beside.__init__" a7Q f0_Beside)
 (na_Beside_parts:PySem.W.findIn K (.ref C_Beside) "parts"=some none)
 (on_Above:S6 K C_Above "Above"=true) (o1_Above:PySem.W.plainGet K C_Above Str.empty=true) (o2_Above:PySem.W.hasDictIn K C_Above=true) (o3_Above:PySem.W.plainOver K C_Above=true) (o4_Above:PySem.W.findIn K (.ref C_Above) "__setattr__"=some (some (.builtin "object.__setattr__")))
 (oi_Above:PySem.W.findIn K (.ref C_Above) "__init__"=some (some (.ref f0_Above))) (ow_Above:PySem.W.makesIn K C_Above=true) (ou_Above:PySem.W.isFn K (.ref f0_Above)=true) (ov_Above:PySem.W.keepIn K (.ref C_Above)=true) (dm0_Above:Dm K "__init__" "Above.__init__" a9U f0_Above)
 (na_Above_parts:PySem.W.findIn K (.ref C_Above) "parts"=some none)
 (on_Across:S6 K C_Across "Across"=true) (o1_Across:PySem.W.plainGet K C_Across Str.empty=true) (o2_Across:PySem.W.hasDictIn K C_Across=true) (o3_Across:PySem.W.plainOver K C_Across=true) (o4_Across:PySem.W.findIn K (.ref C_Across) "__setattr__"=some (some (.builtin "object.__setattr__")))
 (oi_Across:PySem.W.findIn K (.ref C_Across) "__init__"=some (some (.ref f0_Across))) (ow_Across:PySem.W.makesIn K C_Across=true) (ou_Across:PySem.W.isFn K (.ref f0_Across)=true) (ov_Across:PySem.W.keepIn K (.ref C_Across)=true) (dm0_Across:Dm K "__init__" "Across.__init__" a7P f0_Across)
 (na_Across_many:PySem.W.findIn K (.ref C_Across) "many"=some none)
 (na_Across_part:PySem.W.findIn K (.ref C_Across) "part"=some none)
 (on_Down:S6 K C_Down "Down"=true) (o1_Down:PySem.W.plainGet K C_Down Str.empty=true) (o2_Down:PySem.W.hasDictIn K C_Down=true) (o3_Down:PySem.W.plainOver K C_Down=true) (o4_Down:PySem.W.findIn K (.ref C_Down) "__setattr__"=some (some (.builtin "object.__setattr__")))
 (oi_Down:PySem.W.findIn K (.ref C_Down) "__init__"=some (some (.ref f0_Down))) (ow_Down:PySem.W.makesIn K C_Down=true) (ou_Down:PySem.W.isFn K (.ref f0_Down)=true) (ov_Down:PySem.W.keepIn K (.ref C_Down)=true) (dm0_Down:Dm K "__init__" "Down.__init__" b1K f0_Down)
 (na_Down_many:PySem.W.findIn K (.ref C_Down) "many"=some none)
 (na_Down_part:PySem.W.findIn K (.ref C_Down) "part"=some none)
 (on_Turned:S6 K C_Turned "Turned"=true) (o1_Turned:PySem.W.plainGet K C_Turned Str.empty=true) (o2_Turned:PySem.W.hasDictIn K C_Turned=true) (o3_Turned:PySem.W.plainOver K C_Turned=true) (o4_Turned:PySem.W.findIn K (.ref C_Turned) "__setattr__"=some (some (.builtin "object.__setattr__")))
 (oi_Turned:PySem.W.findIn K (.ref C_Turned) "__init__"=some (some (.ref f0_Turned))) (ow_Turned:PySem.W.makesIn K C_Turned=true) (ou_Turned:PySem.W.isFn K (.ref f0_Turned)=true) (ov_Turned:PySem.W.keepIn K (.ref C_Turned)=true) (dm0_Turned:Dm K "__init__" "Turned.__init__" a7R f0_Turned)
 (na_Turned_way:PySem.W.findIn K (.ref C_Turned) "way"=some none)
 (na_Turned_part:PySem.W.findIn K (.ref C_Turned) "part"=some none)
 (on_Dyed:S6 K C_Dyed "Dyed"=true) (o1_Dyed:PySem.W.plainGet K C_Dyed Str.empty=true) (o2_Dyed:PySem.W.hasDictIn K C_Dyed=true) (o3_Dyed:PySem.W.plainOver K C_Dyed=true) (o4_Dyed:PySem.W.findIn K (.ref C_Dyed) "__setattr__"=some (some (.builtin "object.__setattr__")))
 (oi_Dyed:PySem.W.findIn K (.ref C_Dyed) "__init__"=some (some (.ref f0_Dyed))) (ow_Dyed:PySem.W.makesIn K C_Dyed=true) (ou_Dyed:PySem.W.isFn K (.ref f0_Dyed)=true) (ov_Dyed:PySem.W.keepIn K (.ref C_Dyed)=true) (dm0_Dyed:Dm K "__init__" "Dyed.__init__" b1L f0_Dyed)
 (na_Dyed_one:PySem.W.findIn K (.ref C_Dyed) "one"=some none)
 (na_Dyed_other:PySem.W.findIn K (.ref C_Dyed) "other"=some none)
 (na_Dyed_part:PySem.W.findIn K (.ref C_Dyed) "part"=some none)
 (fi_Plain_deep:PySem.W.findIn K (.ref C_Plain) "deep"=some (some (.ref f_Motif_deep)))
 (fi_Named_deep:PySem.W.findIn K (.ref C_Named) "deep"=some (some (.ref f_Motif_deep)))
 (fi_Beside_deep:PySem.W.findIn K (.ref C_Beside) "deep"=some (some (.ref f_Motif_deep)))
 (fi_Above_deep:PySem.W.findIn K (.ref C_Above) "deep"=some (some (.ref f_Motif_deep)))
 (fi_Across_deep:PySem.W.findIn K (.ref C_Across) "deep"=some (some (.ref f_Motif_deep)))
 (fi_Down_deep:PySem.W.findIn K (.ref C_Down) "deep"=some (some (.ref f_Motif_deep)))
 (fi_Turned_deep:PySem.W.findIn K (.ref C_Turned) "deep"=some (some (.ref f_Motif_deep)))
 (fi_Dyed_deep:PySem.W.findIn K (.ref C_Dyed) "deep"=some (some (.ref f_Motif_deep)))
 (fi_Plain_inner:PySem.W.findIn K (.ref C_Plain) "inner"=some (some (.ref f_Motif_inner)))
 (fi_Named_inner:PySem.W.findIn K (.ref C_Named) "inner"=some (some (.ref f_Motif_inner)))
 (fi_Beside_inner:PySem.W.findIn K (.ref C_Beside) "inner"=some (some (.ref f_Beside_inner)))
 (fi_Above_inner:PySem.W.findIn K (.ref C_Above) "inner"=some (some (.ref f_Above_inner)))
 (fi_Across_inner:PySem.W.findIn K (.ref C_Across) "inner"=some (some (.ref f_Across_inner)))
 (fi_Down_inner:PySem.W.findIn K (.ref C_Down) "inner"=some (some (.ref f_Down_inner)))
 (fi_Turned_inner:PySem.W.findIn K (.ref C_Turned) "inner"=some (some (.ref f_Turned_inner)))
 (fi_Dyed_inner:PySem.W.findIn K (.ref C_Dyed) "inner"=some (some (.ref f_Dyed_inner)))
 (fi_Plain_text:PySem.W.findIn K (.ref C_Plain) "text"=some (some (.ref f_Plain_text)))
 (fi_Named_text:PySem.W.findIn K (.ref C_Named) "text"=some (some (.ref f_Named_text)))
 (fi_Beside_text:PySem.W.findIn K (.ref C_Beside) "text"=some (some (.ref f_Beside_text)))
 (fi_Above_text:PySem.W.findIn K (.ref C_Above) "text"=some (some (.ref f_Above_text)))
 (fi_Across_text:PySem.W.findIn K (.ref C_Across) "text"=some (some (.ref f_Across_text)))
 (fi_Down_text:PySem.W.findIn K (.ref C_Down) "text"=some (some (.ref f_Down_text)))
 (fi_Turned_text:PySem.W.findIn K (.ref C_Turned) "text"=some (some (.ref f_Turned_text)))
 (fi_Dyed_text:PySem.W.findIn K (.ref C_Dyed) "text"=some (some (.ref f_Dyed_text)))
 (r9:Dm K "text" "Plain.text" a1s f_Plain_text)
 (r8:Dm K "text" "Named.text" a1r f_Named_text)
 (v8:Dm K "text" "Above.text" X0 f_Above_text)
 (u7:Dm K "text" "Across.text" T7 f_Across_text)
 (u8:Dm K "text" "Beside.text" T8 f_Beside_text)
 (x9:Dm K "text" "Down.text" a0k f_Down_text)
 (y0:Dm K "text" "Dyed.text" a0l f_Dyed_text)
 (u9:Dm K "text" "Turned.text" T9 f_Turned_text)
 (J8:Dm K "inner" "Motif.inner" a0F f_Motif_inner)
 (K7:Dm K "inner" "Beside.inner" Z5 f_Beside_inner)
 (N1:Dm K "inner" "Above.inner" a0E f_Above_inner)
 (K6:Dm K "inner" "Across.inner" Z4 f_Across_inner)
 (Q1:Dm K "inner" "Down.inner" a1p f_Down_inner)
 (K8:Dm K "inner" "Turned.inner" Z6 f_Turned_inner)
 (Q2:Dm K "inner" "Dyed.inner" a1q f_Dyed_inner)
 (p9:Dm K "deep" "Motif.deep" X1 f_Motif_deep)
 (xa_NoCloth:PySem.W.nsIn K mainGlobals "NoCloth"=some (some (.ref C_NoCloth))) (xq_NoCloth:(S6 K C_NoCloth "NoCloth" && PySem.W.excIn K C_NoCloth a8y "ValueError.__new__")=true)
 (im_NoCloth_NoCloth:a9o K C_NoCloth C_NoCloth=true)
 (z_all:PySem.W.nsIn K mainGlobals "all"=some none)
 (z_int:PySem.W.nsIn K mainGlobals "int"=some none)
 (z_isinstance:PySem.W.nsIn K mainGlobals "isinstance"=some none)
 (z_len:PySem.W.nsIn K mainGlobals "len"=some none)
 (z_max:PySem.W.nsIn K mainGlobals "max"=some none)
 (z_min:PySem.W.nsIn K mainGlobals "min"=some none)
 (z_range:PySem.W.nsIn K mainGlobals "range"=some none)
 (z_str:PySem.W.nsIn K mainGlobals "str"=some none)
 (z_tuple:PySem.W.nsIn K mainGlobals "tuple"=some none)
 (e_LONGEST:PySem.W.nsIn K mainGlobals "LONGEST"=some (some uu_LONGEST)) (q_LONGEST:O1 K 40 uu_LONGEST=some X5)
 (e_MOST_FIGURES:PySem.W.nsIn K mainGlobals "MOST_FIGURES"=some (some uu_MOST_FIGURES)) (q_MOST_FIGURES:O1 K 40 uu_MOST_FIGURES=some R5)
 (e_LONGEST_WORD:PySem.W.nsIn K mainGlobals "LONGEST_WORD"=some (some uu_LONGEST_WORD)) (q_LONGEST_WORD:O1 K 40 uu_LONGEST_WORD=some R4)
 (e_WORDS:PySem.W.nsIn K mainGlobals "WORDS"=some (some uu_WORDS)) (q_WORDS:O1 K 40 uu_WORDS=some a5p)
 (e_TURNING:PySem.W.nsIn K mainGlobals "TURNING"=some (some uu_TURNING)) (q_TURNING:O1 K 40 uu_TURNING=some a02)
 (e_DEEPEST:PySem.W.nsIn K mainGlobals "DEEPEST"=some (some uu_DEEPEST)) (q_DEEPEST:O1 K 40 uu_DEEPEST=some a2O)
 (e_MOST_PARTS:PySem.W.nsIn K mainGlobals "MOST_PARTS"=some (some uu_MOST_PARTS)) (q_MOST_PARTS:O1 K 40 uu_MOST_PARTS=some R6)
 (e_MOST_TIMES:PySem.W.nsIn K mainGlobals "MOST_TIMES"=some (some uu_MOST_TIMES)) (q_MOST_TIMES:O1 K 40 uu_MOST_TIMES=some X2)
 :∃fd:FuncData,(∀(s:AC) (v:AA),BindsTo s fd ⟨[v],[]⟩ [("_law_script",v)])∧∀base:Heap,K.In base→base.Ns mainGlobals mg→M8 l.prog w K mg base CX0 47 fa fd ["_law_script"] (a9X K):=by
 have x_NoCloth:XC K mg "NoCloth" C_NoCloth:=b9k X G xa_NoCloth xq_NoCloth
 have M:MoB K mg:=⟨PySem.W.mg_none_of X G z_all,PySem.W.mg_none_of X G z_int,PySem.W.mg_none_of X G z_isinstance,PySem.W.mg_none_of X G z_len,PySem.W.mg_none_of X G z_max,PySem.W.mg_none_of X G z_min,PySem.W.mg_none_of X G z_range,PySem.W.mg_none_of X G z_str,PySem.W.mg_none_of X G z_tuple⟩
 have mm_LONGEST:=PySem.W.mg_of X G e_LONGEST
 have mm_MOST_FIGURES:=PySem.W.mg_of X G e_MOST_FIGURES
 have mm_LONGEST_WORD:=PySem.W.mg_of X G e_LONGEST_WORD
 have mm_WORDS:=PySem.W.mg_of X G e_WORDS
 have mm_TURNING:=PySem.W.mg_of X G e_TURNING
 have mm_DEEPEST:=PySem.W.mg_of X G e_DEEPEST
 have mm_MOST_PARTS:=PySem.W.mg_of X G e_MOST_PARTS
 have mm_MOST_TIMES:=PySem.W.mg_of X G e_MOST_TIMES
 have kc_Plain:KC K "Plain" C_Plain:=a4N oa_Plain on_Plain o1_Plain o2_Plain o3_Plain o4_Plain
 have kc_Named:KC K "Named" C_Named:=a4N oa_Named on_Named o1_Named o2_Named o3_Named o4_Named
 have kc_Beside:KC K "Beside" C_Beside:=a4N oa_Beside on_Beside o1_Beside o2_Beside o3_Beside o4_Beside
 have kc_Above:KC K "Above" C_Above:=a4N oa_Above on_Above o1_Above o2_Above o3_Above o4_Above
 have kc_Across:KC K "Across" C_Across:=a4N oa_Across on_Across o1_Across o2_Across o3_Across o4_Across
 have kc_Down:KC K "Down" C_Down:=a4N oa_Down on_Down o1_Down o2_Down o3_Down o4_Down
 have kc_Turned:KC K "Turned" C_Turned:=a4N oa_Turned on_Turned o1_Turned o2_Turned o3_Turned o4_Turned
 have kc_Dyed:KC K "Dyed" C_Dyed:=a4N oa_Dyed on_Dyed o1_Dyed o2_Dyed o3_Dyed o4_Dyed
 obtain⟨a,ha⟩:∃a:Ad,a=⟨C_Plain,C_Named,C_Beside,C_Above,C_Across,C_Down,C_Turned,C_Dyed,f_Plain_text,f_Named_text,f_Above_text,f_Across_text,f_Beside_text,f_Down_text,f_Dyed_text,f_Turned_text,f_Motif_inner,f_Beside_inner,f_Above_inner,f_Across_inner,f_Down_inner,f_Turned_inner,f_Dyed_inner,f_Motif_deep⟩:=⟨_,rfl⟩
 have O:Oc K mg a:=by
  rw [ha]
  exact⟨kc_Plain,kc_Named,kc_Beside,kc_Above,kc_Across,kc_Down,kc_Turned,kc_Dyed,fi_Plain_deep,fi_Named_deep,fi_Beside_deep,fi_Above_deep,fi_Across_deep,fi_Down_deep,fi_Turned_deep,fi_Dyed_deep,fi_Plain_inner,fi_Named_inner,fi_Beside_inner,fi_Above_inner,fi_Across_inner,fi_Down_inner,fi_Turned_inner,fi_Dyed_inner,fi_Plain_text,fi_Named_text,fi_Beside_text,fi_Above_text,fi_Across_text,fi_Down_text,fi_Turned_text,fi_Dyed_text,na_Plain_rows,na_Named_name,na_Beside_parts,na_Above_parts,na_Across_many,na_Across_part,na_Down_many,na_Down_part,na_Turned_way,na_Turned_part,na_Dyed_one,na_Dyed_other,na_Dyed_part⟩
 refine b5x (b8A.to X G) hfa (fun _ _ _ _ _ _ _=>rfl) main fun base f fd kb F=> ?_
 have i_Above:B4 l.prog w K mg base "Above" ["parts"] 1:=U6 (k:=0) dm0_Above b2I rfl kc_Above (PySem.W.mg_of X G oa_Above) ⟨ow_Above,oi_Above,ou_Above,ov_Above⟩ (C0 na_Above_parts (fun _ h=>nomatch h)) (by decide+kernel) (by decide) (fun _ _ _ _ _ _=>el2 (fun _ _=>rfl)) fun cdv A outer s H E hr=>(C3 (S7 (pv 0) (pv 1) rfl) W9)
 have i_Across:B4 l.prog w K mg base "Across" ["many","part"] 1:=U6 (k:=0) dm0_Across b0V rfl kc_Across (PySem.W.mg_of X G oa_Across) ⟨ow_Across,oi_Across,ou_Across,ov_Across⟩ (C0 na_Across_many (C0 na_Across_part (fun _ h=>nomatch h))) (by decide+kernel) (by decide) (fun _ _ _ _ _ _=>el3 (fun _ _ _=>rfl)) fun cdv A outer s H E hr=>(C3 (S7 (pv 0) (pv 1) rfl) (C3 (S7 (pv 0) (pv 2) rfl) W9))
 have i_Beside:B4 l.prog w K mg base "Beside" ["parts"] 1:=U6 (k:=0) dm0_Beside b0W rfl kc_Beside (PySem.W.mg_of X G oa_Beside) ⟨ow_Beside,oi_Beside,ou_Beside,ov_Beside⟩ (C0 na_Beside_parts (fun _ h=>nomatch h)) (by decide+kernel) (by decide) (fun _ _ _ _ _ _=>el2 (fun _ _=>rfl)) fun cdv A outer s H E hr=>(C3 (S7 (pv 0) (pv 1) rfl) W9)
 have i_Down:B4 l.prog w K mg base "Down" ["many","part"] 1:=U6 (k:=0) dm0_Down b4B rfl kc_Down (PySem.W.mg_of X G oa_Down) ⟨ow_Down,oi_Down,ou_Down,ov_Down⟩ (C0 na_Down_many (C0 na_Down_part (fun _ h=>nomatch h))) (by decide+kernel) (by decide) (fun _ _ _ _ _ _=>el3 (fun _ _ _=>rfl)) fun cdv A outer s H E hr=>(C3 (S7 (pv 0) (pv 1) rfl) (C3 (S7 (pv 0) (pv 2) rfl) W9))
 have i_Dyed:B4 l.prog w K mg base "Dyed" ["one","other","part"] 1:=U6 (k:=0) dm0_Dyed b4C rfl kc_Dyed (PySem.W.mg_of X G oa_Dyed) ⟨ow_Dyed,oi_Dyed,ou_Dyed,ov_Dyed⟩ (C0 na_Dyed_one (C0 na_Dyed_other (C0 na_Dyed_part (fun _ h=>nomatch h)))) (by decide+kernel) (by decide) (fun _ _ _ _ _ _=>el4 (fun _ _ _ _=>rfl)) fun cdv A outer s H E hr=>(C3 (S7 (pv 0) (pv 1) rfl) (C3 (S7 (pv 0) (pv 2) rfl) (C3 (S7 (pv 0) (pv 3) rfl) W9)))
 have i_Named:B4 l.prog w K mg base "Named" ["name"] 1:=U6 (k:=0) dm0_Named b2J rfl kc_Named (PySem.W.mg_of X G oa_Named) ⟨ow_Named,oi_Named,ou_Named,ov_Named⟩ (C0 na_Named_name (fun _ h=>nomatch h)) (by decide+kernel) (by decide) (fun _ _ _ _ _ _=>el2 (fun _ _=>rfl)) fun cdv A outer s H E hr=>(C3 (S7 (pv 0) (pv 1) rfl) W9)
 have i_Plain:B4 l.prog w K mg base "Plain" ["rows"] 1:=U6 (k:=0) dm0_Plain b2K rfl kc_Plain (PySem.W.mg_of X G oa_Plain) ⟨ow_Plain,oi_Plain,ou_Plain,ov_Plain⟩ (C0 na_Plain_rows (fun _ h=>nomatch h)) (by decide+kernel) (by decide) (fun _ _ _ _ _ _=>el2 (fun _ _=>rfl)) fun cdv A outer s H E hr=>(C3 (S7 (pv 0) (pv 1) rfl) W9)
 have i_Turned:B4 l.prog w K mg base "Turned" ["way","part"] 1:=U6 (k:=0) dm0_Turned b0X rfl kc_Turned (PySem.W.mg_of X G oa_Turned) ⟨ow_Turned,oi_Turned,ou_Turned,ov_Turned⟩ (C0 na_Turned_way (C0 na_Turned_part (fun _ h=>nomatch h))) (by decide+kernel) (by decide) (fun _ _ _ _ _ _=>el3 (fun _ _ _=>rfl)) fun cdv A outer s H E hr=>(C3 (S7 (pv 0) (pv 1) rfl) (C3 (S7 (pv 0) (pv 2) rfl) W9))
 have b1U:=b0K l.prog w base (a4l.to X G)
 have a70:=a7a l.prog w base (a1c.to X G)
 have a40:=a4y l.prog w base (V2.to X G) M
 have a7e:=b0L l.prog w base (a0R.to X G) M
 have a0o:=a6m l.prog w base (B1.to X G) a7e
 have a4Z:=a4x l.prog w base (V1.to X G) M mm_LONGEST_WORD q_LONGEST_WORD a0o
 have b1T:=b0I l.prog w base (a0Q.to X G) mm_WORDS q_WORDS a4Z
 have b2R:=b2x l.prog w base (a5E.to X G) M mm_LONGEST q_LONGEST
 have a93:=a9I l.prog w base (a3i.to X G) M mm_LONGEST q_LONGEST b2R
 have a71:=a7b l.prog w base (a1d.to X G) M kb x_NoCloth a93
 have a94:=a9L l.prog w base (Y2.to X G) i_Plain x_NoCloth im_NoCloth_NoCloth a71
 have a2V:=a6l l.prog w base (N2.to X G) a7e
 have a8Y:=a8C l.prog w base (a12.to X G) M mm_MOST_FIGURES q_MOST_FIGURES a2V
 have a4e:=a30 l.prog w base (S1.to X G) a8Y
 have a8Z:=a8D l.prog w base (U3.to X G) mm_MOST_TIMES q_MOST_TIMES a2V a4e
 have a5u:=a48 l.prog w base (G1.to X G) a0o
 obtain⟨D_dyed_at,D_laid_at,D_last_part_at,D_made_of_parts_at,a03,D_parts_at,D_repeated_at,D_turned_at⟩:=a9H l.prog w base (d_dyed_at.to X G) (d_laid_at.to X G) (d_last_part_at.to X G) (d_made_of_parts_at.to X G) (A9.to X G) (d_parts_at.to X G) (d_repeated_at.to X G) (d_turned_at.to X G) M i_Above i_Across i_Beside i_Down i_Dyed i_Named i_Turned mm_MOST_PARTS q_MOST_PARTS mm_TURNING q_TURNING a5u a0o b1T a94 a8Z 40
 have a72:=a7c l.prog w base (L5.to X G) M mm_DEEPEST q_DEEPEST a03
 have a8X:=a8B l.prog w base (a11.to X G)
 have a6Q:=a6o l.prog w base (a0w.to X G)
 have a3w:=a69 l.prog w base a (mg:=mg) (by rw [ha];exact r9) O a6Q
 have a3v:=a68 l.prog w base a (mg:=mg) (by rw [ha];exact r8) O
 obtain⟨W0,T2,T3,a0d,a0e,T4,D_written_parts⟩:=a6e l.prog w base a (by rw [ha];exact v8) (by rw [ha];exact u7) (by rw [ha];exact u8) (by rw [ha];exact x9) (by rw [ha];exact y0) (by rw [ha];exact u9) (d_written_parts.to X G) M O a3w a3v 20
 have a6P:=a6j l.prog w base a (mg:=mg) (by rw [ha];exact J8)
 have a5s:=a46 l.prog w base a (mg:=mg) (by rw [ha];exact K7) O
 have a6O:=a6g l.prog w base a (mg:=mg) (by rw [ha];exact N1) O
 have a5r:=a45 l.prog w base a (mg:=mg) (by rw [ha];exact K6) O
 have a7Y:=a65 l.prog w base a (mg:=mg) (by rw [ha];exact Q1) O
 have a5t:=a47 l.prog w base a (mg:=mg) (by rw [ha];exact K8) O
 have a7Z:=a66 l.prog w base a (mg:=mg) (by rw [ha];exact Q2) O
 obtain W1:=a6f l.prog w base a (by rw [ha];exact p9) M O a6P a5s a6O a5r a7Y a5t a7Z 12
 exact b7G l.prog w base a F M O b1U a70 a40 a72 a8X a3w a3v T3 W0 T2 a0d T4 a0e W1
end LW
namespace PySem.W.Fast
def tw16391764826097164095:=()
def tw17050012017122949482:=()
def tw14975237495143476282:=()
def tw12263590608367263805:=()
def tw9767518726334429086:=()
def tw9608878449764496034:=()
def tw7405458090396983184:=()
def tw6356042752843738763:=()
def tw9743827741239067674:=()
def tw528409570136698267:=()
def tw9580333971781247384:=()
def tw10377060867406611621:=()
def tw8820724851098069290:=()
def tw15501664314402333558:=()
def tw6116082131463262522:=()
def tw2360120537535474647:=()
def tw17841148005169107977:=()
def tw12721924084675807854:=()
def tw10946934075273562523:=()
def tw17192347287155786718:=()
def tw6155526555343740715:=()
def tw6352216674706790538:=()
def tw5245538546567201453:=()
def tw16206979627406247554:=()
def tw5781777593758157116:=()
def tw7200148751051609379:=()
def tw1858558396618112142:=()
def tw11190331285022172754:=()
def tw2229815197007358428:=()
def tw13856976010937830402:=()
def tw6115538296476932011:=()
def tw15442120328192707826:=()
def tw4038974653554537040:=()
def tw16586336765425944096:=()
def tw15560506071776380001:=()
def tw16925630149230029801:=()
def tw2085328647228966856:=()
def tw8804496438467484761:=()
def tw11514867820543190730:=()
def tw4212309168911949618:=()
def tw16432964838661668298:=()
def tw12788058618419805175:=()
def tw2520960544632080211:=()
def tw7223311290463946622:=()
def tw14801036353568067648:=()
def tw5209825609296295999:=()
def tw4695157383258480379:=()
def tw7846035220723739264:=()
def tw18305369723272748593:=()
def tw11489918195749311713:=()
def tw10965067109674496784:=()
def tw11162764945062021037:=()
def tw14964875923163723489:=()
def tw13046077113515030844:=()
def tw17500623202770283663:=()
def tw9828879810644434140:=()
def tw3781026618991054099:=()
def tw6808684679727206791:=()
def tw8513727415489611992:=()
def tw3442202571729525098:=()
def tw4880664658584448889:=()
def tw7630013392459174113:=()
def tw8186246039027687951:=()
def tw4420052346538354824:=()
def tw1905821759163742677:=()
def tw10911777792643549497:=()
def tw13619490403546685551:=()
def tw10428342506040967215:=()
def tw15745813864471185472:=()
def tw15045973806990569864:=()
def tw11286348827023033953:=()
def tw16800212253460055059:=()
def tw12271499379037365218:=()
def tw10060503010300579468:=()
def tw10970409991996643411:=()
def tw18384663868340721674:=()
def tw6830931385435419618:=()
def tw3730299514905511846:=()
def tw6479015214942135494:=()
def tw17851920631654565547:=()
def tw17927183558150453042:=()
def tw12756258959819561521:=()
def tw7549433882626911088:=()
def tw6700372675431982747:=()
def tw13704834142460667229:=()
def tw14917401497253451438:=()
def tw916417786543317714:=()
def tw11847439083079584198:=()
def tw3253962009764031784:=()
def tw7441689557137691326:=()
def tw16409719006549444689:=()
def tw12806768960284468611:=()
def tw9917655492589947573:=()
def tw879561258259428253:=()
def tw1250694909110843323:=()
def tw4875913889682276347:=()
def tw4403101265800411821:=()
def tw15298588802371381454:=()
def tw9916638757997612287:=()
def tw5065726310648075420:=()
def tw6991928417653973279:=()
def tw5157287425619991044:=()
def tw3610859542347767720:=()
def tw3959966952688548264:=()
def tw4354168181251008767:=()
def tw2789480418980745133:=()
def tw10178183699198387952:=()
def tw10516225588191124820:=()
def tw14935436057773707579:=()
def tw8026030311671962489:=()
def tw13268183592322552419:=()
def tw12776889379684426783:=()
def tw867974560043227293:=()
def tw18345725909002317860:=()
def tw14973788491360262137:=()
def tw1020375368458941761:=()
def tw2573832763058383706:=()
def tw11372313954292622534:=()
def tw6131221078988464993:=()
def tw2850118694501768841:=()
def tw9549541664299055066:=()
def tw18033076157031553092:=()
def tw9672635668255295703:=()
def tw3498532236778095486:=()
def tw2103106810396007904:=()
def tw1683234114220903810:=()
def tw13435220106524317735:=()
def tw10586012241963251203:=()
def tw13183403137118379524:=()
def tw8371836459249791564:=()
def tw11510857081363662678:=()
def tw9468247004858334378:=()
def tw13659306707622528768:=()
def tw1872570146376342025:=()
def tw5822345235558364370:=()
def tw9471984633317571799:=()
def tw9100375107292740141:=()
def tw15836482680028518275:=()
def tw134643872113369377:=()
def tw5886594921325215882:=()
def tw1650716215216842236:=()
def tw8059597288181012984:=()
def tw17385250256624437667:=()
def tw15157814336874538102:=()
def tw7730854376170239912:=()
def tw6177627368954532552:=()
def tw18397683886653493740:=()
def tw4395483360610324417:=()
def tw5520267924943399736:=()
def tw2525354295892245009:=()
def tw1288507344808703848:=()
def tw9845743124679093670:=()
def tw567361761737921688:=()
def tw17399750396985972791:=()
def tw1455860557701394768:=()
def tw3601048753025205179:=()
def tw16257222689669790904:=()
def tw10934620189401832103:=()
def tw15409546551348410226:=()
def tw6891019693087006903:=()
def tw1686554326631105757:=()
def tw14808710687601762154:=()
def tw14798867438010117214:=()
def tw4719813293043136548:=()
def tw13691133981730864259:=()
def tw12337441657625269557:=()
def tw3308447656515975757:=()
def tw11385809312361744007:=()
def tw3745563546185296788:=()
def tw10261548703069099062:=()
def tw2748033800930095325:=()
def tw6187099748691283746:=()
def tw13190037313560263512:=()
def tw8083922844309990138:=()
def tw16918794618181146232:=()
def tw4677150442049608959:=()
def tw17892575641738824840:=()
def tw12655863119998720704:=()
def tw3967980452771500247:=()
def tw13882855647659846526:=()
def tw13800020563867443613:=()
def tw12751187279482093117:=()
def tw11923934823976442533:=()
def tw9740404685437919048:=()
def tw8769109996210910142:=()
def tw13598527712517964473:=()
def tw3259440564714017764:=()
def tw12173731570523103718:=()
def tw5692207360128714452:=()
def tw7589383167535214189:=()
def tw5009765916921131496:=()
def tw2680790370511377085:=()
def tw13966057042544334010:=()
def tw17543248216685677825:=()
def tw8481396770172606096:=()
def tw17437444439590502852:=()
def tw10892335054530576062:=()
def tw1597372416800647514:=()
def tw11394705363067979345:=()
def tw2855268343345553178:=()
def tw13164049907220546834:=()
def tw2966435745021443760:=()
def tw1158902561160480374:=()
def tw8202084395461769321:=()
def tw1239918247141837471:=()
def tw5315116430441816594:=()
def tw13148441093314242801:=()
def tw16047517394749151980:=()
def tw10154858184150826970:=()
def tw3142990117345813711:=()
def tw3530220628999617430:=()
def tw8204451163788357479:=()
def tw1059643387529611580:=()
def tw4913686530554548359:=()
def tw5288304821531792221:=()
def tw8363437192444961242:=()
def tw1299696193627655409:=()
def tw7591166488716992645:=()
def tw16725448488665844815:=()
def tw16619724425047721112:=()
def tw16733629628517597885:=()
def tw15531060668296113521:=()
def tw17930367155881284557:=()
def tw5180631188212418239:=()
def tw8615879681720246758:=()
def tw13172298704788415165:=()
def tw16881161318607238911:=()
def tw17529588287493770677:=()
def tw16537659719575877852:=()
def tw4299792970339633425:=()
def tw10948100204755626893:=()
def tw6963350096959416966:=()
def tw11733674680119091703:=()
def tw15450464484939148582:=()
def tw14211578549744197787:=()
def tw11701177005154784294:=()
def tw10423049752485746380:=()
def tw7956518873800119215:=()
def tw15264186745602767223:=()
def tw3134333390223491396:=()
def tw14481982258299067609:=()
def tw593912107203870637:=()
def tw11808089327235792756:=()
def tw14269212357014184025:=()
def tw730061588191561149:=()
def tw2108561725141114125:=()
def tw10748048244391622056:=()
def tw8410277469144763328:=()
def tw2230119234872823091:=()
def tw3125597806128551280:=()
def tw7320452709300647360:=()
def tw1119748183504023536:=()
def tw18153846867966667007:=()
def tw15978114456396965660:=()
def tw7978071284224279218:=()
def tw16437080195170928021:=()
def tw5156695337451847937:=()
def tw9396869444838502941:=()
def tw122457396830442845:=()
def tw7360086157214252633:=()
end PySem.W.Fast
open PySem PySem.W PyProof.Rows
set_option maxRecDepth 100000 in
set_option maxHeartbeats 0 in
theorem PySem.Challenge.cw_carpetkin_k22_texts_of_no_motif_holds : PySem.Challenge.rw_carpetkin_k22_texts_of_no_motif.Holds := by
 w_on;o_law;k_head;(case hw=>w_witness2)
 k_fill
 refine PU.b9j (k:=47) (x:="_law_script") (l:=PySem.Challenge.rw_carpetkin_k22_texts_of_no_motif) (by decide) rfl rfl (fun w h Y=>PySem.W.kIn_of Y) ?F
 case F=>
  intro w mg fa h KX G hmg
  refine' LW.b6W KX G hmg ?_ ?_ ?_ ?_ ?_ ?_ ?_ ?_ ?_ ?_ ?_ ?_ ?_ ?_ ?_ ?_ ?_ ?_ ?_ ?_ ?_ ?_ ?_ ?_ ?_ ?_ ?_ ?_ ?_ ?_ ?_ ?_ ?_ ?_ ?_ ?_ ?_ ?_ ?_ ?_ ?_ ?_ ?_ ?_ ?_ ?_ ?_ ?_ ?_ ?_ ?_ ?_ ?_ ?_ ?_ ?_ ?_ ?_ ?_ ?_ ?_ ?_ ?_ ?_ ?_ ?_ ?_ ?_ ?_ ?_ ?_ ?_ ?_ ?_ ?_ ?_ ?_ ?_ ?_ ?_ ?_ ?_ ?_ ?_ ?_ ?_ ?_ ?_ ?_ ?_ ?_ ?_ ?_ ?_ ?_ ?_ ?_ ?_ ?_ ?_ ?_ ?_ ?_ ?_ ?_ ?_ ?_ ?_ ?_ ?_ ?_ ?_ ?_ ?_ ?_ ?_ ?_ ?_ ?_ ?_ ?_ ?_ ?_ ?_ ?_ ?_ ?_ ?_ ?_ ?_ ?_ ?_ ?_ ?_ ?_ ?_ ?_ ?_ ?_ ?_ ?_ ?_ ?_ ?_ ?_ ?_ ?_ ?_ ?_ ?_ ?_ ?_ ?_ ?_ ?_ ?_ ?_ ?_ ?_ ?_ ?_ ?_ ?_ ?_ ?_ ?_ ?_ ?_ ?_ ?_ ?_ ?_ ?_ ?_ ?_ ?_ ?_ ?_ ?_ ?_ ?_ ?_ ?_ ?_ ?_ ?_ ?_ ?_ ?_ ?_ ?_ ?_ ?_ ?_ ?_ ?_ ?_ ?_
  all_goals first|(apply PU.b8B<;>k_is)|(apply PU.b8C<;>first|k_is|kernel_rfl)|k_is|kernel_rfl|skip
