import PyProof.Rows.All
import Wide.All
import OpenK.AllK
import Wide.FinOn
import Lean
import PyProof.EqAt
import PyProof.EqKinds
import PyProof.TupleCall
import PyProof.Rows.SortPure
import PyProof.Rows.SortWalk
import PyProof.AttrMissHeap
import KE.KDictOf
import KE.KIntText
import PyProof.StrBlockH
import PyProof.CallStr
import PyProof.StrLawsIn
import PyProof.StrLawsOcc
import PyProof.StationsW
import PyProof.ExcClass2
import PyProof.ExcBaseAll.ValueError
import PyProof.ExcInit
import PyProof.InstStore
import OpenK.KOwn
import OpenK.KMake
import PyProof.InstStoreFacts
import PyProof.ExcAttrAll.ValueError
import OpenK.KCls
import PyProof.RulesTry
import PyProof.Rows.CatchBare
import PyProof.Rows.CatchOwn
import PyProof.NsDelKeeps
import PyProof.Rows.RuleDivmod
import PyProof.Rows.SumAny
import PyProof.Rows.TupAdd
import PySem.Challenge.RW_carpetkin_k84_all_forms
set_option Elab.async false
set_option linter.all false
set_option maxRecDepth 100000
noncomputable section
open PySem renaming Value -> AA
open PySem renaming Addr -> AB
open PySem renaming Shared -> AC
open PySem renaming wpAny_bind -> AD
open PySem.W renaming Frag -> AE
open PySem renaming wpAny -> AF
open PySem renaming Expr -> AG
open PySem renaming World -> AH
open PySem renaming wpAny_pure -> AI
open PySem renaming Program -> AJ
open Option renaming bind_some -> AK
open PySem renaming Around -> AL
open PySem.Str renaming ofString -> AM
open PySem renaming sizeLine -> AN
open Nat renaming le_refl -> AO
open PySem renaming starEach -> AQ
open List renaming map_cons -> AR
open List renaming range -> AS
open List renaming length_cons -> AT
open PySem.Heap renaming get?_push_of_some -> AU
open List renaming replicate -> AV
open List renaming length_map -> AW
open PySem.Heap renaming lt_size -> AX
open List renaming set_cons_zero -> AY
open List renaming set_cons_succ -> AZ
open List renaming replicate_succ -> Aa
open List renaming mem_cons -> Ab
open Bool renaming false_eq_true -> Ac
open List renaming mem_cons_self -> Ad
open List renaming replicate_zero -> Ae
open List renaming mem_cons_of_mem -> Af
open List renaming nil_append -> Ag
open List renaming cons_append -> Ah
open Nat renaming ne_of_lt -> Ai
open List renaming length_nil -> Aj
open List renaming map_nil -> Ak
open List renaming append_nil -> Al
open List renaming size_toArray -> Am
open List renaming mem_map -> An
open List renaming length_append -> Ao
open PySem.Heap renaming get?_push_size -> Aq
open List renaming getElem?_eq_getElem -> Ar
open List renaming map_map -> As
open List renaming length_range -> At
open Nat renaming reduceLeDiff -> Au
open List renaming getElem?_eq_some_iff -> Av
open List renaming getElem?_map -> Aw
open Nat renaming lt_of_lt_of_le -> Ax
open List renaming mem_append -> Ay
open Bool renaming false_ne_true -> Az
open List renaming mem_append_right -> BA
open List renaming mem_of_getElem? -> BB
open List renaming getElem?_append_left -> BC
open Option renaming map_some -> BD
open Nat renaming le_of_lt -> BE
open List renaming mem_append_left -> BF
open List renaming map_append -> BG
open Int renaming toNat_natCast -> BH
namespace L2
open PySem PySem.Spec PyProof.Rows
theorem p9{α β γ:Type _}{p q r:α->β->γ->Prop}{C:Prop}(h:∃a b c,p a b c/\q a b c/\r a b c)(k:∀a b c,p a b c->q a b c->r a b c->C):C:=
 h.elim fun a h=>h.elim fun b h=>h.elim fun c h=>k a b c h.1 h.2.1 h.2.2
theorem j8{α β:Type _}{p q r:α->β->Prop}{C:Prop}(h:∃a b,p a b/\q a b/\r a b)(k:∀a b,p a b->q a b->r a b->C):C:=
 h.elim fun a h=>h.elim fun b h=>k a b h.1 h.2.1 h.2.2
theorem a3b{α β:Type _}{p q r s:α->β->Prop}{C:Prop}(h:∃a b,p a b/\q a b/\r a b/\s a b)(k:∀a b,p a b->q a b->r a b->s a b->C):C:=
 h.elim fun a h=>h.elim fun b h=>k a b h.1 h.2.1 h.2.2.1 h.2.2.2
abbrev g9:=Sum Int Str
def a3V:g9->AA->Bool
 | .inl k,v=>Value.isInt k v
 | .inr x,v=>Value.isStrOf x v
def b1f(w:AH):g9->Int
 | .inl k=>hashInt k
 | .inr x=>hashStr w x
theorem n5:∀{k:g9} {v:AA},a3V k v=true->(∃i t,k=Sum.inl i/\v=Value.int i t)\/(∃x t,k=Sum.inr x/\v=Value.str x t)
 | .inl i,v,h=>by
   obtain⟨t,e⟩:=Value.isInt_shape (k:=i) (v:=v) h
   exact .inl ⟨i,t,rfl,e⟩
 | .inr x,v,h=>by
   obtain⟨t,e⟩:=Value.isStrOf_shape (x:=x) (v:=v) h
   exact .inr ⟨x,t,rfl,e⟩
theorem b1g(i:Int)(t:Tok):a3V (.inl i) (.int i t)=true:=by simp [a3V,Value.isInt]
theorem b1h(x:Str)(t:Tok):a3V (.inr x) (.str x t)=true:=by simp [a3V,Value.isStrOf]
theorem b2W(a b:Int):decide ((Sum.inl a:g9)=Sum.inl b)=(a==b):=by
 by_cases e:a=b
 ·subst e;simp
 ·have h:¬(Sum.inl a:g9)=Sum.inl b:=fun q=>e (Sum.inl.inj q)
  rw [decide_eq_false h]
  exact(beq_eq_false_iff_ne.mpr e).symm
theorem b2X(a b:Str):decide ((Sum.inr a:g9)=Sum.inr b)=decide (a=b):=by
 by_cases e:a=b
 ·subst e;simp
 ·have h:¬(Sum.inr a:g9)=Sum.inr b:=fun q=>e (Sum.inr.inj q)
  rw [decide_eq_false h,decide_eq_false e]
theorem b7f(a:Int)(b:Str):decide ((Sum.inl a:g9)=Sum.inr b)=false:=decide_eq_false (fun q=>nomatch q)
theorem b7g(a:Str)(b:Int):decide ((Sum.inr a:g9)=Sum.inl b)=false:=decide_eq_false (fun q=>nomatch q)
def l8(prog:AJ)(w:AH):PySem.KeyKind prog w g9 where
 is:=a3V
 hash:=b1f w
 inj:=fun v a b ha hb=>by
  rcases n5 ha with⟨i,t,rfl,rfl⟩|⟨x,t,rfl,rfl⟩
  ·rcases n5 hb with⟨j,u,rfl,e⟩|⟨y,u,rfl,e⟩
   ·injection e with e1 _;rw [e1]
   ·exact nomatch e
  ·rcases n5 hb with⟨j,u,rfl,e⟩|⟨y,u,rfl,e⟩
   ·exact nomatch e
   ·injection e with e1 _;rw [e1]
 byValue:=fun k v h=>by
   rcases n5 h with⟨i,t,rfl,rfl⟩|⟨x,t,rfl,rfl⟩<;>rfl
 pyHash:=fun hv h=>by
  rcases n5 hv with⟨i,t,rfl,rfl⟩|⟨x,t,rfl,rfl⟩
  ·exact wpAny_pyHash_int h
  ·exact wpAny_pyHash_str h
 eqBool:=fun hu hv h=>by
  rcases n5 hu with⟨i,t,rfl,rfl⟩|⟨x,t,rfl,rfl⟩
  ·rcases n5 hv with⟨j,u,rfl,rfl⟩|⟨y,u,rfl,rfl⟩
   ·rw [b2W] at h;exact wpAny_eqBool_int h
   ·rw [b7f] at h;exact SeqAt.EqAt.int_str i t y u _ _ _ _ h
  ·rcases n5 hv with⟨j,u,rfl,rfl⟩|⟨y,u,rfl,rfl⟩
   ·rw [b7g] at h;exact SeqAt.EqAt.str_int x t j u _ _ _ _ h
   ·rw [b2X] at h;exact wpAny_eqBool_str h
 «strs»:=fun k x t v h=>by
  rcases n5 h with⟨i,u,rfl,e⟩|⟨y,u,rfl,e⟩
  ·exact nomatch e
  ·injection e with e1 _
   subst e1
   cases v<;>rfl
theorem a2M(prog:AJ)(w:AH)(i:Int)(t:Tok):(l8 prog w).is (.inl i) (.int i t)=true:=b1g i t
theorem a2N(prog:AJ)(w:AH)(x:Str)(t:Tok):(l8 prog w).is (.inr x) (.str x t)=true:=b1h x t
inductive V where
 |non|bl (b:Bool)|int (i:Int)|str (x:Str)|byt (b:Array UInt8)|flt (b:UInt64)|ref (a:AB)|ty (n:String)
 deriving DecidableEq
def j6:V->AA->Prop
 | .non,u=>u=Value.none
 | .bl b,u=>u=Value.bool b
 | .int i,u=>∃t,u=Value.int i t
 | .str x,u=>∃t,u=Value.str x t
 | .byt b,u=>∃t,u=Value.bytes b t
 | .flt b,u=>∃t,u=Value.float b t
 | .ref a,u=>u=Value.ref a
 | .ty n,u=>u=Value.type n
abbrev j3:List V->List AA->Prop:=Paired j6
theorem j3.length{xs:List V}{us:List AA}(r:j3 xs us):xs.length=us.length:=Paired.length r
theorem j3.get:∀{xs:List V} {us:List AA} {i:Nat} {x:V},j3 xs us->xs[i]?=some x->∃u,us[i]?=some u/\j6 x u
 |_,_,_,_,.nil,e=>by simp at e
 |_,_,0,_,.cons r _,e=>by simp at e;subst e;exact⟨_,rfl,r⟩
 |_,_,i+1,x,.cons _ t,e=>by
  obtain⟨u,h1,h2⟩:=j3.get (i:=i) (x:=x) t (by simpa using e)
  exact⟨u,by simpa using h1,h2⟩
theorem j3.append:∀{xs ys:List V} {us ws:List AA},j3 xs us->j3 ys ws->j3 (xs++ys) (us++ws)
 |_,_,_,_,.nil,s=>s
 |_,_,_,_,.cons r t,s=> .cons r (j3.append t s)
theorem j3.take:∀{xs:List V} {us:List AA} (n:Nat),j3 xs us->j3 (xs.take n) (us.take n)
 |_,_,0,_=> .nil
 |_,_,_+1,.nil=> .nil
 |_,_,n+1,.cons r t=> .cons r (j3.take n t)
theorem j3.drop:∀{xs:List V} {us:List AA} (n:Nat),j3 xs us->j3 (xs.drop n) (us.drop n)
 |_,_,0,r=>r
 |_,_,_+1,.nil=> .nil
 |_,_,n+1,.cons _ t=>j3.drop n t
def a1E:Option V->Option AA->Prop
 |some v,some u=>j6 v u
 |none,none=>True
 |_,_=>False
def KV{κ:Type}:List (κ×V)->List (κ×AA)->Prop:=Paired fun(p:κ×V) (q:κ×AA)=>p.1=q.1/\j6 p.2 q.2
def kV:g9->V
 | .inl i=> .int i
 | .inr x=> .str x
inductive HO where
 |lst (xs:List V)
 |tup (xs:List V)
 |dK (kvs:List (g9×V))|dT (kvs:List (List g9×V))
 |set (S:Int->Bool) (n:Nat)
 |ins (C dx:AB) (fs:List (Str×V))
 |own (x:AB)
 |xd (fs:List (Str×V))
 |met (f x:AB)
 |rng (lo hi:Int)
 |frz (o:Obj) (u:HO)
 |tbl (ps:Array AA)
 |ext (φ:Heap->Prop)
abbrev Hp:=AB->Option HO
def m8(H:Hp)(a:AB)(o:HO):Hp:=fun b=>if b=a then some o else H b
theorem j0{H:Hp}{a:AB}{o:HO}:m8 H a o a=some o:=by unfold m8;rw [if_pos rfl]
theorem g7{H:Hp}{a b:AB}{o:HO}(h:b≠a):m8 H a o b=H b:=by unfold m8;rw [if_neg h]
theorem b0H{H:Hp}{a:AB}{o u:HO}:m8 (m8 H a o) a u=m8 H a u:=by
 funext b;unfold m8;split<;>rfl
theorem b8Z{H:Hp}{a b:AB}{o u:HO}(h:H a=some o)(h':H b=some u)(d:o≠u):a≠b:=by
 intro e;subst e;rw [h] at h';exact d (Option.some.inj h')
theorem i6{H:Hp}{a b:AB}{o:HO}(h:H a=some o)(h':H b=none):a≠b:=by
 intro e;subst e;rw [h] at h';cases h'
section
variable (P:AJ)(w:AH)
def t4(H:Hp)(h:Heap)(a:AB):HO->Prop
 | .lst xs=>xs.length<=AN/\∃(its:List AA) (n:Nat),j3 xs its/\h.get? a=some {cls:= .type "list",data:= .seq its.toArray n}
 | .tup xs=>xs.length<=AN/\∃its:List AA,j3 xs its/\IsTup h a its.toArray
 | .dK kvs=>kvs.length<=AN/\(a==sysModules)=false/\∃vs,KV kvs vs/\h.DictOf (l8 P w) a vs
 | .dT kvs=>kvs.length<=AN/\(a==sysModules)=false/\∃xs:List (List g9×AB×AA),
  Paired (fun(p:List g9×V) (q:List g9×AB×AA)=>p.1=q.1/\H q.2.1=some (.tup (p.1.map kV))/\j6 p.2 q.2.2) kvs xs/\
  ∃o es ep,h.get? a=some o/\o.ExactDict/\o.data= .dict es ep/\es.toList=xs.map (entryOfKey (tupleKind (l8 P w)))/\(xs.map (·.1)).Nodup
 | .set S n=>h.SetOf (intKind P w) a S n
 | .ins C dx fs=>H dx=some (.own a)/\fs.length<=1000/\dx≠a/\h.get? a=some (PySem.W.instObj C dx)/\
  ∃mA,h.Ns1 dx mA/\(∀f,a1E (fs.lookup f) (mA f))/\PySem.Within mA (fs.map (·.1))
 | .own _=>∃o,h.get? a=some o
 | .xd fs=>∃mA,h.Ns1 a mA/\∀f,a1E (fs.lookup f) (mA f)
 | .rng lo hi=>∃t u v,h.get? a=some {cls:= .type "range",data:= .fields #[.int lo t,.int hi u,.int 1 v]}
 | .frz o u=>h.get? a=some o/\t4 H h a u
 | .tbl ps=>h.get? a=some {cls:= .none,data:= .fields ps}
 | .met f x=>h.get? a=some (PySem.W.methodObj (.ref f) (.ref x))
 | .ext φ=>φ h/\(∃o,h.get? a=some o)/\∀h1 h2:Heap,φ h1->(∀o,h1.get? a=some o->h2.get? a=some o)->φ h2
def HOk(H:Hp)(h:Heap):Prop:=∀a o,H a=some o->t4 P w H h a o
end
section
variable {P:AJ}{w:AH}{H H':Hp}{h h':Heap}{a:AB}{o:HO}
theorem t4.lt(x:t4 P w H h a o):a<h.objs.size:=by
 cases o with
 |lst xs=>obtain⟨_,_,_,_,e⟩:=x;exact AX e
 |tup xs=>obtain⟨_,_,_,p⟩:=x;exact p.lt
 |dK kvs=>obtain⟨_,_,_,_,o,_,_,e,_⟩:=x;exact AX e
 |dT kvs=>obtain⟨_,_,_,_,o,_,_,e,_⟩:=x;exact AX e
 |set S n=>obtain⟨o,_,_,_,e,_⟩:=x;exact AX e
 |ins C dx fs=>obtain⟨_,_,_,e,_⟩:=x;exact AX e
 |own y=>obtain⟨_,e⟩:=x;exact AX e
 |xd fs=>obtain⟨_,⟨_,_,_,e,_⟩,_⟩:=x;exact AX e
 |rng lo hi=>obtain⟨_,_,_,e⟩:=x;exact AX e
 |frz ob u=>obtain⟨e,_⟩:=x;exact AX e
 |tbl ps=>exact AX (show h.get? a=some _ from x)
 |met f y=>exact AX (show h.get? a=some _ from x)
 |ext φ=>obtain⟨_,⟨_,e⟩,_⟩:=x;exact AX e
theorem Paired.mapP{α β:Type}{F G:α->β->Prop}:∀{l₁:List α} {l₂:List β},Paired F l₁ l₂->(∀a b,F a b->G a b)->Paired G l₁ l₂
 |_,_,.nil,_=> .nil
 |_,_,.cons r t,f=> .cons (f _ _ r) (Paired.mapP t f)
theorem t4.stay(x:t4 P w H h a o)(k:∀b u,(b=a\/H b=some (.own a))->h.get? b=some u->h'.get? b=some u)
 (ho:∀b,H b=some (.own a)->H' b=some (.own a)) (ht:∀b xs,H b=some (.tup xs)->H' b=some (.tup xs)):t4 P w H' h' a o:=by
 induction o with
 |lst xs=>obtain⟨z,its,n,r,e⟩:=x;exact⟨z,its,n,r,k _ _ (.inl rfl) e⟩
 |tup xs=>obtain⟨z,its,r,ob,e,c⟩:=x;exact⟨z,its,r,ob,k _ _ (.inl rfl) e,c⟩
 |dK kvs=>obtain⟨z,y,vs,r,ob,es,ep,e,c⟩:=x;exact⟨z,y,vs,r,ob,es,ep,k _ _ (.inl rfl) e,c⟩
 |dT kvs=>
  obtain⟨z,y,xs,r,ob,es,ep,e,c⟩:=x
  exact⟨z,y,xs,Paired.mapP r fun p q z=>⟨z.1,ht _ _ z.2.1,z.2.2⟩,ob,es,ep,k _ _ (.inl rfl) e,c⟩
 |set S n=>obtain⟨ob,es,ep,t,e,c⟩:=x;exact⟨ob,es,ep,t,k _ _ (.inl rfl) e,c⟩
 |ins C dx fs=>
  obtain⟨d,z,ne,e,mA,⟨od,es,ep,e2,c⟩,r⟩:=x
  exact⟨ho _ d,z,ne,k _ _ (.inl rfl) e,mA,⟨od,es,ep,k _ _ (.inr d) e2,c⟩,r⟩
 |own y=>obtain⟨ob,e⟩:=x;exact⟨ob,k _ _ (.inl rfl) e⟩
 |xd fs=>obtain⟨mA,⟨od,es,ep,e,c⟩,r⟩:=x;exact⟨mA,⟨od,es,ep,k _ _ (.inl rfl) e,c⟩,r⟩
 |rng lo hi=>obtain⟨t,u,v,e⟩:=x;exact⟨t,u,v,k _ _ (.inl rfl) e⟩
 |frz ob u ih=>obtain⟨e,q⟩:=x;exact⟨k _ _ (.inl rfl) e,ih q⟩
 |tbl ps=>
  have e:h.get? a=some {cls:= .none,data:= .fields ps}:=x
  show h'.get? a=some {cls:= .none,data:= .fields ps}
  exact k a _ (.inl rfl) e
 |met f y=>
  have e:h.get? a=some (PySem.W.methodObj (.ref f) (.ref y)):=x
  show h'.get? a=some (PySem.W.methodObj (.ref f) (.ref y))
  exact k a _ (.inl rfl) e
 |ext φ=>obtain⟨p,⟨o,e⟩,st⟩:=x;exact⟨st _ _ p fun o q=>k _ _ (.inl rfl) q,⟨o,k _ _ (.inl rfl) e⟩,st⟩
theorem HOk.lt(x:HOk P w H h)(e:H a=some o):a<h.objs.size:=(x a o e).lt
theorem HOk.fresh(x:HOk P w H h)(e:h.objs.size<=a):H a=none:=by
 cases q:H a with
 |none=>rfl
 |some u=>exact absurd (Ax (x.lt q) e) (Nat.lt_irrefl _)
theorem HOk.kept(x:HOk P w H h)(k:∀b u,h.get? b=some u->h'.get? b=some u):HOk P w H h':=fun a o e=>
 (x a o e).stay (fun b u _ q=>k b u q) (fun _ q=>q) fun _ _ q=>q
theorem HOk.laid(x:HOk P w H h)(k:∀b u,h.get? b=some u->h'.get? b=some u)(hp:h.objs.size<=a)(new:t4 P w (m8 H a o) h' a o):HOk P w (m8 H a o) h':=fun b u e=>by
 have hn:=x.fresh hp
 by_cases hb:b=a
 ·subst hb;rw [j0] at e;cases e;exact new
 ·rw [g7 hb] at e
  exact(x b u e).stay (fun c v _ q=>k c v q) (fun c q=>by rw [g7 (i6 q hn)];exact q) fun c xs q=>by rw [g7 (i6 q hn)];exact q
end
def Rd(H:Hp)(a:AB)(u:HO):Prop:=H a=some u\/∃o,H a=some (.frz o u)
theorem Rd.ok{P:AJ}{w:AH}{H:Hp}{h:Heap}{a:AB}{u:HO}(r:Rd H a u)(x:HOk P w H h):t4 P w H h a u:=by
 rcases r with r|⟨o,r⟩
 ·exact x a u r
 ·obtain⟨_,q⟩:=x a _ r
  exact q
def Mut:Option HO->Prop
 |some (.lst _)=>True
 |some (.dK _)=>True
 |some (.dT _)=>True
 |some (.set _ _)=>True
 |some (.ins _ _ _)=>True
 |some (.ext _)=>True
 |_=>False
section
variable {P:AJ}{w:AH}{H:Hp}{h h':Heap}{x e:AB}{o':HO}
theorem HOk.write(ok:HOk P w H h)(mu:Mut (H x))(he:e=x\/H e=some (.own x))(k:∀b u,b≠e->h.get? b=some u->h'.get? b=some u)(heo:∃u,h'.get? e=some u)
 (new:t4 P w (m8 H x o') h' x o'):HOk P w (m8 H x o') h':=fun b u q=>by
 have nown:∀c y,H c=some (.own y)->c≠x:=fun c y r z=>by subst z;rw [r] at mu;exact mu
 have ntup:∀c xs,H c=some (.tup xs)->c≠x:=fun c xs r z=>by subst z;rw [r] at mu;exact mu
 by_cases hb:b=x
 ·subst hb;rw [j0] at q;cases q;exact new
 ·rw [g7 hb] at q
  by_cases hbe:b=e
  ·have q':H b=some (.own x):=by
    rcases he with z|z
    ·exact absurd (hbe.trans z) hb
    ·rw [hbe];exact z
   rw [q] at q';cases q'
   obtain⟨v,hv⟩:=heo
   exact⟨v,by rw [hbe];exact hv⟩
  ·refine(ok b u q).stay (fun c v hc r=>k c v ?_ r) (fun c r=>by rw [g7 (nown c b r)];exact r) fun c xs r=>by rw [g7 (ntup c xs r)];exact r
   rcases hc with rfl|hc
   ·exact hbe
   ·rintro rfl
    rcases he with z|z
    ·exact nown c b hc z
    ·rw [hc] at z;cases z;exact hb rfl
end
structure Un(fs ex:List AB)(H H':Hp)(h h':Heap):Prop where
 keep:∀b o,h.get? b=some o->H b=none->b∉fs->b∉ex->h'.get? b=some o
 slot:∀b o,h.get? b=some o->H b=none->b∈fs->b∉ex->∃sl,h'.get? b=some {o with slots:=sl}
 free:∀b o,h.get? b=some o->H b=none->b∉ex->H' b=none
 there:∀b o,h.get? b=some o->b∉ex->∃o',h'.get? b=some o'
 tups:∀b xs,H b=some (.tup xs)->H' b=some (.tup xs)
 frzs:∀b o u,H b=some (.frz o u)->H' b=some (.frz o u)
 tbls:∀b ps,H b=some (.tbl ps)->∃more,H' b=some (.tbl (ps++more))
section
variable {fs fs' ex ex':List AB}{H H1 H2:Hp}{h h1 h2 h':Heap}{a x e:AB}{o:HO}
theorem Un.any(u:Un fs ex H H1 h h1){b:AB}{ob:Obj}(q:h.get? b=some ob)(n:H b=none)(hx:b∉ex):∃sl,h1.get? b=some {ob with slots:=sl}:=by
 by_cases hb:b∈fs
 ·exact u.slot b ob q n hb hx
 ·exact⟨ob.slots,u.keep b ob q n hb hx⟩
theorem Un.kept(k:∀b u,h.get? b=some u->h'.get? b=some u):Un fs ex H H h h':=
 ⟨fun b ob q _ _ _=>k b ob q,fun b ob q _ _ _=>⟨ob.slots,k b ob q⟩,fun _ _ _ n _=>n,fun b ob q _=>⟨ob,k b ob q⟩,fun _ _ q=>q,fun _ _ _ q=>q,fun _ ps q=>⟨#[],by rw [q];simp⟩⟩
theorem Un.refl:Un fs ex H H h h:=Un.kept fun _ _ q=>q
theorem Un.laid(k:∀b u,h.get? b=some u->h'.get? b=some u)(hp:h.objs.size<=a)(hn:H a=none):Un fs ex H (m8 H a o) h h' where
 keep:=fun b u q _ _ _=>k b u q
 slot:=fun b u q _ _ _=>⟨u.slots,k b u q⟩
 free:=fun b u q n _=>by rw [g7 (Ai (Ax (AX q) hp))];exact n
 there:=fun b u q _=>⟨u,k b u q⟩
 tups:=fun b xs q=>by rw [g7 (i6 q hn)];exact q
 frzs:=fun b u xs q=>by rw [g7 (i6 q hn)];exact q
 tbls:=fun b ps q=>⟨#[],by rw [g7 (i6 q hn),q];simp⟩
theorem Un.write(mu:Mut (H x))(he:e=x\/H e=some (.own x))(k:∀b u,b≠e->h.get? b=some u->h'.get? b=some u)(heo:∃u,h'.get? e=some u):Un fs ex H (m8 H x o) h h':=by
 have hx:∀b,H b=none->b≠x:=fun b n z=>by subst z;rw [n] at mu;exact mu
 have hb:∀b,H b=none->b≠e:=fun b n z=>by
  subst z
  rcases he with r|r
  ·exact hx b n r
  ·rw [n] at r;cases r
 have hm:∀b u,H b=some u->¬Mut (some u)->b≠x:=fun b u q nm z=>by subst z;rw [q] at mu;exact nm mu
 refine⟨fun b u q n _ _=>k b u (hb b n) q,fun b u q n _ _=>⟨u.slots,k b u (hb b n) q⟩,fun b u q n _=>by rw [g7 (hx b n)];exact n,fun b u q _=> ?_,
  fun b xs q=>by rw [g7 (hm b _ q fun z=>z)];exact q,fun b u xs q=>by rw [g7 (hm b _ q fun z=>z)];exact q,fun b ps q=>⟨#[],by rw [g7 (hm b _ q fun z=>z),q];simp⟩⟩
 by_cases hbe:b=e
 ·subst hbe;exact heo
 ·exact⟨u,k b u hbe q⟩
end
def trk(h:Heap)(H:Hp):List AB:=(AS h.objs.size).filter fun a=>(H a).isSome
def a6y(h:Heap)(H:Hp):Heap:=PySem.W.hideAll h (trk h H)
theorem b07(h:Heap)(H:Hp):(a6y h H).objs.size=h.objs.size:=PySem.W.hideAll_size _ _
theorem b2O{h:Heap}{H:Hp}{b:AB}{o:Obj}(e:h.get? b=some o)(n:H b=none):(a6y h H).get? b=some o:=
 PySem.W.hideAll_get _ e fun hm=>by
  have q:(H b).isSome=true:=(List.mem_filter.mp hm).2
  rw [n] at q;simp at q
theorem b5g{h:Heap}{H:Hp}{b:AB}{o:Obj}(e:(a6y h H).get? b=some o):h.get? b=some o/\H b=none:=by
 have e':h.get? b=some o:=PySem.W.of_hideAll (trk h H) e
 refine⟨e', ?_⟩
 cases q:H b with
 |none=>rfl
 |some x=>
  have hm:b∈trk h H:=List.mem_filter.mpr ⟨List.mem_range.mpr (AX e'),by simp [q]⟩
  have z:(a6y h H).get? b=none:=PySem.W.hideAll_none (trk h H) hm
  rw [z] at e;cases e
structure Mod(K:AE)(mg:Str->Option AA)(base:Heap):Prop where
 kin:K.In base
 glob:base.Ns mainGlobals mg
 blt:∃mb,base.Ns builtinsNs mb/\∀x:Str,x≠"__name__"->mb x=bootBuiltins x
 nolimit:base.NoLimit
structure Cx where
 prog:AJ
 w:AH
 K:AE
 mg:Str->Option AA
 base:Heap
 A:AL
 N:List Str
 s₀:AC
 H₀:Hp
 env:Env
 outer:List Env
 stack:List Env
 ex:List AB
 fn:Str->Bool
 calm:Bool
 pn:List (AB×Obj)
 xe:AA->AC->Prop
def frs(l:List Env):List AB:=l.filterMap (·.frame)
abbrev Cx.fs(X:Cx):List AB:=frs X.outer
def Vis(sc:Scope)(x:Str):Prop:=sc.names.lookup x=some .local\/sc.names.lookup x=some .cell\/sc.names.lookup x=some .free
def Loc(sc:Scope)(x:Str):Prop:=sc.names.lookup x=some .local\/sc.names.lookup x=some .cell
def b9z(env:Env)(h:Heap)(m:Str->Option AA)(x:Str)(u:AA):Prop:=
 (env.kindOf x=some .local/\m x=some u)\/((env.kindOf x=some .cell\/env.kindOf x=some .free)/\∃c,env.cells.lookup x=some c/\h.IsCell c (some u))
structure Cx.Ok(X:Cx):Prop where
 mod:Mod X.K X.mg X.base
 kind:X.env.scope.kind= .function
 glob:X.env.globals=mainGlobals
 blt:X.env.builtins=builtinsNs
 above:X.s₀.heap.objs.size<=X.env.locals
 inj:∀x y c,X.env.cells.lookup x=some c->X.env.cells.lookup y=some c->x=y
 has:∀x,(X.env.kindOf x=some .cell\/X.env.kindOf x=some .free)->∃c,X.env.cells.lookup x=some c
 cab:∀x c,X.fn x=true->X.env.cells.lookup x=some c->X.s₀.heap.objs.size<=c
 hd:X.calm=true->X.A.handled=none
 frames:X.A.frames=some X.stack
 stk:X.stack=X.outer\/(X.stack=X.env::X.outer/\X.env.frame=some X.env.locals)
 exf:∀b∈X.ex,b≠X.env.locals/\∀x c,X.env.cells.lookup x=some c->c≠b
 bs:∀b o,X.base.get? b=some o->X.s₀.heap.get? b=some o/\X.H₀ b=none
 bsz:X.base.objs.size<=X.s₀.heap.objs.size
 noex:∀b o,X.base.get? b=some o->b∉X.ex
 exfs:∀b∈X.ex,b∉X.fs
 funs:X.s₀.heap.FunFrames X.base X.outer
 frf:∀b∈X.fs,X.H₀ b=none
structure g8(X:Cx)(pins:List (AB×Obj))(σ:List (Option V))(H:Hp)(s:AC):Prop where
 ok:X.Ok
 os:s.os=X.s₀.os
 bare:AllBare s.gens
 base:Un X.fs X.ex X.H₀ H X.s₀.heap s.heap
 loc:∃m,s.heap.Ns X.env.locals m/\∀(i:Nat) (x:Str) (v:V),X.N[i]?=some x->σ[i]?=some (some v)->Vis X.env.scope x->∃u,j6 v u/\b9z X.env s.heap m x u
 cell:∀x c,X.env.cells.lookup x=some c->∃v,s.heap.IsCell c v
 free:H X.env.locals=none
 freeC:∀x c,X.env.cells.lookup x=some c->H c=none
 pin:∀p∈X.pn++pins,s.heap.get? p.1=some p.2/\H p.1=none/\p.1≠X.env.locals/\p.1∉X.fs/\∀v,p.2.data≠.cell v
 hok:HOk X.prog X.w H s.heap
 len:σ.length=X.N.length
section
variable {X:Cx}{pins:List (AB×Obj)}{σ:List (Option V)}{H H':Hp}{s:AC}{h':Heap}
theorem Cx.Ok.nofr(ok:X.Ok){b:AB}{o:Obj}(e:X.base.get? b=some o):b∉X.fs:=fun hb=>by
 have:=(ok.funs.mem hb).1
 rw [e] at this;cases this
theorem g8.bs(I:g8 X pins σ H s):∀b o,X.base.get? b=some o->s.heap.get? b=some o/\H b=none:=fun b o e=>
 ⟨I.base.keep b o (I.ok.bs b o e).1 (I.ok.bs b o e).2 (I.ok.nofr e) (I.ok.noex b o e),I.base.free b o (I.ok.bs b o e).1 (I.ok.bs b o e).2 (I.ok.noex b o e)⟩
theorem g8.bk(I:g8 X pins σ H s):∀b o,X.base.get? b=some o->s.heap.get? b=some o:=fun b o e=>(I.bs b o e).1
theorem g8.mod(I:g8 X pins σ H s):Mod X.K X.mg X.base:=I.ok.mod
theorem g8.kIn(I:g8 X pins σ H s):X.K.In s.heap:=I.ok.mod.kin.keeps I.bk
theorem g8.lt(I:g8 X pins σ H s):X.env.locals<s.heap.objs.size:=by obtain⟨_,hn,_⟩:=I.loc;exact hn.lt
theorem g8.sz(I:g8 X pins σ H s):X.s₀.heap.objs.size<=s.heap.objs.size:=Nat.le_trans I.ok.above (BE I.lt)
theorem g8.nofs(I:g8 X pins σ H s){a:AB}(h:s.heap.objs.size<=a):a∉X.fs:=fun hb=>by
 obtain⟨_,o,ho,_⟩:=I.ok.funs.mem hb
 exact absurd (Ax (AX ho) (Nat.le_trans I.sz h)) (Nat.lt_irrefl _)
theorem g8.cne(I:g8 X pins σ H s):∀x c,X.env.cells.lookup x=some c->c≠X.env.locals:=fun x c e z=>by
 obtain⟨v,o,ho,hd⟩:=I.cell x c e
 obtain⟨m,⟨o',es,ep,ho',hd',_⟩,_⟩:=I.loc
 rw [z,ho'] at ho;cases ho;rw [hd'] at hd;cases hd
theorem g8.funs(I:g8 X pins σ H s):s.heap.FunFrames X.base X.outer:=by
 have all:∀(l:List Env),(∀b∈frs l,b∈X.fs)->X.s₀.heap.FunFrames X.base l->s.heap.FunFrames X.base l:=by
  intro l
  induction l with
  |nil=>intro _ _;trivial
  |cons env r ih=>
   intro hs hl
   obtain⟨hk,⟨L,o,hf,hn,ho,hd⟩,hr⟩:=hl
   have hL:L∈X.fs:=hs L (by unfold frs;rw [List.filterMap_cons,hf];exact Ad)
   obtain⟨sl,e⟩:=I.base.slot L o ho (I.ok.frf L hL) hL fun z=>I.ok.exfs L z hL
   exact⟨hk,⟨L,_,hf,hn,e,hd⟩,ih (fun b hb=>hs b (by unfold frs;rw [List.filterMap_cons,hf];exact Af _ hb)) hr⟩
 exact all X.outer (fun _ hb=>hb) I.ok.funs
theorem g8.stack(I:g8 X pins σ H s):s.heap.FunFrames X.base X.stack:=by
 rcases I.ok.stk with e|⟨e,hf⟩
 ·rw [e];exact I.funs
 ·rw [e]
  obtain⟨m,hn,_⟩:=I.loc
  refine .cons (by rw [I.ok.kind];decide) hf hn ?_ I.funs
  exact Heap.get?_none_of_le (Nat.le_trans I.ok.bsz I.ok.above)
theorem g8.stkSub(I:g8 X pins σ H s):∀b∈frs X.stack,b∈X.env.locals::X.fs:=fun b hb=>by
 rcases I.ok.stk with e|⟨e,hf⟩
 ·rw [e] at hb;exact Af _ hb
 ·rw [e] at hb
  unfold frs at hb
  rw [List.filterMap_cons,hf] at hb
  exact hb
theorem g8.stkFree(I:g8 X pins σ H s):∀b∈frs X.stack,H b=none:=fun b hb=>by
 rcases Ab.mp (I.stkSub b hb) with e|hb
 ·rw [e];exact I.free
 ·obtain⟨_,o,ho,_⟩:=I.ok.funs.mem hb
  exact I.base.free b o ho (I.ok.frf b hb) fun z=>I.ok.exfs b z hb
theorem g8.step{g':Array GenState}{t':Nat}{d':Drawn}{ch:List AB}(I:g8 X pins σ H s)
 (hch:∀b∈ch,(b∈X.ex\/X.s₀.heap.objs.size<=b)/\b≠X.env.locals/\(∀x c,X.env.cells.lookup x=some c->c≠b)/\∀p∈X.pn++pins,p.1≠b)
 (keep:∀b o,b≠X.env.locals->b∉X.fs->b∉ch->s.heap.get? b=some o->H b=none->h'.get? b=some o)
 (slot:∀b o,b≠X.env.locals->b∈X.fs->b∉ch->s.heap.get? b=some o->H b=none->∃sl,h'.get? b=some {o with slots:=sl}) (free:∀b o,b∉ch->s.heap.get? b=some o->H b=none->H' b=none)
 (there:∀b o,b∉ch->s.heap.get? b=some o->∃o',h'.get? b=some o')
 (tups:∀b xs,H b=some (.tup xs)->H' b=some (.tup xs)) (frzs:∀b o u,H b=some (.frz o u)->H' b=some (.frz o u)) (tbls:∀b ps,H b=some (.tbl ps)->∃more,H' b=some (.tbl (ps++more)))
 (ns:∀m,s.heap.Ns X.env.locals m->h'.Ns X.env.locals m) (hok:HOk X.prog X.w H' h') (hg:AllBare g'):
 g8 X pins σ H' {s with heap:=h',gens:=g',drawn:=d',toks:=t'}:=by
 have neL:∀b o,X.s₀.heap.get? b=some o->b≠X.env.locals:=fun b o e=>Ai (Ax (AX e) I.ok.above)
 have neC:∀b o,X.s₀.heap.get? b=some o->b∉X.ex->b∉ch:=fun b o e hx hb=>by
  rcases(hch b hb).1 with z|z
  ·exact hx z
  ·exact absurd (Ax (AX e) z) (Nat.lt_irrefl _)
 have cellK:∀x c,X.env.cells.lookup x=some c->∀v,s.heap.IsCell c v->h'.IsCell c v:=fun x c e v ⟨o,ho,hd⟩=>by
  have nch:c∉ch:=fun z=>(hch c z).2.2.1 x c e rfl
  by_cases hc:c∈X.fs
  ·obtain⟨sl,q⟩:=slot c o (I.cne x c e) hc nch ho (I.freeC x c e)
   exact⟨_,q,hd⟩
  ·exact⟨o,keep c o (I.cne x c e) hc nch ho (I.freeC x c e),hd⟩
 refine⟨I.ok,I.os,hg,⟨fun b o e n hb hx=> ?_,fun b o e n hb hx=> ?_,fun b o e n hx=> ?_,fun b o e hx=> ?_,fun b xs e=>tups b xs (I.base.tups b xs e),fun b o xs e=>frzs b o xs (I.base.frzs b o xs e),fun b ps e=> ?_⟩, ?_,fun x c e=> ?_, ?_,fun x c e=> ?_,fun p hp=> ?_,hok,I.len⟩
 ·exact keep b o (neL b o e) hb (neC b o e hx) (I.base.keep b o e n hb hx) (I.base.free b o e n hx)
 ·obtain⟨sl,e1⟩:=I.base.slot b o e n hb hx
  obtain⟨sl',e2⟩:=slot b _ (neL b o e) hb (neC b o e hx) e1 (I.base.free b o e n hx)
  exact⟨sl',e2⟩
 ·obtain⟨o',e1⟩:=I.base.there b o e hx
  exact free b o' (neC b o e hx) e1 (I.base.free b o e n hx)
 ·obtain⟨o',e1⟩:=I.base.there b o e hx
  exact there b o' (neC b o e hx) e1
 ·obtain⟨m1,e1⟩:=I.base.tbls b ps e
  obtain⟨m2,e2⟩:=tbls b _ e1
  exact⟨m1++m2,by rw [e2,Array.append_assoc]⟩
 ·obtain⟨m,hn,hl⟩:=I.loc
  refine⟨m,ns m hn,fun i x v e1 e2 e3=> ?_⟩
  obtain⟨u,r,l⟩:=hl i x v e1 e2 e3
  refine⟨u,r, ?_⟩
  rcases l with l|⟨k,c,e,z⟩
  ·exact .inl l
  ·exact .inr ⟨k,c,e,cellK x c e _ z⟩
 ·obtain⟨v,z⟩:=I.cell x c e
  exact⟨v,cellK x c e v z⟩
 ·obtain⟨m,⟨o,_,_,ho,_⟩,_⟩:=I.loc
  exact free _ o (fun z=>(hch _ z).2.1 rfl) ho I.free
 ·obtain⟨v,o,ho,hd⟩:=I.cell x c e
  exact free c o (fun z=>(hch c z).2.2.1 x c e rfl) ho (I.freeC x c e)
 ·obtain⟨e,n,ne,nf,d⟩:=I.pin p hp
  have nch:p.1∉ch:=fun z=>(hch p.1 z).2.2.2 p hp rfl
  exact⟨keep p.1 p.2 ne nf nch e n,free p.1 p.2 nch e n,ne,nf,d⟩
theorem g8.un{t':Nat}(I:g8 X pins σ H s)(u:Un X.fs [] H H' s.heap h')(hok:HOk X.prog X.w H' h'):g8 X pins σ H' {s with heap:=h',toks:=t'}:=by
 obtain⟨m,⟨o,es,ep,ho,r⟩,_⟩:=id I.loc
 obtain⟨sl,hL⟩:=u.any ho I.free (by simp)
 exact I.step (g':=s.gens) (d':=s.drawn) (ch:=[]) (fun _ z=>nomatch z) (fun b o _ hb _ e n=>u.keep b o e n hb (by simp)) (fun b o _ hb _ e n=>u.slot b o e n hb (by simp)) (fun b o _ e n=>u.free b o e n (by simp)) (fun b o _ e=>u.there b o e (by simp)) u.tups u.frzs u.tbls (fun m' hm=>by
  obtain⟨o',es',ep',ho',r'⟩:=hm
  rw [ho] at ho';cases ho'
  exact⟨_,es',ep',hL,r'⟩) hok I.bare
theorem g8.call{g':Array GenState}{t':Nat}{d':Drawn}{ch:List AB}(I:g8 X pins σ H s)(u:Un (frs X.stack) ch H H' s.heap h')(hok:HOk X.prog X.w H' h')(hg:AllBare g')
 (hch:∀b∈ch,(b∈X.ex\/X.s₀.heap.objs.size<=b)/\b≠X.env.locals/\(∀x c,X.env.cells.lookup x=some c->c≠b)/\∀p∈X.pn++pins,p.1≠b):
 g8 X pins σ H' {s with heap:=h',gens:=g',drawn:=d',toks:=t'}:=by
 obtain⟨m,⟨o,es,ep,ho,r⟩,_⟩:=id I.loc
 obtain⟨sl,hL⟩:=u.any ho I.free fun z=>(hch _ z).2.1 rfl
 exact I.step (ch:=ch) hch (fun b o hL hb hc e n=>u.keep b o e n (fun z=>(Ab.mp (I.stkSub b z)).elim hL hb) hc) (fun b o _ _ hc e n=>u.any e n hc) (fun b o hc e n=>u.free b o e n hc) (fun b o hc e=>u.there b o e hc) u.tups u.frzs u.tbls (fun m' hm=>by
  obtain⟨o',es',ep',ho',r'⟩:=hm
  rw [ho] at ho';cases ho'
  exact⟨_,es',ep',hL,r'⟩) hok hg
theorem g8.turned{t':Nat}{it:AB}(I:g8 X pins σ H s)(k:∀b o,b≠it->s.heap.get? b=some o->h'.get? b=some o)(hn:H it=none)(hL:it≠X.env.locals)
 (h1:it∈X.ex\/X.s₀.heap.objs.size<=it) (h2:∀x c,X.env.cells.lookup x=some c->c≠it) (h3:∀p∈X.pn++pins,p.1≠it):g8 X pins σ H {s with heap:=h',toks:=t'}:=by
 have nit:∀b u,H b=some u->b≠it:=fun b u e z=>by rw [z,hn] at e;cases e
 refine I.step (g':=s.gens) (d':=s.drawn) (ch:=[it]) (fun b hb=> ?_) (fun b o _ _ hc e _=>k b o (fun z=>hc (by simp [z])) e) (fun b o _ _ hc e _=>⟨o.slots,k b o (fun z=>hc (by simp [z])) e⟩) (fun _ _ _ _ n=>n)
  (fun b o hc e=>⟨o,k b o (fun z=>hc (by simp [z])) e⟩) (fun _ _ e=>e) (fun _ _ _ e=>e) (fun b ps e=>⟨#[],by rw [e];simp⟩) (fun m hm=> ?_) (fun b u e=> ?_) I.bare
 ·have e:b=it:=by simpa using hb
  subst e
  exact⟨h1,hL,h2,h3⟩
 ·obtain⟨o,es,ep,ho,r⟩:=hm
  exact⟨o,es,ep,k _ o (Ne.symm hL) ho,r⟩
 ·refine(I.hok b u e).stay (fun c v hc q=>k c v ?_ q) (fun _ q=>q) fun _ _ q=>q
  rcases hc with z|z
  ·rw [z];exact nit b u e
  ·exact nit c _ z
theorem g8.tok(I:g8 X pins σ H s)(t:Nat):g8 X pins σ H {s with toks:=t}:=I.un (h':=s.heap) (t':=t) Un.refl I.hok
theorem g8.kept{t':Nat}(I:g8 X pins σ H s)(k:∀b u,s.heap.get? b=some u->h'.get? b=some u):g8 X pins σ H {s with heap:=h',toks:=t'}:=I.un (Un.kept k) (I.hok.kept k)
theorem g8.laid{a:AB}{o:HO}{t':Nat}(I:g8 X pins σ H s)(k:∀b u,s.heap.get? b=some u->h'.get? b=some u)(hp:s.heap.objs.size<=a)(new:t4 X.prog X.w (m8 H a o) h' a o):
 g8 X pins σ (m8 H a o) {s with heap:=h',toks:=t'}:=I.un (Un.laid k hp (I.hok.fresh hp)) (I.hok.laid k hp new)
theorem g8.write{x e:AB}{o:HO}{t':Nat}(I:g8 X pins σ H s)(mu:Mut (H x))(he:e=x\/H e=some (.own x))(k:∀b u,b≠e->s.heap.get? b=some u->h'.get? b=some u)(heo:∃u,h'.get? e=some u)
 (new:t4 X.prog X.w (m8 H x o) h' x o):g8 X pins σ (m8 H x o) {s with heap:=h',toks:=t'}:=I.un (Un.write mu he k heo) (I.hok.write mu he k heo new)
theorem g8.weak{σ':List (Option V)}(I:g8 X pins σ H s)(hl:σ'.length=σ.length)(w:∀(i:Nat) v,σ'[i]?=some (some v)->σ[i]?=some (some v)):g8 X pins σ' H s:=
 ⟨I.ok,I.os,I.bare,I.base,let ⟨m,hn,hl'⟩:=I.loc;⟨m,hn,fun i x v e1 e2 e3=>hl' i x v e1 (w i v e2) e3⟩,I.cell,I.free,I.freeC,I.pin,I.hok,hl.trans I.len⟩
theorem g8.pins_of{pins':List (AB×Obj)}(I:g8 X pins σ H s)(h:∀p∈pins',s.heap.get? p.1=some p.2/\H p.1=none/\p.1≠X.env.locals/\p.1∉X.fs/\∀v,p.2.data≠.cell v):g8 X pins' σ H s:=
 ⟨I.ok,I.os,I.bare,I.base,I.loc,I.cell,I.free,I.freeC,fun p hp=>(Ay.mp hp).elim (fun z=>I.pin p (BF _ z)) (h p),I.hok,I.len⟩
theorem a72{N:List Str}(hN:N.Nodup){i j:Nat}{x:Str}(a:N[i]?=some x)(b:N[j]?=some x):i=j:=by
 obtain⟨h1,e1⟩:=Av.mp a
 obtain⟨h2,e2⟩:=Av.mp b
 exact(List.getElem_inj hN).mp (e1.trans e2.symm)
theorem a5Y{M:Model}{A:AL}{E:AA->AC->Prop}{i:Nat}{x:Str}{v:V}{u:AA}{Q:Unit->AC->Prop}(I:g8 X pins σ H s)(hN:X.N.Nodup)(hi:X.N[i]?=some x)(hx:Loc X.env.scope x)(r:j6 v u)
 (h:∀s',g8 X pins (σ.set i (some v)) H s'->(∃a,Heap.SameBut a s.heap s'.heap/\(a=X.env.locals\/X.env.cells.lookup x=some a))->Q () s') (hf:X.fn x=true\/X.env.scope.names.lookup x=some .local:=by first|exact .inl rfl|exact .inr rfl|assumption):AF M A (storeName X.env x u) Q E s:=by
 obtain⟨m,hn,hl⟩:=id I.loc
 have hcls:(X.env.scope.kind== .class||(X.env.scope.kind== .module && X.env.locals !=X.env.globals))=false:=by rw [I.ok.kind];rfl
 have hiσ:i<σ.length:=by rw [I.len];exact(Av.mp hi).1
 have cne:=I.cne
 have tracked:∀{a:AB} {h':Heap},(∃o,s.heap.get? a=some o/\H a=none)->Heap.SameBut a s.heap h'->HOk X.prog X.w H h':=fun {a h'} ha hs b ob e=>by
  obtain⟨_,_,hfree⟩:=ha
  refine(I.hok b ob e).stay (fun c w' hc q=>(hs.2 c ?_).trans q) (fun _ q=>q) fun _ _ q=>q
  rintro rfl
  rcases hc with rfl|hc
  ·rw [hfree] at e;cases e
  ·rw [hfree] at hc;cases hc
 rcases hx with hk|hk
 ·refine wpAny_storeName_local hk hn (fun h' hn' hs=> ?_) hcls
  obtain⟨oL,_,_,hoL,_⟩:=id hn
  refine h _ ⟨I.ok,I.os,I.bare,⟨fun b o e n hb hx=> ?_,fun b o e n hb hx=> ?_,I.base.free,fun b o e hx=> ?_,I.base.tups,I.base.frzs,I.base.tbls⟩,⟨_,hn',fun j y v' e1 e2 e3=> ?_⟩,fun y c e=> ?_,I.free,I.freeC,fun p hp=> ?_,tracked ⟨oL,hoL,I.free⟩ hs,by simpa using I.len⟩ ⟨_,hs,.inl rfl⟩
  ·exact(hs.2 b (Ai (Ax (AX e) I.ok.above))).trans (I.base.keep b o e n hb hx)
  ·obtain⟨sl,e1⟩:=I.base.slot b o e n hb hx
   exact⟨sl,(hs.2 b (Ai (Ax (AX e) I.ok.above))).trans e1⟩
  ·obtain⟨o',e1⟩:=I.base.there b o e hx
   exact⟨o',(hs.2 b (Ai (Ax (AX e) I.ok.above))).trans e1⟩
  ·by_cases hj:j=i
   ·subst hj
    rw [hi] at e1;cases e1
    rw [List.getElem?_set_self hiσ] at e2
    cases e2
    exact⟨u,r,.inl ⟨hk,by simp⟩⟩
   ·rw [List.getElem?_set_ne (Ne.symm hj)] at e2
    obtain⟨u',r',q⟩:=hl j y v' e1 e2 e3
    refine⟨u',r', ?_⟩
    rcases q with⟨k,e⟩|⟨k,c,e,z⟩
    ·refine .inl ⟨k, ?_⟩
     have:y≠x:=fun e=>hj (a72 hN e1 (e▸hi))
     simp [this,e]
    ·exact .inr ⟨k,c,e,z.sameBut hs (cne y c e)⟩
  ·obtain⟨w',z⟩:=I.cell y c e
   exact⟨w',z.sameBut hs (cne y c e)⟩
  ·obtain⟨e,n,ne,nf,d⟩:=I.pin p hp
   exact⟨(hs.2 p.1 ne).trans e,n,ne,nf,d⟩
 ·have hfn:X.fn x=true:=by
   rcases hf with z|z
   ·exact z
   ·rw [z] at hk;cases hk
  obtain⟨c,hc⟩:=I.ok.has x (.inl hk)
  obtain⟨w',z⟩:=I.cell x c hc
  refine wpAny_storeName_cell I.ok.kind hk hc z (fun h' hc' hs=> ?_)
  obtain⟨oc,hoc,hocd⟩:=id z
  refine h {s with heap:=h'} ⟨I.ok,I.os,I.bare,⟨fun b o e n hb hx=> ?_,fun b o e n hb hx=> ?_,I.base.free,fun b o e hx=> ?_,I.base.tups,I.base.frzs,I.base.tbls⟩,⟨m,hn.sameBut hs (Ne.symm (cne x c hc)),fun j y v' e1 e2 e3=> ?_⟩,fun y c' e=> ?_,I.free,I.freeC,fun p hp=> ?_,tracked ⟨oc,hoc,I.freeC x c hc⟩ hs,by simpa using I.len⟩ ⟨c,hs,.inr hc⟩
  ·exact(hs.2 b (Ai (Ax (AX e) (I.ok.cab x c hfn hc)))).trans (I.base.keep b o e n hb hx)
  ·obtain⟨sl,e1⟩:=I.base.slot b o e n hb hx
   exact⟨sl,(hs.2 b (Ai (Ax (AX e) (I.ok.cab x c hfn hc)))).trans e1⟩
  ·obtain⟨o',e1⟩:=I.base.there b o e hx
   exact⟨o',(hs.2 b (Ai (Ax (AX e) (I.ok.cab x c hfn hc)))).trans e1⟩
  ·by_cases hj:j=i
   ·subst hj
    rw [hi] at e1;cases e1
    rw [List.getElem?_set_self hiσ] at e2
    cases e2
    exact⟨u,r,.inr ⟨.inl hk,c,hc,hc'⟩⟩
   ·rw [List.getElem?_set_ne (Ne.symm hj)] at e2
    obtain⟨u',r',q⟩:=hl j y v' e1 e2 e3
    refine⟨u',r', ?_⟩
    rcases q with q|⟨k,c',e,z'⟩
    ·exact .inl q
    ·refine .inr ⟨k,c',e,z'.sameBut hs ?_⟩
     rintro rfl
     exact hj (a72 hN e1 (I.ok.inj _ _ _ e hc▸hi))
  ·by_cases hcc:c'=c
   ·subst hcc;exact⟨_,hc'⟩
   ·obtain⟨w2,z2⟩:=I.cell y c' e
    exact⟨w2,z2.sameBut hs hcc⟩
  ·obtain⟨e,n,ne,nf,d⟩:=I.pin p hp
   refine⟨(hs.2 p.1 ?_).trans e,n,ne,nf,d⟩
   intro q
   rw [q,hoc] at e
   have q':oc=p.2:=Option.some.inj e
   exact d w' (by rw [<-q'];exact hocd)
theorem Z2{M:Model}{A:AL}{E:AA->AC->Prop}{i:Nat}{x:Str}{v:V}{u:AA}{Q:Unit->AC->Prop}(I:g8 X pins σ H s)(hN:X.N.Nodup)(hi:X.N[i]?=some x)(hx:Loc X.env.scope x)(r:j6 v u)
 (h:∀s',g8 X pins (σ.set i (some v)) H s'->Q () s') (hf:X.fn x=true\/X.env.scope.names.lookup x=some .local:=by first|exact .inl rfl|exact .inr rfl|assumption):AF M A (storeName X.env x u) Q E s:=
 a5Y I hN hi hx r (fun s' I' _=>h s' I') hf
theorem g8.call'{s':AC}{ch:List AB}(I:g8 X pins σ H s)(ho:s'.os=s.os)(u:Un (frs X.stack) ch H H' s.heap s'.heap)(hok:HOk X.prog X.w H' s'.heap)(hg:AllBare s'.gens)
 (hch:∀b∈ch,(b∈X.ex\/X.s₀.heap.objs.size<=b)/\b≠X.env.locals/\(∀x c,X.env.cells.lookup x=some c->c≠b)/\∀p∈X.pn++pins,p.1≠b):g8 X pins σ H' s':=by
 obtain⟨h',g',d',t',o'⟩:=s'
 have e:o'=s.os:=ho
 subst e
 exact I.call (g':=g') (t':=t') (d':=d') u hok hg hch
end
abbrev XK:=AA->Option AB->Hp->Prop
abbrev St:=List (Option V)
abbrev VK:=V->Hp->Prop
abbrev TE:=St->Hp->VK->Prop
abbrev TT:=St->Hp->(Bool->Hp->Prop)->Prop
abbrev TA:=St->Hp->(List V->Hp->Prop)->Prop
structure Q3 where
 nx:St->Hp->Prop
 rt:VK
 bk:St->Hp->Prop:=fun _ _=>False
 ct:St->Hp->Prop:=fun _ _=>False
abbrev TS:=Q3->St->Hp->Prop
def EP(X:Cx)(pins:List (AB×Obj))(σ:St)(Q:VK)(u:AA)(s':AC):Prop:=∃v H',g8 X pins σ H' s'/\j6 v u/\Q v H'
def TP(X:Cx)(pins:List (AB×Obj))(σ:St)(Q:Bool->Hp->Prop)(b:Bool)(s':AC):Prop:=∃H',g8 X pins σ H' s'/\Q b H'
def AP(X:Cx)(pins:List (AB×Obj))(σ:St)(Q:List V->Hp->Prop)(us:List AA)(s':AC):Prop:=∃vs H',g8 X pins σ H' s'/\j3 vs us/\Q vs H'
def SP(X:Cx)(pins:List (AB×Obj))(D:Q3)(f:Flow)(s':AC):Prop:=
 match f with
 | .next=>∃σ' H',g8 X pins σ' H' s'/\D.nx σ' H'
 | .brk=>∃σ' H',g8 X pins σ' H' s'/\D.bk σ' H'
 | .cont=>∃σ' H',g8 X pins σ' H' s'/\D.ct σ' H'
 | .ret u=>∃v σ' H',g8 X pins σ' H' s'/\j6 v u/\D.rt v H'
def PE(X:Cx)(e:AG)(t:TE):Prop:=
 ∀(pins:List (AB×Obj)) (s:AC) (σ:St) (H:Hp) (Q:VK),g8 X pins σ H s->t σ H Q->AF (model X.prog X.w) X.A (eval e X.env) (EP X pins σ Q) X.xe s
def PT(X:Cx)(e:AG)(t:TT):Prop:=
 ∀(pins:List (AB×Obj)) (s:AC) (σ:St) (H:Hp) (Q:Bool->Hp->Prop),g8 X pins σ H s->t σ H Q->AF (model X.prog X.w) X.A (isTrue e X.env (eval e X.env)) (TP X pins σ Q) X.xe s
def PW(X:Cx)(e:AG)(t:TT):Prop:=
 ∀(whole:Sem AA) (pins:List (AB×Obj)) (s:AC) (σ:St) (H:Hp) (Q:Bool->Hp->Prop),g8 X pins σ H s->t σ H Q->AF (model X.prog X.w) X.A (isTrue e X.env whole) (TP X pins σ Q) X.xe s
theorem PW.pt{X:Cx}{e:AG}{t:TT}(h:PW X e t):PT X e t:=h _
def PA(X:Cx)(es:List AG)(t:TA):Prop:=
 ∀(pos:Pos) (pins:List (AB×Obj)) (s:AC) (σ:St) (H:Hp) (Q:List V->Hp->Prop),g8 X pins σ H s->t σ H Q->AF (model X.prog X.w) X.A (spliced (backTo pos (AQ es X.env))) (AP X pins σ Q) X.xe s
def PS(X:Cx)(st:Stmt)(t:TS):Prop:=
 ∀(pins:List (AB×Obj)) (s:AC) (σ:St) (H:Hp) (D:Q3),g8 X pins σ H s->t D σ H->AF (model X.prog X.w) X.A (exec st X.env) (SP X pins D) X.xe s
def PSs(X:Cx)(st:List Stmt)(t:TS):Prop:=
 ∀(pins:List (AB×Obj)) (s:AC) (σ:St) (H:Hp) (D:Q3),g8 X pins σ H s->t D σ H->AF (model X.prog X.w) X.A (execs st X.env) (SP X pins D) X.xe s
theorem A6{α:Type}{t:Sem α}{Q Q':α->AC->Prop}{M:Model}{A:AL}{E:AA->AC->Prop}{s:AC}(h:AF M A t Q E s)(hQ:∀a s,Q a s->Q' a s):AF M A t Q' E s:=wpAny_mono h hQ fun _ _ x=>x
section
variable {X:Cx}
def a2j(i:Nat):TE:=fun σ H Q=>∃v,σ[i]?=some (some v)/\Q v H
def tC(v:V):TE:=fun _ H Q=>Q v H
theorem b7P{i:Nat}{x:Str}{pos:Pos}(hN:X.N[i]?=some x)(hv:Vis X.env.scope x)(hd:(x==("__debug__":Str))=false:=by decide)(hcd:(x==("__classdict__":Str))=false:=by decide):PE X (.Name x pos) (a2j i):=by
 intro pins s σ H Q I h
 obtain⟨v,e,h⟩:=h
 obtain⟨m,hn,hl⟩:=I.loc
 obtain⟨u,r,l⟩:=hl i x v hN e hv
 have fin:EP X pins σ Q u s:=⟨v,H,I,r,h⟩
 rcases l with⟨hk,hm⟩|⟨hk,c,hc,hcell⟩
 ·exact wpAny_Name (wpAny_loadName_local I.ok.kind hk hn hm fin) hd
 ·rcases hk with hk|hk
  ·exact wpAny_Name (wpAny_loadName_cell I.ok.kind hk hc hcell fin) hd
  ·exact wpAny_Name (wpAny_loadName_free I.ok.kind hk hc hcell fin hcd) hd
theorem b7L{i j pos}:PE X (.Constant (.int i) j pos) (tC (.int i)):=fun _ _ _ H _ I h=>wpAny_Constant_int ⟨.int i,H,I.tok _,⟨_,rfl⟩,h⟩
theorem b9a{b j pos}:PE X (.Constant (.bool b) j pos) (tC (.bl b)):=fun _ _ _ H _ I h=>Constant_bool ⟨.bl b,H,I,rfl,h⟩
theorem b7O{x j pos}:PE X (.Constant (.str x) j pos) (tC (.str x)):=fun _ _ _ H _ I h=>Calls.Constant_str ⟨.str x,H,I.tok _,⟨_,rfl⟩,h⟩
def Gl(X:Cx)(x:Str):Prop:=X.env.kindOf x=some .globalImplicit
theorem Z9{E:AA->AC->Prop}{pins:List (AB×Obj)}{s:AC}{σ:St}{H:Hp}{x:Str}{u:AA}{pos:Pos}{Q:AA->AC->Prop}(I:g8 X pins σ H s)(hg:Gl X x)(hm:X.mg x=some u)(h:Q u s)
 (hd:(x==("__debug__":Str))=false:=by decide):AF (model X.prog X.w) X.A (eval (.Name x pos) X.env) Q E s:=
 Calls.Name_function_global I.ok.kind hg (Calls.loadGlobal_global (by rw [I.ok.glob];exact I.mod.glob.keeps I.bk) hm h) hd
theorem a3Z{E:AA->AC->Prop}{pins:List (AB×Obj)}{s:AC}{σ:St}{H:Hp}{x:Str}{u:AA}{pos:Pos}{Q:AA->AC->Prop}(I:g8 X pins σ H s)(hg:Gl X x)(hm:X.mg x=none)(hv:bootBuiltins x=some u)(h:Q u s)
 (hn:x≠"__name__":=by decide) (hd:(x==("__debug__":Str))=false:=by decide):AF (model X.prog X.w) X.A (eval (.Name x pos) X.env) Q E s:=by
 obtain⟨mb,h1,h2⟩:=I.mod.blt
 exact Calls.Name_function_global I.ok.kind hg (Calls.loadGlobal_builtin (by rw [I.ok.glob];exact I.mod.glob.keeps I.bk) hm (by rw [I.ok.blt];exact h1.keeps I.bk) ((h2 x hn).trans hv) h) hd
theorem b0u{x:Str}{v:V}{u:AA}{pos:Pos}(hg:Gl X x)(hm:X.mg x=some u)(r:j6 v u)(hd:(x==("__debug__":Str))=false:=by decide):PE X (.Name x pos) (tC v):=
 fun _ _ _ H _ I h=>Z9 I hg hm ⟨v,H,I,r,h⟩ hd
theorem b0s{x:Str}{v:V}{u:AA}{pos:Pos}(hg:Gl X x)(hm:X.mg x=none)(hv:bootBuiltins x=some u)(r:j6 v u)(hn:x≠"__name__":=by decide)(hd:(x==("__debug__":Str))=false:=by decide):PE X (.Name x pos) (tC v):=
 fun _ _ _ H _ I h=>a3Z I hg hm hv ⟨v,H,I,r,h⟩ hn hd
variable {a b:AG}{ta tb:TE}{pos:Pos}
def PC(X:Cx)(op:CmpOp)(a b:AG)(t:TE):Prop:=
 ∀(pins:List (AB×Obj)) (s:AC) (σ:St) (H:Hp) (Q:VK),g8 X pins σ H s->t σ H Q->
  AF (model X.prog X.w) X.A (eval a X.env) (fun v s₁=>AF (model X.prog X.w) X.A (eval b X.env) (fun u s₂=>AF (model X.prog X.w) X.A (compareOp op v u) (EP X pins σ Q) X.xe s₂) X.xe s₁) X.xe s
def tB(t:TE):TT:=fun σ H Q=>t σ H fun x H1=>∃c,x= .bl c/\Q c H1
theorem b7V{op:CmpOp}{t:TE}(h:PC X op a b t)(h1:behindInMarks op b=false:=by first|exact nobehind _ (by decide) (by decide)|rfl):PT X (.Compare a [op] [b] pos) (tB t):=by
 intro pins s σ H Q I hw
 refine wpAny_isTrue_Compare1 (A6 (h pins s σ H _ I hw) fun v s1 h1=>A6 h1 fun u s2 h2=>A6 h2 fun c s3 h0=>j8 h0 fun x H1 I1 r1 q1=> ?_) h1
 obtain⟨d,rfl,q⟩:=q1
 cases r1
 exact wpAny_truthy_bool ⟨H1,I1,q⟩
variable {tA tB':TT}{rest:List AG}
def tOr(t u:TT):TT:=fun σ H Q=>t σ H fun c H1=>if c=true then Q true H1 else u σ H1 Q
def b93(t:TT):TT:=fun σ H Q=>t σ H fun c H1=>Q (!c) H1
theorem b7Y(ha:PT X a tA):PW X (.BoolOp .Or [a] pos) tA:=by
 intro wh pins s σ H Q I h
 refine isTrue_or (A6 (ha pins s σ H Q I h) fun c s1 e=> ?_)
 cases c with
 |false=>exact isTrue_or_nil e
 |true=>exact e
theorem b9g(ha:PT X a tA)(hb:PW X (.BoolOp .Or (b::rest) pos) tB'):PW X (.BoolOp .Or (a::b::rest) pos) (tOr tA tB'):=by
 intro wh pins s σ H Q I h
 refine isTrue_or (A6 (ha pins s σ H _ I h) fun c s1 ⟨H1,I1,q1⟩=> ?_)
 cases c with
 |true=>exact⟨H1,I1,q1⟩
 |false=>exact hb wh pins s1 σ H1 Q I1 q1
theorem b7W(ha:PT X a tA):PT X (.UnaryOp .Not a pos) (b93 tA):=by
 intro pins s σ H Q I h
 exact isTrue_not (ha pins s σ H (fun c H1=>Q (!c) H1) I h)
def b94(ta tb:TE):TE:=fun σ H Q=>ta σ H fun x H1=>∃c,x= .bl c/\if c=true then Q (.bl true) H1 else tb σ H1 Q
theorem b7N{op}{t:TE}(h:PE X a t):PE X (.BoolOp op [a] pos) t:=fun pins s σ H Q I hw=>BoolOp_one (h pins s σ H Q I hw)
theorem b9d(ha:PE X a ta)(hb:PE X (.BoolOp .Or (b::rest) pos) tb):PE X (.BoolOp .Or (a::b::rest) pos) (b94 ta tb):=by
 intro pins s σ H Q I h
 refine BoolOp_or (A6 (ha pins s σ H _ I h) fun v s1 h0=>j8 h0 fun x H1 I1 r1 q1=> ?_)
 obtain⟨c,rfl,q1⟩:=q1
 cases r1
 refine wpAny_truthy_bool ?_
 cases c with
 |false=>exact hb pins s1 σ H1 Q I1 q1
 |true=>exact⟨.bl true,H1,I1,rfl,q1⟩
end
def Q4(K:AE)(H:Hp)(a:AB)(xs:List V):Prop:=
 Rd H a (.lst xs)\/
  ∃(o:Obj) (its:Array AA) (n:Nat),K.lookup a=some o/\o.cls= .type "list"/\o.dict=none/\o.data= .seq its n/\its.size<=AN/\j3 xs its.toList
def SqT(K:AE)(H:Hp)(a:AB)(xs:List V):Prop:=
 Rd H a (.tup xs)\/
  ∃(o:Obj) (its:Array AA) (n:Nat),K.lookup a=some o/\o.cls= .type "tuple"/\o.data= .seq its n/\its.size<=AN/\j3 xs its.toList
def b9D:AA->Option V
 | .none=>some .non
 | .bool b=>some (.bl b)
 | .int i _=>some (.int i)
 | .str x _=>some (.str x)
 | .bytes b _=>some (.byt b)
 | .float b _=>some (.flt b)
 | .ref a=>some (.ref a)
 | .type n=>some (.ty n)
 |_=>none
theorem j6.abs{x:V}{u:AA}(r:j6 x u):b9D u=some x:=by
 cases x with
 |non=>cases r;rfl
 |bl _=>cases r;rfl
 |int _=>obtain⟨t,rfl⟩:=r;rfl
 |str _=>obtain⟨t,rfl⟩:=r;rfl
 |byt _=>obtain⟨t,rfl⟩:=r;rfl
 |flt _=>obtain⟨t,rfl⟩:=r;rfl
 |ref _=>cases r;rfl
 |ty _=>cases r;rfl
theorem j6.inj{x y:V}{u:AA}(r:j6 x u)(q:j6 y u):x=y:=Option.some.inj (r.abs.symm.trans q.abs)
theorem j3.inj:∀{xs ys:List V} {us:List AA},j3 xs us->j3 ys us->xs=ys
 |_,_,_,.nil,.nil=>rfl
 |_,_,_,.cons r t,.cons r' t'=>by rw [r.inj r',j3.inj t t']
section
variable {X:Cx}{pins:List (AB×Obj)}{σ:St}{H:Hp}{s:AC}{a:AB}{xs ys:List V}
theorem Q4.of{K:AE}(h:H a=some (.lst xs)):Q4 K H a xs:= .inl (.inl h)
theorem g8.list(I:g8 X pins σ H s)(h:Q4 X.K H a xs):∃its:List AA,j3 xs its/\PlainL s.heap a its.toArray/\xs.length<=AN:=by
 rcases h with h|⟨o,its,n,hk,hc,hd,hs,hz,r⟩
 ·obtain⟨z,its,n,r,e⟩:=h.ok I.hok
  exact⟨its,r,⟨_,n,e,rfl,rfl,rfl⟩,z⟩
 ·refine⟨its.toList,r,⟨o,n,I.kIn a o hk,hc,hd,by simpa using hs⟩, ?_⟩
  have e:=r.length
  simp only [Array.length_toList] at e
  lia
theorem g8.tuple(I:g8 X pins σ H s)(h:SqT X.K H a xs):∃its:List AA,j3 xs its/\IsTup s.heap a its.toArray/\xs.length<=AN:=by
 rcases h with h|⟨o,its,n,hk,hc,hs,hz,r⟩
 ·obtain⟨z,its,r,p⟩:=h.ok I.hok
  exact⟨its,r,p,z⟩
 ·refine⟨its.toList,r,⟨o,I.kIn a o hk,hc,n,by simpa using hs⟩, ?_⟩
  have e:=r.length
  simp only [Array.length_toList] at e
  lia
theorem g8.list_inj(I:g8 X pins σ H s)(h:Q4 X.K H a xs)(h':Q4 X.K H a ys):xs=ys:=by
 obtain⟨its,r,⟨o,n,e,_,_,d⟩,_⟩:=I.list h
 obtain⟨its',r',⟨o',n',e',_,_,d'⟩,_⟩:=I.list h'
 rw [e] at e';cases e'
 rw [d] at d'
 injection d' with d1 _
 have:its=its':=by simpa using congrArg Array.toList d1
 subst this
 exact r.inj r'
theorem g8.tuple_inj(I:g8 X pins σ H s)(h:SqT X.K H a xs)(h':SqT X.K H a ys):xs=ys:=by
 obtain⟨its,r,⟨o,e,_,n,d⟩,_⟩:=I.tuple h
 obtain⟨its',r',⟨o',e',_,n',d'⟩,_⟩:=I.tuple h'
 rw [e] at e';cases e'
 rw [d] at d'
 injection d' with d1 _
 have:its=its':=by simpa using congrArg Array.toList d1
 subst this
 exact r.inj r'
end
abbrev Cx.wish(X:Cx)(E:AA->AC->Prop):Cx:={X with xe:=E}
abbrev Cx.nox(X:Cx):Cx:=X.wish fun _ _=>False
theorem Cx.Ok.wish{X:Cx}(ok:X.Ok)(E:AA->AC->Prop):(X.wish E).Ok:=
 ⟨ok.mod,ok.kind,ok.glob,ok.blt,ok.above,ok.inj,ok.has,ok.cab,ok.hd,ok.frames,ok.stk,ok.exf,ok.bs,ok.bsz,ok.noex,ok.exfs,ok.funs,ok.frf⟩
theorem Cx.Ok.unwish{X:Cx}{E:AA->AC->Prop}(ok:(X.wish E).Ok):X.Ok:=
 ⟨ok.mod,ok.kind,ok.glob,ok.blt,ok.above,ok.inj,ok.has,ok.cab,ok.hd,ok.frames,ok.stk,ok.exf,ok.bs,ok.bsz,ok.noex,ok.exfs,ok.funs,ok.frf⟩
section
variable {X:Cx}{pins:List (AB×Obj)}{σ:St}{H:Hp}{s:AC}{E:AA->AC->Prop}
theorem g8.wish(I:g8 X pins σ H s)(E:AA->AC->Prop):g8 (X.wish E) pins σ H s:=⟨I.ok.wish E,I.os,I.bare,I.base,I.loc,I.cell,I.free,I.freeC,I.pin,I.hok,I.len⟩
theorem g8.unwish(I:g8 (X.wish E) pins σ H s):g8 X pins σ H s:=⟨I.ok.unwish,I.os,I.bare,I.base,I.loc,I.cell,I.free,I.freeC,I.pin,I.hok,I.len⟩
theorem SP.unwish{D:Q3}{f:Flow}{s':AC}(h:SP (X.wish E) pins D f s'):SP X pins D f s':=by
 cases f with
 |next=>obtain⟨σ',H',I,q⟩:=h;exact⟨σ',H',I.unwish,q⟩
 |brk=>obtain⟨σ',H',I,q⟩:=h;exact⟨σ',H',I.unwish,q⟩
 |cont=>obtain⟨σ',H',I,q⟩:=h;exact⟨σ',H',I.unwish,q⟩
 |ret u=>obtain⟨v,σ',H',I,r,q⟩:=h;exact⟨v,σ',H',I.unwish,r,q⟩
theorem PSs.nox{st:List Stmt}{t:TS}(h:PSs X.nox st t):PSs X st t:=fun pins s σ H D I hw=>
 wpAny_mono (h pins s σ H D (I.wish _) hw) (fun _ _ q=>q.unwish) fun _ _ z=>False.elim z
end
section
variable {X:Cx}{st:Stmt}{rest:List Stmt}{t u:TS}{e:AG}{te:TE}{pos:Pos}
def b6u:TS:=fun D σ H=>D.nx σ H
def b33(t u:TS):TS:=fun D σ H=>t {D with nx:=u D} σ H
theorem b0w:PSs X [] b6u:=fun _ _ σ H _ I h=>wpAny_execs_nil ⟨σ,H,I,h⟩
theorem a1l(h1:PS X st t)(h2:PSs X rest u):PSs X (st::rest) (b33 t u):=by
 intro pins s σ H D I h
 refine wpAny_execs_cons (A6 (h1 pins s σ H {D with nx:=u D} I h) fun f s1 q=> ?_)
 cases f with
 |next=>
  obtain⟨σ',H',I',q⟩:=q
  exact h2 pins s1 σ' H' D I' q
 |ret v=>exact q
 |brk=>exact q
 |cont=>exact q
theorem b0x(h1:PS X st t):PSs X [st] t:=by
 intro pins s σ H D I h
 refine wpAny_execs_cons (A6 (h1 pins s σ H D I h) fun f s1 q=> ?_)
 cases f with
 |next=>exact wpAny_execs_nil q
 |ret v=>exact q
 |brk=>exact q
 |cont=>exact q
theorem g8.quiet{pins:List (AB×Obj)}{σ:St}{H:Hp}{s:AC}(I:g8 X pins σ H s):interactive X.env=false:=by simp [interactive,I.ok.kind]
def b9q(te:TE):TS:=fun D σ H=>te σ H fun _ H1=>D.nx σ H1
theorem a6V(he:PE X e te)(hs:swapsWith e none pos.line X.env=pure false:=by rfl):PS X (.Expr e pos) (b9q te):=by
 intro pins s σ H D I h
 exact wpAny_Expr_any (A6 (he pins s σ H _ I h) fun v s1 h0=>j8 h0 fun x H1 I1 r1 q1=>⟨σ,H1,I1,q1⟩) I.quiet hs
def b96(te:TE):TS:=fun D σ H=>te σ H D.rt
theorem b3G(he:PE X e te):PS X (.Return (some e) pos) (b96 te):=by
 intro pins s σ H D I h
 exact wpAny_Return_some (A6 (he pins s σ H _ I h) fun v s1 h0=>j8 h0 fun x H1 I1 r1 q1=>⟨x,σ,H1,I1,r1,q1⟩)
def b91(c:TT)(t u:TS):TS:=fun D σ H=>c σ H fun b H1=>if b=true then t D σ H1 else u D σ H1
theorem b6o{c:AG}{a b:List Stmt}{tc:TT}(hc:PT X c tc)(ha:PSs X a t)(hb:PSs X b u):PS X (.If c a b pos) (b91 tc t u):=by
 intro pins s σ H D I h
 refine wpAny_If (A6 (hc pins s σ H _ I h) fun d s1 ⟨H1,I1,q1⟩=> ?_)
 cases d with
 |true=>exact ha pins s1 σ H1 D I1 q1
 |false=>exact hb pins s1 σ H1 D I1 q1
end
abbrev TG:=V->St->Hp->(St->Hp->Prop)->Prop
abbrev TGs:=List V->St->Hp->(St->Hp->Prop)->Prop
def PG(X:Cx)(target:AG)(t:TG):Prop:=
 ∀(pins:List (AB×Obj)) (s:AC) (σ:St) (H:Hp) (v:V) (u:AA) (Q:St->Hp->Prop),g8 X pins σ H s->j6 v u->t v σ H Q->
  AF (model X.prog X.w) X.A (assign target X.env u) (fun _ s'=>∃σ' H',g8 X pins σ' H' s'/\Q σ' H') X.xe s
def PGs(X:Cx)(ts:List AG)(t:TGs):Prop:=
 ∀(pins:List (AB×Obj)) (s:AC) (σ:St) (H:Hp) (vs:List V) (us:List AA) (Q:St->Hp->Prop),g8 X pins σ H s->j3 vs us->t vs σ H Q->
  AF (model X.prog X.w) X.A (assignInOrder ((assignEach ts X.env).map (·.2)) us) (fun _ s'=>∃σ' H',g8 X pins σ' H' s'/\Q σ' H') X.xe s
abbrev TIp:=V->V->Hp->VK->Prop
def PIp(X:Cx)(op:Operator)(t:TIp):Prop:=
 ∀(pins:List (AB×Obj)) (s:AC) (σ:St) (H:Hp) (x y:V) (v u:AA) (Q:VK),g8 X pins σ H s->j6 x v->j6 y u->t x y H Q->
  AF (model X.prog X.w) X.A (inplaceOp op v u) (EP X pins σ Q) X.xe s
section
variable {X:Cx}{pos:Pos}
def a7F(i:Nat):TG:=fun v σ H Q=>Q (σ.set i (some v)) H
theorem i4{i:Nat}{x:Str}(hN:X.N.Nodup)(hi:X.N[i]?=some x)(hx:Loc X.env.scope x)(hf:X.fn x=true\/X.env.scope.names.lookup x=some .local:=by first|exact .inl rfl|exact .inr rfl|assumption):PG X (.Name x pos) (a7F i):=by
 intro pins s σ H v u Q I r h
 exact wpAny_assign_Name (Z2 I hN hi hx r (fun s' I'=>⟨_,H,I',h⟩) hf)
def b8Q:TGs:=fun vs σ H Q=>vs=[]/\Q σ H
def b6a(t:TG)(u:TGs):TGs:=fun vs σ H Q=>∃v r,vs=v::r/\t v σ H fun σ' H'=>u r σ' H' Q
theorem b0v:PGs X [] b8Q:=by
 intro pins s σ H vs us Q I r h
 obtain⟨e,h⟩:=h
 subst e
 cases r
 exact assignInOrder_nil ⟨σ,H,I,h⟩
theorem Y1{e:AG}{es:List AG}{t:TG}{u:TGs}(h1:PG X e t)(h2:PGs X es u)
 (hs:(assignEach (e::es) X.env).map (·.2)=assign e X.env::(assignEach es X.env).map (·.2):=by rfl):PGs X (e::es) (b6a t u):=by
 intro pins s σ H vs us Q I r h
 obtain⟨v,vr,e1,h⟩:=h
 subst e1
 cases r with
 |cons r rr=>
  rw [hs]
  refine assignInOrder_cons (A6 (h1 pins s σ H _ _ _ I r h) fun _ s1 ⟨σ1,H1,I1,q1⟩=> ?_)
  exact h2 pins s1 σ1 H1 _ _ Q I1 rr q1
def b9E(K:AE)(n:Nat)(t:TGs):TG:=fun v σ H Q=>∃a xs,v= .ref a/\SqT K H a xs/\xs.length=n/\t xs σ H Q
theorem b7Q{es:List AG}{k:Nat}{t:TGs}{n:Nat}(hc:X.calm=true)(h:PGs X es t)
 (hn:(assignEach es X.env).length=n:=by rfl) (hst:(assignEach es X.env).findIdx? (·.1)=none:=by rfl):PG X (.Tuple es k pos) (b9E X.K n t):=by
 intro pins s σ H v u Q I r hw
 obtain⟨a,xs,e1,hq,hl,hw⟩:=hw
 subst e1
 cases r
 obtain⟨its,rv,ht,hz⟩:=I.tuple hq
 refine assign_Tuple_tuple (I.ok.hd hc) ht (by simp [hn,<-hl,rv.length]) hst fun h' hx=> ?_
 have I1:g8 X pins σ H {s with heap:=h'}:=I.kept (t':=s.toks) fun b o e=>hx b o (Ai (AX e)) e
 exact h pins _ σ H xs _ Q I1 (by simpa using rv) hw
def b9m(te:TE)(g:TG):TS:=fun D σ H=>te σ H fun x H1=>g x σ H1 D.nx
theorem b7R{tg e:AG}{te:TE}{g:TG}(he:PE X e te)(hg:PG X tg g)(hs:swapsWithSole [tg] e pos.line X.env=pure false:=by rfl)(hw:swappedStores [tg] e X.env=pure none:=by rfl)
 (h1:(assignEach [tg] X.env).map (·.2)=[assign tg X.env]:=by rfl):PS X (.Assign [tg] e pos) (b9m te g):=by
 intro pins s σ H D I h
 refine wpAny_Assign_stores (A6 (he pins s σ H _ I h) fun v s1 h0=>j8 h0 fun x H1 I1 r1 q1=> ?_) hs hw
 rw [h1]
 exact A6 (hg pins s1 σ H1 x v _ I1 r1 q1) fun _ s2 q=>q
theorem b7U{i:Nat}{x:Str}{e:AG}{te:TE}{pos':Pos}(hN:X.N.Nodup)(hi:X.N[i]?=some x)(hx:Loc X.env.scope x)(he:PE X e te)(hs:swapsWith e (some (.Name x pos')) pos.line X.env=pure false:=by rfl)(hf:X.fn x=true\/X.env.scope.names.lookup x=some .local:=by first|exact .inl rfl|exact .inr rfl|assumption):
 PS X (.Assign [.Name x pos'] e pos) (b9m te (a7F i)):=by
 intro pins s σ H D I h
 refine wpAny_Assign_Name (A6 (he pins s σ H _ I h) fun v s1 h0=>j8 h0 fun y H1 I1 r1 q1=> ?_) hs
 exact Z2 I1 hN hi hx r1 (fun s2 I2=>⟨_,H1,I2,q1⟩) hf
def b95(i j:Nat)(ta:TA):TS:=fun D σ H=>ta σ H fun vs H1=>∃v w,vs=[v,w]/\D.nx ((σ.set i (some v)).set j (some w)) H1
theorem b7T{i j:Nat}{x y:Str}{a b:AG}{ta:TA}{px py pt:Pos}{kt k2 pt2}(hc:X.calm=true)(hN:X.N.Nodup)(hi:X.N[i]?=some x)(hj:X.N[j]?=some y)(hij:i≠j)
 (hx:X.env.scope.names.lookup x=some .local) (hy:X.env.scope.names.lookup y=some .local) (ha:PA X [a,b] ta)
 (hw:swappedStores [.Tuple [.Name x px,.Name y py] kt pt] (.Tuple [a,b] k2 pt2) X.env=pure (some [x,y]))
 (hs:swapsWithSole [.Tuple [.Name x px,.Name y py] kt pt] (.Tuple [a,b] k2 pt2) pos.line X.env=pure false:=by rfl):
 PS X (.Assign [.Tuple [.Name x px,.Name y py] kt pt] (.Tuple [a,b] k2 pt2) pos) (b95 i j ta):=by
 intro pins s σ H D I h
 rw [exec_Assign_arm]
 refine AD (wpAny_standAt ?_)
 rw [hs]
 refine AD (AI ?_)
 rw [if_neg (by decide)]
 refine AD (Tuple_ (A6 (ha _ pins s σ H _ I h) fun us s1 h0=>j8 h0 fun vs H1 I1 r1 q1=> ?_))
 obtain⟨v,w,e1,q1⟩:=q1
 subst e1
 obtain⟨u1,u2,rfl,rv,rw'⟩:∃u1 u2,us=[u1,u2]/\j6 v u1/\j6 w u2:=by
  cases r1 with
  |cons p q=>
   cases q with
   |cons p' q'=>
    cases q'
    exact⟨_,_,rfl,p,p'⟩
 refine wpAny_newObj_type ?_ (by show 2<=AN;decide)
 have I2:g8 X pins σ H1 {s1 with heap:=s1.heap.push {cls:= .type "tuple",data:= .seq [u1,u2].toArray}}:=I1.kept (t':=s1.toks) fun b o e=>AU _ e
 rw [hw]
 refine AD (AI ?_)
 show AF (model X.prog X.w) X.A (do rule "assign.swapped-stores";let items<-unpackItems (.ref s1.heap.objs.size) 2 none;assignInOrder [fun v=>bindName X.env y v,fun v=>bindName X.env x v] items.reverse;pure Flow.next) _ _ _
 refine AD (wpAny_rule (AD (unpackItems_tuple (items:= #[u1,u2]) (I.ok.hd hc) (IsTup.new s1.heap _) fun h' hx'=> ?_)))
 have I3:=I2.kept (h':=h') (t':=s1.toks) fun b o e=>hx' b o (Ai (AX e)) e
 show AF _ _ (assignInOrder [fun v=>bindName X.env y v,fun v=>bindName X.env x v] [u2,u1]>>=fun _=>pure Flow.next) _ _ _
 refine AD (assignInOrder_cons (wpAny_bindName (Z2 I3 hN hj (.inl hy) rw' (fun s2 I4=> ?_) (.inr hy))))
 refine assignInOrder_cons (wpAny_bindName (Z2 I4 hN hi (.inl hx) rv (fun s3 I5=>assignInOrder_nil (AI ?_)) (.inr hx)))
 rw [List.set_comm _ _ (Ne.symm hij)] at I5
 exact⟨_,H1,I5,q1⟩
def b9Z(i:Nat)(te:TE)(ti:TIp):TS:=fun D σ H=>∃x,σ[i]?=some (some x)/\te σ H fun y H1=>ti x y H1 fun z H2=>D.nx (σ.set i (some z)) H2
theorem b7S{i:Nat}{x:Str}{e:AG}{te:TE}{op:Operator}{ti:TIp}{pos':Pos}(hN:X.N.Nodup)(hi:X.N[i]?=some x)(hx:Loc X.env.scope x)(he:PE X e te)(ho:PIp X op ti)(hf:X.fn x=true\/X.env.scope.names.lookup x=some .local:=by first|exact .inl rfl|exact .inr rfl|assumption):
 PS X (.AugAssign (.Name x pos') op e pos) (b9Z i te ti):=by
 intro pins s σ H D I h
 obtain⟨v,e1,h⟩:=h
 obtain⟨m,hn,hl⟩:=I.loc
 have vis:Vis X.env.scope x:=by rcases hx with k|k;exact .inl k;exact .inr (.inl k)
 obtain⟨u,r,l⟩:=hl i x v hi e1 vis
 refine wpAny_AugAssign_Name ?_
 have go:AF (model X.prog X.w) X.A (eval e X.env) (fun w s₂=>AF (model X.prog X.w) X.A (inplaceOp op u w) (fun r s₃=>AF (model X.prog X.w) X.A (storeName X.env x r) (fun _=>SP X pins D .next) X.xe s₃) X.xe s₂) X.xe s:=by
  refine A6 (he pins s σ H _ I h) fun w s1 h0=>j8 h0 fun y H1 I1 r1 q1=> ?_
  refine A6 (ho pins s1 σ H1 v y u w _ I1 r r1 q1) fun z s2 h0=>j8 h0 fun zv H2 I2 r2 q2=> ?_
  exact Z2 I2 hN hi hx r2 (fun s3 I3=>⟨_,H2,I3,q2⟩) hf
 rcases l with⟨hk,hm⟩|⟨hk,c,hc,hcell⟩
 ·exact wpAny_loadName_local I.ok.kind hk hn hm go
 ·rcases hk with hk|hk
  ·exact wpAny_loadName_cell I.ok.kind hk hc hcell go
  ·rcases hx with k|k
   ·have:X.env.scope.names.lookup x=some .free:=hk
    rw [k] at this;cases this
   ·have:X.env.scope.names.lookup x=some .free:=hk
    rw [k] at this;cases this
end
section
variable {X:Cx}{pos:Pos}
def b77(c:TT)(tb:TS):TS:=fun D σ H=>∃W:Nat->St->Hp->Prop,(∃m,W m σ H)/\∀m σ H,W m σ H->
 c σ H fun b H1=>if b=true then ∃N:St->Hp->Prop,(∀σ' H',N σ' H'->∃m',m'<m/\W m' σ' H')/\tb {D with nx:=N,ct:=N,bk:=D.nx} σ H1 else D.nx σ H1
theorem b3H{c:AG}{body:List Stmt}{tc:TT}{tb:TS}(hp:PassesOwn (model X.prog X.w) X.A X.env X.xe)(hc:PT X c tc)(hb:PSs X body tb):PS X (.While c body [] pos) (b77 tc tb):=by
 intro pins s σ H D I h
 obtain⟨W,⟨m0,w0⟩,turn⟩:=h
 refine wpAny_While (codeAny_whileLoop (fun n s'=>∃σ' H',g8 X pins σ' H' s'/\W n σ' H') ?_ m0 ⟨σ,H,I,w0⟩)
 rintro n s1 ⟨σ1,H1,I1,w1⟩
 refine wpAny_passesOwn hp (A6 (hc pins s1 σ1 H1 _ I1 (turn n σ1 H1 w1)) fun b s2 ⟨H2,I2,q2⟩=> ?_)
 cases b with
 |true=>
  obtain⟨N,hN,q2⟩:=q2
  rw [if_pos rfl]
  refine wpAny_passesOwn hp (A6 (hb pins s2 σ1 H2 _ I2 q2) fun f s3 q3=> ?_)
  cases f with
  |next=>
   obtain⟨σ3,H3,I3,n3⟩:=q3
   obtain⟨m',hm,w3⟩:=hN σ3 H3 n3
   exact⟨m',hm,σ3,H3,I3,w3⟩
  |cont=>
   obtain⟨σ3,H3,I3,n3⟩:=q3
   obtain⟨m',hm,w3⟩:=hN σ3 H3 n3
   exact⟨m',hm,σ3,H3,I3,w3⟩
  |brk=>exact q3
  |ret v=>exact q3
 |false=>
  rw [if_neg Az]
  exact wpAny_execs_nil ⟨σ1,H2,I2,q2⟩
end
structure It where
 go:Nat->Hp->Prop
 yld:Nat->Hp->V->Hp->Prop
 stop:Nat->Hp->Prop
def a58(X:Cx)(pins:List (AB×Obj))(H:Hp)(b:AB):Prop:=
 H b=none/\b≠X.env.locals/\b∉X.fs/\(b∈X.ex\/X.s₀.heap.objs.size<=b)/\(∀x c,X.env.cells.lookup x=some c->c≠b)/\∀p∈X.pn++pins,p.1≠b
theorem g8.fpOk{X:Cx}{pins:List (AB×Obj)}{σ:St}{H H':Hp}{s:AC}{b:AB}(I:g8 X pins σ H s)(hb:s.heap.objs.size<=b)(hn:H' b=none):a58 X pins H' b:=by
 refine⟨hn,Nat.ne_of_gt (Ax I.lt hb),I.nofs hb,.inr (Nat.le_trans I.sz hb),fun x c e z=> ?_,fun p hp z=> ?_⟩
 ·obtain⟨v,q⟩:=I.cell x c e
  exact absurd (Ax q.lt (by rw [z];exact hb)) (Nat.lt_irrefl _)
 ·exact absurd (Ax (AX (I.pin p hp).1) (by rw [z];exact hb)) (Nat.lt_irrefl _)
structure a8F(P:AJ)(w:AH)(K:AE)(tg:AG)(J:It)(fp:List AB)(it:AB)(tn:Nat->Heap->Prop):Prop where
 mem:it∈fp
 obj:∀i h,tn i h->∀b∈fp,∃o,h.get? b=some o/\∀v,o.data≠.cell v
 keep:∀i h h',tn i h->(∀b∈fp,∀o,h.get? b=some o->h'.get? b=some o)->tn i h'
 item:∀(X:Cx),X.prog=P->X.w=w->X.K=K->X.calm=true->∀(i:Nat) (pins:List (AB×Obj)) (s:AC) (σ:St) (H:Hp) (E:AA->AC->Prop),g8 X pins σ H s->(∀b∈fp,a58 X pins H b)->tn i s.heap->J.go i H->
  AF (model P w) X.A (pyNext (.ref it)) (fun r s1=>∃u,r=some u/\
   AF (model P w) X.A (letOwnedTupleGo tg (.ref it) u) (fun _ s2=>∃x H',g8 X pins σ H' s2/\j6 x u/\J.yld i H x H'/\tn (i+1) s2.heap/\∀b∈fp,H' b=none) E s1) E s
 done:∀(X:Cx),X.prog=P->X.w=w->X.K=K->X.calm=true->∀(i:Nat) (pins:List (AB×Obj)) (s:AC) (σ:St) (H:Hp) (E:AA->AC->Prop),g8 X pins σ H s->(∀b∈fp,a58 X pins H b)->tn i s.heap->J.stop i H->
   AF (model P w) X.A (pyNext (.ref it)) (fun r s1=>r=none/\g8 X pins σ H s1) E s
 self:∀(A:AL) (i:Nat) (s:AC) (Q:AA->AC->Prop) (E:AA->AC->Prop),tn i s.heap->Q (.ref it) s->AF (model P w) A (pyIter (.ref it)) Q E s
abbrev TI:=St->Hp->(It->Hp->Prop)->Prop
def PIE(X:Cx)(pins:List (AB×Obj))(σ:St)(tg:AG)(R:It->Hp->Prop)(itv:AA)(s2:AC):Prop:=
 ∃(it:AB) (fp:List AB) (tn:Nat->Heap->Prop) (J:It) (H':Hp),itv= .ref it/\g8 X pins σ H' s2/\a8F X.prog X.w X.K tg J fp it tn/\tn 0 s2.heap/\(∀b∈fp,a58 X pins H' b)/\R J H'
def PI(X:Cx)(tg iter:AG)(wi:TI):Prop:=
 ∀(pins:List (AB×Obj)) (s:AC) (σ:St) (H:Hp) (R:It->Hp->Prop),g8 X pins σ H s->wi σ H R->
  AF (model X.prog X.w) X.A (eval iter X.env) (fun v s1=>AF (model X.prog X.w) X.A (pyIter v) (PIE X pins σ tg R) X.xe s1) X.xe s
theorem a99{M:Model}{A:AL}{E:AA->AC->Prop}{s:AC}{tg:AG}{it:AB}{u:AA}{o:Obj}{n:String}{vs:Array AA}{Q:Unit->AC->Prop}(ho:s.heap.get? it=some o)(hc:o.cls= .type n)(hd:o.data= .fields vs)
 (hn:["enumerate","zip","dict_itemiterator","dict_reverseitemiterator","odict_iterator","itertools.zip_longest","itertools.pairwise"].contains n=false) (hQ:Q () s):AF M A (letOwnedTupleGo tg (.ref it) u) Q E s:=by
 unfold letOwnedTupleGo
 cases tg<;>first
  |exact AI hQ
  |(cases u<;>first
   |exact AI hQ
   |(refine AD (wpAny_load ho ?_)
     rw [hc,hd]
     show AF M A (if(["enumerate","zip","dict_itemiterator","dict_reverseitemiterator","odict_iterator","itertools.zip_longest","itertools.pairwise"].contains n && vs[0]?==some (rawInt _))=true then _ else _) Q E s
     rw [if_neg (by intro h;rw [hn,Bool.false_and] at h;cases h)]
     exact AI hQ))
def Itl(K:AE)(a:AB):It:=
 ⟨fun i H=>∃xs x,Q4 K H a xs/\xs[i]?=some x,fun i H x H'=>H'=H/\∀xs,Q4 K H a xs->xs[i]?=some x,fun i H=>∃xs,Q4 K H a xs/\xs.length<=i⟩
def Itt(K:AE)(a:AB):It:=
 ⟨fun i H=>∃xs x,SqT K H a xs/\xs[i]?=some x,fun i H x H'=>H'=H/\∀xs,SqT K H a xs->xs[i]?=some x,fun i H=>∃xs,SqT K H a xs/\xs.length<=i⟩
def Itr(lo:Int)(n:Nat):It:=⟨fun i _=>i<n,fun i H x H'=>H'=H/\x= .int (lo+i),fun i _=>n<=i⟩
theorem a51{P:AJ}{w:AH}{K:AE}{tg:AG}(a it:AB):a8F P w K tg (Itl K a) [it] it (fun i h=>h.IsListIter it a i) where
 mem:=by simp
 obj:=fun i h st b hb=>by
  have e:b=it:=by simpa using hb
  subst e
  obtain⟨o,e,c,d⟩:=st
  exact⟨o,e,fun v z=>by rw [d] at z;cases z⟩
 keep:=fun i h h' st k=>st.at fun o e=>k it (by simp) o e
 item:=by
  intro X hP hw hK hc i pins s σ H E I hf st hg
  subst hP hw hK
  obtain⟨xs,x,hq,hx⟩:=hg
  obtain⟨its,rv,p,hz⟩:=I.list hq
  obtain⟨u,hu,ru⟩:=rv.get hx
  obtain⟨f0,f1,f2,f3,f4,f5⟩:=hf it (by simp)
  refine wpAny_pyNext_list_item st p.isList (x:=u) (by simpa using hu) fun h' st' sb=> ?_
  have I1:g8 X pins σ H {s with heap:=h'}:=I.turned (t':=s.toks) (fun b o hb e=>(sb.2 b hb).trans e) f0 f1 f3 f4 f5
  obtain⟨o,e,c,d⟩:=id st'
  exact⟨u,rfl,a99 (s:={s with heap:=h'}) e c d (by decide) ⟨x,H,I1,ru,⟨rfl,fun ys hy=>by rw [I.list_inj hy hq];exact hx⟩,st',fun b hb=>(hf b hb).1⟩⟩
 done:=by
   intro X hP hw hK hc i pins s σ H E I hf st hg
   subst hP hw hK
   obtain⟨xs,hq,hx⟩:=hg
   obtain⟨its,rv,p,hz⟩:=I.list hq
   obtain⟨f0,f1,f2,f3,f4,f5⟩:=hf it (by simp)
   have hl:=rv.length
   exact wpAny_pyNext_list_end (I.ok.hd hc) st p.isList (by simp;lia) fun h' eb=>⟨rfl,I.turned (t':=s.toks) (fun b o hb e=>eb b o hb e) f0 f1 f3 f4 f5⟩
 self:=fun _ _ _ _ _ st h=>wpAny_pyIter_listiter st h
theorem a9t{P:AJ}{w:AH}{K:AE}{tg:AG}(a it:AB):a8F P w K tg (Itt K a) [it] it (fun i h=>h.IsTupleIter it a i) where
 mem:=by simp
 obj:=fun i h st b hb=>by
  have e:b=it:=by simpa using hb
  subst e
  obtain⟨o,e,c,d⟩:=st
  exact⟨o,e,fun v z=>by rw [d] at z;cases z⟩
 keep:=fun i h h' st k=>st.at fun o e=>k it (by simp) o e
 item:=by
  intro X hP hw hK hc i pins s σ H E I hf st hg
  subst hP hw hK
  obtain⟨xs,x,hq,hx⟩:=hg
  obtain⟨its,rv,p,hz⟩:=I.tuple hq
  obtain⟨u,hu,ru⟩:=rv.get hx
  obtain⟨f0,f1,f2,f3,f4,f5⟩:=hf it (by simp)
  refine wpAny_pyNext_tuple_item st (show s.heap.IsTuple a its.toArray from p) (x:=u) (by simpa using hu) fun h' st' sb=> ?_
  have I1:g8 X pins σ H {s with heap:=h'}:=I.turned (t':=s.toks) (fun b o hb e=>(sb.2 b hb).trans e) f0 f1 f3 f4 f5
  obtain⟨o,e,c,d⟩:=id st'
  exact⟨u,rfl,a99 (s:={s with heap:=h'}) e c d (by decide) ⟨x,H,I1,ru,⟨rfl,fun ys hy=>by rw [I.tuple_inj hy hq];exact hx⟩,st',fun b hb=>(hf b hb).1⟩⟩
 done:=by
   intro X hP hw hK hc i pins s σ H E I hf st hg
   subst hP hw hK
   obtain⟨xs,hq,hx⟩:=hg
   obtain⟨its,rv,p,hz⟩:=I.tuple hq
   obtain⟨f0,f1,f2,f3,f4,f5⟩:=hf it (by simp)
   have hl:=rv.length
   exact wpAny_pyNext_tuple_end (I.ok.hd hc) st (show s.heap.IsTuple a its.toArray from p) (by simp;lia) fun h' eb=>⟨rfl,I.turned (t':=s.toks) (fun b o hb e=>eb b o hb e) f0 f1 f3 f4 f5⟩
 self:=fun _ _ _ _ _ st h=>wpAny_pyIter_tupleiter st h
theorem a9s{P:AJ}{w:AH}{K:AE}{tg:AG}(it:AB)(lo:Int)(n:Nat):a8F P w K tg (Itr lo n) [it] it (fun i h=>IsRangeIter h it (lo+(i:Nat)*1) ((n:Int) - (i:Nat)) 1) where
 mem:=by simp
 obj:=fun i h st b hb=>by
  have e:b=it:=by simpa using hb
  subst e
  exact⟨_,st,fun v z=>by
   have z':Data.fields _=Data.cell v:=z
   cases z'⟩
 keep:=fun i h h' st k=>k it (by simp) _ st
 item:=by
  intro X hP hw hK hc i pins s σ H E I hf st hg
  subst hP hw hK
  obtain⟨f0,f1,f2,f3,f4,f5⟩:=hf it (by simp)
  have W:=Walks.range (prog:=X.prog) (w:=X.w) (I.ok.hd hc) it lo 1 n
  refine W.item i s _ _ hg st fun v h' tk hv st' kk=> ?_
  obtain⟨t,rfl⟩:=hv
  have I1:g8 X pins σ H {s with heap:=h',toks:=tk}:=I.turned (fun b o hb e=>kk b o (by simpa using hb) e) f0 f1 f3 f4 f5
  refine⟨_,rfl,a99 (s:={s with heap:=h',toks:=tk}) (n:="range_iterator") st' rfl rfl (by decide) ⟨.int (lo+i),H,I1,⟨t, ?_⟩,⟨rfl,rfl⟩,st',fun b hb=>(hf b hb).1⟩⟩
  rw [Int.mul_one]
 done:=by
   intro X hP hw hK hc i pins s σ H E I hf st hg
   subst hP hw hK
   obtain⟨f0,f1,f2,f3,f4,f5⟩:=hf it (by simp)
   exact wpAny_pyNext_range_end (I.ok.hd hc) st (by have:n<=i:=hg;lia) fun h' eb=>⟨rfl,I.turned (t':=s.toks) (fun b o hb e=>eb b o hb e) f0 f1 f3 f4 f5⟩
 self:=fun _ _ _ _ _ st h=>wpAny_pyIter_rangeiter st h
section
variable {X:Cx}{tg:AG}
theorem a8e{pins:List (AB×Obj)}{σ:St}{H:Hp}{s:AC}{R:It->Hp->Prop}{E:AA->AC->Prop}{lo hi:Int}{t u v:Tok}{tk:Nat}(I:g8 X pins σ H s)(h1: -(2 ^ 62)<=lo)(h2:lo<2 ^ 62)(h3: -(2 ^ 62)<=hi)(h4:hi<2 ^ 62)
 (q:R (Itr lo (hi - lo).toNat) H):AF (model X.prog X.w) X.A (pyIter (.ref s.heap.objs.size)) (PIE X pins σ tg R) E {s with heap:=s.heap.push {cls:= .type "range",data:= .fields #[.int lo t,.int hi u,.int 1 v]},toks:=tk}:=by
 refine wpAny_pyIter_range (IsRange.new ..) (small_one h1 h2 h3 h4) ?_
 have I1:g8 X pins σ H {s with heap:=s.heap.push {cls:= .type "range",data:= .fields #[.int lo t,.int hi u,.int 1 v]},toks:=tk}:=I.kept fun b o e=>AU _ e
 refine⟨(s.heap.push {cls:= .type "range",data:= .fields #[.int lo t,.int hi u,.int 1 v]}).objs.size,[(s.heap.push {cls:= .type "range",data:= .fields #[.int lo t,.int hi u,.int 1 v]}).objs.size],_,_,H,rfl,
  I1.kept (t':=tk) fun b o e=>AU _ e,a9s _ lo (hi - lo).toNat, ?_,fun b hb=> ?_,q⟩
 ·have e1:lo+((0:Nat):Int)*1=lo:=by simp
  have e2:(((hi - lo).toNat:Nat):Int) - ((0:Nat):Int)=Builtin.Range.rangeSize lo hi 1:=by rw [rangeSize_one];split<;>lia
  show IsRangeIter _ _ (lo+((0:Nat):Int)*1) ((((hi - lo).toNat:Nat):Int) - ((0:Nat):Int)) 1
  rw [e1,e2]
  exact Aq _ rfl
 ·have e:b=(s.heap.push {cls:= .type "range",data:= .fields #[.int lo t,.int hi u,.int 1 v]}).objs.size:=by simpa using hb
  subst e
  exact I1.fpOk (AO _) (I1.hok.fresh (AO _))
def b8S(ta:TA):TI:=fun σ H R=>ta σ H fun vs H1=>∃j:Int,vs=[.int j]/\ -(2 ^ 62)<=j/\j<2 ^ 62/\R (Itr 0 j.toNat) H1
def b8T(ta:TA):TI:=fun σ H R=>ta σ H fun vs H1=>∃i j:Int,vs=[.int i,.int j]/\(-(2 ^ 62)<=i/\i<2 ^ 62/\ -(2 ^ 62)<=j/\j<2 ^ 62)/\R (Itr i (j - i).toNat) H1
theorem a5N{a:AG}{ta:TA}{p pos:Pos}(hg:Gl X "range")(hm:X.mg "range"=none)(ha:PA X [a] ta)(hs:AQ [a] X.env=[(false,eval a X.env)]:=by rfl):PI X tg (.Call (.Name "range" p) [a] [] pos) (b8S ta):=by
 intro pins s σ H R I h
 refine Call_ (a3Z I hg hm boot_range (PyProof.Rows.callWith_type1 (A6 (ha pos pins s σ H _ I h) fun us s1 h0=>j8 h0 fun vs H1 I1 r1 q1=> ?_) hs rfl))
 obtain⟨j,e,q1,q2,q⟩:=q1
 subst e
 cases r1 with
 |cons r rr=>
  cases rr
  obtain⟨t,rfl⟩:=r
  exact call_range_1 (a8e I1 (by lia) (by lia) q1 q2 (by simpa using q))
theorem b1F{a b:AG}{ta:TA}{p pos:Pos}(hg:Gl X "range")(hm:X.mg "range"=none)(ha:PA X [a,b] ta)(hs:AQ [a,b] X.env=[(false,eval a X.env),(false,eval b X.env)]:=by rfl)(hs2:AQ [b] X.env=[(false,eval b X.env)]:=by rfl):
 PI X tg (.Call (.Name "range" p) [a,b] [] pos) (b8T ta):=by
 intro pins s σ H R I h
 refine Call_ (a3Z I hg hm boot_range (PyProof.Rows.callWith_type1 (A6 (ha pos pins s σ H _ I h) fun us s1 h0=>j8 h0 fun vs H1 I1 r1 q1=> ?_) (by rw [hs,hs2]) (by rw [hs2];rfl)))
 obtain⟨i,j,e,⟨q1,q2,q3,q4⟩,q⟩:=q1
 subst e
 cases r1 with
 |cons r rr=>
  cases rr with
  |cons r' rr=>
   cases rr
   obtain⟨t,rfl⟩:=r
   obtain⟨t',rfl⟩:=r'
   exact call_range_2 (a8e I1 q1 q2 q3 q4 q)
def b90(wi:TI)(g:TG)(tb:TS):TS:=fun D σ H=>wi σ H fun J H1=>∃W:Nat->Nat->St->Hp->Prop,(∃m,W 0 m σ H1)/\∀i m σ H,W i m σ H->
 (J.stop i H/\D.nx σ H)\/(J.go i H/\∃N:St->Hp->Prop,(∀σ' H',N σ' H'->∃m',m'<m/\W (i+1) m' σ' H')/\∀x H',J.yld i H x H'->g x σ H' fun σ2 H2=>tb {D with nx:=N,ct:=N,bk:=D.nx} σ2 H2)
def a4n(fp:List AB)(h:Heap):List (AB×Obj):=fp.filterMap fun b=>(h.get? b).map fun o=>(b,o)
theorem T7{fp:List AB}{h:Heap}{b:AB}{o:Obj}(hb:b∈fp)(e:h.get? b=some o):(b,o)∈a4n fp h:=List.mem_filterMap.mpr ⟨b,hb,by rw [e];rfl⟩
theorem b1x{fp:List AB}{h:Heap}{p:AB×Obj}(hp:p∈a4n fp h):p.1∈fp/\h.get? p.1=some p.2:=by
 obtain⟨b,hb,e⟩:=List.mem_filterMap.mp hp
 cases q:h.get? b with
 |none=>rw [q] at e;cases e
 |some o=>
  rw [q] at e
  have e':(b,o)=p:=Option.some.inj e
  subst e'
  exact⟨hb,q⟩
theorem g8.pinned{pins:List (AB×Obj)}{σ:St}{H:Hp}{s:AC}{fp:List AB}(I:g8 X pins σ H s)(hf:∀b∈fp,a58 X pins H b)(ho:∀b∈fp,∃o,s.heap.get? b=some o/\∀v,o.data≠.cell v):g8 X (pins++a4n fp s.heap) σ H s:=
 I.pins_of fun p hp=>(Ay.mp hp).elim (fun z=>I.pin p (BA _ z)) fun z=>by
  obtain⟨hb,e⟩:=b1x z
  obtain⟨f0,f1,f2,_⟩:=hf p.1 hb
  obtain⟨o,e',d⟩:=ho p.1 hb
  rw [e] at e';cases e'
  exact⟨e,f0,f1,f2,d⟩
theorem g8.unpinned{pins pl:List (AB×Obj)}{σ:St}{H:Hp}{s:AC}(I:g8 X (pins++pl) σ H s):g8 X pins σ H s:=I.pins_of fun p hp=>I.pin p (BA _ (BF _ hp))
theorem a6W{iter:AG}{body:List Stmt}{wi:TI}{g:TG}{tb:TS}{pos:Pos}(hp:PassesOwn (model X.prog X.w) X.A X.env X.xe)(hc:X.calm=true)(hi:PI X tg iter wi)(hg:PG X tg g)(hb:PSs X body tb)
 (hs:∀x,foldedSetIterable iter X.env x=pure x:=by intro _;rfl):PS X (.For tg iter body [] pos) (b90 wi g tb):=by
 intro pins s σ H D I h
 refine wpAny_For (A6 (hi pins s σ H _ I h) fun v s1 h1=>A6 h1 fun itv s2 h2=> ?_) hs
 obtain⟨it,fp,tn,J,H2,e,I2,T,st2,f2,W,⟨m0,w0⟩,turn⟩:=h2
 subst e
 have stat:∀{H':Hp},(∀b∈fp,H' b=none)->∀b∈fp,a58 X pins H' b:=fun hn b hb=>⟨hn b hb,(f2 b hb).2⟩
 refine codeAny_forLoop_any (fun n s'=>∃i σ' H',g8 X pins σ' H' s'/\tn i s'.heap/\(∀b∈fp,H' b=none)/\W i n σ' H') ?_ m0 ⟨0,σ,H2,I2,st2,fun b hb=>(f2 b hb).1,w0⟩
 rintro n s3 ⟨i,σ3,H3,I3,st3,fr3,w3⟩
 rcases turn i n σ3 H3 w3 with⟨stop,qn⟩|⟨go,N,hN,step⟩
 ·refine wpAny_passesOwn hp (A6 (T.done X rfl rfl rfl hc i pins s3 σ3 H3 X.xe I3 (stat fr3) st3 stop) fun r s4 ⟨hr,I4⟩=> ?_)
  subst hr
  exact wpAny_execs_nil ⟨σ3,H3,I4,qn⟩
 ·refine wpAny_passesOwn hp (A6 (T.item X rfl rfl rfl hc i pins s3 σ3 H3 X.xe I3 (stat fr3) st3 go) fun r s4 ⟨u,hr,h4⟩=> ?_)
  subst hr
  refine wpAny_passesOwn hp (A6 h4 fun _ s5 ⟨x,H5,I5,r5,y5,st5,fr5⟩=> ?_)
  have I5':=I5.pinned (stat fr5) (T.obj _ _ st5)
  refine wpAny_passesOwn hp (A6 (hg _ s5 σ3 H5 x u _ I5' r5 (step x H5 y5)) fun _ s6 ⟨σ6,H6,I6,q6⟩=> ?_)
  refine wpAny_passesOwn hp (A6 (hb _ s6 σ6 H6 _ I6 q6) fun f s7 q7=> ?_)
  have again:∀{σ7:St} {H7:Hp},g8 X (pins++a4n fp s5.heap) σ7 H7 s7->N σ7 H7->∃m,m<n/\∃i σ' H',g8 X pins σ' H' s7/\tn i s7.heap/\(∀b∈fp,H' b=none)/\W i m σ' H':=fun {σ7 H7} I7 n7=>by
   obtain⟨m',hm,w7⟩:=hN σ7 H7 n7
   refine⟨m',hm,i+1,σ7,H7,I7.unpinned,T.keep _ _ _ st5 fun b hb o e=>(I7.pin (b,o) (BA _ (BA _ (T7 hb e)))).1,fun b hb=> ?_,w7⟩
   obtain⟨o,e,d⟩:=T.obj _ _ st5 b hb
   exact(I7.pin (b,o) (BA _ (BA _ (T7 hb e)))).2.1
  cases f with
  |next=>obtain⟨σ7,H7,I7,n7⟩:=q7;exact again I7 n7
  |cont=>obtain⟨σ7,H7,I7,n7⟩:=q7;exact again I7 n7
  |brk=>obtain⟨σ7,H7,I7,q7⟩:=q7;exact⟨σ7,H7,I7.unpinned,q7⟩
  |ret v=>obtain⟨x7,σ7,H7,I7,r7,q7⟩:=q7;exact⟨x7,σ7,H7,I7.unpinned,r7,q7⟩
end
theorem b2A{K:AE}{a:AB}{xs:List V}{g:TG}{tb:TS}{D:Q3}{σ:St}{H:Hp}(Pv:Nat->St->Hp->Prop)(h0:Pv 0 σ H)(hl:∀i σ H,i<=xs.length->Pv i σ H->Q4 K H a xs)
 (hs:∀i x σ H,xs[i]?=some x->Pv i σ H->g x σ H fun σ2 H2=>tb {D with nx:=Pv (i+1),ct:=Pv (i+1),bk:=D.nx} σ2 H2) (hd:∀σ H,Pv xs.length σ H->D.nx σ H):
 ∃W:Nat->Nat->St->Hp->Prop,(∃m,W 0 m σ H)/\∀i m σ H,W i m σ H->
  ((Itl K a).stop i H/\D.nx σ H)\/((Itl K a).go i H/\∃N:St->Hp->Prop,(∀σ' H',N σ' H'->∃m',m'<m/\W (i+1) m' σ' H')/\∀x H',(Itl K a).yld i H x H'->g x σ H' fun σ2 H2=>tb {D with nx:=N,ct:=N,bk:=D.nx} σ2 H2):=by
 refine⟨fun i m σ H=>m=xs.length - i/\i<=xs.length/\Pv i σ H,⟨xs.length,by simp,Nat.zero_le _,h0⟩, ?_⟩
 rintro i m σ H ⟨rfl,hi,p⟩
 have q:=hl i σ H hi p
 by_cases hlt:i<xs.length
 ·refine .inr ⟨⟨xs,xs[i],q,by simp [hlt]⟩,Pv (i+1),fun σ' H' p'=>⟨xs.length - (i+1),by lia,rfl,hlt,p'⟩,fun x H' y=> ?_⟩
  obtain⟨e,y⟩:=y
  subst e
  exact hs i x σ _ (y xs q) p
 ·have e:i=xs.length:=by lia
  subst e
  exact .inl ⟨⟨xs,q,AO _⟩,hd σ H p⟩
theorem b4G{K:AE}{a:AB}{xs:List V}{g:TG}{tb:TS}{D:Q3}{σ:St}{H:Hp}(Pv:Nat->St->Hp->Prop)(h0:Pv 0 σ H)(hl:∀i σ H,i<=xs.length->Pv i σ H->SqT K H a xs)
 (hs:∀i x σ H,xs[i]?=some x->Pv i σ H->g x σ H fun σ2 H2=>tb {D with nx:=Pv (i+1),ct:=Pv (i+1),bk:=D.nx} σ2 H2) (hd:∀σ H,Pv xs.length σ H->D.nx σ H):
 ∃W:Nat->Nat->St->Hp->Prop,(∃m,W 0 m σ H)/\∀i m σ H,W i m σ H->
  ((Itt K a).stop i H/\D.nx σ H)\/((Itt K a).go i H/\∃N:St->Hp->Prop,(∀σ' H',N σ' H'->∃m',m'<m/\W (i+1) m' σ' H')/\∀x H',(Itt K a).yld i H x H'->g x σ H' fun σ2 H2=>tb {D with nx:=N,ct:=N,bk:=D.nx} σ2 H2):=by
 refine⟨fun i m σ H=>m=xs.length - i/\i<=xs.length/\Pv i σ H,⟨xs.length,by simp,Nat.zero_le _,h0⟩, ?_⟩
 rintro i m σ H ⟨rfl,hi,p⟩
 have q:=hl i σ H hi p
 by_cases hlt:i<xs.length
 ·refine .inr ⟨⟨xs,xs[i],q,by simp [hlt]⟩,Pv (i+1),fun σ' H' p'=>⟨xs.length - (i+1),by lia,rfl,hlt,p'⟩,fun x H' y=> ?_⟩
  obtain⟨e,y⟩:=y
  subst e
  exact hs i x σ _ (y xs q) p
 ·have e:i=xs.length:=by lia
  subst e
  exact .inl ⟨⟨xs,q,AO _⟩,hd σ H p⟩
theorem a5s{lo:Int}{n:Nat}{g:TG}{tb:TS}{D:Q3}{σ:St}{H:Hp}(Pv:Nat->St->Hp->Prop)(h0:Pv 0 σ H)
 (hs:∀i σ H,i<n->Pv i σ H->g (.int (lo+i)) σ H fun σ2 H2=>tb {D with nx:=Pv (i+1),ct:=Pv (i+1),bk:=D.nx} σ2 H2) (hd:∀σ H,Pv n σ H->D.nx σ H):
 ∃W:Nat->Nat->St->Hp->Prop,(∃m,W 0 m σ H)/\∀i m σ H,W i m σ H->
  ((Itr lo n).stop i H/\D.nx σ H)\/((Itr lo n).go i H/\∃N:St->Hp->Prop,(∀σ' H',N σ' H'->∃m',m'<m/\W (i+1) m' σ' H')/\∀x H',(Itr lo n).yld i H x H'->g x σ H' fun σ2 H2=>tb {D with nx:=N,ct:=N,bk:=D.nx} σ2 H2):=by
 refine⟨fun i m σ H=>m=n - i/\i<=n/\Pv i σ H,⟨n,by simp,Nat.zero_le _,h0⟩, ?_⟩
 rintro i m σ H ⟨rfl,hi,p⟩
 by_cases hlt:i<n
 ·refine .inr ⟨hlt,Pv (i+1),fun σ' H' p'=>⟨n - (i+1),by lia,rfl,hlt,p'⟩,fun x H' y=> ?_⟩
  obtain⟨e,y⟩:=y
  subst e y
  exact hs i σ _ hlt p
 ·have e:i=n:=by lia
  subst e
  exact .inl ⟨AO _,hd σ H p⟩
abbrev R2:=V->V->Hp->VK->Prop
def OpR(X:Cx)(f:AA->AA->Sem AA)(r:R2):Prop:=
 ∀(pins:List (AB×Obj)) (s:AC) (σ:St) (H:Hp) (x y:V) (v u:AA) (Q:VK),g8 X pins σ H s->j6 x v->j6 y u->r x y H Q->
  AF (model X.prog X.w) X.A (f v u) (EP X pins σ Q) X.xe s
def UnR(X:Cx)(f:AA->Sem AA)(r:V->Hp->VK->Prop):Prop:=
 ∀(pins:List (AB×Obj)) (s:AC) (σ:St) (H:Hp) (x:V) (v:AA) (Q:VK),g8 X pins σ H s->j6 x v->r x H Q->
  AF (model X.prog X.w) X.A (f v) (EP X pins σ Q) X.xe s
def A9(X:Cx)(f:AA)(r:List V->Hp->VK->Prop):Prop:=
 ∀(pins:List (AB×Obj)) (s:AC) (σ:St) (H:Hp) (xs:List V) (us:List AA) (Q:VK),g8 X pins σ H s->j3 xs us->r xs H Q->
  AF (model X.prog X.w) X.A (call f us) (EP X pins σ Q) X.xe s
def b9A(X:Cx)(r:V->Hp->(Bool->Hp->Prop)->Prop):Prop:=
 ∀(pins:List (AB×Obj)) (s:AC) (σ:St) (H:Hp) (x:V) (v:AA) (Q:Bool->Hp->Prop),g8 X pins σ H s->j6 x v->r x H Q->
  AF (model X.prog X.w) X.A (truthy v) (TP X pins σ Q) X.xe s
def tOp(r:R2)(ta tb:TE):TE:=fun σ H Q=>ta σ H fun x H1=>tb σ H1 fun y H2=>r x y H2 Q
def tUn(r:V->Hp->VK->Prop)(ta:TE):TE:=fun σ H Q=>ta σ H fun x H1=>r x H1 Q
def rI(C:Int->Int->Prop)(g:Int->Int->V):R2:=fun x y H Q=>∃i j,x= .int i/\y= .int j/\C i j/\Q (g i j) H
def rI0(g:Int->Int->V):R2:=fun x y H Q=>∃i j,x= .int i/\y= .int j/\Q (g i j) H
def rU(g:Int->V):V->Hp->VK->Prop:=fun x H Q=>∃i,x= .int i/\Q (g i) H
section
variable {X:Cx}{a b c:AG}{ta tb tc:TE}{pos:Pos}
theorem b6I(ha:PE X a ta)(hb:PE X b tb){pins:List (AB×Obj)}{s:AC}{σ:St}{H:Hp}{R:V->V->Hp->Prop}(I:g8 X pins σ H s)
 (h:ta σ H fun x H1=>tb σ H1 fun y H2=>R x y H2) {Q:AA->AC->Prop} {f:AA->AA->Sem AA}
 (hf:∀v u s2 x y H2,g8 X pins σ H2 s2->j6 x v->j6 y u->R x y H2->AF (model X.prog X.w) X.A (f v u) Q X.xe s2):
 AF (model X.prog X.w) X.A (eval a X.env) (fun v s₁=>AF (model X.prog X.w) X.A (eval b X.env) (fun u s₂=>AF (model X.prog X.w) X.A (f v u) Q X.xe s₂) X.xe s₁) X.xe s:=by
 refine A6 (ha pins s σ H _ I h) fun v s1 h0=>j8 h0 fun x H1 I1 r1 q1=> ?_
 refine A6 (hb pins s1 σ H1 _ I1 q1) fun u s2 h0=>j8 h0 fun y H2 I2 r2 q2=> ?_
 exact hf v u s2 x y H2 I2 r1 r2 q2
theorem b9c{op:Operator}{r:R2}(ho:OpR X (binaryOp op) r)(ha:PE X a ta)(hb:PE X b tb):PE X (.BinOp a op b pos) (tOp r ta tb):=by
 intro pins s σ H Q I h
 exact wpAny_BinOp (b6I ha hb I h fun v u s2 x y H2 I2 rx ry q=>ho pins s2 σ H2 x y v u Q I2 rx ry q)
theorem b9e{op:UnaryOp}{r:V->Hp->VK->Prop}(ho:UnR X (unaryOp op) r)(ha:PE X a ta):PE X (.UnaryOp op a pos) (tUn r ta):=by
 intro pins s σ H Q I h
 exact UnaryOp_ (A6 (ha pins s σ H _ I h) fun v s1 h0=>j8 h0 fun x H1 I1 r1 q1=>ho pins s1 σ H1 x v Q I1 r1 q1)
theorem opI{f:AA->AA->Sem AA}{C:Int->Int->Prop}{g:Int->Int->Int}
 (rule:∀(i j:Int) (t u:Tok) (s:AC) (Q:AA->AC->Prop) (E:AA->AC->Prop),C i j->Q (.int (g i j) s.toks) {s with toks:=s.toks+1}->AF (model X.prog X.w) X.A (f (.int i t) (.int j u)) Q E s):
 OpR X f (rI C fun i j=> .int (g i j)):=by
 intro pins s σ H x y v u Q I rx ry h
 obtain⟨i,j,rfl,rfl,hc,q⟩:=h
 obtain⟨t,rfl⟩:=rx
 obtain⟨t',rfl⟩:=ry
 exact rule i j t t' s _ _ hc ⟨.int (g i j),H,I.tok _,⟨_,rfl⟩,q⟩
theorem b85{f:AA->AA->Sem AA}{g:Int->Int->Int}
 (rule:∀(i j:Int) (t u:Tok) (s:AC) (Q:AA->AC->Prop) (E:AA->AC->Prop),Q (.int (g i j) s.toks) {s with toks:=s.toks+1}->AF (model X.prog X.w) X.A (f (.int i t) (.int j u)) Q E s):
 OpR X f (rI0 fun i j=> .int (g i j)):=by
 intro pins s σ H x y v u Q I rx ry h
 obtain⟨i,j,rfl,rfl,q⟩:=h
 obtain⟨t,rfl⟩:=rx
 obtain⟨t',rfl⟩:=ry
 exact rule i j t t' s _ _ ⟨.int (g i j),H,I.tok _,⟨_,rfl⟩,q⟩
theorem b84{f:AA->AA->Sem AA}{g:Int->Int->Bool}
 (rule:∀(i j:Int) (t u:Tok) (s:AC) (Q:AA->AC->Prop) (E:AA->AC->Prop),Q (.bool (g i j)) s->AF (model X.prog X.w) X.A (f (.int i t) (.int j u)) Q E s):
 OpR X f (rI0 fun i j=> .bl (g i j)):=by
 intro pins s σ H x y v u Q I rx ry h
 obtain⟨i,j,rfl,rfl,q⟩:=h
 obtain⟨t,rfl⟩:=rx
 obtain⟨t',rfl⟩:=ry
 exact rule i j t t' s _ _ ⟨.bl (g i j),H,I,rfl,q⟩
def a3p(i j:Int):Prop:=0<j/\j<1073741824
def a2X(i j:Int):Prop:=(-(2 ^ 64)<i/\i<2 ^ 64)\/(-(2 ^ 64)<j/\j<2 ^ 64)
theorem a2X.ok{i j:Int}(h:a2X i j):IntMulOk i j:=by
 rcases h with⟨h1,h2⟩|⟨h1,h2⟩
 ·exact .of_left (intBits_le_64 h1 h2)
 ·exact .of_right (intBits_le_64 h1 h2)
theorem b7B:OpR X (binaryOp .Add) (rI0 fun i j=> .int (i+j)):=b85 fun _ _ _ _ _ _ _ q=>add_int q
theorem b7G:OpR X (binaryOp .Sub) (rI0 fun i j=> .int (i - j)):=b85 fun _ _ _ _ _ _ _ q=>sub_int q
theorem b7E:OpR X (binaryOp .Mult) (rI a2X fun i j=> .int (i*j)):=opI fun _ _ _ _ _ _ _ hc q=>mul_int q hc.ok
theorem b5i:OpR X (binaryOp .FloorDiv) (rI a3p fun i j=> .int (i / j)):=opI fun i j _ _ _ _ _ hc q=>by
 have h1:(0:Int)<j:=hc.1
 have h2:j<1073741824:=hc.2
 exact floordiv_int (by lia) (by rw [Int.fdiv_eq_ediv_of_nonneg i (by lia)];exact q) (.inl (PyProof.noPylong_small (by lia)))
theorem b7D:OpR X (binaryOp .Mod) (rI (fun _ j=>0<j) fun i j=> .int (i % j)):=opI fun i j _ _ _ _ _ hc q=>by
 have h1:(0:Int)<j:=hc
 exact mod_int' (by lia) (by rw [Int.fmod_eq_emod_of_nonneg i (by lia)];exact q)
theorem b4Q:OpR X (inplaceOp .Mult) (rI a2X fun i j=> .int (i*j)):=opI fun _ _ _ _ _ _ _ hc q=>imul_int q hc.ok
theorem unI{f:AA->Sem AA}{g:Int->Int}
 (rule:∀(i:Int) (t:Tok) (s:AC) (Q:AA->AC->Prop) (E:AA->AC->Prop),Q (.int (g i) s.toks) {s with toks:=s.toks+1}->AF (model X.prog X.w) X.A (f (.int i t)) Q E s):
 UnR X f (rU fun i=> .int (g i)):=by
 intro pins s σ H x v Q I rx h
 obtain⟨i,rfl,q⟩:=h
 obtain⟨t,rfl⟩:=rx
 exact rule i t s _ _ ⟨.int (g i),H,I.tok _,⟨_,rfl⟩,q⟩
theorem b8g:UnR X (unaryOp .USub) (rU fun i=> .int (-i)):=unI fun _ _ _ _ _ q=>neg_int q
end
section
variable {X:Cx}{a b c:AG}{ta tb tc:TE}{pos:Pos}
theorem a8R{pins:List (AB×Obj)}{σ:St}{H:Hp}{s:AC}{Q:VK}{k k':Bool}(I:g8 X pins σ H s)(q:Q (.bl k) H)(e:k=k'):EP X pins σ Q (.bool k') s:=by
 subst e
 exact⟨.bl k,H,I,rfl,q⟩
theorem b87:OpR X (compareOp .Lt) (rI0 fun i j=> .bl (decide (i<j))):=b84 fun _ _ _ _ _ _ _ q=>lt_int q
theorem b86:OpR X (compareOp .Gt) (rI0 fun i j=> .bl (decide (j<i))):=b84 fun _ _ _ _ _ _ _ q=>gt_int q
theorem b1C:OpR X (compareOp .Lt) (fun x y H Q=>∃i j,x= .str i/\y= .str j/\Q (.bl (decide (i.cps.toList<j.cps.toList))) H):=by
 intro pins s σ H x y v u Q I rx ry h
 obtain⟨i,j,rfl,rfl,q⟩:=h
 obtain⟨t,rfl⟩:=rx
 obtain⟨t',rfl⟩:=ry
 exact lt_str (a8R I q rfl)
theorem b1B:OpR X (compareOp .In) (fun x y H Q=>∃i j,x= .str i/\y= .str j/\Q (.bl (!(Builtin.Str.occurrences j i 0 j.length 1).isEmpty)) H):=by
 intro pins s σ H x y v u Q I rx ry h
 obtain⟨i,j,rfl,rfl,q⟩:=h
 obtain⟨t,rfl⟩:=rx
 obtain⟨t',rfl⟩:=ry
 exact in_str (a8R I q rfl)
theorem a6R:OpR X (compareOp .NotIn) (fun x y H Q=>∃i j,x= .str i/\y= .str j/\Q (.bl (!(!(Builtin.Str.occurrences j i 0 j.length 1).isEmpty))) H):=by
 intro pins s σ H x y v u Q I rx ry h
 obtain⟨i,j,rfl,rfl,q⟩:=h
 obtain⟨t,rfl⟩:=rx
 obtain⟨t',rfl⟩:=ry
 exact notIn_str (a8R I q rfl)
theorem b5q{op:CmpOp}{r:R2}(ho:OpR X (compareOp op) r)(ha:PE X a ta)(hb:PE X b tb)(hm:behindInMarks op b=false):PE X (.Compare a [op] [b] pos) (tOp r ta tb):=by
 intro pins s σ H Q I h
 exact wpAny_Compare1 (b6I ha hb I h fun v u s2 x y H2 I2 rx ry q=>ho pins s2 σ H2 x y v u Q I2 rx ry q) hm
def b9s(t:TE):TT:=fun σ H Q=>t σ H fun x H'=>∃k,x= .bl k/\Q k H'
theorem b5y{op:CmpOp}{r:R2}(ho:OpR X (compareOp op) r)(ha:PE X a ta)(hb:PE X b tb)(hm:behindInMarks op b=false):PT X (.Compare a [op] [b] pos) (b9s (tOp r ta tb)):=by
 intro pins s σ H Q I h
 refine wpAny_isTrue_Compare1 (A6 (ha pins s σ H _ I h) fun v s1 h0=>j8 h0 fun x H1 I1 r1 q1=>A6 (hb pins s1 σ H1 _ I1 q1) fun u s2 h0=>j8 h0 fun y H2 I2 r2 q2=>
  A6 (ho pins s2 σ H2 x y v u _ I2 r1 r2 q2) fun c s3 ⟨z,H3,I3,r3,k,e,q3⟩=> ?_) hm
 subst e
 cases r3
 exact wpAny_truthy_bool ⟨H3,I3,q3⟩
def b6B(K:AE)(x:V)(H:Hp)(k:Bool):Prop:=
 match x with
 | .non=>k=false
 | .bl b=>k=b
 | .int i=>k=(i !=0)
 | .str y=>y.length<=AN/\k=((y.length:Int) !=0)
 | .byt y=>y.size<=AN/\k=((y.size:Int) !=0)
 | .ref p=>(∃xs,Q4 K H p xs/\k= !xs.isEmpty)\/(∃xs,SqT K H p xs/\k= !xs.isEmpty)\/∃kvs,H p=some (.dK kvs)/\k= !kvs.isEmpty
 |_=>False
theorem a8W{κ:Type}{kvs:List (κ×V)}{vs:List (κ×AA)}(r:KV kvs vs):(!vs.isEmpty)= !kvs.isEmpty:=by
 cases r<;>rfl
theorem a3U{xs:List V}{its:List AA}(r:j3 xs its):(!its.toArray.isEmpty)= !xs.isEmpty:=by
 cases r<;>simp
theorem a1X:(AN:Nat)<2 ^ 63:=by rw [sizeLine_eq];decide
theorem b8e:b9A X (fun x H Q=>∃k,b6B X.K x H k/\Q k H):=by
 intro pins s σ H x v Q I rx h
 obtain⟨k,e,q⟩:=h
 have hl:=a1X
 have hs:AN=16777216:=sizeLine_eq
 cases x with
 |non=>
  cases rx
  have e':k=false:=e
  subst e'
  exact truthy_none ⟨H,I,q⟩
 |bl b=>
  cases rx
  have e':k=b:=e
  subst e'
  exact wpAny_truthy_bool ⟨H,I,q⟩
 |int i=>
  obtain⟨t,rfl⟩:=rx
  have e':k=(i !=0):=e
  subst e'
  exact PySem.P.truthy_int ⟨H,I,q⟩
 |str y=>
  obtain⟨t,rfl⟩:=rx
  obtain⟨hy,e'⟩:y.length<=AN/\k=((y.length:Int) !=0):=e
  subst e'
  exact PySem.P.truthy_str (by lia) ⟨H,I.tok _,q⟩
 |byt y=>
  obtain⟨t,rfl⟩:=rx
  obtain⟨hy,e'⟩:y.size<=AN/\k=((y.size:Int) !=0):=e
  subst e'
  exact PySem.W.truthy_bytes (by lia) ⟨H,I.tok _,q⟩
 |ref p=>
  cases rx
  have e':(∃xs,Q4 X.K H p xs/\k= !xs.isEmpty)\/(∃xs,SqT X.K H p xs/\k= !xs.isEmpty)\/∃kvs,H p=some (.dK kvs)/\k= !kvs.isEmpty:=e
  rcases e' with⟨xs,hx,e'⟩|⟨xs,hx,e'⟩|⟨kvs,hx,e'⟩
  ·subst e'
   obtain⟨its,r,pl,hz⟩:=I.list hx
   have hlen:=r.length
   exact wpAny_truthy_list pl.isList (by simp only [Am];lia) ⟨H,I.tok _,by rw [a3U r];exact q⟩
  ·subst e'
   obtain⟨its,r,pl,hz⟩:=I.tuple hx
   have hlen:=r.length
   exact truthy_tuple pl (by simp only [Am];lia) ⟨H,I.tok _,by rw [a3U r];exact q⟩
  ·subst e'
   obtain⟨hz,hS,vs,r,m⟩:kvs.length<=AN/\(p==sysModules)=false/\∃vs,KV kvs vs/\s.heap.DictOf (l8 X.prog X.w) p vs:=I.hok p _ hx
   have hlen:kvs.length=vs.length:=Paired.length r
   exact wpAny_truthy_dict hS m (by lia) ⟨H,I.tok _,by rw [a8W r];exact q⟩
 |_=>exact(show False from e).elim
theorem b3J(ha:PE X a ta)(he:∀whole,isTrue a X.env whole=(do let v<-whole;standAt a.pos;holding [v] (truthy v))):
 PT X a (fun σ H Q=>ta σ H fun x H'=>∃k,b6B X.K x H' k/\Q k H'):=by
 intro pins s σ H Q I h
 exact isTrue_plain (A6 (ha pins s σ H _ I h) fun v s1 h0=>j8 h0 fun x H1 I1 r1 q1=>b8e pins s1 σ H1 x v Q I1 r1 q1) (he _)
theorem a9e:OpR X (binaryOp .Add) (fun x y H Q=>∃i j,x= .str i/\y= .str j/\i.length+j.length<=AN/\Q (.str (i++j)) H):=by
 intro pins s σ H x y v u Q I rx ry h
 obtain⟨i,j,rfl,rfl,hz,q⟩:=h
 obtain⟨t,rfl⟩:=rx
 obtain⟨t',rfl⟩:=ry
 exact add_str (fun t' tk=>⟨.str (i++j),H,I.tok _,⟨_,rfl⟩,q⟩) hz
theorem Z3{x:V}{us:List AA}(r:j3 [x] us):∃u,us=[u]/\j6 x u:=by
 cases r with
 |cons r1 r2=>cases r2;exact⟨_,rfl,r1⟩
theorem b9x{x y:V}{us:List AA}(r:j3 [x,y] us):∃u w',us=[u,w']/\j6 x u/\j6 y w':=by
 cases r with
 |cons r1 r2=>
  cases r2 with
  |cons r3 r4=>cases r4;exact⟨_,_,rfl,r1,r3⟩
theorem b0P(hc:X.calm=true):A9 X (.builtin "min") (fun xs H Q=>∃i j,xs=[.int i,.int j]/\Q (.int (if j<i then j else i)) H):=by
 intro pins s σ H xs us Q I r h
 obtain⟨i,j,rfl,q⟩:=h
 obtain⟨u,w',rfl,⟨t,rfl⟩,⟨t',rfl⟩⟩:=b9x r
 refine min_two_ints (I.ok.hd hc) fun h' tk k=>⟨_,H,I.kept k, ?_,q⟩
 by_cases hj:j<i
 ·rw [if_pos hj,if_pos hj];exact⟨_,rfl⟩
 ·rw [if_neg hj,if_neg hj];exact⟨_,rfl⟩
end
theorem b1m{h:Heap}{dx:AB}{mA:Str->Option AA}(n:h.Ns1 dx mA):∃od,h.get? dx=some od/\∀name,PySem.W.lookIn name od=some (mA name):=by
 obtain⟨o,es,ep,ho,hd,hk,_,hm⟩:=n
 refine⟨o,ho,fun name=> ?_⟩
 have e:=hm name
 unfold nsFind findBy at e
 rw [<-Array.find?_toList] at e
 unfold PySem.W.lookIn
 rw [hd]
 dsimp only
 split
 ·rename_i y q
  rw [q] at e
  exact congrArg some e
 ·rename_i q
  rw [q] at e
  have a:es.toList.any (·.refKey)=false:=by
   rw [List.any_eq_false]
   intro y hy
   obtain⟨z,t,hkey⟩:=hk y (Array.mem_toList_iff.mp hy)
   simp [DictEntry.refKey,hkey]
  have a':¬es.toList.any (·.refKey)=true:=by rw [a];exact Az
  rw [if_neg a']
  exact congrArg some e
section
variable {prog:AJ}{w:AH}{A:AL}{E:AA->AC->Prop}{s:AC}{K:AE}{x dx C f:AB}{mA:Str->Option AA}{name:Str}{v:AA}
end
def a2d(f:Str)(v:V):List (Str×V)->List (Str×V)
 |[]=>[(f,v)]
 |(g,x)::r=>if g=f then(g,v)::r else(g,x)::a2d f v r
theorem a2K(f g:Str)(v:V):∀fs:List (Str×V),(a2d f v fs).lookup g=if g=f then some v else fs.lookup g
 |[]=>by
  show List.lookup g [(f,v)]=_
  by_cases h:g=f
  ·have hb:(g==f)=true:=beq_iff_eq.mpr h
   simp only [List.lookup,hb,if_pos h]
  ·have hb:(g==f)=false:=beq_eq_false_iff_ne.mpr h
   simp only [List.lookup,hb,if_neg h]
 |(k,x)::r=>by
  have ih:=a2K f g v r
  rw [show a2d f v ((k,x)::r)=(if k=f then(k,v)::r else(k,x)::a2d f v r) from rfl]
  by_cases hk:k=f
  ·rw [if_pos hk]
   by_cases h:g=k
   ·have hb:(g==k)=true:=beq_iff_eq.mpr h
    simp only [List.lookup,hb,if_pos (h.trans hk)]
   ·have hb:(g==k)=false:=beq_eq_false_iff_ne.mpr h
    simp only [List.lookup,hb,if_neg (fun e:g=f=>h (e.trans hk.symm))]
  ·rw [if_neg hk]
   by_cases h:g=k
   ·have hb:(g==k)=true:=beq_iff_eq.mpr h
    simp only [List.lookup,hb,if_neg (fun e:g=f=>hk (h.symm.trans e))]
   ·have hb:(g==k)=false:=beq_eq_false_iff_ne.mpr h
    simp only [List.lookup,hb]
    exact ih
theorem a1U(f:Str)(v:V):∀fs:List (Str×V),f∈(a2d f v fs).map (·.1)/\∀g,g∈fs.map (·.1)->g∈(a2d f v fs).map (·.1)
 |[]=>⟨by simp [a2d],fun g h=>by simp at h⟩
 |(k,x)::r=>by
  obtain⟨i1,i2⟩:=a1U f v r
  rw [show a2d f v ((k,x)::r)=(if k=f then(k,v)::r else(k,x)::a2d f v r) from rfl]
  by_cases hk:k=f
  ·rw [if_pos hk]
   subst hk
   exact⟨by simp,fun g h=>by simpa using h⟩
  ·rw [if_neg hk]
   refine⟨?_,fun g h=> ?_⟩
   ·rw [AR]
    exact Af _ i1
   ·rw [AR] at h ⊢
    rcases Ab.mp h with e|e
    ·exact Ab.mpr (.inl e)
    ·exact Af _ (i2 g e)
theorem a1E.some_of{v:V}{o:Option AA}(r:a1E (some v) o):∃u,o=some u/\j6 v u:=by
 cases o with
 |none=>exact(show False from r).elim
 |some u=>exact⟨u,rfl,r⟩
section
variable {P:AJ}{w:AH}{H H':Hp}{h h':Heap}{a C dx:AB}{fs fs':List (Str×V)}
end
def V6(K:AE)(C:AB)(f:Str):Prop:=PySem.W.findIn K (.ref C) f=some none
section
variable {X:Cx}{pins:List (AB×Obj)}{σ:St}{H:Hp}{s:AC}{a C dx:AB}{fs:List (Str×V)}{f:Str}{v:V}{A:AL}{E:AA->AC->Prop}
end
section
variable {X:Cx}{o e value:AG}{f:Str}{pos pos' tpos:Pos}{ta tv:TE}
end
section
variable {X:Cx}{pins:List (AB×Obj)}{σ:St}{H:Hp}{s:AC}{A:AL}{E:AA->AC->Prop}{Q:AA->AC->Prop}{c:AA}{b:Bool}
end
structure x6(k:Nat)(A:AL):Prop where
 hd:A.handled=none
 dp:A.depth+3*k+5<recursionLimit
 un:A.units+16*k+200<cLine
theorem x6.mono{j k:Nat}{A:AL}(r:x6 k A)(h:j<=k):x6 j A:=⟨r.hd,by have:=r.dp;lia,by have:=r.un;lia⟩
theorem x6.deeper{k:Nat}{A:AL}(r:x6 (k+1) A)(env:Env):x6 k (A.deeper env):=
 ⟨r.hd,by have:=r.dp;show A.depth+1+3*k+5<_;lia,by have:=r.un;show A.units+3+16*k+200<_;lia⟩
theorem a83{A:AL}{C:AB}{us:List AA}{kw:List (Str×AA)}:(A.under (.builtin "type.__call__" ⟨.ref C::us,kw⟩)).depth=A.depth+1:=by
 first|rfl|simp [Around.under,Code.weight,Code.isCreation,Code.isGuard,Code.isCaller,Code.frames,Code.isFrame,guardIds]
theorem a84{A:AL}{C:AB}{us:List AA}{kw:List (Str×AA)}:(A.under (.builtin "type.__call__" ⟨.ref C::us,kw⟩)).units=A.units+1:=by
 first|rfl|simp [Around.under,Code.cUnits,Code.frames,Code.isFrame]
theorem x6.make{k:Nat}{A:AL}(r:x6 (k+1) A)(C:AB)(us:List AA)(kw:List (Str×AA)):x6 k (A.under (.builtin "type.__call__" ⟨.ref C::us,kw⟩)):=
 ⟨r.hd,by have:=r.dp;rw [a83];lia,by have:=r.un;rw [a84];lia⟩
theorem x6.depth{k:Nat}{A:AL}(r:x6 k A):A.depth<recursionLimit:=by have:=r.dp;lia
theorem x6.units{k:Nat}{A:AL}(r:x6 k A):A.units+64<cLine:=by have:=r.un;lia
def b5O:TA:=fun _ H Q=>Q [] H
def a8s(ta:TE)(tr:TA):TA:=fun σ H Q=>ta σ H fun x H1=>tr σ H1 fun xs H2=>Q (x::xs) H2
section
variable {X:Cx}{e:AG}{es:List AG}{te:TE}{t:TA}{pos:Pos}
theorem P7:PA X [] b5O:=fun _ _ _ _ H Q I h=>Calls.spliced_nil ⟨[],H,I,.nil,h⟩
theorem A4(ha:PE X e te)(hr:PA X es t)(hs:AQ (e::es) X.env=(false,eval e X.env)::AQ es X.env:=by rfl):PA X (e::es) (a8s te t):=by
 intro pos pins s σ H Q I h
 rw [hs]
 show AF _ _ (spliced ((false,eval e X.env)::backTo pos (AQ es X.env))) _ _ s
 refine Calls.spliced_cons (A6 (ha pins s σ H _ I h) fun u s1 h0=>j8 h0 fun x H1 I1 r1 q1=> ?_)
 exact A6 (hr pos pins s1 σ H1 _ I1 q1) fun us s2 h0=>j8 h0 fun xs H2 I2 r2 q2=>⟨x::xs,H2,I2,.cons r1 r2,q2⟩
def b97(t:TA):TE:=fun σ H Q=>t σ H fun xs H1=>xs.length<=AN/\∀p,H1 p=none->Q (.ref p) (m8 H1 p (.tup xs))
def b92(t:TA):TE:=fun σ H Q=>t σ H fun xs H1=>xs.length<=AN/\∀p,H1 p=none->Q (.ref p) (m8 H1 p (.lst xs))
theorem b3C{x1}(h:PA X es t):PE X (.Tuple es x1 pos) (b97 t):=by
 intro pins s σ H Q I hq
 refine wpAny_Tuple_spliced (A6 (h pos pins s σ H _ I hq) fun us s1 h0=>a3b h0 fun xs H1 I1 r z q=>⟨by rw [<-r.length];exact z, ?_⟩)
 have hf:H1 s1.heap.objs.size=none:=I1.hok.fresh (AO _)
 refine⟨.ref s1.heap.objs.size,m8 H1 s1.heap.objs.size (.tup xs),I1.laid (t':=s1.toks) (fun b u e=>AU _ e) (AO _) ?_,rfl,q _ hf⟩
 exact⟨z,us,r,⟨_,Aq _ rfl,rfl,_,rfl⟩⟩
theorem b7M(h:PA X es t):PE X (.List es pos) (b92 t):=by
 intro pins s σ H Q I hq
 refine wpAny_List_spliced (A6 (h pos pins s σ H _ I hq) fun us s1 h0=>a3b h0 fun xs H1 I1 r z q=>⟨by rw [<-r.length];exact z, ?_⟩)
 have hf:H1 s1.heap.objs.size=none:=I1.hok.fresh (AO _)
 refine⟨.ref s1.heap.objs.size,m8 H1 s1.heap.objs.size (.lst xs),I1.laid (t':=s1.toks) (fun b u e=>AU _ e) (AO _) ?_,rfl,q _ hf⟩
 exact⟨z,us,0,r,Aq _ rfl⟩
end
abbrev Sp:=List V->Hp->VK->XK->Prop
abbrev CXT:=List Env->Hp->AC->XK->AA->AC->Prop
structure a8C(P:AJ)(w:AH)(K:AE)(mg:Str->Option AA)(base:Heap)(A:AL)(outer:List Env)(s:AC)(H:Hp):Prop where
 frames:A.frames=some outer
 mod:Mod K mg base
 bs:∀b o,base.get? b=some o->s.heap.get? b=some o/\H b=none
 bsz:base.objs.size<=s.heap.objs.size
 funs:s.heap.FunFrames base outer
 frf:∀b∈frs outer,H b=none
 hok:HOk P w H s.heap
 bare:AllBare s.gens
def CE(outer:List Env)(P:AJ)(w:AH)(H:Hp)(s:AC)(Q:VK)(u:AA)(s':AC):Prop:=
 ∃v H',s'.os=s.os/\AllBare s'.gens/\Un (frs outer) [] H H' s.heap s'.heap/\HOk P w H' s'.heap/\j6 v u/\Q v H'
def CR(CX:CXT)(outer:List Env)(P:AJ)(w:AH)(H:Hp)(s:AC)(Q:VK)(E:XK)(r:Result)(s':AC):Prop:=
 match r with
 | .ok (.ret u)=>CE outer P w H s Q u s'
 | .ok _=>False
 | .error e=>CX outer H s E e s'
structure E4(P:AJ)(w:AH)(K:AE)(mg:Str->Option AA)(base:Heap)(CX:CXT)(k:Nat)(f:AB)(fd:FuncData)(ps:List Str)(sp:Sp):Prop where
 len:∀vs H Q E,sp vs H Q E->vs.length=ps.length
 run:∀(A:AL) (outer:List Env) (s:AC) (H:Hp) (args:Args) (us:List AA) (vs:List V) (Q:VK) (E:XK),x6 k A->a8C P w K mg base A outer s H->BindsTo s fd args (ps.zip us)->j3 vs us->sp vs H Q E->
  codeAny (model P w) A (.call (.ref f) args) (CR CX outer P w H s Q E) s
theorem E4.mono{P:AJ}{w:AH}{K:AE}{mg:Str->Option AA}{base:Heap}{CX:CXT}{j k:Nat}{f:AB}{fd:FuncData}{ps:List Str}{sp:Sp}(F:E4 P w K mg base CX j f fd ps sp)(h:j<=k):
 E4 P w K mg base CX k f fd ps sp:=⟨F.len,fun A outer s H args us vs Q E hr=>F.run A outer s H args us vs Q E (hr.mono h)⟩
theorem E4.imp{P:AJ}{w:AH}{K:AE}{mg:Str->Option AA}{base:Heap}{CX:CXT}{k:Nat}{f:AB}{fd:FuncData}{ps:List Str}{sp sp':Sp}(F:E4 P w K mg base CX k f fd ps sp)
 (h:∀vs H Q E,sp' vs H Q E->sp vs H Q E):E4 P w K mg base CX k f fd ps sp':=
 ⟨fun vs H Q E q=>F.len vs H Q E (h _ _ _ _ q),fun A outer s H args us vs Q E hr he hb hv hs=>F.run A outer s H args us vs Q E hr he hb hv (h _ _ _ _ hs)⟩
theorem a8C.make{P:AJ}{w:AH}{K:AE}{mg:Str->Option AA}{base:Heap}{A:AL}{outer:List Env}{s:AC}{H:Hp}(e:a8C P w K mg base A outer s H)(C:AB)(us:List AA)(kw:List (Str×AA)):
 a8C P w K mg base (A.under (.builtin "type.__call__" ⟨.ref C::us,kw⟩)) outer s H:=⟨by first|exact e.frames|(simpa [Around.under,Code.envs,Code.isFrame,pushEnvs] using e.frames),e.mod,e.bs,e.bsz,e.funs,e.frf,e.hok,e.bare⟩
section
variable {X:Cx}{pins:List (AB×Obj)}{σ:St}{H:Hp}{s s':AC}
theorem g8.env0(I:g8 X pins σ H s):a8C X.prog X.w X.K X.mg X.base X.A X.stack s H:=
 ⟨I.ok.frames,I.ok.mod,I.bs,Nat.le_trans I.ok.bsz I.sz,I.stack,I.stkFree,I.hok,I.bare⟩
theorem g8.after{Q:VK}{u:AA}(I:g8 X pins σ H s)(h:CE X.stack X.prog X.w H s Q u s'):EP X pins σ Q u s':=by
 obtain⟨v,H',os,bare,un,hok,r,q⟩:=h
 obtain⟨hh,g,d,t,os'⟩:=s'
 obtain rfl:os'=s.os:=os
 exact⟨v,H',I.call (h':=hh) (g':=g) (d':=d) (t':=t) (ch:=[]) un hok bare (fun b z=>absurd z (by simp)),r,q⟩
end
def b9o(sp:Sp)(dvs:List V)(E:XK)(t:TA):TE:=fun σ H Q=>t σ H fun vs H1=>sp (vs++dvs) H1 Q E
def Q1(K:AE)(fd:FuncData)(ps:List Str)(ds:List AA):Prop:=
 ∀(s:AC) (us:List AA),K.In s.heap->(us++ds).length=ps.length->BindsTo s fd ⟨us,[]⟩ (ps.zip (us++ds))
theorem Q1.all{K:AE}{fd:FuncData}{ps:List Str}(h:∀us:List AA,us.length=ps.length->bindArgs fd ⟨us,[]⟩=pure (ps.zip us)):Q1 K fd ps []:=fun s us _ hl=>by
 rw [Al] at hl ⊢
 exact .of_eq (h us hl)
def a3s(CX:CXT)(X:Cx)(E:XK):Prop:=∀(pins:List (AB×Obj)) (σ:St) (H:Hp) (s:AC) (e:AA) (s':AC),g8 X pins σ H s->CX X.stack H s E e s'->X.xe e s'
section
variable {X:Cx}{CX:CXT}{k:Nat}{f C:AB}{fd:FuncData}{ps:List Str}{sp:Sp}{dvs:List V}{ds:List AA}{E:XK}{x m:Str}{p pos apos:Pos}{e o:AG}{es:List AG}{ta:TE}{t:TA}
theorem b3R{pins:List (AB×Obj)}{σ:St}{H:Hp}{s:AC}{Q:VK}{us:List AA}{vs:List V}(F:E4 X.prog X.w X.K X.mg X.base CX k f fd ps sp)(hr:x6 k X.A)(hb:Q1 X.K fd ps ds)(hd:j3 dvs ds)(hx:a3s CX X E)
 (I:g8 X pins σ H s) (r:j3 vs us) (h:sp (vs++dvs) H Q E):AF (model X.prog X.w) X.A (call (.ref f) us) (EP X pins σ Q) X.xe s:=by
 have r2:j3 (vs++dvs) (us++ds):=r.append hd
 have hl:(us++ds).length=ps.length:=by rw [<-r2.length];exact F.len _ _ _ _ h
 refine wpAny_call (codeAny_mono (F.run X.A X.stack s H ⟨us,[]⟩ (us++ds) (vs++dvs) Q E hr I.env0 (hb s us I.kIn hl) r2 h) fun r s' hq=> ?_)
 cases r with
 |error e=>exact hx pins σ H s e s' I hq
 |ok fl=>
  cases fl with
  |ret u=>exact I.after hq
  |next=>exact False.elim hq
  |brk=>exact False.elim hq
  |cont=>exact False.elim hq
theorem b0t(F:E4 X.prog X.w X.K X.mg X.base CX k f fd ps sp)(hr:x6 k X.A)(hg:Gl X x)(hm:X.mg x=some (.ref f))(hk:PySem.W.keepIn X.K (.ref f)=true)(hb:Q1 X.K fd ps ds)(hd:j3 dvs ds)(hx:a3s CX X E)
 (ha:PA X (e::es) t) (hdb:(x==("__debug__":Str))=false:=by decide) (he:AQ (e::es) X.env=(false,eval e X.env)::AQ es X.env:=by rfl) (hpl:(backTo pos (AQ es X.env)).any (·.1)=false:=by rfl):
 PE X (.Call (.Name x p) (e::es) [] pos) (b9o sp dvs E t):=by
 intro pins s σ H Q I h
 refine wpAny_Call_Name_kw (Z9 I hg hm ?_ hdb)
 refine PySem.W.callWith_K (h₀:=X.base) I.ok.mod.kin hk (A6 (ha pos pins s σ H _ I h) fun us s1 h0=>j8 h0 fun vs H1 I1 r q=>⟨I1.kIn, ?_⟩) he hpl
 exact b3R F hr hb hd hx I1 r q
end
section
variable {X:Cx}{CX:CXT}{k:Nat}{f C:AB}{fd:FuncData}{ps ks:List Str}{sp:Sp}{E:XK}{x m:Str}{p pos apos kpos:Pos}{e o:AG}{es:List AG}{kws:List Keyword}{te ta:TE}{t tk:TA}{nm:Option Str}
variable {g:List AA->List AA->List AA}{gV:List V->List V->List V}
end
structure i5(N P:List Str)(sc:Scope):Prop where
 kind:sc.kind= .function
 co:sc.isCoroutine=false
 gen:sc.isGenerator=false
 nd:N.Nodup
 pre:N.take P.length=P
 par:∀x∈P,sc.names.lookup x=some .local\/sc.names.lookup x=some .cell
 nofree:∀y∈sc.names,y.2≠.free
theorem a5i{kindOf:Str->Option NameKind}{x:Str}:∀{binds:List (Str×AA)} {m:Str->Option AA},(∀v,(x,v)∉binds)->bindL kindOf binds m x=m x
 |[],_,_=>rfl
 |(n,v)::r,m,h=>by
  unfold bindL
  rw [a5i fun w hw=>h w (Af _ hw)]
  split
  ·have:x≠n:=by rintro rfl;exact h v Ad
   simp [this]
  ·rfl
theorem a5g{kindOf:Str->Option NameKind}{x:Str}:∀{binds:List (Str×AA)} {m:Str->Option AA},(∀v,(x,v)∉binds)->bindC kindOf binds m x=m x
 |[],_,_=>rfl
 |(n,v)::r,m,h=>by
  unfold bindC
  rw [a5g fun w hw=>h w (Af _ hw)]
  split
  ·rfl
  ·have:x≠n:=by rintro rfl;exact h v Ad
   simp [this]
theorem a5h{kindOf:Str->Option NameKind}{x:Str}{v:AA}:∀{P:List Str} {vs:List AA} {i:Nat} {m:Str->Option AA},P.Nodup->P[i]?=some x->vs[i]?=some v->kindOf x=some .local->
 bindL kindOf (P.zip vs) m x=some v
 |[],_,_,_,_,h,_,_=>by simp at h
 |_::_,[],_,_,_,_,h,_=>by simp at h
 |p::P,w::vs,0,m,nd,h1,h2,hk=>by
  simp at h1 h2;subst h1;subst h2
  show bindL kindOf ((p,w)::P.zip vs) m p=_
  unfold bindL
  rw [a5i fun v hv=>(List.nodup_cons.mp nd).1 (List.of_mem_zip hv).1,if_pos hk]
  simp
 |p::P,w::vs,i+1,m,nd,h1,h2,hk=>by
  show bindL kindOf ((p,w)::P.zip vs) m x=_
  unfold bindL
  exact a5h (i:=i) (List.nodup_cons.mp nd).2 (by simpa using h1) (by simpa using h2) hk
theorem a5f{kindOf:Str->Option NameKind}{x:Str}{v:AA}:∀{P:List Str} {vs:List AA} {i:Nat} {m:Str->Option AA},P.Nodup->P[i]?=some x->vs[i]?=some v->kindOf x≠some .local->
 bindC kindOf (P.zip vs) m x=some v
 |[],_,_,_,_,h,_,_=>by simp at h
 |_::_,[],_,_,_,_,h,_=>by simp at h
 |p::P,w::vs,0,m,nd,h1,h2,hk=>by
  simp at h1 h2;subst h1;subst h2
  show bindC kindOf ((p,w)::P.zip vs) m p=_
  unfold bindC
  rw [a5g fun v hv=>(List.nodup_cons.mp nd).1 (List.of_mem_zip hv).1,if_neg hk]
  simp
 |p::P,w::vs,i+1,m,nd,h1,h2,hk=>by
  show bindC kindOf ((p,w)::P.zip vs) m x=_
  unfold bindC
  exact a5f (i:=i) (List.nodup_cons.mp nd).2 (by simpa using h1) (by simpa using h2) hk
def R7(N:List Str)(vs:List V):St:=vs.map some++AV (N.length - vs.length) none
def W3(CX:CXT)(P:AJ)(w:AH)(K:AE)(mg:Str->Option AA)(base:Heap)(N:List Str)(qual:Str)(scope:Scope)(f:AB)(cd:AA)(A:AL)(outer:List Env)(s:AC)(H:Hp)(E:XK):Cx where
 prog:=P
 w:=w
 K:=K
 mg:=mg
 base:=base
 A:=A.deeper (envOfC qual scope s.heap.objs.size f cd)
 N:=N
 s₀:=s
 H₀:=H
 env:=envOfC qual scope s.heap.objs.size f cd
 outer:=outer
 stack:=envOfC qual scope s.heap.objs.size f cd::outer
 ex:=[]
 calm:=true
 fn:=fun _=>true
 pn:=[]
 xe:=fun e s'=>AF (model P w) (A.deeper (envOfC qual scope s.heap.objs.size f cd)) (leaving (envOfC qual scope s.heap.objs.size f cd) e) (fun _ s''=>CX outer H s E e s'') (fun e' s''=>CX outer H s E e' s'') s'
theorem a7r{sc:Scope}{n:Nat}{x:Str}(h:sc.names.lookup x=some .cell):∃c,(cellsFrom n sc.names []).lookup x=some c:=by
 have q:=PySem.W.cellsFrom_some sc.names n [] (.inl h)
 exact Option.isSome_iff_exists.mp q
theorem b1a{CX:CXT}{P:AJ}{w:AH}{K:AE}{mg:Str->Option AA}{base:Heap}{N ps:List Str}{qual:Str}{scope:Scope}{f:AB}{cd:AA}{A:AL}{outer:List Env}{s s1:AC}{H:Hp}{E:XK}{us:List AA}{vs:List V}
 (S:i5 N ps scope) (hd:A.handled=none) (e0:a8C P w K mg base A outer s H) (hl:vs.length=ps.length) (r:j3 vs us)
 (x:InCallC s s.heap.objs.size (bindL (envOfC qual scope s.heap.objs.size f cd).kindOf (ps.zip us) fun _=>none) (cellsFrom (s.heap.objs.size+1) scope.names []) (bindC (envOfC qual scope s.heap.objs.size f cd).kindOf (ps.zip us) fun _=>none) s1):
 g8 (W3 CX P w K mg base N qual scope f cd A outer s H E) [] (R7 N vs) H s1:=by
 have hpl:ps.length<=N.length:=by have:=congrArg List.length S.pre;rw [List.length_take] at this;lia
 obtain⟨h1,tk,rfl,hk⟩:=x.done
 have noA:∀b:AB,b∉(W3 CX P w K mg base N qual scope f cd A outer s H E).ex:=fun b z=>absurd (show b∈([]:List AB) from z) (by simp)
 refine⟨⟨e0.mod,S.kind,rfl,rfl,AO _,fun y z c h1 h2=> ?_,fun y hy=> ?_,fun y c _ h=> ?_,fun _=>hd,Around.frames_deeper e0.frames,.inr ⟨rfl,rfl⟩,fun b z=>absurd z (noA b),e0.bs,e0.bsz,fun b _ _=>noA b,fun b z=>absurd z (noA b),e0.funs,e0.frf⟩,
  rfl,e0.bare,Un.kept hk,⟨_,x.toInCall.ns,fun i y v h1 h2 h3=> ?_⟩,fun y c h=>⟨_,x.cell y c h⟩,e0.hok.fresh (AO _),fun y c h=> ?_,fun p hp=>absurd (show p∈([]:List (AB×Obj)) from hp) (by simp),e0.hok.kept hk, ?_⟩
 ·exact name_of_addr x.apart (PySem.mem_of_lookup h1) (PySem.mem_of_lookup h2)
 ·have hy:scope.names.lookup y=some .cell\/scope.names.lookup y=some .free:=hy
  rcases hy with hy|hy
  ·exact a7r hy
  ·exact absurd rfl (S.nofree _ (PySem.mem_of_lookup hy))
 ·exact BE (x.above y c (PySem.mem_of_lookup h))
 ·have hi:i<vs.length:=by
   unfold R7 at h2
   by_cases hi:i<vs.length
   ·exact hi
   ·rw [List.getElem?_append_right (by simpa using hi)] at h2
    rw [List.getElem?_replicate] at h2
    split at h2<;>cases h2
  have ha:vs[i]?=some v:=by
   unfold R7 at h2
   rw [BC (by simpa using hi),Aw] at h2
   cases e:vs[i]? with
   |none=>rw [e] at h2;cases h2
   |some a=>rw [e] at h2;cases h2;rfl
  obtain⟨u,hu,rv⟩:=r.get ha
  have hp:ps[i]?=some y:=by
   rw [<-S.pre,List.getElem?_take_of_lt (by lia)];exact h1
  have ndP:ps.Nodup:=by rw [<-S.pre];exact S.nd.sublist (List.take_sublist _ _)
  refine⟨u,rv, ?_⟩
  rcases S.par y (BB hp) with k|k
  ·exact .inl ⟨k,a5h ndP hp hu k⟩
  ·obtain⟨c,e⟩:=a7r (n:=s.heap.objs.size+1) k
   refine .inr ⟨.inl k,c,e, ?_⟩
   have q:=x.cell y c e
   rw [a5f ndP hp hu (by show scope.names.lookup y≠_;rw [k];decide)] at q
   exact q
 ·exact e0.hok.fresh (BE (x.above y c (PySem.mem_of_lookup h)))
 ·unfold R7
  show _=N.length
  rw [Ao,AW,List.length_replicate]
  lia
theorem b58{CX:CXT}{P:AJ}{w:AH}{K:AE}{mg:Str->Option AA}{base:Heap}{k:Nat}{f:AB}{name qual:Str}{params:Arguments}{body:List Stmt}{scope:Scope}{dV kV doc pm cdv ct oc:AA}{an od:Option AB}
 {osl:Array (Option AA)} {N ps:List Str} {sp:Sp} (lk:K.lookup f=some ⟨oc,od,.func (PySem.W.fnOf name qual params body scope dV kV doc pm an cdv ct),osl⟩) (hcd:PySem.W.codeIn K cdv qual=true) (S:i5 N ps scope)
 (len:∀vs H Q E,sp vs H Q E->vs.length=ps.length)
 (hbody:∀(A:AL) (outer:List Env) (s:AC) (H:Hp) (vs:List V) (Q:VK) (E:XK),x6 k (A.deeper (envOfC qual scope s.heap.objs.size f cdv))->sp vs H Q E->
  ∃t,PSs (W3 CX P w K mg base N qual scope f cdv A outer s H E) body t/\t {nx:=fun _ H'=>Q .non H',rt:=Q} (R7 N vs) H):
 E4 P w K mg base CX (k+1) f (PySem.W.fnOf name qual params body scope dV kV doc pm an cdv ct) ps sp:=by
 refine⟨len,fun A outer s H args us vs Q E hr e0 hb r hsp=> ?_⟩
 have hl:=len _ _ _ _ hsp
 have KX:K.In s.heap:=e0.mod.kin.keeps fun b o e=>(e0.bs b o e).1
 have lim:s.heap.NoLimit:=e0.mod.nolimit.keeps fun b o e=>(e0.bs b o e).1
 have hkind:∀y∈ps.zip us,scope.names.lookup y.1=some .local\/(scope.names.lookup y.1=some .cell/\((cellsFrom (s.heap.objs.size+1) scope.names []).lookup y.1).isSome=true):=fun⟨n,v⟩ hy=>by
  rcases S.par n (List.of_mem_zip hy).1 with q|q
  ·exact .inl q
  ·exact .inr ⟨q,PySem.W.cellsFrom_some _ _ _ (.inl q)⟩
 refine codeAny_call_function hr.depth (KX _ _ lk) rfl S.co S.gen rfl (PySem.W.codeRec_of KX hcd) (hb _ _ _ _ ?_)
 refine wpAny_newFunctionEnv_cells S.kind hkind fun env he s1 x=> ?_
 subst he
 refine⟨lim.keeps x.toInCall.keep,codeAny_func ?_⟩
 obtain⟨t,ht,hq⟩:=hbody A outer s H vs Q E (hr.deeper _) hsp
 have I:g8 (W3 CX P w K mg base N qual scope f cdv A outer s H E) [] (R7 N vs) H s1:=b1a S hr.hd e0 hl r x
 refine wpAny_mono (ht [] s1 (R7 N vs) H _ I hq) (fun fl s' hs=> ?_) fun e s' hs=>hs
 have fin:∀{σ':St} {H':Hp} {v:V} {u:AA},g8 (W3 CX P w K mg base N qual scope f cdv A outer s H E) [] σ' H' s'->j6 v u->Q v H'->CE outer P w H s Q u s':=
  fun {σ' H' v u} J rv q=>⟨v,H',J.os,J.bare,J.base,J.hok,rv,q⟩
 cases fl with
 |ret u=>
  obtain⟨v,σ',H',J,rv,q⟩:=hs
  exact fin J rv q
 |next=>
  obtain⟨σ',H',J,q⟩:=hs
  exact fin (v:=V.non) (u:=Value.none) J rfl q
 |brk=>
  obtain⟨_,_,_,q⟩:=hs
  exact False.elim q
 |cont=>
  obtain⟨_,_,_,q⟩:=hs
  exact False.elim q
section
variable {X:Cx}{x:Str}{p pos:Pos}{e:AG}{es:List AG}{t:TA}{id T:String}{r:List V->Hp->VK->Prop}
def tCB(r:List V->Hp->VK->Prop)(t:TA):TE:=fun σ H Q=>t σ H fun vs H1=>r vs H1 Q
theorem a1k(hc:A9 X (.builtin id) r)(hg:Gl X x)(hm:X.mg x=none)(hv:bootBuiltins x=some (.builtin id))(ha:PA X (e::es) t)(hn:x≠"__name__":=by decide)(hdb:(x==("__debug__":Str))=false:=by decide)
 (he:AQ (e::es) X.env=(false,eval e X.env)::AQ es X.env:=by rfl) (hpl:(backTo pos (AQ es X.env)).any (·.1)=false:=by rfl):PE X (.Call (.Name x p) (e::es) [] pos) (tCB r t):=by
 intro pins s σ H Q I h
 refine wpAny_Call_Name_kw (a3Z I hg hm hv ?_ hn hdb)
 exact PyProof.Rows.callWith_builtin1 (A6 (ha pos pins s σ H _ I h) fun us s1 h0=>j8 h0 fun vs H1 I1 r1 q1=>hc pins s1 σ H1 vs us Q I1 r1 q1) he hpl
theorem a5M(hc:A9 X (.type T) r)(hg:Gl X x)(hm:X.mg x=none)(hv:bootBuiltins x=some (.type T))(ha:PA X (e::es) t)(hn:x≠"__name__":=by decide)(hdb:(x==("__debug__":Str))=false:=by decide)
 (he:AQ (e::es) X.env=(false,eval e X.env)::AQ es X.env:=by rfl) (hpl:(backTo pos (AQ es X.env)).any (·.1)=false:=by rfl):PE X (.Call (.Name x p) (e::es) [] pos) (tCB r t):=by
 intro pins s σ H Q I h
 refine wpAny_Call_Name_kw (a3Z I hg hm hv ?_ hn hdb)
 exact PyProof.Rows.callWith_type1 (A6 (ha pos pins s σ H _ I h) fun us s1 h0=>j8 h0 fun vs H1 I1 r1 q1=>hc pins s1 σ H1 vs us Q I1 r1 q1) he hpl
end
end L2
namespace HT
open PySem PyProof.Rows
section
open PySem.SeqAt
open PySem.AutoSeq1 (wpAny_loadPart')
open PySem.MeetsSeq PySem.MeetsSeq2 PySem.MeetsSeq3
end
section
variable {prog:AJ}{w:AH}{A:AL}{E:AA->AC->Prop}{s:AC}
theorem cat_tup{t b:AB}{vs ws:List AA}{Q:AA->AC->Prop}(ht:IsTup s.heap t vs.toArray)(hb:IsTup s.heap b ws.toArray)(hv:vs≠[])
 (h1:ws=[]->Q (.ref t) s) (h2:ws≠[]->Q (.ref s.heap.objs.size) {s with heap:=s.heap.push {cls:= .type "tuple",data:= .seq (vs++ws).toArray}})
 (hsz:vs.length+ws.length<=AN):AF (model prog w) A (binaryOp .Add (.ref t) (.ref b)) Q E s:=by
 obtain⟨⟨cls,dd,data,sl⟩,ho,hc,n,hd⟩:=id ht
 obtain⟨⟨cls2,dd2,data2,sl2⟩,ho2,hc2,n2,hd2⟩:=id hb
 simp only at hc hd hc2 hd2
 subst hc hd hc2 hd2
 have e:vs.toArray++ws.toArray=(vs++ws).toArray:=by simp
 by_cases hw:ws=[]
 ·exact concat_meets ⟨_,ho,rfl⟩ ⟨_,ho2,rfl⟩ noFill_tuple_add seq_tuple_add PySem.F.slot_tuple_add PySem.F.entry_tuple_add (PySem.F.args_tuple_add_2 _ _)
   (tuple_addW1 t b vs.toArray ws.toArray n n2 dd dd2 sl sl2 (by simpa using hv) (by simp [hw])) ⟨ho,ho2,h1 hw⟩
 ·refine concat_meets ⟨_,ho,rfl⟩ ⟨_,ho2,rfl⟩ noFill_tuple_add seq_tuple_add PySem.F.slot_tuple_add PySem.F.entry_tuple_add (PySem.F.args_tuple_add_2 _ _)
   (tuple_addW2 t b vs.toArray ws.toArray n n2 dd dd2 sl sl2 (by simpa using hv) (by simpa using hw) (by rw [Am,Am];exact hsz)) ⟨ho,ho2, ?_⟩
  rw [e]
  exact h2 hw
def sIx(n d:Nat):Option Int->Nat
 |none=>d
 |some v=>if v<0 then(v+(n:Int)).toNat else min v.toNat n
theorem sIx_none(n d:Nat):sIx n d none=d:=rfl
theorem sIx_nat(n d k:Nat):sIx n d (some (k:Int))=min k n:=by
 show(if(k:Int)<0 then((k:Int)+(n:Int)).toNat else min (k:Int).toNat n)=min k n
 rw [if_neg (by lia),BH]
theorem sIx_le(n d:Nat)(hd:d<=n)(o:Option Int):sIx n d o<=n:=by
 cases o with
 |none=>exact hd
 |some v=>
  show(if v<0 then(v+(n:Int)).toNat else min v.toNat n)<=n
  by_cases hv:v<0
  ·rw [if_pos hv];lia
  ·rw [if_neg hv];exact Nat.min_le_right _ _
theorem a9J(v:Int)(n d:Nat):(if v<0 then max (v+(n:Int)) 0 else min v (n:Int))=((sIx n d (some v):Nat):Int):=by
 show(if v<0 then max (v+(n:Int)) 0 else min v (n:Int))=(((if v<0 then(v+(n:Int)).toNat else min v.toNat n):Nat):Int)
 by_cases hv:v<0
 ·simp only [if_pos hv];lia
 ·simp only [if_neg hv];lia
theorem a8H(lo hi:Option Int)(n:Nat):Builtin.Slice.sliceAdjust lo hi 1 (n:Int)=(((sIx n 0 lo:Nat):Int),((sIx n n hi:Nat):Int)):=by
 have h1:¬((1:Int)<0):=by lia
 unfold Builtin.Slice.sliceAdjust
 simp only [h1,if_false]
 refine Prod.ext ?_ ?_
 ·cases lo with
  |none=>rfl
  |some v=>exact a9J v n 0
 ·cases hi with
  |none=>rfl
  |some v=>exact a9J v n n
theorem a9h(i j:Nat):Builtin.Slice.slicePlaces (i:Int) (j:Int) 1=j - i:=by
 unfold Builtin.Slice.slicePlaces
 have h1:(1:Int)>0:=by lia
 simp only [h1,if_true,Int.ediv_one]
 split<;>lia
theorem a4B{v:AA}{o:Option Int}{Q:Option Int->AC->Prop}(p:IsPart v o)(h:Q o s):AF (model prog w) A (Builtin.Slice.slicePartIndex v) Q E s:=by
 cases p with
 |none=>exact slicePart_none h
 |int i t=>exact slicePart_int h
theorem sliceApplied_gen{sl:AB}{vl vu:AA}{lo hi:Option Int}{n:Nat}{Q:Int×Int×Nat->AC->Prop}(hs:s.heap.IsSliceOf sl vl vu .none)(pl:IsPart vl lo)(pu:IsPart vu hi)
 (h:Q (((sIx n 0 lo:Nat):Int),1,sIx n n hi - sIx n 0 lo) s):AF (model prog w) A (Builtin.Slice.sliceApplied (.ref sl) (pure (n:Int))) Q E s:=by
 obtain⟨os,hos,hcs,hds⟩:=id hs
 unfold Builtin.Slice.sliceApplied Builtin.Slice.sliceFields
 refine AD (AD (wpAny_field hos hds (x:=vl) rfl (AD (wpAny_field hos hds (x:=vu) rfl (AD (wpAny_field hos hds (x:= .none) rfl (AI ?_)))))))
 refine AD (slicePart_none ?_)
 show AF _ _ (if((1:Int)==0)=true then _ else _) _ _ s
 rw [if_neg (by decide)]
 refine AD (a4B pl (AD (a4B pu (AD (AI ?_)))))
 show AF _ _ (match Builtin.Slice.sliceAdjust lo hi 1 (n:Int) with|(lo,hi)=>pure (lo,(1:Int),Builtin.Slice.slicePlaces lo hi 1)) _ _ s
 rw [a8H lo hi n]
 show AF _ _ (pure (((sIx n 0 lo:Nat):Int),(1:Int),Builtin.Slice.slicePlaces ((sIx n 0 lo:Nat):Int) ((sIx n n hi:Nat):Int) 1)) _ _ s
 rw [a9h]
 exact AI h
theorem b3E(xs:Array AA)(i k:Nat):((AS k).filterMap fun(m:Nat)=>xs[((i:Int)+(m:Int)*1).toNat]?).toArray=((xs.toList.drop i).take k).toArray:=by
 have e:(fun(m:Nat)=>xs[((i:Int)+(m:Int)*1).toNat]?)=fun m=>xs[i+m]?:=by
  funext m
  have:((i:Int)+(m:Int)*1).toNat=i+m:=by lia
  rw [this]
 rw [e]
 have:=pick_run xs i k
 rw [List.filterMap_map] at this
 have e2:((fun x=>xs[x]?)∘fun x=>i+x)=fun m=>xs[i+m]?:=rfl
 rw [e2] at this
 rw [this]
theorem getItem_tuple_cut{t sl:AB}{items:Array AA}{vl vu:AA}{lo hi:Option Int}{Q:AA->AC->Prop}(ht:IsTup s.heap t items)(hs:s.heap.IsSliceOf sl vl vu .none)(pl:IsPart vl lo)(pu:IsPart vu hi)
 (hw:¬(sIx items.size 0 lo=0/\sIx items.size items.size hi=items.size))
 (h:Q (.ref s.heap.objs.size) {s with heap:=s.heap.push {cls:= .type "tuple",data:= .seq ((items.toList.drop (sIx items.size 0 lo)).take (sIx items.size items.size hi - sIx items.size 0 lo)).toArray}})
 (hsz:items.size<=AN):AF (model prog w) A (getItem (.ref t) (.ref sl)) Q E s:=by
 have htake:sizeOk (.seq ((items.toList.drop (sIx items.size 0 lo)).take (sIx items.size items.size hi - sIx items.size 0 lo)).toArray):=by
  show((items.toList.drop (sIx items.size 0 lo)).take (sIx items.size items.size hi - sIx items.size 0 lo)).toArray.size<=AN
  rw [Am,List.length_take,List.length_drop,Array.length_toList]
  lia
 have hj:sIx items.size items.size hi<=items.size:=sIx_le _ _ (AO _) hi
 obtain⟨os,hos,hcs,hds⟩:=id hs
 have hTs:s.TypeIs (.ref sl) "slice":=⟨os,hos,hcs⟩
 unfold getItem
 try with_reducible refine wpAny_holding ?_
 first|refine AD (AI ?_)|skip
 refine AD (wpAny_sequenceKey ht.typeIs (by decide) ?_)
 refine AD (wpAny_callSpecial?_slot (name:=AM "__getitem__") ht.typeIs PyProof.Rows.slot_tuple_getitem
  (wpAny_call_entry PyProof.Rows.slot_tuple_getitem ht.typeIs entry_tuple_getitem ?_ (args_tuple_getitem _ _)))
 show AF _ _ (Builtin.Tuple.tupleItemsOf (.ref t)>>=_) _ _ s
 refine AD (tupleItemsOf_ ht ?_)
 refine AD (wpAny_typeOf hTs ?_)
 rw [if_pos (by decide)]
 refine AD (sliceApplied_gen hs pl pu ?_)
 have hno:¬((((sIx items.size 0 lo:Nat):Int)==0 &&(1:Int)==1 &&(sIx items.size items.size hi - sIx items.size 0 lo)==items.size)=true):=by
  intro q
  rw [Bool.and_eq_true,Bool.and_eq_true] at q
  have q1:((sIx items.size 0 lo:Nat):Int)=0:=eq_of_beq q.1.1
  have q2:sIx items.size items.size hi - sIx items.size 0 lo=items.size:=eq_of_beq q.2
  exact hw ⟨by lia,by lia⟩
 show AF _ _ (if(((sIx items.size 0 lo:Nat):Int)==0 &&(1:Int)==1 &&(sIx items.size items.size hi - sIx items.size 0 lo)==items.size)=true then _ else _) _ _ s
 rw [if_neg hno,b3E]
 first
  |exact AD (m:=Builtin.Tuple.tupleExact _) (wpAny_newObj_type (AI ⟨_,rfl,AI h⟩) htake)
  |exact AD (m:=Builtin.Tuple.tupleExact _) (wpAny_newObj_type (AD (AI (AI ⟨_,rfl,AI h⟩))) htake)
  |exact AD (AD (m:=Builtin.Tuple.tupleExact _) (wpAny_newObj_type (AI (AI ⟨_,rfl,AI h⟩)) htake))
  |exact AD (AD (m:=Builtin.Tuple.tupleExact _) (wpAny_newObj_type (AI ⟨_,rfl,AI h⟩) htake))
end
end HT
namespace L2
open PySem PySem.Spec PyProof.Rows
abbrev TO:=St->Hp->(Option Int->Hp->Prop)->Prop
def PO(X:Cx)(e:Option AG)(t:TO):Prop:=
 ∀(pins:List (AB×Obj)) (s:AC) (σ:St) (H:Hp) (Q:Option Int->Hp->Prop),g8 X pins σ H s->t σ H Q->
  AF (model X.prog X.w) X.A (evalPart e X.env) (fun u s'=>∃o H',g8 X pins σ H' s'/\IsPart u o/\Q o H') X.xe s
def b5P:TO:=fun _ H Q=>Q none H
def b9r(t:TE):TO:=fun σ H Q=>t σ H fun x H1=>∃i,x= .int i/\Q (some i) H1
section
variable {X:Cx}{e:AG}{te:TE}{lo hi:Option AG}{tl th:TO}{pos p2:Pos}
theorem b5t:PO X none b5P:=by
 intro pins s σ H Q I h
 rw [evalPart_none]
 exact AI ⟨none,H,I,.none,h⟩
theorem b5u(h:PE X e te):PO X (some e) (b9r te):=by
 intro pins s σ H Q I hw
 rw [evalPart_some]
 refine A6 (h pins s σ H _ I hw) fun u s1 h0=>j8 h0 fun x H1 I1 r1 q1=> ?_
 obtain⟨i,rfl,q⟩:=q1
 obtain⟨t,rfl⟩:=r1
 exact⟨some i,H1,I1,.int i t,q⟩
def SlR(X:Cx)(r:V->Option Int->Option Int->Hp->VK->Prop):Prop:=
 ∀(pins:List (AB×Obj)) (s:AC) (σ:St) (H:Hp) (x:V) (v vl vu:AA) (lo hi:Option Int) (sl:AB) (Q:VK),g8 X pins σ H s->j6 x v->s.heap.IsSliceOf sl vl vu .none->IsPart vl lo->IsPart vu hi->r x lo hi H Q->
  ∃T id,typeLookup (.type T) "__getitem__"=pure (some (.builtin id))/\s.TypeIs v T/\AF (model X.prog X.w) X.A (getItem v (.ref sl)) (EP X pins σ Q) X.xe s
def tSl(r:V->Option Int->Option Int->Hp->VK->Prop)(te:TE)(tl th:TO):TE:=fun σ H Q=>te σ H fun x H1=>tl σ H1 fun l H2=>th σ H2 fun u H3=>r x l u H3 Q
theorem b3B{r:V->Option Int->Option Int->Hp->VK->Prop}(hr:SlR X r)(he:PE X e te)(hl:PO X lo tl)(hu:PO X hi th):PE X (.Subscript e (.Slice lo hi none p2) pos) (tSl r te tl th):=by
 intro pins s σ H Q I h
 refine Subscript_ (A6 (he pins s σ H _ I h) fun v s1 h0=>j8 h0 fun x H1 I1 r1 q1=> ?_)
 refine wpAny_Slice (A6 (hl pins s1 σ H1 _ I1 q1) fun vl s2 h0=>j8 h0 fun l H2 I2 pl q2=>A6 (hu pins s2 σ H2 _ I2 q2) fun vu s3 h0=>j8 h0 fun u H3 I3 pu q3=> ?_)
 rw [evalPart_none]
 refine AI ?_
 have I4:g8 X pins σ H3 {s3 with heap:=s3.heap.push {cls:= .type "slice",data:= .fields #[vl,vu,.none]}}:=I3.kept (t':=s3.toks) fun b ob q=>AU _ q
 obtain⟨T,id,hT,ht,hg⟩:=hr pins {s3 with heap:=s3.heap.push {cls:= .type "slice",data:= .fields #[vl,vu,.none]}} σ H3 x v vl vu l u s3.heap.objs.size Q I4 r1 (Heap.IsSliceOf.new ..) pl pu q3
 show AF (model X.prog X.w) X.A (subscriptTail e (.Slice lo hi none p2) v (.ref s3.heap.objs.size)) (EP X pins σ Q) X.xe {s3 with heap:=s3.heap.push {cls:= .type "slice",data:= .fields #[vl,vu,.none]}}
 exact tail_any (ops:=[.ref s3.heap.objs.size,v]) ht hT hg (by with_unfolding_all rfl)
def b4u(xs:List V)(lo hi:Option Int):List V:=(xs.drop (HT.sIx xs.length 0 lo)).take (HT.sIx xs.length xs.length hi - HT.sIx xs.length 0 lo)
theorem a7t(xs:List V)(lo hi:Option Int):(b4u xs lo hi).length<=xs.length:=by
 unfold b4u
 rw [List.length_take,List.length_drop]
 lia
def b9U(K:AE):V->Option Int->Option Int->Hp->VK->Prop:=fun x lo hi H Q=>∃a xs,x= .ref a/\SqT K H a xs/\
 ¬(HT.sIx xs.length 0 lo=0/\HT.sIx xs.length xs.length hi=xs.length)/\∀p,H p=none->Q (.ref p) (m8 H p (.tup (b4u xs lo hi)))
theorem b75:SlR X (b9U X.K):=by
 intro pins s σ H x v vl vu lo hi sl Q I rx hs pl pu h
 obtain⟨a,xs,rfl,hx,hw,q⟩:=h
 cases rx
 obtain⟨its,r,ht,hz⟩:=I.tuple hx
 have hlen:its.toArray.size=xs.length:=by rw [Am];exact r.length.symm
 refine⟨"tuple",_,PyProof.Rows.slot_tuple_getitem.lookup,ht.typeIs, ?_⟩
 refine HT.getItem_tuple_cut ht hs pl pu (by rw [hlen];exact hw) ?_ (by rw [hlen];exact hz)
 rw [hlen]
 refine⟨.ref s.heap.objs.size,_,I.laid (t':=s.toks) (o:= .tup (b4u xs lo hi)) (fun b ob q=>AU _ q) (AO _) ?_,rfl,q _ (I.hok.fresh (AO _))⟩
 exact⟨Nat.le_trans (a7t xs lo hi) hz,_,(r.drop (HT.sIx xs.length 0 lo)).take (HT.sIx xs.length xs.length hi - HT.sIx xs.length 0 lo),IsTup.new _ _⟩
def b9h(K:AE):R2:=fun x y H Q=>∃a b xs ys,x= .ref a/\y= .ref b/\SqT K H a xs/\SqT K H b ys/\xs≠[]/\xs.length+ys.length<=AN/\
 (ys=[]->Q (.ref a) H)/\(ys≠[]->∀p,H p=none->Q (.ref p) (m8 H p (.tup (xs++ys))))
theorem j3.nil_iff{xs:List V}{us:List AA}(r:j3 xs us):us=[]↔xs=[]:=by
 cases r with
 |nil=>simp
 |cons _ _=>simp
theorem b5h:OpR X (binaryOp .Add) (b9h X.K):=by
 intro pins s σ H x y v u Q I rx ry h
 obtain⟨a,b,xs,ys,rfl,rfl,ha,hb,hx,hz,q1,q2⟩:=h
 cases rx
 cases ry
 obtain⟨its,r1,p1,_⟩:=I.tuple ha
 obtain⟨its2,r2,p2,_⟩:=I.tuple hb
 refine HT.cat_tup p1 p2 (fun z=>hx (r1.nil_iff.mp z)) (fun z=>⟨.ref a,H,I,rfl,q1 (r2.nil_iff.mp z)⟩) (fun z=> ?_) (by rw [<-r1.length,<-r2.length];exact hz)
 refine⟨.ref s.heap.objs.size,_,I.laid (t':=s.toks) (o:= .tup (xs++ys)) (fun b ob q=>AU _ q) (AO _) ?_,rfl,q2 (fun w=>z (r2.nil_iff.mpr w)) _ (I.hok.fresh (AO _))⟩
 exact⟨by rw [Ao];exact hz,_,r1.append r2,IsTup.new _ _⟩
end
def ixN(n:Nat)(i:Int):Option Nat:=if 0<=i then(if i<n then some i.toNat else none) else if -(n:Int)<=i then some (i+n).toNat else none
def atI{α:Type}(xs:List α)(i:Int):Option α:=(ixN xs.length i).bind fun j=>xs[j]?
theorem b4S{n:Nat}{i:Int}{j:Nat}(h:ixN n i=some j):seqIndex? i n=some j/\j<n/\ -(n:Int)<=i/\i<n:=by
 unfold ixN at h
 by_cases h0:0<=i
 ·rw [if_pos h0] at h
  by_cases h1:i<n
  ·rw [if_pos h1] at h
   have e:i.toNat=j:=Option.some.inj h
   exact⟨by rw [seqIndex_of h0 h1,e],by lia,by lia,h1⟩
  ·rw [if_neg h1] at h;cases h
 ·rw [if_neg h0] at h
  by_cases h1: -(n:Int)<=i
  ·rw [if_pos h1] at h
   have e:(i+n).toNat=j:=Option.some.inj h
   exact⟨by rw [seqIndex_neg (by lia) h1,e],by lia,h1,by lia⟩
  ·rw [if_neg h1] at h;cases h
theorem a6c{α:Type}{xs:List α}{i:Int}{v:α}(h:atI xs i=some v):∃j,seqIndex? i xs.length=some j/\xs[j]?=some v/\j<xs.length/\ -(xs.length:Int)<=i/\i<xs.length:=by
 unfold atI at h
 cases e:ixN xs.length i with
 |none=>rw [e] at h;cases h
 |some j=>
  rw [e] at h
  obtain⟨h1,h2,h3,h4⟩:=b4S e
  exact⟨j,h1,h,h2,h3,h4⟩
def a9y(b:AG):Prop:=∀o i,subscripted b false o i=operate [o,i] (getItem o i)
def IxR(X:Cx)(r:R2):Prop:=
 ∀(value slice:AG) (pins:List (AB×Obj)) (s:AC) (σ:St) (H:Hp) (x y:V) (v u:AA) (Q:VK),g8 X pins σ H s->j6 x v->j6 y u->r x y H Q->
  subscripted slice false v u=operate [v,u] (getItem v u)->AF (model X.prog X.w) X.A (subscriptTail value slice v u) (EP X pins σ Q) X.xe s
def MtR(X:Cx)(id:String)(r:V->List V->Hp->VK->Prop):Prop:=
 ∀(pins:List (AB×Obj)) (s:AC) (σ:St) (H:Hp) (x:V) (xs:List V) (v:AA) (us:List AA) (Q:VK),g8 X pins σ H s->j6 x v->j3 xs us->r x xs H Q->
  AF (model X.prog X.w) X.A (call (.builtin id) (v::us)) (EP X pins σ Q) X.xe s
section
variable {X:Cx}{a b:AG}{ta tb:TE}{pos:Pos}
theorem b9b{r:R2}(hr:IxR X r)(ha:PE X a ta)(hb:PE X b tb)(hs:a9y b):PE X (.Subscript a b pos) (tOp r ta tb):=by
 intro pins s σ H Q I h
 exact Subscript_ (b6I ha hb I h fun v u s2 x y H2 I2 rx ry q=>hr a b pins s2 σ H2 x y v u Q I2 rx ry q (hs _ _))
def b9Q(K:AE):R2:=fun x y H Q=>∃p xs i v,x= .ref p/\y= .int i/\Q4 K H p xs/\atI xs i=some v/\Q v H
def b9S(K:AE):R2:=fun x y H Q=>∃p xs i v,x= .ref p/\y= .int i/\SqT K H p xs/\atI xs i=some v/\Q v H
def b9R:R2:=fun x y H Q=>∃z i c,x= .str z/\y= .int i/\z.length<=AN/\atI z.cps.toList i=some c/\Q (.str ⟨#[c]⟩) H
theorem b4T:IxR X (b9Q X.K):=by
 intro value slice pins s σ H x y v u Q I rx ry h hs
 obtain⟨p,xs,i,z,rfl,rfl,hq,he,q⟩:=h
 cases rx
 obtain⟨t,rfl⟩:=ry
 obtain⟨its,r,pl,hz⟩:=I.list hq
 obtain⟨j,h1,h2,h3,h4,h5⟩:=a6c he
 obtain⟨w,ew,rw'⟩:=r.get h2
 have hl:=r.length
 have hn:=a1X
 have fin:EP X pins σ Q w s:=⟨z,H,I,rw',q⟩
 by_cases h0:0<=i
 ·have hj:i.toNat=j:=by
   rw [seqIndex_of h0 h5] at h1
   exact Option.some.inj h1
  exact item_listR pl.isList h0 (by lia) (by rw [hj];simpa using ew) fin hs
 ·have hj:(i+(its.toArray.size:Int)).toNat=j:=by
   rw [seqIndex_neg (by lia) h4] at h1
   rw [Am,<-hl]
   exact Option.some.inj h1
  exact subscriptTail_builtinR (x:=w) pl.isList.typeIs slot_list_getitem.lookup
   (wpAny_getItem_list_neg (Q:=fun r s'=>r=w/\EP X pins σ Q r s') pl.isList (by lia) (by rw [Am]<;>lia) (by lia) (by rw [hj];simpa using ew) ⟨rfl,fin⟩) hs
theorem b7c:IxR X (b9S X.K):=by
 intro value slice pins s σ H x y v u Q I rx ry h hs
 obtain⟨p,xs,i,z,rfl,rfl,hq,he,q⟩:=h
 cases rx
 obtain⟨t,rfl⟩:=ry
 obtain⟨its,r,pl,hz⟩:=I.tuple hq
 obtain⟨j,h1,h2,h3,h4,h5⟩:=a6c he
 obtain⟨w,ew,rw'⟩:=r.get h2
 have hl:=r.length
 have hn:=a1X
 have fin:EP X pins σ Q w s:=⟨z,H,I,rw',q⟩
 exact subscriptTail_builtinR (x:=w) pl.typeIs slot_tuple_getitem.lookup
  (getItem_tuple (j:=j) (Q:=fun r s'=>r=w/\EP X pins σ Q r s') pl (by lia) (by lia) (by rw [Am,<-hl];exact h1) (by simpa using ew) ⟨rfl,fin⟩) hs
theorem b7b:IxR X b9R:=by
 intro value slice pins s σ H x y v u Q I rx ry h hs
 obtain⟨z,i,c,rfl,rfl,hz,he,q⟩:=h
 obtain⟨t,rfl⟩:=rx
 obtain⟨t',rfl⟩:=ry
 obtain⟨j,h1,h2,h3,h4,h5⟩:=a6c he
 have hl:z.cps.toList.length=z.length:=by simp [Str.length]
 rw [hl] at h1 h4 h5
 have hn:=a1X
 exact tail_any (typeIs_str s z t) slot_str_getitem.lookup (getItem_str (c:=c) (by
  have e1:decide (i< -(2 ^ 63:Int))=false:=decide_eq_false (by lia)
  have e2:decide (i>=2 ^ 63)=false:=decide_eq_false (by lia)
  rw [e1,e2,Bool.or_false]) (by rw [h1];simpa using h2) ⟨.str ⟨#[c]⟩,H,I.tok _,⟨_,rfl⟩,q⟩) hs
theorem a6f:A9 X (.builtin "len") (fun xs H Q=>∃p ys,xs=[.ref p]/\(Q4 X.K H p ys\/SqT X.K H p ys)/\Q (.int ys.length) H):=by
 intro pins s σ H xs us Q I r h
 obtain⟨p,ys,rfl,hq,q⟩:=h
 obtain⟨u,rfl,rx⟩:=Z3 r
 cases rx
 have hn:=a1X
 rcases hq with hq|hq
 ·obtain⟨its,r',pl,hz⟩:=I.list hq
  have hlen:=r'.length
  exact Calls.call_len_list pl.isList (by simp only [Am]<;>lia) ⟨.int ys.length,H,I.tok _,⟨s.toks+1,by rw [Am,hlen]⟩,q⟩
 ·obtain⟨its,r',pl,hz⟩:=I.tuple hq
  have hlen:=r'.length
  exact len_tuple pl (by simp only [Am]<;>lia) ⟨.int ys.length,H,I.tok _,⟨s.toks+1,by rw [Am,hlen]⟩,q⟩
theorem a6g:A9 X (.builtin "len") (fun xs H Q=>∃z,xs=[.str z]/\z.length<=AN/\Q (.int z.length) H):=by
 intro pins s σ H xs us Q I r h
 obtain⟨z,rfl,hz,q⟩:=h
 obtain⟨u,rfl,t,rfl⟩:=Z3 r
 have hn:=a1X
 exact len_str (by lia) ⟨.int z.length,H,I.tok _,⟨_,rfl⟩,q⟩
theorem a6h:A9 X (.type "list") (fun xs H Q=>∃p ys,xs=[.ref p]/\(Q4 X.K H p ys\/SqT X.K H p ys)/\∀l,H l=none->Q (.ref l) (m8 H l (.lst ys))):=by
 intro pins s σ H xs us Q I r h
 obtain⟨p,ys,rfl,hq,q⟩:=h
 obtain⟨u,rfl,rx⟩:=Z3 r
 cases rx
 have fin:∀(its:List AA),j3 ys its->ys.length<=AN->∀(h':Heap) (c':Nat),(∀b o',s.heap.get? b=some o'->h'.get? b=some o')->
  h'.get? s.heap.objs.size=some {cls:= .type "list",dict:=none,data:= .seq its.toArray c',slots:= #[]}->EP X pins σ Q (.ref s.heap.objs.size) {s with heap:=h'}:=fun its r' hz h' c' kp e=>
  ⟨.ref s.heap.objs.size,_,I.laid (t':=s.toks) kp (AO _) (show t4 X.prog X.w _ h' _ (.lst ys) from⟨hz,its,c',r',e⟩),rfl,q _ (I.hok.fresh (AO _))⟩
 rcases hq with hq|hq
 ·obtain⟨its,r',pl,hz⟩:=I.list hq
  have hlen:=r'.length
  obtain⟨o,ho,hc,n,hd⟩:=pl.isList
  exact call_list_seq p (.inl rfl) ho hc hd (fun h' c' kp e=>fin its r' hz h' c' kp e) (by simp only [Am]<;>lia)
 ·obtain⟨its,r',pl,hz⟩:=I.tuple hq
  have hlen:=r'.length
  obtain⟨o,ho,hc,n,hd⟩:=pl
  exact call_list_seq p (.inr rfl) ho hc hd (fun h' c' kp e=>fin its r' hz h' c' kp e) (by simp only [Am]<;>lia)
theorem a4P:A9 X (.type "tuple") (fun xs H Q=>∃p ys,xs=[.ref p]/\((Q4 X.K H p ys/\∀l,H l=none->Q (.ref l) (m8 H l (.tup ys)))\/(SqT X.K H p ys/\Q (.ref p) H))):=by
 intro pins s σ H xs us Q I r h
 obtain⟨p,ys,rfl,h⟩:=h
 obtain⟨u,rfl,rx⟩:=Z3 r
 cases rx
 rcases h with⟨hq,q⟩|⟨hq,q⟩
 ·obtain⟨its,r',pl,hz⟩:=I.list hq
  have hlen:=r'.length
  refine call_tuple_list pl.isList (fun h' kp=> ?_) (by simp only [Am]<;>lia)
  have I1:g8 X pins σ H {s with heap:=h'}:=I.kept (t':=s.toks) kp
  have I2:g8 X pins σ (m8 H h'.objs.size (.tup ys)) {s with heap:=h'.push {cls:= .type "tuple",data:= .seq its.toArray}}:=
   I1.laid (t':=s.toks) (fun b o e=>AU _ e) (AO _) (show t4 X.prog X.w _ _ _ (.tup ys) from⟨hz,its,r',IsTup.new _ _⟩)
  exact⟨.ref h'.objs.size,_,I2,rfl,q _ (I1.hok.fresh (AO _))⟩
 ·obtain⟨its,r',pl,hz⟩:=I.tuple hq
  exact call_tuple_same pl ⟨.ref p,H,I,rfl,q⟩
def tyV(K:AE)(T:String)(x:V)(H:Hp):Prop:=match x with
 | .str _=>T="str"
 | .int _=>T="int"
 | .ref p=>(T="list"/\∃xs,Q4 K H p xs)\/(T="tuple"/\∃o,K.lookup p=some o/\o.cls= .type "tuple"/\o.dict=none)\/
  (T="dict"/\((∃kvs,H p=some (.dK kvs))\/∃kvs,H p=some (.dT kvs)))\/(T="set"/\∃S n,H p=some (.set S n))
 |_=>False
theorem b8f{pins:List (AB×Obj)}{σ:St}{H:Hp}{s:AC}{T:String}{x:V}{v:AA}(I:g8 X pins σ H s)(r:j6 x v)(ty:tyV X.K T x H):
 s.TypeIs v T/\∀a,v= .ref a->∃ob,s.heap.get? a=some ob/\ob.dict=none:=by
 cases x with
 |str z=>
  obtain⟨t,rfl⟩:=r
  cases(show T="str" from ty)
  exact⟨typeIs_str s z t,fun _ e=>nomatch e⟩
 |int i=>
  obtain⟨t,rfl⟩:=r
  cases(show T="int" from ty)
  exact⟨typeIs_int s i t,fun _ e=>nomatch e⟩
 |ref p=>
  cases r
  rcases ty with⟨rfl,xs,hq⟩|⟨rfl,o,hk,hc,hd⟩|⟨rfl,hk⟩|⟨rfl,S,n,hk⟩
  ·obtain⟨its,_,pl,_⟩:=I.list hq
   refine⟨pl.isList.typeIs,fun a e=> ?_⟩
   cases e
   obtain⟨o,n,e,c,hd,_⟩:=pl
   exact⟨o,e,hd⟩
  ·refine⟨⟨o,I.kIn p o hk,hc⟩,fun a e=> ?_⟩
   cases e
   exact⟨o,I.kIn _ o hk,hd⟩
  ·have z:∃o,s.heap.get? p=some o/\o.ExactDict:=by
    rcases hk with⟨kvs,hk⟩|⟨kvs,hk⟩
    ·obtain⟨_,_,_,_,o,_,_,e,ex,_⟩:=I.hok p _ hk
     exact⟨o,e,ex⟩
    ·obtain⟨_,_,_,_,o,_,_,e,ex,_⟩:=I.hok p _ hk
     exact⟨o,e,ex⟩
   obtain⟨o,e,ex⟩:=z
   refine⟨⟨o,e,ex.1⟩,fun a e2=> ?_⟩
   cases e2
   exact⟨o,e,ex.2.1⟩
  ·obtain⟨o,_,_,_,e,ex,_⟩:=I.hok p _ hk
   refine⟨⟨o,e,ex.1⟩,fun a e2=> ?_⟩
   cases e2
   exact⟨o,e,ex.2.1⟩
 |_=>exact False.elim ty
def tBM(K:AE)(T:String)(r:V->List V->Hp->VK->Prop)(to:TE)(t:TA):TE:=fun σ H Q=>to σ H fun x H1=>tyV K T x H1/\t σ H1 fun xs H2=>r x xs H2 Q
variable {o e:AG}{es:List AG}{to:TE}{t:TA}{name:Str}{apos cpos:Pos}{T id:String}{r:V->List V->Hp->VK->Prop}
theorem b6n(pa:PlainAttrs T)(slot:Slot T name id)(hty:typeOf (.builtin id)=pure (.type "method_descriptor"))(hm:MtR X id r)(ho:PE X o to)(ha:PA X (e::es) t)
 (hbase:attributeBase o name X.env (eval o X.env)=eval o X.env:=by rfl)
 (hfew:((backTo cpos (AQ (e::es) X.env)).all (fun x=> !x.1)&&(backToKw cpos (keywordEach [] X.env)).all (fun x=>x.1.isSome)
  && decide ((e::es).length+([]:List Keyword).length+(if([]:List Keyword).isEmpty then 0 else 1)<30))=true:=by rfl)
 (hline:(apos.endLine==cpos.line)=true:=by rfl) (hs:AQ (e::es) X.env=(false,eval e X.env)::AQ es X.env:=by rfl) (hplain:(backTo cpos (AQ es X.env)).any (·.1)=false:=by rfl):
 PE X (.Call (.Attribute o name apos) (e::es) [] cpos) (tBM X.K T r to t):=by
 intro pins s σ H Q I h
 refine wpAny_Call_method_late hbase hfew hline rfl (A6 (ho pins s σ H _ I h) fun v s1 h0=>a3b h0 fun x H1 I1 r1 ty q1=> ?_)
 obtain⟨h1,h2⟩:=b8f I1 r1 ty
 refine⟨T,id,pa,slot,hty,h1,h2, ?_⟩
 have hA:=ha cpos pins s1 σ H1 _ I1 q1
 rw [hs] at hA ⊢
 refine Calls.callWith_builtin (by show(false||(backTo cpos (AQ es X.env)).any (·.1))=false;rw [hplain]<;>rfl) (Calls.evalArgs_plain ?_)
 exact A6 hA fun us s2 h0=>j8 h0 fun vs H2 I2 r2 q2=>hm pins s2 σ H2 x vs v us Q I2 r1 r2 q2
end
def MtM(X:Cx)(id:String)(r:V->List V->Hp->VK->Prop):Prop:=
 ∀(pins:List (AB×Obj)) (s:AC) (σ:St) (H:Hp) (x:V) (xs:List V) (v:AA) (us:List AA) (Q:VK),g8 X pins σ H s->j6 x v->j3 xs us->r x xs H Q->
  AF (model X.prog X.w) X.A (call (.builtin id) (v::us)) (EP X pins σ Q) X.xe s
theorem j3.one:∀{x:V} {us:List AA},j3 [x] us->∃u,us=[u]/\j6 x u
 |_,_,.cons r .nil=>⟨_,rfl,r⟩
theorem j3.rep{xs:List V}{us:List AA}(h:j3 xs us):∀k:Nat,j3 (AV k xs).flatten (AV k us).flatten
 |0=> .nil
 |k+1=>by
  rw [Aa,Aa,List.flatten_cons,List.flatten_cons]
  exact j3.append h (j3.rep h k)
theorem a1L(its:List AA):∀(k:Nat) (acc:List AA),
 List.foldl (fun x1 x2=>x1++x2) acc.toArray (AV k its.toArray)=(acc++(AV k its).flatten).toArray
 |0,acc=>by simp
 |k+1,acc=>by
  have e:acc.toArray++its.toArray=(acc++its).toArray:=by simp
  have e2:(acc++its)++(AV k its).flatten=acc++(AV (k+1) its).flatten:=by
   rw [Aa,List.flatten_cons,List.append_assoc]
  rw [<-e2,<-a1L its k (acc++its),<-e,Aa,List.foldl_cons]
section
variable {X:Cx}{pins:List (AB×Obj)}{σ:St}{H:Hp}{s:AC}{l b:AB}{xs ys zs:List V}
theorem g8.lset{its its':List AA}{n:Nat}{f:Array AA->Array AA}{t':Nat}(I:g8 X pins σ H s)(hH:H l=some (.lst xs))
 (e:s.heap.get? l=some {cls:= .type "list",data:= .seq its.toArray n}) (hf:f its.toArray=its'.toArray) (hv:j3 ys its') (hz:ys.length<=AN):
 g8 X pins σ (m8 H l (.lst ys)) {s with heap:=s.heap.update l (Obj.mapSeq f),toks:=t'}:=by
 have q:=PySem.IsL.update e f
 rw [hf] at q
 refine I.write (x:=l) (e:=l) (by rw [hH];exact trivial) (.inl rfl) (fun b' u hb hu=>(Heap.get?_update_other s.heap (Obj.mapSeq f) (Ne.symm hb)).trans hu) ⟨_,q⟩ ?_
 exact⟨hz,its',_,hv,q⟩
theorem g8.lnew{its:List AA}{t':Nat}(I:g8 X pins σ H s)(hv:j3 ys its)(hz:ys.length<=AN):
 g8 X pins σ (m8 H s.heap.objs.size (.lst ys)) {s with heap:=s.heap.push {cls:= .type "list",data:= .seq its.toArray},toks:=t'}:=
 I.laid (fun _ _ q=>AU _ q) (AO _) ⟨hz,its,0,hv,Aq _ rfl⟩
theorem g8.fresh(I:g8 X pins σ H s):H s.heap.objs.size=none:=I.hok.fresh (AO _)
theorem g8.lstM(I:g8 X pins σ H s)(hH:H l=some (.lst xs)):xs.length<=AN/\∃(its:List AA) (n:Nat),j3 xs its/\xs.length=its.length/\s.heap.get? l=some {cls:= .type "list",data:= .seq its.toArray n}:=by
 obtain⟨z,its,n,r,e⟩:=I.hok l _ hH
 exact⟨z,its,n,r,r.length,e⟩
theorem b3k{n:Nat}(h:n<=AN):Builtin.List.listTooLong n=false:=by
 unfold Builtin.List.listTooLong
 exact decide_eq_false (by lia)
end
section
variable {X:Cx}
def b5z:V->List V->Hp->VK->Prop:=fun x vs H Q=>∃l xs y,x= .ref l/\vs=[y]/\H l=some (.lst xs)/\xs.length<AN/\Q .non (m8 H l (.lst (xs++[y])))
theorem a5I:MtM X "list.append" b5z:=by
 intro pins s σ H x vs v us Q I rx rv h
 obtain⟨l,xs,y,rfl,rfl,hH,hz,q⟩:=h
 cases rx
 obtain⟨u,rfl,ru⟩:=rv.one
 obtain⟨z,its,n,r,hl,e⟩:=I.lstM hH
 refine call_meets F.slot_list_append ⟨_,e,rfl⟩ F.entry_list_append (F.args_list_append_2 _ _) (PySem.list_append l its.toArray n u (by rw [Am];lia)) ⟨e, ?_⟩
 refine⟨.non,_,I.lset (its':=its++[u]) hH e (by simp) (r.append (.cons ru .nil)) ?_,rfl,q⟩
 rw [Ao,List.length_singleton]
 lia
def b9P:R2:=fun x y H Q=>∃l b xs zs,x= .ref l/\y= .ref b/\H l=some (.lst xs)/\H b=some (.lst zs)/\xs.length+zs.length<=AN/\∀p,H p=none->Q (.ref p) (m8 H p (.lst (xs++zs)))
theorem b7C:OpR X (binaryOp .Add) b9P:=by
 intro pins s σ H x y v u Q I rx ry h
 obtain⟨l,b,xs,zs,rfl,rfl,hH,hB,hz,q⟩:=h
 cases rx
 cases ry
 obtain⟨z,its,n,r,hl,e⟩:=I.lstM hH
 obtain⟨z2,its2,n2,r2,hl2,e2⟩:=I.lstM hB
 refine PySem.P.add_list e e2 ?_ (by rw [Am,Am];lia)
 have ea:its.toArray++its2.toArray=(its++its2).toArray:=by simp
 rw [ea]
 exact⟨.ref _,_,I.lnew (t':=s.toks) (r.append r2) (by rw [Ao];lia),rfl,q _ I.fresh⟩
def b9T:R2:=fun x y H Q=>∃l k xs,x= .ref l/\y= .int k/\H l=some (.lst xs)/\ -(2 ^ 63)<=k/\k<2 ^ 63/\xs.length*k.toNat<=AN/\
 ∀p,H p=none->Q (.ref p) (m8 H p (.lst (AV k.toNat xs).flatten))
theorem a6F{α:Type}(xs:List α)(k:Nat):(AV k xs).flatten.length=k*xs.length:=by
 induction k with
 |zero=>simp
 |succ k ih=>rw [Aa,List.flatten_cons,Ao,ih,Nat.succ_mul,Nat.add_comm]
theorem b7F:OpR X (binaryOp .Mult) b9T:=by
 intro pins s σ H x y v u Q I rx ry h
 obtain⟨l,k,xs,rfl,rfl,hH,h1,h2,hz,q⟩:=h
 cases rx
 obtain⟨t,rfl⟩:=ry
 obtain⟨z,its,n,r,hl,e⟩:=I.lstM hH
 have hlen:its.toArray.size*k.toNat<=AN:=by rw [Am,<-hl];exact hz
 have hcap:¬its.toArray.size*k.toNat>(2 ^ 63 - 1)/ 8:=by
  have:(AN:Nat)<=(2 ^ 63 - 1)/ 8:=by decide
  lia
 have hfit:¬(!Builtin.List.listFitsIndex k)=true:=by
  rw [fitsIndex_both h1 h2]
  exact Az
 have hlong:¬Builtin.List.listTooLong (its.toArray.size*k.toNat)=true:=by
  rw [b3k hlen]
  exact Az
 have hnew:List.foldl (fun x1 x2=>x1++x2) #[] (AV (if its.toArray.isEmpty=true then 0 else k.toNat) its.toArray)=(AV k.toNat its).flatten.toArray:=by
  have f0:∀m:Nat,List.foldl (fun x1 x2=>x1++x2) #[] (AV m its.toArray)=(AV m its).flatten.toArray:=fun m=>by
   have:=a1L its m []
   rw [Ag] at this
   exact this
  rw [f0]
  cases its with
  |nil=>simp
  |cons a r'=>rw [if_neg (by simp)]
 refine wpAny_binaryOp_repeat_ref (T:="list") (U:="int") (by decide) ⟨_,e,rfl⟩ (fun s'=>typeIs_int s' k t) noFill_list_mul F.fills_int_mul F.slot_int_rmul repeat_list F.slot_int_index.lookup
  (call_meets F.slot_int_rmul (typeIs_int s k t) F.entry_int_rmul (F.args_int_rmul_2 _ _) (int___rmul___int_list k t l its.toArray n)
   ⟨e,rfl,⟨_,e,rfl⟩,call_meets F.slot_list_mul ⟨_,e,rfl⟩ F.entry_list_mul (F.args_list_mul_2 _ _) (AutoListH.list___mul___list_int_3 l its.toArray n k t hfit hcap hlong) ⟨e, ?_⟩⟩)
 rw [hnew]
 exact⟨.ref _,_,I.lnew (t':=s.toks) (r.rep k.toNat) (by rw [a6F,Nat.mul_comm];exact hz),rfl,q _ I.fresh⟩
end
section
variable {prog:AJ}{w:AH}{A:AL}{E:AA->AC->Prop}{s:AC}
end
section
variable {X:Cx}
end
end L2
namespace Att
open PySem PySem.W PySem.Calls PyProof.Rows
theorem a21{P:Params}{h:Heap}:∀(ns:List Int) (vs:List AA),WellAll P h vs (ns.map WData.int)->IntsAre vs ns:=by
 intro ns
 induction ns with
 |nil=>
  intro vs w
  rw [Ak] at w
  cases w
  exact .nil
 |cons n ns ih=>
  intro vs w
  rw [AR] at w
  cases w with
  |cons a b=>
   cases a
   exact .cons _ _ (ih _ b)
theorem b1K{l:OpenLaw}{n:Nat}(hn:l.most=some n){P:Params}{h:Heap}{args:List WData}{vals:List AA}
 (hpre:l.row.toRowW.claim.pre args=true) (hwl:WellAll P h vals args):
 ∃a vs ns,vals=[Value.ref a]/\args=[WData.list (ns.map WData.int)]/\h.get? a=some {cls:= .type "list",data:= .seq vs.toArray}/\IntsAre vs ns/\ns.length<=n:=by
 have hsh:WShape.hasAll [] args [.list .int]=true:=(pre_splitW hpre).1
 have hc:l.pre.holds [] {args:=args}=true:=(pre_splitW hpre).2
 obtain⟨d,r,rfl,h1,h2⟩:=hasAllW_cons hsh
 obtain rfl:=hasAllW_nil h2
 obtain⟨xs,rfl,h3⟩:=hasW_list h1
 obtain⟨ns,rfl⟩:=items_int h3
 have hlen:ns.length<=n:=by
  unfold OpenLaw.pre at hc
  have h4:(WTm.not (.lt (.lit (.int (n:Int))) (.len (.arg 0)))).holds [] {args:=[.list (ns.map .int)]}=true:=by
   have h4:=(holds_andW hc).1
   rw [hn] at h4
   exact h4
  have h5:=condW_of h4 (w_not (w_lt w_lit (w_len_list (w_arg rfl))))
  rw [AW] at h5
  refine Nat.le_of_not_lt fun q=> ?_
  have q':(n:Int)<((ns.length:Nat):Int):=by lia
  first
   |(rw [decide_eq_true q'] at h5;exact absurd h5 (by decide))
   |(simp at h5;lia)
 cases hwl with
 |cons w1 w2=>
  cases w2
  cases w1 with
  |list ho hall=>exact⟨_,_,ns,rfl,rfl,ho,a21 ns _ hall,hlen⟩
theorem b1G(l:OpenLaw)(args:List WData):l.row.toRowW.claim.post args (.bool true) args=true:=
 postW_of (r:=l.row.toRowW) (X:=(true==true))
  (show WShape.has [] (.bool true) .bool=true by first|rfl|decide|simp [WShape.has,WShape.arms,WShape.armsAll])
  (show(WTm.eq .res (.lit (.bool true))).value [] {args:=args,res:=some (.bool true),after:=args}=some (.bool (true==true)) from w_eq_bool (w_res rfl) w_lit) rfl
theorem attach_call{l:OpenLaw}{n:Nat}{q:AJ}{loose:List Str}{XP:(Str->Option AA)->Heap->Prop}{YP:AH->Heap->Prop}{d:DefRec}
 (hn:l.most=some n) (hdf:d.params.defaults=[])
 (call:∀(w:AH) (s₀ s₁:AC) (mg mb:Str->Option AA) (fa:AB) (o:Obj) (pm cd doc:AA) (a:AB) (vs:List AA) (ns:List Int),
  Ground q loose [] XP w s₀ mg mb s₁.heap->YP w s₁.heap->
  s₁.heap.get? fa=some o->o.data= .func (docDef d.name d.params d.body d.scope pm cd doc)->s₁.heap.CodeRec cd d.name->mg d.name=some (.ref fa)->
  s₁.heap.get? a=some {cls:= .type "list",data:= .seq vs.toArray}->IntsAre vs ns->ns.length<=n->s₁.gens= #[]->
  codeAny (model l.prog w) callerA (.call (.ref fa) ⟨[.ref a],[]⟩) (fun r s'=>r= .ok (.ret (.bool true))/\OldK s₁.heap s'.heap/\s'.os=s₁.os/\AllBare s'.gens) s₁):
 WalkO q loose XP YP l.row.toRowW d [] (fun f vs=>PySem.call f vs):=by
 intro w s₀ s₁ mg mb G Y fa o pm cd doc dV kV ho hd hcd hD hmg hg args vals as hpre hlay hrd hwl hlo
 obtain rfl:dV= .none:=Dflts.none hD hdf
 obtain rfl:kV= .none:=Dflts.noKw hD
 obtain⟨a,vs,ns,rfl,rfl,hobj,hints,hlen⟩:=b1K hn hpre hwl
 refine enter_call (codeAny_mono (call w s₀ s₁ mg mb fa o pm cd doc a vs ns G Y ho (fd_plain hd) hcd hmg hobj hints hlen hg) fun r s' hq=> ?_)
 obtain⟨rfl,h2,h3,h4⟩:=hq
 exact⟨.inl ⟨.bool true,.bool true,[],rfl,fun _=>rfl,.bool true,b1G l _,fun _=>⟨List.Pairwise.nil,fun _ hm=>(nomatch hm)⟩⟩,h2,h3,h4⟩
section
variable {prog:AJ}{w:AH}{A:AL}{E:AA->AC->Prop}{s:AC}{K:Frag}
end
end Att
namespace L2
open PySem PySem.Spec PyProof.Rows
theorem a53:∀{vs:List AA} {ns:List Int},IntsAre vs ns->j3 (ns.map V.int) vs
 |_,_,.nil=> .nil
 |_,_,.cons n t h=> .cons ⟨t,rfl⟩ (a53 h)
def b6A(H:Hp):Prop:=∀b,H b=none\/∃o xs,H b=some (.frz o (.lst xs))
theorem b2Y{P:AJ}{w:AH}{K:AE}{mg mb:Str->Option AA}{CX:CXT}{k:Nat}{fa a:AB}{fd:FuncData}{x:Str}{sp:Sp}{s₁:AC}{vs:List AA}{ns:List Int}
 (KX:K.In s₁.heap) (hns:s₁.heap.Ns mainGlobals mg) (hb:s₁.heap.Ns builtinsNs mb) (hbb:∀x:Str,x≠"__name__"->mb x=bootBuiltins x) (hlim:s₁.heap.NoLimit) (hg:s₁.gens= #[])
 (ha:s₁.heap.get? a=some {cls:= .type "list",data:= .seq vs.toArray}) (hi:IntsAre vs ns) (hl:ns.length<=AN) (hr:x6 k callerA)
 (F:∀base:Heap,K.In base->base.Ns mainGlobals mg->E4 P w K mg base CX k fa fd [x] sp) (hbind:∀(s:AC) (u:AA),BindsTo s fd ⟨[u],[]⟩ [(x,u)])
 (hsp:∀H:Hp,b6A H->Q4 K H a (ns.map V.int)->sp [.ref a] H (fun v _=>v= .bl true) fun _ _ _=>False)
 (hCX:∀H e s',CX [] H s₁ (fun _ _ _=>False) e s'->False):
 codeAny (model P w) callerA (.call (.ref fa) ⟨[.ref a],[]⟩) (fun r s'=>r= .ok (.ret (.bool true))/\OldK s₁.heap s'.heap/\s'.os=s₁.os/\AllBare s'.gens) s₁:=by
 have rv:=a53 hi
 have lenV:=hi.length
 have core:∀H:Hp,b6A H->Q4 K H a (ns.map V.int)->HOk P w H s₁.heap->(∀b,H b≠none->b=a)->(H a≠none->K.lookup a=none)->
  codeAny (model P w) callerA (.call (.ref fa) ⟨[.ref a],[]⟩) (fun r s'=>r= .ok (.ret (.bool true))/\OldK s₁.heap s'.heap/\s'.os=s₁.os/\AllBare s'.gens) s₁:=by
  intro H hO hS hok hA hK
  have base_of:∀{b:AB} {o:Obj},s₁.heap.get? b=some o->H b=none->(a6y s₁.heap H).get? b=some o:=fun e n=>b2O e n
  have noA:∀{b:AB} {o:Obj} {es:Array DictEntry} {ep:Nat},s₁.heap.get? b=some o->o.data= .dict es ep->H b=none:=fun {b o es ep} e d=>by
   cases q:H b with
   |none=>rfl
   |some u=>
    have e':b=a:=hA b (by rw [q];simp)
    subst e'
    rw [ha] at e;cases e
    have d':Data.seq vs.toArray _=Data.dict es ep:=d
    cases d'
  have nsK:∀{b:AB} {m:Str->Option AA},s₁.heap.Ns b m->(a6y s₁.heap H).Ns b m:=fun {b m} ⟨o,es,ep,e,d,r⟩=>⟨o,es,ep,base_of e (noA e d),d,r⟩
  have hKb:K.In (a6y s₁.heap H):=fun b o e=>base_of (KX b o e) (by
   cases q:H b with
   |none=>rfl
   |some u=>
    have e':b=a:=hA b (by rw [q];simp)
    subst e'
    rw [hK (by rw [q];simp)] at e;cases e)
  have hM:Mod K mg (a6y s₁.heap H):=⟨hKb,nsK hns,⟨mb,nsK hb,hbb⟩,let ⟨mc,h1,h2⟩:=hlim;⟨mc,nsK h1,h2⟩⟩
  have e0:a8C P w K mg (a6y s₁.heap H) callerA [] s₁ H:=⟨rfl,hM,fun b o e=>b5g e,Nat.le_of_eq (b07 _ _),trivial,fun b hb=>absurd (show b∈([]:List AB) from hb) (by simp),hok,.of_eq hg⟩
  refine codeAny_mono ((F _ hKb (nsK hns)).run callerA [] s₁ H ⟨[.ref a],[]⟩ [.ref a] [.ref a] _ _ hr e0 (hbind s₁ (.ref a)) (.cons rfl .nil) (hsp H hO hS)) fun r s' h=> ?_
  cases r with
  |error e=>exact(hCX H e s' h).elim
  |ok fl=>
   cases fl with
   |next=>exact False.elim h
   |brk=>exact False.elim h
   |cont=>exact False.elim h
   |ret u=>
    obtain⟨v,H',os,bare,un,hok',r',q⟩:=h
    have q':v= .bl true:=q
    subst q'
    obtain rfl:u=Value.bool true:=r'
    refine⟨rfl,OldK.of_keep fun b o e=> ?_,os,bare⟩
    cases q:H b with
    |none=>exact un.keep b o e q (by intro z;exact absurd (show b∈([]:List AB) from z) (by simp)) (by simp)
    |some u=>
     rcases hO b with z|⟨ob,xs,z⟩
     ·rw [q] at z;cases z
     ·have z2:=un.frzs b ob _ z
      obtain⟨e1,_⟩:=hok b _ z
      obtain⟨e2,_⟩:=hok' b _ z2
      rw [e] at e1;cases e1
      exact e2
 cases hk:K.lookup a with
 |some o=>
  have e:=KX a o hk
  rw [ha] at e
  cases e
  refine core (fun _=>none) (fun _=> .inl rfl) (.inr ⟨_,vs.toArray,_,hk,rfl,rfl,rfl,by rw [Am,lenV];exact hl,by simpa using rv⟩) (fun b u z=>by have z':(none:Option HO)=some u:=z;cases z') (fun b z=>absurd rfl z) fun z=>absurd rfl z
 |none=>
  refine core (fun b=>if b=a then some (.frz {cls:= .type "list",data:= .seq vs.toArray} (.lst (ns.map V.int))) else none) (fun b=> ?_) (.inl (.inr ⟨{cls:= .type "list",data:= .seq vs.toArray},if_pos rfl⟩)) (fun b u z=> ?_) (fun b z=> ?_) fun _=>hk
  ·by_cases hb:b=a
   ·exact .inr ⟨_,_,if_pos hb⟩
   ·exact .inl (if_neg hb)
  ·by_cases hb:b=a
   ·have z':=(if_pos hb).symm.trans z
    cases z'
    subst hb
    exact⟨ha,by rw [AW];exact hl,vs,_,rv,ha⟩
   ·have z':=(if_neg hb).symm.trans z
    cases z'
  ·by_cases hb:b=a
   ·exact hb
   ·exact absurd (if_neg hb) z
theorem b5W{l:PySem.W.OpenLaw}{n k:Nat}{q:AJ}{loose:List Str}{XP:(Str->Option AA)->Heap->Prop}{YP:AH->Heap->Prop}{d:DefRec}{K:Params->AE}{CX:AH->CXT}{sp:AH->Sp}{x:Str}
 (hn:l.most=some n) (hn2:n<=AN) (hdf:d.params.defaults=[]) (hr:x6 k callerA)
 (hY:∀(w:AH) (h:Heap),YP w h->(K w.params).In h)
 (F:∀(w:AH) (mg:Str->Option AA) (fa:AB) (h:Heap),(K w.params).In h->h.Ns mainGlobals mg->mg d.name=some (.ref fa)->
  ∃fd:FuncData,(∀(s:AC) (u:AA),BindsTo s fd ⟨[u],[]⟩ [(x,u)])/\
   ∀base:Heap,(K w.params).In base->base.Ns mainGlobals mg->E4 l.prog w (K w.params) mg base (CX w) k fa fd [x] (sp w))
 (hsp:∀(w:AH) (H:Hp) (a:AB) (ns:List Int),ns.length<=n->b6A H->Q4 (K w.params) H a (ns.map V.int)->sp w [.ref a] H (fun v _=>v= .bl true) fun _ _ _=>False)
 (hCX:∀(w:AH) (H:Hp) (s:AC) (e:AA) (s':AC),CX w [] H s (fun _ _ _=>False) e s'->False):
 PySem.W.WalkO q loose XP YP l.row.toRowW d [] (fun f vs=>PySem.call f vs):=by
 refine Att.attach_call hn hdf fun w s₀ s₁ mg mb fa o pm cd doc a vs ns G Y ho hd hcd hmg hobj hints hlen hg=> ?_
 have KX:=hY w _ Y
 obtain⟨fd,hb,hF⟩:=F w mg fa _ KX G.T.g hmg
 exact b2Y KX G.T.g G.T.b G.T.builtins G.T.nolimit hg hobj hints (Nat.le_trans hlen hn2) hr hF hb (fun H hO hS=>hsp w H a ns hlen hO hS) fun H e s'=>hCX w H s₁ e s'
def C7(s:Stmt):Arguments:=match s with
 | .FunctionDef _ a _ _ _ _ _ _ _ _=>a
 |_=>{posonlyargs:=[],args:=[],vararg:=none,kwonlyargs:=[],kw_defaults:=[],kwarg:=none,defaults:=[]}
def p7(s:Stmt):List Stmt:=match s with
 | .FunctionDef _ _ b _ _ _ _ _ _ _=>b
 |_=>[]
def d7(s:Stmt):Scope:=match s with
 | .FunctionDef _ _ _ _ _ _ sc _ _ _=>sc
 |_=>{kind:= .function,names:=[],isGenerator:=false,isCoroutine:=false}
abbrev CX0:CXT:=fun _ _ _ _ _ _=>False
abbrev E0:XK:=fun _ _ _=>False
theorem b3y{X:Cx}:a3s CX0 X E0:=fun _ _ _ _ _ _ _ h=>h.elim
structure Fun(K:AE)(x qual:Str)(st:Stmt)(f:AB)(fd:FuncData):Prop where
 ex:∃(oc:AA) (od:Option AB) (kV doc pm:AA) (an:Option AB) (cdv ct:AA) (osl:Array (Option AA)),
  fd=PySem.W.fnOf x qual (C7 st) (p7 st) (d7 st) .none kV doc pm an cdv ct/\K.lookup f=some ⟨oc,od,.func fd,osl⟩/\PySem.W.codeIn K cdv qual=true
 kp:PySem.W.keepIn K (.ref f)=true
section
variable {P:AJ}{w:AH}{K:AE}{mg:Str->Option AA}{base:Heap}
theorem Fun.ok{x qual:Str}{st:Stmt}{f:AB}{fd:FuncData}{N ps:List Str}{k:Nat}{sp:Sp}(F:Fun K x qual st f fd)(S:i5 N ps (d7 st))(len:∀vs H Q E,sp vs H Q E->vs.length=ps.length)
 (hbody:∀(cdv:AA) (A:AL) (outer:List Env) (s:AC) (H:Hp) (vs:List V) (Q:VK) (E:XK),x6 k (A.deeper (envOfC qual (d7 st) s.heap.objs.size f cdv))->sp vs H Q E->
  ∃t,PSs (W3 CX0 P w K mg base N qual (d7 st) f cdv A outer s H E).nox (p7 st) t/\t {nx:=fun _ H'=>Q .non H',rt:=Q} (R7 N vs) H):E4 P w K mg base CX0 (k+1) f fd ps sp:=by
 obtain⟨oc,od,kV,doc,pm,an,cdv,ct,osl,rfl,lk,hcd⟩:=F.ex
 refine b58 lk hcd S len fun A outer s H vs Q E hr hsp=> ?_
 obtain⟨t,h,q⟩:=hbody cdv A outer s H vs Q E hr hsp
 exact⟨t,h.nox,q⟩
theorem Fun.binds{x qual:Str}{st:Stmt}{f:AB}{fd:FuncData}{ps:List Str}(F:Fun K x qual st f fd)
 (h:∀(kV doc pm:AA) (an:Option AB) (cdv ct:AA) (us:List AA),us.length=ps.length->bindArgs (PySem.W.fnOf x qual (C7 st) (p7 st) (d7 st) .none kV doc pm an cdv ct) ⟨us,[]⟩=pure (ps.zip us)):Q1 K fd ps []:=by
 obtain⟨oc,od,kV,doc,pm,an,cdv,ct,osl,rfl,lk,hcd⟩:=F.ex
 exact .all (h kV doc pm an cdv ct)
theorem b2D{x qual:Str}{st:Stmt}{f:AB}{oc:AA}{od an:Option AB}{osl:Array (Option AA)}{kV doc pm cdv ct:AA}(l:K.lookup f=some ⟨oc,od,.func (PySem.W.fnOf x qual (C7 st) (p7 st) (d7 st) .none kV doc pm an cdv ct),osl⟩)
 (c:PySem.W.codeIn K cdv qual=true) (k:PySem.W.keepIn K (.ref f)=true):Fun K x qual st f (PySem.W.fnOf x qual (C7 st) (p7 st) (d7 st) .none kV doc pm an cdv ct):=⟨⟨oc,od,kV,doc,pm,an,cdv,ct,osl,rfl,l,c⟩,k⟩
end
theorem b1Q{n:Nat}(h:n<=1000):n<AN:=Nat.lt_of_le_of_lt h (by decide)
section
variable {X:Cx}
theorem pv(i:Nat){x:Str}{pos:Pos}(hN:X.N[i]?=some x:=by rfl)(hv:Vis X.env.scope x:=by first|exact Or.inl rfl|exact Or.inr (Or.inl rfl)|exact Or.inr (Or.inr rfl))(hd:(x==("__debug__":Str))=false:=by decide)
 (hcd:(x==("__classdict__":Str))=false:=by decide):PE X (.Name x pos) (a2j i):=b7P hN hv hd hcd
end
theorem b1c{A B:Prop}(h:B):if false=true then A else B:=by
 rw [if_neg Az]
 exact h
theorem b1d{A B:Prop}(h:A):if true=true then A else B:=by
 rw [if_pos rfl]
 exact h
def i9(H H':Hp):Prop:=∀b o,H b=some o->H' b=some o
theorem i9.trans{H H1 H2:Hp}(a:i9 H H1)(b:i9 H1 H2):i9 H H2:=fun c o h=>b c o (a c o h)
theorem i9.free{H H':Hp}(e:i9 H H'){l:AB}(h:H' l=Option.none):H l=Option.none:=by
 cases q:H l with
 |none=>rfl
 |some o=>
  rw [e l o q] at h
  cases h
section
variable (P:AJ)(w:AH)
end
section
variable {P:AJ}{w:AH}{H H':Hp}{h h':Heap}{a:AB}{o:HO}
end
section
variable {P:AJ}{w:AH}{H:Hp}{h h':Heap}{x e:AB}{o':HO}
end
section
variable {fs fs' ex ex':List AB}{H H1 H2:Hp}{h h1 h2 h':Heap}{a x e:AB}{o:HO}
end
section
variable {X:Cx}{pins:List (AB×Obj)}{σ:List (Option V)}{H H':Hp}{s:AC}{h':Heap}
end
section
variable {X:Cx}
variable {a b:AG}{ta tb:TE}{pos:Pos}
variable {tA tB':TT}{rest:List AG}
end
section
variable {X:Cx}{pins:List (AB×Obj)}{σ:St}{H:Hp}{s:AC}{a:AB}{xs ys:List V}
end
section
variable {X:Cx}{pins:List (AB×Obj)}{σ:St}{H:Hp}{s:AC}{E:AA->AC->Prop}
end
section
variable {X:Cx}{st:Stmt}{rest:List Stmt}{t u:TS}{e:AG}{te:TE}{pos:Pos}
end
section
variable {X:Cx}{pos:Pos}
end
section
variable {X:Cx}{pos:Pos}
end
section
variable {X:Cx}{tg:AG}
end
section
variable {X:Cx}{a b c:AG}{ta tb tc:TE}{pos:Pos}
end
section
variable {X:Cx}{a b c:AG}{ta tb tc:TE}{pos:Pos}
end
section
variable {prog:AJ}{w:AH}{A:AL}{E:AA->AC->Prop}{s:AC}{K:AE}{x dx C f:AB}{mA:Str->Option AA}{name:Str}{v:AA}
end
section
variable {P:AJ}{w:AH}{H H':Hp}{h h':Heap}{a C dx:AB}{fs fs':List (Str×V)}
end
section
variable {X:Cx}{pins:List (AB×Obj)}{σ:St}{H:Hp}{s:AC}{a C dx:AB}{fs:List (Str×V)}{f:Str}{v:V}{A:AL}{E:AA->AC->Prop}
end
section
variable {X:Cx}{o e value:AG}{f:Str}{pos pos' tpos:Pos}{ta tv:TE}
end
section
variable {X:Cx}{pins:List (AB×Obj)}{σ:St}{H:Hp}{s:AC}{A:AL}{E:AA->AC->Prop}{Q:AA->AC->Prop}{c:AA}{b:Bool}
end
section
variable {X:Cx}{e:AG}{es:List AG}{te:TE}{t:TA}{pos:Pos}
end
section
variable {X:Cx}{pins:List (AB×Obj)}{σ:St}{H:Hp}{s s':AC}
end
section
variable {X:Cx}{CX:CXT}{k:Nat}{f C:AB}{fd:FuncData}{ps:List Str}{sp:Sp}{dvs:List V}{ds:List AA}{E:XK}{x m:Str}{p pos apos:Pos}{e o:AG}{es:List AG}{ta:TE}{t:TA}
end
section
variable {X:Cx}{CX:CXT}{k:Nat}{f C:AB}{fd:FuncData}{ps ks:List Str}{sp:Sp}{E:XK}{x m:Str}{p pos apos kpos:Pos}{e o:AG}{es:List AG}{kws:List Keyword}{te ta:TE}{t tk:TA}{nm:Option Str}
variable {g:List AA->List AA->List AA}{gV:List V->List V->List V}
end
section
variable {X:Cx}{x:Str}{p pos:Pos}{e:AG}{es:List AG}{t:TA}{id T:String}{r:List V->Hp->VK->Prop}
end
section
variable {κ:Type}[DecidableEq κ]
def V4(kvs:List (κ×V))(k:κ):Option V:=(kvs.find? fun kv=>decide (kv.1=k)).map (·.2)
def a2e(kvs:List (κ×V))(k:κ)(v:V):List (κ×V):=
 if(kvs.any fun kv=>decide (kv.1=k))=true then kvs.map (fun kv=>if kv.1=k then(kv.1,v) else kv) else kvs++[(k,v)]
theorem a1z{p:κ×V}{r:List (κ×V)}{k:κ}(e:p.1=k):V4 (p::r) k=some p.2:=by simp [V4,List.find?_cons,e]
theorem a1y{p:κ×V}{r:List (κ×V)}{k:κ}(e:¬p.1=k):V4 (p::r) k=V4 r k:=by simp [V4,List.find?_cons,e]
theorem a8x(k:κ):∀kvs:List (κ×V),(kvs.any fun kv=>decide (kv.1=k))=(V4 kvs k).isSome
 |[]=>rfl
 |p::r=>by
  rw [List.any_cons]
  by_cases e:p.1=k
  ·simp only [a1z e,decide_eq_true e,Bool.true_or,Option.isSome_some]
  ·rw [a1y e,decide_eq_false e,Bool.false_or];exact a8x k r
theorem a2J(kvs:List (κ×V))(k:κ)(v:V):(a2e kvs k v).length<=kvs.length+1:=by
 unfold a2e
 split
 ·rw [AW];lia
 ·rw [Ao,AT,Aj];lia
theorem a1E.isSome_eq{o:Option V}{u:Option AA}(r:a1E o u):o.isSome=u.isSome:=by
 cases o with
 |none=>cases u with
  |none=>rfl
  |some _=>exact(show False from r).elim
 |some _=>cases u with
  |none=>exact(show False from r).elim
  |some _=>rfl
theorem KV.val{kvs:List (κ×V)}{vs:List (κ×AA)}(r:KV kvs vs)(k:κ):a1E (V4 kvs k) (valueAt vs k):=by
 unfold KV at r
 induction r with
 |nil=>exact True.intro
 | @cons p q ps qs h t ih=>
   obtain⟨h1,h2⟩:=h
   by_cases e:p.1=k
   ·have e':q.1=k:=h1.symm.trans e
    have b:valueAt (q::qs) k=some q.2:=by simp [valueAt,List.find?_cons,e']
    rw [a1z e,b];exact h2
   ·have e':¬q.1=k:=fun z=>e (h1.trans z)
    have b:valueAt (q::qs) k=valueAt qs k:=by simp [valueAt,List.find?_cons,e']
    rw [a1y e,b];exact ih
theorem KV.any{kvs:List (κ×V)}{vs:List (κ×AA)}(r:KV kvs vs)(k:κ):(kvs.any fun kv=>decide (kv.1=k))=vs.any fun kv=>decide (kv.1=k):=by
 unfold KV at r
 induction r with
 |nil=>rfl
 |cons h t ih=>rw [List.any_cons,List.any_cons,ih,h.1]
theorem KV.repl{kvs:List (κ×V)}{vs:List (κ×AA)}(r:KV kvs vs)(k:κ){y:V}{u:AA}(ry:j6 y u):
 KV (kvs.map fun kv=>if kv.1=k then(kv.1,y) else kv) (vs.map fun kv=>if kv.1=k then(kv.1,u) else kv):=by
 unfold KV at r ⊢
 induction r with
 |nil=>exact .nil
 | @cons p q ps qs h t ih=>
   rw [AR,AR]
   refine .cons ?_ ih
   obtain⟨h1,h2⟩:=h
   by_cases e:p.1=k
   ·rw [if_pos e,if_pos (h1.symm.trans e)];exact⟨h1,ry⟩
   ·rw [if_neg e,if_neg (fun z=>e (h1.trans z))];exact⟨h1,h2⟩
theorem KV.put{kvs:List (κ×V)}{vs:List (κ×AA)}(r:KV kvs vs)(k:κ){y:V}{u:AA}(ry:j6 y u):KV (a2e kvs k y) (stored vs k u):=by
 unfold a2e stored
 rw [r.any k]
 by_cases e:(vs.any fun kv=>decide (kv.1=k))=true
 ·rw [if_pos e,if_pos e];exact r.repl k ry
 ·rw [if_neg e,if_neg e];exact Paired.snoc r ⟨rfl,ry⟩
theorem KV.length{kvs:List (κ×V)}{vs:List (κ×AA)}(r:KV kvs vs):kvs.length=vs.length:=Paired.length r
end
theorem a7K{P:AJ}{w:AH}{k:g9}{u:AA}(r:j6 (kV k) u):(l8 P w).is k u=true:=by
 cases k with
 |inl i=>obtain⟨t,e⟩:=(show ∃t,u=Value.int i t from r);subst e;exact a2M P w i t
 |inr x=>obtain⟨t,e⟩:=(show ∃t,u=Value.str x t from r);subst e;exact a2N P w x t
theorem a1S{P:AJ}{w:AH}:∀{ks:List g9} {us:List AA},j3 (ks.map kV) us->ItemsAre (l8 P w) ks us
 |[],_,r=>by rw [Ak] at r;cases r;exact .nil
 |k::ks,_,r=>by
  rw [AR] at r
  cases r with
  |cons h t=>exact .cons (a7K h) (a1S t)
abbrev KT(H:Hp):List (List g9×V)->List (List g9×AB×AA)->Prop:=Paired fun p q=>p.1=q.1/\H q.2.1=some (.tup (p.1.map kV))/\j6 p.2 q.2.2
theorem KT.val{H:Hp}{kvs:List (List g9×V)}{xs:List (List g9×AB×AA)}(r:KT H kvs xs)(k:List g9):a1E (V4 kvs k) ((atKey xs k).map (·.2)):=by
 induction r with
 |nil=>exact True.intro
 | @cons p q ps qs h t ih=>
   obtain⟨h1,_,h2⟩:=h
   by_cases e:p.1=k
   ·have e':q.1=k:=h1.symm.trans e
    have b:atKey (q::qs) k=some q.2:=by simp [atKey,List.find?_cons,e']
    rw [a1z e,b];exact h2
   ·have e':¬q.1=k:=fun z=>e (h1.trans z)
    have b:atKey (q::qs) k=atKey qs k:=by simp [atKey,List.find?_cons,e']
    rw [a1y e,b];exact ih
theorem KT.repl{H:Hp}{kvs:List (List g9×V)}{xs:List (List g9×AB×AA)}(r:KT H kvs xs)(k:List g9){y:V}{u:AA}(ry:j6 y u):
 KT H (kvs.map fun kv=>if kv.1=k then(kv.1,y) else kv) (xs.map (putAt k u)):=by
 induction r with
 |nil=>exact .nil
 | @cons p q ps qs h t ih=>
   rw [AR,AR]
   refine .cons ?_ ih
   obtain⟨h1,h2,h3⟩:=h
   unfold putAt
   by_cases e:p.1=k
   ·rw [if_pos e,if_pos (h1.symm.trans e)];exact⟨h1,h2,ry⟩
   ·rw [if_neg e,if_neg (fun z=>e (h1.trans z))];exact⟨h1,h2,h3⟩
theorem KT.put{H:Hp}{kvs:List (List g9×V)}{xs:List (List g9×AB×AA)}(r:KT H kvs xs)(k:List g9){b:AB}{y:V}{u:AA}(hb:H b=some (.tup (k.map kV)))(ry:j6 y u):
 KT H (a2e kvs k y) (storedH xs k b u):=by
 have e:(kvs.any fun kv=>decide (kv.1=k))=(atKey xs k).isSome:=by
  rw [a8x,(r.val k).isSome_eq,Option.isSome_map]
 unfold a2e storedH
 rw [e]
 by_cases q:(atKey xs k).isSome=true
 ·rw [if_pos q,if_pos q];exact r.repl k ry
 ·rw [if_neg q,if_neg q];exact Paired.snoc r ⟨rfl,hb,ry⟩
theorem KT.keeps{H H':Hp}{kvs:List (List g9×V)}{xs:List (List g9×AB×AA)}(r:KT H kvs xs)(ht:∀b ys,H b=some (.tup ys)->H' b=some (.tup ys)):KT H' kvs xs:=
 Paired.mapP r fun _ _ z=>⟨z.1,ht _ _ z.2.1,z.2.2⟩
section
variable {P:AJ}{w:AH}{H:Hp}{h:Heap}{a:AB}
theorem b6q{u:HO}(ok:HOk P w H h)(e:Rd H a u):t4 P w H h a u:=e.ok ok
theorem a9P{kvs:List (g9×V)}(ok:HOk P w H h)(e:Rd H a (.dK kvs)):kvs.length<=AN/\(a==sysModules)=false/\∃vs,KV kvs vs/\h.DictOf (l8 P w) a vs:=
 show t4 P w H h a (.dK kvs) from b6q ok e
theorem b8H{kvs:List (g9×V)}(ok:HOk P w H h)(e:H a=some (.dK kvs)):kvs.length<=AN/\(a==sysModules)=false/\∃vs,KV kvs vs/\h.DictOf (l8 P w) a vs:=a9P ok (.inl e)
theorem a6C{ks:List g9}(ok:HOk P w H h)(e:H a=some (.tup (ks.map kV))):(tupleKind (l8 P w)).is h ks a:=by
 obtain⟨_,its,r,o,h1,h2,n,h3⟩:=(show t4 P w H h a (.tup (ks.map kV)) from ok a _ e)
 exact⟨o,its.toArray,n,h1,h2,h3,by simpa using a1S r⟩
theorem a9Q{kvs:List (List g9×V)}(ok:HOk P w H h)(e:Rd H a (.dT kvs)):kvs.length<=AN/\(a==sysModules)=false/\
 ∃xs,KT H kvs xs/\h.DictOfH (tupleKind (l8 P w)) a xs:=by
 obtain⟨z,y,xs,r,o,es,ep,h1,h2,h3,h4,h5⟩:=(show t4 P w H h a (.dT kvs) from b6q ok e)
 refine⟨z,y,xs,r,o,es,ep,h1,h2,h3,h4,fun x hx=> ?_,h5⟩
 have all:∀{l:List (List g9×V)} {m:List (List g9×AB×AA)},KT H l m->∀x∈m,(tupleKind (l8 P w)).is h x.1 x.2.1:=by
  intro l m q
  induction q with
  |nil=>intro x hx;exact nomatch hx
  | @cons p q ps qs hq t ih=>
    intro x hx
    rcases Ab.mp hx with e|hx
    ·subst e
     exact a6C ok (by rw [<-hq.1];exact hq.2.1)
    ·exact ih x hx
 exact all r x hx
theorem b8J{kvs:List (List g9×V)}(ok:HOk P w H h)(e:H a=some (.dT kvs)):kvs.length<=AN/\(a==sysModules)=false/\
 ∃xs,KT H kvs xs/\h.DictOfH (tupleKind (l8 P w)) a xs:=a9Q ok (.inl e)
end
def a4K(H:Hp)(a:AB)(y:V)(r:Option V):Prop:=
 (∃kvs k,Rd H a (.dK kvs)/\y=kV k/\r=V4 kvs k)\/∃kvs k b,Rd H a (.dT kvs)/\y= .ref b/\H b=some (.tup (k.map kV))/\r=V4 kvs k
def b1T(H:Hp)(a:AB)(y v:V)(H':Hp):Prop:=
 (∃kvs k,H a=some (.dK kvs)/\y=kV k/\kvs.length<AN/\H'=m8 H a (.dK (a2e kvs k v)))\/
 ∃kvs k b,H a=some (.dT kvs)/\y= .ref b/\H b=some (.tup (k.map kV))/\kvs.length<AN/\H'=m8 H a (.dT (a2e kvs k v))
theorem a4K.t{H:Hp}{a b:AB}{kvs:List (List g9×V)}{k:List g9}(e:H a=some (.dT kvs))(eb:H b=some (.tup (k.map kV))):a4K H a (.ref b) (V4 kvs k):= .inr ⟨kvs,k,b,.inl e,rfl,eb,rfl⟩
theorem b1T.t{H:Hp}{a b:AB}{kvs:List (List g9×V)}{k:List g9}{v:V}(e:H a=some (.dT kvs))(eb:H b=some (.tup (k.map kV)))(hl:kvs.length<AN):
 b1T H a (.ref b) v (m8 H a (.dT (a2e kvs k v))):= .inr ⟨kvs,k,b,e,rfl,eb,hl,rfl⟩
section
variable {X:Cx}{pins:List (AB×Obj)}{σ:St}{H:Hp}{s:AC}{a:AB}{y v:V}{u r:AA}{o:Option V}{A:AL}{E:AA->AC->Prop}
theorem g8.big(I:g8 X pins σ H s):sysModules<s.heap.objs.size:=by
 have h:mainGlobals<s.heap.objs.size:=(I.mod.glob.keeps I.bk).lt
 exact Nat.lt_trans (by decide) h
theorem b0Y{Q:AA->AC->Prop}(hu:A.units+1<cLine)(I:g8 X pins σ H s)(g:a4K H a y (some v))(ry:j6 y u)(h:∀w' s',g8 X pins σ H s'->j6 v w'->Q w' s'):
 AF (model X.prog X.w) A (getItem (.ref a) u) Q E s:=by
 rcases g with⟨kvs,k,e,ey,l⟩|⟨kvs,k,b,e,ey,eb,l⟩
 ·subst ey
  obtain⟨z,hd,vs,rel,dd⟩:=a9P I.hok e
  obtain⟨w',hw,rw'⟩:=a1E.some_of (v:=v) (o:=valueAt vs k) (by rw [l];exact rel.val k)
  exact wpAny_getItem_of (a7K ry) dd.mapOf hw (h w' _ (I.tok _) rw')
 ·subst ey
  cases(show u=Value.ref b from ry)
  obtain⟨z,hd,xs,rel,dd⟩:=a9Q I.hok e
  obtain⟨w',hw,rw'⟩:=a1E.some_of (v:=v) (o:=(atKey xs k).map (·.2)) (by rw [l];exact rel.val k)
  obtain⟨p,hp,hp2⟩:=Option.map_eq_some_iff.mp hw
  refine wpAny_getItem_heap (tupleKind_room_in1 hu) (a6C I.hok eb) dd hp ?_
  rw [hp2]
  exact h w' _ (I.tok _) rw'
theorem b4w{Q:AA->AC->Prop}(hu:A.units+1<cLine)(I:g8 X pins σ H s)(g:a4K H a y o)(ry:j6 y u)(h:∀s',g8 X pins σ H s'->Q (.bool (!o.isSome)) s'):
 AF (model X.prog X.w) A (compareOp .NotIn u (.ref a)) Q E s:=by
 rcases g with⟨kvs,k,e,ey,l⟩|⟨kvs,k,b,e,ey,eb,l⟩
 ·subst ey
  obtain⟨z,hd,vs,rel,dd⟩:=a9P I.hok e
  refine wpAny_notIn_of (a7K ry) hd dd.mapOf ?_
  rw [<-(rel.val k).isSome_eq,<-l]
  exact h _ (I.tok _)
 ·subst ey
  cases(show u=Value.ref b from ry)
  obtain⟨z,hd,xs,rel,dd⟩:=a9Q I.hok e
  refine wpAny_notIn_heap (tupleKind_room_in1 hu) (a6C I.hok eb) hd dd ?_
  have q:=(rel.val k).isSome_eq
  rw [Option.isSome_map] at q
  rw [<-q,<-l]
  exact h _ (I.tok _)
theorem a9N{h':Heap}{t':Nat}{ob:HO}(I:g8 X pins σ H s)(mu:Mut (H a))(hs:Heap.SameBut a s.heap h')(he:∃q,h'.get? a=some q)(new:t4 X.prog X.w (m8 H a ob) h' a ob):
 g8 X pins σ (m8 H a ob) {s with heap:=h',toks:=t'}:=
 I.write (x:=a) (e:=a) mu (.inl rfl) (fun b q hb z=>(hs.2 b hb).trans z) he new
theorem b6O{P:AJ}{w:AH}{H':Hp}{h':Heap}{kvs:List (g9×V)}{vs:List (g9×AA)}(z:kvs.length<=AN)(hd:(a==sysModules)=false)(rel:KV kvs vs)(dd:h'.DictOf (l8 P w) a vs):
 t4 P w H' h' a (.dK kvs):=⟨z,hd,vs,rel,dd⟩
theorem b0Z{H':Hp}{Q:Unit->AC->Prop}(hu:A.units+1<cLine)(I:g8 X pins σ H s)(g:b1T H a y v H')(ry:j6 y u)(rv:j6 v r)(h:∀s',g8 X pins σ H' s'->Q () s'):
 AF (model X.prog X.w) A (setItem (.ref a) u r) Q E s:=by
 rcases g with⟨kvs,k,e,ey,l,eH⟩|⟨kvs,k,b,e,ey,eb,l,eH⟩
 ·subst ey eH
  obtain⟨z,hd,vs,rel,dd⟩:=b8H I.hok e
  have hz:vs.length<=AN:=by rw [<-rel.length];exact z
  have hl:(a2e kvs k v).length<=AN:=by have:=a2J kvs k v;lia
  refine wpAny_setItem_pairs (hsz:=hz) (a7K ry) dd fun h' dd' hs=>h _ ?_
  have he:∃q,h'.get? a=some q:=by obtain⟨q,_,_,hq,_⟩:=dd';exact⟨q,hq⟩
  exact a9N I (by rw [e];exact True.intro) hs he (b6O hl hd (rel.put k rv) dd')
 ·subst ey eH
  cases(show u=Value.ref b from ry)
  obtain⟨z,hd,xs,rel,dd⟩:=b8J I.hok e
  have hz:xs.length<=AN:=by rw [<-Paired.length rel];exact z
  have hl:(a2e kvs k v).length<=AN:=by have:=a2J kvs k v;lia
  refine wpAny_setItem_heap (hsz:=hz) (tupleKind_room_in1 hu) (a6C I.hok eb) dd fun h' dd' hs=>h _ ?_
  obtain⟨q,es,ep,hq,h2,h3,h4,_,h5⟩:=dd'
  refine a9N I (by rw [e];exact True.intro) hs ⟨q,hq⟩ ⟨hl,hd,_,(rel.put k eb rv).keeps fun c ys ec=> ?_,q,es,ep,hq,h2,h3,h4,h5⟩
  rw [g7 (b8Z ec e (fun z=>nomatch z))]
  exact ec
end
section
variable {X:Cx}{pins:List (AB×Obj)}{σ:St}{H:Hp}{s:AC}{a:AB}{kvs:List (g9×V)}{k:g9}{u:AA}{A:AL}{E:AA->AC->Prop}
end
def b4n(i:AG):Prop:=∀ov iv,subscripted i false ov iv=operate [ov,iv] (getItem ov iv)
theorem b0B{prog:AJ}{w:AH}{A:AL}{E:AA->AC->Prop}{s:AC}{env:Env}{value slice:AG}{pos:Pos}{T id:String}{Q:AA->AC->Prop}
 (hl:typeLookup (.type T) "__getitem__"=pure (some (.builtin id))) (hs:b4n slice)
 (h:AF (model prog w) A (eval value env) (fun o s₁=>AF (model prog w) A (eval slice env) (fun i s₂=>s₂.TypeIs o T/\AF (model prog w) A (getItem o i) Q E s₂) E s₁) E s):
 AF (model prog w) A (eval (.Subscript value slice pos) env) Q E s:=by
 refine Subscript_ (wpAny_mono h (fun o s₁ h₁=>wpAny_mono h₁ (fun i s₂ h₂=> ?_) fun _ _ x=>x) fun _ _ x=>x)
 obtain⟨hT,h₂⟩:=h₂
 unfold subscriptTail
 refine AD ?_
 rw [getitemInPython_of_ne hT.not_modules]
 refine AD (wpAny_specialOf hT hl ?_)
 have fin:AF (model prog w) A (subscripted slice false o i) (fun r s₃=>AF (model prog w) A (letTemporaryGo value o r>>=fun _=>pure r) Q E s₃) E s₂:=by
  rw [hs o i]
  exact wpAny_operating (wpAny_mono h₂ (fun r s₃ h₃=>AD (wpAny_letTemporaryGo (AI h₃))) fun _ _ x=>x)
 first
  |exact AI (AD fin)
  |exact AD (AI (AD fin))
  |exact AD fin
theorem a7u{X:Cx}{pins:List (AB×Obj)}{σ:St}{H:Hp}{s:AC}{a:AB}{y:V}{o:Option V}(I:g8 X pins σ H s)(g:a4K H a y o):s.TypeIs (.ref a) "dict":=by
 rcases g with⟨kvs,k,e,_,_⟩|⟨kvs,k,b,e,_,_,_⟩
 ·obtain⟨_,_,vs,_,dd⟩:=a9P I.hok e
  exact dd.typeIs
 ·obtain⟨_,_,xs,_,dd⟩:=a9Q I.hok e
  exact dd.typeIs
def b9p(td ty:TE):TE:=fun σ H Q=>td σ H fun x H1=>ty σ H1 fun y H2=>∃a v,x= .ref a/\a4K H2 a y (some v)/\Q v H2
def b5N(ty td:TE):TE:=fun σ H Q=>ty σ H fun y H1=>td σ H1 fun x H2=>∃a o,x= .ref a/\a4K H2 a y o/\Q (.bl (!o.isSome)) H2
def b9k(td ty tv:TE):TS:=fun D σ H=>tv σ H fun v H1=>td σ H1 fun x H2=>ty σ H2 fun y H3=>∃a H4,x= .ref a/\b1T H3 a y v H4/\D.nx σ H4
section
variable {X:Cx}{o i e value:AG}{pos pos' tpos:Pos}{td ty tv:TE}
theorem b5s(hu:X.A.units+1<cLine)(ho:PE X o td)(hi:PE X i ty)(hs:b4n i):PE X (.Subscript o i pos) (b9p td ty):=by
 intro pins s σ H Q I h
 refine b0B PySem.F.slot_dict_getitem.lookup hs (A6 (ho pins s σ H _ I h) fun u s1 h0=>j8 h0 fun x H1 I1 rx q1=>A6 (hi pins s1 σ H1 _ I1 q1) fun iv s2 ⟨y,H2,I2,ry,a,v,ex,g,q2⟩=> ?_)
 subst ex
 obtain rfl:u=Value.ref a:=rx
 exact⟨a7u I2 g,b0Y hu I2 g ry fun w' s3 I3 rw'=>⟨v,H2,I3,rw',q2⟩⟩
theorem b1E(hu:X.A.units+1<cLine)(hi:PE X i ty)(ho:PE X o td):PC X .NotIn i o (b5N ty td):=by
 intro pins s σ H Q I h
 refine A6 (hi pins s σ H _ I h) fun iv s1 h0=>j8 h0 fun y H1 I1 ry q1=>A6 (ho pins s1 σ H1 _ I1 q1) fun u s2 ⟨x,H2,I2,rx,a,ov,ex,g,q2⟩=> ?_
 subst ex
 obtain rfl:u=Value.ref a:=rx
 exact b4w hu I2 g ry fun s3 I3=>⟨.bl (!ov.isSome),H2,I3,rfl,q2⟩
theorem b5v(hu:X.A.units+1<cLine)(ho:PE X o td)(hi:PE X i ty)(hv:PE X value tv)(hs:swapsWith value (some (.Subscript o i pos')) pos.line X.env=pure false):
 PS X (.Assign [.Subscript o i pos'] value pos) (b9k td ty tv):=by
 intro pins s σ H D I h
 refine wpAny_Assign_Subscript (A6 (hv pins s σ H _ I h) fun r s1 h0=>j8 h0 fun v H1 I1 rv q1=>A6 (ho pins s1 σ H1 _ I1 q1) fun u s2 h0=>j8 h0 fun x H2 I2 rx q2=>A6 (hi pins s2 σ H2 _ I2 q2) fun iv s3 ⟨y,H3,I3,ry,a,H4,ex,g,q3⟩=> ?_) hs
 subst ex
 obtain rfl:u=Value.ref a:=rx
 exact b0Z hu I3 g ry rv fun s4 I4=>⟨σ,H4,I4,q3⟩
end
theorem b2l{P:AJ}{w:AH}{H:Hp}(h:Heap)(hb:sysModules<h.objs.size):t4 P w H (h.push {cls:= .type "dict",data:= .dict #[]}) h.objs.size (.dT []):=
 ⟨Nat.zero_le _,beq_eq_false_iff_ne.mpr (Ne.symm (Ai hb)),[],.nil,_, #[],0,Aq _ rfl,⟨rfl,rfl,rfl⟩,rfl,rfl,List.nodup_nil⟩
def b76:TE:=fun _ H Q=>∀p,H p=none->Q (.ref p) (m8 H p (.dT []))
section
variable {X:Cx}{pos:Pos}
theorem b3A:PE X (.Dict [] [] pos) b76:=fun pins s σ H Q I h=>
 wpAny_Dict_empty ⟨.ref s.heap.objs.size,_,I.laid (a:=s.heap.objs.size) (o:= .dT []) (t':=s.toks) (fun _ _ q=>AU _ q) (AO _) (b2l s.heap I.big),rfl,h _ (I.hok.fresh (AO _))⟩
end
section
variable {X:Cx}{pins:List (AB×Obj)}{σ:St}{H:Hp}{s:AC}{a:AB}{y d:V}{u r:AA}{o:Option V}{A:AL}{E:AA->AC->Prop}
end
section
variable {X:Cx}{o e f:AG}{apos cpos:Pos}{td ty tx:TE}
end
section
variable {X:Cx}{pins:List (AB×Obj)}{σ:St}{H:Hp}{s:AC}{a:AB}{kvs:List (g9×V)}{A:AL}{E:AA->AC->Prop}
end
section
variable {X:Cx}{pins:List (AB×Obj)}{σ:St}{H:Hp}{s:AC}{a:AB}{y:V}{u:AA}{A:AL}{E:AA->AC->Prop}
end
end L2
namespace Att
open PySem PySem.W PySem.Calls PyProof.Rows
section
variable {prog:AJ}{w:AH}{A:AL}{E:AA->AC->Prop}{s:AC}{K:Frag}
end
end Att
namespace L2
open PySem PySem.Spec PyProof.Rows
section
variable {P:AJ}{w:AH}{K:AE}{mg:Str->Option AA}{base:Heap}
end
section
variable {X:Cx}
end
section
variable {κ:Type}[DecidableEq κ]
end
end L2
set_option maxHeartbeats 4000000
namespace PU
open PySem PySem.Spec PyProof.Rows L2
abbrev PV:=PyData
def TqT(K:AE)(H:Hp)(a:AB)(xs:List V):Prop:=
 H a=some (.tup xs)\/∃(o:Obj) (its:Array AA) (n:Nat),K.lookup a=some o/\o.cls= .type "tuple"/\o.data= .seq its n/\its.size<=AN/\j3 xs its.toList
theorem TqT.of{K:AE}{H:Hp}{a:AB}{xs:List V}(h:H a=some (.tup xs)):TqT K H a xs:= .inl h
theorem TqT.sq{K:AE}{H:Hp}{a:AB}{xs:List V}(h:TqT K H a xs):SqT K H a xs:=h.elim (fun h=> .inl (.inl h)) .inr
theorem b0z{K:AE}{H H':Hp}{a:AB}{xs:List V}(s:i9 H H')(h:TqT K H a xs):TqT K H' a xs:=h.elim (fun h=> .inl (s _ _ h)) .inr
def a9w(K:AE)(x:Str)(v:V):Prop:=∃(a:AB) (oc:AA) (od:Option AB) (fd:FuncData) (osl:Array (Option AA)),v= .ref a/\K.lookup a=some ⟨oc,od,.func fd,osl⟩/\fd.name=x
def a2m(K:AE)(x:Str)(C:AB):Prop:=PySem.W.nsIn K mainGlobals x=some (some (.ref C))/\∃(oc:AA) (od:Option AB) (cd:ClassData) (osl:Array (Option AA)),K.lookup C=some ⟨oc,od,.cls cd,osl⟩/\cd.name=x
theorem a2m.inj{K:AE}{x y:Str}{C:AB}(h:a2m K x C)(h':a2m K y C):x=y:=by
 obtain⟨_,_,_,_,_,k,n⟩:=h
 obtain⟨_,_,_,_,_,k',n'⟩:=h'
 rw [k] at k';cases k'
 rw [<-n,n']
def b9C(K:AE)(H:Hp)(x:Str)(v:V):Prop:=∃(a C:AB) (φ:Heap->Prop),v= .ref a/\H a=some (.ext φ)/\
 (∀h:Heap,φ h->∃oe vs,h.get? a=some oe/\oe.cls= .ref C/\oe.data= .fields vs/\oe.dict=none)/\a2m K x C
def b0K(K:AE)(H:Hp)(x:Str)(t:PV)(v:V):Prop:=(t= .none/\a9w K x v)\/(t= .bool true/\b9C K H x v)
theorem b0K.ref{K:AE}{H:Hp}{x:Str}{t:PV}{v:V}(h:b0K K H x t v):∃a,v= .ref a:=by
 rcases h with⟨_,a,_,_,_,_,e,_⟩|⟨_,a,_,_,e,_⟩<;>exact⟨a,e⟩
theorem b0K.mono{K:AE}{H H':Hp}{x:Str}{t:PV}{v:V}(s:i9 H H')(h:b0K K H x t v):b0K K H' x t v:=by
 rcases h with h|⟨z,a,C,φ,e,q,r⟩
 ·exact .inl h
 ·exact .inr ⟨z,a,C,φ,e,s _ _ q,r⟩
def a8D(K:AE)(H:Hp)(x:Str)(m:V)(fs:List (Str×V))(v:V):Prop:=
 (m= .bl false/\∃a C dx,v= .ref a/\H a=some (.ins C dx fs)/\a2m K x C)\/
 (m= .int 0/\∃(a C dx:AB) (φ:Heap->Prop),v= .ref a/\H a=some (.ext φ)/\(∀h:Heap,φ h->∃oe vs,h.get? a=some oe/\oe.cls= .ref C/\oe.data= .fields vs/\oe.dict=some dx)/\H dx=some (.xd fs)/\a2m K x C)
theorem a8D.ref{K:AE}{H:Hp}{x:Str}{m:V}{fs:List (Str×V)}{v:V}(h:a8D K H x m fs v):∃a,v= .ref a:=by
 rcases h with⟨_,a,_,_,e,_⟩|⟨_,a,_,_,_,e,_⟩<;>exact⟨a,e⟩
theorem a8D.mono{K:AE}{H H':Hp}{x:Str}{m:V}{fs:List (Str×V)}{v:V}(s:i9 H H')(h:a8D K H x m fs v):a8D K H' x m fs v:=by
 rcases h with⟨z,a,C,dx,e,q,n⟩|⟨z,a,C,dx,φ,e,q,r,d,n⟩
 ·exact .inl ⟨z,a,C,dx,e,s _ _ q,n⟩
 ·exact .inr ⟨z,a,C,dx,φ,e,s _ _ q,r,s _ _ d,n⟩
def kP:g9->PV
 | .inl i=> .int i
 | .inr x=> .str x
def s1{α:Type}(kv:g9×α):List g9×α:=([kv.1],kv.2)
mutual
def z7(K:AE)(H:Hp):PV->V->Prop
 | .none,v=>v= .non
 | .bool b,v=>v= .bl b
 | .int i,v=>v= .int i
 | .str x,v=>v= .str x
 | .tuple ps,v=>∃a xs,v= .ref a/\TqT K H a xs/\i0 K H ps xs
 | .list ps,v=>∃a xs,v= .ref a/\Q4 K H a xs/\i0 K H ps xs
 | .dict kvs,v=>(∃a ys,v= .ref a/\H a=some (.dK ys)/\a0Q K H kvs (ys.map s1))\/(∃a xs,v= .ref a/\H a=some (.dT xs)/\a0Q K H kvs (([],.non)::xs))\/(∃x t,kvs=[(.str x,t)]/\b0K K H x t v)\/(∃x m fs,a8D K H x m fs v/\a2Y K H kvs ((x,m)::fs))
def i0(K:AE)(H:Hp):List PV->List V->Prop
 |[],vs=>vs=[]
 |p::ps,vs=>∃v r,vs=v::r/\z7 K H p v/\i0 K H ps r
def a0Q(K:AE)(H:Hp):List (PV×PV)->List (List g9×V)->Prop
 |[],ys=>ys=[]
 |(k,p)::r,ys=>∃kk v t,ys=(kk,v)::t/\k= .tuple (kk.map kP)/\z7 K H p v/\a0Q K H r t
def a2Y(K:AE)(H:Hp):List (PV×PV)->List (Str×V)->Prop
 |[],ys=>ys=[]
 |(k,p)::r,ys=>∃f v t,ys=(f,v)::t/\k= .str f/\z7 K H p v/\a2Y K H r t
end
theorem o9{K:AE}{H H':Hp}{a:AB}{xs:List V}(s:i9 H H')(h:SqT K H a xs):SqT K H' a xs:=by
 rcases h with(h|⟨o,h⟩)|h
 ·exact .inl (.inl (s _ _ h))
 ·exact .inl (.inr ⟨o,s _ _ h⟩)
 ·exact .inr h
theorem t8{K:AE}{H H':Hp}{a:AB}{xs:List V}(s:i9 H H')(h:Q4 K H a xs):Q4 K H' a xs:=by
 rcases h with(h|⟨o,h⟩)|h
 ·exact .inl (.inl (s _ _ h))
 ·exact .inl (.inr ⟨o,s _ _ h⟩)
 ·exact .inr h
mutual
theorem z7.mono{K:AE}{H H':Hp}(s:i9 H H'):∀(p:PV) {v:V},z7 K H p v->z7 K H' p v
 | .none,_,h=>h
 | .bool _,_,h=>h
 | .int _,_,h=>h
 | .str _,_,h=>h
 | .dict kvs,_,.inl ⟨a,ys,q,h,r⟩=> .inl ⟨a,ys,q,s _ _ h,a0Q.mono s kvs r⟩
 | .dict kvs,_,.inr (.inl ⟨a,xs,q,h,r⟩)=> .inr (.inl ⟨a,xs,q,s _ _ h,a0Q.mono s kvs r⟩)
 | .dict _,_,.inr (.inr (.inl ⟨x,t,e,h⟩))=> .inr (.inr (.inl ⟨x,t,e,h.mono s⟩))
 | .dict kvs,_,.inr (.inr (.inr ⟨x,m,fs,h,r⟩))=> .inr (.inr (.inr ⟨x,m,fs,h.mono s,a2Y.mono s kvs r⟩))
 | .tuple ps,_,⟨a,xs,e,q,r⟩=>⟨a,xs,e,b0z s q,i0.mono s ps r⟩
 | .list ps,_,⟨a,xs,e,q,r⟩=>⟨a,xs,e,t8 s q,i0.mono s ps r⟩
theorem i0.mono{K:AE}{H H':Hp}(s:i9 H H'):∀(ps:List PV) {vs:List V},i0 K H ps vs->i0 K H' ps vs
 |[],_,h=>h
 |p::ps,_,⟨v,r,e,q,t⟩=>⟨v,r,e,z7.mono s p q,i0.mono s ps t⟩
theorem a0Q.mono{K:AE}{H H':Hp}(s:i9 H H'):∀(es:List (PV×PV)) {ys:List (List g9×V)},a0Q K H es ys->a0Q K H' es ys
 |[],_,h=>h
 |(k,p)::es,_,⟨kk,v,r,e,z,q,t⟩=>⟨kk,v,r,e,z,z7.mono s p q,a0Q.mono s es t⟩
theorem a2Y.mono{K:AE}{H H':Hp}(s:i9 H H'):∀(es:List (PV×PV)) {ys:List (Str×V)},a2Y K H es ys->a2Y K H' es ys
 |[],_,h=>h
 |(k,p)::es,_,⟨kk,v,r,e,z,q,t⟩=>⟨kk,v,r,e,z,z7.mono s p q,a2Y.mono s es t⟩
end
theorem i0.length{K:AE}{H:Hp}:∀{ps:List PV} {vs:List V},i0 K H ps vs->vs.length=ps.length
 |[],_,h=>by cases h;rfl
 |_::ps,_,⟨v,r,e,_,t⟩=>by subst e;rw [AT,AT,i0.length t]
theorem i0.get{K:AE}{H:Hp}:∀{ps:List PV} {vs:List V} {i:Nat} {p:PV},i0 K H ps vs->ps[i]?=some p->∃v,vs[i]?=some v/\z7 K H p v
 |[],_,_,_,_,h=>by simp at h
 |q::ps,_,0,p,⟨v,r,e,a,t⟩,h=>by subst e;simp at h;subst h;exact⟨v,rfl,a⟩
 |q::ps,_,i+1,p,⟨v,r,e,a,t⟩,h=>by subst e;exact i0.get (i:=i) t (by simpa using h)
theorem i0.getV{K:AE}{H:Hp}:∀{ps:List PV} {vs:List V} {i:Nat} {v:V},i0 K H ps vs->vs[i]?=some v->∃p,ps[i]?=some p/\z7 K H p v
 |[],_,_,_,h,e=>by cases h;simp at e
 |q::ps,_,0,v,⟨w,r,e,a,t⟩,h=>by subst e;simp at h;subst h;exact⟨q,rfl,a⟩
 |q::ps,_,i+1,v,⟨w,r,e,a,t⟩,h=>by subst e;exact i0.getV (i:=i) t (by simpa using h)
theorem i0.append{K:AE}{H:Hp}:∀{ps qs:List PV} {vs ws:List V},i0 K H ps vs->i0 K H qs ws->i0 K H (ps++qs) (vs++ws)
 |[],_,_,_,h,t=>by cases h;exact t
 |_::ps,_,_,_,⟨v,r,e,a,t⟩,s=>by subst e;exact⟨v,_,rfl,a,i0.append t s⟩
theorem i0.drop{K:AE}{H:Hp}:∀{ps:List PV} {vs:List V} (n:Nat),i0 K H ps vs->i0 K H (ps.drop n) (vs.drop n)
 |_,_,0,h=>h
 |[],_,n+1,h=>by cases h;rfl
 |_::ps,_,n+1,⟨v,r,e,a,t⟩=>by subst e;exact i0.drop n t
theorem i0.take{K:AE}{H:Hp}:∀{ps:List PV} {vs:List V} (n:Nat),i0 K H ps vs->i0 K H (ps.take n) (vs.take n)
 |_,_,0,h=>rfl
 |[],_,n+1,h=>by cases h;rfl
 |_::ps,_,n+1,⟨v,r,e,a,t⟩=>by subst e;exact⟨v,_,rfl,a,i0.take n t⟩
def v8(K:AE)(H:Hp):List (List g9×PV)->List (List g9×V)->Prop
 |[],ys=>ys=[]
 |(k,p)::r,ys=>∃v t,ys=(k,v)::t/\z7 K H p v/\v8 K H r t
theorem v8.mono{K:AE}{H H':Hp}(s:i9 H H'):∀(kvs:List (List g9×PV)) {ys:List (List g9×V)},v8 K H kvs ys->v8 K H' kvs ys
 |[],_,h=>h
 |(k,p)::r,_,⟨v,t,e,q,h⟩=>⟨v,t,e,z7.mono s p q,v8.mono s r h⟩
inductive S1 where
 |lst (ps:List PV)|dct (kvs:List (List g9×PV))|txt (kvs:List (List g9×PV))
inductive e9 where
 |val (p:PV)|ow (c:S1)|bo (c:S1)
abbrev e9.own(ps:List PV):e9:= .ow (.lst ps)
abbrev e9.bor(ps:List PV):e9:= .bo (.lst ps)
abbrev e9.dct(kvs:List (List g9×PV)):e9:= .ow (.dct kvs)
def V7(K:AE)(F H:Hp)(v:V):S1->Prop
 | .lst ps=>∃a xs,v= .ref a/\F a=none/\H a=some (.lst xs)/\i0 K F ps xs
 | .dct kvs=>∃a xs,v= .ref a/\F a=none/\H a=some (.dT xs)/\v8 K F kvs xs
 | .txt kvs=>∃a xs,v= .ref a/\F a=none/\H a=some (.dK xs)/\v8 K F kvs (xs.map s1)
def K5(K:AE)(F H:Hp)(v:V):e9->Prop
 | .val p=>z7 K F p v
 | .ow c=>V7 K F H v c
 | .bo c=>V7 K F H v c
theorem V7.at_{K:AE}{F H:Hp}{v:V}:∀{c:S1},V7 K F H v c->∃a o,v= .ref a/\F a=none/\H a=some o
 | .lst _,⟨a,_,e,n,q,_⟩=>⟨a,_,e,n,q⟩
 | .dct _,⟨a,_,e,n,q,_⟩=>⟨a,_,e,n,q⟩
 | .txt _,⟨a,_,e,n,q,_⟩=>⟨a,_,e,n,q⟩
def NT(o:HO):Prop:=∀xs,o≠.tup xs
structure N7(F H F' H':Hp):Prop where
 f:i9 F F'
 h:i9 H H'
 fh:i9 F' H'
 nw:∀b o,F b=none->H b=some o->NT o->F' b=none
 nf:∀b o u,F' b=some (.frz o u)->F b=some (.frz o u)
theorem i9.refl(H:Hp):i9 H H:=fun _ _ e=>e
theorem N7.refl{F H:Hp}(s:i9 F H):N7 F H F H:=⟨i9.refl F,i9.refl H,s,fun _ _ e _ _=>e,fun _ _ _ e=>e⟩
theorem N7.trans{F H F1 H1 F2 H2:Hp}(a:N7 F H F1 H1)(b:N7 F1 H1 F2 H2):N7 F H F2 H2:=
 ⟨a.f.trans b.f,a.h.trans b.h,b.fh,fun c o e q t=>b.nw c o (a.nw c o e q t) (a.h c o q) t,fun c o u e=>a.nf c o u (b.nf c o u e)⟩
theorem b3j{F0 F:Hp}{a:AB}{xs:List V}(h:∀b o u,F b=some (.frz o u)->F0 b=some (.frz o u)):∀b o u,m8 F a (.lst xs) b=some (.frz o u)->F0 b=some (.frz o u):=fun b o u z=>by
 by_cases hb:b=a
 ·subst hb;rw [j0] at z;cases z
 ·rw [g7 hb] at z;exact h _ _ _ z
theorem V7.ext{K:AE}{F H F' H':Hp}{v:V}(x:N7 F H F' H'):∀{c:S1},V7 K F H v c->V7 K F' H' v c
 | .lst _,⟨a,xs,e,n,q,r⟩=>⟨a,xs,e,x.nw _ _ n q (fun _ h=>nomatch h),x.h _ _ q,i0.mono x.f _ r⟩
 | .dct _,⟨a,xs,e,n,q,r⟩=>⟨a,xs,e,x.nw _ _ n q (fun _ h=>nomatch h),x.h _ _ q,v8.mono x.f _ r⟩
 | .txt _,⟨a,xs,e,n,q,r⟩=>⟨a,xs,e,x.nw _ _ n q (fun _ h=>nomatch h),x.h _ _ q,v8.mono x.f _ r⟩
theorem K5.ext{K:AE}{F H F' H':Hp}{v:V}(x:N7 F H F' H'):∀{r:e9},K5 K F H v r->K5 K F' H' v r
 | .val p,h=>z7.mono x.f p h
 | .ow _,h=>V7.ext x h
 | .bo _,h=>V7.ext x h
def S1.rd:S1->PV
 | .lst ps=> .list ps
 | .dct kvs=> .dict ((.tuple [],.none)::kvs.map fun kv=>(.tuple (kv.1.map kP),kv.2))
 | .txt kvs=> .dict (kvs.map fun kv=>(.tuple (kv.1.map kP),kv.2))
def e9.rd:e9->PV
 | .val p=>p
 | .ow c=>c.rd
 | .bo c=>c.rd
def e9.toVal:e9->Option PV
 | .val p=>some p
 | .ow (.lst ps)=>some (.list ps)
 | .ow (.dct _)=>none
 | .ow (.txt _)=>none
 | .bo _=>none
theorem a0Q.of{K:AE}{F H:Hp}(s:i9 F H):∀{kvs:List (List g9×PV)} {xs:List (List g9×V)},v8 K F kvs xs->a0Q K H (kvs.map fun kv=>(PyData.tuple (kv.1.map kP),kv.2)) xs
 |[],_,h=>h
 |(k,p)::r,_,⟨v,t,e,q,h⟩=>⟨k,v,t,e,rfl,z7.mono s p q,a0Q.of s h⟩
theorem V7.rd{K:AE}{F H:Hp}{v:V}(s:i9 F H):∀{c:S1},V7 K F H v c->z7 K H c.rd v
 | .lst ps,⟨a,xs,e,n,q,r⟩=>⟨a,xs,e,Q4.of q,i0.mono s _ r⟩
 | .dct kvs,⟨a,xs,e,n,q,r⟩=> .inr (.inl ⟨a,xs,e,q,[],.non,xs,rfl,rfl,rfl,a0Q.of s r⟩)
 | .txt kvs,⟨a,xs,e,n,q,r⟩=> .inl ⟨a,xs,e,q,a0Q.of s r⟩
theorem K5.rd{K:AE}{F H:Hp}{v:V}(s:i9 F H):∀{r:e9},K5 K F H v r->z7 K H r.rd v
 | .val p,h=>z7.mono s p h
 | .ow _,h=>V7.rd s h
 | .bo _,h=>V7.rd s h
structure m9(K:AE)(F H F' H':Hp)(v:V)(r:e9):Prop where
 x:N7 F H F' H'
 rep:K5 K F' H' v r
 fr:∀c a,r= .ow c->v= .ref a->H a=none
theorem m9.val{K:AE}{F H F' H':Hp}{v:V}{p:PV}(x:N7 F H F' H')(r:z7 K F' p v):m9 K F H F' H' v (.val p):=⟨x,r,fun _ _ e=>nomatch e⟩
theorem m9.here{K:AE}{F H:Hp}{v:V}{p:PV}(s:i9 F H)(r:z7 K F p v):m9 K F H F H v (.val p):=m9.val (N7.refl s) r
theorem m9.trans{K:AE}{F H F1 H1 F2 H2:Hp}{v:V}{r:e9}(a:N7 F H F1 H1)(b:m9 K F1 H1 F2 H2 v r):m9 K F H F2 H2 v r:=
 ⟨a.trans b.x,b.rep,fun ps c e q=>a.h.free (b.fr ps c e q)⟩
theorem m9.toVal{K:AE}{F H F' H':Hp}{v:V}{p:PV}:∀{r:e9},m9 K F H F' H' v r->r.toVal=some p->∃F2,m9 K F H F2 H' v (.val p)
 | .val q,o,e=>by cases e;exact⟨F',o⟩
 | .bo _,_,e=>nomatch e
 | .ow (.dct _),_,e=>nomatch e
 | .ow (.txt _),_,e=>nomatch e
 | .ow (.lst ps),o,e=>by
   cases e
   obtain⟨a,xs,rfl,n,q,r⟩:=o.rep
   have fr:=o.fr _ a rfl rfl
   have up:i9 F' (m8 F' a (.lst xs)):=fun b u z=>by rw [g7 (i6 z n)];exact z
   refine⟨m8 F' a (.lst xs),m9.val ⟨o.x.f.trans up,o.x.h,fun b u z=> ?_,fun b u z y t=> ?_,b3j o.x.nf⟩ ⟨a,xs,rfl,Q4.of j0,i0.mono up _ r⟩⟩
   ·by_cases hb:b=a
    ·subst hb;rw [j0] at z;cases z;exact q
    ·rw [g7 hb] at z;exact o.x.fh _ _ z
   ·rw [g7 (i6 y fr)];exact o.x.nw b u z y t
theorem Y9{H:Hp}{a:AB}{o:HO}(n:H a=none):i9 H (m8 H a o):=fun b u z=>by rw [g7 (i6 z n)];exact z
theorem N7.lay{F H:Hp}{a:AB}{o:HO}(s:i9 F H)(n:H a=none)(hf:∀x u,o≠.frz x u:=by intro _ _ h;cases h):N7 F H (m8 F a o) (m8 H a o):=
 ⟨Y9 (s.free n),Y9 n,fun b u z=>by
  by_cases hb:b=a
  ·subst hb;rw [j0] at z ⊢;exact z
  ·rw [g7 hb] at z ⊢;exact s _ _ z,fun b u z y _=>by rw [g7 (i6 y n)];exact z,fun b w u z=>by
  by_cases hb:b=a
  ·subst hb;rw [j0] at z;exact absurd (Option.some.inj z) (hf w u)
  ·rw [g7 hb] at z;exact z⟩
theorem N7.layH{F H:Hp}{a:AB}{o:HO}(s:i9 F H)(n:H a=none):N7 F H F (m8 H a o):=
 ⟨i9.refl F,Y9 n,fun b u z=>by rw [g7 (i6 (s _ _ z) n)];exact s _ _ z,fun b u z y _=>z,fun _ _ _ z=>z⟩
theorem m9.tup{K:AE}{F H:Hp}{a:AB}{xs:List V}{ps:List PV}(s:i9 F H)(n:H a=none)(r:i0 K F ps xs):m9 K F H (m8 F a (.tup xs)) (m8 H a (.tup xs)) (.ref a) (.val (.tuple ps)):=
 m9.val (N7.lay s n) ⟨a,xs,rfl,TqT.of j0,i0.mono (Y9 (s.free n)) _ r⟩
theorem m9.lst{K:AE}{F H:Hp}{a:AB}{xs:List V}{ps:List PV}(s:i9 F H)(n:H a=none)(r:i0 K F ps xs):m9 K F H F (m8 H a (.lst xs)) (.ref a) (.own ps):=
 ⟨N7.layH s n,⟨a,xs,rfl,s.free n,j0,r⟩,fun _ _ _ e=>by cases e;exact n⟩
abbrev b9:=List (Option e9)
structure C5(K:AE)(F H:Hp)(σ:L2.St)(ρ:b9):Prop where
 fh:i9 F H
 len:σ.length=ρ.length
 at_:∀(i:Nat) (r:e9),ρ[i]?=some (some r)->∃v,σ[i]?=some (some v)/\K5 K F H v r
 nb:∀(i:Nat) (c:S1),ρ[i]?≠some (some (.bo c))
 ap:∀(i j:Nat) (c d:S1) (a:AB),i≠j->ρ[i]?=some (some (.ow c))->ρ[j]?=some (some (.ow d))->σ[i]?=some (some (.ref a))->σ[j]?≠some (some (.ref a))
theorem C5.ext{K:AE}{F H F' H':Hp}{σ:L2.St}{ρ:b9}(e:C5 K F H σ ρ)(x:N7 F H F' H'):C5 K F' H' σ ρ:=
 ⟨x.fh,e.len,fun i r q=>let ⟨v,a,b⟩:=e.at_ i r q;⟨v,a,b.ext x⟩,e.nb,e.ap⟩
abbrev M:=b9->Option e9
def tM(K:AE)(m:M):TE:=fun σ H Q=>∃F ρ r,C5 K F H σ ρ/\m ρ=some r/\∀v F' H',m9 K F H F' H' v r->Q v H'
abbrev EE(X:Cx)(e:AG)(m:M):Prop:=PE X e (tM X.K m)
theorem t7{X:Cx}{e:AG}{t t':TE}(h:PE X e t)(i:∀σ H Q,t' σ H Q->t σ H Q):PE X e t':=fun pins s σ H Q I q=>h pins s σ H Q I (i σ H Q q)
theorem a6X{X:Cx}{e:AG}{t t':TT}(h:PT X e t)(i:∀σ H Q,t' σ H Q->t σ H Q):PT X e t':=fun pins s σ H Q I q=>h pins s σ H Q I (i σ H Q q)
theorem b7X{X:Cx}{e:AG}{t t':TT}(h:PW X e t)(i:∀σ H Q,t' σ H Q->t σ H Q):PW X e t':=fun wh pins s σ H Q I q=>h wh pins s σ H Q I (i σ H Q q)
theorem b3x{X:Cx}{e:List AG}{t t':TA}(h:PA X e t)(i:∀σ H Q,t' σ H Q->t σ H Q):PA X e t':=fun pos pins s σ H Q I q=>h pos pins s σ H Q I (i σ H Q q)
theorem u7{X:Cx}{e:Stmt}{t t':TS}(h:PS X e t)(i:∀D σ H,t' D σ H->t D σ H):PS X e t':=fun pins s σ H D I q=>h pins s σ H D I (i D σ H q)
theorem a3k{X:Cx}{e:List Stmt}{t t':TS}(h:PSs X e t)(i:∀D σ H,t' D σ H->t D σ H):PSs X e t':=fun pins s σ H D I q=>h pins s σ H D I (i D σ H q)
def mC(p:PV):M:=fun _=>some (.val p)
def c6(i:Nat):M:=fun ρ=>match ρ[i]? with
 |some (some (.ow c))=>some (.bo c)
 |some (some r)=>some r
 |_=>none
section
variable {X:Cx}{a b c:AG}{ma mb mc:M}{pos:Pos}
theorem W7{e:AG}{v:V}{p:PV}(h:PE X e (tC v))(r:∀H,z7 X.K H p v):EE X e (mC p):=
 t7 h fun σ H Q h0=>p9 h0 fun F ρ q he hm k=>by
  cases hm
  exact k v F H (m9.here he.fh (r F))
theorem g5{i j pos}:EE X (.Constant (.int i) j pos) (mC (.int i)):=W7 b7L fun _=>rfl
theorem a5q{b j pos}:EE X (.Constant (.bool b) j pos) (mC (.bool b)):=W7 b9a fun _=>rfl
theorem l7{x j pos}:EE X (.Constant (.str x) j pos) (mC (.str x)):=W7 b7O fun _=>rfl
theorem a0(i:Nat){x:Str}{pos:Pos}(h:PE X (.Name x pos) (a2j i)):EE X (.Name x pos) (c6 i):=
 t7 h fun σ H Q h0=>p9 h0 fun F ρ r he hm k=>by
  unfold c6 at hm
  split at hm
  ·rename_i ps e
   cases hm
   obtain⟨v,e1,rr⟩:=he.at_ i _ e
   exact⟨v,e1,k v F H ⟨N7.refl he.fh,rr,fun _ _ z=>nomatch z⟩⟩
  ·rename_i r' nn e
   cases hm
   obtain⟨v,e1,rr⟩:=he.at_ i _ e
   exact⟨v,e1,k v F H ⟨N7.refl he.fh,rr,fun ps _ z=>absurd z (nn ps)⟩⟩
  ·cases hm
def rM2(K:AE)(g:e9->e9->Option e9):R2:=fun x y H Q=>∃F rx ry rz,i9 F H/\K5 K F H x rx/\K5 K F H y ry/\g rx ry=some rz/\∀v F' H',m9 K F H F' H' v rz->Q v H'
abbrev OpM(X:Cx)(f:AA->AA->Sem AA)(g:e9->e9->Option e9):Prop:=OpR X f (rM2 X.K g)
def m2(g:e9->e9->Option e9)(ma mb:M):M:=fun ρ=>(ma ρ).bind fun x=>(mb ρ).bind fun y=>g x y
theorem bind_some{α β:Type}{o:Option α}{f:α->Option β}{b:β}(h:o.bind f=some b):∃a,o=some a/\f a=some b:=by
 cases o with
 |none=>cases h
 |some a=>exact⟨a,rfl,h⟩
theorem a65{K:AE}{g:e9->e9->Option e9}{σ:L2.St}{H:Hp}{Q:VK}(h:tM K (m2 g ma mb) σ H Q):tOp (rM2 K g) (tM K ma) (tM K mb) σ H Q:=by
 obtain⟨F,ρ,r,he,hm,k⟩:=h
 obtain⟨rx,e1,hm⟩:=bind_some hm
 obtain⟨ry,e2,hm⟩:=bind_some hm
 exact⟨F,ρ,rx,he,e1,fun v F1 H1 o1=>⟨F1,ρ,ry,he.ext o1.x,e2,fun u F2 H2 o2=>⟨F2,rx,ry,r,o2.x.fh,o1.rep.ext o2.x,o2.rep,hm,fun z F3 H3 o3=>k z F3 H3 (m9.trans (o1.x.trans o2.x) o3)⟩⟩⟩
theorem i3{op:Operator}{g:e9->e9->Option e9}(ho:OpM X (binaryOp op) g)(ha:EE X a ma)(hb:EE X b mb):EE X (.BinOp a op b pos) (m2 g ma mb):=
 t7 (b9c ho ha hb) fun _ _ _ h=>a65 h
theorem b2n{op:CmpOp}{g:e9->e9->Option e9}(ho:OpM X (compareOp op) g)(ha:EE X a ma)(hb:EE X b mb)(hm:behindInMarks op b=false):EE X (.Compare a [op] [b] pos) (m2 g ma mb):=
 t7 (b5q ho ha hb hm) fun _ _ _ h=>a65 h
theorem a5K{f:AA->AA->Sem AA}{r:R2}{g:e9->e9->Option e9}(h:OpR X f r)
 (i:∀F H x y rx ry rz,i9 F H->K5 X.K F H x rx->K5 X.K F H y ry->g rx ry=some rz->∀Q:VK,(∀v F' H',m9 X.K F H F' H' v rz->Q v H')->r x y H Q):OpM X f g:=
 fun pins s σ H x y v u Q I rx ry ⟨F,ra,rb,rz,s0,h1,h2,h3,k⟩=>h pins s σ H x y v u Q I rx ry (i F H x y ra rb rz s0 h1 h2 h3 Q k)
end
def gI(f:Int->Int->PV):e9->e9->Option e9
 | .val (.int i),.val (.int j)=>some (.val (f i j))
 |_,_=>none
theorem b3m:∃f:(Int->Int->Prop)->Int->Int->Bool,∀C i j,f C i j=true↔C i j:=⟨fun C i j=> @decide (C i j) (Classical.propDecidable _),fun C i j=> @decide_eq_true_iff (C i j) (Classical.propDecidable _)⟩
def okC:(Int->Int->Prop)->Int->Int->Bool:=b3m.choose
theorem a1j{C:Int->Int->Prop}{i j:Int}:okC C i j=true↔C i j:=b3m.choose_spec C i j
def W8(C:Int->Int->Prop)[∀i j,Decidable (C i j)](f:Int->Int->PV):e9->e9->Option e9
 | .val (.int i),.val (.int j)=>if okC C i j=true then some (.val (f i j)) else none
 |_,_=>none
theorem a96{f:Int->Int->PV}{rx ry rz:e9}(h:gI f rx ry=some rz):∃i j,rx= .val (.int i)/\ry= .val (.int j)/\rz= .val (f i j):=by
 unfold gI at h
 split at h
 ·cases h;exact⟨_,_,rfl,rfl,rfl⟩
 ·cases h
theorem b2F{C:Int->Int->Prop}[∀i j,Decidable (C i j)]{f:Int->Int->PV}{rx ry rz:e9}(h:W8 C f rx ry=some rz):∃i j,rx= .val (.int i)/\ry= .val (.int j)/\C i j/\rz= .val (f i j):=by
 unfold W8 at h
 split at h
 ·split at h
  ·rename_i c;cases h;exact⟨_,_,rfl,rfl,a1j.mp c,rfl⟩
  ·cases h
 ·cases h
section
variable {X:Cx}
theorem b6k{f:AA->AA->Sem AA}{g:Int->Int->V}{g':Int->Int->PV}(h:OpR X f (rI0 g))(e:∀i j H,z7 X.K H (g' i j) (g i j)):OpM X f (gI g'):=
 a5K h fun F H x y rx ry rz s h1 h2 h3 Q k=>by
  obtain⟨i,j,rfl,rfl,rfl⟩:=a96 h3
  exact⟨i,j,h1,h2,k _ F H (m9.here s (e i j F))⟩
theorem a6S{f:AA->AA->Sem AA}{C:Int->Int->Prop}[∀i j,Decidable (C i j)]{g:Int->Int->V}{g':Int->Int->PV}(h:OpR X f (rI C g))(e:∀i j H,z7 X.K H (g' i j) (g i j)):OpM X f (W8 C g'):=
 a5K h fun F H x y rx ry rz s h1 h2 h3 Q k=>by
  obtain⟨i,j,rfl,rfl,c,rfl⟩:=b2F h3
  exact⟨i,j,h1,h2,c,k _ F H (m9.here s (e i j F))⟩
end
mutual
def j4:PV->Nat->Bool
 | .list xs,n+1=>o0 xs n
 | .tuple xs,n+1=>o0 xs n
 | .list _,0=>false
 | .tuple _,0=>false
 | .dict _,_=>false
 | .none,_=>true
 | .bool _,_=>true
 | .int _,_=>true
 | .str _,_=>true
def o0:List PV->Nat->Bool
 |[],_=>true
 |x::xs,n=>j4 x n && o0 xs n
end
section
variable {X:Cx}{pins:List (AB×Obj)}{σ:L2.St}{H:Hp}{s:AC}
theorem a2O(I:g8 X pins σ H s){a:AB}{xs ys:List V}(h:Q4 X.K H a xs)(h':SqT X.K H a ys):False:=by
 obtain⟨its,r,p,_⟩:=I.list h
 obtain⟨its',r',p',_⟩:=I.tuple h'
 exact SeqAt.ne_of_list_tuple p.isList (show s.heap.IsTuple a its'.toArray from p') rfl
theorem b5f{K:AE}{F:Hp}{k p:PV}{r:List (PV×PV)}{y:Str}{m v:V}{fs:List (Str×V)}(h:a8D K F y m fs v)(hr:a2Y K F ((k,p)::r) ((y,m)::fs)):k= .str y/\(p= .bool false\/p= .int 0)/\a2Y K F r fs:=by
 obtain⟨f,w,t,e,z,q,hr⟩:=hr
 cases e
 refine⟨z, ?_,hr⟩
 rcases h with⟨rfl,_⟩|⟨rfl,_⟩
 ·cases p with
  |bool b=>cases q;exact .inl rfl
  |tuple _=>obtain⟨_,_,e,_⟩:=q;cases e
  |list _=>obtain⟨_,_,e,_⟩:=q;cases e
  |dict _=>
   rcases q with⟨_,_,e,_⟩|⟨_,_,e,_⟩|⟨_,_,_,q⟩|⟨_,_,_,q,_⟩
   ·cases e
   ·cases e
   ·obtain⟨_,e⟩:=q.ref;cases e
   ·obtain⟨_,e⟩:=q.ref;cases e
  |_=>cases q
 ·cases p with
  |int b=>cases q;exact .inr rfl
  |tuple _=>obtain⟨_,_,e,_⟩:=q;cases e
  |list _=>obtain⟨_,_,e,_⟩:=q;cases e
  |dict _=>
   rcases q with⟨_,_,e,_⟩|⟨_,_,e,_⟩|⟨_,_,_,q⟩|⟨_,_,_,q,_⟩
   ·cases e
   ·cases e
   ·obtain⟨_,e⟩:=q.ref;cases e
   ·obtain⟨_,e⟩:=q.ref;cases e
  |_=>cases q
mutual
theorem z7.inj(I:g8 X pins σ H s):∀(p q:PV) {v:V} {n m:Nat},j4 p n=true->j4 q m=true->z7 X.K H p v->z7 X.K H q v->p=q
 | .tuple ps,q,v,n,m,hp,hq,⟨a,xs,e,h,r⟩,h'=>by
   subst e
   cases q with
   |tuple qs=>
    obtain⟨a',xs',e',h',r'⟩:=h'
    cases e'
    cases I.tuple_inj h.sq h'.sq
    cases n<;>cases m<;>simp only [j4,Ac] at hp hq
    rw [i0.inj I ps qs hp hq r r']
   |list qs=>obtain⟨a',xs',e',h',r'⟩:=h';cases e';exact(a2O I h' h.sq).elim
   |dict qs=>simp [j4] at hq
   |_=>cases h'
 | .list ps,q,v,n,m,hp,hq,⟨a,xs,e,h,r⟩,h'=>by
   subst e
   cases q with
   |list qs=>
    obtain⟨a',xs',e',h',r'⟩:=h'
    cases e'
    cases I.list_inj h h'
    cases n<;>cases m<;>simp only [j4,Ac] at hp hq
    rw [i0.inj I ps qs hp hq r r']
   |tuple qs=>obtain⟨a',xs',e',h',r'⟩:=h';cases e';exact(a2O I h h'.sq).elim
   |dict qs=>simp [j4] at hq
   |_=>cases h'
 | .dict _,_,_,_,_,hp,_,_,_=>by simp [j4] at hp
 | .none,q,v,n,m,hp,hq,h,h'| .bool _,q,v,n,m,hp,hq,h,h'| .int _,q,v,n,m,hp,hq,h,h'| .str _,q,v,n,m,hp,hq,h,h'=>by
   cases h
   cases q with
   |tuple _=>obtain⟨_,_,e,_⟩:=h';cases e
   |list _=>obtain⟨_,_,e,_⟩:=h';cases e
   |dict _=>simp [j4] at hq
   |_=>cases h'<;>rfl
theorem i0.inj(I:g8 X pins σ H s):∀(ps qs:List PV) {vs:List V} {n m:Nat},o0 ps n=true->o0 qs m=true->i0 X.K H ps vs->i0 X.K H qs vs->ps=qs
 |[],qs,vs,n,m,_,_,h,h'=>by
  cases h
  cases qs with
  |nil=>rfl
  |cons q qs=>obtain⟨_,_,e,_⟩:=h';cases e
 |p::ps,qs,vs,n,m,hp,hq,⟨v,r,e,h,t⟩,h'=>by
  subst e
  cases qs with
  |nil=>cases h'
  |cons q qs=>
   obtain⟨v',r',e',h',t'⟩:=h'
   cases e'
   simp only [o0,Bool.and_eq_true] at hp hq
   rw [z7.inj I p q hp.1 hq.1 h h',i0.inj I ps qs hp.2 hq.2 t t']
end
end
mutual
theorem b2r:∀(p:PV) (n:Nat),j4 p n=true->PyData.eqv p p=true
 | .none,_,_=>by simp [PyData.eqv]
 | .bool _,_,_=>by simp [PyData.eqv]
 | .int _,_,_=>by simp [PyData.eqv]
 | .str _,_,_=>by simp [PyData.eqv]
 | .list xs,n+1,h=>by simp only [PyData.eqv];exact Q5 xs n (by simpa [j4] using h)
 | .tuple xs,n+1,h=>by simp only [PyData.eqv];exact Q5 xs n (by simpa [j4] using h)
 | .list xs,0,h=>by simp [j4] at h
 | .tuple xs,0,h=>by simp [j4] at h
 | .dict _,_,h=>by simp [j4] at h
theorem Q5:∀(ps:List PV) (n:Nat),o0 ps n=true->PyData.eqvAll ps ps=true
 |[],_,_=>by simp [PyData.eqvAll]
 |x::xs,n,h=>by
  have h':j4 x n=true/\o0 xs n=true:=by simpa [o0] using h
  simp only [PyData.eqvAll,b2r x n h'.1,Q5 xs n h'.2,Bool.and_self]
end
def eAt(ps qs:List PV)(j:Nat):Bool:=match ps[j]?,qs[j]? with
 |some p,some q=>PyData.eqv p q
 |_,_=>false
theorem K7:∀(ps qs:List PV),PyData.eqvAll ps qs=((AS (min ps.length qs.length)).all (eAt ps qs)&& ps.length==qs.length)
 |[],[]=>by simp [PyData.eqvAll]
 |[],_::_=>by simp [PyData.eqvAll]
 |_::_,[]=>by simp [PyData.eqvAll]
 |p::ps,q::qs=>by
  have e:min (p::ps).length (q::qs).length=min ps.length qs.length+1:=by simp only [AT];lia
  rw [e,List.range_succ_eq_map,List.all_cons,List.all_map]
  have h0:eAt (p::ps) (q::qs) 0=PyData.eqv p q:=rfl
  have h1:(eAt (p::ps) (q::qs)∘Nat.succ)=eAt ps qs:=by funext j;simp [eAt,Function.comp]
  rw [h0,h1]
  simp only [PyData.eqvAll,K7 ps qs,AT,Bool.and_assoc]
  have e2:(ps.length+1==qs.length+1)=(ps.length==qs.length):=by
   rw [Bool.eq_iff_iff];simp
  rw [e2]
section
variable {X:Cx}{pins:List (AB×Obj)}{σ:L2.St}{H:Hp}{s:AC}
structure b1X(A:AL)(s:AC)(u w:AA)(b:Bool):Prop where
 rc:SeqAt.RcAt A s u w b
 ne:SeqAt.RcNeAt A s u w (!b)
 eq:SeqAt.EqAt A s u w b
theorem Z8(A:AL):A.in1.units=A.units+1:=rfl
theorem a1A{xs:List V}{its:List AA}{j:Nat}(r:j3 xs its)(h:j<its.length):∃x,xs[j]?=some x/\j6 x its[j]:=by
 have hx:j<xs.length:=by rw [r.length];exact h
 obtain⟨u,h1,h2⟩:=r.get (i:=j) (x:=xs[j]) (by simp [hx])
 rw [Ar h] at h1
 cases h1
 exact⟨xs[j],by simp [hx],h2⟩
theorem a4H{A:AL}{ps qs:List PV}{xs ys:List V}{its its2:List AA}(r:i0 X.K H ps xs)(r':i0 X.K H qs ys)(rv:j3 xs its)(rv':j3 ys its2)
 (ih:∀p q x y u w,p∈ps->q∈qs->z7 X.K H p x->z7 X.K H q y->j6 x u->j6 y w->b1X A s u w (PyData.eqv p q)):
 ∀j (h1:j<its.toArray.size) (h2:j<its2.toArray.size),SeqAt.EqAt A s its.toArray[j] its2.toArray[j] (eAt ps qs j):=by
 intro j h1 h2
 have h1':j<its.length:=by simpa using h1
 have h2':j<its2.length:=by simpa using h2
 obtain⟨x,ex,rx⟩:=a1A rv h1'
 obtain⟨y,ey,ry⟩:=a1A rv' h2'
 obtain⟨p,ep,hp⟩:=r.getV ex
 obtain⟨q,eq,hq⟩:=r'.getV ey
 have:eAt ps qs j=PyData.eqv p q:=by simp [eAt,ep,eq]
 rw [this]
 have z:=(ih p q x y _ _ (BB ep) (BB eq) hp hq rx ry).eq
 simpa using z
theorem n6:∀{ps:List PV} {n:Nat} {p:PV},o0 ps n=true->p∈ps->j4 p n=true
 |[],_,_,_,h=>by cases h
 |x::xs,n,p,h,hp=>by
  have h':j4 x n=true/\o0 xs n=true:=by simpa [o0] using h
  rcases Ab.mp hp with rfl|hp
  ·exact h'.1
  ·exact n6 h'.2 hp
theorem a6q(I:g8 X pins σ H s):∀(n:Nat) (A:AL) (p q:PV) (x y:V) (u w:AA),A.units+n<cLine->j4 p n=true->j4 q n=true->z7 X.K H p x->z7 X.K H q y->j6 x u->j6 y w->b1X A s u w (PyData.eqv p q):=by
 intro n
 induction n with
 |zero=>
  intro A p q x y u w hu hp hq rp rq rx ry
  cases p with
  |none=>
   cases rp;cases rx
   cases q with
   |none=>cases rq;cases ry;simp only [PyData.eqv];exact⟨.none_none,.none_none,.same _⟩
   |bool j=>cases rq;cases ry;simp only [PyData.eqv];exact⟨.none_bool _,.none_bool _,.none_bool _⟩
   |int j=>cases rq;obtain⟨ty,rfl⟩:=ry;simp only [PyData.eqv];exact⟨.none_int _ _,.none_int _ _,.none_int _ _⟩
   |str j=>cases rq;obtain⟨ty,rfl⟩:=ry;simp only [PyData.eqv];exact⟨.none_str _ _,.none_str _ _,.none_str _ _⟩
   |dict _=>simp [j4] at hq
   |list _=>simp [j4] at hq
   |tuple _=>simp [j4] at hq
  |bool i=>
   cases rp;cases rx
   cases q with
   |none=>cases rq;cases ry;simp only [PyData.eqv];exact⟨.bool_none _,.bool_none _,.bool_none _⟩
   |bool j=>cases rq;cases ry;simp only [PyData.eqv];exact⟨.bool_bool _ _,.bool_bool _ _,.bool_bool _ _⟩
   |int j=>cases rq;obtain⟨ty,rfl⟩:=ry;simp only [PyData.eqv];exact⟨.bool_int _ _ _,.bool_int _ _ _,.bool_int _ _ _⟩
   |str j=>cases rq;obtain⟨ty,rfl⟩:=ry;simp only [PyData.eqv];exact⟨.bool_str _ _ _,.bool_str _ _ _,.bool_str _ _ _⟩
   |dict _=>simp [j4] at hq
   |list _=>simp [j4] at hq
   |tuple _=>simp [j4] at hq
  |int i=>
   cases rp;obtain⟨tx,rfl⟩:=rx
   cases q with
   |none=>cases rq;cases ry;simp only [PyData.eqv];exact⟨.int_none _ _,.int_none _ _,.int_none _ _⟩
   |bool j=>cases rq;cases ry;simp only [PyData.eqv];exact⟨.int_bool _ _ _,.int_bool _ _ _,.int_bool _ _ _⟩
   |int j=>cases rq;obtain⟨ty,rfl⟩:=ry;simp only [PyData.eqv];exact⟨.int_int _ _ _ _,.int_int _ _ _ _,.int_int _ _ _ _⟩
   |str j=>cases rq;obtain⟨ty,rfl⟩:=ry;simp only [PyData.eqv];exact⟨.int_str _ _ _ _,.int_str _ _ _ _,.int_str _ _ _ _⟩
   |dict _=>simp [j4] at hq
   |list _=>simp [j4] at hq
   |tuple _=>simp [j4] at hq
  |str i=>
   cases rp;obtain⟨tx,rfl⟩:=rx
   cases q with
   |none=>cases rq;cases ry;simp only [PyData.eqv];exact⟨.str_none _ _,.str_none _ _,.str_none _ _⟩
   |bool j=>cases rq;cases ry;simp only [PyData.eqv];exact⟨.str_bool _ _ _,.str_bool _ _ _,.str_bool _ _ _⟩
   |int j=>cases rq;obtain⟨ty,rfl⟩:=ry;simp only [PyData.eqv];exact⟨.str_int _ _ _ _,.str_int _ _ _ _,.str_int _ _ _ _⟩
   |str j=>cases rq;obtain⟨ty,rfl⟩:=ry;simp only [PyData.eqv];exact⟨.str_str _ _ _ _,.str_str _ _ _ _,.str_str _ _ _ _⟩
   |dict _=>simp [j4] at hq
   |list _=>simp [j4] at hq
   |tuple _=>simp [j4] at hq
  |dict _=>simp [j4] at hp
  |list _=>simp [j4] at hp
  |tuple _=>simp [j4] at hp
 |succ n ih=>
  intro A p q x y u w hu hp hq rp rq rx ry
  have hu0:A.units<cLine:=by lia
  have hu1:A.in1.units+n<cLine:=by rw [Z8];lia
  cases p with
  |dict _=>simp [j4] at hp
  |list ps=>
   obtain⟨a,xs,rfl,hs,r⟩:=rp
   cases rx
   obtain⟨its,rv,pl,hz⟩:=I.list hs
   have okp:o0 ps n=true:=by simpa [j4] using hp
   cases q with
   |dict _=>simp [j4] at hq
   |list qs=>
    obtain⟨b,ys,rfl,hs',r'⟩:=rq
    cases ry
    obtain⟨its2,rv',pl',hz'⟩:=I.list hs'
    have okq:o0 qs n=true:=by simpa [j4] using hq
    have hle:its.toArray.size=ps.length:=by rw [<-r.length,rv.length];simp
    have hle':its2.toArray.size=qs.length:=by rw [<-r'.length,rv'.length];simp
    have he:=a4H (A:=A.in1) (s:=s) r r' rv rv' fun p q x y u w hp' hq' rp' rq' rx' ry'=>ih A.in1 p q x y u w hu1 (n6 okp hp') (n6 okq hq') rp' rq' rx' ry'
    simp only [PyData.eqv]
    have main:SeqAt.RcAt A s (.ref a) (.ref b) (PyData.eqvAll ps qs)/\SeqAt.RcNeAt A s (.ref a) (.ref b) (!PyData.eqvAll ps qs):=by
     by_cases e:its.toArray.size=its2.toArray.size
     ·have el:ps.length=qs.length:=by rw [<-hle,<-hle',e]
      have e3:PyData.eqvAll ps qs=(AS its.toArray.size).all (eAt ps qs):=by
       rw [K7,el,Nat.min_self,hle,el];simp
      rw [e3]
      exact⟨.lists pl.isList pl'.isList e hu0 he,.lists pl.isList pl'.isList e hu0 he⟩
     ·have e3:PyData.eqvAll ps qs=false:=by
       rw [K7]
       have:(ps.length==qs.length)=false:=by
        rw [beq_eq_false_iff_ne];intro z;exact e (by rw [hle,hle',z])
       rw [this,Bool.and_false]
      have e4:(its.toArray.size !=its2.toArray.size)=true:=by simpa using e
      rw [e3]
      exact⟨.lists_lengths pl.isList pl'.isList e4 hu0,.lists_lengths pl.isList pl'.isList e4 hu0⟩
    refine⟨main.1,main.2, ?_⟩
    by_cases hab:a=b
    ·subst hab
     cases I.list_inj hs hs'
     cases i0.inj I ps qs okp okq r r'
     rw [Q5 ps n okp]
     exact .same _
    ·exact .of_refs hab main.1
   |tuple qs=>
    obtain⟨b,ys,rfl,hs',r'⟩:=rq
    cases ry
    obtain⟨its2,rv',pl',hz'⟩:=I.tuple hs'.sq
    simp only [PyData.eqv]
    exact⟨.list_tuple pl.isList pl' hu0,.list_tuple pl.isList pl' hu0,.list_tuple pl.isList pl' hu0⟩
   |none=>cases rq;cases ry;simp only [PyData.eqv];exact⟨.list_none pl.isList hu0,.list_none pl.isList hu0,.list_none pl.isList hu0⟩
   |bool k=>cases rq;cases ry;simp only [PyData.eqv];exact⟨.list_bool _ pl.isList hu0,.list_bool _ pl.isList hu0,.list_bool _ pl.isList hu0⟩
   |int k=>cases rq;obtain⟨t,rfl⟩:=ry;simp only [PyData.eqv];exact⟨.list_int _ _ pl.isList hu0,.list_int _ _ pl.isList hu0,.list_int _ _ pl.isList hu0⟩
   |str k=>cases rq;obtain⟨t,rfl⟩:=ry;simp only [PyData.eqv];exact⟨.list_str _ _ pl.isList hu0,.list_str _ _ pl.isList hu0,.list_str _ _ pl.isList hu0⟩
  |tuple ps=>
   obtain⟨a,xs,rfl,hs,r⟩:=rp
   cases rx
   obtain⟨its,rv,pl,hz⟩:=I.tuple hs.sq
   have okp:o0 ps n=true:=by simpa [j4] using hp
   cases q with
   |dict _=>simp [j4] at hq
   |tuple qs=>
    obtain⟨b,ys,rfl,hs',r'⟩:=rq
    cases ry
    obtain⟨its2,rv',pl',hz'⟩:=I.tuple hs'.sq
    have okq:o0 qs n=true:=by simpa [j4] using hq
    have hle:its.toArray.size=ps.length:=by rw [<-r.length,rv.length];simp
    have hle':its2.toArray.size=qs.length:=by rw [<-r'.length,rv'.length];simp
    have he:=a4H (A:=A.in1) (s:=s) r r' rv rv' fun p q x y u w hp' hq' rp' rq' rx' ry'=>ih A.in1 p q x y u w hu1 (n6 okp hp') (n6 okq hq') rp' rq' rx' ry'
    simp only [PyData.eqv]
    have e3:PyData.eqvAll ps qs=((AS (min its.toArray.size its2.toArray.size)).all (eAt ps qs)&& its.toArray.size==its2.toArray.size):=by
     rw [K7,hle,hle']
    have main:SeqAt.RcAt A s (.ref a) (.ref b) (PyData.eqvAll ps qs)/\SeqAt.RcNeAt A s (.ref a) (.ref b) (!PyData.eqvAll ps qs):=by
     rw [e3]
     exact⟨.tuples pl pl' hu0 he,.tuples pl pl' hu0 he⟩
    refine⟨main.1,main.2, ?_⟩
    by_cases hab:a=b
    ·subst hab
     cases I.tuple_inj hs.sq hs'.sq
     cases i0.inj I ps qs okp okq r r'
     rw [Q5 ps n okp]
     exact .same _
    ·exact .of_refs hab main.1
   |list qs=>
    obtain⟨b,ys,rfl,hs',r'⟩:=rq
    cases ry
    obtain⟨its2,rv',pl',hz'⟩:=I.list hs'
    simp only [PyData.eqv]
    exact⟨.tuple_list pl pl'.isList hu0,.tuple_list pl pl'.isList hu0,.tuple_list pl pl'.isList hu0⟩
   |none=>cases rq;cases ry;simp only [PyData.eqv];exact⟨.tuple_none pl hu0,.tuple_none pl hu0,.tuple_none pl hu0⟩
   |bool k=>cases rq;cases ry;simp only [PyData.eqv];exact⟨.tuple_bool _ pl hu0,.tuple_bool _ pl hu0,.tuple_bool _ pl hu0⟩
   |int k=>cases rq;obtain⟨t,rfl⟩:=ry;simp only [PyData.eqv];exact⟨.tuple_int _ _ pl hu0,.tuple_int _ _ pl hu0,.tuple_int _ _ pl hu0⟩
   |str k=>cases rq;obtain⟨t,rfl⟩:=ry;simp only [PyData.eqv];exact⟨.tuple_str _ _ pl hu0,.tuple_str _ _ pl hu0,.tuple_str _ _ pl hu0⟩
  |none=>
   cases q with
   |list qs=>
    obtain⟨b,ys,rfl,hs',r'⟩:=rq;cases ry;obtain⟨its2,rv',pl',hz'⟩:=I.list hs';cases rp;cases rx;simp only [PyData.eqv]
    exact⟨.none_list pl'.isList hu0,.none_list pl'.isList hu0,.none_list pl'.isList hu0⟩
   |tuple qs=>
    obtain⟨b,ys,rfl,hs',r'⟩:=rq;cases ry;obtain⟨its2,rv',pl',hz'⟩:=I.tuple hs'.sq;cases rp;cases rx;simp only [PyData.eqv]
    exact⟨.none_tuple pl' hu0,.none_tuple pl' hu0,.none_tuple pl' hu0⟩
   |dict _=>simp [j4] at hq
   |_=>exact ih A _ _ x y u w (by lia) (by simp [j4]) (by simp [j4]) rp rq rx ry
  |bool k=>
   cases q with
   |list qs=>
    obtain⟨b,ys,rfl,hs',r'⟩:=rq;cases ry;obtain⟨its2,rv',pl',hz'⟩:=I.list hs';cases rp;cases rx;simp only [PyData.eqv]
    exact⟨.bool_list _ pl'.isList hu0,.bool_list _ pl'.isList hu0,.bool_list _ pl'.isList hu0⟩
   |tuple qs=>
    obtain⟨b,ys,rfl,hs',r'⟩:=rq;cases ry;obtain⟨its2,rv',pl',hz'⟩:=I.tuple hs'.sq;cases rp;cases rx;simp only [PyData.eqv]
    exact⟨.bool_tuple _ pl' hu0,.bool_tuple _ pl' hu0,.bool_tuple _ pl' hu0⟩
   |dict _=>simp [j4] at hq
   |_=>exact ih A _ _ x y u w (by lia) (by simp [j4]) (by simp [j4]) rp rq rx ry
  |int k=>
   cases q with
   |list qs=>
    obtain⟨b,ys,rfl,hs',r'⟩:=rq;cases ry;obtain⟨its2,rv',pl',hz'⟩:=I.list hs';cases rp;obtain⟨t,rfl⟩:=rx;simp only [PyData.eqv]
    exact⟨.int_list _ _ pl'.isList hu0,.int_list _ _ pl'.isList hu0,.int_list _ _ pl'.isList hu0⟩
   |tuple qs=>
    obtain⟨b,ys,rfl,hs',r'⟩:=rq;cases ry;obtain⟨its2,rv',pl',hz'⟩:=I.tuple hs'.sq;cases rp;obtain⟨t,rfl⟩:=rx;simp only [PyData.eqv]
    exact⟨.int_tuple _ _ pl' hu0,.int_tuple _ _ pl' hu0,.int_tuple _ _ pl' hu0⟩
   |dict _=>simp [j4] at hq
   |_=>exact ih A _ _ x y u w (by lia) (by simp [j4]) (by simp [j4]) rp rq rx ry
  |str k=>
   cases q with
   |list qs=>
    obtain⟨b,ys,rfl,hs',r'⟩:=rq;cases ry;obtain⟨its2,rv',pl',hz'⟩:=I.list hs';cases rp;obtain⟨t,rfl⟩:=rx;simp only [PyData.eqv]
    exact⟨.str_list _ _ pl'.isList hu0,.str_list _ _ pl'.isList hu0,.str_list _ _ pl'.isList hu0⟩
   |tuple qs=>
    obtain⟨b,ys,rfl,hs',r'⟩:=rq;cases ry;obtain⟨its2,rv',pl',hz'⟩:=I.tuple hs'.sq;cases rp;obtain⟨t,rfl⟩:=rx;simp only [PyData.eqv]
    exact⟨.str_tuple _ _ pl' hu0,.str_tuple _ _ pl' hu0,.str_tuple _ _ pl' hu0⟩
   |dict _=>simp [j4] at hq
   |_=>exact ih A _ _ x y u w (by lia) (by simp [j4]) (by simp [j4]) rp rq rx ry
end
end PU
set_option maxHeartbeats 1000000
namespace PU
open PySem PySem.Spec PyProof.Rows L2
instance (i j:Int):Decidable (a2X i j):=by unfold a2X;infer_instance
instance (i j:Int):Decidable (a3p i j):=by unfold a3p;infer_instance
def e9.mine:e9->Option (List PV)
 | .ow (.lst ps)=>some ps
 | .bo (.lst ps)=>some ps
 |_=>none
theorem a7W{K:AE}{F H:Hp}{v:V}{r:e9}{ps:List PV}(h:K5 K F H v r)(e:r.mine=some ps):∃a xs,v= .ref a/\F a=none/\H a=some (.lst xs)/\i0 K F ps xs:=by
 cases r with
 |val _=>cases e
 |ow c=>cases c<;>cases e;exact h
 |bo c=>cases c<;>cases e;exact h
def K9(x y:e9):Option e9:=match x,y with
 | .val (.int i),.val (.int j)=>some (.val (.int (i+j)))
 | .val (.str i),.val (.str j)=>if i.length+j.length<=AN then some (.val (.str (i++j))) else none
 | .val (.tuple ps),.val (.tuple qs)=>if(ps.length≠0/\qs.length≠0)/\ps.length+qs.length<=AN then some (.val (.tuple (ps++qs))) else none
 |x,y=>match x.mine,y.mine with
  |some ps,some qs=>if ps.length+qs.length<=AN then some (.own (ps++qs)) else none
  |_,_=>none
section
variable {X:Cx}
theorem A3:OpM X (binaryOp .Add) K9:=by
 intro pins s σ H x y v u Q I rx ry h
 obtain⟨F,ra,rb,rz,s0,h1,h2,h3,k⟩:=h
 unfold K9 at h3
 split at h3
 ·cases h3
  cases h1;cases h2
  exact b7B pins s σ H _ _ v u Q I rx ry ⟨_,_,rfl,rfl,k _ F H (m9.here s0 rfl)⟩
 ·rename_i i j
  split at h3
  ·rename_i c
   cases h3
   cases h1;cases h2
   exact a9e pins s σ H _ _ v u Q I rx ry ⟨i,j,rfl,rfl,c,k _ F H (m9.here s0 rfl)⟩
  ·cases h3
 ·rename_i ps qs
  split at h3
  ·rename_i c
   cases h3
   obtain⟨a,xs,rfl,hq,r⟩:=h1
   obtain⟨b,ys,rfl,hq',r'⟩:=h2
   refine b5h pins s σ H _ _ v u Q I rx ry ⟨a,b,xs,ys,rfl,rfl,o9 s0 hq.sq,o9 s0 hq'.sq, ?_,by rw [r.length,r'.length];exact c.2, ?_⟩
   ·intro z
    subst z
    exact c.1.1 r.length.symm
   ·refine⟨fun z=> ?_,fun _ p hp=>k _ _ _ (m9.tup s0 hp (r.append r'))⟩
    subst z
    exact absurd r'.length.symm c.1.2
  ·cases h3
 ·split at h3
  ·rename_i ps qs e1 e2
   split at h3
   ·rename_i c
    cases h3
    obtain⟨a,xs,rfl,_,hq,r⟩:=a7W h1 e1
    obtain⟨b,ys,rfl,_,hq',r'⟩:=a7W h2 e2
    refine b7C pins s σ H _ _ v u Q I rx ry ⟨a,b,xs,ys,rfl,rfl,hq,hq',by rw [r.length,r'.length];exact c,fun p hp=> ?_⟩
    exact k _ _ _ (m9.lst s0 hp (r.append r'))
   ·cases h3
  ·cases h3
theorem a3j:OpM X (binaryOp .Sub) (gI fun i j=> .int (i - j)):=b6k b7G fun _ _ _=>rfl
theorem b5l:OpM X (binaryOp .Mult) (W8 a2X fun i j=> .int (i*j)):=a6S b7E fun _ _ _=>rfl
theorem u6:OpM X (binaryOp .Mod) (W8 (fun _ j=>0<j) fun i j=> .int (i % j)):=a6S b7D fun _ _ _=>rfl
theorem R5:OpM X (binaryOp .FloorDiv) (W8 a3p fun i j=> .int (i / j)):=a6S b5i fun _ _ _=>rfl
theorem b7H:OpM X (compareOp .Gt) (gI fun i j=> .bool (decide (j<i))):=b6k b86 fun _ _ _=>rfl
def gEq(x y:e9):Option e9:=if j4 x.rd 50=true/\j4 y.rd 50=true then some (.val (.bool (PyData.eqv x.rd y.rd))) else none
def gNe(x y:e9):Option e9:=if j4 x.rd 50=true/\j4 y.rd 50=true then some (.val (.bool (!PyData.eqv x.rd y.rd))) else none
theorem a4k(hu:X.A.units+64<cLine):OpM X (compareOp .Eq) gEq:=by
 intro pins s σ H x y v u Q I rx ry h
 obtain⟨F,ra,rb,rz,s0,h1,h2,h3,k⟩:=h
 unfold gEq at h3
 split at h3
 ·rename_i c
  cases h3
  have z:=a6q I 50 X.A _ _ x y v u (by lia) c.1 c.2 (h1.rd s0) (h2.rd s0) rx ry
  exact z.rc _ _ _ _ ⟨.bl _,H,I,rfl,k _ F H (m9.here s0 rfl)⟩
 ·cases h3
theorem a2c(hu:X.A.units+64<cLine):OpM X (compareOp .NotEq) gNe:=by
 intro pins s σ H x y v u Q I rx ry h
 obtain⟨F,ra,rb,rz,s0,h1,h2,h3,k⟩:=h
 unfold gNe at h3
 split at h3
 ·rename_i c
  cases h3
  have z:=a6q I 50 X.A _ _ x y v u (by lia) c.1 c.2 (h1.rd s0) (h2.rd s0) rx ry
  exact z.ne _ _ _ _ ⟨.bl _,H,I,rfl,k _ F H (m9.here s0 rfl)⟩
 ·cases h3
open Classical in
def a0e(K:AE)(H:Hp)(q:PV)(u:AA):Bool:=if h:∃p v,j6 v u/\z7 K H p v/\j4 p 50=true then PyData.eqv h.choose q else false
theorem a9R{pins:List (AB×Obj)}{σ:L2.St}{H:Hp}{s:AC}(I:g8 X pins σ H s){p q:PV}{v:V}{u:AA}(r:j6 v u)(h:z7 X.K H p v)(ok:j4 p 50=true):a0e X.K H q u=PyData.eqv p q:=by
 have hx:∃p v,j6 v u/\z7 X.K H p v/\j4 p 50=true:=⟨p,v,r,h,ok⟩
 unfold a0e
 rw [dif_pos hx]
 obtain⟨v',r',h',o'⟩:=hx.choose_spec
 cases r.inj r'
 rw [z7.inj I _ _ o' ok h' h]
theorem V9{pins:List (AB×Obj)}{σ:L2.St}{H:Hp}{s:AC}(I:g8 X pins σ H s){q:PV}:∀{ps:List PV} {xs:List V} {us:List AA},i0 X.K H ps xs->j3 xs us->o0 ps 50=true->us.any (a0e X.K H q)=ps.any fun p=>PyData.eqv p q
 |[],_,_,r,v,_=>by cases r;cases v;rfl
 |p::ps,_,_,⟨x,r,e,h,t⟩,v,ok=>by
  simp only [o0,Bool.and_eq_true] at ok
  subst e
  cases v with
  |cons a b=>rw [List.any_cons,List.any_cons,a9R I a h ok.1,V9 I t b ok.2]
theorem b0o{H:Hp}:∀{ps:List PV} {xs:List V} {us:List AA} {u:AA},i0 X.K H ps xs->j3 xs us->u∈us->∃p x,p∈ps/\j6 x u/\z7 X.K H p x
 |[],_,_,_,r,v,h=>by cases r;cases v;cases h
 |p::ps,_,_,u,⟨x,r,e,hp,t⟩,v,h=>by
  subst e
  cases v with
  |cons a b=>
   rcases Ab.mp h with rfl|h
   ·exact⟨p,x,Ad,a,hp⟩
   ·obtain⟨p',x',h1,h2,h3⟩:=b0o t b h
    exact⟨p',x',Af _ h1,h2,h3⟩
def PyData.items?:PV->Option (List PV)
 | .list ps=>some ps
 | .tuple ps=>some ps
 |_=>none
def gIn(neg:Bool)(x y:e9):Option e9:=match PyData.items? y.rd with
 |some ps=>if j4 x.rd 50=true/\o0 ps 50=true then some (.val (.bool (if neg then !(ps.any fun p=>PyData.eqv p x.rd) else ps.any fun p=>PyData.eqv p x.rd))) else none
 |none=>none
theorem a1d{pins:List (AB×Obj)}{σ:L2.St}{H:Hp}{s:AC}(I:g8 X pins σ H s)(hu:X.A.units+64<cLine){q:PV}{ps:List PV}{x:V}{xs:List V}{v:AA}{us:List AA}(hq:j4 q 50=true)(hp:o0 ps 50=true)
 (rq:z7 X.K H q x) (rx:j6 x v) (r:i0 X.K H ps xs) (rv:j3 xs us):∀y,y∈us.toArray->SeqAt.EqAt X.A.in1 s y v (a0e X.K H q y):=by
 intro y hy
 have hy':y∈us:=by simpa using hy
 obtain⟨p,z,h1,h2,h3⟩:=b0o r rv hy'
 rw [a9R I h2 h3 (n6 hp h1)]
 exact(a6q I 50 X.A.in1 p q z x y v (by rw [Z8];lia) (n6 hp h1) hq h3 rq h2 rx).eq
theorem v6{F H:Hp}{v:V}{r:e9}{ps:List PV}(s0:i9 F H)(h:K5 X.K F H v r)(e:PyData.items? r.rd=some ps):∃a xs,v= .ref a/\(Q4 X.K H a xs\/SqT X.K H a xs)/\i0 X.K F ps xs:=by
 cases r with
 |val p=>
  cases p with
  |list qs=>cases e;obtain⟨a,xs,rfl,hq,r⟩:=h;exact⟨a,xs,rfl,.inl (t8 s0 hq),r⟩
  |tuple qs=>cases e;obtain⟨a,xs,rfl,hq,r⟩:=h;exact⟨a,xs,rfl,.inr (o9 s0 hq.sq),r⟩
  |_=>cases e
 |ow c=>cases c<;>cases e;obtain⟨a,xs,rfl,_,hq,r⟩:=h;exact⟨a,xs,rfl,.inl (Q4.of hq),r⟩
 |bo c=>cases c<;>cases e;obtain⟨a,xs,rfl,_,hq,r⟩:=h;exact⟨a,xs,rfl,.inl (Q4.of hq),r⟩
theorem b7I(hu:X.A.units+64<cLine):OpM X (compareOp .In) (gIn false):=by
 intro pins s σ H x y v u Q I rx ry h
 obtain⟨F,ra,rb,rz,s0,h1,h2,h3,k⟩:=h
 unfold gIn at h3
 split at h3
 ·rename_i ps e
  split at h3
  ·rename_i c
   cases h3
   obtain⟨a,xs,rfl,hq,r⟩:=v6 s0 h2 e
   cases ry
   have rH:=i0.mono s0 _ r
   rcases hq with hq|hq
   ·obtain⟨its,rv,pl,hz⟩:=I.list hq
    refine SeqAt.in_listAt (a0e X.K H ra.rd) pl.isList (a1d I hu c.1 c.2 (h1.rd s0) rx rH rv) ⟨.bl _,H,I,rfl, ?_⟩
    rw [show its.toArray.any (a0e X.K H ra.rd)=its.any (a0e X.K H ra.rd) by simp,V9 I rH rv c.2]
    exact k _ F H (m9.here s0 rfl)
   ·obtain⟨its,rv,pl,hz⟩:=I.tuple hq
    refine SeqAt.in_tupleAt (a0e X.K H ra.rd) pl (a1d I hu c.1 c.2 (h1.rd s0) rx rH rv) ⟨.bl _,H,I,rfl, ?_⟩
    rw [show its.toArray.any (a0e X.K H ra.rd)=its.any (a0e X.K H ra.rd) by simp,V9 I rH rv c.2]
    exact k _ F H (m9.here s0 rfl)
  ·cases h3
 ·cases h3
theorem b1D(hu:X.A.units+64<cLine):OpM X (compareOp .NotIn) (gIn true):=by
 intro pins s σ H x y v u Q I rx ry h
 obtain⟨F,ra,rb,rz,s0,h1,h2,h3,k⟩:=h
 unfold gIn at h3
 split at h3
 ·rename_i ps e
  split at h3
  ·rename_i c
   cases h3
   obtain⟨a,xs,rfl,hq,r⟩:=v6 s0 h2 e
   cases ry
   have rH:=i0.mono s0 _ r
   rcases hq with hq|hq
   ·obtain⟨its,rv,pl,hz⟩:=I.list hq
    refine SeqAt.notIn_listAt (a0e X.K H ra.rd) pl.isList (a1d I hu c.1 c.2 (h1.rd s0) rx rH rv) ⟨.bl _,H,I,rfl, ?_⟩
    rw [show its.toArray.any (a0e X.K H ra.rd)=its.any (a0e X.K H ra.rd) by simp,V9 I rH rv c.2]
    exact k _ F H (m9.here s0 rfl)
   ·obtain⟨its,rv,pl,hz⟩:=I.tuple hq
    refine SeqAt.notIn_tupleAt (a0e X.K H ra.rd) pl (a1d I hu c.1 c.2 (h1.rd s0) rx rH rv) ⟨.bl _,H,I,rfl, ?_⟩
    rw [show its.toArray.any (a0e X.K H ra.rd)=its.any (a0e X.K H ra.rd) by simp,V9 I rH rv c.2]
    exact k _ F H (m9.here s0 rfl)
  ·cases h3
 ·cases h3
def b41(m:M):M:=fun ρ=>(m ρ).bind fun r=>match r with
 | .val (.int i)=>some (.val (.int (-i)))
 |_=>none
theorem b2p{a:AG}{ma:M}{pos:Pos}(ha:EE X a ma):EE X (.UnaryOp .USub a pos) (b41 ma):=
 t7 (b9e b8g ha) fun σ H Q h0=>p9 h0 fun F ρ r he hm k=>by
  obtain⟨rx,e1,hm⟩:=bind_some hm
  refine⟨F,ρ,rx,he,e1,fun v F1 H1 o1=> ?_⟩
  split at hm
  ·cases hm
   exact⟨_,o1.rep,k _ F1 H1 (m9.trans o1.x (m9.here o1.x.fh rfl))⟩
  ·cases hm
def J8(x y:e9):Option e9:=match y with
 | .val (.int i)=>(match x.rd with
   | .str z=>if z.length<=AN then(atI z.cps.toList i).map fun c=> .val (.str ⟨#[c]⟩) else none
   |p=>match PyData.items? p with
    |some ps=>(atI ps i).map .val
    |none=>none)
 |_=>none
theorem i0.atI{K:AE}{H:Hp}{ps:List PV}{xs:List V}{i:Int}{p:PV}(r:i0 K H ps xs)(e:L2.atI ps i=some p):∃v,L2.atI xs i=some v/\z7 K H p v:=by
 unfold L2.atI at e ⊢
 rw [r.length]
 obtain⟨j,e1,e2⟩:=bind_some e
 rw [e1]
 exact r.get e2
theorem ixm:IxR X (rM2 X.K J8):=by
 intro value slice pins s σ H x y v u Q I rx ry h hs
 obtain⟨F,ra,rb,rz,s0,h1,h2,h3,k⟩:=h
 unfold J8 at h3
 split at h3
 ·rename_i i
  cases h2
  split at h3
  ·rename_i z ez
   split at h3
   ·rename_i c
    have rr:=h1.rd s0
    rw [ez] at rr
    cases rr
    cases ea:L2.atI z.cps.toList i with
    |none=>rw [ea] at h3;cases h3
    |some ch=>
     rw [ea] at h3;cases h3
     exact b7b value slice pins s σ H _ _ v u Q I rx ry ⟨z,i,ch,rfl,rfl,c,ea,k _ F H (m9.here s0 rfl)⟩ hs
   ·cases h3
  ·split at h3
   ·rename_i ps e
    cases ea:L2.atI ps i with
    |none=>rw [ea] at h3;cases h3
    |some p=>
     rw [ea] at h3;cases h3
     obtain⟨a,xs,rfl,hq,r⟩:=v6 s0 h1 e
     obtain⟨z,ez,rp⟩:=r.atI ea
     rcases hq with hq|hq
     ·exact b4T value slice pins s σ H _ _ v u Q I rx ry ⟨a,xs,i,z,rfl,rfl,hq,ez,k _ F H (m9.here s0 rp)⟩ hs
     ·exact b7c value slice pins s σ H _ _ v u Q I rx ry ⟨a,xs,i,z,rfl,rfl,hq,ez,k _ F H (m9.here s0 rp)⟩ hs
   ·cases h3
 ·cases h3
theorem p8{a b:AG}{ma mb:M}{pos:Pos}(ha:EE X a ma)(hb:EE X b mb)(hs:a9y b:=by intro _ _;rfl):EE X (.Subscript a b pos) (m2 J8 ma mb):=
 t7 (b9b ixm ha hb hs) fun _ _ _ h=>a65 h
abbrev MA:=b9->Option (List PV)
def tMA(K:AE)(m:MA):TA:=fun σ H Q=>∃F ρ ps,C5 K F H σ ρ/\m ρ=some ps/\∀vs F' H',N7 F H F' H'->i0 K F' ps vs->Q vs H'
abbrev EA(X:Cx)(es:List AG)(m:MA):Prop:=PA X es (tMA X.K m)
def f8:MA:=fun _=>some []
def b0(m:M)(r:MA):MA:=fun ρ=>((m ρ).bind e9.toVal).bind fun p=>(r ρ).bind fun ps=>some (p::ps)
theorem d8:EA X [] f8:=b3x P7 fun σ H Q h0=>p9 h0 fun F ρ ps he hm k=>by
 cases hm
 exact k [] F H (N7.refl he.fh) rfl
theorem a9{e:AG}{es:List AG}{m:M}{r:MA}(ha:EE X e m)(hr:EA X es r)(hs:AQ (e::es) X.env=(false,eval e X.env)::AQ es X.env:=by rfl):EA X (e::es) (b0 m r):=
 b3x (A4 ha hr hs) fun σ H Q h0=>p9 h0 fun F ρ ps he hm k=>by
  obtain⟨p,e1,hm⟩:=bind_some hm
  obtain⟨r1,e1,e2⟩:=bind_some e1
  obtain⟨qs,e3,hm⟩:=bind_some hm
  cases hm
  refine⟨F,ρ,r1,he,e1,fun v F1 H1 o1=> ?_⟩
  obtain⟨F2,o2⟩:=o1.toVal e2
  exact⟨F2,ρ,qs,he.ext o2.x,e3,fun vs F3 H3 x3 rl=>k _ F3 H3 (o2.x.trans x3) ⟨v,vs,rfl,z7.mono x3.f _ o2.rep,rl⟩⟩
def N6(m:MA):M:=fun ρ=>(m ρ).bind fun ps=>if ps.length<=AN then some (.val (.tuple ps)) else none
def a0g(m:MA):M:=fun ρ=>(m ρ).bind fun ps=>if ps.length<=AN then some (.own ps) else none
theorem y0{es:List AG}{m:MA}{x1:Nat}{pos:Pos}(h:EA X es m):EE X (.Tuple es x1 pos) (N6 m):=
 t7 (b3C h) fun σ H Q h0=>p9 h0 fun F ρ r he hm k=>by
  obtain⟨ps,e1,hm⟩:=bind_some hm
  split at hm
  ·rename_i c
   cases hm
   exact⟨F,ρ,ps,he,e1,fun vs F1 H1 x rl=>⟨by rw [rl.length];exact c,fun p hp=>k _ _ _ (m9.trans x (m9.tup x.fh hp rl))⟩⟩
  ·cases hm
theorem E9{es:List AG}{m:MA}{pos:Pos}(h:EA X es m):EE X (.List es pos) (a0g m):=
 t7 (b7M h) fun σ H Q h0=>p9 h0 fun F ρ r he hm k=>by
  obtain⟨ps,e1,hm⟩:=bind_some hm
  split at hm
  ·rename_i c
   cases hm
   exact⟨F,ρ,ps,he,e1,fun vs F1 H1 x rl=>⟨by rw [rl.length];exact c,fun p hp=>k _ _ _ (m9.trans x (m9.lst x.fh hp rl))⟩⟩
  ·cases hm
def spP(K:AE)(n:Nat)(g:List PV->Option e9):Sp:=fun vs H Q _=>∃F ps r,i9 F H/\i0 K F ps vs/\ps.length=n/\g ps=some r/\∀v F' H',m9 K F H F' H' v r->Q v H'
def m7(g:List PV->Option e9)(m:MA):M:=fun ρ=>(m ρ).bind g
theorem b4x{k n:Nat}{f:AB}{fd:FuncData}{ps:List Str}{g:List PV->Option e9}{x:Str}{p pos:Pos}{e:AG}{es:List AG}{m:MA}
 (G:E4 X.prog X.w X.K X.mg X.base CX0 k f fd ps (spP X.K n g)) (hr:x6 k X.A) (hg:Gl X x) (hm:X.mg x=some (.ref f)) (hk:PySem.W.keepIn X.K (.ref f)=true) (hb:Q1 X.K fd ps []) (hn:∀ρ ps,m ρ=some ps->ps.length=n) (ha:EA X (e::es) m)
 (hdb:(x==("__debug__":Str))=false:=by decide) (he:AQ (e::es) X.env=(false,eval e X.env)::AQ es X.env:=by rfl) (hpl:(backTo pos (AQ es X.env)).any (·.1)=false:=by rfl):
 EE X (.Call (.Name x p) (e::es) [] pos) (m7 g m):=
 t7 (b0t G hr hg hm hk hb .nil b3y ha hdb he hpl) fun σ H Q h0=>p9 h0 fun F ρ r he hm k=>by
  obtain⟨qs,e1,hm⟩:=bind_some hm
  refine⟨F,ρ,qs,he,e1,fun vs F1 H1 x rl=> ?_⟩
  show spP X.K n g (vs++[]) H1 Q E0
  rw [Al]
  exact⟨F1,qs,r,x.fh,rl,hn _ _ e1,hm,fun v F2 H2 o=>k v F2 H2 (m9.trans x o)⟩
theorem i8:∀ρ ps,f8 ρ=some ps->ps.length=0:=fun _ _ h=>by cases h;rfl
theorem c7{m:M}{r:MA}{n:Nat}(h:∀ρ ps,r ρ=some ps->ps.length=n):∀ρ ps,b0 m r ρ=some ps->ps.length=n+1:=fun ρ ps e=>by
 obtain⟨p,e1,e⟩:=bind_some e
 obtain⟨qs,e3,e⟩:=bind_some e
 cases e
 rw [AT,h ρ qs e3]
end
mutual
def V3(K:AE):Nat->AA->Option PV
 |0,_=>none
 |_+1,.none=>some .none
 |_+1,.bool b=>some (.bool b)
 |_+1,.int i _=>some (.int i)
 |_+1,.str x _=>some (.str x)
 |n+1,.ref a=>match K.lookup a with
  |some ⟨.type "tuple",_,.seq its _,_⟩=>if its.size<=1000 then(a0U K n its.toList).map .tuple else none
  |some ⟨.type "list",none,.seq its _,_⟩=>if its.size<=1000 then(a0U K n its.toList).map .list else none
  |_=>none
 |_+1,_=>none
def a0U(K:AE):Nat->List AA->Option (List PV)
 |0,_=>none
 |_+1,[]=>some []
 |n+1,u::us=>(V3 K n u).bind fun p=>(a0U K n us).bind fun ps=>some (p::ps)
end
theorem a4C{n:Nat}(h:n<=1000):n<=AN:=BE (b1Q h)
theorem a7l(K:AE):∀(n:Nat),(∀(u:AA) (p:PV),V3 K n u=some p->∃v,j6 v u/\∀H,z7 K H p v)/\(∀(us:List AA) (ps:List PV),a0U K n us=some ps->∃vs,j3 vs us/\∀H,i0 K H ps vs):=by
 intro n
 induction n with
 |zero=>exact⟨fun u p h=>by simp [V3] at h,fun u p h=>by simp [a0U] at h⟩
 |succ n ih=>
  constructor
  ·intro u p h
   cases u with
   |none=>simp only [V3] at h;cases h;exact⟨.non,rfl,fun _=>rfl⟩
   |bool b=>simp only [V3] at h;cases h;exact⟨.bl b,rfl,fun _=>rfl⟩
   |int i t=>simp only [V3] at h;cases h;exact⟨.int i,⟨t,rfl⟩,fun _=>rfl⟩
   |str x t=>simp only [V3] at h;cases h;exact⟨.str x,⟨t,rfl⟩,fun _=>rfl⟩
   |ref a=>
    simp only [V3] at h
    split at h
    ·rename_i d its m sl e
     split at h
     ·rename_i c
      cases q:a0U K n its.toList with
      |none=>rw [q] at h;cases h
      |some ps=>
       rw [q] at h;cases h
       obtain⟨vs,h1,h2⟩:=ih.2 _ _ q
       exact⟨.ref a,rfl,fun H=>⟨a,vs,rfl,.inr ⟨_,its,m,e,rfl,rfl,a4C c,h1⟩,h2 H⟩⟩
     ·cases h
    ·rename_i its m sl e
     split at h
     ·rename_i c
      cases q:a0U K n its.toList with
      |none=>rw [q] at h;cases h
      |some ps=>
       rw [q] at h;cases h
       obtain⟨vs,h1,h2⟩:=ih.2 _ _ q
       exact⟨.ref a,rfl,fun H=>⟨a,vs,rfl,.inr ⟨_,its,m,e,rfl,rfl,rfl,a4C c,h1⟩,h2 H⟩⟩
     ·cases h
    ·cases h
   |_=>simp [V3] at h
  ·intro us ps h
   cases us with
   |nil=>simp only [a0U] at h;cases h;exact⟨[],.nil,fun _=>rfl⟩
   |cons u us=>
    simp only [a0U] at h
    obtain⟨p,e1,h⟩:=bind_some h
    obtain⟨qs,e2,h⟩:=bind_some h
    cases h
    obtain⟨v,r1,r2⟩:=ih.1 _ _ e1
    obtain⟨vs,r3,r4⟩:=ih.2 _ _ e2
    exact⟨v::vs,.cons r1 r3,fun H=>⟨v,vs,rfl,r2 H,r4 H⟩⟩
section
variable {X:Cx}
theorem a6n{x:Str}{u:AA}{p:PV}{pos:Pos}{n:Nat}(hg:Gl X x)(hm:X.mg x=some u)(ha:V3 X.K n u=some p)(hd:(x==("__debug__":Str))=false:=by decide):EE X (.Name x pos) (mC p):=by
 obtain⟨v,r,h⟩:=(a7l X.K n).1 u p ha
 exact W7 (b0u hg hm r hd) h
def a7L:PV->Option g9
 | .int i=>some (.inl i)
 | .str x=>some (.inr x)
 |_=>none
theorem a5w{K:AE}{H:Hp}{p:PV}{k:g9}{v:V}(e:a7L p=some k)(r:z7 K H p v):v=kV k:=by
 cases p with
 |int i=>cases e;cases r;rfl
 |str x=>cases e;cases r;rfl
 |_=>cases e
def a2y:List DictEntry->Option (List (g9×AA))
 |[]=>some []
 |e::es=>match e.key with
  | .int i _=>(a2y es).map fun r=>(.inl i,e.val)::r
  | .str x _=>(a2y es).map fun r=>(.inr x,e.val)::r
  |_=>none
theorem O1{P:AJ}{w:AH}:∀{es:List DictEntry} {kvs:List (g9×AA)},a2y es=some kvs->es.map (·.hash)=kvs.map (fun kv=>b1f w kv.1)->Pairs (l8 P w) es kvs/\∀e∈es,∃k,(l8 P w).is k e.key=true/\e.hash=(l8 P w).hash k
 |[],_,h,_=>by cases h;exact⟨.nil,fun _ h=>nomatch h⟩
 |e::es,kvs,h,hh=>by
  simp only [a2y] at h
  split at h
  ·rename_i i t ek
   cases q:a2y es with
   |none=>rw [q] at h;cases h
   |some r=>
    rw [q] at h;cases h
    simp only [AR,List.cons.injEq] at hh
    obtain⟨h1,h2⟩:=O1 q hh.2
    have hi:(l8 P w).is (.inl i) e.key=true:=by rw [ek];exact a2M P w i t
    exact⟨.cons hi rfl h1,fun e' he=>(Ab.mp he).elim (fun z=>by subst z;exact⟨_,hi,hh.1⟩) (h2 e')⟩
  ·rename_i x t ek
   cases q:a2y es with
   |none=>rw [q] at h;cases h
   |some r=>
    rw [q] at h;cases h
    simp only [AR,List.cons.injEq] at hh
    obtain⟨h1,h2⟩:=O1 q hh.2
    have hi:(l8 P w).is (.inr x) e.key=true:=by rw [ek];exact a2N P w x t
    exact⟨.cons hi rfl h1,fun e' he=>(Ab.mp he).elim (fun z=>by subst z;exact⟨_,hi,hh.1⟩) (h2 e')⟩
  ·cases h
def S3{κ:Type}(K:AE)(n:Nat):List (κ×AA)->Option (List (κ×PV))
 |[]=>some []
 |(k,u)::r=>(V3 K n u).bind fun p=>(S3 K n r).bind fun t=>some ((k,p)::t)
def K3{κ:Type}[DecidableEq κ](tbl:List (κ×PV))(k:κ):Option PV:=match tbl with
 |[]=>none
 |(k',p)::r=>if k'=k then some p else K3 r k
theorem a5B{K:AE}{n:Nat}{k:g9}:∀{kvs:List (g9×AA)} {tbl:List (g9×PV)} {p:PV},S3 K n kvs=some tbl->K3 tbl k=some p->∃u,valueAt kvs k=some u/\V3 K n u=some p
 |[],_,_,h,e=>by cases h;cases e
 |(k',u)::r,tbl,p,h,e=>by
  simp only [S3] at h
  obtain⟨q,e1,h⟩:=bind_some h
  obtain⟨t,e2,h⟩:=bind_some h
  cases h
  simp only [K3] at e
  split at e
  ·rename_i c;cases e
   exact⟨u,by simp [valueAt,List.find?_cons,c],e1⟩
  ·rename_i c
   obtain⟨u',h1,h2⟩:=a5B e2 e
   refine⟨u', ?_,h2⟩
   simpa [valueAt,List.find?_cons,c] using h1
structure Tab(P:AJ)(w:AH)(K:AE)(a:AB)(tbl:List (g9×PV)):Prop where
 ex:∃es ep kvs n,K.lookup a=some ⟨.type "dict",none,.dict es ep, #[]⟩/\a2y es.toList=some kvs/\es.toList.map (·.hash)=kvs.map (fun kv=>b1f w kv.1)/\S3 K n kvs=some tbl/\(kvs.map (·.1)).Nodup
def b7t(tbl:List (g9×PV))(m:M):M:=fun ρ=>(m ρ).bind fun r=>(a7L r.rd).bind fun k=>(K3 tbl k).map .val
theorem b6R{x:Str}{a:AB}{tbl:List (g9×PV)}{i:AG}{m:M}{p pos:Pos}(T:Tab X.prog X.w X.K a tbl)(hg:Gl X x)(hm:X.mg x=some (.ref a))(hi:EE X i m)(hd:(x==("__debug__":Str))=false:=by decide)(hs:b4n i:=by intro _ _;rfl):
 EE X (.Subscript (.Name x p) i pos) (b7t tbl m):=by
 intro pins s σ H Q I ⟨F,ρ,r,he,hm',k⟩
 obtain⟨es,ep,kvs,n,l1,l2,l3,l4,l5⟩:=T.ex
 obtain⟨ri,e1,hm'⟩:=bind_some hm'
 obtain⟨ky,e2,hm'⟩:=bind_some hm'
 cases e3:K3 tbl ky with
 |none=>rw [e3] at hm';cases hm'
 |some q=>
  rw [e3] at hm';cases hm'
  obtain⟨u,h1,h2⟩:=a5B l4 e3
  obtain⟨vv,r1,r2⟩:=(a7l X.K n).1 u q h2
  refine b0B PySem.F.slot_dict_getitem.lookup hs (Z9 I hg hm ?_ hd)
  refine A6 (hi pins s σ H (fun y H2=>∃F2,N7 F H F2 H2/\y=kV ky) I ⟨F,ρ,ri,he,e1,fun v F1 H1 o1=>⟨F1,o1.x,a5w e2 (o1.rep.rd o1.x.fh)⟩⟩) fun iv s2 ⟨y,H2,I2,ry,F2,x2,ey⟩=> ?_
  subst ey
  have dd:s2.heap.DictOf (l8 X.prog X.w) a kvs:=⟨_,es,ep,I2.kIn a _ l1,⟨rfl,rfl,rfl⟩,rfl,fun e he=>(O1 l2 l3).2 e (by simpa using he),(O1 l2 l3).1,l5⟩
  exact⟨dd.typeIs,wpAny_getItem_of (a7K ry) dd.mapOf h1 ⟨vv,H2,I2.tok _,r1,k vv F2 H2 (m9.val x2 (r2 F2))⟩⟩
def keysOf:List PV->Option (List g9)
 |[]=>some []
 |p::ps=>(a7L p).bind fun k=>(keysOf ps).bind fun ks=>some (k::ks)
theorem T2{K:AE}{H:Hp}:∀{ps:List PV} {ks:List g9} {vs:List V},keysOf ps=some ks->i0 K H ps vs->vs=ks.map kV
 |[],_,_,h,r=>by cases h;cases r;rfl
 |p::ps,_,_,h,⟨v,t,e,rp,rl⟩=>by
  obtain⟨k,e1,h⟩:=bind_some h
  obtain⟨ks,e2,h⟩:=bind_some h
  cases h
  subst e
  rw [a5w e1 rp,T2 e2 rl]
  rfl
end
section
variable {X:Cx}
abbrev MT:=b9->Option Bool
def tMT(K:AE)(c:MT):TT:=fun σ H Q=>∃F ρ b,C5 K F H σ ρ/\c ρ=some b/\∀F' H',N7 F H F' H'->Q b H'
abbrev ET(X:Cx)(e:AG)(c:MT):Prop:=PT X e (tMT X.K c)
abbrev EW(X:Cx)(e:AG)(c:MT):Prop:=PW X e (tMT X.K c)
def a9i:e9->Option Bool
 | .val (.bool b)=>some b
 |_=>none
def tru(r:e9):Option Bool:=match r.rd with
 | .none=>some false
 | .bool b=>some b
 | .int i=>some (i !=0)
 | .str z=>if z.length<=AN then some ((z.length:Int) !=0) else none
 | .list ps=>some (!ps.isEmpty)
 | .tuple ps=>some (!ps.isEmpty)
 | .dict _=>none
def mtV(m:M):MT:=fun ρ=>(m ρ).bind tru
def mtB(m:M):MT:=fun ρ=>(m ρ).bind a9i
theorem i0.empty{K:AE}{H:Hp}{ps:List PV}{vs:List V}(r:i0 K H ps vs):vs.isEmpty=ps.isEmpty:=by
 cases ps with
 |nil=>cases r;rfl
 |cons p ps=>obtain⟨_,_,e,_⟩:=r;subst e;rfl
theorem b5T{H:Hp}{r:e9}{v:V}{b:Bool}(h:z7 X.K H r.rd v)(e:tru r=some b):b6B X.K v H b:=by
 unfold tru at e
 cases hp:r.rd with
 |none=>rw [hp] at h e;cases h;cases e;exact rfl
 |bool k=>rw [hp] at h e;cases h;cases e;exact rfl
 |int i=>rw [hp] at h e;cases h;cases e;exact rfl
 |str z=>
  rw [hp] at h e;cases h
  dsimp only at e
  split at e
  ·rename_i c;cases e;exact⟨c,rfl⟩
  ·cases e
 |list ps=>rw [hp] at h e;obtain⟨a,xs,rfl,hq,rl⟩:=h;cases e;exact .inl ⟨xs,hq,by rw [rl.empty]⟩
 |tuple ps=>rw [hp] at h e;obtain⟨a,xs,rfl,hq,rl⟩:=h;cases e;exact .inr (.inl ⟨xs,hq.sq,by rw [rl.empty]⟩)
 |dict _=>rw [hp] at e;cases e
theorem b2w{e:AG}{m:M}(h:EE X e m)(he:∀whole,isTrue e X.env whole=(do let v<-whole;standAt e.pos;holding [v] (truthy v)):=by intro _;rfl):ET X e (mtV m):=
 a6X (b3J h he) fun σ H Q h0=>p9 h0 fun F ρ b h1 h2 k=>by
  obtain⟨r,e1,e2⟩:=bind_some h2
  exact⟨F,ρ,r,h1,e1,fun v F1 H1 o=>⟨b,b5T (o.rep.rd o.x.fh) e2,k F1 H1 o.x⟩⟩
theorem a4r{K:AE}{F H:Hp}{r:e9}{v:V}{b:Bool}(h:K5 K F H v r)(e:a9i r=some b):v= .bl b:=by
 unfold a9i at e
 split at e
 ·cases e;exact h
 ·cases e
theorem B5{a b:AG}{ma mb:M}{pos:Pos}{op:CmpOp}{g:e9->e9->Option e9}(ho:OpM X (compareOp op) g)(ha:EE X a ma)(hb:EE X b mb)(hm:behindInMarks op b=false):ET X (.Compare a [op] [b] pos) (mtB (m2 g ma mb)):=
 a6X (b5y ho ha hb hm) fun σ H Q h0=>p9 h0 fun F ρ k h1 h2 q=>by
  obtain⟨r,e1,e2⟩:=bind_some h2
  exact a65 ⟨F,ρ,r,h1,e1,fun v F1 H1 o=>⟨k,a4r o.rep e2,q F1 H1 o.x⟩⟩
def a4a(c:MT):MT:=fun ρ=>(c ρ).map not
theorem b2v{a:AG}{c:MT}{pos:Pos}(ha:ET X a c):ET X (.UnaryOp .Not a pos) (a4a c):=
 a6X (b7W ha) fun σ H Q h0=>p9 h0 fun F ρ k h1 h2 q=>by
  unfold a4a at h2
  cases e:c ρ with
  |none=>rw [e] at h2;cases h2
  |some b=>rw [e] at h2;cases h2;exact⟨F,ρ,b,h1,e,q⟩
def a86(c d:MT):MT:=fun ρ=>(c ρ).bind fun b=>if b=true then some true else d ρ
theorem b2y{a:AG}{c:MT}{pos:Pos}(ha:ET X a c):EW X (.BoolOp .Or [a] pos) c:=b7Y ha
theorem b2x{a b:AG}{rest:List AG}{c d:MT}{pos:Pos}(ha:ET X a c)(hb:EW X (.BoolOp .Or (b::rest) pos) d):EW X (.BoolOp .Or (a::b::rest) pos) (a86 c d):=
 b7X (b9g ha hb) fun σ H Q h0=>p9 h0 fun F ρ k h1 h2 q=>by
  obtain⟨b,e1,e2⟩:=bind_some h2
  refine⟨F,ρ,b,h1,e1,fun F1 H1 x=> ?_⟩
  cases b with
  |false=>exact b1c ⟨F1,ρ,k,h1.ext x,e2,fun F2 H2 y=>q F2 H2 (x.trans y)⟩
  |true=>cases e2;exact b1d (q F1 H1 x)
def mOr(m n:M):M:=fun ρ=>(m ρ).bind fun r=>(a9i r).bind fun b=>if b=true then some (.val (.bool true)) else n ρ
theorem b6Q{op:BoolOp}{a:AG}{m:M}{pos:Pos}(h:EE X a m):EE X (.BoolOp op [a] pos) m:=b7N h
theorem b8M{a b:AG}{rest:List AG}{m n:M}{pos:Pos}(ha:EE X a m)(hb:EE X (.BoolOp .Or (b::rest) pos) n):EE X (.BoolOp .Or (a::b::rest) pos) (mOr m n):=
 t7 (b9d ha hb) fun σ H Q h0=>p9 h0 fun F ρ r h1 h2 q=>by
  obtain⟨r1,e1,h2⟩:=bind_some h2
  obtain⟨b,e2,h2⟩:=bind_some h2
  refine⟨F,ρ,r1,h1,e1,fun v F1 H1 o=>⟨b,a4r o.rep e2, ?_⟩⟩
  cases b with
  |false=>exact b1c ⟨F1,ρ,r,h1.ext o.x,h2,fun w F2 H2 y=>q w F2 H2 (m9.trans o.x y)⟩
  |true=>cases h2;exact b1d (q _ F1 H1 (m9.val o.x rfl))
end
inductive Fl where
 |nx (ρ:b9)|rt (r:e9)|bk (ρ:b9)|ct (ρ:b9)
abbrev MS:=b9->Option Fl
structure V2(K:AE)(F0 H0 F H:Hp)(σ:L2.St)(ρ:b9):Prop where
 x:N7 F0 H0 F H
 e:C5 K F H σ ρ
 nw:∀(i:Nat) (c:S1) (a:AB),ρ[i]?=some (some (.ow c))->σ[i]?=some (some (.ref a))->H0 a=none
def Fin(K:AE)(F0 H0 F:Hp)(D:Q3):Fl->Prop
 | .nx ρ=>∀σ' F' H',i9 F F'->V2 K F0 H0 F' H' σ' ρ->D.nx σ' H'
 | .rt r=>∀v F' H',m9 K F0 H0 F' H' v r->D.rt v H'
 | .bk ρ=>∀σ' F' H',i9 F F'->V2 K F0 H0 F' H' σ' ρ->D.bk σ' H'
 | .ct ρ=>∀σ' F' H',i9 F F'->V2 K F0 H0 F' H' σ' ρ->D.ct σ' H'
theorem Fin.later{K:AE}{F0 H0 F F1:Hp}{D:Q3}(s:i9 F F1):∀{fl:Fl},Fin K F0 H0 F D fl->Fin K F0 H0 F1 D fl
 | .nx _,h=>fun σ' F' H' s' so=>h σ' F' H' (s.trans s') so
 | .rt _,h=>h
 | .bk _,h=>fun σ' F' H' s' so=>h σ' F' H' (s.trans s') so
 | .ct _,h=>fun σ' F' H' s' so=>h σ' F' H' (s.trans s') so
def tMS(K:AE)(m:MS):TS:=fun D σ H=>∃F0 H0 F ρ fl,V2 K F0 H0 F H σ ρ/\m ρ=some fl/\Fin K F0 H0 F D fl
theorem z6{K:AE}{m:MS}{D:Q3}{σ:L2.St}{H:Hp}{C:Prop}(h:tMS K m D σ H)(k:∀F0 H0 F ρ fl,V2 K F0 H0 F H σ ρ->m ρ=some fl->Fin K F0 H0 F D fl->C):C:=
 h.elim fun a h=>h.elim fun b h=>p9 h (k a b)
abbrev ES(X:Cx)(st:Stmt)(m:MS):Prop:=PS X st (tMS X.K m)
abbrev ESs(X:Cx)(st:List Stmt)(m:MS):Prop:=PSs X st (tMS X.K m)
theorem V2.ext{K:AE}{F0 H0 F H F' H':Hp}{σ:L2.St}{ρ:b9}(s:V2 K F0 H0 F H σ ρ)(x:N7 F H F' H'):V2 K F0 H0 F' H' σ ρ:=⟨s.x.trans x,s.e.ext x,s.nw⟩
def e9.nb:e9->Bool
 | .bo _=>false
 |_=>true
theorem V2.set{K:AE}{F0 H0 F H F' H':Hp}{σ:L2.St}{ρ:b9}{v:V}{r:e9}(s:V2 K F0 H0 F H σ ρ)(o:m9 K F H F' H' v r)(hb:r.nb=true)(i:Nat):V2 K F0 H0 F' H' (σ.set i (some v)) (ρ.set i (some r)):=by
 have s1:=s.ext o.x
 have le:=s.e.len
 refine⟨s1.x,⟨s1.e.fh,by simp [le],fun j q e=> ?_,fun j ps e=> ?_,fun j k ps qs a hjk e1 e2 e3 e4=> ?_⟩,fun j ps a e1 e2=> ?_⟩
 ·rw [List.getElem?_set] at e ⊢
  by_cases hij:i=j
  ·subst hij
   rw [if_pos rfl] at e ⊢
   rw [le]
   split at e
   ·rename_i c;cases e;rw [if_pos c];exact⟨v,rfl,o.rep⟩
   ·cases e
  ·rw [if_neg hij] at e ⊢
   exact s1.e.at_ j q e
 ·rw [List.getElem?_set] at e
  by_cases hij:i=j
  ·subst hij
   rw [if_pos rfl] at e
   split at e
   ·cases e;cases hb
   ·cases e
  ·rw [if_neg hij] at e
   exact s1.e.nb j ps e
 ·rw [List.getElem?_set] at e1 e2 e3 e4
  by_cases hij:i=j
  ·subst hij
   rw [if_pos rfl] at e1 e3
   rw [if_neg hjk] at e2 e4
   split at e1
   ·cases e1
    split at e3
    ·cases e3
     have fr:=o.fr ps a rfl rfl
     obtain⟨w,h1,rr⟩:=s.e.at_ k _ e2
     obtain⟨a',xs,h2,_,h3⟩:=V7.at_ rr
     rw [e4] at h1;cases h1
     cases h2
     rw [fr] at h3;cases h3
    ·cases e3
   ·cases e1
  ·rw [if_neg hij] at e1 e3
   by_cases hik:i=k
   ·subst hik
    rw [if_pos rfl] at e2 e4
    split at e2
    ·cases e2
     split at e4
     ·cases e4
      have fr:=o.fr qs a rfl rfl
      obtain⟨w,h1,rr⟩:=s.e.at_ j _ e1
      obtain⟨a',xs,h2,_,h3⟩:=V7.at_ rr
      rw [e3] at h1;cases h1
      cases h2
      rw [fr] at h3;cases h3
     ·cases e4
    ·cases e2
   ·rw [if_neg hik] at e2 e4
    exact s1.e.ap j k ps qs a hjk e1 e2 e3 e4
 ·rw [List.getElem?_set] at e1 e2
  by_cases hij:i=j
  ·subst hij
   rw [if_pos rfl] at e1 e2
   split at e1
   ·cases e1
    split at e2
    ·cases e2;exact s.x.h.free (o.fr ps a rfl rfl)
    ·cases e2
   ·cases e1
  ·rw [if_neg hij] at e1 e2
   exact s.nw j ps a e1 e2
section
variable {X:Cx}
def J5:MS:=fun ρ=>some (.nx ρ)
def l6(m n:MS):MS:=fun ρ=>(m ρ).bind fun fl=>match fl with
 | .nx ρ'=>n ρ'
 |f=>some f
theorem C9:ESs X [] J5:=a3k b0w fun D σ H h0=>z6 h0 fun F0 H0 F ρ fl so e fin=>by
 cases e
 exact fin σ F H (PU.i9.refl F) so
theorem f7{st:Stmt}{rest:List Stmt}{m n:MS}(h1:ES X st m)(h2:ESs X rest n):ESs X (st::rest) (l6 m n):=
 a3k (a1l h1 h2) fun D σ H h0=>z6 h0 fun F0 H0 F ρ fl so e fin=>by
  obtain⟨f1,e1,e⟩:=bind_some e
  cases f1 with
  |nx ρ'=>exact⟨F0,H0,F,ρ,.nx ρ',so,e1,fun σ' F' H' s so'=>⟨F0,H0,F',ρ',fl,so',e,fin.later s⟩⟩
  |rt r=>cases e;exact⟨F0,H0,F,ρ,_,so,e1,fin⟩
  |bk r=>cases e;exact⟨F0,H0,F,ρ,_,so,e1,fin⟩
  |ct r=>cases e;exact⟨F0,H0,F,ρ,_,so,e1,fin⟩
theorem g6{st:Stmt}{m:MS}(h1:ES X st m):ESs X [st] m:=b0x h1
def r6(i:Nat)(m:M):MS:=fun ρ=>(m ρ).bind fun r=>if r.nb=true then some (.nx (ρ.set i (some r))) else none
theorem j5{i:Nat}{x:Str}{e:AG}{m:M}{pos pos':Pos}(hN:X.N.Nodup)(he:EE X e m)(hi:X.N[i]?=some x:=by rfl)(hx:Loc X.env.scope x:=by exact Or.inl rfl)(hs:swapsWith e (some (.Name x pos')) pos.line X.env=pure false:=by rfl)(hf:X.fn x=true\/X.env.scope.names.lookup x=some .local:=by first|exact .inl rfl|exact .inr rfl|assumption):
 ES X (.Assign [.Name x pos'] e pos) (r6 i m):=
 u7 (b7U hN hi hx he hs hf) fun D σ H h0=>z6 h0 fun F0 H0 F ρ fl so e fin=>by
  obtain⟨r,e1,e⟩:=bind_some e
  split at e
  ·rename_i c
   cases e
   exact⟨F,ρ,r,so.e,e1,fun v F' H' o=>fin _ F' H' o.x.f (so.set o c i)⟩
  ·cases e
def N1(m:M):MS:=fun ρ=>(m ρ).bind fun r=>if r.nb=true then some (.rt r) else none
theorem r9{e:AG}{m:M}{pos:Pos}(he:EE X e m):ES X (.Return (some e) pos) (N1 m):=
 u7 (b3G he) fun D σ H h0=>z6 h0 fun F0 H0 F ρ fl so e fin=>by
  obtain⟨r,e1,e⟩:=bind_some e
  split at e
  ·rename_i c
   cases e
   exact⟨F,ρ,r,so.e,e1,fun v F' H' o=>fin v F' H' (m9.trans so.x o)⟩
  ·cases e
def O4(i:Nat):MS:=fun ρ=>match ρ[i]? with
 |some (some r)=>some (.rt r)
 |_=>none
theorem K8(i:Nat){x:Str}{p pos:Pos}(h:PE X (.Name x p) (a2j i)):ES X (.Return (some (.Name x p)) pos) (O4 i):=
 u7 (b3G h) fun D σ H h0=>z6 h0 fun F0 H0 F ρ fl so e fin=>by
  unfold O4 at e
  split at e
  ·rename_i r er
   cases e
   obtain⟨v,e1,rr⟩:=so.e.at_ i _ er
   exact⟨v,e1,fin v F H ⟨so.x,rr,fun ps a z1 z2=>by subst z1;subst z2;exact so.nw i ps a er e1⟩⟩
  ·cases e
def a0G(c:MT)(m n:MS):MS:=fun ρ=>(c ρ).bind fun b=>if b=true then m ρ else n ρ
theorem Q6{c:AG}{a b:List Stmt}{mc:MT}{m n:MS}{pos:Pos}(hc:ET X c mc)(ha:ESs X a m)(hb:ESs X b n):ES X (.If c a b pos) (a0G mc m n):=
 u7 (b6o hc ha hb) fun D σ H h0=>z6 h0 fun F0 H0 F ρ fl so e fin=>by
  obtain⟨b,e1,e⟩:=bind_some e
  refine⟨F,ρ,b,so.e,e1,fun F1 H1 x=> ?_⟩
  cases b with
  |true=>exact b1d ⟨F0,H0,F1,ρ,fl,so.ext x,e,fin.later x.f⟩
  |false=>exact b1c ⟨F0,H0,F1,ρ,fl,so.ext x,e,fin.later x.f⟩
def setAll{α:Type}:List (Option α)->List Nat->List α->List (Option α)
 |σ,i::is,x::xs=>setAll (σ.set i (some x)) is xs
 |σ,_,_=>σ
def a8U:List Nat->TGs
 |[]=>b8Q
 |i::is=>b6a (a7F i) (a8U is)
theorem a5u:∀{is:List Nat} {xs:List V} {σ:L2.St} {H:Hp} {Q:L2.St->Hp->Prop},xs.length=is.length->Q (setAll σ is xs) H->a8U is xs σ H Q
 |[],[],_,_,_,_,q=>⟨rfl,q⟩
 |[],_::_,_,_,_,h,_=>by cases h
 |_::_,[],_,_,_,h,_=>by cases h
 |i::is,x::xs,σ,H,Q,h,q=>⟨x,xs,rfl,a5u (is:=is) (xs:=xs) (by simpa using h) q⟩
theorem V2.setAll{K:AE}{F0 H0 F H:Hp}:∀{is:List Nat} {xs:List V} {ps:List PV} {σ:L2.St} {ρ:b9},V2 K F0 H0 F H σ ρ->i0 K F ps xs->V2 K F0 H0 F H (PU.setAll σ is xs) (PU.setAll ρ is (ps.map .val))
 |[],xs,ps,σ,ρ,s,r=>by
  have e1:PU.setAll σ [] xs=σ:=by cases xs<;>rfl
  have e2:PU.setAll ρ [] (ps.map e9.val)=ρ:=by cases ps<;>rfl
  rw [e1,e2];exact s
 |i::is,xs,[],σ,ρ,s,r=>by cases r;exact s
 |i::is,xs,p::ps,σ,ρ,s,⟨v,t,e,rp,rl⟩=>by
  subst e
  exact V2.setAll (is:=is) (s.set (m9.here s.e.fh rp) rfl i) rl
def b43(is:List Nat)(m:M):MS:=fun ρ=>(m ρ).bind fun r=>match r with
 | .val (.tuple ps)=>if ps.length=is.length then some (.nx (setAll ρ is (ps.map .val))) else none
 |_=>none
theorem b2t{is:List Nat}{es:List AG}{k:Nat}{e:AG}{m:M}{pos tpos:Pos}(hc:X.calm=true)(he:EE X e m)(hg:PGs X es (a8U is))
 (hn:(assignEach es X.env).length=is.length:=by rfl) (hst:(assignEach es X.env).findIdx? (·.1)=none:=by rfl)
 (hs:swapsWithSole [.Tuple es k tpos] e pos.line X.env=pure false:=by rfl) (hw:swappedStores [.Tuple es k tpos] e X.env=pure none:=by rfl)
 (h1:(assignEach [.Tuple es k tpos] X.env).map (·.2)=[assign (.Tuple es k tpos) X.env]:=by rfl):ES X (.Assign [.Tuple es k tpos] e pos) (b43 is m):=
 u7 (b7R he (b7Q hc hg hn hst) hs hw h1) fun D σ H h0=>z6 h0 fun F0 H0 F ρ fl so e fin=>by
  obtain⟨r,e1,e⟩:=bind_some e
  split at e
  ·rename_i ps
   split at e
   ·rename_i c
    cases e
    refine⟨F,ρ,_,so.e,e1,fun v F' H' o=> ?_⟩
    obtain⟨a,xs,rfl,hq,rl⟩:=o.rep
    have hl:xs.length=is.length:=by rw [rl.length];exact c
    exact⟨a,xs,rfl,o9 o.x.fh hq.sq,hl,a5u hl (fin _ F' H' o.x.f ((so.ext o.x).setAll rl))⟩
   ·cases e
  ·cases e
def B6(body:MS)(tg:PV->b9->Option b9):List PV->b9->Option Fl
 |[],ρ=>some (.nx ρ)
 |p::ps,ρ=>(tg p ρ).bind fun ρ1=>(body ρ1).bind fun fl=>match fl with
  | .nx ρ'=>B6 body tg ps ρ'
  | .ct ρ'=>B6 body tg ps ρ'
  | .bk ρ'=>some (.nx ρ')
  | .rt r=>some (.rt r)
def g0(i:Nat):PV->b9->Option b9:=fun p ρ=>some (ρ.set i (some (.val p)))
def b0N(K:AE)(g:TG)(tg:PV->b9->Option b9):Prop:=
 ∀F0 H0 F H σ ρ ρ1 p x (Q:L2.St->Hp->Prop),V2 K F0 H0 F H σ ρ->z7 K F p x->tg p ρ=some ρ1->(∀σ',V2 K F0 H0 F H σ' ρ1->Q σ' H)->g x σ H Q
theorem j9{K:AE}(i:Nat):b0N K (a7F i) (g0 i):=fun F0 H0 F H σ ρ ρ1 p x Q so r e k=>by
 cases e
 exact k _ (so.set (m9.here so.e.fh r) rfl i)
theorem b04{body:MS}{tg:PV->b9->Option b9}{ps:List PV}{p:PV}{ρ:b9}{fl:Fl}(h:B6 body tg (p::ps) ρ=some fl):∃ρ1 f1,tg p ρ=some ρ1/\body ρ1=some f1/\(match f1 with
 | .nx ρ'=>B6 body tg ps ρ'
 | .ct ρ'=>B6 body tg ps ρ'
 | .bk ρ'=>some (.nx ρ')
 | .rt r=>some (.rt r))=some fl:=by
 unfold B6 at h
 obtain⟨ρ1,e1,h⟩:=bind_some h
 obtain⟨f1,e2,h⟩:=bind_some h
 exact⟨ρ1,f1,e1,e2,h⟩
def PvL(K:AE)(F0 H0 F1:Hp)(body:MS)(tg:PV->b9->Option b9)(ps:List PV)(fl:Fl)(k:Nat)(σ:L2.St)(H:Hp):Prop:=
 ∃F ρ,i9 F1 F/\V2 K F0 H0 F H σ ρ/\B6 body tg (ps.drop k) ρ=some fl
theorem R3{K:AE}{F0 H0 F1:Hp}{body:MS}{tg:PV->b9->Option b9}{g:TG}{ps:List PV}{fl:Fl}{D:Q3}{k:Nat}{p:PV}{x:V}{σ:L2.St}{H:Hp}(T:b0N K g tg)(fin:Fin K F0 H0 F1 D fl)(ep:ps[k]?=some p)
 (hp:PvL K F0 H0 F1 body tg ps fl k σ H) (rx:∀F,i9 F1 F->z7 K F p x):
 g x σ H fun σ2 H2=>tMS K body {D with nx:=PvL K F0 H0 F1 body tg ps fl (k+1),ct:=PvL K F0 H0 F1 body tg ps fl (k+1),bk:=D.nx} σ2 H2:=by
 obtain⟨F,ρ,s,so,e⟩:=hp
 have hk:k<ps.length:=(Av.mp ep).1
 have hd:ps.drop k=p::ps.drop (k+1):=by
  rw [List.drop_eq_getElem_cons hk]
  congr 1
  exact(Av.mp ep).2
 rw [hd] at e
 obtain⟨ρ1,f1,e1,e2,e3⟩:=b04 e
 refine T F0 H0 F H σ ρ ρ1 p x _ so (rx F s) e1 fun σ' so'=>⟨F0,H0,F,ρ1,f1,so',e2, ?_⟩
 cases f1 with
 |nx ρ'=>exact fun σ2 F2 H2 s2 so2=>⟨F2,ρ',s.trans s2,so2,e3⟩
 |ct ρ'=>exact fun σ2 F2 H2 s2 so2=>⟨F2,ρ',s.trans s2,so2,e3⟩
 |bk ρ'=>cases e3;exact fun σ2 F2 H2 s2 so2=>fin σ2 F2 H2 (s.trans s2) so2
 |rt r=>cases e3;exact fin
theorem X8{K:AE}{F0 H0 F1:Hp}{body:MS}{tg:PV->b9->Option b9}{ps:List PV}{fl:Fl}{D:Q3}{σ:L2.St}{H:Hp}(fin:Fin K F0 H0 F1 D fl)
 (hp:PvL K F0 H0 F1 body tg ps fl ps.length σ H):D.nx σ H:=by
 obtain⟨F,ρ,s,so,e⟩:=hp
 rw [List.drop_length] at e
 cases e
 exact fin σ F H s so
abbrev MI:=b9->Option (List PV)
def T4(m:M):MI:=fun ρ=>((m ρ).bind e9.toVal).bind PyData.items?
def b9F(K:AE)(tl:TE):TI:=fun σ H R=>tl σ H fun x H1=>∃a,x= .ref a/\(((∃xs,Q4 K H1 a xs)/\R (Itl K a) H1)\/((∃xs,SqT K H1 a xs)/\R (Itt K a) H1))
theorem b3D{tg l:AG}{tl:TE}(hl:PE X l tl):PI X tg l (b9F X.K tl):=by
 intro pins s σ H R I h
 refine A6 (hl pins s σ H _ I h) fun v s1 h0=>j8 h0 fun x H1 I1 r1 q1=> ?_
 obtain⟨a,e,q⟩:=q1
 subst e
 cases r1
 rcases q with⟨⟨xs,hq⟩,q⟩|⟨⟨xs,hq⟩,q⟩
 ·obtain⟨its,rv,p,hz⟩:=I1.list hq
  refine wpAny_pyIter_list p.isList ?_
  refine⟨s1.heap.objs.size,[s1.heap.objs.size],_,_,H1,rfl,I1.kept (t':=s1.toks) fun b o e=>AU _ e,a51 a _,⟨_,Aq _ rfl,rfl,rfl⟩,fun b hb=> ?_,q⟩
  have e:b=s1.heap.objs.size:=by simpa using hb
  subst e
  exact I1.fpOk (AO _) (I1.hok.fresh (AO _))
 ·obtain⟨its,rv,p,hz⟩:=I1.tuple hq
  refine wpAny_pyIter_tuple (show s1.heap.IsTuple a its.toArray from p) ?_
  refine⟨s1.heap.objs.size,[s1.heap.objs.size],_,_,H1,rfl,I1.kept (t':=s1.toks) fun b o e=>AU _ e,a9t a _,⟨_,Aq _ rfl,rfl,rfl⟩,fun b hb=> ?_,q⟩
  have e:b=s1.heap.objs.size:=by simpa using hb
  subst e
  exact I1.fpOk (AO _) (I1.hok.fresh (AO _))
def G3(it:MI)(tg:PV->b9->Option b9)(body:MS):MS:=fun ρ=>(it ρ).bind fun ps=>B6 body tg ps ρ
theorem a0A{tg iter:AG}{body:List Stmt}{m:M}{g:TG}{t:PV->b9->Option b9}{b:MS}{pos:Pos}(hp:PassesOwn (model X.prog X.w) X.A X.env X.xe)(hc:X.calm=true)(hi:EE X iter m)(hg:PG X tg g)(T:b0N X.K g t)(hb:ESs X body b)
 (hs:∀x,foldedSetIterable iter X.env x=pure x:=by intro _;rfl):ES X (.For tg iter body [] pos) (G3 (T4 m) t b):=
 u7 (a6W hp hc (b3D hi) hg hb hs) fun D σ H h0=>z6 h0 fun F0 H0 F ρ fl so e fin=>by
  obtain⟨ps,e1,e⟩:=bind_some e
  obtain⟨q,e1,e2⟩:=bind_some e1
  obtain⟨r,e1,e3⟩:=bind_some e1
  refine⟨F,ρ,r,so.e,e1,fun v F' H' o=> ?_⟩
  obtain⟨F1,o1⟩:=o.toVal e3
  have fin1:=fin.later o1.x.f
  have so1:=so.ext o1.x
  obtain⟨a,xs,rfl,hq,rl⟩:=v6 (F:=F1) (H:=F1) (PU.i9.refl F1) (show K5 X.K F1 F1 v (.val q) from o1.rep) e2
  have hlen:=rl.length
  have get:∀k x,xs[k]?=some x->∃p,ps[k]?=some p/\∀F,i9 F1 F->z7 X.K F p x:=fun k x ex=>by
   obtain⟨p,ep,rp⟩:=rl.getV ex
   exact⟨p,ep,fun F s=>z7.mono s _ rp⟩
  rcases hq with hq|hq
  ·refine⟨a,rfl,.inl ⟨⟨xs,t8 o1.x.fh hq⟩,b2A (K:=X.K) (a:=a) (xs:=xs) (PvL X.K F0 H0 F1 b t ps fl) ⟨F1,ρ,PU.i9.refl F1,so1,e⟩ (fun k σ H _ ⟨F,_,s,so2,_⟩=>t8 (s.trans so2.e.fh) hq) (fun k x σ H ex hp=> ?_) (fun σ H hp=> ?_)⟩⟩
   ·obtain⟨p,ep,rp⟩:=get k x ex
    exact R3 T fin1 ep hp rp
   ·rw [hlen] at hp
    exact X8 fin1 hp
  ·refine⟨a,rfl,.inr ⟨⟨xs,o9 o1.x.fh hq⟩,b4G (K:=X.K) (a:=a) (xs:=xs) (PvL X.K F0 H0 F1 b t ps fl) ⟨F1,ρ,PU.i9.refl F1,so1,e⟩ (fun k σ H _ ⟨F,_,s,so2,_⟩=>o9 (s.trans so2.e.fh) hq) (fun k x σ H ex hp=> ?_) (fun σ H hp=> ?_)⟩⟩
   ·obtain⟨p,ep,rp⟩:=get k x ex
    exact R3 T fin1 ep hp rp
   ·rw [hlen] at hp
    exact X8 fin1 hp
def A8(lo hi:Int):List PV:=(AS (hi - lo).toNat).map fun k=> .int (lo+(k:Nat))
theorem b2Q:∃f:Int->Bool,∀j,f j=decide (-(2 ^ 62)<=j/\j<2 ^ 62):=⟨_,fun _=>rfl⟩
def inR:Int->Bool:=b2Q.choose
theorem b7a(j:Int):inR j=decide (-(2 ^ 62)<=j/\j<2 ^ 62):=b2Q.choose_spec j
theorem T0{j:Int}:inR j=true↔(-(2 ^ 62)<=j/\j<2 ^ 62):=by rw [b7a,decide_eq_true_iff]
def z0(m:MA):MI:=fun ρ=>(m ρ).bind fun ps=>match ps with
 |[.int j]=>if inR j=true then some (A8 0 j) else none
 |_=>none
def b0m(m:MA):MI:=fun ρ=>(m ρ).bind fun ps=>match ps with
 |[.int i,.int j]=>if inR i=true/\inR j=true then some (A8 i j) else none
 |_=>none
theorem a1n{lo hi:Int}{k:Nat}(h:k<(hi - lo).toNat):(A8 lo hi)[k]?=some (.int (lo+k)):=by
 simp [A8,h]
theorem z3(lo hi:Int):(A8 lo hi).length=(hi - lo).toNat:=by simp [A8]
theorem y3{tg a:AG}{body:List Stmt}{m:MA}{g:TG}{t:PV->b9->Option b9}{b:MS}{p rp pos:Pos}(hp:PassesOwn (model X.prog X.w) X.A X.env X.xe)(hc:X.calm=true)(hgl:Gl X "range")(hm:X.mg "range"=none)(ha:EA X [a] m)(hg:PG X tg g)(T:b0N X.K g t)(hb:ESs X body b)
 (hst:AQ [a] X.env=[(false,eval a X.env)]:=by rfl) (hs:∀x,foldedSetIterable (.Call (.Name "range" p) [a] [] rp) X.env x=pure x:=by intro _;rfl):ES X (.For tg (.Call (.Name "range" p) [a] [] rp) body [] pos) (G3 (z0 m) t b):=
 u7 (a6W hp hc (a5N hgl hm ha hst) hg hb hs) fun D σ H h0=>z6 h0 fun F0 H0 F ρ fl so e fin=>by
  obtain⟨ps,e1,e⟩:=bind_some e
  obtain⟨qs,e1,e2⟩:=bind_some e1
  refine⟨F,ρ,qs,so.e,e1,fun vs F1 H1 x rl=> ?_⟩
  split at e2
  ·rename_i j
   split at e2
   ·rename_i c
    have c:=T0.mp c
    cases e2
    obtain⟨v,r,rfl,rv,rr⟩:=rl
    cases rv
    cases rr
    have fin1:=fin.later x.f
    have hz:(j - 0).toNat=j.toNat:=by lia
    refine⟨j,rfl,c.1,c.2,a5s (lo:=0) (n:=j.toNat) (PvL X.K F0 H0 F1 b t (A8 0 j) fl) ⟨F1,ρ,PU.i9.refl F1,so.ext x,e⟩ (fun k σ H hk hp=> ?_) (fun σ H hp=> ?_)⟩
    ·exact R3 T fin1 (a1n (by lia)) hp fun _ _=>rfl
    ·have:j.toNat=(A8 0 j).length:=by rw [z3,hz]
     rw [this] at hp
     exact X8 fin1 hp
   ·cases e2
  ·cases e2
theorem b2s{tg a a2:AG}{body:List Stmt}{m:MA}{g:TG}{t:PV->b9->Option b9}{b:MS}{p rp pos:Pos}(hp:PassesOwn (model X.prog X.w) X.A X.env X.xe)(hc:X.calm=true)(hgl:Gl X "range")(hm:X.mg "range"=none)(ha:EA X [a,a2] m)(hg:PG X tg g)(T:b0N X.K g t)(hb:ESs X body b)
 (hst:AQ [a,a2] X.env=[(false,eval a X.env),(false,eval a2 X.env)]:=by rfl) (hst2:AQ [a2] X.env=[(false,eval a2 X.env)]:=by rfl) (hs:∀x,foldedSetIterable (.Call (.Name "range" p) [a,a2] [] rp) X.env x=pure x:=by intro _;rfl):
 ES X (.For tg (.Call (.Name "range" p) [a,a2] [] rp) body [] pos) (G3 (b0m m) t b):=
 u7 (a6W hp hc (b1F hgl hm ha hst hst2) hg hb hs) fun D σ H h0=>z6 h0 fun F0 H0 F ρ fl so e fin=>by
  obtain⟨ps,e1,e⟩:=bind_some e
  obtain⟨qs,e1,e2⟩:=bind_some e1
  refine⟨F,ρ,qs,so.e,e1,fun vs F1 H1 x rl=> ?_⟩
  split at e2
  ·rename_i i j
   split at e2
   ·rename_i c
    have c:(-(2 ^ 62)<=i/\i<2 ^ 62)/\ -(2 ^ 62)<=j/\j<2 ^ 62:=⟨T0.mp c.1,T0.mp c.2⟩
    cases e2
    obtain⟨v,r,rfl,rv,v2,r2,rfl,rv2,rr⟩:=rl
    cases rv
    cases rv2
    cases rr
    have fin1:=fin.later x.f
    refine⟨i,j,rfl,⟨c.1.1,c.1.2,c.2.1,c.2.2⟩,a5s (lo:=i) (n:=(j - i).toNat) (PvL X.K F0 H0 F1 b t (A8 i j) fl) ⟨F1,ρ,PU.i9.refl F1,so.ext x,e⟩ (fun k σ H hk hp=> ?_) (fun σ H hp=> ?_)⟩
    ·exact R3 T fin1 (a1n hk) hp fun _ _=>rfl
    ·rw [<-z3 i j] at hp
     exact X8 fin1 hp
   ·cases e2
  ·cases e2
def U3(c:MT)(body:MS):Nat->b9->Option Fl
 |0,_=>none
 |n+1,ρ=>(c ρ).bind fun b=>if b=true then(body ρ).bind fun fl=>match fl with
  | .nx ρ'=>U3 c body n ρ'
  | .ct ρ'=>U3 c body n ρ'
  | .bk ρ'=>some (.nx ρ')
  | .rt r=>some (.rt r) else some (.nx ρ)
theorem b2u(n:Nat){c:AG}{body:List Stmt}{mc:MT}{b:MS}{pos:Pos}(hp:PassesOwn (model X.prog X.w) X.A X.env X.xe)(hc:ET X c mc)(hb:ESs X body b):ES X (.While c body [] pos) (U3 mc b n):=
 u7 (b3H hp hc hb) fun D σ H h0=>z6 h0 fun F0 H0 F ρ fl so e fin=>by
  refine⟨fun k σ H=>∃F1 ρ,i9 F F1/\V2 X.K F0 H0 F1 H σ ρ/\U3 mc b k ρ=some fl,⟨n,F,ρ,PU.i9.refl F,so,e⟩, ?_⟩
  rintro k σ H ⟨F1,ρ,s,so,e⟩
  cases k with
  |zero=>cases e
  |succ k=>
   unfold U3 at e
   obtain⟨d,e1,e⟩:=bind_some e
   refine⟨F1,ρ,d,so.e,e1,fun F2 H2 x=> ?_⟩
   have s2:=s.trans x.f
   cases d with
   |true=>
    rw [if_pos rfl] at e
    obtain⟨f1,e2,e⟩:=bind_some e
    refine b1d ⟨fun σ' H'=>∃F1 ρ,i9 F F1/\V2 X.K F0 H0 F1 H' σ' ρ/\U3 mc b k ρ=some fl,fun σ' H' h=>⟨k,Nat.lt_succ_self k,h⟩,⟨F0,H0,F2,ρ,f1,so.ext x,e2, ?_⟩⟩
    cases f1 with
    |nx ρ'=>exact fun σ3 F3 H3 s3 so3=>⟨F3,ρ',s2.trans s3,so3,e⟩
    |ct ρ'=>exact fun σ3 F3 H3 s3 so3=>⟨F3,ρ',s2.trans s3,so3,e⟩
    |bk ρ'=>cases e;exact fun σ3 F3 H3 s3 so3=>fin σ3 F3 H3 (s2.trans s3) so3
    |rt r=>cases e;exact fin
   |false=>
    rw [if_neg Az] at e
    cases e
    exact b1c (fin σ F2 H2 s2 (so.ext x))
def J6(n:Nat)(body:MS)(ps:List PV):Option e9:=(body (ps.map (fun p=>some (e9.val p))++AV n none)).bind fun fl=>match fl with
 | .rt r=>some r
 | .nx _=>some (.val .none)
 |_=>none
end
theorem a8o{K:AE}{F H:Hp}{ps:List PV}{vs:List V}(n:Nat)(s:i9 F H)(r:i0 K F ps vs):V2 K F H F H (vs.map some++AV n none) (ps.map (fun p=>some (e9.val p))++AV n none):=by
 have hl:=r.length
 have key:∀(i:Nat) (q:e9),(ps.map (fun p=>some (e9.val p))++AV n none)[i]?=some (some q)->∃p v,q= .val p/\(vs.map some++AV n none)[i]?=some (some v)/\z7 K F p v:=by
  intro i q e
  by_cases h:i<ps.length
  ·rw [BC (by simpa using h),Aw] at e
   rw [BC (by rw [AW,hl];exact h),Aw]
   cases q':ps[i]? with
   |none=>rw [q'] at e;cases e
   |some p=>
    rw [q'] at e
    cases e
    obtain⟨v,h1,h2⟩:=r.get q'
    exact⟨p,v,rfl,by rw [h1];rfl,h2⟩
  ·rw [List.getElem?_append_right (by simpa using h),List.getElem?_replicate] at e
   split at e<;>cases e
 refine⟨N7.refl s,⟨s,by simp [hl],fun i q e=> ?_,fun i qs e=> ?_,fun i j qs _ a _ e=> ?_⟩,fun i qs a e=> ?_⟩
 ·obtain⟨p,v,rfl,h1,h2⟩:=key i q e;exact⟨v,h1,h2⟩
 ·obtain⟨p,v,z,_⟩:=key i _ e;cases z
 ·obtain⟨p,v,z,_⟩:=key i _ e;cases z
 ·obtain⟨p,v,z,_⟩:=key i _ e;cases z
theorem b59{P:AJ}{w:AH}{K:AE}{mg:Str->Option AA}{base:Heap}{x qual:Str}{st:Stmt}{f:AB}{fd:FuncData}{N ps:List Str}{k:Nat}{m:MS}(F:Fun K x qual st f fd)(S:i5 N ps (d7 st))
 (hb:∀(cdv:AA) (A:AL) (outer:List Env) (s:AC) (H:Hp) (E:XK),x6 k (A.deeper (envOfC qual (d7 st) s.heap.objs.size f cdv))->ESs (W3 CX0 P w K mg base N qual (d7 st) f cdv A outer s H E).nox (p7 st) m):
 E4 P w K mg base CX0 (k+1) f fd ps (spP K ps.length (J6 (N.length - ps.length) m)):=by
 refine F.ok S (fun vs H Q E h=> ?_) (fun cdv A outer s H vs Q E hr h=> ?_)
 ·obtain⟨_,qs,_,_,r,h2,_⟩:=h
  rw [r.length,h2]
 ·obtain⟨F1,qs,r,s1,rl,hl,e,k⟩:=h
  refine⟨_,hb cdv A outer s H E hr, ?_⟩
  unfold J6 at e
  obtain⟨fl,e1,e2⟩:=bind_some e
  have hv:vs.length=ps.length:=by rw [rl.length,hl]
  refine⟨F1,H,F1,_,fl, ?_,e1, ?_⟩
  ·have:=a8o (N.length - ps.length) s1 rl
   unfold L2.R7
   rw [hv]
   exact this
  ·cases fl with
   |rt q=>cases e2;exact fun v F' H' o=>k v F' H' o
   |nx ρ=>cases e2;exact fun σ' F' H' _ so=>k .non F' H' (m9.val so.x rfl)
   |bk ρ=>cases e2
   |ct ρ=>cases e2
section
variable {X:Cx}
def rC1(K:AE)(g:e9->Option e9):List V->Hp->VK->Prop:=fun xs H Q=>∃F x rx rz,xs=[x]/\i9 F H/\K5 K F H x rx/\g rx=some rz/\∀v F' H',m9 K F H F' H' v rz->Q v H'
def rC2(K:AE)(g:e9->e9->Option e9):List V->Hp->VK->Prop:=fun xs H Q=>∃F x y rx ry rz,xs=[x,y]/\i9 F H/\K5 K F H x rx/\K5 K F H y ry/\g rx ry=some rz/\∀v F' H',m9 K F H F' H' v rz->Q v H'
def m1(g:e9->Option e9)(m:M):M:=fun ρ=>(m ρ).bind g
theorem b3o{m:M}{g:e9->Option e9}{σ:L2.St}{H:Hp}{Q:VK}(h:tM X.K (m1 g m) σ H Q):tCB (rC1 X.K g) (a8s (tM X.K m) b5O) σ H Q:=by
 obtain⟨F,ρ,r,he,hm,k⟩:=h
 obtain⟨rx,e1,hm⟩:=bind_some hm
 exact⟨F,ρ,rx,he,e1,fun v F1 H1 o1=>⟨F1,v,rx,r,rfl,o1.x.fh,o1.rep,hm,fun z F2 H2 o2=>k z F2 H2 (m9.trans o1.x o2)⟩⟩
theorem b5U{m n:M}{g:e9->e9->Option e9}{σ:L2.St}{H:Hp}{Q:VK}(h:tM X.K (m2 g m n) σ H Q):tCB (rC2 X.K g) (a8s (tM X.K m) (a8s (tM X.K n) b5O)) σ H Q:=by
 obtain⟨F,ρ,r,he,hm,k⟩:=h
 obtain⟨rx,e1,hm⟩:=bind_some hm
 obtain⟨ry,e2,hm⟩:=bind_some hm
 exact⟨F,ρ,rx,he,e1,fun v F1 H1 o1=>⟨F1,ρ,ry,he.ext o1.x,e2,fun u F2 H2 o2=>⟨F2,v,u,rx,ry,r,rfl,o2.x.fh,o1.rep.ext o2.x,o2.rep,hm,fun z F3 H3 o3=>k z F3 H3 (m9.trans (o1.x.trans o2.x) o3)⟩⟩⟩
theorem O0{id:String}{x:Str}{p pos:Pos}{e:AG}{g:e9->Option e9}{m:M}(hc:A9 X (.builtin id) (rC1 X.K g))(hg:Gl X x)(hm:X.mg x=none)(hv:bootBuiltins x=some (.builtin id))(ha:EE X e m)(hn:x≠"__name__":=by decide)(hdb:(x==("__debug__":Str))=false:=by decide)
 (he:AQ [e] X.env=(false,eval e X.env)::AQ [] X.env:=by rfl) (hpl:(backTo pos (AQ [] X.env)).any (·.1)=false:=by rfl):EE X (.Call (.Name x p) [e] [] pos) (m1 g m):=
 t7 (a1k hc hg hm hv (A4 ha P7 he) hn hdb he hpl) fun _ _ _ h=>b3o h
theorem b8K{id:String}{x:Str}{p pos:Pos}{e e2:AG}{g:e9->e9->Option e9}{m n:M}(hc:A9 X (.builtin id) (rC2 X.K g))(hg:Gl X x)(hm:X.mg x=none)(hv:bootBuiltins x=some (.builtin id))(ha:EE X e m)(hb:EE X e2 n)(hn:x≠"__name__":=by decide)(hdb:(x==("__debug__":Str))=false:=by decide)
 (he:AQ [e,e2] X.env=(false,eval e X.env)::AQ [e2] X.env:=by rfl) (he2:AQ [e2] X.env=(false,eval e2 X.env)::AQ [] X.env:=by rfl) (hpl:(backTo pos (AQ [e2] X.env)).any (·.1)=false:=by rfl):EE X (.Call (.Name x p) [e,e2] [] pos) (m2 g m n):=
 t7 (a1k hc hg hm hv (A4 ha (A4 hb P7 he2) he) hn hdb he hpl) fun _ _ _ h=>b5U h
theorem a9T{T:String}{x:Str}{p pos:Pos}{e:AG}{g:e9->Option e9}{m:M}(hc:A9 X (.type T) (rC1 X.K g))(hg:Gl X x)(hm:X.mg x=none)(hv:bootBuiltins x=some (.type T))(ha:EE X e m)(hn:x≠"__name__":=by decide)(hdb:(x==("__debug__":Str))=false:=by decide)
 (he:AQ [e] X.env=(false,eval e X.env)::AQ [] X.env:=by rfl) (hpl:(backTo pos (AQ [] X.env)).any (·.1)=false:=by rfl):EE X (.Call (.Name x p) [e] [] pos) (m1 g m):=
 t7 (a5M hc hg hm hv (A4 ha P7 he) hn hdb he hpl) fun _ _ _ h=>b3o h
def J0(x:e9):Option e9:=match x.rd with
 | .str z=>if z.length<=AN then some (.val (.int z.length)) else none
 |p=>match PyData.items? p with
  |some ps=>some (.val (.int ps.length))
  |none=>none
theorem L9:A9 X (.builtin "len") (rC1 X.K J0):=by
 intro pins s σ H xs us Q I rv h
 obtain⟨F,x,rx,rz,rfl,s0,h1,h2,k⟩:=h
 unfold J0 at h2
 split at h2
 ·rename_i z ez
  split at h2
  ·rename_i c
   cases h2
   have rr:=h1.rd s0
   rw [ez] at rr
   cases rr
   exact a6g pins s σ H _ us Q I rv ⟨z,rfl,c,k _ F H (m9.here s0 rfl)⟩
  ·cases h2
 ·split at h2
  ·rename_i ps e
   cases h2
   obtain⟨a,xs,rfl,hq,r⟩:=v6 s0 h1 e
   refine a6f pins s σ H _ us Q I rv ⟨a,xs,rfl,hq, ?_⟩
   rw [r.length]
   exact k _ F H (m9.here s0 rfl)
  ·cases h2
theorem b6L(hc:X.calm=true):A9 X (.builtin "min") (rC2 X.K (gI fun i j=> .int (if j<i then j else i))):=by
 intro pins s σ H xs us Q I rv h
 obtain⟨F,x,y,rx,ry,rz,rfl,s0,h1,h2,h3,k⟩:=h
 obtain⟨i,j,rfl,rfl,rfl⟩:=a96 h3
 cases h1;cases h2
 exact b0P hc pins s σ H _ us Q I rv ⟨i,j,rfl,k _ F H (m9.here s0 rfl)⟩
def a1O(x:e9):Option e9:=match PyData.items? x.rd with
 |some ps=>some (.val (.tuple ps))
 |none=>none
theorem b1e{F H:Hp}{v:V}{r:e9}{ps:List PV}(s0:i9 F H)(h:K5 X.K F H v r)(e:PyData.items? r.rd=some ps):∃a xs,v= .ref a/\(Q4 X.K H a xs\/(SqT X.K H a xs/\z7 X.K F (.tuple ps) v))/\i0 X.K F ps xs:=by
 cases r with
 |val p=>
  cases p with
  |list qs=>cases e;obtain⟨a,xs,rfl,hq,r⟩:=h;exact⟨a,xs,rfl,.inl (t8 s0 hq),r⟩
  |tuple qs=>cases e;obtain⟨a,xs,rfl,hq,r⟩:=h;exact⟨a,xs,rfl,.inr ⟨o9 s0 hq.sq,⟨a,xs,rfl,hq,r⟩⟩,r⟩
  |_=>cases e
 |ow c=>cases c<;>cases e;obtain⟨a,xs,rfl,_,hq,r⟩:=h;exact⟨a,xs,rfl,.inl (Q4.of hq),r⟩
 |bo c=>cases c<;>cases e;obtain⟨a,xs,rfl,_,hq,r⟩:=h;exact⟨a,xs,rfl,.inl (Q4.of hq),r⟩
theorem a3D:A9 X (.type "tuple") (rC1 X.K a1O):=by
 intro pins s σ H xs us Q I rv h
 obtain⟨F,x,rx,rz,rfl,s0,h1,h2,k⟩:=h
 unfold a1O at h2
 split at h2
 ·rename_i ps e
  cases h2
  obtain⟨a,xs,rfl,hq,r⟩:=b1e s0 h1 e
  refine a4P pins s σ H _ us Q I rv ⟨a,xs,rfl, ?_⟩
  rcases hq with hq|⟨hq,rp⟩
  ·exact .inl ⟨hq,fun l hl=>k _ _ _ (m9.tup s0 hl r)⟩
  ·exact .inr ⟨hq,k _ F H (m9.here s0 rp)⟩
 ·cases h2
def a97(x:e9):Option e9:=match PyData.items? x.rd with
 |some ps=>some (.own ps)
 |none=>none
theorem b4s:A9 X (.type "list") (rC1 X.K a97):=by
 intro pins s σ H xs us Q I rv h
 obtain⟨F,x,rx,rz,rfl,s0,h1,h2,k⟩:=h
 unfold a97 at h2
 split at h2
 ·rename_i ps e
  cases h2
  obtain⟨a,xs,rfl,hq,r⟩:=v6 s0 h1 e
  exact a6h pins s σ H _ us Q I rv ⟨a,xs,rfl,hq,fun l hl=>k _ _ _ (m9.lst s0 hl r)⟩
 ·cases h2
def kindOf:PV->String
 | .none=>"NoneType"
 | .bool _=>"bool"
 | .int _=>"int"
 | .str _=>"str"
 | .list _=>"list"
 | .tuple _=>"tuple"
 | .dict _=>"dict"
def a6z(T:String)(p:PV):Bool:=kindOf p==T||(kindOf p=="bool" && T=="int")
def isFn:PV->Bool
 | .dict ((.str _,_)::_)=>true
 |_=>false
def a7D(T:String)(x:e9):Option e9:=bif isFn x.rd then none else some (.val (.bool (a6z T x.rd)))
def b10(T:String):Prop:=T="int"\/T="bool"\/T="str"\/T="list"\/T="tuple"\/T="dict"
theorem b1j{K:AE}{T:String}(h:b10 T):∀p:PV,PySem.W.kitOne K (.type (kindOf p)) (.type T)=some (a6z T p):=by
 intro p
 rcases h with rfl|rfl|rfl|rfl|rfl|rfl<;>cases p<;>kernel_rfl
theorem b2o{T:String}{e:AG}{m:M}{p p2 pos:Pos}(kt:b10 T)(hg:Gl X "isinstance")(hm:X.mg "isinstance"=none)(ha:EE X e m)(hT:PE X (.Name (AM T) p2) (tC (.ty T)))
 (he:AQ [e,.Name (AM T) p2] X.env=(false,eval e X.env)::AQ [.Name (AM T) p2] X.env:=by rfl) (he2:AQ [.Name (AM T) p2] X.env=(false,eval (.Name (AM T) p2) X.env)::AQ [] X.env:=by rfl) (hpl:(backTo pos (AQ [.Name (AM T) p2] X.env)).any (·.1)=false:=by rfl)
 (hv:bootBuiltins "isinstance"=some (.builtin "isinstance"):=by rfl):
 EE X (.Call (.Name "isinstance" p) [e,.Name (AM T) p2] [] pos) (m1 (a7D T) m):=by
 have hc:A9 X (.builtin "isinstance") (fun xs H Q=>∃F x rx,xs=[x,.ty T]/\i9 F H/\K5 X.K F H x rx/\isFn rx.rd=false/\Q (.bl (a6z T rx.rd)) H):=by
  intro pins s σ H xs us Q I rv h
  obtain⟨F,x,rx,rfl,s0,h1,nf,q⟩:=h
  obtain⟨u,u2,rfl,ru,ru2⟩:∃u1 u2,us=[u1,u2]/\j6 x u1/\j6 (.ty T) u2:=by
   cases rv with
   |cons p q=>
    cases q with
    |cons p' q'=>
     cases q'
     exact⟨_,_,rfl,p,p'⟩
  cases ru2
  have rr:=h1.rd s0
  have kk:=b1j (K:=X.K) kt rx.rd
  have fin:∀tk,EP X pins σ Q (.bool (a6z T rx.rd)) {s with toks:=tk}:=fun tk=>⟨.bl _,H,I.tok tk,rfl,q⟩
  cases hp:rx.rd with
  |none=>rw [hp] at rr kk fin;cases rr;cases ru;exact PySem.W.kia_one PySem.W.kitx_none I.kIn True.intro kk (fun z=>nomatch z) fin
  |bool b=>rw [hp] at rr kk fin;cases rr;cases ru;exact PySem.W.kia_one PySem.W.kitx_bool I.kIn True.intro kk (fun z=>nomatch z) fin
  |int b=>rw [hp] at rr kk fin;cases rr;obtain⟨t,rfl⟩:=ru;exact PySem.W.kia_one PySem.W.kitx_int I.kIn True.intro kk (fun z=>nomatch z) fin
  |str b=>rw [hp] at rr kk fin;cases rr;obtain⟨t,rfl⟩:=ru;exact PySem.W.kia_one PySem.W.kitx_str I.kIn True.intro kk (fun z=>nomatch z) fin
  |list ps=>
   rw [hp] at rr kk fin
   obtain⟨a,ys,rfl,hq,_⟩:=rr
   cases ru
   obtain⟨its,_,⟨o,n,e1,e2,_⟩,_⟩:=I.list hq
   exact PySem.W.kia_one PySem.W.kitx_list I.kIn ⟨o,e1,e2⟩ kk (fun z=>nomatch z) fin
  |tuple ps=>
   rw [hp] at rr kk fin
   obtain⟨a,ys,rfl,hq,_⟩:=rr
   cases ru
   obtain⟨its,_,⟨o,e1,e2,_⟩,_⟩:=I.tuple hq.sq
   exact PySem.W.kia_one PySem.W.kitx_tuple I.kIn ⟨o,e1,e2⟩ kk (fun z=>nomatch z) fin
  |dict ps=>
   rw [hp] at rr kk fin nf
   rcases rr with⟨a,_,rfl,hq,_⟩|⟨a,_,rfl,hq,_⟩|⟨x,_,rfl,_⟩|⟨x,m,fs,_,hf⟩
   ·cases ru
    obtain⟨_,_,_,_,o,_,_,e1,e2,_⟩:=I.hok a _ hq
    exact PySem.W.kia_one PySem.W.kitx_dict I.kIn ⟨o,e1,e2.1⟩ kk (fun z=>nomatch z) fin
   ·cases ru
    obtain⟨_,_,_,_,o,_,_,e1,e2,_⟩:=I.hok a _ hq
    exact PySem.W.kia_one PySem.W.kitx_dict I.kIn ⟨o,e1,e2.1⟩ kk (fun z=>nomatch z) fin
   ·cases nf
   ·cases ps with
    |nil=>cases hf
    |cons f ps=>obtain⟨k,p⟩:=f;obtain⟨_,_,_,_,z,_⟩:=hf;subst z;cases nf
 exact t7 (a1k hc hg hm hv (A4 ha (A4 hT P7 he2) he) (by decide) (by decide) he hpl) fun σ H Q h0=>p9 h0 fun F ρ r h1 h2 k=>by
  obtain⟨rx,e1,h2⟩:=bind_some h2
  unfold a7D at h2
  cases nf:isFn rx.rd with
  |true=>rw [nf] at h2;cases h2
  |false=>
   rw [nf] at h2
   cases h2
   exact⟨F,ρ,rx,h1,e1,fun v F1 H1 o=>⟨F1,v,rx,rfl,o.x.fh,o.rep,nf,k _ F1 H1 (m9.val o.x rfl)⟩⟩
theorem V2.putC{K:AE}{F0 H0 F H:Hp}{σ:L2.St}{ρ:b9}{i:Nat}{c d:S1}{a:AB}{o:HO}(s:V2 K F0 H0 F H σ ρ)(e:ρ[i]?=some (some (.ow c)))(ea:σ[i]?=some (some (.ref a)))(r:F a=none->V7 K F (m8 H a o) (.ref a) d):
 V2 K F0 H0 F (m8 H a o) σ (ρ.set i (some (.ow d))):=by
 obtain⟨v,h1,rr0⟩:=s.e.at_ i _ e
 obtain⟨a',xs,rfl,fa,ha⟩:=V7.at_ rr0
 rw [ea] at h1;cases h1
 have na:H0 a=none:=s.nw i c a e ea
 have hi:i<ρ.length:=(Av.mp e).1
 refine⟨⟨s.x.f,fun b o z=>by rw [g7 (i6 z na)];exact s.x.h _ _ z,fun b o z=>by rw [g7 (i6 z fa)];exact s.x.fh _ _ z,s.x.nw,s.x.nf⟩,⟨fun b o z=>by rw [g7 (i6 z fa)];exact s.e.fh _ _ z,by simp [s.e.len],fun j q ej=> ?_,fun j z ej=> ?_,fun j k z1 z2 c' hjk e1 e2 e3 e4=> ?_⟩,fun j z c' e1 e2=> ?_⟩
 ·rw [List.getElem?_set] at ej
  by_cases hij:i=j
  ·subst hij
   rw [if_pos rfl,if_pos hi] at ej
   cases ej
   exact⟨.ref a,ea,r fa⟩
  ·rw [if_neg hij] at ej
   obtain⟨v,h1,rr⟩:=s.e.at_ j q ej
   refine⟨v,h1, ?_⟩
   cases q with
   |val p=>exact rr
   |bo z=>exact absurd ej (s.e.nb j z)
   |ow z=>
    have key:∀b,v= .ref b->b≠a:=fun b hb hab=>by subst hab;subst hb;exact s.e.ap i j c z b hij e ej ea h1
    cases z with
    |lst z=>
     obtain⟨b,zs,rfl,fb,hb,rz⟩:=rr
     exact⟨b,zs,rfl,fb,by rw [g7 (key b rfl)];exact hb,rz⟩
    |dct z=>
     obtain⟨b,zs,rfl,fb,hb,rz⟩:=rr
     exact⟨b,zs,rfl,fb,by rw [g7 (key b rfl)];exact hb,rz⟩
    |txt z=>
     obtain⟨b,zs,rfl,fb,hb,rz⟩:=rr
     exact⟨b,zs,rfl,fb,by rw [g7 (key b rfl)];exact hb,rz⟩
 ·rw [List.getElem?_set] at ej
  by_cases hij:i=j
  ·subst hij;rw [if_pos rfl,if_pos hi] at ej;cases ej
  ·rw [if_neg hij] at ej;exact s.e.nb j z ej
 ·have own_at:∀(j:Nat) (z:S1),(ρ.set i (some (e9.ow d)))[j]?=some (some (e9.ow z))->∃z':S1,ρ[j]?=some (some (e9.ow z')):=fun j z h=>by
   rw [List.getElem?_set] at h
   by_cases hij:i=j
   ·subst hij;exact⟨c,e⟩
   ·rw [if_neg hij] at h;exact⟨z,h⟩
  obtain⟨y1,h1⟩:=own_at j z1 e1
  obtain⟨y2,h2⟩:=own_at k z2 e2
  exact s.e.ap j k y1 y2 c' hjk h1 h2 e3 e4
 ·rw [List.getElem?_set] at e1
  by_cases hij:i=j
  ·subst hij;rw [ea] at e2;cases e2;exact na
  ·rw [if_neg hij] at e1;exact s.nw j z c' e1 e2
theorem V2.put{K:AE}{F0 H0 F H:Hp}{σ:L2.St}{ρ:b9}{i:Nat}{ps qs:List PV}{a:AB}{ys:List V}(s:V2 K F0 H0 F H σ ρ)(e:ρ[i]?=some (some (.own ps)))(ea:σ[i]?=some (some (.ref a)))(r:i0 K F qs ys):
 V2 K F0 H0 F (m8 H a (.lst ys)) σ (ρ.set i (some (.own qs))):=s.putC e ea fun fa=>⟨a,ys,rfl,fa,j0,r⟩
theorem V2.putD{K:AE}{F0 H0 F H:Hp}{σ:L2.St}{ρ:b9}{i:Nat}{ps qs:List (List g9×PV)}{a:AB}{ys:List (List g9×V)}(s:V2 K F0 H0 F H σ ρ)(e:ρ[i]?=some (some (.dct ps)))(ea:σ[i]?=some (some (.ref a)))(r:v8 K F qs ys):
 V2 K F0 H0 F (m8 H a (.dT ys)) σ (ρ.set i (some (.dct qs))):=s.putC e ea fun fa=>⟨a,ys,rfl,fa,j0,r⟩
def A0(i:Nat)(m:M):MS:=fun ρ=>(m ρ).bind fun r=>r.toVal.bind fun p=>match ρ[i]? with
 |some (some (.ow (.lst ps)))=>if ps.length<AN then some (.nx (ρ.set i (some (.own (ps++[p]))))) else none
 |_=>none
theorem F8(i:Nat){x:Str}{p apos cpos pos:Pos}{e:AG}{m:M}(hx:PE X (.Name x p) (a2j i))(ha:EE X e m)
 (hbase:attributeBase (.Name x p) "append" X.env (eval (.Name x p) X.env)=eval (.Name x p) X.env:=by rfl)
 (hfew:((backTo cpos (AQ [e] X.env)).all (fun x=> !x.1)&&(backToKw cpos (keywordEach [] X.env)).all (fun x=>x.1.isSome)
  && decide ([e].length+([]:List Keyword).length+(if([]:List Keyword).isEmpty then 0 else 1)<30))=true:=by rfl)
 (hline:(apos.endLine==cpos.line)=true:=by rfl) (hs:AQ [e] X.env=(false,eval e X.env)::AQ [] X.env:=by rfl) (hplain:(backTo cpos (AQ [] X.env)).any (·.1)=false:=by rfl)
 (hsw:swapsWith (.Call (.Attribute (.Name x p) "append" apos) [e] [] cpos) none pos.line X.env=pure false:=by rfl):
 ES X (.Expr (.Call (.Attribute (.Name x p) "append" apos) [e] [] cpos) pos) (A0 i m):=
 u7 (a6V (b6n PySem.F.plainAttrs_list PySem.F.slot_list_append PySem.F.type_list_append a5I hx (A4 ha P7 hs) hbase hfew hline hs hplain) hsw) fun D σ H h0=>z6 h0 fun F0 H0 F ρ fl so e fin=>by
  obtain⟨r,e1,e⟩:=bind_some e
  obtain⟨q,e2,e⟩:=bind_some e
  split at e
  ·rename_i ps eo
   split at e
   ·rename_i c
    cases e
    obtain⟨v,h1,a,xs,rfl,fa,ha',rl⟩:=so.e.at_ i _ eo
    refine⟨.ref a,h1,.inl ⟨rfl,xs,Q4.of ha'⟩,F,ρ,r,so.e,e1,fun w F1 H1 o=> ?_⟩
    obtain⟨F2,o2⟩:=o.toVal e2
    have so2:=so.ext o2.x
    refine⟨a,xs,w,rfl,rfl,o.x.h _ _ ha',by rw [rl.length];exact c, ?_⟩
    exact fin σ F2 _ o2.x.f (so2.put eo h1 ((i0.mono o2.x.f _ rl).append ⟨w,[],rfl,o2.rep,rfl⟩))
   ·cases e
  ·cases e
def b7p(i:Nat)(g:e9->e9->Option e9)(m:M):MS:=fun ρ=>match ρ[i]? with
 |some (some (.val x))=>(m ρ).bind fun y=>(g (.val x) y).bind fun z=>if z.nb=true then some (.nx (ρ.set i (some z))) else none
 |_=>none
theorem b6T{i:Nat}{x:Str}{e:AG}{m:M}{g:e9->e9->Option e9}{op:Operator}{pos pos':Pos}(hN:X.N.Nodup)(he:EE X e m)(ho:OpM X (inplaceOp op) g)(hi:X.N[i]?=some x:=by rfl)(hx:Loc X.env.scope x:=by exact Or.inl rfl)(hf:X.fn x=true\/X.env.scope.names.lookup x=some .local:=by first|exact .inl rfl|exact .inr rfl|assumption):
 ES X (.AugAssign (.Name x pos') op e pos) (b7p i g m):=
 u7 (b7S hN hi hx he (ti:=rM2 X.K g) ho hf) fun D σ H h0=>z6 h0 fun F0 H0 F ρ fl so e fin=>by
  unfold b7p at e
  split at e
  ·rename_i p ep
   obtain⟨y,e1,e⟩:=bind_some e
   obtain⟨z,e2,e⟩:=bind_some e
   split at e
   ·rename_i c
    cases e
    obtain⟨v,h1,rv⟩:=so.e.at_ i _ ep
    exact⟨v,h1,F,ρ,y,so.e,e1,fun u F1 H1 o=>⟨F1,.val p,y,z,o.x.fh,rv.ext o.x,o.rep,e2,fun t F2 H2 o2=>fin _ F2 H2 (o.x.f.trans o2.x.f) ((so.ext o.x).set o2 c i)⟩⟩
   ·cases e
  ·cases e
def a12(i:Nat)(n:MS):MS:=fun ρ=>match ρ[i]? with
 |some (some (.ow (.lst ps)))=>n (ρ.set i (some (.val (.list ps))))
 |_=>n ρ
theorem V2.frz{K:AE}{F0 H0 F H:Hp}{σ:L2.St}{ρ:b9}{i:Nat}{ps:List PV}(s:V2 K F0 H0 F H σ ρ)(e:ρ[i]?=some (some (.own ps))):∃F',i9 F F'/\V2 K F0 H0 F' H σ (ρ.set i (some (.val (.list ps)))):=by
 obtain⟨v,h1,a,xs,rfl,fa,ha,rl⟩:=s.e.at_ i _ e
 have na:H0 a=none:=s.nw i _ a e h1
 have hi:i<ρ.length:=(Av.mp e).1
 have up:i9 F (m8 F a (.lst xs)):=Y9 fa
 have fh:i9 (m8 F a (.lst xs)) H:=fun b o z=>by
  by_cases hb:b=a
  ·subst hb;rw [j0] at z;cases z;exact ha
  ·rw [g7 hb] at z;exact s.e.fh _ _ z
 refine⟨m8 F a (.lst xs),up,⟨⟨s.x.f.trans up,s.x.h,fh,fun b o z y t=>by rw [g7 (i6 y na)];exact s.x.nw b o z y t,b3j s.x.nf⟩,⟨fh,by simp [s.e.len],fun j q ej=> ?_,fun j z ej=> ?_,fun j k z1 z2 c hjk e1 e2 e3 e4=> ?_⟩,fun j z c e1 e2=> ?_⟩⟩
 ·rw [List.getElem?_set] at ej
  by_cases hij:i=j
  ·subst hij
   rw [if_pos rfl,if_pos hi] at ej
   cases ej
   exact⟨.ref a,h1,a,xs,rfl,Q4.of j0,i0.mono up _ rl⟩
  ·rw [if_neg hij] at ej
   obtain⟨v,h2,rr⟩:=s.e.at_ j q ej
   refine⟨v,h2, ?_⟩
   cases q with
   |val p=>exact z7.mono up p rr
   |bo z=>exact absurd ej (s.e.nb j z)
   |ow z=>
    have key:∀b,v= .ref b->b≠a:=fun b hb hab=>by subst hab;subst hb;exact s.e.ap i j _ z b hij e ej h1 h2
    cases z with
    |lst z=>
     obtain⟨b,zs,rfl,fb,hb,rz⟩:=rr
     exact⟨b,zs,rfl,by rw [g7 (key b rfl)];exact fb,hb,i0.mono up _ rz⟩
    |dct z=>
     obtain⟨b,zs,rfl,fb,hb,rz⟩:=rr
     exact⟨b,zs,rfl,by rw [g7 (key b rfl)];exact fb,hb,v8.mono up _ rz⟩
    |txt z=>
     obtain⟨b,zs,rfl,fb,hb,rz⟩:=rr
     exact⟨b,zs,rfl,by rw [g7 (key b rfl)];exact fb,hb,v8.mono up _ rz⟩
 ·rw [List.getElem?_set] at ej
  by_cases hij:i=j
  ·subst hij;rw [if_pos rfl,if_pos hi] at ej;cases ej
  ·rw [if_neg hij] at ej;exact s.e.nb j z ej
 ·have own_at:∀(j:Nat) (z:S1),(ρ.set i (some (e9.val (.list ps))))[j]?=some (some (e9.ow z))->ρ[j]?=some (some (e9.ow z)):=fun j z h=>by
   rw [List.getElem?_set] at h
   by_cases hij:i=j
   ·subst hij;rw [if_pos rfl,if_pos hi] at h;cases h
   ·rw [if_neg hij] at h;exact h
  exact s.e.ap j k z1 z2 c hjk (own_at j z1 e1) (own_at k z2 e2) e3 e4
 ·rw [List.getElem?_set] at e1
  by_cases hij:i=j
  ·subst hij;rw [if_pos rfl,if_pos hi] at e1;cases e1
  ·rw [if_neg hij] at e1;exact s.nw j z c e1 e2
theorem a3K(i:Nat){st:Stmt}{n:MS}(h:ES X st n):ES X st (a12 i n):=u7 h fun D σ H h0=>z6 h0 fun F0 H0 F ρ fl so e fin=>by
 unfold a12 at e
 split at e
 ·rename_i ps eo
  obtain⟨F',s,so'⟩:=so.frz eo
  exact⟨F0,H0,F',_,fl,so',e,fin.later s⟩
 ·exact⟨F0,H0,F,ρ,fl,so,e,fin⟩
end
def b78(K:AE)(n:Nat)(a:AB):Option (List (g9×PV)):=match K.lookup a with
 |some ⟨.type "dict",none,.dict es _,⟨[]⟩⟩=>(a2y es.toList).bind (S3 K n)
 |_=>none
def a6x(K:AE)(a:AB):List Int:=match K.lookup a with
 |some ⟨_,_,.dict es _,_⟩=>es.toList.map (·.hash)
 |_=>[]
theorem a0V{κ:Type}{K:AE}{n:Nat}:∀{kvs:List (κ×AA)} {tbl:List (κ×PV)},S3 K n kvs=some tbl->tbl.map (·.1)=kvs.map (·.1)
 |[],_,h=>by cases h;rfl
 |(k,u)::r,tbl,h=>by
  simp only [S3] at h
  obtain⟨q,e1,h⟩:=bind_some h
  obtain⟨t,e2,h⟩:=bind_some h
  cases h
  rw [AR,AR,a0V e2]
theorem b3a{κ α β:Type}{γ:Type}(f:κ->γ):∀{l:List (κ×α)} {m:List (κ×β)},l.map (·.1)=m.map (·.1)->l.map (fun x=>f x.1)=m.map (fun x=>f x.1):=fun {l m} h=>by
 have h1:l.map (fun x=>f x.1)=(l.map (·.1)).map f:=by simp [As,Function.comp_def]
 have h2:m.map (fun x=>f x.1)=(m.map (·.1)).map f:=by simp [As,Function.comp_def]
 rw [h1,h2,h]
theorem b8a{P:AJ}{w:AH}{K:AE}{a:AB}{tbl:List (g9×PV)}(n:Nat)(t:b78 K n a=some tbl)(h:a6x K a=tbl.map (fun kv=>b1f w kv.1))(nd:(tbl.map (·.1)).Nodup):Tab P w K a tbl:=by
 unfold b78 at t
 split at t
 ·rename_i es ep e
  obtain⟨kvs,e1,e2⟩:=bind_some t
  have hk:=a0V e2
  refine⟨es,ep,kvs,n,e,e1, ?_,e2,by rw [<-hk];exact nd⟩
  unfold a6x at h
  rw [e] at h
  rw [<-b3a (b1f w) hk]
  exact h
 ·cases t
def w4(P:AJ)(w:AH)(K:AE)(mg:Str->Option AA)(base:Heap)(x:Str)(ps:List Str)(k:Nat)(g:List PV->Option e9):Prop:=
 ∃f fd,E4 P w K mg base CX0 k f fd ps (spP K ps.length g)/\mg x=some (.ref f)/\PySem.W.keepIn K (.ref f)=true/\Q1 K fd ps []
section
variable {X:Cx}
theorem m5{k k':Nat}{ps:List Str}{g:List PV->Option e9}{x:Str}{p pos:Pos}{e:AG}{es:List AG}{m:MA}
 (d:w4 X.prog X.w X.K X.mg X.base x ps k g) (hr:x6 k' X.A) (hk:k<=k') (hg:Gl X x) (hn:∀ρ qs,m ρ=some qs->qs.length=ps.length) (ha:EA X (e::es) m)
 (hdb:(x==("__debug__":Str))=false:=by decide) (he:AQ (e::es) X.env=(false,eval e X.env)::AQ es X.env:=by rfl) (hpl:(backTo pos (AQ es X.env)).any (·.1)=false:=by rfl):
 EE X (.Call (.Name x p) (e::es) [] pos) (m7 g m):=by
 obtain⟨f,fd,G,h1,h2,h3⟩:=d
 exact b4x G (hr.mono hk) hg h1 h2 h3 hn ha hdb he hpl
end
def a8n(K:AE):Sp:=fun vs H Q _=>∃(a:AB) (ns:List Int),vs=[.ref a]/\Q4 K H a (ns.map V.int)/\ns.length<=63/\∀H',Q (.bl true) H'
theorem a5Q{K:AE}{H:Hp}:∀ns:List Int,i0 K H (ns.map PyData.int) (ns.map V.int)
 |[]=>rfl
 |n::ns=>⟨.int n,_,rfl,rfl,a5Q ns⟩
theorem b4W{K:AE}{g:List PV->Option e9}(h:∀ns:List Int,ns.length<=63->g [.list (ns.map .int)]=some (.val (.bool true))):∀vs H Q E,a8n K vs H Q E->spP K 1 g vs H Q E:=
 fun vs H Q E ⟨a,ns,e,hs,hl,k⟩=>by
  subst e
  exact⟨H,[.list (ns.map .int)],_,PU.i9.refl H,⟨.ref a,[],rfl,⟨a,_,rfl,hs,a5Q ns⟩,rfl⟩,rfl,h ns hl,fun v F' H' o=>by
   have:v= .bl true:=o.rep
   subst this
   exact k H'⟩
theorem b98{l:PySem.W.OpenLaw}{q:AJ}{loose:List Str}{XP:(Str->Option AA)->Heap->Prop}{YP:AH->Heap->Prop}{d:DefRec}{K:Params->AE}{x:Str}{k:Nat}(hk:k<=40)(hn:l.most=some 63)(hdf:d.params.defaults=[])
 (hY:∀(w:AH) (h:Heap),YP w h->(K w.params).In h)
 (F:∀(w:AH) (mg:Str->Option AA) (fa:AB) (h:Heap),(K w.params).In h->h.Ns mainGlobals mg->mg d.name=some (.ref fa)->
  ∃fd:FuncData,(∀(s:AC) (u:AA),BindsTo s fd ⟨[u],[]⟩ [(x,u)])/\∀base:Heap,(K w.params).In base->base.Ns mainGlobals mg->E4 l.prog w (K w.params) mg base CX0 k fa fd [x] (a8n (K w.params))):
 PySem.W.WalkO q loose XP YP l.row.toRowW d [] (fun f vs=>PySem.call f vs):=
 L2.b5W (n:=63) (k:=40) (x:=x) (CX:=fun _=>CX0) (sp:=fun w=>a8n (K w.params)) hn (by decide) hdf ⟨rfl,by decide,by decide⟩ hY (fun w mg fa h a b c=>let ⟨fd,h1,h2⟩:=F w mg fa h a b c;⟨fd,h1,fun base x y=>(h2 base x y).mono hk⟩) (fun _ _ a ns hl _ hS=>⟨a,ns,rfl,hS,hl,fun _=>rfl⟩) fun _ _ _ _ _ z=>z
def b65(x y:e9):Option e9:=W8 a2X (fun i j=> .int (i*j)) x y
theorem b3s{X:Cx}:OpM X (binaryOp .Mult) b65:=b5l
theorem Q7(i j:Int):K9 (.val (.int i)) (.val (.int j))=some (.val (.int (i+j))):=Eq.trans rfl rfl
theorem b2E{i j:Str}(h:i.length+j.length<=AN):K9 (.val (.str i)) (.val (.str j))=some (.val (.str (i++j))):=by simp [K9,h]
theorem b4J{ps qs:List PV}(h:ps.length+qs.length<=AN):K9 (.own ps) (.own qs)=some (.own (ps++qs)):=by simp [K9,e9.mine,h]
theorem a1M(f:Int->Int->PV)(i j:Int):gI f (.val (.int i)) (.val (.int j))=some (.val (f i j)):=Eq.trans rfl rfl
theorem a07{C:Int->Int->Prop}[∀i j,Decidable (C i j)](f:Int->Int->PV){i j:Int}(h:C i j):W8 C f (.val (.int i)) (.val (.int j))=some (.val (f i j)):=by
 show(if okC C i j=true then some (e9.val (f i j)) else none)=_
 rw [if_pos (a1j.mpr h)]
theorem b66{i j:Int}(h: -18446744073709551616<i/\i<18446744073709551616):b65 (.val (.int i)) (.val (.int j))=some (.val (.int (i*j))):=a07 _ (.inl (by lia))
theorem Q8{f:Int->Int->PV}{i j:Int}(h:0<j):W8 (fun _ j=>0<j) f (.val (.int i)) (.val (.int j))=some (.val (f i j)):=a07 _ h
theorem a7C{f:Int->Int->PV}{i j:Int}(h:0<j/\j<1073741824):W8 a3p f (.val (.int i)) (.val (.int j))=some (.val (f i j)):=a07 _ h
theorem a6v{x y:e9}(h:j4 x.rd 50=true/\j4 y.rd 50=true):gNe x y=some (.val (.bool (!PyData.eqv x.rd y.rd))):=by simp [gNe,h]
theorem a1N(ps:List PV):J0 (.val (.list ps))=some (.val (.int ps.length)):=Eq.trans rfl rfl
theorem b2J(ps:List PV):J0 (.val (.tuple ps))=some (.val (.int ps.length)):=Eq.trans rfl rfl
theorem b2I(ps:List PV):J0 (.own ps)=some (.val (.int ps.length)):=Eq.trans rfl rfl
theorem b2H(ps:List PV):J0 (.bor ps)=some (.val (.int ps.length)):=Eq.trans rfl rfl
theorem a3P{ps:List PV}{i:Int}{p:PV}(h:L2.atI ps i=some p):J8 (.val (.list ps)) (.val (.int i))=some (.val p):=by simp [J8,e9.rd,S1.rd,PyData.items?,h]
theorem a08{ps:List PV}{i:Int}{p:PV}(h:L2.atI ps i=some p):J8 (.val (.tuple ps)) (.val (.int i))=some (.val p):=by simp [J8,e9.rd,S1.rd,PyData.items?,h]
theorem a09(p:PV)(ps:List PV):J8 (.val (.tuple (p::ps))) (.val (.int 0))=some (.val p):=by
 refine a08 ?_
 have h:(0:Int)<(((p::ps).length:Nat):Int):=by simp only [AT];lia
 unfold L2.atI L2.ixN
 rw [if_pos (by decide),if_pos h]
 rfl
theorem a1a(p q:PV)(ps:List PV):J8 (.val (.tuple (p::q::ps))) (.val (.int 1))=some (.val q):=by
 refine a08 ?_
 have h:(1:Int)<(((p::q::ps).length:Nat):Int):=by simp only [AT];lia
 unfold L2.atI L2.ixN
 rw [if_pos (by decide),if_pos h]
 rfl
theorem a3Q(p q r:PV)(ps:List PV):J8 (.val (.tuple (p::q::r::ps))) (.val (.int 2))=some (.val r):=by
 refine a08 ?_
 have h:(2:Int)<(((p::q::r::ps).length:Nat):Int):=by simp only [AT];lia
 unfold L2.atI L2.ixN
 rw [if_pos (by decide),if_pos h]
 rfl
theorem b2G(p q r t:PV)(ps:List PV):J8 (.val (.tuple (p::q::r::t::ps))) (.val (.int 3))=some (.val t):=by
 refine a08 ?_
 have h:(3:Int)<(((p::q::r::t::ps).length:Nat):Int):=by simp only [AT];lia
 unfold L2.atI L2.ixN
 rw [if_pos (by decide),if_pos h]
 rfl
theorem m6(g:e9->e9->Option e9)(ma mb:M)(ρ:b9):m2 g ma mb ρ=(ma ρ).bind fun x=>(mb ρ).bind fun y=>g x y:=Eq.trans rfl rfl
theorem D6(g:e9->Option e9)(ma:M)(ρ:b9):m1 g ma ρ=(ma ρ).bind g:=Eq.trans rfl rfl
theorem n4(p:PV)(ρ:b9):mC p ρ=some (.val p):=Eq.trans rfl rfl
theorem f9(p:PV)(ρ:b9):c6 0 (some (.val p)::ρ)=some (.val p):=Eq.trans rfl rfl
theorem a0b(p:List PV)(ρ:b9):c6 0 (some (.own p)::ρ)=some (.bor p):=Eq.trans rfl rfl
theorem h9(n:Nat)(r:Option e9)(ρ:b9):c6 (n+1) (r::ρ)=c6 n ρ:=Eq.trans rfl rfl
theorem d9(ρ:b9):f8 ρ=some []:=Eq.trans rfl rfl
theorem c8(m:M)(r:MA)(ρ:b9):b0 m r ρ=((m ρ).bind e9.toVal).bind fun p=>(r ρ).bind fun ps=>some (p::ps):=Eq.trans rfl rfl
theorem d6(p:PV):(e9.val p).toVal=some p:=Eq.trans rfl rfl
theorem R8(p:List PV):(e9.own p).toVal=some (.list p):=Eq.trans rfl rfl
theorem t6(m:MA)(ρ:b9):N6 m ρ=(m ρ).bind fun ps=>if ps.length<=AN then some (.val (.tuple ps)) else none:=Eq.trans rfl rfl
theorem D7(m:MA)(ρ:b9):a0g m ρ=(m ρ).bind fun ps=>if ps.length<=AN then some (.own ps) else none:=Eq.trans rfl rfl
theorem i7(g:List PV->Option e9)(m:MA)(ρ:b9):m7 g m ρ=(m ρ).bind g:=Eq.trans rfl rfl
def b4p(i:Nat)(ρ:b9)(r:e9):Option Fl:=if r.nb=true then some (.nx (ρ.set i (some r))) else none
theorem j7(i:Nat)(m:M)(ρ:b9):r6 i m ρ=(m ρ).bind (b4p i ρ):=Eq.trans rfl rfl
theorem A7(i:Nat)(ρ:b9)(p:PV):b4p i ρ (.val p)=some (.nx (ρ.set i (some (.val p)))):=Eq.trans rfl rfl
theorem L7(i:Nat)(ρ:b9)(p:List PV):b4p i ρ (.own p)=some (.nx (ρ.set i (some (.own p)))):=Eq.trans rfl rfl
def b7Z(r:e9):Option Fl:=if r.nb=true then some (.rt r) else none
theorem o5(m:M)(ρ:b9):N1 m ρ=(m ρ).bind b7Z:=Eq.trans rfl rfl
theorem B8(p:PV):b7Z (.val p)=some (.rt (.val p)):=Eq.trans rfl rfl
theorem b70(p:List PV):b7Z (.own p)=some (.rt (.own p)):=Eq.trans rfl rfl
def b72(n:MS):Fl->Option Fl
 | .nx ρ=>n ρ
 |f=>some f
theorem k4(m n:MS)(ρ:b9):l6 m n ρ=(m ρ).bind (b72 n):=Eq.trans rfl rfl
theorem k7(n:MS)(ρ:b9):b72 n (.nx ρ)=n ρ:=Eq.trans rfl rfl
theorem b5F(n:MS)(r:e9):b72 n (.rt r)=some (.rt r):=Eq.trans rfl rfl
def ifK(m n:MS)(ρ:b9)(b:Bool):Option Fl:=if b=true then m ρ else n ρ
theorem B1(c:MT)(m n:MS)(ρ:b9):a0G c m n ρ=(c ρ).bind (ifK m n ρ):=Eq.trans rfl rfl
theorem a7I(m n:MS)(ρ:b9):ifK m n ρ true=m ρ:=Eq.trans rfl rfl
theorem a2D(m n:MS)(ρ:b9):ifK m n ρ false=n ρ:=Eq.trans rfl rfl
theorem A1(ρ:b9):J5 ρ=some (.nx ρ):=Eq.trans rfl rfl
def b9i:Fl->Option e9
 | .rt r=>some r
 | .nx _=>some (.val .none)
 |_=>none
theorem k9(n:Nat)(b:MS)(ps:List PV):J6 n b ps=(b (ps.map (fun p=>some (e9.val p))++AV n none)).bind b9i:=Eq.trans rfl rfl
theorem l9(r:e9):b9i (.rt r)=some r:=Eq.trans rfl rfl
theorem b0p(m:M)(ρ:b9):mtV m ρ=(m ρ).bind tru:=Eq.trans rfl rfl
theorem w8(m:M)(ρ:b9):mtB m ρ=(m ρ).bind a9i:=Eq.trans rfl rfl
theorem D9(b:Bool):a9i (.val (.bool b))=some b:=Eq.trans rfl rfl
theorem b6v(b:Bool):tru (.val (.bool b))=some b:=Eq.trans rfl rfl
theorem a5H(c:MT)(ρ:b9):a4a c ρ=(c ρ).map not:=Eq.trans rfl rfl
def orK(d:MT)(ρ:b9)(b:Bool):Option Bool:=if b=true then some true else d ρ
theorem a7Z(c d:MT)(ρ:b9):a86 c d ρ=(c ρ).bind (orK d ρ):=Eq.trans rfl rfl
theorem b6l(d:MT)(ρ:b9):orK d ρ false=d ρ:=Eq.trans rfl rfl
def orR(n:M)(ρ:b9)(r:e9):Option e9:=(a9i r).bind fun b=>if b=true then some (.val (.bool true)) else n ρ
theorem b42(m n:M)(ρ:b9):mOr m n ρ=(m ρ).bind (orR n ρ):=Eq.trans rfl rfl
theorem b89(n:M)(ρ:b9):orR n ρ (.val (.bool true))=some (.val (.bool true)):=Eq.trans rfl rfl
theorem b88(n:M)(ρ:b9):orR n ρ (.val (.bool false))=n ρ:=Eq.trans rfl rfl
def b80:e9->Option e9
 | .val (.int i)=>some (.val (.int (-i)))
 |_=>none
theorem b26(m:M)(ρ:b9):b41 m ρ=(m ρ).bind b80:=Eq.trans rfl rfl
theorem b7x(i:Int):b80 (.val (.int i))=some (.val (.int (-i))):=Eq.trans rfl rfl
theorem b3M(p:PV):(e9.val p).rd=p:=Eq.trans rfl rfl
theorem b3L(p:List PV):(e9.bor p).rd= .list p:=Eq.trans rfl rfl
def b9u(tbl:List (g9×PV))(r:e9):Option e9:=(a7L r.rd).bind fun k=>(K3 tbl k).map .val
theorem b28(tbl:List (g9×PV))(m:M)(ρ:b9):b7t tbl m ρ=(m ρ).bind (b9u tbl):=Eq.trans rfl rfl
theorem b79(tbl:List (g9×PV))(x:Str):b9u tbl (.val (.str x))=(K3 tbl (.inr x)).map .val:=Eq.trans rfl rfl
def b8h(is:List Nat)(ρ:b9):e9->Option Fl
 | .val (.tuple ps)=>if ps.length=is.length then some (.nx (setAll ρ is (ps.map .val))) else none
 |_=>none
theorem b29(is:List Nat)(m:M)(ρ:b9):b43 is m ρ=(m ρ).bind (b8h is ρ):=Eq.trans rfl rfl
theorem b8i(i j:Nat)(ρ:b9)(p q:PV):b8h [i,j] ρ (.val (.tuple [p,q]))=some (.nx ((ρ.set i (some (.val p))).set j (some (.val q)))):=Eq.trans rfl rfl
theorem b8j(i j k:Nat)(ρ:b9)(p q r:PV):b8h [i,j,k] ρ (.val (.tuple [p,q,r]))=some (.nx (((ρ.set i (some (.val p))).set j (some (.val q))).set k (some (.val r)))):=Eq.trans rfl rfl
theorem n0(it:MI)(tg:PV->b9->Option b9)(body:MS)(ρ:b9):G3 it tg body ρ=(it ρ).bind fun ps=>B6 body tg ps ρ:=Eq.trans rfl rfl
def b6r:List PV->Option (List PV)
 |[.int j]=>if inR j=true then some (A8 0 j) else none
 |_=>none
theorem A2(m:MA)(ρ:b9):z0 m ρ=(m ρ).bind b6r:=Eq.trans rfl rfl
theorem L3{j:Int}(h: -4611686018427387904<=j/\j<4611686018427387904):b6r [.int j]=some (A8 0 j):=by
 show(if inR j=true then some (A8 0 j) else none)=_
 rw [if_pos (T0.mpr (by lia))]
def b6s:List PV->Option (List PV)
 |[.int i,.int j]=>if inR i=true/\inR j=true then some (A8 i j) else none
 |_=>none
theorem b1o(m:MA)(ρ:b9):b0m m ρ=(m ρ).bind b6s:=Eq.trans rfl rfl
theorem b5B{i j:Int}(h:(-4611686018427387904<=i/\i<4611686018427387904)/\ -4611686018427387904<=j/\j<4611686018427387904):b6s [.int i,.int j]=some (A8 i j):=by
 show(if inR i=true/\inR j=true then some (A8 i j) else none)=_
 rw [if_pos ⟨T0.mpr (by lia),T0.mpr (by lia)⟩]
theorem b6c(i j:Int):gNe (.val (.int i)) (.val (.int j))=some (.val (.bool (!(i==j)))):=Eq.trans rfl rfl
theorem b8P(i j:Int):gEq (.val (.int i)) (.val (.int j))=some (.val (.bool (i==j))):=Eq.trans rfl rfl
theorem sz(n:Nat):(n<=AN)=(n<=16777216):=by rw [sizeLine_eq]
end PU
namespace L2
open PySem PySem.Spec PyProof.Rows
theorem v4:∀(names:List (Str×NameKind)) (n:Nat) (acc:List (Str×AB)),cellsFrom n names acc=cellsFrom n names []++acc
 |[],_,_=>rfl
 |(x,k)::r,n,acc=>by
  unfold cellsFrom
  split
  ·rw [v4 r (n+1) ((x,n)::acc),v4 r (n+1) [(x,n)],List.append_assoc];rfl
  ·exact v4 r n acc
theorem C6:∀{names:List (Str×NameKind)} {n:Nat} {x:Str} {c:AB},(x,c)∈cellsFrom n names []->n<=c/\(x,NameKind.cell)∈names
 |[],_,_,_,h=>nomatch h
 |(y,k)::r,n,x,c,h=>by
  unfold cellsFrom at h
  split at h
  ·rename_i hk
   rw [v4] at h
   rcases Ay.mp h with h|h
   ·obtain⟨a,b⟩:=C6 h
    exact⟨by lia,Af _ b⟩
   ·have e:(x,c)=(y,n):=by simpa using h
    cases e
    have:k= .cell:=by simpa using hk
    subst this
    exact⟨AO _,Ad⟩
  ·obtain⟨a,b⟩:=C6 h
   exact⟨a,Af _ b⟩
theorem a33{α:Type}:∀{l:List (Str×α)} {x:Str},(∀c,(x,c)∉l)->l.lookup x=none:=fun {l x} h=>by
 cases e:l.lookup x with
 |none=>rfl
 |some c=>exact absurd (PySem.mem_of_lookup e) (h c)
theorem a0r{α:Type}:∀{l r:List (Str×α)} {x:Str},l.lookup x=none->(l++r).lookup x=r.lookup x
 |[],_,_,_=>rfl
 |(y,v)::l,r,x,h=>by
  rw [Ah,List.lookup_cons]
  rw [List.lookup_cons] at h
  cases e:x==y with
  |true=>rw [e] at h;cases h
  |false=>rw [e] at h;exact a0r h
def K2(cells:List (Str×AB)):List (Str×NameKind)->List (Str×AB)->List (Str×AB)
 |[],acc=>acc
 |(x,k)::r,acc=>if k== .free then K2 cells r ((x,(cells.lookup x).getD 0)::acc) else K2 cells r acc
theorem a1F{cells:List (Str×AB)}:∀{names:List (Str×NameKind)} {acc:List (Str×AB)} {x:Str} {c:AB},(x,c)∈K2 cells names acc->(x,c)∈acc\/((x,NameKind.free)∈names/\c=(cells.lookup x).getD 0)
 |[],_,_,_,h=> .inl h
 |(y,k)::r,acc,x,c,h=>by
  unfold K2 at h
  split at h
  ·rename_i hk
   rcases a1F h with h|⟨h1,h2⟩
   ·rcases Ab.mp h with e|h
    ·cases e
     have:k= .free:=by simpa using hk
     subst this
     exact .inr ⟨Ad,rfl⟩
    ·exact .inl h
   ·exact .inr ⟨Af _ h1,h2⟩
  ·rcases a1F h with h|⟨h1,h2⟩
   ·exact .inl h
   ·exact .inr ⟨Af _ h1,h2⟩
theorem W2{cells:List (Str×AB)}:∀{names:List (Str×NameKind)} {acc:List (Str×AB)} {x:Str},x∉names.map (·.1)->(K2 cells names acc).lookup x=acc.lookup x
 |[],_,_,_=>rfl
 |(y,k)::r,acc,x,h=>by
  have h':¬(x=y)/\x∉r.map (·.1):=by simpa using h
  unfold K2
  split
  ·rw [W2 h'.2,List.lookup_cons]
   have e:(x==y)=false:=by simpa using h'.1
   rw [e]
  ·exact W2 h'.2
theorem S4{cells:List (Str×AB)}:∀{names:List (Str×NameKind)} {acc:List (Str×AB)} {x:Str},(names.map (·.1)).Nodup->names.lookup x=some .free->(K2 cells names acc).lookup x=some ((cells.lookup x).getD 0)
 |[],_,_,_,h=>by cases h
 |(y,k)::r,acc,x,nd,h=>by
  have nd':y∉r.map (·.1)/\(r.map (·.1)).Nodup:=List.nodup_cons.mp nd
  rw [List.lookup_cons] at h
  unfold K2
  cases e:x==y with
  |true=>
   rw [e] at h
   have hk:k= .free:=by simpa using h
   subst hk
   have exy:x=y:=by simpa using e
   subst exy
   rw [if_pos (show(NameKind.free==NameKind.free)=true from rfl),W2 nd'.1,List.lookup_cons,e]
  |false=>
   rw [e] at h
   split
   ·exact S4 nd'.2 h
   ·exact S4 nd'.2 h
theorem O8{env:Env}(f:Str×NameKind->List (Str×AB)->Sem (ForInStep (List (Str×AB))))(hf:∀x k cs,f (x,k) cs=if k== .free then(do let c<-cellOf env x;pure (.yield ((x,c)::cs))) else pure (.yield cs)):
 ∀(names:List (Str×NameKind)) (acc:List (Str×AB)),(∀x∈names,x.2= .free->(env.cells.lookup x.1).isSome=true)->forIn names acc f=pure (K2 env.cells names acc)
 |[],acc,_=>rfl
 |(x,k)::r,acc,h=>by
  rw [List.forIn_cons,hf]
  unfold K2
  have hr:=fun y hy=>h y (Af _ hy)
  split
  ·rename_i hk
   have:=h (x,k) Ad (by simpa using hk)
   obtain⟨c,hc⟩:=Option.isSome_iff_exists.mp this
   unfold cellOf
   rw [hc]
   show forIn r ((x,c)::acc) f=_
   exact O8 f hf r _ hr
  ·exact O8 f hf r acc hr
theorem a4Q{scope:Scope}{env:Env}(h:∀x∈scope.names,x.2= .free->(env.cells.lookup x.1).isSome=true):closureFor scope env=pure (K2 env.cells scope.names []):=by
 unfold closureFor
 have e:=O8 (env:=env) (fun(x:Str×NameKind) (cs:List (Str×AB))=>if x.2== .free then(do let c<-cellOf env x.1;pure (.yield ((x.1,c)::cs))) else pure (.yield cs)) (fun _ _ _=>rfl) scope.names [] h
 show(forIn scope.names [] _>>=fun r=>pure r)=_
 refine Eq.trans (congrArg (· >>=fun r=>pure r) (Eq.trans (congrArg (forIn scope.names []) ?_) e)) rfl
 funext x cs
 cases x with
 |mk n k=>cases k<;>rfl
theorem Y2{env:Env}{x:Str}:∀{names:List (Str×NameKind)},(names.map fun(p:Str×NameKind)=>if(p.2==NameKind.free && env.scope.kind== .function && env.kindOf p.1==some .cell) then(p.1,NameKind.cell) else(p.1,p.2)).lookup x
 =(names.lookup x).map fun k=>if(k==NameKind.free && env.scope.kind== .function && env.kindOf x==some .cell) then NameKind.cell else k
 |[]=>rfl
 |(n,k)::r=>by
  rw [AR]
  have ih:= @Y2 env x r
  show List.lookup x ((if(k==NameKind.free && env.scope.kind== .function && env.kindOf n==some .cell)=true then(n,NameKind.cell) else(n,k))::_)=_
  cases hx:x==n with
  |true=>
   have e:x=n:=by simpa using hx
   subst e
   by_cases c:(k==NameKind.free && env.scope.kind== .function && env.kindOf x==some .cell)=true
   ·rw [if_pos c,List.lookup_cons,hx,List.lookup_cons,hx];exact congrArg some (if_pos c).symm
   ·rw [if_neg c,List.lookup_cons,hx,List.lookup_cons,hx];exact congrArg some (if_neg c).symm
  |false=>
   by_cases c:(k==NameKind.free && env.scope.kind== .function && env.kindOf n==some .cell)=true
   ·rw [if_pos c,List.lookup_cons,hx,List.lookup_cons,hx];exact ih
   ·rw [if_neg c,List.lookup_cons,hx,List.lookup_cons,hx];exact ih
def C0(scope:Scope)(C:AB)(env:Env):Env:=
 {scope:=relabel scope env,locals:=C,globals:=env.globals,cells:=cellsFrom (C+1) scope.names (K2 env.cells scope.names []),qual:=env.qual,func:=none,code:=env.code,frame:=env.frame,builtins:=env.builtins}
def hid(ys:List Str)(x:Str):Str:=if ys.contains x=true then AM "0"++x else x
def x8(X:Cx)(N0:List Str)(scope:Scope)(ys:List Str)(C:AB)(fp:List AB)(pins:List (AB×Obj))(s₃:AC)(H₃:Hp):Cx:=
 {X with N:=N0++ys,s₀:=s₃,H₀:=H₃,env:=C0 scope C X.env,outer:=X.stack,ex:=fp,fn:=fun x=>scope.names.lookup x==some .cell,pn:=X.pn++pins}
theorem L8{scope:Scope}{C:AB}{env:Env}{x:Str}:(C0 scope C env).kindOf x=(scope.names.lookup x).map fun k=>if(k==NameKind.free && env.scope.kind== .function && env.kindOf x==some .cell) then NameKind.cell else k:=
 Y2
structure E7(N N0 ys:List Str)(env:Env)(scope:Scope):Prop where
 eq:N0=N.map (hid ys)
 kind:scope.kind= .function
 nd:(scope.names.map (·.1)).Nodup
 fr:∀x∈scope.names,x.2= .free->env.kindOf x.1=some .cell\/env.kindOf x.1=some .free
 ou:∀x∈N,(ys.contains x=true->scope.names.lookup (hid ys x)=none)/\(ys.contains x=false->scope.names.lookup x=none\/scope.names.lookup x=some .free\/scope.names.lookup x=some .globalImplicit)
theorem t5{α:Type}:∀{l:List (Str×α)} {x:Str} {v:α},(l.map (·.1)).Nodup->(x,v)∈l->l.lookup x=some v
 |[],_,_,_,h=>nomatch h
 |(y,w)::r,x,v,nd,h=>by
  have nd':y∉r.map (·.1)/\(r.map (·.1)).Nodup:=List.nodup_cons.mp nd
  rw [List.lookup_cons]
  rcases Ab.mp h with e|h
  ·cases e;simp
  ·have:x≠y:=fun e=>nd'.1 (by rw [<-e];exact An.mpr ⟨_,h,rfl⟩)
   have e:(x==y)=false:=by simpa using this
   rw [e]
   exact t5 nd'.2 h
section
variable {M:Model}{A:AL}{E:AA->AC->Prop}{s:AC}
theorem a0h{scope:Scope}{globals:AB}{cl:List (Str×AB)}{qual:Str}{env:Env}{builtins:AB}{Q:Env->AC->Prop}
 (h:Q (newEnv scope s.heap.objs.size globals (cellsFrom (s.heap.objs.size+1) scope.names cl) qual none .none (some env) builtins) {s with heap:=pushCells (s.heap.push {cls:= .type "dict",data:= .dict #[]}) scope.names}):
 AF M A (newFunctionEnv scope globals cl [] qual none .none (some env) builtins) Q E s:=by
 simp only [newFunctionEnv,Option.isSome_some,if_true]
 refine AD (wpAny_alloc ?_)
 refine AD (wpAny_layCells _ (fun name kind cells=>by cases hkc:kind==NameKind.cell<;>simp [hkc]) _ _ _ _ ?_)
 rw [show({s with heap:=s.heap.push {cls:= .type "dict",data:= .dict #[]}}:AC).heap.objs.size=s.heap.objs.size+1 from Heap.size_push ..]
 exact AD (AI (AI h))
end
section
variable {prog:AJ}{w:AH}{A:AL}{R:Result->AC->Prop}{s:AC}
theorem a0d{elt target iter:AG}{ifs:List AG}{scope:Scope}{pos:Pos}{it acc:AA}{env:Env}(I:Nat->AC->Prop)
 (turn:∀n s,I n s->AF (model prog w) A (pyNext it) (fun r s₁=>match r with
  |none=>R (.ok .next) s₁
  |some v=>AF (model prog w) A (letOwnedTupleGo target it v) (fun _ s₁'=>AF (model prog w) A (assign target env v) (fun _ s₂=>
   AF (model prog w) A (forIn ifs true fun c r=>if r=true then do let ok<-isTrue c env (eval c env);pure (ForInStep.yield ok) else pure (ForInStep.yield r)) (fun ok s₃=>
    if ok=true then AF (model prog w) A (eval elt env) (fun x s₄=>
     AF (model prog w) A (call (.builtin "list.append") [acc,x]) (fun _ s₅=>∃m,m<n/\I m s₅) (fun _ _=>False) s₄) (fun _ _=>False) s₃
    else ∃m,m<n/\I m s₃) (fun _ _=>False) s₂) (fun _ _=>False) s₁') (fun _ _=>False) s₁) (fun _ _=>False) s)
 (n:Nat) (h:I n s):
 codeAny (model prog w) A (.compLoop (.ListComp elt [⟨target,iter,ifs,0⟩] scope pos) 0 it acc env) R s:=by
 refine codeAny_loop rfl I (fun n s hI=> ?_) n h
 show AF _ A ((compTurn (.ListComp elt [⟨target,iter,ifs,0⟩] scope pos) 0 it acc env).onRaise (fun x=>do noteFrame x env;theTreesLotGoes x)) _ _ s
 refine wpAny_noted ?_
 rw [compTurn_list]
 refine AD (wpAny_standAt (AD (wpAny_mono (turn n s hI) (fun r s₁ h₁=> ?_) fun _ _ h'=>h'.elim)))
 cases r with
 |none=>exact AI h₁
 |some v=>
  refine AD (wpAny_mono h₁ (fun _ s₁' h₁'=> ?_) fun _ _ h'=>h'.elim)
  refine AD (wpAny_mono h₁' (fun _ s₂ h₂=>AD (wpAny_mono h₂ (fun ok s₃ h₃=> ?_) fun _ _ h'=>h'.elim)) fun _ _ h'=>h'.elim)
  cases ok with
  |false=>exact AI ⟨rfl,h₃⟩
  |true=>
   exact AD (AD (wpAny_mono h₃ (fun x s₄ h₄=>AD (wpAny_mono h₄ (fun _ s₅ h₅=>AI (AI ⟨rfl,h₅⟩)) fun _ _ h'=>h'.elim)) fun _ _ h'=>h'.elim))
end
def PCs(X:Cx)(ifs:List AG)(t:TT):Prop:=
 ∀(pins:List (AB×Obj)) (s:AC) (σ:St) (H:Hp) (Q:Bool->Hp->Prop),g8 X pins σ H s->t σ H Q->
  AF (model X.prog X.w) X.A (forIn ifs true fun c r=>if r=true then do let ok<-isTrue c X.env (eval c X.env);pure (ForInStep.yield ok) else pure (ForInStep.yield r)) (TP X pins σ Q) X.xe s
def b9t:TT:=fun _ H Q=>Q true H
theorem b5o{X:Cx}:PCs X [] b9t:=fun pins s σ H Q I h=>wpAny_tests_nil ⟨H,I,h⟩
theorem b5p{X:Cx}{c:AG}{t:TT}(h:PT X c t):PCs X [c] t:=fun pins s σ H Q I hq=>wpAny_tests_one (h pins s σ H Q I hq)
def b0C(wi:TI)(g:TG)(tc:TT)(te:TE)(k:Nat):TE:=fun σ H Q=>wi σ H fun J H1=>∀D,H1 D=none->∃W:Nat->Nat->List V->Hp->Prop,(∃m,W 0 m [] (m8 H1 D (.lst [])))/\∀i m xs H2,W i m xs H2->H2 D=some (.lst xs)->
 (J.stop i H2/\Q (.ref D) H2)\/(J.go i H2/\∀x H3,J.yld i H2 x H3->g x (σ++AV k none) H3 fun σ4 H4=>(∀(j:Nat) v,(σ++AV k none)[j]?=some (some v)->σ4[j]?=some (some v))/\tc σ4 H4 fun b H5=>if b=true then te σ4 H5 fun v H6=>H6 D=some (.lst xs)/\xs.length<AN/\∃m',m'<m/\W (i+1) m' (xs++[v]) (m8 H6 D (.lst (xs++[v])))
  else H5 D=some (.lst xs)/\∃m',m'<m/\W (i+1) m' xs H5)
section
variable {X:Cx}{elt iter tg:AG}{ifs:List AG}{scope:Scope}{N0 ys:List Str}{wi:TI}{g:TG}{tc:TT}{te:TE}{pos:Pos}
theorem S9{pins:List (AB×Obj)}{σ:St}{H:Hp}{s:AC}(I:g8 X pins σ H s)(S:E7 X.N N0 ys X.env scope){x:Str}(h:(x,NameKind.free)∈scope.names):∃c,X.env.cells.lookup x=some c:=I.ok.has x (S.fr _ h rfl)
theorem a8P{pins:List (AB×Obj)}{σ:St}{H:Hp}{s:AC}{fp:List AB}(S:E7 X.N N0 ys X.env scope)(I:g8 X pins σ H s)(hf:∀b∈fp,a58 X pins H b)(ho:∀b∈fp,∃o,s.heap.get? b=some o/\∀v,o.data≠.cell v):
 g8 (x8 X N0 scope ys s.heap.objs.size fp pins s H) [] (σ++AV ys.length none) H {s with heap:=pushCells (s.heap.push {cls:= .type "dict",data:= .dict #[]}) scope.names}:=by
 have up:∀b o,s.heap.get? b=some o->(pushCells (s.heap.push {cls:= .type "dict",data:= .dict #[]}) scope.names).get? b=some o:=fun b o e=>pushCells_keeps _ _ b o (AU _ e)
 have okc:=cellsFrom_ok scope.names (s.heap.push {cls:= .type "dict",data:= .dict #[]}) (s.heap.objs.size+1) [] ⟨fun _ _ hm=>(nomatch hm),List.Pairwise.nil⟩ (by rw [Heap.size_push];exact AO _)
 rw [Heap.size_push] at okc
 have cel:∀x c,(C0 scope s.heap.objs.size X.env).cells.lookup x=some c->((x,c)∈cellsFrom (s.heap.objs.size+1) scope.names []/\(x,NameKind.cell)∈scope.names/\s.heap.objs.size<c)\/(X.env.cells.lookup x=some c/\(x,NameKind.free)∈scope.names):=fun x c e=>by
  have m:=PySem.mem_of_lookup e
  have m:(x,c)∈cellsFrom (s.heap.objs.size+1) scope.names (K2 X.env.cells scope.names []):=m
  rw [v4] at m
  rcases Ay.mp m with m|m
  ·obtain⟨h1,h2⟩:=C6 m
   exact .inl ⟨m,h2,h1⟩
  ·rcases a1F m with m|⟨m,e⟩
   ·exact nomatch m
   ·obtain⟨c',hc'⟩:=S9 I S m
    rw [hc'] at e
    exact .inr ⟨by rw [hc',e];rfl,m⟩
 have celLt:∀x c,X.env.cells.lookup x=some c->c<s.heap.objs.size:=fun x c e=>let ⟨_,h⟩:=I.cell x c e;h.lt
 have fpLt:∀b∈fp,b<s.heap.objs.size:=fun b hb=>let ⟨_,e,_⟩:=ho b hb;AX e
 have cellNo:∀x,(x,NameKind.cell)∉scope.names->(cellsFrom (s.heap.objs.size+1) scope.names []).lookup x=none:=fun x hx=>a33 fun c m=>hx (C6 m).2
 have look:∀x,(x,NameKind.free)∈scope.names->(C0 scope s.heap.objs.size X.env).cells.lookup x=X.env.cells.lookup x:=fun x m=>by
  have hl:=t5 S.nd m
  have hn:(x,NameKind.cell)∉scope.names:=fun z=>by
   have:=t5 S.nd z
   rw [hl] at this;cases this
  show(cellsFrom (s.heap.objs.size+1) scope.names (K2 X.env.cells scope.names [])).lookup x=_
  rw [v4,a0r (cellNo x hn),S4 S.nd hl]
  obtain⟨c,hc⟩:=S9 I S m
  rw [hc];rfl
 have kindF:∀x,scope.names.lookup x=some .free->X.env.kindOf x=some .cell\/X.env.kindOf x=some .free:=fun x h=>S.fr _ (PySem.mem_of_lookup h) rfl
 refine⟨⟨I.mod,S.kind,I.ok.glob,I.ok.blt,AO _,fun x y c h1 h2=> ?_,fun x h=> ?_,fun x c h1 h2=> ?_,I.ok.hd,I.ok.frames,.inl rfl,fun b hb=> ?_,I.bs,Nat.le_trans I.ok.bsz I.sz,fun b o e hb=> ?_,fun b hb hz=> ?_,I.stack,I.stkFree⟩,
  rfl,I.bare,Un.kept up,⟨fun _=>none, ?_,fun i x v h1 h2 h3=> ?_⟩,fun x c e=> ?_,I.hok.fresh (AO _),fun x c e=> ?_,fun p hp=> ?_,I.hok.kept up, ?_⟩
 ·rcases cel x c h1 with⟨a1,b1,c1⟩|⟨a1,b1⟩
  ·rcases cel y c h2 with⟨a2,b2,c2⟩|⟨a2,b2⟩
   ·exact name_of_addr okc.apart a1 a2
   ·exact absurd (Nat.lt_trans c1 (celLt y c a2)) (Nat.lt_irrefl _)
  ·rcases cel y c h2 with⟨a2,b2,c2⟩|⟨a2,b2⟩
   ·exact absurd (Nat.lt_trans c2 (celLt x c a1)) (Nat.lt_irrefl _)
   ·exact I.ok.inj x y c a1 a2
 ·have hk:(C0 scope s.heap.objs.size X.env).kindOf x=some .cell\/(C0 scope s.heap.objs.size X.env).kindOf x=some .free:=h
  rw [L8] at hk
  cases e:scope.names.lookup x with
  |none=>rw [e] at hk;rcases hk with z|z<;>cases z
  |some k=>
   rw [e] at hk
   have hk':k= .cell\/k= .free:=by
    by_cases c:(k==NameKind.free && X.env.scope.kind== .function && X.env.kindOf x==some .cell)=true
    ·have:(k==NameKind.free)=true:=by
      rw [Bool.and_eq_true,Bool.and_eq_true] at c;exact c.1.1
     exact .inr (by simpa using this)
    ·simp only [BD] at hk
     rw [if_neg c] at hk
     rcases hk with z|z
     ·cases z;exact .inl rfl
     ·cases z;exact .inr rfl
   rcases hk' with rfl|rfl
   ·have q:=PySem.W.cellsFrom_some (x:=x) scope.names (s.heap.objs.size+1) (K2 X.env.cells scope.names []) (.inl e)
    exact Option.isSome_iff_exists.mp q
   ·obtain⟨c,hc⟩:=S9 I S (PySem.mem_of_lookup e)
    exact⟨c,by show(C0 scope s.heap.objs.size X.env).cells.lookup x=_;rw [look x (PySem.mem_of_lookup e)];exact hc⟩
 ·rcases cel x c h2 with⟨_,_,c1⟩|⟨_,b1⟩
  ·exact BE c1
  ·have h1':(scope.names.lookup x==some .cell)=true:=h1
   rw [t5 S.nd b1] at h1'
   cases h1'
 ·refine⟨Ai (fpLt b hb),fun x c e z=> ?_⟩
  rcases cel x c e with⟨_,_,c1⟩|⟨a1,_⟩
  ·rw [z] at c1;exact absurd (Nat.lt_trans c1 (fpLt b hb)) (Nat.lt_irrefl _)
  ·exact(hf b hb).2.2.2.2.1 x c a1 z
 ·have hb:b∈fp:=hb
  rcases(hf b hb).2.2.2.1 with z|z
  ·exact I.ok.noex b o e z
  ·have h1:=(I.ok.bs b o e).1
   have:=AX h1
   exact absurd (Ax this z) (Nat.lt_irrefl _)
 ·have hb:b∈fp:=hb
  have hz:b∈frs X.stack:=hz
  rcases Ab.mp (I.stkSub b hz) with z|z
  ·exact(hf b hb).2.1 z
  ·exact(hf b hb).2.2.1 z
 ·exact(Heap.Ns.new s.heap (.type "dict")).keeps (pushCells_keeps _ _)
 ·have h1:(N0++ys)[i]?=some x:=h1
  rw [S.eq] at h1
  have hi:i<σ.length:=by
   by_cases hi:i<σ.length
   ·exact hi
   ·rw [List.getElem?_append_right (by lia),List.getElem?_replicate] at h2
    split at h2<;>cases h2
  rw [BC hi] at h2
  rw [BC (by rw [AW,<-I.len];exact hi),Aw] at h1
  have hvis:Vis (C0 scope s.heap.objs.size X.env).scope x:=h3
  have hkn:scope.names.lookup x=none->False:=fun z=>by
   have hk:∀k,(C0 scope s.heap.objs.size X.env).kindOf x=some k->scope.names.lookup x≠none:=fun k z e=>by
    rw [L8,e] at z;cases z
   rcases hvis with e|e|e<;>exact absurd z (hk _ e)
  have h1:X.N[i]?=some x/\ys.contains x=false:=by
   cases e0:X.N[i]? with
   |none=>rw [e0] at h1;cases h1
   |some x0=>
    rw [e0] at h1
    have h1:hid ys x0=x:=Option.some.inj h1
    have ho:=S.ou x0 (BB e0)
    cases hc:ys.contains x0 with
    |true=>exact(hkn (by rw [<-h1];exact ho.1 hc)).elim
    |false=>
     have hx:x0=x:=by rw [<-h1];unfold hid;rw [if_neg (by rw [hc];exact Az)]
     subst hx
     exact⟨rfl,hc⟩
  obtain⟨h1,hys⟩:=h1
  have hfree:scope.names.lookup x=some .free:=by
   have hk:∀k,(C0 scope s.heap.objs.size X.env).kindOf x=some k->scope.names.lookup x≠none:=fun k z e=>by
    rw [L8,e] at z;cases z
   rcases(S.ou x (BB h1)).2 hys with z|z|z
   ·rcases hvis with e|e|e<;>exact absurd z (hk _ e)
   ·exact z
   ·have hg:(C0 scope s.heap.objs.size X.env).kindOf x=some .globalImplicit:=by
     rw [L8,z];rfl
    rcases hvis with e|e|e
    ·have e:(C0 scope s.heap.objs.size X.env).kindOf x=some .local:=e
     rw [hg] at e;cases e
    ·have e:(C0 scope s.heap.objs.size X.env).kindOf x=some .cell:=e
     rw [hg] at e;cases e
    ·have e:(C0 scope s.heap.objs.size X.env).kindOf x=some .free:=e
     rw [hg] at e;cases e
  obtain⟨m,hn,hl⟩:=I.loc
  have hv:Vis X.env.scope x:=by
   rcases kindF x hfree with z|z
   ·exact .inr (.inl z)
   ·exact .inr (.inr z)
  obtain⟨u,r,l⟩:=hl i x v h1 h2 hv
  refine⟨u,r, ?_⟩
  rcases l with⟨k,_⟩|⟨k,c,e,z⟩
  ·rcases kindF x hfree with q|q<;>rw [q] at k<;>cases k
  ·refine .inr ⟨?_,c,by show(C0 scope s.heap.objs.size X.env).cells.lookup x=_;rw [look x (PySem.mem_of_lookup hfree)];exact e,z.keeps up⟩
   show(C0 scope s.heap.objs.size X.env).kindOf x=some .cell\/(C0 scope s.heap.objs.size X.env).kindOf x=some .free
   rw [L8,hfree]
   by_cases cc:((NameKind.free==NameKind.free)&& X.env.scope.kind== .function && X.env.kindOf x==some .cell)=true
   ·exact .inl (congrArg some (if_pos cc))
   ·exact .inr (congrArg some (if_neg cc))
 ·rcases cel x c e with⟨a1,_,_⟩|⟨a1,_⟩
  ·exact⟨none,(okc.empty x c a1).1⟩
  ·obtain⟨v,z⟩:=I.cell x c a1
   exact⟨v,z.keeps up⟩
 ·rcases cel x c e with⟨_,_,c1⟩|⟨a1,_⟩
  ·exact I.hok.fresh (BE c1)
  ·exact I.freeC x c a1
 ·have hp:p∈(X.pn++pins)++[]:=hp
  rw [Al] at hp
  obtain⟨e,n,ne,nf,d⟩:=I.pin p hp
  refine⟨up _ _ e,n,Ai (AX e),fun hz=> ?_,d⟩
  have hz:p.1∈frs X.stack:=hz
  rcases Ab.mp (I.stkSub p.1 hz) with z|z
  ·exact ne z
  ·exact nf z
 ·show(σ++AV ys.length none).length=(N0++ys).length
  rw [Ao,List.length_replicate,Ao,S.eq,AW,I.len]
end
section
variable {X:Cx}{elt iter tg:AG}{ifs:List AG}{scope:Scope}{N0 ys:List Str}{wi:TI}{g:TG}{tc:TT}{te:TE}{pos:Pos}
def b1Z(X:Cx)(pins:List (AB×Obj))(C:AB):Prop:=C≠X.env.locals/\X.s₀.heap.objs.size<=C/\(∀x c,X.env.cells.lookup x=some c->c≠C)/\∀p∈X.pn++pins,p.1≠C
theorem a5m{pos':Pos}{use:Option (AA->Sem Unit)}{QQ:AA->AC->Prop}(hx:∀e s,X.xe e s->False)(hc:X.calm=true)(S:E7 X.N N0 ys X.env scope)(hi:PI X tg iter wi)
 (hg:∀C fp pins s H,PG (x8 X N0 scope ys C fp pins s H) tg g) (ht:∀C fp pins s H,PCs (x8 X N0 scope ys C fp pins s H) ifs tc) (he:∀C fp pins s H,PE (x8 X N0 scope ys C fp pins s H) elt te)
 (hs:∀x,foldedSetIterable iter X.env x=pure x) {pins:List (AB×Obj)} {s:AC} {σ:St} {H:Hp} {Q:VK} (I:g8 X pins σ H s) (h:b0C wi g tc te ys.length σ H Q)
 (fin:∀D C s' H' m,g8 X pins σ H' s'->s'.heap.Ns C m->H' C=none->b1Z X pins C->Q (.ref D) H'->compPost (model X.prog X.w) X.A X.xe use QQ (.ref D) C (.ok .next) s'):
 AF (model X.prog X.w) X.A (comprehension (.ListComp elt [⟨tg,iter,ifs,0⟩] scope pos) scope X.env pos' (newList []) false (eval iter X.env) use) QQ X.xe s:=by
 have hcl:closureFor scope X.env=pure (K2 X.env.cells scope.names []):=a4Q fun x hx' hk=>by
  obtain⟨c,e⟩:=S9 (ys:=ys) I S (x:=x.1) (by rw [<-hk];exact hx')
  rw [e];rfl
 refine wpAny_comprehension_free (use:=use) rfl hs hcl S.kind (fun x hx' hk=>t5 S.nd (by rw [<-hk];exact hx')) (A6 (hi pins s σ H _ I h) fun v s1 h1=>A6 h1 fun itv s2 h2=> ?_)
 obtain⟨it,fp,tn,J,H2,e,I2,T,st2,f2,hW⟩:=h2
 subst e
 have hfr:=I2.hok.fresh (AO _)
 obtain⟨W,⟨m0,w0⟩,turn⟩:=hW s2.heap.objs.size hfr
 have fpLt:∀b∈fp,b<s2.heap.objs.size:=fun b hb=>let ⟨_,e,_⟩:=T.obj _ _ st2 b hb;AX e
 refine wpAny_newObj_type ?_
 have I3:g8 X pins σ (m8 H2 s2.heap.objs.size (.lst [])) {s2 with heap:=s2.heap.push {cls:= .type "list",data:= .seq ([]:List AA).toArray}}:=
  I2.laid (t':=s2.toks) (fun b o e=>AU _ e) (AO _) ⟨by decide,[],0,.nil,Aq _ rfl⟩
 have up3:∀b o,s2.heap.get? b=some o->(s2.heap.push {cls:= .type "list",data:= .seq ([]:List AA).toArray}).get? b=some o:=fun b o e=>AU _ e
 have st3:tn 0 (s2.heap.push {cls:= .type "list",data:= .seq ([]:List AA).toArray}):=T.keep _ _ _ st2 fun b _ o e=>up3 b o e
 have f3:∀b∈fp,a58 X pins (m8 H2 s2.heap.objs.size (.lst [])) b:=fun b hb=>⟨by rw [g7 (Ai (fpLt b hb))];exact(f2 b hb).1,(f2 b hb).2⟩
 generalize hs3:({s2 with heap:=s2.heap.push {cls:= .type "list",data:= .seq ([]:List AA).toArray}}:AC)=s3 at I3
 have hs3h:s3.heap=s2.heap.push {cls:= .type "list",data:= .seq ([]:List AA).toArray}:=by rw [<-hs3]
 rw [<-hs3h] at st3 up3
 refine a0h ?_
 have I4:=a8P S I3 f3 (T.obj _ _ st3)
 generalize hs4:({s3 with heap:=pushCells (s3.heap.push {cls:= .type "dict",data:= .dict #[]}) scope.names}:AC)=s4 at I4 ⊢
 have hs4h:s4.heap=pushCells (s3.heap.push {cls:= .type "dict",data:= .dict #[]}) scope.names:=by rw [<-hs4]
 have st4:tn 0 s4.heap:=T.keep _ _ _ st3 fun b _ o e=>by rw [hs4h];exact pushCells_keeps _ _ b o (AU _ e)
 generalize hX:x8 X N0 scope ys s3.heap.objs.size fp pins s3 (m8 H2 s2.heap.objs.size (.lst []))=Y at I4
 have Yp:Y.prog=X.prog:=by rw [<-hX];rfl
 have Yw:Y.w=X.w:=by rw [<-hX];rfl
 have YK:Y.K=X.K:=by rw [<-hX];rfl
 have YA:Y.A=X.A:=by rw [<-hX];rfl
 have Yc:Y.calm=true:=by rw [<-hX];exact hc
 have Yx:Y.xe=X.xe:=by rw [<-hX];rfl
 have YL:Y.env.locals=s3.heap.objs.size:=by rw [<-hX];rfl
 have Yf:Y.fs=frs X.stack:=by rw [<-hX];rfl
 have Ye:Y.ex=fp:=by rw [<-hX];rfl
 have Yn:Y.pn=X.pn++pins:=by rw [<-hX];rfl
 have Ys:Y.s₀=s3:=by rw [<-hX];rfl
 have YH:Y.H₀=m8 H2 s2.heap.objs.size (.lst []):=by rw [<-hX];rfl
 have YE:Y.env=C0 scope s3.heap.objs.size X.env:=by rw [<-hX];rfl
 have hgY:PG Y tg g:=by rw [<-hX];exact hg _ _ _ _ _
 have htY:PCs Y ifs tc:=by rw [<-hX];exact ht _ _ _ _ _
 have heY:PE Y elt te:=by rw [<-hX];exact he _ _ _ _ _
 have nlen:(σ++AV ys.length none).length=Y.N.length:=I4.len
 have exf:=I4.ok.exf
 have exfs:=I4.ok.exfs
 have stat:∀{H':Hp},(∀b∈fp,H' b=none)->∀b∈fp,a58 Y [] H' b:=fun {H'} hn b hb=>by
  have hb':b∈Y.ex:=by rw [Ye];exact hb
  refine⟨hn b hb,(exf b hb').1,exfs b hb',.inl hb',(exf b hb').2,fun p hp=> ?_⟩
  rw [Al,Yn] at hp
  exact(f2 b hb).2.2.2.2.2 p hp
 have TY:a8F Y.prog Y.w Y.K tg J fp it tn:=by rw [Yp,Yw,YK];exact T
 have noX:∀e s,Y.xe e s->False:=fun e s h=>hx e s (by rw [<-Yx];exact h)
 have loop:∀R:Result->AC->Prop,(∀s' H' m,g8 X pins σ H' s'->s'.heap.Ns s3.heap.objs.size m->H' s3.heap.objs.size=none->b1Z X pins s3.heap.objs.size->Q (.ref s2.heap.objs.size) H'->R (.ok .next) s')->
  codeAny (model X.prog X.w) X.A (.compLoop (.ListComp elt [⟨tg,iter,ifs,0⟩] scope pos) 0 (.ref it) (.ref s2.heap.objs.size) (C0 scope s3.heap.objs.size X.env)) R s4:=by
  intro R hR
  refine a0d (fun n s'=>∃i xs H' σ',g8 Y [] σ' H' s'/\(∀(j:Nat) v,(σ++AV ys.length none)[j]?=some (some v)->σ'[j]?=some (some v))/\tn i s'.heap/\(∀b∈fp,H' b=none)/\H' s2.heap.objs.size=some (.lst xs)/\W i n xs H') ?_ m0
   ⟨0,[],_,_,I4,fun _ _ e=>e,st4,fun b hb=>(f3 b hb).1,j0,w0⟩
  rintro n s5 ⟨i,xs,H5,σ5,I5,k5,st5,fr5,hD5,w5⟩
  have I5:g8 Y [] (σ++AV ys.length none) H5 s5:=I5.weak (by rw [nlen,I5.len]) k5
  rw [<-Yp,<-Yw,<-YA]
  rcases turn i n xs H5 w5 hD5 with⟨stop,q⟩|⟨go,step⟩
  ·refine wpAny_mono (TY.done Y rfl rfl rfl Yc i [] s5 _ H5 (fun _ _=>False) I5 (stat fr5) st5 stop) (fun r s6 ⟨hr,I6⟩=> ?_) fun _ _ z=>z
   subst hr
   obtain⟨m,hn,_⟩:=I6.loc
   have un:=I6.base
   rw [Yf,Ye,Ys,YH] at un
   rw [YL] at hn
   have hfC:=I6.free
   rw [YL] at hfC
   refine hR s6 H5 m (I3.call' (ch:=fp) (by rw [I6.os,Ys]) un (by have z:=I6.hok;rw [Yp,Yw] at z;exact z) I6.bare fun b hb=>⟨(f3 b hb).2.2.2.1,(f3 b hb).2.1,(f3 b hb).2.2.2.2.1,(f3 b hb).2.2.2.2.2⟩) hn hfC ⟨Nat.ne_of_gt I3.lt,I3.sz,fun x c e=> ?_,fun p hp=> ?_⟩ q
   ·obtain⟨v,z⟩:=I3.cell x c e
    exact Ai z.lt
   ·exact Ai (AX (I3.pin p hp).1)
  ·refine wpAny_mono (TY.item Y rfl rfl rfl Yc i [] s5 _ H5 (fun _ _=>False) I5 (stat fr5) st5 go) (fun r s6 ⟨u,hr,h6⟩=> ?_) fun _ _ z=>z
   subst hr
   dsimp only
   refine wpAny_mono h6 (fun _ s7 ⟨x,H7,I7,r7,y7,st7,fr7⟩=> ?_) fun _ _ z=>z
   have I7':=I7.pinned (stat fr7) (T.obj _ _ st7)
   rw [<-YE]
   have keepT:∀{σ8:St} {H8:Hp} {s8:AC},g8 Y ([]++a4n fp s7.heap) σ8 H8 s8->tn (i+1) s8.heap/\∀b∈fp,H8 b=none:=fun {σ8 H8 s8} I8=>by
    refine⟨T.keep _ _ _ st7 fun b hb o e=>(I8.pin (b,o) (BA _ (BA _ (T7 hb e)))).1,fun b hb=> ?_⟩
    obtain⟨o,e,d⟩:=T.obj _ _ st7 b hb
    exact(I8.pin (b,o) (BA _ (BA _ (T7 hb e)))).2.1
   refine wpAny_mono (hgY _ s7 _ H7 x u _ I7' r7 (step x H7 y7)) (fun _ s8 h0=>j8 h0 fun σ8 H8 I8 k8 q8=> ?_) fun e s z=>noX e s z
   refine wpAny_mono (htY _ s8 σ8 H8 _ I8 q8) (fun b s9 ⟨H9,I9,q9⟩=> ?_) fun e s z=>noX e s z
   cases b with
   |false=>
    rw [if_neg Az] at q9 ⊢
    obtain⟨hD9,m',lt,w9⟩:=q9
    obtain⟨t9,n9⟩:=keepT I9
    exact⟨m',lt,i+1,xs,H9,σ8,I9.pins_of (fun p hp=>nomatch hp),k8,t9,n9,hD9,w9⟩
   |true=>
    rw [if_pos rfl] at q9 ⊢
    refine wpAny_mono (heY _ s9 σ8 H9 _ I9 q9) (fun y s10 ⟨v,H10,I10,r10,hD10,hz,m',lt,w10⟩=> ?_) fun e s z=>noX e s z
    refine wpAny_mono (a5I _ s10 σ8 H10 (.ref s2.heap.objs.size) [v] (.ref s2.heap.objs.size) [y] (fun _ H'=>H'=m8 H10 s2.heap.objs.size (.lst (xs++[v]))) I10 rfl (.cons r10 .nil) ⟨_,xs,v,rfl,rfl,hD10,hz,rfl⟩) (fun _ s11 h0=>j8 h0 fun _ H11 I11 _ e11=> ?_) fun e s z=>noX e s z
    subst e11
    obtain⟨t11,n11⟩:=keepT I11
    exact⟨m',lt,i+1,xs++[v],_,σ8,I11.pins_of (fun p hp=>nomatch hp),k8,t11,n11,j0,w10⟩
 show codeAny _ _ (.compStart _ 0 _ _ (C0 scope s3.heap.objs.size X.env)) _ _
 refine codeAny_compStart_list (loop _ fun s' H' m a b c d e=>fin _ _ s' H' m a b c d e) (T.self _ 0 _ _ _ st4 (loop _ fun s' H' m a b c d e=>fin _ _ s' H' m a b c d e))
end
section
variable {X:Cx}{elt iter tg:AG}{ifs:List AG}{scope:Scope}{N0 ys:List Str}{wi:TI}{g:TG}{tc:TT}{te:TE}{pos:Pos}
theorem b5r(hx:∀e s,X.xe e s->False)(hc:X.calm=true)(S:E7 X.N N0 ys X.env scope)(hi:PI X tg iter wi)
 (hg:∀C fp pins s H,PG (x8 X N0 scope ys C fp pins s H) tg g) (ht:∀C fp pins s H,PCs (x8 X N0 scope ys C fp pins s H) ifs tc) (he:∀C fp pins s H,PE (x8 X N0 scope ys C fp pins s H) elt te)
 (hs:∀x,foldedSetIterable iter X.env x=pure x:=by intro _;rfl):PE X (.ListComp elt [⟨tg,iter,ifs,0⟩] scope pos) (b0C wi g tc te ys.length):=by
 intro pins s σ H Q I h
 rw [eval_ListComp]
 refine a5m hx hc S hi hg ht he hs I h fun D C s' H' m I' hn hC gone q=>⟨m,hn,fun h' hs'=>⟨.ref D,H', ?_,rfl,q⟩⟩
 obtain⟨g1,g2,g3,g4⟩:=gone
 exact I'.turned (t':=s'.toks) (fun b o hb e=>hs'.extBut b o hb e) hC g1 (.inr g2) g3 g4
theorem b5w{i:Nat}{y:Str}{py spos:Pos}(hx:∀e s,X.xe e s->False)(hc:X.calm=true)(S:E7 X.N N0 ys X.env scope)(hi:PI X tg iter wi)
 (hg:∀C fp pins s H,PG (x8 X N0 scope ys C fp pins s H) tg g) (ht:∀C fp pins s H,PCs (x8 X N0 scope ys C fp pins s H) ifs tc) (he:∀C fp pins s H,PE (x8 X N0 scope ys C fp pins s H) elt te)
 (hN:X.N.Nodup) (hiy:X.N[i]?=some y) (hy:X.env.scope.names.lookup y=some .local)
 (hsw:swapsWith (.ListComp elt [⟨tg,iter,ifs,0⟩] scope pos) (some (.Name y py)) spos.line X.env=pure true)
 (hs:∀x,foldedSetIterable iter X.env x=pure x:=by intro _;rfl):PS X (.Assign [.Name y py] (.ListComp elt [⟨tg,iter,ifs,0⟩] scope pos) spos) (fun D σ H=>b0C wi g tc te ys.length σ H fun v H'=>D.nx (σ.set i (some v)) H'):=by
 intro pins s σ H D I h
 rw [exec_Assign_Name_used _ _ _ _ hsw]
 refine AD (wpAny_standAt (AD ?_))
 show AF _ X.A (do let _<-comprehension (.ListComp elt [⟨tg,iter,ifs,0⟩] scope pos) scope X.env _ (newList []) false (eval iter X.env) (some (assign (.Name y py) X.env))) _ _ s
 refine AD (wpAny_mono (a5m (QQ:=fun _ s'=>SP X pins D .next s') hx hc S hi hg ht he hs I h fun L C s' H' m I' hn hC gone q=> ?_) (fun _ s' hq=>AI (AI hq)) fun _ _ e=>e)
 obtain⟨g1,g2,g3,g4⟩:=gone
 show AF _ X.A (assign (.Name y py) X.env (.ref L)) _ _ _
 refine wpAny_assign_Name (a5Y (v:= .ref L) I' hN hiy (.inl hy) rfl (fun s2 I2 ⟨a,sb,ha⟩=> ?_) (.inr hy))
 have hCa:C≠a:=by
  rcases ha with z|z
  ·rw [z];exact g1
  ·exact fun e=>g3 y a z e.symm
 refine⟨m,hn.sameBut sb hCa,fun h' hs'=>⟨_,H',I2.turned (t':=s2.toks) (fun b o hb e=>hs'.extBut b o hb e) hC g1 (.inr g2) g3 g4,q⟩⟩
end
end L2
namespace PU
open PySem PySem.Spec PyProof.Rows L2
def a0p(c:MT)(elt:M)(tg:PV->b9->Option b9)(ρ:b9):List PV->Option (List PV)
 |[]=>some []
 |p::ps=>(tg p ρ).bind fun ρ1=>(c ρ1).bind fun b=>if b=true then((elt ρ1).bind e9.toVal).bind fun q=>(a0p c elt tg ρ ps).bind fun r=>some (q::r) else a0p c elt tg ρ ps
def K4:MT:=fun _=>some true
def B0(k:Nat)(it:MI)(tg:PV->b9->Option b9)(c:MT)(elt:M):M:=fun ρ=>(it ρ).bind fun ps=>if ps.length<=AN then(a0p c elt tg (ρ++AV k none) ps).bind fun r=>some (.own r) else none
def a5a(K:AE)(n:Nat)(g:TG)(tg:PV->b9->Option b9):Prop:=
 ∀F H σ ρ ρ1 p x (Q:L2.St->Hp->Prop),C5 K F H σ ρ->z7 K F p x->tg p ρ=some ρ1->(∀σ',C5 K F H σ' ρ1->(∀(j:Nat),j<n->σ'[j]?=σ[j]?)->Q σ' H)->g x σ H Q
theorem C5.set{K:AE}{F H:Hp}{σ:L2.St}{ρ:b9}{p:PV}{x:V}(e:C5 K F H σ ρ)(r:z7 K F p x)(i:Nat):C5 K F H (σ.set i (some x)) (ρ.set i (some (.val p))):=by
 refine⟨e.fh,by simp [e.len],fun j q h=> ?_,fun j ps h=> ?_,fun j k ps qs a hjk h1 h2 h3 h4=> ?_⟩
 ·rw [List.getElem?_set] at h ⊢
  by_cases hij:i=j
  ·subst hij
   rw [if_pos rfl] at h ⊢
   rw [e.len]
   split at h
   ·rename_i c;cases h;rw [if_pos c];exact⟨x,rfl,r⟩
   ·cases h
  ·rw [if_neg hij] at h ⊢;exact e.at_ j q h
 ·rw [List.getElem?_set] at h
  by_cases hij:i=j
  ·subst hij
   rw [if_pos rfl] at h
   split at h<;>cases h
  ·rw [if_neg hij] at h;exact e.nb j ps h
 ·have get:∀(j:Nat) (ps:S1),(ρ.set i (some (e9.val p)))[j]?=some (some (e9.ow ps))->i≠j/\ρ[j]?=some (some (e9.ow ps)):=fun j ps h=>by
   rw [List.getElem?_set] at h
   by_cases hij:i=j
   ·subst hij
    rw [if_pos rfl] at h
    split at h<;>cases h
   ·rw [if_neg hij] at h;exact⟨hij,h⟩
  obtain⟨n1,h1⟩:=get j ps h1
  obtain⟨n2,h2⟩:=get k qs h2
  rw [List.getElem?_set_ne n1] at h3
  rw [List.getElem?_set_ne n2] at h4
  exact e.ap j k ps qs a hjk h1 h2 h3 h4
theorem p0{K:AE}{n i:Nat}(h:n<=i):a5a K n (a7F i) (g0 i):=fun F H σ ρ ρ1 p x Q e r q k=>by
 cases q
 exact k _ (e.set r i) fun j hj=>by rw [List.getElem?_set_ne (by lia)]
theorem C5.more{K:AE}{F H:Hp}{σ:L2.St}{ρ:b9}(e:C5 K F H σ ρ)(k:Nat):C5 K F H (σ++AV k none) (ρ++AV k none):=by
 have key:∀(j:Nat) (q:e9),(ρ++AV k none)[j]?=some (some q)->ρ[j]?=some (some q)/\(σ++AV k none)[j]?=σ[j]?:=fun j q h=>by
  by_cases hj:j<ρ.length
  ·rw [BC hj] at h
   rw [BC (by rw [e.len];exact hj)]
   exact⟨h,rfl⟩
  ·rw [List.getElem?_append_right (by lia),List.getElem?_replicate] at h
   split at h<;>cases h
 refine⟨e.fh,by simp [e.len],fun j q h=> ?_,fun j ps h=>e.nb j ps (key j _ h).1,fun j k' ps qs a hjk h1 h2 h3 h4=> ?_⟩
 ·obtain⟨h1,h2⟩:=key j q h
  rw [h2];exact e.at_ j q h1
 ·obtain⟨a1,b1⟩:=key j _ h1
  obtain⟨a2,b2⟩:=key k' _ h2
  rw [b1] at h3
  rw [b2] at h4
  exact e.ap j k' ps qs a hjk a1 a2 h3 h4
def WC(K:AE)(F H:Hp)(D:AB)(c:MT)(elt:M)(tg:PV->b9->Option b9)(ρ:b9)(ps r:List PV)(i m:Nat)(xs:List V)(H':Hp):Prop:=
 ∃F' done rest,i<=ps.length/\m=ps.length - i/\N7 F H F' H'/\F' D=none/\i0 K F' done xs/\done.length<=i/\a0p c elt tg ρ (ps.drop i)=some rest/\done++rest=r
theorem b0V{K:AE}{F H:Hp}{D:AB}{c:MT}{elt:M}{tg:PV->b9->Option b9}{g:TG}{σ:L2.St}{ρ:b9}{k:Nat}{ps r:List PV}{i m:Nat}{xs:List V}{H':Hp}{p:PV}{x:V}
 (T:a5a K ρ.length g tg) (en:C5 K F H σ ρ) (hD:H D=none) (hsz:ps.length<=AN) (W:WC K F H D c elt tg (ρ++AV k none) ps r i m xs H') (hx:H' D=some (.lst xs)) (ep:ps[i]?=some p) (rx:z7 K F p x):
 g x (σ++AV k none) H' fun σ4 H4=>(∀(j:Nat) v,(σ++AV k none)[j]?=some (some v)->σ4[j]?=some (some v))/\tMT K c σ4 H4 fun b H5=>if b=true then tM K elt σ4 H5 fun v H6=>H6 D=some (.lst xs)/\xs.length<AN/\∃m',m'<m/\WC K F H D c elt tg (ρ++AV k none) ps r (i+1) m' (xs++[v]) (m8 H6 D (.lst (xs++[v])))
  else H5 D=some (.lst xs)/\∃m',m'<m/\WC K F H D c elt tg (ρ++AV k none) ps r (i+1) m' xs H5:=by
 obtain⟨F',done,rest,hi,hm,ex,fD,rl,dl,hc,hr⟩:=W
 have hk:i<ps.length:=(Av.mp ep).1
 have hd:ps.drop i=p::ps.drop (i+1):=by
  rw [List.drop_eq_getElem_cons hk]
  congr 1
  exact(Av.mp ep).2
 rw [hd] at hc
 unfold a0p at hc
 obtain⟨ρ1,e1,hc⟩:=bind_some hc
 obtain⟨b,e2,hc⟩:=bind_some hc
 have en':=(en.ext ex).more k
 refine T F' H' _ _ ρ1 p x _ en' (z7.mono ex.f _ rx) e1 fun σ4 en4 keep=>⟨fun j v e=> ?_, ?_⟩
 ·by_cases hj:j<ρ.length
  ·rw [keep j hj];exact e
  ·rw [List.getElem?_append_right (by rw [en.len];lia),List.getElem?_replicate] at e
   split at e<;>cases e
 refine⟨F',ρ1,b,en4,e2,fun F5 H5 x5=> ?_⟩
 have ex5:=ex.trans x5
 have fD5:F5 D=none:=x5.nw D _ fD hx (fun _ h=>nomatch h)
 cases b with
 |false=>
  rw [if_neg Az] at hc
  refine b1c ⟨x5.h _ _ hx,ps.length - (i+1),by lia,F5,done,rest,by lia,rfl,ex5,fD5,i0.mono x5.f _ rl,by lia,hc,hr⟩
 |true=>
  rw [if_pos rfl] at hc
  obtain⟨q,e3,hc⟩:=bind_some hc
  obtain⟨rt,e4,hc⟩:=bind_some hc
  cases hc
  obtain⟨re,e5,e6⟩:=bind_some e3
  refine b1d ⟨F5,ρ1,re,en4.ext x5,e5,fun v F6 H6 o6=> ?_⟩
  obtain⟨F7,o7⟩:=o6.toVal e6
  have hx6:H6 D=some (.lst xs):=o6.x.h _ _ (x5.h _ _ hx)
  have fD7:F7 D=none:=o7.x.nw D _ fD5 (x5.h _ _ hx) (fun _ h=>nomatch h)
  have ex7:=ex5.trans o7.x
  have hlen:=rl.length
  refine⟨hx6,by lia,ps.length - (i+1),by lia,F7,done++[q],rt,by lia,rfl,⟨ex7.f,fun a o z=> ?_,fun a o z=> ?_,ex7.nw,ex7.nf⟩,fD7,i0.append (i0.mono (x5.f.trans o7.x.f) _ rl) ⟨v,[],rfl,o7.rep,rfl⟩,by simp;lia,e4,by rw [List.append_assoc];exact hr⟩
  ·rw [g7 (i6 z hD)];exact ex7.h _ _ z
  ·rw [g7 (i6 z fD7)];exact ex7.fh _ _ z
theorem b2d{K:AE}{F H:Hp}{D:AB}{c:MT}{elt:M}{tg:PV->b9->Option b9}{ρ:b9}{ps r:List PV}{m:Nat}{xs:List V}{H':Hp}(hD:H D=none)(W:WC K F H D c elt tg ρ ps r ps.length m xs H')(hx:H' D=some (.lst xs)):∃F',m9 K F H F' H' (.ref D) (.own r):=by
 obtain⟨F',done,rest,hi,hm,ex,fD,rl,dl,hc,hr⟩:=W
 rw [List.drop_length] at hc
 cases hc
 rw [Al] at hr
 subst hr
 exact⟨F',ex,⟨D,xs,rfl,fD,hx,rl⟩,fun _ _ _ e=>by cases e;exact hD⟩
structure Src(K:AE)(F0 F H:Hp)(J:It)(ps:List PV):Prop where
 st:∀i H',i9 H H'->ps.length<=i->J.stop i H'
 go:∀i p H',i9 H H'->ps[i]?=some p->J.go i H'
 yd:∀i p x H' H'',i9 H H'->ps[i]?=some p->J.yld i H' x H''->H''=H'/\z7 K F p x
def SI(K:AE)(mi:MI)(wi:TI):Prop:=∀F H σ ρ ps (R:It->Hp->Prop),C5 K F H σ ρ->mi ρ=some ps->(∀F1 H1 J,N7 F H F1 H1->Src K F F1 H1 J ps->R J H1)->wi σ H R
abbrev EI(X:Cx)(tg iter:AG)(mi:MI):Prop:=∃wi,PI X tg iter wi/\SI X.K mi wi
section
variable {X:Cx}{tg:AG}
def w6(m:M):MI:=fun ρ=>(m ρ).bind fun r=>PyData.items? r.rd
theorem a3H{l:AG}{m:M}(h:EE X l m):EI X tg l (w6 m):=⟨_,b3D h,fun F H σ ρ ps R en e k=>by
 obtain⟨r,e1,e2⟩:=bind_some e
 refine⟨F,ρ,r,en,e1,fun v F1 H1 o1=> ?_⟩
 obtain⟨a,xs,rfl,hq,rl⟩:=v6 o1.x.fh o1.rep e2
 have hlen:=rl.length
 rcases hq with hq|hq
 ·refine⟨a,rfl,.inl ⟨⟨xs,hq⟩,k F1 H1 _ o1.x ⟨fun i H2 s h=>⟨xs,t8 s hq,by lia⟩,fun i p H2 s h=> ?_,fun i p x H2 H3 s h y=> ?_⟩⟩⟩
  ·obtain⟨v,ev,_⟩:=rl.get h
   exact⟨xs,v,t8 s hq,ev⟩
  ·obtain⟨v,ev,rv⟩:=rl.get h
   obtain⟨e,y⟩:=y
   have:=y xs (t8 s hq)
   rw [ev] at this;cases this
   exact⟨e,rv⟩
 ·refine⟨a,rfl,.inr ⟨⟨xs,hq⟩,k F1 H1 _ o1.x ⟨fun i H2 s h=>⟨xs,o9 s hq,by lia⟩,fun i p H2 s h=> ?_,fun i p x H2 H3 s h y=> ?_⟩⟩⟩
  ·obtain⟨v,ev,_⟩:=rl.get h
   exact⟨xs,v,o9 s hq,ev⟩
  ·obtain⟨v,ev,rv⟩:=rl.get h
   obtain⟨e,y⟩:=y
   have:=y xs (o9 s hq)
   rw [ev] at this;cases this
   exact⟨e,rv⟩⟩
theorem b5D{K:AE}{F0 F H:Hp}{lo hi:Int}:Src K F0 F H (Itr lo (hi - lo).toNat) (A8 lo hi):=by
 have hl:=z3 lo hi
 refine⟨fun i H2 s h=> ?_,fun i p H2 s h=> ?_,fun i p x H2 H3 s h y=> ?_⟩
 ·show(hi - lo).toNat<=i;lia
 ·have:=(Av.mp h).1
  show i<(hi - lo).toNat;lia
 ·have hi':=(Av.mp h).1
  rw [a1n (by lia)] at h
  cases h
  obtain⟨e,y⟩:=y
  exact⟨e,y⟩
theorem Z6{a:AG}{m:MA}{p rp:Pos}(hgl:Gl X "range")(hm:X.mg "range"=none)(ha:EA X [a] m)(hst:AQ [a] X.env=[(false,eval a X.env)]:=by rfl):EI X tg (.Call (.Name "range" p) [a] [] rp) (z0 m):=⟨_,a5N hgl hm ha hst,fun F H σ ρ ps R en e k=>by
 obtain⟨qs,e1,e2⟩:=bind_some e
 refine⟨F,ρ,qs,en,e1,fun vs F1 H1 x rl=> ?_⟩
 split at e2
 ·rename_i j
  split at e2
  ·rename_i c
   have c:=T0.mp c
   cases e2
   obtain⟨v,r,rfl,rv,rr⟩:=rl
   cases rv
   cases rr
   have hz:(j - 0).toNat=j.toNat:=by lia
   refine⟨j,rfl,c.1,c.2,k F1 H1 _ x ?_⟩
   have z:=b5D (K:=X.K) (F0:=F) (F:=F1) (H:=H1) (lo:=0) (hi:=j)
   rw [hz] at z
   exact z
  ·cases e2
 ·cases e2⟩
abbrev EC(X:Cx)(ifs:List AG)(c:MT):Prop:=PCs X ifs (tMT X.K c)
theorem P3:EC X [] K4:=fun pins s σ H Q I ⟨F,ρ,b,en,e,k⟩=>by
 cases e
 exact b5o pins s σ H Q I (k F H (N7.refl en.fh))
theorem b6P{c:AG}{mc:MT}(h:ET X c mc):EC X [c] mc:=b5p h
theorem a5n{mi:MI}{wi:TI}{g:TG}{c:MT}{elt:M}{t:PV->b9->Option b9}{N:List Str}{k:Nat}(hi:SI X.K mi wi)(T:∀n,n=N.length->a5a X.K n g t){σ:L2.St}{H:Hp}{Q:VK}(hl:σ.length=N.length)(h:tM X.K (B0 k mi t c elt) σ H Q):b0C wi g (tMT X.K c) (tM X.K elt) k σ H Q:=by
 obtain⟨F,ρ,r,en,e,kk⟩:=h
 obtain⟨ps,e1,e⟩:=bind_some e
 split at e
 ·rename_i hsz
  obtain⟨rs,e2,e⟩:=bind_some e
  cases e
  refine hi F H σ ρ ps _ en e1 fun F1 H1 J x1 S D hD=> ?_
  have en1:=en.ext x1
  have T':a5a X.K ρ.length g t:=T _ (by rw [<-en.len,hl])
  refine⟨WC X.K F1 H1 D c elt t (ρ++AV k none) ps rs,⟨ps.length,F1,[],rs,Nat.zero_le _,rfl,N7.layH x1.fh hD,x1.fh.free hD,rfl,AO _,e2,rfl⟩,fun i m xs H2 W hx=> ?_⟩
  have W':=W
  obtain⟨F',done,rest,hi',hm,ex,fD,rl,dl,hc,hr⟩:=W'
  have sF:i9 H1 H2:=ex.h
  by_cases hlt:i<ps.length
  ·refine .inr ⟨S.go i ps[i] H2 sF (by simp [hlt]),fun x H3 y=> ?_⟩
   obtain⟨e3,rx⟩:=S.yd i ps[i] x H2 H3 sF (by simp [hlt]) y
   subst e3
   exact b0V T' en1 hD hsz W hx (by simp [hlt]) rx
  ·have e3:i=ps.length:=by lia
   subst e3
   refine .inl ⟨S.st _ H2 sF (AO _), ?_⟩
   obtain⟨F2,o⟩:=b2d hD W hx
   exact kk _ F2 H2 (m9.trans x1 o)
 ·cases e
theorem G6{elt iter:AG}{ifs:List AG}{scope:Scope}{N0 ys:List Str}{mi:MI}{g:TG}{c:MT}{m:M}{t:PV->b9->Option b9}{pos:Pos}(hx:∀e s,X.xe e s->False)(hc:X.calm=true)(S:E7 X.N N0 ys X.env scope)(hi:EI X tg iter mi)
 (hg:∀C fp pins s H,PG (x8 X N0 scope ys C fp pins s H) tg g) (T:∀n,n=X.N.length->a5a X.K n g t) (ht:∀C fp pins s H,EC (x8 X N0 scope ys C fp pins s H) ifs c) (he:∀C fp pins s H,EE (x8 X N0 scope ys C fp pins s H) elt m)
 (hs:∀x,foldedSetIterable iter X.env x=pure x:=by intro _;rfl):EE X (.ListComp elt [⟨tg,iter,ifs,0⟩] scope pos) (B0 ys.length mi t c m):=by
 obtain⟨wi,h1,h2⟩:=hi
 intro pins s σ H Q I h
 exact b5r hx hc S h1 hg ht he hs pins s σ H Q I (a5n (N:=X.N) h2 T I.len h)
theorem b4A{i:Nat}{y:Str}{elt iter:AG}{ifs:List AG}{scope:Scope}{N0 ys:List Str}{mi:MI}{g:TG}{c:MT}{m:M}{t:PV->b9->Option b9}{pos py spos:Pos}(hN:X.N.Nodup)(hx:∀e s,X.xe e s->False)(hc:X.calm=true)(S:E7 X.N N0 ys X.env scope)(hi:EI X tg iter mi)
 (hg:∀C fp pins s H,PG (x8 X N0 scope ys C fp pins s H) tg g) (T:∀n,n=X.N.length->a5a X.K n g t) (ht:∀C fp pins s H,EC (x8 X N0 scope ys C fp pins s H) ifs c) (he:∀C fp pins s H,EE (x8 X N0 scope ys C fp pins s H) elt m)
 (hiy:X.N[i]?=some y:=by rfl) (hy:X.env.scope.names.lookup y=some .local:=by rfl) (hsw:swapsWith (.ListComp elt [⟨tg,iter,ifs,0⟩] scope pos) (some (.Name y py)) spos.line X.env=pure true:=by rfl)
 (hs:∀x,foldedSetIterable iter X.env x=pure x:=by intro _;rfl):ES X (.Assign [.Name y py] (.ListComp elt [⟨tg,iter,ifs,0⟩] scope pos) spos) (r6 i (B0 ys.length mi t c m)):=by
 obtain⟨wi,h1,h2⟩:=hi
 intro pins s σ H D I ⟨F0,H0,F,ρ,fl,so,e,fin⟩
 obtain⟨r,e1,e⟩:=bind_some e
 split at e
 ·rename_i c
  cases e
  exact b5w hx hc S h1 hg ht he hN hiy hy hsw hs pins s σ H D I (a5n (N:=X.N) h2 T I.len ⟨F,ρ,r,so.e,e1,fun v F' H' o=>fin _ F' H' o.x.f (so.set o c i)⟩)
 ·cases e
end
def Q0:List PV->Option (List Str)
 |[]=>some []
 | .str x::r=>(Q0 r).map (x::·)
 |_=>none
theorem a4F:∀xs:List Str,Q0 (xs.map .str)=some xs
 |[]=>rfl
 |x::xs=>by rw [AR];simp only [Q0,a4F xs,BD]
theorem U1{K:AE}{H:Hp}:∀{ps:List PV} {ys:List Str} {xs:List V} {us:List AA},Q0 ps=some ys->i0 K H ps xs->j3 xs us->StrsAre us ys
 |[],_,_,_,h,r,v=>by cases h;cases r;cases v;exact .nil
 |p::ps,ys,_,_,h,⟨x,r,e,hp,t⟩,v=>by
  subst e
  cases p with
  |str z=>
   simp only [Q0] at h
   cases q:Q0 ps with
   |none=>rw [q] at h;cases h
   |some zs=>
    rw [q] at h;cases h
    cases hp
    cases v with
    |cons a b=>
     obtain⟨tk,rfl⟩:=a
     exact .cons z tk (U1 q t b)
  |_=>simp [Q0] at h
def a0q(x y:e9):Option e9:=match x with
 | .val (.str z)=>(match PyData.items? y.rd with
   |some ps=>(Q0 ps).bind fun ys=>if(ys.map (·.length)).sum+ys.length*z.length<=16777216 then some (.val (.str (Txt.join z ys))) else none
   |none=>none)
 |_=>none
section
variable {X:Cx}
theorem b48:MtR X "str.join" (fun x xs H Q=>∃F y rx ry rz,xs=[y]/\i9 F H/\K5 X.K F H x rx/\K5 X.K F H y ry/\a0q rx ry=some rz/\∀v F' H',m9 X.K F H F' H' v rz->Q v H'):=by
 intro pins s σ H x xs v us Q I rx rv h
 obtain⟨F,y,ra,rb,rz,rfl,s0,h1,h2,h3,k⟩:=h
 obtain⟨u,rfl,ru⟩:=Z3 rv
 unfold a0q at h3
 split at h3
 ·rename_i z
  split at h3
  ·rename_i ps e
   obtain⟨ys,e2,h3⟩:=bind_some h3
   split at h3
   ·rename_i c
    cases h3
    cases h1
    obtain⟨t,rfl⟩:=rx
    obtain⟨a,xs,rfl,hq,r⟩:=v6 s0 h2 e
    cases ru
    rcases hq with hq|hq
    ·obtain⟨its,rv,pl,hz⟩:=I.list hq
     exact join_list pl.isList (by simpa using U1 e2 r rv) c fun t' k'=>⟨.str _,H,I.tok _,⟨_,rfl⟩,k _ F H (m9.here s0 rfl)⟩
    ·obtain⟨its,rv,pl,hz⟩:=I.tuple hq
     exact join_tuple pl (by simpa using U1 e2 r rv) c fun t' k'=>⟨.str _,H,I.tok _,⟨_,rfl⟩,k _ F H (m9.here s0 rfl)⟩
   ·cases h3
  ·cases h3
 ·cases h3
theorem a6o{o e:AG}{m n:M}{apos cpos:Pos}(ho:EE X o m)(ha:EE X e n)
 (hbase:attributeBase o "join" X.env (eval o X.env)=eval o X.env:=by rfl)
 (hfew:((backTo cpos (AQ [e] X.env)).all (fun x=> !x.1)&&(backToKw cpos (keywordEach [] X.env)).all (fun x=>x.1.isSome)
  && decide ([e].length+([]:List Keyword).length+(if([]:List Keyword).isEmpty then 0 else 1)<30))=true:=by rfl)
 (hline:(apos.endLine==cpos.line)=true:=by rfl) (hs:AQ [e] X.env=(false,eval e X.env)::AQ [] X.env:=by rfl) (hplain:(backTo cpos (AQ [] X.env)).any (·.1)=false:=by rfl):
 EE X (.Call (.Attribute o "join" apos) [e] [] cpos) (m2 a0q m n):=
 t7 (b6n PySem.F.plainAttrs_str PySem.F.slot_str_join PySem.F.type_str_join b48 ho (A4 ha P7 hs) hbase hfew hline hs hplain) fun σ H Q h0=>p9 h0 fun F ρ r he hm k=>by
  obtain⟨rx,e1,hm⟩:=bind_some hm
  obtain⟨ry,e2,hm⟩:=bind_some hm
  refine⟨F,ρ,rx,he,e1,fun v F1 H1 o1=>⟨?_,⟨F1,ρ,ry,he.ext o1.x,e2,fun u F2 H2 o2=>⟨F2,u,rx,ry,r,rfl,o2.x.fh,o1.rep.ext o2.x,o2.rep,hm,fun z F3 H3 o3=>k z F3 H3 (m9.trans (o1.x.trans o2.x) o3)⟩⟩⟩⟩
  unfold a0q at hm
  split at hm
  ·cases o1.rep;rfl
  ·cases hm
end
def cut{α:Type}(xs:List α)(lo hi:Option Int):List α:=(xs.drop (HT.sIx xs.length 0 lo)).take (HT.sIx xs.length xs.length hi - HT.sIx xs.length 0 lo)
theorem a01(n d:Nat)(hd:d<=n)(o:Option Int):(match o with|none=>(d:Int)|some i=>max 0 (min (if i<0 then i+n else i) n))=((HT.sIx n d o:Nat):Int):=by
 cases o with
 |none=>rfl
 |some i=>unfold HT.sIx;dsimp only;split<;>lia
theorem b4v(n:Nat)(lo hi:Option Int):Builtin.Str.strSliceIndices lo hi 1 n=(AS (HT.sIx n n hi - HT.sIx n 0 lo)).map (HT.sIx n 0 lo+·):=by
 have h1:=a01 n 0 (Nat.zero_le _) lo
 have h2:=a01 n n (AO _) hi
 have key:∀a b:Int,a=((HT.sIx n 0 lo:Nat):Int)->b=((HT.sIx n n hi:Nat):Int)->sliceRange a b 1=(AS (HT.sIx n n hi - HT.sIx n 0 lo)).map (HT.sIx n 0 lo+·):=fun a b ha hb=>by rw [ha,hb,sliceRange_one]
 refine key _ _ ?_ ?_
 ·cases lo with
  |none=>rfl
  |some i=>exact h1
 ·cases hi with
  |none=>rfl
  |some i=>exact h2
theorem b5J(z:Str)(lo hi:Option Int):Txt.slice z lo hi=⟨(cut z.cps.toList lo hi).toArray⟩:=by
 have hz:z.cps.toList.length=z.length:=by simp [Str.length]
 unfold Txt.slice
 rw [b4v,pick_run z.cps]
 split
 ·rename_i c
  have c':HT.sIx z.length z.length hi - HT.sIx z.length 0 lo=z.length:=by
   simpa using c
  have hle:=HT.sIx_le z.length z.length (AO _) hi
  unfold cut
  rw [hz,c']
  have:HT.sIx z.length 0 lo=0\/z.length=0:=by lia
  cases z with
  |mk a=>
   congr 1
   rcases this with h|h
   ·rw [h,List.drop_zero]
    have:a.toList.length=(⟨a⟩:Str).length:=hz
    rw [<-this,List.take_length]
   ·have h0:a.toList=[]:=List.length_eq_zero_iff.mp (by rw [<-h];exact hz)
    have:a= #[]:=by
     apply Array.ext'
     rw [h0]
    subst this
    simp
 ·unfold cut
  rw [hz]
theorem a46(items:Array AA)(lo hi:Option Int):slicePick items lo hi none=(cut items.toList lo hi).toArray:=by
 have hz:items.toList.length=items.size:=by simp
 unfold slicePick cut
 rw [hz]
 have key:∀a b:Int,a=((HT.sIx items.size 0 lo:Nat):Int)->b=((HT.sIx items.size items.size hi:Nat):Int)->(List.filterMap (items[·]?) (sliceRange a b 1)).toArray=((items.toList.drop (HT.sIx items.size 0 lo)).take (HT.sIx items.size items.size hi - HT.sIx items.size 0 lo)).toArray:=fun a b ha hb=>by rw [ha,hb,sliceRange_one,pick_run]
 refine key _ _ ?_ ?_
 ·cases lo with
  |none=>rfl
  |some i=>exact a01 items.size 0 (Nat.zero_le _) (some i)
 ·cases hi with
  |none=>rfl
  |some i=>exact a01 items.size items.size (AO _) (some i)
theorem i0.cut{K:AE}{H:Hp}{ps:List PV}{xs:List V}(r:i0 K H ps xs)(lo hi:Option Int):i0 K H (PU.cut ps lo hi) (PU.cut xs lo hi):=by
 unfold PU.cut
 rw [r.length]
 exact(r.drop _).take _
theorem a9K{α:Type}(xs:List α)(lo hi:Option Int):(cut xs lo hi).length<=xs.length:=by
 unfold cut
 rw [List.length_take,List.length_drop];lia
theorem a0f{prog:AJ}{w:AH}{A:AL}{E:AA->AC->Prop}{s:AC}{t sl:AB}{items:Array AA}{vl vu:AA}{lo hi:Option Int}{Q:AA->AC->Prop}(ht:IsTup s.heap t items)(hs:s.heap.IsSliceOf sl vl vu .none)(pl:IsPart vl lo)(pu:IsPart vu hi)
 (hw:HT.sIx items.size 0 lo=0/\HT.sIx items.size items.size hi=items.size)
 (h:Q (.ref t) s):AF (model prog w) A (getItem (.ref t) (.ref sl)) Q E s:=by
 obtain⟨os,hos,hcs,hds⟩:=id hs
 have hTs:s.TypeIs (.ref sl) "slice":=⟨os,hos,hcs⟩
 unfold getItem
 try with_reducible refine wpAny_holding ?_
 first|refine AD (AI ?_)|skip
 refine AD (wpAny_sequenceKey ht.typeIs (by decide) ?_)
 refine AD (wpAny_callSpecial?_slot (name:=AM "__getitem__") ht.typeIs PyProof.Rows.slot_tuple_getitem
  (wpAny_call_entry PyProof.Rows.slot_tuple_getitem ht.typeIs entry_tuple_getitem ?_ (args_tuple_getitem _ _)))
 show AF _ _ (Builtin.Tuple.tupleItemsOf (.ref t)>>=_) _ _ s
 refine AD (tupleItemsOf_ ht ?_)
 refine AD (wpAny_typeOf hTs ?_)
 rw [if_pos (by decide)]
 refine AD (HT.sliceApplied_gen hs pl pu ?_)
 have hno:(((HT.sIx items.size 0 lo:Nat):Int)==0 &&(1:Int)==1 &&(HT.sIx items.size items.size hi - HT.sIx items.size 0 lo)==items.size)=true:=by
  rw [hw.1,hw.2];simp
 show AF _ _ (if(((HT.sIx items.size 0 lo:Nat):Int)==0 &&(1:Int)==1 &&(HT.sIx items.size items.size hi - HT.sIx items.size 0 lo)==items.size)=true then _ else _) _ _ s
 rw [if_pos hno]
 refine AD (AD (m:=typeOf (.ref t)) (wpAny_typeOf ht.typeIs (AI ?_)))
 rw [if_pos (by decide)]
 wp_walk
 exact⟨_,rfl,AI h⟩
theorem b5I{X:Cx}:SlR X (fun x lo hi H Q=>∃a xs,x= .ref a/\SqT X.K H a xs/\(HT.sIx xs.length 0 lo=0/\HT.sIx xs.length xs.length hi=xs.length)/\Q (.ref a) H):=by
 intro pins s σ H x v vl vu lo hi sl Q I rx hs pl pu h
 obtain⟨a,xs,rfl,hx,hw,q⟩:=h
 cases rx
 obtain⟨its,r,ht,hz⟩:=I.tuple hx
 have hlen:its.toArray.size=xs.length:=by rw [Am];exact r.length.symm
 refine⟨"tuple",_,PyProof.Rows.slot_tuple_getitem.lookup,ht.typeIs, ?_⟩
 exact a0f ht hs pl pu (by rw [hlen];exact hw) ⟨.ref a,H,I,rfl,q⟩
theorem b0X{α:Type}{xs:List α}{lo hi:Option Int}(h:HT.sIx xs.length 0 lo=0/\HT.sIx xs.length xs.length hi=xs.length):cut xs lo hi=xs:=by
 unfold cut
 rw [h.1,h.2,List.drop_zero,Nat.sub_zero,List.take_length]
section
variable {X:Cx}
theorem a8X{h:Heap}{sl:AB}{vl vu:AA}{lo hi:Option Int}(hs:h.IsSliceOf sl vl vu .none)(pl:IsPart vl lo)(pu:IsPart vu hi):∃l u:Option (Int×Tok),h.IsSlice sl l u none/\l.map (·.1)=lo/\u.map (·.1)=hi:=by
 obtain⟨o,ho,hc,hd⟩:=hs
 cases pl with
 |none=>
  cases pu with
  |none=>exact⟨none,none,⟨o,ho,hc,hd⟩,rfl,rfl⟩
  |int j t=>exact⟨none,some (j,t),⟨o,ho,hc,hd⟩,rfl,rfl⟩
 |int i t=>
  cases pu with
  |none=>exact⟨some (i,t),none,⟨o,ho,hc,hd⟩,rfl,rfl⟩
  |int j t'=>exact⟨some (i,t),some (j,t'),⟨o,ho,hc,hd⟩,rfl,rfl⟩
theorem b74:SlR X (fun x lo hi H Q=>∃z,x= .str z/\z.length<=AN/\Q (.str (Txt.slice z lo hi)) H):=by
 intro pins s σ H x v vl vu lo hi sl Q I rx hs pl pu h
 obtain⟨z,rfl,hz,q⟩:=h
 obtain⟨t,rfl⟩:=rx
 obtain⟨l,u,hs',e1,e2⟩:=a8X hs pl pu
 subst e1 e2
 exact⟨"str",_,PySem.F.slot_str_getitem.lookup,typeIs_str _ _ _,wpAny_getItem_str_slice hs' rfl (post_val_or_str ⟨Nat.le_trans (Txt.slice_le z _ _) hz,fun t' k=>⟨.str _,H,I.tok _,⟨_,rfl⟩,q⟩⟩)⟩
theorem b73:SlR X (fun x lo hi H Q=>∃a xs,x= .ref a/\Q4 X.K H a xs/\∀p,H p=none->Q (.ref p) (m8 H p (.lst (PU.cut xs lo hi)))):=by
 intro pins s σ H x v vl vu lo hi sl Q I rx hs pl pu h
 obtain⟨a,xs,rfl,hx,q⟩:=h
 cases rx
 obtain⟨its,r,pl',hz⟩:=I.list hx
 have hlen:=r.length
 refine⟨"list",_,list_getitem_lookup,pl'.isList.typeIs, ?_⟩
 refine wpAny_getItem_list_slice pl'.isList hs pl pu .none (by simp) ?_ (by rw [Am];lia)
 rw [a46]
 refine⟨.ref s.heap.objs.size,_,I.laid (t':=s.toks) (o:= .lst (PU.cut xs lo hi)) (fun b ob q=>AU _ q) (AO _) ?_,rfl,q _ (I.hok.fresh (AO _))⟩
 refine⟨Nat.le_trans (a9K xs lo hi) hz,PU.cut its lo hi,0, ?_,Aq _ rfl⟩
 unfold PU.cut
 rw [hlen]
 exact(r.drop _).take _
def gSl(x:e9)(lo hi:Option Int):Option e9:=match x with
 | .val (.str z)=>if z.length<=AN then some (.val (.str ⟨(cut z.cps.toList lo hi).toArray⟩)) else none
 | .val (.tuple ps)=>some (.val (.tuple (cut ps lo hi)))
 | .val (.list ps)=>some (.own (cut ps lo hi))
 | .ow (.lst ps)=>some (.own (cut ps lo hi))
 | .bo (.lst ps)=>some (.own (cut ps lo hi))
 |_=>none
def rSl(K:AE):V->Option Int->Option Int->Hp->VK->Prop:=fun x lo hi H Q=>∃F rx rz,i9 F H/\K5 K F H x rx/\gSl rx lo hi=some rz/\∀v F' H',m9 K F H F' H' v rz->Q v H'
theorem slm:SlR X (rSl X.K):=by
 intro pins s σ H x v vl vu lo hi sl Q I rx hs pl pu h
 obtain⟨F,ra,rz,s0,h1,h2,k⟩:=h
 have lst:∀ps,PyData.items? ra.rd=some ps->(∃a xs,x= .ref a/\Q4 X.K H a xs/\i0 X.K F ps xs)->rz= .own (cut ps lo hi)->∃T id,typeLookup (.type T) "__getitem__"=pure (some (.builtin id))/\s.TypeIs v T/\AF (model X.prog X.w) X.A (getItem v (.ref sl)) (EP X pins σ Q) X.xe s:=fun ps e ⟨a,xs,e1,hq,rl⟩ e2=>by
  subst e2
  exact b73 pins s σ H x v vl vu lo hi sl Q I rx hs pl pu ⟨a,xs,e1,hq,fun p hp=>k _ _ _ (m9.lst s0 hp (rl.cut lo hi))⟩
 unfold gSl at h2
 split at h2
 ·rename_i z
  split at h2
  ·rename_i c
   cases h2
   cases h1
   refine b74 pins s σ H _ v vl vu lo hi sl Q I rx hs pl pu ⟨z,rfl,c, ?_⟩
   rw [b5J]
   exact k _ F H (m9.here s0 rfl)
  ·cases h2
 ·rename_i ps
  cases h2
  by_cases c:HT.sIx ps.length 0 lo=0/\HT.sIx ps.length ps.length hi=ps.length
  ·obtain⟨a,xs,rfl,hq,rl⟩:=h1
   have hlen:=rl.length
   refine b5I pins s σ H _ v vl vu lo hi sl Q I rx hs pl pu ⟨a,xs,rfl,o9 s0 hq.sq,by rw [hlen];exact c, ?_⟩
   rw [b0X c] at k
   exact k _ F H (m9.here s0 ⟨a,xs,rfl,hq,rl⟩)
  ·obtain⟨a,xs,rfl,hq,rl⟩:=h1
   have hlen:=rl.length
   refine b75 pins s σ H _ v vl vu lo hi sl Q I rx hs pl pu ⟨a,xs,rfl,o9 s0 hq.sq,by rw [hlen];exact c,fun p hp=> ?_⟩
   exact k _ _ _ (m9.tup s0 hp (rl.cut lo hi))
 ·rename_i ps
  cases h2
  obtain⟨a,xs,e1,hq,rl⟩:=h1
  exact lst ps rfl ⟨a,xs,e1,t8 s0 hq,rl⟩ rfl
 ·rename_i ps
  cases h2
  obtain⟨a,xs,e1,_,hq,rl⟩:=h1
  exact lst ps rfl ⟨a,xs,e1,Q4.of hq,rl⟩ rfl
 ·rename_i ps
  cases h2
  obtain⟨a,xs,e1,_,hq,rl⟩:=h1
  exact lst ps rfl ⟨a,xs,e1,Q4.of hq,rl⟩ rfl
 ·cases h2
abbrev MO:=b9->Option (Option Int)
def tMO(K:AE)(m:MO):TO:=fun σ H Q=>∃F ρ o,C5 K F H σ ρ/\m ρ=some o/\∀F' H',N7 F H F' H'->Q o H'
abbrev EO(X:Cx)(e:Option AG)(m:MO):Prop:=PO X e (tMO X.K m)
def a15:MO:=fun _=>some none
def b0b:e9->Option (Option Int)
 | .val (.int i)=>some (some i)
 |_=>none
def a16(m:M):MO:=fun ρ=>(m ρ).bind b0b
theorem a29:EO X none a15:=fun pins s σ H Q I ⟨F,ρ,o,en,e,k⟩=>by
 cases e
 exact b5t pins s σ H Q I (k F H (N7.refl en.fh))
theorem a3a{e:AG}{m:M}(h:EE X e m):EO X (some e) (a16 m):=fun pins s σ H Q I ⟨F,ρ,o,en,e1,k⟩=>by
 obtain⟨r,e2,e3⟩:=bind_some e1
 refine b5u h pins s σ H Q I ⟨F,ρ,r,en,e2,fun v F1 H1 o1=> ?_⟩
 unfold b0b at e3
 split at e3
 ·cases e3
  exact⟨_,o1.rep,k F1 H1 o1.x⟩
 ·cases e3
def a13(m:M)(lo hi:MO):M:=fun ρ=>(m ρ).bind fun r=>(lo ρ).bind fun l=>(hi ρ).bind fun h=>gSl r l h
theorem a04{e:AG}{lo hi:Option AG}{m:M}{ml mh:MO}{pos p2:Pos}(he:EE X e m)(hl:EO X lo ml)(hh:EO X hi mh):EE X (.Subscript e (.Slice lo hi none p2) pos) (a13 m ml mh):=
 t7 (b3B slm he hl hh) fun σ H Q h0=>p9 h0 fun F ρ r en e k=>by
  obtain⟨ra,e1,e⟩:=bind_some e
  obtain⟨l,e2,e⟩:=bind_some e
  obtain⟨h,e3,e⟩:=bind_some e
  exact⟨F,ρ,ra,en,e1,fun v F1 H1 o1=>⟨F1,ρ,l,en.ext o1.x,e2,fun F2 H2 x2=>⟨F2,ρ,h,(en.ext o1.x).ext x2,e3,fun F3 H3 x3=>⟨F3,ra,r,x3.fh,(o1.rep.ext x2).ext x3,e,fun z F4 H4 o4=>k z F4 H4 (m9.trans ((o1.x.trans x2).trans x3) o4)⟩⟩⟩⟩
end
def Its(x:Str):It:=⟨fun i _=>i<x.cps.size,fun i H v H'=>H'=H/\∃c,x.cps[i]?=some c/\v= .str ⟨#[c]⟩,fun i _=>x.cps.size<=i⟩
theorem a8u{P:AJ}{w:AH}{K:AE}{tg:AG}(b:Bool)(it:AB)(x:Str)(t:Tok):a8F P w K tg (Its x) [it] it (fun i h=>h.IsStrIter it (if b then "str_ascii_iterator" else "str_iterator") x t i) where
 mem:=by simp
 obj:=fun i h st c hb=>by
  have e:c=it:=by simpa using hb
  subst e
  obtain⟨o,e,c,d⟩:=st
  exact⟨o,e,fun v z=>by rw [d] at z;cases z⟩
 keep:=fun i h h' st k=>let ⟨o,e,r⟩:=st;⟨o,k it (by simp) o e,r⟩
 item:=by
  intro X hP hw hK hc i pins s σ H E I hf st hg
  subst hP hw hK
  obtain⟨f0,f1,f2,f3,f4,f5⟩:=hf it (by simp)
  have hg:i<x.cps.size:=hg
  have hx:x.cps[i]?=some x.cps[i]:=by simp [hg]
  have fin:∀h':Heap,h'.IsStrIter it (if b then "str_ascii_iterator" else "str_iterator") x t (i+1)->Heap.SameBut it s.heap h'->∃u,some (Value.str ⟨#[x.cps[i]]⟩ s.toks)=some u/\
   AF (model X.prog X.w) X.A (letOwnedTupleGo tg (.ref it) u) (fun _ s2=>∃y H',g8 X pins σ H' s2/\j6 y u/\(Its x).yld i H y H'/\s2.heap.IsStrIter it (if b then "str_ascii_iterator" else "str_iterator") x t (i+1)/\∀b∈[it],H' b=none) E {s with heap:=h',toks:=s.toks+1}:=fun h' st' sb=>by
   have I1:g8 X pins σ H {s with heap:=h',toks:=s.toks+1}:=I.turned (fun b o hb e=>(sb.2 b hb).trans e) f0 f1 f3 f4 f5
   obtain⟨o,e,c,d⟩:=id st'
   refine⟨_,rfl,a99 (s:={s with heap:=h',toks:=s.toks+1}) (n:=if b then "str_ascii_iterator" else "str_iterator") e c d (by cases b<;>decide) ⟨.str ⟨#[x.cps[i]]⟩,H,I1,⟨_,rfl⟩,⟨rfl,_,hx,rfl⟩,st',fun b hb=>(hf b hb).1⟩⟩
  cases b with
  |true=>exact wpAny_pyNext_ascii_item st hx fun h' a b=>fin h' a b
  |false=>exact wpAny_pyNext_wide_item st hx fun h' a b=>fin h' a b
 done:=by
   intro X hP hw hK hc i pins s σ H E I hf st hg
   subst hP hw hK
   obtain⟨f0,f1,f2,f3,f4,f5⟩:=hf it (by simp)
   have hg:x.cps.size<=i:=hg
   have hx:x.cps[i]?=none:=by simp [hg]
   cases b with
   |true=>exact wpAny_pyNext_ascii_end (I.ok.hd hc) st hx fun h' eb=>⟨rfl,I.turned (t':=s.toks) (fun b o hb e=>eb b o hb e) f0 f1 f3 f4 f5⟩
   |false=>exact wpAny_pyNext_wide_end (I.ok.hd hc) st hx fun h' eb=>⟨rfl,I.turned (t':=s.toks) (fun b o hb e=>eb b o hb e) f0 f1 f3 f4 f5⟩
 self:=fun _ _ _ _ _ st h=>by
  cases b with
  |true=>exact wpAny_pyIter_striter_ascii st h
  |false=>exact wpAny_pyIter_striter_wide st h
section
variable {X:Cx}{tg:AG}
structure b8C(K:AE)(F:Hp)(J:It)(ps:List PV):Prop where
 st:∀i H',i9 F H'->ps.length<=i->J.stop i H'
 go:∀i p H',i9 F H'->ps[i]?=some p->J.go i H'
 yd:∀i p x H' H'',i9 F H'->ps[i]?=some p->J.yld i H' x H''->H''=H'/\z7 K F p x
def SIF(K:AE)(mi:MI)(wi:TI):Prop:=∀F H σ ρ ps (R:It->Hp->Prop),C5 K F H σ ρ->mi ρ=some ps->(∀F1 H1 J,N7 F H F1 H1->b8C K F1 J ps->R J H1)->wi σ H R
abbrev EIF(X:Cx)(tg iter:AG)(mi:MI):Prop:=∃wi,PI X tg iter wi/\SIF X.K mi wi
theorem b2B{K:AE}{F:Hp}{J:It}{ps:List PV}{g:TG}{tb:TS}{D:Q3}{σ:L2.St}{H:Hp}(S:b8C K F J ps)(Pv:Nat->L2.St->Hp->Prop)(h0:Pv 0 σ H)(hl:∀i σ H,Pv i σ H->i9 F H)
 (hs:∀i p x σ H,ps[i]?=some p->z7 K F p x->Pv i σ H->g x σ H fun σ2 H2=>tb {D with nx:=Pv (i+1),ct:=Pv (i+1),bk:=D.nx} σ2 H2) (hd:∀σ H,Pv ps.length σ H->D.nx σ H):
 ∃W:Nat->Nat->L2.St->Hp->Prop,(∃m,W 0 m σ H)/\∀i m σ H,W i m σ H->
  (J.stop i H/\D.nx σ H)\/(J.go i H/\∃N:L2.St->Hp->Prop,(∀σ' H',N σ' H'->∃m',m'<m/\W (i+1) m' σ' H')/\∀x H',J.yld i H x H'->g x σ H' fun σ2 H2=>tb {D with nx:=N,ct:=N,bk:=D.nx} σ2 H2):=by
 refine⟨fun i m σ H=>m=ps.length - i/\i<=ps.length/\Pv i σ H,⟨ps.length,by simp,Nat.zero_le _,h0⟩, ?_⟩
 rintro i m σ H ⟨rfl,hi,p⟩
 have q:=hl i σ H p
 by_cases hlt:i<ps.length
 ·have e:ps[i]?=some ps[i]:=by simp [hlt]
  refine .inr ⟨S.go i ps[i] H q e,Pv (i+1),fun σ' H' p'=>⟨ps.length - (i+1),by lia,rfl,hlt,p'⟩,fun x H' y=> ?_⟩
  obtain⟨e2,rx⟩:=S.yd i ps[i] x H H' q e y
  subst e2
  exact hs i ps[i] x σ _ e rx p
 ·have e:i=ps.length:=by lia
  subst e
  exact .inl ⟨S.st _ H q (AO _),hd σ H p⟩
theorem b4B{iter:AG}{body:List Stmt}{mi:MI}{g:TG}{t:PV->b9->Option b9}{b:MS}{pos:Pos}(hp:PassesOwn (model X.prog X.w) X.A X.env X.xe)(hc:X.calm=true)(hi:EIF X tg iter mi)(hg:PG X tg g)(T:b0N X.K g t)(hb:ESs X body b)
 (hs:∀x,foldedSetIterable iter X.env x=pure x:=by intro _;rfl):ES X (.For tg iter body [] pos) (G3 mi t b):=by
 obtain⟨wi,h1,h2⟩:=hi
 exact u7 (a6W hp hc h1 hg hb hs) fun D σ H h0=>z6 h0 fun F0 H0 F ρ fl so e fin=>by
  obtain⟨ps,e1,e⟩:=bind_some e
  refine h2 F H σ ρ ps _ so.e e1 fun F1 H1 J x S=> ?_
  have fin1:=fin.later x.f
  refine b2B S (PvL X.K F0 H0 F1 b t ps fl) ⟨F1,ρ,PU.i9.refl F1,so.ext x,e⟩ (fun i σ H ⟨F2,_,s,so2,_⟩=>s.trans so2.e.fh) (fun i p y σ H ep rp hp=> ?_) (fun σ H hp=>X8 fin1 hp)
  exact R3 T fin1 ep hp fun F2 s=>z7.mono s _ rp
end
def b4L:e9->e9->Option e9
 | .val (.int i),.val (.int j)=>some (.val (.bool (decide (i<j))))
 | .val (.str i),.val (.str j)=>some (.val (.bool (decide (i.cps.toList<j.cps.toList))))
 |_,_=>none
section
variable {X:Cx}
theorem b5k:OpM X (compareOp .Lt) b4L:=by
 intro pins s σ H x y v u Q I rx ry h
 obtain⟨F,ra,rb,rz,s0,h1,h2,h3,k⟩:=h
 unfold b4L at h3
 split at h3
 ·cases h3;cases h1;cases h2
  exact b87 pins s σ H _ _ v u Q I rx ry ⟨_,_,rfl,rfl,k _ F H (m9.here s0 rfl)⟩
 ·cases h3;cases h1;cases h2
  exact b1C pins s σ H _ _ v u Q I rx ry ⟨_,_,rfl,rfl,k _ F H (m9.here s0 rfl)⟩
 ·cases h3
def a20(neg:Bool)(x y:e9):Option e9:=match x,y with
 | .val (.str i),.val (.str j)=>some (.val (.bool (if neg then !(!(Builtin.Str.occurrences j i 0 j.length 1).isEmpty) else !(Builtin.Str.occurrences j i 0 j.length 1).isEmpty)))
 |x,y=>gIn neg x y
theorem a6T(hu:X.A.units+64<cLine):OpM X (compareOp .In) (a20 false):=by
 intro pins s σ H x y v u Q I rx ry h
 obtain⟨F,ra,rb,rz,s0,h1,h2,h3,k⟩:=h
 unfold a20 at h3
 split at h3
 ·cases h3;cases h1;cases h2
  exact b1B pins s σ H _ _ v u Q I rx ry ⟨_,_,rfl,rfl,k _ F H (m9.here s0 rfl)⟩
 ·exact b7I hu pins s σ H x y v u Q I rx ry ⟨F,_,_,rz,s0,h1,h2,h3,k⟩
theorem a9f(hu:X.A.units+64<cLine):OpM X (compareOp .NotIn) (a20 true):=by
 intro pins s σ H x y v u Q I rx ry h
 obtain⟨F,ra,rb,rz,s0,h1,h2,h3,k⟩:=h
 unfold a20 at h3
 split at h3
 ·cases h3;cases h1;cases h2
  exact a6R pins s σ H _ _ v u Q I rx ry ⟨_,_,rfl,rfl,k _ F H (m9.here s0 rfl)⟩
 ·exact b1D hu pins s σ H x y v u Q I rx ry ⟨F,_,_,rz,s0,h1,h2,h3,k⟩
def a7E:e9->e9->Option e9
 | .val (.str z),.val (.int k)=>if okC (fun k n=>0<=k/\k<=1000000/\n*k<=16777216) k z.length=true then some (.val (.str ⟨(AV k.toNat z.cps.toList).flatten.toArray⟩)) else none
 | .ow (.lst ps),.val (.int k)=>if okC (fun k n=>0<=k/\k<=1000000/\n*k<=16777216) k ps.length=true then some (.own (AV k.toNat ps).flatten) else none
 |x,y=>b65 x y
theorem a3O(xs:List Nat):∀(m:Nat) (acc:Array Nat),(AV m xs.toArray).foldl (· ++·) acc=acc++(AV m xs).flatten.toArray
 |0,acc=>by simp
 |m+1,acc=>by
  rw [Aa,List.foldl_cons,a3O xs m,Aa,List.flatten_cons]
  apply Array.ext'
  simp
theorem b5V{z:Str}{k:Int}(h0:0<=k):Txt.mul z k=⟨(AV k.toNat z.cps.toList).flatten.toArray⟩:=by
 unfold Txt.mul
 by_cases h1:k<1
 ·have:k=0:=by lia
  subst this
  rfl
 ·rw [if_neg h1]
  by_cases h2:(k==1||z.length==0)=true
  ·rw [if_pos h2]
   rw [Bool.or_eq_true] at h2
   cases z with
   |mk a=>
    rcases h2 with h2|h2
    ·have:k=1:=by simpa using h2
     subst this
     show(⟨a⟩:Str)=_
     congr 1
     apply Array.ext'
     simp
    ·have ha:a.size=0:=by simpa [Str.length] using h2
     have:a= #[]:=Array.eq_empty_of_size_eq_zero ha
     subst this
     congr 1
     apply Array.ext'
     simp
  ·rw [if_neg h2]
   have e:z.cps=z.cps.toList.toArray:=by simp
   congr 1
   rw [e,a3O]
   simp
theorem a4q{K:AE}{H:Hp}{ps:List PV}{xs:List V}(r:i0 K H ps xs):∀m:Nat,i0 K H (AV m ps).flatten (AV m xs).flatten
 |0=>rfl
 |m+1=>by
  rw [Aa,Aa,List.flatten_cons,List.flatten_cons]
  exact r.append (a4q r m)
theorem b3t:OpM X (binaryOp .Mult) a7E:=by
 intro pins s σ H x y v u Q I rx ry h
 obtain⟨F,ra,rb,rz,s0,h1,h2,h3,k⟩:=h
 unfold a7E at h3
 split at h3
 ·rename_i z n
  split at h3
  ·rename_i c
   obtain⟨c0,c1,c2⟩:=a1j.mp c
   cases h3;cases h1;cases h2
   obtain⟨t,rfl⟩:=rx
   obtain⟨t',rfl⟩:=ry
   have hz:z.length*n.toNat<=AN:=by
    rw [sizeLine_eq]
    have:((z.length*n.toNat:Nat):Int)=z.length*n:=by rw [Int.natCast_mul,Int.toNat_of_nonneg c0]
    lia
   refine SB.mul ⟨?_,fun h4 h5 h6=> ?_,fun h4 h5=> ?_⟩ fun t' k'=>⟨.str _,H,I.tok _,⟨_,rfl⟩, ?_⟩
   ·have e1:¬n< -(2 ^ 63:Int):=by lia
    have e2:¬n>=2 ^ 63:=by lia
    simp [e1,e2]
    lia
   ·have h7:(2 ^ 63 - 1:Int)/ n<z.length:=h6
    have h8:(2 ^ 63 - 1:Int)<(z.length:Int)*n:=by
     have:=Int.lt_mul_of_ediv_lt (a:=(2 ^ 63 - 1:Int)) (b:=(z.length:Int)) (c:=n) (by lia) h7
     exact this
    lia
   ·unfold Builtin.Str.tooLong
    rw [decide_eq_false (by lia)]
   ·rw [b5V c0]
    exact k _ F H (m9.here s0 rfl)
  ·cases h3
 ·rename_i ps n
  split at h3
  ·rename_i c
   obtain⟨c0,c1,c2⟩:=a1j.mp c
   cases h3;cases h2
   obtain⟨a,xs,rfl,fa,hq,rl⟩:=h1
   have hlen:=rl.length
   have hz:xs.length*n.toNat<=AN:=by
    rw [sizeLine_eq,hlen]
    have:((ps.length*n.toNat:Nat):Int)=ps.length*n:=by rw [Int.natCast_mul,Int.toNat_of_nonneg c0]
    lia
   exact b7F pins s σ H _ _ v u Q I rx ry ⟨a,n,xs,rfl,rfl,hq,by lia,by lia,hz,fun p hp=>k _ _ _ (m9.lst s0 hp (a4q rl _))⟩
  ·cases h3
 ·exact b3s pins s σ H x y v u Q I rx ry ⟨F,_,_,rz,s0,h1,h2,h3,k⟩
def a6u(x:e9):Option e9:=match x with
 | .val (.str z)=>if z.length<=AN then some (.own (z.cps.toList.map fun c=> .str ⟨#[c]⟩)) else none
 |x=>a97 x
theorem b2f(hc:X.calm=true):A9 X (.type "list") (rC1 X.K a6u):=by
 intro pins s σ H xs us Q I rv h
 obtain⟨F,x,rx,rz,e0,s0,h1,h2,k⟩:=h
 unfold a6u at h2
 split at h2
 ·rename_i z
  split at h2
  ·rename_i c
   cases h2
   cases h1
   subst e0
   obtain⟨u,rfl,t,rfl⟩:=Z3 rv
   refine call_list_str (I.ok.hd hc) z t (fun h' tk acc' c' kp e ia=> ?_) (by exact c)
   obtain⟨ia1,ia2⟩:=ia
   have hv:j3 (z.cps.toList.map fun c=>V.str ⟨#[c]⟩) acc'.toList:=by
    have key:∀(cs:List Nat) (us:List AA),us.length=cs.length->(∀(i:Nat) v,us[i]?=some v->∃c u,cs[i]?=some c/\v= .str ⟨#[c]⟩ u)->j3 (cs.map fun c=>V.str ⟨#[c]⟩) us:=by
     intro cs
     induction cs with
     |nil=>
      intro us h1 h2
      have:us=[]:=List.length_eq_zero_iff.mp h1
      subst this;exact .nil
     |cons c cs ih=>
      intro us h1 h2
      cases us with
      |nil=>cases h1
      |cons w us=>
       obtain⟨c',u,e1,e2⟩:=h2 0 w rfl
       simp at e1
       subst e1
       exact .cons ⟨u,e2⟩ (ih us (by simpa using h1) fun i v hv=>by simpa using h2 (i+1) v (by simpa using hv))
    refine key _ _ (by simpa using ia1) fun i v hv=> ?_
    have hv':acc'[i]?=some v:=by simpa using hv
    obtain⟨c,u,e1,e2⟩:=ia2 i v hv'
    exact⟨c,u,by simpa using e1,e2⟩
   have hlen:(z.cps.toList.map fun c=>V.str ⟨#[c]⟩).length<=AN:=by rw [AW];simpa [Str.length] using c
   refine⟨.ref s.heap.objs.size,_,I.laid (t':=tk) kp (AO _) (show t4 X.prog X.w _ h' _ (.lst (z.cps.toList.map fun c=>V.str ⟨#[c]⟩)) from⟨hlen,acc'.toList,c',hv,by rw [e]⟩),rfl,k _ _ _ (m9.lst s0 (I.hok.fresh (AO _)) ?_)⟩
   have:∀cs:List Nat,i0 X.K F (cs.map fun c=>PyData.str ⟨#[c]⟩) (cs.map fun c=>V.str ⟨#[c]⟩):=by
    intro cs
    induction cs with
    |nil=>rfl
    |cons c cs ih=>exact⟨_,_,rfl,rfl,ih⟩
   exact this _
  ·cases h2
 ·exact b4s pins s σ H xs us Q I rv ⟨F,x,_,rz,e0,s0,h1,h2,k⟩
end
theorem a2a:fillsNumberSlot (.type "tuple") "mul"=pure false:=
 PySem.fillsNumberSlot_seq (id:="tuple.__mul__") (r:=some (.builtin "tuple.__rmul__")) PySem.F.slot_tuple_mul.lookup (by decide+kernel) PySem.F.slot_tuple_rmul.lookup (by decide+kernel)
theorem a6Y:seqRepeat? (.type "tuple")=pure (some (.builtin "tuple.__mul__")):=by
 unfold seqRepeat?
 rw [PySem.seqSlot_of (T:="tuple") (name:="__mul__") (id:="tuple.__mul__") PySem.F.slot_tuple_mul.lookup (by decide+kernel),PySem.seqSlot_of (T:="tuple") (name:="__rmul__") (id:="tuple.__rmul__") PySem.F.slot_tuple_rmul.lookup (by decide+kernel)]
 rfl
theorem a3T(a:Int)(t:Tok)(l:AB)(items:Array AA)(n:Nat)(dd:Option AB)(sl:Array (Option AA)):Meets (Builtin.«int.__rmul__» ⟨[.int a t,.ref l],[]⟩) (fun _ R s=>s.heap.get? l=some {cls:= .type "tuple",dict:=dd,data:= .seq items n,slots:=sl}/\R (.ok (.ret Value.notImplemented)) s):=
 .of_wp fun prog w A R s h=>by obtain⟨hp,g,d,tk,os⟩:=s;obtain⟨hl,h⟩:=h;wp_walk;exact⟨_,rfl,h⟩
theorem a4G(l:AB)(items:Array AA)(n:Nat)(dd:Option AB)(sl:Array (Option AA))(x:Int)(u:Tok)(hc0:(decide (x< -(2 ^ 63))||decide (x>=2 ^ 63))=false)(hc1:(items.isEmpty||x==1)=false)(hc2:(decide (x<=0)||items.isEmpty)=false)(hc3:¬(items.size:Int)*x>(2 ^ 63 - 1)/ 8)(hc4:Builtin.Tuple.tupleTooMany ((items.size:Int)*x)=false)(hz:((AV x.toNat items).foldl (· ++·) #[]).size<=AN):
 Meets (Builtin.«tuple.__mul__» ⟨[.ref l,.int x u],[]⟩) (fun _ R s=>s.heap.get? l=some {cls:= .type "tuple",dict:=dd,data:= .seq items n,slots:=sl}/\R (.ok (.ret (Value.ref s.heap.objs.size))) {s with heap:=s.heap.push {cls:=Value.type "tuple",data:=Data.seq ((AV x.toNat items).foldl (· ++·) #[])},toks:=s.toks}):=
 .of_wp fun prog w A R s h=>by
  obtain⟨hp,g,d,tk,os⟩:=s;obtain⟨hl,h⟩:=h
  wp_walk
  have ht:IsTup hp l items:=⟨_,hl,rfl,n,rfl⟩
  rw [if_neg (by rw [hc0];exact Az)]
  wp_walk
  rw [if_neg hc3]
  wp_walk
  exact⟨_,rfl,h⟩
section
variable {X:Cx}
theorem b5j:OpR X (binaryOp .Mult) (fun x y H Q=>∃a xs n,x= .ref a/\y= .int n/\SqT X.K H a xs/\xs≠[]/\2<=n/\n<=1000000/\xs.length*n.toNat<=AN/\∀p,H p=none->Q (.ref p) (m8 H p (.tup (AV n.toNat xs).flatten))):=by
 intro pins s σ H x y v u Q I rx ry h
 obtain⟨a,xs,n,rfl,rfl,hx,hne,h1,h2,hz,q⟩:=h
 cases rx
 obtain⟨t,rfl⟩:=ry
 obtain⟨its,r,ht,_⟩:=I.tuple hx
 have hlen:its.toArray.size=xs.length:=by rw [Am];exact r.length.symm
 have hie:its.toArray.isEmpty=false:=by
  cases its with
  |nil=>exact absurd (r.nil_iff.mp rfl) hne
  |cons _ _=>rfl
 have hnew:List.foldl (fun x1 x2=>x1++x2) #[] (AV n.toNat its.toArray)=(AV n.toNat its).flatten.toArray:=by
  have:=a1L its n.toNat []
  rw [Ag] at this
  exact this
 have hc:((xs.length*n.toNat:Nat):Int)=(xs.length:Int)*n:=by rw [Int.natCast_mul,Int.toNat_of_nonneg (by lia)]
 have hsl:=sizeLine_eq
 obtain⟨⟨cls,dd,data,sl⟩,ho,hc',m,hd⟩:=id ht
 simp only at hc' hd
 subst hc' hd
 have hzz:(List.foldl (fun x1 x2=>x1++x2) #[] (AV n.toNat its.toArray)).size<=AN:=by
  rw [hnew,Am,a6F,Nat.mul_comm,<-r.length];exact hz
 refine wpAny_binaryOp_repeat_ref (T:="tuple") (U:="int") (by decide) ht.typeIs (fun s'=>typeIs_int s' n t) a2a F.fills_int_mul F.slot_int_rmul a6Y F.slot_int_index.lookup
  (call_meets F.slot_int_rmul (typeIs_int s n t) F.entry_int_rmul (F.args_int_rmul_2 _ _) (a3T n t a its.toArray m dd sl)
   ⟨ho,rfl,ht.typeIs,call_meets PySem.F.slot_tuple_mul ht.typeIs PySem.F.entry_tuple_mul (PySem.F.args_tuple_mul_2 _ _) (a4G a its.toArray m dd sl n t ?_ ?_ ?_ ?_ ?_ hzz) ⟨ho, ?_⟩⟩)
 ·have e1:¬n< -(2 ^ 63:Int):=by lia
  have e2:¬n>=2 ^ 63:=by lia
  simp [e1,e2]
  lia
 ·rw [hie]
  have:n≠1:=by lia
  simp [this]
 ·rw [hie]
  have:¬n<=0:=by lia
  simp [this]
 ·rw [hlen,<-hc]
  lia
 ·rw [hlen,<-hc]
  unfold Builtin.Tuple.tupleTooMany
  rw [decide_eq_false (by lia)]
 ·rw [hnew]
  refine⟨.ref s.heap.objs.size,_,I.laid (t':=s.toks) (o:= .tup (AV n.toNat xs).flatten) (fun b ob q=>AU _ q) (AO _) ?_,rfl,q _ (I.hok.fresh (AO _))⟩
  exact⟨by rw [a6F,Nat.mul_comm];exact hz,_,r.rep n.toNat,IsTup.new _ _⟩
def U7:e9->e9->Option e9
 | .val (.tuple ps),.val (.int k)=>if okC (fun k n=>2<=k/\k<=1000000/\1<=n/\n*k<=16777216) k ps.length=true then some (.val (.tuple (AV k.toNat ps).flatten)) else none
 |x,y=>a7E x y
theorem D8:OpM X (binaryOp .Mult) U7:=by
 intro pins s σ H x y v u Q I rx ry h
 obtain⟨F,ra,rb,rz,s0,h1,h2,h3,k⟩:=h
 unfold U7 at h3
 split at h3
 ·rename_i ps n
  split at h3
  ·rename_i c
   obtain⟨c0,c1,c2,c3⟩:=a1j.mp c
   cases h3;cases h2
   obtain⟨a,xs,rfl,hq,rl⟩:=h1
   have hlen:=rl.length
   have hz:xs.length*n.toNat<=AN:=by
    rw [sizeLine_eq,hlen]
    have:((ps.length*n.toNat:Nat):Int)=ps.length*n:=by rw [Int.natCast_mul,Int.toNat_of_nonneg (by lia)]
    lia
   refine b5j pins s σ H _ _ v u Q I rx ry ⟨a,xs,n,rfl,rfl,o9 s0 hq.sq, ?_,by lia,by lia,hz,fun p hp=>k _ _ _ (m9.tup s0 hp (a4q rl _))⟩
   intro e
   rw [e] at hlen
   simp at hlen
   lia
  ·cases h3
 ·exact b3t pins s σ H x y v u Q I rx ry ⟨F,_,_,rz,s0,h1,h2,h3,k⟩
end
section
variable {prog:AJ}{w:AH}{A:AL}{E:AA->AC->Prop}{s:AC}
end
section
variable {prog:AJ}{w:AH}{A:AL}{E:AA->AC->Prop}{s:AC}{u:AA}{T gid:String}{fp:List AB}{n:Nat}{P:Nat->AA->Prop}{Sq:Heap->Prop}
end
section
variable {prog:AJ}{w:AH}{A:AL}{E:AA->AC->Prop}{s:AC}{u:AA}{T gid:String}{fp:List AB}{n:Nat}{P:Nat->AA->Prop}{Sq:Heap->Prop}
end
section
variable {prog:AJ}{w:AH}{A:AL}{E:AA->AC->Prop}{s:AC}
end
section
variable {X:Cx}
end
section
variable {X:Cx}
def b5n(i j:Nat)(ρ:b9):List PV->Option Fl
 |[p,q]=>some (.nx (setAll ρ [i,j] [.val p,.val q]))
 |_=>none
def b7s(i j:Nat)(m:MA):MS:=fun ρ=>(m ρ).bind (b5n i j ρ)
theorem b6U(i j:Nat){x y:Str}{a b:AG}{m:MA}{px py pt pos:Pos}{kt k2 pt2}(hN:X.N.Nodup)(hc:X.calm=true)(ha:EA X [a,b] m)(hij:i≠j:=by decide)(hi:X.N[i]?=some x:=by rfl)(hj:X.N[j]?=some y:=by rfl)
 (hx:X.env.scope.names.lookup x=some .local:=by rfl) (hy:X.env.scope.names.lookup y=some .local:=by rfl)
 (hw:swappedStores [.Tuple [.Name x px,.Name y py] kt pt] (.Tuple [a,b] k2 pt2) X.env=pure (some [x,y]):=by rfl)
 (hs:swapsWithSole [.Tuple [.Name x px,.Name y py] kt pt] (.Tuple [a,b] k2 pt2) pos.line X.env=pure false:=by rfl):
 ES X (.Assign [.Tuple [.Name x px,.Name y py] kt pt] (.Tuple [a,b] k2 pt2) pos) (b7s i j m):=
 u7 (b7T hc hN hi hj hij hx hy ha hw hs) fun D σ H h0=>z6 h0 fun F0 H0 F ρ fl so e fin=>by
  obtain⟨ps,e1,e⟩:=bind_some e
  unfold b5n at e
  split at e
  ·rename_i p q
   cases e
   refine⟨F,ρ,_,so.e,e1,fun vs F' H' x rl=> ?_⟩
   obtain⟨v,t,rfl,hp,w,t2,rfl,hq,rfl⟩:=id rl
   exact⟨v,w,rfl,fin _ F' H' x.f ((so.ext x).setAll (is:=[i,j]) rl)⟩
  ·cases e
theorem b27(i j:Nat)(m:MA)(ρ:b9):b7s i j m ρ=(m ρ).bind (b5n i j ρ):=Eq.trans rfl rfl
theorem b7J(i j:Nat)(ρ:b9)(p q:PV):b5n i j ρ [p,q]=some (.nx ((ρ.set i (some (.val p))).set j (some (.val q)))):=Eq.trans rfl rfl
end
def r8(kvs:List (List g9×PV))(k:List g9):Option PV:=(kvs.find? fun kv=>decide (kv.1=k)).map (·.2)
def a1m(kvs:List (List g9×PV))(k:List g9)(v:PV):List (List g9×PV):=
 if(kvs.any fun kv=>decide (kv.1=k))=true then kvs.map (fun kv=>if kv.1=k then(kv.1,v) else kv) else kvs++[(k,v)]
theorem v8.length{K:AE}{H:Hp}:∀{kvs:List (List g9×PV)} {ys:List (List g9×V)},v8 K H kvs ys->ys.length=kvs.length
 |[],_,h=>by cases h;rfl
 |(k,p)::r,_,⟨v,t,e,q,h⟩=>by subst e;rw [AT,AT,v8.length h]
theorem v8.any{K:AE}{H:Hp}{k:List g9}:∀{kvs:List (List g9×PV)} {ys:List (List g9×V)},v8 K H kvs ys->(ys.any fun kv=>decide (kv.1=k))=(kvs.any fun kv=>decide (kv.1=k))
 |[],_,h=>by cases h;rfl
 |(k',p)::r,_,⟨v,t,e,q,h⟩=>by subst e;rw [List.any_cons,List.any_cons,v8.any h]
theorem v8.val{K:AE}{H:Hp}{k:List g9}:∀{kvs:List (List g9×PV)} {ys:List (List g9×V)},v8 K H kvs ys->(∀p,r8 kvs k=some p->∃v,V4 ys k=some v/\z7 K H p v)/\(r8 kvs k=none->V4 ys k=none)
 |[],_,h=>by cases h;exact⟨fun p e=>(nomatch e),fun _=>rfl⟩
 |(k',p)::r,_,⟨v,t,e,q,h⟩=>by
  subst e
  by_cases c:k'=k
  ·have e1:r8 ((k',p)::r) k=some p:=by simp [r8,List.find?_cons,c]
   have e2:V4 ((k',v)::t) k=some v:=a1z c
   rw [e1,e2]
   exact⟨fun p' e'=>(by cases e';exact⟨v,rfl,q⟩),fun e'=>(nomatch e')⟩
  ·have e1:r8 ((k',p)::r) k=r8 r k:=by simp [r8,List.find?_cons,c]
   have e2:V4 ((k',v)::t) k=V4 t k:=a1y c
   rw [e1,e2]
   exact v8.val h
theorem v8.repl{K:AE}{H:Hp}{k:List g9}{p:PV}{v:V}(hp:z7 K H p v):∀{kvs:List (List g9×PV)} {ys:List (List g9×V)},v8 K H kvs ys->v8 K H (kvs.map fun kv=>if kv.1=k then(kv.1,p) else kv) (ys.map fun kv=>if kv.1=k then(kv.1,v) else kv)
 |[],_,h=>by cases h;exact rfl
 |(k',p')::r,_,⟨v',t,e,q,h⟩=>by
  subst e
  by_cases c:k'=k
  ·rw [AR,AR]
   simp only [if_pos c]
   exact⟨v,_,rfl,hp,v8.repl hp h⟩
  ·rw [AR,AR]
   simp only [if_neg c]
   exact⟨v',_,rfl,q,v8.repl hp h⟩
theorem v8.snoc{K:AE}{H:Hp}{k:List g9}{p:PV}{v:V}(hp:z7 K H p v):∀{kvs:List (List g9×PV)} {ys:List (List g9×V)},v8 K H kvs ys->v8 K H (kvs++[(k,p)]) (ys++[(k,v)])
 |[],_,h=>by cases h;exact⟨v,[],rfl,hp,rfl⟩
 |(k',p')::r,_,⟨v',t,e,q,h⟩=>by subst e;exact⟨v',_,rfl,q,v8.snoc hp h⟩
theorem v8.put{K:AE}{H:Hp}{k:List g9}{p:PV}{v:V}{kvs:List (List g9×PV)}{ys:List (List g9×V)}(r:v8 K H kvs ys)(hp:z7 K H p v):v8 K H (a1m kvs k p) (a2e ys k v):=by
 unfold a1m a2e
 rw [r.any]
 split
 ·exact r.repl hp
 ·exact r.snoc hp
theorem m9.dct{K:AE}{F H:Hp}{a:AB}(s:i9 F H)(n:H a=none):m9 K F H F (m8 H a (.dT [])) (.ref a) (.dct []):=
 ⟨N7.layH s n,⟨a,[],rfl,s.free n,j0,rfl⟩,fun _ _ _ e=>by cases e;exact n⟩
section
variable {X:Cx}
def a7U:M:=fun _=>some (.dct [])
theorem a6m{pos:Pos}:EE X (.Dict [] [] pos) a7U:=
 t7 b3A fun σ H Q h0=>p9 h0 fun F ρ r en e k=>by
  cases e
  exact fun d hd=>k _ _ _ (m9.dct en.fh hd)
def a7v(i:Nat)(ρ:b9)(p:PV)(k:List g9):Option Fl:=match ρ[i]? with
 |some (some (.ow (.dct kvs)))=>if kvs.length<AN then some (.nx (ρ.set i (some (.dct (a1m kvs k p))))) else none
 |_=>none
def a9O(i:Nat)(ρ:b9)(k:List g9):Option e9:=match ρ[i]? with
 |some (some (.ow (.dct kvs)))=>(r8 kvs k).map .val
 |_=>none
def b0l(i:Nat)(mk:MA):M:=fun ρ=>(mk ρ).bind fun ks=>if ks.length<=AN then(keysOf ks).bind (a9O i ρ) else none
theorem b4y(i:Nat){x:Str}{p tp pos:Pos}{es:List AG}{x1}{mk:MA}(hu:X.A.units+64<cLine)(hx:PE X (.Name x p) (a2j i))(hi:EA X es mk)(hs:b4n (.Tuple es x1 tp):=by intro _ _;rfl):EE X (.Subscript (.Name x p) (.Tuple es x1 tp) pos) (b0l i mk):=
 t7 (b5s (by lia) hx (b3C hi) hs) fun σ H Q h0=>p9 h0 fun F ρ r en e k=>by
  obtain⟨ks,e4,e⟩:=bind_some e
  split at e
  ·rename_i hz
   obtain⟨kk,e5,e⟩:=bind_some e
   unfold a9O at e
   split at e
   ·rename_i kvs eo
    cases hv:r8 kvs kk with
    |none=>rw [hv] at e;cases e
    |some q=>
     rw [hv] at e;cases e
     obtain⟨w,hw1,a,xs,rfl,fa,ha',rl⟩:=en.at_ i _ eo
     obtain⟨y,hy,ry⟩:=(rl.val (k:=kk)).1 q hv
     refine⟨.ref a,hw1,F,ρ,ks,en,e4,fun vs F3 H3 x3 rl3=>⟨by rw [rl3.length];exact hz,fun b hb=> ?_⟩⟩
     have ev:=T2 e5 rl3
     have ha3:=x3.h _ _ ha'
     have hne:a≠b:=fun h=>by subst h;rw [hb] at ha3;cases ha3
     have ha4:m8 H3 b (.tup vs) a=some (.dT xs):=by rw [g7 hne];exact ha3
     have xx:=x3.trans (N7.lay (o:= .tup vs) x3.fh hb)
     exact⟨a,y,rfl,by rw [<-hy];exact a4K.t ha4 (by rw [j0,ev]),k _ _ _ (m9.val xx (z7.mono xx.f _ ry))⟩
   ·cases e
  ·cases e
end
section
variable {prog:AJ}{w:AH}{A:AL}{E:AA->AC->Prop}{s:AC}
end
section
variable {X:Cx}{pins:List (AB×Obj)}{σ:L2.St}{H:Hp}{s:AC}{a:AB}{A:AL}{E:AA->AC->Prop}
end
section
variable {X:Cx}
end
def b2T:AA->Bool
 | .int _ _=>true
 |_=>false
theorem a81{K:AE}{a:AB}{o:Obj}:K.lookup a=some o->∃b,(b,o)∈K:=by
 induction K with
 |nil=>intro h;cases h
 |cons p r ih=>
  intro h
  obtain⟨b,u⟩:=p
  rw [List.lookup_cons] at h
  split at h
  ·cases h;exact⟨b,Ad ..⟩
  ·obtain⟨c,hc⟩:=ih h
   exact⟨c,Af _ hc⟩
theorem a9C:∀{k:List g9} {us:List AA},j3 (k.map kV) us->k.any Sum.isLeft=true->us.any b2T=true
 |[],_,_,h=>by cases h
 |k::ks,_,r,h=>by
  rw [AR] at r
  cases r with
  |cons r1 r2=>
   rw [List.any_cons] at h ⊢
   cases k with
   |inl i=>obtain⟨t,rfl⟩:=(show ∃t,_=Value.int i t from r1);rfl
   |inr x=>
    have:=a9C r2 (by simpa using h)
    rw [this,Bool.or_true]
theorem v8.isSome{K:AE}{H:Hp}{k:List g9}{kvs:List (List g9×PV)}{ys:List (List g9×V)}(r:v8 K H kvs ys):(V4 ys k).isSome=(r8 kvs k).isSome:=by
 cases hv:r8 kvs k with
 |none=>rw [(r.val (k:=k)).2 hv];rfl
 |some p=>
  obtain⟨v,e,_⟩:=(r.val (k:=k)).1 p hv
  rw [e];rfl
section
variable {X:Cx}
def b01(neg:Bool)(i:Nat)(ρ:b9)(k:List g9):Option e9:=match ρ[i]? with
 |some (some (.ow (.dct kvs)))=>some (.val (.bool (if neg then !(r8 kvs k).isSome else(r8 kvs k).isSome)))
 |_=>none
theorem b9n{t:TE}{m:M}(i:∀σ H Q,tM X.K m σ H Q->t σ H Q){σ:L2.St}{H:Hp}{Q:Bool->Hp->Prop}(h:tMT X.K (mtB m) σ H Q):tB t σ H Q:=by
 obtain⟨F,ρ,b,h1,h2,k⟩:=h
 obtain⟨r,e1,e2⟩:=bind_some h2
 exact i _ _ _ ⟨F,ρ,r,h1,e1,fun v F1 H1 o=>⟨b,a4r o.rep e2,k F1 H1 o.x⟩⟩
end
def b09(x:Str):List Str->List Str
 |[]=>[x]
 |y::r=>if y.cps.toList<x.cps.toList then y::b09 x r else x::y::r
def a1v:List Str->List Str
 |[]=>[]
 |x::r=>b09 x (a1v r)
theorem a1R(x:Str):∀l:List Str,(b09 x l).Perm (x::l)
 |[]=>List.Perm.refl _
 |y::r=>by
  unfold b09
  split
  ·exact((a1R x r).cons y).trans (List.Perm.swap x y r)
  ·exact List.Perm.refl _
theorem a0N:∀l:List Str,(a1v l).Perm l
 |[]=>List.Perm.refl _
 |x::r=>(a1R x (a1v r)).trans ((a0N r).cons x)
def leS(a b:Str):Prop:=¬b.cps.toList<a.cps.toList
theorem a7O{a b:Str}(h:leS a b)(g:leS b a):a=b:=by
 have e:a.cps.toList=b.cps.toList:=List.le_antisymm h g
 cases a;cases b
 simp at e ⊢
 exact e
theorem a1W{a b c:Str}(h:leS a b)(g:leS b c):leS a c:=List.le_trans h g
theorem a2F(x:Str):∀{l:List Str},l.Pairwise leS->(b09 x l).Pairwise leS
 |[],_=>List.pairwise_singleton _ _
 |y::r,h=>by
  unfold b09
  have h':=List.pairwise_cons.mp h
  split
  ·rename_i c
   refine List.pairwise_cons.mpr ⟨fun z hz=> ?_,a2F x h'.2⟩
   rcases Ab.mp ((a1R x r).mem_iff.mp hz) with e|e
   ·subst e;exact List.lt_asymm c
   ·exact h'.1 z e
  ·rename_i c
   refine List.pairwise_cons.mpr ⟨fun z hz=> ?_,h⟩
   rcases Ab.mp hz with e|e
   ·subst e;exact c
   ·exact a1W c (h'.1 z e)
theorem a1w:∀l:List Str,(a1v l).Pairwise leS
 |[]=>List.Pairwise.nil
 |x::r=>a2F x (a1w r)
theorem a2V:∀{l m:List Str},l.Pairwise leS->m.Pairwise leS->l.Perm m->l=m
 |[],m,_,_,p=>(List.Perm.nil_eq p)
 |a::l,[],_,_,p=>by have:=p.length_eq;simp at this
 |a::l,b::m,hl,hm,p=>by
  have hl':=List.pairwise_cons.mp hl
  have hm':=List.pairwise_cons.mp hm
  have e:a=b:=by
   have m1:a∈b::m:=p.mem_iff.mp Ad
   have m2:b∈a::l:=p.mem_iff.mpr Ad
   rcases Ab.mp m1 with e|e
   ·exact e
   ·rcases Ab.mp m2 with g|g
    ·exact g.symm
    ·exact a7O (hl'.1 b g) (hm'.1 a e)
  subst e
  rw [a2V hl'.2 hm'.2 (List.Perm.cons_inv p)]
theorem a5S:∀{p:Str} {l:List Str},risingS p l=true->(p::l).Pairwise leS
 |p,[],_=>List.pairwise_singleton _ _
 |p,x::r,h=>by
  unfold risingS at h
  rw [Bool.and_eq_true] at h
  have ih:=a5S h.2
  have h1:leS p x:=by
   have:=h.1
   rw [ltCps_eq] at this
   unfold leS
   simpa using this
  refine List.pairwise_cons.mpr ⟨fun z hz=> ?_,ih⟩
  rcases Ab.mp hz with e|e
  ·subst e;exact h1
  ·exact a1W h1 ((List.pairwise_cons.mp ih).1 z e)
theorem a9o:∀{l:List Str},sortedS l=true->l.Pairwise leS
 |[],_=>List.Pairwise.nil
 |x::r,h=>a5S h
section
variable {prog:AJ}{w:AH}{A:AL}{E:AA->AC->Prop}{s:AC}
theorem a9q{l:AB}{T:String}{o:Obj}{vs:List AA}{n:Nat}{ss:List Str}{Q:AA->AC->Prop}(hT:T="list"\/T="tuple")(ho:s.heap.get? l=some o)(hc:o.cls= .type T)(hd:o.data= .seq vs.toArray n)(hS:StrsAre vs ss)(h64:vs.length<64)
 (h:∀(h1 h':Heap) (e:Nat) (us:List AA),(∀b o',s.heap.get? b=some o'->h1.get? b=some o')->(∀b o',h1.get? b=some o'->h'.get? b=some o')->StrsAre us (a1v ss)->h'.get? h1.objs.size=some (seqObj "list" us.toArray e)->Q (.ref h1.objs.size) {s with heap:=h'}):
 AF (model prog w) A (call (.builtin "sorted") [.ref l]) Q E s:=by
 refine Calls.call_function_entry kind_sorted plain_sorted entry_sorted (args_sorted1 _) ?_
 unfold Builtin.«sorted»
 refine AD (m:=checkCount "sorted" 1 1 _) (AI ?_)
 refine AD (wpAny_collect_seq l hT ho hc hd (fun h1 k1=> ?_) (by rw [Am,sizeLine_eq];lia))
 have ev:vs.toArray.toList=vs:=by simp
 rw [ev]
 refine AD (wpAny_newList ?_)
 have hoL:(h1.push (seqObj "list" vs.toArray 0)).get? h1.objs.size=some (seqObj "list" vs.toArray 0):=Aq _ rfl
 show AF _ _ _ _ _ {s with heap:=h1.push (seqObj "list" vs.toArray 0)}
 refine AD (wpAny_holding (wpAny_call_entry slot_list_sort ⟨_,hoL,rfl⟩ entry_list_sort (list_sort_treeK strKind_oneLt hoL hS.keysOf (fun v₁ v₂ rest e=>keyKind_strs (by rw [<-e];exact hS)) h64 fun st' a1 a2=>⟨_,rfl, ?_⟩) (args_list_sort _)))
 obtain⟨ss',g1,g2,g3⟩:=sorted_out_str hS a1 a2
 have e1:ss'=a1v ss:=a2V (a9o g3) (a1w ss) (g2.trans (a0N ss).symm)
 subst e1
 obtain⟨e,he⟩:=sortedHeap_at (out:=(arrOf st').map (·.2)) hoL
 refine AI ⟨_,rfl,h h1 _ e _ k1 (fun b o' hb1=> ?_) g1 (by rw [Array.toArray_toList];exact he)⟩
 have hlt:=AX hb1
 rw [sortedHeap_old (Ai hlt) (by rw [size_push'];exact Nat.lt_succ_of_lt hlt),Heap.get?_push_ne _ _ _ (Ai hlt)]
 exact hb1
end
theorem a5Z:∀{us:List AA} {ss:List Str},StrsAre us ss->j3 (ss.map V.str) us
 |_,_,.nil=> .nil
 |_,_,.cons x t h=>by rw [AR];exact .cons ⟨t,rfl⟩ (a5Z h)
theorem a8p:∀{us:List AA} {ss:List Str},StrsAre us ss->us.length=ss.length
 |_,_,.nil=>rfl
 |_,_,.cons x t h=>by rw [AT,AT,a8p h]
theorem a5R{K:AE}{H:Hp}:∀ss:List Str,i0 K H (ss.map PyData.str) (ss.map V.str)
 |[]=>rfl
 |x::r=>⟨_,_,rfl,rfl,a5R r⟩
def a6w(x:e9):Option e9:=match PyData.items? x.rd with
 |some ps=>(Q0 ps).bind fun ss=>if ss.length<64 then some (.own ((a1v ss).map .str)) else none
 |none=>none
section
variable {X:Cx}
theorem b2g:A9 X (.builtin "sorted") (rC1 X.K a6w):=by
 intro pins s σ H xs us Q I rv h
 obtain⟨F,x,rx,rz,rfl,s0,h1,h2,k⟩:=h
 unfold a6w at h2
 split at h2
 ·rename_i ps e
  obtain⟨ss,e1,h2⟩:=bind_some h2
  split at h2
  ·rename_i c
   cases h2
   obtain⟨a,xs,rfl,hq,r⟩:=v6 s0 h1 e
   obtain⟨u,rfl,ru⟩:=Z3 rv
   cases ru
   have fin:∀(its:List AA) (T:String) (o:Obj) (n:Nat),(T="list"\/T="tuple")->s.heap.get? a=some o->o.cls= .type T->o.data= .seq its.toArray n->j3 xs its->AF (model X.prog X.w) X.A (call (.builtin "sorted") [.ref a]) (EP X pins σ Q) X.xe s:=by
    intro its T o n hT ho hc hd rvv
    have hS:=U1 e1 r rvv
    refine a9q hT ho hc hd hS (by rw [a8p hS];exact c) fun hp1 hp2 en us k1 k2 hs he=> ?_
    have I1:g8 X pins σ H {s with heap:=hp1}:=I.kept (t':=s.toks) k1
    have hlen:(a1v ss).length=ss.length:=(a0N ss).length_eq
    have hf:H hp1.objs.size=none:=I1.hok.fresh (AO _)
    refine⟨.ref hp1.objs.size,_,I1.laid (t':=s.toks) (h':=hp2) (o:= .lst ((a1v ss).map V.str)) k2 (AO _) ⟨by rw [AW,hlen,sizeLine_eq];lia,us,en,a5Z hs,he⟩,rfl,k _ F _ (m9.lst s0 hf (a5R _))⟩
   rcases hq with hq|hq
   ·obtain⟨its,r',pl,hz⟩:=I.list hq
    obtain⟨o,ho,hc,n,hd⟩:=pl.isList
    exact fin its "list" o n (.inl rfl) ho hc hd r'
   ·obtain⟨its,r',⟨o,ho,hc,n,hd⟩,hz⟩:=I.tuple hq
    exact fin its "tuple" o n (.inr rfl) ho hc hd r'
  ·cases h2
 ·cases h2
end
section
variable {X:Cx}
end
section
variable {prog:AJ}{w:AH}{A:AL}{E:AA->AC->Prop}{s:AC}
end
section
variable {prog:AJ}{w:AH}{A:AL}{E:AA->AC->Prop}{s:AC}
end
section
variable {X:Cx}
end
def S(l:List Nat):Str:=⟨l.toArray⟩
theorem b8A(a b:List Nat):S a++S b=S (a++b):=by
 show Str.append (S a) (S b)=_
 simp [Str.append,S]
theorem a3t(a:List Nat):(S a).length=a.length:=by simp [S,Str.length]
theorem a0j(a:List Nat):(S a).cps.toList=a:=by simp [S]
theorem b11{a b:List Nat}(h:S a=S b):a=b:=by
 have:=congrArg (fun z:Str=>z.cps.toList) h
 simpa [S] using this
theorem b8B(a b:List Nat):(S a==S b)=(a==b):=by
 rw [Bool.eq_iff_iff]
 simp only [beq_iff_eq]
 exact⟨b11,fun h=>by rw [h]⟩
def a3S(sep:List Nat):List (List Nat)->List Nat
 |[]=>[]
 |[x]=>x
 |x::y::r=>x++sep++a3S sep (y::r)
theorem a5v(sep:List Nat):∀(ls:List (List Nat)) (acc:List Nat),(ls.foldl (fun a p=>a++sep++p) acc)=if ls=[] then acc else acc++sep++a3S sep ls
 |[],acc=>rfl
 |[x],acc=>by simp [a3S]
 |x::y::r,acc=>by
  rw [List.foldl_cons,a5v sep (y::r)]
  simp [a3S]
theorem a90(sep:List Nat):∀(ls:List (List Nat)) (acc:List Nat),(ls.map S).foldl (fun a (p:Str)=>a++(S sep).cps++p.cps) acc.toArray=(ls.foldl (fun a p=>a++sep++p) acc).toArray
 |[],acc=>rfl
 |x::r,acc=>by
  rw [AR,List.foldl_cons,List.foldl_cons]
  have:acc.toArray++(S sep).cps++(S x).cps=(acc++sep++x).toArray:=by simp [S]
  rw [this]
  exact a90 sep r (acc++sep++x)
theorem b7d(sep:List Nat)(ls:List (List Nat)):Txt.join (S sep) (ls.map S)=S (a3S sep ls):=by
 unfold Txt.join Builtin.Str.glued
 cases ls with
 |nil=>rfl
 |cons x r=>
  show(⟨((r.map S).foldl (fun acc (p:Str)=>acc++(S sep).cps++p.cps) (S x).cps)⟩:Str)=_
  rw [show(S x).cps=x.toArray from rfl,a90,a5v]
  cases r with
  |nil=>rfl
  |cons y r=>rw [if_neg (by simp)];simp [S,a3S]
theorem a7H:∀ls:List (List Nat),a3S [] ls=ls.flatten
 |[]=>rfl
 |[x]=>by simp [a3S]
 |x::y::r=>by simp [a3S,a7H (y::r)]
theorem a2A:∀cs:List Nat,(cs.map fun c=>[c]).flatten=cs
 |[]=>rfl
 |c::cs=>by simp [a2A cs]
theorem a3w{α:Type}{xs:List α}{i:Int}(h:0<=i):L2.atI xs i=xs[i.toNat]?:=by
 unfold L2.atI L2.ixN
 rw [if_pos h]
 by_cases c:i<xs.length
 ·rw [if_pos c];rfl
 ·rw [if_neg c]
  have:xs.length<=i.toNat:=by lia
  rw [List.getElem?_eq_none_iff.mpr this];rfl
theorem b8E{α:Type}{xs:List α}{k:Nat}:L2.atI xs (k:Int)=xs[k]?:=by
 rw [a3w (by lia)];simp
theorem b6b{l:List Nat}{i:Int}{c:Nat}(hl:l.length<=16777216)(h:L2.atI l i=some c):J8 (.val (.str (S l))) (.val (.int i))=some (.val (.str (S [c]))):=by
 have hs:(S l).length<=AN:=by rw [a3t,sizeLine_eq];exact hl
 unfold J8
 simp only [e9.rd,a0j,h,BD,if_pos hs]
 rfl
theorem b64{l k:List Nat}(h:l.length+k.length<=16777216):K9 (.val (.str (S l))) (.val (.str (S k)))=some (.val (.str (S (l++k)))):=by
 rw [b2E (by rw [a3t,a3t,sizeLine_eq];exact h),b8A]
theorem b4I{l:List Nat}{c:Nat}(h:l.length<16777216):K9 (.val (.str (S l))) (.val (.str (S [c])))=some (.val (.str (S (l++[c])))):=b64 (by simp only [AT,Aj];lia)
theorem b4M{i j:Int}(h: -18446744073709551616<i/\i<18446744073709551616):a7E (.val (.int i)) (.val (.int j))=some (.val (.int (i*j))):=b66 h
theorem b2K(i j:Int):b4L (.val (.int i)) (.val (.int j))=some (.val (.bool (decide (i<j)))):=Eq.trans rfl rfl
theorem a1b{i j:Int}(h: -18446744073709551616<i/\i<18446744073709551616):U7 (.val (.int i)) (.val (.int j))=some (.val (.int (i*j))):=(show _=a7E (.val (.int i)) (.val (.int j)) from rfl).trans (b4M h)
theorem b4N(ps:List PV)(lo hi:Option Int):gSl (.own ps) lo hi=some (.own (cut ps lo hi)):=Eq.trans rfl rfl
theorem b8R{l:List Nat}{lo hi:Option Int}(h:l.length<=16777216):gSl (.val (.str (S l))) lo hi=some (.val (.str (S (cut l lo hi)))):=by
 show(if(S l).length<=AN then some (e9.val (.str ⟨(cut (S l).cps.toList lo hi).toArray⟩)) else none)=_
 rw [if_pos (by rw [a3t,sizeLine_eq];exact h),a0j]
 rfl
abbrev row(l:List Nat):PV:= .str (S l)
def c9(rows:List (List Nat)):PV:= .tuple (rows.map row)
theorem a9V(a b:List Nat):PyData.eqv (row a) (row b)=(a==b):=by
 show PyData.eqv (.str (S a)) (.str (S b))=_
 rw [show PyData.eqv (.str (S a)) (.str (S b))=(S a==S b) by simp only [PyData.eqv],b8B]
theorem b2q(a:List Nat)(n:Nat):j4 (row a) n=true:=by cases n<;>rfl
theorem a3J(n:Nat):∀rows:List (List Nat),o0 (rows.map row) n=true
 |[]=>rfl
 |a::r=>by rw [AR];simp [o0,b2q,a3J n r]
theorem M2(rows:List (List Nat)):j4 (c9 rows) 50=true:=by
 show j4 (.tuple _) 50=true
 simp only [j4]
 exact a3J 49 rows
theorem a7A{body:MS}{tg:PV->b9->Option b9}{I:Nat->b9->Prop}:∀{ps:List PV} {ρ:b9} (k:Nat),(∀(i:Nat) p,ps[i]?=some p->∀ρ,I (k+i) ρ->∃ρ1 ρ2,tg p ρ=some ρ1/\(body ρ1=some (.nx ρ2)\/body ρ1=some (.ct ρ2))/\I (k+i+1) ρ2)->I k ρ->∃ρ',B6 body tg ps ρ=some (.nx ρ')/\I (k+ps.length) ρ'
 |[],ρ,k,_,h=>⟨ρ,rfl,h⟩
 |p::ps,ρ,k,s,h=>by
  obtain⟨ρ1,ρ2,h1,h2,h3⟩:=s 0 p rfl ρ h
  obtain⟨ρ',h4,h5⟩:=a7A (ps:=ps) (ρ:=ρ2) (k+1) (fun i q hq ρ hi=>by
   have e:k+1+i=k+(i+1):=by lia
   rw [e] at hi ⊢
   exact s (i+1) q (by simpa using hq) ρ hi) h3
  refine⟨ρ', ?_,by rw [AT];have e:k+(ps.length+1)=k+1+ps.length:=by lia
                   rw [e];exact h5⟩
  unfold B6
  rw [h1]
  show(body ρ1).bind _=_
  rcases h2 with h2|h2<;>rw [h2]<;>exact h4
theorem z9{body:MS}{tg:PV->b9->Option b9}(I:Nat->b9->Prop){ps:List PV}{ρ:b9}(s:∀(i:Nat) p,ps[i]?=some p->∀ρ,I i ρ->∃ρ1 ρ2,tg p ρ=some ρ1/\(body ρ1=some (.nx ρ2)\/body ρ1=some (.ct ρ2))/\I (i+1) ρ2)(h:I 0 ρ):∃ρ',B6 body tg ps ρ=some (.nx ρ')/\I ps.length ρ':=by
 obtain⟨ρ',a,b⟩:=a7A (I:=I) 0 (fun i p hp ρ hi=>by rw [Nat.zero_add] at hi ⊢;exact s i p hp ρ hi) h
 rw [Nat.zero_add] at b
 exact⟨ρ',a,b⟩
theorem L4{body:MS}{tg:PV->b9->Option b9}{I:b9->Prop}{p:PV}{ρ ρ1 ρ2:b9}(h1:tg p ρ=some ρ1)(h2:body ρ1=some (.nx ρ2))(h3:I ρ2):∃ρ1 ρ2,tg p ρ=some ρ1/\(body ρ1=some (.nx ρ2)\/body ρ1=some (.ct ρ2))/\I ρ2:=⟨ρ1,ρ2,h1,.inl h2,h3⟩
theorem O5{lo hi:Int}{i:Nat}{p:PV}(h:(A8 lo hi)[i]?=some p):p= .int (lo+i)/\lo+i<hi:=by
 have hi':=(Av.mp h).1
 rw [z3] at hi'
 rw [a1n hi'] at h
 cases h
 exact⟨rfl,by lia⟩
theorem b5C(n:Nat):A8 0 (n:Int)=(AS n).map fun k=> .int (k:Nat):=by
 unfold A8
 have e:((n:Int) - 0).toNat=n:=by lia
 rw [e]
 exact List.map_congr_left fun k _=>by simp
theorem a5E(k:Nat)(it:MI)(tg:PV->b9->Option b9)(c:MT)(elt:M)(ρ:b9):B0 k it tg c elt ρ=(it ρ).bind fun ps=>if ps.length<=AN then(a0p c elt tg (ρ++AV k none) ps).bind fun r=>some (.own r) else none:=Eq.trans rfl rfl
theorem a5l{α:Type}{ι f:α->PV}{elt:M}{tg:PV->b9->Option b9}{ρ:b9}:∀{xs:List α},(∀x∈xs,∃ρ1,tg (ι x) ρ=some ρ1/\(elt ρ1).bind e9.toVal=some (f x))->a0p K4 elt tg ρ (xs.map ι)=some (xs.map f)
 |[],_=>rfl
 |x::xs,h=>by
  obtain⟨ρ1,h1,h2⟩:=h x Ad
  rw [AR,AR]
  unfold a0p
  rw [h1,AK]
  show((elt ρ1).bind e9.toVal).bind _=_
  rw [h2,AK,a5l fun y hy=>h y (Af _ hy),AK]
theorem v7{α:Type}{ι f:α->PV}{k:Nat}{it:MI}{elt:M}{tg:PV->b9->Option b9}{ρ:b9}(xs:List α)(h1:it ρ=some (xs.map ι))(h2:xs.length<=16777216)
 (h:∀x∈xs,∃ρ1,tg (ι x) (ρ++AV k none)=some ρ1/\(elt ρ1).bind e9.toVal=some (f x)):B0 k it tg K4 elt ρ=some (.own (xs.map f)):=by
 rw [a5E,h1,AK,if_pos (by rw [AW,sizeLine_eq];exact h2),a5l h,AK]
theorem a02{α:Type}{ι f:α->PV}{q:α->Bool}{c:MT}{elt:M}{tg:PV->b9->Option b9}{ρ:b9}:∀{xs:List α},(∀x∈xs,∃ρ1,tg (ι x) ρ=some ρ1/\c ρ1=some (q x)/\(q x=true->(elt ρ1).bind e9.toVal=some (f x)))->a0p c elt tg ρ (xs.map ι)=some ((xs.filter q).map f)
 |[],_=>rfl
 |x::xs,h=>by
  obtain⟨ρ1,h1,h2,h3⟩:=h x Ad
  have ih:=a02 (xs:=xs) fun y hy=>h y (Af _ hy)
  rw [AR]
  unfold a0p
  rw [h1,AK,h2,AK]
  cases e:q x with
  |true=>rw [if_pos rfl,h3 e,AK,ih,AK,List.filter_cons_of_pos (by rw [e])];rfl
  |false=>rw [if_neg Az,ih,List.filter_cons_of_neg (by rw [e];exact Az)]
theorem u5(ps:List PV):PyData.items? (.list ps)=some ps:=Eq.trans rfl rfl
theorem B7(m:M)(ρ:b9):T4 m ρ=((m ρ).bind e9.toVal).bind PyData.items?:=Eq.trans rfl rfl
theorem a2L(m:M)(ρ:b9):w6 m ρ=(m ρ).bind fun r=>PyData.items? r.rd:=Eq.trans rfl rfl
theorem a35(m:M)(lo hi:MO)(ρ:b9):a13 m lo hi ρ=(m ρ).bind fun r=>(lo ρ).bind fun l=>(hi ρ).bind fun h=>gSl r l h:=Eq.trans rfl rfl
theorem a39(m:M)(ρ:b9):a16 m ρ=(m ρ).bind b0b:=Eq.trans rfl rfl
theorem a38(ρ:b9):a15 ρ=some none:=Eq.trans rfl rfl
theorem b0c(i:Int):b0b (.val (.int i))=some (some i):=Eq.trans rfl rfl
theorem Y0{m:M}{ρ:b9}{r:e9}{ps:List PV}(h:m ρ=some r)(h2:PyData.items? r.rd=some ps):w6 m ρ=some ps:=by
 unfold w6
 rw [h,AK,h2]
theorem L5{m:M}{ρ:b9}{n:Nat}(h:m ρ=some (.val (.int n)))(hn:n<4611686018427387904):z0 (b0 m f8) ρ=some ((AS n).map fun k=> .int (k:Nat)):=by
 have e:b0 m f8 ρ=some [.int n]:=by rw [c8,h];rfl
 rw [A2,e,AK,L3 (j:=(n:Int)) ⟨by lia,by lia⟩,b5C]
theorem a8T{sep:List Nat}{rows:List (List Nat)}{y:e9}(h:PyData.items? y.rd=some (rows.map row))(hl:(rows.map (·.length)).sum+rows.length*sep.length<=16777216):a0q (.val (.str (S sep))) y=some (.val (row (a3S sep rows))):=by
 have e1:Q0 (rows.map row)=some (rows.map S):=by
  have:rows.map row=(rows.map S).map PyData.str:=by rw [As];rfl
  rw [this,a4F]
 have e2:((rows.map S).map (·.length))=rows.map (·.length):=by rw [As];exact List.map_congr_left fun a _=>a3t a
 unfold a0q
 simp only [h,e1,AK,e2,AW,a3t,if_pos hl,b7d]
theorem a0C(ps:List PV):a1O (.own ps)=some (.val (.tuple ps)):=Eq.trans rfl rfl
theorem C2{i:Nat}{m:M}{ρ:b9}{r:e9}{p:PV}{ps:List PV}(h1:m ρ=some r)(h2:r.toVal=some p)(h3:ρ[i]?=some (some (.own ps)))(h:ps.length<16777216):A0 i m ρ=some (.nx (ρ.set i (some (.own (ps++[p]))))):=by
 unfold A0
 rw [h1,AK,h2,AK,h3]
 simp only [sizeLine_eq,if_pos h]
theorem T5(p:e9)(ρ:b9):O4 0 (some p::ρ)=some (.rt p):=Eq.trans rfl rfl
theorem T6(n:Nat)(r:Option e9)(ρ:b9):O4 (n+1) (r::ρ)=O4 n ρ:=Eq.trans rfl rfl
theorem C3(k:List g9)(v:PV)(D:List (List g9×PV))(k':List g9):r8 ((k,v)::D) k'=if k=k' then some v else r8 D k':=by
 unfold r8
 rw [List.find?_cons]
 by_cases h:k=k'
 ·simp [h]
 ·simp [h]
theorem a8w(k:List g9)(v:PV)(k':List g9):∀D:List (List g9×PV),r8 (D++[(k,v)]) k'=if(r8 D k').isSome=true then r8 D k' else if k=k' then some v else none
 |[]=>by rw [Ag,C3];rfl
 |(a,b)::D=>by
  rw [Ah,C3,C3,a8w k v k' D]
  by_cases h:a=k'
  ·simp [h]
  ·simp [h]
theorem a9D(k:List g9):∀D:List (List g9×PV),(D.any fun kv=>decide (kv.1=k))=(r8 D k).isSome
 |[]=>rfl
 |(a,b)::D=>by
  rw [List.any_cons,a9D k D,C3]
  by_cases h:a=k
  ·simp [h]
  ·simp [h]
theorem a52(k:List g9)(v:PV)(k':List g9):∀D:List (List g9×PV),r8 (D.map fun kv=>if kv.1=k then(kv.1,v) else kv) k'=if k=k' then(r8 D k').map (fun _=>v) else r8 D k'
 |[]=>by simp [r8]
 |(a,b)::D=>by
  rw [AR]
  have ih:=a52 k v k' D
  by_cases h:a=k
  ·simp only [h,if_true]
   rw [C3,C3,ih]
   by_cases h2:k=k'
   ·simp [h2]
   ·simp [h2]
  ·simp only [h,if_false]
   rw [C3,C3,ih]
   by_cases h2:a=k'
   ·have:¬k=k':=fun z=>h (h2.trans z.symm)
    simp [h2,this]
   ·simp [h2]
theorem a1x(D:List (List g9×PV))(k:List g9)(v:PV)(k':List g9):r8 (a1m D k v) k'=if k=k' then some v else r8 D k':=by
 unfold a1m
 rw [a9D]
 cases h:(r8 D k).isSome with
 |true=>
  rw [if_pos rfl,a52]
  by_cases h2:k=k'
  ·subst h2
   rw [if_pos rfl,if_pos rfl]
   obtain⟨x,hx⟩:=Option.isSome_iff_exists.mp h
   rw [hx];rfl
  ·rw [if_neg h2,if_neg h2]
 |false=>
  rw [if_neg Az,a8w]
  by_cases h2:k=k'
  ·subst h2;rw [h];simp
  ·simp only [if_neg h2]
   cases h3:r8 D k'<;>simp
theorem a4p(D:List (List g9×PV))(k:List g9)(v:PV):(a1m D k v).length<=D.length+1:=by
 unfold a1m
 split
 ·rw [AW];lia
 ·rw [Ao,List.length_singleton];lia
theorem a3G{i:Nat}{ρ:b9}{p:PV}{k:List g9}{D:List (List g9×PV)}(h:ρ[i]?=some (some (.ow (.dct D))))(hl:D.length<16777216):a7v i ρ p k=some (.nx (ρ.set i (some (.ow (.dct (a1m D k p)))))):=by
 unfold a7v
 rw [h]
 show(if D.length<AN then _ else none)=_
 rw [if_pos (by rw [sizeLine_eq];exact hl)]
theorem b2h{i:Nat}{ρ:b9}{k:List g9}{D:List (List g9×PV)}{p:PV}(h:ρ[i]?=some (some (.ow (.dct D))))(hv:r8 D k=some p):a9O i ρ k=some (.val p):=by
 unfold a9O
 rw [h]
 show(r8 D k).map _=_
 rw [hv];rfl
theorem a6k(neg:Bool)(D:List (List g9×PV))(ρ:b9)(k:List g9):b01 neg 0 (some (.ow (.dct D))::ρ) k=some (.val (.bool (if neg then !(r8 D k).isSome else(r8 D k).isSome))):=Eq.trans rfl rfl
theorem a6l(neg:Bool)(i:Nat)(r:Option e9)(ρ:b9)(k:List g9):b01 neg (i+1) (r::ρ) k=b01 neg i ρ k:=Eq.trans rfl rfl
theorem b40{i:Nat}{ma:MA}{ρ:b9}{a b:Int}{p:PV}{D:List (List g9×PV)}(h3:ma ρ=some [.int a,.int b])(h:ρ[i]?=some (some (.ow (.dct D))))(hv:r8 D [.inl a,.inl b]=some p):b0l i ma ρ=some (.val p):=by
 unfold b0l
 rw [h3,AK,if_pos (by rw [sizeLine_eq];simp),show keysOf [.int a,.int b]=some [.inl a,.inl b] from rfl,AK,b2h h hv]
theorem a11(ρ:b9):a7U ρ=some (.ow (.dct [])):=Eq.trans rfl rfl
theorem a8I(i:Nat)(ρ:b9)(c:S1):b4p i ρ (.ow c)=some (.nx (ρ.set i (some (.ow c)))):=Eq.trans rfl rfl
theorem a6H{α:Type}{ι f:α->PV}{q:α->Bool}{k:Nat}{it:MI}{c:MT}{elt:M}{tg:PV->b9->Option b9}{ρ:b9}(xs:List α)(h1:it ρ=some (xs.map ι))(h2:xs.length<=16777216)
 (h:∀x∈xs,∃ρ1,tg (ι x) (ρ++AV k none)=some ρ1/\c ρ1=some (q x)/\(q x=true->(elt ρ1).bind e9.toVal=some (f x))):B0 k it tg c elt ρ=some (.own ((xs.filter q).map f)):=by
 rw [a5E,h1,AK,if_pos (by rw [AW,sizeLine_eq];exact h2),a02 h,AK]
theorem a05{ps:List PV}{n:Nat}(h:∀p∈ps,j4 p n=true):o0 ps n=true:=by
 induction ps with
 |nil=>rfl
 |cons p ps ih=>simp [o0,h p Ad,ih fun q hq=>h q (Af _ hq)]
def a0P(A:AL)(s:AC)(u v:AA)(b:Bool):Prop:=∀(prog:AJ) (w:AH) (E:AA->AC->Prop) (Q:AA->AC->Prop),Q (.bool b) s->AF (model prog w) A (richCompare .Lt u v) Q E s
section
open PySem.AutoSeq1 (wpAny_loadPart')
theorem a64(l b:AB)(xs ys:Array AA)(n n2:Nat)(dd dd2:Option AB)(sl sl2:Array (Option AA))(e:Nat->Bool)(c:Bool):
 Meets (Builtin.«tuple.__lt__» ⟨[.ref l,.ref b],[]⟩)
  (fun A R s=>(s.heap.get? l=some {cls:= .type "tuple",dict:=dd,data:= .seq xs n,slots:=sl}/\s.heap.get? b=some {cls:= .type "tuple",dict:=dd2,data:= .seq ys n2,slots:=sl2})/\
   (∀j (h1:j<xs.size) (h2:j<ys.size),SeqAt.EqAt A.in1 s xs[j] ys[j] (e j))/\(∀j (h1:j<xs.size) (h2:j<ys.size),(∀k,k<j->e k=true)->e j=false->a0P A.in1 s xs[j] ys[j] c)/\
   ((∀k,k<min xs.size ys.size->e k=true)->c=decide (xs.size<ys.size))/\R (.ok (.ret (.bool c))) s):=
 .of_wp fun prog w A R s h=>by
  obtain⟨hp,g,d,tk,os⟩:=s
  obtain⟨⟨hl,hb⟩,he,hlt,hce,h⟩:=h
  have f2:=AutoSeq1.sub_tuple_tuple
  have hZ:(xs.toList.zip ys.toList).length=min xs.size ys.size:=by simp
  wp_walk using wpAny_loadPart' hl,wpAny_loadPart' hb,wpAny_forIn_list _ (fun rest b s'=>b.1=none/\s'=⟨hp,g,d,tk,os⟩/\∃i,i<=min xs.size ys.size/\rest=(xs.toList.zip ys.toList).drop i/\∀k,k<i->e k=true) _
  case turn=>
   rintro⟨y,x⟩ rest b s' ⟨hb',rfl,i,hi,hz,hR⟩
   have hlt':i<(xs.toList.zip ys.toList).length:=by
    rcases Nat.lt_or_ge i (xs.toList.zip ys.toList).length with h'|h'
    ·exact h'
    ·rw [List.drop_of_length_le h'] at hz;cases hz
   have hm:i<min xs.size ys.size:=by lia
   have h1:i<xs.size:=by lia
   have h2:i<ys.size:=by lia
   rw [List.drop_eq_getElem_cons hlt'] at hz
   injection hz with hyx hrest
   have hy:y=xs[i]:=by simpa using congrArg Prod.fst hyx
   have hx:x=ys[i]:=by simpa using congrArg Prod.snd hyx
   subst hy hx
   refine AD (he i h1 h2 prog w _ _ ?_)
   cases hq:e i with
   |true=>
    wp_walk
    exact⟨rfl,rfl,i+1,by lia,hrest,fun k hk=>by
     rcases Nat.lt_or_ge k i with h'|h'
     ·exact hR k h'
     ·rw [show k=i by lia];exact hq⟩
   |false=>
    have hl3:=hlt i h1 h2 hR hq
    show AF _ A.in1 (rule _>>=fun _=>richCompare .Lt xs[i] ys[i]>>=fun v=>ret v>>=fun q=>pure (ForInStep.done (some q,()))) _ _ _
    refine AD (wpAny_rule ?_)
    refine AD (hl3 prog w _ _ ?_)
    refine AD (AI ?_)
    refine AI ?_
    exact AI ⟨_,rfl,h⟩
  case fin=>
   rintro⟨b1,b2⟩ s' ⟨hb',rfl,i,hi,hz,hR⟩
   simp only at hb'
   subst hb'
   have hge:min xs.size ys.size<=i:=by
    rcases Nat.lt_or_ge i (xs.toList.zip ys.toList).length with h'|h'
    ·rw [List.drop_eq_getElem_cons h'] at hz;cases hz
    ·lia
   wp_walk
   refine⟨_,rfl, ?_⟩
   rw [hce fun k hk=>hR k (by lia)] at h
   exact h
  case h=>
   exact⟨rfl,rfl,0,by lia,rfl,fun k hk=>by lia⟩
variable {A:AL}{s:AC}
theorem a0P.tuples{l b:AB}{xs ys:Array AA}{e:Nat->Bool}{c:Bool}(hl:s.heap.IsTuple l xs)(hb:s.heap.IsTuple b ys)(hu:A.units<cLine)
 (he:∀j (h1:j<xs.size) (h2:j<ys.size),SeqAt.EqAt A.in1 s xs[j] ys[j] (e j)) (hlt:∀j (h1:j<xs.size) (h2:j<ys.size),(∀k,k<j->e k=true)->e j=false->a0P A.in1 s xs[j] ys[j] c)
 (hce:(∀k,k<min xs.size ys.size->e k=true)->c=decide (xs.size<ys.size)):a0P A s (.ref l) (.ref b) c:=fun prog w E Q h=>by
 obtain⟨⟨c1,d1,t1,s1⟩,o1,e1,n1,k1⟩:=id hl
 obtain⟨⟨c2,d2,t2,s2⟩,o2,e2,n2,k2⟩:=id hb
 simp only at e1 k1 e2 k2
 subst e1 k1 e2 k2
 exact richCompare_meets_room (op:= .Lt) ⟨_,o1,rfl⟩ ⟨_,o2,rfl⟩ F.slot_tuple_lt F.entry_tuple_lt (F.args_tuple_lt_2 _ _) (a64 l b xs ys n1 n2 d1 d2 s1 s2 e c)
  ⟨⟨o1,o2⟩,he,hlt,hce,show Value.bool c≠Value.notImplemented/\Q (.bool c) s from⟨(fun x=>nomatch x),h⟩⟩ hu
theorem a0P.ints(a b:Int)(t u:Tok):a0P A s (.int a t) (.int b u) (decide (a<b)):=fun prog w E Q h=>wpAny_lt_int h
theorem a0P.strs(a b:Str)(t u:Tok):a0P A s (.str a t) (.str b u) (decide (a.cps.toList<b.cps.toList)):=fun prog w E Q h=>lt_str h
end
mutual
def ltv:PV->PV->Option Bool
 | .int i,.int j=>some (decide (i<j))
 | .str i,.str j=>some (decide (i.cps.toList<j.cps.toList))
 | .tuple ps,.tuple qs=>a1Z ps qs
 |_,_=>none
def a1Z:List PV->List PV->Option Bool
 |[],[]=>some false
 |[],_::_=>some true
 |_::_,[]=>some false
 |p::ps,q::qs=>if PyData.eqv p q=true then a1Z ps qs else ltv p q
end
theorem b0k:∀{ps qs:List PV} {c:Bool},a1Z ps qs=some c->∀j (p q:PV),ps[j]?=some p->qs[j]?=some q->(∀k,k<j->eAt ps qs k=true)->eAt ps qs j=false->ltv p q=some c
 |[],_,_,_,j,p,q,h1,_,_,_=>by simp at h1
 |_::_,[],_,_,j,p,q,_,h2,_,_=>by simp at h2
 |p'::ps,q'::qs,c,h,0,p,q,h1,h2,_,he=>by
  simp only [List.getElem?_cons_zero,Option.some.injEq] at h1 h2
  subst h1 h2
  rw [a1Z] at h
  have:PyData.eqv p' q'=false:=by simpa [eAt] using he
  rw [this] at h
  simpa using h
 |p'::ps,q'::qs,c,h,j+1,p,q,h1,h2,hk,he=>by
  simp only [List.getElem?_cons_succ] at h1 h2
  have h0:PyData.eqv p' q'=true:=by simpa [eAt] using hk 0 (by lia)
  rw [a1Z,if_pos h0] at h
  refine b0k h j p q h1 h2 (fun k hk'=> ?_) ?_
  ·simpa [eAt] using hk (k+1) (by lia)
  ·simpa [eAt] using he
theorem a7S:∀{ps qs:List PV} {c:Bool},a1Z ps qs=some c->(∀k,k<min ps.length qs.length->eAt ps qs k=true)->c=decide (ps.length<qs.length)
 |[],[],c,h,_=>by simp [a1Z] at h;simp [h]
 |[],_::_,c,h,_=>by simp [a1Z] at h;simp [h]
 |_::_,[],c,h,_=>by simp [a1Z] at h;simp [h]
 |p::ps,q::qs,c,h,hk=>by
  have h0:PyData.eqv p q=true:=by simpa [eAt] using hk 0 (by simp)
  rw [a1Z,if_pos h0] at h
  have:=a7S h fun k hk'=>by simpa [eAt] using hk (k+1) (by simp at hk' ⊢;lia)
  simpa using this
section
variable {X:Cx}{pins:List (AB×Obj)}{σ:L2.St}{H:Hp}{s:AC}
theorem b7l(I:g8 X pins σ H s):∀(n:Nat) (A:AL) (p q:PV) (x y:V) (u w:AA) (c:Bool),A.units+n<cLine->j4 p n=true->j4 q n=true->ltv p q=some c->z7 X.K H p x->z7 X.K H q y->j6 x u->j6 y w->a0P A s u w c:=by
 intro n
 induction n with
 |zero=>
  intro A p q x y u w c hu hp hq hc rp rq rx ry
  unfold ltv at hc
  split at hc
  ·cases hc;cases rp;cases rq
   obtain⟨tx,rfl⟩:=rx
   obtain⟨ty,rfl⟩:=ry
   exact .ints _ _ _ _
  ·cases hc;cases rp;cases rq
   obtain⟨tx,rfl⟩:=rx
   obtain⟨ty,rfl⟩:=ry
   exact .strs _ _ _ _
  ·simp [j4] at hp
  ·cases hc
 |succ n ih=>
  intro A p q x y u w c hu hp hq hc rp rq rx ry
  have hu0:A.units<cLine:=by lia
  have hu1:A.in1.units+n<cLine:=by rw [Z8];lia
  unfold ltv at hc
  split at hc
  ·cases hc;cases rp;cases rq
   obtain⟨tx,rfl⟩:=rx
   obtain⟨ty,rfl⟩:=ry
   exact .ints _ _ _ _
  ·cases hc;cases rp;cases rq
   obtain⟨tx,rfl⟩:=rx
   obtain⟨ty,rfl⟩:=ry
   exact .strs _ _ _ _
  ·rename_i ps qs
   obtain⟨a,xs,rfl,hs,r⟩:=rp
   cases rx
   obtain⟨its,rv,pl,hz⟩:=I.tuple hs.sq
   have okp:o0 ps n=true:=by simpa [j4] using hp
   obtain⟨b,ys,rfl,hs',r'⟩:=rq
   cases ry
   obtain⟨its2,rv',pl',hz'⟩:=I.tuple hs'.sq
   have okq:o0 qs n=true:=by simpa [j4] using hq
   have hle:its.toArray.size=ps.length:=by rw [<-r.length,rv.length];simp
   have hle':its2.toArray.size=qs.length:=by rw [<-r'.length,rv'.length];simp
   have he:=a4H (A:=A.in1) (s:=s) r r' rv rv' fun p q x y u w hp' hq' rp' rq' rx' ry'=>a6q I n A.in1 p q x y u w hu1 (n6 okp hp') (n6 okq hq') rp' rq' rx' ry'
   refine .tuples pl pl' hu0 he (fun j h1 h2 hk hj=> ?_) fun hk=> ?_
   ·have h1':j<its.length:=by simpa using h1
    have h2':j<its2.length:=by simpa using h2
    obtain⟨x,ex,rx⟩:=a1A rv h1'
    obtain⟨y,ey,ry⟩:=a1A rv' h2'
    obtain⟨p,ep,hp⟩:=r.getV ex
    obtain⟨q,eq,hq⟩:=r'.getV ey
    have:=ih A.in1 p q x y _ _ c hu1 (n6 okp (BB ep)) (n6 okq (BB eq)) (b0k hc j p q ep eq hk hj) hp hq rx ry
    simpa using this
   ·rw [hle,hle']
    exact a7S hc fun k hk'=>hk k (by rw [hle,hle'];exact hk')
  ·cases hc
end
section
variable {X:Cx}
end
section
variable {prog:AJ}{w:AH}{A:AL}{R:Result->AC->Prop}{I:AB}{fp wr:List AB}{n:Nat}{P:Nat->AA->Prop}{St:Nat->Heap->Prop}
def Kpt(h₀ h:Heap):Prop:=∀b o,h₀.get? b=some o->h.get? b=some o
theorem b1r(s₀:AC)(h₀:Heap)(W:Walks prog w A.in1 I fp wr n P St)(bt:Nat->Nat->Bool)(hwr:∀b∈wr,h₀.get? b=none)
 (hcmp:∀h tk,Kpt h₀ h->∀i j vi vj,P i vi->P j vj->a0P A.in1 {s₀ with heap:=h,toks:=tk} vi vj (bt i j)) (S:AB) (hSf:S∉fp) (hS0:h₀.get? S=none):
 ∀(k j:Nat) (h:Heap) (tk:Tok) (vb:AA) (c:Nat),n - (j+1)=k->j+1<=n->Kpt h₀ h->St (j+1) h->P (argBest bt j) vb->
  h.get? S=some {cls:= .type "list",dict:=none,data:= .seq #[vb,vb] c,slots:= #[]}->(∀v h' tk',P (argBest bt (n - 1)) v->Kpt h₀ h'->R (.ok (.ret v)) {s₀ with heap:=h',toks:=tk'})->
  codeAny (model prog w) A (.builtin "min.loop" ⟨[.ref I,.none,.ref S],[]⟩) R {s₀ with heap:=h,toks:=tk}:=by
 have hSw:S∉wr:=fun z=>hSf (W.sub _ z)
 have nm:(toString "min"++toString ".loop":String)="min.loop":=by decide
 have kp:∀{h h':Heap},Kpt h₀ h->(∀b o,b∉wr->h.get? b=some o->h'.get? b=some o)->Kpt h₀ h':=fun a b' b o e=>b' b o (fun z=>by rw [hwr b z] at e;cases e) (a b o e)
 have ku:∀{h:Heap} {f:Obj->Obj},Kpt h₀ h->Kpt h₀ (h.update S f):=fun a b o e=>(Heap.get?_update_other _ _ (fun z:S=b=>by rw [<-z,hS0] at e;cases e)).trans (a b o e)
 intro k
 induction k with
 |zero=>
  intro j h tk vb c hk hj hK hst hPb hS hR
  have hin:j+1=n:=by lia
  refine codeAny_builtin PySem.F.entry_min_loop ?_
  rw [Around.under_plainId PySem.F.plain_min_loop _]
  show AF _ A.in1 (seqItems? (.ref S)>>=_) _ _ {s₀ with heap:=h,toks:=tk}
  refine AD (wpAny_seqItems hS rfl ?_)
  show AF _ A.in1 (tryCatch (pyNext (.ref I)) _>>=_) _ _ {s₀ with heap:=h,toks:=tk}
  refine AD (wpAny_tryCatch (W.done {s₀ with heap:=h,toks:=tk} _ _ (hin▸hst) fun h' tk' hk'=> ?_))
  have hS':=hk' S _ hSw hS
  show AF _ A.in1 (updateSeq S (fun _=> #[])>>=_) _ _ {s₀ with heap:=h',toks:=tk'}
  refine AD (wpAny_updateSeq hS' rfl (AD (wpAny_letGo (AI ?_))))
  exact hR vb _ tk' (by rw [<-hin];exact hPb) (ku (kp hK hk'))
 |succ k ih=>
  intro j h tk vb c hk hj hK hst hPb hS hR
  have hlt:j+1<n:=by lia
  refine codeAny_builtin PySem.F.entry_min_loop ?_
  rw [Around.under_plainId PySem.F.plain_min_loop _]
  show AF _ A.in1 (seqItems? (.ref S)>>=_) _ _ {s₀ with heap:=h,toks:=tk}
  refine AD (wpAny_seqItems hS rfl ?_)
  show AF _ A.in1 (tryCatch (pyNext (.ref I)) _>>=_) _ _ {s₀ with heap:=h,toks:=tk}
  refine AD (wpAny_tryCatch (W.item (j+1) {s₀ with heap:=h,toks:=tk} _ _ hlt hst fun v h' tk' hP hst' hk'=> ?_))
  have hS':=hk' S _ hSw hS
  have hK':=kp hK hk'
  show AF _ A.in1 (tryCatch (holding [v,v] (richCompare .Lt v vb>>=_)) _>>=_) _ _ {s₀ with heap:=h',toks:=tk'}
  refine AD (wpAny_tryCatch (wpAny_holding (AD (hcmp h' tk' hK' (j+1) (argBest bt j) v vb hP hPb prog w _ _ ?_))))
  refine AD (wpAny_holding (wpAny_truthy_bool (AD (wpAny_letGo (AI ?_)))))
  cases hb:bt (j+1) (argBest bt j) with
  |true=>
   simp only [if_true]
   refine AD (wpAny_updateSeq hS' rfl (AD (wpAny_letGo ?_)))
   rw [nm]
   refine AI ⟨plainId_quiet PySem.F.plain_min_loop _,ih (j+1) _ tk' v _ (by lia) hlt (ku hK') (W.frame _ _ _ hst' fun b hbf o e=> ?_) (by simp only [argBest,hb,if_true];exact hP) (Heap.get?_update_self _ hS' rfl) hR⟩
   exact(Heap.get?_update_other _ _ (fun z:S=b=>hSf (by rw [z];exact hbf))).trans e
  |false=>
   simp only [Ac,if_false]
   refine AD (wpAny_letGo ?_)
   rw [nm]
   exact AI ⟨plainId_quiet PySem.F.plain_min_loop _,ih (j+1) _ tk' vb c (by lia) hlt hK' hst' (by simp only [argBest,hb,Ac,if_false];exact hPb) hS' hR⟩
theorem a85(s₀:AC)(h₀:Heap)(W:Walks prog w A.in1 I fp wr n P St)(bt:Nat->Nat->Bool)(hwr:∀b∈wr,h₀.get? b=none)
 (hcmp:∀h tk,Kpt h₀ h->∀i j vi vj,P i vi->P j vj->a0P A.in1 {s₀ with heap:=h,toks:=tk} vi vj (bt i j)) (S:AB) (hSf:S∉fp) (hS0:h₀.get? S=none) (hn:0<n)
 {h:Heap} {tk:Tok} {c:Nat} (hK:Kpt h₀ h) (hst:St 0 h) (hS:h.get? S=some {cls:= .type "list",dict:=none,data:= .seq #[] c,slots:= #[]})
 (hR:∀v h' tk',P (argBest bt (n - 1)) v->Kpt h₀ h'->R (.ok (.ret v)) {s₀ with heap:=h',toks:=tk'}):codeAny (model prog w) A (.builtin "min.loop" ⟨[.ref I,.none,.ref S],[]⟩) R {s₀ with heap:=h,toks:=tk}:=by
 have hSw:S∉wr:=fun z=>hSf (W.sub _ z)
 have nm:(toString "min"++toString ".loop":String)="min.loop":=by decide
 refine codeAny_builtin PySem.F.entry_min_loop ?_
 rw [Around.under_plainId PySem.F.plain_min_loop _]
 show AF _ A.in1 (seqItems? (.ref S)>>=_) _ _ {s₀ with heap:=h,toks:=tk}
 refine AD (wpAny_seqItems hS rfl ?_)
 show AF _ A.in1 (tryCatch (pyNext (.ref I)) _>>=_) _ _ {s₀ with heap:=h,toks:=tk}
 refine AD (wpAny_tryCatch (W.item 0 {s₀ with heap:=h,toks:=tk} _ _ hn hst fun v h' tk' hP hst' hk'=> ?_))
 have hS':=hk' S _ hSw hS
 have hK':Kpt h₀ h':=fun b o e=>hk' b o (fun z=>by rw [hwr b z] at e;cases e) (hK b o e)
 show AF _ A.in1 (updateSeq S (fun _=> #[v,v])>>=_) _ _ {s₀ with heap:=h',toks:=tk'}
 refine AD (wpAny_updateSeq hS' rfl ?_)
 rw [nm]
 refine AI ⟨plainId_quiet PySem.F.plain_min_loop _,b1r s₀ h₀ W bt hwr hcmp S hSf hS0 _ 0 _ tk' v _ rfl hn (fun b o e=>(Heap.get?_update_other _ _ (fun z:S=b=>by rw [<-z,hS0] at e;cases e)).trans (hK' b o e)) (W.frame _ _ _ hst' fun b hbf o e=> ?_) hP (Heap.get?_update_self _ hS' rfl) hR⟩
 exact(Heap.get?_update_other _ _ (fun z:S=b=>hSf (by rw [z];exact hbf))).trans e
end
section
variable {prog:AJ}{w:AH}{A:AL}{E:AA->AC->Prop}{s:AC}
theorem b1q{l:AB}{vs:Array AA}{Q:AA->AC->Prop}(hh:A.handled=none)(hl:s.heap.IsList l vs)(hn:0<vs.size)(bt:Nat->Nat->Bool)
 (hcmp:∀h tk,Kpt s.heap h->∀(i j:Nat) (vi vj:AA),vs[i]?=some vi->vs[j]?=some vj->a0P A.in1 {s with heap:=h,toks:=tk} vi vj (bt i j))
 (h:∀v h' tk,vs[argBest bt (vs.size - 1)]?=some v->Kpt s.heap h'->Q v {s with heap:=h',toks:=tk}):AF (model prog w) A (call (.builtin "min") [.ref l]) Q E s:=by
 have nm:(toString "min"++toString ".loop":String)="min.loop":=by decide
 have hlt:l<s.heap.objs.size:=by obtain⟨_,e,_⟩:=hl;exact AX e
 refine call_function_tree PySem.F.kind_min PySem.F.plain_min PySem.F.entry_min (PySem.F.args_min1 _) ?_
 show AF _ A.in1 (Builtin.Builtins.bindParams "min" ["key","default"] 0 ⟨[],[]⟩>>=_) _ _ s
 refine AD (wpAny_of_eq (show Builtin.Builtins.bindParams "min" ["key","default"] 0 ⟨[],[]⟩=pure [none,none] from rfl) (AD (AI ?_)))
 refine AD (wpAny_pyIter_list hl ?_)
 refine AD (wpAny_newObj_type ?_)
 rw [nm]
 have no:∀b,s.heap.objs.size<=b->s.heap.get? b=none:=fun b hb=>by
  cases q:s.heap.get? b with
  |none=>rfl
  |some o=>exact absurd (Ax (AX q) hb) (Nat.lt_irrefl _)
 have sz:∀o,(s.heap.push o).objs.size=s.heap.objs.size+1:=fun o=>Heap.size_push _ _
 refine AI ⟨plainId_quiet PySem.F.plain_min_loop _,a85 s s.heap (Walks.list (A:=A.in1) hh s.heap.objs.size l (Ai hlt) vs) bt (fun b hb=>no b (by rw [List.mem_singleton.mp hb];exact AO _)) hcmp _ (fun z=> ?_) (no _ (by show _<=(s.heap.push _).objs.size;rw [sz];lia)) hn (fun b o e=>AU _ (AU _ e))
  ⟨⟨_,AU _ (Aq _ rfl),rfl,rfl⟩,(hl.push _).push _⟩ (Aq _ rfl) fun v h' tk' hP hK=>h v h' tk' hP hK⟩
 have z':(s.heap.push {cls:= .type "list_iterator",data:= .fields #[.ref l,.int 0 0]}).objs.size∈[s.heap.objs.size,l]:=z
 rw [sz] at z'
 simp only [Ab,List.not_mem_nil,or_false] at z'
 rcases z' with z'|z'
 ·exact Nat.succ_ne_self _ z'
 ·rw [<-z'] at hlt
  exact absurd hlt (Nat.not_lt.mpr (Nat.le_succ _))
end
def btV(ps:List PV)(i j:Nat):Bool:=match ps[i]?,ps[j]? with
 |some p,some q=>(ltv p q).getD false
 |_,_=>false
def a98(x:e9):Option e9:=match x.rd with
 | .list ps=>if o0 ps 50=true/\0<ps.length/\(ps.all fun p=>ps.all fun q=>(ltv p q).isSome)=true then(ps[argBest (btV ps) (ps.length - 1)]?).map .val else none
 |_=>none
section
variable {X:Cx}
theorem b4t(hu:X.A.units+64<cLine)(hc:X.calm=true):A9 X (.builtin "min") (rC1 X.K a98):=by
 intro pins s σ H xs us Q I rv h
 obtain⟨F,x,rx,rz,rfl,s0,h1,h2,k⟩:=h
 have hh:X.A.handled=none:=I.ok.hd hc
 unfold a98 at h2
 split at h2
 ·rename_i ps e
  split at h2
  ·rename_i c
   obtain⟨c1,c2,c3⟩:=c
   cases hq:ps[argBest (btV ps) (ps.length - 1)]? with
   |none=>rw [hq] at h2;cases h2
   |some p=>
    rw [hq] at h2;cases h2
    have rr:=h1.rd s0
    rw [e] at rr
    obtain⟨a,xs,rfl,hs,r⟩:=rr
    obtain⟨u,rfl,ru⟩:=Z3 rv
    cases ru
    obtain⟨its,rvv,pl,hz⟩:=I.list hs
    obtain⟨a',xs',ea,hs',rF⟩:=v6 s0 h1 (show PyData.items? rx.rd=some ps by rw [e];rfl)
    cases ea
    have ex':xs=xs':=by
     rcases hs' with hs'|hs'
     ·exact I.list_inj hs hs'
     ·exfalso
      obtain⟨_,_,⟨o',ho',hc',_⟩,_⟩:=I.tuple hs'
      obtain⟨o,ho,hc,_⟩:=pl.isList
      rw [ho] at ho';cases ho'
      rw [hc] at hc'
      exact absurd hc' (by decide)
    subst ex'
    have hle:its.length=ps.length:=by rw [<-r.length,rvv.length]
    have at_:∀(i:Nat) (vi:AA),its.toArray[i]?=some vi->∃(p:PV) (x:V),ps[i]?=some p/\z7 X.K H p x/\j6 x vi/\z7 X.K F p x:=fun i vi hi=>by
     have hi':its[i]?=some vi:=by simpa using hi
     obtain⟨hlt,e1⟩:=Av.mp hi'
     obtain⟨x,ex,rx⟩:=a1A rvv hlt
     obtain⟨p,ep,hp⟩:=r.getV ex
     obtain⟨p',ep',hp'⟩:=rF.getV ex
     rw [ep] at ep';cases ep'
     rw [e1] at rx
     exact⟨p,x,ep,hp,rx,hp'⟩
    refine b1q hh pl.isList (by simp;lia) (btV ps) (fun h tk hK i j vi vj hi hj=> ?_) fun v h' tk hv hK=> ?_
    ·obtain⟨p,x,ep,hp,rx,_⟩:=at_ i vi hi
     obtain⟨q,y,eq,hq,ry,_⟩:=at_ j vj hj
     have h3:=List.all_eq_true.mp (List.all_eq_true.mp c3 p (BB ep)) q (BB eq)
     obtain⟨b,hb⟩:=Option.isSome_iff_exists.mp h3
     have:btV ps i j=b:=by simp [btV,ep,eq,hb]
     rw [this]
     exact b7l (I.kept (t':=tk) hK) 50 X.A.in1 p q x y _ _ b (by rw [Z8];lia) (n6 c1 (BB ep)) (n6 c1 (BB eq)) hb hp hq rx ry
    ·obtain⟨q,y,eq,_,ry,hq'⟩:=at_ _ v hv
     have:its.toArray.size=ps.length:=by simp [hle]
     rw [this,hq] at eq
     cases eq
     exact⟨y,H,I.kept (t':=tk) hK,ry,k _ F H (m9.here s0 hq')⟩
  ·cases h2
 ·cases h2
end
end PU
namespace TS
open PySem PyProof.Rows
abbrev SM(α:Type):=StateT SortSt Sem α
def g(a:Array Keyed)(i:Nat):Keyed:=(a[i]?).getD (Value.none,Value.none)
theorem a8V{a:Array Keyed}{i:Nat}(h:i<a.size):a[i]?=some (g a i):=by
 unfold g;rw [getElem?_pos a i h];rfl
theorem b2L{a b:Array Keyed}{i j:Nat}(h:a[i]?=b[j]?):g a i=g b j:=by unfold g;rw [h]
theorem b6e{a:Array Keyed}{i:Nat}(h:i<a.size):g a i∈a.toList:=by
 have:=a8V h
 exact Array.mem_toList_iff.mpr (Array.mem_of_getElem? this)
theorem M5{a:Array Keyed}{i:Nat}(h:i<a.size):a.toList[i]?=some (g a i):=by
 rw [Array.getElem?_toList];exact a8V h
section
variable {prog:AJ}{w:AH}{A:AL}{E:AA->AC->Prop}{s:AC}
structure Q2(prog:AJ)(w:AH)(A:AL)(E:AA->AC->Prop)(s:AC)(κ:SortKind)(S:Keyed->Prop)(R:Keyed->Keyed->Bool):Prop where
 lt:∀x y,S x->S y->∀(st:SortSt) (Q:Option Bool->SortSt->Prop),kindOf st=κ->Q (some (R x y)) st->wpS (model prog w) A E s (lt' x y) Q st
 tr:∀x y z,S x->S y->S z->R y x=false->R z y=false->R z x=false
 as:∀x y,S x->S y->R x y=true->R y x=false
variable {κ:SortKind}{S:Keyed->Prop}{R:Keyed->Keyed->Bool}
theorem Q2.rfl'(C:Q2 prog w A E s κ S R){x:Keyed}(hx:S x):R x x=false:=by
 by_cases h:R x x=true
 ·exact C.as x x hx hx h
 ·exact eq_false_of_ne_true h
theorem m4{a:Array Keyed}{i:Nat}(h:i<a.size){Q:Keyed->SortSt->Prop}{st:SortSt}(hq:Q (g a i) st):wpS (model prog w) A E s (elem' a i) Q st:=by
 rw [elem'_eq,a8V h];exact wpS_pure hq
def gal:Bool->Keyed->Array Keyed->Nat->Nat->Nat->SM (Option Nat):=sortPriv% PySem.Builtin.gallop
def byd(left:Bool)(key:Keyed)(arr:Array Keyed)(base i:Nat):SM (Option Bool):=do
 let x<-elem' arr (base+i)
 if left then lt' x key else return (<-lt' key x).map (!·)
theorem b69(lf:Bool)(ky:Keyed)(ar:Array Keyed)(bs m ht:Nat):gal lf ky ar bs m ht=(do
 let mut p:=0
 let mut q:=1
 let mut u:=0
 let mut v:=0
 let some r0<-byd lf ky ar bs ht|return none
 if r0 then
  let top:=m - ht
  for _ in [0:m] do
   if q>=top then break
   let some t<-byd lf ky ar bs (ht+q)|return none
   if !t then break
   p:=q
   q:=2*q+1
  u:=ht+p+1
  v:=ht+min q top
 else
  let top:=ht+1
  for _ in [0:m] do
   if q>=top then break
   let some t<-byd lf ky ar bs (ht - q)|return none
   if t then break
   p:=q
   q:=2*q+1
  u:=ht+1 - min q top
  v:=ht - p
 for _ in [0:m] do
  if u>=v then break
  let h:=u+(v - u)/ 2
  let some t<-byd lf ky ar bs h|return none
  if t then u:=h+1 else v:=h
 return some v):=rfl
def bb(R:Keyed->Keyed->Bool)(left:Bool)(key x:Keyed):Bool:=if left then R x key else !R key x
theorem a69(C:Q2 prog w A E s κ S R){left:Bool}{key:Keyed}{arr:Array Keyed}{base i:Nat}{st:SortSt}{Q:Option Bool->SortSt->Prop}(hk:kindOf st=κ)(hi:base+i<arr.size)(hS:S (g arr (base+i)))(hy:S key)
 (h:Q (some (bb R left key (g arr (base+i)))) st):wpS (model prog w) A E s (byd left key arr base i) Q st:=by
 unfold byd
 refine wpS_bind (m4 hi ?_)
 cases left
 ·exact wpS_bind (C.lt _ _ hy hS st _ hk (wpS_pure h))
 ·exact C.lt _ _ hS hy st _ hk h
theorem b4a(C:Q2 prog w A E s κ S R){left:Bool}{key:Keyed}{arr:Array Keyed}{base n hint:Nat}{st:SortSt}{Q:Option Nat->SortSt->Prop}(hk:kindOf st=κ)(hn:base+n<=arr.size)(hh:hint<n)
 (hS:∀i,i<n->S (g arr (base+i))) (hy:S key)
 (mono:∀i j,i<=j->j<n->bb R left key (g arr (base+j))=true->bb R left key (g arr (base+i))=true)
 (h:∀k,k<=n->(∀i,i<k->bb R left key (g arr (base+i))=true)->(∀i,k<=i->i<n->bb R left key (g arr (base+i))=false)->Q (some k) st):
 wpS (model prog w) A E s (gal left key arr base n hint) Q st:=by
 rw [b69]
 have mono':∀i j,i<=j->j<n->bb R left key (g arr (base+i))=false->bb R left key (g arr (base+j))=false:=fun i j a b c=>by
  cases d:bb R left key (g arr (base+j))
  ·rfl
  ·exact absurd ((mono i j a b d).symm.trans c) (by decide)
 have last:∀u v,u<=v->v<=n->(∀i,i<u->bb R left key (g arr (base+i))=true)->(∀i,v<=i->i<n->bb R left key (g arr (base+i))=false)->
  wpS (model prog w) A E s (forIn [0:n] ((none,u,v):Option (Option Nat)×Nat×Nat) fun _ c=>
   if c.2.1>=c.2.2 then pure (ForInStep.done (none,c.2.1,c.2.2)) else do
    let t<-byd left key arr base (c.2.1+(c.2.2 - c.2.1)/ 2)
    match t with
    |some t=>if t=true then pure (ForInStep.yield (none,c.2.1+(c.2.2 - c.2.1)/ 2+1,c.2.2)) else pure (ForInStep.yield (none,c.2.1,c.2.1+(c.2.2 - c.2.1)/ 2))
    |_=>pure (ForInStep.done (some none,c.2.1,c.2.2)))
   (fun c st'=>st'=st/\∃k,c=(none,k,k)/\k<=n/\(∀i,i<k->bb R left key (g arr (base+i))=true)/\(∀i,k<=i->i<n->bb R left key (g arr (base+i))=false)) st:=by
  intro u v huv hvn h1 h2
  refine wpS_forRange (I:=fun x c st'=>st'=st/\∃u v,c=(none,u,v)/\u<=v/\v<=n/\v - u+x<=n/\(∀i,i<u->bb R left key (g arr (base+i))=true)/\(∀i,v<=i->i<n->bb R left key (g arr (base+i))=false)) ?_ ?_ ⟨rfl,u,v,rfl,huv,hvn,by lia,h1,h2⟩
  ·rintro x c st' _ hx ⟨rfl,u,v,rfl,huv,hvn,hux,h1,h2⟩
   dsimp only
   by_cases huv':u>=v
   ·rw [if_pos huv']
    have:u=v:=by lia
    subst this
    exact wpS_pure ⟨rfl,u,rfl,hvn,h1,h2⟩
   ·rw [if_neg huv']
    obtain⟨c,hc,c1,c2⟩:∃c,u+(v - u)/ 2=c/\u<=c/\c<v:=⟨_,rfl,by lia,by lia⟩
    rw [hc]
    refine wpS_bind (a69 C hk (by lia) (hS _ (by lia)) hy ?_)
    cases hb:bb R left key (g arr (base+c))
    ·simp only [Ac,if_false]
     exact wpS_pure ⟨rfl,u,_,rfl,by lia,by lia,by lia,h1,fun i a b=>mono' _ _ a b hb⟩
    ·simp only [if_true]
     exact wpS_pure ⟨rfl,_,v,rfl,by lia,by lia,by lia,fun i a=>mono _ _ (by lia) (by lia) hb,h2⟩
  ·rintro c st' ⟨rfl,u,v,rfl,huv,hvn,hux,h1,h2⟩
   have:u=v:=by lia
   subst this
   exact⟨rfl,u,rfl,hvn,h1,h2⟩
 refine wpS_bind (a69 C hk (by lia) (hS _ hh) hy ?_)
 cases hb:bb R left key (g arr (base+hint))
 ·dsimp only
  simp only [Ac,if_false]
  refine wpS_bind (wpS_mono (wpS_forRange (I:=fun x c st'=>st'=st/\∃p q,c=(none,p,q)/\p<q/\p<=hint/\x+1<=q/\bb R left key (g arr (base+(hint - p)))=false)
   (Q:=fun c st'=>st'=st/\∃p q,c=(none,p,q)/\p<q/\p<=hint/\bb R left key (g arr (base+(hint - p)))=false/\(q>=hint+1\/(q<=hint/\bb R left key (g arr (base+(hint - q)))=true))) ?_ ?_ ⟨rfl,0,1,rfl,by lia,by lia,by lia,hb⟩) ?_)
  ·rintro x c st' _ hx ⟨rfl,p,q,rfl,hpq,hp,hxq,hbp⟩
   dsimp only
   by_cases hq:q>=hint+1
   ·rw [if_pos hq]
    exact wpS_pure ⟨rfl,p,q,rfl,hpq,hp,hbp,.inl hq⟩
   ·rw [if_neg hq]
    refine wpS_bind (a69 C hk (by lia) (hS _ (by lia)) hy ?_)
    cases hb':bb R left key (g arr (base+(hint - q)))
    ·simp only [Ac,if_false]
     exact wpS_pure ⟨rfl,q,_,rfl,by lia,by lia,by lia,hb'⟩
    ·simp only [if_true]
     exact wpS_pure ⟨rfl,p,q,rfl,hpq,hp,hbp,.inr ⟨by lia,hb'⟩⟩
  ·rintro c st' ⟨rfl,p,q,rfl,hpq,hp,hxq,hbp⟩
   exact⟨rfl,p,q,rfl,hpq,hp,hbp,.inl (by lia)⟩
  ·rintro c st' ⟨rfl,p,q,rfl,hpq,hp,hbp,ho⟩
   dsimp only
   refine wpS_bind (wpS_mono (last _ _ ?_ ?_ ?_ ?_) ?_)
   rotate_left 4
   ·rintro c st'' ⟨rfl,k,rfl,hk1,hk2,hk3⟩
    exact wpS_pure (h k hk1 hk2 hk3)
   rotate_left 1
   ·lia
   rotate_left 2
   ·lia
   ·intro i hi
    rcases ho with ho|⟨ho,hb'⟩
    ·lia
    ·exact mono i _ (by lia) (by lia) hb'
   ·exact fun i a b=>mono' _ _ a b hbp
 ·dsimp only
  simp only [if_true]
  refine wpS_bind (wpS_mono (wpS_forRange (I:=fun x c st'=>st'=st/\∃p q,c=(none,p,q)/\p<q/\hint+p<n/\x+1<=q/\bb R left key (g arr (base+(hint+p)))=true)
   (Q:=fun c st'=>st'=st/\∃p q,c=(none,p,q)/\p<q/\hint+p<n/\bb R left key (g arr (base+(hint+p)))=true/\(q>=n - hint\/(hint+q<n/\bb R left key (g arr (base+(hint+q)))=false))) ?_ ?_ ⟨rfl,0,1,rfl,by lia,by lia,by lia,hb⟩) ?_)
  ·rintro x c st' _ hx ⟨rfl,p,q,rfl,hpq,hp,hxq,hbp⟩
   dsimp only
   by_cases hq:q>=n - hint
   ·rw [if_pos hq]
    exact wpS_pure ⟨rfl,p,q,rfl,hpq,hp,hbp,.inl hq⟩
   ·rw [if_neg hq]
    refine wpS_bind (a69 C hk (by lia) (hS _ (by lia)) hy ?_)
    cases hb':bb R left key (g arr (base+(hint+q)))
    ·simp only [Bool.not_false,if_true]
     exact wpS_pure ⟨rfl,p,q,rfl,hpq,hp,hbp,.inr ⟨by lia,hb'⟩⟩
    ·simp only [Bool.not_true,Ac,if_false]
     exact wpS_pure ⟨rfl,q,_,rfl,by lia,by lia,by lia,hb'⟩
  ·rintro c st' ⟨rfl,p,q,rfl,hpq,hp,hxq,hbp⟩
   exact⟨rfl,p,q,rfl,hpq,hp,hbp,.inl (by lia)⟩
  ·rintro c st' ⟨rfl,p,q,rfl,hpq,hp,hbp,ho⟩
   dsimp only
   refine wpS_bind (wpS_mono (last _ _ ?_ ?_ ?_ ?_) ?_)
   rotate_left 4
   ·rintro c st'' ⟨rfl,k,rfl,hk1,hk2,hk3⟩
    exact wpS_pure (h k hk1 hk2 hk3)
   rotate_left 1
   ·lia
   rotate_left 2
   ·lia
   ·exact fun i hi=>mono i _ (by lia) (by lia) hbp
   ·intro i a b
    rcases ho with ho|⟨ho,hb'⟩
    ·lia
    ·exact mono' _ _ (by lia) b hb'
end
def Seg(R:Keyed->Keyed->Bool)(a:Array Keyed)(lo hi:Nat):Prop:=∀i j,lo<=i->i<=j->j<hi->R (g a j) (g a i)=false
def Ges(R:Keyed->Keyed->Bool)(a:Array Keyed)(lo hi:Nat):Prop:=∀i j,lo<=i->i<=j->j<hi->R (g a i) (g a j)=false
def Fix(lo:Nat)(a b:Array Keyed):Prop:=∀i,i<lo->g b i=g a i
theorem Fix.refl{lo:Nat}{a:Array Keyed}:Fix lo a a:=fun _ _=>rfl
theorem Fix.trans{lo:Nat}{a b c:Array Keyed}(h:Fix lo a b)(k:Fix lo b c):Fix lo a c:=fun i hi=>(k i hi).trans (h i hi)
theorem X0{a:Array Keyed}{i j:Nat}(hj:j<=a.size)(k:Nat):g (mirror a i j ((j - i)/ 2)) k=if i<=k/\k<j then g a (i+j - 1 - k) else g a k:=by
 have e:=getElem?_mirror_all (i:=i) hj k
 by_cases h:i<=k/\k<j
 ·rw [if_pos h] at e ⊢;exact b2L e
 ·rw [if_neg h] at e ⊢;exact b2L e
theorem a3R{a:Array Keyed}{src d:Nat}(hs:src<a.size)(hd:d<=src)(k:Nat):g (bubble a src d) k=if k=src - d then g a src else if src - d<k/\k<=src then g a (k - 1) else g a k:=by
 have e:=getElem?_bubble hs d hd k
 by_cases h:k=src - d
 ·rw [if_pos h] at e ⊢;exact b2L e
 ·rw [if_neg h] at e ⊢
  by_cases h2:src - d<k/\k<=src
  ·rw [if_pos h2] at e ⊢;exact b2L e
  ·rw [if_neg h2] at e ⊢;exact b2L e
structure B(κ:SortKind)(a₀:Array Keyed)(st:SortSt):Prop where
 perm:(arrOf st).Perm a₀
 kind:kindOf st=κ
 failed:failedOf st=none
section
variable {prog:AJ}{w:AH}{A:AL}{E:AA->AC->Prop}{s:AC}
variable {κ:SortKind}{S:Keyed->Prop}{R:Keyed->Keyed->Bool}{a₀:Array Keyed}
theorem B.size{st:SortSt}(h:B κ a₀ st):(arrOf st).size=a₀.size:=h.perm.size_eq
theorem B.set{st:SortSt}(h:B κ a₀ st){xs:Array Keyed}(hp:xs.Perm (arrOf st)):B κ a₀ (setArr st xs):=⟨hp.trans h.perm,h.kind,h.failed⟩
theorem B.sg{st:SortSt}(h:B κ a₀ st)(hS:∀p∈a₀.toList,S p){i:Nat}(hi:i<a₀.size):S (g (arrOf st) i):=
 hS _ ((Array.perm_iff_toList_perm.mp h.perm).mem_iff.mp (b6e (by rw [h.size];exact hi)))
theorem a1C(C:Q2 prog w A E s κ S R)(hS:∀p∈a₀.toList,S p){st:SortSt}(hB:B κ a₀ st){i j:Nat}{Q:Option Bool->SortSt->Prop}(hi:i<a₀.size)(hj:j<a₀.size)
 (h:Q (some (R (g (arrOf st) i) (g (arrOf st) j))) st):wpS (model prog w) A E s (ltAt' i j) Q st:=by
 rw [ltAt'_eq]
 refine wpS_bind (wpS_get ?_)
 exact wpS_bind (m4 (by rw [hB.size];exact hi) (wpS_bind (m4 (by rw [hB.size];exact hj) (C.lt _ _ (hB.sg hS hi) (hB.sg hS hj) st Q hB.kind h))))
theorem a4I{st:SortSt}{i j:Nat}{Q:Unit->SortSt->Prop}(h:Q () (setArr st (mirror (arrOf st) i j ((j - i)/ 2)))):wpS (model prog w) A E s (reverseSlice' i j) Q st:=by
 rw [reverseSlice'_eq];exact wpS_modify h
def up(lo a nrem:Nat):SM (Option (Option Nat)×Nat):=
 forIn [a:nrem] ((none,a):Option (Option Nat)×Nat) fun _ c=>do
  let t<-ltAt' (lo+c.2) (lo+c.2 - 1)
  match t with
  |some b=>if b=true then pure (.done (none,c.2)) else pure (.yield (none,c.2+1))
  |_=>pure (.done (some none,c.2))
theorem b6x(C:Q2 prog w A E s κ S R)(hS:∀p∈a₀.toList,S p){st:SortSt}{lo a nrem:Nat}{Q:Option (Option Nat)×Nat->SortSt->Prop}(hB:B κ a₀ st)(hn:lo+nrem<=a₀.size)(ha:1<=a)(han:a<=nrem)
 (hs:Seg R (arrOf st) lo (lo+a))
 (h:∀n,a<=n->n<=nrem->Seg R (arrOf st) lo (lo+n)->(n=nrem\/R (g (arrOf st) (lo+n)) (g (arrOf st) (lo+n - 1))=true)->Q (none,n) st):
 wpS (model prog w) A E s (up lo a nrem) Q st:=by
 unfold up
 refine wpS_forRange (I:=fun x c st'=>st'=st/\c=(none,x)/\Seg R (arrOf st) lo (lo+x)) ?_ ?_ ⟨rfl,rfl,hs⟩
 ·rintro x c st' hax hxn ⟨rfl,rfl,hs'⟩
  dsimp only
  refine wpS_bind (a1C C hS hB (by lia) (by lia) ?_)
  cases hl:R (g (arrOf st') (lo+x)) (g (arrOf st') (lo+x - 1))
  ·simp only [Ac,if_false]
   refine wpS_pure ⟨rfl,rfl,fun i j hi hij hj=> ?_⟩
   by_cases hjx:j<lo+x
   ·exact hs' i j hi hij hjx
   ·have:j=lo+x:=by lia
    subst this
    by_cases hi':i=lo+x
    ·subst hi';exact C.rfl' (hB.sg hS (by lia))
    ·exact C.tr _ (g (arrOf st') (lo+x - 1)) _ (hB.sg hS (by lia)) (hB.sg hS (by lia)) (hB.sg hS (by lia)) (hs' i (lo+x - 1) hi (by lia) (by lia)) hl
  ·simp only [if_true]
   exact wpS_pure (h x hax (by lia) hs' (.inr hl))
 ·rintro c st' ⟨rfl,rfl,hs'⟩
  rw [show max a nrem=nrem by lia] at hs' ⊢
  exact h nrem han (AO _) hs' (.inl rfl)
def dn(lo n nrem:Nat):SM (Option (Option Nat)×Nat×Nat):=
 forIn [n:nrem] ((none,n,0):Option (Option Nat)×Nat×Nat) fun _ c=>do
  let t<-ltAt' (lo+c.2.1) (lo+c.2.1 - 1)
  match t with
  |some b=>
   if b=true then
    if c.2.2>0 then do
     reverseSlice' (lo+c.2.1 - (c.2.2+1)) (lo+c.2.1)
     pure (.yield (none,c.2.1+1,0))
    else pure (.yield (none,c.2.1+1,0))
   else do
    let t<-ltAt' (lo+c.2.1 - 1) (lo+c.2.1)
    match t with
    |some b=>if b=true then pure (.done (none,c.2.1,c.2.2)) else pure (.yield (none,c.2.1+1,c.2.2+1))
    |_=>pure (.done (some none,c.2.1,c.2.2))
  |_=>pure (.done (some none,c.2.1,c.2.2))
theorem S8(C:Q2 prog w A E s κ S R)(hS:∀p∈a₀.toList,S p){st:SortSt}(hB:B κ a₀ st){lo hi i j:Nat}(hh:hi<=a₀.size)(hg:Ges R (arrOf st) lo hi)(h1:lo<=i)(h2:j<=hi)(hij:i<j)
 (he:∀k,i<=k->k<j->R (g (arrOf st) (j - 1)) (g (arrOf st) k)=false):Ges R (mirror (arrOf st) i j ((j - i)/ 2)) lo hi:=by
 have hsz:j<=(arrOf st).size:=by rw [hB.size];lia
 intro k l hk hkl hl
 rw [X0 hsz,X0 hsz]
 split
 ·split
  ·rename_i p q
   refine C.tr _ (g (arrOf st) (j - 1)) _ (hB.sg hS (by lia)) (hB.sg hS (by lia)) (hB.sg hS (by lia)) (he _ (by lia) (by lia)) (hg _ _ (by lia) (by lia) (by lia))
  ·exact hg _ _ (by lia) (by lia) (by lia)
 ·split
  ·exact hg _ _ (by lia) (by lia) (by lia)
  ·exact hg _ _ (by lia) (by lia) (by lia)
theorem M4{a:Array Keyed}{lo i j:Nat}(hj:j<=a.size)(h:lo<=i):Fix lo a (mirror a i j ((j - i)/ 2)):=fun k hk=>by
 rw [X0 hj,if_neg (by lia)]
theorem b9y(C:Q2 prog w A E s κ S R)(hS:∀p∈a₀.toList,S p){st:SortSt}{lo n nrem:Nat}{Q:Option (Option Nat)×Nat×Nat->SortSt->Prop}(hB:B κ a₀ st)(hn:lo+nrem<=a₀.size)(h1:1<=n)(hnn:n<=nrem)
 (hs:Ges R (arrOf st) lo (lo+n))
 (h:∀m e st',B κ a₀ st'->pendingOf st'=pendingOf st->Fix lo (arrOf st) (arrOf st')->n<=m->m<=nrem->Ges R (arrOf st') lo (lo+m)->e+1<=m->
  (∀i,lo+m - (e+1)<=i->i<lo+m->R (g (arrOf st') (lo+m - 1)) (g (arrOf st') i)=false)->Q (none,m,e) st'):
 wpS (model prog w) A E s (dn lo n nrem) Q st:=by
 unfold dn
 refine wpS_forRange (I:=fun x c st'=>∃e,c=(none,x,e)/\B κ a₀ st'/\pendingOf st'=pendingOf st/\Fix lo (arrOf st) (arrOf st')/\Ges R (arrOf st') lo (lo+x)/\e+1<=x/\
  (∀i,lo+x - (e+1)<=i->i<lo+x->R (g (arrOf st') (lo+x - 1)) (g (arrOf st') i)=false)) ?_ ?_
  ⟨0,rfl,hB,rfl,Fix.refl,hs,by lia,fun i a b=>by rw [show i=lo+n - 1 by lia];exact C.rfl' (hB.sg hS (by lia))⟩
 ·rintro x c st' hax hxn ⟨e,rfl,hB',hp,hf,hg,he,hq⟩
  dsimp only
  have hsz:lo+x<=(arrOf st').size:=by rw [hB'.size];lia
  refine wpS_bind (a1C C hS hB' (by lia) (by lia) ?_)
  cases hl:R (g (arrOf st') (lo+x)) (g (arrOf st') (lo+x - 1))
  ·simp only [Ac,if_false]
   refine wpS_bind (a1C C hS hB' (by lia) (by lia) ?_)
   cases hm:R (g (arrOf st') (lo+x - 1)) (g (arrOf st') (lo+x))
   ·simp only [Ac,if_false]
    refine wpS_pure ⟨e+1,rfl,hB',hp,hf,fun i j hi hij hj=> ?_,by lia,fun i h1 h2=> ?_⟩
    ·by_cases hjx:j<lo+x
     ·exact hg i j hi hij hjx
     ·have:j=lo+x:=by lia
      subst this
      by_cases hi':i=lo+x
      ·subst hi';exact C.rfl' (hB'.sg hS (by lia))
      ·exact C.tr _ (g (arrOf st') (lo+x - 1)) _ (hB'.sg hS (by lia)) (hB'.sg hS (by lia)) (hB'.sg hS (by lia)) hm (hg i (lo+x - 1) hi (by lia) (by lia))
    ·rw [show lo+(x+1) - 1=lo+x by lia]
     by_cases hi':i=lo+x
     ·subst hi';exact C.rfl' (hB'.sg hS (by lia))
     ·exact C.tr _ (g (arrOf st') (lo+x - 1)) _ (hB'.sg hS (by lia)) (hB'.sg hS (by lia)) (hB'.sg hS (by lia)) (hq i (by lia) (by lia)) hl
   ·simp only [if_true]
    exact wpS_pure (h x e st' hB' hp hf hax (by lia) hg he hq)
  ·simp only [if_true]
   have hg1:Ges R (arrOf st') lo (lo+(x+1)):=by
    intro i j hi hij hj
    by_cases hjx:j<lo+x
    ·exact hg i j hi hij hjx
    ·have:j=lo+x:=by lia
     subst this
     by_cases hi':i=lo+x
     ·subst hi';exact C.rfl' (hB'.sg hS (by lia))
     ·exact C.tr _ (g (arrOf st') (lo+x - 1)) _ (hB'.sg hS (by lia)) (hB'.sg hS (by lia)) (hB'.sg hS (by lia)) (C.as _ _ (hB'.sg hS (by lia)) (hB'.sg hS (by lia)) hl) (hg i (lo+x - 1) hi (by lia) (by lia))
   by_cases he0:e>0
   ·rw [if_pos he0]
    have hB2:B κ a₀ (setArr st' (mirror (arrOf st') (lo+x - (e+1)) (lo+x) ((lo+x - (lo+x - (e+1)))/ 2))):=hB'.set (mirror_perm _ _ _ _)
    refine wpS_bind (a4I (wpS_pure ⟨0,rfl,hB2,hp,hf.trans (M4 hsz (by lia)),S8 C hS hB' (by lia) hg1 (by lia) (by lia) (by lia) hq,by lia,fun i a b=> ?_⟩))
    rw [show i=lo+(x+1) - 1 by lia];exact C.rfl' (hB2.sg hS (by lia))
   ·rw [if_neg he0]
    refine wpS_pure ⟨0,rfl,hB',hp,hf,hg1,by lia,fun i a b=> ?_⟩
    rw [show i=lo+(x+1) - 1 by lia];exact C.rfl' (hB'.sg hS (by lia))
 ·rintro c st' ⟨e,rfl,hB',hp,hf,hg,he,hq⟩
  rw [show max n nrem=nrem by lia] at hg he hq ⊢
  exact h nrem e st' hB' hp hf hnn (AO _) hg he hq
theorem b8l(C:Q2 prog w A E s κ S R)(hS:∀p∈a₀.toList,S p){st:SortSt}{lo nrem:Nat}{Q:Option Nat->SortSt->Prop}(hB:B κ a₀ st)(hn:lo+nrem<=a₀.size)(h1:1<=nrem)
 (h:∀m st',B κ a₀ st'->pendingOf st'=pendingOf st->Fix lo (arrOf st) (arrOf st')->1<=m->m<=nrem->Seg R (arrOf st') lo (lo+m)->Q (some m) st'):
 wpS (model prog w) A E s (countRun' lo nrem) Q st:=by
 rw [countRun'_eq]
 have one:Seg R (arrOf st) lo (lo+1):=fun i j hi hij hj=>by
  have:i=j:=by lia
  subst this;exact C.rfl' (hB.sg hS (by lia))
 have tail:∀m st',B κ a₀ st'->pendingOf st'=pendingOf st->Fix lo (arrOf st) (arrOf st')->1<=m->m<=nrem->Ges R (arrOf st') lo (lo+m)->
  wpS (model prog w) A E s (reverseSlice' lo (lo+m)) (fun _ st2=>wpS (model prog w) A E s (up lo m nrem) (fun c st3=>c.1=none/\Q (some c.2) st3) st2) st':=by
  intro m st' hB' hp hf hm1 hm2 hg
  have hsz:lo+m<=(arrOf st').size:=by rw [hB'.size];lia
  have hB2:B κ a₀ (setArr st' (mirror (arrOf st') lo (lo+m) ((lo+m - lo)/ 2))):=hB'.set (mirror_perm _ _ _ _)
  refine a4I (b6x C hS hB2 hn hm1 hm2 ?_ fun n a b c _=>⟨rfl,h n _ hB2 hp (hf.trans (M4 hsz (AO _))) (by lia) b c⟩)
  intro i j hi hij hj
  show R (g (mirror (arrOf st') lo (lo+m) ((lo+m - lo)/ 2)) j) (g (mirror (arrOf st') lo (lo+m) ((lo+m - lo)/ 2)) i)=false
  rw [X0 hsz,X0 hsz,if_pos (by lia),if_pos (by lia)]
  exact hg _ _ (by lia) (by lia) (by lia)
 have desc:∀n st',B κ a₀ st'->pendingOf st'=pendingOf st->Fix lo (arrOf st) (arrOf st')->n+1<=nrem->Ges R (arrOf st') lo (lo+(n+1))->
  wpS (model prog w) A E s (dn lo (n+1) nrem) (fun c st2=>c.1=none/\c.2.1<=nrem/\1<=c.2.1/\B κ a₀ st2/\pendingOf st2=pendingOf st/\Fix lo (arrOf st) (arrOf st2)/\c.2.2+1<=c.2.1/\Ges R (arrOf st2) lo (lo+c.2.1)/\
   (∀i,lo+c.2.1 - (c.2.2+1)<=i->i<lo+c.2.1->R (g (arrOf st2) (lo+c.2.1 - 1)) (g (arrOf st2) i)=false)) st':=by
  intro n st' hB' hp hf hnn hg
  exact b9y C hS hB' hn (by lia) hnn hg fun m e st2 b1 b2 b3 b4 b5 b6 b7 b8=>⟨rfl,b5,(by lia:1<=m),b1,b2.trans hp,hf.trans b3,b7,b6,b8⟩
 refine wpS_bind (b6x C hS hB hn (AO 1) h1 one fun n hn1 hn2 hsn ho=> ?_)
 dsimp only
 by_cases hnn:n=nrem
 ·rw [if_pos (by simpa using hnn)]
  exact wpS_pure (h n st hB rfl Fix.refl hn1 hn2 hsn)
 ·rw [if_neg (by simpa using hnn)]
  have hlt:=ho.resolve_left hnn
  have hl':R (g (arrOf st) (lo+n - 1)) (g (arrOf st) (lo+n))=false:=C.as _ _ (hB.sg hS (by lia)) (hB.sg hS (by lia)) hlt
  have hsz:lo+n<=(arrOf st).size:=by rw [hB.size];lia
  have ges:R (g (arrOf st) lo) (g (arrOf st) (lo+n - 1))=false->Ges R (arrOf st) lo (lo+(n+1)):=by
   intro hr i j hi hij hj
   have toi:∀i,lo<=i->i<lo+n->R (g (arrOf st) i) (g (arrOf st) (lo+n - 1))=false:=fun i hi hj=>
    C.tr _ (g (arrOf st) lo) _ (hB.sg hS (by lia)) (hB.sg hS (by lia)) (hB.sg hS (by lia)) hr (hsn lo i (AO _) hi hj)
   by_cases hjn:j<lo+n
   ·exact C.tr _ (g (arrOf st) (lo+n - 1)) _ (hB.sg hS (by lia)) (hB.sg hS (by lia)) (hB.sg hS (by lia)) (hsn j (lo+n - 1) (by lia) (by lia) (by lia)) (toi i hi (by lia))
   ·have:j=lo+n:=by lia
    subst this
    by_cases hi':i=lo+n
    ·subst hi';exact C.rfl' (hB.sg hS (by lia))
    ·exact C.tr _ (g (arrOf st) (lo+n - 1)) _ (hB.sg hS (by lia)) (hB.sg hS (by lia)) (hB.sg hS (by lia)) hl' (toi i hi (by lia))
  by_cases hgt:n>1
  ·rw [if_pos hgt]
   refine wpS_bind (a1C C hS hB (by lia) (by lia) ?_)
   cases hr:R (g (arrOf st) lo) (g (arrOf st) (lo+n - 1))
   ·simp only [Ac,if_false]
    have hB2:B κ a₀ (setArr st (mirror (arrOf st) lo (lo+n) ((lo+n - lo)/ 2))):=hB.set (mirror_perm _ _ _ _)
    refine wpS_bind (a4I (wpS_bind (wpS_lift (wpAny_rule ⟨rfl, ?_⟩))))
    refine wpS_bind (wpS_mono (desc n _ hB2 rfl (M4 hsz (AO _)) (by lia) (S8 C hS hB (by lia) (ges hr) (AO _) (by lia) (by lia) fun k a b=>hsn k (lo+n - 1) a (by lia) (by lia))) ?_)
    rintro⟨c,m,e⟩ st2 ⟨rfl,b1,b2,b3,b4,b5,b6,b7,b8⟩
    dsimp only at*
    by_cases he:e>0
    ·rw [if_pos he]
     have hsz2:lo+m<=(arrOf st2).size:=by rw [b3.size];lia
     refine wpS_bind (a4I (wpS_bind (wpS_mono (tail m _ (b3.set (mirror_perm _ _ _ _)) b4 (b5.trans (M4 hsz2 (by lia))) b2 b1 (S8 C hS b3 (by lia) b7 (by lia) (by lia) (by lia) b8)) fun _ st3 q=>wpS_bind (wpS_mono q ?_))))
     rintro⟨c,n'⟩ st4 ⟨rfl,q⟩
     exact wpS_pure q
    ·rw [if_neg he]
     refine wpS_bind (wpS_mono (tail m _ b3 b4 b5 b2 b1 b7) fun _ st3 q=>wpS_bind (wpS_mono q ?_))
     rintro⟨c,n'⟩ st4 ⟨rfl,q⟩
     exact wpS_pure q
   ·simp only [if_true]
    exact wpS_pure (h n st hB rfl Fix.refl hn1 hn2 hsn)
  ·rw [if_neg hgt]
   have:n=1:=by lia
   subst this
   refine wpS_bind (wpS_lift (wpAny_rule ⟨rfl, ?_⟩))
   refine wpS_bind (wpS_mono (desc 1 _ hB rfl Fix.refl (by lia) (ges (by rw [show lo+1 - 1=lo by lia];exact C.rfl' (hB.sg hS (by lia))))) ?_)
   rintro⟨c,m,e⟩ st2 ⟨rfl,b1,b2,b3,b4,b5,b6,b7,b8⟩
   dsimp only at*
   by_cases he:e>0
   ·rw [if_pos he]
    have hsz2:lo+m<=(arrOf st2).size:=by rw [b3.size];lia
    refine wpS_bind (a4I (wpS_bind (wpS_mono (tail m _ (b3.set (mirror_perm _ _ _ _)) b4 (b5.trans (M4 hsz2 (by lia))) b2 b1 (S8 C hS b3 (by lia) b7 (by lia) (by lia) (by lia) b8)) fun _ st3 q=>wpS_bind (wpS_mono q ?_))))
    rintro⟨c,n'⟩ st4 ⟨rfl,q⟩
    exact wpS_pure q
   ·rw [if_neg he]
    refine wpS_bind (wpS_mono (tail m _ b3 b4 b5 b2 b1 b7) fun _ st3 q=>wpS_bind (wpS_mono q ?_))
    rintro⟨c,n'⟩ st4 ⟨rfl,q⟩
    exact wpS_pure q
theorem a9l(C:Q2 prog w A E s κ S R){a:Array Keyed}{lo k l:Nat}(hS:∀i,i<=lo+k->S (g a i))(hks:lo+k<a.size)(hlk:l<=k)(hs:Seg R a lo (lo+k))
 (hlo:∀i,i<l->R (g a (lo+k)) (g a (lo+i))=false) (hhi:∀i,l<=i->i<k->R (g a (lo+k)) (g a (lo+i))=true):Seg R (bubble a (lo+k) (lo+k - (lo+l))) lo (lo+(k+1)):=by
 intro i j hi hij hj
 rw [a3R hks (by lia),a3R hks (by lia),show lo+k - (lo+k - (lo+l))=lo+l by lia]
 have low:∀i,lo<=i->i<lo+l->R (g a (lo+k)) (g a i)=false:=fun i x y=>by
  have:=hlo (i - lo) (by lia);rwa [show lo+(i - lo)=i by lia] at this
 have high:∀i,lo+l<=i->i<lo+k->R (g a i) (g a (lo+k))=false:=fun i x y=>by
  have:=hhi (i - lo) (by lia) (by lia);rw [show lo+(i - lo)=i by lia] at this
  exact C.as _ _ (hS _ (AO _)) (hS _ (BE y)) this
 by_cases e1:i=lo+l
 ·subst e1
  rw [if_pos rfl]
  by_cases e2:j=lo+l
  ·rw [if_pos e2];exact C.rfl' (hS _ (AO _))
  ·rw [if_neg e2,if_pos (by lia)];exact high _ (by lia) (by lia)
 ·rw [if_neg e1]
  by_cases e3:lo+l<i
  ·rw [if_neg (by lia),if_pos (by lia),if_pos (by lia)];exact hs _ _ (by lia) (by lia) (by lia)
  ·rw [if_neg (c:=lo+l<i/\i<=lo+k) (by lia)]
   by_cases e2:j=lo+l
   ·rw [if_pos e2];exact low _ hi (by lia)
   ·rw [if_neg e2]
    by_cases e4:lo+l<j
    ·rw [if_pos (by lia)];exact hs _ _ hi (by lia) (by lia)
    ·rw [if_neg (by lia)];exact hs _ _ hi hij (by lia)
theorem b8k(C:Q2 prog w A E s κ S R)(hS:∀p∈a₀.toList,S p){st:SortSt}{lo n ok:Nat}{Q:Bool->SortSt->Prop}(hB:B κ a₀ st)(hn:lo+n<=a₀.size)(hok:ok<=n)(h1:1<=n)(hs:Seg R (arrOf st) lo (lo+ok))
 (h:∀st',B κ a₀ st'->pendingOf st'=pendingOf st->Fix lo (arrOf st) (arrOf st')->Seg R (arrOf st') lo (lo+n)->Q true st'):
 wpS (model prog w) A E s (binarySort' lo n ok) Q st:=by
 rw [binarySort'_eq]
 refine wpS_bind (wpS_mono (wpS_forRange (I:=fun k c st'=>c=(none,())/\B κ a₀ st'/\pendingOf st'=pendingOf st/\Fix lo (arrOf st) (arrOf st')/\Seg R (arrOf st') lo (lo+k))
  (Q:=fun c st'=>c=(none,())/\B κ a₀ st'/\pendingOf st'=pendingOf st/\Fix lo (arrOf st) (arrOf st')/\Seg R (arrOf st') lo (lo+n)) ?_ ?_ ⟨rfl,hB,rfl,Fix.refl, ?_⟩) ?_)
 ·rintro k c st' hk1 hk2 ⟨rfl,hB',hp,hf,hs'⟩
  dsimp only
  refine wpS_bind (wpS_mono (wpS_forRange (I:=fun x c st2=>st2=st'/\∃l r,c=(none,l,r)/\l<=r/\r<=k/\r - l+x<=k/\
   (∀i,i<l->R (g (arrOf st') (lo+k)) (g (arrOf st') (lo+i))=false)/\(∀i,r<=i->i<k->R (g (arrOf st') (lo+k)) (g (arrOf st') (lo+i))=true))
   (Q:=fun c st2=>st2=st'/\∃l,c=(none,l,l)/\l<=k/\
    (∀i,i<l->R (g (arrOf st') (lo+k)) (g (arrOf st') (lo+i))=false)/\(∀i,l<=i->i<k->R (g (arrOf st') (lo+k)) (g (arrOf st') (lo+i))=true)) ?_ ?_ ⟨rfl,0,k,rfl,by lia,by lia,by lia,fun i a=>by lia,fun i a b=>by lia⟩) ?_)
  ·rintro x c st2 _ hx ⟨rfl,l,r,rfl,hlr,hrk,hm,hlo,hhi⟩
   dsimp only
   by_cases hge:l>=r
   ·rw [if_pos hge]
    have:l=r:=by lia
    subst this
    exact wpS_pure ⟨rfl,l,rfl,hrk,hlo,hhi⟩
   ·rw [if_neg hge]
    obtain⟨c,hc,c1,c2⟩:∃c,(l+r)/ 2=c/\l<=c/\c<r:=⟨_,rfl,by lia,by lia⟩
    rw [hc]
    refine wpS_bind (a1C C hS hB' (by lia) (by lia) ?_)
    cases hl:R (g (arrOf st2) (lo+k)) (g (arrOf st2) (lo+c))
    ·simp only [Ac,if_false]
     refine wpS_pure ⟨rfl,c+1,r,rfl,by lia,by lia,by lia,fun i a=> ?_,hhi⟩
     exact C.tr _ (g (arrOf st2) (lo+c)) _ (hB'.sg hS (by lia)) (hB'.sg hS (by lia)) (hB'.sg hS (by lia)) (hs' _ _ (by lia) (by lia) (by lia)) hl
    ·simp only [if_true]
     refine wpS_pure ⟨rfl,l,c,rfl,by lia,by lia,by lia,hlo,fun i a b=> ?_⟩
     cases hi:R (g (arrOf st2) (lo+k)) (g (arrOf st2) (lo+i))
     ·exact absurd (C.tr _ (g (arrOf st2) (lo+i)) _ (hB'.sg hS (by lia)) (hB'.sg hS (by lia)) (hB'.sg hS (by lia)) (hs' (lo+c) (lo+i) (by lia) (by lia) (by lia)) hi) (by rw [hl];decide)
     ·rfl
  ·rintro c st2 ⟨rfl,l,r,rfl,hlr,hrk,hm,hlo,hhi⟩
   have:l=r:=by lia
   subst this
   exact⟨rfl,l,rfl,hrk,hlo,hhi⟩
  ·rintro c st2 ⟨rfl,l,rfl,hlk,hlo,hhi⟩
   dsimp only
   rw [moveDown'_eq]
   have hks:lo+k<(arrOf st2).size:=by rw [hB'.size];lia
   refine wpS_bind (wpS_modify (wpS_pure ⟨rfl,hB'.set (bubble_perm _ _ _),hp,hf.trans ?_, ?_⟩))
   ·intro i hi
    show g (bubble (arrOf st2) (lo+k) (lo+k - (lo+l))) i=_
    rw [a3R hks (by lia),if_neg (by lia),if_neg (by lia)]
   ·exact a9l C (fun i hi=>hB'.sg hS (by lia)) hks hlk hs' hlo hhi
 ·rintro c st' ⟨rfl,hB',hp,hf,hs'⟩
  rw [show max (max ok 1) n=n by lia] at hs'
  exact⟨rfl,hB',hp,hf,hs'⟩
 ·by_cases hk:ok=0
  ·subst hk
   intro i j hi hij hj
   have:i=j:=by lia
   subst this;exact C.rfl' (hB.sg hS (by lia))
  ·rw [show max ok 1=ok by lia];exact hs
 ·rintro c st' ⟨rfl,hB',hp,hf,hs'⟩
  exact wpS_pure (h st' hB' hp hf hs')
end
def le(R:Keyed->Keyed->Bool)(x y:Keyed):Prop:=R y x=false
def Mg(R:Keyed->Keyed->Bool)(W out la lb:List Keyed):Prop:=(out++la).Pairwise (le R)/\(out++lb).Pairwise (le R)/\(out++(la++lb)).Perm W
section
variable {R:Keyed->Keyed->Bool}{W out la lb xs:List Keyed}
theorem Mg.takeA(h:Mg R W out (xs++la) lb)(k:∀x∈xs,∀y∈lb,le R x y):Mg R W (out++xs) la lb:=by
 obtain⟨h1,h2,h3⟩:=h
 have e1:=List.pairwise_append.mp (show((out++xs)++la).Pairwise (le R) by rw [List.append_assoc];exact h1)
 have e2:=List.pairwise_append.mp h2
 refine⟨by rw [List.append_assoc];exact h1,List.pairwise_append.mpr ⟨e1.1,e2.2.1,fun x hx y hy=> ?_⟩,by rw [List.append_assoc,<-List.append_assoc xs];exact h3⟩
 rcases Ay.mp hx with hx|hx
 ·exact e2.2.2 x hx y hy
 ·exact k x hx y hy
theorem Mg.swap(h:Mg R W out la lb):Mg R W out lb la:=⟨h.2.1,h.1,(List.Perm.append_left out List.perm_append_comm).trans h.2.2⟩
theorem Mg.takeB(h:Mg R W out la (xs++lb))(k:∀x∈xs,∀y∈la,le R x y):Mg R W (out++xs) la lb:=(h.swap.takeA k).swap
def O6(R:Keyed->Keyed->Bool)(W r:List Keyed):Prop:=r.Pairwise (le R)/\r.Perm W
theorem Mg.doneB(h:Mg R W out la []):O6 R W (out++la):=⟨h.1,by have:=h.2.2;rwa [Al] at this⟩
theorem Mg.doneA(h:Mg R W out [] lb):O6 R W (out++lb):=⟨h.2.1,h.2.2⟩
theorem Mg.last{x:Keyed}(h:Mg R W out [x] lb)(k:∀y∈lb,le R y x):O6 R W ((out++lb)++[x]):=by
 obtain⟨h1,h2,h3⟩:=h
 have e1:=List.pairwise_append.mp h1
 refine⟨List.pairwise_append.mpr ⟨h2,e1.2.1,fun y hy z hz=> ?_⟩, ?_⟩
 ·cases List.mem_singleton.mp hz
  rcases Ay.mp hy with hy|hy
  ·exact e1.2.2 y hy x (List.mem_singleton.mpr rfl)
  ·exact k y hy
 ·rw [List.append_assoc]
  exact(List.Perm.append_left out List.perm_append_comm).trans h3
end
theorem Z5{a:Array Keyed}{i:Nat}(h:i<a.size):a.toList.drop i=g a i::a.toList.drop (i+1):=by
 have h':i<a.toList.length:=h
 rw [List.drop_eq_getElem_cons h']
 congr 1
 have:=M5 h
 rw [Ar h'] at this
 exact Option.some.inj this
theorem a36{a:Array Keyed}{i:Nat}{x:Keyed}(h:x∈a.toList.drop i):∃j,i<=j/\j<a.size/\x=g a j:=by
 obtain⟨k,hk,e⟩:=List.mem_iff_getElem.mp h
 have hk':i+k<a.size:=by rw [List.length_drop] at hk;have:a.toList.length=a.size:=rfl;lia
 refine⟨i+k,by lia,hk', ?_⟩
 have e2:=M5 hk'
 rw [List.getElem_drop] at e
 rw [Ar (show i+k<a.toList.length from hk')] at e2
 exact e.symm.trans (Option.some.inj e2)
theorem N2{a:Array Keyed}{i k:Nat}{x:Keyed}(h:x∈(a.toList.drop i).take k)(hk:i+k<=a.size):∃j,j<k/\x=g a (i+j):=by
 obtain⟨q,hq,e⟩:=List.mem_iff_getElem.mp h
 rw [List.length_take,List.length_drop] at hq
 rw [List.getElem_take,List.getElem_drop] at e
 refine⟨q,by lia, ?_⟩
 have hk':i+q<a.size:=by lia
 have e2:=M5 hk'
 rw [Ar (show i+q<a.toList.length from hk')] at e2
 exact e.symm.trans (Option.some.inj e2)
theorem v0(a:Array Keyed)(i j:Nat):(a.extract i j).toList=(a.toList.drop i).take (j - i):=by
 rw [Array.toList_extract,List.extract_eq_take_drop]
theorem a3c{a:Array Keyed}{i:Nat}:(a.extract i a.size).toList=a.toList.drop i:=by
 rw [v0,List.take_of_length_le]
 rw [List.length_drop];exact AO _
section
variable {prog:AJ}{w:AH}{A:AL}{E:AA->AC->Prop}{s:AC}
variable {κ:SortKind}{S:Keyed->Prop}{R:Keyed->Keyed->Bool}
theorem a7a(C:Q2 prog w A E s κ S R){key:Keyed}{arr:Array Keyed}{base n hint:Nat}{st:SortSt}{Q:Option Nat->SortSt->Prop}(hk:kindOf st=κ)(hn:base+n<=arr.size)(hh:hint<n)
 (hS:∀i,i<n->S (g arr (base+i))) (hy:S key) (hs:Seg R arr base (base+n))
 (h:∀k,k<=n->(∀i,i<k->le R (g arr (base+i)) key)->(∀i,k<=i->i<n->R key (g arr (base+i))=true)->Q (some k) st):
 wpS (model prog w) A E s (gal false key arr base n hint) Q st:=by
 refine b4a C hk hn hh hS hy (fun i j hij hj e=> ?_) fun k k1 k2 k3=>h k k1 (fun i hi=> ?_) (fun i a b=> ?_)
 ·have e':R key (g arr (base+j))=false:=by simpa [bb] using e
  have:R key (g arr (base+i))=false:=C.tr _ (g arr (base+j)) _ (hS _ (by lia)) (hS _ hj) hy (hs _ _ (by lia) (by lia) (by lia)) e'
  simpa [bb] using this
 ·exact(by simpa [bb] using k2 i hi:R key (g arr (base+i))=false)
 ·simpa [bb] using k3 i a b
theorem a7b(C:Q2 prog w A E s κ S R){key:Keyed}{arr:Array Keyed}{base n hint:Nat}{st:SortSt}{Q:Option Nat->SortSt->Prop}(hk:kindOf st=κ)(hn:base+n<=arr.size)(hh:hint<n)
 (hS:∀i,i<n->S (g arr (base+i))) (hy:S key) (hs:Seg R arr base (base+n))
 (h:∀k,k<=n->(∀i,i<k->R (g arr (base+i)) key=true)->(∀i,k<=i->i<n->le R key (g arr (base+i)))->Q (some k) st):
 wpS (model prog w) A E s (gal true key arr base n hint) Q st:=by
 refine b4a C hk hn hh hS hy (fun i j hij hj e=> ?_) fun k k1 k2 k3=>h k k1 (fun i hi=> ?_) (fun i a b=> ?_)
 ·have e':R (g arr (base+j)) key=true:=by simpa [bb] using e
  cases hi:R (g arr (base+i)) key
  ·have:=C.tr _ (g arr (base+i)) _ hy (hS _ (by lia)) (hS _ hj) hi (hs _ _ (by lia) (by lia) (by lia))
   rw [this] at e';cases e'
  ·simpa [bb] using hi
 ·simpa [bb] using k2 i hi
 ·exact(by simpa [bb] using k3 i a b:R (g arr (base+i)) key=false)
structure Sm(st st':SortSt):Prop where
 k:kindOf st'=kindOf st
 a:arrOf st'=arrOf st
 p:pendingOf st'=pendingOf st
 f:failedOf st'=failedOf st
theorem Sm.refl{st:SortSt}:Sm st st:=⟨rfl,rfl,rfl,rfl⟩
def b1L:Nat->SM Unit:=sortPriv% PySem.Builtin.setMinGallop
theorem b5G(k:Nat):b1L k=modify fun st=>SortSt.mk' (kindOf st) (arrOf st) (pendingOf st) k (failedOf st):=rfl
theorem a3o{k:Nat}{st₀ st:SortSt}{Q:Unit->SortSt->Prop}(m:Sm st₀ st)(h:∀st',Sm st₀ st'->Q () st'):wpS (model prog w) A E s (b1L k) Q st:=by
 rw [b5G];exact wpS_modify (h _ ⟨m.k,m.a,m.p,m.f⟩)
def mLo:Array Keyed->Array Keyed->SM (Array Keyed):=sortPriv% PySem.Builtin.mergeLo
def mHi:Array Keyed->Array Keyed->SM (Array Keyed):=sortPriv% PySem.Builtin.mergeHi
def rs(a b o:Array Keyed)(i j:Nat):Array Keyed:=o++a.extract i a.size++b.extract j b.size
def D(R:Keyed->Keyed->Bool)(a b o:Array Keyed)(i j:Nat):Prop:=Mg R (a.toList++b.toList) o.toList (a.toList.drop i) (b.toList.drop j)
structure Two(S:Keyed->Prop)(R:Keyed->Keyed->Bool)(a b:Array Keyed):Prop where
 Sa:∀i,i<a.size->S (g a i)
 Sb:∀i,i<b.size->S (g b i)
 sa:Seg R a 0 a.size
 sb:Seg R b 0 b.size
 pa:0<a.size
 pb:0<b.size
 lo:∀i,i<a.size->le R (g b 0) (g a i)
 hi:∀j,j<b.size->le R (g b j) (g a (a.size - 1))
theorem D.takeAk(C:Q2 prog w A E s κ S R){a b o:Array Keyed}{i j k:Nat}(T:Two S R a b)(h:D R a b o i j)(hk:i+k<=a.size)(hj:j<b.size)(q:∀l,l<k->le R (g a (i+l)) (g b j)):
 D R a b (o++a.extract i (i+k)) (i+k) j:=by
 unfold D at h ⊢
 rw [Array.toList_append,v0,show i+k - i=k by lia]
 refine Mg.takeA (by rw [<-List.drop_drop,List.take_append_drop];exact h) fun x hx y hy=> ?_
 obtain⟨l,hl,rfl⟩:=N2 hx hk
 obtain⟨m,hm,hm2,rfl⟩:=a36 hy
 exact C.tr _ (g b j) _ (T.Sa _ (by lia)) (T.Sb _ hj) (T.Sb _ hm2) (q l hl) (T.sb j m (by lia) hm hm2)
theorem D.takeBk(C:Q2 prog w A E s κ S R){a b o:Array Keyed}{i j k:Nat}(T:Two S R a b)(h:D R a b o i j)(hk:j+k<=b.size)(hi:i<a.size)(q:∀l,l<k->le R (g b (j+l)) (g a i)):
 D R a b (o++b.extract j (j+k)) i (j+k):=by
 unfold D at h ⊢
 rw [Array.toList_append,v0,show j+k - j=k by lia]
 refine Mg.takeB (by rw [<-List.drop_drop,List.take_append_drop];exact h) fun x hx y hy=> ?_
 obtain⟨l,hl,rfl⟩:=N2 hx hk
 obtain⟨m,hm,hm2,rfl⟩:=a36 hy
 exact C.tr _ (g a i) _ (T.Sb _ (by lia)) (T.Sa _ hi) (T.Sa _ hm2) (q l hl) (T.sa i m (by lia) hm hm2)
theorem a4o{o a:Array Keyed}{i:Nat}(h:i<a.size):o.push (g a i)=o++a.extract i (i+1):=by
 apply Array.toList_inj.mp
 rw [Array.toList_push,Array.toList_append,v0,Z5 h,show i+1 - i=1 by lia]
 rfl
theorem D.takeA(C:Q2 prog w A E s κ S R){a b o:Array Keyed}{i j:Nat}(T:Two S R a b)(h:D R a b o i j)(hi:i<a.size)(hj:j<b.size)(q:le R (g a i) (g b j)):D R a b (o.push (g a i)) (i+1) j:=by
 rw [a4o hi]
 exact h.takeAk C T (by lia) hj fun l hl=>by rw [show i+l=i by lia];exact q
theorem D.takeB(C:Q2 prog w A E s κ S R){a b o:Array Keyed}{i j:Nat}(T:Two S R a b)(h:D R a b o i j)(hi:i<a.size)(hj:j<b.size)(q:le R (g b j) (g a i)):D R a b (o.push (g b j)) i (j+1):=by
 rw [a4o hj]
 exact h.takeBk C T (by lia) hi fun l hl=>by rw [show j+l=j by lia];exact q
theorem D.done{a b o:Array Keyed}{i j:Nat}(h:D R a b o i j)(e:i=a.size\/j=b.size):O6 R (a.toList++b.toList) (rs a b o i j).toList:=by
 unfold rs
 rw [Array.toList_append,Array.toList_append,a3c,a3c]
 unfold D at h
 have nil:∀c:Array Keyed,c.toList.drop c.size=[]:=fun c=>List.drop_eq_nil_of_le (AO _)
 rcases e with rfl|rfl
 ·rw [nil] at h ⊢;rw [Al];exact h.doneA
 ·rw [nil] at h ⊢;rw [Al];exact h.doneB
theorem D.last{a b o:Array Keyed}{i j:Nat}(T:Two S R a b)(h:D R a b o i j)(e:i+1=a.size):O6 R (a.toList++b.toList) (rs b a o j i).toList:=by
 unfold rs
 rw [Array.toList_append,Array.toList_append,a3c,a3c]
 unfold D at h
 have e1:a.toList.drop i=[g a (a.size - 1)]:=by
  rw [Z5 (by lia),e,show i=a.size - 1 by lia]
  congr 1
  exact List.drop_eq_nil_of_le (AO _)
 rw [e1] at h ⊢
 exact h.last fun y hy=>by
  obtain⟨m,hm,hm2,rfl⟩:=a36 hy
  exact T.hi m hm2
abbrev LoT:=Option (Array Keyed)×Array Keyed×Nat×Nat×Nat×Nat×Nat
def loC(a b o:Array Keyed)(i j mg u v:Nat):StateT SortSt Sem (ForInStep LoT):=do
 let y<-elem' a i
 if i+1+1==a.size then
  pure (.done (some (rs b a (o.push y) j (i+1)),o.push y,i+1,j,mg,u,v))
 else if u<7 && v<7 then
  pure (.done (none,o.push y,i+1,j,mg,u,v))
 else
  pure (.yield (none,o.push y,i+1,j,mg,u,v))
def loB(a b o:Array Keyed)(i j mg u v:Nat):StateT SortSt Sem (ForInStep LoT):=do
 let x<-elem' b j
 if j+1==b.size then
  pure (.done (some (rs a b (o.push x) i (j+1)),o.push x,i,j+1,mg,u,v))
 else do
  let y<-elem' a i
  let z<-gal true y b (j+1) (b.size - (j+1)) 0
  match z with
  |some k=>
   if k>0 then
    if j+1+k==b.size then
     pure (.done (some (rs a b (o.push x++b.extract (j+1) (j+1+k)) i (j+1+k)),o.push x++b.extract (j+1) (j+1+k),i,j+1+k,mg,u,k))
    else loC a b (o.push x++b.extract (j+1) (j+1+k)) i (j+1+k) mg u k
   else loC a b (o.push x) i (j+1) mg u k
  |_=>pure (.done (some (rs a b (o.push x) i (j+1)),o.push x,i,j+1,mg,u,v))
def loA(a b o:Array Keyed)(i j mg u v:Nat):StateT SortSt Sem (ForInStep LoT):=do
 b1L mg
 let x<-elem' b j
 let z<-gal false x a i (a.size - i) 0
 match z with
 |some k=>
  if k>0 then
   if i+k+1==a.size then
    pure (.done (some (rs b a (o++a.extract i (i+k)) j (i+k)),o++a.extract i (i+k),i+k,j,mg,k,v))
   else if i+k==a.size then
    pure (.done (some (rs a b (o++a.extract i (i+k)) (i+k) j),o++a.extract i (i+k),i+k,j,mg,k,v))
   else loB a b (o++a.extract i (i+k)) (i+k) j mg k v
  else loB a b o i j mg k v
 |_=>pure (.done (some (rs a b o i j),o,i,j,mg,u,v))
def LoQ(R:Keyed->Keyed->Bool)(a b:Array Keyed)(st:SortSt)(x₀ x:Nat):ForInStep LoT->SortSt->Prop:=fun r st'=>match r with
 | .done c=>Sm st st'/\((∃r,c.1=some r/\O6 R (a.toList++b.toList) r.toList)\/(c.1=none/\D R a b c.2.1 c.2.2.1 c.2.2.2.1/\c.2.2.1+1<a.size/\c.2.2.2.1<b.size/\x₀+1<=c.2.2.1+c.2.2.2.1))
 | .yield c=>c.1=none/\Sm st st'/\D R a b c.2.1 c.2.2.1 c.2.2.2.1/\c.2.2.1+1<a.size/\c.2.2.2.1<b.size/\x₀+(x+1)<=c.2.2.1+c.2.2.2.1
section
variable {a b o:Array Keyed}{st st':SortSt}{i j mg u v x₀ x:Nat}
theorem b4g(C:Q2 prog w A E s κ S R)(T:Two S R a b)(m:Sm st st')(d:D R a b o i j)(hi:i+1<a.size)(hj:j<b.size)(q:le R (g a i) (g b j))(hp:x₀+x<=i+j):wpS (model prog w) A E s (loC a b o i j mg u v) (LoQ R a b st x₀ x) st':=by
 unfold loC
 refine wpS_bind (m4 (by lia) ?_)
 have d4:=D.takeA C T d (by lia) hj q
 by_cases e6:i+1+1=a.size
 ·rw [if_pos (by simpa using e6)]
  exact wpS_pure ⟨m,.inl ⟨_,rfl,d4.last T e6⟩⟩
 rw [if_neg (by simpa using e6)]
 split
 ·exact wpS_pure ⟨m,.inr ⟨rfl,d4,(show i+1+1<a.size by lia),hj,(show x₀+1<=i+1+j by lia)⟩⟩
 ·exact wpS_pure ⟨rfl,m,d4,(show i+1+1<a.size by lia),hj,(show x₀+(x+1)<=i+1+j by lia)⟩
theorem b4f(C:Q2 prog w A E s κ S R)(T:Two S R a b)(hk:kindOf st=κ)(m:Sm st st')(d:D R a b o i j)(hi:i+1<a.size)(hj:j<b.size)(q:le R (g b j) (g a i))(hp:x₀+x<=i+j):wpS (model prog w) A E s (loB a b o i j mg u v) (LoQ R a b st x₀ x) st':=by
 unfold loB
 have d3:=D.takeB C T d (by lia) hj q
 refine wpS_bind (m4 hj ?_)
 by_cases e5:j+1=b.size
 ·rw [if_pos (by simpa using e5)]
  exact wpS_pure ⟨m,.inl ⟨_,rfl,d3.done (.inr e5)⟩⟩
 rw [if_neg (by simpa using e5)]
 refine wpS_bind (m4 (by lia) ?_)
 refine wpS_bind (a7b C (m.k.trans hk) (by lia) (by lia) (fun l hl=>T.Sb _ (by lia)) (T.Sa _ (by lia)) (fun p q h1 h2 h3=>T.sb p q (by lia) h2 (by lia)) fun k' q1 q2 q3=> ?_)
 dsimp only
 by_cases hk':k'>0
 ·rw [if_pos hk']
  have d5:=d3.takeBk C T (k:=k') (by lia) (by lia) fun l hl=>C.as _ _ (T.Sb _ (by lia)) (T.Sa _ (by lia)) (q2 l hl)
  by_cases e7:j+1+k'=b.size
  ·rw [if_pos (by simpa using e7)]
   exact wpS_pure ⟨m,.inl ⟨_,rfl,d5.done (.inr e7)⟩⟩
  rw [if_neg (by simpa using e7)]
  exact b4g C T m d5 hi (by lia) (q3 k' (AO _) (by lia)) (by lia)
 ·rw [if_neg hk']
  exact b4g C T m d3 hi (by lia) (by have:=q3 0 (by lia) (by lia);rwa [Nat.add_zero] at this) (by lia)
theorem b4e(C:Q2 prog w A E s κ S R)(T:Two S R a b)(hk:kindOf st=κ)(m:Sm st st')(d:D R a b o i j)(hi:i+1<a.size)(hj:j<b.size)(hp:x₀+x<=i+j):wpS (model prog w) A E s (loA a b o i j mg u v) (LoQ R a b st x₀ x) st':=by
 unfold loA
 refine wpS_bind (a3o m fun st3 m3=> ?_)
 refine wpS_bind (m4 hj ?_)
 refine wpS_bind (a7a C (m3.k.trans hk) (by lia) (by lia) (fun l hl=>T.Sa _ (by lia)) (T.Sb _ hj) (fun p q h1 h2 h3=>T.sa p q (by lia) h2 (by lia)) fun k k1 k2 k3=> ?_)
 dsimp only
 by_cases hk0:k>0
 ·rw [if_pos hk0]
  have d2:=d.takeAk C T (k:=k) (by lia) hj k2
  by_cases e3:i+k+1=a.size
  ·rw [if_pos (by simpa using e3)]
   exact wpS_pure ⟨m3,.inl ⟨_,rfl,d2.last T e3⟩⟩
  rw [if_neg (by simpa using e3)]
  by_cases e4:i+k=a.size
  ·rw [if_pos (by simpa using e4)]
   exact wpS_pure ⟨m3,.inl ⟨_,rfl,d2.done (.inl e4)⟩⟩
  rw [if_neg (by simpa using e4)]
  exact b4f C T hk m3 d2 (by lia) hj (C.as _ _ (T.Sb _ hj) (T.Sa _ (by lia)) (k3 k (AO _) (by lia))) (by lia)
 ·rw [if_neg hk0]
  exact b4f C T hk m3 d hi hj (C.as _ _ (T.Sb _ hj) (T.Sa _ (by lia)) (by have:=k3 0 (by lia) (by lia);rwa [Nat.add_zero] at this)) hp
end
abbrev LoV:=Option (Array Keyed)×Array Keyed×Nat×Nat×Nat×Nat
abbrev LoU:=Option (Array Keyed)×Array Keyed×Nat×Nat×Nat
def loS(a b:Array Keyed)(mg:Nat)(c:LoV):StateT SortSt Sem (ForInStep LoV):=do
 let y<-elem' b c.2.2.2.1
 let x<-elem' a c.2.2.1
 let t<-lt' y x
 match t with
 |some t=>
  if t then
   let z<-elem' b c.2.2.2.1
   if c.2.2.2.1+1==b.size then
    pure (.done (some (rs a b (c.2.1.push z) c.2.2.1 (c.2.2.2.1+1)),c.2.1.push z,c.2.2.1,c.2.2.2.1+1,0,c.2.2.2.2.2+1))
   else if c.2.2.2.2.2+1>=mg then
    pure (.done (none,c.2.1.push z,c.2.2.1,c.2.2.2.1+1,0,c.2.2.2.2.2+1))
   else pure (.yield (none,c.2.1.push z,c.2.2.1,c.2.2.2.1+1,0,c.2.2.2.2.2+1))
  else
   let z<-elem' a c.2.2.1
   if c.2.2.1+1+1==a.size then
    pure (.done (some (rs b a (c.2.1.push z) c.2.2.2.1 (c.2.2.1+1)),c.2.1.push z,c.2.2.1+1,c.2.2.2.1,c.2.2.2.2.1+1,0))
   else if c.2.2.2.2.1+1>=mg then
    pure (.done (none,c.2.1.push z,c.2.2.1+1,c.2.2.2.1,c.2.2.2.2.1+1,0))
   else pure (.yield (none,c.2.1.push z,c.2.2.1+1,c.2.2.2.1,c.2.2.2.2.1+1,0))
 |_=>pure (.done (some (rs a b c.2.1 c.2.2.1 c.2.2.2.1),c.2.1,c.2.2.1,c.2.2.2.1,c.2.2.2.2.1,c.2.2.2.2.2))
def loG(a b:Array Keyed)(c:LoT):StateT SortSt Sem (ForInStep LoT):=
 if c.2.2.2.2.1>1 then loA a b c.2.1 c.2.2.1 c.2.2.2.1 (c.2.2.2.2.1 - 1) c.2.2.2.2.2.1 c.2.2.2.2.2.2 else loA a b c.2.1 c.2.2.1 c.2.2.2.1 c.2.2.2.2.1 c.2.2.2.2.2.1 c.2.2.2.2.2.2
def loT(a b:Array Keyed)(c:LoU):StateT SortSt Sem (ForInStep LoU):=do
 let r<-forIn [0:a.size+b.size] ((none,c.2.1,c.2.2.1,c.2.2.2.1,0,0):LoV) fun _ r=>loS a b c.2.2.2.2 r
 match r.1 with
 |none=>do
  rule "list.sort.gallop"
  let q<-forIn [0:a.size+b.size] ((none,r.2.1,r.2.2.1,r.2.2.2.1,c.2.2.2.2+1,r.2.2.2.2.1,r.2.2.2.2.2):LoT) fun _ q=>loG a b q
  match q.1 with
  |none=>do
   b1L (q.2.2.2.2.1+1)
   pure (.yield (none,q.2.1,q.2.2.1,q.2.2.2.1,q.2.2.2.2.1+1))
  |some x=>pure (.done (some x,q.2.1,q.2.2.1,q.2.2.2.1,q.2.2.2.2.1))
 |some x=>pure (.done (some x,r.2.1,r.2.2.1,r.2.2.2.1,c.2.2.2.2))
theorem b7r(p q:Array Keyed):mLo p q=(do
 rule "list.sort.merge-lo"
 let x<-elem' q 0
 if 1==q.size then
  pure (rs p q #[x] 0 1)
 else if 0+1==p.size then
  pure (rs q p #[x] 1 0)
 else do
  let z<-get
  let r<-forIn [0:p.size+q.size] ((none, #[x],0,1,gallopOf z):LoU) fun _ c=>loT p q c
  match r.1 with
  |none=>unsupported "internal:list.sort.merge-bound"
  |some v=>pure v):=by kernel_rfl
abbrev LoI(R:Keyed->Keyed->Bool)(a b:Array Keyed)(st:SortSt)(k:Nat)(c:Option (Array Keyed))(o:Array Keyed)(i j:Nat)(st':SortSt):Prop:=c=none/\Sm st st'/\D R a b o i j/\i+1<a.size/\j<b.size/\k<=i+j
abbrev LoE(R:Keyed->Keyed->Bool)(a b:Array Keyed)(st:SortSt)(k:Nat)(c:Option (Array Keyed))(o:Array Keyed)(i j:Nat)(st':SortSt):Prop:=Sm st st'/\((∃r,c=some r/\O6 R (a.toList++b.toList) r.toList)\/(c=none/\D R a b o i j/\i+1<a.size/\j<b.size/\k<=i+j))
section
variable {a b:Array Keyed}{st st':SortSt}{x₀ x mg:Nat}
theorem b8q(C:Q2 prog w A E s κ S R)(T:Two S R a b)(hk:kindOf st=κ){c:LoV}(h:LoI R a b st x₀ c.1 c.2.1 c.2.2.1 c.2.2.2.1 st'):wpS (model prog w) A E s (loS a b mg c) (fun r st'=>match r with| .done c'=>LoE R a b st x₀ c'.1 c'.2.1 c'.2.2.1 c'.2.2.2.1 st'| .yield c'=>LoI R a b st x₀ c'.1 c'.2.1 c'.2.2.1 c'.2.2.2.1 st') st':=by
 obtain⟨c,o,i,j,u,v⟩:=c
 obtain⟨hc,m,d,hi,hj,hp⟩:=h
 dsimp only at*
 unfold loS
 dsimp only
 refine wpS_bind (m4 hj (wpS_bind (m4 (by lia) (wpS_bind (C.lt _ _ (T.Sb _ hj) (T.Sa _ (by lia)) st' _ (m.k.trans hk) ?_)))))
 dsimp only
 cases hl:R (g b j) (g a i)
 ·simp only [Ac,if_false]
  refine wpS_bind (m4 (by lia) ?_)
  have d2:=D.takeA C T d (by lia) hj hl
  by_cases e3:i+1+1=a.size
  ·rw [if_pos (by simpa using e3)]
   exact wpS_pure ⟨m,.inl ⟨_,rfl,d2.last T e3⟩⟩
  rw [if_neg (by simpa using e3)]
  split
  ·exact wpS_pure ⟨m,.inr ⟨rfl,d2,(show i+1+1<a.size by lia),hj,(show x₀<=i+1+j by lia)⟩⟩
  ·exact wpS_pure ⟨rfl,m,d2,(show i+1+1<a.size by lia),hj,(show x₀<=i+1+j by lia)⟩
 ·simp only [if_true]
  refine wpS_bind (m4 hj ?_)
  have d2:=D.takeB C T d (by lia) hj (C.as _ _ (T.Sb _ hj) (T.Sa _ (by lia)) hl)
  by_cases e3:j+1=b.size
  ·rw [if_pos (by simpa using e3)]
   exact wpS_pure ⟨m,.inl ⟨_,rfl,d2.done (.inr e3)⟩⟩
  rw [if_neg (by simpa using e3)]
  split
  ·exact wpS_pure ⟨m,.inr ⟨rfl,d2,hi,(show j+1<b.size by lia),(show x₀<=i+(j+1) by lia)⟩⟩
  ·exact wpS_pure ⟨rfl,m,d2,hi,(show j+1<b.size by lia),(show x₀<=i+(j+1) by lia)⟩
theorem b8p(C:Q2 prog w A E s κ S R)(T:Two S R a b)(hk:kindOf st=κ){c:LoT}(h:LoI R a b st (x₀+x) c.1 c.2.1 c.2.2.1 c.2.2.2.1 st'):wpS (model prog w) A E s (loG a b c) (fun r st'=>match r with| .done c'=>LoE R a b st (x₀+1) c'.1 c'.2.1 c'.2.2.1 c'.2.2.2.1 st'| .yield c'=>LoI R a b st (x₀+(x+1)) c'.1 c'.2.1 c'.2.2.1 c'.2.2.2.1 st') st':=by
 obtain⟨hc,m,d,hi,hj,hp⟩:=h
 unfold loG
 split
 ·exact b4e C T hk m d hi hj hp
 ·exact b4e C T hk m d hi hj hp
theorem b8r(C:Q2 prog w A E s κ S R)(T:Two S R a b)(hk:kindOf st=κ){c:LoU}(h:LoI R a b st x₀ c.1 c.2.1 c.2.2.1 c.2.2.2.1 st'):wpS (model prog w) A E s (loT a b c) (fun r st'=>match r with| .done c'=>Sm st st'/\∃r,c'.1=some r/\O6 R (a.toList++b.toList) r.toList| .yield c'=>LoI R a b st (x₀+1) c'.1 c'.2.1 c'.2.2.1 c'.2.2.2.1 st') st':=by
 obtain⟨hc,h⟩:=h
 unfold loT
 refine wpS_bind (wpS_mono (wpS_forRange (I:=fun _ c st'=>LoI R a b st x₀ c.1 c.2.1 c.2.2.1 c.2.2.2.1 st') (Q:=fun c st'=>LoE R a b st x₀ c.1 c.2.1 c.2.2.1 c.2.2.2.1 st') (fun _ _ _ _ _ h=>wpS_mono (b8q C T hk h) fun r _ q=>by cases r<;>exact q) (fun c st' ⟨h1,h2,h3⟩=>⟨h2,.inr ⟨h1,h3⟩⟩) ⟨rfl,h⟩) ?_)
 rintro r st2 ⟨m,⟨y,e,gd⟩|⟨e,h⟩⟩
 ·rw [e]
  exact wpS_pure ⟨m,y,rfl,gd⟩
 rw [e]
 refine wpS_bind (wpS_lift (wpAny_rule ⟨rfl, ?_⟩))
 refine wpS_bind (wpS_mono (wpS_forRange (I:=fun x c st'=>LoI R a b st (x₀+x) c.1 c.2.1 c.2.2.1 c.2.2.2.1 st') (Q:=fun c st'=>LoE R a b st (x₀+1) c.1 c.2.1 c.2.2.1 c.2.2.2.1 st') (fun _ _ _ _ _ h=>wpS_mono (b8p C T hk h) fun r _ q=>by cases r<;>exact q) (fun c st' ⟨h1,h2,h3,h4,h5,h6⟩=>⟨h2,.inr ⟨h1,h3,h4,h5,by lia⟩⟩) ⟨rfl,m,h⟩) ?_)
 rintro q st3 ⟨m,⟨y,e,gd⟩|⟨e,h⟩⟩
 ·rw [e]
  exact wpS_pure ⟨m,y,rfl,gd⟩
 rw [e]
 exact wpS_bind (a3o m fun st3 m3=>wpS_pure ⟨rfl,m3,h⟩)
end
theorem b8u(C:Q2 prog w A E s κ S R){a b:Array Keyed}(T:Two S R a b){st:SortSt}(hk:kindOf st=κ){Q:Array Keyed->SortSt->Prop}
 (h:∀r st',Sm st st'->O6 R (a.toList++b.toList) r.toList->Q r st'):wpS (model prog w) A E s (mLo a b) Q st:=by
 rw [b7r]
 refine wpS_bind (wpS_lift (wpAny_rule ⟨rfl, ?_⟩))
 refine wpS_bind (m4 T.pb ?_)
 have pw:∀c:Array Keyed,Seg R c 0 c.size->c.toList.Pairwise (le R):=fun c hc=>by
  rw [List.pairwise_iff_getElem]
  intro i j hi hj hij
  have h1:=M5 (a:=c) hi
  have h2:=M5 (a:=c) hj
  rw [Ar hi] at h1
  rw [Ar hj] at h2
  rw [Option.some.inj h1,Option.some.inj h2]
  exact hc i j (Nat.zero_le _) (by lia) hj
 have d0:D R a b #[g b 0] 0 1:=by
  have:D R a b #[] 0 0:=by
   refine⟨?_, ?_,List.Perm.refl _⟩
   ·exact pw a T.sa
   ·exact pw b T.sb
  exact this.takeB C T T.pa T.pb (T.lo 0 T.pa)
 have pa:=T.pa
 have pb:=T.pb
 by_cases e1:1=b.size
 ·rw [if_pos (by simpa using e1)]
  exact wpS_pure (h _ _ Sm.refl (d0.done (.inr e1)))
 rw [if_neg (by simpa using e1)]
 by_cases e2:0+1=a.size
 ·rw [if_pos (by simpa using e2)]
  exact wpS_pure (h _ _ Sm.refl (d0.last T e2))
 rw [if_neg (by simpa using e2)]
 refine wpS_bind (wpS_get ?_)
 refine wpS_bind (wpS_mono (wpS_forRange (I:=fun x c st'=>LoI R a b st x c.1 c.2.1 c.2.2.1 c.2.2.2.1 st')
  (Q:=fun c st'=>Sm st st'/\∃r,c.1=some r/\O6 R (a.toList++b.toList) r.toList) (fun _ _ _ _ _ h=>wpS_mono (b8r C T hk h) fun r _ q=>by cases r<;>exact q) (fun c st' ⟨h1,h2,h3,h4,h5,h6⟩=>by lia) ⟨rfl,Sm.refl,d0,(show 0+1<a.size by lia),(show 1<b.size by lia),Nat.zero_le _⟩) ?_)
 rintro c st' ⟨m,r,e,gd⟩
 rw [e]
 exact wpS_pure (h r st' m gd)
end
def Mh(R:Keyed->Keyed->Bool)(W out la lb:List Keyed):Prop:=(la++out).Pairwise (le R)/\(lb++out).Pairwise (le R)/\((la++lb)++out).Perm W
section
variable {R:Keyed->Keyed->Bool}{W out la lb xs:List Keyed}
theorem Mh.swap(h:Mh R W out la lb):Mh R W out lb la:=⟨h.2.1,h.1,(List.Perm.append_right out List.perm_append_comm).trans h.2.2⟩
theorem Mh.takeA(h:Mh R W out (la++xs) lb)(k:∀x∈xs,∀y∈lb,le R y x):Mh R W (xs++out) la lb:=by
 obtain⟨h1,h2,h3⟩:=h
 have e1:=List.pairwise_append.mp (show(la++(xs++out)).Pairwise (le R) by rw [<-List.append_assoc];exact h1)
 have e2:=List.pairwise_append.mp h2
 refine⟨by rw [<-List.append_assoc];exact h1,List.pairwise_append.mpr ⟨e2.1,e1.2.1,fun y hy x hx=> ?_⟩, ?_⟩
 ·rcases Ay.mp hx with hx|hx
  ·exact k x hx y hy
  ·exact e2.2.2 y hy x hx
 ·refine List.Perm.trans ?_ h3
  rw [<-List.append_assoc]
  refine List.Perm.append_right out ?_
  rw [List.append_assoc,List.append_assoc]
  exact List.Perm.append_left la List.perm_append_comm
theorem Mh.takeB(h:Mh R W out la (lb++xs))(k:∀x∈xs,∀y∈la,le R y x):Mh R W (xs++out) la lb:=(h.swap.takeA k).swap
theorem Mh.doneB(h:Mh R W out la []):O6 R W (la++out):=⟨h.1,by have:=h.2.2;rwa [Al] at this⟩
theorem Mh.doneA(h:Mh R W out [] lb):O6 R W (lb++out):=⟨h.2.1,h.2.2⟩
theorem Mh.first{x:Keyed}(h:Mh R W out la [x])(k:∀y∈la,le R x y):O6 R W ([x]++(la++out)):=by
 obtain⟨h1,h2,h3⟩:=h
 have e2:=List.pairwise_append.mp h2
 refine⟨List.pairwise_append.mpr ⟨e2.1,h1,fun y hy z hz=> ?_⟩, ?_⟩
 ·cases List.mem_singleton.mp hy
  rcases Ay.mp hz with hz|hz
  ·exact k z hz
  ·exact e2.2.2 x (List.mem_singleton.mpr rfl) z hz
 ·rw [<-List.append_assoc]
  exact(List.Perm.append_right out List.perm_append_comm).trans h3
end
theorem a37{a:Array Keyed}{n:Nat}{x:Keyed}(hn:n<=a.size)(h:x∈a.toList.take n):∃j,j<n/\x=g a j:=by
 obtain⟨j,hj,e⟩:=N2 (i:=0) (k:=n) (a:=a) (x:=x) (by rwa [List.drop_zero]) (by lia)
 exact⟨j,hj,by rwa [Nat.zero_add] at e⟩
theorem U2{a:Array Keyed}{m n:Nat}(h:m<=n):a.toList.take n=a.toList.take m++(a.extract m n).toList:=by
 rw [v0,<-List.take_add,show m+(n - m)=n by lia]
theorem a06(a:Array Keyed)(n:Nat):(a.extract 0 n).toList=a.toList.take n:=by
 rw [v0,List.drop_zero,Nat.sub_zero]
section
variable {prog:AJ}{w:AH}{A:AL}{E:AA->AC->Prop}{s:AC}
variable {κ:SortKind}{S:Keyed->Prop}{R:Keyed->Keyed->Bool}
def rh(a b o:Array Keyed)(i j:Nat):Array Keyed:=a.extract 0 i++b.extract 0 j++o.reverse
def H(R:Keyed->Keyed->Bool)(a b o:Array Keyed)(i j:Nat):Prop:=Mh R (a.toList++b.toList) o.toList.reverse (a.toList.take i) (b.toList.take j)
theorem H.takeAk(C:Q2 prog w A E s κ S R){a b o:Array Keyed}{i j m:Nat}(T:Two S R a b)(h:H R a b o i j)(hi:i<=a.size)(hm:m<=i)(hj:j<=b.size)(h0:0<j)(q:∀l,m<=l->l<i->le R (g b (j - 1)) (g a l)):
 H R a b (o++(a.extract m i).reverse) m j:=by
 unfold H at h ⊢
 rw [U2 hm] at h
 rw [Array.toList_append,Array.toList_reverse,List.reverse_append,List.reverse_reverse]
 refine Mh.takeA h fun x hx y hy=> ?_
 rw [v0] at hx
 obtain⟨l,hl,rfl⟩:=N2 hx (by lia)
 obtain⟨k,hk,rfl⟩:=a37 hj hy
 exact C.tr _ (g b (j - 1)) _ (T.Sb _ (by lia)) (T.Sb _ (by lia)) (T.Sa _ (by lia)) (T.sb k (j - 1) (by lia) (by lia) (by lia)) (q _ (by lia) (by lia))
theorem H.takeBk(C:Q2 prog w A E s κ S R){a b o:Array Keyed}{i j m:Nat}(T:Two S R a b)(h:H R a b o i j)(hj:j<=b.size)(hm:m<=j)(hi:i<=a.size)(h0:0<i)(q:∀l,m<=l->l<j->le R (g a (i - 1)) (g b l)):
 H R a b (o++(b.extract m j).reverse) i m:=by
 unfold H at h ⊢
 rw [U2 hm] at h
 rw [Array.toList_append,Array.toList_reverse,List.reverse_append,List.reverse_reverse]
 refine Mh.takeB h fun x hx y hy=> ?_
 rw [v0] at hx
 obtain⟨l,hl,rfl⟩:=N2 hx (by lia)
 obtain⟨k,hk,rfl⟩:=a37 hi hy
 exact C.tr _ (g a (i - 1)) _ (T.Sa _ (by lia)) (T.Sa _ (by lia)) (T.Sb _ (by lia)) (T.sa k (i - 1) (by lia) (by lia) (by lia)) (q _ (by lia) (by lia))
theorem a8a{o a:Array Keyed}{i:Nat}(h:i<a.size):o.push (g a i)=o++(a.extract i (i+1)).reverse:=by
 rw [a4o h]
 congr 1
 apply Array.toList_inj.mp
 rw [Array.toList_reverse,v0,Z5 h,show i+1 - i=1 by lia]
 rfl
theorem H.takeA(C:Q2 prog w A E s κ S R){a b o:Array Keyed}{i j:Nat}(T:Two S R a b)(h:H R a b o i j)(hi:i<=a.size)(hi0:0<i)(hj:j<=b.size)(h0:0<j)(q:le R (g b (j - 1)) (g a (i - 1))):H R a b (o.push (g a (i - 1))) (i - 1) j:=by
 rw [a8a (by lia),show i - 1+1=i by lia]
 exact h.takeAk C T hi (by lia) hj h0 fun l h1 h2=>by rw [show l=i - 1 by lia];exact q
theorem H.takeB(C:Q2 prog w A E s κ S R){a b o:Array Keyed}{i j:Nat}(T:Two S R a b)(h:H R a b o i j)(hj:j<=b.size)(hj0:0<j)(hi:i<=a.size)(h0:0<i)(q:le R (g a (i - 1)) (g b (j - 1))):H R a b (o.push (g b (j - 1))) i (j - 1):=by
 rw [a8a (by lia),show j - 1+1=j by lia]
 exact h.takeBk C T hj (by lia) hi h0 fun l h1 h2=>by rw [show l=j - 1 by lia];exact q
theorem H.done{a b o:Array Keyed}{i j:Nat}(h:H R a b o i j)(e:i=0\/j=0):O6 R (a.toList++b.toList) (rh a b o i j).toList:=by
 unfold rh
 rw [Array.toList_append,Array.toList_append,a06,a06,Array.toList_reverse]
 unfold H at h
 rcases e with rfl|rfl
 ·rw [List.take_zero] at h ⊢;exact h.doneA
 ·rw [List.take_zero] at h ⊢;rw [Al];exact h.doneB
theorem H.first{a b o:Array Keyed}{i j:Nat}(T:Two S R a b)(h:H R a b o i j)(hi:i<=a.size)(e:j=1):O6 R (a.toList++b.toList) (rh b a o j i).toList:=by
 unfold rh
 rw [Array.toList_append,Array.toList_append,a06,a06,Array.toList_reverse]
 unfold H at h
 subst e
 have e1:b.toList.take 1=[g b 0]:=by
  have:=Z5 (a:=b) T.pb
  rw [List.drop_zero] at this
  rw [this];rfl
 rw [e1] at h ⊢
 rw [List.append_assoc]
 exact h.first fun y hy=>by
  obtain⟨m,hm,rfl⟩:=a37 hi hy
  exact T.lo m (by lia)
abbrev HiT:=Option (Array Keyed)×Nat×Nat×Array Keyed×Nat×Nat×Nat
def hiC(a b o:Array Keyed)(i j mg u v:Nat):StateT SortSt Sem (ForInStep HiT):=do
 let y<-elem' a (i - 1)
 if i - 1==0 then
  pure (.done (some (rh a b (o.push y) (i - 1) j),i - 1,j,o.push y,mg,u,v))
 else if u<7 && v<7 then
  pure (.done (none,i - 1,j,o.push y,mg,u,v))
 else
  pure (.yield (none,i - 1,j,o.push y,mg,u,v))
def hiB(a b o:Array Keyed)(i j mg u v:Nat):StateT SortSt Sem (ForInStep HiT):=do
 let x<-elem' b (j - 1)
 if j - 1==1 then
  pure (.done (some (rh b a (o.push x) (j - 1) i),i,j - 1,o.push x,mg,u,v))
 else do
  let y<-elem' a (i - 1)
  let z<-gal true y b 0 (j - 1) (j - 1 - 1)
  match z with
  |some t=>
   if j - 1 - t>0 then
    if t==1 then
     pure (.done (some (rh b a (o.push x++(b.extract t (j - 1)).reverse) t i),i,t,o.push x++(b.extract t (j - 1)).reverse,mg,u,j - 1 - t))
    else if t==0 then
     pure (.done (some (rh a b (o.push x++(b.extract t (j - 1)).reverse) i t),i,t,o.push x++(b.extract t (j - 1)).reverse,mg,u,j - 1 - t))
    else hiC a b (o.push x++(b.extract t (j - 1)).reverse) i t mg u (j - 1 - t)
   else hiC a b (o.push x) i (j - 1) mg u (j - 1 - t)
  |_=>pure (.done (some (rh a b (o.push x) i (j - 1)),i,j - 1,o.push x,mg,u,v))
def hiA(a b o:Array Keyed)(i j mg u v:Nat):StateT SortSt Sem (ForInStep HiT):=do
 b1L mg
 let x<-elem' b (j - 1)
 let z<-gal false x a 0 i (i - 1)
 match z with
 |some t=>
  if i - t>0 then
   if t==0 then
    pure (.done (some (rh a b (o++(a.extract t i).reverse) t j),t,j,o++(a.extract t i).reverse,mg,i - t,v))
   else hiB a b (o++(a.extract t i).reverse) t j mg (i - t) v
  else hiB a b o i j mg (i - t) v
 |_=>pure (.done (some (rh a b o i j),i,j,o,mg,u,v))
def HiQ(R:Keyed->Keyed->Bool)(a b:Array Keyed)(st:SortSt)(x₀ x:Nat):ForInStep HiT->SortSt->Prop:=fun r st'=>match r with
 | .done c=>Sm st st'/\((∃r,c.1=some r/\O6 R (a.toList++b.toList) r.toList)\/(c.1=none/\H R a b c.2.2.2.1 c.2.1 c.2.2.1/\0<c.2.1/\c.2.1<=a.size/\1<c.2.2.1/\c.2.2.1<=b.size/\x₀+1+(c.2.1+c.2.2.1)<=a.size+b.size))
 | .yield c=>c.1=none/\Sm st st'/\H R a b c.2.2.2.1 c.2.1 c.2.2.1/\0<c.2.1/\c.2.1<=a.size/\1<c.2.2.1/\c.2.2.1<=b.size/\x₀+(x+1)+(c.2.1+c.2.2.1)<=a.size+b.size
section
variable {a b o:Array Keyed}{st st':SortSt}{i j mg u v x₀ x:Nat}
theorem b4d(C:Q2 prog w A E s κ S R)(T:Two S R a b)(m:Sm st st')(d:H R a b o i j)(hi:0<i)(hia:i<=a.size)(hj:1<j)(hjb:j<=b.size)(q:le R (g b (j - 1)) (g a (i - 1)))(hp:x₀+x+(i+j)<=a.size+b.size):wpS (model prog w) A E s (hiC a b o i j mg u v) (HiQ R a b st x₀ x) st':=by
 unfold hiC
 refine wpS_bind (m4 (by lia) ?_)
 have d4:=H.takeA C T d hia hi hjb (by lia) q
 by_cases e6:i - 1=0
 ·rw [if_pos (by simpa using e6)]
  exact wpS_pure ⟨m,.inl ⟨_,rfl,d4.done (.inl e6)⟩⟩
 rw [if_neg (by simpa using e6)]
 split
 ·exact wpS_pure ⟨m,.inr ⟨rfl,d4,(show 0<i - 1 by lia),(show i - 1<=a.size by lia),hj,hjb,(show x₀+1+(i - 1+j)<=a.size+b.size by lia)⟩⟩
 ·exact wpS_pure ⟨rfl,m,d4,(show 0<i - 1 by lia),(show i - 1<=a.size by lia),hj,hjb,(show x₀+(x+1)+(i - 1+j)<=a.size+b.size by lia)⟩
theorem b4c(C:Q2 prog w A E s κ S R)(T:Two S R a b)(hk:kindOf st=κ)(m:Sm st st')(d:H R a b o i j)(hi:0<i)(hia:i<=a.size)(hj:1<j)(hjb:j<=b.size)(q:le R (g a (i - 1)) (g b (j - 1)))(hp:x₀+x+(i+j)<=a.size+b.size):wpS (model prog w) A E s (hiB a b o i j mg u v) (HiQ R a b st x₀ x) st':=by
 unfold hiB
 have d3:=H.takeB C T d hjb (by lia) hia hi q
 refine wpS_bind (m4 (by lia) ?_)
 by_cases e5:j - 1=1
 ·rw [if_pos (by simpa using e5)]
  exact wpS_pure ⟨m,.inl ⟨_,rfl,d3.first T (by lia) e5⟩⟩
 rw [if_neg (by simpa using e5)]
 refine wpS_bind (m4 (by lia) ?_)
 refine wpS_bind (a7b C (m.k.trans hk) (by lia) (by lia) (fun l hl=>T.Sb _ (by lia)) (T.Sa _ (by lia)) (fun p q h1 h2 h3=>T.sb p q (by lia) h2 (by lia)) fun k' q1 q2 q3=> ?_)
 simp only [Nat.zero_add] at q2 q3
 dsimp only
 by_cases hk':j - 1 - k'>0
 ·rw [if_pos hk']
  have d5:=d3.takeBk C T (m:=k') (by lia) q1 (by lia) (by lia) q3
  by_cases e7:k'=1
  ·rw [if_pos (by simpa using e7)]
   exact wpS_pure ⟨m,.inl ⟨_,rfl,d5.first T (by lia) e7⟩⟩
  rw [if_neg (by simpa using e7)]
  by_cases e8:k'=0
  ·rw [if_pos (by simpa using e8)]
   exact wpS_pure ⟨m,.inl ⟨_,rfl,d5.done (.inr e8)⟩⟩
  rw [if_neg (by simpa using e8)]
  exact b4d C T m d5 hi hia (by lia) (by lia) (C.as _ _ (T.Sb _ (by lia)) (T.Sa _ (by lia)) (q2 (k' - 1) (by lia))) (by lia)
 ·rw [if_neg hk']
  exact b4d C T m d3 hi hia (by lia) (by lia) (C.as _ _ (T.Sb _ (by lia)) (T.Sa _ (by lia)) (q2 (j - 1 - 1) (by lia))) (by lia)
theorem b4b(C:Q2 prog w A E s κ S R)(T:Two S R a b)(hk:kindOf st=κ)(m:Sm st st')(d:H R a b o i j)(hi:0<i)(hia:i<=a.size)(hj:1<j)(hjb:j<=b.size)(hp:x₀+x+(i+j)<=a.size+b.size):wpS (model prog w) A E s (hiA a b o i j mg u v) (HiQ R a b st x₀ x) st':=by
 unfold hiA
 refine wpS_bind (a3o m fun st3 m3=> ?_)
 refine wpS_bind (m4 (by lia) ?_)
 refine wpS_bind (a7a C (m3.k.trans hk) (by lia) (by lia) (fun l hl=>T.Sa _ (by lia)) (T.Sb _ (by lia)) (fun p q h1 h2 h3=>T.sa p q (by lia) h2 (by lia)) fun k k1 k2 k3=> ?_)
 simp only [Nat.zero_add] at k2 k3
 dsimp only
 by_cases hk0:i - k>0
 ·rw [if_pos hk0]
  have d2:=d.takeAk C T (m:=k) hia k1 hjb (by lia) fun l h1 h2=>C.as _ _ (T.Sb _ (by lia)) (T.Sa _ (by lia)) (k3 l h1 h2)
  by_cases e3:k=0
  ·rw [if_pos (by simpa using e3)]
   exact wpS_pure ⟨m3,.inl ⟨_,rfl,d2.done (.inl e3)⟩⟩
  rw [if_neg (by simpa using e3)]
  exact b4c C T hk m3 d2 (by lia) (by lia) hj hjb (k2 (k - 1) (by lia)) (by lia)
 ·rw [if_neg hk0]
  exact b4c C T hk m3 d hi hia hj hjb (k2 (i - 1) (by lia)) hp
end
abbrev HiV:=Option (Array Keyed)×Nat×Nat×Array Keyed×Nat×Nat
abbrev HiU:=Option (Array Keyed)×Nat×Nat×Array Keyed×Nat
def hiS(a b:Array Keyed)(mg:Nat)(c:HiV):StateT SortSt Sem (ForInStep HiV):=do
 let y<-elem' b (c.2.2.1 - 1)
 let x<-elem' a (c.2.1 - 1)
 let t<-lt' y x
 match t with
 |some t=>
  if t then
   let z<-elem' a (c.2.1 - 1)
   if c.2.1 - 1==0 then
    pure (.done (some (rh a b (c.2.2.2.1.push z) (c.2.1 - 1) c.2.2.1),c.2.1 - 1,c.2.2.1,c.2.2.2.1.push z,c.2.2.2.2.1+1,0))
   else if c.2.2.2.2.1+1>=mg then
    pure (.done (none,c.2.1 - 1,c.2.2.1,c.2.2.2.1.push z,c.2.2.2.2.1+1,0))
   else pure (.yield (none,c.2.1 - 1,c.2.2.1,c.2.2.2.1.push z,c.2.2.2.2.1+1,0))
  else
   let z<-elem' b (c.2.2.1 - 1)
   if c.2.2.1 - 1==1 then
    pure (.done (some (rh b a (c.2.2.2.1.push z) (c.2.2.1 - 1) c.2.1),c.2.1,c.2.2.1 - 1,c.2.2.2.1.push z,0,c.2.2.2.2.2+1))
   else if c.2.2.2.2.2+1>=mg then
    pure (.done (none,c.2.1,c.2.2.1 - 1,c.2.2.2.1.push z,0,c.2.2.2.2.2+1))
   else pure (.yield (none,c.2.1,c.2.2.1 - 1,c.2.2.2.1.push z,0,c.2.2.2.2.2+1))
 |_=>pure (.done (some (rh a b c.2.2.2.1 c.2.1 c.2.2.1),c.2.1,c.2.2.1,c.2.2.2.1,c.2.2.2.2.1,c.2.2.2.2.2))
def hiG(a b:Array Keyed)(c:HiT):StateT SortSt Sem (ForInStep HiT):=
 if c.2.2.2.2.1>1 then hiA a b c.2.2.2.1 c.2.1 c.2.2.1 (c.2.2.2.2.1 - 1) c.2.2.2.2.2.1 c.2.2.2.2.2.2 else hiA a b c.2.2.2.1 c.2.1 c.2.2.1 c.2.2.2.2.1 c.2.2.2.2.2.1 c.2.2.2.2.2.2
def hiX(a b:Array Keyed)(c:HiU):StateT SortSt Sem (ForInStep HiU):=do
 let r<-forIn [0:a.size+b.size] ((none,c.2.1,c.2.2.1,c.2.2.2.1,0,0):HiV) fun _ r=>hiS a b c.2.2.2.2 r
 match r.1 with
 |none=>do
  rule "list.sort.gallop"
  let q<-forIn [0:a.size+b.size] ((none,r.2.1,r.2.2.1,r.2.2.2.1,c.2.2.2.2+1,r.2.2.2.2.1,r.2.2.2.2.2):HiT) fun _ q=>hiG a b q
  match q.1 with
  |none=>do
   b1L (q.2.2.2.2.1+1)
   pure (.yield (none,q.2.1,q.2.2.1,q.2.2.2.1,q.2.2.2.2.1+1))
  |some x=>pure (.done (some x,q.2.1,q.2.2.1,q.2.2.2.1,q.2.2.2.2.1))
 |some x=>pure (.done (some x,r.2.1,r.2.2.1,r.2.2.2.1,c.2.2.2.2))
theorem b7q(p q:Array Keyed):mHi p q=(do
 rule "list.sort.merge-hi"
 let x<-elem' p (p.size - 1)
 if p.size - 1==0 then
  pure (rh p q #[x] (p.size - 1) q.size)
 else if q.size==1 then
  pure (rh q p #[x] q.size (p.size - 1))
 else do
  let z<-get
  let r<-forIn [0:p.size+q.size] ((none,p.size - 1,q.size, #[x],gallopOf z):HiU) fun _ c=>hiX p q c
  match r.1 with
  |none=>unsupported "internal:list.sort.merge-bound"
  |some v=>pure v):=by kernel_rfl
abbrev HiI(R:Keyed->Keyed->Bool)(a b:Array Keyed)(st:SortSt)(k:Nat)(c:Option (Array Keyed))(o:Array Keyed)(i j:Nat)(st':SortSt):Prop:=c=none/\Sm st st'/\H R a b o i j/\0<i/\i<=a.size/\1<j/\j<=b.size/\k+(i+j)<=a.size+b.size
abbrev HiE(R:Keyed->Keyed->Bool)(a b:Array Keyed)(st:SortSt)(k:Nat)(c:Option (Array Keyed))(o:Array Keyed)(i j:Nat)(st':SortSt):Prop:=Sm st st'/\((∃r,c=some r/\O6 R (a.toList++b.toList) r.toList)\/(c=none/\H R a b o i j/\0<i/\i<=a.size/\1<j/\j<=b.size/\k+(i+j)<=a.size+b.size))
section
variable {a b:Array Keyed}{st st':SortSt}{x₀ x mg:Nat}
theorem b8n(C:Q2 prog w A E s κ S R)(T:Two S R a b)(hk:kindOf st=κ){c:HiV}(h:HiI R a b st x₀ c.1 c.2.2.2.1 c.2.1 c.2.2.1 st'):wpS (model prog w) A E s (hiS a b mg c) (fun r st'=>match r with| .done c'=>HiE R a b st x₀ c'.1 c'.2.2.2.1 c'.2.1 c'.2.2.1 st'| .yield c'=>HiI R a b st x₀ c'.1 c'.2.2.2.1 c'.2.1 c'.2.2.1 st') st':=by
 obtain⟨c,i,j,o,u,v⟩:=c
 obtain⟨hc,m,d,hi,hia,hj,hjb,hp⟩:=h
 dsimp only at*
 unfold hiS
 dsimp only
 refine wpS_bind (m4 (by lia) (wpS_bind (m4 (by lia) (wpS_bind (C.lt _ _ (T.Sb _ (by lia)) (T.Sa _ (by lia)) st' _ (m.k.trans hk) ?_)))))
 dsimp only
 cases hl:R (g b (j - 1)) (g a (i - 1))
 ·simp only [Ac,if_false]
  refine wpS_bind (m4 (by lia) ?_)
  have d2:=H.takeB C T d hjb (by lia) hia hi hl
  by_cases e3:j - 1=1
  ·rw [if_pos (by simpa using e3)]
   exact wpS_pure ⟨m,.inl ⟨_,rfl,d2.first T hia e3⟩⟩
  rw [if_neg (by simpa using e3)]
  split
  ·exact wpS_pure ⟨m,.inr ⟨rfl,d2,hi,hia,(show 1<j - 1 by lia),(show j - 1<=b.size by lia),(show x₀+(i+(j - 1))<=a.size+b.size by lia)⟩⟩
  ·exact wpS_pure ⟨rfl,m,d2,hi,hia,(show 1<j - 1 by lia),(show j - 1<=b.size by lia),(show x₀+(i+(j - 1))<=a.size+b.size by lia)⟩
 ·simp only [if_true]
  refine wpS_bind (m4 (by lia) ?_)
  have d2:=H.takeA C T d hia hi hjb (by lia) (C.as _ _ (T.Sb _ (by lia)) (T.Sa _ (by lia)) hl)
  by_cases e3:i - 1=0
  ·rw [if_pos (by simpa using e3)]
   exact wpS_pure ⟨m,.inl ⟨_,rfl,d2.done (.inl e3)⟩⟩
  rw [if_neg (by simpa using e3)]
  split
  ·exact wpS_pure ⟨m,.inr ⟨rfl,d2,(show 0<i - 1 by lia),(show i - 1<=a.size by lia),hj,hjb,(show x₀+(i - 1+j)<=a.size+b.size by lia)⟩⟩
  ·exact wpS_pure ⟨rfl,m,d2,(show 0<i - 1 by lia),(show i - 1<=a.size by lia),hj,hjb,(show x₀+(i - 1+j)<=a.size+b.size by lia)⟩
theorem b8m(C:Q2 prog w A E s κ S R)(T:Two S R a b)(hk:kindOf st=κ){c:HiT}(h:HiI R a b st (x₀+x) c.1 c.2.2.2.1 c.2.1 c.2.2.1 st'):wpS (model prog w) A E s (hiG a b c) (fun r st'=>match r with| .done c'=>HiE R a b st (x₀+1) c'.1 c'.2.2.2.1 c'.2.1 c'.2.2.1 st'| .yield c'=>HiI R a b st (x₀+(x+1)) c'.1 c'.2.2.2.1 c'.2.1 c'.2.2.1 st') st':=by
 obtain⟨hc,m,d,hi,hia,hj,hjb,hp⟩:=h
 unfold hiG
 split
 ·exact b4b C T hk m d hi hia hj hjb hp
 ·exact b4b C T hk m d hi hia hj hjb hp
theorem b8o(C:Q2 prog w A E s κ S R)(T:Two S R a b)(hk:kindOf st=κ){c:HiU}(hx:x₀<a.size+b.size)(h:HiI R a b st x₀ c.1 c.2.2.2.1 c.2.1 c.2.2.1 st'):wpS (model prog w) A E s (hiX a b c) (fun r st'=>match r with| .done c'=>Sm st st'/\∃r,c'.1=some r/\O6 R (a.toList++b.toList) r.toList| .yield c'=>HiI R a b st (x₀+1) c'.1 c'.2.2.2.1 c'.2.1 c'.2.2.1 st') st':=by
 obtain⟨hc,h⟩:=h
 unfold hiX
 refine wpS_bind (wpS_mono (wpS_forRange (I:=fun _ c st'=>HiI R a b st x₀ c.1 c.2.2.2.1 c.2.1 c.2.2.1 st') (Q:=fun c st'=>HiE R a b st x₀ c.1 c.2.2.2.1 c.2.1 c.2.2.1 st') (fun _ _ _ _ _ h=>wpS_mono (b8n C T hk h) fun r _ q=>by cases r<;>exact q) (fun c st' ⟨h1,h2,h3⟩=>⟨h2,.inr ⟨h1,h3⟩⟩) ⟨rfl,h⟩) ?_)
 rintro r st2 ⟨m,⟨y,e,gd⟩|⟨e,h⟩⟩
 ·rw [e]
  exact wpS_pure ⟨m,y,rfl,gd⟩
 rw [e]
 refine wpS_bind (wpS_lift (wpAny_rule ⟨rfl, ?_⟩))
 refine wpS_bind (wpS_mono (wpS_forRange (I:=fun x c st'=>HiI R a b st (x₀+x) c.1 c.2.2.2.1 c.2.1 c.2.2.1 st') (Q:=fun c st'=>HiE R a b st (x₀+1) c.1 c.2.2.2.1 c.2.1 c.2.2.1 st') (fun _ _ _ _ _ h=>wpS_mono (b8m C T hk h) fun r _ q=>by cases r<;>exact q) (fun c st' ⟨h1,h2,h3,h4,h5,h6,h7,h8⟩=>⟨h2,.inr ⟨h1,h3,h4,h5,h6,h7,by lia⟩⟩) ⟨rfl,m,h⟩) ?_)
 rintro q st3 ⟨m,⟨y,e,gd⟩|⟨e,h⟩⟩
 ·rw [e]
  exact wpS_pure ⟨m,y,rfl,gd⟩
 rw [e]
 exact wpS_bind (a3o m fun st3 m3=>wpS_pure ⟨rfl,m3,h⟩)
end
theorem b8t(C:Q2 prog w A E s κ S R){a b:Array Keyed}(T:Two S R a b){st:SortSt}(hk:kindOf st=κ){Q:Array Keyed->SortSt->Prop}
 (h:∀r st',Sm st st'->O6 R (a.toList++b.toList) r.toList->Q r st'):wpS (model prog w) A E s (mHi a b) Q st:=by
 rw [b7q]
 have pa:=T.pa
 have pb:=T.pb
 refine wpS_bind (wpS_lift (wpAny_rule ⟨rfl, ?_⟩))
 refine wpS_bind (m4 (by lia) ?_)
 have pw:∀c:Array Keyed,Seg R c 0 c.size->c.toList.Pairwise (le R):=fun c hc=>by
  rw [List.pairwise_iff_getElem]
  intro i j hi hj hij
  have h1:=M5 (a:=c) hi
  have h2:=M5 (a:=c) hj
  rw [Ar hi] at h1
  rw [Ar hj] at h2
  rw [Option.some.inj h1,Option.some.inj h2]
  exact hc i j (Nat.zero_le _) (by lia) hj
 have d0:H R a b #[g a (a.size - 1)] (a.size - 1) b.size:=by
  have:H R a b #[] a.size b.size:=by
   have f:∀c:Array Keyed,c.toList.take c.size=c.toList:=fun c=>List.take_of_length_le (AO _)
   unfold H
   rw [f,f]
   refine⟨?_, ?_, ?_⟩
   ·show(a.toList++[]).Pairwise _
    rw [Al];exact pw a T.sa
   ·show(b.toList++[]).Pairwise _
    rw [Al];exact pw b T.sb
   ·show(a.toList++b.toList++[]).Perm _
    rw [Al]
  exact this.takeA C T (AO _) pa (AO _) pb (T.hi _ (by lia))
 by_cases e1:a.size - 1=0
 ·rw [if_pos (by simpa using e1)]
  exact wpS_pure (h _ _ Sm.refl (d0.done (.inl e1)))
 rw [if_neg (by simpa using e1)]
 by_cases e2:b.size=1
 ·rw [if_pos (by simpa using e2)]
  exact wpS_pure (h _ _ Sm.refl (d0.first T (by lia) e2))
 rw [if_neg (by simpa using e2)]
 refine wpS_bind (wpS_get ?_)
 refine wpS_bind (wpS_mono (wpS_forRange (I:=fun x c st'=>HiI R a b st x c.1 c.2.2.2.1 c.2.1 c.2.2.1 st')
  (Q:=fun c st'=>Sm st st'/\∃r,c.1=some r/\O6 R (a.toList++b.toList) r.toList) (fun _ _ _ _ hx h=>wpS_mono (b8o C T hk hx h) fun r _ q=>by cases r<;>exact q) (fun c st' ⟨h1,h2,h3,h4,h5,h6,h7,h8⟩=>by lia) ⟨rfl,Sm.refl,d0,(show 0<a.size - 1 by lia),(show a.size - 1<=a.size by lia),(show 1<b.size by lia),AO _,(show 0+(a.size - 1+b.size)<=a.size+b.size by lia)⟩) ?_)
 rintro c st' ⟨m,r,e,gd⟩
 rw [e]
 exact wpS_pure (h r st' m gd)
end
def sp(r:Array Keyed)(d:Nat)(a:Array Keyed):Array Keyed:=r.toList.zipIdx.foldl (fun a (p,j)=>a.setIfInBounds (d+j) p) a
theorem b6t(d:Nat):∀(l:List Keyed) (k:Nat) (a:Array Keyed),d+k+l.length<=a.size->
 ((l.zipIdx k).foldl (fun(a:Array Keyed) (q:Keyed×Nat)=>a.setIfInBounds (d+q.2) q.1) a).toList=a.toList.take (d+k)++(l++a.toList.drop (d+k+l.length))
 |[],k,a,_=>by
  show a.toList=_
  rw [Ag,Aj,Nat.add_zero,List.take_append_drop]
 |x::l,k,a,h=>by
  rw [AT] at h
  rw [List.zipIdx_cons,List.foldl_cons,b6t d l (k+1) _ (by rw [Array.size_setIfInBounds];lia)]
  have e:(a.setIfInBounds (d+k) x).toList=a.toList.take (d+k)++x::a.toList.drop (d+k+1):=by
   rw [Array.toList_setIfInBounds,List.set_eq_take_append_cons_drop,if_pos (show d+k<a.toList.length by show d+k<a.size;lia)]
  dsimp only
  rw [e]
  have hl:(a.toList.take (d+k)).length=d+k:=by rw [List.length_take];have:a.toList.length=a.size:=rfl;lia
  have e1:(a.toList.take (d+k)++x::a.toList.drop (d+k+1)).take (d+(k+1))=a.toList.take (d+k)++[x]:=by
   rw [List.take_append,hl,List.take_of_length_le (by lia),show d+(k+1) - (d+k)=1 by lia];rfl
  have e2:(a.toList.take (d+k)++x::a.toList.drop (d+k+1)).drop (d+(k+1)+l.length)=a.toList.drop (d+k+(l.length+1)):=by
   rw [List.drop_append,hl,List.drop_eq_nil_of_le (by lia),show d+(k+1)+l.length - (d+k)=l.length+1 by lia,List.drop_succ_cons,List.drop_drop,Ag]
   congr 1;lia
  rw [e1,e2,AT,List.append_assoc];rfl
theorem b0A{r a:Array Keyed}{d:Nat}(h:d+r.size<=a.size):(sp r d a).toList=a.toList.take d++(r.toList++a.toList.drop (d+r.size)):=by
 have:=b6t d r.toList 0 a (by rw [Nat.add_zero];exact h)
 rw [Nat.add_zero] at this
 exact this
theorem a1P(a:Array Keyed)(i:Nat):g a i=(a.toList[i]?).getD (Value.none,Value.none):=by unfold g;rw [Array.getElem?_toList]
theorem b68{r a:Array Keyed}{d:Nat}(h:d+r.size<=a.size)(i:Nat):g (sp r d a) i=if i<d then g a i else if i<d+r.size then g r (i - d) else g a i:=by
 rw [a1P,b0A h]
 have h1:a.toList.length=a.size:=rfl
 have h2:r.toList.length=r.size:=rfl
 have hl:(a.toList.take d).length=d:=by rw [List.length_take];lia
 by_cases c1:i<d
 ·rw [if_pos c1,BC (by lia),List.getElem?_take,if_pos c1,a1P]
 ·rw [if_neg c1,List.getElem?_append_right (by lia),hl]
  by_cases c2:i<d+r.size
  ·rw [if_pos c2,BC (by lia),a1P]
  ·rw [if_neg c2,List.getElem?_append_right (by lia),List.getElem?_drop,a1P]
   congr 2;lia
theorem b6d{a:Array Keyed}{lo hi i:Nat}(h:hi<=a.size)(hi':lo+i<hi):g (a.extract lo hi) i=g a (lo+i):=by
 rw [a1P,v0,List.getElem?_take,if_pos (by lia),List.getElem?_drop,a1P]
theorem a7z{a:Array Keyed}{lo hi:Nat}(h:hi<=a.size):(a.extract lo hi).size=hi - lo:=by
 rw [Array.size_extract];lia
section
variable {prog:AJ}{w:AH}{A:AL}{E:AA->AC->Prop}{s:AC}
variable {κ:SortKind}{S:Keyed->Prop}{R:Keyed->Keyed->Bool}{a₀:Array Keyed}
theorem b8v{σ:Type}{M:Model}{x st:σ}{Q:PUnit->σ->Prop}(h:Q ⟨⟩ x):wpS M A E s (set x:StateT σ Sem PUnit) Q st:=by
 unfold wpS;rw [StateT.run_set];exact AI ⟨rfl,h⟩
theorem b7o(i:Nat):mergeAt' i=(do
 let c<-get
 let (some (p,m,e),some (q,n,_)):=((pendingOf c)[i]?,(pendingOf c)[i+1]?)|unsupported "internal:list.sort.pending"
 set (setPending c (((pendingOf c).setIfInBounds i (p,m+n,e)).eraseIdxIfInBounds (i+1)))
 let some k<-gal false (<-elem' (arrOf c) q) (arrOf c) p m 0|return false
 if m - k==0 then return true
 let some n'<-gal true (<-elem' (arrOf c) (p+k+(m - k) - 1)) (arrOf c) q n (n - 1)|return false
 if n'==0 then return true
 let r<-if m - k<=n' then mLo ((arrOf c).extract (p+k) q) ((arrOf c).extract q (q+n')) else mHi ((arrOf c).extract (p+k) q) ((arrOf c).extract q (q+n'))
 modify fun c=>setArr c (sp r (p+k) (arrOf c))
 return (failedOf (<-get)).isNone):=rfl
theorem b8s(C:Q2 prog w A E s κ S R)(hS:∀p∈a₀.toList,S p){st:SortSt}{Q:Bool->SortSt->Prop}(hB:B κ a₀ st){i p m e n e':Nat}(h1:(pendingOf st)[i]?=some (p,m,e))(h2:(pendingOf st)[i+1]?=some (p+m,n,e'))
 (hm:1<=m) (hn:1<=n) (hz:p+m+n<=a₀.size) (sA:Seg R (arrOf st) p (p+m)) (sB:Seg R (arrOf st) (p+m) (p+m+n))
 (h:∀st',B κ a₀ st'->pendingOf st'=((pendingOf st).setIfInBounds i (p,m+n,e)).eraseIdxIfInBounds (i+1)->Seg R (arrOf st') p (p+m+n)->(∀j,(j<p\/p+m+n<=j)->g (arrOf st') j=g (arrOf st) j)->Q true st'):
 wpS (model prog w) A E s (mergeAt' i) Q st:=by
 rw [b7o]
 refine wpS_bind (wpS_get ?_)
 rw [h1,h2]
 dsimp only
 refine wpS_bind (b8v ?_)
 have hsz:=hB.size
 have hB1:B κ a₀ (setPending st (((pendingOf st).setIfInBounds i (p,m+n,e)).eraseIdxIfInBounds (i+1))):=⟨hB.perm,hB.kind,hB.failed⟩
 refine wpS_bind (m4 (by lia) ?_)
 refine wpS_bind (a7a C hB1.kind (by lia) (by lia) (fun l hl=>hB.sg hS (by lia)) (hB.sg hS (by lia)) sA fun k k1 k2 k3=> ?_)
 dsimp only
 by_cases c1:m - k=0
 ·rw [if_pos (by simpa using c1)]
  refine wpS_pure (h _ hB1 rfl (fun x y hx hxy hy=> ?_) fun _ _=>rfl)
  show R (g (arrOf st) y) (g (arrOf st) x)=false
  by_cases d1:y<p+m
  ·exact sA x y hx hxy d1
  by_cases d2:p+m<=x
  ·exact sB x y d2 hxy hy
  have:=k2 (x - p) (by lia)
  rw [show p+(x - p)=x by lia] at this
  exact C.tr _ (g (arrOf st) (p+m)) _ (hB.sg hS (by lia)) (hB.sg hS (by lia)) (hB.sg hS (by lia)) this (sB _ _ (AO _) (by lia) hy)
 rw [if_neg (by simpa using c1)]
 refine wpS_bind (m4 (by lia) ?_)
 rw [show p+k+(m - k) - 1=p+m - 1 by lia]
 refine wpS_bind (a7b C hB1.kind (by lia) (by lia) (fun l hl=>hB.sg hS (by lia)) (hB.sg hS (by lia)) sB fun n' q1 q2 q3=> ?_)
 dsimp only
 by_cases c2:n'=0
 ·rw [if_pos (by simpa using c2)]
  refine wpS_pure (h _ hB1 rfl (fun x y hx hxy hy=> ?_) fun _ _=>rfl)
  show R (g (arrOf st) y) (g (arrOf st) x)=false
  by_cases d1:y<p+m
  ·exact sA x y hx hxy d1
  by_cases d2:p+m<=x
  ·exact sB x y d2 hxy hy
  have:=q3 (y - (p+m)) (by lia) (by lia)
  rw [show p+m+(y - (p+m))=y by lia] at this
  exact C.tr _ (g (arrOf st) (p+m - 1)) _ (hB.sg hS (by lia)) (hB.sg hS (by lia)) (hB.sg hS (by lia)) (sA x _ hx (by lia) (by lia)) this
 rw [if_neg (by simpa using c2)]
 have zx:((arrOf st).extract (p+k) (p+m)).size=m - k:=by rw [a7z (by lia)];lia
 have zy:((arrOf st).extract (p+m) (p+m+n')).size=n':=by rw [a7z (by lia)];lia
 have gx:∀l,l<m - k->g ((arrOf st).extract (p+k) (p+m)) l=g (arrOf st) (p+k+l):=fun l hl=>b6d (by lia) (by lia)
 have gy:∀l,l<n'->g ((arrOf st).extract (p+m) (p+m+n')) l=g (arrOf st) (p+m+l):=fun l hl=>b6d (by lia) (by lia)
 have T:Two S R ((arrOf st).extract (p+k) (p+m)) ((arrOf st).extract (p+m) (p+m+n')):=by
  refine⟨?_, ?_, ?_, ?_,by lia,by lia, ?_, ?_⟩
  ·intro l hl;rw [gx l (by lia)];exact hB.sg hS (by lia)
  ·intro l hl;rw [gy l (by lia)];exact hB.sg hS (by lia)
  ·intro x y _ hxy hy;rw [gx x (by lia),gx y (by lia)];exact sA _ _ (by lia) (by lia) (by lia)
  ·intro x y _ hxy hy;rw [gy x (by lia),gy y (by lia)];exact sB _ _ (by lia) (by lia) (by lia)
  ·intro l hl
   rw [gy 0 (by lia),gx l (by lia),Nat.add_zero]
   have:=k3 (k+l) (by lia) (by lia)
   rw [<-Nat.add_assoc] at this
   exact C.as _ _ (hB.sg hS (by lia)) (hB.sg hS (by lia)) this
  ·intro l hl
   rw [gy l (by lia),gx _ (by lia),zx,show p+k+(m - k - 1)=p+m - 1 by lia]
   exact C.as _ _ (hB.sg hS (by lia)) (hB.sg hS (by lia)) (q2 l (by lia))
 have fin:∀(r:Array Keyed) (st2:SortSt),Sm (setPending st (((pendingOf st).setIfInBounds i (p,m+n,e)).eraseIdxIfInBounds (i+1))) st2->O6 R (((arrOf st).extract (p+k) (p+m)).toList++((arrOf st).extract (p+m) (p+m+n')).toList) r.toList->
  Q (failedOf (setArr st2 (sp r (p+k) (arrOf st2)))).isNone (setArr st2 (sp r (p+k) (arrOf st2))):=by
  intro r st2 m2 gd
  have ea:arrOf st2=arrOf st:=m2.a
  have rz:r.size=m - k+n':=by
   have:=gd.2.length_eq
   rw [Ao] at this
   have h3:r.toList.length=r.size:=rfl
   have h4:((arrOf st).extract (p+k) (p+m)).toList.length=m - k:=zx
   have h5:((arrOf st).extract (p+m) (p+m+n')).toList.length=n':=zy
   lia
  have hd:p+k+r.size<=(arrOf st).size:=by lia
  have ef:failedOf (setArr st2 (sp r (p+k) (arrOf st2)))=none:=m2.f.trans hB.failed
  rw [ef]
  refine h _ ⟨?_,m2.k.trans hB.kind,ef⟩ m2.p ?_ ?_
  ·show(sp r (p+k) (arrOf st2)).Perm a₀
   rw [ea]
   refine Array.Perm.trans ?_ hB.perm
   rw [Array.perm_iff_toList_perm,b0A hd]
   have e1:(arrOf st).toList=(arrOf st).toList.take (p+k)++((((arrOf st).extract (p+k) (p+m)).toList++((arrOf st).extract (p+m) (p+m+n')).toList)++(arrOf st).toList.drop (p+k+r.size)):=by
    have t1:=U2 (a:=arrOf st) (m:=p+k) (n:=p+m) (by lia)
    have t2:=U2 (a:=arrOf st) (m:=p+m) (n:=p+m+n') (by lia)
    rw [rz,show p+k+(m - k+n')=p+m+n' by lia,<-List.append_assoc,<-List.append_assoc,<-t1,<-t2,List.take_append_drop]
   conv=>rhs;rw [e1]
   exact List.Perm.append_left _ (List.Perm.append_right _ gd.2)
  ·have mid:∀l,l<r.size->(∃j,p+k<=j/\j<p+m/\g r l=g (arrOf st) j)\/(∃j,p+m<=j/\j<p+m+n'/\g r l=g (arrOf st) j):=by
    intro l hl
    have:=gd.2.mem_iff.mp (b6e hl)
    rcases Ay.mp this with q|q
    ·rw [v0] at q
     obtain⟨j,hj,e⟩:=N2 q (by lia)
     exact .inl ⟨p+k+j,by lia,by lia,e⟩
    ·rw [v0] at q
     obtain⟨j,hj,e⟩:=N2 q (by lia)
     exact .inr ⟨p+m+j,by lia,by lia,e⟩
   have lowq:∀x,p<=x->x<p+k->R (g (arrOf st) (p+m)) (g (arrOf st) x)=false:=fun x a b=>by
    have:=k2 (x - p) (by lia)
    rwa [show p+(x - p)=x by lia] at this
   have highq:∀y,p+m+n'<=y->y<p+m+n->R (g (arrOf st) y) (g (arrOf st) (p+m - 1))=false:=fun y a b=>by
    have:=q3 (y - (p+m)) (by lia) (by lia)
    rwa [show p+m+(y - (p+m))=y by lia] at this
   intro x y hx hxy hy
   show R (g (sp r (p+k) (arrOf st2)) y) (g (sp r (p+k) (arrOf st2)) x)=false
   rw [ea,b68 hd,b68 hd]
   by_cases x1:x<p+k
   ·rw [if_pos x1]
    by_cases y1:y<p+k
    ·rw [if_pos y1];exact sA x y hx hxy (by lia)
    rw [if_neg y1]
    by_cases y2:y<p+k+r.size
    ·rw [if_pos y2]
     rcases mid (y - (p+k)) (by lia) with⟨j,j1,j2,e⟩|⟨j,j1,j2,e⟩
     ·rw [e];exact sA x j hx (by lia) j2
     ·rw [e]
      exact C.tr _ (g (arrOf st) (p+m)) _ (hB.sg hS (by lia)) (hB.sg hS (by lia)) (hB.sg hS (by lia)) (lowq x hx x1) (sB _ _ (AO _) j1 (by lia))
    ·rw [if_neg y2]
     exact C.tr _ (g (arrOf st) (p+m)) _ (hB.sg hS (by lia)) (hB.sg hS (by lia)) (hB.sg hS (by lia)) (lowq x hx x1) (sB _ _ (AO _) (by lia) (by lia))
   rw [if_neg x1,if_neg (show ¬y<p+k by lia)]
   by_cases x2:x<p+k+r.size
   ·rw [if_pos x2]
    by_cases y2:y<p+k+r.size
    ·rw [if_pos y2]
     by_cases xy:x=y
     ·subst xy
      rcases mid (x - (p+k)) (by lia) with⟨j,j1,j2,e⟩|⟨j,j1,j2,e⟩
      ·rw [e];exact C.rfl' (hB.sg hS (by lia))
      ·rw [e];exact C.rfl' (hB.sg hS (by lia))
     ·have hw:=List.pairwise_iff_getElem.mp gd.1 (x - (p+k)) (y - (p+k)) (show x - (p+k)<r.size by lia) (show y - (p+k)<r.size by lia) (by lia)
      have a1:=M5 (a:=r) (i:=x - (p+k)) (by lia)
      have a2:=M5 (a:=r) (i:=y - (p+k)) (by lia)
      rw [Ar (show x - (p+k)<r.size by lia)] at a1
      rw [Ar (show y - (p+k)<r.size by lia)] at a2
      rw [Option.some.inj a1,Option.some.inj a2] at hw
      exact hw
    ·rw [if_neg y2]
     rcases mid (x - (p+k)) (by lia) with⟨j,j1,j2,e⟩|⟨j,j1,j2,e⟩
     ·rw [e]
      exact C.tr _ (g (arrOf st) (p+m - 1)) _ (hB.sg hS (by lia)) (hB.sg hS (by lia)) (hB.sg hS (by lia)) (sA _ _ (by lia) (by lia) (by lia)) (highq y (by lia) (by lia))
     ·rw [e];exact sB j y j1 (by lia) (by lia)
   ·rw [if_neg x2,if_neg (by lia)]
    exact sB x y (by lia) hxy hy
  ·intro j hj
   show g (sp r (p+k) (arrOf st2)) j=_
   rw [ea,b68 hd]
   split
   ·rfl
   ·rw [if_neg (by lia)]
 have rest:∀(r:Array Keyed) (st2:SortSt),Q (failedOf (setArr st2 (sp r (p+k) (arrOf st2)))).isNone (setArr st2 (sp r (p+k) (arrOf st2)))->
  wpS (model prog w) A E s (modify fun c=>setArr c (sp r (p+k) (arrOf c)):SM PUnit) (fun _ st3=>wpS (model prog w) A E s (get:SM SortSt) (fun c st4=>Q (failedOf c).isNone st4) st3) st2:=fun r st2 hq=>wpS_modify (wpS_get hq)
 split
 ·exact wpS_bind (b8u C T hB1.kind fun r st2 m2 gd=>wpS_bind (wpS_mono (rest r st2 (fin r st2 m2 gd)) fun _ _ q=>wpS_bind (wpS_mono q fun _ _ q=>wpS_pure q)))
 ·exact wpS_bind (b8t C T hB1.kind fun r st2 m2 gd=>wpS_bind (wpS_mono (rest r st2 (fin r st2 m2 gd)) fun _ _ q=>wpS_bind (wpS_mono q fun _ _ q=>wpS_pure q)))
end
def U4(R:Keyed->Keyed->Bool)(a:Array Keyed):List (Nat×Nat×Nat)->Nat->Nat->Prop
 |[],f,t=>f=t
 |(p,n,_)::r,f,t=>p=f/\1<=n/\Seg R a p (p+n)/\U4 R a r (p+n) t
section
variable {R:Keyed->Keyed->Bool}{a b:Array Keyed}
theorem U4.le:∀{l:List (Nat×Nat×Nat)} {f t:Nat},U4 R a l f t->f+l.length<=t
 |[],f,t,h=>by have:f=t:=h;rw [Aj];lia
 |(p,n,e)::r,f,t,h=>by
  obtain⟨h1,h2,_,h4⟩:=h
  have:=h4.le
  rw [AT];lia
theorem U4.same:∀{l:List (Nat×Nat×Nat)} {f t:Nat},U4 R a l f t->(∀j,f<=j->j<t->g b j=g a j)->U4 R b l f t
 |[],f,t,h,_=>h
 |(p,n,e)::r,f,t,h,k=>by
  obtain⟨h1,h2,h3,h4⟩:=h
  have:=h4.le
  refine⟨h1,h2,fun i j hi hij hj=> ?_,h4.same fun j h5 h6=>k j (by lia) h6⟩
  rw [k i (by lia) (by lia),k j (by lia) (by lia)]
  exact h3 i j hi hij hj
theorem U4.split:∀{l m:List (Nat×Nat×Nat)} {f t:Nat},U4 R a (l++m) f t->∃u,U4 R a l f u/\U4 R a m u t
 |[],m,f,t,h=>⟨f,rfl,h⟩
 |(p,n,e)::r,m,f,t,h=>by
  obtain⟨h1,h2,h3,h4⟩:=h
  obtain⟨u,h5,h6⟩:=h4.split
  exact⟨u,⟨h1,h2,h3,h5⟩,h6⟩
theorem U4.join:∀{l m:List (Nat×Nat×Nat)} {f u t:Nat},U4 R a l f u->U4 R a m u t->U4 R a (l++m) f t
 |[],m,f,u,t,h,k=>by have:f=u:=h;subst this;exact k
 |(p,n,e)::r,m,f,u,t,h,k=>⟨h.1,h.2.1,h.2.2.1,h.2.2.2.join k⟩
theorem U4.pow(v:Nat):∀{l:List (Nat×Nat×Nat)} {f t i:Nat},U4 R a l f t->U4 R a (l.modify i fun(x:Nat×Nat×Nat)=>(x.1,x.2.1,v)) f t
 |[],f,t,i,h=>by rw [List.modify_nil];exact h
 |(p,n,e)::r,f,t,0,h=>by rw [List.modify_zero_cons];exact h
 |(p,n,e)::r,f,t,i+1,h=>by rw [List.modify_succ_cons];exact⟨h.1,h.2.1,h.2.2.1,h.2.2.2.pow v⟩
end
theorem b0g{α:Type}:∀{l:List α} {i:Nat},i+1<l.length->∃l1 x y l2,l=l1++x::y::l2/\l1.length=i/\l[i]?=some x/\l[i+1]?=some y
 |x::y::l,0,_=>⟨[],x,y,l,rfl,rfl,rfl,rfl⟩
 |x::l,i+1,h=>by
  obtain⟨l1,u,v,l2,e,e1,e2,e3⟩:=b0g (l:=l) (i:=i) (by rw [AT] at h;lia)
  exact⟨x::l1,u,v,l2,by rw [e];rfl,by rw [AT,e1],by rw [List.getElem?_cons_succ];exact e2,by rw [List.getElem?_cons_succ];exact e3⟩
 |[],_,h=>by simp at h
 |[x],0,h=>by simp at h
theorem a2i{α:Type}(v:α):∀(l1:List α) (x y:α) (l2:List α),((l1++x::y::l2).set l1.length v).eraseIdx (l1.length+1)=l1++v::l2
 |[],x,y,l2=>rfl
 |z::l1,x,y,l2=>by
  show z::((l1++x::y::l2).set l1.length v).eraseIdx (l1.length+1)=_
  rw [a2i v l1 x y l2];rfl
section
variable {prog:AJ}{w:AH}{A:AL}{E:AA->AC->Prop}{s:AC}
variable {κ:SortKind}{S:Keyed->Prop}{R:Keyed->Keyed->Bool}{a₀:Array Keyed}
theorem b4h(C:Q2 prog w A E s κ S R)(hS:∀p∈a₀.toList,S p){st:SortSt}{Q:Bool->SortSt->Prop}(hB:B κ a₀ st){i lo:Nat}(hc:U4 R (arrOf st) (pendingOf st).toList 0 lo)(hlo:lo<=a₀.size)(hi:i+1<(pendingOf st).size)
 (h:∀st',B κ a₀ st'->U4 R (arrOf st') (pendingOf st').toList 0 lo->(pendingOf st').size+1=(pendingOf st).size->(∀j,lo<=j->g (arrOf st') j=g (arrOf st) j)->Q true st'):
 wpS (model prog w) A E s (mergeAt' i) Q st:=by
 obtain⟨l1,⟨p,m,e⟩,⟨q,n,e'⟩,l2,el,en,e1,e2⟩:=b0g (l:=(pendingOf st).toList) (i:=i) hi
 rw [el] at hc
 obtain⟨u,c1,c2⟩:=hc.split
 obtain⟨rfl,hm,sA,rfl,hn,sB,c3⟩:=c2
 have l3:=c3.le
 rw [Array.getElem?_toList] at e1 e2
 refine b8s C hS hB e1 e2 hm hn (by lia) sA sB fun st' b1 b2 b3 b4=>h st' b1 ?_ ?_ fun j hj=>b4 j (by lia)
 ·rw [b2]
  have:(((pendingOf st).setIfInBounds i (p,m+n,e)).eraseIdxIfInBounds (i+1)).toList=l1++(p,m+n,e)::l2:=by
   rw [Array.toList_eraseIdxIfInBounds,Array.toList_setIfInBounds,el,<-en,a2i]
  rw [this]
  refine U4.join (c1.same fun j _ h2=>b4 j (by lia)) ⟨rfl,by lia, ?_, ?_⟩
  ·rw [<-Nat.add_assoc];exact b3
  ·rw [<-Nat.add_assoc];exact c3.same fun j h1 h2=>b4 j (by lia)
 ·rw [b2]
  have hz:=congrArg List.length el
  rw [Ao,AT,AT,Array.length_toList] at hz
  have:(((pendingOf st).setIfInBounds i (p,m+n,e)).eraseIdxIfInBounds (i+1)).toList.length=l1.length+(l2.length+1):=by
   rw [Array.toList_eraseIdxIfInBounds,Array.toList_setIfInBounds,el,<-en,a2i,Ao,AT]
  rw [Array.length_toList] at this
  lia
theorem b50(C:Q2 prog w A E s κ S R)(hS:∀p∈a₀.toList,S p){st:SortSt}{Q:Unit->SortSt->Prop}(hB:B κ a₀ st)(hp:pendingOf st= #[])
 (h:∀st',B κ a₀ st'->Seg R (arrOf st') 0 a₀.size->Q () st'):wpS (model prog w) A E s sortRuns' Q st:=by
 rw [sortRuns'_eq]
 refine wpS_bind (wpS_get ?_)
 dsimp only
 rw [hB.size]
 refine wpS_bind (wpS_mono (wpS_forRange
  (I:=fun x c st'=>∃lo,c=(none,lo)/\lo<=a₀.size/\min x a₀.size<=lo/\B κ a₀ st'/\U4 R (arrOf st') (pendingOf st').toList 0 lo)
  (Q:=fun c st'=>c=(none,a₀.size)/\B κ a₀ st'/\U4 R (arrOf st') (pendingOf st').toList 0 a₀.size) ?_ ?_ ⟨0,rfl,by lia,by lia,hB,by rw [hp];exact(rfl:(0:Nat)=0)⟩) ?_)
 ·rintro x c st' _ hx ⟨lo,rfl,hlo,hxl,hB',hc⟩
  dsimp only
  by_cases hge:lo>=a₀.size
  ·rw [if_pos hge]
   have:lo=a₀.size:=by lia
   subst this
   exact wpS_pure ⟨rfl,hB',hc⟩
  rw [if_neg hge]
  refine wpS_bind (b8l C hS hB' (by lia) (by lia) fun m st2 hB2 hp2 hf2 hm1 hm2 hs2=> ?_)
  have hc2:U4 R (arrOf st2) (pendingOf st2).toList 0 lo:=by rw [hp2];exact hc.same fun j _ hj=>hf2 j hj
  dsimp only
  by_cases hlt:m<minRun' a₀.size a₀.size 0
  ·rw [if_pos hlt]
   generalize hN:min (a₀.size - lo) (minRun' a₀.size a₀.size 0)=N
   have n1:1<=N:=by lia
   have n2:lo+N<=a₀.size:=by lia
   refine wpS_bind (wpS_lift (wpAny_rule ⟨rfl, ?_⟩))
   refine wpS_bind (b8k C hS hB2 n2 (by lia) n1 hs2 fun st3 b3 p3 f3 s3=> ?_)
   simp only [Bool.not_true,Ac,if_false]
   have c3:U4 R (arrOf st3) (pendingOf st3).toList 0 lo:=by rw [p3];exact hc2.same fun j _ hj=>f3 j hj
   refine wpS_bind (wpS_get ?_)
   have push:∀st4:SortSt,B κ a₀ st4->U4 R (arrOf st4) (pendingOf st4).toList 0 lo->Seg R (arrOf st4) lo (lo+N)->
    ∃lo',((none,lo+N):Option PUnit×Nat)=(none,lo')/\lo'<=a₀.size/\min (x+1) a₀.size<=lo'/\B κ a₀ (setPending st4 ((pendingOf st4).push (lo,N,0)))/\
     U4 R (arrOf (setPending st4 ((pendingOf st4).push (lo,N,0)))) (pendingOf (setPending st4 ((pendingOf st4).push (lo,N,0)))).toList 0 lo':=by
    intro st4 b1 b2 b3
    refine⟨lo+N,rfl,n2,by lia,⟨b1.perm,b1.kind,b1.failed⟩, ?_⟩
    show U4 R (arrOf st4) ((pendingOf st4).push (lo,N,0)).toList 0 (lo+N)
    rw [Array.toList_push]
    exact b2.join ⟨rfl,n1,b3,rfl⟩
   cases hb:(pendingOf st3).back? with
   |none=>
    dsimp only
    exact wpS_bind (wpS_modify (wpS_pure (push st3 b3 c3 s3)))
   |some t3=>
    obtain⟨s1,r1,w1⟩:=t3
    dsimp only
    refine wpS_bind (wpS_mono (wpS_forRange (I:=fun _ c st4=>c=(none,())/\B κ a₀ st4/\U4 R (arrOf st4) (pendingOf st4).toList 0 lo/\Seg R (arrOf st4) lo (lo+N))
     (Q:=fun c st4=>c=(none,())/\B κ a₀ st4/\U4 R (arrOf st4) (pendingOf st4).toList 0 lo/\Seg R (arrOf st4) lo (lo+N)) ?_ (fun _ _ q=>q) ⟨rfl,b3,c3,s3⟩) ?_)
    ·rintro y c st4 _ _ ⟨rfl,b4,c4,s4⟩
     refine wpS_bind (wpS_get ?_)
     by_cases hz:(pendingOf st4).size>1
     ·rw [if_pos hz]
      obtain⟨⟨u1,u2,u3⟩,hu⟩:∃t,(pendingOf st4)[(pendingOf st4).size - 2]?=some t:=⟨_,getElem?_pos (pendingOf st4) _ (by lia)⟩
      rw [hu]
      dsimp only
      split
      ·exact wpS_pure ⟨rfl,b4,c4,s4⟩
      ·refine wpS_bind (b4h C hS b4 c4 hlo (by lia) fun st5 b5 c5 z5 f5=> ?_)
       simp only [Bool.not_true,Ac,if_false]
       exact wpS_pure ⟨rfl,b5,c5,fun i j h1 h2 h3=>by rw [f5 i h1,f5 j (by lia)];exact s4 i j h1 h2 h3⟩
     ·rw [if_neg hz]
      exact wpS_pure ⟨rfl,b4,c4,s4⟩
    ·rintro c st4 ⟨rfl,b4,c4,s4⟩
     dsimp only
     refine wpS_bind (wpS_modify (wpS_bind (wpS_modify (wpS_pure (push (setPending st4 _) ⟨b4.perm,b4.kind,b4.failed⟩ ?_ s4)))))
     show U4 R (arrOf st4) ((pendingOf st4).modify _ _).toList 0 lo
     rw [Array.toList_modify]
     exact c4.pow _
  ·rw [if_neg hlt]
   generalize hN:m=N at*
   have n1:1<=N:=by lia
   have n2:lo+N<=a₀.size:=by lia
   have b3:=hB2
   have c3:=hc2
   have s3:=hs2
   refine wpS_bind (wpS_get ?_)
   have push:∀st4:SortSt,B κ a₀ st4->U4 R (arrOf st4) (pendingOf st4).toList 0 lo->Seg R (arrOf st4) lo (lo+N)->
    ∃lo',((none,lo+N):Option PUnit×Nat)=(none,lo')/\lo'<=a₀.size/\min (x+1) a₀.size<=lo'/\B κ a₀ (setPending st4 ((pendingOf st4).push (lo,N,0)))/\
     U4 R (arrOf (setPending st4 ((pendingOf st4).push (lo,N,0)))) (pendingOf (setPending st4 ((pendingOf st4).push (lo,N,0)))).toList 0 lo':=by
    intro st4 b1 b2 b3
    refine⟨lo+N,rfl,n2,by lia,⟨b1.perm,b1.kind,b1.failed⟩, ?_⟩
    show U4 R (arrOf st4) ((pendingOf st4).push (lo,N,0)).toList 0 (lo+N)
    rw [Array.toList_push]
    exact b2.join ⟨rfl,n1,b3,rfl⟩
   cases hb:(pendingOf st2).back? with
   |none=>
    dsimp only
    exact wpS_bind (wpS_modify (wpS_pure (push st2 b3 c3 s3)))
   |some t3=>
    obtain⟨s1,r1,w1⟩:=t3
    dsimp only
    refine wpS_bind (wpS_mono (wpS_forRange (I:=fun _ c st4=>c=(none,())/\B κ a₀ st4/\U4 R (arrOf st4) (pendingOf st4).toList 0 lo/\Seg R (arrOf st4) lo (lo+N))
     (Q:=fun c st4=>c=(none,())/\B κ a₀ st4/\U4 R (arrOf st4) (pendingOf st4).toList 0 lo/\Seg R (arrOf st4) lo (lo+N)) ?_ (fun _ _ q=>q) ⟨rfl,b3,c3,s3⟩) ?_)
    ·rintro y c st4 _ _ ⟨rfl,b4,c4,s4⟩
     refine wpS_bind (wpS_get ?_)
     by_cases hz:(pendingOf st4).size>1
     ·rw [if_pos hz]
      obtain⟨⟨u1,u2,u3⟩,hu⟩:∃t,(pendingOf st4)[(pendingOf st4).size - 2]?=some t:=⟨_,getElem?_pos (pendingOf st4) _ (by lia)⟩
      rw [hu]
      dsimp only
      split
      ·exact wpS_pure ⟨rfl,b4,c4,s4⟩
      ·refine wpS_bind (b4h C hS b4 c4 hlo (by lia) fun st5 b5 c5 z5 f5=> ?_)
       simp only [Bool.not_true,Ac,if_false]
       exact wpS_pure ⟨rfl,b5,c5,fun i j h1 h2 h3=>by rw [f5 i h1,f5 j (by lia)];exact s4 i j h1 h2 h3⟩
     ·rw [if_neg hz]
      exact wpS_pure ⟨rfl,b4,c4,s4⟩
    ·rintro c st4 ⟨rfl,b4,c4,s4⟩
     dsimp only
     refine wpS_bind (wpS_modify (wpS_bind (wpS_modify (wpS_pure (push (setPending st4 _) ⟨b4.perm,b4.kind,b4.failed⟩ ?_ s4)))))
     show U4 R (arrOf st4) ((pendingOf st4).modify _ _).toList 0 lo
     rw [Array.toList_modify]
     exact c4.pow _
 ·rintro c st' ⟨lo,rfl,hlo,hxl,hB',hc⟩
  have:lo=a₀.size:=by lia
  subst this
  exact⟨rfl,hB',hc⟩
 ·rintro c st' ⟨rfl,hB',hc⟩
  dsimp only
  have len:=hc.le
  rw [Array.length_toList] at len
  refine wpS_bind (wpS_mono (wpS_forRange (I:=fun x c st4=>c=(none,())/\B κ a₀ st4/\U4 R (arrOf st4) (pendingOf st4).toList 0 a₀.size/\(pendingOf st4).size<=max 1 (a₀.size - x))
   (Q:=fun c st4=>c=(none,())/\B κ a₀ st4/\U4 R (arrOf st4) (pendingOf st4).toList 0 a₀.size/\(pendingOf st4).size<=1) ?_ ?_ ⟨rfl,hB',hc,by lia⟩) ?_)
  ·rintro x c st4 _ hx ⟨rfl,b4,c4,z4⟩
   refine wpS_bind (wpS_get ?_)
   by_cases hz:(pendingOf st4).size<=1
   ·rw [if_pos hz]
    exact wpS_pure ⟨rfl,b4,c4,hz⟩
   ·rw [if_neg hz]
    refine wpS_bind (b4h C hS b4 c4 (AO _) ?_ fun st5 b5 c5 z5 f5=> ?_)
    ·repeat' split
     all_goals lia
    simp only [Bool.not_true,Ac,if_false]
    exact wpS_pure ⟨rfl,b5,c5,by lia⟩
  ·rintro c st4 ⟨rfl,b4,c4,z4⟩
   exact⟨rfl,b4,c4,by lia⟩
  ·rintro c st4 ⟨rfl,b4,c4,z4⟩
   refine wpS_pure (h st4 b4 ?_)
   match hl:(pendingOf st4).toList,c4,(show(pendingOf st4).toList.length<=1 from z4) with
   |[],c4,_=>
    have:0=a₀.size:=c4
    intro i j _ _ hj;lia
   |[(p,n,e)],c4,_=>
    obtain⟨rfl,_,sg,e1⟩:=c4
    have:0+n=a₀.size:=e1
    rw [<-this];exact sg
   |_::_::_,_,z=>simp at z
end
open PySem PySem.Spec PyProof.Rows
section
variable {prog:AJ}{w:AH}{A:AL}{E:AA->AC->Prop}{s:AC}
variable {κ:SortKind}{S:Keyed->Prop}{R:Keyed->Keyed->Bool}
def tw(v:AA):Keyed:=(v,v)
theorem a77(vs:List AA):(pairsOf vs).toList=vs.map tw:=by
 rw [pairsOf_toList]
 induction vs with
 |nil=>rfl
 |cons v r ih=>rw [List.zip_cons_cons,ih];rfl
theorem b3u{vs:List AA}{a:Array Keyed}(hp:a.Perm (pairsOf vs))(hs:Seg R a 0 (pairsOf vs).size):
 ((a.map (·.2)).toList).Perm vs/\((a.map (·.2)).toList).Pairwise fun u v=>R (tw v) (tw u)=false:=by
 have hl:=Array.perm_iff_toList_perm.mp hp
 rw [a77] at hl
 have e:a.toList=(a.map (·.2)).toList.map tw:=by
  rw [Array.toList_map,As]
  have:∀p∈a.toList,(tw∘fun p:Keyed=>p.2) p=p:=fun p hm=>by
   obtain⟨v,_,rfl⟩:=An.mp (hl.mem_iff.mp hm)
   rfl
  rw [List.map_congr_left this,List.map_id']
 refine⟨?_, ?_⟩
 ·have:=hl.map (fun p:Keyed=>p.2)
  rw [As] at this
  have e2:vs.map ((fun p:Keyed=>p.2)∘tw)=vs:=by
   have:((fun p:Keyed=>p.2)∘tw)=id:=rfl
   rw [this,List.map_id]
  rw [e2] at this
  rw [Array.toList_map];exact this
 ·have hw:a.toList.Pairwise fun x y=>R y x=false:=by
   rw [List.pairwise_iff_getElem]
   intro i j hi hj hij
   have h1:=M5 (a:=a) hi
   have h2:=M5 (a:=a) hj
   rw [Ar hi] at h1
   rw [Ar hj] at h2
   rw [Option.some.inj h1,Option.some.inj h2]
   have:a.toList.length=a.size:=rfl
   exact hs i j (Nat.zero_le _) (by lia) (by rw [<-hp.size_eq];lia)
  rw [e,List.pairwise_map] at hw
  exact hw
theorem a4V{a:AB}{vs:List AA}{n:Nat}{P:PySem.Fin->AC->Prop}(ho:s.heap.get? a=some (seqObj "list" vs.toArray n))(hz:vs.length<=16777216)
 (hC:2<=vs.length->∀h',(∀b o,b≠a->s.heap.get? b=some o->h'.get? b=some o)->
  (∀Q:SortKind->AC->Prop,Q κ {s with heap:=h'}->AF (model prog w) A (keyKind' vs.toArray) Q E {s with heap:=h'})/\Q2 prog w A E {s with heap:=h'} κ S R)
 (hS:∀v∈vs,S (tw v))
 (h:∀out:Array AA,out.toList.Perm vs->(out.toList.Pairwise fun u v=>R (tw v) (tw u)=false)->P (.done (.ret .none)) {s with heap:=sortedHeap s.heap a vs out}):
 AF (model prog w) A (Builtin.«list.sort» ⟨[.ref a],[]⟩) P E s:=by
 have hb:vs.toArray.size<=AN:=by rw [Am,sizeLine_eq];exact hz
 have ha:a<s.heap.objs.size:=AX ho
 rw [list_sort_plain]
 refine AD (listItems_at ho rfl (AD (listUpdate_at ho rfl ?_ hb (Nat.zero_le _))))
 obtain⟨e1,q1⟩:∃e1,(s.heap.update a (Obj.mapSeq fun _=> #[])).get? a=some (seqObj "list" #[] e1):=⟨_,get?_update_seq ho (fun _=> #[])⟩
 refine AD (seqEpoch_at q1 rfl (AD (wpAny_newTuple (AD (wpAny_newList (wpAny_holding ?_) (Nat.zero_le _))) (by show vs.length<=_;rw [sizeLine_eq];exact hz))))
 have q6:(((s.heap.update a (Obj.mapSeq fun _=> #[])).push (seqObj "tuple" vs.toArray 0)).push (seqObj "list" #[] 0)).get? a=some (seqObj "list" #[] e1):=
  AU _ (AU _ q1)
 have keep:∀b o,b≠a->s.heap.get? b=some o->(((s.heap.update a (Obj.mapSeq fun _=> #[])).push (seqObj "tuple" vs.toArray 0)).push (seqObj "list" #[] 0)).get? b=some o:=fun b o hb e=>
  AU _ (AU _ (by rw [Heap.get?_update_ne _ _ _ _ hb];exact e))
 show AF (model prog w) A _ P E {s with heap:=((s.heap.update a (Obj.mapSeq fun _=> #[])).push (seqObj "tuple" vs.toArray 0)).push (seqObj "list" #[] 0)}
 dsimp only
 by_cases h2:vs.toArray.size<2
 ·rw [if_pos h2,if_pos h2]
  have h2':vs.length<2:=by rwa [Am] at h2
  refine AD (AI ?_)
  rw [StateT.run_pure]
  refine AD (AI ?_)
  dsimp only
  refine AD (seqEpoch_at q6 rfl (AD (listUpdate_at q6 rfl ?_ (hsz2:= ?_))))
  ·simp only [bne_self_eq_false,Ac,if_false]
   have ob:=b3u (R:=fun _ _=>false) (vs:=vs) (a:=pairsOf vs) (Array.Perm.refl _) (fun i j _ hij hj=>rfl)
   refine AI (h _ ob.1 ?_)
   have hl:=ob.1.length_eq
   match(Array.map (fun p:Keyed=>p.2) (pairsOf vs)).toList,hl with
   |[],_=>exact List.Pairwise.nil
   |[u],_=>exact List.pairwise_singleton _ _
   |_::_::_,hl=>simp at hl;lia
  ·rw [Array.size_map]
   show(pairsOf vs).size<=_
   rw [pairsOf_size,sizeLine_eq];lia
 ·rw [if_neg h2,if_neg h2]
  obtain⟨k1,k2⟩:=hC (by rw [Am] at h2;lia) _ keep
  refine AD (k1 _ ?_)
  have hS':∀p∈(pairsOf vs).toList,S p:=fun p hp=>by
   rw [a77] at hp
   obtain⟨v,hv,rfl⟩:=An.mp hp
   exact hS v hv
  refine AD (wpAny_mono (b50 (a₀:=pairsOf vs) k2 hS' (st:=SortSt.mk' κ (vs.toArray.zip vs.toArray) #[] 7 none) (Q:=fun _ st'=>B κ (pairsOf vs) st'/\Seg R (arrOf st') 0 (pairsOf vs).size) ⟨Array.Perm.refl _,rfl,rfl⟩ rfl fun st' b1 b2=>⟨b1,b2⟩) ?_ fun _ _ e=>e)
  rintro⟨⟨⟩,st'⟩ s' ⟨rfl,b1,b2⟩
  dsimp only
  refine AD (seqEpoch_at q6 rfl (AD (listUpdate_at q6 rfl ?_ (hsz2:= ?_))))
  ·rw [b1.failed]
   simp only [bne_self_eq_false,Ac,if_false]
   have ob:=b3u b1.perm b2
   exact AI (h _ ob.1 ob.2)
  ·refine Nat.le_trans (Nat.le_of_eq ((Array.size_map ..).trans (b1.perm.size_eq.trans (pairsOf_size _)))) ?_
   rw [sizeLine_eq];lia
end
open PySem PySem.Spec PyProof.Rows L2 PU
section
variable {prog:AJ}{w:AH}{A:AL}{E:AA->AC->Prop}{s:AC}
variable {κ:SortKind}{S:Keyed->Prop}{R:Keyed->Keyed->Bool}
end
end TS
namespace PU
open PySem PySem.Spec PyProof.Rows L2
def b08{α:Type}(lt:α->α->Bool)(x:α):List α->List α
 |[]=>[x]
 |y::r=>if lt y x then y::b08 lt x r else x::y::r
def V1{α:Type}(lt:α->α->Bool):List α->List α
 |[]=>[]
 |x::r=>b08 lt x (V1 lt r)
structure b0L{α:Type}(lt:α->α->Bool):Prop where
 tr:∀a b c,lt b a=false->lt c b=false->lt c a=false
 as:∀a b,lt a b=true->lt b a=false
 an:∀a b,lt a b=false->lt b a=false->a=b
section
variable {α:Type}{lt:α->α->Bool}
theorem a1Q(x:α):∀l:List α,(b08 lt x l).Perm (x::l)
 |[]=>List.Perm.refl _
 |y::r=>by
  unfold b08
  split
  ·exact((a1Q x r).cons y).trans (List.Perm.swap x y r)
  ·exact List.Perm.refl _
theorem a4D:∀l:List α,(V1 lt l).Perm l
 |[]=>List.Perm.refl _
 |x::r=>(a1Q x (V1 lt r)).trans ((a4D r).cons x)
theorem a2E(L:b0L lt)(x:α):∀{l:List α},(l.Pairwise fun a b=>lt b a=false)->(b08 lt x l).Pairwise fun a b=>lt b a=false
 |[],_=>List.pairwise_singleton _ _
 |y::r,h=>by
  unfold b08
  have h':=List.pairwise_cons.mp h
  split
  ·rename_i c
   refine List.pairwise_cons.mpr ⟨fun z hz=> ?_,a2E L x h'.2⟩
   rcases Ab.mp ((a1Q x r).mem_iff.mp hz) with e|e
   ·subst e;exact L.as _ _ c
   ·exact h'.1 z e
  ·rename_i c
   have c':lt y x=false:=eq_false_of_ne_true c
   refine List.pairwise_cons.mpr ⟨fun z hz=> ?_,h⟩
   rcases Ab.mp hz with e|e
   ·subst e;exact c'
   ·exact L.tr _ _ _ c' (h'.1 z e)
theorem a1u(L:b0L lt):∀l:List α,(V1 lt l).Pairwise fun a b=>lt b a=false
 |[]=>List.Pairwise.nil
 |x::r=>a2E L x (a1u L r)
theorem a4E(L:b0L lt):∀{l m:List α},(l.Pairwise fun a b=>lt b a=false)->(m.Pairwise fun a b=>lt b a=false)->l.Perm m->l=m
 |[],m,_,_,p=>(List.Perm.nil_eq p)
 |a::l,[],_,_,p=>by have:=p.length_eq;simp at this
 |a::l,b::m,hl,hm,p=>by
  have hl':=List.pairwise_cons.mp hl
  have hm':=List.pairwise_cons.mp hm
  have e:a=b:=by
   have m1:a∈b::m:=p.mem_iff.mp Ad
   have m2:b∈a::l:=p.mem_iff.mpr Ad
   rcases Ab.mp m1 with e|e
   ·exact e
   ·rcases Ab.mp m2 with g|g
    ·exact g.symm
    ·exact L.an _ _ (hm'.1 a e) (hl'.1 b g)
  subst e
  rw [a4E L hl'.2 hm'.2 (List.Perm.cons_inv p)]
theorem a8m(L:b0L lt){l m:List α}(h:l.Pairwise fun a b=>lt b a=false)(p:l.Perm m):V1 lt m=l:=
 a4E L (a1u L m) h ((a4D m).trans p.symm)
end
def a34:g9->g9->Bool
 | .inl a,.inl b=>decide (a<b)
 | .inr a,.inr b=>decide (a.cps.toList<b.cps.toList)
 | .inl _,.inr _=>true
 | .inr _,.inl _=>false
def J9:List g9->List g9->Bool
 |[],[]=>false
 |[],_::_=>true
 |_::_,[]=>false
 |a::r,b::t=>if a=b then J9 r t else a34 a b
theorem a3h:b0L a34 where
 tr:=by
  intro a b c h1 h2
  cases a<;>cases b<;>cases c<;>simp only [a34,decide_eq_false_iff_not,reduceCtorEq] at h1 h2 ⊢
  ·lia
  ·exact a1W (a:=_) (b:=_) (c:=_) h1 h2
 as:=by
  intro a b h
  cases a<;>cases b<;>simp only [a34,decide_eq_false_iff_not,decide_eq_true_eq,reduceCtorEq] at h ⊢
  ·lia
  ·exact List.lt_asymm h
 an:=by
  intro a b h1 h2
  cases a<;>cases b<;>simp only [a34,decide_eq_false_iff_not,reduceCtorEq] at h1 h2
  ·congr 1;lia
  ·congr 1;exact a7O h2 h1
theorem a1g:b0L J9 where
 tr:=by
  intro a
  induction a with
  |nil=>intro b c _ h2;cases c<;>rfl
  |cons x a ih=>
   intro b c h1 h2
   cases b with
   |nil=>simp [J9] at h1
   |cons y b=>
    cases c with
    |nil=>simp [J9] at h2
    |cons z c=>
     unfold J9 at h1 h2 ⊢
     by_cases e1:y=x
     ·subst e1
      rw [if_pos rfl] at h1
      by_cases e2:z=y
      ·subst e2
       rw [if_pos rfl] at h2 ⊢
       exact ih b c h1 h2
      ·rw [if_neg e2] at h2 ⊢;exact h2
     ·rw [if_neg e1] at h1
      by_cases e2:z=y
      ·subst e2
       rw [if_neg e1];exact h1
      ·rw [if_neg e2] at h2
       by_cases e3:z=x
       ·subst e3
        exact absurd (a3h.an _ _ h1 h2) e1
       ·rw [if_neg e3];exact a3h.tr _ _ _ h1 h2
 as:=by
  intro a
  induction a with
  |nil=>intro b h;cases b<;>first|rfl|(simp [J9] at h)
  |cons x a ih=>
   intro b h
   cases b with
   |nil=>simp [J9] at h
   |cons y b=>
    unfold J9 at h ⊢
    by_cases e:x=y
    ·subst e;rw [if_pos rfl] at h ⊢;exact ih b h
    ·rw [if_neg e] at h;rw [if_neg (Ne.symm e)];exact a3h.as _ _ h
 an:=by
  intro a
  induction a with
  |nil=>intro b h1 h2;cases b<;>first|rfl|(simp [J9] at h1)
  |cons x a ih=>
   intro b h1 h2
   cases b with
   |nil=>simp [J9] at h2
   |cons y b=>
    unfold J9 at h1 h2
    by_cases e:x=y
    ·subst e;rw [if_pos rfl] at h1 h2;rw [ih b h1 h2]
    ·rw [if_neg e] at h1;rw [if_neg (Ne.symm e)] at h2;exact absurd (a3h.an _ _ h1 h2) e
def kT(k:List g9):PV:= .tuple (k.map kP)
def E5:List PV->Option (List (List g9))
 |[]=>some []
 | .tuple qs::r=>(keysOf qs).bind fun k=>(E5 r).map fun t=>k::t
 |_::_=>none
def sgK:g9->Bool
 | .inl _=>false
 | .inr _=>true
def okK:List (List g9)->Bool
 |[]=>true
 |k::r=> !k.isEmpty && r.all fun j=>j.map sgK==k.map sgK
open PySem PySem.Spec PyProof.Rows L2 PySem.W
theorem b7e:∀{a b:g9},kV a=kV b->a=b
 | .inl _,.inl _,h=>by cases h;rfl
 | .inr _,.inr _,h=>by cases h;rfl
 | .inl _,.inr _,h=>nomatch h
 | .inr _,.inl _,h=>nomatch h
theorem b0e:∀{a b:List g9},a.map kV=b.map kV->a=b
 |[],[],_=>rfl
 |[],_::_,h=>nomatch h
 |_::_,[],h=>nomatch h
 |x::a,y::b,h=>by
  rw [AR,AR] at h
  obtain⟨h1,h2⟩:=List.cons.inj h
  rw [b7e h1,b0e h2]
def O7(h:Heap)(u:AA)(k:List g9):Prop:=∃(a:AB) (o:Obj) (xs:Array AA) (n:Nat),u= .ref a/\h.get? a=some o/\o.cls= .type "tuple"/\o.data= .seq xs n/\j3 (k.map kV) xs.toList
theorem O7.inj{h:Heap}{u:AA}{k j:List g9}(a:O7 h u k)(b:O7 h u j):k=j:=by
 obtain⟨a1,o1,x1,n1,rfl,g1,_,d1,v1⟩:=a
 obtain⟨a2,o2,x2,n2,e2,g2,_,d2,v2⟩:=b
 cases e2
 rw [g1] at g2;cases g2
 rw [d1] at d2;cases d2
 exact b0e (v1.inj v2)
theorem O7.keep{h h':Heap}{u:AA}{k:List g9}(a:O7 h u k)(kp:∀b o,h.get? b=some o->h'.get? b=some o):O7 h' u k:=
 let ⟨a1,o1,x1,n1,e,g1,c,d1,v1⟩:=a;⟨a1,o1,x1,n1,e,kp _ _ g1,c,d1,v1⟩
open Classical in
def kOf(h:Heap)(u:AA):List g9:=if e:∃k,O7 h u k then e.choose else []
theorem a6A{h:Heap}{u:AA}{k:List g9}(a:O7 h u k):kOf h u=k:=by
 have e:∃k,O7 h u k:=⟨k,a⟩
 unfold kOf
 rw [dif_pos e]
 exact e.choose_spec.inj a
section
variable {prog:AJ}{w:AH}{A:AL}{E:AA->AC->Prop}{s:AC}
theorem b2V{a c:g9}{u v:AA}(hu:j6 (kV a) u)(hv:j6 (kV c) v)(hg:sgK a=sgK c):SeqAt.EqAt A s u v (decide (a=c)):=by
 cases a<;>cases c<;>first|(cases hg;done)|skip
 ·obtain⟨t,rfl⟩:=hu
  obtain⟨t',rfl⟩:=hv
  rename_i i j
  have:(decide ((Sum.inl i:g9)=Sum.inl j))=(i==j):=b2W i j
  rw [this]
  exact SeqAt.EqAt.int_int _ _ _ _
 ·obtain⟨t,rfl⟩:=hu
  obtain⟨t',rfl⟩:=hv
  rename_i i j
  rw [b2X i j]
  have:=SeqAt.EqAt.str_str (A:=A) (s:=s) i t j t'
  have e:(i==j)=decide (i=j):=by by_cases h:i=j<;>simp [h]
  rw [e] at this
  exact this
theorem b1i{a c:g9}{u v:AA}{Q:Bool->AC->Prop}(f:Bool)(hu:j6 (kV a) u)(hv:j6 (kV c) v)(hg:sgK a=sgK c)(h:Q (a34 a c) s):AF (model prog w) A (oneLt' f u v) Q E s:=by
 cases a<;>cases c<;>first|(cases hg;done)|skip
 ·obtain⟨t,rfl⟩:=hu
  obtain⟨t',rfl⟩:=hv
  cases f
  ·exact kat_one _ _ (a0P.ints _ _ t t' prog w E _ h)
  ·exact oneLt_int h
 ·obtain⟨t,rfl⟩:=hu
  obtain⟨t',rfl⟩:=hv
  cases f
  ·exact kat_one _ _ (a0P.strs _ _ t t' prog w E _ h)
  ·rw [<-keyLt'_oneType];exact kas_lt_str h
theorem a2H{b:Bool}{Q:Bool->AC->Prop}:∀(ks js:List g9) (us ws:List AA) (i:Nat),j3 (ks.map kV) us->j3 (js.map kV) ws->ks.map sgK=js.map sgK->Q (J9 ks js) s->KatLex prog w A b false Q (us.zip ws) i s
 |[],[],us,ws,i,h1,h2,_,h=>by
  cases h1;cases h2
  exact kat_nil h
 |[],_::_,_,_,_,_,_,e,_=>nomatch e
 |_::_,[],_,_,_,_,_,e,_=>nomatch e
 |a::ks,c::js,us,ws,i,h1,h2,e,h=>by
  rw [AR] at h1 h2
  cases h1 with
  |cons r1 h1=>
   cases h2 with
   |cons r2 h2=>
    rw [AR,AR] at e
    obtain⟨e1,e2⟩:=List.cons.inj e
    rw [List.zip_cons_cons]
    refine kat_cons (b2V r1 r2 e1 prog w _ _ ?_)
    unfold J9 at h
    by_cases hac:a=c
    ·rw [if_pos hac] at h
     rw [decide_eq_true hac]
     exact kat_yes (a2H ks js _ _ (i+1) h1 h2 e2 h)
    ·rw [if_neg hac] at h
     rw [decide_eq_false hac]
     exact kat_no (b1i _ r1 r2 e1 h)
theorem b35{h₀:Heap}{σk:List Bool}{b:Bool}(kp:∀b o,h₀.get? b=some o->s.heap.get? b=some o):
 TS.Q2 prog w A E s (tuples' b) (fun x=>∃k,O7 h₀ x.1 k/\k.map sgK=σk) (fun x y=>J9 (kOf h₀ x.1) (kOf h₀ y.1)) where
 lt:=by
  rintro⟨x,x'⟩ ⟨y,y'⟩ ⟨k,hk,gk⟩ ⟨j,hj,gj⟩ st Q hκ h
  dsimp only at*
  rw [a6A hk,a6A hj] at h
  rw [lt'_eq]
  refine wpS_bind (wpS_get ?_)
  rw [hκ]
  refine wpS_bind (wpS_lift (wpAny_attempt ?_))
  obtain⟨a1,o1,x1,n1,rfl,g1,c1,d1,v1⟩:=hk
  obtain⟨a2,o2,x2,n2,rfl,g2,c2,d2,v2⟩:=hj
  have z1:k.length=x1.size:=by have:=v1.length;rwa [AW,Array.length_toList] at this
  have z2:j.length=x2.size:=by have:=v2.length;rwa [AW,Array.length_toList] at this
  have zk:k.length=j.length:=by have:=congrArg List.length (gk.trans gj.symm);rwa [AW,AW] at this
  refine kat_lt (kp _ _ g1) d1 (kp _ _ g2) d2 ?_
  have:decide (x1.size<x2.size)=false:=decide_eq_false (by rw [<-z1,<-z2,zk];exact Nat.lt_irrefl _)
  rw [this]
  exact a2H k j _ _ 0 v1 v2 (gk.trans gj.symm) ⟨rfl,wpS_pure h⟩
 tr:=fun x y z _ _ _=>a1g.tr _ _ _
 as:=fun x y _ _=>a1g.as _ _
end
theorem a4l{α β:Type}{R:α->β->Prop}:∀{l:List α} {m:List β},Paired R l m->∀x∈l,∃y∈m,R x y
 |_,_,.cons r t,x,h=>by
  rcases Ab.mp h with rfl|h
  ·exact⟨_,Ad,r⟩
  ·obtain⟨y,hy,q⟩:=a4l t x h
   exact⟨y,Af _ hy,q⟩
theorem T8{h:Heap}:∀{vs:List AA} {ks:List (List g9)},Paired (O7 h) vs ks->vs.map (kOf h)=ks
 |_,_,.nil=>rfl
 |_,_,.cons r t=>by rw [AR,a6A r,T8 t]
section
variable {prog:AJ}{w:AH}{A:AL}{E:AA->AC->Prop}{s:AC}
theorem a2W{c:Bool}{σk:List Bool}{h:Heap}:∀{vs:List AA} {ks:List (List g9)},Paired (O7 h) vs ks->(∀k∈ks,k.map sgK=c::σk)->
 ∃fs:List AA,KatTups h vs fs/\fs.length=vs.length/\∀v∈fs,Looks (model prog w) h (typeOf v) (if c then Value.type "str" else Value.type "int")
 |_,_,.nil,_=>⟨[],.nil,rfl,fun v hv=>nomatch hv⟩
 |_,_,.cons r t,hs=>by
  rename_i v k vs ks
  obtain⟨fs,f1,f2,f3⟩:=a2W t fun k hk=>hs k (Af _ hk)
  have e:=hs k Ad
  obtain⟨a1,o1,x1,n1,rfl,g1,c1,d1,v1⟩:=r
  cases k with
  |nil=>cases e
  |cons q k=>
   rw [AR] at e v1
   have e1:=(List.cons.inj e).1
   generalize hx:x1.toList=xl at v1
   cases v1 with
   |cons r1 v1=>
    rename_i u us
    have h0:x1[0]?=some u:=by rw [<-Array.getElem?_toList,hx];rfl
    refine⟨u::fs,.cons g1 c1 d1 h0 f1,by rw [AT,AT,f2],fun v hv=> ?_⟩
    rcases Ab.mp hv with rfl|hv
    ·cases q with
     |inl i=>
      obtain⟨t',rfl⟩:=r1
      have:c=false:=e1.symm
      subst this
      exact(.now:Looks (model prog w) h (pure (Value.type "int")) (Value.type "int"))
     |inr x=>
      obtain⟨t',rfl⟩:=r1
      have:c=true:=e1.symm
      subst this
      exact(.now:Looks (model prog w) h (pure (Value.type "str")) (Value.type "str"))
    ·exact f3 v hv
theorem b1R{c:Bool}{σk:List Bool}{vs:List AA}{ks:List (List g9)}{Q:SortKind->AC->Prop}(hp:Paired (O7 s.heap) vs ks)(h0:0<vs.length)(hs:∀k∈ks,k.map sgK=c::σk)(h:Q (tuples' true) s):
 AF (model prog w) A (keyKind' vs.toArray) Q E s:=by
 obtain⟨fs,f1,f2,f3⟩:=a2W (prog:=prog) (w:=w) hp hs
 refine kat_kind f1 (by lia) f3 ?_ ?_
 ·cases c<;>decide
 ·have:((if c=true then Value.type "str" else Value.type "int") !=Value.type "tuple")=true:=by cases c<;>decide
  rw [this];exact h
theorem a2P{h h':Heap}(kp:∀b o,h.get? b=some o->h'.get? b=some o):∀{vs:List AA} {ks:List (List g9)},Paired (O7 h) vs ks->Paired (O7 h') vs ks
 |_,_,.nil=> .nil
 |_,_,.cons r t=> .cons (r.keep kp) (a2P kp t)
end
theorem a5y:∀{qs:List PV} {k:List g9},keysOf qs=some k->qs=k.map kP
 |[],k,h=>by cases h;rfl
 |q::qs,k,h=>by
  unfold keysOf at h
  obtain⟨a,h1,h⟩:=bind_some h
  obtain⟨r,h2,h⟩:=bind_some h
  cases h
  rw [AR,<-a5y h2]
  congr 1
  unfold a7L at h1
  split at h1<;>cases h1<;>rfl
section
variable {X:Cx}{pins:List (AB×Obj)}{σ:L2.St}{F H:Hp}{s:AC}
theorem a1T(I:g8 X pins σ H s)(s0:i9 F H):∀{ps:List PV} {ks:List (List g9)} {xs:List V} {its:List AA},E5 ps=some ks->i0 X.K F ps xs->j3 xs its->
 Paired (O7 s.heap) its ks/\∀u∈its,∃k v,O7 s.heap u k/\j6 v u/\z7 X.K F (kT k) v
 |[],ks,xs,its,h,r,v=>by
  cases h;cases r;cases v
  exact⟨.nil,fun u hu=>nomatch hu⟩
 | .tuple qs::ps,ks,xs,its,h,r,v=>by
   unfold E5 at h
   obtain⟨k,h1,h⟩:=bind_some h
   cases h2:E5 ps with
   |none=>rw [h2] at h;cases h
   |some t=>
    rw [h2] at h;cases h
    obtain⟨x,xr,rfl,rx,rr⟩:=r
    cases v with
    |cons v1 vr=>
     obtain⟨p1,p2⟩:=a1T I s0 h2 rr vr
     have rx':=rx
     obtain⟨a,xs',rfl,hq,rl⟩:=rx'
     cases v1
     obtain⟨its',rv,⟨o,ho,hc,n,hd⟩,hz⟩:=I.tuple (b0z s0 hq).sq
     have ex:xs'=k.map kV:=T2 h1 rl
     rw [ex] at rv
     have tv:O7 s.heap (.ref a) k:=⟨a,o,its'.toArray,n,rfl,ho,hc,hd,by simpa using rv⟩
     refine⟨.cons tv p1,fun u hu=> ?_⟩
     rcases Ab.mp hu with rfl|hu
     ·refine⟨k,.ref a,tv,rfl, ?_⟩
      unfold kT
      rw [<-a5y h1];exact rx
     ·exact p2 u hu
 | .none::_,_,_,_,h,_,_=>nomatch h
 | .bool _::_,_,_,_,h,_,_=>nomatch h
 | .int _::_,_,_,_,h,_,_=>nomatch h
 | .str _::_,_,_,_,h,_,_=>nomatch h
 | .list _::_,_,_,_,h,_,_=>nomatch h
 | .dict _::_,_,_,_,h,_,_=>nomatch h
theorem a8h{h:Heap}:∀{us:List AA},(∀u∈us,∃k v,O7 h u k/\j6 v u/\z7 X.K F (kT k) v)->∃ys,j3 ys us/\i0 X.K F ((us.map (kOf h)).map kT) ys
 |[],_=>⟨[],.nil,rfl⟩
 |u::us,hu=>by
  obtain⟨ys,h1,h2⟩:=a8h (us:=us) fun u' h'=>hu u' (Af _ h')
  obtain⟨k,v,h3,h4,h5⟩:=hu u Ad
  refine⟨v::ys,.cons h4 h1,v,ys,rfl, ?_,h2⟩
  rw [a6A h3];exact h5
end
section
variable {X:Cx}
end
section
variable {X:Cx}
end
section
variable {X:Cx}
end
section
variable {prog:AJ}{w:AH}{A:AL}{E:AA->AC->Prop}{s:AC}{it d:AB}{i ep:Nat}{es:Array DictEntry}
end
end PU
namespace TS
open PySem PySem.Spec PyProof.Rows L2 PU
section
variable {prog:AJ}{w:AH}{A:AL}{E:AA->AC->Prop}{s:AC}
variable {κ:SortKind}{S:Keyed->Prop}{R:Keyed->Keyed->Bool}
end
end TS
namespace PU
open PySem PySem.Spec PyProof.Rows L2 PySem.W
section
variable {prog:AJ}{w:AH}{A:AL}{E:AA->AC->Prop}{s:AC}
end
section
variable {X:Cx}
end
open PySem PySem.Spec PyProof.Rows L2
section
variable {X:Cx}{pins:List (AB×Obj)}{σ:L2.St}{H:Hp}{s:AC}{a b:AB}{kvs:List (List g9×V)}{k:List g9}{v:V}{r:AA}{A:AL}{E:AA->AC->Prop}
end
section
variable {X:Cx}
end
section
variable {K:AE}{F:Hp}{a:AB}{xs:List V}
end
section
variable {X:Cx}
end
section
variable {X:Cx}
end
section
variable {X:Cx}
end
section
variable {X:Cx}{tg:AG}
end
section
variable {prog:AJ}{w:AH}{A:AL}{E:AA->AC->Prop}{s:AC}
end
section
variable {X:Cx}{pins:List (AB×Obj)}{σ:L2.St}{A:AL}{R:Result->AC->Prop}
end
section
variable {X:Cx}
end
section
variable {X:Cx}
end
section
variable {X:Cx}
end
open Builtin Builtin.Str
section
variable {prog:AJ}{w:AH}{A:AL}{E:AA->AC->Prop}{s:AC}{x y:Str}{t u:Tok}{Q:AA->AC->Prop}
end
section
variable {X:Cx}
end
structure Chg(fs ex:List AB)(h h':Heap):Prop where
 keep:∀b o,h.get? b=some o->b∉fs->b∉ex->h'.get? b=some o
 slot:∀b o,h.get? b=some o->b∈fs->b∉ex->∃sl,h'.get? b=some {o with slots:=sl}
 size:h.objs.size<=h'.objs.size
structure ExT(h:Heap)(e C T:AB)(fl:AA)(dd:Option AB):Prop where
 obj:∃oe vs,h.get? e=some oe/\oe.cls= .ref C/\oe.data= .fields vs/\vs[1]?=some (.ref T)/\oe.dict=dd
 ne:T≠e
 tb:∃oT ts,h.get? T=some oT/\oT.data= .fields ts/\ts[3]?=some fl
def Ex0(h:Heap)(e C:AB)(dd:Option AB):Prop:=∃oe vs,h.get? e=some oe/\oe.cls= .ref C/\oe.data= .fields vs/\vs[1]?=some .none/\oe.dict=dd
theorem b00(f:Array AA->Array AA)(o:Obj):(Obj.mapFields f o).dict=o.dict:=by
 obtain⟨c,d,dt,sl⟩:=o
 cases dt<;>rfl
section
variable {M:Model}{A:AL}{E:AA->AC->Prop}{s:AC}{base:Heap}{env:Env}{outer:List Env}{L e C:AB}{dd:Option AB}
theorem a5J{oe:Obj}{vs:Array AA}{head:AA}{hadNext:Bool}{Q:Unit->AC->Prop}(hfr:A.frames=some (env::outer))(hl:s.heap.FunFrames base (env::outer))(hf:env.frame=some L)
 (he:s.heap.get? e=some oe) (hc:oe.cls= .ref C) (hd:oe.data= .fields vs) (hdn:oe.dict=dd) (hsz:1<vs.size)
 (k:∀T h',s.heap.objs.size<=T->ExT h' e C T (rawInt L) dd->Chg ((env::outer).filterMap (·.frame)) [e] s.heap h'->Q () {s with heap:=h'}):
 AF M A (do let a<-frameOf env;let pl<-entryPlaceOf L hadNext;let b<-EntryCells.newEntry head a .none (rawInt L) .none pl;setField (.ref e) 1 b) Q E s:=by
 have hef:e∉(env::outer).filterMap (·.frame):=fun hm=>by
  obtain⟨_,o,ho,hnf⟩:=hl.mem hm
  rw [he] at ho
  cases ho
  exact hnf vs hd
 refine AD (wpAny_frameOf_fun hfr hl hf fun h₁ hs₁=> ?_)
 refine AD (wpAny_entryPlaceOf fun pl hpl=> ?_)
 unfold EntryCells.newEntry newFields
 refine AD (wpAny_newObj_type ?_ (hpl.sizeOk5 _ _ _ _ _))
 generalize hT:({cls:= .type "traceback",dict:=none,data:= .fields ([head,.ref L,.none,rawInt L,.none]++(if pl.isEmpty then AV 6 Value.none else pl)).toArray}:Obj)=oT
 have he₁:h₁.get? e=some oe:=(hs₁.2.1 e hef).trans he
 have he₂:=AU (h:=h₁) oT he₁
 have hTe:h₁.objs.size≠e:=Nat.ne_of_gt (AX he₁)
 have hd₃:=Obj.data_mapFields hd (·.setIfInBounds 1 (Value.ref h₁.objs.size))
 have he₃:=Heap.get?_update_self (Obj.mapFields (·.setIfInBounds 1 (Value.ref h₁.objs.size))) he₂ (Obj.isFreed_of_fields hd₃)
 have oth:∀b o,b≠e->h₁.get? b=some o->((h₁.push oT).update e (Obj.mapFields (·.setIfInBounds 1 (Value.ref h₁.objs.size)))).get? b=some o:=fun b o hb hbo=>by
  rw [Heap.get?_update_other _ _ (Ne.symm hb)]
  exact AU _ hbo
 have hT3:((h₁.push oT).update e (Obj.mapFields (·.setIfInBounds 1 (Value.ref h₁.objs.size)))).get? h₁.objs.size=some oT:=by
  rw [Heap.get?_update_other _ _ (Ne.symm hTe)]
  exact Aq h₁ (by rw [<-hT];rfl)
 refine wpAny_setField he₂ hd hsz (k h₁.objs.size _ (Nat.le_of_eq hs₁.1.symm) ⟨⟨_,_,he₃,(Obj.cls_mapFields _ _).trans hc,hd₃,by simp [hsz],(b00 _ _).trans hdn⟩,hTe,oT,_,hT3,by rw [<-hT], ?_⟩ ⟨fun b o hb hbf hbe=> ?_,fun b o hb hbf hbe=> ?_, ?_⟩)
 ·rcases hpl with rfl|⟨_,_,_,_,_,_,_,rfl⟩<;>simp
 ·exact oth b o (fun z=>hbe (by rw [z];exact List.mem_singleton.mpr rfl)) ((hs₁.2.1 b hbf).trans hb)
 ·obtain⟨sl,hs⟩:=hs₁.2.2 b o hb
  exact⟨sl,oth b _ (fun z=>hbe (by rw [z];exact List.mem_singleton.mpr rfl)) hs⟩
 ·rw [Heap.size_update,Heap.size_push,hs₁.1];lia
theorem a89{Q:Unit->AC->Prop}(hfr:A.frames=some (env::outer))(hl:s.heap.FunFrames base (env::outer))(hf:env.frame=some L)(x:Ex0 s.heap e C dd)
 (k:∀T h',s.heap.objs.size<=T->ExT h' e C T (rawInt L) dd->Chg ((env::outer).filterMap (·.frame)) [e] s.heap h'->Q () {s with heap:=h'}):AF M A (noteFrame (.ref e) env) Q E s:=by
 obtain⟨oe,vs,he,hc,hd,h1,hdn⟩:=x
 unfold noteFrame
 simp only [hf]
 refine AD (wpAny_field he hd h1 ?_)
 rw [if_neg (by decide)]
 exact a5J hfr hl hf he hc hd hdn (Array.getElem?_eq_some_iff.mp h1).1 k
theorem b2z{fl:AA}{T:AB}{Q:Unit->AC->Prop}(x:ExT s.heap e C T fl dd)(fr:Option AB)(k:∀h',ExT h' e C T (fr.elim .none fun f=>rawInt f) dd->Chg [] [T] s.heap h'->h'.objs.size=s.heap.objs.size->Q () {s with heap:=h'}):AF M A (setFlight (.ref e) fr) Q E s:=by
 obtain⟨⟨oe,vs,he,hc,hd,h1,hdn⟩,hne,oT,ts,hT,hdT,h3⟩:=x
 have hsz:=(Array.getElem?_eq_some_iff.mp h3).1
 unfold setFlight
 refine AD (wpAny_field he hd h1 ?_)
 rw [if_pos (show(Value.ref T !=Value.none)=true from by simp)]
 refine wpAny_setField hT hdT hsz (k _ ⟨⟨oe,vs, ?_,hc,hd,h1,hdn⟩,hne,_,_,Heap.get?_update_self _ hT (Obj.isFreed_of_fields (Obj.data_mapFields hdT _)),Obj.data_mapFields hdT _,by simp [hsz]⟩ ⟨fun b o hb _ hbe=> ?_,(fun b o _ hb=>nomatch hb), ?_⟩ ?_)
 ·rw [Heap.get?_update_other _ _ hne];exact he
 ·rw [Heap.get?_update_other _ _ (fun z=>hbe (by rw [<-z];exact List.mem_singleton.mpr rfl))];exact hb
 ·rw [Heap.size_update];exact AO _
 ·rw [Heap.size_update]
theorem Chg.trans{fs ex ex':List AB}{h h1 h2:Heap}(x:Chg fs ex h h1)(y:Chg fs ex' h1 h2):Chg fs (ex++ex') h h2 where
 keep:=fun b o e hf hx=>y.keep b o (x.keep b o e hf fun z=>hx (BF _ z)) hf fun z=>hx (BA _ z)
 slot:=fun b o e hf hx=>by
  obtain⟨sl,e1⟩:=x.slot b o e hf fun z=>hx (BF _ z)
  obtain⟨sl2,e2⟩:=y.slot b {o with slots:=sl} e1 hf fun z=>hx (BA _ z)
  exact⟨sl2,e2⟩
 size:=Nat.le_trans x.size y.size
theorem Chg.more{fs fs' ex ex':List AB}{h h':Heap}(x:Chg fs ex h h')(hf:∀b∈fs,b∈fs')(he:∀b∈ex,b∈ex'):Chg fs' ex' h h' where
 keep:=fun b o e h1 h2=>x.keep b o e (fun z=>h1 (hf b z)) fun z=>h2 (he b z)
 slot:=fun b o e h1 h2=>by
  by_cases hb:b∈fs
  ·exact x.slot b o e hb fun z=>h2 (he b z)
  ·exact⟨o.slots,x.keep b o e hb fun z=>h2 (he b z)⟩
 size:=x.size
theorem Chg.funs{fs ex:List AB}{h h':Heap}{l:List Env}(x:Chg fs ex h h')(hl:h.FunFrames base l)(hx:∀b∈ex,∀o,h.get? b=some o->∃vs,o.data= .fields vs):h'.FunFrames base l:=
 hl.of_keeps fun b o hb hnf=>by
  have hbx:b∉ex:=fun z=>by
   obtain⟨vs,hd⟩:=hx b z o hb
   exact hnf vs hd
  by_cases hbf:b∈fs
  ·obtain⟨sl,e⟩:=x.slot b o hb hbf hbx
   exact⟨_,e,rfl⟩
  ·exact⟨o,x.keep b o hb hbf hbx,rfl⟩
theorem b1w{fl:AA}{T:AB}{Q:Unit->AC->Prop}(hfr:A.frames=some (env::outer))(hl:s.heap.FunFrames base (env::outer))(hf:env.frame=some L)(x:ExT s.heap e C T fl dd)(hne:fl≠rawInt L)
 (k:∀T' h',s.heap.objs.size<=T'->ExT h' e C T' (rawInt L) dd->Chg ((env::outer).filterMap (·.frame)) [T,e] s.heap h'->Q () {s with heap:=h'}):AF M A (noteFrame (.ref e) env) Q E s:=by
 obtain⟨⟨oe,vs,he,hc,hd,h1,hdn⟩,hTe,oT,ts,hT,hdT,h3⟩:=x
 have hsz:=(Array.getElem?_eq_some_iff.mp h3).1
 unfold noteFrame
 simp only [hf]
 refine AD (wpAny_field he hd h1 ?_)
 rw [if_pos (show(Value.ref T !=Value.none)=true from by simp)]
 refine AD (wpAny_field hT hdT h3 ?_)
 rw [if_neg (by simpa using hne)]
 refine AD (wpAny_setField hT hdT hsz ?_)
 have c1:Chg ((env::outer).filterMap (·.frame)) [T] s.heap (s.heap.update T (Obj.mapFields (·.setIfInBounds 3 Value.none))):=⟨fun b o hb _ hbe=>by
  rw [Heap.get?_update_other _ _ (fun z=>hbe (by rw [<-z];exact List.mem_singleton.mpr rfl))];exact hb,fun b o hb _ hbe=>⟨o.slots,by
  rw [Heap.get?_update_other _ _ (fun z=>hbe (by rw [<-z];exact List.mem_singleton.mpr rfl))];exact hb⟩,by rw [Heap.size_update];exact AO _⟩
 have hl':=c1.funs hl fun b hb o ho=>by
  rw [List.mem_singleton.mp hb,hT] at ho
  cases ho
  exact⟨ts,hdT⟩
 refine a5J (s:={s with heap:=s.heap.update T (Obj.mapFields (·.setIfInBounds 3 Value.none))}) hfr hl' hf (by rw [Heap.get?_update_other _ _ hTe];exact he) hc hd hdn (Array.getElem?_eq_some_iff.mp h1).1 fun T' h' hT' x' c'=>k T' h' ?_ x' (c1.trans c')
 have:(s.heap.update T (Obj.mapFields (·.setIfInBounds 3 Value.none))).objs.size=s.heap.objs.size:=Heap.size_update ..
 rw [<-this];exact hT'
end
def CX1(P:AJ)(w:AH):CXT:=fun outer H s E e s'=>∃a C T dd H',e= .ref a/\s'.os=s.os/\AllBare s'.gens/\Un (frs outer) [] H H' s.heap s'.heap/\HOk P w H' s'.heap/\
 s.heap.get? a=none/\s.heap.get? T=none/\H' a=none/\H' T=none/\ExT s'.heap a C T .none dd/\E (.ref C) dd H'
theorem ExT.thereT{h:Heap}{e C T:AB}{fl:AA}{dd:Option AB}(x:ExT h e C T fl dd):∃o,h.get? T=some o:=by obtain⟨o,_,h1,_⟩:=x.tb;exact⟨o,h1⟩
theorem b0a{P:AJ}{w:AH}{H:Hp}{h h':Heap}{fs ex:List AB}(x:HOk P w H h)(c:Chg fs ex h h')(hf:∀b∈fs,H b=none)(he:∀b∈ex,H b=none):HOk P w H h':=fun a o e=>
 (x a o e).stay (fun b u hb q=>by
  have hn:∃z,H b=some z:=by
   rcases hb with rfl|hb
   ·exact⟨_,e⟩
   ·exact⟨_,hb⟩
  obtain⟨z,hz⟩:=hn
  exact c.keep b u q (fun m=>by rw [hf b m] at hz;cases hz) fun m=>by rw [he b m] at hz;cases hz) (fun _ q=>q) fun _ _ q=>q
theorem b36{fs ex fs':List AB}{H H1:Hp}{h h1 h2:Heap}(u:Un fs [] H H1 h h1)(c:Chg fs' ex h1 h2)(hfs:∀b∈fs',b∈fs\/h.objs.size<=b)(hex:∀b∈ex,h.get? b=none):Un fs [] H H1 h h2 where
 keep:=fun b o e hn hf hx=>by
  have hlt:b<h.objs.size:=AX e
  refine c.keep b o (u.keep b o e hn hf hx) (fun m=> ?_) fun m=>by rw [hex b m] at e;cases e
  rcases hfs b m with h|h
  ·exact hf h
  ·exact Nat.lt_irrefl _ (Ax hlt h)
 slot:=fun b o e hn hf hx=>by
  have hlt:b<h.objs.size:=AX e
  obtain⟨sl,e1⟩:=u.slot b o e hn hf hx
  by_cases hb:b∈fs'
  ·obtain⟨sl2,e2⟩:=c.slot b {o with slots:=sl} e1 hb fun m=>by rw [hex b m] at e;cases e
   exact⟨sl2,e2⟩
  ·exact⟨sl,c.keep b _ e1 hb fun m=>by rw [hex b m] at e;cases e⟩
 free:=u.free
 there:=fun b o e hx=>by
  obtain⟨o1,e1⟩:=u.there b o e hx
  by_cases hb:b∈ex
  ·rw [hex b hb] at e;cases e
  ·by_cases hb2:b∈fs'
   ·obtain⟨sl,e2⟩:=c.slot b o1 e1 hb2 hb
    exact⟨_,e2⟩
   ·exact⟨_,c.keep b o1 e1 hb2 hb⟩
 tups:=u.tups
 frzs:=u.frzs
 tbls:=u.tbls
section
variable {P:AJ}{w:AH}{K:AE}{mg:Str->Option AA}{base:Heap}{N:List Str}{qual:Str}{scope:Scope}{f:AB}{cd:AA}{A:AL}{outer:List Env}{s:AC}{H:Hp}{E:XK}
theorem a7P{pins:List (AB×Obj)}{σ:L2.St}{H2:Hp}{s2:AC}{a C:AB}{dd:Option AB}(I:g8 (W3 (CX1 P w) P w K mg base N qual scope f cd A outer s H E) pins σ H2 s2)(x:Ex0 s2.heap a C dd)(ha:s.heap.get? a=none)(hn:H2 a=none)(hE:E (.ref C) dd H2):
 (W3 (CX1 P w) P w K mg base N qual scope f cd A outer s H E).xe (.ref a) s2:=by
 show AF (model P w) _ (leaving (envOfC qual scope s.heap.objs.size f cd) (.ref a)) _ _ s2
 unfold leaving
 have hfree:∀b∈(envOfC qual scope s.heap.objs.size f cd::outer).filterMap (·.frame),H2 b=none:=I.stkFree
 refine AD (a89 I.ok.frames I.stack rfl x fun T h1 hT x1 c1=> ?_)
 refine b2z x1 none fun h2 x2 c2 _=> ?_
 have hTn:H2 T=none:=I.hok.fresh hT
 have c:Chg ((envOfC qual scope s.heap.objs.size f cd::outer).filterMap (·.frame)) ([a]++[T]) s2.heap h2:=c1.trans (c2.more (fun b hb=>nomatch hb) fun b hb=>hb)
 have hsz:s.heap.objs.size<=s2.heap.objs.size:=I.sz
 have hex:∀b∈[a]++[T],s.heap.get? b=none:=fun b hb=>by
  rcases Ay.mp hb with h|h<;>rw [List.mem_singleton.mp h]
  ·exact ha
  ·exact Heap.get?_none_of_le (Nat.le_trans hsz hT)
 refine⟨a,C,T,dd,H2,rfl,I.os,I.bare,b36 I.base c (fun b hb=> ?_) hex,b0a I.hok c hfree fun b hb=> ?_,ha,Heap.get?_none_of_le (Nat.le_trans hsz hT),hn,hTn,x2,hE⟩
 ·rcases Ab.mp (I.stkSub b hb) with h|h
  ·exact .inr (by rw [h];exact I.ok.above)
  ·exact .inl h
 ·rcases Ay.mp hb with h|h<;>rw [List.mem_singleton.mp h]
  ·exact hn
  ·exact hTn
theorem a80:a3s (CX1 P w) (W3 (CX1 P w) P w K mg base N qual scope f cd A outer s H E) E:=by
 intro pins σ H1 s1 e s' I h
 obtain⟨a,C,T,dd,H2,rfl,ho,hb,un,hok,ha,hT,hn,hTn,x,hE⟩:=h
 have J:g8 (W3 (CX1 P w) P w K mg base N qual scope f cd A outer s H E) pins σ H2 s':=I.call' (ch:=[]) ho un hok hb fun b z=>nomatch z
 show AF (model P w) _ (leaving (envOfC qual scope s.heap.objs.size f cd) (.ref a)) _ _ s'
 unfold leaving
 have hfree:∀b∈(envOfC qual scope s.heap.objs.size f cd::outer).filterMap (·.frame),H2 b=none:=J.stkFree
 refine AD (b1w J.ok.frames J.stack rfl x (by simp [rawInt]) fun T' h1 hT' x1 c1=> ?_)
 refine b2z x1 none fun h2 x2 c2 _=> ?_
 have hTn':H2 T'=none:=J.hok.fresh hT'
 have c:Chg ((envOfC qual scope s.heap.objs.size f cd::outer).filterMap (·.frame)) ([T,a]++[T']) s'.heap h2:=c1.trans (c2.more (fun b hb=>nomatch hb) fun b hb=>hb)
 have hsz:s.heap.objs.size<=s'.heap.objs.size:=J.sz
 have back:∀b,s1.heap.get? b=none->s.heap.get? b=none:=fun b hb=>by
  cases h:s.heap.get? b with
  |none=>rfl
  |some o=>
   obtain⟨o',e⟩:=I.base.there b o h (fun z=>nomatch z)
   rw [hb] at e;cases e
 have mem:∀b∈[T,a]++[T'],b=T\/b=a\/b=T':=fun b hb=>by simpa using hb
 obtain⟨oT,hoT⟩:=x.thereT
 refine⟨a,C,T',dd,H2,rfl,J.os,J.bare,b36 J.base c (fun b hb=> ?_) (fun b hb=> ?_),b0a J.hok c hfree fun b hb=> ?_,back a ha,Heap.get?_none_of_le (Nat.le_trans hsz hT'),hn,hTn',x2,hE⟩
 ·rcases Ab.mp (J.stkSub b hb) with h|h
  ·exact .inr (by rw [h];exact J.ok.above)
  ·exact .inl h
 ·rcases mem b hb with rfl|rfl|rfl
  ·exact back _ hT
  ·exact back _ ha
  ·exact Heap.get?_none_of_le (Nat.le_trans hsz hT')
 ·rcases mem b hb with rfl|rfl|rfl
  ·exact hTn
  ·exact hn
  ·exact hTn'
end
theorem a8E{P:AJ}{w:AH}{H:Hp}{h:Heap}{a:AB}:∀{o:HO},t4 P w H h a o->∃ob,h.get? a=some ob
 | .lst _,⟨_,_,_,_,e⟩=>⟨_,e⟩
 | .tup _,⟨_,_,_,o,e,_⟩=>⟨_,e⟩
 | .dK _,⟨_,_,_,_,o,_,_,e,_⟩=>⟨_,e⟩
 | .dT _,⟨_,_,_,_,o,_,_,e,_⟩=>⟨_,e⟩
 | .set _ _,⟨o,_,_,_,e,_⟩=>⟨_,e⟩
 | .ins _ _ _,⟨_,_,_,e,_⟩=>⟨_,e⟩
 | .own _,⟨_,e⟩=>⟨_,e⟩
 | .xd _,⟨_,⟨_,_,_,e,_⟩,_⟩=>⟨_,e⟩
 | .rng _ _,⟨_,_,_,e⟩=>⟨_,e⟩
 | .frz _ _,⟨e,_⟩=>⟨_,e⟩
 | .tbl _,e=>⟨_,e⟩
 | .met _ _,e=>⟨_,e⟩
 | .ext _,⟨_,e,_⟩=>e
def a7Y:List AA:=[.type "ValueError",.type "Exception",.type "BaseException",.type "object"]
def b9B(C:AB)(h:Heap):Prop:=∃tl N nm q bs hdct sn sub ab col dd k0 k1 k2 k3 k5,
 h.get? C=some (excClassObj nm q C N bs tl hdct sn sub ab col dd k0 k1 k2 k3 k5 "ValueError.__new__")/\OwnTail h a7Y tl
section
variable {X:Cx}{x:Str}{C:AB}{np cpos pos:Pos}{e₀:AG}{rest:List AG}{t:TA}{W:Hp->Prop}
end
section
variable {prog:AJ}{w:AH}{A:AL}{E:AA->AC->Prop}{h:Heap}{g:Array GenState}{d:Drawn}{t:Nat}{os:OsState}
variable {nm q:Str}{C N:AB}{bs bm bmB:List AA}{hdct:Bool}{sn:List Str}{sub:List AA}{ab:Bool}{col:Option Bool}{dd:Option AB}{k0 k1 k2 k3 k5:Option AA}{B newId initId:String}
theorem a25(F:ExcBaseFacts B newId initId bmB)(T:OwnTail h bmB bm){mN:Str->Option AA}{rest:List AA}{fI:AB}{oI:Obj}{Q:PySem.Fin->AC->Prop}
 (hC:h.get? C=some (excClassObj nm q C N bs bm hdct sn sub ab col dd k0 k1 k2 k3 k5 newId)) (hn:h.Ns N mN) (hi:mN "__init__"=some (.ref fI))
 (hfI:h.get? fI=some oI) (hfc:oI.cls= .type "function")
 (hq:∀h' e,Heap.MadeExcOf h h' e (.ref C) rest->
  AF (model prog w) A (call (.ref fI) (.ref e::rest)) (fun r s'=>r= .none/\Q (.done (.ret (.ref e))) s') E ⟨h',g,d,t,os⟩) (hrest:rest.length<=AN):
 AF (model prog w) A (Builtin.«type.__call__» ⟨.ref C::rest,[]⟩) Q E ⟨h,g,d,t,os⟩:=by
 repeat (first|with_reducible refine wpAny_loadPart_at hC ?_|with_reducible refine wpAny_madeBy_exc hC ?_|wp_step)
 refine codeAny_call_builtin_code (Code.quiet_builtin _ F.quiet) (wpAny_check_new_subT F T hC ?_)
 refine codeAny_exc_new_subT F T hC ?_ hrest
 show AF _ _ _ _ _ _
 have hC₁:=AU {cls:= .ref C,data:= .fields #[.ref h.objs.size,.none,.none,.none,.bool false,.none]}
  (AU {cls:= .type "tuple",data:= .seq rest.toArray} hC)
 have hfI₁:=AU {cls:= .ref C,data:= .fields #[.ref h.objs.size,.none,.none,.none,.bool false,.none]}
  (AU {cls:= .type "tuple",data:= .seq rest.toArray} hfI)
 have hn₁:((h.push {cls:= .type "tuple",data:= .seq rest.toArray}).push {cls:= .ref C,data:= .fields #[.ref h.objs.size,.none,.none,.none,.bool false,.none]}).Ns N mN:=
  let ⟨o,es,ep,e,r⟩:=hn;⟨o,es,ep,AU _ (AU _ e),r⟩
 have hget:((h.push {cls:= .type "tuple",data:= .seq rest.toArray}).push
  {cls:= .ref C,data:= .fields #[.ref h.objs.size,.none,.none,.none,.bool false,.none]}).get? (h.objs.size+1)=some
  {cls:= .ref C,data:= .fields #[.ref h.objs.size,.none,.none,.none,.bool false,.none]}:=by heap_get
 have hcC:(Value.ref C::bm).contains (.ref C)=true:=by simp
 have T₁:=T.keeps (h':=(h.push {cls:= .type "tuple",data:= .seq rest.toArray}).push {cls:= .ref C,data:= .fields #[.ref h.objs.size,.none,.none,.none,.bool false,.none]})
  fun b o e=>AU _ (AU _ e)
 unfold isInstance
 repeat (first|with_reducible refine wpAny_loadPart_at hget ?_|(with_reducible refine wpAny_isSubtype_exc hC₁ ?_;rw [hcC])|wp_step)
 show AF _ _ (typeLookup (.ref C) _) _ _ _
 refine wpAny_typeLookup_tail hC₁ hn₁ T₁ F.mroIs F.init.lookup ?_
 rw [hi]
 refine wpAny_holding (AD ?_)
 unfold bindSpecial
 refine AD (wpAny_typeOf (T:="function") ⟨_,hfI₁,hfc⟩ ?_)
 rw [if_pos (by decide)]
 refine AI (AD (wpAny_mono (hq _ (h.objs.size+1) ⟨fun b o hb=>AU _ (AU _ hb),Heap.get?_none_of_le (Nat.le_succ _),h.objs.size,hget,Heap.get?_none_of_le (AO _), ?_⟩) (fun r s' hr=> ?_) fun _ _ x=>x))
 ·exact AU _ (Heap.get?_push_at rfl rfl)
 ·obtain⟨rfl,hQ⟩:=hr
  wp_walk
  exact hQ
theorem a8L(F:ExcBaseFacts B newId initId bmB)(T:OwnTail h bmB bm){mN:Str->Option AA}{rest:List AA}{fI:AB}{oI:Obj}{Q:AA->AC->Prop}
 (hC:h.get? C=some (excClassObj nm q C N bs bm hdct sn sub ab col dd k0 k1 k2 k3 k5 newId)) (hn:h.Ns N mN) (hi:mN "__init__"=some (.ref fI))
 (hfI:h.get? fI=some oI) (hfc:oI.cls= .type "function")
 (hq:∀h' e,Heap.MadeExcOf h h' e (.ref C) rest->
  AF (model prog w) (A.under (.builtin "type.__call__" ⟨.ref C::rest,[]⟩)) (call (.ref fI) (.ref e::rest)) (fun r s'=>r= .none/\Q (.ref e) s') E ⟨h',g,d,t,os⟩) (hrest:rest.length<=AN):
 AF (model prog w) A (call (.ref C) rest) Q E ⟨h,g,d,t,os⟩:=by
 have f1:=tc_lookup
 have f2:=tc_bind (.ref C)
 have hT:(⟨h,g,d,t,os⟩:AC).TypeIs (.ref C) "type":=⟨_,hC,rfl⟩
 refine wpAny_call (codeAny_of_tree ?_)
 show AF _ _ (callAny (.ref C) _) _ _ _
 repeat (any_goals (first|assumption|with_reducible refine wpAny_loadPart_at hC ?_|wp_step))
 refine⟨rfl, ?_⟩
 refine codeAny_call_builtin_at (Code.quiet_builtin _ (by decide+kernel)) entry_typeCall (wpAny_check_type_call_sub hC (a25 (hrest:=hrest) F T hC hn hi hfI hfc fun h' e hm=> ?_))
 exact hq h' e hm
theorem a0I{M:Model}{env:Env}{s:AC}{x:Sem AA}{Q:Flow->AC->Prop}(hbase:bm.contains (.type "BaseException")=true)(hh:A.handled=none)
 (h:AF M A x (fun v s₁=>∃e oe vs,v= .ref e/\s₁.heap.get? C=some (excClassObj nm q C N bs bm hdct sn sub ab col dd k0 k1 k2 k3 k5 newId)/\
  s₁.heap.get? e=some oe/\oe.cls= .ref C/\oe.data= .fields vs/\vs[1]?=some .none/\E (.ref e) s₁) E s):
 AF M A (raiseStmt env (some x) none) Q E s:=by
 have hcB:(Value.ref C::bm).contains (.type "BaseException")=true:=by rw [List.contains_cons,hbase,Bool.or_true]
 unfold raiseStmt
 refine AD (wpAny_mono h (fun v s₁ h₁=> ?_) fun _ _ x=>x)
 obtain⟨e,oe,vs,rfl,hC,he,hc,hd,h1,hE⟩:=h₁
 obtain⟨oc,od,ods,osl⟩:=oe
 cases hc
 cases hd
 obtain⟨hp,g,d,tk,os⟩:=s₁
 repeat (first|with_reducible refine wpAny_loadPart_at he ?_|with_reducible refine wpAny_loadPart_at hC ?_|(with_reducible refine wpAny_isSubtype_exc hC ?_;rw [hcB])|wp_step)
 rw [h1]
 refine AI ?_
 rw [if_neg (by decide)]
 exact AI (wpAny_raiseNew_none hh hE)
end
section
variable {prog:AJ}{w:AH}{A:AL}{E:AA->AC->Prop}{s:AC}{env:Env}
variable {nm q:Str}{C N:AB}{bs bm bmB:List AA}{hdct:Bool}{sn:List Str}{sub:List AA}{ab:Bool}{col:Option Bool}{dd:Option AB}{k0 k1 k2 k3 k5:Option AA}{B newId initId:String}
theorem a8d(F:ExcBaseFacts B newId initId bmB){mN:Str->Option AA}{x:Str}{np cpos pos:Pos}{args:List AG}{fI:AB}{oI:Obj}{Q:Flow->AC->Prop}
 (hbase:bm.contains (.type "BaseException")=true) (hh:A.handled=none) (hplain:(backTo cpos (AQ args env)).any (·.1)=false) (hi:mN "__init__"=some (.ref fI)) (hfc:oI.cls= .type "function")
 (h:AF (model prog w) A (eval (.Name x np) env) (fun f s₁=>f= .ref C/\AF (model prog w) A (evalArgs (.ref C) true (backTo cpos (AQ args env)) [])
  (fun a s₂=>a.kw=[]/\a.pos.length<=AN/\s₂.heap.get? C=some (excClassObj nm q C N bs bm hdct sn sub ab col dd k0 k1 k2 k3 k5 newId)/\s₂.heap.Ns N mN/\OwnTail s₂.heap bmB bm/\s₂.heap.get? fI=some oI/\
   ∀h' e,Heap.MadeExcOf s₂.heap h' e (.ref C) a.pos->AF (model prog w) (A.under (.builtin "type.__call__" ⟨.ref C::a.pos,[]⟩)) (call (.ref fI) (.ref e::a.pos))
    (fun r s₃=>r= .none/\s₃.heap.get? C=some (excClassObj nm q C N bs bm hdct sn sub ab col dd k0 k1 k2 k3 k5 newId)/\(∃oe vs,s₃.heap.get? e=some oe/\oe.cls= .ref C/\oe.data= .fields vs/\vs[1]?=some .none)/\E (.ref e) s₃) E {s₂ with heap:=h'}) E s₁) E s):
 AF (model prog w) A (exec (.Raise (some (.Call (.Name x np) args [] cpos)) none pos) env) Q E s:=by
 rw [arm_exec_Raise]
 first
  |refine AD (wpAny_standAt (a0I (C:=C) (nm:=nm) (q:=q) (N:=N) (bs:=bs) (bm:=bm) (hdct:=hdct) (sn:=sn) (sub:=sub) (ab:=ab) (col:=col) (dd:=dd) (k0:=k0) (k1:=k1) (k2:=k2) (k3:=k3) (k5:=k5) (newId:=newId) hbase hh (AD (wpAny_mono (wpAny_Call_ofName (wpAny_mono h (fun f s₁ h₁=> ?_) fun _ _ x=>x)) (fun v s₃ h₃=>AD (wpAny_standAt (AI h₃))) fun _ _ x=>x))))
  |(simp only [evalOpt,Option.map];refine AD (wpAny_standAt (a0I (C:=C) (nm:=nm) (q:=q) (N:=N) (bs:=bs) (bm:=bm) (hdct:=hdct) (sn:=sn) (sub:=sub) (ab:=ab) (col:=col) (dd:=dd) (k0:=k0) (k1:=k1) (k2:=k2) (k3:=k3) (k5:=k5) (newId:=newId) hbase hh (AD (wpAny_mono (wpAny_Call_ofName (wpAny_mono h (fun f s₁ h₁=> ?_) fun _ _ x=>x)) (fun v s₃ h₃=>AD (wpAny_standAt (AI h₃))) fun _ _ x=>x)))))
  |(refine AD (wpAny_standAt (a0I (C:=C) (nm:=nm) (q:=q) (N:=N) (bs:=bs) (bm:=bm) (hdct:=hdct) (sn:=sn) (sub:=sub) (ab:=ab) (col:=col) (dd:=dd) (k0:=k0) (k1:=k1) (k2:=k2) (k3:=k3) (k5:=k5) (newId:=newId) hbase hh ?_));refine AD (wpAny_mono (wpAny_Call_ofName (wpAny_mono h (fun f s₁ h₁=> ?_) fun _ _ x=>x)) (fun v s₃ h₃=>AD (wpAny_standAt (AI h₃))) fun _ _ x=>x))
 obtain⟨rfl,h₁⟩:=h₁
 unfold callWith
 refine AD (wpAny_holding (wpAny_mono h₁ (fun a s₂ h₂=>AD (wpAny_standAt ?_)) fun _ _ x=>x))
 obtain⟨apos,akw⟩:=a
 obtain⟨hkw,hlen,hC,hn,T,hfI,h₂⟩:=h₂
 obtain rfl:akw=[]:=hkw
 obtain⟨hp,g,d,tk,os⟩:=s₂
 simp only [hplain]
 refine AD (wpAny_keeperOf_exc hC ?_)
 refine AD (a8L (hrest:=hlen) F T hC hn hi hfI hfc fun h' e hm=> ?_)
 refine wpAny_mono (h₂ h' e hm) (fun r s₃ h₃=> ?_) fun _ _ x=>x
 obtain⟨r0,hC3,⟨oe,vs,he,hc,hd,h1⟩,hE⟩:=h₃
 exact⟨r0,AD (wpAny_holding (wpAny_point (AI ⟨e,oe,vs,rfl,hC3,he,hc,hd,h1,hE⟩)))⟩
end
open PySem PySem.Spec PyProof.Rows L2 PySem.W Builtin Builtin.ObjectAttr
def a6U:List AA->Bool
 | .ref _::r=>a6U r
 |l=>l==a7Y
theorem a5P(self:AA):∀{l:List AA},a6U l=true->refuseLoop self "__setattr__" l=pure ()
 |[],e=>by cases e
 |v::r,e=>by
  cases v with
  |ref c=>rw [refuseLoop_ref];exact a5P self (l:=r) e
  |_=>rw [show(_::r)=a7Y from beq_iff_eq.mp e];exact PySem.F.store_ValueError.passes self
theorem b2N(x:String)(hx:a7Y.contains (.type x)=true):∀{l:List AA},a6U l=true->l.contains (.type x)=true
 |[],e=>by cases e
 |v::r,e=>by
  cases v with
  |ref c=>rw [List.contains_cons,b2N x hx (l:=r) e,Bool.or_true]
  |_=>rw [show(_::r)=a7Y from beq_iff_eq.mp e];exact hx
def a3M(K:Frag)(C:AB):Bool:=(clsIn K C).any fun cd=>a6U cd.mro && cd.hasDict
section
variable {prog:AJ}{w:AH}{A:AL}{E:AA->AC->Prop}{s:AC}{K:Frag}{x C:AB}
theorem b6m{ox:Obj}{od:Option Obj}{name:Str}{tk:Tok}{v:AA}{R:Result->AC->Prop}(X:K.In s.heap)(I:InstAt s.heap x ox C od)(hp:a3M K C=true)(ht:findIn K (.ref C) name=some none)
 (h:AF (model prog w) A.in1 (storeInOwnDict (.ref x) (.ref C) (.str name tk) name v false)
  (fun fin s'=>match fin with| .done f=>R (.ok f) s'| .again c'=>c'.quiet=true/\codeAny (model prog w) A c' R s') (fun e s'=>R (.error e) s') s):
 codeAny (model prog w) A (.call (.builtin "object.__setattr__") ⟨[.ref x,.str name tk,v],[]⟩) R s:=by
 have SF:=PySem.F.store_object
 obtain⟨cd,hc,ho⟩:=any_some hp
 rw [Bool.and_eq_true] at ho
 have ne:cd.mro.isEmpty=false:=by cases q:cd.mro with|nil=>rw [q] at ho;cases ho.1|cons _ _=>rfl
 have sub:Looks (model prog w) s.heap (isInstance (.ref x) (.type "object")) true:=I.type.andThen (looks_mroIn X (by unfold mroIn;rw [hc,AK,if_neg (by rw [ne];decide),b2N "object" (by decide) ho.1]))
 refine codeAny_call_builtin SF.slot.plain SF.entry (@check_slot (model prog w) _ _ s "object.__setattr__" "object" "__setattr__" (.ref x) [.str name tk,v] [] _ SF.kind SF.split sub (SF.args (.ref x) (.str name tk) v) ?_)
 have hm:Looks (model prog w) s.heap (mroOf (.ref C)) cd.mro:=(looks_clsIn X hc).andThen .now
 rw [osa_eq,refuse_eq]
 refine AD (AD (I.type.here (AD (hm.here ?_))))
 rw [a5P _ ho.1]
 refine AI (AD (I.type.here (AD ((looks_findIn X ht).here (AD ((Looks.now (M:=model prog w) (a:=(none:Option AA))).here ?_))))))
 exact h
theorem a9m{name:Str}{v:AA}{vs:Array AA}{sl:Array (Option AA)}{Q:Unit->AC->Prop}(X:K.In s.heap)(hx:s.heap.get? x=some ⟨.ref C,none,.fields vs,sl⟩)(hp:a3M K C=true)(ht:findIn K (.ref C) name=some none)
 (hs:findIn K (.ref C) "__setattr__"=some (some (.builtin "object.__setattr__")))
 (h:∀h' d tk,s.heap.get? d=none->s.heap.objs.size<=d->h'.get? x=some ⟨.ref C,some d,.fields vs,sl⟩->h'.Ns1 d (fun y=>if y=name then some v else none)->(∀b o,b≠x->s.heap.get? b=some o->h'.get? b=some o)->Q () {s with heap:=h',toks:=tk}):
 AF (model prog w) A (setAttr (.ref x) name v) Q E s:=by
 have J:InstAt s.heap x ⟨.ref C,none,.fields vs,sl⟩ C none:=⟨hx,rfl,rfl,trivial⟩
 refine set_plain X J hs (b6m (s:={s with toks:=s.toks+1}) X J hp ht ?_)
 obtain⟨cd,hc,ho⟩:=any_some hp
 rw [Bool.and_eq_true] at ho
 refine AD (AI (AD (AD (wpAny_loadPart hx (AD (Looks.here (s:={s with toks:=s.toks+1}) (looks_clsIn X hc) ?_))))))
 rw [ho.2]
 rw [if_neg (by decide)]
 have hx1:(s.heap.push {cls:= .type "dict",data:= .dict #[]}).get? x=some ⟨.ref C,none,.fields vs,sl⟩:=AU _ hx
 have hxs:x≠s.heap.objs.size:=Ai (AX hx)
 show AF _ _ (if(!true|| !typeHasDict (.ref C))=true then pure none else _) _ _ _
 rw [if_neg (by simp [typeHasDict])]
 refine AD (wpAny_alloc' (AD (wpAny_update' hx1 (AI ?_))))
 have hgd:((s.heap.push {cls:= .type "dict",data:= .dict #[]}).update x fun o=>{cls:=o.cls,dict:=some s.heap.objs.size,data:=o.data,slots:=o.slots}).get? s.heap.objs.size
  =some {cls:= .type "dict",data:= .dict #[]}:=(Heap.get?_update_ne _ _ _ _ hxs.symm).trans (Heap.get?_push_at rfl rfl)
 have hnd:((s.heap.push {cls:= .type "dict",data:= .dict #[]}).update x fun o=>{cls:=o.cls,dict:=some s.heap.objs.size,data:=o.data,slots:=o.slots}).Ns s.heap.objs.size (fun _=>none):=
  ⟨_, #[],_,hgd,rfl,fun e he=>absurd he (by simp),fun _=>rfl⟩
 show AF _ _ (storeInDict s.heap.objs.size (.str name s.toks) name v) _ _ _
 unfold storeInDict newKeyGuard
 refine AD (AI (AD (wpAny_nsSet1 (Heap.Ns1.of_empty hnd) fun h' hn' hs=> ?_)))
 obtain⟨oD,esD,epD,hoD,hdD,hcD⟩:=hn'.count (Within.cons name v Within.nil)
 refine AD (wpAny_lookBehind hoD (by rw [hdD];exact pastItsLine_dict (Nat.le_trans hcD (by rw [AT,Aj,sizeLine_eq];lia))) ?_)
 refine AI (h h' s.heap.objs.size _ (Heap.get?_none_of_le (AO _)) (AO _) ?_ hn' fun b ob hbx hb=> ?_)
 ·exact(hs.2 x hxs).trans (Heap.get?_update_self _ hx1 rfl)
 ·exact(hs.2 b (Ai (AX hb))).trans ((Heap.get?_update_ne _ _ _ _ hbx).trans (AU _ hb))
theorem b1M{name:Str}{v:AA}{d:AB}{ox:Obj}{mA:Str->Option AA}{ns:List Str}{Q:Unit->AC->Prop}(X:K.In s.heap)(hx:s.heap.get? x=some ox)(hxc:ox.cls= .ref C)(hxd:ox.dict=some d)(hxf:∃vs,ox.data= .fields vs)(hd:s.heap.Ns1 d mA)(hp:a3M K C=true)(ht:findIn K (.ref C) name=some none)
 (hs:findIn K (.ref C) "__setattr__"=some (some (.builtin "object.__setattr__"))) (hw:Within mA ns) (hsz:ns.length<=AN)
 (h:∀h' tk,h'.Ns1 d (fun y=>if y=name then some v else mA y)->Heap.SameBut d s.heap h'->Q () {s with heap:=h',toks:=tk}):
 AF (model prog w) A (setAttr (.ref x) name v) Q E s:=by
 obtain⟨od,hod,hl⟩:=b1m hd
 obtain⟨vs,hxf⟩:=hxf
 have J:InstAt s.heap x ox C (some od):=⟨hx,hxc,by unfold notCls;rw [hxf],by rw [hxd];exact hod⟩
 refine set_plain X J hs (b6m (s:={s with toks:=s.toks+1}) X J hp ht ?_)
 obtain⟨cd,hc,ho⟩:=any_some hp
 rw [Bool.and_eq_true] at ho
 obtain⟨oc,oD,ods,osl⟩:=ox
 cases hxc
 cases hxd
 cases hxf
 refine AD (AI (AD (AD (wpAny_loadPart hx (AD (Looks.here (s:={s with toks:=s.toks+1}) (looks_clsIn X hc) ?_))))))
 rw [ho.2]
 refine AI (a:=some d) (AD (AI (AD ?_)))
 refine wpAny_nsSet1 (s:={s with toks:=s.toks+1}) hd fun h' hn2 hs2=> ?_
 obtain⟨oD,esD,epD,hoD,hdD,hcD⟩:=hn2.count (Within.cons name v hw)
 refine AD (wpAny_lookBehind hoD (by rw [hdD];exact pastItsLine_dict (Nat.le_trans hcD (by rw [AT];lia))) ?_)
 exact AI (h _ _ hn2 hs2)
end
section
variable {X:Cx}{pins:List (AB×Obj)}{σ:L2.St}{H:Hp}{s:AC}
end
structure XT where
 cls:Str
 fs:List (PV×PV)
def XF(K:AE)(F:Hp)(fs:List (PV×PV))(dd:Option AB):Prop:=(fs=[]/\dd=none)\/∃d vs,dd=some d/\F d=some (.xd vs)/\fs≠[]/\a2Y K F fs vs
inductive FX where
 |fl (f:Fl)|rz (c:XT) (ρ:b9)
abbrev MX:=b9->Option FX
def b1Y(K:AE)(mg:Str->Option AA)(E:L2.St->XK)(F0 H0 F:Hp)(σ0:L2.St)(D:Q3):FX->Prop
 | .fl f=>Fin K F0 H0 F D f
 | .rz c ρ=>∃C,mg c.cls=some (.ref C)/\∀σ dd F' H',i9 F F'->V2 K F0 H0 F' H' σ ρ->XF K F' c.fs dd->E σ (.ref C) dd H'
theorem b1Y.later{K:AE}{mg:Str->Option AA}{E:L2.St->XK}{F0 H0 F F1:Hp}{σ0 σ1:L2.St}{D:Q3}(s:i9 F F1):∀{fx:FX},b1Y K mg E F0 H0 F σ0 D fx->b1Y K mg E F0 H0 F1 σ1 D fx
 | .fl _,h=>Fin.later s h
 | .rz _ _,⟨C,h1,h2⟩=>⟨C,h1,fun σ a F' H' s' so hn=>h2 σ a F' H' (s.trans s') so hn⟩
def tMX(K:AE)(mg:Str->Option AA)(E:L2.St->XK)(m:MX):TS:=fun D σ H=>∃F0 H0 F ρ fx,V2 K F0 H0 F H σ ρ/\m ρ=some fx/\b1Y K mg E F0 H0 F σ D fx
theorem a63{K:AE}{mg:Str->Option AA}{E:L2.St->XK}{m:MX}{D:Q3}{σ:L2.St}{H:Hp}{C:Prop}(h:tMX K mg E m D σ H)(k:∀F0 H0 F ρ fx,V2 K F0 H0 F H σ ρ->m ρ=some fx->b1Y K mg E F0 H0 F σ D fx->C):C:=
 h.elim fun a h=>h.elim fun b h=>p9 h (k a b)
abbrev EX(X:Cx)(E:L2.St->XK)(st:Stmt)(m:MX):Prop:=PS X st (tMX X.K X.mg E m)
abbrev EXs(X:Cx)(E:L2.St->XK)(st:List Stmt)(m:MX):Prop:=PSs X st (tMX X.K X.mg E m)
def a4X(m:MS):MX:=fun ρ=>(m ρ).map .fl
def b0q(m n:MX):MX:=fun ρ=>(m ρ).bind fun fx=>match fx with
 | .fl (.nx ρ')=>n ρ'
 |f=>some f
def b7w(c:MT)(m n:MX):MX:=fun ρ=>(c ρ).bind fun b=>if b=true then m ρ else n ρ
section
variable {X:Cx}{E:L2.St->XK}
theorem b6w{m:MS}{D:Q3}{σ:L2.St}{H:Hp}(h:tMX X.K X.mg E (a4X m) D σ H):tMS X.K m D σ H:=by
 obtain⟨F0,H0,F,ρ,fx,so,e,fin⟩:=h
 unfold a4X at e
 cases hm:m ρ with
 |none=>rw [hm] at e;cases e
 |some f=>rw [hm] at e;cases e;exact⟨F0,H0,F,ρ,f,so,hm,fin⟩
theorem b8O{st:Stmt}{m:MS}(h:ES X st m):EX X E st (a4X m):=u7 h fun _ _ _ q=>b6w q
theorem b6Y{st:List Stmt}{m:MS}(h:ESs X st m):EXs X E st (a4X m):=a3k h fun _ _ _ q=>b6w q
theorem a9X{st:Stmt}{m:MX}(h:EX X E st m):EXs X E [st] m:=b0x h
theorem a7y{st:Stmt}{rest:List Stmt}{m n:MX}(h1:EX X E st m)(h2:EXs X E rest n):EXs X E (st::rest) (b0q m n):=
 a3k (a1l h1 h2) fun D σ H h0=>a63 h0 fun F0 H0 F ρ fx so e fin=>by
  obtain⟨f1,e1,e⟩:=bind_some e
  cases f1 with
  |rz c ρ1=>cases e;exact⟨F0,H0,F,ρ,.rz c ρ1,so,e1,fin⟩
  |fl f=>
   cases f with
   |nx ρ'=>exact⟨F0,H0,F,ρ,.fl (.nx ρ'),so,e1,fun σ' F' H' s so'=>⟨F0,H0,F',ρ',fx,so',e,fin.later s⟩⟩
   |rt r=>cases e;exact⟨F0,H0,F,ρ,_,so,e1,fin⟩
   |bk r=>cases e;exact⟨F0,H0,F,ρ,_,so,e1,fin⟩
   |ct r=>cases e;exact⟨F0,H0,F,ρ,_,so,e1,fin⟩
theorem b8N{c:AG}{a b:List Stmt}{mc:MT}{m n:MX}{pos:Pos}(hc:ET X c mc)(ha:EXs X E a m)(hb:EXs X E b n):EX X E (.If c a b pos) (b7w mc m n):=
 u7 (b6o hc ha hb) fun D σ H h0=>a63 h0 fun F0 H0 F ρ fx so e fin=>by
  obtain⟨b,e1,e⟩:=bind_some e
  refine⟨F,ρ,b,so.e,e1,fun F1 H1 x=> ?_⟩
  cases b with
  |true=>exact b1d ⟨F0,H0,F1,ρ,fx,so.ext x,e,fin.later x.f⟩
  |false=>exact b1c ⟨F0,H0,F1,ρ,fx,so.ext x,e,fin.later x.f⟩
end
def spX(K:AE)(mg:Str->Option AA)(n:Nat)(g:List PV->Option (e9 ⊕ XT)):Sp:=fun vs H Q E=>∃F ps r,i9 F H/\i0 K F ps vs/\ps.length=n/\g ps=some r/\(match r with
 | .inl r=>∀v F' H',m9 K F H F' H' v r->Q v H'
 | .inr c=>∃C,mg c.cls=some (.ref C)/\∀dd F' H',N7 F H F' H'->XF K F' c.fs dd->E (.ref C) dd H')
def a26(CX:CXT)(X:Cx)(E:L2.St->XK):Prop:=∀(pins:List (AB×Obj)) (σ:L2.St) (H:Hp) (s:AC) (e:AA) (s':AC),g8 X pins σ H s->CX X.stack H s (E σ) e s'->X.xe e s'
section
variable {X:Cx}{E:L2.St->XK}{CX:CXT}
theorem b3z{k:Nat}{f:AB}{fd:FuncData}{ps:List Str}{sp:Sp}{x:Str}{p pos:Pos}{e:AG}{es:List AG}{t:TA}(F:E4 X.prog X.w X.K X.mg X.base CX k f fd ps sp)(hr:x6 k X.A)(hg:Gl X x)(hm:X.mg x=some (.ref f))(hk:PySem.W.keepIn X.K (.ref f)=true)(hb:Q1 X.K fd ps [])(hx:a26 CX X E)
 (ha:PA X (e::es) t) (hdb:(x==("__debug__":Str))=false:=by decide) (he:AQ (e::es) X.env=(false,eval e X.env)::AQ es X.env:=by rfl) (hpl:(backTo pos (AQ es X.env)).any (·.1)=false:=by rfl):
 PE X (.Call (.Name x p) (e::es) [] pos) (fun σ H Q=>t σ H fun vs H1=>sp vs H1 Q (E σ)):=by
 intro pins s σ H Q I h
 refine wpAny_Call_Name_kw (Z9 I hg hm ?_ hdb)
 refine PySem.W.callWith_K (h₀:=X.base) I.ok.mod.kin hk (A6 (ha pos pins s σ H _ I h) fun us s1 h0=>j8 h0 fun vs H1 I1 r q=>⟨I1.kIn, ?_⟩) he hpl
 have hl:(us++[]).length=ps.length:=by rw [Al,<-r.length];exact F.len _ _ _ _ q
 have hb':=hb s1 us I1.kIn hl
 rw [Al] at hb'
 refine wpAny_call (codeAny_mono (F.run X.A X.stack s1 H1 ⟨us,[]⟩ us vs Q (E σ) hr I1.env0 hb' r q) fun r s' hq=> ?_)
 cases r with
 |error e=>exact hx pins σ H1 s1 e s' I1 hq
 |ok fl=>
  cases fl with
  |ret u=>exact I1.after hq
  |next=>exact False.elim hq
  |brk=>exact False.elim hq
  |cont=>exact False.elim hq
def b16(g:List PV->Option (e9 ⊕ XT))(m:MA):b9->Option (e9 ⊕ XT):=fun ρ=>(m ρ).bind g
def a70(g:List PV->Option (e9 ⊕ XT))(m:MA):MX:=fun ρ=>(b16 g m ρ).bind fun r=>match r with
 | .inl _=>some (.fl (.nx ρ))
 | .inr c=>some (.rz c ρ)
theorem b4q{n:Nat}{g:List PV->Option (e9 ⊕ XT)}{m:MA}{F0 H0 F H:Hp}{σ:L2.St}{ρ:b9}{Q:VK}{r:e9 ⊕ XT}(so:V2 X.K F0 H0 F H σ ρ)(hn:∀ρ ps,m ρ=some ps->ps.length=n)(e:b16 g m ρ=some r)
 (k:match r with
  | .inl r=>∀v F' H',m9 X.K F H F' H' v r->Q v H'
  | .inr c=>∃C,X.mg c.cls=some (.ref C)/\∀dd F' H',N7 F H F' H'->XF X.K F' c.fs dd->E σ (.ref C) dd H'):
 tMA X.K m σ H fun vs H1=>spX X.K X.mg n g vs H1 Q (E σ):=by
 obtain⟨qs,e1,e2⟩:=bind_some e
 refine⟨F,ρ,qs,so.e,e1,fun vs F1 H1 x rl=>⟨F1,qs,r,x.fh,rl,hn _ _ e1,e2, ?_⟩⟩
 cases r with
 |inl r=>exact fun v F2 H2 o=>k v F2 H2 (m9.trans x o)
 |inr c=>
  obtain⟨C,h1,h2⟩:=k
  exact⟨C,h1,fun a F2 H2 y hn=>h2 a F2 H2 (x.trans y) hn⟩
theorem b6V{k n:Nat}{f:AB}{fd:FuncData}{ps:List Str}{g:List PV->Option (e9 ⊕ XT)}{x:Str}{p pos pos2:Pos}{e:AG}{es:List AG}{m:MA}
 (G:E4 X.prog X.w X.K X.mg X.base CX k f fd ps (spX X.K X.mg n g)) (hr:x6 k X.A) (hg:Gl X x) (hm:X.mg x=some (.ref f)) (hk:PySem.W.keepIn X.K (.ref f)=true) (hb:Q1 X.K fd ps []) (hx:a26 CX X E) (hn:∀ρ ps,m ρ=some ps->ps.length=n) (ha:EA X (e::es) m)
 (hs:swapsWith (.Call (.Name x p) (e::es) [] pos) none pos2.line X.env=pure false:=by rfl)
 (hdb:(x==("__debug__":Str))=false:=by decide) (he:AQ (e::es) X.env=(false,eval e X.env)::AQ es X.env:=by rfl) (hpl:(backTo pos (AQ es X.env)).any (·.1)=false:=by rfl):
 EX X E (.Expr (.Call (.Name x p) (e::es) [] pos) pos2) (a70 g m):=
 u7 (a6V (b3z (E:=E) G hr hg hm hk hb hx ha hdb he hpl) hs) fun D σ H h0=>a63 h0 fun F0 H0 F ρ fx so e fin=>by
  obtain⟨r,e1,e⟩:=bind_some e
  refine b4q so hn e1 ?_
  cases r with
  |inl r=>cases e;exact fun v F' H' o=>fin σ F' H' o.x.f (so.ext o.x)
  |inr c=>
   cases e
   obtain⟨C,h1,h2⟩:=fin
   exact⟨C,h1,fun a F' H' y hn=>h2 σ a F' H' y.f (so.ext y) hn⟩
end
def b1J(n:Nat)(body:MX)(ps:List PV):Option (e9 ⊕ XT):=(body (ps.map (fun p=>some (e9.val p))++AV n none)).bind fun fx=>match fx with
 | .fl (.rt r)=>some (.inl r)
 | .fl (.nx _)=>some (.inl (.val .none))
 | .rz c _=>some (.inr c)
 |_=>none
theorem b60{P:AJ}{w:AH}{K:AE}{mg:Str->Option AA}{base:Heap}{x qual:Str}{st:Stmt}{f:AB}{fd:FuncData}{N ps:List Str}{k:Nat}{m:MX}(F:Fun K x qual st f fd)(S:i5 N ps (d7 st))
 (hb:∀(cdv:AA) (A:AL) (outer:List Env) (s:AC) (H:Hp) (E:XK),x6 k (A.deeper (envOfC qual (d7 st) s.heap.objs.size f cdv))->EXs (W3 (CX1 P w) P w K mg base N qual (d7 st) f cdv A outer s H E) (fun _=>E) (p7 st) m):
 E4 P w K mg base (CX1 P w) (k+1) f fd ps (spX K mg ps.length (b1J (N.length - ps.length) m)):=by
 obtain⟨oc,od,kV,doc,pm,an,cdv,ct,osl,rfl,lk,hcd⟩:=F.ex
 refine b58 lk hcd S (fun vs H Q E h=> ?_) fun A outer s H vs Q E hr h=> ?_
 ·obtain⟨_,qs,_,_,r,h2,_⟩:=h
  rw [r.length,h2]
 ·obtain⟨F1,qs,r,s1,rl,hl,e,k⟩:=h
  refine⟨_,hb cdv A outer s H E hr, ?_⟩
  unfold b1J at e
  obtain⟨fx,e1,e2⟩:=bind_some e
  have hv:vs.length=ps.length:=by rw [rl.length,hl]
  refine⟨F1,H,F1,_,fx, ?_,e1, ?_⟩
  ·have:=a8o (N.length - ps.length) s1 rl
   unfold L2.R7
   rw [hv]
   exact this
  ·cases fx with
   |rz c ρ1=>
    cases e2
    obtain⟨C,h1,h2⟩:=k
    exact⟨C,h1,fun _ a F' H' _ so' hn=>h2 a F' H' so'.x hn⟩
   |fl f=>
    cases f with
    |rt q=>cases e2;exact fun v F' H' o=>k v F' H' o
    |nx ρ=>cases e2;exact fun σ' F' H' _ so=>k .non F' H' (m9.val so.x rfl)
    |bk ρ=>cases e2
    |ct ρ=>cases e2
def a3r(P:AJ)(w:AH)(K:AE)(mg:Str->Option AA)(base:Heap)(x:Str)(ps:List Str)(k:Nat)(g:List PV->Option (e9 ⊕ XT)):Prop:=
 ∃f fd,E4 P w K mg base (CX1 P w) k f fd ps (spX K mg ps.length g)/\mg x=some (.ref f)/\PySem.W.keepIn K (.ref f)=true/\Q1 K fd ps []
def left(g:List PV->Option (e9 ⊕ XT))(ps:List PV):Option e9:=(g ps).bind fun r=>match r with
 | .inl r=>some r
 | .inr _=>none
section
variable {X:Cx}
theorem b7K:a3s (CX1 X.prog X.w) X E0:=fun _ _ _ _ _ _ _ h=>by
 obtain⟨_,_,_,_,_,_,_,_,_,_,_,_,_,_,_,h⟩:=h
 exact False.elim h
theorem a9S{k k':Nat}{ps:List Str}{g:List PV->Option (e9 ⊕ XT)}{x:Str}{p pos:Pos}{e:AG}{es:List AG}{m:MA}
 (d:a3r X.prog X.w X.K X.mg X.base x ps k g) (hr:x6 k' X.A) (hk:k<=k') (hg:Gl X x) (hn:∀ρ qs,m ρ=some qs->qs.length=ps.length) (ha:EA X (e::es) m)
 (hdb:(x==("__debug__":Str))=false:=by decide) (he:AQ (e::es) X.env=(false,eval e X.env)::AQ es X.env:=by rfl) (hpl:(backTo pos (AQ es X.env)).any (·.1)=false:=by rfl):
 EE X (.Call (.Name x p) (e::es) [] pos) (m7 (left g) m):=by
 obtain⟨f,fd,G,h1,h2,h3⟩:=d
 refine t7 (b0t G (hr.mono hk) hg h1 h2 h3 .nil b7K ha hdb he hpl) fun σ H Q h0=>p9 h0 fun F ρ r he hm k=> ?_
 obtain⟨qs,e1,hm⟩:=bind_some hm
 obtain⟨r',e2,hm⟩:=bind_some hm
 cases r' with
 |inr c=>cases hm
 |inl r'=>
  cases hm
  refine⟨F,ρ,qs,he,e1,fun vs F1 H1 x rl=> ?_⟩
  show spX X.K X.mg ps.length g (vs++[]) H1 Q E0
  rw [Al]
  exact⟨F1,qs,.inl r,x.fh,rl,hn _ _ e1,e2,fun v F2 H2 o=>k v F2 H2 (m9.trans x o)⟩
end
section
variable {X:Cx}
def Ap(X:Cx)(pins:List (AB×Obj))(b:AB):Prop:=X.s₀.heap.get? b=none/\b≠X.env.locals/\(∀x z,X.env.cells.lookup x=some z->z≠b)/\∀p∈X.pn++pins,p.1≠b
theorem apart{pins:List (AB×Obj)}{σ:L2.St}{H:Hp}{s:AC}{b:AB}(I:g8 X pins σ H s)(hx0:X.ex=[])(h:s.heap.get? b=none):X.s₀.heap.get? b=none/\b≠X.env.locals/\(∀x z,X.env.cells.lookup x=some z->z≠b)/\∀p∈X.pn++pins,p.1≠b:=by
 refine⟨?_,fun e=> ?_,fun x z hz e=> ?_,fun p hp e=> ?_⟩
 ·cases h0:X.s₀.heap.get? b with
  |none=>rfl
  |some o=>
   obtain⟨o',e⟩:=I.base.there b o h0 (fun z=>by rw [hx0] at z;cases z)
   rw [h] at e;cases e
 ·obtain⟨m,⟨o,_,_,ho,_⟩,_⟩:=I.loc
  rw [<-e,h] at ho;cases ho
 ·obtain⟨v,o,ho,_⟩:=I.cell x z hz
  rw [e,h] at ho;cases ho
 ·have:=(I.pin p hp).1
  rw [e,h] at this;cases this
end
section
variable {X:Cx}
end
def b4D(K:AE)(C:AB)(g:AB->Bool):Bool:=match K.lookup C with
 |some ⟨.type "type",_,.cls cd,sl⟩=>(match cd.mro,sl.toList with
  | .ref C'::bm,[_,_,_,_,some (.builtin n),_]=>C'==C && n=="ValueError.__new__" && !cd.hasDel && PySem.W.tailIn K a7Y bm && g cd.ns
  |_,_=>false)
 |_=>false
def a8Q(K:AE)(C:AB):Bool:=b4D K C fun _=>true
theorem a9W{K:AE}{h:Heap}{C:AB}{g:AB->Bool}(X:K.In h)(q:b4D K C g=true):∃tl N nm q bs hdct sn sub ab col dd k0 k1 k2 k3 k5,
 h.get? C=some (excClassObj nm q C N bs tl hdct sn sub ab col dd k0 k1 k2 k3 k5 "ValueError.__new__")/\OwnTail h a7Y tl/\g N=true:=by
 unfold b4D at q
 cases hk:K.lookup C with
 |none=>rw [hk] at q;cases q
 |some o=>
  rw [hk] at q
  split at q
  ·rename_i dd cd sl e
   cases e
   obtain⟨nm,bs,mro,ns,qn,hd,sn,sub,ab,col,del⟩:=cd
   obtain⟨l⟩:=sl
   split at q
   ·rename_i C' bm k0 k1 k2 k3 n k5 hm hs
    subst hm hs
    rw [Bool.and_eq_true,Bool.and_eq_true,Bool.and_eq_true,Bool.and_eq_true] at q
    obtain⟨⟨⟨⟨c1,c2⟩,c3⟩,c4⟩,c5⟩:=q
    have c3':del=false:=by simpa using c3
    cases(beq_iff_eq.mp c1)
    cases(beq_iff_eq.mp c2)
    clear c3
    subst c3'
    exact⟨bm,ns,nm,qn,bs,hd,sn,sub,ab,col,dd,k0,k1,k2,k3,k5,X _ _ hk,PySem.W.tail_of_in X c4,c5⟩
   ·cases q
  ·cases q
theorem b51{K:AE}{h:Heap}{C:AB}(X:K.In h)(q:a8Q K C=true):b9B C h:=by
 obtain⟨tl,N,nm,q,bs,hdct,sn,sub,ab,col,dd,k0,k1,k2,k3,k5,h1,h2,_⟩:=a9W X q
 exact⟨tl,N,nm,q,bs,hdct,sn,sub,ab,col,dd,k0,k1,k2,k3,k5,h1,h2⟩
section
variable {X:Cx}
end
section
variable {X:Cx}{pins:List (AB×Obj)}{σ:L2.St}{H:Hp}{s:AC}
theorem _root_.L2.g8.track{a:AB}{o:HO}(I:g8 X pins σ H s)(hn:H a=none)(ap:Ap X pins a)(new:t4 X.prog X.w (m8 H a o) s.heap a o):g8 X pins σ (m8 H a o) s where
 ok:=I.ok
 os:=I.os
 bare:=I.bare
 base:=⟨I.base.keep,I.base.slot,fun b ob e n hx=>by
  rw [g7 (fun z=>by rw [z,ap.1] at e;cases e)];exact I.base.free b ob e n hx,I.base.there,
  fun b xs e=>by rw [g7 (i6 (I.base.tups b xs e) hn)];exact I.base.tups b xs e,
  fun b ob u e=>by rw [g7 (i6 (I.base.frzs b ob u e) hn)];exact I.base.frzs b ob u e,
  fun b ps e=>by obtain⟨more,q⟩:=I.base.tbls b ps e;exact⟨more,by rw [g7 (i6 q hn)];exact q⟩⟩
 loc:=I.loc
 cell:=I.cell
 free:=by rw [g7 (Ne.symm ap.2.1)];exact I.free
 freeC:=fun x c e=>by rw [g7 (ap.2.2.1 x c e)];exact I.freeC x c e
 pin:=fun p hp=>by
  obtain⟨h1,h2,h3⟩:=I.pin p hp
  exact⟨h1,by rw [g7 (ap.2.2.2 p hp)];exact h2,h3⟩
 hok:=fun b u e=>by
  by_cases hb:b=a
  ·subst hb;rw [j0] at e;cases e;exact new
  ·rw [g7 hb] at e
   exact(I.hok b u e).stay (fun c v _ q=>q) (fun c q=>by rw [g7 (i6 q hn)];exact q) fun c xs q=>by rw [g7 (i6 q hn)];exact q
 len:=I.len
end
section
variable {X:Cx}
end
section
variable {X:Cx}
theorem b4C{E:L2.St->XK}{k k':Nat}{ps:List Str}{g:List PV->Option (e9 ⊕ XT)}{x:Str}{p pos pos2:Pos}{e:AG}{es:List AG}{m:MA}
 (d:a3r X.prog X.w X.K X.mg X.base x ps k g) (hr:x6 k' X.A) (hk:k<=k') (hg:Gl X x) (hx:a26 (CX1 X.prog X.w) X E) (hn:∀ρ qs,m ρ=some qs->qs.length=ps.length) (ha:EA X (e::es) m)
 (hs:swapsWith (.Call (.Name x p) (e::es) [] pos) none pos2.line X.env=pure false:=by rfl)
 (hdb:(x==("__debug__":Str))=false:=by decide) (he:AQ (e::es) X.env=(false,eval e X.env)::AQ es X.env:=by rfl) (hpl:(backTo pos (AQ es X.env)).any (·.1)=false:=by rfl):
 EX X E (.Expr (.Call (.Name x p) (e::es) [] pos) pos2) (a70 g m):=by
 obtain⟨f,fd,G,h1,h2,h3⟩:=d
 exact b6V G (hr.mono hk) hg h1 h2 h3 hx hn ha hs hdb he hpl
end
def a0H(K:AE)(C:AB)(x:Str):Bool:=match K.lookup C with
 |some ⟨_,_,.cls cd,_⟩=>cd.name==x
 |_=>false
structure XC(K:AE)(mg:Str->Option AA)(c:Str)(C:AB):Prop where
 mg:mg c=some (.ref C)
 named:a2m K c C
 exc:a8Q K C=true
theorem b6y{K:AE}{mg:Str->Option AA}{h:Heap}{c:Str}{C:AB}(X:K.In h)(G:h.Ns mainGlobals mg)(e:PySem.W.nsIn K mainGlobals c=some (some (.ref C)))(q:(a0H K C c && a8Q K C)=true):XC K mg c C:=by
 rw [Bool.and_eq_true] at q
 obtain⟨q1,q3⟩:=q
 refine⟨PySem.W.mg_of X G e,⟨e, ?_⟩,q3⟩
 unfold a0H at q1
 split at q1
 ·rename_i oc od cd sl hk
  exact⟨oc,od,cd,sl,hk,beq_iff_eq.mp q1⟩
 ·cases q1
section
variable {X:Cx}
end
section
variable {X:Cx}
end
section
variable {X:Cx}
end
section
variable {X:Cx}
end
section
variable {X:Cx}
theorem a9Y{E:L2.St->XK}{st:List Stmt}{m:MS}(h:ESs X.nox st m):EXs X E st (a4X m):=b6Y (PSs.nox h)
theorem b6W{E:L2.St->XK}{st:Stmt}{m:MS}(h:ES X.nox st m):EX X E st (a4X m):=b8O fun pins s σ H D I hw=>
 wpAny_mono (h pins s σ H D (I.wish _) hw) (fun fl s1 hq=>by
  cases fl with
  |next=>obtain⟨σ',H',J,q⟩:=hq;exact⟨σ',H',J.unwish,q⟩
  |brk=>obtain⟨σ',H',J,q⟩:=hq;exact⟨σ',H',J.unwish,q⟩
  |cont=>obtain⟨σ',H',J,q⟩:=hq;exact⟨σ',H',J.unwish,q⟩
  |ret u=>obtain⟨v,σ',H',J,r,q⟩:=hq;exact⟨v,σ',H',J.unwish,r,q⟩) fun _ _ z=>z.elim
end
abbrev exO(C:AB)(dd:Option AB)(t:AB):Obj:={cls:= .ref C,dict:=dd,data:= .fields #[.ref t,.none,.none,.none,.bool false,.none]}
def XQ(a C:AB)(dd:Option AB)(h:Heap):Prop:=∃t,h.get? a=some (exO C dd t)
def XD(d:AB)(fs:List (Str×V))(h:Heap):Prop:=∃mA,h.Ns1 d mA/\(∀f,a1E (fs.lookup f) (mA f))/\PySem.Within mA (fs.map (·.1))
theorem XQ.ok{P:AJ}{w:AH}{H:Hp}{h:Heap}{a C:AB}{dd:Option AB}(x:XQ a C dd h):t4 P w H h a (.ext (XQ a C dd)):=
 ⟨x,let ⟨t,e⟩:=x;⟨_,e⟩,fun h1 h2 ⟨t,e⟩ k=>⟨t,k _ e⟩⟩
theorem XD.ok{P:AJ}{w:AH}{H:Hp}{h:Heap}{d:AB}{fs:List (Str×V)}(x:XD d fs h):t4 P w H h d (.ext (XD d fs)):=
 ⟨x,let ⟨mA,⟨o,_,_,e,_⟩,_⟩:=x;⟨o,e⟩,fun h1 h2 ⟨mA,n,r⟩ k=>⟨mA,n.at k,r⟩⟩
structure a55(K:Frag)(C:AB):Prop where
 ov:a3M K C=true
 sa:findIn K (.ref C) "__setattr__"=some (some (.builtin "object.__setattr__"))
 ga:findIn K (.ref C) "__getattribute__"=some (some (.builtin "BaseException.__getattribute__"))
 gg:findIn K (.ref C) "__getattr__"=some none
 ex:a8Q K C=true
section
variable {X:Cx}{pins:List (AB×Obj)}{σ:L2.St}{H:Hp}{s:AC}{a C d:AB}
theorem b37{H:Hp}{a:AB}{o:HO}(h:H a=some o):m8 H a o=H:=by
 funext b
 unfold m8
 split
 ·rename_i e;rw [e,h]
 ·rfl
theorem b4k{A:AL}{E:AA->AC->Prop}{us:List AA}{dd:Option AB}{Q:AA->AC->Prop}(I:g8 X pins σ H s)(hl:us.length<=AN)(cx:a55 X.K C)(e:H a=some (.ext (XQ a C dd)))
 (h:∀s',g8 X pins σ H s'->Q .none s'):AF (model X.prog X.w) A (call (.builtin "ValueError.__init__") (.ref a::us)) Q E s:=by
 obtain⟨t,he⟩:=(I.hok a _ e).1
 obtain⟨tl,N,nm,q,bs,hdct,sn,sub,ab,col,ddc,k0,k1,k2,k3,k5,hC,T⟩:=b51 I.kIn cx.ex
 have F:=PySem.F.excBase_ValueError
 obtain⟨hh,g,dr,tk,os⟩:=s
 refine wpAny_call (codeAny_call_builtin F.init.plain F.initEntry (wpAny_check_init_subT F T hC he rfl ?_))
 wp_walk
 have h1:=AU (h:=hh) {cls:= .type "tuple",data:= .seq us.toArray} he
 have hget:((hh.push {cls:= .type "tuple",data:= .seq us.toArray}).update a (Obj.mapFields fun x=>x.setIfInBounds 0 (Value.ref hh.objs.size))).get? a=some (exO C dd hh.objs.size):=Heap.get?_update_self _ h1 rfl
 have I1:=I.write (x:=a) (e:=a) (o:= .ext (XQ a C dd)) (t':=tk) (h':=(hh.push {cls:= .type "tuple",data:= .seq us.toArray}).update a (Obj.mapFields fun x=>x.setIfInBounds 0 (Value.ref hh.objs.size))) (by rw [e];trivial) (.inl rfl) (fun b u hb z=>(Heap.get?_update_other _ _ (Ne.symm hb)).trans (AU _ z)) ⟨_,hget⟩ (XQ.ok ⟨_,hget⟩)
 rw [b37 e] at I1
 exact h _ I1
theorem a8v{H:Hp}{a b:AB}{o u:HO}(h:a≠b):m8 (m8 H a o) b u=m8 (m8 H b u) a o:=by
 funext c
 unfold m8
 by_cases h1:c=b
 ·rw [if_pos h1,if_neg (by rw [h1];exact Ne.symm h),if_pos h1]
 ·rw [if_neg h1]
  by_cases h2:c=a
  ·rw [if_pos h2,if_pos h2]
  ·rw [if_neg h2,if_neg h2,if_neg h1]
theorem a9v{A:AL}{E:AA->AC->Prop}{f:Str}{y:V}{u:AA}{Q:Unit->AC->Prop}(I:g8 X pins σ H s)(hx0:X.ex=[])(cx:a55 X.K C)(n:V6 X.K C f)(e:H a=some (.ext (XQ a C none)))(ry:j6 y u)
 (h:∀s' d,d≠a->H d=none->g8 X pins σ (m8 (m8 H d (.ext (XD d [(f,y)]))) a (.ext (XQ a C (some d)))) s'->Q () s'):AF (model X.prog X.w) A (setAttr (.ref a) f u) Q E s:=by
 obtain⟨t,he⟩:=(I.hok a _ e).1
 refine a9m I.kIn he cx.ov n cx.sa fun h' d tk hd hsz hx hns hk=> ?_
 have hda:d≠a:=fun z=>by rw [z,he] at hd;cases hd
 have hdn:H d=none:=I.hok.fresh hsz
 have xd:XD d [(f,y)] h':=⟨_,hns,fun g=>by
  show a1E (List.lookup g [(f,y)]) (if g=f then some u else none)
  rw [List.lookup_cons]
  by_cases q:g=f
  ·rw [if_pos q,q,beq_self_eq_true];exact ry
  ·rw [if_neg q]
   rw [show(g==f)=false from by simpa using q]
   exact True.intro,fun g hg=>by
  by_cases q:g=f
  ·rw [q];exact List.mem_singleton.mpr rfl
  ·exact absurd (if_neg q) hg⟩
 have I1:g8 X pins σ (m8 H a (.ext (XQ a C (some d)))) {s with heap:=h',toks:=tk}:=
  I.write (x:=a) (e:=a) (o:= .ext (XQ a C (some d))) (t':=tk) (by rw [e];trivial) (.inl rfl) hk ⟨_,hx⟩ (XQ.ok ⟨t,hx⟩)
 have ap:Ap X pins d:=apart I hx0 hd
 have I2:=I1.track (o:= .ext (XD d [(f,y)])) (by rw [g7 hda];exact hdn) ap (XD.ok xd)
 rw [a8v (Ne.symm hda)] at I2
 exact h _ d hda hdn I2
theorem b1S{A:AL}{E:AA->AC->Prop}{f:Str}{y:V}{u:AA}{fs:List (Str×V)}{Q:Unit->AC->Prop}(I:g8 X pins σ H s)(cx:a55 X.K C)(n:V6 X.K C f)(e:H a=some (.ext (XQ a C (some d))))(ed:H d=some (.ext (XD d fs)))(hl:fs.length<1000)(ry:j6 y u)
 (h:∀s',g8 X pins σ (m8 H d (.ext (XD d (a2d f y fs)))) s'->Q () s'):AF (model X.prog X.w) A (setAttr (.ref a) f u) Q E s:=by
 obtain⟨t,he⟩:=(I.hok a _ e).1
 obtain⟨mA,hns,r,wi⟩:=(I.hok d _ ed).1
 have hz:(fs.map (·.1)).length<=AN:=by rw [AW,sizeLine_eq];lia
 refine b1M I.kIn he rfl rfl ⟨_,rfl⟩ hns cx.ov n cx.sa wi hz fun h' tk hn2 sb=>h _ ?_
 have hd:∃o,h'.get? d=some o:=by obtain⟨o,_,_,e',_⟩:=hn2;exact⟨o,e'⟩
 refine I.write (x:=d) (e:=d) (by rw [ed];trivial) (.inl rfl) (fun b q hb z=>(sb.2 b hb).trans z) hd (XD.ok ⟨_,hn2,fun g=> ?_,fun g hg=> ?_⟩)
 ·show a1E ((a2d f y fs).lookup g) (if g=f then some u else mA g)
  rw [a2K]
  by_cases q:g=f
  ·rw [if_pos q,if_pos q];exact ry
  ·rw [if_neg q,if_neg q];exact r g
 ·by_cases q:g=f
  ·rw [q];exact(a1U f y fs).1
  ·refine(a1U f y fs).2 g (wi g fun z=>hg ?_)
   show(if g=f then some u else mA g)=none
   rw [if_neg q];exact z
end
def Df0(K:AE)(x:Str)(st:Stmt):Prop:=∃f fd,PySem.W.nsIn K mainGlobals x=some (some (.ref f))/\Fun K x x st f fd
def Df(K:AE)(mg:Str->Option AA)(x:Str)(st:Stmt):Prop:=∃f fd,Fun K x x st f fd/\mg x=some (.ref f)
theorem b57{K:AE}{x:Str}{st:Stmt}{f:AB}{oc:AA}{od an:Option AB}{osl:Array (Option AA)}{kV doc pm cdv ct:AA}(a:PySem.W.nsIn K mainGlobals x=some (some (.ref f)))
 (l:K.lookup f=some ⟨oc,od,.func (PySem.W.fnOf x x (C7 st) (p7 st) (d7 st) .none kV doc pm an cdv ct),osl⟩) (c:PySem.W.codeIn K cdv x=true) (k:PySem.W.keepIn K (.ref f)=true):Df0 K x st:=⟨_,_,a,b2D l c k⟩
theorem Df0.to{K:AE}{h:Heap}{mg:Str->Option AA}{x:Str}{st:Stmt}(d:Df0 K x st)(X:K.In h)(G:h.Ns mainGlobals mg):Df K mg x st:=by obtain⟨f,fd,a,F⟩:=d;exact⟨f,fd,F,PySem.W.mg_of X G a⟩
theorem mkS{N P:List Str}{sc:Scope}(h1:sc.kind= .function:=by rfl)(h2:sc.isCoroutine=false:=by rfl)(h3:sc.isGenerator=false:=by rfl)(h4:N.Nodup:=by decide+kernel)(h5:N.take P.length=P:=by rfl)
 (h6:∀x∈P,sc.names.lookup x=some .local\/sc.names.lookup x=some .cell:=by decide+kernel) (h7:∀y∈sc.names,y.2≠.free:=by decide+kernel):i5 N P sc:=⟨h1,h2,h3,h4,h5,h6,h7⟩
section
variable {P:AJ}{w:AH}{K:AE}{mg:Str->Option AA}{base:Heap}
theorem t0{x:Str}{st:Stmt}{N ps:List Str}{k:Nat}{m:MS}(D:Df K mg x st)(S:i5 N ps (d7 st))
 (hi:∀(kV doc pm:AA) (an:Option AB) (cdv ct:AA) (us:List AA),us.length=ps.length->bindArgs (PySem.W.fnOf x x (C7 st) (p7 st) (d7 st) .none kV doc pm an cdv ct) ⟨us,[]⟩=pure (ps.zip us))
 (hb:∀(f:AB) (cdv:AA) (A:AL) (outer:List Env) (s:AC) (H:Hp) (E:XK),x6 k (A.deeper (envOfC x (d7 st) s.heap.objs.size f cdv))->ESs (W3 CX0 P w K mg base N x (d7 st) f cdv A outer s H E).nox (p7 st) m):
 w4 P w K mg base x ps (k+1) (J6 (N.length - ps.length) m):=
 let ⟨f,fd,F,hm⟩:=D
 ⟨f,fd,b59 F S (hb f),hm,F.kp,F.binds hi⟩
theorem b4V{fa:AB}{st:Stmt}{x:Str}{k:Nat}{g:List PV->Option e9}(D:Df K mg "law" st)(hfa:mg "law"=some (.ref fa))
 (hi:∀(kV doc pm:AA) (an:Option AB) (cdv ct v:AA),bindArgs (PySem.W.fnOf "law" "law" (C7 st) (p7 st) (d7 st) .none kV doc pm an cdv ct) ⟨[v],[]⟩=pure [(x,v)])
 (main:∀ns:List Int,ns.length<=63->g [.list (ns.map .int)]=some (.val (.bool true)))
 (H:∀(base:Heap) (f:AB) (fd:FuncData),K.In base->Fun K "law" "law" st f fd->E4 P w K mg base CX0 k f fd [x] (spP K 1 g)):
 ∃fd:FuncData,(∀(s:AC) (v:AA),BindsTo s fd ⟨[v],[]⟩ [(x,v)])/\∀base:Heap,K.In base->base.Ns mainGlobals mg->E4 P w K mg base CX0 k fa fd [x] (a8n K):=by
 obtain⟨f,fd,F,hm⟩:=D
 have e:=hfa.symm.trans hm
 cases e
 refine⟨fd,fun s v=> ?_,fun base kb _=>(H base _ fd kb F).imp (b4W main)⟩
 obtain⟨oc,od,kV,doc,pm,an,cdv,ct,osl,rfl,lk,hcd⟩:=F.ex
 exact .of_eq (hi kV doc pm an cdv ct v)
end
theorem el1{C:List AA->Prop}(h:∀a,C [a])(us:List AA)(e:us.length=1):C us:=by
 obtain⟨a,rfl⟩:=List.length_eq_one_iff.mp e
 exact h a
theorem elS{n:Nat}{us:List AA}(e:us.length=n+1):∃a t,us=a::t/\t.length=n:=by
 cases us with
 |nil=>cases e
 |cons a t=>exact⟨a,t,rfl,Nat.succ.inj e⟩
theorem el2{C:List AA->Prop}(h:∀a b,C [a,b])(us:List AA)(e:us.length=2):C us:=by
 obtain⟨a,t,rfl,z⟩:=elS e
 exact el1 (C:=fun t=>C (a::t)) (h a) t z
theorem el3{C:List AA->Prop}(h:∀a b c,C [a,b,c])(us:List AA)(e:us.length=3):C us:=by
 obtain⟨a,t,rfl,z⟩:=elS e
 exact el2 (C:=fun t=>C (a::t)) (h a) t z
def b8z:List Str->List PV->List (PV×PV)
 |f::fs,q::qs=>(.str f,q)::b8z fs qs
 |_,_=>[]
section
variable {K:AE}{F:Hp}
theorem a8g:∀{fs:List Str} {qs:List PV} {vs:List V},i0 K F qs vs->a2Y K F (b8z fs qs) (fs.zip vs)
 |[],qs,vs,_=>rfl
 |f::fs,[],vs,h=>by cases h;rfl
 |f::fs,q::qs,vs,⟨v,t,e,r,rt⟩=>by subst e;exact⟨f,v,_,rfl,rfl,r,a8g rt⟩
end
theorem a8b{f:Str}{v:V}:∀{gs:List (Str×V)},f∉gs.map (·.1)->a2d f v gs=gs++[(f,v)]
 |[],_=>rfl
 |(g,x)::r,h=>by
  simp only [AR,Ab,not_or] at h
  show(if g=f then _ else _)=_
  rw [if_neg fun e=>h.1 e.symm,a8b h.2];rfl
section
variable {X:Cx}
end
section
variable {P:AJ}{w:AH}{K:AE}{mg:Str->Option AA}{base:Heap}
def Dm(K:AE)(x qual:Str)(st:Stmt)(f:AB):Prop:=PySem.W.isFn K (.ref f)=true/\∃fd,Fun K x qual st f fd
theorem b8I{x qual:Str}{st:Stmt}{f:AB}{oc:AA}{od an:Option AB}{osl:Array (Option AA)}{kV doc pm cdv ct:AA}
 (l:K.lookup f=some ⟨oc,od,.func (PySem.W.fnOf x qual (C7 st) (p7 st) (d7 st) .none kV doc pm an cdv ct),osl⟩) (c:PySem.W.codeIn K cdv qual=true) (k:PySem.W.keepIn K (.ref f)=true) (i:PySem.W.isFn K (.ref f)=true):Dm K x qual st f:=⟨i,_,b2D l c k⟩
end
section
variable {X:Cx}
end
def b8F(st:Stmt)(j:Nat):Stmt:=match st with
 | .ClassDef _ _ _ body _ _ _ _ _ _ _=>body.getD j st
 |_=>st
def tXS(K:Frag)(t:TA):TS:=fun D σ H=>t σ H fun vs H1=>∃a C dd ws,vs= .ref a::ws/\ws.length<=AN/\a55 K C/\H1 a=some (.ext (XQ a C dd))/\D.nx σ H1
def sX(K:Frag)(ta tv:TE)(f:Str):TS:=fun D σ H=>tv σ H fun y H1=>ta σ H1 fun x H2=>∃a C,x= .ref a/\a55 K C/\V6 K C f/\
 ((H2 a=some (.ext (XQ a C none))/\∀d,d≠a->H2 d=none->D.nx σ (m8 (m8 H2 d (.ext (XD d [(f,y)]))) a (.ext (XQ a C (some d)))))\/
  ∃d fs,H2 a=some (.ext (XQ a C (some d)))/\H2 d=some (.ext (XD d fs))/\fs.length<1000/\D.nx σ (m8 H2 d (.ext (XD d (a2d f y fs)))))
section
variable {X:Cx}
theorem b3I{CE:AB}{x:Str}{np apos cpos pos:Pos}{e:AG}{es:List AG}{t:TA}{pl:Sem Bool}(hg:Gl X x)(hm:X.mg x=some (.ref CE))(hr:readsIn X.K CE (.type "type")=true)
 (hf:findCls X.K (.ref CE) (.type "type") "__init__"=some (.val (.builtin "ValueError.__init__"))) (hs:specialIn X.K (.ref CE) "__getattribute__"=some (some (.builtin "type.__getattribute__"))) (ha:PA X (e::es) t)
 (hsw:swapsWith (.Call (.Attribute (.Name x np) "__init__" apos) (e::es) [] cpos) none pos.line X.env=pure false:=by rfl)
 (hdb:(x==("__debug__":Str))=false:=by decide) (he:AQ (e::es) X.env=(false,eval e X.env)::AQ es X.env:=by rfl) (hpl:(backTo cpos (AQ es X.env)).any (·.1)=false:=by rfl)
 (ht:eval (.Call (.Attribute (.Name x np) "__init__" apos) (e::es) [] cpos) X.env=(do
  let ov<-eval (.Name x np) X.env
  standAt apos.atName
  let (f,first)<-holding [ov] (getMethod ov "__init__" pl)
  callWith cpos f first (backTo cpos (AQ (e::es) X.env)) (backToKw cpos (keywordEach [] X.env))):=by rfl):
 PS X (.Expr (.Call (.Attribute (.Name x np) "__init__" apos) (e::es) [] cpos) pos) (tXS X.K t):=by
 have h1:PE X (.Call (.Attribute (.Name x np) "__init__" apos) (e::es) [] cpos) (fun σ H Q=>t σ H fun vs H1=>∃a C dd ws,vs= .ref a::ws/\ws.length<=AN/\a55 X.K C/\H1 a=some (.ext (XQ a C dd))/\Q .non H1):=by
  intro pins s σ H Q I h
  refine methodCall_KW (pl:=pl) (Z9 I hg hm ?_ hdb) ht
  refine method_cls I.kIn hs (cls_value I.kIn hr hf rfl ?_)
  refine PyProof.Rows.callWith_builtin1 (A6 (ha cpos pins _ σ H _ (I.tok _) h) fun us s1 ⟨vs,H1,I1,r1,a,C,dd,ws,ev,hl,cx,ea,q⟩=> ?_) he hpl
  subst ev
  cases r1 with
  |cons r1 r2=>
   cases r1
   exact b4k I1 (by rw [<-r2.length];exact hl) cx ea fun s' I'=>⟨.non,H1,I',rfl,q⟩
 exact a6V h1 hsw
theorem b5x{o value:AG}{f:Str}{ta tv:TE}{pos pos':Pos}(hx0:X.ex=[])(ha:PE X o ta)(hv:PE X value tv)(hs:swapsWith value (some (.Attribute o f pos')) pos.line X.env=pure false:=by rfl):PS X (.Assign [.Attribute o f pos'] value pos) (sX X.K ta tv f):=by
 intro pins s σ H D I h
 refine plainObj_wpAny_Assign_Attribute (A6 (hv pins s σ H _ I h) fun u s1 h0=>j8 h0 fun y H1 I1 ry q=>A6 (ha pins s1 σ H1 _ I1 q) fun ov s2 ⟨x,H2,I2,rx,a,C,ex,cx,n,q2⟩=> ?_) hs
 subst ex
 obtain rfl:ov=Value.ref a:=rx
 rcases q2 with⟨e,q2⟩|⟨d,fs,e,ed,hl,q2⟩
 ·exact a9v I2 hx0 cx n e ry fun s3 d h1 h2 I3=>⟨σ,_,I3,q2 d h1 h2⟩
 ·exact b1S I2 cx n e ed hl ry fun s3 I3=>⟨σ,_,I3,q2⟩
end
def tVs:Nat->Nat->TA
 |_,0=>b5O
 |i,n+1=>a8s (a2j i) (tVs (i+1) n)
theorem b0D{σ:L2.St}{H:Hp}:∀(n i:Nat) (ws:List V) (Q:List V->Hp->Prop),ws.length=n->(∀j w,ws[j]?=some w->σ[i+j]?=some (some w))->Q ws H->tVs i n σ H Q
 |0,_,ws,Q,h,_,q=>by cases ws with
  |nil=>exact q
  |cons _ _=>cases h
 |n+1,i,ws,Q,h,hs,q=>by
  cases ws with
  |nil=>cases h
  |cons w ws=>
   exact⟨w,hs 0 w rfl,b0D n (i+1) ws _ (Nat.succ.inj h) (fun j u hj=>by
    have:=hs (j+1) u (by simpa using hj)
    rwa [show i+(j+1)=i+1+j by lia] at this) q⟩
def tXl(K:Frag):Nat->List Str->TS
 |_,[]=>b6u
 |i,f::r=>b33 (sX K (a2j 0) (a2j i) f) (tXl K (i+1) r)
theorem b0E{K:Frag}{C:AB}(c:a55 K C){a d:AB}{D:Q3}{σ:L2.St}(h0:σ[0]?=some (some (.ref a))):∀(fs:List Str) (i:Nat) (gs:List (Str×V)) (ws:List V) (H:Hp),
 (∀f∈fs,V6 K C f)->fs.Nodup->(∀f∈fs,f∉gs.map (·.1))->gs.length+fs.length<=1000->ws.length=fs.length->(∀j w,ws[j]?=some w->σ[i+j]?=some (some w))->d≠a->H a=some (.ext (XQ a C (some d)))->H d=some (.ext (XD d gs))->
 D.nx σ (m8 H d (.ext (XD d (gs++fs.zip ws))))->tXl K i fs D σ H
 |[],i,gs,ws,H,_,_,_,_,_,_,_,_,hH,k=>by
  rw [List.zip_nil_left,Al,b37 hH] at k
  exact k
 |f::fs,i,gs,ws,H,hn,nd,hd,hl,hw,hs,hda,ha,hH,k=>by
  cases ws with
  |nil=>cases hw
  |cons w ws=>
   have hl':gs.length+(fs.length+1)<=1000:=hl
   refine⟨w,hs 0 w rfl,.ref a,h0,a,C,rfl,c,hn f Ad,.inr ⟨d,gs,ha,hH,by lia, ?_⟩⟩
   have hp:=a8b (v:=w) (hd f Ad)
   rw [hp]
   rw [List.nodup_cons] at nd
   refine b0E c h0 fs (i+1) (gs++[(f,w)]) ws _ (fun g hg=>hn g (Af _ hg)) nd.2 (fun g hg=> ?_) (by simp only [Ao,AT,Aj];lia) (Nat.succ.inj hw) (fun j u hj=> ?_) hda (by rw [g7 (Ne.symm hda)];exact ha) j0 ?_
   ·simp only [BG,AR,Ak,Ay,List.mem_singleton,not_or]
    exact⟨hd g (Af _ hg),fun e=>nd.1 (e▸hg)⟩
   ·have:=hs (j+1) u (by simpa using hj)
    rwa [show i+(j+1)=i+1+j by lia] at this
   ·rw [b0H,List.append_assoc]
    exact k
def b5L(C:AB)(fs:List Str):Sp:=fun vs H Q _=>∃a ws,vs= .ref a::ws/\ws.length=fs.length/\H a=some (.ext (XQ a C none))/\∀d,d≠a->H d=none->Q .non (m8 (m8 H d (.ext (XD d (fs.zip ws)))) a (.ext (XQ a C (some d))))
theorem b4F{P:AJ}{w:AH}{K:Frag}{mg:Str->Option AA}{base:Heap}{qual:Str}{st:Stmt}{f C:AB}{fd:FuncData}{ps:List Str}{f0:Str}{fs:List Str}{k:Nat}(F:Fun K "__init__" qual st f fd)(S:i5 ps ps (d7 st))(hl:ps.length=fs.length+2)
 (c:a55 K C) (na:∀f∈f0::fs,V6 K C f) (nd:(f0::fs).Nodup) (hs:fs.length<=900)
 (hb:∀(cdv:AA) (A:AL) (outer:List Env) (s:AC) (H:Hp) (E:XK),x6 k (A.deeper (envOfC qual (d7 st) s.heap.objs.size f cdv))->PSs (W3 CX0 P w K mg base ps qual (d7 st) f cdv A outer s H E).nox (p7 st) (b33 (tXS K (tVs 0 (fs.length+2))) (tXl K 1 (f0::fs)))):
 E4 P w K mg base CX0 (k+1) f fd ps (b5L C (f0::fs)):=by
 refine F.ok S (fun vs H Q E h=> ?_) (fun cdv A outer s H vs Q E hr h=> ?_)
 ·obtain⟨a,ws,rfl,h2,_⟩:=h
  rw [AT,h2,hl];rfl
 ·obtain⟨a,ws,rfl,h2,hH,q⟩:=h
  refine⟨_,hb cdv A outer s H E hr, ?_⟩
  have at_:∀j u,(V.ref a::ws)[j]?=some u->(R7 ps (V.ref a::ws))[0+j]?=some (some u):=fun j u hj=>by
   unfold L2.R7
   rw [Nat.zero_add,BC (by rw [AW];exact(Av.mp hj).1),Aw,hj]
   rfl
  have hw:ws.length=fs.length+1:=h2
  unfold b33 tXS
  refine b0D (σ:=R7 ps (V.ref a::ws)) (H:=H) (fs.length+2) 0 (V.ref a::ws) _ (by rw [AT,hw]) at_ ?_
  refine⟨a,C,none,ws,rfl,by rw [sizeLine_eq];lia,c,hH, ?_⟩
  cases ws with
  |nil=>cases hw
  |cons w1 ws=>
   rw [List.nodup_cons] at nd
   refine⟨w1,at_ 1 w1 rfl,.ref a,at_ 0 _ rfl,a,C,rfl,c,na f0 Ad,.inl ⟨hH,fun d h1 h3=> ?_⟩⟩
   refine b0E (d:=d) c (at_ 0 _ rfl) fs 2 [(f0,w1)] ws _ (fun g hg=>na g (Af _ hg)) nd.2 (fun g hg z=>nd.1 (by have e:g=f0:=List.mem_singleton.mp z;rw [<-e];exact hg)) (by simp only [AT,Aj];lia) (Nat.succ.inj hw) (fun j u hj=> ?_) h1 j0 (by rw [g7 h1,j0]) ?_
   ·have:=at_ (j+2) u (by simpa using hj)
    rwa [show 0+(j+2)=2+j by lia] at this
   ·rw [a8v (Ne.symm h1),b0H]
    exact q d h1 h3
def rem(H:Hp)(a:AB):Hp:=fun b=>if b=a then none else H b
theorem a8f{H:Hp}{a:AB}:rem H a a=none:=by unfold rem;rw [if_pos rfl]
theorem a0J{H:Hp}{a b:AB}(h:b≠a):rem H a b=H b:=by unfold rem;rw [if_neg h]
section
variable {X:Cx}{pins:List (AB×Obj)}{σ:L2.St}{H:Hp}{s:AC}
theorem _root_.L2.g8.untrack{a:AB}{φ:Heap->Prop}(I:g8 X pins σ H s)(e:H a=some (.ext φ)):g8 X pins σ (rem H a) s:=by
 have no:∀b u,H b=some u->(∀φ,u≠.ext φ)->b≠a:=fun b u q n z=>by
  rw [z,e] at q
  cases q
  exact n φ rfl
 have dn:∀b,H b=none->rem H a b=none:=fun b h=>by
  by_cases hb:b=a
  ·rw [hb,a8f]
  ·rw [a0J hb];exact h
 exact⟨I.ok,I.os,I.bare,⟨I.base.keep,I.base.slot,fun b ob q n hx=>dn b (I.base.free b ob q n hx),I.base.there,
  fun b xs q=>by have:=I.base.tups b xs q;rw [a0J (no b _ this fun _ z=>nomatch z)];exact this,
  fun b ob u q=>by have:=I.base.frzs b ob u q;rw [a0J (no b _ this fun _ z=>nomatch z)];exact this,
  fun b ps q=>by obtain⟨more,this⟩:=I.base.tbls b ps q;exact⟨more,by rw [a0J (no b _ this fun _ z=>nomatch z)];exact this⟩⟩,
  I.loc,I.cell,dn _ I.free,fun x c q=>dn _ (I.freeC x c q),fun p hp=>by
   obtain⟨h1,h2,h3⟩:=I.pin p hp
   exact⟨h1,dn _ h2,h3⟩,fun b u q=>by
   by_cases hb:b=a
   ·rw [hb,a8f] at q;cases q
   ·rw [a0J hb] at q
    exact(I.hok b u q).stay (fun c v _ z=>z) (fun c z=>by rw [a0J (no c _ z fun _ y=>nomatch y)];exact z) fun c xs z=>by rw [a0J (no c _ z fun _ y=>nomatch y)];exact z,I.len⟩
end
theorem a9a{K:Frag}{h:Heap}{N:AB}{mg:Str->Option AA}{n:Str}{v:AA}(X:K.In h)(G:h.Ns N mg)(e:nsIn K N n=some (some v)):mg n=some v:=by
 obtain⟨o,es,ep,ho,hd,_,hf⟩:=G
 unfold nsIn at e
 split at e
 ·rename_i c d es' n' sl q
  have:=X _ _ q
  rw [ho] at this
  cases this
  cases hd
  split at e
  ·rename_i en he
   cases e
   rw [<-hf]
   unfold nsFind findBy
   rw [<-Array.find?_toList,he]
   rfl
  ·split at e<;>cases e
 ·cases e
def a3N(K:Frag)(C f:AB):Bool:=b4D K C fun ns=>nsOkIn K ns && nsIn K ns "__init__"==some (some (.ref f))
theorem b52{K:Frag}{h:Heap}{C f:AB}(X:K.In h)(q:a3N K C f=true):∃tl N nm q bs hdct sn sub ab col dd k0 k1 k2 k3 k5,
 h.get? C=some (excClassObj nm q C N bs tl hdct sn sub ab col dd k0 k1 k2 k3 k5 "ValueError.__new__")/\h.Ns N (h.nsMap N)/\h.nsMap N "__init__"=some (.ref f)/\OwnTail h a7Y tl:=by
 obtain⟨tl,N,nm,q,bs,hdct,sn,sub,ab,col,dd,k0,k1,k2,k3,k5,h1,h2,h3⟩:=a9W X q
 rw [Bool.and_eq_true] at h3
 have h5:=Heap.Ns.of_isNs (isNs_of_in X h3.1)
 exact⟨tl,N,nm,q,bs,hdct,sn,sub,ab,col,dd,k0,k1,k2,k3,k5,h1,h5,a9a X h5 (beq_iff_eq.mp h3.2),h2⟩
theorem b61{K:Frag}{f:AB}(h:PySem.W.isFn K (.ref f)=true):∃o,K.lookup f=some o/\o.cls= .type "function":=by
 have h:(K.lookup f).map (·.cls)=some (.type "function"):=beq_iff_eq.mp h
 obtain⟨o,h1,h2⟩:=Option.map_eq_some_iff.mp h
 exact⟨o,h1,h2⟩
section
variable {X:Cx}{x:Str}{C:AB}{np cpos pos:Pos}{e₀:AG}{rest:List AG}{t:TA}{W:Option AB->Hp->Prop}
theorem b1H{k:Nat}{f:AB}{fd:FuncData}{ps:List Str}{f0:Str}{fs:List Str}(G:E4 X.prog X.w X.K X.mg X.base CX0 k f fd ps (b5L C (f0::fs)))(hr:x6 (k+1) X.A)(hb:Q1 X.K fd ps [])(hi:a3N X.K C f=true)(hfn:PySem.W.isFn X.K (.ref f)=true)
 (hc:X.calm=true) (hx0:X.ex=[]) (hg:Gl X x) (hm:X.mg x=some (.ref C)) (ha:PA X (e₀::rest) t)
 (hxe:∀(pins:List (AB×Obj)) (σ:L2.St) (H:Hp) (s:AC) (a:AB) (dd:Option AB),g8 X pins σ H s->Ex0 s.heap a C dd->X.s₀.heap.get? a=none->H a=none->W dd H->X.xe (.ref a) s)
 (he:AQ (e₀::rest) X.env=(false,eval e₀ X.env)::AQ rest X.env:=by rfl) (hplain:(backTo cpos (AQ rest X.env)).any (·.1)=false:=by rfl) (hdb:(x==("__debug__":Str))=false:=by decide):
 PS X (.Raise (some (.Call (.Name x np) (e₀::rest) [] cpos)) none pos) (fun _ σ H=>t σ H fun vs H1=>vs.length=fs.length+1/\vs.length<=AN/\∀d,H1 d=none->W (some d) (m8 H1 d (.xd ((f0::fs).zip vs)))):=by
 intro pins s σ H D I h
 obtain⟨tl,N,nm,q,bs,hdct,sn,sub,ab,col,dd,k0,k1,k2,k3,k5,hC,hN,hni,T⟩:=b52 I.ok.mod.kin hi
 obtain⟨oI,hoI,hfc⟩:=b61 hfn
 have FB:=F.excBase_ValueError
 refine a8d (C:=C) (nm:=nm) (q:=q) (N:=N) (bs:=bs) (bm:=tl) (hdct:=hdct) (sn:=sn) (sub:=sub) (ab:=ab) (col:=col) (dd:=dd) (k0:=k0) (k1:=k1) (k2:=k2) (k3:=k3) (k5:=k5)
  FB (T.hasType FB.hasBase) (I.ok.hd hc) (by rw [he];show(false||(backTo cpos (AQ rest X.env)).any (·.1))=false;rw [hplain];rfl) hni hfc (Z9 I hg hm ⟨rfl, ?_⟩ hdb)
 have hA:=ha cpos pins s σ H _ I h
 rw [he] at hA ⊢
 refine Calls.evalArgs_plain (A6 hA fun us s2 ⟨vs,H2,I2,r2,hlen,hl,q2⟩=>⟨rfl,by rw [<-r2.length];exact hl,I2.bk _ _ hC,hN.keeps I2.bk,T.keeps I2.bk,I2.kIn _ _ hoI,fun h' e hmk=> ?_⟩)
 obtain⟨tt,h1,_,_⟩:=hmk.there
 have hn:H2 e=none:=by
  cases h:H2 e with
  |none=>rfl
  |some o=>
   obtain⟨ob,z⟩:=a8E (I2.hok e o h)
   rw [hmk.new] at z;cases z
 have ap:Ap X pins e:=apart I2 hx0 hmk.new
 have I3:g8 X pins σ H2 {s2 with heap:=h'}:=I2.kept (t':=s2.toks) hmk.keeps
 have I4:=I3.track (o:= .ext (XQ e C none)) hn ap (XQ.ok ⟨tt,h1⟩)
 have r4:j3 (V.ref e::vs) (Value.ref e::us):= .cons rfl r2
 have sp:b5L C (f0::fs) (V.ref e::vs) (m8 H2 e (.ext (XQ e C none))) (fun v H3=>v= .non/\∃d,d≠e/\H2 d=none/\H3=m8 (m8 (m8 H2 e (.ext (XQ e C none))) d (.ext (XD d ((f0::fs).zip vs)))) e (.ext (XQ e C (some d)))) (fun _ _ _=>False):=
  ⟨e,vs,rfl,hlen,j0,fun d h1 h2=>⟨rfl,d,h1,by rw [g7 h1] at h2;exact h2,rfl⟩⟩
 have hps:(Value.ref e::us).length=ps.length:=by rw [<-r4.length];exact G.len _ _ _ _ sp
 have hb':=hb {s2 with heap:=h'} (Value.ref e::us) I4.kIn (by rw [Al];exact hps)
 rw [Al] at hb'
 refine wpAny_call (codeAny_mono (G.run _ X.stack _ _ ⟨Value.ref e::us,[]⟩ (Value.ref e::us) _ _ (fun _ _ _=>False) (hr.make C us []) (I4.env0.make C us []) hb' r4 sp) fun r s' hq'=> ?_)
 cases r with
 |error e=>exact b3y pins σ _ _ e s' I4 hq'
 |ok fl=>
  cases fl with
  |ret u=>
   obtain⟨v,H',I5,rv,ev,d,hde,hd2,eH⟩:=I4.after hq'
   subst ev
   subst eH
   have e5:m8 (m8 (m8 H2 e (.ext (XQ e C none))) d (.ext (XD d ((f0::fs).zip vs)))) e (.ext (XQ e C (some d))) d=some (.ext (XD d ((f0::fs).zip vs))):=by rw [g7 hde,j0]
   obtain⟨t2,h2⟩:=(I5.hok e _ j0).1
   obtain⟨mA,hns,rel,_⟩:=(I5.hok d _ e5).1
   have I6:=I5.write (x:=d) (e:=d) (o:= .xd ((f0::fs).zip vs)) (h':=s'.heap) (t':=s'.toks) (by rw [e5];trivial) (.inl rfl) (fun b u hb z=>z) (let ⟨o,_,_,z,_⟩:=hns;⟨o,z⟩) ⟨mA,hns,rel⟩
   have I7:=I6.untrack (a:=e) (φ:=XQ e C (some d)) (by rw [g7 (Ne.symm hde),j0])
   have eq:rem (m8 (m8 (m8 (m8 H2 e (.ext (XQ e C none))) d (.ext (XD d ((f0::fs).zip vs)))) e (.ext (XQ e C (some d)))) d (.xd ((f0::fs).zip vs))) e=m8 H2 d (.xd ((f0::fs).zip vs)):=by
    funext b
    unfold rem m8
    by_cases hb:b=e
    ·rw [if_pos hb,if_neg (by rw [hb];exact Ne.symm hde),hb,hn]
    ·rw [if_neg hb]
     by_cases hb2:b=d
     ·rw [if_pos hb2,if_pos hb2]
     ·rw [if_neg hb2,if_neg hb2,if_neg hb,if_neg hb2,if_neg hb]
   rw [eq] at I7
   refine⟨rv,I5.bk _ _ hC,⟨_,_,h2,rfl,rfl,rfl⟩, ?_⟩
   exact hxe pins σ _ s' e (some d) I7 ⟨_,_,h2,rfl,rfl,rfl,rfl⟩ ap.1 (by rw [g7 (Ne.symm hde)];exact hn) (q2 d hd2)
  |next=>exact False.elim hq'
  |brk=>exact False.elim hq'
  |cont=>exact False.elim hq'
end
def b4m(P:AJ)(w:AH)(K:Frag)(mg:Str->Option AA)(base:Heap)(x:Str)(fs:List Str)(k:Nat):Prop:=
 ∃C f fd ps f0 r,fs=f0::r/\fs.length<=900/\E4 P w K mg base CX0 k f fd ps (b5L C (f0::r))/\mg x=some (.ref C)/\Q1 K fd ps []/\a3N K C f=true/\PySem.W.isFn K (.ref f)=true
def b6j(x:Str)(fs:List Str)(m:MA):MX:=fun ρ=>(m ρ).bind fun qs=>some (.rz ⟨x,b8z fs qs⟩ ρ)
section
variable {X:Cx}
theorem b02{E1:XK}{k k':Nat}{fs:List Str}{x:Str}{np cpos pos:Pos}{e₀:AG}{rest:List AG}{m:MA}(hc:X.calm=true)(hx0:X.ex=[])(hg:Gl X x)(d:b4m X.prog X.w X.K X.mg X.base x fs k)(hr:x6 k' X.A)(hk:k+1<=k')(hn:∀ρ qs,m ρ=some qs->qs.length=fs.length)(ha:EA X (e₀::rest) m)
 (hxe:∀(pins:List (AB×Obj)) (σ:L2.St) (H:Hp) (s:AC) (a C:AB) (dd:Option AB),g8 X pins σ H s->Ex0 s.heap a C dd->X.s₀.heap.get? a=none->H a=none->E1 (.ref C) dd H->X.xe (.ref a) s)
 (he:AQ (e₀::rest) X.env=(false,eval e₀ X.env)::AQ rest X.env:=by rfl) (hplain:(backTo cpos (AQ rest X.env)).any (·.1)=false:=by rfl) (hdb:(x==("__debug__":Str))=false:=by decide):
 EX X (fun _=>E1) (.Raise (some (.Call (.Name x np) (e₀::rest) [] cpos)) none pos) (b6j x fs m):=by
 obtain⟨C,f,fd,ps,f0,r,rfl,hl,G,hm,hb,hi,hfn⟩:=d
 refine u7 (b1H (W:=fun dd H=>E1 (.ref C) dd H) G (hr.mono hk) hb hi hfn hc hx0 hg hm ha (fun pins σ H s a dd I x h0 hn w=>hxe pins σ H s a C dd I x h0 hn w) he hplain hdb) fun D σ H h0=>a63 h0 fun F0 H0 F ρ fx so e fin=> ?_
 obtain⟨qs,e1,e⟩:=bind_some e
 cases e
 obtain⟨C',h1,h2⟩:=fin
 have h1:X.mg x=some (.ref C'):=h1
 rw [hm] at h1
 cases h1
 refine⟨F,ρ,qs,so.e,e1,fun vs F1 H1 y rl=> ?_⟩
 have hq:=hn _ _ e1
 have hv:vs.length=r.length+1:=by rw [rl.length,hq];rfl
 have hl':r.length+1<=900:=hl
 refine⟨hv,by rw [hv,sizeLine_eq];lia,fun d hd=> ?_⟩
 have x3:N7 F1 H1 (m8 F1 d (.xd ((f0::r).zip vs))) (m8 H1 d (.xd ((f0::r).zip vs))):=N7.lay y.fh hd
 refine h2 σ (some d) _ _ (y.trans x3).f (so.ext (y.trans x3)) (.inr ⟨d,_,rfl,j0, ?_,a2Y.mono x3.f _ (a8g rl)⟩)
 cases qs with
 |nil=>cases hq
 |cons q qs=>intro z;cases z
end
section
variable {X:Cx}
end
structure KX(K:Frag)(x:Str)(C:AB):Prop where
 cls:a55 K C
 named:a2m K x C
def b7h(K:Frag)(C:AB):Bool:=a3M K C && findIn K (.ref C) "__setattr__"==some (some (.builtin "object.__setattr__"))&& findIn K (.ref C) "__getattribute__"==some (some (.builtin "BaseException.__getattribute__"))&& findIn K (.ref C) "__getattr__"==some none && a8Q K C
theorem b8W{K:Frag}{x:Str}{C:AB}(e:nsIn K mainGlobals x=some (some (.ref C)))(q:(a0H K C x && b7h K C)=true):KX K x C:=by
 rw [Bool.and_eq_true] at q
 obtain⟨q1,q2⟩:=q
 unfold b7h at q2
 simp only [Bool.and_eq_true,beq_iff_eq] at q2
 obtain⟨⟨⟨⟨h1,h2⟩,h3⟩,h4⟩,h5⟩:=q2
 refine⟨⟨h1,h2,h3,h4,h5⟩,e, ?_⟩
 unfold a0H at q1
 split at q1
 ·rename_i oc od cd sl hk
  exact⟨oc,od,cd,sl,hk,beq_iff_eq.mp q1⟩
 ·cases q1
section
variable {P:AJ}{w:AH}{K:Frag}{mg:Str->Option AA}{base:Heap}
theorem b2S{x qual:Str}{st:Stmt}{ps:List Str}{f0:Str}{fs:List Str}{k:Nat}{f C:AB}(D:Dm K "__init__" qual st f)(S:i5 ps ps (d7 st))(hl:ps.length=fs.length+2)(c:KX K x C)(hm:mg x=some (.ref C))(hi0:a3N K C f=true)(na:∀f∈f0::fs,V6 K C f)(nd:(f0::fs).Nodup)(hs:fs.length<=800)
 (hi:∀(kV doc pm:AA) (an:Option AB) (cdv ct:AA) (us:List AA),us.length=ps.length->bindArgs (PySem.W.fnOf "__init__" qual (C7 st) (p7 st) (d7 st) .none kV doc pm an cdv ct) ⟨us,[]⟩=pure (ps.zip us))
 (hb:∀(cdv:AA) (A:AL) (outer:List Env) (s:AC) (H:Hp) (E:XK),x6 k (A.deeper (envOfC qual (d7 st) s.heap.objs.size f cdv))->PSs (W3 CX0 P w K mg base ps qual (d7 st) f cdv A outer s H E).nox (p7 st) (b33 (tXS K (tVs 0 (fs.length+2))) (tXl K 1 (f0::fs)))):
 b4m P w K mg base x (f0::fs) (k+1):=
 let ⟨i,fd,F⟩:=D
 ⟨C,f,fd,ps,f0,fs,rfl,by rw [AT];lia,b4F F S hl c.cls na nd (by lia) hb,hm,F.binds hi,hi0,i⟩
end
theorem b6F{K:Frag}{C:AB}{fs:List Str}(h:fs.all (fun g=>findIn K (.ref C) g==some none)=true):∀g∈fs,V6 K C g:=fun g hg=>beq_iff_eq.mp (List.all_eq_true.mp h g hg)
section
variable {K:AE}{mg:Str->Option AA}{E:L2.St->XK}{F0 H0 F1:Hp}{body:MX}{tg:PV->b9->Option b9}{g:TG}{ps:List PV}{fl:FX}{D:Q3}{k:Nat}{p:PV}{x:V}{σ σ0:L2.St}{H:Hp}
end
section
variable {X:Cx}{E:L2.St->XK}
end
def byT(w:AH):Bool:=w.params.followText "set-order"
section
variable {prog:AJ}{w:AH}{A:AL}{E:AA->AC->Prop}{s:AC}
end
end PU
set_option maxHeartbeats 3200000
namespace PU
open PySem PySem.Spec PyProof.Rows L2 PySem.W
abbrev B4(w:AH):Obj:={cls:= .type "set",dict:=none,data:= .set #[] 0 (.fresh 0 0 (!byT w))}
section
variable {prog:AJ}{w:AH}{A:AL}{E:AA->AC->Prop}{s:AC}
theorem b81(a:AA){Q₁:AA->AC->Prop}(h:Q₁ (.ref s.heap.objs.size) {s with heap:=s.heap.push (B4 w)}):
 codeAny (model prog w) A (.call (.builtin "set.__new__") ⟨[.type "set",a],[]⟩) (wants Q₁ E) s:=by
 refine codeAny_of_tree ?_
 show AF _ A.in1 (do checkBuiltinCall "set.__new__" ⟨[.type "set",a],[]⟩;again (.builtin "set.__new__" ⟨[.type "set",a],[]⟩)) _ _ s
 refine AD (wpAny_of_eq (F.newCall_set_1 a) (AI ⟨plainId_quiet F.plain_set_new _,codeAny_builtin F.entry_set_new ?_⟩))
 rw [Around.under_plainId F.plain_set_new _]
 unfold Builtin.«set.__new__» Builtin.Frozenset.newClass
 have hsub:=sub_set_self
 obtain⟨hp,g,d,tk,os⟩:=s
 dsimp only
 wp_walk
 refine wpAny_askSetting (AI ?_)
 dsimp only
 simp only [newObj]
 refine AD (wpAny_alloc (AI ?_))
 exact AI h
end
end PU
set_option maxHeartbeats 1000000
namespace PU
open PySem PySem.Spec PyProof.Rows L2 PySem.W
theorem l0:Slot "set_iterator" "__next__" "set_iterator.__next__":=
 .of (owner:="set_iterator") (n:="__next__") (by rw [typeLookup_type,builtinLookup_eq_fast];kernel_rfl) (by decide+kernel) (by decide+kernel) (by decide+kernel)
  (by first|exact .inl (by decide+kernel)|exact .inr (by decide+kernel)) (by rw [isSubtype_type];kernel_rfl)
theorem a0v:Slot "set_iterator" "__iter__" "set_iterator.__iter__":=
 .of (owner:="set_iterator") (n:="__iter__") (by rw [typeLookup_type,builtinLookup_eq_fast];kernel_rfl) (by decide+kernel) (by decide+kernel) (by decide+kernel)
  (by first|exact .inl (by decide+kernel)|exact .inr (by decide+kernel)) (by rw [isSubtype_type];kernel_rfl)
theorem C8:entryFor table "set_iterator.__next__"=some Builtin.«set_iterator.__next__»:=entryFor_of_tree (by kernel_rfl)
theorem a3I:entryFor table "set_iterator.__iter__"=some Builtin.«dict_keyiterator.__iter__»:=entryFor_alias (id':="dict_keyiterator.__iter__") (by kernel_rfl) rfl (by decide+kernel) (by kernel_rfl)
theorem a6p:entryFor table "set.__iter__"=some Builtin.«frozenset.__iter__»:=entryFor_alias (id':="frozenset.__iter__") (by kernel_rfl) rfl (by decide+kernel) (by kernel_rfl)
theorem a5L:Manifest.owners.lookup (String.ofList ['r', 'o', 't', 'a', 'r', 'e', 't', 'i', '_', 't', 'e', 's'].reverse)=some Manifest.sig_set_iterator:=by kernel_rfl
theorem G5(a:AA):argsOk "set_iterator.__next__" ⟨[a],[]⟩:=by
 unfold argsOk;rw [signature?_of (id:="set_iterator.__next__") (n:=['_', '_', 't', 'x', 'e', 'n', '_', '_']) (o:=['r', 'o', 't', 'a', 'r', 'e', 't', 'i', '_', 't', 'e', 's']) (by kernel_rfl) a5L];kernel_rfl
theorem a4O(a:AA):argsOk "set_iterator.__iter__" ⟨[a],[]⟩:=by
 unfold argsOk;rw [signature?_of (id:="set_iterator.__iter__") (n:=['_', '_', 'r', 'e', 't', 'i', '_', '_']) (o:=['r', 'o', 't', 'a', 'r', 'e', 't', 'i', '_', 't', 'e', 's']) (by kernel_rfl) a5L];kernel_rfl
def G9(h:Heap)(it:AB)(first:AA)(i:Nat)(a:AB)(n ep:Nat):Prop:=∃o,h.get? it=some o/\o.cls= .type "set_iterator"/\o.data= .fields #[first,.int i 0,.ref a,.int n 0,.int ep 0]
theorem G9.typeIs{s:AC}{it:AB}{first:AA}{i:Nat}{a:AB}{n ep:Nat}(x:G9 s.heap it first i a n ep):s.TypeIs (.ref it) "set_iterator":=by obtain⟨o,ho,hc,_⟩:=x;exact⟨o,ho,hc⟩
theorem G9.at'{h h':Heap}{it:AB}{first:AA}{i:Nat}{a:AB}{n ep:Nat}(x:G9 h it first i a n ep)(e:∀o,h.get? it=some o->h'.get? it=some o):G9 h' it first i a n ep:=by obtain⟨o,ho,r⟩:=x;exact⟨o,e _ ho,r⟩
theorem a0z{α:Type}:∀{l:List α} {i:Nat} (h:i<l.length),(l[i]::l.eraseIdx i).Perm l
 |x::l,0,h=>List.Perm.refl _
 |x::l,i+1,h=>by
  have ih:=a0z (l:=l) (i:=i) (by simpa using h)
  show(l[i]'(by simpa using h)::x::l.eraseIdx i).Perm (x::l)
  exact(List.Perm.swap _ _ _).trans (ih.cons x)
theorem a5O{α:Type}(f:Nat->Nat):∀(n k:Nat) (left:List α) (out:Array α),left.length=n->(pickOrder.go f n k left out).toList.Perm (out.toList++left)
 |0,k,left,out,h=>by
  cases left with
  |nil=>rw [Al];exact List.Perm.refl _
  |cons a l=>cases h
 |n+1,k,left,out,h=>by
  unfold pickOrder.go
  have hlt:f k % left.length<left.length:=Nat.mod_lt _ (by lia)
  rw [Ar hlt]
  dsimp only
  refine(a5O f n (k+1) _ _ (by rw [List.length_eraseIdx];split<;>lia)).trans ?_
  rw [Array.toList_push,List.append_assoc]
  exact List.Perm.append_left _ (a0z hlt)
theorem N3{α:Type}(f:Nat->Nat)(xs:Array α):(pickOrder f xs).toList.Perm xs.toList:=by
 have:=a5O f xs.size 0 xs.toList #[] (by simp)
 simpa [pickOrder] using this
section
variable {prog:AJ}{w:AH}{A:AL}{E:AA->AC->Prop}{s:AC}{it a:AB}{i ep:Nat}{es:Array (Int×AA)}
theorem a68{src:Source}{n:Nat}{Q:Nat->AC->Prop}(hn:n≠0)(h:∀i,i<n->Q i {s with drawn:=s.drawn.bump src}):AF (model prog w) A (choose src n) Q E s:=
 fun _ _ _=>⟨hn,h _ (Nat.mod_lt _ (Nat.pos_of_ne_zero hn))⟩
theorem a5p{α:Type}:∀(n:Nat) (xs:List α) (s:AC) (Q:List α->AC->Prop),xs.length=n->(∀ys d,ys.Perm xs->Q ys {s with drawn:=d})->AF (model prog w) A (drawOrder n xs) Q E s
 |0,xs,s,Q,h,k=>by
  unfold drawOrder
  cases xs with
  |nil=>exact AI (k [] s.drawn (List.Perm.refl _))
  |cons a l=>cases h
 |n+1,[],s,Q,h,k=>by cases h
 |n+1,x::l,s,Q,h,k=>by
  unfold drawOrder
  refine AD (a68 (by simp) fun i hi=> ?_)
  rw [Ar hi]
  dsimp only
  refine AD (a5p n _ _ _ (by rw [List.length_eraseIdx];split<;>lia) fun ys d p=> ?_)
  refine AI ?_
  exact k _ d ((p.cons _).trans (a0z hi))
theorem a6d{Q:Bool->AC->Prop}(h:Q (byT w) s):AF (model prog w) A setsByText Q E s:=by
 unfold setsByText
 exact AD (wpAny_askSetting (AI h))
end
section
variable {prog:AJ}{w:AH}{A:AL}{E:AA->AC->Prop}{s:AC}{it a:AB}{i ep:Nat}{es:Array (Int×AA)}
theorem a4A{first:AA}{n:Nat}{Q:AA->AC->Prop}(hit:G9 s.heap it first i a n ep)(h:Q (.ref it) s):AF (model prog w) A (pyIter (.ref it)) Q E s:=by
 refine wpAny_pyIter_slot hit.typeIs a0v (wpAny_call_entry a0v hit.typeIs a3I ?_ (a4O _))
 show AF _ _ (ret (.ref it)) _ _ s
 exact AI ⟨_,rfl,"set_iterator",_,hit.typeIs,l0.lookup,h⟩
end
section
variable {prog:AJ}{w:AH}{A:AL}{E:AA->AC->Prop}{s:AC}{a:AB}{ep:Nat}{es:Array (Int×AA)}
def PlX(h:Heap)(a:AB)(es:Array (Int×AA))(ep:Nat)(pl:Array Nat):Prop:=∃o t,h.get? a=some o/\o.data= .set es ep t/\t.place=pl
theorem b6G(j:Nat):SetTable.below #[j] 0=0:=by simp [SetTable.below,SetTable.below.go]
theorem b6H(j:Nat):SetTable.below #[j] (j+1)=1:=by simp [SetTable.below,SetTable.below.go]
theorem a78{es:Array (Int×AA)}{ps:List Nat}(hp:ps.Perm (AS es.size)):(ps.map fun p:Nat=>(es[p]?.map (·.2)).getD .none).Perm (es.toList.map (·.2)):=by
 refine(hp.map _).trans ?_
 have:(AS es.size).map (fun p:Nat=>(es[p]?.map (·.2)).getD .none)=es.toList.map (·.2):=by
  apply List.ext_getElem
  ·simp
  ·intro i h1 h2
   simp only [AW,At] at h1
   simp [h1]
 rw [this]
end
section
variable {prog:AJ}{w:AH}{A:AL}{E:AA->AC->Prop}{s:AC}{a:AB}{ep:Nat}{es:Array (Int×AA)}
theorem b2P{r:AB}{Q:Bool->AC->Prop}(hT:s.TypeIs (.ref r) "set")(h:Q false s):AF (model prog w) A (Builtin.List.listLengthHint (.ref r)) Q E s:=by
 unfold Builtin.List.listLengthHint
 refine AD (wpAny_specialOf hT PySem.F.slot_set_len.lookup ?_)
 generalize hid:("set.__len__":String)=id0
 wp_delta
 rw [show splitId id0=some ("set","__len__") from by subst hid;decide+kernel]
 subst hid
 refine AD (wpAny_isInstance (T:="set") (b:=true) hT (by rw [isSubtype_type];kernel_rfl) ?_)
 refine wpAny_ite_split (fun hab=>absurd hab (by decide)) (fun _=> ?_)
 refine wpAny_ite_split (fun _=> ?_) (fun hab=>absurd (by decide+kernel) hab)
 refine AD (wpAny_typeOf hT ?_)
 exact AI h
end
section
variable {X:Cx}{pins:List (AB×Obj)}{σ:L2.St}{H:Hp}{s:AC}
theorem b4P(I:g8 X pins σ H s)(d:Drawn):g8 X pins σ H {s with drawn:=d}:=⟨I.ok,I.os,I.bare,I.base,I.loc,I.cell,I.free,I.freeC,I.pin,I.hok,I.len⟩
end
open PySem PySem.Spec PyProof.Rows L2
section
variable {X:Cx}
end
section
variable {K:AE}{F:Hp}{a:AB}{xs:List (List g9×V)}
end
section
variable {X:Cx}
end
section
variable {prog:AJ}{w:AH}{K:Type}[DecidableEq K]{kd:KeyKind prog w K}{A:AL}{E:AA->AC->Prop}{s:AC}
end
section
variable {X:Cx}{pins:List (AB×Obj)}{σ:L2.St}{H:Hp}{s:AC}{a:AB}{kvs:List (List g9×V)}{A:AL}{E:AA->AC->Prop}
end
section
variable {X:Cx}{o i:AG}{td ty:TE}
end
section
variable {X:Cx}
end
section
variable {X:Cx}
end
section
variable {prog:AJ}{w:AH}{K:Type}[DecidableEq K]{knd:KeyKind prog w K}{A:AL}{E:AA->AC->Prop}{s:AC}
end
section
variable {prog:AJ}{w:AH}{A:AL}{E:AA->AC->Prop}{s:AC}
end
end PU
namespace TS
open PySem PySem.Spec PyProof.Rows L2 PU
section
variable {prog:AJ}{w:AH}{A:AL}{E:AA->AC->Prop}{s:AC}
variable {κ:SortKind}{S:Heap->Keyed->Prop}{R:Heap->Keyed->Keyed->Bool}
end
end TS
namespace PU
open PySem PySem.Spec PyProof.Rows L2 PySem.W
section
variable {X:Cx}{pins:List (AB×Obj)}{σ:L2.St}{H H':Hp}{s:AC}{h':Heap}
end
section
variable {X:Cx}
end
section
variable {X:Cx}
end
open PySem PySem.Spec PyProof.Rows L2
section
variable {X:Cx}{pins:List (AB×Obj)}{σ:L2.St}{H:Hp}{s:AC}{a:AB}{kvs:List (g9×V)}{k:g9}{v:V}{u r:AA}{A:AL}{E:AA->AC->Prop}
end
section
variable {X:Cx}{pins:List (AB×Obj)}{σ:L2.St}{A:AL}{R:Result->AC->Prop}
end
section
variable {X:Cx}
end
section
variable {X:Cx}
end
section
variable {X:Cx}
end
section
variable {K:AE}{F:Hp}{a:AB}{xs:List (g9×V)}
end
section
variable {X:Cx}
end
section
variable {prog:AJ}{w:AH}{A:AL}{E:AA->AC->Prop}{s:AC}{z TI TO i1 i2:AB}{n1 n2 i:Nat}{P1 P2:Nat->AA->Prop}{St1 St2:Nat->Heap->Prop}{a b:AA}
end
section
variable {X:Cx}
end
section
variable {prog:AJ}{w:AH}{K:Type}[DecidableEq K]{knd:KeyKind prog w K}{A:AL}{E:AA->AC->Prop}{s:AC}
end
section
variable {X:Cx}
end
section
variable {X:Cx}{tg:AG}
end
end PU
set_option maxHeartbeats 3200000
namespace PU
open PySem PySem.Spec PyProof.Rows L2 PySem.W
section
variable {prog:AJ}{w:AH}{A:AL}{E:AA->AC->Prop}{s:AC}
theorem a9u{I:AB}{fp wr:List AB}{G:Array GenState->Array GenState->Prop}{n:Nat}{P P':Nat->AA->Prop}{St:Nat->AC->Prop}(W:WalksS prog w A I fp wr G n P St)(h:∀i v,P i v->P' i v):WalksS prog w A I fp wr G n P' St:=
 {W with item:=fun i s Q E hi st hQ=>W.item i s Q E hi st fun v s' p=>hQ v s' (h i v p)}
end
end PU
set_option maxHeartbeats 1000000
namespace PU
open PySem PySem.Spec PyProof.Rows L2
section
variable {X:Cx}
end
section
variable {X:Cx}
end
section
variable {X:Cx}
end
section
variable {X:Cx}
end
end PU
set_option maxHeartbeats 2000000
namespace PU
open PySem PySem.Spec PyProof.Rows L2 PySem.W
section
variable {prog:AJ}{w:AH}{A:AL}{E:AA->AC->Prop}{s:AC}
end
section
variable {X:Cx}
end
section
variable {X:Cx}
end
section
variable {P:AJ}{w:AH}{K:AE}{mg:Str->Option AA}{base:Heap}
theorem a9Z{x:Str}{st:Stmt}{N ps:List Str}{k:Nat}{m:MX}(D:Df K mg x st)(S:i5 N ps (d7 st))
 (hi:∀(kV doc pm:AA) (an:Option AB) (cdv ct:AA) (us:List AA),us.length=ps.length->bindArgs (PySem.W.fnOf x x (C7 st) (p7 st) (d7 st) .none kV doc pm an cdv ct) ⟨us,[]⟩=pure (ps.zip us))
 (hb:∀(f:AB) (cdv:AA) (A:AL) (outer:List Env) (s:AC) (H:Hp) (E:XK),x6 k (A.deeper (envOfC x (d7 st) s.heap.objs.size f cdv))->a26 (CX1 P w) (W3 (CX1 P w) P w K mg base N x (d7 st) f cdv A outer s H E) (fun _=>E)->EXs (W3 (CX1 P w) P w K mg base N x (d7 st) f cdv A outer s H E) (fun _=>E) (p7 st) m):
 a3r P w K mg base x ps (k+1) (b1J (N.length - ps.length) m):=
 let ⟨f,fd,F,hm⟩:=D
 ⟨f,fd,b60 F S fun cdv A outer s H E hr=>hb f cdv A outer s H E hr fun pins σ H s e s' I h=>a80 pins σ H s e s' I h,hm,F.kp,F.binds hi⟩
end
open PySem PySem.Spec PyProof.Rows L2
end PU
set_option maxHeartbeats 1000000
namespace PU
open PySem PySem.Spec PyProof.Rows L2
section
open PySem.AutoSeq1 (wpAny_loadPart')
open PySem.MeetsSeq3 (plain_eq_loop entry_eq_loop)
variable {A:AL}{s:AC}
end
open PySem PySem.Spec PyProof.Rows L2 PySem.W
section
variable {X:Cx}{pins:List (AB×Obj)}{σ:L2.St}{H:Hp}{s:AC}
end
end PU
namespace L2
open PySem PySem.Spec PyProof.Rows
end L2
namespace PU
open PySem PySem.Spec PyProof.Rows L2
open PySem.W (Looks InstAt looks_findIn looks_find looks_subIn looks_mroIn)
section
variable {prog:AJ}{w:AH}{A:AL}{E:AA->AC->Prop}{s:AC}{K:AE}{x D:AB}{ox:Obj}{od:Option Obj}
end
section
variable {X:Cx}
end
end PU
namespace ZT
open PySem PySem.Spec PyProof.Rows L2 PU
section
variable {prog:AJ}{w:AH}{A:AL}{E:AA->AC->Prop}{s:AC}{z TI TO i1 i2:AB}{n1 n2 i:Nat}{P1 P2:Nat->AA->Prop}{St1 St2:Nat->Heap->Prop}{a b:AA}{l1 l2:AB}
end
section
variable {prog:AJ}{w:AH}{A:AL}{E:AA->AC->Prop}{s:AC}
end
section
variable {X:Cx}
end
end ZT
namespace PU
open PySem PySem.Spec PyProof.Rows L2
section
variable {X:Cx}
end
structure FnV(K:AE)(mg:Str->Option AA)(x:Str)(f:AB):Prop where
 mg:mg x=some (.ref f)
 at_:a9w K x (.ref f)
 one:∀a,a9w K x (.ref a)->a=f
def b3p(K:AE)(x:Str)(f:AB):Bool:=K.all fun p=>match p.2.data with
 | .func fd=> !(fd.name==x)||p.1==f
 |_=>true
theorem b23{K:AE}{a:AB}{o:Obj}:K.lookup a=some o->(a,o)∈K:=by
 induction K with
 |nil=>intro h;cases h
 |cons p r ih=>
  intro h
  obtain⟨b,u⟩:=p
  rw [List.lookup_cons] at h
  split at h
  ·rename_i z
   cases h
   rw [beq_iff_eq.mp z]
   exact Ad
  ·exact Af _ (ih h)
theorem b62{K:AE}{mg:Str->Option AA}{x:Str}{f:AB}{oc:AA}{od:Option AB}{fd:FuncData}{sl:Array (Option AA)}(hm:mg x=some (.ref f))(l:K.lookup f=some ⟨oc,od,.func fd,sl⟩)(hn:fd.name=x)(q:b3p K x f=true):FnV K mg x f:=by
 refine⟨hm,⟨f,oc,od,fd,sl,rfl,l,hn⟩,fun a h=> ?_⟩
 obtain⟨b,oc',od',fd',sl',e,l',hn'⟩:=h
 cases e
 have:=List.all_eq_true.mp q _ (b23 l')
 simp only [hn',beq_self_eq_true,Bool.not_true,Bool.false_or] at this
 exact beq_iff_eq.mp this
abbrev y4(x:Str):PV:= .dict [(.str x,.none)]
section
variable {X:Cx}
theorem b8L{x:Str}{f:AB}{pos:Pos}(v:FnV X.K X.mg x f)(hg:Gl X x:=by rfl)(hd:(x==("__debug__":Str))=false:=by decide):EE X (.Name x pos) (mC (y4 x)):=
 W7 (v:= .ref f) (b0u hg v.mg rfl hd) fun H=>Or.inr (Or.inr (Or.inl ⟨x,_,rfl,.inl ⟨rfl,v.at_⟩⟩))
def a9x(X:Cx)(n k':Nat)(tab:List (Str×(List PV->Option e9))):Prop:=∀x g,tab.lookup x=some g->∃f fd ps k,E4 X.prog X.w X.K X.mg X.base CX0 k f fd ps (spP X.K ps.length g)/\k<=k'/\PySem.W.keepIn X.K (.ref f)=true/\Q1 X.K fd ps []/\ps.length=n/\∀a,a9w X.K x (.ref a)->a=f
theorem b03{n k':Nat}:a9x X n k' []:=fun _ _ h=>nomatch h
theorem a8S{n k k':Nat}{x:Str}{f:AB}{ps:List Str}{g:List PV->Option e9}{t:List (Str×(List PV->Option e9))}(d:w4 X.prog X.w X.K X.mg X.base x ps k g)(v:FnV X.K X.mg x f)(hk:k<=k')(hn:ps.length=n)(h:a9x X n k' t):a9x X n k' ((x,g)::t):=fun y g' q=>by
 rw [List.lookup_cons] at q
 split at q
 ·rename_i z
  cases q
  obtain⟨f',fd,G,h1,h2,h3⟩:=d
  have e:=v.mg.symm.trans h1
  cases e
  refine⟨f,fd,ps,k,G,hk,h2,h3,hn, ?_⟩
  rw [beq_iff_eq.mp z]
  exact v.one
 ·exact h y g' q
def a10(tab:List (Str×(List PV->Option e9)))(i:Nat)(m:MA):M:=fun ρ=>match ρ[i]? with
 |some (some (.val (.dict [(.str x,.none)])))=>(tab.lookup x).bind fun g=>(m ρ).bind g
 |_=>none
theorem b2m(i:Nat){n k':Nat}{y:Str}{p pos:Pos}{tab:List (Str×(List PV->Option e9))}{e:AG}{es:List AG}{m:MA}(T:a9x X n k' tab)(hr:x6 k' X.A)(hv:PE X (.Name y p) (a2j i))(hn:∀ρ qs,m ρ=some qs->qs.length=n)(ha:EA X (e::es) m)
 (he:AQ (e::es) X.env=(false,eval e X.env)::AQ es X.env:=by rfl) (hpl:(backTo pos (AQ es X.env)).any (·.1)=false:=by rfl):
 EE X (.Call (.Name y p) (e::es) [] pos) (a10 tab i m):=by
 intro pins s σ H Q I ⟨F,ρ,r,env,hm,k⟩
 unfold a10 at hm
 split at hm
 ·rename_i x hρ
  cases hl:tab.lookup x with
  |none=>rw [hl] at hm;cases hm
  |some g=>
   rw [hl,AK] at hm
   obtain⟨f,fd,ps,kk,G,hk,h2,h3,h4,one⟩:=T x g hl
   obtain⟨v,hσ,hrep⟩:=env.at_ i _ hρ
   have hvf:v= .ref f:=by
    rcases hrep with⟨_,_,_,_,kk1,w1,t1,_,zz,_⟩|⟨_,_,_,_,kk1,w1,t1,_,zz,_⟩|⟨z,t,e,hz⟩|⟨_,_,_,ho,hf⟩
    ·cases zz
    ·cases zz
    ·cases e
     rcases hz with⟨_,hz⟩|⟨e,_⟩
     ·obtain⟨a,_,_,_,_,ea,_⟩:=id hz
      subst ea
      rw [one a hz]
     ·cases e
    ·rcases(b5f ho hf).2.1 with e|e<;>cases e
   subst hvf
   refine wpAny_Call_Name_kw (A6 (hv pins s σ H (fun v H1=>v= .ref f/\H1=H) I ⟨.ref f,hσ,rfl,rfl⟩) fun u s1 h0=>a3b h0 fun v H1 I1 rv hv1 hH=> ?_)
   subst hv1 hH
   cases(show u=Value.ref f from rv)
   obtain⟨qs,e1,e2⟩:=bind_some hm
   refine PySem.W.callWith_K (h₀:=X.base) I1.ok.mod.kin h2 (A6 (ha pos pins s1 σ H1 (fun vs H2=>∃F2,N7 F H1 F2 H2/\i0 X.K F2 qs vs) I1 ⟨F,ρ,qs,env,e1,fun vs F2 H2 x rl=>⟨F2,x,rl⟩⟩) fun us s2 ⟨vs,H2,I2,rr,F2,x2,rl⟩=>⟨I2.kIn, ?_⟩) he hpl
   refine b3R (dvs:=[]) (ds:=[]) (sp:=spP X.K ps.length g) (E:=E0) G (hr.mono hk) h3 .nil b3y I2 rr ?_
   show spP X.K ps.length g (vs++[]) H2 Q E0
   rw [Al]
   exact⟨F2,qs,r,x2.fh,rl,(hn _ _ e1).trans h4.symm,e2,fun v F3 H3 o=>k v F3 H3 (m9.trans x2 o)⟩
 ·cases hm
end
def P5:List PV->Option (List Int)
 |[]=>some []
 | .int i::ps=>(P5 ps).map (i::·)
 |_::_=>none
theorem a2G:∀ns:List Int,P5 (ns.map .int)=some ns
 |[]=>rfl
 |n::ns=>by rw [AR,P5,a2G ns];rfl
theorem a7J{K:AE}{H:Hp}:∀{ps:List PV} {xs:List V} {its:List AA} {ns:List Int},i0 K H ps xs->j3 xs its->P5 ps=some ns->IntsAre its ns
 |[],_,_,_,h,r,e=>by
  cases h;cases e
  cases r
  exact .nil
 |p::ps,_,_,ns,⟨v,t,e0,a,rl⟩,r,e=>by
  subst e0
  cases p with
  |int i=>
   cases h:P5 ps with
   |none=>rw [P5,h] at e;cases e
   |some ms=>
    rw [P5,h] at e
    cases e
    cases r with
    |cons r1 r2=>
     cases a
     obtain⟨t,rfl⟩:=r1
     exact .cons _ _ (a7J rl r2 h)
  |_=>cases e
def b4O(x:e9):Option e9:=match x.rd with
 | .list ps=>(P5 ps).map fun ns=> .val (.int ns.sum)
 |_=>none
section
variable {X:Cx}
theorem b6M(hc:X.calm=true):A9 X (.builtin "sum") (rC1 X.K b4O):=by
 intro pins s σ H xs us Q I rv h
 obtain⟨F,x,rx,rz,rfl,s0,h1,h2,k⟩:=h
 obtain⟨u,rfl,ru⟩:=Z3 rv
 unfold b4O at h2
 split at h2
 ·rename_i ps ep
  cases e:P5 ps with
  |none=>rw [e] at h2;cases h2
  |some ns=>
   rw [e] at h2;cases h2
   have rr:=h1.rd s0
   rw [ep] at rr
   obtain⟨a,ys,rfl,hq,rl⟩:=rr
   cases ru
   obtain⟨its,r,pl,_⟩:=I.list hq
   have hi:=a7J rl r e
   obtain⟨zs,hx⟩:=hi.allInts.items
   have hl:s.heap.IsList a (intItems zs):=hx▸pl.isList
   refine sum_intListG (I.ok.hd hc) hl fun h' tk t' hk=> ?_
   have e1:ns=zs.toList.map (·.1):=by
    have z:=nums_intItems zs
    rw [<-hx] at z
    rw [<-z]
    exact hi.numsOf.symm
   have e2:preSum (numAt zs) zs.size=ns.sum:=by
    have z:=preSum_eq zs zs.size
    have y:(zs.toList.map (·.1)).take zs.size=zs.toList.map (·.1):=List.take_of_length_le (by simp)
    rw [z,y,<-e1]
   rw [e2]
   exact⟨.int _,H,I.kept (t':=tk) hk,⟨_,rfl⟩,k _ F H (m9.here s0 rfl)⟩
 ·cases h2
theorem b3r:OpM X (inplaceOp .Mult) (W8 a2X fun i j=> .int (i*j)):=a6S b4Q fun _ _ _=>rfl
end
def b3Z(n:Nat):g9->Bool
 | .inr s=>s.length==n
 |_=>false
def b32(n:Nat):AA->Bool
 | .str s _=>s.length==n
 |_=>false
def a3W(k:List g9):Bool:=((k.length==2||k.length==3)&& k.any Sum.isLeft)||((Nat.blt 0 k.length && Nat.blt k.length 6)&& k.all (b3Z k.length))
def a50(o:Obj):Bool:=match o with
 |⟨.type "tuple",_,.seq its _,_⟩=>((its.size==2||its.size==3)&& its.toList.any b2T)||((Nat.blt 0 its.size && Nat.blt its.size 6)&& its.toList.all (b32 its.size))
 |_=>false
def a4h(K:AE):Bool:=K.all fun p=> !a50 p.2
theorem a9B{n:Nat}:∀{k:List g9} {us:List AA},j3 (k.map kV) us->k.all (b3Z n)=true->us.all (b32 n)=true
 |[],_,r,_=>by
  rw [Ak] at r
  cases r;rfl
 |k::ks,_,r,h=>by
  rw [AR] at r
  cases r with
  |cons r1 r2=>
   rw [List.all_cons,Bool.and_eq_true] at h ⊢
   refine⟨?_,a9B r2 h.2⟩
   cases k with
   |inl i=>cases h.1
   |inr x=>obtain⟨t,rfl⟩:=(show ∃t,_=Value.str x t from r1);exact h.1
theorem b1v{K:AE}(nk:a4h K=true){a:AB}{o:Obj}{its:Array AA}{n:Nat}{k:List g9}(e:K.lookup a=some o)(hc:o.cls= .type "tuple")(hd:o.data= .seq its n)(r:j3 (k.map kV) its.toList)(hk:a3W k=true):False:=by
 obtain⟨b,hb⟩:=a81 e
 have h:=List.all_eq_true.mp nk _ hb
 obtain⟨cls,d,data,sl⟩:=o
 simp only at hc hd
 subst hc hd
 unfold a3W at hk
 have h2:=r.length
 have h2:k.length=its.size:=by simpa using h2
 have h3:a50 ⟨.type "tuple",d,.seq its n,sl⟩=true:=by
  show(((its.size==2||its.size==3)&& its.toList.any b2T)||((Nat.blt 0 its.size && Nat.blt its.size 6)&& its.toList.all (b32 its.size)))=true
  rw [Bool.or_eq_true,Bool.and_eq_true,Bool.and_eq_true] at hk ⊢
  rcases hk with hk|hk
  ·exact .inl ⟨by rw [<-h2];exact hk.1,a9C r hk.2⟩
  ·exact .inr ⟨by rw [<-h2];exact hk.1,a9B r (by rw [<-h2];exact hk.2)⟩
 rw [h3] at h
 cases h
def a2I(r:e9):Option (List g9):=match r with
 | .val (.tuple ps)=>(keysOf ps).bind fun k=>if a3W k=true then some k else none
 |_=>none
theorem a5x{K:AE}{F H:Hp}{r:e9}{k:List g9}{v:V}(nk:a4h K=true)(e:a2I r=some k)(h:K5 K F H v r):∃b,v= .ref b/\F b=some (.tup (k.map kV)):=by
 unfold a2I at e
 split at e
 ·obtain⟨k',e1,e⟩:=bind_some e
  split at e
  ·rename_i hk
   cases e
   obtain⟨b,xs,rfl,hq,rl⟩:=h
   have ex:=T2 e1 rl
   subst ex
   rcases hq with hq|⟨o,its,n,h1,h2,h3,h4,h5⟩
   ·exact⟨b,rfl,hq⟩
   ·exact(b1v nk h1 h2 h3 h5 hk).elim
  ·cases e
 ·cases e
section
variable {X:Cx}
def a1i(i:Nat)(mk mv:M):MS:=fun ρ=>((mv ρ).bind e9.toVal).bind fun p=>((mk ρ).bind a2I).bind (a7v i ρ p)
theorem a1K(i:Nat){x:Str}{p tp2 pos:Pos}{ek e:AG}{mk mv:M}(hu:X.A.units+64<cLine)(nk:a4h X.K=true)(hx:PE X (.Name x p) (a2j i))(hi:EE X ek mk)(he:EE X e mv)
 (hs:swapsWith e (some (.Subscript (.Name x p) ek tp2)) pos.line X.env=pure false:=by rfl):ES X (.Assign [.Subscript (.Name x p) ek tp2] e pos) (a1i i mk mv):=
 u7 (b5v (by lia) hx hi he hs) fun D σ H h0=>z6 h0 fun F0 H0 F ρ fl so e fin=>by
  obtain⟨q,e1,e⟩:=bind_some e
  obtain⟨r,e2,e3⟩:=bind_some e1
  obtain⟨k,e4,e⟩:=bind_some e
  obtain⟨rk,e4,e5⟩:=bind_some e4
  refine⟨F,ρ,r,so.e,e2,fun v F1 H1 o=> ?_⟩
  obtain⟨F2,o2⟩:=o.toVal e3
  have so2:=so.ext o2.x
  unfold a7v at e
  split at e
  ·rename_i kvs eo
   split at e
   ·rename_i hl
    cases e
    obtain⟨w,hw1,a,xs,rfl,fa,ha',rl⟩:=so2.e.at_ i _ eo
    refine⟨.ref a,hw1,F2,ρ,rk,so2.e,e4,fun y F3 H3 o3=> ?_⟩
    obtain⟨b,rfl,hb⟩:=a5x nk e5 o3.rep
    have ha3:=o3.x.h _ _ ha'
    have so3:=so2.ext o3.x
    refine⟨a,_,rfl,b1T.t (k:=k) ha3 (o3.x.fh _ _ hb) (by rw [rl.length];exact hl), ?_⟩
    exact fin σ _ _ (o2.x.f.trans o3.x.f) (so3.putD eo hw1 ((v8.mono o3.x.f _ rl).put (z7.mono o3.x.f _ o2.rep)))
   ·cases e
  ·cases e
def a7T(neg:Bool)(i:Nat)(mk:M):M:=fun ρ=>((mk ρ).bind a2I).bind (b01 neg i ρ)
theorem b2j{i:Nat}{mk:M}{neg:Bool}{σ:L2.St}{H:Hp}{Q:VK}(nk:a4h X.K=true)(h:tM X.K (a7T neg i mk) σ H Q):
 tM X.K mk σ H fun y H1=>a2j i σ H1 fun x H2=>∃a o,x= .ref a/\a4K H2 a y o/\Q (.bl (if neg then !o.isSome else o.isSome)) H2:=by
 obtain⟨F,ρ,r,en,e,k⟩:=h
 obtain⟨kk,e4,e⟩:=bind_some e
 obtain⟨rk,e4,e5⟩:=bind_some e4
 unfold b01 at e
 split at e
 ·rename_i kvs eo
  cases e
  refine⟨F,ρ,rk,en,e4,fun y F3 H3 o3=> ?_⟩
  obtain⟨b,rfl,hb⟩:=a5x nk e5 o3.rep
  obtain⟨w,hw1,a,xs,rfl,fa,ha',rl⟩:=(en.ext o3.x).at_ i _ eo
  refine⟨.ref a,hw1,a,V4 xs kk,rfl,a4K.t ha' (o3.x.fh _ _ hb), ?_⟩
  rw [rl.isSome]
  exact k _ _ _ (m9.val o3.x rfl)
 ·cases e
theorem a3L(i:Nat){x:Str}{p pos:Pos}{ek:AG}{mk:M}(hu:X.A.units+64<cLine)(nk:a4h X.K=true)(hx:PE X (.Name x p) (a2j i))(hi:EE X ek mk)(hm:behindInMarks .NotIn (.Name x p)=false):ET X (.Compare ek [.NotIn] [.Name x p] pos) (mtB (a7T true i mk)):=
 a6X (b7V (b1E (by lia) hi hx) hm) fun σ H Q h=>b9n (fun _ _ _ h=>b2j nk h) h
end
section
variable {X:Cx}
end
theorem X9(i:Nat)(mk mv:M)(ρ:b9):a1i i mk mv ρ=((mv ρ).bind e9.toVal).bind fun p=>((mk ρ).bind a2I).bind (a7v i ρ p):=Eq.trans rfl rfl
theorem a0a(neg:Bool)(i:Nat)(mk:M)(ρ:b9):a7T neg i mk ρ=((mk ρ).bind a2I).bind (b01 neg i ρ):=Eq.trans rfl rfl
theorem a3g(i j:Int):a2I (.val (.tuple [.int i,.int j]))=some [.inl i,.inl j]:=Eq.trans rfl rfl
section
variable {X:Cx}
variable {Φ:L2.St->Hp->Prop}{I:List Nat}
end
section
variable {X:Cx}
end
section
variable {X:Cx}
end
section
variable {X:Cx}{tg:AG}
end
section
variable {X:Cx}
end
open PySem PySem.Spec PyProof.Rows L2 PySem.W
section
variable {X:Cx}
end
section
variable {X:Cx}
end
section
variable {X:Cx}
end
section
variable {X:Cx}
end
section
variable {X:Cx}
end
section
variable {X:Cx}
end
section
variable {X:Cx}
end
section
variable {X:Cx}{tg:AG}
def iOr(K:AE)(tl:TE):TI:=fun σ H R=>tl σ H fun x H1=>(∃a xs,x= .ref a/\Q4 K H1 a xs/\R (Itl K a) H1)\/∃z,x= .str z/\R (Its z) H1
theorem b9f{l:AG}{tl:TE}(hl:PE X l tl):PI X tg l (iOr X.K tl):=by
 intro pins s σ H R I h
 refine A6 (hl pins s σ H _ I h) fun v s1 h0=>j8 h0 fun x H1 I1 r1 q1=> ?_
 have fin:∀(J:It) (st:Nat->Heap->Prop) (o:Obj),a8F X.prog X.w X.K tg J [s1.heap.objs.size] s1.heap.objs.size st->st 0 (s1.heap.push o)->R J H1->PIE X pins σ tg R (.ref s1.heap.objs.size) {s1 with heap:=s1.heap.push o}:=fun J st o T h0 q=>by
  refine⟨s1.heap.objs.size,[s1.heap.objs.size],st,_,H1,rfl,I1.kept (t':=s1.toks) fun b o e=>AU _ e,T,h0,fun b hb=> ?_,q⟩
  have e:b=s1.heap.objs.size:=by simpa using hb
  subst e
  exact I1.fpOk (AO _) (I1.hok.fresh (AO _))
 rcases q1 with⟨a,xs,rfl,hq,q⟩|⟨z,rfl,q⟩
 ·cases r1
  obtain⟨its,rv,p,hz⟩:=I1.list hq
  exact wpAny_pyIter_list p.isList (fin _ _ _ (a51 a _) ⟨_,Aq _ rfl,rfl,rfl⟩ q)
 ·obtain⟨t,rfl⟩:=r1
  cases ha:z.cps.all (· <128)
  ·exact wpAny_pyIter_wide ha (fin _ _ _ (a8u false _ z t) ⟨_,Aq _ rfl,rfl,rfl⟩ q)
  ·exact wpAny_pyIter_ascii ha (fin _ _ _ (a8u true _ z t) ⟨_,Aq _ rfl,rfl,rfl⟩ q)
def b1p(m:M):MI:=fun ρ=>(m ρ).bind fun r=>match r with
 | .val (.str z)=>some (z.cps.toList.map fun c=> .str ⟨#[c]⟩)
 | .val (.list ps)=>some ps
 |_=>none
theorem b6S{l:AG}{m:M}(h:EE X l m):EIF X tg l (b1p m):=⟨_,b9f h,fun F H σ ρ ps R en e k=>by
 obtain⟨r,e1,e2⟩:=bind_some e
 refine⟨F,ρ,r,en,e1,fun v F1 H1 o1=> ?_⟩
 split at e2
 ·rename_i z
  cases e2
  cases o1.rep
  refine .inr ⟨z,rfl,k F1 H1 _ o1.x ⟨fun i H2 s h=> ?_,fun i p H2 s h=> ?_,fun i p x H2 H3 s h y=> ?_⟩⟩
  ·have h:z.cps.size<=i:=by simpa using h
   exact h
  ·have:=(Av.mp h).1
   have h:i<z.cps.size:=by simpa using this
   exact h
  ·obtain⟨e,c,hc,rfl⟩:=y
   refine⟨e, ?_⟩
   rw [Aw,Array.getElem?_toList,hc] at h
   cases h
   rfl
 ·rename_i qs
  cases e2
  obtain⟨a,xs,rfl,hq,rl⟩:=o1.rep
  have hq:Q4 X.K F1 a xs:=hq
  have hlen:=rl.length
  refine .inl ⟨a,xs,rfl,t8 o1.x.fh hq,k F1 H1 _ o1.x ⟨fun i H2 s h=>⟨xs,t8 s hq,by lia⟩,fun i p H2 s h=> ?_,fun i p x H2 H3 s h y=> ?_⟩⟩
  ·obtain⟨v,ev,_⟩:=rl.get h
   exact⟨xs,v,t8 s hq,ev⟩
  ·obtain⟨v,ev,rv⟩:=rl.get h
   obtain⟨e,y⟩:=y
   have:=y xs (t8 s hq)
   rw [ev] at this;cases this
   exact⟨e,rv⟩
 ·cases e2⟩
end
def a2B(x y:e9):Option e9:=match x,y with
 | .val (.tuple []),.val (.tuple qs)=>some (.val (.tuple qs))
 |x,y=>K9 x y
theorem b3q{X:Cx}:OpM X (binaryOp .Add) a2B:=by
 intro pins s σ H x y v u Q I rx ry h
 obtain⟨F,ra,rb,rz,s0,h1,h2,h3,k⟩:=h
 unfold a2B at h3
 split at h3
 ·rename_i qs
  cases h3
  obtain⟨a,xs,rfl,hq,r⟩:=id h1
  obtain⟨b,ys,rfl,hq',r'⟩:=id h2
  cases rx
  cases ry
  obtain⟨its,r1,p1,_⟩:=I.tuple (o9 s0 hq.sq)
  obtain⟨its2,r2,p2,_⟩:=I.tuple (o9 s0 hq'.sq)
  have e:its=[]:=r1.nil_iff.mpr (List.length_eq_zero_iff.mp (by rw [r.length];rfl))
  obtain⟨⟨cls,dd,data,sl⟩,ho,hc,n,hd⟩:=id p1
  obtain⟨⟨cls2,dd2,data2,sl2⟩,ho2,hc2,n2,hd2⟩:=id p2
  simp only at hc hd hc2 hd2
  subst hc hd hc2 hd2
  refine wpAny_binaryOp_concat (T:="tuple") ⟨_,ho,rfl⟩ ⟨_,ho2,rfl⟩ noFill_tuple_add seq_tuple_add ?_
  exact call_meets PySem.F.slot_tuple_add ⟨_,ho,rfl⟩ PySem.F.entry_tuple_add (PySem.F.args_tuple_add_2 _ _) (tuple_addW0 a b its.toArray its2.toArray n n2 dd dd2 sl sl2 (by simp [e])) ⟨ho,ho2,.ref b,H,I,rfl,k _ F H (m9.here s0 h2)⟩
 ·exact A3 pins s σ H x y v u Q I rx ry ⟨F,_,_,rz,s0,h1,h2,h3,k⟩
def itF(m:Nat):Nat->Nat->Nat
 |0,i=>i
 |k+1,i=>itF m k ((i*5+1) %(m+1))
theorem a3e(m:Nat):∀a b i,itF m (a+b) i=itF m b (itF m a i)
 |0,b,i=>by rw [Nat.zero_add];rfl
 |a+1,b,i=>by rw [Nat.succ_add];exact a3e m a b _
def itL(m:Nat):Nat->Nat->List Nat
 |0,_=>[]
 |k+1,i=>i::itL m k ((i*5+1) %(m+1))
theorem a6I{m T:Nat}:∀{k i},T∈itL m k i->∃a,a<k/\itF m a i=T
 |0,_,h=>by cases h
 |k+1,i,h=>by
  rcases Ab.mp h with rfl|h
  ·exact⟨0,Nat.succ_pos _,rfl⟩
  ·obtain⟨a,ha,e⟩:=a6I h
   exact⟨a+1,by lia,e⟩
def M3(m:Nat):Prop:=m=7\/m=31\/m=127
theorem b0d{m T:Nat}(hm:M3 m)(hT:T<=m):T∈itL m (m+1) 0:=by
 have h:∀m∈[7,31,127],((AS (m+1)).all fun T=>(itL m (m+1) 0).contains T)=true:=by decide+kernel
 have:=List.all_eq_true.mp (h m (by rcases hm with rfl|rfl|rfl<;>simp)) T (List.mem_range.mpr (by lia))
 simpa using this
theorem b2U{m:Nat}(hm:M3 m):itF m (m+1) 0=0:=by rcases hm with rfl|rfl|rfl<;>decide+kernel
theorem b1b{m i T:Nat}(hm:M3 m)(hi:i<=m)(hT:T<=m):∃k,k<=m/\itF m k i=T:=by
 obtain⟨a,ha,rfl⟩:=a6I (b0d hm hi)
 obtain⟨b,hb,rfl⟩:=a6I (b0d hm hT)
 by_cases h:a<=b
 ·refine⟨b - a,by lia, ?_⟩
  rw [<-a3e,show a+(b - a)=b by lia]
 ·refine⟨b+(m+1) - a,by lia, ?_⟩
  rw [<-a3e,show a+(b+(m+1) - a)=(m+1)+b by lia,a3e,b2U hm]
def lpF(m:Nat):Nat->Nat×Nat->Nat×Nat
 |0,p=>p
 |k+1,p=>lpF m k (SetTable.leap m p.1 p.2)
theorem b0h(m:Nat):∀a b p,lpF m (a+b) p=lpF m b (lpF m a p)
 |0,b,i=>by rw [Nat.zero_add];rfl
 |a+1,b,i=>by rw [Nat.succ_add];exact b0h m a b _
theorem b6h(m:Nat):∀k p,(lpF m k p).2=p.2 / 32 ^ k
 |0,p=>by simp [lpF]
 |k+1,p=>by
  rw [show lpF m (k+1) p=lpF m k (SetTable.leap m p.1 p.2) from rfl,b6h m k]
  show p.2 / 32 / 32 ^ k=_
  rw [Nat.div_div_eq_div_mul,Nat.pow_succ,Nat.mul_comm]
theorem b24(m:Nat):∀k p,p.1<=m->(lpF m k p).1<=m
 |0,p,h=>h
 |k+1,p,h=>b24 m k _ (Nat.le_of_lt_succ (Nat.mod_lt _ (Nat.succ_pos _)))
theorem b6g(m:Nat):∀k i,lpF m k (i,0)=(itF m k i,0)
 |0,i=>rfl
 |k+1,i=>by
  show lpF m k (SetTable.leap m i 0)=(itF m k ((i*5+1) %(m+1)),0)
  rw [show SetTable.leap m i 0=((i*5+1) %(m+1),0) from rfl]
  exact b6g m k _
theorem a5C{m i q T:Nat}(hm:M3 m)(hi:i<=m)(hq:q<2 ^ 64)(hT:T<=m):∃k,k<=m+13/\(lpF m k (i,q)).1=T:=by
 have e:lpF m 13 (i,q)=((lpF m 13 (i,q)).1,0):=by
  have:=b6h m 13 (i,q)
  rw [Nat.div_eq_of_lt (by lia)] at this
  rw [<-this]
 obtain⟨k,hk,h⟩:=b1b hm (b24 m 13 (i,q) hi) hT
 refine⟨13+k,by lia, ?_⟩
 rw [b0h,e,b6g]
 exact h
theorem b3g:∀{L l:List Nat},L.Nodup->(∀x∈L,x∈l)->L.length<=l.length
 |[],_,_,_=>Nat.zero_le _
 |x::L,l,h,k=>by
  have h':=List.nodup_cons.mp h
  have hx:=k x Ad
  have:=b3g (L:=L) (l:=l.erase x) h'.2 fun y hy=>(List.mem_erase_of_ne (a:=y) (b:=x) fun e=>h'.1 (by subst e;exact hy)).mpr (k y (Af _ hy))
  rw [List.length_erase_of_mem hx] at this
  have:=List.length_pos_of_mem hx
  rw [AT]
  lia
theorem b4H{m:Nat}{l:List Nat}(h:l.length<=m):∃T,T<=m/\T∉l:=by
 refine Classical.byContradiction fun hn=> ?_
 have hs:∀T∈AS (m+1),T∈l:=fun T hT=>Classical.byContradiction fun h=>hn ⟨T,Nat.le_of_lt_succ (List.mem_range.mp hT),h⟩
 have:=b3g (L:=AS (m+1)) (l:=l) List.nodup_range hs
 rw [At] at this
 lia
def adv(t:SetTable):Nat->SetTable.Probe->SetTable.Probe
 |0,p=>p
 |k+1,p=>adv t k (t.advance p)
theorem a6a(t:SetTable):∀a b p,adv t (a+b) p=adv t b (adv t a p)
 |0,b,i=>by rw [Nat.zero_add];rfl
 |a+1,b,i=>by rw [Nat.succ_add];exact a6a t a b _
theorem b0O(t:SetTable)(p:SetTable.Probe):(t.advance p).dummy=p.dummy:=by
 unfold SetTable.advance
 split<;>rfl
def prS(t:SetTable)(p:Nat×Nat):SetTable.Probe:={j:=p.1,more:=SetTable.runEnd t.mask p.1 - p.1,i:=p.1,perturb:=p.2,dummy:=none}
theorem a9A(t:SetTable):∀(m:Nat) (p:SetTable.Probe),p.more=m->adv t m p={p with j:=p.j+m,more:=0}
 |0,p,h=>by obtain⟨j,more,i,q,d⟩:=p;cases h;rfl
 |m+1,p,h=>by
  obtain⟨j,more,i,q,d⟩:=p
  cases h
  show adv t m (t.advance ⟨j,m+1,i,q,d⟩)=_
  rw [show t.advance ⟨j,m+1,i,q,d⟩=⟨j+1,m,i,q,d⟩ from rfl,a9A t m _ rfl]
  simp only [SetTable.Probe.mk.injEq,and_true,true_and]
  lia
theorem b14(t:SetTable)(p:Nat×Nat):∃k,k<=10/\adv t k (prS t p)=prS t (SetTable.leap t.mask p.1 p.2):=by
 refine⟨(prS t p).more+1, ?_, ?_⟩
 ·show SetTable.runEnd t.mask p.1 - p.1+1<=10
  unfold SetTable.runEnd
  split<;>lia
 ·rw [a6a,a9A t _ _ rfl]
  rfl
theorem a5b(t:SetTable):∀(n:Nat) (p:Nat×Nat),∃k,k<=10*n/\adv t k (prS t p)=prS t (lpF t.mask n p)
 |0,p=>⟨0,AO _,rfl⟩
 |n+1,p=>by
  obtain⟨k1,h1,e1⟩:=b14 t p
  obtain⟨k2,h2,e2⟩:=a5b t n (SetTable.leap t.mask p.1 p.2)
  refine⟨k1+k2,by lia, ?_⟩
  rw [a6a,e1,e2]
  rfl
theorem a9H(h:Int):SetTable.bits h<2 ^ 64:=by
 unfold SetTable.bits
 lia
theorem b1O{t:SetTable}(hd:t.dummies= #[]){j:Nat}(h:j∉t.place.toList):t.slot j= .empty:=by
 unfold SetTable.slot
 dsimp only
 rw [if_neg ?_,if_neg ?_]
 ·rw [hd]
  simp [SetTable.has,SetTable.below,SetTable.below.go]
 ·intro e
  have e:=eq_of_beq e
  rw [<-Array.getElem?_toList] at e
  exact h (BB e)
theorem b1P{t:SetTable}{j i:Nat}(h:t.slot j= .live i):i<t.place.size:=by
 unfold SetTable.slot at h
 dsimp only at h
 split at h
 ·rename_i e
  cases h
  have e:=eq_of_beq e
  exact(Array.getElem?_eq_some_iff.mp e).1
 ·split at h<;>cases h
theorem a62{t:SetTable}(hd:t.dummies= #[])(j:Nat):t.slot j≠.dummy:=by
 unfold SetTable.slot
 dsimp only
 split
 ·intro h;cases h
 ·rw [hd]
  simp [SetTable.has,SetTable.below,SetTable.below.go]
def Nr(t:SetTable)(p:SetTable.Probe)(k:Nat):Prop:=t.slot (adv t k p).j= .empty
theorem a9r{t:SetTable}(hm:M3 t.mask)(hd:t.dummies= #[])(hp:t.place.size<=t.mask)(h:Int):∃k,k<10*SetTable.turns t.mask/\Nr t (t.probeStart h) k:=by
 obtain⟨T,hT,hn⟩:=b4H (l:=t.place.toList) (m:=t.mask) (by rw [Array.length_toList];exact hp)
 obtain⟨n,h1,e1⟩:=a5C (i:=SetTable.bits h %(t.mask+1)) (q:=SetTable.bits h) hm (Nat.le_of_lt_succ (Nat.mod_lt _ (Nat.succ_pos _))) (a9H h) hT
 obtain⟨k,h2,e2⟩:=a5b t n (SetTable.bits h %(t.mask+1),SetTable.bits h)
 refine⟨k,by unfold SetTable.turns;lia, ?_⟩
 unfold Nr
 rw [show t.probeStart h=prS t (SetTable.bits h %(t.mask+1),SetTable.bits h) from rfl,e2]
 show t.slot (lpF t.mask n (SetTable.bits h %(t.mask+1),SetTable.bits h)).1= .empty
 rw [e1]
 exact b1O hd hn
theorem a79{t:SetTable}(hd:t.dummies= #[])(ha:Nat->Int)(h:Int):∀(f k:Nat) (p:SetTable.Probe),p.dummy=none->k<f->Nr t p k->
 (∃j,SetTable.probe.go t ha h f p=some (.empty j none))\/∃j i k' p',SetTable.probe.go t ha h f p=some (.candidate j i p')/\t.slot j= .live i/\ha i=h/\p'.dummy=none/\k'<k/\Nr t p' k'
 |0,k,p,_,hk,_=>by lia
 |f+1,k,p,hpd,hk,hn=>by
  unfold SetTable.probe.go
  cases hs:t.slot p.j with
  |empty=>exact .inl ⟨p.j,by dsimp only;rw [hpd]⟩
  |dummy=>exact absurd hs (a62 hd _)
  |live i=>
   dsimp only
   cases k with
   |zero=>exact absurd (hs.symm.trans hn) (fun e=>by cases e)
   |succ k=>
    have hn':Nr t (t.advance p) k:=hn
    have hpd':(t.advance p).dummy=none:=(b0O t p).trans hpd
    by_cases e:(ha i==h)=true
    ·rw [if_pos e]
     exact .inr ⟨p.j,i,k,t.advance p,rfl,hs,eq_of_beq e,hpd',Nat.lt_succ_self _,hn'⟩
    ·rw [if_neg e]
     rcases a79 hd ha h f k (t.advance p) hpd' (by lia) hn' with q|⟨j,i',k',p',q1,q2,q3,q4,q5,q6⟩
     ·exact .inl q
     ·exact .inr ⟨j,i',k',p',q1,q2,q3,q4,by lia,q6⟩
theorem a92{m:Nat}(ow:Array (Option Nat)):∀(f n:Nat) (p:Nat×Nat),n<f->(ow.getD (lpF m n p).1 (some 0)).isNone=true->∃j,SetTable.layClean.free m ow f p.1 p.2=some j/\(ow.getD j (some 0)).isNone=true
 |0,n,p,h,_=>by lia
 |f+1,n,p,h,hn=>by
  unfold SetTable.layClean.free
  cases hf:(AS (SetTable.runEnd m p.1+1 - p.1)).find? fun k=>(ow.getD (p.1+k) (some 0)).isNone with
  |some k=>exact⟨p.1+k,rfl,List.find?_some (p:=fun k=>(ow.getD (p.1+k) (some 0)).isNone) hf⟩
  |none=>
   cases n with
   |zero=>
    have:=List.find?_eq_none.mp hf 0 (List.mem_range.mpr (by unfold SetTable.runEnd;split<;>lia))
    exact absurd hn this
   |succ n=>exact a92 ow f n (SetTable.leap m p.1 p.2) (by lia) hn
theorem b5d{ow:Array (Option Nat)}{j:Nat}(h:(ow.getD j (some 0)).isNone=true):ow.toList[j]?=some none:=by
 rw [Array.getElem?_toList]
 unfold Array.getD at h
 split at h
 ·rename_i hj
  rw [getElem?_pos ow j hj]
  simpa using h
 ·cases h
theorem a8j:∀{l:List (Option Nat)} {j k:Nat},l[j]?=some none->((l.set j (some k)).filterMap id).Perm (k::l.filterMap id)
 |[],j,k,h=>by cases h
 |a::l,0,k,h=>by
  cases h
  rw [AY]
  exact List.Perm.refl _
 |a::l,j+1,k,h=>by
  rw [AZ]
  have ih:=a8j (k:=k) (show l[j]?=some none from h)
  cases a with
  |none=>exact ih
  |some b=>exact(ih.cons b).trans (List.Perm.swap k b _)
theorem b5e{ow:Array (Option Nat)}{m:Nat}(hz:ow.size=m+1)(hl:(ow.toList.filterMap id).length<=m):∃T,T<=m/\(ow.getD T (some 0)).isNone=true:=by
 refine Classical.byContradiction fun hn=> ?_
 have:∀x∈ow.toList,x.isSome=true:=fun x hx=>by
  obtain⟨j,hj,rfl⟩:=List.getElem_of_mem hx
  have hj':j<ow.size:=by simpa using hj
  cases e:ow.toList[j] with
  |some _=>rfl
  |none=>
   refine absurd ⟨j,by lia, ?_⟩ hn
   have e':ow[j]=none:=by simpa using e
   unfold Array.getD
   rw [dif_pos hj']
   show(ow[j]).isNone=true
   rw [e'];rfl
 have hlen:∀l:List (Option Nat),(∀x∈l,x.isSome=true)->(l.filterMap id).length=l.length:=by
  intro l
  induction l with
  |nil=>intro _;rfl
  |cons a l ih=>
   intro h
   cases a with
   |none=>exact absurd (h _ Ad) (by decide)
   |some b=>
    show((l.filterMap id).length+1)=l.length+1
    rw [ih fun x hx=>h x (Af _ hx)]
 have:=hlen _ this
 have e:=Array.length_toList (xs:=ow)
 lia
abbrev lcF(m:Nat)(acc:Option (Array (Option Nat)×Nat))(h:Int):Option (Array (Option Nat)×Nat):=do
 let (owner,k)<-acc
 let j<-SetTable.layClean.free m owner (SetTable.turns m) (SetTable.bits h %(m+1)) (SetTable.bits h)
 pure (owner.setIfInBounds j (some k),k+1)
theorem a3A{m:Nat}(hm:M3 m):∀(hs:List Int) (ow:Array (Option Nat)) (k:Nat),ow.size=m+1->(ow.toList.filterMap id).Perm (AS k)->k+hs.length<=m->
 ∃ow':Array (Option Nat),hs.foldl (lcF m) (some (ow,k))=some (ow',k+hs.length)/\ow'.size=m+1/\(ow'.toList.filterMap id).Perm (AS (k+hs.length))
 |[],ow,k,hz,hp,_=>⟨ow,rfl,hz,hp⟩
 |h::hs,ow,k,hz,hp,hk=>by
  rw [AT] at hk
  have hl:(ow.toList.filterMap id).length=k:=by rw [hp.length_eq,At]
  obtain⟨T,hT,hn⟩:=b5e hz (by lia)
  obtain⟨n,h1,e1⟩:=a5C (i:=SetTable.bits h %(m+1)) (q:=SetTable.bits h) hm (Nat.le_of_lt_succ (Nat.mod_lt _ (Nat.succ_pos _))) (a9H h) hT
  obtain⟨j,e2,e3⟩:=a92 ow (SetTable.turns m) n (SetTable.bits h %(m+1),SetTable.bits h) (by unfold SetTable.turns;lia) (by rw [e1];exact hn)
  have e4:=b5d e3
  have hp2:((ow.setIfInBounds j (some k)).toList.filterMap id).Perm (AS (k+1)):=by
   rw [Array.toList_setIfInBounds]
   refine(a8j e4).trans ?_
   rw [List.range_succ]
   exact(hp.cons k).trans (List.perm_append_singleton k _).symm
  obtain⟨ow',q1,q2,q3⟩:=a3A hm hs (ow.setIfInBounds j (some k)) (k+1) (by rw [Array.size_setIfInBounds];exact hz) hp2 (by lia)
  refine⟨ow', ?_,q2,by rw [AT,show k+(hs.length+1)=k+1+hs.length by lia];exact q3⟩
  rw [List.foldl_cons,AT,show k+(hs.length+1)=k+1+hs.length by lia,<-q1]
  congr 1
  show(SetTable.layClean.free m ow (SetTable.turns m) (SetTable.bits h %(m+1)) (SetTable.bits h)).bind _=_
  rw [e2]
  rfl
theorem b19{m:Nat}(hm:M3 m){hs:Array Int}(hl:hs.size<=m):∃ow:Array (Option Nat),SetTable.layClean m hs=some ow/\ow.size=m+1/\(ow.toList.filterMap id).Perm (AS hs.size):=by
 have h0:((Array.replicate (m+1) (none:Option Nat)).toList.filterMap id)=[]:=by
  rw [Array.toList_replicate,List.filterMap_replicate]
  rfl
 obtain⟨ow,e,h1,h2⟩:=a3A hm hs.toList (Array.replicate (m+1) none) 0 (by rw [Array.size_replicate]) (by rw [h0];exact List.Perm.refl _) (by rw [Array.length_toList];lia)
 rw [Nat.zero_add,Array.length_toList] at h2 e
 refine⟨ow, ?_,h1,h2⟩
 unfold SetTable.layClean
 rw [<-Array.foldl_toList]
 show(hs.toList.foldl (lcF m) (some (Array.replicate (m+1) none,0))).map (·.1)=_
 rw [e]
 rfl
theorem b4U{m finger moves:Nat}{led plain:Bool}(hm:M3 m){hs:Array Int}(hl:hs.size<=m):∃(t:SetTable) (ord:Array Nat),SetTable.laid m finger moves led plain hs=some (t,ord)/\t.mask=m/\t.dummies= #[]/\t.led=led/\t.plain=plain/\t.place.size=hs.size/\ord.toList.Perm (AS hs.size):=by
 obtain⟨ow,e,h1,h2⟩:=b19 hm hl
 have hord:((AS (m+1)).filterMap fun j=>(ow.getD j none).map (j,·)).map (·.2)=ow.toList.filterMap id:=by
  rw [List.map_filterMap]
  have:ow.toList=(AS (m+1)).map fun j=>ow.getD j none:=by
   apply List.ext_getElem
   ·simp [h1]
   ·intro i i1 i2
    have:i<ow.size:=by simpa using i1
    simp [Array.getD,this]
  rw [this,List.filterMap_map]
  refine congrArg (fun f=>List.filterMap f _) (funext fun j=> ?_)
  show Option.map _ (Option.map _ _)=ow.getD j none
  cases ow.getD j none<;>rfl
 have hlen:((AS (m+1)).filterMap fun j=>(ow.getD j none).map (j,·)).length=hs.size:=by
  have:=h2.length_eq
  rw [At,<-hord,AW] at this
  exact this
 refine⟨_,_,by unfold SetTable.laid;rw [e];rfl,rfl,rfl,rfl,rfl, ?_, ?_⟩
 ·show((_:List (Nat×Nat)).map (·.1)).toArray.size=_
  rw [Am,AW]
  exact hlen
 ·show((_:List (Nat×Nat)).map (·.2)).toArray.toList.Perm _
  rw [hord]
  exact h2
theorem a9g{es:Array (Int×AA)}{ord:Array Nat}(hp:ord.toList.Perm (AS es.size)):(ord.filterMap (es[·]?)).toList.Perm es.toList:=by
 rw [Array.toList_filterMap]
 refine(hp.filterMap _).trans ?_
 have:(AS es.size).filterMap (fun j=>es[j]?)=es.toList:=by
  rw [show(fun j=>es[j]?)=fun j=>es.toList[j]? from funext fun j=>Array.getElem?_toList.symm]
  rw [show es.size=es.toList.length from(Array.length_toList).symm]
  generalize es.toList=l
  induction l with
  |nil=>rfl
  |cons a l ih=>
   rw [AT,List.range_succ_eq_map,List.filterMap_cons]
   show a::_=_
   rw [List.filterMap_map]
   congr 1
 rw [this]
structure b0M(t:SetTable)(n:Nat):Prop where
 pl:t.place.size=n
 dm:t.dummies= #[]
 mk3:(t.mask=7/\n<=4)\/(t.mask=31/\n<=18)\/(t.mask=127/\n<=63)
theorem b0M.m3{t:SetTable}{n:Nat}(h:b0M t n):M3 t.mask:=by rcases h.mk3 with h|h|h<;>unfold M3<;>lia
theorem b0M.le{t:SetTable}{n:Nat}(h:b0M t n):n<=t.mask:=by rcases h.mk3 with h|h|h<;>lia
def C4(prog:AJ)(w:AH)(h:Heap)(a:AB)(es:Array (Int×AA))(ep:Nat):Prop:=
 ∃o t,h.get? a=some o/\o.ExactSet/\o.data= .set es ep t/\b0M t es.size/\es.size<scanBound/\t.fits es.size=true/\t.led= !byT w/\(es.size≠0->t.plain=false)
theorem C4.at'{prog:AJ}{w:AH}{h h':Heap}{a:AB}{es:Array (Int×AA)}{ep:Nat}(x:C4 prog w h a es ep)(e:∀o,h.get? a=some o->h'.get? a=some o):C4 prog w h' a es ep:=
 let ⟨o,t,ho,r⟩:=x;⟨o,t,e _ ho,r⟩
section
variable {prog:AJ}{w:AH}{A:AL}{E:AA->AC->Prop}{s:AC}
def a59(prog:AJ)(w:AH)(h:Heap)(ks:List g9)(v:AA):Prop:=∃r,v= .ref r/\IsTupleKey (l8 prog w) h ks r/\∃z rest,ks= .inr z::rest
theorem a5j{ks:List g9}{a:AB}{Q:Bool->AC->Prop}(hk:IsTupleKey (l8 prog w) s.heap ks a)(h:Q false s):AF (model prog w) A (ofAClassStatement 8 (.ref a)) Q E s:=by
 have hT:=hk.typeIs
 obtain⟨o,items,n,ho,_,hd,hi⟩:=hk
 unfold ofAClassStatement
 refine AD (wpAny_typeOf hT ?_)
 dsimp only
 refine AD (AI ?_)
 simp only [Bool.not_true,Ac,if_false]
 refine AD (wpAny_seqItems ho hd ?_)
 dsimp only
 refine AD ?_
 rw [<-Array.forIn_toList]
 refine wpAny_forIn_list _ (fun rest r s'=>r.1=none/\s'=s/\∀v∈rest,carriedByValue v=true) _ ?_ ?_ _ _ ⟨rfl,rfl,hi.byValue⟩
 ·rintro v rest r s' ⟨hr,rfl,hall⟩
  have hv:=hall v Ad
  have e:ofAClassStatement 7 v=pure false:=by
   cases v with
   |ref a=>simp [carriedByValue] at hv
   |_=>unfold ofAClassStatement;rfl
  rw [e]
  refine AD (AI ?_)
  simp only [Ac,if_false]
  exact AI ⟨rfl,rfl,fun u hu'=>hall u (Af _ hu')⟩
 ·rintro⟨r1,r2⟩ s' ⟨hr,rfl,_⟩
  simp only at hr
  subst hr
  exact AI h
theorem a9k{ks:List g9}{x:AA}{stored:List AA}{Q:Bool->AC->Prop}(hx:a59 prog w s.heap ks x)(hs:∀y∈stored,∃k',a59 prog w s.heap k' y)(h:Q false s):AF (model prog w) A (searchCouldBeSeen x stored) Q E s:=by
 obtain⟨r,rfl,hk,_⟩:=hx
 unfold searchCouldBeSeen
 refine AD ?_
 refine wpAny_forIn_list _ (fun rest r s'=>r.1=none/\s'=s/\∀y∈rest,∃k',a59 prog w s.heap k' y) _ ?_ ?_ _ _ ⟨rfl,rfl,hs⟩
 ·rintro y rest u s' ⟨hr,rfl,hall⟩
  obtain⟨k',r',rfl,hk',_⟩:=hall y Ad
  have hrest:∀y∈rest,∃k',a59 prog w s'.heap k' y:=fun y hy=>hall y (Af _ hy)
  dsimp only
  by_cases e:((r==r')||(carriedByValue (.ref r)&& carriedByValue (.ref r')))=true
  ·rw [if_pos e]
   exact AI ⟨rfl,rfl,hrest⟩
  ·rw [if_neg e]
   refine AD (wpAny_eqIsQuiet_tuple hk ?_)
   simp only [Bool.not_true,Ac,if_false]
   refine AD (wpAny_eqIsQuiet_tuple hk' ?_)
   simp only [Bool.not_true,Ac,if_false]
   refine AD (a5j hk ?_)
   simp only [Ac,if_false]
   refine AD (a5j hk' ?_)
   simp only [Ac,if_false]
   exact AI ⟨rfl,rfl,hrest⟩
 ·rintro⟨r1,r2⟩ s' ⟨hr,rfl,_⟩
  simp only at hr
  subst hr
  exact AI h
theorem b3X{a:AB}{o:Obj}{es:Array (Int×AA)}{ep:Nat}{t:SetTable}{ks:List g9}{x:AA}{hh:Int}{Q:SetFound->AC->Prop}
 (hu:A.units<cLine) (ho:s.heap.get? a=some o) (hd:o.data= .set es ep t) (hT:b0M t es.size) (hf:t.fits es.size=true)
 (hx:a59 prog w s.heap ks x) (hE:∀e∈es.toList,∃k',a59 prog w s.heap k' e.2/\k'≠ks) (hQ:∀j,Q (.free j false) s):
 ∀(k:Nat) (fuel:Nat) (stand:Option SetTable.Probe),k<fuel->k<10*SetTable.turns t.mask->(stand.getD (t.probeStart hh)).dummy=none->Nr t (stand.getD (t.probeStart hh)) k->AF (model prog w) A (setSearchFrom a x hh true fuel stand) Q E s:=by
 intro k
 induction k using Nat.strongRecOn with
 |_ k ih=>
  intro fuel stand hk hk2 hpd hn
  cases fuel with
  |zero=>lia
  |succ fuel=>
   unfold setSearchFrom
   refine AD (wpAny_setState_of ho hd hf ?_)
   dsimp only
   have hg:t.gaveWay=false:=by
    unfold SetTable.gaveWay
    rcases hT.m3 with h|h|h<;>rw [h]<;>rfl
   rw [hg]
   simp only [Ac,if_false]
   rcases a79 hT.dm (fun i=>(es[i]?.map (·.1)).getD 0) hh (10*SetTable.turns t.mask) k _ hpd hk2 hn with⟨j,e⟩|⟨j,i,k',p',e,q2,q3,q4,q5,q6⟩
   ·have e':t.probe (fun i=>(es[i]?.map (·.1)).getD 0) hh (stand.getD (t.probeStart hh))=some (.empty j none):=e
    show AF _ _ (match t.probe (fun i=>(es[i]?.map (·.1)).getD 0) hh (stand.getD (t.probeStart hh)) with|some met=>_|_=>_) _ _ _
    rw [e']
    exact AI (hQ j)
   ·have e':t.probe (fun i=>(es[i]?.map (·.1)).getD 0) hh (stand.getD (t.probeStart hh))=some (.candidate j i p'):=e
    have hi:i<es.size:=by rw [<-hT.pl];exact b1P q2
    have hei:es[i]?=some es[i]:=getElem?_pos es i hi
    obtain⟨kx,⟨ry,ey,hky,_⟩,hne⟩:=hE es[i] (by simp)
    obtain⟨rx,rfl,hkx,hkz⟩:=id hx
    show AF _ _ (match t.probe (fun i=>(es[i]?.map (·.1)).getD 0) hh (stand.getD (t.probeStart hh)) with|some met=>_|_=>_) _ _ _
    rw [e']
    dsimp only
    rw [hei]
    dsimp only
    have hsm:t.sameMemory t.moves t.mask=some true:=by
     unfold SetTable.sameMemory
     rw [if_pos (beq_self_eq_true _)]
    have hxy:∀(b:Bool),b=decide (kx=ks)->b=false:=fun b e=>by rw [e,decide_eq_false hne]
    rw [ey]
    refine wpAny_ite_split (fun hl=>AD (a9k hx (fun y hy=> ?_) ?_)) (fun hl=> ?_)
    ·obtain⟨z,hz,rfl⟩:=An.mp hy
     have hz':z∈es.toList:=by
      rw [Array.toList_filter] at hz
      exact(List.mem_filter.mp hz).1
     obtain⟨k2,h2,_⟩:=hE z hz'
     exact⟨k2,h2⟩
    all_goals (
     try simp only [Ac,if_false]
     refine AD (wpAny_holding (wpAny_eqBool_tuple hu hky hkx ?_))
     rw [decide_eq_false hne]
     refine AD (wpAny_setState_of ho hd hf ?_)
     dsimp only
     simp only [Bool.and_false,Ac,if_false]
     rw [hsm]
     dsimp only
     rw [if_pos rfl,q2]
     dsimp only
     rw [hei]
     dsimp only
     rw [ey]
     refine AD (wpAny_isSame_ref_self ?_)
     refine AD (AI ?_)
     exact ih k' q5 fuel (some p') (by lia) (by lia) q4 q6)
end
section
variable {prog:AJ}{w:AH}{A:AL}{E:AA->AC->Prop}{s:AC}
theorem b06{ks:List g9}{x:AA}{Q:Bool->AC->Prop}(hx:a59 prog w s.heap ks x)(h:Q false s):AF (model prog w) A (hashByValue 8 x) Q E s:=by
 obtain⟨a,rfl,hk,z,rest,rfl⟩:=hx
 have hT:=hk.typeIs
 obtain⟨o,items,n,ho,_,hd,hi⟩:=hk
 unfold hashByValue
 refine AD (wpAny_specialOf hT F.slot_tuple_hash.lookup ?_)
 dsimp only
 refine AD (wpAny_seqItems ho hd ?_)
 refine AD ?_
 rw [Option.getD_some,<-Array.forIn_toList]
 generalize items.toList=l at hi
 cases hi with
 |cons h1 h2=>
  rename_i v vs
  rcases n5 (show a3V (.inr z) v=true from h1) with⟨i,u,q,_⟩|⟨y,u,q,e2⟩
  ·exact nomatch q
  ·subst e2
   rw [List.forIn_cons]
   refine AD (AD (AI ?_))
   refine AI ?_
   exact AI (AI h)
theorem b5A{a:AB}{o:Obj}{es:Array (Int×AA)}{ep:Nat}{t:SetTable}{W m:Nat}{Q:Unit->AC->Prop}(ho:s.heap.get? a=some o)(hex:o.ExactSet)(hd:o.data= .set es ep t)(hf:t.fits es.size=true)(hl:t.led= !byT w)(hp:t.plain=false)
 (hW:SetTable.sizeAbove W=m+1) (hm:M3 m) (hz:es.size<=m) (hb:es.size<scanBound) (hk:(m=7/\es.size<=4)\/(m=31/\es.size<=18)\/(m=127/\es.size<=63))
 (h:∀h' es' ep',Heap.SameBut a s.heap h'->C4 prog w h' a es' ep'->es'.toList.Perm es.toList->Q () {s with heap:=h'}):AF (model prog w) A (setRelay a W) Q E s:=by
 unfold setRelay
 refine AD (wpAny_setState_of ho hd hf ?_)
 dsimp only
 rw [hW,if_neg (by have:=sizeLine_eq;rcases hm with e|e|e<;>rw [e]<;>lia)]
 obtain⟨t',ord,e1,f1,f2,f3,f4,f5,f6⟩:=b4U (m:=m) (finger:=t.finger) (moves:=t.movedTo m) (led:=t.led) (plain:=t.plain) hm (hs:=es.map (·.1)) (by rw [Array.size_map];exact hz)
 rw [Array.size_map] at f5 f6
 have er:t.relaid (es.map (·.1)) W=some (t',ord):=by
  unfold SetTable.relaid
  rw [hW]
  exact e1
 have pm:=a9g f6
 have hsz:(ord.filterMap (es[·]?)).size=es.size:=by rw [<-Array.length_toList,pm.length_eq,Array.length_toList]
 rw [er]
 refine AD ?_
 show AF (model prog w) A (if((ord.filterMap (es[·]?)).size !=es.size)=true then unsupported "internal:set-table-lost-an-element">>=fun _=>pure (ord.filterMap (es[·]?),t') else pure (ord.filterMap (es[·]?),t')) _ _ _
 rw [if_neg (by rw [hsz];simp)]
 refine AI ?_
 dsimp only
 refine wpAny_storeSet_of ho hd ?_ (fits_of_scanBound (by rw [hsz];exact hb))
 have hg:(s.heap.update a (Obj.putSet (ord.filterMap (es[·]?)) t')).get? a=some {o with data:= .set (ord.filterMap (es[·]?)) (ep+1) t'}:=by
  have:=Heap.get?_update_self (Obj.putSet (ord.filterMap (es[·]?)) t') ho (by rw [putSet_of _ t' hd];rfl)
  rw [putSet_of _ t' hd] at this;exact this
 refine h _ _ (ep+1) (Heap.SameBut.update s.heap a _) ⟨_,t',hg,hex,rfl,⟨by rw [hsz];exact f5,f2,by rw [hsz,f1];exact hk⟩,by rw [hsz];exact hb, ?_,f3.trans hl,fun _=>f4.trans hp⟩ pm
 unfold SetTable.fits SetTable.fill
 rw [hsz,f5,f2,f1]
 simp
 lia
theorem b34{a:AB}{o:Obj}{es:Array (Int×AA)}{ep:Nat}{t:SetTable}{es1:Array (Int×AA)}{t1:SetTable}{n:Nat}{Q:Bool->AC->Prop}(ho:s.heap.get? a=some o)(hex:o.ExactSet)(hd:o.data= .set es ep t)
 (hn:es1.size=n+1) (hk:(t1.mask=7/\n<=4)\/(t1.mask=31/\n<=18)\/(t1.mask=127/\n<=63)) (hr:n+1<=63) (hpl:t1.place.size=n+1) (hdm:t1.dummies= #[]) (hl:t1.led= !byT w) (hp:t1.plain=false)
 (h:∀h' es' ep',Heap.SameBut a s.heap h'->C4 prog w h' a es' ep'->es'.toList.Perm es1.toList->Q true {s with heap:=h'}):
 AF (model prog w) A (do
  storeSet a es1 t1
  if(!false && t1.tooFull)=true then do
     setRelay a (SetTable.grown (n+1))
     pure true
   else pure true) Q E s:=by
 have hb1:es1.size<scanBound:=by rw [hn];unfold scanBound;lia
 refine AD (wpAny_storeSet_of ho hd ?_ (fits_of_scanBound hb1))
 have hg:(s.heap.update a (Obj.putSet es1 t1)).get? a=some {o with data:= .set es1 (ep+1) t1}:=by
  have:=Heap.get?_update_self (Obj.putSet es1 t1) ho (by rw [putSet_of es1 t1 hd];rfl)
  rw [putSet_of es1 t1 hd] at this;exact this
 have hf:t1.fits es1.size=true:=by
  unfold SetTable.fits SetTable.fill
  rw [hn,hpl,hdm]
  simp
  lia
 have hsb:=Heap.SameBut.update s.heap a (Obj.putSet es1 t1)
 have hfl:t1.fill=n+1:=by unfold SetTable.fill;rw [hpl,hdm];rfl
 by_cases c:t1.tooFull=true
 ·rw [if_pos (by rw [c];rfl)]
  unfold SetTable.tooFull at c
  rw [hfl] at c
  have c:=of_decide_eq_true c
  have go:∀m,SetTable.sizeAbove (SetTable.grown (n+1))=m+1->M3 m->(m=7/\n+1<=4)\/(m=31/\n+1<=18)\/(m=127/\n+1<=63)->AF (model prog w) A (do setRelay a (SetTable.grown (n+1));pure true) Q E {s with heap:=s.heap.update a (Obj.putSet es1 t1)}:=by
   intro m e1 e2 e3
   refine AD (b5A hg hex rfl hf hl hp e1 e2 (by rw [hn];lia) hb1 (by rw [hn];exact e3) fun h' es' ep' s1 s2 s3=> ?_)
   exact AI (h h' es' ep' (hsb.trans s1) s2 s3)
  rcases hk with⟨k1,k2⟩|⟨k1,k2⟩|⟨k1,k2⟩
  ·rw [k1] at c
   have hn4:n=4:=by lia
   subst hn4
   exact go 31 (by decide) (.inr (.inl rfl)) (by lia)
  ·rw [k1] at c
   have hn4:n=18:=by lia
   subst hn4
   exact go 127 (by decide) (.inr (.inr rfl)) (by lia)
  ·rw [k1] at c
   lia
 ·rw [if_neg (by simpa using c)]
  refine AI (h _ es1 (ep+1) hsb ⟨_,t1,hg,hex,rfl,⟨by rw [hn];exact hpl,hdm, ?_⟩,hb1,hf,hl,fun _=>hp⟩ (List.Perm.refl _))
  unfold SetTable.tooFull at c
  rw [hfl] at c
  have c:¬(n+1)*5>=t1.mask*3:=fun q=>c (decide_eq_true q)
  rw [hn]
  lia
theorem b8D{a:AB}{es:Array (Int×AA)}{ep:Nat}{ks:List g9}{x:AA}{hh:Int}{Q:Bool->AC->Prop}(hu:A.units<cLine)(hS:C4 prog w s.heap a es ep)(hx:a59 prog w s.heap ks x)
 (hE:∀e∈es.toList,∃k',a59 prog w s.heap k' e.2/\k'≠ks) (hroom:es.size+1<=63)
 (h:∀h' es' ep',Heap.SameBut a s.heap h'->C4 prog w h' a es' ep'->es'.toList.Perm ((hh,x)::es.toList)->Q true {s with heap:=h'}):
 AF (model prog w) A (setAddHashed a x hh) Q E s:=by
 obtain⟨o,t,ho,hex,hd,hT,hb,hf,hl,hpl⟩:=hS
 have hsc:byScan x es=false:=by
  obtain⟨r,rfl,_⟩:=hx
  rfl
 unfold setAddHashed setAddHashedIn
 refine wpAny_holding (AD (wpAny_setState_of ho hd hf ?_))
 dsimp only
 rw [hsc]
 simp only [Ac,if_false]
 obtain⟨k,hk,hn⟩:=a9r hT.m3 hT.dm (by rw [hT.pl];exact hT.le) hh
 have hk0:k<100000:=by
  have:=hk
  unfold SetTable.turns at this
  rcases hT.m3 with e|e|e<;>rw [e] at this<;>lia
 unfold setSearch
 refine AD (b3X hu ho hd hT hf hx hE (fun j=> ?_) k 100000 none hk0 hk rfl hn)
 dsimp only
 refine AD (wpAny_setState_of ho hd hf ?_)
 dsimp only
 have hp1:(t.put j).1.place.size=es.size+1:=by
  show(SetTable.insertAt t.place _ j).size=_
  rw [<-Array.length_toList,(SetTable.insertAt_perm t.place _ j).length_eq,Array.length_toList,Array.size_push,hT.pl]
 have hd1:(t.put j).1.dummies= #[]:=by
  show(if SetTable.has t.dummies j then _ else t.dummies)= #[]
  rw [hT.dm]
  simp [SetTable.has,SetTable.below,SetTable.below.go]
 have hpm:(SetTable.insertAt es (t.put j).2 (hh,x)).toList.Perm ((hh,x)::es.toList):=by
  refine(SetTable.insertAt_perm es _ _).trans ?_
  rw [Array.toList_push]
  exact List.perm_append_singleton _ _
 have hn1:(SetTable.insertAt es (t.put j).2 (hh,x)).size=es.size+1:=by
  rw [<-Array.length_toList,hpm.length_eq,AT,Array.length_toList]
 have hm1:(t.put j).1.mask=t.mask:=rfl
 have hl1:(t.put j).1.led= !byT w:=hl
 refine wpAny_ite_split (fun hpt=> ?_) (fun hpt=> ?_)
 ·refine AD (b06 hx ?_)
  simp only [Ac,if_false]
  exact b34 (t1:={(t.put j).1 with plain:=false}) ho hex hd hn1 hT.mk3 hroom hp1 hd1 hl1 rfl fun h' es' ep' s1 s2 s3=>h h' es' ep' s1 s2 (s3.trans hpm)
 ·refine AD (AI ?_)
  simp only [if_true]
  exact b34 (t1:=(t.put j).1) ho hex hd hn1 hT.mk3 hroom hp1 hd1 hl1 (by simpa using hpt) fun h' es' ep' s1 s2 s3=>h h' es' ep' s1 s2 (s3.trans hpm)
end
end PU
set_option maxHeartbeats 3200000
namespace PU
open PySem PySem.Spec PyProof.Rows L2 PySem.W
def TxV(prog:AJ)(w:AH)(h:Heap)(av:List AB)(vs:List AA)(kss:List (List g9)):Prop:=
 vs.length=kss.length/\∀(i:Nat) v ks,vs[i]?=some v->kss[i]?=some ks->∃r,v= .ref r/\r∉av/\IsTupleKey (l8 prog w) h ks r/\∃z rest,ks= .inr z::rest
theorem TxV.at'{prog:AJ}{w:AH}{h h':Heap}{av:List AB}{vs:List AA}{kss:List (List g9)}(x:TxV prog w h av vs kss)(e:∀b o,b∉av->h.get? b=some o->h'.get? b=some o):TxV prog w h' av vs kss:=
 ⟨x.1,fun i v ks e1 e2=>by
  obtain⟨r,q1,q2,⟨o,its,n,ho,r2⟩,q4⟩:=x.2 i v ks e1 e2
  exact⟨r,q1,q2,⟨o,its,n,e _ _ q2 ho,r2⟩,q4⟩⟩
section
variable {prog:AJ}{w:AH}{A:AL}{E:AA->AC->Prop}{s:AC}
theorem b7j{R:Result->AC->Prop}{I:AB}{fp wr:List AB}{G:Array GenState->Array GenState->Prop}{n:Nat}{St:Nat->AC->Prop}{vs:List AA}{kss:List (List g9)}
 (W:WalksS prog w A.in1 I fp wr G n (fun i v=>vs[i]?=some v) St) (S:AB) (hSf:S∉fp) (hb:n<=63) (hn:n=vs.length) (nd:kss.Nodup) (hu:A.in1.units<cLine):
 ∀(k i:Nat) (s:AC) (es:Array (Int×AA)) (ep:Nat),n - i=k->i<=n->St i s->C4 prog w s.heap S es ep->(es.toList.map (·.2)).Perm (vs.take i)->TxV prog w s.heap (S::wr) vs kss->
  (∀s' es' ep',Moved (S::wr) G s s'->C4 prog w s'.heap S es' ep'->(es'.toList.map (·.2)).Perm vs->R (.ok (.ret .none)) s')->
  codeAny (model prog w) A (.builtin "set.update.loop" ⟨[.ref S,.ref I],[]⟩) R s:=by
 have hSw:S∉wr:=fun h=>hSf (W.sub _ h)
 have hsub:∀b∈wr,b∈S::wr:=fun b hb=>Af _ hb
 intro k
 induction k with
 |zero=>
  intro i s es ep hk hi hst hS hT hV hR
  have hin:i=n:=by lia
  subst hin
  refine codeAny_builtin F.entry_set_update_loop ?_
  rw [Around.under_plainId F.plain_set_update_loop _]
  show AF _ A.in1 (pyNext (.ref I)>>=_) _ _ s
  refine AD (W.done s _ _ hst fun s' hm=> ?_)
  show AF _ A.in1 (ret Value.none) _ _ s'
  refine AI (hR s' es ep (hm.mono hsub) (hS.at' fun o e=>hm.heap S _ hSw e) ?_)
  rwa [hn,List.take_length] at hT
 |succ k ih=>
  intro i s es ep hk hi hst hS hT hV hR
  have hlt:i<n:=by lia
  refine codeAny_builtin F.entry_set_update_loop ?_
  rw [Around.under_plainId F.plain_set_update_loop _]
  show AF _ A.in1 (pyNext (.ref I)>>=_) _ _ s
  refine AD (W.item i s _ _ hlt hst fun v s' hP hst' hm=> ?_)
  have hS':C4 prog w s'.heap S es ep:=hS.at' fun o e=>hm.heap S _ hSw e
  have hV':TxV prog w s'.heap (S::wr) vs kss:=hV.at' fun b o hb e=>hm.heap b o (fun h=>hb (hsub _ h)) e
  have hkl:i<kss.length:=by rw [<-hV'.1];lia
  obtain⟨r,hr1,hr2,hr3,hr4⟩:=hV'.2 i v kss[i] hP (Ar hkl)
  have hz:es.size=i:=by
   have:=hT.length_eq
   rw [AW,Array.length_toList,List.length_take] at this
   lia
  show AF _ A.in1 (holding [v] (setAdd S v)>>=_) _ _ s'
  refine AD (wpAny_holding ?_)
  unfold setAdd
  refine wpAny_holding ?_
  subst hr1
  refine AD (wpAny_pyHash_tuple hu hr3 ?_)
  refine b8D (s:={s' with toks:=s'.toks+(kss[i].length+1)}) (ks:=kss[i]) hu hS' ⟨r,rfl,hr3,hr4⟩ (fun e he=> ?_) (by lia) fun h' es' ep' hsb hS2 hp2=> ?_
  ·have he2:e.2∈vs.take i:=hT.mem_iff.mp (An.mpr ⟨e,he,rfl⟩)
   obtain⟨j,hj,ej⟩:=List.getElem_of_mem he2
   rw [List.length_take] at hj
   have hj2:vs[j]?=some e.2:=by
    rw [List.getElem_take] at ej
    rw [Ar (by lia),ej]
   have hjk:j<kss.length:=by lia
   obtain⟨r',q1,q2,q3,q4⟩:=hV'.2 j e.2 kss[j] hj2 (Ar hjk)
   refine⟨kss[j],⟨r',q1,q3,q4⟩,fun ee=> ?_⟩
   have:=(List.getElem_inj nd).mp ee
   lia
  ·have hpv:(es'.toList.map (·.2)).Perm (vs.take (i+1)):=by
    refine(hp2.map _).trans ?_
    rw [AR,List.take_succ,hP]
    exact(hT.cons _).trans (List.perm_append_singleton _ _).symm
   refine AI ⟨plainId_quiet F.plain_set_update_loop _,ih (i+1) _ es' ep' (by lia) hlt (W.frame _ s' _ _ hst' (Nat.le_add_right _ _) fun b hb o e=> ?_) hS2 hpv (hV'.at' fun b o hb e=> ?_) fun s'' es'' ep'' hm'' hS'' hT''=> ?_⟩
   ·rw [hsb.2 b (fun h:b=S=>hSf (by rw [<-h];exact hb))];exact e
   ·rw [hsb.2 b (fun h:b=S=>hb (by rw [h];exact Ad))];exact e
   ·refine hR s'' es'' ep'' (Moved.trans W.gtrans ((hm.mono hsub).then_heap (Nat.le_add_right _ _) fun b o hb e=> ?_) hm'') hS'' hT''
    rw [hsb.2 b (fun h:b=S=>hb (by rw [h];exact Ad))];exact e
theorem b9l{l:AB}{items:Array AA}{kss:List (List g9)}{Q:AA->AC->Prop}(hh:A.handled=none)(hl:s.heap.IsList l items)(nd:kss.Nodup)(hu:A.units+4<cLine)(hb:items.size<=63)(hV:TxV prog w s.heap [] items.toList kss)
 (h:∀(h':Heap) (tk:Nat) es ep,C4 prog w h' s.heap.objs.size es ep->(es.toList.map (·.2)).Perm items.toList->
  (∀b o,b<s.heap.objs.size->s.heap.get? b=some o->h'.get? b=some o)->Q (.ref s.heap.objs.size) {s with heap:=h',toks:=tk}):
 AF (model prog w) A (call (.type "set") [.ref l]) Q E s:=by
 obtain⟨c,tl,hmro⟩:=F.called_set.mro
 have hmade:=F.called_set.made
 have hsub:=F.called_set.sub
 refine wpAny_call (codeAny_of_tree ?_)
 show AF _ _ (callAny (.type "set") _) _ _ _
 refine AI ⟨Code.quiet_builtin _ (by decide+kernel),codeAny_builtin F.entry_type_call ?_⟩
 rw [Around.under_plain (weight_type_call_type "set" [.ref l] []) rfl]
 have h1:=F.called_set.notType
 have h2:=F.called_set.canCreate
 have hct:=F.typeCall_set_1 (.ref l)
 repeat (any_goals (first|assumption|wp_step))
 refine codeAny_mono (b81 (.ref l) (E:=E) (Q₁:=fun obj s₁=>obj= .ref s.heap.objs.size/\s₁={s with heap:=s.heap.push (B4 w)}) ⟨rfl,rfl⟩) fun r s₁ hr=> ?_
 cases r with
 |error e=>exact hr
 |ok fl=>
  cases fl with
  |ret obj=>
   obtain⟨rfl,rfl⟩:=hr
   have hS:(s.heap.push (B4 w)).get? s.heap.objs.size=some (B4 w):=Aq _ rfl
   have hT:Shared.TypeIs {s with heap:=s.heap.push (B4 w)} (.ref s.heap.objs.size) "set":=⟨_,hS,rfl⟩
   have hli:=F.called_set.init.lookup
   have hbi:=F.called_set.init.bind (.ref s.heap.objs.size)
   repeat (any_goals (first|assumption|wp_step))
   refine codeAny_mono (codeAny_call_builtin (R:=wants (fun r s₂=>r= .none/\∃h' tk es ep,s₂={s with heap:=h',toks:=tk}/\
    C4 prog w h' s.heap.objs.size es ep/\(es.toList.map (·.2)).Perm items.toList/\
    (∀b o,b<s.heap.objs.size->s.heap.get? b=some o->h'.get? b=some o)) E) F.called_set.init.plain F.entry_set_init (check_set_init_1 hT ?_)) fun r₂ s₂ hr₂=> ?_
   ·obtain⟨ol,hol,hcl,nl,hdl⟩:=hl
    obtain⟨ocls,odict,odata,oslots⟩:=ol
    simp only at hcl hdl
    subst hcl;subst hdl
    have hol':(s.heap.push (B4 w)).get? l=some {cls:= .type "list",dict:=odict,data:= .seq items nl,slots:=oslots}:=AU _ hol
    have hsls:=F.sub_list_set
    have hslf:=F.sub_list_frozenset
    have hne:(Value.type "list"==Value.type "dict")=false:=by decide
    have hl1:(s.heap.push (B4 w)).IsList l items:=⟨_,hol',rfl,nl,rfl⟩
    unfold Builtin.«set.__init__» noKeywords Builtin.Frozenset.updateFrom
    generalize hPI:pyIter=PI
    wp_walk
    subst hPI
    refine wpAny_pyIter_list hl1 ?_
    refine AD (wpAny_runValue ?_)
    have hlS:l<s.heap.objs.size:=AX hol
    have hh3:A.in1.in1.in1.handled=none:=by simp [hh]
    have hneI:l≠(s.heap.push (B4 w)).objs.size:=by
     rw [Heap.size_push];exact Ai (Nat.lt_succ_of_lt hlS)
    have hSf:s.heap.objs.size∉[(s.heap.push (B4 w)).objs.size,l]:=by
     rw [Heap.size_push];simp only [Ab,List.mem_singleton,List.not_mem_nil,or_false,not_or]
     exact⟨Ai (Nat.lt_succ_self _),Nat.ne_of_gt hlS⟩
    have WW:=(Walks.list (prog:=prog) (w:=w) hh3 (s.heap.push (B4 w)).objs.size l hneI items).toS
    refine b7j (a9u WW fun i v e=>by rw [Array.getElem?_toList];exact e) s.heap.objs.size hSf hb (Array.length_toList).symm nd (by show A.units+3<cLine;lia) (items.size - 0) 0 _ #[] 0 (by lia) (Nat.zero_le _) ⟨⟨_,Aq _ rfl,rfl,rfl⟩,(hl1.push _)⟩ ?hS0 (List.Perm.refl _) ?hV0 ?hR
    case hS0=>
     exact⟨B4 w,_,AU _ hS,⟨rfl,rfl,rfl⟩,rfl,⟨rfl,rfl,.inl ⟨rfl,Nat.zero_le _⟩⟩,by decide,by rfl,rfl,fun z=>absurd rfl z⟩
    case hV0=>
     refine⟨hV.1,fun i v ks e1 e2=> ?_⟩
     obtain⟨r,q1,q2,q3,q4⟩:=hV.2 i v ks e1 e2
     have hrl:r<s.heap.objs.size:=by obtain⟨o,_,_,ho,_⟩:=q3;exact AX ho
     refine⟨r,q1, ?_, ?_,q4⟩
     ·rw [Heap.size_push];simp only [Ab,List.mem_singleton,List.not_mem_nil,or_false,not_or]
      exact⟨Ai hrl,Ai (Nat.lt_succ_of_lt hrl)⟩
     ·obtain⟨o,its,n,ho,r2⟩:=q3
      exact⟨o,its,n,AU _ (AU _ ho),r2⟩
    case hR=>
     intro s' es ep hm hS' hT'
     obtain⟨h',g',d',tk',os'⟩:=s'
     have eg:g'=s.gens:=hm.gens
     have ed:d'=s.drawn:=hm.drawn
     have eo:os'=s.os:=hm.os
     subst eg;subst ed;subst eo
     show AF _ _ _ _ _ _
     refine AI ?_
     show AF _ _ (ret Value.none) _ _ _
     refine AI ⟨rfl,h',tk',es,ep,rfl,hS',hT',fun b o hb e=> ?_⟩
     have hb1:b≠s.heap.objs.size:=Ai hb
     have hb2:b≠(s.heap.push (B4 w)).objs.size:=by
      rw [Heap.size_push];exact Ai (Nat.lt_succ_of_lt hb)
     exact hm.heap b o (by simp only [Ab,List.mem_singleton,List.not_mem_nil,or_false,not_or];exact⟨hb1,hb2⟩) (AU _ (AU _ e))
   ·cases r₂ with
    |error e=>exact hr₂
    |ok fl₂=>
     cases fl₂ with
     |ret r=>
      obtain⟨rfl,h',tk,es,ep,rfl,hS',hT',hk'⟩:=hr₂
      repeat (any_goals (first|assumption|wp_step))
      exact h _ _ es ep hS' hT' hk'
     |_=>exact hr₂.elim
  |_=>exact hr.elim
end
end PU
set_option maxHeartbeats 1000000
namespace PU
open PySem PySem.Spec PyProof.Rows L2 PySem.W
section
variable {prog:AJ}{w:AH}{A:AL}{E:AA->AC->Prop}{s:AC}{it a:AB}{i ep:Nat}{es:Array (Int×AA)}
theorem C4.typeIs(x:C4 prog w s.heap a es ep):s.TypeIs (.ref a) "set":=by obtain⟨o,_,ho,hc,_⟩:=x;exact⟨o,ho,hc.1⟩
theorem b3i{sl:Nat}{Q:Option (AA×Nat)->AC->Prop}(hb:byT w=true)(hS:C4 prog w s.heap a es ep)(h:Q (((pickOrder (w.params.setOrder a ep) es)[i]?).map fun e=>(e.2,sl)) s):AF (model prog w) A (setNext a sl i ep) Q E s:=by
 obtain⟨o,t,ho,hex,hd,hel,hz,hf,hl,hpl⟩:=hS
 unfold setNext
 refine AD (wpAny_setState_of ho hd hf ?_)
 dsimp only
 refine AD (a6d ?_)
 rw [hb]
 simp only [↓reduceIte,bne_self_eq_false,Ac]
 unfold setWalk
 refine AD (AD (wpAny_setState_of ho hd hf ?_))
 dsimp only
 refine AD (a6d ?_)
 rw [hb]
 simp only [↓reduceIte]
 refine AD (wpAny_askSetting ?_)
 exact AI (AI h)
theorem M1{Q:Array (Int×AA)->AC->Prop}(hS:C4 prog w s.heap a es ep)(h:Q es s):AF (model prog w) A (setEntries a) Q E s:=
 let ⟨_,_,ho,_,hd,_,_,hf,_⟩:=hS;wpAny_setEntries_of ho hd hf h
theorem a5X{sl nxt:Nat}{v:AA}{Q:Option AA->AC->Prop}(hit:G9 s.heap it (.int sl 0) i a es.size ep)(hS:C4 prog w s.heap a es ep)
 (hN:∀(A:AL) (E:AA->AC->Prop) (Q:Option (AA×Nat)->AC->Prop),Q (some (v,nxt)) s->AF (model prog w) A (setNext a sl i ep) Q E s)
 (hQ:∀h',G9 h' it (.int nxt 0) (i+1) a es.size ep->Heap.SameBut it s.heap h'->Q (some v) {s with heap:=h'}):AF (model prog w) A (pyNext (.ref it)) Q E s:=by
 obtain⟨o,ho,hc,hd⟩:=id hit
 unfold pyNext
 refine AD (wpAny_attempt (wpAny_callSpecial?_slot (name:=AM "__next__") hit.typeIs l0 (wpAny_call_entry l0 hit.typeIs C8 ?_ (G5 _))))
 unfold Builtin.«set_iterator.__next__»
 refine AD (AI ?_)
 refine AD (wpAny_fieldsOf ho hd ?_)
 show AF _ _ (setEntries a>>=_) _ _ s
 refine AD (M1 hS ?_)
 rw [if_neg (by simp)]
 refine AD (hN _ _ _ ?_)
 dsimp only
 refine AD (wpAny_setField ho hd (by simp) ?_)
 have hg1:=Heap.get?_update_self (Obj.mapFields (·.setIfInBounds 0 (rawInt nxt))) ho (Obj.isFreed_of_fields (Obj.data_mapFields hd _))
 have hd1:=Obj.data_mapFields hd (·.setIfInBounds 0 (rawInt nxt))
 refine AD (wpAny_setField hg1 hd1 (by simp) ?_)
 have hg2:=Heap.get?_update_self (Obj.mapFields (·.setIfInBounds 1 (rawInt ((i:Int)+1)))) hg1 (Obj.isFreed_of_fields (Obj.data_mapFields hd1 _))
 have hd2:=Obj.data_mapFields hd1 (·.setIfInBounds 1 (rawInt ((i:Int)+1)))
 refine AI ⟨_,rfl,AI (hQ _ ⟨_,hg2, ?_, ?_⟩ ((Heap.SameBut.update ..).trans (Heap.SameBut.update ..)))⟩
 ·exact(Obj.cls_mapFields ..).trans ((Obj.cls_mapFields ..).trans hc)
 ·rw [hd2];simp [rawInt]
theorem a8l{sl:Nat}{Q:Option AA->AC->Prop}(hh:A.handled=none)(hit:G9 s.heap it (.int sl 0) i a es.size ep)(hS:C4 prog w s.heap a es ep)
 (hN:∀(A:AL) (E:AA->AC->Prop) (Q:Option (AA×Nat)->AC->Prop),Q none s->AF (model prog w) A (setNext a sl i ep) Q E s)
 (hQ:∀h',Heap.ExtBut it s.heap h'->Q none {s with heap:=h'}):AF (model prog w) A (pyNext (.ref it)) Q E s:=by
 obtain⟨o,ho,hc,hd⟩:=id hit
 unfold pyNext
 refine AD (wpAny_attempt (wpAny_callSpecial?_slot (name:=AM "__next__") hit.typeIs l0 (wpAny_call_entry l0 hit.typeIs C8 ?_ (G5 _))))
 unfold Builtin.«set_iterator.__next__»
 refine AD (AI ?_)
 refine AD (wpAny_fieldsOf ho hd ?_)
 show AF _ _ (setEntries a>>=_) _ _ s
 refine AD (M1 hS ?_)
 rw [if_neg (by simp)]
 refine AD (hN _ _ _ ?_)
 dsimp only
 refine AD (wpAny_setField ho hd (by simp) ?_)
 refine AD ?_
 simp only [newExc,newTuple];refine AD (wpAny_newObj_type ?_ (by size_fits))
 refine AD (m:=firstArgMember _ _) (wpAny_of_eq (a:=Value.none) (by first|rfl|(simp only [firstArgMember];rfl)) (wpAny_newObj_type ?_ (by size_fits)))
 simp only [raiseNew];refine AD (wpAny_handled ?_);rw [show A.in1.handled=none from hh]
 refine AD (AI (wpAny_throw ?_));refine AD (wpAny_isInstance (T:="StopIteration") (b:=true) ⟨_,Aq _ rfl,rfl⟩ isSubtype_stop ?_)
 exact AI (hQ _ (((Heap.SameBut.update ..).extBut.push _).push _))
theorem a9n{ft:AB}{ps:List Nat}{pl:Nat}{v:Int×AA}{Q:Option AA->AC->Prop}(hit:G9 s.heap it (.ref ft) i a es.size ep)(hS:C4 prog w s.heap a es ep)(hf:IsTup s.heap ft (ps.map fun i:Nat=>rawInt i).toArray)
 (hp:ps[i]?=some pl) (hv:es[pl]?=some v)
 (hQ:∀h',G9 h' it (.ref ft) (i+1) a es.size ep->Heap.SameBut it s.heap h'->Q (some v.2) {s with heap:=h'}):AF (model prog w) A (pyNext (.ref it)) Q E s:=by
 obtain⟨o,ho,hc,hd⟩:=id hit
 obtain⟨oq,tq,hoq,hexq,hdq,helq,hzq,hfq,hlq,hplq⟩:=id hS
 obtain⟨of,hof,hcf,nf,hdf⟩:=id hf
 unfold pyNext
 refine AD (wpAny_attempt (wpAny_callSpecial?_slot (name:=AM "__next__") hit.typeIs l0 (wpAny_call_entry l0 hit.typeIs C8 ?_ (G5 _))))
 unfold Builtin.«set_iterator.__next__»
 refine AD (AI ?_)
 refine AD (wpAny_fieldsOf ho hd ?_)
 show AF _ _ (setEntries a>>=_) _ _ s
 refine AD (M1 hS ?_)
 rw [if_neg (by simp)]
 show AF _ _ (seqItems? (.ref ft)>>=_) _ _ s
 refine AD (wpAny_seqItems hof hdf ?_)
 have hg:((ps.map fun i:Nat=>rawInt i).toArray)[i]?=some (rawInt pl):=by
  rw [List.getElem?_toArray,Aw,hp];rfl
 dsimp only
 rw [show((i:Int).toNat)=i from BH i,hg]
 show AF _ _ (setNextDrawn a ((pl:Int).toNat) ((ep:Int).toNat)>>=_) _ _ s
 unfold setNextDrawn
 refine AD (AD (wpAny_setState_of hoq hdq hfq ?_))
 dsimp only
 rw [show((ep:Int).toNat)=ep from BH ep,show((pl:Int).toNat)=pl from BH pl,hv]
 simp only [bne_self_eq_false,Ac,↓reduceIte]
 refine AI ?_
 refine AD (wpAny_setField ho hd (by simp) ?_)
 have hg1:=Heap.get?_update_self (Obj.mapFields (·.setIfInBounds 1 (rawInt ((i:Int)+1)))) ho (Obj.isFreed_of_fields (Obj.data_mapFields hd _))
 have hd1:=Obj.data_mapFields hd (·.setIfInBounds 1 (rawInt ((i:Int)+1)))
 refine AI ⟨_,rfl,AI (hQ _ ⟨_,hg1, ?_, ?_⟩ (Heap.SameBut.update ..))⟩
 ·exact(Obj.cls_mapFields ..).trans hc
 ·rw [hd1];simp [rawInt]
theorem b1N{ft:AB}{ps:List Nat}{Q:Option AA->AC->Prop}(hh:A.handled=none)(hit:G9 s.heap it (.ref ft) i a es.size ep)(hS:C4 prog w s.heap a es ep)(hf:IsTup s.heap ft (ps.map fun i:Nat=>rawInt i).toArray)
 (hp:ps[i]?=none)
 (hQ:∀h',Heap.ExtBut it s.heap h'->Q none {s with heap:=h'}):AF (model prog w) A (pyNext (.ref it)) Q E s:=by
 obtain⟨o,ho,hc,hd⟩:=id hit
 obtain⟨of,hof,hcf,nf,hdf⟩:=id hf
 unfold pyNext
 refine AD (wpAny_attempt (wpAny_callSpecial?_slot (name:=AM "__next__") hit.typeIs l0 (wpAny_call_entry l0 hit.typeIs C8 ?_ (G5 _))))
 unfold Builtin.«set_iterator.__next__»
 refine AD (AI ?_)
 refine AD (wpAny_fieldsOf ho hd ?_)
 show AF _ _ (setEntries a>>=_) _ _ s
 refine AD (M1 hS ?_)
 rw [if_neg (by simp)]
 show AF _ _ (seqItems? (.ref ft)>>=_) _ _ s
 refine AD (wpAny_seqItems hof hdf ?_)
 have hg:((ps.map fun i:Nat=>rawInt i).toArray)[i]?=none:=by
  rw [List.getElem?_toArray,Aw,hp];rfl
 dsimp only
 rw [show((i:Int).toNat)=i from BH i,hg]
 dsimp only
 refine AD (wpAny_setField ho hd (by simp) ?_)
 have hg1:=Heap.get?_update_self (Obj.mapFields (·.setIfInBounds 0 (rawInt 0))) ho (Obj.isFreed_of_fields (Obj.data_mapFields hd _))
 have hd1:=Obj.data_mapFields hd (·.setIfInBounds 0 (rawInt 0))
 refine AD (wpAny_setField hg1 hd1 (by simp) ?_)
 refine AD ?_
 simp only [newExc,newTuple];refine AD (wpAny_newObj_type ?_ (by size_fits))
 refine AD (m:=firstArgMember _ _) (wpAny_of_eq (a:=Value.none) (by first|rfl|(simp only [firstArgMember];rfl)) (wpAny_newObj_type ?_ (by size_fits)))
 simp only [raiseNew];refine AD (wpAny_handled ?_);rw [show A.in1.handled=none from hh]
 refine AD (AI (wpAny_throw ?_));refine AD (wpAny_isInstance (T:="StopIteration") (b:=true) ⟨_,Aq _ rfl,rfl⟩ isSubtype_stop ?_)
 exact AI (hQ _ ((((Heap.SameBut.update ..).trans (Heap.SameBut.update ..)).extBut.push _).push _))
theorem b3h{i sl:Nat}{pl:Array Nat}{Q:Option (AA×Nat)->AC->Prop}(hb:byT w=false)(hS:C4 prog w s.heap a es ep)(hP:PlX s.heap a es ep pl)(h1:es.size<=1)
 (h:Q (match es[SetTable.below pl sl]?,pl[SetTable.below pl sl]? with|some (_,x),some j=>some (x,j+1)|_,_=>none) s):AF (model prog w) A (setNext a sl i ep) Q E s:=by
 obtain⟨o,t,ho,hex,hd,hel,hz,hf,hl,hpl⟩:=hS
 obtain⟨o',t',ho',hd',ep'⟩:=hP
 rw [ho] at ho';cases ho'
 rw [hd] at hd';cases hd'
 subst ep'
 rw [hb] at hl
 unfold setNext
 refine AD (wpAny_setState_of ho hd hf ?_)
 dsimp only
 refine AD (a6d ?_)
 rw [hb]
 simp only [Ac,↓reduceIte]
 show AF _ _ (if(!t.plain && decide (es.size>1))=true then _ else _) _ _ s
 rw [if_neg (by simp;lia)]
 show AF _ _ ((if(!t.led && !es.isEmpty)=true then _ else _)>>=_) _ _ s
 rw [hl]
 refine AD (AI ?_)
 exact AI h
theorem b5Z(hb:byT w=true)(hh:A.handled=none)(I:AB)(hne:a≠I):Walks prog w A I [I,a] [I] es.size (fun i v=>((pickOrder (w.params.setOrder a ep) es).toList.map (·.2))[i]?=some v) (fun i h=>G9 h I (.int (0:Nat) 0) i a es.size ep/\C4 prog w h a es ep) where
 sub:=fun b hb=>by simp at hb;simp [hb]
 frame:=fun _ _ _ st hk=>⟨st.1.at' fun o e=>hk I (by simp) o e,st.2.at' fun o e=>hk a (by simp) o e⟩
 item:=fun i s Q E hi st hQ=>by
  have hz:(pickOrder (w.params.setOrder a ep) es).size=es.size:=by
   have:=(N3 (w.params.setOrder a ep) es).length_eq
   simpa using this
  have hi':i<(pickOrder (w.params.setOrder a ep) es).size:=by lia
  refine a5X (nxt:=0) (v:=(pickOrder (w.params.setOrder a ep) es)[i].2) st.1 st.2 (fun A E Q q=>b3i hb st.2 (by rw [getElem?_pos _ i hi'];exact q)) fun h' hit' hs'=>hQ _ h' s.toks ?_ ⟨hit',st.2.at' fun o e=>hs'.extBut a o hne e⟩ fun b o hb e=>hs'.extBut b o (fun h=>hb (by simp [h])) e
  rw [Aw,Array.getElem?_toList,getElem?_pos _ i hi'];rfl
 done:=fun s Q E st hQ=>by
   have hz:(pickOrder (w.params.setOrder a ep) es).size=es.size:=by
    have:=(N3 (w.params.setOrder a ep) es).length_eq
    simpa using this
   exact a8l hh st.1 st.2 (fun A E Q q=>b3i hb st.2 (by rw [getElem?_neg _ es.size (by lia)];exact q)) fun h' he'=>hQ h' s.toks fun b o hb e=>he' b o (fun h=>hb (by simp [h])) e
 self:=fun _ _ _ _ st hQ=>a4A st.1 hQ
theorem b5X(hb:byT w=false)(h1:es.size<=1)(hh:A.handled=none)(I:AB)(hne:a≠I){pl:Array Nat}(hp:pl.size=es.size):
 Walks prog w A I [I,a] [I] es.size (fun i v=>(es.toList.map (·.2))[i]?=some v) (fun i h=>∃sl:Nat,G9 h I (.int sl 0) i a es.size ep/\C4 prog w h a es ep/\PlX h a es ep pl/\(i=0->sl=0)/\(i≠0->sl=pl.getD 0 0+1)) where
 sub:=fun b hb=>by simp at hb;simp [hb]
 frame:=fun _ _ _ ⟨sl,st1,st2,⟨o,t,ho,r⟩,st4,st5⟩ hk=>⟨sl,st1.at' fun o e=>hk I (by simp) o e,st2.at' fun o e=>hk a (by simp) o e,⟨o,t,hk a (by simp) o ho,r⟩,st4,st5⟩
 item:=fun i s Q E hi ⟨sl,st1,st2,st3,st4,st5⟩ hQ=>by
  have hi0:i=0:=by lia
  subst hi0
  cases st4 rfl
  have hs1:es.size=1:=by lia
  obtain⟨j,rfl⟩:∃j,pl= #[j]:=by
   obtain⟨l⟩:=pl
   cases l with
   |nil=>simp at hp;lia
   |cons j l=>
    cases l with
    |nil=>exact⟨j,rfl⟩
    |cons k l=>simp at hp;lia
  have h0:0<es.size:=by lia
  refine a5X (nxt:=j+1) (v:=es[0].2) st1 st2 (fun A E Q q=>b3h hb st2 st3 h1 (by rw [b6G,getElem?_pos _ 0 h0];exact q)) fun h' hit' hs'=>hQ _ h' s.toks ?_ ⟨j+1,hit',st2.at' fun o e=>hs'.extBut a o hne e, ?_,fun z=>absurd z (Nat.succ_ne_zero 0),fun _=>rfl⟩ fun b o hb e=>hs'.extBut b o (fun h=>hb (by simp [h])) e
  ·rw [Aw,Array.getElem?_toList,getElem?_pos _ 0 h0];rfl
  ·obtain⟨o,t,ho,r⟩:=st3
   exact⟨o,t,hs'.extBut a o hne ho,r⟩
 done:=fun s Q E ⟨sl,st1,st2,st3,st4,st5⟩ hQ=>by
   refine a8l hh st1 st2 (fun A E Q q=>b3h hb st2 st3 h1 ?_) fun h' he'=>hQ h' s.toks fun b o hb e=>he' b o (fun h=>hb (by simp [h])) e
   by_cases h0:es.size=0
   ·have e0:es[SetTable.below pl sl]?=none:=getElem?_neg _ _ (by lia)
    rw [e0];exact q
   ·cases st5 h0
    obtain⟨j,rfl⟩:∃j,pl= #[j]:=by
     obtain⟨l⟩:=pl
     cases l with
     |nil=>simp at hp;lia
     |cons j l=>
      cases l with
      |nil=>exact⟨j,rfl⟩
      |cons k l=>simp at hp;lia
    have e1:SetTable.below #[j] ((#[j]:Array Nat).getD 0 0+1)=1:=b6H j
    rw [e1,getElem?_neg _ 1 (by lia)];exact q
 self:=fun _ _ _ _ ⟨_,st,_⟩ hQ=>a4A st hQ
theorem b5Y(hh:A.handled=none)(I ft:AB)(hne:a≠I)(hnf:ft≠I){ps:List Nat}(hp:ps.Perm (AS es.size)):
 Walks prog w A I [I,a,ft] [I] es.size (fun i v=>(ps.map fun p:Nat=>(es[p]?.map (·.2)).getD .none)[i]?=some v) (fun i h=>G9 h I (.ref ft) i a es.size ep/\C4 prog w h a es ep/\IsTup h ft (ps.map fun i:Nat=>rawInt i).toArray) where
 sub:=fun b hb=>by simp at hb;simp [hb]
 frame:=fun _ _ _ ⟨st1,st2,⟨o,ho,r⟩⟩ hk=>⟨st1.at' fun o e=>hk I (by simp) o e,st2.at' fun o e=>hk a (by simp) o e,⟨o,hk ft (by simp) o ho,r⟩⟩
 item:=fun i s Q E hi ⟨st1,st2,st3⟩ hQ=>by
  have hl:ps.length=es.size:=by have:=hp.length_eq;simpa using this
  have hi':i<ps.length:=by lia
  have hm:ps[i]<es.size:=List.mem_range.mp (hp.mem_iff.mp (List.getElem_mem hi'))
  refine a9n (pl:=ps[i]) (v:=es[ps[i]]) st1 st2 st3 (Ar hi') (getElem?_pos es ps[i] hm) fun h' hit' hs'=>hQ _ h' s.toks ?_ ⟨hit',st2.at' fun o e=>hs'.extBut a o hne e, ?_⟩ fun b o hb e=>hs'.extBut b o (fun h=>hb (by simp [h])) e
  ·rw [Aw,Ar hi',BD,getElem?_pos es ps[i] hm];rfl
  ·obtain⟨o,ho,r⟩:=st3
   exact⟨o,hs'.extBut ft o hnf ho,r⟩
 done:=fun s Q E ⟨st1,st2,st3⟩ hQ=>by
   have hl:ps.length=es.size:=by have:=hp.length_eq;simpa using this
   exact b1N hh st1 st2 st3 (List.getElem?_eq_none (by lia)) fun h' he'=>hQ h' s.toks fun b o hb e=>he' b o (fun h=>hb (by simp [h])) e
 self:=fun _ _ _ _ st hQ=>a4A st.1 hQ
theorem b2k{Q:Bool->AC->Prop}(hS:C4 prog w s.heap a es ep)(h:∀t:SetTable,(es.size≠0->t.plain=false)->Q (!byT w &&(!t.plain && decide (es.size>1))) s):AF (model prog w) A (setDrawn a) Q E s:=by
 obtain⟨o,t,ho,hex,hd,hel,hz,hf,hl,hpl⟩:=hS
 unfold setDrawn
 refine AD (wpAny_setState_of ho hd hf ?_)
 dsimp only
 refine AD (a6d ?_)
 exact AI (h t hpl)
theorem a7x{Q:Nat->AC->Prop}(hS:C4 prog w s.heap a es ep)(h:Q ep s):AF (model prog w) A (setEpoch a) Q E s:=
 let ⟨_,_,ho,_,hd,_,_,hf,_⟩:=hS;wpAny_setEpoch_of ho hd hf h
theorem b4R{Q:AA->AC->Prop}(hS:C4 prog w s.heap a es ep)
 (h:∀(h':Heap) d I fp (St:Nat->Heap->Prop) (ord:List AA),(∀b o,s.heap.get? b=some o->h'.get? b=some o)->s.heap.objs.size<=I->(∀b∈fp,s.heap.objs.size<=b\/b=a)->ord.Perm (es.toList.map (·.2))->
  (∀A':AL,A'.handled=none->Walks prog w A' I fp [I] es.size (fun i v=>ord[i]?=some v) St)->St 0 h'->Q (.ref I) {s with heap:=h',drawn:=d}):AF (model prog w) A (pyIter (.ref a)) Q E s:=by
 have hlt:a<s.heap.objs.size:=by obtain⟨_,_,ho,_⟩:=hS;exact AX ho
 refine wpAny_pyIter_slot hS.typeIs F.slot_set_iter (wpAny_call_entry F.slot_set_iter hS.typeIs a6p ?_ (F.args_set_iter_1 _))
 unfold Builtin.«frozenset.__iter__»
 refine AD (AI ?_)
 show AF _ _ (Builtin.Frozenset.sizeOf a>>=_) _ _ s
 unfold Builtin.Frozenset.sizeOf
 refine AD (AD (M1 hS (AI ?_)))
 refine AD (b2k hS fun t ht=> ?_)
 by_cases hd:(!byT w &&(!t.plain && decide (es.size>1)))=true
 ·rw [if_pos hd]
  simp only [Bool.and_eq_true,Bool.not_eq_true',decide_eq_true_eq] at hd
  refine AD (a5p es.size (AS es.size) s _ (by simp) fun ps d hp=> ?_)
  simp only [newTuple]
  refine AD (wpAny_newObj_type ?_ ?_)
  ·have hk:∀b o,s.heap.get? b=some o->(s.heap.push {cls:= .type "tuple",data:= .seq (ps.map fun i:Nat=>rawInt i).toArray}).get? b=some o:=fun b o e=>AU _ e
   refine AD (a7x (hS.at' fun o e=>hk a o e) ?_)
   simp only [newFields]
   refine AD (wpAny_newObj_type ?_ (by size_fits))
   refine AI ⟨_,rfl,"set_iterator",_,⟨_,Aq _ rfl,rfl⟩,l0.lookup, ?_⟩
   refine h _ d _ [s.heap.objs.size+1,a,s.heap.objs.size] (fun i h=>G9 h (s.heap.objs.size+1) (.ref s.heap.objs.size) i a es.size ep/\C4 prog w h a es ep/\IsTup h s.heap.objs.size (ps.map fun i:Nat=>rawInt i).toArray) _ (fun b o e=>AU _ (hk b o e)) (by rw [Heap.size_push];exact Nat.le_succ _) (fun b hb=> ?_) (a78 hp) (fun A' hA=> ?_) ?_
   rotate_left
   ·have:=b5Y (prog:=prog) (w:=w) (ep:=ep) hA (s.heap.objs.size+1) s.heap.objs.size (Ai (Nat.lt_succ_of_lt hlt)) (Ai (Nat.lt_succ_self _)) hp
    rw [Heap.size_push]
    exact this
   ·have e1:(s.heap.push {cls:= .type "tuple",data:= .seq (ps.map fun i:Nat=>rawInt i).toArray}).objs.size=s.heap.objs.size+1:=Heap.size_push ..
    refine⟨⟨{cls:= .type "set_iterator",data:= .fields [.ref s.heap.objs.size,rawInt 0,.ref a,rawInt es.size,rawInt ep].toArray}, ?_,rfl,rfl⟩,hS.at' fun o e=>AU _ (hk a o e),_,AU _ (Aq _ rfl),rfl,_,rfl⟩
    rw [<-e1]
    exact Aq _ rfl
   ·simp only [Ab,List.not_mem_nil,or_false] at hb
    rcases hb with rfl|rfl|rfl
    ·exact .inl (Nat.le_succ _)
    ·exact .inr rfl
    ·exact .inl (AO _)
  ·have hz:es.size<scanBound:=by obtain⟨_,_,_,_,_,_,hz,_⟩:=hS;exact hz
   have hl:ps.length=es.size:=by have:=hp.length_eq;simpa using this
   have hsl:=sizeLine_eq
   unfold scanBound at hz
   show(ps.map fun i:Nat=>rawInt i).toArray.size<=AN
   simp [hl]
   lia
 ·rw [if_neg hd]
  refine AD (AI ?_)
  refine AD (a7x hS ?_)
  simp only [newFields]
  refine AD (wpAny_newObj_type ?_ (by size_fits))
  refine AI ⟨_,rfl,"set_iterator",_,⟨_,Aq _ rfl,rfl⟩,l0.lookup, ?_⟩
  have hit:G9 (s.heap.push {cls:= .type "set_iterator",data:= .fields [rawInt 0,rawInt 0,.ref a,rawInt es.size,rawInt ep].toArray}) s.heap.objs.size (.int (0:Nat) 0) 0 a es.size ep:=⟨_,Aq _ rfl,rfl,rfl⟩
  have hS':=hS.at' (h':=s.heap.push {cls:= .type "set_iterator",data:= .fields [rawInt 0,rawInt 0,.ref a,rawInt es.size,rawInt ep].toArray}) fun o e=>AU _ e
  have hfp:∀b∈[s.heap.objs.size,a],s.heap.objs.size<=b\/b=a:=fun b hb=>by
   simp only [Ab,List.not_mem_nil,or_false] at hb
   rcases hb with rfl|rfl
   ·exact .inl (AO _)
   ·exact .inr rfl
  cases hb:byT w with
  |true=>exact h _ s.drawn _ [s.heap.objs.size,a] _ _ (fun b o e=>AU _ e) (AO _) hfp ((N3 (w.params.setOrder a ep) es).map _) (fun A' hA=>b5Z hb hA _ (Ai hlt)) ⟨hit,hS'⟩
  |false=>
   have h1:es.size<=1:=by
    rw [hb] at hd
    by_cases hz:es.size<=1
    ·exact hz
    ·exfalso
     rw [ht (by lia)] at hd
     simp at hd
     lia
   obtain⟨o,t',ho,hex,hdd,hel,hzz,hf,hl,hpl⟩:=id hS
   have hps:t'.place.size=es.size:=by
    simp only [SetTable.fits,Bool.and_eq_true,beq_iff_eq] at hf
    exact hf.1
   exact h _ s.drawn _ [s.heap.objs.size,a] _ _ (fun b o e=>AU _ e) (AO _) hfp (List.Perm.refl _) (fun A' hA=>b5X hb h1 hA _ (Ai hlt) hps) ⟨0,hit,hS',⟨o,t',AU _ ho,hdd,rfl⟩,fun _=>rfl,fun z=>absurd rfl z⟩
theorem a8O{Q:List AA->AC->Prop}(hh:A.handled=none)(hS:C4 prog w s.heap a es ep)
 (hQ:∀h' tk d ord,(∀b o,s.heap.get? b=some o->h'.get? b=some o)->ord.Perm (es.toList.map (·.2))->Q ord {s with heap:=h',toks:=tk,drawn:=d}):AF (model prog w) A (collect (.ref a)) Q E s:=by
 have hlt:a<s.heap.objs.size:=by obtain⟨_,_,ho,_⟩:=hS;exact AX ho
 have hn:es.size<=AN:=by
  have hz:es.size<scanBound:=by obtain⟨_,_,_,_,_,_,hz,_⟩:=hS;exact hz
  have hsl:=sizeLine_eq
  unfold scanBound at hz
  lia
 unfold collect
 refine AD (wpAny_runValue (codeAny_builtin F.entry_proto_collect ?_));rw [Around.under_plainId F.plain_proto_collect _]
 show AF _ A.in1 (newList []>>=fun l=>again (.builtin "list.__iadd__" ⟨[l,.ref a],[]⟩)) _ _ s;refine AD (wpAny_newObj_type ?_)
 refine AI ⟨plainId_quiet F.plain_list_iadd _,codeAny_builtin F.entry_list_iadd ?_⟩;rw [Around.under_plainId F.plain_list_iadd _]
 show AF _ A.in1 (Builtin.List.listExtendWith (.ref s.heap.objs.size) (.ref a) (.ref s.heap.objs.size)) _ _ _
 have hS0:(s.heap.push {cls:= .type "list",data:= .seq ([]:List AA).toArray}).get? s.heap.objs.size=some {cls:= .type "list",data:= .seq ([]:List AA).toArray}:=Aq _ rfl
 have hSX:=hS.at' (h':=s.heap.push {cls:= .type "list",data:= .seq ([]:List AA).toArray}) fun o e=>AU _ e
 have hk0:∀b o,s.heap.get? b=some o->(s.heap.push {cls:= .type "list",data:= .seq ([]:List AA).toArray}).get? b=some o:=fun b o e=>AU _ e
 have hsz:(s.heap.push {cls:= .type "list",data:= .seq ([]:List AA).toArray}).objs.size=s.heap.objs.size+1:=Heap.size_push ..
 generalize hH:s.heap.push {cls:= .type "list",data:= .seq ([]:List AA).toArray}=H at hS0 hSX hk0 hsz ⊢
 unfold Builtin.List.listExtendWith
 refine AD (wpAny_typeOf (T:="set") hSX.typeIs ?_)
 have hne:s.heap.objs.size≠a:=Nat.ne_of_gt hlt
 have h1:Builtin.List.listSameRef (.ref s.heap.objs.size) (.ref a)=false:=by simp [Builtin.List.listSameRef,hne]
 have h2:(Value.type "set"==Value.type "list")=false:=by decide
 have h3:(Value.type "set"==Value.type "tuple")=false:=by decide
 simp only [h1,h2,h3,Bool.or_false,Ac,if_false]
 refine AD (b4R hSX fun h' d I fp St ord hk hI hfp hp W hst=> ?_)
 refine AD (wpAny_holding (b2P (hSX.at' fun o e=>hk _ _ e).typeIs ?_))
 have hSf:s.heap.objs.size∉fp:=fun hb=>by
  rcases hfp _ hb with h|h
  ·rw [hsz] at h;exact absurd h (Nat.not_le.mpr (Nat.lt_succ_self _))
  ·exact hne h
 have hIlt:s.heap.objs.size<I:=by
  have hI':s.heap.objs.size+1<=I:=by rw [<-hsz];exact hI
  exact hI'
 have key:∀(h2:Heap) (c₁:Nat),St 0 h2->(∀b o,b≠s.heap.objs.size->s.heap.get? b=some o->h2.get? b=some o)->h2.get? s.heap.objs.size=some {cls:= .type "list",data:= .seq #[] c₁}->
  codeAny (model prog w) A (.builtin "list.extend.loop" ⟨[.ref s.heap.objs.size,.ref I,.ref s.heap.objs.size],[]⟩) (fun r s'=>match r with| .ok (.ret v)=>AF (model prog w) A (match v with| .ref a=>(do let o<-load a;match o.data with| .seq xs _=>pure xs.toList|_=>unsupported "internal:collect")|_=>unsupported "internal:collect") Q E s'| .ok _=>False| .error e=>E e s') {s with heap:=h2,drawn:=d}:=by
  intro h2 c₁ hst2 hk2 hS2
  refine codeAny_extend_loopS (W A.in1 hh).toS hn s.heap.objs.size hSf _ es.size 0 _ #[] c₁ rfl (Nat.zero_le _) hst2 hS2 (ItemsOf.nil _) fun s' acc' c' hm hS' hacc=> ?_
  show AF _ A (load s.heap.objs.size>>=_) _ _ _
  refine AD (wpAny_load hS' ?_)
  have e:acc'.toList=ord:=by
   have hl:ord.length=es.size:=by have:=hp.length_eq;simpa using this
   apply List.ext_getElem?
   intro j
   by_cases hj:j<acc'.size
   ·have h1:j<acc'.size:=hj
    have:=hacc.2 j acc'[j] (by simp [h1])
    rw [this,Array.getElem?_toList,getElem?_pos acc' j h1]
   ·rw [Array.getElem?_toList,getElem?_neg acc' j hj,List.getElem?_eq_none (by rw [hl,<-hacc.1];lia)]
  refine AI ?_
  obtain⟨h3,g3,d3,tk3,os3⟩:=s'
  have eg:g3=s.gens:=hm.gens
  have ed:d3=d:=hm.drawn
  have eo:os3=s.os:=hm.os
  subst eg;subst ed;subst eo
  show Q acc'.toList _
  rw [e]
  refine hQ h3 tk3 d3 ord (fun b o q=> ?_) hp
  have hblt:=AX q
  refine hm.heap b o (fun hb=> ?_) (hk2 b o (Ai hblt) q)
  rcases Ab.mp hb with h|h
  ·exact absurd hblt (by rw [h];exact Nat.lt_irrefl _)
  ·rw [List.mem_singleton.mp h] at hblt;exact absurd hblt (Nat.not_lt.mpr (BE hIlt))
 refine wpAny_ite_split (fun _=> ?_) (fun _=>AI ⟨plainId_quiet PySem.F.plain_extend_loop _,key _ _ hst (fun b o hb q=>hk _ _ (hk0 _ _ q)) (hk _ _ hS0)⟩)
 refine AD (wpAny_rule ?_)
 refine AD ?_
 show AF _ _ (updateSeq s.heap.objs.size (·.push .none)>>=fun _=>updateSeq s.heap.objs.size (·.pop)) _ _ _
 have hS1:=hk _ _ hS0
 refine AD (wpAny_updateSeq hS1 rfl ?_)
 have hS₂:=Heap.get?_update_self (Obj.mapSeq (·.push Value.none)) hS1 rfl
 refine wpAny_updateSeq (hz:=by seq_fits) hS₂ rfl ?_
 have hS₃:=Heap.get?_update_self (Obj.mapSeq (·.pop)) hS₂ rfl
 refine AI ⟨plainId_quiet PySem.F.plain_extend_loop _,key _ _ ?_ (fun b o hb e=> ?_) hS₃⟩
 ·refine(W A.in1 hh).frame 0 _ _ hst fun b hb o e=> ?_
  have hbS:b≠s.heap.objs.size:=fun h=>hSf (h▸hb)
  exact(Heap.get?_update_other _ _ (Ne.symm hbS)).trans ((Heap.get?_update_other _ _ (Ne.symm hbS)).trans e)
 ·exact(Heap.get?_update_other _ _ (Ne.symm hb)).trans ((Heap.get?_update_other _ _ (Ne.symm hb)).trans (hk _ _ (hk0 _ _ e)))
end
section
variable {prog:AJ}{w:AH}{A:AL}{E:AA->AC->Prop}{s:AC}
variable {κ:SortKind}{S:Keyed->Prop}{R:Keyed->Keyed->Bool}
theorem a9p{l:AA}{vs0:List AA}{Q:AA->AC->Prop}
 (hcol:∀(Q':List AA->AC->Prop) (E':AA->AC->Prop),(∀h1 tk d vs,(∀b o,s.heap.get? b=some o->h1.get? b=some o)->vs.Perm vs0->Q' vs {s with heap:=h1,toks:=tk,drawn:=d})->AF (model prog w) A.in1 (collect l) Q' E' s)
 (hz:vs0.length<=63)
 (hC:∀vs:List AA,vs.Perm vs0->2<=vs.length->∀s':AC,(∀b o,s.heap.get? b=some o->s'.heap.get? b=some o)->
  (∀Q:SortKind->AC->Prop,Q κ s'->AF (model prog w) A.in1.in1 (keyKind' vs.toArray) Q (fun _ _=>False) s')/\TS.Q2 prog w A.in1.in1 (fun _ _=>False) s' κ S R)
 (hS:∀v∈vs0,S (TS.tw v))
 (h:∀(h1 h':Heap) (tk:Tok) d (e:Nat) (us:List AA),(∀b o',s.heap.get? b=some o'->h1.get? b=some o')->(∀b o',h1.get? b=some o'->h'.get? b=some o')->us.Perm vs0->(us.Pairwise fun u v=>R (TS.tw v) (TS.tw u)=false)->
  h'.get? h1.objs.size=some (seqObj "list" us.toArray e)->Q (.ref h1.objs.size) {s with heap:=h',toks:=tk,drawn:=d}):
 AF (model prog w) A (call (.builtin "sorted") [l]) Q E s:=by
 refine Calls.call_function_entry kind_sorted plain_sorted entry_sorted (args_sorted1 _) ?_
 unfold Builtin.«sorted»
 refine AD (m:=checkCount "sorted" 1 1 _) (AI ?_)
 refine AD (hcol _ _ fun h1 tk d vs k1 pm0=> ?_)
 have hvl:vs.length<=63:=by rw [pm0.length_eq];exact hz
 refine AD (wpAny_newList ?_ (by rw [sizeLine_eq];lia))
 have q1:(h1.push (seqObj "list" vs.toArray 0)).get? h1.objs.size=some (seqObj "list" vs.toArray 0):=Aq _ rfl
 show AF _ _ _ _ _ {s with heap:=h1.push (seqObj "list" vs.toArray 0),toks:=tk,drawn:=d}
 refine AD (wpAny_holding (wpAny_call_entry slot_list_sort ⟨_,q1,rfl⟩ entry_list_sort (wpAny_mono (TS.a4V (E:=fun _ _=>False) (κ:=κ) (S:=S) (R:=R) q1 (by lia) (fun h2 h' kp=>hC vs pm0 h2 {s with heap:=h',toks:=tk,drawn:=d} fun b o' e=>kp b o' ?_ ?_) (fun v hv=>hS v (pm0.mem_iff.mp hv)) fun out a1 a2=>⟨_,rfl, ?_⟩) (fun _ _ e=>e) fun _ _ e=>e.elim) (args_list_sort _)))
 ·exact Ai (AX (k1 b o' e))
 ·exact AU _ (k1 b o' e)
 ·obtain⟨e,he⟩:=sortedHeap_at (out:=out) q1
  refine AI ⟨_,rfl,h h1 _ tk d e out.toList k1 (fun b o' hb1=> ?_) (a1.trans pm0) a2 (by rw [Array.toArray_toList];exact he)⟩
  have hlt:=AX hb1
  rw [sortedHeap_old (Ai hlt) (by rw [size_push'];exact Nat.lt_succ_of_lt hlt),Heap.get?_push_ne _ _ _ (Ai hlt)]
  exact hb1
end
def rvV:V->AA
 | .ref a=> .ref a
 |_=> .none
def a7B:List g9->Bool
 | .inr _::_=>true
 |_=>false
def Q9(x:e9):Option e9:=match x with
 | .ow (.lst ps)=>(E5 ps).bind fun ks=>if okK ks=true/\ks.Nodup/\ks.length<=63/\ks.all a7B=true then some (.own ((V1 J9 ks).map kT)) else none
 | .bo (.lst ps)=>(E5 ps).bind fun ks=>if okK ks=true/\ks.Nodup/\ks.length<=63/\ks.all a7B=true then some (.own ((V1 J9 ks).map kT)) else none
 |_=>none
section
variable {X:Cx}{pins:List (AB×Obj)}{σ:L2.St}{F H:Hp}{s:AC}
theorem a8y:∀{ps:List PV} {ks:List (List g9)} {xs:List V} {its:List AA},E5 ps=some ks->i0 X.K F ps xs->j3 xs its->its=xs.map rvV
 |[],ks,xs,its,h,r,v=>by cases h;cases r;cases v;rfl
 | .tuple qs::ps,ks,xs,its,h,r,v=>by
   unfold E5 at h
   obtain⟨k,h1,h⟩:=bind_some h
   cases h2:E5 ps with
   |none=>rw [h2] at h;cases h
   |some t=>
    obtain⟨x,xr,rfl,rx,rr⟩:=r
    cases v with
    |cons v1 vr=>
     have:=a8y h2 rr vr
     obtain⟨a,xs',rfl,hq,rl⟩:=rx
     cases v1
     rw [this]
     rfl
 | .none::_,_,_,_,h,_,_=>nomatch h
 | .bool _::_,_,_,_,h,_,_=>nomatch h
 | .int _::_,_,_,_,h,_,_=>nomatch h
 | .str _::_,_,_,_,h,_,_=>nomatch h
 | .list _::_,_,_,_,h,_,_=>nomatch h
 | .dict _::_,_,_,_,h,_,_=>nomatch h
def a7h(X:Cx)(p:AB)(ys:List V)(h:Heap):Prop:=∃es ep,C4 X.prog X.w h p es ep/\(es.toList.map (·.2)).Perm (ys.map rvV)
theorem a4m{prog:AJ}{w:AH}{h:Heap}:∀{vs:List AA} {ks:List (List g9)},Paired (O7 h) vs ks->ks.all a7B=true->TxV prog w h [] vs ks
 |_,_,.nil,_=>⟨rfl,fun i v ks h=>by cases h⟩
 |_,_,.cons r t,hf=>by
  rename_i v k vs ks
  rw [List.all_cons,Bool.and_eq_true] at hf
  obtain⟨h1,h2⟩:=a4m (prog:=prog) (w:=w) t hf.2
  refine⟨by rw [AT,AT,h1],fun i u j e1 e2=> ?_⟩
  cases i with
  |zero=>
   cases e1;cases e2
   obtain⟨a,o,xs,n,e,ho,hc,hd,hv⟩:=r
   refine⟨a,e,by simp,⟨o,xs,n,ho,hc,hd,a1S hv⟩, ?_⟩
   have:=hf.1
   unfold a7B at this
   split at this
   ·exact⟨_,_,rfl⟩
   ·cases this
  |succ i=>exact h2 i u j e1 e2
def b6p(X:Cx):List V->Hp->VK->Prop:=fun xs H Q=>∃(a:AB) (ys:List V) (F:Hp) (ps:List PV) (ks:List (List g9)),xs=[.ref a]/\H a=some (.lst ys)/\i9 F H/\E5 ps=some ks/\i0 X.K F ps ys/\ks.Nodup/\ks.length<=63/\ks.all a7B=true/\
 ∀p,H p=none->Q (.ref p) (m8 H p (.ext (a7h X p ys)))
theorem b0Q(hc:X.calm=true)(hu:X.A.units+64<cLine):A9 X (.type "set") (b6p X):=by
 intro pins s σ H xs us Q I rv h
 obtain⟨a,ys,F,ps,ks,rfl,ha,s0,hk,rl,nd,h63,hf,q⟩:=h
 obtain⟨u,rfl,ru⟩:=Z3 rv
 cases ru
 obtain⟨_,its,n,vv,e⟩:=(show t4 X.prog X.w H s.heap a (.lst ys) from I.hok a _ ha)
 obtain⟨p1,_⟩:=a1T I s0 hk rl vv
 have ev:=a8y hk rl vv
 have hlen:its.length=ks.length:=by rw [<-T8 p1,AW]
 refine b9l (l:=a) (items:=its.toArray) (kss:=ks) (I.ok.hd hc) ⟨_,e,rfl,n,rfl⟩ nd (by lia) (by simp;lia) (by simpa using a4m p1 hf) fun h' tk es ep hS hT hk=> ?_
 refine⟨.ref s.heap.objs.size,_,I.laid (a:=s.heap.objs.size) (t':=tk) (o:= .ext (a7h X s.heap.objs.size ys)) (fun b o e=>hk b o (AX e) e) (AO _) ⟨⟨es,ep,hS, ?_⟩, ?_, ?_⟩,rfl,q _ (I.hok.fresh (AO _))⟩
 ·rw [<-ev];simpa using hT
 ·obtain⟨o,_,ho,_⟩:=hS;exact⟨o,ho⟩
 ·exact fun h1 h2 p k=>let ⟨es,ep,h1,h2⟩:=p;⟨es,ep,h1.at' k,h2⟩
def b3K(X:Cx):List V->Hp->VK->Prop:=fun xs H Q=>∃(p:AB) (ys:List V) (F:Hp) (ps:List PV) (ks:List (List g9)),xs=[.ref p]/\H p=some (.ext (a7h X p ys))/\i9 F H/\E5 ps=some ks/\i0 X.K F ps ys/\okK ks=true/\ks.length<=63/\
 ∀q zs,H q=none->i0 X.K F ((V1 J9 ks).map kT) zs->Q (.ref q) (m8 H q (.lst zs))
theorem a54:∀{ps:List PV} {ks:List (List g9)} {xs:List V},E5 ps=some ks->i0 X.K F ps xs->j3 xs (xs.map rvV)
 |[],ks,xs,h,r=>by cases h;cases r;exact .nil
 | .tuple qs::ps,ks,xs,h,r=>by
   unfold E5 at h
   obtain⟨k,h1,h⟩:=bind_some h
   cases h2:E5 ps with
   |none=>rw [h2] at h;cases h
   |some t=>
    obtain⟨x,xr,rfl,rx,rr⟩:=r
    obtain⟨a,xs',rfl,hq,rl⟩:=rx
    exact .cons rfl (a54 h2 rr)
 | .none::_,_,_,h,_=>nomatch h
 | .bool _::_,_,_,h,_=>nomatch h
 | .int _::_,_,_,h,_=>nomatch h
 | .str _::_,_,_,h,_=>nomatch h
 | .list _::_,_,_,h,_=>nomatch h
 | .dict _::_,_,_,h,_=>nomatch h
theorem a76{α β:Type}{R:α->β->Prop}{l l':List α}(p:l.Perm l'):∀{m:List β},Paired R l m->∃m',Paired R l' m'/\m.Perm m':=by
 induction p with
 |nil=>intro m h;exact⟨m,h,List.Perm.refl _⟩
 |cons x p ih=>
  intro m h
  cases h with
  |cons r t=>
   obtain⟨m',h1,h2⟩:=ih t
   exact⟨_::m',.cons r h1,h2.cons _⟩
 |swap x y l=>
  intro m h
  cases h with
  |cons r t=>
   cases t with
   |cons r2 t2=>exact⟨_,.cons r2 (.cons r t2),List.Perm.swap _ _ _⟩
 |trans p q i1 i2=>
  intro m h
  obtain⟨m1,h1,h2⟩:=i1 h
  obtain⟨m2,h3,h4⟩:=i2 h1
  exact⟨m2,h3,h2.trans h4⟩
theorem a8M(hc:X.calm=true):A9 X (.builtin "sorted") (b3K X):=by
 intro pins s σ H xs us Q I rv h
 obtain⟨p,ys,F,ps,ks,rfl,hp,s0,hk,rl,ok,h63,q⟩:=h
 obtain⟨u,rfl,ru⟩:=Z3 rv
 cases ru
 obtain⟨⟨es,ep,hS,hpm⟩,_,_⟩:=(show t4 X.prog X.w H s.heap p (.ext (a7h X p ys)) from I.hok p _ hp)
 obtain⟨p1,p2⟩:=a1T I s0 hk rl (a54 hk rl)
 have hlen:(ys.map rvV).length=ks.length:=by rw [<-T8 p1];simp
 obtain⟨c,σk,hs⟩:∃c σk,∀k∈ks,k.map sgK=c::σk:=by
  cases ks with
  |nil=>exact⟨false,[],fun k hk=>nomatch hk⟩
  |cons k r=>
   unfold okK at ok
   rw [Bool.and_eq_true] at ok
   cases k with
   |nil=>exact nomatch ok.1
   |cons q0 k=>
    refine⟨sgK q0,k.map sgK,fun j hj=> ?_⟩
    rcases Ab.mp hj with rfl|hj
    ·rfl
    ·have:=List.all_eq_true.mp ok.2 j hj
     simpa using this
 refine a9p (vs0:=ys.map rvV) (κ:=tuples' true) (S:=fun x=>∃k,O7 s.heap x.1 k/\k.map sgK=c::σk) (R:=fun x y=>J9 (kOf s.heap x.1) (kOf s.heap y.1)) (fun Q' E' hq=>a8O (A:=X.A.in1) (I.ok.hd hc) hS fun h' tk d ord kp pm=>hq h' tk d ord kp (pm.trans hpm)) (by lia)
  (fun vs pm h2 s' kp=>⟨fun Q' hq=> ?_,b35 (s:=s') kp⟩) (fun v hv=> ?_) fun h1 h' tk d en us k1 k2 pm pw he=> ?_
 ·obtain⟨m',g1,g2⟩:=a76 pm.symm p1
  exact b1R (s:=s') (a2P kp g1) (by lia) (fun k hk=>hs k (g2.mem_iff.mpr hk)) hq
 ·obtain⟨k,hk,r⟩:=a4l p1 v hv
  exact⟨k,r,hs k hk⟩
 ·have ek:us.map (kOf s.heap)=V1 J9 ks:=by
   symm
   refine a8m a1g (List.pairwise_map.mpr pw) ?_
   have:=pm.map (kOf s.heap)
   rw [T8 p1] at this
   exact this
  have I1:g8 X pins σ H {s with heap:=h1,toks:=tk,drawn:=d}:=b4P (I.kept (t':=tk) k1) d
  obtain⟨zs,v1,r1⟩:=a8h (X:=X) (F:=F) (h:=s.heap) (us:=us) fun u hu=>p2 u (pm.mem_iff.mp hu)
  rw [ek] at r1
  have hf:H h1.objs.size=none:=I1.hok.fresh (AO _)
  have hyl:zs.length<=AN:=by rw [v1.length,pm.length_eq,hlen,sizeLine_eq];lia
  exact⟨.ref h1.objs.size,_,I1.laid (t':=tk) (h':=h') (o:= .lst zs) k2 (AO _) ⟨hyl,us,en,v1,he⟩,rfl,q _ zs hf r1⟩
end
section
variable {X:Cx}
theorem a7w{e:AG}{m:M}{p p2 pos pos2:Pos}(hc:X.calm=true)(hu:X.A.units+64<cLine)(hg:Gl X "sorted")(hm:X.mg "sorted"=none)(hg2:Gl X "set")(hm2:X.mg "set"=none)(ha:EE X e m)
 (hv:bootBuiltins "sorted"=some (.builtin "sorted"):=by rfl) (hv2:bootBuiltins "set"=some (.type "set"):=by rfl)
 (hs:AQ [e] X.env=(false,eval e X.env)::AQ [] X.env:=by rfl) (hpl:(backTo pos2 (AQ [] X.env)).any (·.1)=false:=by rfl)
 (hs2:AQ [.Call (.Name "set" p2) [e] [] pos2] X.env=(false,eval (.Call (.Name "set" p2) [e] [] pos2) X.env)::AQ [] X.env:=by rfl) (hpl2:(backTo pos (AQ [] X.env)).any (·.1)=false:=by rfl):
 EE X (.Call (.Name "sorted" p) [.Call (.Name "set" p2) [e] [] pos2] [] pos) (m1 Q9 m):=
 t7 (a1k (a8M hc) hg hm hv (A4 (a5M (b0Q hc hu) hg2 hm2 hv2 (A4 ha P7 hs) (by decide) (by decide) hs hpl) P7 hs2) (by decide) (by decide) hs2 hpl2) fun σ H Q h0=>p9 h0 fun F ρ r en em k=>by
  obtain⟨rx,e1,e2⟩:=bind_some em
  refine⟨F,ρ,rx,en,e1,fun v F1 H1 o1=> ?_⟩
  have fin:∀{ps:List PV} {ks:List (List g9)} {a:AB} {xs:List V},E5 ps=some ks->H1 a=some (.lst xs)->i0 X.K F1 ps xs->okK ks=true/\ks.Nodup/\ks.length<=63/\ks.all a7B=true->r= .own ((V1 J9 ks).map kT)->b6p X [.ref a] H1 fun v H'=>b3K X [v] H' Q:=by
   intro ps ks a xs e3 ha' rl c er
   subst er
   refine⟨a,xs,F1,ps,ks,rfl,ha',o1.x.fh,e3,rl,c.2.1,c.2.2.1,c.2.2.2,fun p hp=> ?_⟩
   have x1:N7 F1 H1 F1 (m8 H1 p (.ext (a7h X p xs))):=N7.layH o1.x.fh hp
   refine⟨p,xs,F1,ps,ks,rfl,j0,x1.fh,e3,rl,c.1,c.2.2.1,fun q zs hq rz=>k _ F1 _ ?_⟩
   exact m9.trans (o1.x.trans x1) (m9.lst x1.fh hq rz)
  unfold Q9 at e2
  split at e2
  ·rename_i ps
   obtain⟨ks,e3,e2⟩:=bind_some e2
   split at e2
   ·rename_i c
    cases e2
    obtain⟨a,xs,rfl,fa,ha',rl⟩:=o1.rep
    exact fin e3 ha' rl c rfl
   ·cases e2
  ·rename_i ps
   obtain⟨ks,e3,e2⟩:=bind_some e2
   split at e2
   ·rename_i c
    cases e2
    obtain⟨a,xs,rfl,fa,ha',rl⟩:=o1.rep
    exact fin e3 ha' rl c rfl
   ·cases e2
  ·cases e2
end
theorem a7G{ps:List PV}{ks:List (List g9)}(h:E5 ps=some ks)(c:okK ks=true/\ks.Nodup/\ks.length<=63/\ks.all a7B=true):Q9 (.bo (.lst ps))=some (.own ((V1 J9 ks).map kT)):=by
 show(E5 ps).bind _=_
 rw [h,AK,if_pos c]
end PU
set_option maxHeartbeats 4000000
namespace LW
open PySem PySem.Spec PyProof.Rows L2 PU
def a66:PV:=(.tuple [(.str "stay"),(.str "turn"),(.str "half"),(.str "back"),(.str "side"),(.str "flip"),(.str "cross"),(.str "other")])
def x4:List (g9×PV):=[((.inr "stay"),(.tuple [(.int 1),(.int 0),(.int 0),(.int 1)])),((.inr "turn"),(.tuple [(.int 0),(.int 1),(.int (-1)),(.int 0)])),((.inr "half"),(.tuple [(.int (-1)),(.int 0),(.int 0),(.int (-1))])),((.inr "back"),(.tuple [(.int 0),(.int (-1)),(.int 1),(.int 0)])),((.inr "side"),(.tuple [(.int 1),(.int 0),(.int 0),(.int (-1))])),((.inr "flip"),(.tuple [(.int (-1)),(.int 0),(.int 0),(.int 1)])),((.inr "cross"),(.tuple [(.int 0),(.int 1),(.int 1),(.int 0)])),((.inr "other"),(.tuple [(.int 0),(.int (-1)),(.int (-1)),(.int 0)]))]
def R9:PV:=(.str "abcdefghijklmnopqrstuvwxyz")
def E2:PV:=(.int 600)
def a2u:MS:=
 (N1 (m2 (W8 (fun _ j=>0<j) fun i j=> .int (i % j)) (m2 U7 (m2 K9 (m2 (W8 (fun _ j=>0<j) fun i j=> .int (i % j)) (c6 0) (mC (.int 2147483647))) (mC (.int 17))) (m2 K9 (mC (.int 48271)) (m2 U7 (m2 U7 (mC (.int 2)) (c6 1)) (c6 1)))) (mC (.int 2147483629))))
def J1:List PV->Option e9:=J6 0 a2u
def D5:MS:=
 (b7p 2 (W8 a2X fun i j=> .int (i*j)) (c6 0))
def W1:MS:=
 (l6 (r6 2 (mC (.int 1)))
 (l6 (G3 (z0 (b0 (c6 1) f8)) (g0 3) D5)
 (O4 2)))
def y6:List PV->Option e9:=J6 2 W1
def W0:MX:=
 (b0q (a4X (r6 2 (m7 y6 (b0 (c6 1) (b0 (m2 U7 (c6 0) (c6 0)) f8)))))
 (b7w (mtB (m2 (gI fun i j=> .bool (decide (j<i))) (c6 2) (mC E2))) (b6j "TooLarge" ["many"] (b0 (c6 2) f8)) (a4X J5)))
def u0:List PV->Option (e9 ⊕ XT):=b1J 1 W0
def a0E:MS:=
 (A0 1 (N6 (b0 (c6 2) (b0 (c6 3) (b0 (c6 4) f8)))))
def a0F:MS:=
 (G3 (z0 (b0 (c6 0) f8)) (g0 4) a0E)
def M7:MS:=
 (G3 (z0 (b0 (c6 0) f8)) (g0 3) a0F)
def U6:MS:=
 (l6 (r6 1 (a0g f8))
 (l6 (G3 (T4 (m1 a6w (mC a66))) (g0 2) M7)
 (O4 1)))
def v3:List PV->Option e9:=J6 4 U6
def X2:MS:=
 (A0 2 (m2 a2B (c6 3) (c6 4)))
def X3:MS:=
 (G3 (b1p (c6 1)) (g0 4) X2)
def a7n:MS:=
 (l6 (r6 2 (a0g f8))
 (l6 (G3 (T4 (c6 0)) (g0 3) X3)
 (O4 2)))
def W9:List PV->Option e9:=J6 3 a7n
def G0:MS:=
 (a12 2 (r6 2 (m7 W9 (b0 (c6 2) (b0 (a13 (mC R9) a15 (a16 (c6 1))) f8)))))
def G2:M:=
 (N6 (b0 (c6 5) f8))
def G1:MS:=
 (a12 3 (r6 3 (m7 W9 (b0 (c6 3) (b0 (B0 1 (w6 (c6 2)) (g0 5) K4 G2) f8)))))
def a0m:MS:=
 (l6 (r6 2 (a0g (b0 (mC (.str "")) f8)))
 (l6 (r6 3 (a0g (b0 (N6 f8) f8)))
 (l6 (G3 (z0 (b0 (c6 0) f8)) (g0 4) G0)
 (l6 (G3 (z0 (b0 (c6 0) f8)) (g0 4) G1)
 (O4 3)))))
def G7:List PV->Option e9:=J6 3 a0m
def a8J:MS:=
 (l6 (a0G (mtB (m2 gEq (c6 0) (mC (.str "turn")))) (N1 (mC (.str "back"))) J5)
 (l6 (a0G (mtB (m2 gEq (c6 0) (mC (.str "back")))) (N1 (mC (.str "turn"))) J5)
 (O4 0)))
def a0D:List PV->Option e9:=J6 0 a8J
def a3y:MS:=
 (l6 (r6 2 (b7t x4 (c6 0)))
 (N1 (N6 (b0 (m2 K9 (m2 U7 (m2 J8 (c6 2) (mC (.int 0))) (m2 J8 (c6 1) (mC (.int 0)))) (m2 U7 (m2 J8 (c6 2) (mC (.int 1))) (m2 J8 (c6 1) (mC (.int 1))))) (b0 (m2 K9 (m2 U7 (m2 J8 (c6 2) (mC (.int 2))) (m2 J8 (c6 1) (mC (.int 0)))) (m2 U7 (m2 J8 (c6 2) (mC (.int 3))) (m2 J8 (c6 1) (mC (.int 1))))) f8)))))
def F9:List PV->Option e9:=J6 1 a3y
def a0Z:MS:=
 (l6 (r6 2 (m7 a0D (b0 (m2 J8 (c6 1) (mC (.int 0))) f8)))
 (l6 (r6 3 (m7 F9 (b0 (c6 2) (b0 (N6 (b0 (b41 (m2 J8 (c6 1) (mC (.int 1)))) (b0 (b41 (m2 J8 (c6 1) (mC (.int 2)))) f8))) f8))))
 (N1 (N6 (b0 (c6 2) (b0 (m2 (W8 (fun _ j=>0<j) fun i j=> .int (i % j)) (m2 J8 (c6 3) (mC (.int 0))) (c6 0)) (b0 (m2 (W8 (fun _ j=>0<j) fun i j=> .int (i % j)) (m2 J8 (c6 3) (mC (.int 1))) (c6 0)) f8)))))))
def L1:List PV->Option e9:=J6 2 a0Z
def b56:MS:=
 (l6 (r6 3 (m7 F9 (b0 (m2 J8 (c6 1) (mC (.int 0))) (b0 (c6 2) f8))))
 (N1 (N6 (b0 (m2 (W8 (fun _ j=>0<j) fun i j=> .int (i % j)) (m2 K9 (m2 J8 (c6 3) (mC (.int 0))) (m2 J8 (c6 1) (mC (.int 1)))) (c6 0)) (b0 (m2 (W8 (fun _ j=>0<j) fun i j=> .int (i % j)) (m2 K9 (m2 J8 (c6 3) (mC (.int 1))) (m2 J8 (c6 1) (mC (.int 2)))) (c6 0)) f8)))))
def a2C:List PV->Option e9:=J6 1 b56
def X6:M:=
 (m7 a2C (b0 (c6 3) (b0 (c6 1) (b0 (N6 (b0 (c6 2) (b0 (c6 5) f8))) f8))))
def X7:M:=
 (m2 J8 (m2 J8 (c6 0) (m2 J8 (c6 5) (mC (.int 0)))) (m2 J8 (c6 5) (mC (.int 1))))
def a2w:MS:=
 (l6 (r6 3 (m1 J0 (c6 0)))
 (l6 (r6 4 (B0 1 (z0 (b0 (c6 3) f8)) (g0 5) K4 X6))
 (N1 (m2 a0q (mC (.str "")) (B0 1 (w6 (c6 4)) (g0 5) K4 X7)))))
def O3:List PV->Option e9:=J6 2 a2w
def a31:M:=
 (m7 O3 (b0 (c6 0) (b0 (c6 3) (b0 (c6 4) f8))))
def a9F:MS:=
 (l6 (r6 2 (m1 J0 (c6 0)))
 (l6 (r6 3 (m7 L1 (b0 (c6 2) (b0 (c6 1) f8))))
 (N1 (m1 a1O (B0 1 (z0 (b0 (c6 2) f8)) (g0 4) K4 a31)))))
def a3d:List PV->Option e9:=J6 2 a9F
def M6:MS:=
 (a1i 4 (m7 a3d (b0 (c6 5) (b0 (c6 6) f8))) (mC (.bool true)))
def y8:MS:=
 (a0G (mtB (a7T true 4 (c6 5))) (l6 (A0 3 (c6 5))
 (a12 2 (G3 (T4 (c6 2)) (g0 6) M6))) J5)
def a2s:MX:=
 (b0q (a70 u0 (b0 (c6 0) (b0 (c6 1) f8)))
 (a4X (l6 (r6 2 (m7 v3 (b0 (c6 0) f8)))
 (l6 (r6 3 (a0g f8))
 (l6 (r6 4 a7U)
 (l6 (G3 (T4 (m7 G7 (b0 (c6 0) (b0 (c6 1) f8)))) (g0 5) y8)
 (O4 3)))))))
def C1:List PV->Option (e9 ⊕ XT):=b1J 5 a2s
def a0n:MS:=
 (l6 (a0G (mtB (m2 b4L (c6 1) (m1 J0 (c6 0)))) (N1 (m2 J8 (c6 0) (c6 1))) J5)
 (N1 (mC (.int 0))))
def G8:List PV->Option e9:=J6 0 a0n
def B3:MS:=
 (l6 (A0 3 (c6 4))
 (r6 4 (m7 a2C (b0 (c6 0) (b0 (c6 1) (b0 (c6 4) f8))))))
def a0Y:MS:=
 (l6 (r6 3 (a0g (b0 (c6 2) f8)))
 (l6 (r6 4 (m7 a2C (b0 (c6 0) (b0 (c6 1) (b0 (c6 2) f8)))))
 (l6 (U3 (mtB (m2 gNe (c6 4) (c6 2))) B3 100)
 (O4 3))))
def D3:List PV->Option e9:=J6 2 a0Y
def J2:MS:=
 (a1i 4 (c6 8) (mC (.bool true)))
def y9:MS:=
 (a0G (mtB (a7T true 4 (N6 (b0 (c6 5) (b0 (c6 6) f8))))) (l6 (r6 7 (a10 [("round_from",D3)] 2 (b0 (c6 0) (b0 (c6 1) (b0 (N6 (b0 (c6 5) (b0 (c6 6) f8))) f8)))))
 (l6 (a12 7 (A0 3 (c6 7)))
 (a12 7 (G3 (T4 (c6 7)) (g0 8) J2)))) J5)
def J3:MS:=
 (G3 (z0 (b0 (c6 0) f8)) (g0 6) y9)
def a7o:MS:=
 (l6 (r6 3 (a0g f8))
 (l6 (r6 4 a7U)
 (l6 (G3 (z0 (b0 (c6 0) f8)) (g0 5) J3)
 (O4 3))))
def a1c:List PV->Option e9:=J6 6 a7o
def a7p:MS:=
 (N1 (m7 a1c (b0 (c6 0) (b0 (c6 1) (b0 (mC (y4 "round_from")) f8)))))
def X1:List PV->Option e9:=J6 0 a7p
def P6:M:=
 (m7 y6 (b0 (c6 1) (b0 (m1 J0 (m7 X1 (b0 (c6 0) (b0 (c6 4) f8)))) f8)))
def a3x:MS:=
 (l6 (r6 2 (m7 v3 (b0 (c6 0) f8)))
 (l6 (r6 3 (m1 b4O (B0 1 (w6 (c6 2)) (g0 4) K4 P6)))
 (N1 (m2 (W8 a3p fun i j=> .int (i / j)) (c6 3) (m1 J0 (c6 2))))))
def S7:List PV->Option e9:=J6 2 a3x
def a5e:MS:=
 (l6 (b43 [3,4] (c6 2))
 (l6 (b43 [5,6,7] (c6 1))
 (l6 (a0G (mtB (m2 (a20 false) (c6 5) (N6 (b0 (mC (.str "turn")) (b0 (mC (.str "back")) (b0 (mC (.str "cross")) (b0 (mC (.str "other")) f8))))))) (b7s 3 4 (b0 (c6 4) (b0 (c6 3) f8))) J5)
 (l6 (a0G (mtB (m2 (a20 false) (c6 5) (N6 (b0 (mC (.str "half")) (b0 (mC (.str "flip")) (b0 (mC (.str "back")) (b0 (mC (.str "other")) f8))))))) (r6 3 (m2 (gI fun i j=> .int (i - j)) (mC (.int 0)) (c6 3))) J5)
 (l6 (a0G (mtB (m2 (a20 false) (c6 5) (N6 (b0 (mC (.str "half")) (b0 (mC (.str "side")) (b0 (mC (.str "turn")) (b0 (mC (.str "other")) f8))))))) (r6 4 (m2 (gI fun i j=> .int (i - j)) (mC (.int 0)) (c6 4))) J5)
 (N1 (N6 (b0 (m2 (W8 (fun _ j=>0<j) fun i j=> .int (i % j)) (m2 K9 (c6 3) (c6 6)) (c6 0)) (b0 (m2 (W8 (fun _ j=>0<j) fun i j=> .int (i % j)) (m2 K9 (c6 4) (c6 7)) (c6 0)) f8)))))))))
def R1:List PV->Option e9:=J6 5 a5e
def M8:MS:=
 (a1i 3 (m7 R1 (b0 (c6 2) (b0 (c6 1) (b0 (N6 (b0 (c6 4) (b0 (c6 5) f8))) f8)))) (m2 J8 (m2 J8 (c6 0) (c6 4)) (c6 5)))
def D4:MS:=
 (G3 (z0 (b0 (c6 2) f8)) (g0 5) M8)
def X4:M:=
 (b0l 3 (b0 (c6 6) (b0 (c6 7) f8)))
def X5:M:=
 (m2 a0q (mC (.str "")) (B0 1 (z0 (b0 (c6 2) f8)) (g0 7) K4 X4))
def a2v:MS:=
 (l6 (r6 2 (m1 J0 (c6 0)))
 (l6 (r6 3 a7U)
 (l6 (G3 (z0 (b0 (c6 2) f8)) (g0 4) D4)
 (N1 (m1 a1O (B0 1 (z0 (b0 (c6 2) f8)) (g0 6) K4 X5))))))
def O2:List PV->Option e9:=J6 4 a2v
def a6D:MS:=
 (A0 1 (N6 (b0 (c6 2) (b0 (c6 3) (b0 (c6 4) f8)))))
def a6E:MS:=
 (G3 (z0 (b0 (c6 0) f8)) (g0 4) a6D)
def a1f:MS:=
 (G3 (z0 (b0 (c6 0) f8)) (g0 3) a6E)
def a5d:MS:=
 (l6 (r6 1 (a0g f8))
 (l6 (G3 (T4 (a0g (b0 (mC (.str "stay")) (b0 (mC (.str "turn")) (b0 (mC (.str "half")) (b0 (mC (.str "back")) (b0 (mC (.str "side")) (b0 (mC (.str "flip")) (b0 (mC (.str "cross")) (b0 (mC (.str "other")) f8)))))))))) (g0 2) a1f)
 (O4 1)))
def R0:List PV->Option e9:=J6 4 a5d
def M9:M:=
 (m7 O2 (b0 (c6 0) (b0 (c6 1) f8)))
def a2t:MS:=
 (N1 (m1 a98 (B0 1 (w6 (m7 R0 (b0 (m1 J0 (c6 0)) f8))) (g0 1) K4 M9)))
def u4:List PV->Option e9:=J6 0 a2t
def U8:M:=
 (m2 J8 (c6 3) (m2 (W8 (fun _ j=>0<j) fun i j=> .int (i % j)) (m7 J1 (b0 (c6 2) (b0 (m2 K9 (m2 U7 (c6 4) (c6 0)) (c6 5)) f8))) (c6 1)))
def U9:M:=
 (m2 a0q (mC (.str "")) (B0 1 (z0 (b0 (c6 0) f8)) (g0 5) K4 U8))
def a0X:MS:=
 (l6 (r6 3 (mC (.str "abcdefghijklmnopqrstuvwxyz")))
 (N1 (m1 a1O (B0 1 (z0 (b0 (c6 0) f8)) (g0 4) K4 U9))))
def L0:List PV->Option e9:=J6 1 a0X
def a30:M:=
 (c6 9)
def a3X:MS:=
 (a0G (mtB (m2 gNe (m7 u4 (b0 (c6 6) f8)) (c6 6))) (N1 (mC (.bool false))) J5)
def a3Y:MS:=
 (a0G (mtB (m2 (a20 true) (m7 u4 (b0 (m7 L0 (b0 (c6 2) (b0 (c6 3) (b0 (m2 J8 (c6 0) (c6 7)) f8)))) f8)) (c6 4))) (N1 (mC (.bool false))) J5)
def b55:MS:=
 (l6 (r6 1 (m7 J1 (b0 (m7 G8 (b0 (c6 0) (b0 (mC (.int 0)) f8))) (b0 (mC (.int 0)) f8))))
 (l6 (r6 2 (m2 J8 (a0g (b0 (mC (.int 1)) (b0 (mC (.int 2)) (b0 (mC (.int 2)) (b0 (mC (.int 3)) f8))))) (m2 (W8 (fun _ j=>0<j) fun i j=> .int (i % j)) (c6 1) (mC (.int 4)))))
 (l6 (r6 3 (m2 J8 (a0g (b0 (m2 K9 (mC (.int 1)) (m2 (W8 (fun _ j=>0<j) fun i j=> .int (i % j)) (m2 (W8 a3p fun i j=> .int (i / j)) (c6 1) (mC (.int 4))) (mC (.int 26)))) (b0 (m2 K9 (mC (.int 1)) (m2 (W8 (fun _ j=>0<j) fun i j=> .int (i % j)) (m2 (W8 a3p fun i j=> .int (i / j)) (c6 1) (mC (.int 4))) (mC (.int 3)))) (b0 (mC (.int 1)) f8)))) (m2 (gI fun i j=> .int (i - j)) (c6 2) (mC (.int 1)))))
 (l6 (a0G (mtB (m2 gEq (m2 (W8 (fun _ j=>0<j) fun i j=> .int (i % j)) (m2 (W8 a3p fun i j=> .int (i / j)) (c6 1) (mC (.int 128))) (mC (.int 10))) (mC (.int 0)))) (r6 3 (m2 J8 (a0g (b0 (c6 3) (b0 (mC (.int 4)) (b0 (mC (.int 2)) f8)))) (m2 (gI fun i j=> .int (i - j)) (c6 2) (mC (.int 1))))) J5)
 (l6 (r6 4 (m7 (left C1) (b0 (c6 2) (b0 (c6 3) f8))))
 (l6 (a0G (a86 (a4a (mtV (m1 (a7D "list") (c6 4)))) (a86 (mtB (m2 gNe (c6 4) (m1 Q9 (c6 4)))) (mtB (m2 gNe (m1 J0 (c6 4)) (m7 S7 (b0 (c6 2) (b0 (c6 3) f8))))))) (N1 (mC (.bool false))) J5)
 (l6 (a0G (mtB (m2 gNe (B0 1 (w6 (c6 4)) (g0 9) (a86 (a4a (mtV (m1 (a7D "tuple") (c6 9)))) (mtB (m2 gNe (m1 J0 (c6 9)) (c6 2)))) a30) (a0g f8))) (N1 (mC (.bool false))) J5)
 (l6 (r6 5 (m2 (W8 (fun _ j=>0<j) fun i j=> .int (i % j)) (m2 (W8 a3p fun i j=> .int (i / j)) (c6 1) (mC (.int 512))) (m1 J0 (c6 4))))
 (l6 (G3 (T4 (a13 (m2 K9 (a13 (c6 4) (a16 (c6 5)) a15) (a13 (c6 4) a15 (a16 (c6 5)))) a15 (a16 (mC (.int 12))))) (g0 6) a3X)
 (l6 (G3 (b0m (b0 (mC (.int 1)) (b0 (m2 (gI fun i j=> .int (if j<i then j else i)) (m1 J0 (c6 0)) (mC (.int 11))) f8))) (g0 7) a3Y)
 (l6 (r6 8 (m1 a6u (c6 4)))
 (l6 (A0 4 (N6 f8))
 (N1 (mOr (m2 gEq (m2 (W8 (fun _ j=>0<j) fun i j=> .int (i % j)) (m2 (W8 a3p fun i j=> .int (i / j)) (c6 1) (mC (.int 128))) (mC (.int 10))) (mC (.int 0))) (m2 gEq (m7 (left C1) (b0 (c6 2) (b0 (c6 3) f8))) (c6 8))))))))))))))))
def b2M:List PV->Option e9:=J6 8 b55
end LW
set_option maxHeartbeats 1000000
namespace LW
open PySem PySem.Spec PyProof.Rows L2 PU
def k6:List Str:=[AM "stay",AM "turn",AM "half",AM "back",AM "side",AM "flip",AM "cross",AM "other"]
def o8(w:Str)(a b:Int):Int:=if w=AM "stay" then a else if w=AM "turn" then b else if w=AM "half" then -a else if w=AM "back" then -b else if w=AM "side" then a else if w=AM "flip" then -a else if w=AM "cross" then b else -b
def n8(w:Str)(a b:Int):Int:=if w=AM "stay" then b else if w=AM "turn" then -a else if w=AM "half" then -b else if w=AM "back" then a else if w=AM "side" then -b else if w=AM "flip" then b else if w=AM "cross" then a else -a
theorem B2{w:Str}(h:w∈k6):w=AM "stay"\/w=AM "turn"\/w=AM "half"\/w=AM "back"\/w=AM "side"\/w=AM "flip"\/w=AM "cross"\/w=AM "other":=by
 simpa [k6] using h
theorem b9G:K3 x4 (.inr (AM "stay"))=some (.tuple [.int 1,.int 0,.int 0,.int 1]):=by kernel_rfl
theorem b9H:K3 x4 (.inr (AM "turn"))=some (.tuple [.int 0,.int 1,.int (-1),.int 0]):=by kernel_rfl
theorem b9I:K3 x4 (.inr (AM "half"))=some (.tuple [.int (-1),.int 0,.int 0,.int (-1)]):=by kernel_rfl
theorem b9J:K3 x4 (.inr (AM "back"))=some (.tuple [.int 0,.int (-1),.int 1,.int 0]):=by kernel_rfl
theorem b9K:K3 x4 (.inr (AM "side"))=some (.tuple [.int 1,.int 0,.int 0,.int (-1)]):=by kernel_rfl
theorem b9L:K3 x4 (.inr (AM "flip"))=some (.tuple [.int (-1),.int 0,.int 0,.int 1]):=by kernel_rfl
theorem b9M:K3 x4 (.inr (AM "cross"))=some (.tuple [.int 0,.int 1,.int 1,.int 0]):=by kernel_rfl
theorem b9N:K3 x4 (.inr (AM "other"))=some (.tuple [.int 0,.int (-1),.int (-1),.int 0]):=by kernel_rfl
theorem a2Q{w:Str}(hw:w∈k6)(a b:Int):F9 [.str w,.tuple [.int a,.int b]]=some (.val (.tuple [.int (o8 w a b),.int (n8 w a b)])):=by
 have key:∀x y z t r c:Int,K3 x4 (.inr w)=some (.tuple [.int x,.int y,.int z,.int t])->(-2<x/\x<2)->(-2<y/\y<2)->(-2<z/\z<2)->(-2<t/\t<2)->x*a+y*b=r->z*a+t*b=c->
  F9 [.str w,.tuple [.int a,.int b]]=some (.val (.tuple [.int r,.int c])):=by
  intro x y z t r c h hx hy hz ht e1 e2
  subst e1 e2
  unfold F9 a3y
  simp (disch:=omega) only [Q7,a1b,a09,a1a,a3Q,b2G,m6,n4,f9,h9,d9,c8,d6,t6,j7,A7,o5,B8,k4,k7,k9,l9,b28,b79,AK,BD,AR,Ak,Aa,Ae,Ah,Ag,AY,AZ,AT,Aj,↓reduceIte,sz,Nat.reduceAdd,Au,h]
 rcases B2 hw with rfl|rfl|rfl|rfl|rfl|rfl|rfl|rfl
 ·exact key _ _ _ _ _ _ b9G (by decide) (by decide) (by decide) (by decide) (by show _=a;lia) (by show _=b;lia)
 ·exact key _ _ _ _ _ _ b9H (by decide) (by decide) (by decide) (by decide) (by show _=b;lia) (by show _= -a;lia)
 ·exact key _ _ _ _ _ _ b9I (by decide) (by decide) (by decide) (by decide) (by show _= -a;lia) (by show _= -b;lia)
 ·exact key _ _ _ _ _ _ b9J (by decide) (by decide) (by decide) (by decide) (by show _= -b;lia) (by show _=a;lia)
 ·exact key _ _ _ _ _ _ b9K (by decide) (by decide) (by decide) (by decide) (by show _=a;lia) (by show _= -b;lia)
 ·exact key _ _ _ _ _ _ b9L (by decide) (by decide) (by decide) (by decide) (by show _= -a;lia) (by show _=b;lia)
 ·exact key _ _ _ _ _ _ b9M (by decide) (by decide) (by decide) (by decide) (by show _=b;lia) (by show _=a;lia)
 ·exact key _ _ _ _ _ _ b9N (by decide) (by decide) (by decide) (by decide) (by show _= -b;lia) (by show _= -a;lia)
theorem b7i{w:Str}(hw:w∈k6){s:Int}(hs:0<s)(d r a b:Int):a2C [.int s,.tuple [.str w,.int d,.int r],.tuple [.int a,.int b]]=some (.val (.tuple [.int ((o8 w a b+d) % s),.int ((n8 w a b+r) % s)])):=by
 unfold a2C b56
 simp (disch:=omega) only [Q7,Q8,a09,a1a,a3Q,m6,n4,f9,h9,d9,c8,d6,t6,i7,j7,A7,o5,B8,k4,k7,k9,l9,AK,AR,Ak,Aa,Ae,Ah,Ag,AY,AZ,AT,Aj,↓reduceIte,sz,Nat.reduceAdd,Au,a2Q hw a b]
abbrev T3(w:Str)(d r:Int):PV:= .tuple [.str w,.int d,.int r]
theorem a3l{w:Str}(hw:w∈k6)(a b x y:Int):o8 w (a+x) (b+y)=o8 w a b+o8 w x y:=by
 rcases B2 hw with rfl|rfl|rfl|rfl|rfl|rfl|rfl|rfl
 ·show a+x=a+x;rfl
 ·show b+y=b+y;rfl
 ·show -(a+x)= -a+ -x;lia
 ·show -(b+y)= -b+ -y;lia
 ·show a+x=a+x;rfl
 ·show -(a+x)= -a+ -x;lia
 ·show b+y=b+y;rfl
 ·show -(b+y)= -b+ -y;lia
theorem a27{w:Str}(hw:w∈k6)(a b x y:Int):n8 w (a+x) (b+y)=n8 w a b+n8 w x y:=by
 rcases B2 hw with rfl|rfl|rfl|rfl|rfl|rfl|rfl|rfl
 ·show b+y=b+y;rfl
 ·show -(a+x)= -a+ -x;lia
 ·show -(b+y)= -b+ -y;lia
 ·show a+x=a+x;rfl
 ·show -(b+y)= -b+ -y;lia
 ·show b+y=b+y;rfl
 ·show a+x=a+x;rfl
 ·show -(a+x)= -a+ -x;lia
theorem b3P{w:Str}(hw:w∈k6)(s x y:Int):∃k,o8 w (s*x) (s*y)=s*k:=by
 rcases B2 hw with rfl|rfl|rfl|rfl|rfl|rfl|rfl|rfl
 ·exact⟨x,rfl⟩
 ·exact⟨y,rfl⟩
 ·exact⟨-x,by show -(s*x)=s* -x;rw [Int.mul_neg]⟩
 ·exact⟨-y,by show -(s*y)=s* -y;rw [Int.mul_neg]⟩
 ·exact⟨x,rfl⟩
 ·exact⟨-x,by show -(s*x)=s* -x;rw [Int.mul_neg]⟩
 ·exact⟨y,rfl⟩
 ·exact⟨-y,by show -(s*y)=s* -y;rw [Int.mul_neg]⟩
theorem b2a{w:Str}(hw:w∈k6)(s x y:Int):∃k,n8 w (s*x) (s*y)=s*k:=by
 rcases B2 hw with rfl|rfl|rfl|rfl|rfl|rfl|rfl|rfl
 ·exact⟨y,rfl⟩
 ·exact⟨-x,by show -(s*x)=s* -x;rw [Int.mul_neg]⟩
 ·exact⟨-y,by show -(s*y)=s* -y;rw [Int.mul_neg]⟩
 ·exact⟨x,rfl⟩
 ·exact⟨-y,by show -(s*y)=s* -y;rw [Int.mul_neg]⟩
 ·exact⟨y,rfl⟩
 ·exact⟨x,rfl⟩
 ·exact⟨-x,by show -(s*x)=s* -x;rw [Int.mul_neg]⟩
theorem a7X(x s k d:Int):(x+s*k+d) % s=(x+d) % s:=by
 rw [Int.add_right_comm,Int.add_mul_emod_self_left]
theorem a6J(x s:Int):x % s=x+s*(-(x / s)):=by
 have:=Int.emod_add_mul_ediv x s
 rw [Int.mul_neg]
 lia
theorem a3m{w:Str}(hw:w∈k6)(s x y e:Int):(o8 w (x % s) (y % s)+e) % s=(o8 w x y+e) % s:=by
 rw [a6J x s,a6J y s,a3l hw]
 obtain⟨k,hk⟩:=b3P hw s (-(x / s)) (-(y / s))
 rw [hk,a7X]
theorem a28{w:Str}(hw:w∈k6)(s x y e:Int):(n8 w (x % s) (y % s)+e) % s=(n8 w x y+e) % s:=by
 rw [a6J x s,a6J y s,a27 hw]
 obtain⟨k,hk⟩:=b2a hw s (-(x / s)) (-(y / s))
 rw [hk,a7X]
def mat(w:Str):Int×Int×Int×Int:=(o8 w 1 0,o8 w 0 1,n8 w 1 0,n8 w 0 1)
theorem a0c{w:Str}(hw:w∈k6)(a b:Int):o8 w a b=(mat w).1*a+(mat w).2.1*b:=by
 rcases B2 hw with rfl|rfl|rfl|rfl|rfl|rfl|rfl|rfl
 ·show a=1*a+0*b;lia
 ·show b=0*a+1*b;lia
 ·show -a=(-1)*a+ -0*b;lia
 ·show -b= -0*a+(-1)*b;lia
 ·show a=1*a+0*b;lia
 ·show -a=(-1)*a+ -0*b;lia
 ·show b=0*a+1*b;lia
 ·show -b= -0*a+(-1)*b;lia
theorem Z4{w:Str}(hw:w∈k6)(a b:Int):n8 w a b=(mat w).2.2.1*a+(mat w).2.2.2*b:=by
 rcases B2 hw with rfl|rfl|rfl|rfl|rfl|rfl|rfl|rfl
 ·show b=0*a+1*b;lia
 ·show -a=(-1)*a+ -0*b;lia
 ·show -b= -0*a+(-1)*b;lia
 ·show a=1*a+0*b;lia
 ·show -b= -0*a+(-1)*b;lia
 ·show b=0*a+1*b;lia
 ·show a=1*a+0*b;lia
 ·show -a=(-1)*a+ -0*b;lia
def S0(w:Str):Str:=if w=AM "turn" then AM "back" else if w=AM "back" then AM "turn" else w
theorem a8z{a:Str}(ha:a∈k6):a0D [.str a]=some (.val (.str (S0 a))):=by
 rcases B2 ha with rfl|rfl|rfl|rfl|rfl|rfl|rfl|rfl<;>kernel_rfl
theorem b31:AM "stay"∈k6:=by decide+kernel
theorem b6J:(k6.all fun a=>decide (S0 a∈k6)&& decide (S0 (S0 a)=a))=true:=by decide+kernel
theorem a2x{a:Str}(ha:a∈k6):S0 a∈k6/\S0 (S0 a)=a:=by
 have h:=List.all_eq_true.mp b6J a ha
 simp only [Bool.and_eq_true,decide_eq_true_eq] at h
 exact h
theorem a8K{w:Str}(hw:w∈k6)(x y:Int):o8 (S0 w) (o8 w x y) (n8 w x y)=x/\n8 (S0 w) (o8 w x y) (n8 w x y)=y:=by
 rcases B2 hw with rfl|rfl|rfl|rfl|rfl|rfl|rfl|rfl
 ·exact⟨by show x=x;rfl,by show y=y;rfl⟩
 ·exact⟨by show - -x=x;lia,by show y=y;rfl⟩
 ·exact⟨by show - -x=x;lia,by show - -y=y;lia⟩
 ·exact⟨by show x=x;rfl,by show - -y=y;lia⟩
 ·exact⟨by show x=x;rfl,by show - -y=y;lia⟩
 ·exact⟨by show - -x=x;lia,by show y=y;rfl⟩
 ·exact⟨by show x=x;rfl,by show y=y;rfl⟩
 ·exact⟨by show - -x=x;lia,by show - -y=y;lia⟩
def lr(s:Int)(w:Str)(d t a b:Int):Int:=(o8 w a b+d) % s
def lc(s:Int)(w:Str)(d t a b:Int):Int:=(n8 w a b+t) % s
def bd(n:Int)(w:Str)(d t:Int):Int:=o8 (S0 w) (-d) (-t) % n
def bt(n:Int)(w:Str)(d t:Int):Int:=n8 (S0 w) (-d) (-t) % n
theorem a32{n:Int}(hn:0<n)(w:Str)(d t a b:Int):(0<=lr n w d t a b/\lr n w d t a b<n)/\0<=lc n w d t a b/\lc n w d t a b<n:=
 ⟨⟨Int.emod_nonneg _ (by lia),Int.emod_lt_of_pos _ (by lia)⟩,Int.emod_nonneg _ (by lia),Int.emod_lt_of_pos _ (by lia)⟩
theorem b3Q{w:Str}(hw:w∈k6)(x y d t:Int):o8 w x y+o8 w (-d) (-t)=o8 w (x - d) (y - t):=by
 rw [<-a3l hw];congr 1
theorem b2b{w:Str}(hw:w∈k6)(x y d t:Int):n8 w x y+n8 w (-d) (-t)=n8 w (x - d) (y - t):=by
 rw [<-a27 hw];congr 1
theorem a3z{n:Int}(hn:0<n){w:Str}(hw:w∈k6)(d t:Int){a b:Int}(ha:0<=a/\a<n)(hb:0<=b/\b<n):
 lr n (S0 w) (bd n w d t) (bt n w d t) (lr n w d t a b) (lc n w d t a b)=a/\lc n (S0 w) (bd n w d t) (bt n w d t) (lr n w d t a b) (lc n w d t a b)=b:=by
 have h1:=(a2x hw).1
 unfold lr lc bd bt
 constructor
 ·rw [Int.add_emod_emod,a3m h1,b3Q h1,Int.add_sub_cancel,Int.add_sub_cancel,(a8K hw a b).1,Int.emod_eq_of_lt ha.1 ha.2]
 ·rw [Int.add_emod_emod,a28 h1,b2b h1,Int.add_sub_cancel,Int.add_sub_cancel,(a8K hw a b).2,Int.emod_eq_of_lt hb.1 hb.2]
theorem a67{w:Str}(hw:w∈k6)(x y:Int):o8 w (o8 (S0 w) x y) (n8 (S0 w) x y)=x/\n8 w (o8 (S0 w) x y) (n8 (S0 w) x y)=y:=by
 obtain⟨h1,h2⟩:=a2x hw
 have:=a8K h1 x y
 rw [h2] at this
 exact this
theorem b20{n:Int}(hn:0<n){w:Str}(hw:w∈k6)(d t:Int){a b:Int}(ha:0<=a/\a<n)(hb:0<=b/\b<n):
 lr n w d t (lr n (S0 w) (bd n w d t) (bt n w d t) a b) (lc n (S0 w) (bd n w d t) (bt n w d t) a b)=a/\lc n w d t (lr n (S0 w) (bd n w d t) (bt n w d t) a b) (lc n (S0 w) (bd n w d t) (bt n w d t) a b)=b:=by
 have h1:=(a2x hw).1
 have e1:∀x y e:Int,(o8 w ((x+bd n w d t) % n) ((y+bt n w d t) % n)+e) % n=(o8 w x y+ - d+e) % n:=fun x y e=>by
  rw [a3m hw,a3l hw,Int.add_assoc,<-Int.add_emod_emod,show(o8 w (bd n w d t) (bt n w d t)+e) % n=(-d+e) % n from ?_,Int.add_emod_emod,Int.add_assoc]
  unfold bd bt
  rw [a3m hw,(a67 hw _ _).1]
 have e2:∀x y e:Int,(n8 w ((x+bd n w d t) % n) ((y+bt n w d t) % n)+e) % n=(n8 w x y+ - t+e) % n:=fun x y e=>by
  rw [a28 hw,a27 hw,Int.add_assoc,<-Int.add_emod_emod,show(n8 w (bd n w d t) (bt n w d t)+e) % n=(-t+e) % n from ?_,Int.add_emod_emod,Int.add_assoc]
  unfold bd bt
  rw [a28 hw,(a67 hw _ _).2]
 unfold lr lc
 rw [e1,e2,(a67 hw _ _).1,(a67 hw _ _).2,Int.add_assoc,Int.add_assoc,Int.add_left_neg,Int.add_left_neg,Int.add_zero,Int.add_zero,Int.emod_eq_of_lt ha.1 ha.2,Int.emod_eq_of_lt hb.1 hb.2]
 exact⟨rfl,rfl⟩
def v9(n:Nat)(f:Nat->Nat->Nat):PV:=c9 ((AS n).map fun r=>(AS n).map fun c=>f r c)
theorem a00(n:Nat)(f:Nat->Nat->Nat):J0 (.val (v9 n f))=some (.val (.int n)):=by
 show J0 (.val (.tuple _))=_
 rw [b2J,AW,AW,At]
theorem a9I{n:Nat}{f:Nat->Nat->Nat}{i:Int}(h0:0<=i)(h1:i<n):J8 (.val (v9 n f)) (.val (.int i))=some (.val (row ((AS n).map fun c=>f i.toNat c))):=by
 refine a08 ?_
 rw [a3w h0,Aw,Aw,List.getElem?_range (by lia)]
 rfl
theorem b3O{n:Nat}{g:Nat->Nat}{j:Int}(h0:0<=j)(h1:j<n)(hn:n<=16777216):J8 (.val (row ((AS n).map g))) (.val (.int j))=some (.val (row [g j.toNat])):=by
 refine b6b (by rw [AW,At];exact hn) ?_
 rw [a3w h0,Aw,List.getElem?_range (by lia)]
 rfl
theorem tn(k:Nat):((k:Nat):Int).toNat=k:=by lia
theorem b0f{w:Str}(hw:w∈k6){s:Int}(hs:0<s)(d r a b:Int):a2C [.int s,.tuple [.str w,.int d,.int r],.tuple [.int a,.int b]]=some (.val (.tuple [.int (lr s w d r a b),.int (lc s w d r a b)])):=b7i hw hs d r a b
theorem b8c{a:Str}(ha:a∈k6){s:Int}(hs:0<s)(d r:Int):L1 [.int s,T3 a d r]=some (.val (T3 (S0 a) (bd s a d r) (bt s a d r))):=by
 unfold L1 a0Z bd bt
 simp (disch:=omega) only [Q8,a09,a1a,a3Q,m6,n4,f9,h9,d9,c8,d6,t6,i7,j7,A7,o5,B8,k4,k7,k9,l9,b26,b7x,AK,AR,Ak,Aa,Ae,Ah,Ag,AY,AZ,AT,Aj,↓reduceIte,sz,Nat.reduceAdd,Au,a8z ha,a2Q (a2x ha).1]
theorem a6K{n:Nat}(hn:0<n)(x:Int):0<=x % n/\x % n<n:=⟨Int.emod_nonneg _ (by lia),Int.emod_lt_of_pos _ (by lia)⟩
def mvd(n:Nat)(f:Nat->Nat->Nat)(w:Str)(d t:Int)(r c:Nat):Nat:=f (lr n (S0 w) (bd n w d t) (bt n w d t) r c).toNat (lc n (S0 w) (bd n w d t) (bt n w d t) r c).toNat
theorem a17{n:Nat}(hn:0<n)(f:Nat->Nat->Nat){w:Str}(hw:w∈k6)(d t:Int){r c:Nat}(hr:r<n)(hc:c<n):mvd n f w d t (lr n w d t r c).toNat (lc n w d t r c).toNat=f r c:=by
 obtain⟨⟨b1,b2⟩,b3,b4⟩:=a32 (n:=(n:Int)) (by lia) w d t r c
 have h:=a3z (n:=(n:Int)) (by lia) hw d t (a:=r) (b:=c) (by lia) (by lia)
 unfold mvd
 rw [Int.toNat_of_nonneg b1,Int.toNat_of_nonneg b3,h.1,h.2]
 simp
theorem a5z{n:Nat}(hn:0<n){w:Str}(hw:w∈k6)(d t:Int){r c:Nat}(hr:r<n)(hc:c<n):∃a b:Nat,a<n/\b<n/\lr n w d t a b=r/\lc n w d t a b=c:=by
 obtain⟨⟨b1,b2⟩,b3,b4⟩:=a32 (n:=(n:Int)) (by lia) (S0 w) (bd n w d t) (bt n w d t) r c
 have h:=b20 (n:=(n:Int)) (by lia) hw d t (a:=r) (b:=c) (by lia) (by lia)
 refine⟨(lr n (S0 w) (bd n w d t) (bt n w d t) r c).toNat,(lc n (S0 w) (bd n w d t) (bt n w d t) r c).toNat,by lia,by lia, ?_, ?_⟩
 ·rw [Int.toNat_of_nonneg b1,Int.toNat_of_nonneg b3];exact h.1
 ·rw [Int.toNat_of_nonneg b1,Int.toNat_of_nonneg b3];exact h.2
theorem b4K{l:List Nat}{m:Nat}(hl:l.length=m)(hm:m<=10000){j:Int}(h0:0<=j)(h1:j<m):J8 (.val (row l)) (.val (.int j))=some (.val (row [l.getD j.toNat 0])):=by
 have hk:j.toNat<l.length:=by lia
 refine b6b (by lia) ?_
 rw [a3w h0,Ar hk]
 simp [List.getD,hk]
theorem a8r:∀(l:List Nat) (g:Nat->Nat),((l.map fun c=>[g c]).map (·.length)).sum=l.length
 |[],_=>rfl
 |a::l,g=>by
  have:=a8r l g
  simp only [AR,AT,Aj,List.sum_cons] at this ⊢
  lia
theorem b05(l:List Nat)(g:Nat->Nat):a3S [] (l.map fun c=>[g c])=l.map g:=by
 rw [a7H]
 have:(l.map fun c=>[g c])=((l.map g).map fun c=>[c]):=by rw [As];rfl
 rw [this,a2A]
theorem a0B{k:Nat}(hk:k<=10000)(g:Nat->Nat):a0q (.val (.str (S []))) (.own ((AS k).map fun j=>row [g j]))=some (.val (row ((AS k).map g))):=by
 rw [a8T (rows:=(AS k).map fun j=>[g j]),b05]
 ·show some _=some _
  rw [As];rfl
 ·rw [a8r,At,AW,At];simp only [Aj];lia
def z8(ws:List Str)(n:Nat):List PV:=ws.flatMap fun w=>(AS n).flatMap fun d=>(AS n).map fun t=>T3 w (d:Nat) (t:Nat)
def b8d:MS:=A0 1 (N6 (b0 (c6 2) (b0 (c6 3) (b0 (c6 4) f8))))
def b5R:MS:=G3 (z0 (b0 (c6 0) f8)) (g0 4) b8d
def b5S:MS:=G3 (z0 (b0 (c6 0) f8)) (g0 3) b5R
theorem b9v{n:Nat}(hn8:n<=8)(w:Str)(d:Nat)(ps:List PV)(hl:ps.length<10000)(q4:Option e9):∃q4':Option e9,b5R [some (.val (.int n)),some (.own ps),some (.val (.str w)),some (.val (.int (d:Nat))),q4]=some (.nx [some (.val (.int n)),some (.own (ps++(AS n).map fun t=>T3 w (d:Nat) (t:Nat))),some (.val (.str w)),some (.val (.int (d:Nat))),q4']):=by
 obtain⟨ρ1,e1,q,rfl⟩:=z9 (body:=b8d) (tg:=g0 4) (fun j ρ=>∃q:Option e9,ρ=[some (.val (.int n)),some (.own (ps++(AS j).map fun t=>T3 w (d:Nat) (t:Nat))),some (.val (.str w)),some (.val (.int (d:Nat))),q])
  (ps:=A8 0 n) (ρ:=[some (.val (.int n)),some (.own ps),some (.val (.str w)),some (.val (.int (d:Nat))),q4])
  (by
   rintro j p hp ρ ⟨q,rfl⟩
   obtain⟨rfl,hj⟩:=O5 hp
   have hj':(0:Int)+(j:Int)=(j:Int):=by lia
   rw [hj'] at hj ⊢
   refine L4 rfl (ρ2:=[some (.val (.int n)),some (.own (ps++(AS (j+1)).map fun t=>T3 w (d:Nat) (t:Nat))),some (.val (.str w)),some (.val (.int (d:Nat))),some (.val (.int (j:Nat)))]) ?_ ⟨_,rfl⟩
   unfold b8d
   rw [C2 (r:= .val (T3 w (d:Nat) (j:Nat))) (by simp (disch:=omega) only [f9,h9,d9,c8,d6,t6,AK,AY,AZ,AT,Aj,↓reduceIte,sz,Nat.reduceAdd,Au]) rfl rfl (by rw [Ao,AW,At];lia),List.range_succ,BG,List.append_assoc]
   rfl) ⟨q4,by simp⟩
 rw [z3,show((n:Int) - 0).toNat=n by lia] at e1
 refine⟨q, ?_⟩
 unfold b5R
 simp (disch:=omega) only [f9,d9,c8,d6,n0,A2,L3,AK]
 exact e1
theorem b0G(n d:Nat)(w:Str):((AS d).flatMap fun d=>(AS n).map fun t=>T3 w (d:Nat) (t:Nat)).length=d*n:=by
 induction d with
 |zero=>simp
 |succ d ih=>rw [List.range_succ,List.flatMap_append,Ao,ih];simp [Nat.succ_mul]
theorem b9w{n:Nat}(hn8:n<=8)(w:Str)(ps:List PV)(hl:ps.length<5000)(q3 q4:Option e9):∃q3' q4':Option e9,b5S [some (.val (.int n)),some (.own ps),some (.val (.str w)),q3,q4]=some (.nx [some (.val (.int n)),some (.own (ps++(AS n).flatMap fun d=>(AS n).map fun t=>T3 w (d:Nat) (t:Nat))),some (.val (.str w)),q3',q4']):=by
 obtain⟨ρ1,e1,q3',q4',rfl⟩:=z9 (body:=b5R) (tg:=g0 3) (fun j ρ=>∃q3 q4:Option e9,ρ=[some (.val (.int n)),some (.own (ps++(AS j).flatMap fun d=>(AS n).map fun t=>T3 w (d:Nat) (t:Nat))),some (.val (.str w)),q3,q4])
  (ps:=A8 0 n) (ρ:=[some (.val (.int n)),some (.own ps),some (.val (.str w)),q3,q4])
  (by
   rintro j p hp ρ ⟨q3,q4,rfl⟩
   obtain⟨rfl,hj⟩:=O5 hp
   have hj':(0:Int)+(j:Int)=(j:Int):=by lia
   rw [hj'] at hj ⊢
   have hjn:j*n<=8*8:=Nat.mul_le_mul (by lia) hn8
   obtain⟨q4',e⟩:=b9v hn8 w j (ps++(AS j).flatMap fun d=>(AS n).map fun t=>T3 w (d:Nat) (t:Nat)) (by rw [Ao,b0G];lia) q4
   refine L4 rfl e ⟨some (.val (.int (j:Nat))),q4', ?_⟩
   rw [List.range_succ,List.flatMap_append,List.append_assoc]
   simp) ⟨q3,q4,by simp⟩
 rw [z3,show((n:Int) - 0).toNat=n by lia] at e1
 refine⟨q3',q4', ?_⟩
 unfold b5S
 simp (disch:=omega) only [f9,d9,c8,d6,n0,A2,L3,AK]
 exact e1
theorem a0W(ws:List Str)(n:Nat):(z8 ws n).length=ws.length*(n*n):=by
 induction ws with
 |nil=>simp [z8]
 |cons w ws ih=>
  have e:z8 (w::ws) n=((AS n).flatMap fun d=>(AS n).map fun t=>T3 w (d:Nat) (t:Nat))++z8 ws n:=rfl
  rw [e,Ao,ih,b0G,AT,Nat.succ_mul,Nat.add_comm]
theorem b0F{n:Nat}(hn8:n<=8)(ws:List Str)(hw:ws.length<=8):∃q2 q3 q4:Option e9,B6 b5S (g0 2) (ws.map .str) [some (.val (.int n)),some (.own []),none,none,none]=some (.nx [some (.val (.int n)),some (.own (z8 ws n)),q2,q3,q4]):=by
 have hnn:n*n<=8*8:=Nat.mul_le_mul hn8 hn8
 obtain⟨ρ1,e1,q2,q3,q4,rfl⟩:=z9 (body:=b5S) (tg:=g0 2) (fun j ρ=>∃q2 q3 q4:Option e9,ρ=[some (.val (.int n)),some (.own (z8 (ws.take j) n)),q2,q3,q4])
  (ps:=ws.map .str) (ρ:=[some (.val (.int n)),some (.own []),none,none,none])
  (by
   rintro j p hp ρ ⟨q2,q3,q4,rfl⟩
   rw [Aw] at hp
   cases hj:ws[j]? with
   |none=>rw [hj] at hp;cases hp
   |some w=>
    rw [hj] at hp
    cases hp
    have hjl:j<ws.length:=(Av.mp hj).1
    have hl:(z8 (ws.take j) n).length<5000:=by
     rw [a0W,List.length_take]
     have:min j ws.length*(n*n)<=8*(8*8):=Nat.mul_le_mul (by lia) hnn
     lia
    obtain⟨q3',q4',e⟩:=b9w hn8 w (z8 (ws.take j) n) hl q3 q4
    refine L4 rfl e ⟨some (.val (.str w)),q3',q4', ?_⟩
    have ew:ws[j]=w:=(Av.mp hj).2
    rw [List.take_succ_eq_append_getElem hjl,ew]
    unfold z8
    rw [List.flatMap_append]
    simp) ⟨none,none,none,by simp [z8]⟩
 rw [AW,List.take_length] at e1
 exact⟨q2,q3,q4,e1⟩
theorem R4{ws:List Str}{n:Nat}{p:PV}:p∈z8 ws n↔∃w∈ws,∃d t:Nat,d<n/\t<n/\p=T3 w (d:Nat) (t:Nat):=by
 unfold z8
 constructor
 ·intro h
  obtain⟨w,hw,h⟩:=List.mem_flatMap.mp h
  obtain⟨d,hd,h⟩:=List.mem_flatMap.mp h
  obtain⟨t,ht,rfl⟩:=An.mp h
  exact⟨w,hw,d,t,List.mem_range.mp hd,List.mem_range.mp ht,rfl⟩
 ·rintro⟨w,hw,d,t,hd,ht,rfl⟩
  exact List.mem_flatMap.mpr ⟨w,hw,List.mem_flatMap.mpr ⟨d,List.mem_range.mpr hd,An.mpr ⟨t,List.mem_range.mpr ht,rfl⟩⟩⟩
def E3:List Str:=[AM "back",AM "cross",AM "flip",AM "half",AM "other",AM "side",AM "stay",AM "turn"]
theorem b39:(E3.all fun w=>decide (w∈k6))=true:=by decide+kernel
theorem b38:(k6.all fun w=>decide (w∈E3))=true:=by decide+kernel
theorem a1B{w:Str}:w∈E3↔w∈k6:=⟨fun h=>of_decide_eq_true (List.all_eq_true.mp b39 w h),fun h=>of_decide_eq_true (List.all_eq_true.mp b38 w h)⟩
theorem a7m{n:Nat}(hn8:n<=8):v3 [.int n]=some (.own (z8 E3 n)):=by
 obtain⟨q2,q3,q4,e⟩:=b0F hn8 E3 (by decide)
 have e1:a6w (.val a66)=some (.own (E3.map .str)):=by kernel_rfl
 unfold v3 U6
 simp (disch:=omega) only [D6,n4,d9,R8,D7,j7,L7,k4,k7,k9,n0,AK,AR,Ak,Aa,Ae,Ah,Ag,AY,AZ,Aj,↓reduceIte,u5,B7,sz,Au,e1]
 rw [show B6 M7 (g0 2) (E3.map .str) [some (.val (.int n)),some (.own []),none,none,none]=_ from e]
 simp (disch:=omega) only [k7,l9,AK,T5,T6]
def a14(c k:Int):Int:=(c % 2147483647+17)*(48271+2*k*k) % 2147483629
theorem b7v(c k:Int):0<=a14 c k/\a14 c k<2147483629:=by
 unfold a14
 exact⟨Int.emod_nonneg _ (by decide),Int.emod_lt_of_pos _ (by decide)⟩
theorem a5G{c k:Int}(hk:0<=k/\k<100000):J1 [.int c,.int k]=some (.val (.int (a14 c k))):=by
 unfold J1 a2u a14
 simp (disch:=omega) only [Q7,a1b,Q8,m6,n4,f9,h9,o5,B8,k9,l9,AK,AR,Ak,Ae,Al]
theorem a7s{rows:List (List Nat)}{n:Nat}(h1:rows.length=n)(h2:∀l∈rows,l.length=n):c9 rows=v9 n fun r c=>(rows.getD r []).getD c 0:=by
 unfold v9
 congr 1
 refine List.ext_getElem (by rw [AW,At,h1]) fun i hi hi'=> ?_
 rw [List.getElem_map,List.getElem_range]
 have hl:=h2 rows[i] (List.getElem_mem _)
 refine List.ext_getElem (by rw [AW,At,hl]) fun j hj hj'=> ?_
 rw [List.getElem_map,List.getElem_range]
 simp [List.getD,hi,hj]
theorem b4o{n:Nat}(hn8:n<=8):R0 [.int n]=some (.own (z8 k6 n)):=by
 obtain⟨q2,q3,q4,e⟩:=b0F hn8 k6 (by decide)
 unfold R0 a5d
 simp (disch:=omega) only [n4,d9,c8,d6,R8,D7,j7,L7,k4,k7,k9,n0,AK,AR,Ak,Aa,Ae,Ah,Ag,AY,AZ,AT,Aj,↓reduceIte,u5,B7,sz,Nat.reduceAdd,Au]
 rw [show B6 a1f (g0 2) [.str (AM "stay"),.str (AM "turn"),.str (AM "half"),.str (AM "back"),.str (AM "side"),.str (AM "flip"),.str (AM "cross"),.str (AM "other")] [some (.val (.int n)),some (.own []),none,none,none]=_ from e]
 simp (disch:=omega) only [k7,l9,AK,T5,T6]
abbrev scL(ns:List Int):Option e9:=some (.val (.list (ns.map .int)))
abbrev tA:PV:= .tuple [.str (AM "turn"),.str (AM "back"),.str (AM "cross"),.str (AM "other")]
abbrev tB:PV:= .tuple [.str (AM "half"),.str (AM "flip"),.str (AM "back"),.str (AM "other")]
abbrev tC:PV:= .tuple [.str (AM "half"),.str (AM "side"),.str (AM "turn"),.str (AM "other")]
theorem J4{w:Str}{x y z:Bool}(h1:a20 false (.val (.str w)) (.val tA)=some (.val (.bool x)))(h2:a20 false (.val (.str w)) (.val tB)=some (.val (.bool y)))(h3:a20 false (.val (.str w)) (.val tC)=some (.val (.bool z)))(n d t a b:Int)(hn:0<n):
 R1 [.int n,T3 w d t,.tuple [.int a,.int b]]=some (.val (.tuple [.int (((if y then 0 - (if x then b else a) else(if x then b else a))+d) % n),.int (((if z then 0 - (if x then a else b) else(if x then a else b))+t) % n)])):=by
 unfold R1 a5e
 cases x<;>cases y<;>cases z<;>simp (disch:=omega) only [Q7,a1M,b27,b7J,Q8,m6,n4,f9,h9,d9,c8,d6,t6,j7,A7,o5,B8,k4,k7,B1,a7I,a2D,A1,k9,l9,w8,D9,b29,b8i,b8j,AK,AR,Ak,Aa,Ae,Ah,Ag,AY,AZ,AT,Aj,↓reduceIte,Ac,sz,Nat.reduceAdd,Au,h1,h2,h3]
theorem b4X{w:Str}(hw:w∈k6){n:Int}(hn:0<n)(d t a b:Int):R1 [.int n,T3 w d t,.tuple [.int a,.int b]]=some (.val (.tuple [.int (lr n w d t a b),.int (lc n w d t a b)])):=by
 unfold lr lc
 rcases B2 hw with rfl|rfl|rfl|rfl|rfl|rfl|rfl|rfl
 ·rw [J4 (x:=false) (y:=false) (z:=false) (by kernel_rfl) (by kernel_rfl) (by kernel_rfl) n d t a b hn];rfl
 ·rw [J4 (x:=true) (y:=false) (z:=true) (by kernel_rfl) (by kernel_rfl) (by kernel_rfl) n d t a b hn];show _=some (e9.val (.tuple [.int ((b+d) % n),.int ((-a+t) % n)]));rw [<-Int.zero_sub a];rfl
 ·rw [J4 (x:=false) (y:=true) (z:=true) (by kernel_rfl) (by kernel_rfl) (by kernel_rfl) n d t a b hn];show _=some (e9.val (.tuple [.int ((-a+d) % n),.int ((-b+t) % n)]));rw [<-Int.zero_sub a,<-Int.zero_sub b];rfl
 ·rw [J4 (x:=true) (y:=true) (z:=false) (by kernel_rfl) (by kernel_rfl) (by kernel_rfl) n d t a b hn];show _=some (e9.val (.tuple [.int ((-b+d) % n),.int ((a+t) % n)]));rw [<-Int.zero_sub b];rfl
 ·rw [J4 (x:=false) (y:=false) (z:=true) (by kernel_rfl) (by kernel_rfl) (by kernel_rfl) n d t a b hn];show _=some (e9.val (.tuple [.int ((a+d) % n),.int ((-b+t) % n)]));rw [<-Int.zero_sub b];rfl
 ·rw [J4 (x:=false) (y:=true) (z:=false) (by kernel_rfl) (by kernel_rfl) (by kernel_rfl) n d t a b hn];show _=some (e9.val (.tuple [.int ((-a+d) % n),.int ((b+t) % n)]));rw [<-Int.zero_sub a];rfl
 ·rw [J4 (x:=true) (y:=false) (z:=false) (by kernel_rfl) (by kernel_rfl) (by kernel_rfl) n d t a b hn];rfl
 ·rw [J4 (x:=true) (y:=true) (z:=true) (by kernel_rfl) (by kernel_rfl) (by kernel_rfl) n d t a b hn];show _=some (e9.val (.tuple [.int ((-b+d) % n),.int ((-a+t) % n)]));rw [<-Int.zero_sub a,<-Int.zero_sub b];rfl
theorem b1k{n:Nat}(hn:0<n)(hn8:n<=8)(f:Nat->Nat->Nat){w:Str}(hw:w∈k6)(d t:Int):∃(D:List (List g9×PV)) (q4 q5:Option e9),(∀a b:Nat,a<n->b<n->r8 D [.inl (lr n w d t a b),.inl (lc n w d t a b)]=some (row [f a b]))/\B6 D4 (g0 4) (A8 0 n) [some (.val (v9 n f)),some (.val (T3 w d t)),some (.val (.int n)),some (.ow (.dct [])),none,none]=some (.nx [some (.val (v9 n f)),some (.val (T3 w d t)),some (.val (.int n)),some (.ow (.dct D)),q4,q5]):=by
 have inj:∀a b x y:Nat,a<n->b<n->x<n->y<n->lr n w d t a b=lr n w d t x y->lc n w d t a b=lc n w d t x y->a=x/\b=y:=by
  intro a b x y ha hb hx hy h1 h2
  have g1:=a3z (n:=(n:Int)) (by lia) hw d t (a:=a) (b:=b) (by lia) (by lia)
  have g2:=a3z (n:=(n:Int)) (by lia) hw d t (a:=x) (b:=y) (by lia) (by lia)
  rw [h1,h2,g2.1,g2.2] at g1
  lia
 obtain⟨ρ1,e1,D,hl,hD,q4,q5,rfl⟩:=z9 (body:=D4) (tg:=g0 4) (fun i ρ=>∃D:List (List g9×PV),D.length<=8*i/\(∀a b:Nat,a<i->b<n->r8 D [.inl (lr n w d t a b),.inl (lc n w d t a b)]=some (row [f a b]))/\∃q4 q5:Option e9,ρ=[some (.val (v9 n f)),some (.val (T3 w d t)),some (.val (.int n)),some (.ow (.dct D)),q4,q5])
  (ps:=A8 0 n) (ρ:=[some (.val (v9 n f)),some (.val (T3 w d t)),some (.val (.int n)),some (.ow (.dct [])),none,none])
  (by
   rintro i p hp ρ ⟨D,hl,hD,q4,q5,rfl⟩
   obtain⟨rfl,hi⟩:=O5 hp
   have hi':(0:Int)+(i:Int)=(i:Int):=by lia
   rw [hi'] at hi ⊢
   obtain⟨ρ2,e2,D2,hl2,hD2,hD3,q5',rfl⟩:=z9 (body:=M8) (tg:=g0 5) (fun j ρ=>∃D2:List (List g9×PV),D2.length<=8*i+j/\(∀a b:Nat,a<i->b<n->r8 D2 [.inl (lr n w d t a b),.inl (lc n w d t a b)]=some (row [f a b]))/\(∀b:Nat,b<j->r8 D2 [.inl (lr n w d t i b),.inl (lc n w d t i b)]=some (row [f i b]))/\∃q5:Option e9,ρ=[some (.val (v9 n f)),some (.val (T3 w d t)),some (.val (.int n)),some (.ow (.dct D2)),some (.val (.int (i:Nat))),q5])
    (ps:=A8 0 n) (ρ:=[some (.val (v9 n f)),some (.val (T3 w d t)),some (.val (.int n)),some (.ow (.dct D)),some (.val (.int (i:Nat))),q5])
    (by
     rintro j p hp ρ ⟨D2,hl2,hD2,hD3,q5,rfl⟩
     obtain⟨rfl,hj⟩:=O5 hp
     have hj':(0:Int)+(j:Int)=(j:Int):=by lia
     rw [hj'] at hj ⊢
     have hpl:=a4p D2 [.inl (lr n w d t i j),.inl (lc n w d t i j)] (row [f i j])
     refine L4 rfl (ρ2:=[some (.val (v9 n f)),some (.val (T3 w d t)),some (.val (.int n)),some (.ow (.dct (a1m D2 [.inl (lr n w d t i j),.inl (lc n w d t i j)] (row [f i j])))),some (.val (.int (i:Nat))),some (.val (.int (j:Nat)))]) ?_ ⟨_,by lia,fun a b ha hb=> ?_,fun b hb=> ?_,_,rfl⟩
     ·unfold M8
      simp (disch:=omega) only [m6,f9,h9,d9,c8,d6,t6,i7,AK,AY,AZ,AT,Aj,↓reduceIte,sz,Nat.reduceAdd,Au,X9,b4X hw (n:=(n:Int)) (by lia),a3g,a9I (n:=n) (f:=f) (i:=((i:Nat):Int)) (by lia) (by lia),b3O (n:=n) (g:=fun c=>f i c) (j:=((j:Nat):Int)) (by lia) (by lia) (by lia),tn]
      rw [a3G rfl (by lia)]
      rfl
     ·rw [a1x]
      split
      ·rename_i h
       injection h with h1 h2
       injection h2 with h2 _
       have:=inj i j a b (by lia) (by lia) (by lia) hb (Sum.inl.inj h1) (Sum.inl.inj h2)
       lia
      ·exact hD2 a b ha hb
     ·rw [a1x]
      split
      ·rename_i h
       injection h with h1 h2
       injection h2 with h2 _
       have:=inj i j i b (by lia) (by lia) (by lia) (by lia) (Sum.inl.inj h1) (Sum.inl.inj h2)
       rw [this.2]
      ·rename_i h
       by_cases hbj:b<j
       ·exact hD3 b hbj
       ·have:b=j:=by lia
        exact absurd (by rw [this]) h) ⟨D,by lia,hD,fun b h=>by lia,q5,rfl⟩
   rw [z3] at hD3 hl2
   apply L4 rfl
   ·unfold D4
    simp (disch:=omega) only [f9,h9,d9,c8,d6,n0,A2,L3,AK,AY,AZ]
    exact e2
   ·refine⟨D2,by lia,fun a b ha hb=> ?_,_,_,rfl⟩
    by_cases h:a<i
    ·exact hD2 a b h hb
    ·have:a=i:=by lia
     rw [this];exact hD3 b (by lia)) ⟨[],by simp,fun a b h=>by lia,none,none,rfl⟩
 rw [z3] at hD
 exact⟨D,q4,q5,fun a b ha hb=>hD a b (by lia) hb,e1⟩
theorem b1s{n:Nat}(hn:0<n)(hn8:n<=8)(f:Nat->Nat->Nat){w:Str}(hw:w∈k6)(d t:Int):O2 [v9 n f,T3 w d t]=some (.val (v9 n (mvd n f w d t))):=by
 obtain⟨D,q4,q5,hD,e1⟩:=b1k hn hn8 f hw d t
 have hv:∀r c:Nat,r<n->c<n->r8 D [.inl (r:Nat),.inl (c:Nat)]=some (row [mvd n f w d t r c]):=by
  intro r c hr hc
  obtain⟨a,b,ha,hb,e1,e2⟩:=a5z hn hw d t hr hc
  have g:=hD a b ha hb
  have g3:=a17 hn f hw d t ha hb
  rw [e1,e2] at g
  rw [e1,e2,tn,tn] at g3
  rw [g,g3]
 unfold O2 a2v
 simp (disch:=omega) only [D6,f9,h9,d9,c8,d6,j7,A7,o5,k4,k7,k9,n0,A2,L3,AK,AR,Ak,Aa,Ae,Ah,Ag,AY,AZ,a00,a11,a8I,e1]
 rw [v7 (f:=fun r:Nat=>row ((AS n).map fun(c:Nat)=>mvd n f w d t r c)) (AS n) (L5 (n:=n) rfl (by lia)) (by rw [At];lia)]
 ·simp (disch:=omega) only [B8,l9,AK,a0C]
  unfold v9 c9
  rw [As]
  rfl
 ·intro r hr
  have hr:=List.mem_range.mp hr
  refine⟨_,rfl, ?_⟩
  unfold X5
  simp (disch:=omega) only [m6,n4,AK,Aa,Ae,Ah,Ag,AY,AZ]
  rw [v7 (f:=fun c:Nat=>row [mvd n f w d t r c]) (AS n) (L5 (n:=n) rfl (by lia)) (by rw [At];lia)]
  ·simp (disch:=omega) only [d6,AK,show AM ""=S [] from rfl,a0B (k:=n) (by lia)]
  ·intro c hc
   have hc:=List.mem_range.mp hc
   refine⟨_,rfl, ?_⟩
   unfold X4
   rw [b40 (p:=row [mvd n f w d t r c]) (by simp (disch:=omega) only [f9,h9,d9,c8,d6,AK,Aa,Ae,Ah,Ag,AY,AZ]) rfl (hv r c hr hc)]
   rfl
theorem a4W{n:Nat}(hn:0<n)(hn8:n<=8)(f:Nat->Nat->Nat){w:Str}(hw:w∈k6)(d t r:Int):
 O3 [v9 n f,T3 w d t,.int r]=some (.val (row ((AS n).map fun(c:Nat)=>f (lr n w d t r c).toNat (lc n w d t r c).toNat))):=by
 unfold O3 a2w
 simp (disch:=omega) only [D6,f9,j7,A7,k4,k7,k9,AK,AR,Ak,Aa,Ae,Ah,Ag,AY,AZ,a00]
 rw [v7 (f:=fun c:Nat=> .tuple [.int (lr n w d t r c),.int (lc n w d t r c)]) (AS n) (L5 (n:=n) rfl (by lia)) (by rw [At];lia)]
 ·simp (disch:=omega) only [m6,n4,L7,o5,k7,AK,AY,AZ]
  rw [v7 (ι:=fun c:Nat=> .tuple [.int (lr n w d t r c),.int (lc n w d t r c)]) (f:=fun c:Nat=>row [f (lr n w d t r c).toNat (lc n w d t r c).toNat]) (AS n) (Y0 (r:= .bor ((AS n).map fun c:Nat=> .tuple [.int (lr n w d t r c),.int (lc n w d t r c)])) rfl rfl) (by rw [At];lia)]
  ·simp (disch:=omega) only [B8,l9,AK,show AM ""=S [] from rfl,a0B (k:=n) (by lia)]
  ·intro c hc
   obtain⟨⟨b1,b2⟩,b3,b4⟩:=a32 (n:=(n:Int)) (by lia) w d t r c
   refine⟨_,rfl, ?_⟩
   unfold X7
   simp (disch:=omega) only [a09,a1a,m6,n4,f9,h9,d6,AK,Aa,Ae,Ah,Ag,AY,AZ,a9I b1 b2,b3O b3 b4 (by lia)]
 ·intro c hc
  refine⟨_,rfl, ?_⟩
  unfold X6
  simp (disch:=omega) only [f9,h9,d9,c8,d6,t6,i7,AK,Aa,Ae,Ah,Ag,AY,AZ,AT,Aj,↓reduceIte,sz,Nat.reduceAdd,Au,b0f hw (s:=(n:Int)) (by lia)]
theorem b1t{n:Nat}(hn:0<n)(hn8:n<=8)(f:Nat->Nat->Nat){w:Str}(hw:w∈k6)(d t:Int):a3d [v9 n f,T3 w d t]=some (.val (v9 n (mvd n f w d t))):=by
 unfold a3d a9F
 simp (disch:=omega) only [D6,f9,h9,d9,c8,d6,i7,j7,A7,o5,k4,k7,k9,AK,AR,Ak,Aa,Ae,Ah,Ag,AY,AZ,a00,b8c hw (s:=(n:Int)) (by lia)]
 rw [v7 (f:=fun r:Nat=>row ((AS n).map fun(c:Nat)=>mvd n f w d t r c)) (AS n) (L5 (n:=n) rfl (by lia)) (by rw [At];lia)]
 ·simp (disch:=omega) only [B8,l9,AK,a0C]
  unfold v9 c9
  rw [As]
  rfl
 ·intro r hr
  refine⟨_,rfl, ?_⟩
  unfold a31
  simp (disch:=omega) only [f9,h9,d9,c8,d6,i7,AK,Aa,Ae,Ah,Ag,AY,AZ,a4W hn hn8 f (a2x hw).1]
  rfl
theorem a2z:∀A B:List (List Nat),PyData.eqvAll (A.map row) (B.map row)=(A==B)
 |[],[]=>by simp [PyData.eqvAll]
 |[],b::B=>by simp [PyData.eqvAll]
 |a::A,[]=>by simp [PyData.eqvAll]
 |a::A,b::B=>by
  rw [AR,AR]
  simp only [PyData.eqvAll,a2z A B,a9V]
  rw [Bool.eq_iff_iff]
  simp
def N5(n:Nat)(f:Nat->Nat->Nat):List (List Nat):=(AS n).map fun r=>(AS n).map fun c=>f r c
theorem b0S{ns:List Int}{k:Int}(h0:0<=k):∃c:Int,G8 [.list (ns.map .int),.int k]=some (.val (.int c)):=by
 unfold G8 a0n
 by_cases h:k<ns.length
 ·have hk:k.toNat<ns.length:=by lia
  have e:L2.atI (ns.map PyData.int) k=some (.int ns[k.toNat]):=by
   rw [a3w h0,Aw,Ar hk];rfl
  refine⟨ns[k.toNat], ?_⟩
  simp (disch:=omega) only [b2K,a1N,m6,D6,f9,h9,k4,B1,k9,w8,D9,AK,AR,Ak,Ae,Al,AW,a3P e]
  simp only [h,decide_true]
  simp (disch:=omega) only [m6,f9,h9,o5,B8,b5F,a7I,l9,AK,a3P e]
 ·refine⟨0, ?_⟩
  simp (disch:=omega) only [b2K,a1N,m6,D6,f9,h9,k4,B1,k9,w8,D9,AK,AR,Ak,Ae,Al,AW]
  simp only [h,decide_false]
  simp (disch:=omega) only [n4,o5,B8,k7,a2D,A1,l9,AK]
def b8X(b a:Int×Int×Int×Int):Int×Int×Int×Int:=(b.1*a.1+b.2.1*a.2.2.1,b.1*a.2.1+b.2.1*a.2.2.2,b.2.2.1*a.1+b.2.2.2*a.2.2.1,b.2.2.1*a.2.1+b.2.2.2*a.2.2.2)
theorem b2c:(k6.all fun a=>k6.all fun b=>k6.any fun c=>decide (mat c=b8X (mat b) (mat a)))=true:=by decide+kernel
theorem b4r{a b:Str}(ha:a∈k6)(hb:b∈k6):∃c∈k6,∀x y:Int,o8 c x y=o8 b (o8 a x y) (n8 a x y)/\n8 c x y=n8 b (o8 a x y) (n8 a x y):=by
 have h:=List.all_eq_true.mp (List.all_eq_true.mp b2c a ha) b hb
 obtain⟨c,hc,e⟩:=List.any_eq_true.mp h
 have e:=of_decide_eq_true e
 refine⟨c,hc,fun x y=> ?_⟩
 rw [a0c hc,Z4 hc,a0c hb,Z4 hb,a0c ha,Z4 ha,e]
 unfold b8X
 dsimp only
 generalize (mat a).1=a1
 generalize (mat a).2.1=a2
 generalize (mat a).2.2.1=a3
 generalize (mat a).2.2.2=a4
 generalize (mat b).1=b1
 generalize (mat b).2.1=b2
 generalize (mat b).2.2.1=b3
 generalize (mat b).2.2.2=b4
 simp only [Int.mul_add,Int.add_mul,Int.mul_assoc]
 constructor<;>lia
theorem b3S{n:Nat}{f g:Nat->Nat->Nat}:N5 n f=N5 n g↔∀r c:Nat,r<n->c<n->f r c=g r c:=by
 unfold N5
 constructor
 ·intro h r c hr hc
  have h1:=congrArg (fun l=>(l.getD r []).getD c 0) h
  simpa [List.getD,hr,hc] using h1
 ·intro h
  refine List.map_congr_left fun r hr=>List.map_congr_left fun c hc=>h r c (List.mem_range.mp hr) (List.mem_range.mp hc)
theorem a87{n:Nat}(hn:0<n){f g:Nat->Nat->Nat}{w:Str}(hw:w∈k6)(d t:Int):N5 n (mvd n f w d t)=N5 n g↔∀r c:Nat,r<n->c<n->g (lr n w d t r c).toNat (lc n w d t r c).toNat=f r c:=by
 rw [b3S]
 constructor
 ·intro h r c hr hc
  obtain⟨⟨b1,b2⟩,b3,b4⟩:=a32 (n:=(n:Int)) (by lia) w d t r c
  rw [<-h _ _ (by lia) (by lia),a17 hn f hw d t hr hc]
 ·intro h r c hr hc
  obtain⟨a,b,ha,hb,e1,e2⟩:=a5z hn hw d t hr hc
  have h1:=h a b ha hb
  have h2:=a17 hn f hw d t ha hb
  rw [e1,e2,tn,tn] at h1 h2
  rw [h1,h2]
theorem b1u{n:Nat}(hn:0<n){f f':Nat->Nat->Nat}(h:N5 n f=N5 n f'){w:Str}(hw:w∈k6)(d t:Int):N5 n (mvd n f w d t)=N5 n (mvd n f' w d t):=by
 rw [a87 hn hw]
 intro r c hr hc
 rw [a17 hn f' hw d t hr hc]
 exact(b3S.mp h r c hr hc).symm
theorem b49{n:Nat}(hn:0<n)(f:Nat->Nat->Nat){w v:Str}(hw:w∈k6)(hv:v∈k6)(d t e u:Int):∃z∈k6,∃a b:Nat,a<n/\b<n/\N5 n (mvd n f z (a:Nat) (b:Nat))=N5 n (mvd n (mvd n f w d t) v e u):=by
 obtain⟨z,hz,hc⟩:=b4r hw hv
 obtain⟨⟨b1,b2⟩,b3,b4⟩:=a32 (n:=(n:Int)) (by lia) v e u d t
 refine⟨z,hz,(lr n v e u d t).toNat,(lc n v e u d t).toNat,by lia,by lia, ?_⟩
 rw [Int.toNat_of_nonneg b1,Int.toNat_of_nonneg b3,a87 hn hz]
 intro r c hr hc'
 obtain⟨⟨p1,p2⟩,p3,p4⟩:=a32 (n:=(n:Int)) (by lia) w d t r c
 have e1:lr n z (lr n v e u d t) (lc n v e u d t) r c=lr n v e u (lr n w d t r c) (lc n w d t r c):=by
  unfold lr lc
  rw [(hc r c).1,a3m hv,a3l hv,Int.add_emod_emod,Int.add_assoc]
 have e2:lc n z (lr n v e u d t) (lc n v e u d t) r c=lc n v e u (lr n w d t r c) (lc n w d t r c):=by
  unfold lr lc
  rw [(hc r c).2,a28 hv,a27 hv,Int.add_emod_emod,Int.add_assoc]
 rw [e1,e2]
 have h1:=a17 hn (mvd n f w d t) hv e u (r:=(lr n w d t r c).toNat) (c:=(lc n w d t r c).toNat) (by lia) (by lia)
 rw [Int.toNat_of_nonneg p1,Int.toNat_of_nonneg p3] at h1
 rw [h1,a17 hn f hw d t hr hc']
theorem b3e{n:Nat}(hn:0<n)(f:Nat->Nat->Nat){w:Str}(hw:w∈k6)(d t:Int):N5 n (mvd n (mvd n f w d t) (S0 w) (bd n w d t) (bt n w d t))=N5 n f:=by
 rw [a87 hn (a2x hw).1]
 intro r c hr hc
 rfl
theorem b4Z(a b:List Nat):ltv (row a) (row b)=some (decide (a<b)):=by
 show some (decide ((S a).cps.toList<(S b).cps.toList))=_
 rw [a0j,a0j]
theorem a5D:∀{A B:List (List Nat)},A.length=B.length->a1Z (A.map row) (B.map row)=some (decide (A<B))
 |[],[],_=>by simp [a1Z]
 |[],_::_,h=>by simp at h
 |_::_,[],h=>by simp at h
 |a::A,b::B,h=>by
  rw [AR,AR,a1Z,a9V,a5D (by simpa using h),b4Z]
  by_cases e:a=b
  ·subst e
   rw [if_pos (by simp)]
   congr 1
   rw [decide_eq_decide,List.cons_lt_cons_iff]
   constructor
   ·exact fun h=> .inr ⟨rfl,h⟩
   ·rintro(h|⟨_,h⟩)
    ·exact absurd h (List.lt_irrefl a)
    ·exact h
  ·rw [if_neg (by simpa using e)]
   congr 1
   rw [decide_eq_decide,List.cons_lt_cons_iff]
   constructor
   ·exact fun h=> .inl h
   ·rintro(h|⟨h,_⟩)
    ·exact h
    ·exact absurd h e
theorem a9G{K:Nat->List (List Nat)}{bt:Nat->Nat->Bool}{N:Nat}(h:∀i j,i<N->j<N->bt i j=decide (K i<K j)):∀m,m<N->argBest bt m<=m/\∀j,j<=m->¬K j<K (argBest bt m)
 |0,_=>⟨AO _,fun j hj=>by
  have:j=0:=by lia
  subst this
  exact List.lt_irrefl _⟩
 |m+1,hm=>by
  obtain⟨h1,h2⟩:=a9G h m (by lia)
  have hb:=h (m+1) (argBest bt m) hm (by lia)
  simp only [argBest]
  by_cases c:K (m+1)<K (argBest bt m)
  ·rw [hb,decide_eq_true c]
   simp only [if_true]
   refine⟨AO _,fun j hj k=> ?_⟩
   rcases Nat.lt_or_ge j (m+1) with hj'|hj'
   ·exact h2 j (by lia) (List.lt_trans k c)
   ·have:j=m+1:=by lia
    subst this
    exact List.lt_irrefl _ k
  ·rw [hb,decide_eq_false c]
   simp only [Ac,if_false]
   refine⟨by lia,fun j hj=> ?_⟩
   rcases Nat.lt_or_ge j (m+1) with hj'|hj'
   ·exact h2 j (by lia)
   ·have:j=m+1:=by lia
    subst this
    exact c
theorem b7u{ps:List PV}{key:PV->List (List Nat)}(h:∀p∈ps,∀q∈ps,ltv p q=some (decide (key p<key q)))(ok:o0 ps 50=true)(h0:0<ps.length):∃p∈ps,a98 (.own ps)=some (.val p)/\∀q∈ps,¬key q<key p:=by
 have hb:∀i j,i<ps.length->j<ps.length->btV ps i j=decide (key (ps.getD i .none)<key (ps.getD j .none)):=by
  intro i j hi hj
  have e1:ps[i]?=some ps[i]:=Ar hi
  have e2:ps[j]?=some ps[j]:=Ar hj
  simp only [btV,e1,e2,List.getD,Option.getD_some]
  rw [h _ (List.getElem_mem hi) _ (List.getElem_mem hj)]
  rfl
 obtain⟨g1,g2⟩:=a9G (K:=fun i=>key (ps.getD i .none)) hb (ps.length - 1) (by lia)
 have hlt:argBest (btV ps) (ps.length - 1)<ps.length:=by lia
 refine⟨ps[argBest (btV ps) (ps.length - 1)],List.getElem_mem hlt, ?_,fun q hq=> ?_⟩
 ·show(if _ then _ else _)=_
  rw [if_pos ⟨ok,h0,List.all_eq_true.mpr fun p hp=>List.all_eq_true.mpr fun q hq=>by rw [h p hp q hq];rfl⟩,Ar hlt]
  rfl
 ·obtain⟨j,hj,rfl⟩:=List.getElem_of_mem hq
  have:=g2 j (by lia)
  simpa [List.getD,hj,hlt] using this
def b0W:PV->List Nat
 | .str s=>s.cps.toList
 |_=>[]
theorem a3n(n:Nat)(f:Nat->Nat->Nat):(N5 n f).length=n:=by unfold N5;rw [AW,At]
section
variable {α:Type}
def ws(A:List α):Nat->List (List α)
 |0=>[[]]
 |k+1=>(ws A k).flatMap fun s=>A.map fun c=>s++[c]
theorem G4{A:List α}:∀{k:Nat} {l:List α},l∈ws A k↔l.length=k/\∀x∈l,x∈A
 |0,l=>by
  unfold ws
  constructor
  ·intro h
   rw [List.mem_singleton.mp h]
   exact⟨rfl,fun x hx=>by cases hx⟩
  ·rintro⟨h,_⟩
   rw [List.eq_nil_of_length_eq_zero h]
   exact List.mem_singleton.mpr rfl
 |k+1,l=>by
  unfold ws
  rw [List.mem_flatMap]
  constructor
  ·rintro⟨s,hs,h⟩
   obtain⟨c,hc,rfl⟩:=An.mp h
   obtain⟨h1,h2⟩:=G4.mp hs
   refine⟨by rw [Ao,h1];rfl,fun x hx=> ?_⟩
   rcases Ay.mp hx with hx|hx
   ·exact h2 x hx
   ·rw [List.mem_singleton.mp hx];exact hc
  ·rintro⟨h1,h2⟩
   have hne:l≠[]:=fun e=>by rw [e] at h1;cases h1
   have e:=List.dropLast_concat_getLast hne
   refine⟨l.dropLast,G4.mpr ⟨by rw [List.length_dropLast,h1];rfl,fun x hx=>h2 x (List.dropLast_subset _ hx)⟩,An.mpr ⟨l.getLast hne,h2 _ (List.getLast_mem hne),e⟩⟩
theorem a2k(A:List α):∀k,(ws A k).length=A.length ^ k
 |0=>rfl
 |k+1=>by
  unfold ws
  rw [List.length_flatMap,Nat.pow_succ,<-a2k A k]
  simp only [AW,List.map_const',List.sum_replicate_nat]
theorem b25 [LT α]:∀{s t:List α} (X Y:List α),s.length=t.length->s<t->s++X<t++Y
 |[],[],_,_,_,h=>by simp at h
 |[],_::_,_,_,h,_=>by simp at h
 |_::_,[],_,_,h,_=>by simp at h
 |a::s,b::t,X,Y,h,k=>by
  rw [Ah,Ah,List.cons_lt_cons_iff]
  rcases List.cons_lt_cons_iff.mp k with q|⟨rfl,q⟩
  ·exact .inl q
  ·exact .inr ⟨rfl,b25 X Y (by simpa using h) q⟩
theorem a9E [LT α]{c d:α}(h:c<d):∀s:List α,s++[c]<s++[d]
 |[]=>List.cons_lt_cons_iff.mpr (.inl h)
 |_::s=>List.cons_lt_cons_iff.mpr (.inr ⟨rfl,a9E h s⟩)
theorem b4j [LT α]{A:List α}(h:A.Pairwise (· <·)):∀k,(ws A k).Pairwise (· <·)
 |0=>List.pairwise_singleton _ _
 |k+1=>by
  unfold ws
  rw [List.pairwise_flatMap]
  refine⟨fun s _=> ?_, ?_⟩
  ·rw [List.pairwise_map]
   exact h.imp fun k=>a9E k s
  ·refine List.Pairwise.imp_of_mem (fun {a b} ha hb k=> ?_) (b4j h k)
   intro x hx y hy
   obtain⟨c,_,rfl⟩:=An.mp hx
   obtain⟨d,_,rfl⟩:=An.mp hy
   exact b25 _ _ (by rw [(G4.mp ha).1,(G4.mp hb).1]) k
end
def fA(A:List (List Nat)):Nat->Nat->Nat:=fun r c=>(A.getD r []).getD c 0
def SqA(n:Nat)(A:List (List Nat)):Prop:=A.length=n/\∀l∈A,l.length=n
theorem a3B{n:Nat}{A:List (List Nat)}(h:SqA n A):c9 A=v9 n (fA A):=a7s h.1 h.2
theorem b71(n:Nat)(f:Nat->Nat->Nat):SqA n (N5 n f):=⟨a3n n f,fun l hl=>by
 obtain⟨r,_,rfl⟩:=An.mp hl
 rw [AW,At]⟩
theorem b5E{a b:List Nat}(h:row a=row b):a=b:=by
 have:=congrArg b0W h
 rwa [show b0W (row a)=a from a0j a,show b0W (row b)=b from a0j b] at this
theorem b0T{A B:List (List Nat)}(h:c9 A=c9 B):A=B:=by
 have h:PyData.tuple (A.map row)= .tuple (B.map row):=h
 injection h with h
 exact List.map_inj_right (fun _ _=>b5E)|>.mp h
theorem a2f{n:Nat}{A:List (List Nat)}(h:SqA n A):N5 n (fA A)=A:=b0T (a3B h).symm
def Of(n:Nat)(f:Nat->Nat->Nat)(A:List (List Nat)):Prop:=∃w∈k6,∃d t:Nat,d<n/\t<n/\A=N5 n (mvd n f w (d:Nat) (t:Nat))
def Lst(n:Nat)(f:Nat->Nat->Nat)(A:List (List Nat)):Prop:=Of n f A/\∀B,Of n f B->¬B<A
theorem Lst.uniq{n:Nat}{f:Nat->Nat->Nat}{A B:List (List Nat)}(h:Lst n f A)(k:Lst n f B):A=B:=List.le_antisymm (h.2 _ k.1) (k.2 _ h.1)
theorem Of.sq{n:Nat}{f:Nat->Nat->Nat}{A:List (List Nat)}(h:Of n f A):SqA n A:=by
 obtain⟨w,_,d,t,_,_,rfl⟩:=h
 exact b71 _ _
theorem Of.congr{n:Nat}(hn:0<n){f g:Nat->Nat->Nat}{A:List (List Nat)}(e:N5 n f=N5 n g)(h:Of n f A):Of n g A:=by
 obtain⟨w,hw,d,t,hd,ht,rfl⟩:=h
 exact⟨w,hw,d,t,hd,ht,b1u hn e hw _ _⟩
theorem Of.tr{n:Nat}(hn:0<n){f g:Nat->Nat->Nat}{A:List (List Nat)}(h:Of n f (N5 n g))(k:Of n g A):Of n f A:=by
 obtain⟨w,hw,d,t,hd,ht,e⟩:=h
 obtain⟨v,hv,a,b,ha,hb,rfl⟩:=k.congr hn e
 obtain⟨z,hz,c,u,hc,hu,e⟩:=b49 hn f hw hv (d:Nat) (t:Nat) (a:Nat) (b:Nat)
 exact⟨z,hz,c,u,hc,hu,e.symm⟩
theorem Of.back{n:Nat}(hn:0<n){f g:Nat->Nat->Nat}(h:Of n f (N5 n g)):Of n g (N5 n f):=by
 obtain⟨w,hw,d,t,hd,ht,e⟩:=h
 refine Of.congr hn e.symm ⟨S0 w,(a2x hw).1,(bd n w d t).toNat,(bt n w d t).toNat, ?_, ?_, ?_⟩
 ·have:=a6K hn (o8 (S0 w) (-(d:Nat)) (-(t:Nat)))
  unfold bd;lia
 ·have:=a6K hn (n8 (S0 w) (-(d:Nat)) (-(t:Nat)))
  unfold bt;lia
 ·have h1:=a6K hn (o8 (S0 w) (-(d:Nat)) (-(t:Nat)))
  have h2:=a6K hn (n8 (S0 w) (-(d:Nat)) (-(t:Nat)))
  rw [Int.toNat_of_nonneg (show 0<=bd n w d t from h1.1),Int.toNat_of_nonneg (show 0<=bt n w d t from h2.1),b3e hn f hw]
theorem Lst.tr{n:Nat}(hn:0<n){f g:Nat->Nat->Nat}{A:List (List Nat)}(h:Of n f (N5 n g))(k:Lst n g A):Lst n f A:=⟨h.tr hn k.1,fun B hB=>k.2 B ((h.back hn).tr hn hB)⟩
theorem Z7{body:MS}{tg:PV->b9->Option b9}{p:PV}{ps:List PV}{ρ ρ1 ρ2:b9}(h1:tg p ρ=some ρ1)(h2:body ρ1=some (.nx ρ2)):B6 body tg (p::ps) ρ=B6 body tg ps ρ2:=by
 rw [B6,h1,AK,h2]
 rfl
section
variable {α β:Type}{f:α->PV}{g:β->PV}{h:α->β->PV}
theorem a7Q{x:α}{q0 q1:Option e9}:∀(Y:List β) (acc:List PV) (q4:Option e9),(∀y∈Y,a2B (.val (f x)) (.val (g y))=some (.val (h x y)))->acc.length+Y.length<=16777216->
 ∃q4',B6 X2 (g0 4) (Y.map g) [q0,q1,some (.own acc),some (.val (f x)),q4]=some (.nx [q0,q1,some (.own (acc++Y.map (h x))),some (.val (f x)),q4'])
 |[],acc,q4,_,_=>⟨q4,by rw [Ak,Ak,Al];rfl⟩
 |y::Y,acc,q4,k,hl=>by
  rw [AT] at hl
  obtain⟨q,ih⟩:=a7Q Y (acc++[h x y]) (some (.val (g y))) (fun z hz=>k z (Af _ hz)) (by rw [Ao,List.length_singleton];lia)
  refine⟨q, ?_⟩
  rw [AR,Z7 (ρ1:=[q0,q1,some (.own acc),some (.val (f x)),some (.val (g y))]) (ρ2:=[q0,q1,some (.own (acc++[h x y])),some (.val (f x)),some (.val (g y))]) rfl ?_,ih,List.append_assoc]
  ·rfl
  ·unfold X2
   exact C2 (r:= .val (h x y)) (p:=h x y) (by simp (disch:=omega) only [m6,f9,h9,AK,k y Ad]) rfl rfl (by lia)
theorem a7R{E:PV}{Y:List β}(hE:b1p (mC E) []=some (Y.map g)){q0:Option e9}:∀(X:List α) (acc:List PV) (q3 q4:Option e9),(∀x∈X,∀y∈Y,a2B (.val (f x)) (.val (g y))=some (.val (h x y)))->acc.length+X.length*Y.length<=16777216->
 ∃q3' q4',B6 X3 (g0 3) (X.map f) [q0,some (.val E),some (.own acc),q3,q4]=some (.nx [q0,some (.val E),some (.own (acc++X.flatMap fun x=>Y.map (h x))),q3',q4'])
 |[],acc,q3,q4,_,_=>⟨q3,q4,by rw [Ak,List.flatMap_nil,Al];rfl⟩
 |x::X,acc,q3,q4,k,hl=>by
  rw [AT,Nat.succ_mul] at hl
  obtain⟨q4',e1⟩:=a7Q (f:=f) (h:=h) (x:=x) (q0:=q0) (q1:=some (.val E)) Y acc q4 (k x Ad) (by lia)
  obtain⟨p3,p4,ih⟩:=a7R hE (q0:=q0) X (acc++Y.map (h x)) (some (.val (f x))) q4' (fun z hz=>k z (Af _ hz)) (by rw [Ao,AW];lia)
  refine⟨p3,p4, ?_⟩
  rw [AR,Z7 (ρ1:=[q0,some (.val E),some (.own acc),some (.val (f x)),q4]) rfl ?_,ih,List.append_assoc]
  ·rfl
  ·unfold X3
   rw [n0,show b1p (c6 1) [q0,some (.val E),some (.own acc),some (.val (f x)),q4]=some (Y.map g) from hE,AK]
   exact e1
theorem a5A{E:PV}{X:List α}{Y:List β}(hE:b1p (mC E) []=some (Y.map g))(k:∀x∈X,∀y∈Y,a2B (.val (f x)) (.val (g y))=some (.val (h x y)))(hl:X.length*Y.length<=16777216):W9 [.list (X.map f),E]=some (.own (X.flatMap fun x=>Y.map (h x))):=by
 obtain⟨q3,q4,e⟩:=a7R hE (q0:=some (.val (.list (X.map f)))) X [] none none k (by rw [Aj];lia)
 unfold W9 a7n
 simp (disch:=omega) only [f9,d9,d6,D7,j7,L7,k4,k7,k9,l9,n0,AK,AR,Ak,Aa,Ae,Ah,Ag,AY,AZ,Aj,↓reduceIte,u5,B7,T5,T6,sz,Au,e]
end
def ltr(m:Nat):List Nat:=(AS m).map (97+·)
theorem b6N{α:Type}(w:List α)(j:Nat):cut w none (some (j:Int))=w.take j:=by
 unfold cut
 rw [HT.sIx_none,HT.sIx_nat,List.drop_zero,Nat.sub_zero]
 by_cases h:j<=w.length
 ·rw [Nat.min_eq_left h]
 ·rw [Nat.min_eq_right (by lia),List.take_of_length_le (AO _),List.take_of_length_le (by lia)]
theorem b22{m:Nat}(h:m<=26):gSl (.val R9) none (some (m:Int))=some (.val (row (ltr m))):=by
 have e:R9= .str (S (ltr 26)):=by kernel_rfl
 rw [e,b8R (by decide),b6N]
 unfold ltr row
 rw [<-List.map_take,List.take_range,Nat.min_eq_left h]
theorem b4Y(m:Nat):b1p (mC (row (ltr m))) []=some ((ltr m).map fun c=>row [c]):=by
 show some ((S (ltr m)).cps.toList.map fun c=>PyData.str ⟨#[c]⟩)=_
 rw [a0j]
 rfl
theorem b4i{α β:Type}(φ:List α->β)(A:List α)(k:Nat):(ws A (k+1)).map φ=(ws A k).flatMap fun s=>A.map fun c=>φ (s++[c]):=by
 show((ws A k).flatMap fun s=>A.map fun c=>s++[c]).map φ=_
 rw [List.map_flatMap]
 simp only [As]
 rfl
theorem a5F{i:Nat}{nn:MS}{ρ:b9}{ps:List PV}(h:ρ[i]?=some (some (.ow (.lst ps)))):a12 i nn ρ=nn (ρ.set i (some (.val (.list ps)))):=by
 unfold a12
 rw [h]
theorem b13{l:List Nat}{c:Nat}(h:l.length<16777216):a2B (.val (row l)) (.val (row [c]))=some (.val (row (l++[c]))):=b4I h
theorem a8G{A:List (List Nat)}{r:List Nat}(h:A.length<16777216):a2B (.val (c9 A)) (.val (.tuple [row r]))=some (.val (c9 (A++[r]))):=by
 cases A with
 |nil=>rfl
 |cons a A=>
  show K9 (.val (.tuple ((a::A).map row))) (.val (.tuple [row r]))=_
  show(if(((a::A).map row).length≠0/\[row r].length≠0)/\((a::A).map row).length+[row r].length<=AN then _ else none)=_
  rw [if_pos]
  ·show _=some (e9.val (.tuple ((a::A++[r]).map row)))
   rw [BG]
   rfl
  ·refine⟨⟨by simp,by simp⟩, ?_⟩
   rw [AW,sizeLine_eq,List.length_singleton]
   lia
theorem b3F{m n k:Nat}(hm:0<m)(h:k<=n):m ^ k<=m ^ n:=Nat.pow_le_pow_right hm h
def E6(n m:Nat):List (List Nat):=ws (ltr m) n
def B9(n m:Nat):List (List (List Nat)):=ws (E6 n m) n
theorem a1h(m:Nat):(ltr m).length=m:=by
 unfold ltr
 rw [AW,At]
theorem b0R(n m:Nat):(B9 n m).length=m ^(n*n):=by
 unfold B9 E6
 rw [a2k,a2k,a1h,Nat.pow_mul]
theorem a8N{n m:Nat}(hn:0<n)(hn8:n<=8)(hm:0<m)(hm26:m<=26)(hN:m ^(n*n)<=600):G7 [.int n,.int m]=some (.own ((B9 n m).map c9)):=by
 have hnn:n<=n*n:=Nat.le_mul_of_pos_left n hn
 have hr:∀i,i<=n->(ws (ltr m) i).length<=600:=fun i hi=>by
  rw [a2k,a1h]
  exact Nat.le_trans (b3F hm (Nat.le_trans hi hnn)) hN
 have hc:∀i,i<=n->(ws (E6 n m) i).length<=600:=fun i hi=>by
  unfold E6
  rw [a2k,a2k,a1h,<-Nat.pow_mul]
  exact Nat.le_trans (b3F hm (Nat.mul_le_mul_left n hi)) hN
 have hR:(E6 n m).length<=600:=hr n (AO n)
 obtain⟨ρ1,e1,q4,rfl⟩:=z9 (body:=G0) (tg:=g0 4) (fun i ρ=>∃q4:Option e9,ρ=[some (.val (.int n)),some (.val (.int m)),some (.own ((ws (ltr m) i).map row)),some (.own [.tuple []]),q4])
  (ps:=A8 0 n) (ρ:=[some (.val (.int n)),some (.val (.int m)),some (.own [.str ""]),some (.own [.tuple []]),none])
  (by
   rintro i p hp ρ ⟨q4,rfl⟩
   obtain⟨rfl,hi⟩:=O5 hp
   have h1:=hr i (by lia)
   have e:=a5A (f:=row) (g:=fun c=>row [c]) (h:=fun l c=>row (l++[c])) (X:=ws (ltr m) i) (Y:=ltr m) (b4Y m) (fun l hl c _=>b13 (by have:=(G4.mp hl).1;lia)) (by
    rw [a1h]
    have:=Nat.mul_le_mul h1 hm26
    lia)
   refine L4 rfl (ρ2:=[some (.val (.int n)),some (.val (.int m)),some (.own ((ws (ltr m) (i+1)).map row)),some (.own [.tuple []]),some (.val (.int ((0:Int)+(i:Int))))]) ?_ ⟨_,rfl⟩
   unfold G0
   rw [a5F rfl]
   simp (disch:=omega) only [n4,f9,h9,d9,c8,d6,i7,j7,L7,AK,AY,AZ,a35,a39,a38,b0c,b22 hm26,e]
   rw [b4i]) ⟨none,rfl⟩
 rw [z3,show((n:Int) - 0).toNat=n by lia] at e1
 obtain⟨ρ2,e2,q4',rfl⟩:=z9 (body:=G1) (tg:=g0 4) (fun i ρ=>∃q4:Option e9,ρ=[some (.val (.int n)),some (.val (.int m)),some (.own ((E6 n m).map row)),some (.own ((ws (E6 n m) i).map c9)),q4])
  (ps:=A8 0 n) (ρ:=[some (.val (.int n)),some (.val (.int m)),some (.own ((E6 n m).map row)),some (.own [.tuple []]),q4])
  (by
   rintro i p hp ρ ⟨q4,rfl⟩
   obtain⟨rfl,hi⟩:=O5 hp
   have h1:=hc i (by lia)
   have cm:∀q3:Option e9,B0 1 (w6 (c6 2)) (g0 5) K4 G2 [some (.val (.int n)),some (.val (.int m)),some (.own ((E6 n m).map row)),q3,some (.val (.int ((0:Int)+(i:Int))))]=some (.own ((E6 n m).map fun r=> .tuple [row r])):=fun q3=>by
    refine v7 (ι:=row) (f:=fun r=> .tuple [row r]) (E6 n m) (Y0 (r:= .bor ((E6 n m).map row)) rfl rfl) (by lia) ?_
    intro r _
    refine⟨_,rfl, ?_⟩
    unfold G2
    simp (disch:=omega) only [f9,h9,d9,c8,d6,t6,AK,Aa,Ae,Ah,Ag,AY,AZ,AT,Aj,↓reduceIte,sz,Nat.reduceAdd,Au]
   have e:=a5A (f:=c9) (g:=fun r=> .tuple [row r]) (h:=fun A r=>c9 (A++[r])) (X:=ws (E6 n m) i) (Y:=E6 n m) (E:= .list ((E6 n m).map fun r=> .tuple [row r])) rfl (fun A hA r _=>a8G (by have:=(G4.mp hA).1;lia)) (by
    have:=Nat.mul_le_mul h1 hR
    lia)
   refine L4 rfl (ρ2:=[some (.val (.int n)),some (.val (.int m)),some (.own ((E6 n m).map row)),some (.own ((ws (E6 n m) (i+1)).map c9)),some (.val (.int ((0:Int)+(i:Int))))]) ?_ ⟨_,rfl⟩
   unfold G1
   rw [a5F rfl]
   simp (disch:=omega) only [f9,h9,d9,c8,d6,R8,i7,j7,L7,AK,AY,AZ,cm,e]
   rw [b4i]) ⟨q4,rfl⟩
 rw [z3,show((n:Int) - 0).toNat=n by lia] at e2
 unfold G7 a0m
 rw [show E6 n m=ws (ltr m) n from rfl] at e2
 simp (disch:=omega) only [n4,f9,d9,c8,d6,t6,D7,j7,L7,k4,k7,k9,l9,n0,A2,L3,AK,AR,Ak,Aa,Ae,Ah,Ag,AY,AZ,AT,Aj,↓reduceIte,T5,T6,sz,Nat.reduceAdd,Au,e1,e2]
 rfl
def b6z(n:MX):FX->Option FX
 | .fl (.nx ρ)=>n ρ
 |f=>some f
def b8w(m n:MX)(ρ:b9)(b:Bool):Option FX:=if b=true then m ρ else n ρ
def b9j:FX->Option (e9 ⊕ XT)
 | .fl (.rt r)=>some (.inl r)
 | .fl (.nx _)=>some (.inl (.val .none))
 | .rz c _=>some (.inr c)
 |_=>none
theorem a18(m n:MX)(ρ:b9):b0q m n ρ=(m ρ).bind (b6z n):=Eq.trans rfl rfl
theorem a4J(n:MX)(ρ:b9):b6z n (.fl (.nx ρ))=n ρ:=Eq.trans rfl rfl
theorem a71(c:MT)(m n:MX)(ρ:b9):b7w c m n ρ=(c ρ).bind (b8w m n ρ):=Eq.trans rfl rfl
theorem b8y(m n:MX)(ρ:b9):b8w m n ρ true=m ρ:=Eq.trans rfl rfl
theorem b8x(m n:MX)(ρ:b9):b8w m n ρ false=n ρ:=Eq.trans rfl rfl
theorem a4b(m:MS)(ρ:b9):a4X m ρ=(m ρ).map .fl:=Eq.trans rfl rfl
theorem a4t(n:Nat)(b:MX)(ps:List PV):b1J n b ps=(b (ps.map (fun p=>some (e9.val p))++AV n none)).bind b9j:=Eq.trans rfl rfl
theorem b5b{g:List PV->Option (e9 ⊕ XT)}{m:MA}{ρ:b9}{ps:List PV}{r:e9}(h1:m ρ=some ps)(h2:g ps=some (.inl r)):a70 g m ρ=some (.fl (.nx ρ)):=by
 unfold a70 b16
 rw [h1,AK,h2]
 rfl
theorem a8t{m:Nat}(hm:m<=26){k:Nat}(hk:k<=100):y6 [.int m,.int k]=some (.val (.int ((m ^ k:Nat):Int))):=by
 obtain⟨ρ1,e1,q3,rfl⟩:=z9 (body:=D5) (tg:=g0 3) (fun i ρ=>∃q3:Option e9,ρ=[some (.val (.int m)),some (.val (.int k)),some (.val (.int ((m ^ i:Nat):Int))),q3])
  (ps:=A8 0 k) (ρ:=[some (.val (.int m)),some (.val (.int k)),some (.val (.int 1)),none])
  (by
   rintro i p hp ρ ⟨q3,rfl⟩
   obtain⟨rfl,hi⟩:=O5 hp
   refine L4 rfl (ρ2:=[some (.val (.int m)),some (.val (.int k)),some (.val (.int ((m ^(i+1):Nat):Int))),some (.val (.int ((0:Int)+(i:Int))))]) ?_ ⟨_,rfl⟩
   unfold D5
   rw [Nat.pow_succ,Int.natCast_mul]
   show((W8 a2X (fun i j=> .int (i*j)) (.val (.int ((m ^ i:Nat):Int))) (.val (.int (m:Int)))).bind fun z=>if z.nb=true then some (Fl.nx ([some (.val (.int m)),some (.val (.int k)),some (.val (.int ((m ^ i:Nat):Int))),some (.val (.int ((0:Int)+(i:Int))))].set 2 (some z))) else none)=_
   rw [a07 _ (show a2X _ _ from .inr (by constructor<;>lia))]
   rfl) ⟨none,rfl⟩
 rw [z3,show((k:Int) - 0).toNat=k by lia] at e1
 unfold y6 W1
 simp (disch:=omega) only [n4,f9,h9,d9,c8,d6,j7,A7,k4,k7,k9,l9,n0,A2,L3,AK,AR,Ak,Aa,Ae,Ah,Ag,AY,AZ,T5,T6,e1]
abbrev tlX(N:Int):XT:=⟨"TooLarge",[(.str "many",.int N)]⟩
theorem b6Z{n m:Nat}(hn8:n<=8)(hm:m<=26):(m ^(n*n)<=600/\∃r,u0 [.int n,.int m]=some (.inl r))\/(600<m ^(n*n)/\u0 [.int n,.int m]=some (.inr (tlX ((m ^(n*n):Nat):Int)))):=by
 have hnn:n*n<=8*8:=Nat.mul_le_mul hn8 hn8
 have ht:=a8t hm (k:=n*n) (by lia)
 rw [Int.natCast_mul] at ht
 have hv:E2= .int 600:=rfl
 by_cases h:600<m ^(n*n)
 ·right
  have h':(600:Int)<((m ^(n*n):Nat):Int):=by lia
  refine⟨h, ?_⟩
  unfold u0 W0
  rw [a4t]
  simp (disch:=omega) only [a1M,a1b,m6,n4,f9,h9,d9,c8,d6,i7,j7,A7,w8,D9,AK,BD,AR,Ak,Aa,Ae,Ah,Ag,AY,AZ,a18,a4b,ht,a4J,a71,hv,decide_eq_true h',b8y]
  rfl
 ·left
  have h':¬(600:Int)<((m ^(n*n):Nat):Int):=by lia
  refine⟨by lia, ?_⟩
  refine⟨.val .none, ?_⟩
  unfold u0 W0
  rw [a4t]
  simp (disch:=omega) only [a1M,a1b,m6,n4,f9,h9,d9,c8,d6,i7,j7,A7,A1,w8,D9,AK,BD,AR,Ak,Aa,Ae,Ah,Ag,AY,AZ,a18,a4b,ht,a4J,a71,hv,decide_eq_false h',b8x]
  rfl
theorem b45{m x:Nat}:x∈ltr m↔97<=x/\x<97+m:=by
 unfold ltr
 rw [An]
 constructor
 ·rintro⟨i,hi,rfl⟩
  have:=List.mem_range.mp hi
  lia
 ·intro h
  exact⟨x - 97,List.mem_range.mpr (by lia),by lia⟩
abbrev In(m n:Nat)(f:Nat->Nat->Nat):Prop:=∀r c:Nat,r<n->c<n->f r c∈ltr m
theorem a1J(A B:List (List Nat)):PyData.eqv (c9 A) (c9 B)=(A==B):=by
 show PyData.eqv (.tuple (A.map row)) (.tuple (B.map row))=_
 rw [show PyData.eqv (.tuple (A.map row)) (.tuple (B.map row))=PyData.eqvAll (A.map row) (B.map row) by simp only [PyData.eqv],a2z]
theorem a9b(L:List (List (List Nat))):o0 (L.map c9) 50=true:=a05 fun p hp=>by
 obtain⟨A,_,rfl⟩:=An.mp hp
 exact M2 A
def b8V:PV->List (List Nat)
 | .tuple rows=>rows.map b0W
 |_=>[]
theorem a3f(A:List (List Nat)):b8V (c9 A)=A:=by
 show(A.map row).map b0W=A
 rw [As]
 have:(b0W∘row)=id:=funext fun l=>a0j l
 rw [this,List.map_id]
theorem b1n{A B:List (List Nat)}(h:A.length=B.length):ltv (c9 A) (c9 B)=some (decide (A<B)):=by
 show ltv (.tuple (A.map row)) (.tuple (B.map row))=_
 rw [ltv,a5D h]
def b47(n:Nat)(f:Nat->Nat->Nat):PV->PV
 | .tuple [.str w,.int d,.int t]=>v9 n (mvd n f w d t)
 |_=> .none
theorem a1Y{n:Nat}(hn:0<n)(hn8:n<=8)(f:Nat->Nat->Nat):∃A,Lst n f A/\u4 [v9 n f]=some (.val (c9 A)):=by
 have hl:=a0W k6 n
 have e8:k6.length=8:=rfl
 have hp:0<n*n:=Nat.mul_pos hn hn
 have hsz:n*n<=8*8:=Nat.mul_le_mul hn8 hn8
 rw [e8] at hl
 have cm:B0 1 (w6 (m7 R0 (b0 (m1 J0 (c6 0)) f8))) (g0 1) K4 M9 [some (.val (v9 n f))]=some (.own ((z8 k6 n).map (b47 n f))):=by
  refine v7 (ι:=id) (f:=b47 n f) (z8 k6 n) (Y0 (r:= .ow (.lst (z8 k6 n))) (by simp (disch:=omega) only [D6,f9,d9,c8,d6,i7,AK,a00,b4o hn8]) (by rw [List.map_id];rfl)) (by lia) ?_
  intro p hp
  obtain⟨w,hw,d,t,hd,ht,rfl⟩:=R4.mp hp
  refine⟨_,rfl, ?_⟩
  unfold M9
  simp (disch:=omega) only [f9,h9,d9,c8,d6,i7,AK,Aa,Ae,Ah,Ag,AY,AZ,id_eq,b1s hn hn8 f hw]
  rfl
 have mem:∀p∈(z8 k6 n).map (b47 n f),∃w∈k6,∃d t:Nat,d<n/\t<n/\p=c9 (N5 n (mvd n f w (d:Nat) (t:Nat))):=fun p hp=>by
  obtain⟨q,hq,rfl⟩:=An.mp hp
  obtain⟨w,hw,d,t,hd,ht,rfl⟩:=R4.mp hq
  exact⟨w,hw,d,t,hd,ht,rfl⟩
 obtain⟨p,hp1,hp2,hp3⟩:=b7u (ps:=(z8 k6 n).map (b47 n f)) (key:=b8V)
  (fun p hp q hq=>by
   obtain⟨w,_,d,t,_,_,rfl⟩:=mem p hp
   obtain⟨v,_,e,u,_,_,rfl⟩:=mem q hq
   rw [a3f,a3f]
   exact b1n (by rw [a3n,a3n]))
  (a05 fun p hp=>by
   obtain⟨w,_,d,t,_,_,rfl⟩:=mem p hp
   exact M2 _)
  (by rw [AW];lia)
 obtain⟨w,hw,d,t,hd,ht,rfl⟩:=mem p hp1
 refine⟨_,⟨⟨w,hw,d,t,hd,ht,rfl⟩,fun B hB hlt=> ?_⟩, ?_⟩
 ·obtain⟨v,hv,a,b,ha,hb,rfl⟩:=hB
  refine hp3 (c9 (N5 n (mvd n f v (a:Nat) (b:Nat)))) (An.mpr ⟨T3 v (a:Nat) (b:Nat),R4.mpr ⟨v,hv,a,b,ha,hb,rfl⟩,rfl⟩) ?_
  rw [a3f,a3f]
  exact hlt
 ·unfold u4 a2t
  simp (disch:=omega) only [D6,o5,B8,k9,l9,AK,AR,Ak,Ae,Al,cm,hp2]
theorem b6C:(.str (AM "abcdefghijklmnopqrstuvwxyz"):PV)=row (ltr 26):=by kernel_rfl
theorem b7m{i:Nat}(h:i<26):(ltr 26).getD i 0=97+i:=by
 unfold ltr
 simp [List.getD,h]
theorem b6D{i:Int}(h0:0<=i)(h1:i<26):J8 (.val (row (ltr 26))) (.val (.int i))=some (.val (row [97+i.toNat])):=by
 rw [b4K (a1h 26) (by lia) h0 (by lia),b7m (by lia)]
abbrev cfL(x:Int)(n m:Nat):Nat->Nat->Nat:=fun r c=>97+(a14 x ((r:Int)*n+c) % m).toNat
theorem b6K(x:Int)(n:Nat){m:Nat}(hm:0<m):In m n (cfL x n m):=fun r c _ _=>b45.mpr (by
 have h0:0<=a14 x ((r:Int)*n+c) % m:=Int.emod_nonneg _ (by lia)
 have h1:a14 x ((r:Int)*n+c) % m<m:=Int.emod_lt_of_pos _ (by lia)
 show 97<=97+(a14 x ((r:Int)*n+c) % m).toNat/\97+(a14 x ((r:Int)*n+c) % m).toNat<97+m
 lia)
theorem a8Z{n m:Nat}(hn8:n<=8)(hm:0<m)(hm26:m<=26)(x:Int):L0 [.int n,.int m,.int x]=some (.val (v9 n (cfL x n m))):=by
 unfold L0 a0X
 simp (disch:=omega) only [D6,n4,j7,A7,o5,k4,k7,k9,AK,AR,Ak,Aa,Ae,Ah,Ag,AY,AZ,b6C]
 rw [v7 (f:=fun r:Nat=>row ((AS n).map fun(c:Nat)=>cfL x n m r c)) (AS n) (L5 (n:=n) rfl (by lia)) (by rw [At];lia)]
 ·simp (disch:=omega) only [B8,l9,AK,a0C]
  unfold v9 c9
  rw [As]
  rfl
 ·intro r hr
  have hr:=List.mem_range.mp hr
  refine⟨_,rfl, ?_⟩
  unfold U9
  simp (disch:=omega) only [m6,n4,AK,Aa,Ae,Ah,Ag,AY,AZ]
  rw [v7 (f:=fun c:Nat=>row [cfL x n m r c]) (AS n) (L5 (n:=n) rfl (by lia)) (by rw [At];lia)]
  ·simp (disch:=omega) only [d6,AK,show AM ""=S [] from rfl,a0B (k:=n) (by lia)]
  ·intro c hc
   have hc:=List.mem_range.mp hc
   have hrn:r*n<=8*8:=Nat.mul_le_mul (by lia) hn8
   have h64:(0:Int)<=(r:Int)*n/\(r:Int)*n<=64:=by
    rw [<-Int.natCast_mul]
    lia
   have e:=a5G (c:=x) (k:=(r:Int)*n+c) (by lia)
   have h0:0<=a14 x ((r:Int)*n+c) % m:=Int.emod_nonneg _ (by lia)
   have h1:a14 x ((r:Int)*n+c) % m<m:=Int.emod_lt_of_pos _ (by lia)
   have ix:=b6D h0 (by lia)
   refine⟨_,rfl, ?_⟩
   unfold U8
   simp (disch:=omega) only [Q7,a1b,Q8,m6,f9,h9,d9,c8,d6,i7,AK,Aa,Ae,Ah,Ag,AY,AZ,e,ix]
def kc(R:List (List Nat)):List g9:=R.map fun l=>Sum.inr (S l)
theorem a8Y:∀{A B:List (List Nat)},kc A=kc B->A=B
 |[],[],_=>rfl
 |[],_::_,h=>by simp [kc] at h
 |_::_,[],h=>by simp [kc] at h
 |a::A,b::B,h=>by
  unfold kc at h
  rw [AR,AR] at h
  injection h with h1 h2
  rw [b11 (Sum.inr.inj h1),a8Y (A:=A) (B:=B) h2]
theorem a1V:∀R:List (List Nat),keysOf (R.map row)=some (kc R)
 |[]=>rfl
 |a::R=>by
  rw [AR]
  unfold keysOf
  rw [a1V R]
  rfl
theorem a7M{n:Nat}(hn:0<n)(h5:n<=5)(f:Nat->Nat->Nat):a2I (.val (v9 n f))=some (kc (N5 n f)):=by
 show(keysOf ((N5 n f).map row)).bind _=_
 rw [a1V,AK]
 have hl:(kc (N5 n f)).length=n:=by unfold kc N5;simp
 have ha:(kc (N5 n f)).all (b3Z n)=true:=by
  refine List.all_eq_true.mpr fun k hk=> ?_
  unfold kc N5 at hk
  rw [As] at hk
  obtain⟨r,_,rfl⟩:=An.mp hk
  show((S ((AS n).map fun c=>f r c)).length==n)=true
  rw [a3t];simp
 have hm:a3W (kc (N5 n f))=true:=by
  unfold a3W
  rw [hl,ha]
  have:n=1\/n=2\/n=3\/n=4\/n=5:=by lia
  rcases this with h|h|h|h|h<;>simp [h]
 rw [if_pos hm]
theorem Of.refl{n:Nat}(hn:0<n)(f:Nat->Nat->Nat):Of n f (N5 n f):=by
 have h:Of n f (N5 n (mvd n f (AM "stay") ((0:Nat):Nat) ((0:Nat):Nat))):=⟨_,b31,0,0,hn,hn,rfl⟩
 exact h.tr hn (h.back hn)
theorem b18{n m:Nat}{f:Nat->Nat->Nat}(h:∀r c:Nat,r<n->c<n->f r c∈ltr m):N5 n f∈B9 n m:=by
 refine G4.mpr ⟨a3n n f,fun l hl=> ?_⟩
 obtain⟨r,hr,rfl⟩:=An.mp hl
 refine G4.mpr ⟨by rw [AW,At],fun x hx=> ?_⟩
 obtain⟨c,hc,rfl⟩:=An.mp hx
 exact h r c (List.mem_range.mp hr) (List.mem_range.mp hc)
theorem u8{n m:Nat}{A:List (List Nat)}(h:A∈B9 n m):SqA n A:=⟨(G4.mp h).1,fun l hl=>(G4.mp ((G4.mp h).2 l hl)).1⟩
theorem b17{n m:Nat}{A:List (List Nat)}(h:A∈B9 n m){r c:Nat}(hr:r<n)(hc:c<n):fA A r c∈ltr m:=by
 obtain⟨h1,h2⟩:=u8 h
 have hr':r<A.length:=by lia
 have e:A.getD r []=A[r]:=by simp [List.getD,hr']
 have hl:=h2 A[r] (List.getElem_mem hr')
 have hc':c<A[r].length:=by lia
 have e2:A[r].getD c 0=A[r][c]:=by simp [List.getD,hc']
 show(A.getD r []).getD c 0∈ltr m
 rw [e,e2]
 exact(G4.mp ((G4.mp h).2 A[r] (List.getElem_mem hr'))).2 _ (List.getElem_mem hc')
theorem b3l{n m:Nat}(hn:0<n){f:Nat->Nat->Nat}{B:List (List Nat)}(h:∀r c:Nat,r<n->c<n->f r c∈ltr m)(k:Of n f B):B∈B9 n m:=by
 obtain⟨w,hw,d,t,hd,ht,rfl⟩:=k
 refine b18 fun r c hr hc=> ?_
 obtain⟨⟨b1,b2⟩,b3,b4⟩:=a32 (n:=(n:Int)) (by lia) (S0 w) (bd n w d t) (bt n w d t) r c
 exact h _ _ (by lia) (by lia)
theorem b7n(m:Nat):(ltr m).Pairwise (· <·):=by
 unfold ltr
 rw [List.pairwise_map]
 exact List.pairwise_lt_range.imp fun h=>by lia
theorem a7q(n m:Nat):(B9 n m).Pairwise (· <·):=b4j (b4j (b7n m) n) n
theorem b7k{n:Nat}(hn:0<n)(hn8:n<=8)(f:Nat->Nat->Nat):∃A,Lst n f A:=
 let ⟨A,h,_⟩:=a1Y hn hn8 f;⟨A,h⟩
def Own(n:Nat)(A:List (List Nat)):Prop:=Lst n (fA A) A
open Classical in
def frm(n:Nat)(P:List (List (List Nat))):List (List (List Nat)):=P.filter fun A=>decide (Own n A)
open Classical in
theorem a3i{n:Nat}{P:List (List (List Nat))}{A:List (List Nat)}:A∈frm n P↔A∈P/\Own n A:=by
 unfold frm
 rw [List.mem_filter,decide_eq_true_iff]
theorem b3w{n:Nat}(hn:0<n){f:Nat->Nat->Nat}{A:List (List Nat)}(h:Lst n f A):Own n A:=by
 have e:=a2f h.1.sq
 have k:Of n f (N5 n (fA A)):=by rw [e];exact h.1
 exact Lst.tr hn (k.back hn) h
theorem b46{n m:Nat}(hn:0<n)(hn8:n<=8){P R:List (List (List Nat))}{A:List (List Nat)}(hC:B9 n m=P++A::R):(∃B∈frm n P,Of n (fA B) A)↔¬Own n A:=by
 have up:=a7q n m
 rw [hC,List.pairwise_append,List.pairwise_cons] at up
 obtain⟨_,⟨u1,_⟩,u2⟩:=up
 have hA:A∈B9 n m:=by rw [hC];simp
 have eA:=a2f (u8 hA)
 constructor
 ·rintro⟨B,hB,h⟩ k
  obtain⟨hP,_⟩:=a3i.mp hB
  have hB':B∈B9 n m:=by rw [hC];simp [hP]
  have eB:=a2f (u8 hB')
  have h':Of n (fA B) (N5 n (fA A)):=by rw [eA];exact h
  have:=h'.back hn
  rw [eB] at this
  exact k.2 B this (u2 B hP A Ad)
 ·intro h
  obtain⟨B,hB⟩:=b7k hn hn8 (fA A)
  have hBm:B∈B9 n m:=b3l hn (fun r c hr hc=>b17 hA hr hc) hB.1
  have eB:=a2f (u8 hBm)
  have nlt:¬A<B:=hB.2 A (by have:=Of.refl hn (fA A);rwa [eA] at this)
  have hne:A≠B:=fun e=>h (by subst e;exact hB)
  have hP:B∈P:=by
   rw [hC] at hBm
   rcases Ay.mp hBm with k|k
   ·exact k
   ·rcases Ab.mp k with k|k
    ·exact absurd k.symm hne
    ·exact absurd (u1 B k) nlt
  refine⟨B,a3i.mpr ⟨hP,b3w hn hB⟩, ?_⟩
  have h1:Of n (fA A) (N5 n (fA B)):=by rw [eB];exact hB.1
  have:=h1.back hn
  rwa [eA] at this
def Kd(n:Nat)(D:List (List g9×PV))(F:List (List (List Nat))):Prop:=∀B:List (List Nat),(r8 D (kc B)).isSome=true↔∃A∈F,Of n (fA A) B
theorem a91{n:Nat}(hn:0<n)(h5:n<=5)(f:Nat->Nat->Nat){q0 q1 q2 q3:Option e9}:∀(ps:List PV) (D:List (List g9×PV)) (q6:Option e9),(∀p∈ps,∃w∈k6,∃d t:Nat,p=T3 w (d:Nat) (t:Nat))->D.length+ps.length<16777216->
 ∃(D':List (List g9×PV)) (q6':Option e9),D'.length<=D.length+ps.length/\(∀B,(r8 D' (kc B)).isSome=true↔(r8 D (kc B)).isSome=true\/∃(w:Str) (d t:Nat),T3 w (d:Nat) (t:Nat)∈ps/\B=N5 n (mvd n f w (d:Nat) (t:Nat)))/\
  B6 M6 (g0 6) ps [q0,q1,q2,q3,some (.ow (.dct D)),some (.val (v9 n f)),q6]=some (.nx [q0,q1,q2,q3,some (.ow (.dct D')),some (.val (v9 n f)),q6'])
 |[],D,q6,_,_=>⟨D,q6,AO _,fun B=>by simp,rfl⟩
 |p::ps,D,q6,h,hl=>by
  rw [AT] at hl
  obtain⟨w,hw,d,t,rfl⟩:=h p Ad
  have hp:=a4p D (kc (N5 n (mvd n f w (d:Nat) (t:Nat)))) (.bool true)
  obtain⟨D',q6',h1,h2,h3⟩:=a91 hn h5 f (q0:=q0) (q1:=q1) (q2:=q2) (q3:=q3) ps (a1m D (kc (N5 n (mvd n f w (d:Nat) (t:Nat)))) (.bool true)) (some (.val (T3 w (d:Nat) (t:Nat)))) (fun x hx=>h x (Af _ hx)) (by lia)
  refine⟨D',q6',by rw [AT];lia,fun B=> ?_, ?_⟩
  ·rw [h2,a1x]
   by_cases e:kc (N5 n (mvd n f w (d:Nat) (t:Nat)))=kc B
   ·rw [if_pos e]
    exact⟨fun _=> .inr ⟨w,d,t,Ad,(a8Y e).symm⟩,fun _=> .inl rfl⟩
   ·rw [if_neg e]
    constructor
    ·rintro(k|⟨w',d',t',k,rfl⟩)
     ·exact .inl k
     ·exact .inr ⟨w',d',t',Af _ k,rfl⟩
    ·rintro(k|⟨w',d',t',k,rfl⟩)
     ·exact .inl k
     ·rcases Ab.mp k with k|k
      ·injection k with k
       injection k with k1 k
       injection k with k2 k
       injection k with k3 _
       injection k1 with k1
       injection k2 with k2
       injection k3 with k3
       subst k1
       rw [k2,k3] at e
       exact absurd rfl e
      ·exact .inr ⟨w',d',t',k,rfl⟩
  ·rw [Z7 (ρ1:=[q0,q1,q2,q3,some (.ow (.dct D)),some (.val (v9 n f)),some (.val (T3 w (d:Nat) (t:Nat)))]) (ρ2:=[q0,q1,q2,q3,some (.ow (.dct (a1m D (kc (N5 n (mvd n f w (d:Nat) (t:Nat)))) (.bool true)))),some (.val (v9 n f)),some (.val (T3 w (d:Nat) (t:Nat)))]) rfl ?_,h3]
   unfold M6
   simp (disch:=omega) only [n4,f9,h9,d9,c8,d6,i7,AK,X9,b1t hn (by lia:n<=8) f hw,a7M hn h5]
   rw [a3G rfl (by lia)]
   rfl
theorem a93(n:Nat)(P Q:List (List (List Nat))):frm n (P++Q)=frm n P++frm n Q:=List.filter_append ..
open Classical in
theorem a94(n:Nat)(A:List (List Nat)):frm n [A]=if Own n A then [A] else []:=by
 unfold frm
 rw [List.filter_cons,List.filter_nil]
 by_cases h:Own n A<;>simp [h]
theorem a6t{n m:Nat}(hn:0<n)(h5:n<=5){q0 q1:Option e9}:∀(R P:List (List (List Nat))) (D:List (List g9×PV)) (q2 q5 q6:Option e9),B9 n m=P++R->(q2=some (.own (z8 E3 n))\/q2=some (.val (.list (z8 E3 n))))->Kd n D (frm n P)->D.length<=200*P.length->P.length+R.length<=600->
 ∃(D':List (List g9×PV)) (q2' q5' q6':Option e9),B6 y8 (g0 5) (R.map c9) [q0,q1,q2,some (.own ((frm n P).map c9)),some (.ow (.dct D)),q5,q6]=some (.nx [q0,q1,q2',some (.own ((frm n (P++R)).map c9)),some (.ow (.dct D')),q5',q6'])
 |[],P,D,q2,q5,q6,_,_,_,_,_=>⟨D,q2,q5,q6,by rw [Al];rfl⟩
 |A::R,P,D,q2,q5,q6,hC,h2,hD,hl,hN=>by
  rw [AT] at hN
  have hA:A∈B9 n m:=by rw [hC];simp
  have hs:=u8 hA
  have mo:=b46 hn (by lia:n<=8) hC
  have hC':B9 n m=(P++[A])++R:=by rw [hC];simp
  have hf:(frm n P).length<=P.length:=List.length_filter_le ..
  have ec:=a3B hs
  have kk:=a7M hn h5 (fA A)
  rw [a2f hs] at kk
  by_cases k:Own n A
  ·have hv:(r8 D (kc A)).isSome=false:=by
    rw [Bool.eq_false_iff]
    exact fun z=>mo.mp ((hD A).mp z) k
   have e1:frm n (P++[A])=frm n P++[A]:=by rw [a93,a94,if_pos k]
   have hal:(z8 E3 n).length<=200:=by
    rw [a0W,show E3.length=8 from rfl]
    have:n*n<=5*5:=Nat.mul_le_mul h5 h5
    lia
   obtain⟨D1,p6,g1,g2,g3⟩:=a91 hn h5 (fA A) (q0:=q0) (q1:=q1) (q2:=some (.val (.list (z8 E3 n)))) (q3:=some (.own ((frm n (P++[A])).map c9))) (z8 E3 n) D q6 (fun p hp=>by
    obtain⟨w,hw,d,t,_,_,rfl⟩:=R4.mp hp
    exact⟨w,a1B.mp hw,d,t,rfl⟩) (by lia)
   obtain⟨D',p2,p5,p6',ih⟩:=a6t hn h5 (q0:=q0) (q1:=q1) R (P++[A]) D1 (some (.val (.list (z8 E3 n)))) (some (.val (c9 A))) p6 hC' (.inr rfl) (fun B=>by
    rw [g2,hD B,e1]
    constructor
    ·rintro(⟨X,hX,h⟩|⟨w,d,t,h,rfl⟩)
     ·exact⟨X,BF _ hX,h⟩
     ·obtain⟨w',hw,d',t',hd,ht,e⟩:=R4.mp h
      injection e with e
      injection e with k1 e
      injection e with k2 e
      injection e with k3 _
      injection k1 with k1
      injection k2 with k2
      injection k3 with k3
      subst k1
      have k2:d=d':=by lia
      have k3:t=t':=by lia
      subst k2;subst k3
      exact⟨A,by simp,w,a1B.mp hw,d,t,hd,ht,rfl⟩
    ·rintro⟨X,hX,h⟩
     rcases Ay.mp hX with hX|hX
     ·exact .inl ⟨X,hX,h⟩
     ·rw [List.mem_singleton.mp hX] at h
      obtain⟨w,hw,d,t,hd,ht,rfl⟩:=h
      exact .inr ⟨w,d,t,R4.mpr ⟨w,a1B.mpr hw,d,t,hd,ht,rfl⟩,rfl⟩) (by rw [Ao,List.length_singleton];lia) (by rw [Ao,List.length_singleton];lia)
   refine⟨D',p2,p5,p6', ?_⟩
   rw [AR,Z7 (ρ1:=[q0,q1,q2,some (.own ((frm n P).map c9)),some (.ow (.dct D)),some (.val (c9 A)),q6]) (ρ2:=[q0,q1,some (.val (.list (z8 E3 n))),some (.own ((frm n (P++[A])).map c9)),some (.ow (.dct D1)),some (.val (c9 A)),p6]) rfl ?_,ih]
   ·rw [List.append_assoc];rfl
   ·unfold y8
    rw [ec]
    have ap:A0 3 (c6 5) [q0,q1,q2,some (.own ((frm n P).map c9)),some (.ow (.dct D)),some (.val (v9 n (fA A))),q6]=some (.nx [q0,q1,q2,some (.own ((frm n (P++[A])).map c9)),some (.ow (.dct D)),some (.val (v9 n (fA A))),q6]):=by
     rw [C2 (r:= .val (v9 n (fA A))) (p:=v9 n (fA A)) rfl rfl rfl (by rw [AW];lia),e1,BG,<-ec]
     rfl
    have fz:∀nn:MS,a12 2 nn [q0,q1,q2,some (.own ((frm n (P++[A])).map c9)),some (.ow (.dct D)),some (.val (v9 n (fA A))),q6]=nn [q0,q1,some (.val (.list (z8 E3 n))),some (.own ((frm n (P++[A])).map c9)),some (.ow (.dct D)),some (.val (v9 n (fA A))),q6]:=fun nn=>by
     rcases h2 with rfl|rfl<;>rfl
    simp (disch:=omega) only [f9,h9,d6,k4,k7,B1,a7I,w8,D9,n0,AK,↓reduceIte,Bool.not_false,u5,B7,a0a,kk,a6l,a6k,hv,ap,fz,g3]
  ·have hv:(r8 D (kc A)).isSome=true:=(hD A).mpr (mo.mpr k)
   have e1:frm n (P++[A])=frm n P:=by rw [a93,a94,if_neg k,Al]
   obtain⟨D',p2,p5,p6',ih⟩:=a6t hn h5 (q0:=q0) (q1:=q1) R (P++[A]) D q2 (some (.val (c9 A))) q6 hC' h2 (by rw [e1];exact hD) (by rw [Ao,List.length_singleton];lia) (by rw [Ao,List.length_singleton];lia)
   refine⟨D',p2,p5,p6', ?_⟩
   rw [e1] at ih
   rw [AR,Z7 (ρ1:=[q0,q1,q2,some (.own ((frm n P).map c9)),some (.ow (.dct D)),some (.val (c9 A)),q6]) (ρ2:=[q0,q1,q2,some (.own ((frm n P).map c9)),some (.ow (.dct D)),some (.val (c9 A)),q6]) rfl ?_,ih]
   ·rw [List.append_assoc];rfl
   ·unfold y8
    rw [ec]
    simp (disch:=omega) only [f9,h9,B1,a2D,A1,w8,D9,AK,↓reduceIte,Bool.not_true,a0a,kk,a6l,a6k,hv]
abbrev FX0(n m:Nat):List (List (List Nat)):=frm n (B9 n m)
theorem b2C{n m:Nat}(hn:0<n)(h5:n<=5)(hm:0<m)(hm26:m<=26)(hN:m ^(n*n)<=600):C1 [.int n,.int m]=some (.inl (.own ((FX0 n m).map c9))):=by
 have hl:=b0R n m
 obtain⟨D',p2,p5,p6,e⟩:=a6t hn h5 (m:=m) (q0:=some (.val (.int n))) (q1:=some (.val (.int m))) (B9 n m) [] [] (some (.own (z8 E3 n))) none none rfl (.inl rfl) (fun B=>by
  constructor
  ·intro h;cases h
  ·rintro⟨A,hA,_⟩;cases hA) (Nat.zero_le _) (by rw [Aj];lia)
 have hf:∃r,u0 [.int n,.int m]=some (.inl r):=by
  rcases b6Z (by lia:n<=8) hm26 with⟨_,h⟩|⟨h,_⟩
  ·exact h
  ·lia
 obtain⟨r,hf⟩:=hf
 have ex:=b5b (g:=u0) (m:=b0 (c6 0) (b0 (c6 1) f8)) (ρ:=[some (.val (.int n)),some (.val (.int m)),none,none,none,none,none]) (ps:=[.int n,.int m]) (by simp (disch:=omega) only [f9,h9,d9,c8,d6,AK]) hf
 have ac:=a8N hn (by lia:n<=8) hm hm26 hN
 have am:=a7m (by lia:n<=8)
 unfold C1 a2s
 rw [a4t]
 simp (disch:=omega) only [f9,h9,d9,c8,d6,R8,D7,i7,j7,k4,k7,n0,AK,AR,Ak,Aa,Ae,Ah,Ag,AY,AZ,Aj,↓reduceIte,u5,B7,sz,Au,a18,ex,a4J,a4b,am,a11,a8I,ac]
 rw [show B6 y8 (g0 5) ((B9 n m).map c9) [some (.val (.int n)),some (.val (.int m)),some (.ow (.lst (z8 E3 n))),some (.ow (.lst [])),some (.ow (.dct [])),none,none]=_ from e]
 rfl
abbrev Pt:=Int×Int
abbrev pl(p:Pt):PV:= .tuple [.int p.1,.int p.2]
abbrev kp(p:Pt):List g9:=[.inl p.1,.inl p.2]
def nxt(n:Int)(w:Str)(d t:Int)(p:Pt):Pt:=(lr n w d t p.1 p.2,lc n w d t p.1 p.2)
def a61(nx:Pt->Pt)(s:Pt):Nat->List Pt->Pt->Option (List Pt)
 |0,_,_=>none
 |k+1,acc,cur=>if cur=s then some acc else a61 nx s k (acc++[cur]) (nx cur)
theorem a8k{nx:Pt->Pt}{s:Pt}:∀{k:Nat} {acc:List Pt} {cur:Pt} {L:List Pt},a61 nx s k acc cur=some L->L.length<=acc.length+k
 |0,_,_,_,h=>by cases h
 |k+1,acc,cur,L,h=>by
  rw [a61] at h
  split at h
  ·cases h;lia
  ·have:=a8k h
   rw [Ao,List.length_singleton] at this
   lia
theorem b67(p q:Pt):gNe (.val (pl p)) (.val (pl q))=some (.val (.bool (!decide (p=q)))):=by
 rw [a6v (x:= .val (pl p)) (y:= .val (pl q)) ⟨rfl,rfl⟩,b3M,b3M]
 have:PyData.eqv (pl p) (pl q)=decide (p=q):=by
  obtain⟨a,b⟩:=p
  obtain⟨x,y⟩:=q
  rw [Bool.eq_iff_iff,decide_eq_true_eq,Prod.mk.injEq]
  simp [PyData.eqv,PyData.eqvAll]
 rw [this]
theorem b21{n:Nat}(hn:0<n){w:Str}(hw:w∈k6)(d t:Int)(p:Pt):a2C [.int n,T3 w d t,pl p]=some (.val (pl (nxt n w d t p))):=b0f hw (by lia) d t p.1 p.2
theorem a4s{n:Nat}(hn:0<n){w:Str}(hw:w∈k6)(d t:Int)(s:Pt):∀(k:Nat) (acc:List Pt) (cur:Pt) (L:List Pt),acc.length+k<=1000->a61 (nxt n w d t) s k acc cur=some L->
 ∃q,U3 (mtB (m2 gNe (c6 4) (c6 2))) B3 k [some (.val (.int n)),some (.val (T3 w d t)),some (.val (pl s)),some (.own (acc.map pl)),some (.val (pl cur))]=some (.nx [some (.val (.int n)),some (.val (T3 w d t)),some (.val (pl s)),some (.own (L.map pl)),q])
 |0,_,_,_,_,h=>by cases h
 |k+1,acc,cur,L,hl,h=>by
  rw [a61] at h
  rw [U3]
  have hc:mtB (m2 gNe (c6 4) (c6 2)) [some (.val (.int n)),some (.val (T3 w d t)),some (.val (pl s)),some (.own (acc.map pl)),some (.val (pl cur))]=some (!decide (cur=s)):=by
   simp (disch:=omega) only [m6,f9,h9,w8,D9,AK,b67]
  rw [hc,AK]
  by_cases e:cur=s
  ·rw [if_pos e] at h
   cases h
   rw [decide_eq_true e]
   exact⟨_,rfl⟩
  ·rw [if_neg e] at h
   rw [decide_eq_false e,Bool.not_false,if_pos rfl]
   have hb:B3 [some (.val (.int n)),some (.val (T3 w d t)),some (.val (pl s)),some (.own (acc.map pl)),some (.val (pl cur))]=some (.nx [some (.val (.int n)),some (.val (T3 w d t)),some (.val (pl s)),some (.own ((acc++[cur]).map pl)),some (.val (pl (nxt n w d t cur)))]):=by
    unfold B3
    rw [k4,C2 (r:= .val (pl cur)) (p:=pl cur) rfl rfl rfl (by rw [AW];lia),AK,k7]
    show r6 4 _ [some (.val (.int n)),some (.val (T3 w d t)),some (.val (pl s)),some (.own (acc.map pl++[pl cur])),some (.val (pl cur))]=_
    have hl:=b21 hn hw d t cur
    simp (disch:=omega) only [f9,h9,d9,c8,d6,i7,j7,A7,AK,AY,AZ,hl]
    rw [BG]
    rfl
   rw [hb,AK]
   exact a4s hn hw d t s k (acc++[cur]) _ L (by rw [Ao,List.length_singleton];lia) h
theorem b3N{n:Nat}(hn:0<n){w:Str}(hw:w∈k6)(d t:Int)(s:Pt){L:List Pt}(h:a61 (nxt n w d t) s 100 [s] (nxt n w d t s)=some L):D3 [.int n,T3 w d t,pl s]=some (.own (L.map pl)):=by
 obtain⟨q,e⟩:=a4s hn hw d t s 100 [s] _ L (by simp) h
 have hl:=b21 hn hw d t s
 unfold D3 a0Y
 simp (disch:=omega) only [f9,h9,d9,c8,d6,D7,i7,j7,A7,L7,k4,k7,k9,AK,AR,Ak,Aa,Ae,Ah,Ag,AY,AZ,AT,Aj,↓reduceIte,sz,Nat.reduceAdd,Au,hl]
 rw [show([s].map pl)=[pl s] from rfl] at e
 simp (disch:=omega) only [k7,l9,AK,T5,T6,e]
theorem a82{x:Str}{g:List PV->Option e9}{i:Nat}{m:MA}{ρ:b9}{qs:List PV}{r:e9}{tab:List (Str×(List PV->Option e9))}(h:ρ[i]?=some (some (.val (y4 x))))(hl:tab.lookup x=some g)(hm:m ρ=some qs)(hg:g qs=some r):a10 tab i m ρ=some r:=by
 unfold a10
 rw [h]
 show(tab.lookup x).bind (fun g=>(m ρ).bind g)=_
 rw [hl,AK,hm,AK,hg]
def Kn(D:List (List g9×PV))(K:List Pt):Prop:=∀p:Pt,(r8 D (kp p)).isSome=decide (p∈K)
theorem Kn.put{D:List (List g9×PV)}{K:List Pt}(h:Kn D K)(p:Pt)(v:PV):Kn (a1m D (kp p) v) (K++[p]):=fun q=>by
 rw [a1x]
 by_cases e:kp p=kp q
 ·have:p=q:=by
   injection e with e1 e2
   injection e2 with e2 _
   exact Prod.ext (Sum.inl.inj e1) (Sum.inl.inj e2)
  rw [if_pos e,this];simp
 ·rw [if_neg e,h q]
  have:q≠p:=fun z=>e (by rw [z])
  simp [this]
theorem a8c{q0 q1 q2 q3 q5 q6 q7:Option e9}:∀(L:List Pt) (D:List (List g9×PV)) (K:List Pt) (q8:Option e9),D.length+L.length<=10000->Kn D K->∃D' q8',Kn D' (K++L)/\D'.length<=D.length+L.length/\
 B6 J2 (g0 8) (L.map pl) [q0,q1,q2,q3,some (.ow (.dct D)),q5,q6,q7,q8]=some (.nx [q0,q1,q2,q3,some (.ow (.dct D')),q5,q6,q7,q8'])
 |[],D,K,q8,_,h=>⟨D,q8,by rw [Al];exact h,AO _,rfl⟩
 |p::L,D,K,q8,hl,h=>by
  have hp:=a4p D (kp p) (.bool true)
  rw [AT] at hl
  obtain⟨D',q8',h1,h2,h3⟩:=a8c L (a1m D (kp p) (.bool true)) (K++[p]) (some (.val (pl p))) (by lia) (h.put p _)
  refine⟨D',q8',by rw [List.append_assoc] at h1;exact h1,by rw [AT];lia, ?_⟩
  have hb:J2 [q0,q1,q2,q3,some (.ow (.dct D)),q5,q6,q7,some (.val (pl p))]=some (.nx [q0,q1,q2,q3,some (.ow (.dct (a1m D (kp p) (.bool true)))),q5,q6,q7,some (.val (pl p))]):=by
   unfold J2
   simp (disch:=omega) only [n4,f9,h9,d6,AK,X9,a3g]
   rw [a3G rfl (by lia)]
   rfl
  rw [AR,B6]
  show(J2 [q0,q1,q2,q3,some (.ow (.dct D)),q5,q6,q7,some (.val (pl p))]).bind _=_
  rw [hb,AK]
  exact h3
def a0i(nx:Pt->Pt):List Pt->Nat->List Pt->Option (Nat×List Pt)
 |[],m,K=>some (m,K)
 |p::ps,m,K=>if p∈K then a0i nx ps m K else(a61 nx p 100 [p] (nx p)).bind fun L=>a0i nx ps (m+1) (K++L)
theorem a4z{nx:Pt->Pt}:∀(ps qs:List Pt) (m:Nat) (K:List Pt),a0i nx (ps++qs) m K=(a0i nx ps m K).bind fun r=>a0i nx qs r.1 r.2
 |[],_,_,_=>rfl
 |p::ps,qs,m,K=>by
  rw [Ah,a0i,a0i]
  split
  ·exact a4z ps qs m K
  ·cases a61 nx p 100 [p] (nx p) with
   |none=>rfl
   |some L=>rw [AK,AK];exact a4z ps qs (m+1) (K++L)
theorem a1G{n:Nat}(hn:0<n){w:Str}(hw:w∈k6)(d t:Int)(r:Int):∀(cs:List Int) (m:Nat) (K:List Pt) (T:List PV) (D:List (List g9×PV)) (q6 q7 q8:Option e9) (m':Nat) (K':List Pt),Kn D K->T.length=m->T.length+cs.length<=1000->D.length+200*cs.length<=9000->
 a0i (nxt n w d t) (cs.map fun c=>(r,c)) m K=some (m',K')->
 ∃T' D' q6' q7' q8',Kn D' K'/\T'.length=m'/\T'.length<=T.length+cs.length/\D'.length<=D.length+200*cs.length/\B6 y9 (g0 6) (cs.map .int) [some (.val (.int n)),some (.val (T3 w d t)),some (.val (y4 (AM "round_from"))),some (.own T),some (.ow (.dct D)),some (.val (.int r)),q6,q7,q8]
  =some (.nx [some (.val (.int n)),some (.val (T3 w d t)),some (.val (y4 (AM "round_from"))),some (.own T'),some (.ow (.dct D')),some (.val (.int r)),q6',q7',q8'])
 |[],m,K,T,D,q6,q7,q8,m',K',hK,hT,_,_,h=>by
  cases h
  exact⟨T,D,q6,q7,q8,hK,hT,by simp,by simp,rfl⟩
 |c::cs,m,K,T,D,q6,q7,q8,m',K',hK,hT,hl,hd,h=>by
  rw [AT] at hl hd
  rw [AR,a0i] at h
  rw [AR,B6]
  show ∃T' D' q6' q7' q8',_/\_/\_/\_/\(y9 [some (.val (.int n)),some (.val (T3 w d t)),some (.val (y4 (AM "round_from"))),some (.own T),some (.ow (.dct D)),some (.val (.int r)),some (.val (.int c)),q7,q8]).bind _=_
  have hin:=hK (r,c)
  by_cases e:(r,c)∈K
  ·rw [if_pos e] at h
   rw [decide_eq_true e] at hin
   have hb:y9 [some (.val (.int n)),some (.val (T3 w d t)),some (.val (y4 (AM "round_from"))),some (.own T),some (.ow (.dct D)),some (.val (.int r)),some (.val (.int c)),q7,q8]=some (.nx [some (.val (.int n)),some (.val (T3 w d t)),some (.val (y4 (AM "round_from"))),some (.own T),some (.ow (.dct D)),some (.val (.int r)),some (.val (.int c)),q7,q8]):=by
    unfold y9
    simp (disch:=omega) only [f9,h9,d9,c8,d6,t6,B1,a2D,A1,w8,D9,AK,AT,Aj,↓reduceIte,Bool.not_true,sz,Nat.reduceAdd,Au,a0a,a3g,a6k,a6l,hin]
   rw [hb,AK]
   obtain⟨T',D',a,b,c',h1,h2,h3,h4,h5⟩:=a1G hn hw d t r cs m K T D (some (.val (.int c))) q7 q8 m' K' hK hT (by lia) (by lia) h
   exact⟨T',D',a,b,c',h1,h2,by rw [AT];lia,by rw [AT];lia,h5⟩
  ·rw [if_neg e] at h
   rw [decide_eq_false e] at hin
   cases hs:a61 (nxt n w d t) (r,c) 100 [(r,c)] (nxt n w d t (r,c)) with
   |none=>rw [hs] at h;cases h
   |some L=>
    rw [hs,AK] at h
    have hL:=a8k hs
    have hL:L.length<=101:=by simpa [Nat.add_comm] using hL
    have hr:=b3N hn hw d t (r,c) hs
    obtain⟨D1,q8',hK1,hD1,hput⟩:=a8c (q0:=some (.val (.int n))) (q1:=some (.val (T3 w d t))) (q2:=some (.val (y4 (AM "round_from")))) (q3:=some (.own (T++[.list (L.map pl)]))) (q5:=some (.val (.int r))) (q6:=some (.val (.int c))) (q7:=some (.val (.list (L.map pl)))) L D K q8 (by lia) hK
    have hb:y9 [some (.val (.int n)),some (.val (T3 w d t)),some (.val (y4 (AM "round_from"))),some (.own T),some (.ow (.dct D)),some (.val (.int r)),some (.val (.int c)),q7,q8]=some (.nx [some (.val (.int n)),some (.val (T3 w d t)),some (.val (y4 (AM "round_from"))),some (.own (T++[.list (L.map pl)])),some (.ow (.dct D1)),some (.val (.int r)),some (.val (.int c)),some (.val (.list (L.map pl))),q8']):=by
     unfold y9
     have hcall:a10 [((AM "round_from"),D3)] 2 (b0 (c6 0) (b0 (c6 1) (b0 (N6 (b0 (c6 5) (b0 (c6 6) f8))) f8))) [some (.val (.int n)),some (.val (T3 w d t)),some (.val (y4 (AM "round_from"))),some (.own T),some (.ow (.dct D)),some (.val (.int r)),some (.val (.int c)),q7,q8]=some (.own (L.map pl)):=by
      exact a82 (x:=AM "round_from") (qs:=[.int n,T3 w d t,pl (r,c)]) rfl List.lookup_cons_self (by simp (disch:=omega) only [f9,h9,d9,c8,d6,t6,AK,AT,Aj,↓reduceIte,sz,Nat.reduceAdd,Au]) hr
     simp (disch:=omega) only [f9,h9,d9,c8,d6,t6,j7,L7,k4,k7,B1,a7I,w8,D9,AK,AY,AZ,AT,Aj,↓reduceIte,Bool.not_false,sz,Nat.reduceAdd,Au,a0a,a3g,a6k,a6l,hin,hcall]
     have z1:∀nn:MS,a12 7 nn [some (.val (.int n)),some (.val (T3 w d t)),some (.val (y4 (AM "round_from"))),some (.own T),some (.ow (.dct D)),some (.val (.int r)),some (.val (.int c)),some (.own (L.map pl)),q8]=nn [some (.val (.int n)),some (.val (T3 w d t)),some (.val (y4 (AM "round_from"))),some (.own T),some (.ow (.dct D)),some (.val (.int r)),some (.val (.int c)),some (.val (.list (L.map pl))),q8]:=fun _=>rfl
     have z2:∀nn:MS,a12 7 nn [some (.val (.int n)),some (.val (T3 w d t)),some (.val (y4 (AM "round_from"))),some (.own (T++[.list (L.map pl)])),some (.ow (.dct D)),some (.val (.int r)),some (.val (.int c)),some (.val (.list (L.map pl))),q8]=nn [some (.val (.int n)),some (.val (T3 w d t)),some (.val (y4 (AM "round_from"))),some (.own (T++[.list (L.map pl)])),some (.ow (.dct D)),some (.val (.int r)),some (.val (.int c)),some (.val (.list (L.map pl))),q8]:=fun _=>rfl
     rw [z1,C2 (r:= .val (.list (L.map pl))) (p:= .list (L.map pl)) rfl rfl rfl (by lia),AK,k7]
     show a12 7 _ [some (.val (.int n)),some (.val (T3 w d t)),some (.val (y4 (AM "round_from"))),some (.own (T++[.list (L.map pl)])),some (.ow (.dct D)),some (.val (.int r)),some (.val (.int c)),some (.val (.list (L.map pl))),q8]=_
     rw [z2]
     simp (disch:=omega) only [f9,h9,d6,n0,AK,u5,B7,hput]
    rw [hb,AK]
    obtain⟨T',D',a,b,c',h1,h2,h3,h4,h5⟩:=a1G hn hw d t r cs (m+1) (K++L) (T++[.list (L.map pl)]) D1 (some (.val (.int c))) (some (.val (.list (L.map pl)))) q8' m' K' hK1 (by simp [hT]) (by rw [Ao,List.length_singleton];lia) (by lia) h
    rw [Ao,List.length_singleton] at h3
    exact⟨T',D',a,b,c',h1,h2,by rw [AT];lia,by rw [AT];lia,h5⟩
def a6i(n:Nat)(r:Int):List Pt:=((AS n).map fun(c:Nat)=>(c:Int)).map fun c=>(r,c)
def b9O(n:Nat):List Int:=(AS n).map fun(c:Nat)=>(c:Int)
def pts(n:Nat):List Pt:=(b9O n).flatMap (a6i n)
theorem a5T{n:Nat}(hn:0<n)(hn8:n<=3){w:Str}(hw:w∈k6)(d t:Int):∀(rs:List Int) (m:Nat) (K:List Pt) (T:List PV) (D:List (List g9×PV)) (q5 q6 q7 q8:Option e9) (m':Nat) (K':List Pt),Kn D K->T.length=m->T.length+3*rs.length<=1000->D.length+600*rs.length<=9000->
 a0i (nxt n w d t) (rs.flatMap (a6i n)) m K=some (m',K')->
 ∃T' D' q5' q6' q7' q8',Kn D' K'/\T'.length=m'/\B6 J3 (g0 5) (rs.map .int) [some (.val (.int n)),some (.val (T3 w d t)),some (.val (y4 (AM "round_from"))),some (.own T),some (.ow (.dct D)),q5,q6,q7,q8]
  =some (.nx [some (.val (.int n)),some (.val (T3 w d t)),some (.val (y4 (AM "round_from"))),some (.own T'),some (.ow (.dct D')),q5',q6',q7',q8'])
 |[],m,K,T,D,q5,q6,q7,q8,m',K',hK,hT,_,_,h=>by
  cases h
  exact⟨T,D,q5,q6,q7,q8,hK,hT,rfl⟩
 |r::rs,m,K,T,D,q5,q6,q7,q8,m',K',hK,hT,hl,hd,h=>by
  rw [AT] at hl hd
  rw [List.flatMap_cons,a4z] at h
  cases hs:a0i (nxt n w d t) (a6i n r) m K with
  |none=>rw [hs] at h;cases h
  |some z=>
   obtain⟨m1,K1⟩:=z
   rw [hs,AK] at h
   have hs':a0i (nxt n w d t) (((AS n).map fun(c:Nat)=>(c:Int)).map fun c=>(r,c)) m K=some (m1,K1):=hs
   have hcl:((AS n).map fun(c:Nat)=>(c:Int)).length=n:=by simp
   obtain⟨T1,D1,a6,a7,a8,h1,h2,h3,h4,h5⟩:=a1G hn hw d t r ((AS n).map fun(c:Nat)=>(c:Int)) m K T D q6 q7 q8 m1 K1 hK hT (by rw [hcl];lia) (by rw [hcl];lia) hs'
   rw [hcl] at h3 h4
   have hrng:((AS n).map fun(c:Nat)=>(c:Int)).map PyData.int=A8 0 (n:Int):=by
    unfold A8
    rw [As]
    simp
   rw [hrng] at h5
   have hb:J3 [some (.val (.int n)),some (.val (T3 w d t)),some (.val (y4 (AM "round_from"))),some (.own T),some (.ow (.dct D)),some (.val (.int r)),q6,q7,q8]=some (.nx [some (.val (.int n)),some (.val (T3 w d t)),some (.val (y4 (AM "round_from"))),some (.own T1),some (.ow (.dct D1)),some (.val (.int r)),a6,a7,a8]):=by
    unfold J3
    simp (disch:=omega) only [f9,d9,c8,d6,n0,A2,L3,AK,h5]
   obtain⟨T',D',b5,b6,b7,b8,k1,k2,k3⟩:=a5T hn hn8 hw d t rs m1 K1 T1 D1 (some (.val (.int r))) a6 a7 a8 m' K' h1 h2 (by lia) (by lia) h
   refine⟨T',D',b5,b6,b7,b8,k1,k2, ?_⟩
   rw [AR,B6]
   show(J3 [some (.val (.int n)),some (.val (T3 w d t)),some (.val (y4 (AM "round_from"))),some (.own T),some (.ow (.dct D)),some (.val (.int r)),q6,q7,q8]).bind _=_
   rw [hb,AK]
   exact k3
theorem b1I{n:Nat}(hn:0<n)(hn8:n<=3){w:Str}(hw:w∈k6)(d t:Int){m:Nat}{K:List Pt}(h:a0i (nxt n w d t) (pts n) 0 []=some (m,K)):∃T:List PV,T.length=m/\X1 [.int n,T3 w d t]=some (.own T):=by
 have h':a0i (nxt n w d t) (((AS n).map fun(c:Nat)=>(c:Int)).flatMap (a6i n)) 0 []=some (m,K):=h
 have hcl:((AS n).map fun(c:Nat)=>(c:Int)).length=n:=by simp
 obtain⟨T,D,a5,a6,a7,a8,h1,h2,h3⟩:=a5T hn hn8 hw d t ((AS n).map fun(c:Nat)=>(c:Int)) 0 [] [] [] none none none none m K (fun p=>by simp [r8]) rfl (by rw [hcl];simp;lia) (by rw [hcl];simp;lia) h'
 have hrng:((AS n).map fun(c:Nat)=>(c:Int)).map PyData.int=A8 0 (n:Int):=by
  unfold A8
  rw [As]
  simp
 rw [hrng] at h3
 refine⟨T,h2, ?_⟩
 have hp:a1c [.int n,T3 w d t,y4 (AM "round_from")]=some (.own T):=by
  unfold a1c a7o
  simp (disch:=omega) only [f9,d9,c8,d6,D7,j7,k4,k7,k9,l9,n0,A2,L3,AK,AR,Ak,Aa,Ae,Ah,Ag,AY,AZ,Aj,↓reduceIte,T5,T6,sz,Au,a11,a8I,h3]
 unfold X1 a7p
 simp (disch:=omega) only [n4,f9,h9,d9,c8,d6,i7,o5,b70,k9,l9,AK,AR,Ak,Ae,Al,hp]
abbrev Mt:=Int×Int×Int×Int
def nxM(n:Int)(M:Mt)(d t:Int)(p:Pt):Pt:=((M.1*p.1+M.2.1*p.2+d) % n,(M.2.2.1*p.1+M.2.2.2*p.2+t) % n)
theorem b82(n:Int){w:Str}(hw:w∈k6)(d t:Int):nxt n w d t=nxM n (mat w) d t:=by
 funext p
 unfold nxt nxM lr lc
 rw [a0c hw,Z4 hw]
def b0n:List Mt:=[(0,-1,1,0),(0,1,1,0),(-1,0,0,1),(-1,0,0,-1),(0,-1,-1,0),(1,0,0,-1),(1,0,0,1),(0,1,-1,0)]
theorem b3c:E3.map mat=b0n:=by decide+kernel
def sim(n:Nat)(M:Mt)(d t:Nat):Option (Nat×List Pt):=a0i (nxM n M d t) (pts n) 0 []
def a6s(n:Nat)(M:Mt)(d t:Nat):Nat:=match sim n M d t with
 |some r=>r.1
 |none=>0
def a6b(n:Nat):Bool:=b0n.all fun M=>(AS n).all fun d=>(AS n).all fun t=>(sim n M d t).isSome
theorem b9V:a6b 1=true:=by decide+kernel
theorem b9W:a6b 2=true:=by decide+kernel
theorem b9X:a6b 3=true:=by decide+kernel
theorem b9Y{n:Nat}(hn:0<n)(h3:n<=3):a6b n=true:=by
 have:n=1\/n=2\/n=3:=by lia
 rcases this with rfl|rfl|rfl
 ·exact b9V
 ·exact b9W
 ·exact b9X
theorem a9j{n:Nat}(hn:0<n)(h3:n<=3){w:Str}(hw:w∈E3){d t:Nat}(hd:d<n)(ht:t<n):∃T:List PV,T.length=a6s n (mat w) d t/\X1 [.int n,T3 w (d:Nat) (t:Nat)]=some (.own T):=by
 have hwl:=a1B.mp hw
 have hm:mat w∈b0n:=by rw [<-b3c];exact List.mem_map_of_mem hw
 have h:=List.all_eq_true.mp (List.all_eq_true.mp (List.all_eq_true.mp (b9Y hn h3) _ hm) d (List.mem_range.mpr hd)) t (List.mem_range.mpr ht)
 obtain⟨⟨m,K⟩,e⟩:=Option.isSome_iff_exists.mp h
 have e':a0i (nxt n w (d:Nat) (t:Nat)) (pts n) 0 []=some (m,K):=by rw [b82 _ hwl];exact e
 obtain⟨T,h1,h2⟩:=b1I hn h3 hwl (d:Nat) (t:Nat) e'
 refine⟨T, ?_,h2⟩
 unfold a6s
 rw [e,h1]
abbrev Tr:=Str×Nat×Nat
def a47(ws:List Str)(n:Nat):List Tr:=ws.flatMap fun w=>(AS n).flatMap fun d=>(AS n).map fun t=>(w,d,t)
theorem a5c(ws:List Str)(n:Nat):z8 ws n=(a47 ws n).map fun x=>T3 x.1 (x.2.1:Nat) (x.2.2:Nat):=by
 unfold z8 a47
 rw [List.map_flatMap]
 congr 1
 funext w
 rw [List.map_flatMap]
 congr 1
 funext d
 rw [As]
 rfl
theorem b3d{ws:List Str}{n:Nat}{x:Tr}(h:x∈a47 ws n):x.1∈ws/\x.2.1<n/\x.2.2<n:=by
 unfold a47 at h
 obtain⟨w,hw,h⟩:=List.mem_flatMap.mp h
 obtain⟨d,hd,h⟩:=List.mem_flatMap.mp h
 obtain⟨t,ht,rfl⟩:=An.mp h
 exact⟨hw,List.mem_range.mp hd,List.mem_range.mp ht⟩
def b0U(n:Nat):List Nat:=b0n.flatMap fun M=>(AS n).flatMap fun d=>(AS n).map fun t=>a6s n M d t
theorem a5k(n:Nat):(a47 E3 n).map (fun x=>a6s n (mat x.1) x.2.1 x.2.2)=b0U n:=by
 unfold b0U a47
 rw [<-b3c,List.map_flatMap,List.flatMap_map]
 congr 1
 funext w
 rw [List.map_flatMap]
 congr 1
 funext d
 rw [As]
 rfl
theorem a8q:∀l:List Nat,((l.map fun m=>((m:Nat):Int)).sum:Int)=((l.sum:Nat):Int)
 |[]=>rfl
 |a::l=>by rw [AR,List.sum_cons,a8q l,List.sum_cons,Int.natCast_add]
def a2Z(n c:Nat):Nat:=((b0U n).map (c ^ ·)).sum /(8*(n*n))
theorem b4E:(([1,2,3].all fun n=>(b0U n).all fun m=>decide (m<=9))=true):=by decide+kernel
theorem b6X{n:Nat}(hn:0<n)(h3:n<=3){m:Nat}(h:m∈b0U n):m<=9:=by
 have:n∈[1,2,3]:=by
  have:n=1\/n=2\/n=3:=by lia
  rcases this with rfl|rfl|rfl<;>simp
 exact of_decide_eq_true (List.all_eq_true.mp (List.all_eq_true.mp b4E n this) m h)
theorem b2e{n:Nat}(hn:0<n)(h3:n<=3){c:Nat}(hc:c<=26):S7 [.int n,.int c]=some (.val (.int ((a2Z n c:Nat):Int))):=by
 have hlen:(z8 E3 n).length=8*(n*n):=a0W E3 n
 have hnn:0<n*n/\n*n<=9:=⟨Nat.mul_pos hn hn,Nat.mul_le_mul h3 h3⟩
 have hcomp:B0 1 (w6 (c6 2)) (g0 4) K4 P6 [some (.val (.int n)),some (.val (.int c)),some (.own (z8 E3 n)),none]=some (.own (((a47 E3 n).map fun x=>((c ^ a6s n (mat x.1) x.2.1 x.2.2:Nat):Int)).map .int)):=by
  rw [As]
  refine v7 (ι:=fun x:Tr=>T3 x.1 (x.2.1:Nat) (x.2.2:Nat)) (a47 E3 n) (by rw [<-a5c];simp (disch:=omega) only [a0b,h9,b3L,AK,u5,a2L]) (by
   have:=hlen
   rw [a5c,AW] at this
   lia) fun x hx=> ?_
  obtain⟨h1,h2,h3'⟩:=b3d hx
  obtain⟨T,hT,e⟩:=a9j hn h3 h1 h2 h3'
  refine⟨[some (.val (.int n)),some (.val (.int c)),some (.own (z8 E3 n)),none,some (.val (T3 x.1 (x.2.1:Nat) (x.2.2:Nat)))],rfl, ?_⟩
  have hm:a6s n (mat x.1) x.2.1 x.2.2<=9:=b6X hn h3 (by rw [<-a5k];exact List.mem_map_of_mem hx)
  have ht:=a8t (m:=c) hc (k:=a6s n (mat x.1) x.2.1 x.2.2) (by lia)
  unfold P6
  simp (disch:=omega) only [b2I,D6,f9,h9,d9,c8,d6,i7,AK,e,hT,ht]
  rfl
 have hs:b4O (.own (((a47 E3 n).map fun x=>((c ^ a6s n (mat x.1) x.2.1 x.2.2:Nat):Int)).map .int))=some (.val (.int ((((b0U n).map (c ^ ·)).sum:Nat):Int))):=by
  show(P5 (((a47 E3 n).map fun x=>((c ^ a6s n (mat x.1) x.2.1 x.2.2:Nat):Int)).map .int)).map _=_
  rw [a2G]
  show some (e9.val (.int _))=_
  rw [<-a5k,As,<-a8q,As]
  rfl
 unfold S7 a3x
 simp (disch:=omega) only [a7C,b2H,m6,D6,f9,a0b,h9,d9,c8,d6,i7,j7,A7,L7,o5,B8,k4,k7,k9,l9,AK,AR,Ak,Aa,Ae,Ah,Ag,AY,AZ,a7m (n:=n) (by lia),hcomp,hs]
 rw [hlen]
 unfold a2Z
 rw [Int.natCast_ediv]
def b30(n:Nat)(B:Mt)(d t:Int)(r c:Nat):Nat×Nat:=
 (((B.1*r+B.2.1*c+(B.1*(-d)+B.2.1*(-t)) % n) % n).toNat,((B.2.2.1*r+B.2.2.2*c+(B.2.2.1*(-d)+B.2.2.2*(-t)) % n) % n).toNat)
theorem b5a(n:Nat)(f:Nat->Nat->Nat){w:Str}(hw:w∈k6)(d t:Int)(r c:Nat):mvd n f w d t r c=f (b30 n (mat (S0 w)) d t r c).1 (b30 n (mat (S0 w)) d t r c).2:=by
 have hb:=(a2x hw).1
 unfold mvd b30 lr lc bd bt
 rw [a0c hb,Z4 hb,a0c hb,Z4 hb]
def b6i:List Mt:=[(1,0,0,1),(0,-1,1,0),(-1,0,0,-1),(0,1,-1,0),(1,0,0,-1),(-1,0,0,1),(0,1,1,0),(0,-1,-1,0)]
theorem b3b:k6.map (fun w=>mat (S0 w))=b6i:=by decide+kernel
abbrev TbX:=List (List (Nat×Nat))
def b5Q(n:Nat)(B:Mt)(d t:Nat):TbX:=(AS n).map fun r=>(AS n).map fun c=>b30 n B d t r c
def b8b(n:Nat):List TbX:=b6i.flatMap fun B=>(AS n).flatMap fun d=>(AS n).map fun t=>b5Q n B d t
def apT(T:TbX)(A:List (List Nat)):List (List Nat):=T.map fun l=>l.map fun p=>fA A p.1 p.2
theorem b0y(n:Nat)(A:List (List Nat)){w:Str}(hw:w∈k6)(d t:Nat):N5 n (mvd n (fA A) w (d:Nat) (t:Nat))=apT (b5Q n (mat (S0 w)) d t) A:=by
 unfold N5 apT b5Q
 rw [As]
 refine List.map_congr_left fun r _=> ?_
 show _=((AS n).map fun c=>b30 n (mat (S0 w)) d t r c).map _
 rw [As]
 exact List.map_congr_left fun c _=>b5a n (fA A) hw d t r c
def ltN:List Nat->List Nat->Bool
 |[],[]=>false
 |[],_::_=>true
 |_::_,[]=>false
 |a::x,b::y=>bif Nat.beq a b then ltN x y else Nat.blt a b
theorem b0j:∀{x y:List Nat},ltN x y=true↔x<y
 |[],[]=>by simp [ltN]
 |[],_::_=>by simp [ltN]
 |_::_,[]=>by simp [ltN]
 |a::x,b::y=>by
  unfold ltN
  rw [List.cons_lt_cons_iff]
  by_cases e:a=b
  ·subst e
   rw [Nat.beq_refl]
   simp [b0j (x:=x) (y:=y)]
  ·have:Nat.beq a b=false:=by rw [Bool.eq_false_iff];exact fun q=>e (Nat.eq_of_beq_eq_true q)
   rw [this]
   simp [e,Nat.blt]
   exact Iff.rfl
def eqN:List Nat->List Nat->Bool
 |[],[]=>true
 |[],_::_=>false
 |_::_,[]=>false
 |a::x,b::y=>bif Nat.beq a b then eqN x y else false
theorem a6r:∀{x y:List Nat},eqN x y=true↔x=y
 |[],[]=>by simp [eqN]
 |[],_::_=>by simp [eqN]
 |_::_,[]=>by simp [eqN]
 |a::x,b::y=>by
  unfold eqN
  by_cases e:a=b
  ·subst e
   rw [Nat.beq_refl]
   simp [a6r (x:=x) (y:=y)]
  ·have:Nat.beq a b=false:=by rw [Bool.eq_false_iff];exact fun q=>e (Nat.eq_of_beq_eq_true q)
   rw [this]
   simp [e]
def ltR:List (List Nat)->List (List Nat)->Bool
 |[],[]=>false
 |[],_::_=>true
 |_::_,[]=>false
 |a::x,b::y=>bif eqN a b then ltR x y else ltN a b
theorem a6G:∀{x y:List (List Nat)},ltR x y=true↔x<y
 |[],[]=>by simp [ltR]
 |[],_::_=>by simp [ltR]
 |_::_,[]=>by simp [ltR]
 |a::x,b::y=>by
  unfold ltR
  rw [List.cons_lt_cons_iff]
  by_cases e:a=b
  ·subst e
   rw [a6r.mpr rfl]
   simp [a6G (x:=x) (y:=y),List.lt_irrefl]
  ·have:eqN a b=false:=by rw [Bool.eq_false_iff];exact fun h=>e (a6r.mp h)
   rw [this]
   simp [e,b0j]
def b3v(n:Nat)(A:List (List Nat)):Bool:=(b8b n).all fun T=> !ltR (apT T A) A
theorem a7V{n:Nat}{T:TbX}:T∈b8b n↔∃w∈k6,∃d t:Nat,d<n/\t<n/\T=b5Q n (mat (S0 w)) d t:=by
 unfold b8b
 rw [List.mem_flatMap]
 constructor
 ·rintro⟨B,hB,h⟩
  rw [<-b3b] at hB
  obtain⟨w,hw,rfl⟩:=An.mp hB
  obtain⟨d,hd,h⟩:=List.mem_flatMap.mp h
  obtain⟨t,ht,rfl⟩:=An.mp h
  exact⟨w,hw,d,t,List.mem_range.mp hd,List.mem_range.mp ht,rfl⟩
 ·rintro⟨w,hw,d,t,hd,ht,rfl⟩
  exact⟨_,by rw [<-b3b];exact List.mem_map_of_mem hw,List.mem_flatMap.mpr ⟨d,List.mem_range.mpr hd,An.mpr ⟨t,List.mem_range.mpr ht,rfl⟩⟩⟩
theorem b5m{n:Nat}(hn:0<n){A:List (List Nat)}(h:SqA n A):Own n A↔b3v n A=true:=by
 have hr:Of n (fA A) A:=by
  have:=Of.refl hn (fA A)
  rwa [a2f h] at this
 unfold b3v
 rw [List.all_eq_true]
 constructor
 ·intro k T hT
  obtain⟨w,hw,d,t,hd,ht,rfl⟩:=a7V.mp hT
  rw [<-b0y n A hw]
  have:=k.2 _ ⟨w,hw,d,t,hd,ht,rfl⟩
  rw [Bool.not_eq_true',Bool.eq_false_iff]
  exact fun q=>this (a6G.mp q)
 ·intro k
  refine⟨hr,fun B hB hlt=> ?_⟩
  obtain⟨w,hw,d,t,hd,ht,rfl⟩:=hB
  have:=k _ (a7V.mpr ⟨w,hw,d,t,hd,ht,rfl⟩)
  rw [<-b0y n A hw,a6G.mpr hlt] at this
  cases this
open Classical in
theorem a95{n:Nat}(hn:0<n):∀{P:List (List (List Nat))},(∀A∈P,SqA n A)->frm n P=P.filter (b3v n)
 |[],_=>rfl
 |A::P,h=>by
  have ih:=a95 hn (P:=P) fun B hB=>h B (Af _ hB)
  have e:=b5m hn (h A Ad)
  unfold frm at ih ⊢
  rw [List.filter_cons,List.filter_cons,ih]
  by_cases c:Own n A
  ·rw [decide_eq_true c,e.mp c]
  ·have:b3v n A=false:=by rw [Bool.eq_false_iff];exact fun q=>c (e.mpr q)
   rw [decide_eq_false c,this]
def E8:List (Nat×Nat):=((AS 26).map fun c=>(1,c+1))++[(2,1),(2,2),(2,3),(2,4),(3,1),(3,2)]
theorem b15:(E8.all fun x=>Nat.beq ((B9 x.1 x.2).filter (b3v x.1)).length (a2Z x.1 x.2))=true:=by decide+kernel
theorem a3C:(E8.all fun x=>decide (0<x.1/\x.1<=3/\1<=x.2/\x.2<=26/\x.2 ^(x.1*x.1)<=600/\0<a2Z x.1 x.2/\a2Z x.1 x.2<=63))=true:=by decide+kernel
theorem a5t{n m:Nat}(h:(n,m)∈E8):(FX0 n m).length=a2Z n m:=by
 have b:=of_decide_eq_true (List.all_eq_true.mp a3C _ h)
 unfold FX0
 rw [a95 b.1 fun A hA=>u8 hA]
 exact Nat.eq_of_beq_eq_true (List.all_eq_true.mp b15 _ h)
theorem b0i:∀{A B:List (List Nat)},A.length=B.length->(J9 (kc A) (kc B)=true↔A<B)
 |[],[],_=>by simp [kc,J9]
 |[],_::_,h=>by cases h
 |_::_,[],h=>by cases h
 |a::A,b::B,h=>by
  have ih:=b0i (A:=A) (B:=B) (by simpa using h)
  unfold kc at ih ⊢
  rw [AR,AR,J9,List.cons_lt_cons_iff]
  by_cases e:a=b
  ·subst e
   rw [if_pos rfl,ih]
   simp [List.lt_irrefl]
  ·rw [if_neg (fun q=>e (b11 (Sum.inr.inj q)))]
   simp only [a34,decide_eq_true_eq,e,false_and,or_false]
   rw [a0j,a0j]
theorem a7N:∀L:List (List (List Nat)),E5 (L.map c9)=some (L.map kc)
 |[]=>rfl
 |A::L=>by
  rw [AR]
  show(keysOf (A.map row)).bind _=_
  rw [a1V,AK,a7N L]
  rfl
theorem b8U(A:List (List Nat)):kT (kc A)=c9 A:=by
 unfold kT kc c9
 rw [As]
 rfl
theorem b54(n m:Nat):(FX0 n m).Pairwise (· <·):=(a7q n m).filter _
theorem a1D{n m:Nat}{A:List (List Nat)}(h:A∈FX0 n m):A∈B9 n m/\Own n A:=a3i.mp h
theorem b5K(n m:Nat):V1 J9 ((FX0 n m).map kc)=(FX0 n m).map kc:=by
 refine a8m a1g ?_ (List.Perm.refl _)
 rw [List.pairwise_map]
 refine(b54 n m).imp_of_mem fun {A B} hA hB h=> ?_
 have e:B.length=A.length:=by rw [(u8 (a1D hA).1).1,(u8 (a1D hB).1).1]
 rw [Bool.eq_false_iff]
 exact fun q=>List.lt_asymm h ((b0i e).mp q)
theorem b3Y:∀A:List (List Nat),(kc A).map sgK=AV A.length true
 |[]=>rfl
 |a::A=>by
  have:=b3Y A
  unfold kc at this ⊢
  rw [AR,AR,this]
  rfl
theorem b7y{n m:Nat}(hn:0<n):okK ((FX0 n m).map kc)=true:=by
 have hm:∀A∈FX0 n m,A.length=n:=fun A hA=>(u8 (a1D hA).1).1
 cases h:FX0 n m with
 |nil=>rfl
 |cons A L=>
  rw [h] at hm
  rw [AR]
  unfold okK
  rw [Bool.and_eq_true]
  constructor
  ·cases A with
   |nil=>have:=hm _ Ad;rw [Aj] at this;lia
   |cons a A=>rfl
  ·refine List.all_eq_true.mpr fun j hj=> ?_
   obtain⟨B,hB,rfl⟩:=An.mp hj
   rw [b3Y,b3Y,hm A Ad,hm B (Af _ hB)]
   exact beq_self_eq_true _
theorem b8Y(n m:Nat):((FX0 n m).map kc).Nodup:=by
 unfold List.Nodup
 rw [List.pairwise_map]
 refine(b54 n m).imp fun {A B} h=>fun(e:kc A=kc B)=> ?_
 have:=a8Y e
 subst this
 exact List.lt_irrefl A h
theorem b63{n m:Nat}(hn:0<n):((FX0 n m).map kc).all a7B=true:=by
 refine List.all_eq_true.mpr fun j hj=> ?_
 obtain⟨A,hA,rfl⟩:=An.mp hj
 have:=(u8 (a1D hA).1).1
 cases A with
 |nil=>rw [Aj] at this;lia
 |cons a A=>rfl
theorem b5M{n m:Nat}(h:(n,m)∈E8):Q9 (.bo (.lst ((FX0 n m).map c9)))=some (.own ((FX0 n m).map c9)):=by
 have b:=of_decide_eq_true (List.all_eq_true.mp a3C _ h)
 rw [a7G (a7N _) ⟨b7y b.1,b8Y n m,by rw [AW,a5t h];exact b.2.2.2.2.2.2,b63 b.1⟩,b5K,As]
 rw [show kT∘kc=c9 from funext b8U]
theorem a5r:∀L M:List (List (List Nat)),PyData.eqvAll (L.map c9) (M.map c9)=(L==M)
 |[],[]=>rfl
 |[],_::_=>rfl
 |_::_,[]=>rfl
 |A::L,B::M=>by
  rw [AR,AR,PyData.eqvAll,a1J,a5r L M]
  rfl
theorem b83(rows:List (List Nat)):j4 (c9 rows) 49=true:=by
 show o0 (rows.map row) 48=true
 exact a05 fun p hp=>by
  obtain⟨l,_,rfl⟩:=An.mp hp
  rfl
theorem b5H(N:Int):∃n:Nat,(n=1\/n=2\/n=3)/\J8 (.own [.int 1,.int 2,.int 2,.int 3]) (.val (.int (N % 4)))=some (.val (.int (n:Int))):=by
 have:N % 4=0\/N % 4=1\/N % 4=2\/N % 4=3:=by lia
 rcases this with h|h|h|h<;>rw [h]
 ·exact⟨1,by simp,rfl⟩
 ·exact⟨2,by simp,rfl⟩
 ·exact⟨2,by simp,rfl⟩
 ·exact⟨3,by simp,rfl⟩
theorem b44{n:Nat}(hn:n=1\/n=2\/n=3)(N:Int):∃c:Nat,(n,c)∈E8/\J8 (.own [.int (1+N / 4 % 26),.int (1+N / 4 % 3),.int 1]) (.val (.int ((n:Int) - 1)))=some (.val (.int (c:Int)))/\
 ∃m:Nat,(n,m)∈E8/\J8 (.own [.int (c:Int),.int 4,.int 2]) (.val (.int ((n:Int) - 1)))=some (.val (.int (m:Int))):=by
 rcases hn with rfl|rfl|rfl
 ·obtain⟨c,hc,e⟩:∃c:Nat,c<26/\N / 4 % 26=(c:Int):=⟨(N / 4 % 26).toNat,by lia,by lia⟩
  have hm:(1,c+1)∈E8:=by
   unfold E8
   exact BF _ (An.mpr ⟨c,List.mem_range.mpr hc,rfl⟩)
  refine⟨c+1,hm, ?_,c+1,hm,rfl⟩
  rw [e]
  show some (e9.val (.int (1+(c:Int))))=_
  rw [show(1:Int)+(c:Int)=((c+1:Nat):Int) by lia]
 ·obtain⟨c,hc,e⟩:∃c:Nat,c<3/\N / 4 % 3=(c:Int):=⟨(N / 4 % 3).toNat,by lia,by lia⟩
  refine⟨c+1, ?_, ?_,4,by unfold E8;simp,rfl⟩
  ·unfold E8
   refine BA _ ?_
   have:c=0\/c=1\/c=2:=by lia
   rcases this with rfl|rfl|rfl<;>simp
  ·rw [e]
   show some (e9.val (.int (1+(c:Int))))=_
   rw [show(1:Int)+(c:Int)=((c+1:Nat):Int) by lia]
 ·exact⟨1,by unfold E8;simp,rfl,2,by unfold E8;simp,rfl⟩
theorem b0r(L:List (List (List Nat))):j4 (.list (L.map c9)) 50=true:=by
 simp only [j4]
 exact a05 fun p hp=>by
  obtain⟨A,_,rfl⟩:=An.mp hp
  exact b83 A
theorem a9U(L M:List (List (List Nat))):PyData.eqv (.list (L.map c9)) (.list (M.map c9))=(L==M):=by
 simp only [PyData.eqv]
 exact a5r L M
theorem b5c{x y:e9}{L:List (List (List Nat))}(h1:x.rd= .list (L.map c9))(h2:y.rd= .list (L.map c9)):gNe x y=some (.val (.bool false)):=by
 rw [a6v ⟨by rw [h1];exact b0r L,by rw [h2];exact b0r L⟩,h1,h2,a9U]
 simp
theorem b4z{x y:e9}{L:List (List (List Nat))}(h1:x.rd= .list (L.map c9))(h2:y.rd= .list (L.map c9)):gEq x y=some (.val (.bool true)):=by
 unfold gEq
 rw [if_pos ⟨by rw [h1];exact b0r L,by rw [h2];exact b0r L⟩,h1,h2,a9U]
 simp
theorem b2R{L:List (List (List Nat))}{A:List (List Nat)}(h:A∈L):a20 true (.val (c9 A)) (.bo (.lst (L.map c9)))=some (.val (.bool false)):=by
 show gIn true (.val (c9 A)) (.bo (.lst (L.map c9)))=_
 unfold gIn
 show(if j4 (c9 A) 50=true/\o0 (L.map c9) 50=true then some (e9.val (.bool (if true then !((L.map c9).any fun p=>PyData.eqv p (c9 A)) else _))) else none)=_
 rw [if_pos ⟨M2 A,a9b L⟩]
 have:((L.map c9).any fun p=>PyData.eqv p (c9 A))=true:=by
  refine List.any_eq_true.mpr ⟨c9 A,List.mem_map_of_mem h, ?_⟩
  rw [a1J]
  simp
 simp [this]
theorem b1l{n m:Nat}(hn:0<n)(hn8:n<=8){A:List (List Nat)}(h:A∈FX0 n m):u4 [c9 A]=some (.val (c9 A)):=by
 obtain⟨hc,ho⟩:=a1D h
 have hs:=u8 hc
 obtain⟨B,h1,h2⟩:=a1Y hn hn8 (fA A)
 rw [<-a3B hs] at h2
 rw [h2,h1.uniq ho]
theorem b2Z{n m:Nat}(hn:0<n)(hn8:n<=8){f:Nat->Nat->Nat}(h:In m n f):∃A∈FX0 n m,u4 [v9 n f]=some (.val (c9 A)):=by
 obtain⟨B,h1,h2⟩:=a1Y hn hn8 f
 exact⟨B,a3i.mpr ⟨b3l hn h h1.1,b3w hn h1⟩,h2⟩
theorem a9M{α:Type}{l:List α}{lo hi:Option Int}{x:α}(h:x∈cut l lo hi):x∈l:=by
 unfold cut at h
 exact List.mem_of_mem_drop (List.mem_of_mem_take h)
theorem a9L{α β:Type}(f:α->β)(l:List α)(lo hi:Option Int):cut (l.map f) lo hi=(cut l lo hi).map f:=by
 unfold cut
 rw [AW,List.map_take,List.map_drop]
theorem b6f{n m:Nat}(hn:0<n)(hn8:n<=8){q0 q1 q2 q3 q4 q5 q7 q8 q9:Option e9}:∀(L:List (List (List Nat))) (q6:Option e9),(∀A∈L,A∈FX0 n m)->
 ∃q6',B6 a3X (g0 6) (L.map c9) [q0,q1,q2,q3,q4,q5,q6,q7,q8]=some (.nx [q0,q1,q2,q3,q4,q5,q6',q7,q8])
 |[],q6,_=>⟨q6,rfl⟩
 |A::L,q6,h=>by
  obtain⟨q6',e⟩:=b6f hn hn8 (q0:=q0) (q1:=q1) (q2:=q2) (q3:=q3) (q4:=q4) (q5:=q5) (q7:=q7) (q8:=q8) (q9:=q9) L (some (.val (c9 A))) fun B hB=>h B (Af _ hB)
  refine⟨q6', ?_⟩
  have hl:=b1l hn hn8 (h A Ad)
  have hne:gNe (.val (c9 A)) (.val (c9 A))=some (.val (.bool false)):=by
   rw [a6v (x:= .val (c9 A)) (y:= .val (c9 A)) ⟨M2 A,M2 A⟩]
   show some (e9.val (.bool (!PyData.eqv (c9 A) (c9 A))))=_
   rw [a1J]
   simp
  rw [AR,Z7 (ρ1:=[q0,q1,q2,q3,q4,q5,some (.val (c9 A)),q7,q8]) (ρ2:=[q0,q1,q2,q3,q4,q5,some (.val (c9 A)),q7,q8]) rfl ?_,e]
  unfold a3X
  simp (disch:=omega) only [m6,f9,h9,d9,c8,d6,i7,B1,a2D,A1,w8,D9,AK,hl,hne]
theorem main:∀ns:List Int,ns.length<=63->b2M [.list (ns.map .int)]=some (.val (.bool true)):=by
 intro ns hl
 obtain⟨c0,hc0⟩:=b0S (ns:=ns) (k:=0) (by lia)
 have hx:=a5G (c:=c0) (k:=0) (by lia)
 have hb:=b7v c0 0
 generalize a14 c0 0=N at hx hb
 obtain⟨n,hn,en⟩:=b5H N
 obtain⟨c,hc,ec,mm,hmm,em⟩:=b44 hn N
 obtain⟨m,hm,h3⟩:∃m:Nat,(n,m)∈E8/\ifK (r6 3 (m2 J8 (a0g (b0 (c6 3) (b0 (mC (.int 4)) (b0 (mC (.int 2)) f8)))) (m2 (gI fun i j=> .int (i - j)) (c6 2) (mC (.int 1))))) J5
  [scL ns,some (.val (.int N)),some (.val (.int n)),some (.val (.int c)),none,none,none,none,none] (N / 128 % 10==0)=some (.nx [scL ns,some (.val (.int N)),some (.val (.int n)),some (.val (.int m)),none,none,none,none,none]):=by
  by_cases z:(N / 128 % 10==0)=true
  ·refine⟨mm,hmm, ?_⟩
   rw [z]
   simp (disch:=omega) only [a1M,m6,n4,f9,h9,d9,c8,d6,D7,j7,A7,a7I,AK,AY,AZ,AT,Aj,↓reduceIte,sz,Nat.reduceAdd,Au,em]
  ·refine⟨c,hc, ?_⟩
   rw [eq_false_of_ne_true z]
   simp (disch:=omega) only [a2D,A1]
 obtain⟨b1,b2,b3,b4,b5,b6,b7⟩:=of_decide_eq_true (List.all_eq_true.mp a3C _ hm)
 dsimp only at b1 b2 b3 b4 b5 b6 b7
 have hfm:=b2C b1 (by lia:n<=5) b3 b4 b5
 have hlen:=a5t hm
 have hset:=b5M hm
 have hcnt:=b2e b1 b2 b4
 have hsq:∀A∈FX0 n m,A.length=n:=fun A hA=>(u8 (a1D hA).1).1
 have hlo:∀f:Nat->Nat->Nat,In m n f->∃A∈FX0 n m,u4 [v9 n f]=some (.val (c9 A)):=fun f hf=>b2Z b1 (by lia:n<=8) hf
 have hl1:=fun(q4 q5:Option e9) (L:List (List (List Nat)))=>b6f (n:=n) (m:=m) b1 (by lia:n<=8) (q0:=scL ns) (q1:=some (.val (.int N))) (q2:=some (.val (.int n))) (q3:=some (.val (.int m))) (q4:=q4) (q5:=q5) (q7:=none) (q8:=none) (q9:=none) L none
 generalize hL:FX0 n m=L at*
 have hg:left C1 [.int n,.int m]=some (.own (L.map c9)):=by
  unfold left
  rw [hfm]
  rfl
 have hne1:gNe (.bo (.lst (L.map c9))) (.own (L.map c9))=some (.val (.bool false)):=b5c rfl rfl
 have hisi:a7D "list" (.bor (L.map c9))=some (.val (.bool true)):=rfl
 have hgl:J0 (.bor (L.map c9))=some (.val (.int (a2Z n m:Int))):=by
  rw [<-hlen]
  show some (e9.val (.int ((L.map c9).length:Int)))=_
  rw [AW]
 have hne2:gNe (.val (.int (a2Z n m:Int))) (.val (.int (a2Z n m:Int)))=some (.val (.bool false)):=by rw [b6c,beq_self_eq_true];rfl
 have hcomp:∀q5 q6 q7 q8:Option e9,B0 1 (w6 (c6 4)) (g0 9) (a86 (a4a (mtV (m1 (a7D "tuple") (c6 9)))) (mtB (m2 gNe (m1 J0 (c6 9)) (c6 2)))) a30 [scL ns,some (.val (.int N)),some (.val (.int n)),some (.val (.int m)),some (.own (L.map c9)),q5,q6,q7,q8]=some (.own []):=by
  intro q5 q6 q7 q8
  have:=a6H (k:=1) (it:=w6 (c6 4)) (tg:=g0 9) (c:=a86 (a4a (mtV (m1 (a7D "tuple") (c6 9)))) (mtB (m2 gNe (m1 J0 (c6 9)) (c6 2)))) (elt:=a30) (ρ:=[scL ns,some (.val (.int N)),some (.val (.int n)),some (.val (.int m)),some (.own (L.map c9)),q5,q6,q7,q8]) (ι:=c9) (f:=c9) (q:=fun _=>false) L (by simp (disch:=omega) only [a0b,h9,b3L,AK,u5,a2L]) (by lia) fun A hA=>⟨_,rfl,by
   have e1:a7D "tuple" (.val (c9 A))=some (.val (.bool true)):=rfl
   have e2:J0 (.val (c9 A))=some (.val (.int (n:Int))):=by
    rw [<-hsq A hA]
    show some (e9.val (.int ((A.map row).length:Int)))=_
    rw [AW]
   have e3:gNe (.val (.int (n:Int))) (.val (.int (n:Int)))=some (.val (.bool false)):=by rw [b6c,beq_self_eq_true];rfl
   simp (disch:=omega) only [m6,D6,f9,h9,b0p,w8,D9,b6v,a5H,a7Z,b6l,AK,BD,Aa,Ae,Ah,Ag,AY,AZ,Bool.not_true,e1,e2,e3],fun h=>by cases h⟩
  rw [this]
  simp
 have hne3:gNe (.own []) (.own [])=some (.val (.bool false)):=by rw [a6v ⟨rfl,rfl⟩];rfl
 have hmod:(W8 (fun _ j=>0<j) fun i j=>PyData.int (i % j)) (.val (.int (N / 512))) (.val (.int (a2Z n m:Int)))=some (.val (.int (N / 512 %(a2Z n m:Int)))):=a07 _ (by lia)
 generalize N / 512 %(a2Z n m:Int)=st at hmod
 have hs1:∀lo hi,gSl (.bor (L.map c9)) lo hi=some (.own ((cut L lo hi).map c9)):=fun lo hi=>by
  show some (e9.own (cut (L.map c9) lo hi))=_
  rw [a9L]
 have hL63:L.length<=63:=by lia
 have hcl:∀lo hi,(cut L lo hi).length<=L.length:=fun lo hi=>a9K _ _ _
 have hs2:K9 (.own ((cut L (some st) none).map c9)) (.own ((cut L none (some st)).map c9))=some (.own ((cut L (some st) none++cut L none (some st)).map c9)):=by
  have h1:=hcl (some st) none
  have h2:=hcl none (some st)
  rw [b4J (by rw [AW,AW,sizeLine_eq];lia),BG]
 have hs3:gSl (.own ((cut L (some st) none++cut L none (some st)).map c9)) none (some 12)=some (.own ((cut (cut L (some st) none++cut L none (some st)) none (some 12)).map c9)):=by
  rw [b4N,a9L]
 obtain⟨q6,hl6⟩:=hl1 (some (.own (L.map c9))) (some (.val (.int st))) (cut (cut L (some st) none++cut L none (some st)) none (some 12)) fun A hA=>by
  rcases Ay.mp (a9M hA) with h|h<;>exact a9M h
 generalize cut (cut L (some st) none++cut L none (some st)) none (some 12)=L12 at hs3 hl6
 obtain⟨e,he⟩:∃e:Nat,e=min ns.length 11:=⟨_,rfl⟩
 have hr:b0m (b0 (mC (.int 1)) (b0 (m2 (gI fun i j=> .int (if j<i then j else i)) (m1 J0 (c6 0)) (mC (.int 11))) f8)) [scL ns,some (.val (.int N)),some (.val (.int n)),some (.val (.int m)),some (.own (L.map c9)),some (.val (.int st)),q6,none,none]=some (A8 1 (e:Int)):=by
  have hi:(if(11:Int)<(ns.length:Int) then(11:Int) else(ns.length:Int))=(e:Int):=by
   split<;>lia
  have ha:(b0 (mC (.int 1)) (b0 (m2 (gI fun i j=> .int (if j<i then j else i)) (m1 J0 (c6 0)) (mC (.int 11))) f8)) [scL ns,some (.val (.int N)),some (.val (.int n)),some (.val (.int m)),some (.own (L.map c9)),some (.val (.int st)),q6,none,none]=some [.int 1,.int (e:Int)]:=by
   simp (disch:=omega) only [a1M,a1N,m6,D6,n4,f9,d9,c8,d6,AK,AW,hi]
  rw [b1o,ha,AK]
  exact b5B (by lia)
 obtain⟨ρ1,e1,q7,rfl⟩:=z9 (body:=a3Y) (tg:=g0 7) (fun i ρ=>∃q7:Option e9,ρ=[scL ns,some (.val (.int N)),some (.val (.int n)),some (.val (.int m)),some (.own (L.map c9)),some (.val (.int st)),q6,q7,none])
  (ps:=A8 1 (e:Int)) (ρ:=[scL ns,some (.val (.int N)),some (.val (.int n)),some (.val (.int m)),some (.own (L.map c9)),some (.val (.int st)),q6,none,none])
  (by
   rintro i p hp ρ ⟨q7,rfl⟩
   obtain⟨rfl,hi⟩:=O5 hp
   have hk:i+1<ns.length:=by lia
   rw [show(1:Int)+(i:Int)=((i+1:Nat):Int) by lia]
   have ix:L2.atI (ns.map PyData.int) ((i+1:Nat):Int)=some (.int ns[i+1]):=by
    rw [b8E,Aw,Ar hk];rfl
   have hcp:=a8Z (n:=n) (m:=m) (by lia) (by lia) b4 ns[i+1]
   obtain⟨A,hA,hle⟩:=hlo _ (b6K ns[i+1] n (m:=m) (by lia))
   have hin:=b2R hA
   refine L4 rfl (ρ2:=[scL ns,some (.val (.int N)),some (.val (.int n)),some (.val (.int m)),some (.own (L.map c9)),some (.val (.int st)),q6,some (.val (.int ((i+1:Nat):Int))),none]) ?_ ⟨_,rfl⟩
   unfold a3Y
   simp (disch:=omega) only [m6,f9,a0b,h9,d9,c8,d6,i7,B1,a2D,A1,w8,D9,AK,AY,AZ,a3P ix,hcp,hle,hin]) ⟨none,rfl⟩
 have hlb:a6u (.bor (L.map c9))=some (.own (L.map c9)):=by
  show a97 (.bor (L.map c9))=_
  rfl
 have hap:A0 4 (N6 f8) [scL ns,some (.val (.int N)),some (.val (.int n)),some (.val (.int m)),some (.own (L.map c9)),some (.val (.int st)),q6,q7,some (.own (L.map c9))]=some (.nx [scL ns,some (.val (.int N)),some (.val (.int n)),some (.val (.int m)),some (.own (L.map c9++[.tuple []])),some (.val (.int st)),q6,q7,some (.own (L.map c9))]):=by
  rw [C2 (r:= .val (.tuple [])) (p:= .tuple []) (by simp (disch:=omega) only [d9,t6,AK,Aj,↓reduceIte,sz,Au]) rfl rfl (by rw [AW];lia)]
  rfl
 have heq:gEq (.own (L.map c9)) (.bor (L.map c9))=some (.val (.bool true)):=b4z rfl rfl
 unfold b2M b55
 simp (disch:=omega) only [Q7,a1M,Q8,a7C,m6,D6,n4,f9,a0b,h9,d9,c8,d6,R8,D7,i7,j7,A7,L7,o5,k4,k7,B1,a2D,A1,k9,b0p,w8,D9,b6v,a5H,a7Z,b6l,b42,n0,AK,BD,AR,Ak,Aa,Ae,Ah,Ag,AY,AZ,AT,Aj,↓reduceIte,Bool.not_true,u5,B7,a35,a39,a38,b0c,sz,Nat.reduceAdd,Au,b8P,hc0,hx,en,ec,h3,hg,hset,hne1,hisi,hgl,hcnt,hne2,hcomp,hne3,hmod,hs1,hs2,hs3,hl6,hr,e1,hlb,hap,heq]
 cases z:(N / 128 % 10==0) with
 |true=>simp (disch:=omega) only [B8,l9,b89,AK]
 |false=>simp (disch:=omega) only [m6,f9,a0b,h9,d9,c8,d6,i7,B8,l9,b88,AK,hg,heq]
end LW
set_option maxHeartbeats 4000000
namespace LW
open PySem PySem.Spec PyProof.Rows L2 PU
def top(i:Nat):Stmt:=PySem.Challenge.pw_carpetkin_k84_all_forms.main.body.getD i (.Pass ⟨0,0,0,0⟩)
abbrev Y6:Stmt:=top 30
theorem a1r:i5 ["_law_cell","_law_k"] ["_law_cell","_law_k"] (d7 Y6):=mkS
abbrev N4:Stmt:=top 19
theorem V0:i5 ["number","many","come","k"] ["number","many"] (d7 N4):=mkS
abbrev Y4:Stmt:=top 25
theorem a1p:i5 ["side","colours","many"] ["side","colours"] (d7 Y4):=mkS
abbrev K0:Stmt:=top 6
theorem R6:i5 ["side","movements","way","down","right"] ["side"] (d7 K0):=mkS
abbrev a4u:Stmt:=top 23
theorem a5U:i5 ["starts","ends","found","start","end"] ["starts","ends"] (d7 a4u):=mkS
theorem a19:List.Nodup (α:=Str) ["side","colours","rows","carpets","k","row"]:=by decide+kernel
abbrev P8:Stmt:=top 24
theorem Z0:i5 ["side","colours","rows","carpets","k"] ["side","colours"] (d7 P8):=mkS
abbrev a0M:Stmt:=top 9
theorem a2U:i5 ["way"] ["way"] (d7 a0M):=mkS
abbrev a0L:Stmt:=top 7
theorem a2T:i5 ["way","place","lead"] ["way","place"] (d7 a0L):=mkS
abbrev U0:Stmt:=top 10
theorem a0u:i5 ["side","movement","way","shove"] ["side","movement"] (d7 U0):=mkS
abbrev b3U:Stmt:=top 8
theorem b3W:i5 ["side","movement","place","found"] ["side","movement","place"] (d7 b3U):=mkS
theorem a4f:List.Nodup (α:=Str) ["carpet","back","r","side","places","c"]:=by decide+kernel
theorem a4g:List.Nodup (α:=Str) ["carpet","back","r","side","places","place"]:=by decide+kernel
abbrev Y8:Stmt:=top 11
theorem a1t:i5 ["carpet","back","r","side","places"] ["carpet","back","r"] (d7 Y8):=mkS
theorem a88:List.Nodup (α:=Str) ["carpet","movement","side","back","r"]:=by decide+kernel
abbrev a6Z:Stmt:=top 12
theorem a8i:i5 ["carpet","movement","side","back"] ["carpet","movement"] (d7 a6Z):=mkS
abbrev Y3:Stmt:=top 26
theorem a1o:i5 ["side","colours","movements","forms","known","carpet","movement"] ["side","colours"] (d7 Y3):=mkS
abbrev P9:Stmt:=top 28
theorem Z1:i5 ["_law_script","_law_k"] ["_law_script","_law_k"] (d7 P9):=mkS
abbrev A5:Stmt:=top 17
theorem a0t:i5 ["side","movement","place","places","come"] ["side","movement","place"] (d7 A5):=mkS
abbrev a4v:Stmt:=top 15
theorem a5V:i5 ["n","leading","places_from","told","known","r","c","places","place"] ["n","leading","places_from"] (d7 a4v):=mkS
abbrev a4w:Stmt:=top 18
theorem a5W:i5 ["side","movement"] ["side","movement"] (d7 a4w):=mkS
theorem a4Y:List.Nodup (α:=Str) ["side","colours","movements","many","movement"]:=by decide+kernel
abbrev a0K:Stmt:=top 20
theorem a2S:i5 ["side","colours","movements","many"] ["side","colours"] (d7 a0K):=mkS
abbrev a2h:Stmt:=top 31
theorem a4y:i5 ["_law_n","_law_movement_here","_law_place","_law_r","_law_c","_law_way","_law_south","_law_east"] ["_law_n","_law_movement_here","_law_place"] (d7 a2h):=mkS
theorem a4d:List.Nodup (α:=Str) ["_law_carpet_here","_law_movement_here","_law_n","_law_knots","0_law_r","_law_c","_law_r"]:=by decide+kernel
theorem a4e:List.Nodup (α:=Str) ["_law_carpet_here","_law_movement_here","_law_n","_law_knots","0_law_r","0_law_c","_law_r","_law_c"]:=by decide+kernel
abbrev Y7:Stmt:=top 32
theorem a1s:i5 ["_law_carpet_here","_law_movement_here","_law_n","_law_knots","_law_r","_law_c"] ["_law_carpet_here","_law_movement_here"] (d7 Y7):=mkS
abbrev a2g:Stmt:=top 33
theorem a4x:i5 ["_law_n","_law_found","_law_way","_law_south","_law_east"] ["_law_n"] (d7 a2g):=mkS
theorem a4c:List.Nodup (α:=Str) ["_law_carpet_here","_law_movement_here"]:=by decide+kernel
abbrev Y5:Stmt:=top 37
theorem a1q:i5 ["_law_carpet_here"] ["_law_carpet_here"] (d7 Y5):=mkS
theorem a22:List.Nodup (α:=Str) ["_law_n","_law_many","_law_cell","_law_letters","_law_r"]:=by decide+kernel
theorem a23:List.Nodup (α:=Str) ["_law_n","_law_many","_law_cell","_law_letters","_law_r","_law_c"]:=by decide+kernel
abbrev T9:Stmt:=top 36
theorem a0s:i5 ["_law_n","_law_many","_law_cell","_law_letters"] ["_law_n","_law_many","_law_cell"] (d7 T9):=mkS
theorem b3f:List.Nodup (α:=Str) ["_law_script","_law_seed","_law_n","_law_many","_law_found","_law_start","0_law_form","_law_k","_law_kept","_law_form"]:=by decide+kernel
abbrev b3T:Stmt:=top 38
theorem b3V:i5 ["_law_script","_law_seed","_law_n","_law_many","_law_found","_law_start","_law_form","_law_k","_law_kept"] ["_law_script"] (d7 b3T):=mkS
structure MoB(K:AE)(mg:Str->Option AA):Prop where
 z_isinstance:mg "isinstance"=none
 z_len:mg "len"=none
 z_list:mg "list"=none
 z_min:mg "min"=none
 z_range:mg "range"=none
 z_set:mg "set"=none
 z_sorted:mg "sorted"=none
 z_sum:mg "sum"=none
 z_tuple:mg "tuple"=none
 nk:a4h K=true
abbrev a2R:Stmt:=b8F (top 2) 0
theorem a60:i5 ["self","many"] ["self","many"] (d7 a2R):=mkS
section
variable (P:AJ)(w:AH)(K:AE)(mg:Str->Option AA)(base:Heap)
abbrev V8:Prop:=w4 P w K mg base "_law_mixed" ["_law_cell","_law_k"] 1 J1
abbrev L6:Prop:=w4 P w K mg base "times_itself" ["number","many"] 1 y6
abbrev a2o:Prop:=a3r P w K mg base "check_few" ["side","colours"] 3 u0
abbrev J7:Prop:=w4 P w K mg base "all_movements" ["side"] 1 v3
abbrev a7i:Prop:=w4 P w K mg base "longer" ["starts","ends"] 1 W9
abbrev a0k:Prop:=w4 P w K mg base "all_carpets" ["side","colours"] 2 G7
abbrev a3v:Prop:=w4 P w K mg base "way_back" ["way"] 1 a0D
abbrev a0w:Prop:=w4 P w K mg base "place_by" ["way","place"] 1 F9
abbrev a0S:Prop:=w4 P w K mg base "taken_back" ["side","movement"] 2 L1
abbrev b12:Prop:=w4 P w K mg base "led" ["side","movement","place"] 2 a2C
abbrev a2r:Prop:=w4 P w K mg base "moved_row" ["carpet","back","r"] 3 O3
abbrev a9z:Prop:=w4 P w K mg base "moved" ["carpet","movement"] 4 a3d
abbrev a2n:Prop:=a3r P w K mg base "all_forms" ["side","colours"] 5 C1
abbrev a0l:Prop:=w4 P w K mg base "_law_cell_at" ["_law_script","_law_k"] 1 G8
abbrev S2:Prop:=w4 P w K mg base "round_from" ["side","movement","place"] 3 D3
abbrev a7j:Prop:=w4 P w K mg base "parted" ["n","leading","places_from"] 4 a1c
abbrev a7k:Prop:=w4 P w K mg base "rounds" ["side","movement"] 5 X1
abbrev a3u:Prop:=w4 P w K mg base "count_of" ["side","colours"] 6 S7
abbrev a49:Prop:=w4 P w K mg base "_law_led" ["_law_n","_law_movement_here","_law_place"] 1 R1
abbrev a2q:Prop:=w4 P w K mg base "_law_moved" ["_law_carpet_here","_law_movement_here"] 2 O2
abbrev a48:Prop:=w4 P w K mg base "_law_all" ["_law_n"] 1 R0
abbrev a2p:Prop:=w4 P w K mg base "_law_least" ["_law_carpet_here"] 3 u4
abbrev a0R:Prop:=w4 P w K mg base "_law_carpet" ["_law_n","_law_many","_law_cell"] 2 L0
end
section
variable (P:AJ)(w:AH){K:AE}{mg:Str->Option AA}(base:Heap)
theorem a6O(D:Df K mg "_law_mixed" Y6):V8 P w K mg base:=by
 refine t0 (k:=0) D a1r (fun _ _ _ _ _ _=>el2 (fun _ _=>rfl)) fun f cdv A outer s H E hr=> ?_
 have S:=a1r
 have hu:=hr.units
 exact(g6 (r9 (i3 u6 (i3 D8 (i3 A3 (i3 u6 (a0 0 (pv 0)) g5) g5) (i3 A3 g5 (i3 D8 (i3 D8 g5 (a0 1 (pv 1))) (a0 1 (pv 1))))) g5)))
theorem a24(D:Df K mg "times_itself" N4)(M:MoB K mg):L6 P w K mg base:=by
 refine t0 (k:=0) D V0 (fun _ _ _ _ _ _=>el2 (fun _ _=>rfl)) fun f cdv A outer s H E hr=> ?_
 have S:=V0
 have hu:=hr.units
 exact(f7 (j5 (i:=2) S.nd g5) (f7 (y3 PassesOwn.never rfl rfl M.z_range (a9 (a0 1 (pv 1)) d8) (i4 (i:=3) S.nd rfl (Or.inl rfl)) (j9 3) (g6 (b6T (i:=2) S.nd (a0 0 (pv 0)) b3r))) (g6 (K8 2 (pv 2)))))
theorem a6M(D:Df K mg "check_few" Y4)(xi_TooLarge:b4m P w K mg base "TooLarge" ["many"] 1){u_MOST_CARPETS:AA}{n_MOST_CARPETS:Nat}(m_MOST_CARPETS:mg "MOST_CARPETS"=some u_MOST_CARPETS)(c_MOST_CARPETS:V3 K n_MOST_CARPETS u_MOST_CARPETS=some E2)(x9:L6 P w K mg base):a2o P w K mg base:=by
 refine a9Z (k:=2) D a1p (fun _ _ _ _ _ _=>el2 (fun _ _=>rfl)) fun f cdv A outer s H E hr hx=> ?_
 have S:=a1p
 have hu:=hr.units
 refine a7y ?_ ?_
 ·exact(b6W (j5 (i:=2) S.nd (m5 x9 hr (by decide) rfl (c7 (c7 i8)) (a9 (a0 1 (pv 1)) (a9 (i3 D8 (a0 0 (pv 0)) (a0 0 (pv 0))) d8)))))
 refine a9X ?_
 refine b8N ?_ ?_ ?_
 ·exact(B5 b7H (a0 2 (pv 2)) (a6n rfl m_MOST_CARPETS c_MOST_CARPETS) (by first|rfl|exact nomark _))
 ·exact(a9X (b02 rfl rfl rfl xi_TooLarge hr (by decide) (c7 i8) (a9 (a0 2 (pv 2)) d8) (fun pins σ H s a C dd I x h0 hn e=>a7P I x h0 hn e)))
 exact(a9Y C9)
theorem a2b(D:Df K mg "all_movements" K0)(M:MoB K mg){u_WAYS:AA}{n_WAYS:Nat}(m_WAYS:mg "WAYS"=some u_WAYS)(c_WAYS:V3 K n_WAYS u_WAYS=some a66):J7 P w K mg base:=by
 refine t0 (k:=0) D R6 (fun _ _ _ _ _ _=>el1 (fun _=>rfl)) fun f cdv A outer s H E hr=> ?_
 have S:=R6
 have hu:=hr.units
 refine f7 ?_ ?_
 ·exact(j5 (i:=1) S.nd (E9 d8))
 refine f7 ?_ ?_
 ·refine a0A PassesOwn.never ?_ ?_ ?_ (j9 2) ?_
  ·exact rfl
  ·exact(O0 b2g rfl M.z_sorted (by rfl) (a6n rfl m_WAYS c_WAYS))
  ·exact(i4 (i:=2) S.nd rfl (Or.inl rfl))
  refine g6 ?_
  refine y3 PassesOwn.never ?_ ?_ M.z_range ?_ ?_ (j9 3) ?_
  ·exact rfl
  ·exact rfl
  ·exact(a9 (a0 0 (pv 0)) d8)
  ·exact(i4 (i:=3) S.nd rfl (Or.inl rfl))
  exact(g6 (y3 PassesOwn.never rfl rfl M.z_range (a9 (a0 0 (pv 0)) d8) (i4 (i:=4) S.nd rfl (Or.inl rfl)) (j9 4) (g6 (F8 1 (pv 1) (y0 (a9 (a0 2 (pv 2)) (a9 (a0 3 (pv 3)) (a9 (a0 4 (pv 4)) d8))))))))
 exact(g6 (K8 1 (pv 1)))
theorem b1y(D:Df K mg "longer" a4u):a7i P w K mg base:=by
 refine t0 (k:=0) D a5U (fun _ _ _ _ _ _=>el2 (fun _ _=>rfl)) fun f cdv A outer s H E hr=> ?_
 have S:=a5U
 have hu:=hr.units
 refine f7 ?_ ?_
 ·exact(j5 (i:=2) S.nd (E9 d8))
 refine f7 ?_ ?_
 ·refine a0A PassesOwn.never ?_ ?_ ?_ (j9 3) ?_
  ·exact rfl
  ·exact(a0 0 (pv 0))
  ·exact(i4 (i:=3) S.nd rfl (Or.inl rfl))
  exact(g6 (b4B PassesOwn.never rfl (b6S (a0 1 (pv 1))) (i4 (i:=4) S.nd rfl (Or.inl rfl)) (j9 4) (g6 (F8 2 (pv 2) (i3 b3q (a0 3 (pv 3)) (a0 4 (pv 4)))))))
 exact(g6 (K8 2 (pv 2)))
theorem a4i(D:Df K mg "all_carpets" P8)(M:MoB K mg){u_LETTERS:AA}{n_LETTERS:Nat}(m_LETTERS:mg "LETTERS"=some u_LETTERS)(c_LETTERS:V3 K n_LETTERS u_LETTERS=some R9)(a03:a7i P w K mg base):a0k P w K mg base:=by
 refine t0 (k:=1) D Z0 (fun _ _ _ _ _ _=>el2 (fun _ _=>rfl)) fun f cdv A outer s H E hr=> ?_
 have S:=Z0
 have hu:=hr.units
 refine f7 ?_ ?_
 ·exact(j5 (i:=2) S.nd (E9 (a9 l7 d8)))
 refine f7 ?_ ?_
 ·exact(j5 (i:=3) S.nd (E9 (a9 (y0 d8) d8)))
 refine f7 ?_ ?_
 ·refine y3 PassesOwn.never ?_ ?_ M.z_range ?_ ?_ (j9 4) ?_
  ·exact rfl
  ·exact rfl
  ·exact(a9 (a0 0 (pv 0)) d8)
  ·exact(i4 (i:=4) S.nd rfl (Or.inl rfl))
  exact(g6 (a3K 2 (j5 (i:=2) S.nd (m5 a03 hr (by decide) rfl (c7 (c7 i8)) (a9 (a0 2 (pv 2)) (a9 (a04 (a6n rfl m_LETTERS c_LETTERS) a29 (a3a (a0 1 (pv 1)))) d8))))))
 refine f7 ?_ ?_
 ·refine y3 PassesOwn.never ?_ ?_ M.z_range ?_ ?_ (j9 4) ?_
  ·exact rfl
  ·exact rfl
  ·exact(a9 (a0 0 (pv 0)) d8)
  ·exact(i4 (i:=4) S.nd rfl (Or.inl rfl))
  refine g6 ?_
  refine a3K 3 ?_
  refine j5 (i:=3) ?_ ?_
  ·exact S.nd
  refine m5 a03 hr ?_ ?_ ?_ ?_
  ·decide
  ·exact rfl
  ·exact(c7 (c7 i8))
  refine a9 ?_ ?_
  ·exact(a0 3 (pv 3))
  refine a9 ?_ ?_
  ·refine G6 (ys:=["row"]) (N0:=["side","colours","rows","carpets","k"]) (fun _ _ h=>h) ?_ ⟨by kernel_rfl,rfl,of_decide_eq_true rfl,of_decide_eq_true rfl,of_decide_eq_true rfl⟩ ?_ (fun C fp pins s H=>i4 (i:=5) a19 rfl (Or.inl rfl)) (fun n h=>p0 (i:=5) (Nat.le_of_eq h)) (fun C fp pins s H=>P3) ?_
   ·exact rfl
   ·exact(a3H (a0 2 (pv 2)))
   intro C fp pins s H
   exact(y0 (a9 (a0 5 (pv 5)) d8))
  exact d8
 exact(g6 (K8 3 (pv 3)))
theorem a75(D:Df K mg "way_back" a0M):a3v P w K mg base:=by
 refine t0 (k:=0) D a2U (fun _ _ _ _ _ _=>el1 (fun _=>rfl)) fun f cdv A outer s H E hr=> ?_
 have S:=a2U
 have hu:=hr.units
 exact(f7 (Q6 (B5 (a4k hu) (a0 0 (pv 0)) l7 (by first|rfl|exact nomark _)) (g6 (r9 l7)) C9) (f7 (Q6 (B5 (a4k hu) (a0 0 (pv 0)) l7 (by first|rfl|exact nomark _)) (g6 (r9 l7)) C9) (g6 (K8 0 (pv 0)))))
theorem a74(D:Df K mg "place_by" a0L){a_LEADS:AB}(m_LEADS:mg "LEADS"=some (.ref a_LEADS))(t_LEADS:Tab P w K a_LEADS x4):a0w P w K mg base:=by
 refine t0 (k:=0) D a2T (fun _ _ _ _ _ _=>el2 (fun _ _=>rfl)) fun f cdv A outer s H E hr=> ?_
 have S:=a2T
 have hu:=hr.units
 refine f7 ?_ ?_
 ·exact(j5 (i:=2) S.nd (b6R t_LEADS rfl m_LEADS (a0 0 (pv 0))))
 refine g6 ?_
 refine r9 ?_
 refine y0 ?_
 refine a9 ?_ ?_
 ·exact(i3 A3 (i3 D8 (p8 (a0 2 (pv 2)) g5) (p8 (a0 1 (pv 1)) g5)) (i3 D8 (p8 (a0 2 (pv 2)) g5) (p8 (a0 1 (pv 1)) g5)))
 exact(a9 (i3 A3 (i3 D8 (p8 (a0 2 (pv 2)) g5) (p8 (a0 1 (pv 1)) g5)) (i3 D8 (p8 (a0 2 (pv 2)) g5) (p8 (a0 1 (pv 1)) g5))) d8)
theorem a43(D:Df K mg "taken_back" U0)(a0y:a3v P w K mg base)(M0:a0w P w K mg base):a0S P w K mg base:=by
 refine t0 (k:=1) D a0u (fun _ _ _ _ _ _=>el2 (fun _ _=>rfl)) fun f cdv A outer s H E hr=> ?_
 have S:=a0u
 have hu:=hr.units
 refine f7 ?_ ?_
 ·exact(j5 (i:=2) S.nd (m5 a0y hr (by decide) rfl (c7 i8) (a9 (p8 (a0 1 (pv 1)) g5) d8)))
 refine f7 ?_ ?_
 ·exact(j5 (i:=3) S.nd (m5 M0 hr (by decide) rfl (c7 (c7 i8)) (a9 (a0 2 (pv 2)) (a9 (y0 (a9 (b2p (p8 (a0 1 (pv 1)) g5)) (a9 (b2p (p8 (a0 1 (pv 1)) g5)) d8))) d8))))
 exact(g6 (r9 (y0 (a9 (a0 2 (pv 2)) (a9 (i3 u6 (p8 (a0 3 (pv 3)) g5) (a0 0 (pv 0))) (a9 (i3 u6 (p8 (a0 3 (pv 3)) g5) (a0 0 (pv 0))) d8))))))
theorem b7A(D:Df K mg "led" b3U)(M0:a0w P w K mg base):b12 P w K mg base:=by
 refine t0 (k:=1) D b3W (fun _ _ _ _ _ _=>el3 (fun _ _ _=>rfl)) fun f cdv A outer s H E hr=> ?_
 have S:=b3W
 have hu:=hr.units
 refine f7 ?_ ?_
 ·exact(j5 (i:=3) S.nd (m5 M0 hr (by decide) rfl (c7 (c7 i8)) (a9 (p8 (a0 1 (pv 1)) g5) (a9 (a0 2 (pv 2)) d8))))
 exact(g6 (r9 (y0 (a9 (i3 u6 (i3 A3 (p8 (a0 3 (pv 3)) g5) (p8 (a0 1 (pv 1)) g5)) (a0 0 (pv 0))) (a9 (i3 u6 (i3 A3 (p8 (a0 3 (pv 3)) g5) (p8 (a0 1 (pv 1)) g5)) (a0 0 (pv 0))) d8)))))
theorem a6Q(D:Df K mg "moved_row" Y8)(M:MoB K mg)(a5o:b12 P w K mg base):a2r P w K mg base:=by
 refine t0 (k:=2) D a1t (fun _ _ _ _ _ _=>el3 (fun _ _ _=>rfl)) fun f cdv A outer s H E hr=> ?_
 have S:=a1t
 have hu:=hr.units
 refine f7 ?_ ?_
 ·exact(j5 (i:=3) S.nd (O0 L9 rfl M.z_len (by rfl) (a0 0 (pv 0))) rfl (Or.inr rfl))
 refine f7 ?_ ?_
 ·refine b4A (i:=4) (ys:=["c"]) (N0:=["carpet","back","r","side","places"]) ?_ (fun _ _ h=>h) ?_ ⟨by kernel_rfl,rfl,of_decide_eq_true rfl,of_decide_eq_true rfl,of_decide_eq_true rfl⟩ ?_ (fun C fp pins s H=>i4 (i:=5) a4f rfl (Or.inl rfl)) (fun n h=>p0 (i:=5) (Nat.le_of_eq h)) (fun C fp pins s H=>P3) ?_
  ·exact S.nd
  ·exact rfl
  ·exact(Z6 rfl M.z_range (a9 (a0 3 (pv 3)) d8))
  intro C fp pins s H
  exact(m5 a5o hr (by decide) rfl (c7 (c7 (c7 i8))) (a9 (a0 3 (pv 3)) (a9 (a0 1 (pv 1)) (a9 (y0 (a9 (a0 2 (pv 2)) (a9 (a0 5 (pv 5)) d8))) d8))))
 refine g6 ?_
 refine r9 ?_
 refine a6o ?_ ?_
 ·exact l7
 refine G6 (ys:=["place"]) (N0:=["carpet","back","r","side","places"]) (fun _ _ h=>h) ?_ ⟨by kernel_rfl,rfl,of_decide_eq_true rfl,of_decide_eq_true rfl,of_decide_eq_true rfl⟩ ?_ (fun C fp pins s H=>i4 (i:=5) a4g rfl (Or.inl rfl)) (fun n h=>p0 (i:=5) (Nat.le_of_eq h)) (fun C fp pins s H=>P3) ?_
 ·exact rfl
 ·exact(a3H (a0 4 (pv 4)))
 intro C fp pins s H
 exact(p8 (p8 (a0 0 (pv 0)) (p8 (a0 5 (pv 5)) g5)) (p8 (a0 5 (pv 5)) g5))
theorem b3n(D:Df K mg "moved" a6Z)(M:MoB K mg)(S6:a0S P w K mg base)(W6:a2r P w K mg base):a9z P w K mg base:=by
 refine t0 (k:=3) D a8i (fun _ _ _ _ _ _=>el2 (fun _ _=>rfl)) fun f cdv A outer s H E hr=> ?_
 have S:=a8i
 have hu:=hr.units
 refine f7 ?_ ?_
 ·exact(j5 (i:=2) S.nd (O0 L9 rfl M.z_len (by rfl) (a0 0 (pv 0))))
 refine f7 ?_ ?_
 ·exact(j5 (i:=3) S.nd (m5 S6 hr (by decide) rfl (c7 (c7 i8)) (a9 (a0 2 (pv 2)) (a9 (a0 1 (pv 1)) d8))) rfl (Or.inr rfl))
 refine g6 ?_
 refine r9 ?_
 refine a9T a3D ?_ M.z_tuple ?_ ?_
 ·exact rfl
 ·rfl
 refine G6 (ys:=["r"]) (N0:=["carpet","movement","side","back"]) (fun _ _ h=>h) ?_ ⟨by kernel_rfl,rfl,of_decide_eq_true rfl,of_decide_eq_true rfl,of_decide_eq_true rfl⟩ ?_ (fun C fp pins s H=>i4 (i:=4) a88 rfl (Or.inl rfl)) (fun n h=>p0 (i:=4) (Nat.le_of_eq h)) (fun C fp pins s H=>P3) ?_
 ·exact rfl
 ·exact(Z6 rfl M.z_range (a9 (a0 2 (pv 2)) d8))
 intro C fp pins s H
 exact(m5 W6 hr (by decide) rfl (c7 (c7 (c7 i8))) (a9 (a0 0 (pv 0)) (a9 (a0 3 (pv 3)) (a9 (a0 4 (pv 4)) d8))))
theorem a6L(D:Df K mg "all_forms" Y3)(M:MoB K mg)(W4:a2o P w K mg base)(u9:J7 P w K mg base)(O9:a0k P w K mg base)(a6j:a9z P w K mg base):a2n P w K mg base:=by
 refine a9Z (k:=4) D a1o (fun _ _ _ _ _ _=>el2 (fun _ _=>rfl)) fun f cdv A outer s H E hr hx=> ?_
 have S:=a1o
 have hu:=hr.units
 refine a7y ?_ ?_
 ·exact(b4C W4 hr (by decide) rfl hx (c7 (c7 i8)) (a9 (a0 0 (pv 0)) (a9 (a0 1 (pv 1)) d8)))
 refine a9Y ?_
 refine f7 ?_ ?_
 ·exact(j5 (i:=2) S.nd (m5 u9 hr (by decide) rfl (c7 i8) (a9 (a0 0 (pv 0)) d8)))
 refine f7 ?_ ?_
 ·exact(j5 (i:=3) S.nd (E9 d8))
 refine f7 ?_ ?_
 ·exact(j5 (i:=4) S.nd a6m)
 refine f7 ?_ ?_
 ·refine a0A PassesOwn.never ?_ ?_ ?_ (j9 5) ?_
  ·exact rfl
  ·exact(m5 O9 hr (by decide) rfl (c7 (c7 i8)) (a9 (a0 0 (pv 0)) (a9 (a0 1 (pv 1)) d8)))
  ·exact(i4 (i:=5) S.nd rfl (Or.inl rfl))
  refine g6 ?_
  refine Q6 ?_ ?_ ?_
  ·exact(a3L 4 hu M.nk (pv 4) (a0 5 (pv 5)) (by first|rfl|exact nomark _))
  ·refine f7 ?_ ?_
   ·exact(F8 3 (pv 3) (a0 5 (pv 5)))
   exact(g6 (a3K 2 (a0A PassesOwn.never rfl (a0 2 (pv 2)) (i4 (i:=6) S.nd rfl (Or.inl rfl)) (j9 6) (g6 (a1K 4 hu M.nk (pv 4) (m5 a6j hr (by decide) rfl (c7 (c7 i8)) (a9 (a0 5 (pv 5)) (a9 (a0 6 (pv 6)) d8))) a5q)))))
  exact C9
 exact(g6 (K8 3 (pv 3)))
theorem a4j(D:Df K mg "_law_cell_at" P9)(M:MoB K mg):a0l P w K mg base:=by
 refine t0 (k:=0) D Z1 (fun _ _ _ _ _ _=>el2 (fun _ _=>rfl)) fun f cdv A outer s H E hr=> ?_
 have S:=Z1
 have hu:=hr.units
 exact(f7 (Q6 (B5 b5k (a0 1 (pv 1)) (O0 L9 rfl M.z_len (by rfl) (a0 0 (pv 0))) (by first|rfl|exact nomark _)) (g6 (r9 (p8 (a0 0 (pv 0)) (a0 1 (pv 1))))) C9) (g6 (r9 g5)))
theorem a42(D:Df K mg "round_from" A5)(a5o:b12 P w K mg base):S2 P w K mg base:=by
 refine t0 (k:=2) D a0t (fun _ _ _ _ _ _=>el3 (fun _ _ _=>rfl)) fun f cdv A outer s H E hr=> ?_
 have S:=a0t
 have hu:=hr.units
 refine f7 ?_ ?_
 ·exact(j5 (i:=3) S.nd (E9 (a9 (a0 2 (pv 2)) d8)))
 refine f7 ?_ ?_
 ·exact(j5 (i:=4) S.nd (m5 a5o hr (by decide) rfl (c7 (c7 (c7 i8))) (a9 (a0 0 (pv 0)) (a9 (a0 1 (pv 1)) (a9 (a0 2 (pv 2)) d8)))))
 refine f7 ?_ ?_
 ·refine b2u 100 PassesOwn.never ?_ ?_
  ·exact(B5 (a2c hu) (a0 4 (pv 4)) (a0 2 (pv 2)) (by first|rfl|exact nomark _))
  exact(f7 (F8 3 (pv 3) (a0 4 (pv 4))) (g6 (j5 (i:=4) S.nd (m5 a5o hr (by decide) rfl (c7 (c7 (c7 i8))) (a9 (a0 0 (pv 0)) (a9 (a0 1 (pv 1)) (a9 (a0 4 (pv 4)) d8)))))))
 exact(g6 (K8 3 (pv 3)))
theorem b1z(D:Df K mg "parted" a4v)(M:MoB K mg){P4:AB}(v5:FnV K mg "round_from" P4)(K6:S2 P w K mg base):a7j P w K mg base:=by
 refine t0 (k:=3) D a5V (fun _ _ _ _ _ _=>el3 (fun _ _ _=>rfl)) fun f cdv A outer s H E hr=> ?_
 have S:=a5V
 have hu:=hr.units
 refine f7 ?_ ?_
 ·exact(j5 (i:=3) S.nd (E9 d8))
 refine f7 ?_ ?_
 ·exact(j5 (i:=4) S.nd a6m)
 refine f7 ?_ ?_
 ·refine y3 PassesOwn.never ?_ ?_ M.z_range ?_ ?_ (j9 5) ?_
  ·exact rfl
  ·exact rfl
  ·exact(a9 (a0 0 (pv 0)) d8)
  ·exact(i4 (i:=5) S.nd rfl (Or.inl rfl))
  refine g6 ?_
  refine y3 PassesOwn.never ?_ ?_ M.z_range ?_ ?_ (j9 6) ?_
  ·exact rfl
  ·exact rfl
  ·exact(a9 (a0 0 (pv 0)) d8)
  ·exact(i4 (i:=6) S.nd rfl (Or.inl rfl))
  refine g6 ?_
  refine Q6 ?_ ?_ ?_
  ·exact(a3L 4 hu M.nk (pv 4) (y0 (a9 (a0 5 (pv 5)) (a9 (a0 6 (pv 6)) d8))) (by first|rfl|exact nomark _))
  ·refine f7 ?_ ?_
   ·exact(j5 (i:=7) S.nd (b2m 2 (a8S K6 v5 (by decide) rfl b03) hr (pv 2) (c7 (c7 (c7 i8))) (a9 (a0 0 (pv 0)) (a9 (a0 1 (pv 1)) (a9 (y0 (a9 (a0 5 (pv 5)) (a9 (a0 6 (pv 6)) d8))) d8)))))
   exact(f7 (a3K 7 (F8 3 (pv 3) (a0 7 (pv 7)))) (g6 (a3K 7 (a0A PassesOwn.never rfl (a0 7 (pv 7)) (i4 (i:=8) S.nd rfl (Or.inl rfl)) (j9 8) (g6 (a1K 4 hu M.nk (pv 4) (a0 8 (pv 8)) a5q))))))
  exact C9
 exact(g6 (K8 3 (pv 3)))
theorem b1A(D:Df K mg "rounds" a4w){P4:AB}(v5:FnV K mg "round_from" P4)(a3E:a7j P w K mg base)(K6:S2 P w K mg base):a7k P w K mg base:=by
 refine t0 (k:=4) D a5W (fun _ _ _ _ _ _=>el2 (fun _ _=>rfl)) fun f cdv A outer s H E hr=> ?_
 have S:=a5W
 have hu:=hr.units
 exact(g6 (r9 (m5 a3E hr (by decide) rfl (c7 (c7 (c7 i8))) (a9 (a0 0 (pv 0)) (a9 (a0 1 (pv 1)) (a9 (b8L v5) d8))))))
theorem a73(D:Df K mg "count_of" a0K)(M:MoB K mg)(u9:J7 P w K mg base)(x9:L6 P w K mg base)(a3F:a7k P w K mg base):a3u P w K mg base:=by
 refine t0 (k:=5) D a2S (fun _ _ _ _ _ _=>el2 (fun _ _=>rfl)) fun f cdv A outer s H E hr=> ?_
 have S:=a2S
 have hu:=hr.units
 refine f7 ?_ ?_
 ·exact(j5 (i:=2) S.nd (m5 u9 hr (by decide) rfl (c7 i8) (a9 (a0 0 (pv 0)) d8)))
 refine f7 ?_ ?_
 ·refine j5 (i:=3) ?_ ?_
  ·exact S.nd
  refine O0 (b6M rfl) ?_ M.z_sum ?_ ?_
  ·exact rfl
  ·rfl
  refine G6 (ys:=["movement"]) (N0:=["side","colours","movements","many"]) (fun _ _ h=>h) ?_ ⟨by kernel_rfl,rfl,of_decide_eq_true rfl,of_decide_eq_true rfl,of_decide_eq_true rfl⟩ ?_ (fun C fp pins s H=>i4 (i:=4) a4Y rfl (Or.inl rfl)) (fun n h=>p0 (i:=4) (Nat.le_of_eq h)) (fun C fp pins s H=>P3) ?_
  ·exact rfl
  ·exact(a3H (a0 2 (pv 2)))
  intro C fp pins s H
  exact(m5 x9 hr (by decide) rfl (c7 (c7 i8)) (a9 (a0 1 (pv 1)) (a9 (O0 L9 rfl M.z_len (by rfl) (m5 a3F hr (by decide) rfl (c7 (c7 i8)) (a9 (a0 0 (pv 0)) (a9 (a0 4 (pv 4)) d8)))) d8)))
 exact(g6 (r9 (i3 R5 (a0 3 (pv 3)) (O0 L9 rfl M.z_len (by rfl) (a0 2 (pv 2))))))
theorem a9d(D:Df K mg "_law_led" a2h):a49 P w K mg base:=by
 refine t0 (k:=0) D a4y (fun _ _ _ _ _ _=>el3 (fun _ _ _=>rfl)) fun f cdv A outer s H E hr=> ?_
 have S:=a4y
 have hu:=hr.units
 refine f7 ?_ ?_
 ·exact(b2t (is:=[3,4]) rfl (a0 2 (pv 2)) (Y1 (i4 (i:=3) S.nd rfl (Or.inl rfl)) (Y1 (i4 (i:=4) S.nd rfl (Or.inl rfl)) b0v)))
 refine f7 ?_ ?_
 ·exact(b2t (is:=[5,6,7]) rfl (a0 1 (pv 1)) (Y1 (i4 (i:=5) S.nd rfl (Or.inl rfl)) (Y1 (i4 (i:=6) S.nd rfl (Or.inl rfl)) (Y1 (i4 (i:=7) S.nd rfl (Or.inl rfl)) b0v))))
 refine f7 ?_ ?_
 ·exact(Q6 (B5 (a6T hu) (a0 5 (pv 5)) (y0 (a9 l7 (a9 l7 (a9 l7 (a9 l7 d8))))) (by first|rfl|exact nomark _)) (g6 (b6U 3 4 S.nd rfl (a9 (a0 4 (pv 4)) (a9 (a0 3 (pv 3)) d8)))) C9)
 refine f7 ?_ ?_
 ·exact(Q6 (B5 (a6T hu) (a0 5 (pv 5)) (y0 (a9 l7 (a9 l7 (a9 l7 (a9 l7 d8))))) (by first|rfl|exact nomark _)) (g6 (j5 (i:=3) S.nd (i3 a3j g5 (a0 3 (pv 3))))) C9)
 refine f7 ?_ ?_
 ·exact(Q6 (B5 (a6T hu) (a0 5 (pv 5)) (y0 (a9 l7 (a9 l7 (a9 l7 (a9 l7 d8))))) (by first|rfl|exact nomark _)) (g6 (j5 (i:=4) S.nd (i3 a3j g5 (a0 4 (pv 4))))) C9)
 exact(g6 (r9 (y0 (a9 (i3 u6 (i3 A3 (a0 3 (pv 3)) (a0 6 (pv 6))) (a0 0 (pv 0))) (a9 (i3 u6 (i3 A3 (a0 4 (pv 4)) (a0 7 (pv 7))) (a0 0 (pv 0))) d8)))))
theorem a6P(D:Df K mg "_law_moved" Y7)(M:MoB K mg)(a1I:a49 P w K mg base):a2q P w K mg base:=by
 refine t0 (k:=1) D a1s (fun _ _ _ _ _ _=>el2 (fun _ _=>rfl)) fun f cdv A outer s H E hr=> ?_
 have S:=a1s
 have hu:=hr.units
 refine f7 ?_ ?_
 ·exact(j5 (i:=2) S.nd (O0 L9 rfl M.z_len (by rfl) (a0 0 (pv 0))) rfl (Or.inr rfl))
 refine f7 ?_ ?_
 ·exact(j5 (i:=3) S.nd a6m rfl (Or.inr rfl))
 refine f7 ?_ ?_
 ·refine y3 PassesOwn.never ?_ ?_ M.z_range ?_ ?_ (j9 4) ?_
  ·exact rfl
  ·exact rfl
  ·exact(a9 (a0 2 (pv 2)) d8)
  ·exact(i4 (i:=4) S.nd rfl (Or.inl rfl))
  refine g6 ?_
  refine y3 PassesOwn.never ?_ ?_ M.z_range ?_ ?_ (j9 5) ?_
  ·exact rfl
  ·exact rfl
  ·exact(a9 (a0 2 (pv 2)) d8)
  ·exact(i4 (i:=5) S.nd rfl (Or.inl rfl))
  refine g6 ?_
  refine a1K 3 ?_ M.nk (pv 3) ?_ ?_
  ·exact hu
  ·exact(m5 a1I hr (by decide) rfl (c7 (c7 (c7 i8))) (a9 (a0 2 (pv 2)) (a9 (a0 1 (pv 1)) (a9 (y0 (a9 (a0 4 (pv 4)) (a9 (a0 5 (pv 5)) d8))) d8))))
  exact(p8 (p8 (a0 0 (pv 0)) (a0 4 (pv 4))) (a0 5 (pv 5)))
 refine g6 ?_
 refine r9 ?_
 refine a9T a3D ?_ M.z_tuple ?_ ?_
 ·exact rfl
 ·rfl
 refine G6 (ys:=["_law_r"]) (N0:=["_law_carpet_here","_law_movement_here","_law_n","_law_knots","0_law_r","_law_c"]) (fun _ _ h=>h) ?_ ⟨by kernel_rfl,rfl,of_decide_eq_true rfl,of_decide_eq_true rfl,of_decide_eq_true rfl⟩ ?_ (fun C fp pins s H=>i4 (i:=6) a4d rfl (Or.inr rfl)) (fun n h=>p0 (i:=6) (Nat.le_of_eq h)) (fun C fp pins s H=>P3) ?_
 ·exact rfl
 ·exact(Z6 rfl M.z_range (a9 (a0 2 (pv 2)) d8))
 intro C fp pins s H
 refine a6o ?_ ?_
 ·exact l7
 refine G6 (ys:=["_law_c"]) (N0:=["_law_carpet_here","_law_movement_here","_law_n","_law_knots","0_law_r","0_law_c","_law_r"]) (fun _ _ h=>h) ?_ ⟨by kernel_rfl,rfl,of_decide_eq_true rfl,of_decide_eq_true rfl,of_decide_eq_true rfl⟩ ?_ (fun C fp pins s H=>i4 (i:=7) a4e rfl (Or.inl rfl)) (fun n h=>p0 (i:=7) (Nat.le_of_eq h)) (fun C fp pins s H=>P3) ?_
 ·exact rfl
 ·exact(Z6 rfl M.z_range (a9 (a0 2 (pv 2)) d8))
 intro C fp pins s H
 exact(b4y 3 hu (pv 3) (a9 (a0 6 (pv 6)) (a9 (a0 7 (pv 7)) d8)))
theorem a9c(D:Df K mg "_law_all" a2g)(M:MoB K mg):a48 P w K mg base:=by
 refine t0 (k:=0) D a4x (fun _ _ _ _ _ _=>el1 (fun _=>rfl)) fun f cdv A outer s H E hr=> ?_
 have S:=a4x
 have hu:=hr.units
 refine f7 ?_ ?_
 ·exact(j5 (i:=1) S.nd (E9 d8))
 refine f7 ?_ ?_
 ·refine a0A PassesOwn.never ?_ ?_ ?_ (j9 2) ?_
  ·exact rfl
  ·exact(E9 (a9 l7 (a9 l7 (a9 l7 (a9 l7 (a9 l7 (a9 l7 (a9 l7 (a9 l7 d8)))))))))
  ·exact(i4 (i:=2) S.nd rfl (Or.inl rfl))
  refine g6 ?_
  refine y3 PassesOwn.never ?_ ?_ M.z_range ?_ ?_ (j9 3) ?_
  ·exact rfl
  ·exact rfl
  ·exact(a9 (a0 0 (pv 0)) d8)
  ·exact(i4 (i:=3) S.nd rfl (Or.inl rfl))
  exact(g6 (y3 PassesOwn.never rfl rfl M.z_range (a9 (a0 0 (pv 0)) d8) (i4 (i:=4) S.nd rfl (Or.inl rfl)) (j9 4) (g6 (F8 1 (pv 1) (y0 (a9 (a0 2 (pv 2)) (a9 (a0 3 (pv 3)) (a9 (a0 4 (pv 4)) d8))))))))
 exact(g6 (K8 1 (pv 1)))
theorem a6N(D:Df K mg "_law_least" Y5)(M:MoB K mg)(W5:a2q P w K mg base)(a1H:a48 P w K mg base):a2p P w K mg base:=by
 refine t0 (k:=2) D a1q (fun _ _ _ _ _ _=>el1 (fun _=>rfl)) fun f cdv A outer s H E hr=> ?_
 have S:=a1q
 have hu:=hr.units
 refine g6 ?_
 refine r9 ?_
 refine O0 (b4t hu rfl) ?_ M.z_min ?_ ?_
 ·exact rfl
 ·rfl
 refine G6 (ys:=["_law_movement_here"]) (N0:=["_law_carpet_here"]) (fun _ _ h=>h) ?_ ⟨by kernel_rfl,rfl,of_decide_eq_true rfl,of_decide_eq_true rfl,of_decide_eq_true rfl⟩ ?_ (fun C fp pins s H=>i4 (i:=1) a4c rfl (Or.inl rfl)) (fun n h=>p0 (i:=1) (Nat.le_of_eq h)) (fun C fp pins s H=>P3) ?_
 ·exact rfl
 ·exact(a3H (m5 a1H hr (by decide) rfl (c7 i8) (a9 (O0 L9 rfl M.z_len (by rfl) (a0 0 (pv 0))) d8)))
 intro C fp pins s H
 exact(m5 W5 hr (by decide) rfl (c7 (c7 i8)) (a9 (a0 0 (pv 0)) (a9 (a0 1 (pv 1)) d8)))
theorem a41(D:Df K mg "_law_carpet" T9)(M:MoB K mg)(I0:V8 P w K mg base):a0R P w K mg base:=by
 refine t0 (k:=1) D a0s (fun _ _ _ _ _ _=>el3 (fun _ _ _=>rfl)) fun f cdv A outer s H E hr=> ?_
 have S:=a0s
 have hu:=hr.units
 refine f7 ?_ ?_
 ·exact(j5 (i:=3) S.nd l7 rfl (Or.inr rfl))
 refine g6 ?_
 refine r9 ?_
 refine a9T a3D ?_ M.z_tuple ?_ ?_
 ·exact rfl
 ·rfl
 refine G6 (ys:=["_law_r"]) (N0:=["_law_n","_law_many","_law_cell","_law_letters"]) (fun _ _ h=>h) ?_ ⟨by kernel_rfl,rfl,of_decide_eq_true rfl,of_decide_eq_true rfl,of_decide_eq_true rfl⟩ ?_ (fun C fp pins s H=>i4 (i:=4) a22 rfl (Or.inr rfl)) (fun n h=>p0 (i:=4) (Nat.le_of_eq h)) (fun C fp pins s H=>P3) ?_
 ·exact rfl
 ·exact(Z6 rfl M.z_range (a9 (a0 0 (pv 0)) d8))
 intro C fp pins s H
 refine a6o ?_ ?_
 ·exact l7
 refine G6 (ys:=["_law_c"]) (N0:=["_law_n","_law_many","_law_cell","_law_letters","_law_r"]) (fun _ _ h=>h) ?_ ⟨by kernel_rfl,rfl,of_decide_eq_true rfl,of_decide_eq_true rfl,of_decide_eq_true rfl⟩ ?_ (fun C fp pins s H=>i4 (i:=5) a23 rfl (Or.inl rfl)) (fun n h=>p0 (i:=5) (Nat.le_of_eq h)) (fun C fp pins s H=>P3) ?_
 ·exact rfl
 ·exact(Z6 rfl M.z_range (a9 (a0 0 (pv 0)) d8))
 intro C fp pins s H
 exact(p8 (a0 3 (pv 3)) (i3 u6 (m5 I0 hr (by decide) rfl (c7 (c7 i8)) (a9 (a0 2 (pv 2)) (a9 (i3 A3 (i3 D8 (a0 4 (pv 4)) (a0 0 (pv 0))) (a0 5 (pv 5))) d8))) (a0 1 (pv 1))))
theorem b7z{f:AB}{fd:FuncData}(F:Fun K "law" "law" b3T f fd)(M:MoB K mg)(I0:V8 P w K mg base)(N8:a2n P w K mg base)(P0:a0l P w K mg base)(a0x:a3u P w K mg base)(N9:a2p P w K mg base)(S5:a0R P w K mg base):E4 P w K mg base CX0 7 f fd ["_law_script"] (spP K 1 b2M):=by
 refine b59 (k:=6) F b3V fun cdv A outer s H E hr=> ?_
 have S:=b3V
 have hu:=hr.units
 refine f7 ?_ ?_
 ·exact(j5 (i:=1) S.nd (m5 I0 hr (by decide) rfl (c7 (c7 i8)) (a9 (m5 P0 hr (by decide) rfl (c7 (c7 i8)) (a9 (a0 0 (pv 0)) (a9 g5 d8))) (a9 g5 d8))))
 refine f7 ?_ ?_
 ·exact(j5 (i:=2) S.nd (p8 (E9 (a9 g5 (a9 g5 (a9 g5 (a9 g5 d8))))) (i3 u6 (a0 1 (pv 1)) g5)) rfl (Or.inr rfl))
 refine f7 ?_ ?_
 ·refine j5 (i:=3) ?_ ?_
  ·exact S.nd
  exact(p8 (E9 (a9 (i3 A3 g5 (i3 u6 (i3 R5 (a0 1 (pv 1)) g5) g5)) (a9 (i3 A3 g5 (i3 u6 (i3 R5 (a0 1 (pv 1)) g5) g5)) (a9 g5 d8)))) (i3 a3j (a0 2 (pv 2)) g5))
 refine f7 ?_ ?_
 ·refine Q6 ?_ ?_ ?_
  ·exact(B5 (a4k hu) (i3 u6 (i3 R5 (a0 1 (pv 1)) g5) g5) g5 (by first|rfl|exact nomark _))
  ·exact(g6 (j5 (i:=3) S.nd (p8 (E9 (a9 (a0 3 (pv 3)) (a9 g5 (a9 g5 d8)))) (i3 a3j (a0 2 (pv 2)) g5))))
  exact C9
 refine f7 ?_ ?_
 ·exact(j5 (i:=4) S.nd (a9S N8 hr (by decide) rfl (c7 (c7 i8)) (a9 (a0 2 (pv 2)) (a9 (a0 3 (pv 3)) d8))))
 refine f7 ?_ ?_
 ·refine Q6 (PW.pt (b2x (b2v (b2w (b2o (.inr (.inr (.inr (.inl rfl)))) rfl M.z_isinstance (a0 4 (pv 4)) (b0s rfl M.z_list (by rfl) rfl)))) (b2x (B5 (a2c hu) (a0 4 (pv 4)) (a7w rfl hu rfl M.z_sorted rfl M.z_set (a0 4 (pv 4))) (by first|rfl|exact nomark _)) (b2y (B5 (a2c hu) (O0 L9 rfl M.z_len (by rfl) (a0 4 (pv 4))) (m5 a0x hr (by decide) rfl (c7 (c7 i8)) (a9 (a0 2 (pv 2)) (a9 (a0 3 (pv 3)) d8))) (by first|rfl|exact nomark _)))))) ?_ ?_
  ·exact(g6 (r9 a5q))
  exact C9
 refine f7 ?_ ?_
 ·refine Q6 ?_ ?_ ?_
  ·refine B5 (a2c hu) ?_ ?_ ?_
   ·refine G6 (ys:=["_law_form"]) (N0:=["_law_script","_law_seed","_law_n","_law_many","_law_found","_law_start","0_law_form","_law_k","_law_kept"]) (fun _ _ h=>h) ?_ ⟨by kernel_rfl,rfl,of_decide_eq_true rfl,of_decide_eq_true rfl,of_decide_eq_true rfl⟩ ?_ (fun C fp pins s H=>i4 (i:=9) b3f rfl (Or.inl rfl)) (fun n h=>p0 (i:=9) (Nat.le_of_eq h)) ?_ ?_
    ·exact rfl
    ·exact(a3H (a0 4 (pv 4)))
    ·intro C fp pins s H
     exact(b6P (PW.pt (b2x (b2v (b2w (b2o (.inr (.inr (.inr (.inr (.inl rfl))))) rfl M.z_isinstance (a0 9 (pv 9)) (b0s rfl M.z_tuple (by rfl) rfl)))) (b2y (B5 (a2c hu) (O0 L9 rfl M.z_len (by rfl) (a0 9 (pv 9))) (a0 2 (pv 2)) (by first|rfl|exact nomark _))))))
    intro C fp pins s H
    exact(a0 9 (pv 9))
   ·exact(E9 d8)
   first|rfl|exact nomark _
  ·exact(g6 (r9 a5q))
  exact C9
 refine f7 ?_ ?_
 ·exact(j5 (i:=5) S.nd (i3 u6 (i3 R5 (a0 1 (pv 1)) g5) (O0 L9 rfl M.z_len (by rfl) (a0 4 (pv 4)))))
 refine f7 ?_ ?_
 ·refine a0A PassesOwn.never ?_ ?_ ?_ (j9 6) ?_
  ·exact rfl
  ·exact(a04 (i3 A3 (a04 (a0 4 (pv 4)) (a3a (a0 5 (pv 5))) a29) (a04 (a0 4 (pv 4)) a29 (a3a (a0 5 (pv 5))))) a29 (a3a g5))
  ·exact(i4 (i:=6) S.nd rfl (Or.inl rfl))
  exact(g6 (Q6 (B5 (a2c hu) (m5 N9 hr (by decide) rfl (c7 i8) (a9 (a0 6 (pv 6)) d8)) (a0 6 (pv 6)) (by first|rfl|exact nomark _)) (g6 (r9 a5q)) C9))
 refine f7 ?_ ?_
 ·refine b2s PassesOwn.never ?_ ?_ M.z_range ?_ ?_ (j9 7) ?_
  ·exact rfl
  ·exact rfl
  ·exact(a9 g5 (a9 (b8K (b6L rfl) rfl M.z_min (by rfl) (O0 L9 rfl M.z_len (by rfl) (a0 0 (pv 0))) g5) d8))
  ·exact(i4 (i:=7) S.nd rfl (Or.inl rfl))
  refine g6 ?_
  refine Q6 ?_ ?_ ?_
  ·refine B5 (a9f hu) ?_ ?_ ?_
   ·exact(m5 N9 hr (by decide) rfl (c7 i8) (a9 (m5 S5 hr (by decide) rfl (c7 (c7 (c7 i8))) (a9 (a0 2 (pv 2)) (a9 (a0 3 (pv 3)) (a9 (p8 (a0 0 (pv 0)) (a0 7 (pv 7))) d8)))) d8))
   ·exact(a0 4 (pv 4))
   first|rfl|exact nomark _
  ·exact(g6 (r9 a5q))
  exact C9
 refine f7 ?_ ?_
 ·exact(j5 (i:=8) S.nd (a9T (b2f rfl) rfl M.z_list (by rfl) (a0 4 (pv 4))))
 refine f7 ?_ ?_
 ·exact(F8 4 (pv 4) (y0 d8))
 refine g6 ?_
 refine r9 ?_
 refine b8M ?_ ?_
 ·exact(b2n (a4k hu) (i3 u6 (i3 R5 (a0 1 (pv 1)) g5) g5) g5 (by first|rfl|exact nomark _))
 exact(b6Q (b2n (a4k hu) (a9S N8 hr (by decide) rfl (c7 (c7 i8)) (a9 (a0 2 (pv 2)) (a9 (a0 3 (pv 3)) d8))) (a0 8 (pv 8)) (by first|rfl|exact nomark _)))
end
theorem b6E{l:PySem.W.OpenLaw}{w:AH}{K:AE}{h:Heap}{mg:Str->Option AA}{fa:AB}(X:K.In h)(G:h.Ns mainGlobals mg)(hfa:mg "law"=some (.ref fa))
 {D0:AB} {a40 a4N:Option AB} {a45:Array (Option AA)} {a4Z a4U a4S a44 a0o a4R:AA}
 {C_CarpetError:AB}
 {C_TooLarge:AB}
 {f0_TooLarge:AB}
 {uu_WAYS:AA}
 {aa_LEADS:AB}
 {uu_LETTERS:AA}
 {uu_MOST_CARPETS:AA}
 (I0:Df0 K "_law_mixed" Y6)
 (x9:Df0 K "times_itself" N4)
 (W4:Df0 K "check_few" Y4)
 (u9:Df0 K "all_movements" K0)
 (a03:Df0 K "longer" a4u)
 (O9:Df0 K "all_carpets" P8)
 (a0y:Df0 K "way_back" a0M)
 (M0:Df0 K "place_by" a0L)
 (S6:Df0 K "taken_back" U0)
 (a5o:Df0 K "led" b3U)
 (W6:Df0 K "moved_row" Y8)
 (a6j:Df0 K "moved" a6Z)
 (N8:Df0 K "all_forms" Y3)
 (P0:Df0 K "_law_cell_at" P9)
 (a0T:PySem.W.nsIn K mainGlobals "round_from"=some (some (.ref D0))) (a1e:K.lookup D0=some ⟨a4Z,a40,.func (PySem.W.fnOf "round_from" "round_from" (C7 A5) (p7 A5) (d7 A5) .none a4U a4S a44 a4N a0o a4R),a45⟩) (a6e:PySem.W.codeIn K a0o "round_from"=true) (a6B:PySem.W.keepIn K (.ref D0)=true) (a4T:b3p K "round_from" D0=true)
 (a3E:Df0 K "parted" a4v)
 (a3F:Df0 K "rounds" a4w)
 (a0x:Df0 K "count_of" a0K)
 (a1I:Df0 K "_law_led" a2h)
 (W5:Df0 K "_law_moved" Y7)
 (a1H:Df0 K "_law_all" a2g)
 (N9:Df0 K "_law_least" Y5)
 (S5:Df0 K "_law_carpet" T9)
 (b8G:Df0 K "law" b3T)
 (nk:a4h K=true)
 (xa_CarpetError:PySem.W.nsIn K mainGlobals "CarpetError"=some (some (.ref C_CarpetError))) (xq_CarpetError:(a0H K C_CarpetError "CarpetError" && a8Q K C_CarpetError)=true)
 (xa_TooLarge:PySem.W.nsIn K mainGlobals "TooLarge"=some (some (.ref C_TooLarge))) (xq_TooLarge:(a0H K C_TooLarge "TooLarge" && a8Q K C_TooLarge)=true)
 (x0_TooLarge:PySem.W.findIn K (.ref C_TooLarge) "__init__"=some (some (.ref f0_TooLarge))) (xk_TooLarge:(a0H K C_TooLarge "TooLarge" && b7h K C_TooLarge)=true) (x1_TooLarge:a3N K C_TooLarge f0_TooLarge=true) (x2_TooLarge:(["many"]:List Str).all (fun g=>PySem.W.findIn K (.ref C_TooLarge) g==some none)=true) (dm0_TooLarge:Dm K "__init__" "TooLarge.__init__" a2R f0_TooLarge)
 (xr_CarpetError:PySem.W.readsIn K C_CarpetError (.type "type")=true) (xg_CarpetError:PySem.W.findCls K (.ref C_CarpetError) (.type "type") "__init__"=some (.val (.builtin "ValueError.__init__"))) (xs_CarpetError:PySem.W.specialIn K (.ref C_CarpetError) "__getattribute__"=some (some (.builtin "type.__getattribute__")))
 (z_isinstance:PySem.W.nsIn K mainGlobals "isinstance"=some none)
 (z_len:PySem.W.nsIn K mainGlobals "len"=some none)
 (z_list:PySem.W.nsIn K mainGlobals "list"=some none)
 (z_min:PySem.W.nsIn K mainGlobals "min"=some none)
 (z_range:PySem.W.nsIn K mainGlobals "range"=some none)
 (z_set:PySem.W.nsIn K mainGlobals "set"=some none)
 (z_sorted:PySem.W.nsIn K mainGlobals "sorted"=some none)
 (z_sum:PySem.W.nsIn K mainGlobals "sum"=some none)
 (z_tuple:PySem.W.nsIn K mainGlobals "tuple"=some none)
 (e_WAYS:PySem.W.nsIn K mainGlobals "WAYS"=some (some uu_WAYS)) (q_WAYS:V3 K 40 uu_WAYS=some a66)
 (e_LEADS:PySem.W.nsIn K mainGlobals "LEADS"=some (some (.ref aa_LEADS)))
 (t_LEADS:b78 K 9 aa_LEADS=some x4) (h_LEADS:a6x K aa_LEADS=x4.map (fun kv=>b1f w kv.1))
 (e_LETTERS:PySem.W.nsIn K mainGlobals "LETTERS"=some (some uu_LETTERS)) (q_LETTERS:V3 K 40 uu_LETTERS=some R9)
 (e_MOST_CARPETS:PySem.W.nsIn K mainGlobals "MOST_CARPETS"=some (some uu_MOST_CARPETS)) (q_MOST_CARPETS:V3 K 40 uu_MOST_CARPETS=some E2)
 :∃fd:FuncData,(∀(s:AC) (v:AA),BindsTo s fd ⟨[v],[]⟩ [("_law_script",v)])/\∀base:Heap,K.In base->base.Ns mainGlobals mg->E4 l.prog w K mg base CX0 7 fa fd ["_law_script"] (a8n K):=by
 have v5:FnV K mg "round_from" D0:=b62 (PySem.W.mg_of X G a0T) a1e rfl a4T
 have K6:Df0 K "round_from" A5:=b57 a0T a1e a6e a6B
 have x_CarpetError:XC K mg "CarpetError" C_CarpetError:=b6y X G xa_CarpetError xq_CarpetError
 have x_TooLarge:XC K mg "TooLarge" C_TooLarge:=b6y X G xa_TooLarge xq_TooLarge
 have M:MoB K mg:=⟨PySem.W.mg_none_of X G z_isinstance,PySem.W.mg_none_of X G z_len,PySem.W.mg_none_of X G z_list,PySem.W.mg_none_of X G z_min,PySem.W.mg_none_of X G z_range,PySem.W.mg_none_of X G z_set,PySem.W.mg_none_of X G z_sorted,PySem.W.mg_none_of X G z_sum,PySem.W.mg_none_of X G z_tuple,nk⟩
 have mm_WAYS:=PySem.W.mg_of X G e_WAYS
 have mm_LEADS:=PySem.W.mg_of X G e_LEADS
 have tt_LEADS:Tab l.prog w K aa_LEADS x4:=b8a 9 t_LEADS h_LEADS (by decide+kernel)
 have mm_LETTERS:=PySem.W.mg_of X G e_LETTERS
 have mm_MOST_CARPETS:=PySem.W.mg_of X G e_MOST_CARPETS
 have kx_TooLarge:KX K "TooLarge" C_TooLarge:=b8W xa_TooLarge xk_TooLarge
 have na_TooLarge:∀g∈(["many"]:List Str),V6 K C_TooLarge g:=b6F x2_TooLarge
 refine b4V (b8G.to X G) hfa (fun _ _ _ _ _ _ _=>rfl) main fun base f fd kb F=> ?_
 have xi_TooLarge:b4m l.prog w K mg base "TooLarge" ["many"] 1:=b2S (k:=0) dm0_TooLarge a60 rfl kx_TooLarge (PySem.W.mg_of X G xa_TooLarge) x1_TooLarge na_TooLarge (by decide+kernel) (by decide) (fun _ _ _ _ _ _=>el2 (fun _ _=>rfl)) fun cdv A outer s H E hr=>(a1l (b3I rfl (PySem.W.mg_of X G xa_CarpetError) xr_CarpetError xg_CarpetError xs_CarpetError (A4 (pv 0) (A4 (pv 1) P7))) (a1l (b5x rfl (pv 0) (pv 1)) b0w))
 have a2l:=a6O l.prog w base (I0.to X G)
 have V5:=a24 l.prog w base (x9.to X G) M
 have a7d:=a6M l.prog w base (W4.to X G) xi_TooLarge mm_MOST_CARPETS q_MOST_CARPETS V5
 have U5:=a2b l.prog w base (u9.to X G) M mm_WAYS q_WAYS
 have b1U:=b1y l.prog w base (a03.to X G)
 have a4L:=a4i l.prog w base (O9.to X G) M mm_LETTERS q_LETTERS b1U
 have a8B:=a75 l.prog w base (a0y.to X G)
 have a3q:=a74 l.prog w base (M0.to X G) mm_LEADS tt_LEADS
 have a57:=a43 l.prog w base (S6.to X G) a8B a3q
 have b53:=b7A l.prog w base (a5o.to X G) a3q
 have a7g:=a6Q l.prog w base (W6.to X G) M b53
 have b4l:=b3n l.prog w base (a6j.to X G) M a57 a7g
 have a7c:=a6L l.prog w base (N8.to X G) M a7d U5 a4L b4l
 have a4M:=a4j l.prog w base (P0.to X G) M
 have a0O:=a42 l.prog w base (K6.to X G) b53
 have b1V:=b1z l.prog w base (a3E.to X G) M v5 a0O
 have b1W:=b1A l.prog w base (a3F.to X G) v5 b1V a0O
 have a8A:=a73 l.prog w base (a0x.to X G) M U5 V5 b1W
 have b0J:=a9d l.prog w base (a1I.to X G)
 have a7f:=a6P l.prog w base (W5.to X G) M b0J
 have b0I:=a9c l.prog w base (a1H.to X G) M
 have a7e:=a6N l.prog w base (N9.to X G) M a7f b0I
 have a56:=a41 l.prog w base (S5.to X G) M a2l
 exact b7z l.prog w base F M a2l a7c a4M a8A a7e a56
end LW
namespace PySem.W.Fast
def tw14888279653671094543:=()
def tw11955370755568390069:=()
def tw18293543483540516304:=()
def tw13927112274609062572:=()
def tw4973153360789149122:=()
def tw2750367726692963283:=()
def tw18390706196042765568:=()
def tw6195877157537326958:=()
def tw7181464368540006293:=()
def tw8842170540388468026:=()
def tw13958111400502070354:=()
def tw14048258620148223890:=()
def tw242087644820460290:=()
def tw12393213219286936808:=()
def tw6218891465247308087:=()
def tw10363745379938971578:=()
def tw18317587782197764000:=()
def tw16796249738036642669:=()
def tw18248442547829870107:=()
def tw2073975273724647279:=()
def tw1480065273156746330:=()
def tw15458441769395106419:=()
def tw7540888173128083703:=()
def tw15823792528398468744:=()
def tw8421588690174611813:=()
def tw18097530147553873473:=()
def tw6219680517296336083:=()
def tw2972745553857728976:=()
def tw1609020486066948308:=()
def tw15134768901700729578:=()
def tw9928381215729671613:=()
def tw1207228699803773944:=()
def tw16283710507086331365:=()
def tw3696091136674995571:=()
def tw13622466883144246910:=()
def tw6439138809856160738:=()
def tw1920540825211590455:=()
def tw5826692800485688721:=()
def tw7916054612869034021:=()
def tw735863247175320893:=()
def tw11461283727280872085:=()
def tw14568601239335825664:=()
def tw17733343727784520963:=()
def tw7206470835610774489:=()
def tw10669450114409390529:=()
def tw6139296642585900718:=()
def tw10115911292803276455:=()
def tw9905426324624340485:=()
def tw6155683337330477215:=()
def tw11865449495581459008:=()
def tw18438168537474959005:=()
def tw13923660257482672534:=()
def tw5910054942452622324:=()
def tw11506628729233937418:=()
def tw461773197065280254:=()
def tw5887673291408380002:=()
def tw947255073471376474:=()
def tw2898358841932025363:=()
def tw1568060586157080591:=()
def tw595833939693548763:=()
def tw693496448926859330:=()
def tw17642588808068543089:=()
def tw14389959025191544454:=()
end PySem.W.Fast
open PySem PySem.W PyProof.Rows
set_option maxRecDepth 100000 in
set_option maxHeartbeats 0 in
theorem PySem.Challenge.cw_carpetkin_k84_all_forms_holds : PySem.Challenge.rw_carpetkin_k84_all_forms.Holds := by
 w_on;o_law;k_head;(case hw=>w_witness2)
 k_fill
 refine PU.b98 (k:=7) (x:="_law_script") (l:=PySem.Challenge.rw_carpetkin_k84_all_forms) (by decide) rfl rfl (fun w h Y=>PySem.W.kIn_of Y) ?F
 case F=>
  intro w mg fa h KX G hmg
  refine' LW.b6E KX G hmg ?_ ?_ ?_ ?_ ?_ ?_ ?_ ?_ ?_ ?_ ?_ ?_ ?_ ?_ ?_ ?_ ?_ ?_ ?_ ?_ ?_ ?_ ?_ ?_ ?_ ?_ ?_ ?_ ?_ ?_ ?_ ?_ ?_ ?_ ?_ ?_ ?_ ?_ ?_ ?_ ?_ ?_ ?_ ?_ ?_ ?_ ?_ ?_ ?_ ?_ ?_ ?_ ?_ ?_ ?_ ?_ ?_ ?_ ?_
  all_goals first|(apply PU.b57<;>k_is)|(apply PU.b8I<;>first|k_is|kernel_rfl)|k_is|kernel_rfl|skip
