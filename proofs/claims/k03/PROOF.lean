import PyProof.Rows.All
import Wide.All
import OpenK.AllK
import Wide.FinOn
import Lean
import PyProof.EqAt
import PyProof.EqKinds
import PyProof.TupleCall
import PySem.Challenge.RW_whyfacts_k03_bound_and_widths
set_option Elab.async false
set_option linter.all false
set_option maxRecDepth 100000
set_option maxHeartbeats 4000000
theorem EG:type_of% @Bool.false_ne_true:=@Bool.false_ne_true
theorem EH:type_of% @List.getElem?_eq_getElem:=@List.getElem?_eq_getElem
theorem EI:type_of% @PySem.Heap.get?_push_of_some:=@PySem.Heap.get?_push_of_some
theorem EJ:type_of% @List.mem_append_right:=@List.mem_append_right
theorem EK:type_of% @List.mem_cons_self:=@List.mem_cons_self
theorem EL:type_of% @PySem.Heap.lt_size:=@PySem.Heap.lt_size
theorem EM:type_of% @List.size_toArray:=@List.size_toArray
theorem EN:type_of% @Nat.le_refl:=@Nat.le_refl
theorem EQ:type_of% @List.length_map:=@List.length_map
theorem ER:type_of% @List.mem_cons_of_mem:=@List.mem_cons_of_mem
theorem ES:type_of% @List.length_append:=@List.length_append
theorem ET:type_of% @Nat.lt_of_lt_of_le:=@Nat.lt_of_lt_of_le
theorem EW:type_of% @PySem.Heap.get?_push_size:=@PySem.Heap.get?_push_size
theorem EX:type_of% @Nat.ne_of_lt:=@Nat.ne_of_lt
theorem EY:type_of% @List.getElem?_map:=@List.getElem?_map
theorem EZ:type_of% @List.length_cons:=@List.length_cons
theorem FA:type_of% @Nat.le_trans:=@Nat.le_trans
theorem FD:type_of% @List.length_singleton:=@List.length_singleton
theorem FE:type_of% @Bool.and_eq_true:=@Bool.and_eq_true
theorem FF:type_of% @Nat.lt_irrefl:=@Nat.lt_irrefl
theorem FH:type_of% @Nat.lt_of_le_of_lt:=@Nat.lt_of_le_of_lt
theorem FI:type_of% @PySem.wpAny_bind:=@PySem.wpAny_bind
theorem FJ:type_of% @if_pos:=@if_pos
theorem FK:type_of% @if_neg:=@if_neg
theorem FL:type_of% @Eq.trans:=@Eq.trans
theorem FM:type_of% @PySem.wpAny_pure:=@PySem.wpAny_pure
theorem FN:type_of% @List.map_cons:=@List.map_cons
theorem FO:type_of% @PySem.wpAny_mono:=@PySem.wpAny_mono
theorem FP:type_of% @Option.some.inj:=@Option.some.inj
theorem FR:type_of% @decide_eq_false:=@decide_eq_false
namespace L2
open PySem PySem.Spec PyProof.Rows
abbrev be:=Sum Int Str
def yf:be->Value->Bool
 |.inl k,v=>Value.isInt k v
 |.inr x,v=>Value.isStrOf x v
def keyH(w:World):be->Int
 |.inl k=>hashInt k
 |.inr x=>hashStr w x
theorem keyIs_shape:∀{k:be}{v:Value},yf k v=true->(∃i t,k=Sum.inl i/\v=Value.int i t)\/(∃x t,k=Sum.inr x/\v=Value.str x t)
 |.inl i,v,h=>by
  obtain⟨t,e⟩:=Value.isInt_shape (k:=i) (v:=v) h
  exact .inl ⟨i,t,rfl,e⟩
 |.inr x,v,h=>by
  obtain⟨t,e⟩:=Value.isStrOf_shape (x:=x) (v:=v) h
  exact .inr ⟨x,t,rfl,e⟩
theorem nP(i:Int)(t:Tok):yf (.inl i) (.int i t)=true:=by simp[yf,Value.isInt]
theorem nO(x:Str)(t:Tok):yf (.inr x) (.str x t)=true:=by simp[yf,Value.isStrOf]
theorem zK(a b:Int):decide ((Sum.inl a:be)=Sum.inl b)=(a == b):=by
 by_cases e:a=b
 ·subst e;simp
 ·have h:¬(Sum.inl a:be)=Sum.inl b:=fun q=>e (Sum.inl.inj q)
  rw[FR h]
  exact(beq_eq_false_iff_ne.mpr e).symm
theorem zH(a b:Str):decide ((Sum.inr a:be)=Sum.inr b)=decide (a=b):=by
 by_cases e:a=b
 ·subst e;simp
 ·have h:¬(Sum.inr a:be)=Sum.inr b:=fun q=>e (Sum.inr.inj q)
  rw[FR h,FR e]
theorem zJ(a:Int)(b:Str):decide ((Sum.inl a:be)=Sum.inr b)=false:=FR (fun q=>nomatch q)
theorem zI(a:Str)(b:Int):decide ((Sum.inr a:be)=Sum.inl b)=false:=FR (fun q=>nomatch q)
def jb(prog:Program)(w:World):PySem.KeyKind prog w be where
 is:=yf
 hash:=keyH w
 inj:=fun v a b ha hb=>by
  rcases keyIs_shape ha with⟨i,t,rfl,rfl⟩|⟨x,t,rfl,rfl⟩
  ·rcases keyIs_shape hb with⟨j,u,rfl,e⟩|⟨y,u,rfl,e⟩
   ·injection e with e1 _;rw[e1]
   ·exact nomatch e
  ·rcases keyIs_shape hb with⟨j,u,rfl,e⟩|⟨y,u,rfl,e⟩
   ·exact nomatch e
   ·injection e with e1 _;rw[e1]
 byValue:=fun k v h=>by
  rcases keyIs_shape h with⟨i,t,rfl,rfl⟩|⟨x,t,rfl,rfl⟩<;>rfl
 pyHash:=fun hv h=>by
  rcases keyIs_shape hv with⟨i,t,rfl,rfl⟩|⟨x,t,rfl,rfl⟩
  ·exact wpAny_pyHash_int h
  ·exact wpAny_pyHash_str h
 eqBool:=fun hu hv h=>by
  rcases keyIs_shape hu with⟨i,t,rfl,rfl⟩|⟨x,t,rfl,rfl⟩
  ·rcases keyIs_shape hv with⟨j,u,rfl,rfl⟩|⟨y,u,rfl,rfl⟩
   ·rw[zK] at h;exact wpAny_eqBool_int h
   ·rw[zJ] at h;exact SeqAt.EqAt.int_str i t y u _ _ _ _ h
  ·rcases keyIs_shape hv with⟨j,u,rfl,rfl⟩|⟨y,u,rfl,rfl⟩
   ·rw[zI] at h;exact SeqAt.EqAt.str_int x t j u _ _ _ _ h
   ·rw[zH] at h;exact wpAny_eqBool_str h
 «strs»:=fun k x t v h=>by
  rcases keyIs_shape h with⟨i,u,rfl,e⟩|⟨y,u,rfl,e⟩
  ·exact nomatch e
  ·injection e with e1 _
   subst e1
   cases v<;>rfl
theorem iL(prog:Program)(w:World)(i:Int)(t:Tok):(jb prog w).is (.inl i) (.int i t)=true:=nP i t
theorem v6(prog:Program)(w:World)(x:Str)(t:Tok):(jb prog w).is (.inr x) (.str x t)=true:=nO x t
inductive V where
 |non|bl (b:Bool)|int (i:Int)|str (x:Str)|byt (b:Array UInt8)|flt (b:UInt64)|ref (a:Addr)|ty (n:String)
 deriving DecidableEq
def az:V->Value->Prop
 |.non,u=>u=Value.none
 |.bl b,u=>u=Value.bool b
 |.int i,u=>∃t,u=Value.int i t
 |.str x,u=>∃t,u=Value.str x t
 |.byt b,u=>∃t,u=Value.bytes b t
 |.flt b,u=>∃t,u=Value.float b t
 |.ref a,u=>u=Value.ref a
 |.ty n,u=>u=Value.type n
abbrev bc:List V->List Value->Prop:=Paired az
theorem bc.length(r:bc xs us):xs.length=us.length:=Paired.length r
theorem bc.get:∀{xs:List V}{us:List Value}{i:Nat}{x:V},bc xs us->xs[i]?=some x->∃u,us[i]?=some u/\az x u
 |_,_,_,_,.nil,e=>by simp at e
 |_,_,0,_,.cons r _,e=>by simp at e;subst e;exact⟨_,rfl,r⟩
 |_,_,i+1,x,.cons _ t,e=>by
  obtain⟨u,h1,h2⟩:=bc.get (i:=i) (x:=x) t (by simpa using e)
  exact⟨u,by simpa using h1,h2⟩
theorem bc.set(r:az x u):∀{xs:List V}{us:List Value}(i:Nat),bc xs us->bc (xs.set i x) (us.set i u)
 |_,_,_,.nil=>.nil
 |_,_,0,.cons _ t=>.cons r t
 |_,_,i+1,.cons q t=>.cons q (bc.set r i t)
theorem bc.append:∀{xs ys:List V}{us ws:List Value},bc xs us->bc ys ws->bc (xs++ys) (us++ws)
 |_,_,_,_,.nil,s=>s
 |_,_,_,_,.cons r t,s=>.cons r (bc.append t s)
theorem bc.take:∀{xs:List V}{us:List Value}(n:Nat),bc xs us->bc (xs.take n) (us.take n)
 |_,_,0,_=>.nil
 |_,_,_+1,.nil=>.nil
 |_,_,n+1,.cons r t=>.cons r (bc.take n t)
theorem bc.drop:∀{xs:List V}{us:List Value}(n:Nat),bc xs us->bc (xs.drop n) (us.drop n)
 |_,_,0,r=>r
 |_,_,_+1,.nil=>.nil
 |_,_,n+1,.cons _ t=>bc.drop n t
def ow:Option V->Option Value->Prop
 |some v,some u=>az v u
 |none,none=>True
 |_,_=>False
def KV{κ:Type}:List (κ×V)->List (κ×Value)->Prop:=Paired fun(p:κ×V)(q:κ×Value)=>p.1=q.1/\az p.2 q.2
def kV:be->V
 |.inl i=>.int i
 |.inr x=>.str x
inductive HO where
 |lst (xs:List V)
 |tup (xs:List V)
 |dK (kvs:List (be×V))|dT (kvs:List (List be×V))
 |set (S:Int->Bool) (n:Nat)
 |ins (C dx:Addr) (fs:List (Str×V))
 |own (x:Addr)
 |xd (fs:List (Str×V))
 |met (f x:Addr)
 |rng (lo hi:Int)
 |frz (o:Obj) (u:HO)
 |tbl (ps:Array Value)
 |ext (φ:Heap->Prop)
abbrev Hp:=Addr->Option HO
def upd(H:Hp)(a:Addr)(o:HO):Hp:=fun b=>if b=a then some o else H b
theorem iz:upd H a o a=some o:=by unfold upd;rw[FJ rfl]
theorem du(h:b≠a):upd H a o b=H b:=by unfold upd;rw[FK h]
theorem Y7{H:Hp}{a b:Addr}{o u:HO}(h:H a=some o)(h':H b=some u)(d:o≠u):a≠b:=by
 intro e;subst e;rw[h] at h';exact d (FP h')
theorem lj{H:Hp}{a b:Addr}{o:HO}(h:H a=some o)(h':H b=none):a≠b:=by
 intro e;subst e;rw[h] at h';cases h'
section
variable (P:Program) (w:World)
def gm(H:Hp)(h:Heap)(a:Addr):HO->Prop
 |.lst xs=>xs.length<=sizeLine/\∃(its:List Value)(n:Nat),bc xs its/\h.get? a=some { cls:=.type "list",data:=.seq its.toArray n }
 |.tup xs=>xs.length<=sizeLine/\∃its:List Value,bc xs its/\IsTup h a its.toArray
 |.dK kvs=>kvs.length<=sizeLine/\(a == sysModules)=false/\∃vs,KV kvs vs/\h.DictOf (jb P w) a vs
 | .dT kvs=>kvs.length<=sizeLine/\(a == sysModules)=false/\∃xs:List (List be×Addr×Value),
   Paired (fun(p:List be×V)(q:List be×Addr×Value)=>p.1=q.1/\H q.2.1=some (.tup (p.1.map kV))/\az p.2 q.2.2) kvs xs /\
   ∃o es ep,h.get? a=some o/\o.ExactDict/\o.data=.dict es ep/\es.toList=xs.map (entryOfKey (tupleKind (jb P w)))/\(xs.map (·.1)).Nodup
 |.set S n=>h.SetOf (intKind P w) a S n
 | .ins C dx fs=>H dx=some (.own a)/\fs.length<=1000/\dx≠a/\h.get? a=some (PySem.W.instObj C dx) /\
   ∃mA,h.Ns1 dx mA/\(∀f,ow (fs.lookup f) (mA f))/\PySem.Within mA (fs.map (·.1))
 |.own _=>∃o,h.get? a=some o
 |.xd fs=>∃mA,h.Ns1 a mA/\∀f,ow (fs.lookup f) (mA f)
 |.rng lo hi=>∃t u v,h.get? a=some { cls:=.type "range",data:=.fields #[.int lo t,.int hi u,.int 1 v] }
 |.frz o u=>h.get? a=some o/\gm H h a u
 |.tbl ps=>h.get? a=some { cls:=.none,data:=.fields ps }
 |.met f x=>h.get? a=some (PySem.W.methodObj (.ref f) (.ref x))
 |.ext φ=>φ h/\(∃o,h.get? a=some o)/\∀h1 h2:Heap,φ h1->(∀o,h1.get? a=some o->h2.get? a=some o)->φ h2
def dz(H:Hp)(h:Heap):Prop:=∀a o,H a=some o->gm P w H h a o
end
section
variable {P:Program} {w:World} {H H':Hp} {h h':Heap} {a:Addr} {o:HO}
theorem gm.lt(x:gm P w H h a o):a<h.objs.size:=by
 cases o with
 |lst xs=>obtain⟨_,_,_,_,e⟩:=x;exact EL e
 |tup xs=>obtain⟨_,_,_,p⟩:=x;exact p.lt
 |dK kvs=>obtain⟨_,_,_,_,o,_,_,e,_⟩:=x;exact EL e
 |dT kvs=>obtain⟨_,_,_,_,o,_,_,e,_⟩:=x;exact EL e
 |set S n=>obtain⟨o,_,_,_,e,_⟩:=x;exact EL e
 |ins C dx fs=>obtain⟨_,_,_,e,_⟩:=x;exact EL e
 |own y=>obtain⟨_,e⟩:=x;exact EL e
 |xd fs=>obtain⟨_,⟨_,_,_,e,_⟩,_⟩:=x;exact EL e
 |rng lo hi=>obtain⟨_,_,_,e⟩:=x;exact EL e
 |frz ob u=>obtain⟨e,_⟩:=x;exact EL e
 |tbl ps=>exact EL (show h.get? a=some _ from x)
 |met f y=>exact EL (show h.get? a=some _ from x)
 |ext φ=>obtain⟨_,⟨_,e⟩,_⟩:=x;exact EL e
theorem Paired.mapP:∀{l₁:List α}{l₂:List β},Paired F l₁ l₂->(∀a b,F a b->G a b)->Paired G l₁ l₂
 |_,_,.nil,_=>.nil
 |_,_,.cons r t,f=>.cons (f _ _ r) (Paired.mapP t f)
theorem gm.stay(x:gm P w H h a o)(k:∀b u,(b=a\/H b=some (.own a))->h.get? b=some u->h'.get? b=some u)
  (ho:∀b,H b=some (.own a)->H' b=some (.own a))(ht:∀b xs,H b=some (.tup xs)->H' b=some (.tup xs)):gm P w H' h' a o:=by
 induction o with
 |lst xs=>obtain⟨z,its,n,r,e⟩:=x;exact⟨z,its,n,r,k _ _ (.inl rfl) e⟩
 |tup xs=>obtain⟨z,its,r,ob,e,c⟩:=x;exact⟨z,its,r,ob,k _ _ (.inl rfl) e,c⟩
 |dK kvs=>obtain⟨z,y,vs,r,ob,es,ep,e,c⟩:=x;exact⟨z,y,vs,r,ob,es,ep,k _ _ (.inl rfl) e,c⟩
 |dT kvs =>
  obtain⟨z,y,xs,r,ob,es,ep,e,c⟩:=x
  exact⟨z,y,xs,Paired.mapP r fun p q z=>⟨z.1,ht _ _ z.2.1,z.2.2⟩,ob,es,ep,k _ _ (.inl rfl) e,c⟩
 |set S n=>obtain⟨ob,es,ep,t,e,c⟩:=x;exact⟨ob,es,ep,t,k _ _ (.inl rfl) e,c⟩
 |ins C dx fs =>
  obtain⟨d,z,ne,e,mA,⟨od,es,ep,e2,c⟩,r⟩:=x
  exact⟨ho _ d,z,ne,k _ _ (.inl rfl) e,mA,⟨od,es,ep,k _ _ (.inr d) e2,c⟩,r⟩
 |own y=>obtain⟨ob,e⟩:=x;exact⟨ob,k _ _ (.inl rfl) e⟩
 |xd fs=>obtain⟨mA,⟨od,es,ep,e,c⟩,r⟩:=x;exact⟨mA,⟨od,es,ep,k _ _ (.inl rfl) e,c⟩,r⟩
 |rng lo hi=>obtain⟨t,u,v,e⟩:=x;exact⟨t,u,v,k _ _ (.inl rfl) e⟩
 |frz ob u ih=>obtain⟨e,q⟩:=x;exact⟨k _ _ (.inl rfl) e,ih q⟩
 |tbl ps =>
  have e:h.get? a=some { cls:=.none,data:=.fields ps }:=x
  show h'.get? a=some { cls:=.none,data:=.fields ps }
  exact k a _ (.inl rfl) e
 |met f y =>
  have e:h.get? a=some (PySem.W.methodObj (.ref f) (.ref y)):=x
  show h'.get? a=some (PySem.W.methodObj (.ref f) (.ref y))
  exact k a _ (.inl rfl) e
 |ext φ=>obtain⟨p,⟨o,e⟩,st⟩:=x;exact⟨st _ _ p fun o q=>k _ _ (.inl rfl) q,⟨o,k _ _ (.inl rfl) e⟩,st⟩
theorem dz.lt(x:dz P w H h)(e:H a=some o):a<h.objs.size:=(x a o e).lt
theorem dz.fresh(x:dz P w H h)(e:h.objs.size<=a):H a=none:=by
 cases q:H a with
 |none=>rfl
 |some u=>exact absurd (ET (x.lt q) e) (FF _)
theorem dz.kept(x:dz P w H h)(k:∀b u,h.get? b=some u->h'.get? b=some u):dz P w H h':=fun a o e =>
 (x a o e).stay (fun b u _ q=>k b u q) (fun _ q=>q) fun _ _ q=>q
theorem dz.laid(x:dz P w H h)(k:∀b u,h.get? b=some u->h'.get? b=some u)(hp:h.objs.size<=a)(new:gm P w (upd H a o) h' a o):dz P w (upd H a o) h':=fun b u e=>by
 have hn:=x.fresh hp
 by_cases hb:b=a
 ·subst hb;rw[iz] at e;cases e;exact new
 ·rw[du hb] at e
  exact(x b u e).stay (fun c v _ q=>k c v q) (fun c q=>by rw[du (lj q hn)];exact q) fun c xs q=>by rw[du (lj q hn)];exact q
end
def Rd(H:Hp)(a:Addr)(u:HO):Prop:=H a=some u\/∃o,H a=some (.frz o u)
theorem Rd.ok(r:Rd H a u)(x:dz P w H h):gm P w H h a u:=by
 rcases r with r|⟨o,r⟩
 ·exact x a u r
 ·obtain⟨_,q⟩:=x a _ r
  exact q
def Gf:Option HO->Prop
 |some (.lst _)=>True
 |some (.dK _)=>True
 |some (.dT _)=>True
 |some (.set _ _)=>True
 |some (.ins _ _ _)=>True
 |some (.ext _)=>True
 |_=>False
section
variable {P:Program} {w:World} {H:Hp} {h h':Heap} {x e:Addr} {o':HO}
theorem dz.write(ok:dz P w H h)(mu:Gf (H x))(he:e=x\/H e=some (.own x))(k:∀b u,b≠e->h.get? b=some u->h'.get? b=some u)(heo:∃u,h'.get? e=some u)
  (new:gm P w (upd H x o') h' x o'):dz P w (upd H x o') h':=fun b u q=>by
 have nown:∀c y,H c=some (.own y)->c≠x:=fun c y r z=>by subst z;rw[r] at mu;exact mu
 have ntup:∀c xs,H c=some (.tup xs)->c≠x:=fun c xs r z=>by subst z;rw[r] at mu;exact mu
 by_cases hb:b=x
 ·subst hb;rw[iz] at q;cases q;exact new
 ·rw[du hb] at q
  by_cases hbe:b=e
  ·have q':H b=some (.own x):=by
    rcases he with z|z
    ·exact absurd (hbe.trans z) hb
    ·rw[hbe];exact z
   rw[q] at q';cases q'
   obtain⟨v,hv⟩:=heo
   exact⟨v,by rw[hbe];exact hv⟩
  ·refine(ok b u q).stay (fun c v hc r=>k c v ?_ r) (fun c r=>by rw[du (nown c b r)];exact r) fun c xs r=>by rw[du (ntup c xs r)];exact r
   rcases hc with rfl|hc
   ·exact hbe
   ·rintro rfl
    rcases he with z|z
    ·exact nown c b hc z
    ·rw[hc] at z;cases z;exact hb rfl
end
structure Un (fs ex:List Addr) (H H':Hp) (h h':Heap):Prop where
 keep:∀b o,h.get? b=some o->H b=none->b∉fs->b∉ex->h'.get? b=some o
 slot:∀b o,h.get? b=some o->H b=none->b∈fs->b∉ex->∃sl,h'.get? b=some { o with slots:=sl }
 free:∀b o,h.get? b=some o->H b=none->b∉ex->H' b=none
 there:∀b o,h.get? b=some o->b∉ex->∃o',h'.get? b=some o'
 tups:∀b xs,H b=some (.tup xs)->H' b=some (.tup xs)
 frzs:∀b o u,H b=some (.frz o u)->H' b=some (.frz o u)
 tbls:∀b ps,H b=some (.tbl ps)->∃more,H' b=some (.tbl (ps++more))
section
variable {fs fs' ex ex':List Addr} {H H1 H2:Hp} {h h1 h2 h':Heap} {a x e:Addr} {o:HO}
theorem Un.any(u:Un fs ex H H1 h h1)(q:h.get? b=some ob)(n:H b=none)(hx:b∉ex):∃sl,h1.get? b=some { ob with slots:=sl }:=by
 by_cases hb:b∈fs
 ·exact u.slot b ob q n hb hx
 ·exact⟨ob.slots,u.keep b ob q n hb hx⟩
theorem Un.kept(k:∀b u,h.get? b=some u->h'.get? b=some u):Un fs ex H H h h':=
 ⟨fun b ob q _ _ _=>k b ob q,fun b ob q _ _ _=>⟨ob.slots,k b ob q⟩,fun _ _ _ n _=>n,fun b ob q _=>⟨ob,k b ob q⟩,fun _ _ q=>q,fun _ _ _ q=>q,fun _ ps q=>⟨#[],by rw[q];simp⟩⟩
theorem Un.refl:Un fs ex H H h h:=Un.kept fun _ _ q=>q
theorem Un.laid(k:∀b u,h.get? b=some u->h'.get? b=some u)(hp:h.objs.size<=a)(hn:H a=none):Un fs ex H (upd H a o) h h' where
 keep:=fun b u q _ _ _=>k b u q
 slot:=fun b u q _ _ _=>⟨u.slots,k b u q⟩
 free:=fun b u q n _=>by rw[du (EX (ET (EL q) hp))];exact n
 there:=fun b u q _=>⟨u,k b u q⟩
 tups:=fun b xs q=>by rw[du (lj q hn)];exact q
 frzs:=fun b u xs q=>by rw[du (lj q hn)];exact q
 tbls:=fun b ps q=>⟨#[],by rw[du (lj q hn),q];simp⟩
theorem Un.write(mu:Gf (H x))(he:e=x\/H e=some (.own x))(k:∀b u,b≠e->h.get? b=some u->h'.get? b=some u)(heo:∃u,h'.get? e=some u):Un fs ex H (upd H x o) h h':=by
 have hx:∀b,H b=none->b≠x:=fun b n z=>by subst z;rw[n] at mu;exact mu
 have hb:∀b,H b=none->b≠e:=fun b n z=>by
  subst z
  rcases he with r|r
  ·exact hx b n r
  ·rw[n] at r;cases r
 have hm:∀b u,H b=some u->¬Gf (some u)->b≠x:=fun b u q nm z=>by subst z;rw[q] at mu;exact nm mu
 refine⟨fun b u q n _ _=>k b u (hb b n) q,fun b u q n _ _=>⟨u.slots,k b u (hb b n) q⟩,fun b u q n _=>by rw[du (hx b n)];exact n,fun b u q _=>?_,
  fun b xs q=>by rw[du (hm b _ q fun z=>z)];exact q,fun b u xs q=>by rw[du (hm b _ q fun z=>z)];exact q,fun b ps q=>⟨#[],by rw[du (hm b _ q fun z=>z),q];simp⟩⟩
 by_cases hbe:b=e
 ·subst hbe;exact heo
 ·exact⟨u,k b u hbe q⟩
end
def trk(h:Heap)(H:Hp):List Addr:=(List.range h.objs.size).filter fun a=>(H a).isSome
def ut(h:Heap)(H:Hp):Heap:=PySem.W.hideAll h (trk h H)
theorem nU(h:Heap)(H:Hp):(ut h H).objs.size=h.objs.size:=PySem.W.hideAll_size _ _
theorem rE(e:h.get? b=some o)(n:H b=none):(ut h H).get? b=some o:=
 PySem.W.hideAll_get _ e fun hm=>by
  have q:(H b).isSome=true:=(List.mem_filter.mp hm).2
  rw[n] at q;simp at q
theorem uX(e:(ut h H).get? b=some o):h.get? b=some o/\H b=none:=by
 have e':h.get? b=some o:=PySem.W.of_hideAll (trk h H) e
 refine⟨e',?_⟩
 cases q:H b with
 |none=>rfl
 |some x =>
  have hm:b∈trk h H:=List.mem_filter.mpr ⟨List.mem_range.mpr (EL e'),by simp[q]⟩
  have z:(ut h H).get? b=none:=PySem.W.hideAll_none (trk h H) hm
  rw[z] at e;cases e
structure Mod (K:PySem.W.Frag) (mg:Str->Option Value) (base:Heap):Prop where
 kin:K.In base
 glob:base.Ns mainGlobals mg
 blt:∃mb,base.Ns builtinsNs mb/\∀x:Str,x ≠ "__name__"->mb x=bootBuiltins x
 nolimit:base.NoLimit
structure Cx where
 prog:Program
 w:World
 K:PySem.W.Frag
 mg:Str->Option Value
 base:Heap
 A:Around
 N:List Str
 s₀:Shared
 H₀:Hp
 env:Env
 outer:List Env
 stack:List Env
 ex:List Addr
 fn:Str->Bool
 calm:Bool
 pn:List (Addr×Obj)
 xe:Value->Shared->Prop
def frs(l:List Env):List Addr:=l.filterMap (·.frame)
abbrev Cx.fs(X:Cx):List Addr:=frs X.outer
def j6(sc:Scope)(x:Str):Prop:=sc.names.lookup x=some .local\/sc.names.lookup x=some .cell\/sc.names.lookup x=some .free
def j8(sc:Scope)(x:Str):Prop:=sc.names.lookup x=some .local\/sc.names.lookup x=some .cell
def bY(env:Env)(h:Heap)(m:Str->Option Value)(x:Str)(u:Value):Prop:=
 (env.kindOf x=some .local/\m x=some u)\/((env.kindOf x=some .cell\/env.kindOf x=some .free)/\∃c,env.cells.lookup x=some c/\h.IsCell c (some u))
structure Cx.Ok (X:Cx):Prop where
 mod:Mod X.K X.mg X.base
 kind:X.env.scope.kind=.function
 glob:X.env.globals=mainGlobals
 blt:X.env.builtins=builtinsNs
 above:X.s₀.heap.objs.size<=X.env.locals
 inj:∀x y c,X.env.cells.lookup x=some c->X.env.cells.lookup y=some c->x=y
 has:∀x,(X.env.kindOf x=some .cell\/X.env.kindOf x=some .free)->∃c,X.env.cells.lookup x=some c
 cab:∀x c,X.fn x=true->X.env.cells.lookup x=some c->X.s₀.heap.objs.size<=c
 hd:X.calm=true->X.A.handled=none
 frames:X.A.frames=some X.stack
 stk:X.stack=X.outer\/(X.stack=X.env::X.outer/\X.env.frame=some X.env.locals)
 exf:∀b∈X.ex,b≠X.env.locals/\∀x c,X.env.cells.lookup x=some c->c≠b
 bs:∀b o,X.base.get? b=some o->X.s₀.heap.get? b=some o/\X.H₀ b=none
 bsz:X.base.objs.size<=X.s₀.heap.objs.size
 noex:∀b o,X.base.get? b=some o->b∉X.ex
 exfs:∀b∈X.ex,b∉X.fs
 funs:X.s₀.heap.FunFrames X.base X.outer
 frf:∀b∈X.fs,X.H₀ b=none
structure Inv (X:Cx) (EF:List (Addr×Obj)) (σ:List (Option V)) (H:Hp) (s:Shared):Prop where
 ok:X.Ok
 os:s.os=X.s₀.os
 bare:AllBare s.gens
 base:Un X.fs X.ex X.H₀ H X.s₀.heap s.heap
 loc:∃m,s.heap.Ns X.env.locals m/\∀(i:Nat)(x:Str)(v:V),X.N[i]?=some x->σ[i]?=some (some v)->j6 X.env.scope x->∃u,az v u/\bY X.env s.heap m x u
 cell:∀x c,X.env.cells.lookup x=some c->∃v,s.heap.IsCell c v
 free:H X.env.locals=none
 freeC:∀x c,X.env.cells.lookup x=some c->H c=none
 pin:∀p∈X.pn++EF,s.heap.get? p.1=some p.2/\H p.1=none/\p.1≠X.env.locals/\p.1∉X.fs/\∀v,p.2.data≠.cell v
 hok:dz X.prog X.w H s.heap
 len:σ.length=X.N.length
section
variable {X:Cx} {EF:List (Addr×Obj)} {σ:List (Option V)} {H H':Hp} {s:Shared} {h':Heap}
theorem Cx.Ok.nofr(ok:X.Ok)(e:X.base.get? b=some o):b∉X.fs:=fun hb=>by
 have:=(ok.funs.mem hb).1
 rw[e] at this;cases this
theorem Inv.bs(I:Inv X EF σ H s):∀b o,X.base.get? b=some o->s.heap.get? b=some o/\H b=none:=fun b o e =>
 ⟨I.base.keep b o (I.ok.bs b o e).1 (I.ok.bs b o e).2 (I.ok.nofr e) (I.ok.noex b o e),I.base.free b o (I.ok.bs b o e).1 (I.ok.bs b o e).2 (I.ok.noex b o e)⟩
theorem Inv.bk(I:Inv X EF σ H s):∀b o,X.base.get? b=some o->s.heap.get? b=some o:=fun b o e=>(I.bs b o e).1
theorem Inv.mod(I:Inv X EF σ H s):Mod X.K X.mg X.base:=I.ok.mod
theorem Inv.kIn(I:Inv X EF σ H s):X.K.In s.heap:=I.ok.mod.kin.keeps I.bk
theorem Inv.lt(I:Inv X EF σ H s):X.env.locals<s.heap.objs.size:=let ⟨_,hn,_⟩:=I.loc;hn.lt
theorem Inv.sz(I:Inv X EF σ H s):X.s₀.heap.objs.size<=s.heap.objs.size:=FA I.ok.above (Nat.le_of_lt I.lt)
theorem Inv.nofs(I:Inv X EF σ H s)(h:s.heap.objs.size<=a):a∉X.fs:=fun hb=>by
 obtain⟨_,o,ho,_⟩:=I.ok.funs.mem hb
 exact absurd (ET (EL ho) (FA I.sz h)) (FF _)
theorem Inv.cne(I:Inv X EF σ H s):∀x c,X.env.cells.lookup x=some c->c≠X.env.locals:=fun x c e z=>by
 obtain⟨v,o,ho,hd⟩:=I.cell x c e
 obtain⟨m,⟨o',es,ep,ho',hd',_⟩,_⟩:=I.loc
 rw[z,ho'] at ho;cases ho;rw[hd'] at hd;cases hd
theorem Inv.funs(I:Inv X EF σ H s):s.heap.FunFrames X.base X.outer:=by
 have all:∀(l:List Env),(∀b∈frs l,b∈X.fs)->X.s₀.heap.FunFrames X.base l->s.heap.FunFrames X.base l:=by
  intro l
  induction l with
  |nil=>intro _ _;trivial
  |cons env r ih =>
   intro hs hl
   obtain⟨hk,⟨L,o,hf,hn,ho,hd⟩,hr⟩:=hl
   have hL:L∈X.fs:=hs L (by unfold frs;rw[List.filterMap_cons,hf];exact EK)
   obtain⟨sl,e⟩:=I.base.slot L o ho (I.ok.frf L hL) hL fun z=>I.ok.exfs L z hL
   exact⟨hk,⟨L,_,hf,hn,e,hd⟩,ih (fun b hb=>hs b (by unfold frs;rw[List.filterMap_cons,hf];exact ER _ hb)) hr⟩
 exact all X.outer (fun _ hb=>hb) I.ok.funs
theorem Inv.stack(I:Inv X EF σ H s):s.heap.FunFrames X.base X.stack:=by
 rcases I.ok.stk with e|⟨e,hf⟩
 ·rw[e];exact I.funs
 ·rw[e]
  obtain⟨m,hn,_⟩:=I.loc
  refine .cons (by rw[I.ok.kind];decide) hf hn ?_ I.funs
  exact Heap.get?_none_of_le (FA I.ok.bsz I.ok.above)
theorem Inv.stkSub(I:Inv X EF σ H s):∀b∈frs X.stack,b∈X.env.locals::X.fs:=fun b hb=>by
 rcases I.ok.stk with e|⟨e,hf⟩
 ·rw[e] at hb;exact ER _ hb
 ·rw[e] at hb
  unfold frs at hb
  rw[List.filterMap_cons,hf] at hb
  exact hb
theorem Inv.stkFree(I:Inv X EF σ H s):∀b∈frs X.stack,H b=none:=fun b hb=>by
 rcases List.mem_cons.mp (I.stkSub b hb) with e|hb
 ·rw[e];exact I.free
 ·obtain⟨_,o,ho,_⟩:=I.ok.funs.mem hb
  exact I.base.free b o ho (I.ok.frf b hb) fun z=>I.ok.exfs b z hb
theorem Inv.step{g':Array GenState}{t':Nat}{d':Drawn}{ch:List Addr}(I:Inv X EF σ H s)
  (hch:∀b∈ch,(b∈X.ex\/X.s₀.heap.objs.size<=b)/\b≠X.env.locals/\(∀x c,X.env.cells.lookup x=some c->c≠b)/\∀p∈X.pn++EF,p.1≠b)
  (keep:∀b o,b≠X.env.locals->b∉X.fs->b∉ch->s.heap.get? b=some o->H b=none->h'.get? b=some o)
  (slot:∀b o,b≠X.env.locals->b∈X.fs->b∉ch->s.heap.get? b=some o->H b=none->∃sl,h'.get? b=some { o with slots:=sl })(free:∀b o,b∉ch->s.heap.get? b=some o->H b=none->H' b=none)
  (there:∀b o,b∉ch->s.heap.get? b=some o->∃o',h'.get? b=some o')
  (tups:∀b xs,H b=some (.tup xs)->H' b=some (.tup xs))(frzs:∀b o u,H b=some (.frz o u)->H' b=some (.frz o u))(tbls:∀b ps,H b=some (.tbl ps)->∃more,H' b=some (.tbl (ps++more)))
  (ns:∀m,s.heap.Ns X.env.locals m->h'.Ns X.env.locals m)(hok:dz X.prog X.w H' h')(hg:AllBare g') :
  Inv X EF σ H' { s with heap:=h',gens:=g',drawn:=d',toks:=t' }:=by
 have neL:∀b o,X.s₀.heap.get? b=some o->b≠X.env.locals:=fun b o e=>EX (ET (EL e) I.ok.above)
 have neC:∀b o,X.s₀.heap.get? b=some o->b∉X.ex->b∉ch:=fun b o e hx hb=>by
  rcases(hch b hb).1 with z|z
  ·exact hx z
  ·exact absurd (ET (EL e) z) (FF _)
 have cellK:∀x c,X.env.cells.lookup x=some c->∀v,s.heap.IsCell c v->h'.IsCell c v:=fun x c e v ⟨o,ho,hd⟩=>by
  have nch:c∉ch:=fun z=>(hch c z).2.2.1 x c e rfl
  by_cases hc:c∈X.fs
  ·obtain⟨sl,q⟩:=slot c o (I.cne x c e) hc nch ho (I.freeC x c e)
   exact⟨_,q,hd⟩
  ·exact⟨o,keep c o (I.cne x c e) hc nch ho (I.freeC x c e),hd⟩
 refine⟨I.ok,I.os,hg,⟨fun b o e n hb hx=>?_,fun b o e n hb hx=>?_,fun b o e n hx=>?_,fun b o e hx=>?_,fun b xs e=>tups b xs (I.base.tups b xs e),fun b o xs e=>frzs b o xs (I.base.frzs b o xs e),fun b ps e=>?_⟩,?_,fun x c e=>?_,?_,fun x c e=>?_,fun p hp=>?_,hok,I.len⟩
 ·exact keep b o (neL b o e) hb (neC b o e hx) (I.base.keep b o e n hb hx) (I.base.free b o e n hx)
 ·obtain⟨sl,e1⟩:=I.base.slot b o e n hb hx
  obtain⟨sl',e2⟩:=slot b _ (neL b o e) hb (neC b o e hx) e1 (I.base.free b o e n hx)
  exact⟨sl',e2⟩
 ·obtain⟨o',e1⟩:=I.base.there b o e hx
  exact free b o' (neC b o e hx) e1 (I.base.free b o e n hx)
 ·obtain⟨o',e1⟩:=I.base.there b o e hx
  exact there b o' (neC b o e hx) e1
 ·obtain⟨m1,e1⟩:=I.base.tbls b ps e
  obtain⟨m2,e2⟩:=tbls b _ e1
  exact⟨m1++m2,by rw[e2,Array.append_assoc]⟩
 ·obtain⟨m,hn,hl⟩:=I.loc
  refine⟨m,ns m hn,fun i x v e1 e2 e3=>?_⟩
  obtain⟨u,r,l⟩:=hl i x v e1 e2 e3
  refine⟨u,r,?_⟩
  rcases l with l|⟨k,c,e,z⟩
  ·exact .inl l
  ·exact .inr ⟨k,c,e,cellK x c e _ z⟩
 ·obtain⟨v,z⟩:=I.cell x c e
  exact⟨v,cellK x c e v z⟩
 ·obtain⟨m,⟨o,_,_,ho,_⟩,_⟩:=I.loc
  exact free _ o (fun z=>(hch _ z).2.1 rfl) ho I.free
 ·obtain⟨v,o,ho,hd⟩:=I.cell x c e
  exact free c o (fun z=>(hch c z).2.2.1 x c e rfl) ho (I.freeC x c e)
 ·obtain⟨e,n,ne,nf,d⟩:=I.pin p hp
  have nch:p.1∉ch:=fun z=>(hch p.1 z).2.2.2 p hp rfl
  exact⟨keep p.1 p.2 ne nf nch e n,free p.1 p.2 nch e n,ne,nf,d⟩
theorem Inv.un{t':Nat}(I:Inv X EF σ H s)(u:Un X.fs [] H H' s.heap h')(hok:dz X.prog X.w H' h'):Inv X EF σ H' { s with heap:=h',toks:=t' }:=by
 obtain⟨m,⟨o,es,ep,ho,r⟩,_⟩:=id I.loc
 obtain⟨sl,hL⟩:=u.any ho I.free (by simp)
 exact I.step (g':=s.gens) (d':=s.drawn) (ch:=[]) (fun _ z=>nomatch z) (fun b o _ hb _ e n=>u.keep b o e n hb (by simp)) (fun b o _ hb _ e n=>u.slot b o e n hb (by simp)) (fun b o _ e n=>u.free b o e n (by simp)) (fun b o _ e=>u.there b o e (by simp)) u.tups u.frzs u.tbls (fun m' hm=>by
  obtain⟨o',es',ep',ho',r'⟩:=hm
  rw[ho] at ho';cases ho'
  exact⟨_,es',ep',hL,r'⟩) hok I.bare
theorem Inv.call{g':Array GenState}{t':Nat}{d':Drawn}{ch:List Addr}(I:Inv X EF σ H s)(u:Un (frs X.stack) ch H H' s.heap h')(hok:dz X.prog X.w H' h')(hg:AllBare g')
  (hch:∀b∈ch,(b∈X.ex\/X.s₀.heap.objs.size<=b)/\b≠X.env.locals/\(∀x c,X.env.cells.lookup x=some c->c≠b)/\∀p∈X.pn++EF,p.1≠b) :
  Inv X EF σ H' { s with heap:=h',gens:=g',drawn:=d',toks:=t' }:=by
 obtain⟨m,⟨o,es,ep,ho,r⟩,_⟩:=id I.loc
 obtain⟨sl,hL⟩:=u.any ho I.free fun z=>(hch _ z).2.1 rfl
 exact I.step (ch:=ch) hch (fun b o hL hb hc e n=>u.keep b o e n (fun z=>(List.mem_cons.mp (I.stkSub b z)).elim hL hb) hc) (fun b o _ _ hc e n=>u.any e n hc) (fun b o hc e n=>u.free b o e n hc) (fun b o hc e=>u.there b o e hc) u.tups u.frzs u.tbls (fun m' hm=>by
  obtain⟨o',es',ep',ho',r'⟩:=hm
  rw[ho] at ho';cases ho'
  exact⟨_,es',ep',hL,r'⟩) hok hg
theorem Inv.turned{t':Nat}{it:Addr}(I:Inv X EF σ H s)(k:∀b o,b≠it->s.heap.get? b=some o->h'.get? b=some o)(hn:H it=none)(hL:it≠X.env.locals)
  (h1:it∈X.ex\/X.s₀.heap.objs.size<=it)(h2:∀x c,X.env.cells.lookup x=some c->c≠it)(h3:∀p∈X.pn++EF,p.1≠it):Inv X EF σ H { s with heap:=h',toks:=t' }:=by
 have nit:∀b u,H b=some u->b≠it:=fun b u e z=>by rw[z,hn] at e;cases e
 refine I.step (g':=s.gens) (d':=s.drawn) (ch:=[it]) (fun b hb=>?_) (fun b o _ _ hc e _=>k b o (fun z=>hc (by simp[z])) e) (fun b o _ _ hc e _=>⟨o.slots,k b o (fun z=>hc (by simp[z])) e⟩) (fun _ _ _ _ n=>n)
  (fun b o hc e=>⟨o,k b o (fun z=>hc (by simp[z])) e⟩) (fun _ _ e=>e) (fun _ _ _ e=>e) (fun b ps e=>⟨#[],by rw[e];simp⟩) (fun m hm=>?_) (fun b u e=>?_) I.bare
 ·have e:b=it:=by simpa using hb
  subst e
  exact⟨h1,hL,h2,h3⟩
 ·obtain⟨o,es,ep,ho,r⟩:=hm
  exact⟨o,es,ep,k _ o (Ne.symm hL) ho,r⟩
 ·refine(I.hok b u e).stay (fun c v hc q=>k c v ?_ q) (fun _ q=>q) fun _ _ q=>q
  rcases hc with z|z
  ·rw[z];exact nit b u e
  ·exact nit c _ z
theorem Inv.tok(I:Inv X EF σ H s)(t:Nat):Inv X EF σ H { s with toks:=t }:=I.un (h':=s.heap) (t':=t) Un.refl I.hok
theorem Inv.kept(I:Inv X EF σ H s)(k:∀b u,s.heap.get? b=some u->h'.get? b=some u):Inv X EF σ H { s with heap:=h',toks:=t' }:=I.un (Un.kept k) (I.hok.kept k)
theorem Inv.laid(I:Inv X EF σ H s)(k:∀b u,s.heap.get? b=some u->h'.get? b=some u)(hp:s.heap.objs.size<=a)(new:gm X.prog X.w (upd H a o) h' a o) :
  Inv X EF σ (upd H a o) { s with heap:=h',toks:=t' }:=I.un (Un.laid k hp (I.hok.fresh hp)) (I.hok.laid k hp new)
theorem Inv.write(I:Inv X EF σ H s)(mu:Gf (H x))(he:e=x\/H e=some (.own x))(k:∀b u,b≠e->s.heap.get? b=some u->h'.get? b=some u)(heo:∃u,h'.get? e=some u)
  (new:gm X.prog X.w (upd H x o) h' x o):Inv X EF σ (upd H x o) { s with heap:=h',toks:=t' }:=I.un (Un.write mu he k heo) (I.hok.write mu he k heo new)
theorem Inv.weak(I:Inv X EF σ H s)(hl:σ'.length=σ.length)(w:∀(i:Nat) v,σ'[i]?=some (some v)->σ[i]?=some (some v)):Inv X EF σ' H s:=
 ⟨I.ok,I.os,I.bare,I.base,let ⟨m,hn,hl'⟩:=I.loc;⟨m,hn,fun i x v e1 e2 e3=>hl' i x v e1 (w i v e2) e3⟩,I.cell,I.free,I.freeC,I.pin,I.hok,hl.trans I.len⟩
theorem Inv.pins_of(I:Inv X EF σ H s)(h:∀p∈pins',s.heap.get? p.1=some p.2/\H p.1=none/\p.1≠X.env.locals/\p.1∉X.fs/\∀v,p.2.data≠.cell v):Inv X pins' σ H s:=
 ⟨I.ok,I.os,I.bare,I.base,I.loc,I.cell,I.free,I.freeC,fun p hp=>(List.mem_append.mp hp).elim (fun z=>I.pin p (List.mem_append_left _ z)) (h p),I.hok,I.len⟩
theorem Ma{N:List Str}(hN:N.Nodup){i j:Nat}{x:Str}(a:N[i]?=some x)(b:N[j]?=some x):i=j:=by
 obtain⟨h1,e1⟩:=List.getElem?_eq_some_iff.mp a
 obtain⟨h2,e2⟩:=List.getElem?_eq_some_iff.mp b
 exact(List.getElem_inj hN).mp (e1.trans e2.symm)
theorem lV(I:Inv X EF σ H s)(hN:X.N.Nodup)(hi:X.N[i]?=some x)(hx:j8 X.env.scope x)(r:az v u)
  (h:∀s',Inv X EF (σ.set i (some v)) H s'->(∃a,Heap.SameBut a s.heap s'.heap/\(a=X.env.locals\/X.env.cells.lookup x=some a))->Q () s')(hf:X.fn x=true\/X.env.scope.names.lookup x=some .local:=by first|exact .inl rfl|exact .inr rfl|assumption):wpAny M A (storeName X.env x u) Q E s:=by
 obtain⟨m,hn,hl⟩:=id I.loc
 have hcls:(X.env.scope.kind == .class||(X.env.scope.kind == .module&&X.env.locals != X.env.globals))=false:=by rw[I.ok.kind];rfl
 have hiσ:i<σ.length:=by rw[I.len];exact(List.getElem?_eq_some_iff.mp hi).1
 have cne:=I.cne
 have tracked:∀{a:Addr}{h':Heap},(∃o,s.heap.get? a=some o/\H a=none)->Heap.SameBut a s.heap h'->dz X.prog X.w H h':=fun{a h'} ha hs b ob e=>by
  obtain⟨_,_,hfree⟩:=ha
  refine(I.hok b ob e).stay (fun c w' hc q=>(hs.2 c ?_).trans q) (fun _ q=>q) fun _ _ q=>q
  rintro rfl
  rcases hc with rfl|hc
  ·rw[hfree] at e;cases e
  ·rw[hfree] at hc;cases hc
 rcases hx with hk|hk
 ·refine wpAny_storeName_local hk hn (fun h' hn' hs=>?_) hcls
  obtain⟨oL,_,_,hoL,_⟩:=id hn
  refine h _ ⟨I.ok,I.os,I.bare,⟨fun b o e n hb hx=>?_,fun b o e n hb hx=>?_,I.base.free,fun b o e hx=>?_,I.base.tups,I.base.frzs,I.base.tbls⟩,⟨_,hn',fun j y v' e1 e2 e3=>?_⟩,fun y c e=>?_,I.free,I.freeC,fun p hp=>?_,tracked ⟨oL,hoL,I.free⟩ hs,by simpa using I.len⟩ ⟨_,hs,.inl rfl⟩
  ·exact(hs.2 b (EX (ET (EL e) I.ok.above))).trans (I.base.keep b o e n hb hx)
  ·obtain⟨sl,e1⟩:=I.base.slot b o e n hb hx
   exact⟨sl,(hs.2 b (EX (ET (EL e) I.ok.above))).trans e1⟩
  ·obtain⟨o',e1⟩:=I.base.there b o e hx
   exact⟨o',(hs.2 b (EX (ET (EL e) I.ok.above))).trans e1⟩
  ·by_cases hj:j=i
   ·subst hj
    rw[hi] at e1;cases e1
    rw[List.getElem?_set_self hiσ] at e2
    cases e2
    exact⟨u,r,.inl ⟨hk,by simp⟩⟩
   ·rw[List.getElem?_set_ne (Ne.symm hj)] at e2
    obtain⟨u',r',q⟩:=hl j y v' e1 e2 e3
    refine⟨u',r',?_⟩
    rcases q with⟨k,e⟩|⟨k,c,e,z⟩
    ·refine .inl ⟨k,?_⟩
     have:y≠x:=fun e=>hj (Ma hN e1 (e▸hi))
     simp[this,e]
    ·exact .inr ⟨k,c,e,z.sameBut hs (cne y c e)⟩
  ·obtain⟨w',z⟩:=I.cell y c e
   exact⟨w',z.sameBut hs (cne y c e)⟩
  ·obtain⟨e,n,ne,nf,d⟩:=I.pin p hp
   exact⟨(hs.2 p.1 ne).trans e,n,ne,nf,d⟩
 ·have hfn:X.fn x=true:=by
   rcases hf with z|z
   ·exact z
   ·rw[z] at hk;cases hk
  obtain⟨c,hc⟩:=I.ok.has x (.inl hk)
  obtain⟨w',z⟩:=I.cell x c hc
  refine wpAny_storeName_cell I.ok.kind hk hc z (fun h' hc' hs=>?_)
  obtain⟨oc,hoc,hocd⟩:=id z
  refine h { s with heap:=h' } ⟨I.ok,I.os,I.bare,⟨fun b o e n hb hx=>?_,fun b o e n hb hx=>?_,I.base.free,fun b o e hx=>?_,I.base.tups,I.base.frzs,I.base.tbls⟩,⟨m,hn.sameBut hs (Ne.symm (cne x c hc)),fun j y v' e1 e2 e3=>?_⟩,fun y c' e=>?_,I.free,I.freeC,fun p hp=>?_,tracked ⟨oc,hoc,I.freeC x c hc⟩ hs,by simpa using I.len⟩ ⟨c,hs,.inr hc⟩
  ·exact(hs.2 b (EX (ET (EL e) (I.ok.cab x c hfn hc)))).trans (I.base.keep b o e n hb hx)
  ·obtain⟨sl,e1⟩:=I.base.slot b o e n hb hx
   exact⟨sl,(hs.2 b (EX (ET (EL e) (I.ok.cab x c hfn hc)))).trans e1⟩
  ·obtain⟨o',e1⟩:=I.base.there b o e hx
   exact⟨o',(hs.2 b (EX (ET (EL e) (I.ok.cab x c hfn hc)))).trans e1⟩
  ·by_cases hj:j=i
   ·subst hj
    rw[hi] at e1;cases e1
    rw[List.getElem?_set_self hiσ] at e2
    cases e2
    exact⟨u,r,.inr ⟨.inl hk,c,hc,hc'⟩⟩
   ·rw[List.getElem?_set_ne (Ne.symm hj)] at e2
    obtain⟨u',r',q⟩:=hl j y v' e1 e2 e3
    refine⟨u',r',?_⟩
    rcases q with q|⟨k,c',e,z'⟩
    ·exact .inl q
    ·refine .inr ⟨k,c',e,z'.sameBut hs ?_⟩
     rintro rfl
     exact hj (Ma hN e1 (I.ok.inj _ _ _ e hc▸hi))
  ·by_cases hcc:c'=c
   ·subst hcc;exact⟨_,hc'⟩
   ·obtain⟨w2,z2⟩:=I.cell y c' e
    exact⟨w2,z2.sameBut hs hcc⟩
  ·obtain⟨e,n,ne,nf,d⟩:=I.pin p hp
   refine⟨(hs.2 p.1 ?_).trans e,n,ne,nf,d⟩
   intro q
   rw[q,hoc] at e
   have q':oc=p.2:=FP e
   exact d w' (by rw[<-q'];exact hocd)
theorem El(I:Inv X EF σ H s)(hN:X.N.Nodup)(hi:X.N[i]?=some x)(hx:j8 X.env.scope x)(r:az v u)
  (h:∀s',Inv X EF (σ.set i (some v)) H s'->Q () s')(hf:X.fn x=true\/X.env.scope.names.lookup x=some .local:=by first|exact .inl rfl|exact .inr rfl|assumption):wpAny M A (storeName X.env x u) Q E s:=
 lV I hN hi hx r (fun s' I' _=>h s' I') hf
theorem Inv.call'(I:Inv X EF σ H s)(ho:s'.os=s.os)(u:Un (frs X.stack) ch H H' s.heap s'.heap)(hok:dz X.prog X.w H' s'.heap)(hg:AllBare s'.gens)
  (hch:∀b∈ch,(b∈X.ex\/X.s₀.heap.objs.size<=b)/\b≠X.env.locals/\(∀x c,X.env.cells.lookup x=some c->c≠b)/\∀p∈X.pn++EF,p.1≠b):Inv X EF σ H' s':=by
 obtain⟨h',g',d',t',o'⟩:=s'
 have e:o'=s.os:=ho
 subst e
 exact I.call (g':=g') (t':=t') (d':=d') u hok hg hch
end
abbrev XK:=Value->Option Addr->Hp->Prop
abbrev St:=List (Option V)
abbrev VK:=V->Hp->Prop
abbrev TE:=St->Hp->VK->Prop
abbrev TT:=St->Hp->(Bool->Hp->Prop)->Prop
abbrev TA:=St->Hp->(List V->Hp->Prop)->Prop
structure Ends where
 nx:St->Hp->Prop
 rt:VK
 bk:St->Hp->Prop:=fun _ _=>False
 ct:St->Hp->Prop:=fun _ _=>False
abbrev TS:=Ends->St->Hp->Prop
def EP(X:Cx)(EF:List (Addr×Obj))(σ:St)(Q:VK)(u:Value)(s':Shared):Prop:=∃v H',Inv X EF σ H' s'/\az v u/\Q v H'
def TP(X:Cx)(EF:List (Addr×Obj))(σ:St)(Q:Bool->Hp->Prop)(b:Bool)(s':Shared):Prop:=∃H',Inv X EF σ H' s'/\Q b H'
def AP(X:Cx)(EF:List (Addr×Obj))(σ:St)(Q:List V->Hp->Prop)(us:List Value)(s':Shared):Prop:=∃vs H',Inv X EF σ H' s'/\bc vs us/\Q vs H'
def SP(X:Cx)(EF:List (Addr×Obj))(D:Ends)(f:Flow)(s':Shared):Prop:=
 match f with
 |.next=>∃σ' H',Inv X EF σ' H' s'/\D.nx σ' H'
 |.brk=>∃σ' H',Inv X EF σ' H' s'/\D.bk σ' H'
 |.cont=>∃σ' H',Inv X EF σ' H' s'/\D.ct σ' H'
 |.ret u=>∃v σ' H',Inv X EF σ' H' s'/\az v u/\D.rt v H'
def PE(X:Cx)(e:Expr)(t:TE):Prop:=
 ∀(EF:List (Addr×Obj))(s:Shared)(σ:St)(H:Hp)(Q:VK),Inv X EF σ H s->t σ H Q->wpAny (model X.prog X.w) X.A (eval e X.env) (EP X EF σ Q) X.xe s
def PT(X:Cx)(e:Expr)(t:TT):Prop:=
 ∀(EF:List (Addr×Obj))(s:Shared)(σ:St)(H:Hp)(Q:Bool->Hp->Prop),Inv X EF σ H s->t σ H Q->wpAny (model X.prog X.w) X.A (isTrue e X.env (eval e X.env)) (TP X EF σ Q) X.xe s
def PW(X:Cx)(e:Expr)(t:TT):Prop:=
 ∀(whole:Sem Value)(EF:List (Addr×Obj))(s:Shared)(σ:St)(H:Hp)(Q:Bool->Hp->Prop),Inv X EF σ H s->t σ H Q->wpAny (model X.prog X.w) X.A (isTrue e X.env whole) (TP X EF σ Q) X.xe s
theorem PW.pt(h:PW X e t):PT X e t:=h _
def PA(X:Cx)(es:List Expr)(t:TA):Prop:=
 ∀(pos:Pos)(EF:List (Addr×Obj))(s:Shared)(σ:St)(H:Hp)(Q:List V->Hp->Prop),Inv X EF σ H s->t σ H Q->wpAny (model X.prog X.w) X.A (spliced (backTo pos (starEach es X.env))) (AP X EF σ Q) X.xe s
def PS(X:Cx)(st:Stmt)(t:TS):Prop:=
 ∀(EF:List (Addr×Obj))(s:Shared)(σ:St)(H:Hp)(D:Ends),Inv X EF σ H s->t D σ H->wpAny (model X.prog X.w) X.A (exec st X.env) (SP X EF D) X.xe s
def ji(X:Cx)(st:List Stmt)(t:TS):Prop:=
 ∀(EF:List (Addr×Obj))(s:Shared)(σ:St)(H:Hp)(D:Ends),Inv X EF σ H s->t D σ H->wpAny (model X.prog X.w) X.A (execs st X.env) (SP X EF D) X.xe s
theorem bj(h:wpAny M A t Q E s)(hQ:∀a s,Q a s->Q' a s):wpAny M A t Q' E s:=FO h hQ fun _ _ x=>x
section
variable {X:Cx}
def tVar(i:Nat):TE:=fun σ H Q=>∃v,σ[i]?=some (some v)/\Q v H
def tC(v:V):TE:=fun _ H Q=>Q v H
theorem xV(hN:X.N[i]?=some x)(hv:j6 X.env.scope x)(hd:(x == ("__debug__" : Str))=false:=by decide)(hcd:(x == ("__classdict__" : Str))=false:=by decide):PE X (.Name x pos) (tVar i):=by
 intro EF s σ H Q I h
 obtain⟨v,e,h⟩:=h
 obtain⟨m,hn,hl⟩:=I.loc
 obtain⟨u,r,l⟩:=hl i x v hN e hv
 have fin:EP X EF σ Q u s:=⟨v,H,I,r,h⟩
 rcases l with⟨hk,hm⟩|⟨hk,c,hc,hcell⟩
 ·exact wpAny_Name (wpAny_loadName_local I.ok.kind hk hn hm fin) hd
 ·rcases hk with hk|hk
  ·exact wpAny_Name (wpAny_loadName_cell I.ok.kind hk hc hcell fin) hd
  ·exact wpAny_Name (wpAny_loadName_free I.ok.kind hk hc hcell fin hcd) hd
theorem yB{i j pos}:PE X (.Constant (.int i) j pos) (tC (.int i)):=fun _ _ _ H _ I h=>wpAny_Constant_int ⟨.int i,H,I.tok _,⟨_,rfl⟩,h⟩
theorem X2{b j pos}:PE X (.Constant (.bool b) j pos) (tC (.bl b)):=fun _ _ _ H _ I h=>Constant_bool ⟨.bl b,H,I,rfl,h⟩
theorem yA{j pos}:PE X (.Constant .none j pos) (tC .non):=fun _ _ _ H _ I h=>Constant_none ⟨.non,H,I,rfl,h⟩
theorem xX{x j pos}:PE X (.Constant (.str x) j pos) (tC (.str x)):=fun _ _ _ H _ I h=>Calls.Constant_str ⟨.str x,H,I.tok _,⟨_,rfl⟩,h⟩
def Gl(X:Cx)(x:Str):Prop:=X.env.kindOf x=some .globalImplicit
theorem Ev(I:Inv X EF σ H s)(hg:Gl X x)(hm:X.mg x=some u)(h:Q u s)
  (hd:(x == ("__debug__" : Str))=false:=by decide):wpAny (model X.prog X.w) X.A (eval (.Name x pos) X.env) Q E s:=
 Calls.Name_function_global I.ok.kind hg (Calls.loadGlobal_global (by rw[I.ok.glob];exact I.mod.glob.keeps I.bk) hm h) hd
theorem e8(I:Inv X EF σ H s)(hg:Gl X x)(hm:X.mg x=none)(hv:bootBuiltins x=some u)(h:Q u s)
  (hn:x ≠ "__name__":=by decide)(hd:(x == ("__debug__" : Str))=false:=by decide):wpAny (model X.prog X.w) X.A (eval (.Name x pos) X.env) Q E s:=by
 obtain⟨mb,h1,h2⟩:=I.mod.blt
 exact Calls.Name_function_global I.ok.kind hg (Calls.loadGlobal_builtin (by rw[I.ok.glob];exact I.mod.glob.keeps I.bk) hm (by rw[I.ok.blt];exact h1.keeps I.bk) ((h2 x hn).trans hv) h) hd
theorem xl(hg:Gl X x)(hm:X.mg x=some u)(r:az v u)(hd:(x == ("__debug__" : Str))=false:=by decide):PE X (.Name x pos) (tC v):=
 fun _ _ _ H _ I h=>Ev I hg hm ⟨v,H,I,r,h⟩ hd
theorem Xf(hg:Gl X x)(hm:X.mg x=none)(hv:bootBuiltins x=some u)(r:az v u)(hn:x ≠ "__name__":=by decide)(hd:(x == ("__debug__" : Str))=false:=by decide):PE X (.Name x pos) (tC v):=
 fun _ _ _ H _ I h=>e8 I hg hm hv ⟨v,H,I,r,h⟩ hn hd
variable {a b:Expr} {ta tb:TE} {pos:Pos}
def tB(t:TE):TT:=fun σ H Q=>t σ H fun x H1=>∃c,x=.bl c/\Q c H1
theorem xO(h:PE X e t)(he:∀whole,isTrue e X.env whole=(do let v <-whole;standAt e.pos;holding [v] (truthy v)):=by intro _;rfl):PT X e (tB t):=by
 intro EF s σ H Q I hw
 refine isTrue_plain (bj (h EF s σ H _ I hw) fun v s1 ⟨x,H1,I1,r1,q1⟩=>?_) (he _)
 obtain⟨d,rfl,q⟩:=q1
 cases r1
 exact wpAny_truthy_bool ⟨H1,I1,q⟩
variable {tA tB':TT} {rest:List Expr}
def tAnd(t u:TT):TT:=fun σ H Q=>t σ H fun c H1=>if c=true then u σ H1 Q else Q false H1
def tOr(t u:TT):TT:=fun σ H Q=>t σ H fun c H1=>if c=true then Q true H1 else u σ H1 Q
def tNot(t:TT):TT:=fun σ H Q=>t σ H fun c H1=>Q (!c) H1
theorem tL(ha:PT X a tA):PW X (.BoolOp .And [a] pos) tA:=by
 intro wh EF s σ H Q I h
 refine isTrue_and (bj (ha EF s σ H Q I h) fun c s1 e=>?_)
 cases c with
 |true=>exact isTrue_and_nil e
 |false=>exact e
theorem xM(ha:PT X a tA):PW X (.BoolOp .Or [a] pos) tA:=by
 intro wh EF s σ H Q I h
 refine isTrue_or (bj (ha EF s σ H Q I h) fun c s1 e=>?_)
 cases c with
 |false=>exact isTrue_or_nil e
 |true=>exact e
theorem xN(ha:PT X a tA)(hb:PW X (.BoolOp .And (b::rest) pos) tB'):PW X (.BoolOp .And (a::b::rest) pos) (tAnd tA tB'):=by
 intro wh EF s σ H Q I h
 refine isTrue_and (bj (ha EF s σ H _ I h) fun c s1 ⟨H1,I1,q1⟩=>?_)
 cases c with
 |true=>exact hb wh EF s1 σ H1 Q I1 q1
 |false=>exact⟨H1,I1,q1⟩
theorem W4(ha:PT X a tA)(hb:PW X (.BoolOp .Or (b::rest) pos) tB'):PW X (.BoolOp .Or (a::b::rest) pos) (tOr tA tB'):=by
 intro wh EF s σ H Q I h
 refine isTrue_or (bj (ha EF s σ H _ I h) fun c s1 ⟨H1,I1,q1⟩=>?_)
 cases c with
 |true=>exact⟨H1,I1,q1⟩
 |false=>exact hb wh EF s1 σ H1 Q I1 q1
theorem xP(ha:PT X a tA):PT X (.UnaryOp .Not a pos) (tNot tA):=by
 intro EF s σ H Q I h
 exact isTrue_not (ha EF s σ H (fun c H1=>Q (!c) H1) I h)
def G8(ta tb:TE):TE:=fun σ H Q=>ta σ H fun x H1=>∃c,x=.bl c/\if c=true then tb σ H1 Q else Q (.bl false) H1
def tOrV(ta tb:TE):TE:=fun σ H Q=>ta σ H fun x H1=>∃c,x=.bl c/\if c=true then Q (.bl true) H1 else tb σ H1 Q
def F8(ta:TE):TE:=fun σ H Q=>ta σ H fun x H1=>∃c,x=.bl c/\Q (.bl (!c)) H1
theorem xY{op}(h:PE X a t):PE X (.BoolOp op [a] pos) t:=fun EF s σ H Q I hw=>BoolOp_one (h EF s σ H Q I hw)
theorem yE(ha:PE X a ta)(hb:PE X (.BoolOp .And (b::rest) pos) tb):PE X (.BoolOp .And (a::b::rest) pos) (G8 ta tb):=by
 intro EF s σ H Q I h
 refine BoolOp_and (bj (ha EF s σ H _ I h) fun v s1 ⟨x,H1,I1,r1,q1⟩=>?_)
 obtain⟨c,rfl,q1⟩:=q1
 cases r1
 refine wpAny_truthy_bool ?_
 cases c with
 |true=>exact hb EF s1 σ H1 Q I1 q1
 |false=>exact⟨.bl false,H1,I1,rfl,q1⟩
theorem W8(ha:PE X a ta)(hb:PE X (.BoolOp .Or (b::rest) pos) tb):PE X (.BoolOp .Or (a::b::rest) pos) (tOrV ta tb):=by
 intro EF s σ H Q I h
 refine BoolOp_or (bj (ha EF s σ H _ I h) fun v s1 ⟨x,H1,I1,r1,q1⟩=>?_)
 obtain⟨c,rfl,q1⟩:=q1
 cases r1
 refine wpAny_truthy_bool ?_
 cases c with
 |false=>exact hb EF s1 σ H1 Q I1 q1
 |true=>exact⟨.bl true,H1,I1,rfl,q1⟩
theorem xZ(ha:PE X a ta):PE X (.UnaryOp .Not a pos) (F8 ta):=by
 intro EF s σ H Q I h
 refine UnaryOp_ (bj (ha EF s σ H _ I h) fun v s1 ⟨x,H1,I1,r1,q1⟩=>?_)
 obtain⟨c,rfl,q1⟩:=q1
 cases r1
 exact not_of (wpAny_truthy_bool ⟨.bl (!c),H1,I1,rfl,q1⟩)
def tIf(t:TT)(ta tb:TE):TE:=fun σ H Q=>t σ H fun c H1=>if c=true then ta σ H1 Q else tb σ H1 Q
theorem pS(hc:PT X c tA)(ha:PE X a ta)(hb:PE X b tb):PE X (.IfExp c a b pos) (tIf tA ta tb):=by
 intro EF s σ H Q I h
 refine wpAny_IfExp (bj (hc EF s σ H _ I h) fun d s1 ⟨H1,I1,q1⟩=>?_)
 cases d with
 |true=>exact ha EF s1 σ H1 Q I1 q1
 |false=>exact hb EF s1 σ H1 Q I1 q1
end
def bx(K:PySem.W.Frag)(H:Hp)(a:Addr)(xs:List V):Prop:=
 Rd H a (.lst xs) ∨
  ∃(o:Obj)(its:Array Value)(n:Nat),K.lookup a=some o/\o.cls=.type "list"/\o.dict=none/\o.data=.seq its n/\its.size<=sizeLine/\bc xs its.toList
def fu(K:PySem.W.Frag)(H:Hp)(a:Addr)(xs:List V):Prop:=
 Rd H a (.tup xs) ∨
  ∃(o:Obj)(its:Array Value)(n:Nat),K.lookup a=some o/\o.cls=.type "tuple"/\o.data=.seq its n/\its.size<=sizeLine/\bc xs its.toList
noncomputable def absV:Value->Option V
 |.none=>some .non
 |.bool b=>some (.bl b)
 |.int i _=>some (.int i)
 |.str x _=>some (.str x)
 |.bytes b _=>some (.byt b)
 |.float b _=>some (.flt b)
 |.ref a=>some (.ref a)
 |.type n=>some (.ty n)
 |_=>none
theorem az.abs(r:az x u):absV u=some x:=by
 cases x with
 |non=>cases r;rfl
 |bl _=>cases r;rfl
 |int _=>obtain⟨t,rfl⟩:=r;rfl
 |str _=>obtain⟨t,rfl⟩:=r;rfl
 |byt _=>obtain⟨t,rfl⟩:=r;rfl
 |flt _=>obtain⟨t,rfl⟩:=r;rfl
 |ref _=>cases r;rfl
 |ty _=>cases r;rfl
theorem az.inj(r:az x u)(q:az y u):x=y:=FP (r.abs.symm.trans q.abs)
theorem bc.inj:∀{xs ys:List V}{us:List Value},bc xs us->bc ys us->xs=ys
 |_,_,_,.nil,.nil=>rfl
 |_,_,_,.cons r t,.cons r' t'=>by rw[r.inj r',bc.inj t t']
section
variable {X:Cx} {EF:List (Addr×Obj)} {σ:St} {H:Hp} {s:Shared} {a:Addr} {xs ys:List V}
theorem bx.of{K:PySem.W.Frag}(h:H a=some (.lst xs)):bx K H a xs:=.inl (.inl h)
theorem Inv.list(I:Inv X EF σ H s)(h:bx X.K H a xs):∃its:List Value,bc xs its/\PlainL s.heap a its.toArray/\xs.length<=sizeLine:=by
 rcases h with h|⟨o,its,n,hk,hc,hd,hs,hz,r⟩
 ·obtain⟨z,its,n,r,e⟩:=h.ok I.hok
  exact⟨its,r,⟨_,n,e,rfl,rfl,rfl⟩,z⟩
 ·refine⟨its.toList,r,⟨o,n,I.kIn a o hk,hc,hd,by simpa using hs⟩,?_⟩
  have e:=r.length
  simp only[Array.length_toList] at e
  omega
theorem Inv.tuple(I:Inv X EF σ H s)(h:fu X.K H a xs):∃its:List Value,bc xs its/\IsTup s.heap a its.toArray/\xs.length<=sizeLine:=by
 rcases h with h|⟨o,its,n,hk,hc,hs,hz,r⟩
 ·obtain⟨z,its,r,p⟩:=h.ok I.hok
  exact⟨its,r,p,z⟩
 ·refine⟨its.toList,r,⟨o,I.kIn a o hk,hc,n,by simpa using hs⟩,?_⟩
  have e:=r.length
  simp only[Array.length_toList] at e
  omega
theorem Inv.list_inj(I:Inv X EF σ H s)(h:bx X.K H a xs)(h':bx X.K H a ys):xs=ys:=by
 obtain⟨its,r,⟨o,n,e,_,_,d⟩,_⟩:=I.list h
 obtain⟨its',r',⟨o',n',e',_,_,d'⟩,_⟩:=I.list h'
 rw[e] at e';cases e'
 rw[d] at d'
 injection d' with d1 _
 have:its=its':=by simpa using congrArg Array.toList d1
 subst this
 exact r.inj r'
theorem Inv.tuple_inj(I:Inv X EF σ H s)(h:fu X.K H a xs)(h':fu X.K H a ys):xs=ys:=by
 obtain⟨its,r,⟨o,e,_,n,d⟩,_⟩:=I.tuple h
 obtain⟨its',r',⟨o',e',_,n',d'⟩,_⟩:=I.tuple h'
 rw[e] at e';cases e'
 rw[d] at d'
 injection d' with d1 _
 have:its=its':=by simpa using congrArg Array.toList d1
 subst this
 exact r.inj r'
end
noncomputable abbrev Cx.wish(X:Cx)(E:Value->Shared->Prop):Cx:={ X with xe:=E }
noncomputable abbrev Cx.nox(X:Cx):Cx:=X.wish fun _ _=>False
theorem Cx.Ok.wish{X:Cx}(ok:X.Ok)(E:Value->Shared->Prop):(X.wish E).Ok:=
 ⟨ok.mod,ok.kind,ok.glob,ok.blt,ok.above,ok.inj,ok.has,ok.cab,ok.hd,ok.frames,ok.stk,ok.exf,ok.bs,ok.bsz,ok.noex,ok.exfs,ok.funs,ok.frf⟩
theorem Cx.Ok.unwish{X:Cx}{E:Value->Shared->Prop}(ok:(X.wish E).Ok):X.Ok:=
 ⟨ok.mod,ok.kind,ok.glob,ok.blt,ok.above,ok.inj,ok.has,ok.cab,ok.hd,ok.frames,ok.stk,ok.exf,ok.bs,ok.bsz,ok.noex,ok.exfs,ok.funs,ok.frf⟩
section
variable {X:Cx} {EF:List (Addr×Obj)} {σ:St} {H:Hp} {s:Shared} {E:Value->Shared->Prop}
theorem Inv.wish(I:Inv X EF σ H s)(E:Value->Shared->Prop):Inv (X.wish E) EF σ H s:=⟨I.ok.wish E,I.os,I.bare,I.base,I.loc,I.cell,I.free,I.freeC,I.pin,I.hok,I.len⟩
theorem Inv.unwish(I:Inv (X.wish E) EF σ H s):Inv X EF σ H s:=⟨I.ok.unwish,I.os,I.bare,I.base,I.loc,I.cell,I.free,I.freeC,I.pin,I.hok,I.len⟩
theorem SP.unwish(h:SP (X.wish E) EF D f s'):SP X EF D f s':=by
 cases f with
 |next=>obtain⟨σ',H',I,q⟩:=h;exact⟨σ',H',I.unwish,q⟩
 |brk=>obtain⟨σ',H',I,q⟩:=h;exact⟨σ',H',I.unwish,q⟩
 |cont=>obtain⟨σ',H',I,q⟩:=h;exact⟨σ',H',I.unwish,q⟩
 |ret u=>obtain⟨v,σ',H',I,r,q⟩:=h;exact⟨v,σ',H',I.unwish,r,q⟩
theorem ji.nox{st:List Stmt}{t:TS}(h:ji X.nox st t):ji X st t:=fun EF s σ H D I hw =>
 FO (h EF s σ H D (I.wish _) hw) (fun _ _ q=>q.unwish) fun _ _ z=>False.elim z
end
section
variable {X:Cx} {st:Stmt} {rest:List Stmt} {t u:TS} {e:Expr} {te:TE} {pos:Pos}
def Zx:TS:=fun D σ H=>D.nx σ H
def tSeq(t u:TS):TS:=fun D σ H=>t { D with nx:=u D } σ H
theorem tN:ji X [] Zx:=fun _ _ σ H _ I h=>wpAny_execs_nil ⟨σ,H,I,h⟩
theorem pO(h1:PS X st t)(h2:ji X rest u):ji X (st::rest) (tSeq t u):=by
 intro EF s σ H D I h
 refine wpAny_execs_cons (bj (h1 EF s σ H { D with nx:=u D } I h) fun f s1 q=>?_)
 cases f with
 |next =>
  obtain⟨σ',H',I',q⟩:=q
  exact h2 EF s1 σ' H' D I' q
 |ret v=>exact q
 |brk=>exact q
 |cont=>exact q
def wY:TS:=fun D σ H=>D.bk σ H
def G5:TS:=fun D σ H=>D.ct σ H
theorem tP:PS X (.Pass pos) Zx:=fun _ _ σ H _ I h=>wpAny_Pass ⟨σ,H,I,h⟩
theorem pQ:PS X (.Break pos) wY:=fun _ _ σ H _ I h=>wpAny_Break ⟨σ,H,I,h⟩
theorem iI:PS X (.Continue pos) G5:=fun _ _ σ H _ I h=>wpAny_Continue ⟨σ,H,I,h⟩
theorem Inv.quiet(I:Inv X EF σ H s):interactive X.env=false:=by simp[interactive,I.ok.kind]
def F9(te:TE):TS:=fun D σ H=>te σ H fun _ H1=>D.nx σ H1
theorem tQ(he:PE X e te)(hs:swapsWith e none pos.line X.env=pure false:=by rfl):PS X (.Expr e pos) (F9 te):=by
 intro EF s σ H D I h
 exact wpAny_Expr_any (bj (he EF s σ H _ I h) fun v s1 ⟨x,H1,I1,r1,q1⟩=>⟨σ,H1,I1,q1⟩) I.quiet hs
def tRet(te:TE):TS:=fun D σ H=>te σ H D.rt
theorem xS(he:PE X e te):PS X (.Return (some e) pos) (tRet te):=by
 intro EF s σ H D I h
 exact wpAny_Return_some (bj (he EF s σ H _ I h) fun v s1 ⟨x,H1,I1,r1,q1⟩=>⟨x,σ,H1,I1,r1,q1⟩)
def F6:TS:=fun D _ H=>D.rt .non H
theorem tO:PS X (.Return none pos) F6:=fun _ _ σ H _ I h=>wpAny_Return_none ⟨.non,σ,H,I,rfl,h⟩
def tIfS(c:TT)(t u:TS):TS:=fun D σ H=>c σ H fun b H1=>if b=true then t D σ H1 else u D σ H1
theorem W6(hc:PT X c tc)(ha:ji X a t)(hb:ji X b u):PS X (.If c a b pos) (tIfS tc t u):=by
 intro EF s σ H D I h
 refine wpAny_If (bj (hc EF s σ H _ I h) fun d s1 ⟨H1,I1,q1⟩=>?_)
 cases d with
 |true=>exact ha EF s1 σ H1 D I1 q1
 |false=>exact hb EF s1 σ H1 D I1 q1
end
abbrev TG:=V->St->Hp->(St->Hp->Prop)->Prop
def PG(X:Cx)(target:Expr)(t:TG):Prop:=
 ∀(EF:List (Addr×Obj))(s:Shared)(σ:St)(H:Hp)(v:V)(u:Value)(Q:St->Hp->Prop),Inv X EF σ H s->az v u->t v σ H Q ->
  wpAny (model X.prog X.w) X.A (assign target X.env u) (fun _ s'=>∃σ' H',Inv X EF σ' H' s'/\Q σ' H') X.xe s
abbrev Jn:=V->V->V->Hp->(Hp->Prop)->Prop
def Jo(X:Cx)(t:Jn):Prop:=
 ∀(EF:List (Addr×Obj))(s:Shared)(σ:St)(H:Hp)(o i v:V)(ov iv u:Value)(Q:Hp->Prop),Inv X EF σ H s->az o ov->az i iv->az v u->t o i v H Q ->
  wpAny (model X.prog X.w) X.A (setItem ov iv u) (fun _ s'=>∃H',Inv X EF σ H' s'/\Q H') X.xe s
section
variable {X:Cx} {pos:Pos}
def si(i:Nat):TG:=fun v σ H Q=>Q (σ.set i (some v)) H
theorem Xd(hN:X.N.Nodup)(hi:X.N[i]?=some x)(hx:j8 X.env.scope x)(hf:X.fn x=true\/X.env.scope.names.lookup x=some .local:=by first|exact .inl rfl|exact .inr rfl|assumption):PG X (.Name x pos) (si i):=by
 intro EF s σ H v u Q I r h
 exact wpAny_assign_Name (El I hN hi hx r (fun s' I'=>⟨_,H,I',h⟩) hf)
def Ox(to ti:TE)(t:Jn):TG:=fun v σ H Q=>to σ H fun o H1=>ti σ H1 fun i H2=>t o i v H2 fun H3=>Q σ H3
theorem xU(ho:PE X o to)(hi:PE X i ti)(hs:Jo X t)
  (ha:∀v,assign (.Subscript o i pos) X.env v=(do
   let ov <-holding [v] (eval o X.env)
   let iv <-holding [v,ov] (eval i X.env)
   standAt pos
   holding [v,ov,iv] (setItem ov iv v)
   release [v,ov,iv] []):=by intro _;rfl):PG X (.Subscript o i pos) (Ox to ti t):=by
 intro EF s σ H v u Q I r h
 rw[ha]
 refine FI (wpAny_holding (bj (ho EF s σ H _ I h) fun ov s1 ⟨x,H1,I1,r1,q1⟩=>?_))
 refine FI (wpAny_holding (bj (hi EF s1 σ H1 _ I1 q1) fun iv s2 ⟨y,H2,I2,r2,q2⟩=>?_))
 refine FI (wpAny_standAt (FI (wpAny_holding (bj (hs EF s2 σ H2 x y v ov iv u _ I2 r1 r2 r q2) fun _ s3 ⟨H3,I3,q3⟩=>?_))))
 exact wpAny_release ⟨σ,H3,I3,q3⟩
def yi(te:TE)(g:TG):TS:=fun D σ H=>te σ H fun x H1=>g x σ H1 D.nx
theorem xT(he:PE X e te)(hg:PG X tg g)(hs:swapsWithSole [tg] e pos.line X.env=pure false:=by rfl)(hw:swappedStores [tg] e X.env=pure none:=by rfl)
  (h1:(assignEach [tg] X.env).map (·.2)=[assign tg X.env]:=by rfl):PS X (.Assign [tg] e pos) (yi te g):=by
 intro EF s σ H D I h
 refine wpAny_Assign_stores (bj (he EF s σ H _ I h) fun v s1 ⟨x,H1,I1,r1,q1⟩=>?_) hs hw
 rw[h1]
 exact bj (hg EF s1 σ H1 x v _ I1 r1 q1) fun _ s2 q=>q
theorem xR(hN:X.N.Nodup)(hi:X.N[i]?=some x)(hx:j8 X.env.scope x)(he:PE X e te)(hs:swapsWith e (some (.Name x pos')) pos.line X.env=pure false:=by rfl)(hf:X.fn x=true\/X.env.scope.names.lookup x=some .local:=by first|exact .inl rfl|exact .inr rfl|assumption) :
  PS X (.Assign [.Name x pos'] e pos) (yi te (si i)):=by
 intro EF s σ H D I h
 refine wpAny_Assign_Name (bj (he EF s σ H _ I h) fun v s1 ⟨y,H1,I1,r1,q1⟩=>?_) hs
 exact El I1 hN hi hx r1 (fun s2 I2=>⟨_,H1,I2,q1⟩) hf
end
section
variable {X:Cx} {pos:Pos}
end
structure It where
 go:Nat->Hp->Prop
 yld:Nat->Hp->V->Hp->Prop
 stop:Nat->Hp->Prop
def mm(X:Cx)(EF:List (Addr×Obj))(H:Hp)(b:Addr):Prop:=
 H b=none/\b≠X.env.locals/\b∉X.fs/\(b∈X.ex\/X.s₀.heap.objs.size<=b)/\(∀x c,X.env.cells.lookup x=some c->c≠b)/\∀p∈X.pn++EF,p.1≠b
theorem Inv.fpOk(I:Inv X EF σ H s)(hb:s.heap.objs.size<=b)(hn:H' b=none):mm X EF H' b:=by
 refine⟨hn,Nat.ne_of_gt (ET I.lt hb),I.nofs hb,.inr (FA I.sz hb),fun x c e z=>?_,fun p hp z=>?_⟩
 ·obtain⟨v,q⟩:=I.cell x c e
  exact absurd (ET q.lt (by rw[z];exact hb)) (FF _)
 ·exact absurd (ET (EL (I.pin p hp).1) (by rw[z];exact hb)) (FF _)
structure Turn (P:Program) (w:World) (K:PySem.W.Frag) (tg:Expr) (J:It) (fp:List Addr) (it:Addr) (tn:Nat->Heap->Prop):Prop where
 mem:it∈fp
 obj:∀i h,tn i h->∀b∈fp,∃o,h.get? b=some o/\∀v,o.data≠.cell v
 keep:∀i h h',tn i h->(∀b∈fp,∀o,h.get? b=some o->h'.get? b=some o)->tn i h'
 item:∀(X:Cx),X.prog=P->X.w=w->X.K=K->X.calm=true->∀(i:Nat)(EF:List (Addr×Obj))(s:Shared)(σ:St)(H:Hp)(E:Value->Shared->Prop),Inv X EF σ H s->(∀b∈fp,mm X EF H b)->tn i s.heap->J.go i H ->
  wpAny (model P w) X.A (pyNext (.ref it)) (fun r s1=>∃u,r=some u /\
   wpAny (model P w) X.A (letOwnedTupleGo tg (.ref it) u) (fun _ s2=>∃x H',Inv X EF σ H' s2/\az x u/\J.yld i H x H'/\tn (i+1) s2.heap/\∀b∈fp,H' b=none) E s1) E s
 done:∀(X:Cx),X.prog=P->X.w=w->X.K=K->X.calm=true->∀(i:Nat)(EF:List (Addr×Obj))(s:Shared)(σ:St)(H:Hp)(E:Value->Shared->Prop),Inv X EF σ H s->(∀b∈fp,mm X EF H b)->tn i s.heap->J.stop i H ->
  wpAny (model P w) X.A (pyNext (.ref it)) (fun r s1=>r=none/\Inv X EF σ H s1) E s
 self:∀(A:Around)(i:Nat)(s:Shared)(Q:Value->Shared->Prop)(E:Value->Shared->Prop),tn i s.heap->Q (.ref it) s->wpAny (model P w) A (pyIter (.ref it)) Q E s
abbrev TI:=St->Hp->(It->Hp->Prop)->Prop
def PIE(X:Cx)(EF:List (Addr×Obj))(σ:St)(tg:Expr)(R:It->Hp->Prop)(itv:Value)(s2:Shared):Prop:=
 ∃(it:Addr)(fp:List Addr)(tn:Nat->Heap->Prop)(J:It)(H':Hp),itv=.ref it/\Inv X EF σ H' s2/\Turn X.prog X.w X.K tg J fp it tn/\tn 0 s2.heap/\(∀b∈fp,mm X EF H' b)/\R J H'
def PI(X:Cx)(tg iter:Expr)(wi:TI):Prop:=
 ∀(EF:List (Addr×Obj))(s:Shared)(σ:St)(H:Hp)(R:It->Hp->Prop),Inv X EF σ H s->wi σ H R ->
  wpAny (model X.prog X.w) X.A (eval iter X.env) (fun v s1=>wpAny (model X.prog X.w) X.A (pyIter v) (PIE X EF σ tg R) X.xe s1) X.xe s
theorem Of(ho:s.heap.get? it=some o)(hc:o.cls=.type n)(hd:o.data=.fields vs)
    (hn:["enumerate", "zip", "dict_itemiterator", "dict_reverseitemiterator", "odict_iterator", "itertools.zip_longest", "itertools.pairwise"].contains n=false)(hQ:Q () s):wpAny M A (letOwnedTupleGo tg (.ref it) u) Q E s:=by
  unfold letOwnedTupleGo
  cases tg <;> first
    |exact FM hQ
    |(cases u<;>first
        |exact FM hQ
        | (refine FI (wpAny_load ho ?_)
           rw[hc,hd]
           show wpAny M A (if (["enumerate", "zip", "dict_itemiterator", "dict_reverseitemiterator", "odict_iterator", "itertools.zip_longest", "itertools.pairwise"].contains n&&vs[0]? == some (rawInt _))=true then _ else _) Q E s
           rw[FK (by intro h;rw[hn,Bool.false_and] at h;cases h)]
           exact FM hQ))
def Itl(K:PySem.W.Frag)(a:Addr):It:=
 ⟨fun i H=>∃xs x,bx K H a xs/\xs[i]?=some x,fun i H x H'=>H'=H/\∀xs,bx K H a xs->xs[i]?=some x,fun i H=>∃xs,bx K H a xs/\xs.length<=i⟩
def Itt(K:PySem.W.Frag)(a:Addr):It:=
 ⟨fun i H=>∃xs x,fu K H a xs/\xs[i]?=some x,fun i H x H'=>H'=H/\∀xs,fu K H a xs->xs[i]?=some x,fun i H=>∃xs,fu K H a xs/\xs.length<=i⟩
def Itr(lo:Int)(n:Nat):It:=⟨fun i _=>i<n,fun i H x H'=>H'=H/\x=.int (lo+i),fun i _=>n<=i⟩
theorem lU{P:Program}{w:World}{K:PySem.W.Frag}{tg:Expr}(a it:Addr):Turn P w K tg (Itl K a) [it] it (fun i h=>h.IsListIter it a i) where
 mem:=by simp
 obj:=fun i h st b hb=>by
  have e:b=it:=by simpa using hb
  subst e
  obtain⟨o,e,c,d⟩:=st
  exact⟨o,e,fun v z=>by rw[d] at z;cases z⟩
 keep:=fun i h h' st k=>st.at fun o e=>k it (by simp) o e
 item:=by
  intro X hP hw hK hc i EF s σ H E I hf st hg
  subst hP hw hK
  obtain⟨xs,x,hq,hx⟩:=hg
  obtain⟨its,rv,p,hz⟩:=I.list hq
  obtain⟨u,hu,ru⟩:=rv.get hx
  obtain⟨f0,f1,f2,f3,f4,f5⟩:=hf it (by simp)
  refine wpAny_pyNext_list_item st p.isList (x:=u) (by simpa using hu) fun h' st' sb=>?_
  have I1:Inv X EF σ H { s with heap:=h' }:=I.turned (t':=s.toks) (fun b o hb e=>(sb.2 b hb).trans e) f0 f1 f3 f4 f5
  obtain⟨o,e,c,d⟩:=id st'
  exact⟨u,rfl,Of (s:={ s with heap:=h' }) e c d (by decide) ⟨x,H,I1,ru,⟨rfl,fun ys hy=>by rw[I.list_inj hy hq];exact hx⟩,st',fun b hb=>(hf b hb).1⟩⟩
 done:=by
  intro X hP hw hK hc i EF s σ H E I hf st hg
  subst hP hw hK
  obtain⟨xs,hq,hx⟩:=hg
  obtain⟨its,rv,p,hz⟩:=I.list hq
  obtain⟨f0,f1,f2,f3,f4,f5⟩:=hf it (by simp)
  have hl:=rv.length
  exact wpAny_pyNext_list_end (I.ok.hd hc) st p.isList (by simp;omega) fun h' eb=>⟨rfl,I.turned (t':=s.toks) (fun b o hb e=>eb b o hb e) f0 f1 f3 f4 f5⟩
 self:=fun _ _ _ _ _ st h=>wpAny_pyIter_listiter st h
theorem jO{P:Program}{w:World}{K:PySem.W.Frag}{tg:Expr}(a it:Addr):Turn P w K tg (Itt K a) [it] it (fun i h=>h.IsTupleIter it a i) where
 mem:=by simp
 obj:=fun i h st b hb=>by
  have e:b=it:=by simpa using hb
  subst e
  obtain⟨o,e,c,d⟩:=st
  exact⟨o,e,fun v z=>by rw[d] at z;cases z⟩
 keep:=fun i h h' st k=>st.at fun o e=>k it (by simp) o e
 item:=by
  intro X hP hw hK hc i EF s σ H E I hf st hg
  subst hP hw hK
  obtain⟨xs,x,hq,hx⟩:=hg
  obtain⟨its,rv,p,hz⟩:=I.tuple hq
  obtain⟨u,hu,ru⟩:=rv.get hx
  obtain⟨f0,f1,f2,f3,f4,f5⟩:=hf it (by simp)
  refine wpAny_pyNext_tuple_item st (show s.heap.IsTuple a its.toArray from p) (x:=u) (by simpa using hu) fun h' st' sb=>?_
  have I1:Inv X EF σ H { s with heap:=h' }:=I.turned (t':=s.toks) (fun b o hb e=>(sb.2 b hb).trans e) f0 f1 f3 f4 f5
  obtain⟨o,e,c,d⟩:=id st'
  exact⟨u,rfl,Of (s:={ s with heap:=h' }) e c d (by decide) ⟨x,H,I1,ru,⟨rfl,fun ys hy=>by rw[I.tuple_inj hy hq];exact hx⟩,st',fun b hb=>(hf b hb).1⟩⟩
 done:=by
  intro X hP hw hK hc i EF s σ H E I hf st hg
  subst hP hw hK
  obtain⟨xs,hq,hx⟩:=hg
  obtain⟨its,rv,p,hz⟩:=I.tuple hq
  obtain⟨f0,f1,f2,f3,f4,f5⟩:=hf it (by simp)
  have hl:=rv.length
  exact wpAny_pyNext_tuple_end (I.ok.hd hc) st (show s.heap.IsTuple a its.toArray from p) (by simp;omega) fun h' eb=>⟨rfl,I.turned (t':=s.toks) (fun b o hb e=>eb b o hb e) f0 f1 f3 f4 f5⟩
 self:=fun _ _ _ _ _ st h=>wpAny_pyIter_tupleiter st h
theorem jP{P:Program}{w:World}{K:PySem.W.Frag}{tg:Expr}(it:Addr)(lo:Int)(n:Nat):Turn P w K tg (Itr lo n) [it] it (fun i h=>IsRangeIter h it (lo+(i:Nat)*1) ((n:Int) - (i:Nat)) 1) where
 mem:=by simp
 obj:=fun i h st b hb=>by
  have e:b=it:=by simpa using hb
  subst e
  exact⟨_,st,fun v z=>by
   have z':Data.fields _=Data.cell v:=z
   cases z'⟩
 keep:=fun i h h' st k=>k it (by simp) _ st
 item:=by
  intro X hP hw hK hc i EF s σ H E I hf st hg
  subst hP hw hK
  obtain⟨f0,f1,f2,f3,f4,f5⟩:=hf it (by simp)
  have W:=Walks.range (prog:=X.prog) (w:=X.w) (I.ok.hd hc) it lo 1 n
  refine W.item i s _ _ hg st fun v h' tk hv st' kk=>?_
  obtain⟨t,rfl⟩:=hv
  have I1:Inv X EF σ H { s with heap:=h',toks:=tk }:=I.turned (fun b o hb e=>kk b o (by simpa using hb) e) f0 f1 f3 f4 f5
  refine⟨_,rfl,Of (s:={ s with heap:=h',toks:=tk }) (n:="range_iterator") st' rfl rfl (by decide) ⟨.int (lo+i),H,I1,⟨t,?_⟩,⟨rfl,rfl⟩,st',fun b hb=>(hf b hb).1⟩⟩
  rw[Int.mul_one]
 done:=by
  intro X hP hw hK hc i EF s σ H E I hf st hg
  subst hP hw hK
  obtain⟨f0,f1,f2,f3,f4,f5⟩:=hf it (by simp)
  exact wpAny_pyNext_range_end (I.ok.hd hc) st (by have:n<=i:=hg;omega) fun h' eb=>⟨rfl,I.turned (t':=s.toks) (fun b o hb e=>eb b o hb e) f0 f1 f3 f4 f5⟩
 self:=fun _ _ _ _ _ st h=>wpAny_pyIter_rangeiter st h
section
variable {X:Cx} {tg:Expr}
theorem pL{R:It->Hp->Prop}{E:Value->Shared->Prop}{lo hi:Int}{t u v:Tok}{tk:Nat}(I:Inv X EF σ H s)(h1:-(2 ^ 62)<=lo)(h2:lo<2 ^ 62)(h3:-(2 ^ 62)<=hi)(h4:hi<2 ^ 62)
  (q:R (Itr lo (hi - lo).toNat) H):wpAny (model X.prog X.w) X.A (pyIter (.ref s.heap.objs.size)) (PIE X EF σ tg R) E { s with heap:=s.heap.push { cls:=.type "range",data:=.fields #[.int lo t,.int hi u,.int 1 v] },toks:=tk }:=by
 refine wpAny_pyIter_range (IsRange.new ..) (small_one h1 h2 h3 h4) ?_
 have I1:Inv X EF σ H { s with heap:=s.heap.push { cls:=.type "range",data:=.fields #[.int lo t,.int hi u,.int 1 v] },toks:=tk }:=I.kept fun b o e=>EI _ e
 refine⟨(s.heap.push { cls:=.type "range",data:=.fields #[.int lo t,.int hi u,.int 1 v] }).objs.size,[(s.heap.push { cls:=.type "range",data:=.fields #[.int lo t,.int hi u,.int 1 v] }).objs.size],_,_,H,rfl,
  I1.kept (t':=tk) fun b o e=>EI _ e,jP _ lo (hi - lo).toNat,?_,fun b hb=>?_,q⟩
 ·have e1:lo+((0:Nat):Int)*1=lo:=by simp
  have e2:(((hi - lo).toNat:Nat):Int) - ((0:Nat):Int)=Builtin.Range.rangeSize lo hi 1:=by rw[rangeSize_one];split<;>omega
  show IsRangeIter _ _ (lo+((0:Nat):Int)*1) ((((hi - lo).toNat:Nat):Int) - ((0:Nat):Int)) 1
  rw[e1,e2]
  exact EW _ rfl
 ·have e:b=(s.heap.push { cls:=.type "range",data:=.fields #[.int lo t,.int hi u,.int 1 v] }).objs.size:=by simpa using hb
  subst e
  exact I1.fpOk (EN _) (I1.hok.fresh (EN _))
def DS(ta:TA):TI:=fun σ H R=>ta σ H fun vs H1=>∃j:Int,vs=[.int j]/\-(2 ^ 62)<=j/\j<2 ^ 62/\R (Itr 0 j.toNat) H1
theorem mO{p pos:Pos}(hg:Gl X "range")(hm:X.mg "range" = none)(ha:PA X [a] ta)(hs:starEach [a] X.env=[(false,eval a X.env)]:=by rfl):PI X tg (.Call (.Name "range" p) [a] [] pos) (DS ta):=by
 intro EF s σ H R I h
 refine Call_ (e8 I hg hm boot_range (PyProof.Rows.callWith_type1 (bj (ha pos EF s σ H _ I h) fun us s1 ⟨vs,H1,I1,r1,q1⟩=>?_) hs rfl))
 obtain⟨j,e,q1,q2,q⟩:=q1
 subst e
 cases r1 with
 |cons r rr =>
  cases rr
  obtain⟨t,rfl⟩:=r
  exact call_range_1 (pL I1 (by omega) (by omega) q1 q2 (by simpa using q))
def tFor(wi:TI)(g:TG)(tb:TS):TS:=fun D σ H=>wi σ H fun J H1=>∃W:Nat->Nat->St->Hp->Prop,(∃m,W 0 m σ H1)/\∀i m σ H,W i m σ H ->
 (J.stop i H/\D.nx σ H)\/(J.go i H/\∃N:St->Hp->Prop,(∀σ' H',N σ' H'->∃m',m'<m/\W (i+1) m' σ' H')/\∀x H',J.yld i H x H'->g x σ H' fun σ2 H2=>tb { D with nx:=N,ct:=N,bk:=D.nx } σ2 H2)
def Fa(fp:List Addr)(h:Heap):List (Addr×Obj):=fp.filterMap fun b=>(h.get? b).map fun o=>(b,o)
theorem Hh(hb:b∈fp)(e:h.get? b=some o):(b,o)∈Fa fp h:=List.mem_filterMap.mpr ⟨b,hb,by rw[e];rfl⟩
theorem nA(hp:p∈Fa fp h):p.1∈fp/\h.get? p.1=some p.2:=by
 obtain⟨b,hb,e⟩:=List.mem_filterMap.mp hp
 cases q:h.get? b with
 |none=>rw[q] at e;cases e
 |some o =>
  rw[q] at e
  have e':(b,o)=p:=FP e
  subst e'
  exact⟨hb,q⟩
theorem Inv.pinned(I:Inv X EF σ H s)(hf:∀b∈fp,mm X EF H b)(ho:∀b∈fp,∃o,s.heap.get? b=some o/\∀v,o.data≠.cell v):Inv X (EF++Fa fp s.heap) σ H s:=
 I.pins_of fun p hp=>(List.mem_append.mp hp).elim (fun z=>I.pin p (EJ _ z)) fun z=>by
  obtain⟨hb,e⟩:=nA z
  obtain⟨f0,f1,f2,_⟩:=hf p.1 hb
  obtain⟨o,e',d⟩:=ho p.1 hb
  rw[e] at e';cases e'
  exact⟨e,f0,f1,f2,d⟩
theorem Inv.unpinned(I:Inv X (EF++pl) σ H s):Inv X EF σ H s:=I.pins_of fun p hp=>I.pin p (EJ _ (List.mem_append_left _ hp))
theorem Zc(hp:PassesOwn (model X.prog X.w) X.A X.env X.xe)(hc:X.calm=true)(hi:PI X tg iter wi)(hg:PG X tg g)(hb:ji X body tb)
  (hs:∀x,foldedSetIterable iter X.env x=pure x:=by intro _;rfl):PS X (.For tg iter body [] pos) (tFor wi g tb):=by
 intro EF s σ H D I h
 refine wpAny_For (bj (hi EF s σ H _ I h) fun v s1 h1=>bj h1 fun itv s2 h2=>?_) hs
 obtain⟨it,fp,tn,J,H2,e,I2,T,st2,f2,W,⟨m0,w0⟩,turn⟩:=h2
 subst e
 have stat:∀{H':Hp},(∀b∈fp,H' b=none)->∀b∈fp,mm X EF H' b:=fun hn b hb=>⟨hn b hb,(f2 b hb).2⟩
 refine codeAny_forLoop_any (fun n s'=>∃i σ' H',Inv X EF σ' H' s'/\tn i s'.heap/\(∀b∈fp,H' b=none)/\W i n σ' H') ?_ m0 ⟨0,σ,H2,I2,st2,fun b hb=>(f2 b hb).1,w0⟩
 rintro n s3 ⟨i,σ3,H3,I3,st3,fr3,w3⟩
 rcases turn i n σ3 H3 w3 with⟨stop,qn⟩|⟨go,N,hN,step⟩
 ·refine wpAny_passesOwn hp (bj (T.done X rfl rfl rfl hc i EF s3 σ3 H3 X.xe I3 (stat fr3) st3 stop) fun r s4 ⟨hr,I4⟩=>?_)
  subst hr
  exact wpAny_execs_nil ⟨σ3,H3,I4,qn⟩
 ·refine wpAny_passesOwn hp (bj (T.item X rfl rfl rfl hc i EF s3 σ3 H3 X.xe I3 (stat fr3) st3 go) fun r s4 ⟨u,hr,h4⟩=>?_)
  subst hr
  refine wpAny_passesOwn hp (bj h4 fun _ s5 ⟨x,H5,I5,r5,y5,st5,fr5⟩=>?_)
  have I5':=I5.pinned (stat fr5) (T.obj _ _ st5)
  refine wpAny_passesOwn hp (bj (hg _ s5 σ3 H5 x u _ I5' r5 (step x H5 y5)) fun _ s6 ⟨σ6,H6,I6,q6⟩=>?_)
  refine wpAny_passesOwn hp (bj (hb _ s6 σ6 H6 _ I6 q6) fun f s7 q7=>?_)
  have again:∀{σ7:St}{H7:Hp},Inv X (EF++Fa fp s5.heap) σ7 H7 s7->N σ7 H7->∃m,m<n/\∃i σ' H',Inv X EF σ' H' s7/\tn i s7.heap/\(∀b∈fp,H' b=none)/\W i m σ' H':=fun{σ7 H7} I7 n7=>by
   obtain⟨m',hm,w7⟩:=hN σ7 H7 n7
   refine⟨m',hm,i+1,σ7,H7,I7.unpinned,T.keep _ _ _ st5 fun b hb o e=>(I7.pin (b,o) (EJ _ (EJ _ (Hh hb e)))).1,fun b hb=>?_,w7⟩
   obtain⟨o,e,d⟩:=T.obj _ _ st5 b hb
   exact(I7.pin (b,o) (EJ _ (EJ _ (Hh hb e)))).2.1
  cases f with
  |next=>obtain⟨σ7,H7,I7,n7⟩:=q7;exact again I7 n7
  |cont=>obtain⟨σ7,H7,I7,n7⟩:=q7;exact again I7 n7
  |brk=>obtain⟨σ7,H7,I7,q7⟩:=q7;exact⟨σ7,H7,I7.unpinned,q7⟩
  |ret v=>obtain⟨x7,σ7,H7,I7,r7,q7⟩:=q7;exact⟨x7,σ7,H7,I7.unpinned,r7,q7⟩
end
abbrev R2:=V->V->Hp->VK->Prop
def fc(X:Cx)(f:Value->Value->Sem Value)(r:R2):Prop:=
 ∀(EF:List (Addr×Obj))(s:Shared)(σ:St)(H:Hp)(x y:V)(v u:Value)(Q:VK),Inv X EF σ H s->az x v->az y u->r x y H Q ->
  wpAny (model X.prog X.w) X.A (f v u) (EP X EF σ Q) X.xe s
def UnR(X:Cx)(f:Value->Sem Value)(r:V->Hp->VK->Prop):Prop:=
 ∀(EF:List (Addr×Obj))(s:Shared)(σ:St)(H:Hp)(x:V)(v:Value)(Q:VK),Inv X EF σ H s->az x v->r x H Q ->
  wpAny (model X.prog X.w) X.A (f v) (EP X EF σ Q) X.xe s
def sj(X:Cx)(f:Value)(r:List V->Hp->VK->Prop):Prop:=
 ∀(EF:List (Addr×Obj))(s:Shared)(σ:St)(H:Hp)(xs:List V)(us:List Value)(Q:VK),Inv X EF σ H s->bc xs us->r xs H Q ->
  wpAny (model X.prog X.w) X.A (call f us) (EP X EF σ Q) X.xe s
def i8(r:R2)(ta tb:TE):TE:=fun σ H Q=>ta σ H fun x H1=>tb σ H1 fun y H2=>r x y H2 Q
def tUn(r:V->Hp->VK->Prop)(ta:TE):TE:=fun σ H Q=>ta σ H fun x H1=>r x H1 Q
def rI(C:Int->Int->Prop)(g:Int->Int->V):R2:=fun x y H Q=>∃i j,x=.int i/\y=.int j/\C i j/\Q (g i j) H
def wp(g:Int->Int->V):R2:=fun x y H Q=>∃i j,x=.int i/\y=.int j/\Q (g i j) H
def rU(g:Int->V):V->Hp->VK->Prop:=fun x H Q=>∃i,x=.int i/\Q (g i) H
section
variable {X:Cx} {a b c:Expr} {ta tb tc:TE} {pos:Pos}
theorem Pd(ha:PE X a ta)(hb:PE X b tb){R:V->V->Hp->Prop}(I:Inv X EF σ H s)
  (h:ta σ H fun x H1=>tb σ H1 fun y H2=>R x y H2){Q:Value->Shared->Prop}{f:Value->Value->Sem Value}
  (hf:∀v u s2 x y H2,Inv X EF σ H2 s2->az x v->az y u->R x y H2->wpAny (model X.prog X.w) X.A (f v u) Q X.xe s2) :
  wpAny (model X.prog X.w) X.A (eval a X.env) (fun v s₁=>wpAny (model X.prog X.w) X.A (eval b X.env) (fun u s₂=>wpAny (model X.prog X.w) X.A (f v u) Q X.xe s₂) X.xe s₁) X.xe s:=by
 refine bj (ha EF s σ H _ I h) fun v s1 ⟨x,H1,I1,r1,q1⟩=>?_
 refine bj (hb EF s1 σ H1 _ I1 q1) fun u s2 ⟨y,H2,I2,r2,q2⟩=>?_
 exact hf v u s2 x y H2 I2 r1 r2 q2
theorem W9(ho:fc X (binaryOp op) r)(ha:PE X a ta)(hb:PE X b tb):PE X (.BinOp a op b pos) (i8 r ta tb):=by
 intro EF s σ H Q I h
 exact wpAny_BinOp (Pd ha hb I h fun v u s2 x y H2 I2 rx ry q=>ho EF s2 σ H2 x y v u Q I2 rx ry q)
theorem W7(ho:UnR X (unaryOp op) r)(ha:PE X a ta):PE X (.UnaryOp op a pos) (tUn r ta):=by
 intro EF s σ H Q I h
 exact UnaryOp_ (bj (ha EF s σ H _ I h) fun v s1 ⟨x,H1,I1,r1,q1⟩=>ho EF s1 σ H1 x v Q I1 r1 q1)
theorem opI{f:Value->Value->Sem Value}{C:Int->Int->Prop}{g:Int->Int->Int}
  (rule:∀(i j:Int)(t u:Tok)(s:Shared)(Q:Value->Shared->Prop)(E:Value->Shared->Prop),C i j->Q (.int (g i j) s.toks) { s with toks:=s.toks+1 }->wpAny (model X.prog X.w) X.A (f (.int i t) (.int j u)) Q E s) :
  fc X f (rI C fun i j=>.int (g i j)):=by
 intro EF s σ H x y v u Q I rx ry h
 obtain⟨i,j,rfl,rfl,hc,q⟩:=h
 obtain⟨t,rfl⟩:=rx
 obtain⟨t',rfl⟩:=ry
 exact rule i j t t' s _ _ hc ⟨.int (g i j),H,I.tok _,⟨_,rfl⟩,q⟩
theorem bF{f:Value->Value->Sem Value}{g:Int->Int->Int}
  (rule:∀(i j:Int)(t u:Tok)(s:Shared)(Q:Value->Shared->Prop)(E:Value->Shared->Prop),Q (.int (g i j) s.toks) { s with toks:=s.toks+1 }->wpAny (model X.prog X.w) X.A (f (.int i t) (.int j u)) Q E s) :
  fc X f (wp fun i j=>.int (g i j)):=by
 intro EF s σ H x y v u Q I rx ry h
 obtain⟨i,j,rfl,rfl,q⟩:=h
 obtain⟨t,rfl⟩:=rx
 obtain⟨t',rfl⟩:=ry
 exact rule i j t t' s _ _ ⟨.int (g i j),H,I.tok _,⟨_,rfl⟩,q⟩
theorem Op{f:Value->Value->Sem Value}{g:Int->Int->Bool}
  (rule:∀(i j:Int)(t u:Tok)(s:Shared)(Q:Value->Shared->Prop)(E:Value->Shared->Prop),Q (.bool (g i j)) s->wpAny (model X.prog X.w) X.A (f (.int i t) (.int j u)) Q E s) :
  fc X f (wp fun i j=>.bl (g i j)):=by
 intro EF s σ H x y v u Q I rx ry h
 obtain⟨i,j,rfl,rfl,q⟩:=h
 obtain⟨t,rfl⟩:=rx
 obtain⟨t',rfl⟩:=ry
 exact rule i j t t' s _ _ ⟨.bl (g i j),H,I,rfl,q⟩
def Jq(i j:Int):Prop:=0<j/\j<1073741824
def yn(i j:Int):Prop:=(-(2 ^ 64)<i/\i<2 ^ 64)\/(-(2 ^ 64)<j/\j<2 ^ 64)
theorem yn.ok(h:yn i j):IntMulOk i j:=by
 rcases h with⟨h1,h2⟩|⟨h1,h2⟩
 ·exact .of_left (intBits_le_64 h1 h2)
 ·exact .of_right (intBits_le_64 h1 h2)
theorem zE:fc X (binaryOp .Add) (wp fun i j=>.int (i+j)):=bF fun _ _ _ _ _ _ _ q=>add_int q
theorem zB:fc X (binaryOp .Sub) (wp fun i j=>.int (i - j)):=bF fun _ _ _ _ _ _ _ q=>sub_int q
theorem zC:fc X (binaryOp .Mult) (rI yn fun i j=>.int (i*j)):=opI fun _ _ _ _ _ _ _ hc q=>mul_int q hc.ok
theorem uV:fc X (binaryOp .FloorDiv) (rI Jq fun i j=>.int (i/j)):=opI fun i j _ _ _ _ _ hc q=>by
 have h1:(0:Int)<j:=hc.1
 have h2:j<1073741824:=hc.2
 exact floordiv_int (by omega) (by rw[Int.fdiv_eq_ediv_of_nonneg i (by omega)];exact q) (.inl (PyProof.noPylong_small (by omega)))
theorem zD:fc X (binaryOp .Mod) (rI (fun _ j=>0<j) fun i j=>.int (i % j)):=opI fun i j _ _ _ _ _ hc q=>by
 have h1:(0:Int)<j:=hc
 exact mod_int' (by omega) (by rw[Int.fmod_eq_emod_of_nonneg i (by omega)];exact q)
theorem unI{f:Value->Sem Value}{g:Int->Int}
  (rule:∀(i:Int)(t:Tok)(s:Shared)(Q:Value->Shared->Prop)(E:Value->Shared->Prop),Q (.int (g i) s.toks) { s with toks:=s.toks+1 }->wpAny (model X.prog X.w) X.A (f (.int i t)) Q E s) :
  UnR X f (rU fun i=>.int (g i)):=by
 intro EF s σ H x v Q I rx h
 obtain⟨i,rfl,q⟩:=h
 obtain⟨t,rfl⟩:=rx
 exact rule i t s _ _ ⟨.int (g i),H,I.tok _,⟨_,rfl⟩,q⟩
theorem wU:UnR X (unaryOp .USub) (rU fun i=>.int (-i)):=unI fun _ _ _ _ _ q=>neg_int q
end
section
variable {X:Cx} {a b c:Expr} {ta tb tc:TE} {pos:Pos}
theorem Zn(I:Inv X EF σ H s)(q:Q (.bl k) H)(e:k=k'):EP X EF σ Q (.bool k') s:=by
 subst e
 exact⟨.bl k,H,I,rfl,q⟩
theorem X8:fc X (compareOp .Lt) (wp fun i j=>.bl (decide (i<j))):=Op fun _ _ _ _ _ _ _ q=>lt_int q
theorem X9:fc X (compareOp .LtE) (wp fun i j=>.bl (decide (i<=j))):=Op fun _ _ _ _ _ _ _ q=>le_int q
theorem Y0:fc X (compareOp .Gt) (wp fun i j=>.bl (decide (j<i))):=Op fun _ _ _ _ _ _ _ q=>gt_int q
theorem mY:fc X (compareOp .Lt) (fun x y H Q=>∃i j,x=.str i/\y=.str j/\Q (.bl (decide (i.cps.toList<j.cps.toList))) H):=by
 intro EF s σ H x y v u Q I rx ry h
 obtain⟨i,j,rfl,rfl,q⟩:=h
 obtain⟨t,rfl⟩:=rx
 obtain⟨t',rfl⟩:=ry
 exact lt_str (Zn I q rfl)
theorem mZ:fc X (compareOp .In) (fun x y H Q=>∃i j,x=.str i/\y=.str j/\Q (.bl (!(Builtin.Str.occurrences j i 0 j.length 1).isEmpty)) H):=by
 intro EF s σ H x y v u Q I rx ry h
 obtain⟨i,j,rfl,rfl,q⟩:=h
 obtain⟨t,rfl⟩:=rx
 obtain⟨t',rfl⟩:=ry
 exact in_str (Zn I q rfl)
theorem Mp(ho:fc X (compareOp op) r)(ha:PE X a ta)(hb:PE X b tb)(hm:behindInMarks op b=false):PE X (.Compare a [op] [b] pos) (i8 r ta tb):=by
 intro EF s σ H Q I h
 exact wpAny_Compare1 (Pd ha hb I h fun v u s2 x y H2 I2 rx ry q=>ho EF s2 σ H2 x y v u Q I2 rx ry q) hm
def Zw(t:TE):TT:=fun σ H Q=>t σ H fun x H'=>∃k,x=.bl k/\Q k H'
theorem Mo(ho:fc X (compareOp op) r)(ha:PE X a ta)(hb:PE X b tb)(hm:behindInMarks op b=false):PT X (.Compare a [op] [b] pos) (Zw (i8 r ta tb)):=by
 intro EF s σ H Q I h
 refine wpAny_isTrue_Compare1 (bj (ha EF s σ H _ I h) fun v s1 ⟨x,H1,I1,r1,q1⟩=>bj (hb EF s1 σ H1 _ I1 q1) fun u s2 ⟨y,H2,I2,r2,q2⟩ =>
  bj (ho EF s2 σ H2 x y v u _ I2 r1 r2 q2) fun c s3 ⟨z,H3,I3,r3,k,e,q3⟩=>?_) hm
 subst e
 cases r3
 exact wpAny_truthy_bool ⟨H3,I3,q3⟩
def Nm(r r':R2)(ta tb tc:TE):TE:=fun σ H Q=>ta σ H fun x H1=>tb σ H1 fun y H2=>r x y H2 fun z H3=>∃k,z=.bl k /\
 (if k=true then tc σ H3 fun w' H4=>r' y w' H4 Q else Q (.bl false) H3)
theorem pV(ho:fc X (compareOp op) r)(ho':fc X (compareOp op') r')(ha:PE X a ta)(hb:PE X b tb)(hc:PE X c tc)
  (hm:lastMarks [op,op'] [b,c]=false:=by with_unfolding_all rfl):PE X (.Compare a [op,op'] [b,c] pos) (Nm r r' ta tb tc):=by
 intro EF s σ H Q I h
 refine Compare_chain (bj (ha EF s σ H _ I h) fun v s1 ⟨x,H1,I1,r1,q1⟩=>chain_link (bj (hb EF s1 σ H1 _ I1 q1) fun u s2 ⟨y,H2,I2,r2,q2⟩ =>
  bj (ho EF s2 σ H2 x y v u _ I2 r1 r2 q2) fun d s3 ⟨z,H3,I3,r3,k,e,q3⟩=>?_)) hm
 subst e
 cases r3
 refine wpAny_truthy_bool ?_
 cases k with
 |false=>exact ite_ff ⟨.bl false,H3,I3,rfl,q3⟩
 |true=>exact ite_tt (chain_last (bj (hc EF s3 σ H3 _ I3 q3) fun w' s4 ⟨z',H4,I4,r4,q4⟩=>ho' EF s4 σ H4 y z' u w' Q I4 r2 r4 q4))
theorem pN(ho:fc X (compareOp op) r)(ho':fc X (compareOp op') r')(ha:PE X a ta)(hb:PE X b tb)(hc:PE X c tc)
  (hm:lastMarks [op,op'] [b,c]=false:=by with_unfolding_all rfl):PT X (.Compare a [op,op'] [b,c] pos) (Zw (Nm r r' ta tb tc)):=by
 intro EF s σ H Q I h
 refine isTrue_chain (bj (ha EF s σ H _ I h) fun v s1 ⟨x,H1,I1,r1,q1⟩=>test_link (bj (hb EF s1 σ H1 _ I1 q1) fun u s2 ⟨y,H2,I2,r2,q2⟩ =>
  bj (ho EF s2 σ H2 x y v u _ I2 r1 r2 q2) fun d s3 ⟨z,H3,I3,r3,k,e,q3⟩=>?_)) hm
 subst e
 cases r3
 refine wpAny_truthy_bool ?_
 cases k with
 |false =>
  obtain⟨k',e',q'⟩:=q3
  cases e'
  exact ite_ff ⟨H3,I3,q'⟩
 |true =>
  refine ite_tt (test_last (bj (hc EF s3 σ H3 _ I3 q3) fun w' s4 ⟨z',H4,I4,r4,q4⟩=>bj (ho' EF s4 σ H4 y z' u w' _ I4 r2 r4 q4) fun d' s5 ⟨z2,H5,I5,r5,k2,e2,q5⟩=>?_))
  subst e2
  cases r5
  exact wpAny_truthy_bool ⟨H5,I5,q5⟩
theorem d9:(sizeLine:Nat)<2 ^ 63:=by rw[sizeLine_eq];decide
theorem kN:fc X (binaryOp .Add) (fun x y H Q=>∃i j,x=.str i/\y=.str j/\i.length+j.length<=sizeLine/\Q (.str (i++j)) H):=by
 intro EF s σ H x y v u Q I rx ry h
 obtain⟨i,j,rfl,rfl,hz,q⟩:=h
 obtain⟨t,rfl⟩:=rx
 obtain⟨t',rfl⟩:=ry
 exact add_str (fun t' tk=>⟨.str (i++j),H,I.tok _,⟨_,rfl⟩,q⟩) hz
theorem yb(r:bc [x] us):∃u,us=[u]/\az x u:=by
 cases r with
 |cons r1 r2=>cases r2;exact⟨_,rfl,r1⟩
theorem Uo:sj X (.type "int") (fun xs H Q=>(∃i,xs=[.int i]/\Q (.int i) H)\/∃k,xs=[.bl k]/\Q (.int (if k then 1 else 0)) H):=by
 intro EF s σ H xs us Q I r h
 rcases h with⟨i,rfl,q⟩|⟨k,rfl,q⟩
 ·obtain⟨u,rfl,t,rfl⟩:=yb r
  exact call_int_int ⟨.int i,H,I,⟨_,rfl⟩,q⟩
 ·obtain⟨u,rfl,r1⟩:=yb r
  cases r1
  exact call_int_bool ⟨.int (if k then 1 else 0),H,I.tok _,⟨_,rfl⟩,q⟩
end
section
variable {prog:Program} {w:World} {A:Around} {E:Value->Shared->Prop} {s:Shared} {K:PySem.W.Frag} {x dx C f:Addr} {mA:Str->Option Value} {name:Str} {v:Value}
end
theorem ow.some_of(r:ow (some v) o):∃u,o=some u/\az v u:=by
 cases o with
 |none=>exact(show False from r).elim
 |some u=>exact⟨u,rfl,r⟩
section
variable {P:Program} {w:World} {H H':Hp} {h h':Heap} {a C dx:Addr} {fs fs':List (Str×V)}
end
section
variable {X:Cx} {EF:List (Addr×Obj)} {σ:St} {H:Hp} {s:Shared} {a C dx:Addr} {fs:List (Str×V)} {f:Str} {v:V} {A:Around} {E:Value->Shared->Prop}
end
section
variable {X:Cx} {o e value:Expr} {f:Str} {pos pos' tpos:Pos} {ta tv:TE}
end
section
variable {X:Cx} {EF:List (Addr×Obj)} {σ:St} {H:Hp} {s:Shared} {A:Around} {E:Value->Shared->Prop} {Q:Value->Shared->Prop} {c:Value} {b:Bool}
end
structure Room (k:Nat) (A:Around):Prop where
 hd:A.handled=none
 dp:A.depth+3*k+5<recursionLimit
 un:A.units+16*k+200<cLine
theorem Room.mono(r:Room k A)(h:j<=k):Room j A:=⟨r.hd,by have:=r.dp;omega,by have:=r.un;omega⟩
theorem Room.deeper(r:Room (k+1) A)(env:Env):Room k (A.deeper env):=
 ⟨r.hd,by have:=r.dp;show A.depth+1+3*k+5<_;omega,by have:=r.un;show A.units+3+16*k+200<_;omega⟩
theorem Room.depth(r:Room k A):A.depth<recursionLimit:=by have:=r.dp;omega
def tNil:TA:=fun _ H Q=>Q [] H
def G6(ta:TE)(tr:TA):TA:=fun σ H Q=>ta σ H fun x H1=>tr σ H1 fun xs H2=>Q (x::xs) H2
section
variable {X:Cx} {e:Expr} {es:List Expr} {te:TE} {t:TA} {pos:Pos}
theorem Ze:PA X [] tNil:=fun _ _ _ _ H Q I h=>Calls.spliced_nil ⟨[],H,I,.nil,h⟩
theorem Mr(ha:PE X e te)(hr:PA X es t)(hs:starEach (e::es) X.env=(false,eval e X.env)::starEach es X.env:=by rfl):PA X (e::es) (G6 te t):=by
 intro pos EF s σ H Q I h
 rw[hs]
 show wpAny _ _ (spliced ((false,eval e X.env)::backTo pos (starEach es X.env))) _ _ s
 refine Calls.spliced_cons (bj (ha EF s σ H _ I h) fun u s1 ⟨x,H1,I1,r1,q1⟩=>?_)
 exact bj (hr pos EF s1 σ H1 _ I1 q1) fun us s2 ⟨xs,H2,I2,r2,q2⟩=>⟨x::xs,H2,I2,.cons r1 r2,q2⟩
def tTup(t:TA):TE:=fun σ H Q=>t σ H fun xs H1=>xs.length<=sizeLine/\∀p,H1 p=none->Q (.ref p) (upd H1 p (.tup xs))
def tLst(t:TA):TE:=fun σ H Q=>t σ H fun xs H1=>xs.length<=sizeLine/\∀p,H1 p=none->Q (.ref p) (upd H1 p (.lst xs))
theorem xW{x1}(h:PA X es t):PE X (.Tuple es x1 pos) (tTup t):=by
 intro EF s σ H Q I hq
 refine wpAny_Tuple_spliced (bj (h pos EF s σ H _ I hq) fun us s1 ⟨xs,H1,I1,r,z,q⟩=>⟨by rw[<-r.length];exact z,?_⟩)
 have hf:H1 s1.heap.objs.size=none:=I1.hok.fresh (EN _)
 refine⟨.ref s1.heap.objs.size,upd H1 s1.heap.objs.size (.tup xs),I1.laid (t':=s1.toks) (fun b u e=>EI _ e) (EN _) ?_,rfl,q _ hf⟩
 exact⟨z,us,r,⟨_,EW _ rfl,rfl,_,rfl⟩⟩
theorem Zd(h:PA X es t):PE X (.List es pos) (tLst t):=by
 intro EF s σ H Q I hq
 refine wpAny_List_spliced (bj (h pos EF s σ H _ I hq) fun us s1 ⟨xs,H1,I1,r,z,q⟩=>⟨by rw[<-r.length];exact z,?_⟩)
 have hf:H1 s1.heap.objs.size=none:=I1.hok.fresh (EN _)
 refine⟨.ref s1.heap.objs.size,upd H1 s1.heap.objs.size (.lst xs),I1.laid (t':=s1.toks) (fun b u e=>EI _ e) (EN _) ?_,rfl,q _ hf⟩
 exact⟨z,us,0,r,EW _ rfl⟩
end
abbrev Sp:=List V->Hp->VK->XK->Prop
abbrev nq:=List Env->Hp->Shared->XK->Value->Shared->Prop
structure Env0 (P:Program) (w:World) (K:PySem.W.Frag) (mg:Str->Option Value) (base:Heap) (A:Around) (outer:List Env) (s:Shared) (H:Hp):Prop where
 frames:A.frames=some outer
 mod:Mod K mg base
 bs:∀b o,base.get? b=some o->s.heap.get? b=some o/\H b=none
 bsz:base.objs.size<=s.heap.objs.size
 funs:s.heap.FunFrames base outer
 frf:∀b∈frs outer,H b=none
 hok:dz P w H s.heap
 bare:AllBare s.gens
def CE(outer:List Env)(P:Program)(w:World)(H:Hp)(s:Shared)(Q:VK)(u:Value)(s':Shared):Prop:=
 ∃v H',s'.os=s.os/\AllBare s'.gens/\Un (frs outer) [] H H' s.heap s'.heap/\dz P w H' s'.heap/\az v u/\Q v H'
def CR(CX:nq)(outer:List Env)(P:Program)(w:World)(H:Hp)(s:Shared)(Q:VK)(E:XK)(r:Result)(s':Shared):Prop:=
 match r with
 |.ok (.ret u)=>CE outer P w H s Q u s'
 |.ok _=>False
 |.error e=>CX outer H s E e s'
structure FnOk (P:Program) (w:World) (K:PySem.W.Frag) (mg:Str->Option Value) (base:Heap) (CX:nq) (k:Nat) (f:Addr) (fd:FuncData) (ps:List Str) (sp:Sp):Prop where
 len:∀vs H Q E,sp vs H Q E->vs.length=ps.length
 run:∀(A:Around)(outer:List Env)(s:Shared)(H:Hp)(args:Args)(us:List Value)(vs:List V)(Q:VK)(E:XK),Room k A->Env0 P w K mg base A outer s H->BindsTo s fd args (ps.zip us)->bc vs us->sp vs H Q E ->
  codeAny (model P w) A (.call (.ref f) args) (CR CX outer P w H s Q E) s
theorem FnOk.mono{P:Program}{w:World}{K:PySem.W.Frag}{mg:Str->Option Value}{base:Heap}{CX:nq}{j k:Nat}{f:Addr}{fd:FuncData}{ps:List Str}{sp:Sp}(F:FnOk P w K mg base CX j f fd ps sp)(h:j<=k) :
  FnOk P w K mg base CX k f fd ps sp:=⟨F.len,fun A outer s H args us vs Q E hr=>F.run A outer s H args us vs Q E (hr.mono h)⟩
section
variable {X:Cx} {EF:List (Addr×Obj)} {σ:St} {H:Hp} {s s':Shared}
theorem Inv.env0(I:Inv X EF σ H s):Env0 X.prog X.w X.K X.mg X.base X.A X.stack s H:=
 ⟨I.ok.frames,I.ok.mod,I.bs,FA I.ok.bsz I.sz,I.stack,I.stkFree,I.hok,I.bare⟩
theorem Inv.after(I:Inv X EF σ H s)(h:CE X.stack X.prog X.w H s Q u s'):EP X EF σ Q u s':=by
 obtain⟨v,H',os,bare,un,hok,r,q⟩:=h
 obtain⟨hh,g,d,t,os'⟩:=s'
 obtain rfl:os'=s.os:=os
 exact⟨v,H',I.call (h':=hh) (g':=g) (d':=d) (t':=t) (ch:=[]) un hok bare (fun b z=>absurd z (by simp)),r,q⟩
end
def G7(sp:Sp)(dvs:List V)(E:XK)(t:TA):TE:=fun σ H Q=>t σ H fun vs H1=>sp (vs++dvs) H1 Q E
def jg(K:PySem.W.Frag)(fd:FuncData)(ps:List Str)(ds:List Value):Prop:=
 ∀(s:Shared)(us:List Value),K.In s.heap->(us++ds).length=ps.length->BindsTo s fd ⟨us,[]⟩ (ps.zip (us++ds))
theorem jg.all{K:PySem.W.Frag}(h:∀us:List Value,us.length=ps.length->bindArgs fd ⟨us,[]⟩=pure (ps.zip us)):jg K fd ps []:=fun s us _ hl=>by
 rw[List.append_nil] at hl ⊢
 exact .of_eq (h us hl)
def Fi(CX:nq)(X:Cx)(E:XK):Prop:=∀(EF:List (Addr×Obj))(σ:St)(H:Hp)(s:Shared)(e:Value)(s':Shared),Inv X EF σ H s->CX X.stack H s E e s'->X.xe e s'
section
variable {X:Cx} {CX:nq} {k:Nat} {f C:Addr} {fd:FuncData} {ps:List Str} {sp:Sp} {dvs:List V} {ds:List Value} {E:XK} {x m:Str} {p pos apos:Pos} {e o:Expr} {es:List Expr} {ta:TE} {t:TA}
theorem xK(F:FnOk X.prog X.w X.K X.mg X.base CX k f fd ps sp)(hr:Room k X.A)(hb:jg X.K fd ps ds)(hd:bc dvs ds)(hx:Fi CX X E)
  (I:Inv X EF σ H s)(r:bc vs us)(h:sp (vs++dvs) H Q E):wpAny (model X.prog X.w) X.A (call (.ref f) us) (EP X EF σ Q) X.xe s:=by
 have r2:bc (vs++dvs) (us++ds):=r.append hd
 have hl:(us++ds).length=ps.length:=by rw[<-r2.length];exact F.len _ _ _ _ h
 refine wpAny_call (codeAny_mono (F.run X.A X.stack s H ⟨us,[]⟩ (us++ds) (vs++dvs) Q E hr I.env0 (hb s us I.kIn hl) r2 h) fun r s' hq=>?_)
 cases r with
 |error e=>exact hx EF σ H s e s' I hq
 |ok fl =>
  cases fl with
  |ret u=>exact I.after hq
  |next=>exact False.elim hq
  |brk=>exact False.elim hq
  |cont=>exact False.elim hq
theorem tT(F:FnOk X.prog X.w X.K X.mg X.base CX k f fd ps sp)(hr:Room k X.A)(hg:Gl X x)(hm:X.mg x=some (.ref f))(hk:PySem.W.keepIn X.K (.ref f)=true)(hb:jg X.K fd ps ds)(hd:bc dvs ds)(hx:Fi CX X E)
  (ha:PA X (e::es) t)(hdb:(x == ("__debug__" : Str))=false:=by decide)(he:starEach (e::es) X.env=(false,eval e X.env)::starEach es X.env:=by rfl)(hpl:(backTo pos (starEach es X.env)).any (·.1)=false:=by rfl) :
  PE X (.Call (.Name x p) (e::es) [] pos) (G7 sp dvs E t):=by
 intro EF s σ H Q I h
 refine wpAny_Call_Name_kw (Ev I hg hm ?_ hdb)
 refine PySem.W.callWith_K (h₀:=X.base) I.ok.mod.kin hk (bj (ha pos EF s σ H _ I h) fun us s1 ⟨vs,H1,I1,r,q⟩=>⟨I1.kIn,?_⟩) he hpl
 exact xK F hr hb hd hx I1 r q
end
section
variable {X:Cx} {CX:nq} {k:Nat} {f C:Addr} {fd:FuncData} {ps ks:List Str} {sp:Sp} {E:XK} {x m:Str} {p pos apos kpos:Pos} {e o:Expr} {es:List Expr} {kws:List Keyword} {te ta:TE} {t tk:TA} {nm:Option Str}
variable {g:List Value->List Value->List Value} {gV:List V->List V->List V}
end
structure FnScope (N P:List Str) (sc:Scope):Prop where
 kind:sc.kind=.function
 co:sc.isCoroutine=false
 gen:sc.isGenerator=false
 nd:N.Nodup
 pre:N.take P.length=P
 par:∀x∈P,sc.names.lookup x=some .local\/sc.names.lookup x=some .cell
 nofree:∀y∈sc.names,y.2≠.free
theorem Uq{kindOf:Str->Option NameKind}{x:Str}:∀{binds:List (Str×Value)}{m:Str->Option Value},(∀v,(x,v)∉binds)->bindL kindOf binds m x=m x
 |[],_,_=>rfl
 | (n,v)::r,m,h=>by
  unfold bindL
  rw[Uq fun w hw=>h w (ER _ hw)]
  split
  ·have:x≠n:=by rintro rfl;exact h v EK
   simp[this]
  ·rfl
theorem Us{kindOf:Str->Option NameKind}{x:Str}:∀{binds:List (Str×Value)}{m:Str->Option Value},(∀v,(x,v)∉binds)->bindC kindOf binds m x=m x
 |[],_,_=>rfl
 | (n,v)::r,m,h=>by
  unfold bindC
  rw[Us fun w hw=>h w (ER _ hw)]
  split
  ·rfl
  ·have:x≠n:=by rintro rfl;exact h v EK
   simp[this]
theorem Ur{kindOf:Str->Option NameKind}{x:Str}{v:Value}:∀{P:List Str}{vs:List Value}{i:Nat}{m:Str->Option Value},P.Nodup->P[i]?=some x->vs[i]?=some v->kindOf x=some .local ->
  bindL kindOf (P.zip vs) m x=some v
 |[],_,_,_,_,h,_,_=>by simp at h
 |_::_,[],_,_,_,_,h,_=>by simp at h
 |p::P,w::vs,0,m,nd,h1,h2,hk=>by
  simp at h1 h2;subst h1;subst h2
  show bindL kindOf ((p,w)::P.zip vs) m p=_
  unfold bindL
  rw[Uq fun v hv=>(List.nodup_cons.mp nd).1 (List.of_mem_zip hv).1,FJ hk]
  simp
 |p::P,w::vs,i+1,m,nd,h1,h2,hk=>by
  show bindL kindOf ((p,w)::P.zip vs) m x=_
  unfold bindL
  exact Ur (i:=i) (List.nodup_cons.mp nd).2 (by simpa using h1) (by simpa using h2) hk
theorem Ut{kindOf:Str->Option NameKind}{x:Str}{v:Value}:∀{P:List Str}{vs:List Value}{i:Nat}{m:Str->Option Value},P.Nodup->P[i]?=some x->vs[i]?=some v->kindOf x≠some .local ->
  bindC kindOf (P.zip vs) m x=some v
 |[],_,_,_,_,h,_,_=>by simp at h
 |_::_,[],_,_,_,_,h,_=>by simp at h
 |p::P,w::vs,0,m,nd,h1,h2,hk=>by
  simp at h1 h2;subst h1;subst h2
  show bindC kindOf ((p,w)::P.zip vs) m p=_
  unfold bindC
  rw[Us fun v hv=>(List.nodup_cons.mp nd).1 (List.of_mem_zip hv).1,FK hk]
  simp
 |p::P,w::vs,i+1,m,nd,h1,h2,hk=>by
  show bindC kindOf ((p,w)::P.zip vs) m x=_
  unfold bindC
  exact Ut (i:=i) (List.nodup_cons.mp nd).2 (by simpa using h1) (by simpa using h2) hk
def start(N:List Str)(vs:List V):St:=vs.map some++List.replicate (N.length - vs.length) none
def uv(CX:nq)(P:Program)(w:World)(K:PySem.W.Frag)(mg:Str->Option Value)(base:Heap)(N:List Str)(qual:Str)(scope:Scope)(f:Addr)(cd:Value)(A:Around)(outer:List Env)(s:Shared)(H:Hp)(E:XK):Cx where
 prog:=P
 w:=w
 K:=K
 mg:=mg
 base:=base
 A:=A.deeper (envOfC qual scope s.heap.objs.size f cd)
 N:=N
 s₀:=s
 H₀:=H
 env:=envOfC qual scope s.heap.objs.size f cd
 outer:=outer
 stack:=envOfC qual scope s.heap.objs.size f cd::outer
 ex:=[]
 calm:=true
 fn:=fun _=>true
 pn:=[]
 xe:=fun e s'=>wpAny (model P w) (A.deeper (envOfC qual scope s.heap.objs.size f cd)) (leaving (envOfC qual scope s.heap.objs.size f cd) e) (fun _ s''=>CX outer H s E e s'') (fun e' s''=>CX outer H s E e' s'') s'
theorem Wm{sc:Scope}{n:Nat}{x:Str}(h:sc.names.lookup x=some .cell):∃c,(cellsFrom n sc.names []).lookup x=some c:=by
 have q:=PySem.W.cellsFrom_some sc.names n [] (.inl h)
 exact Option.isSome_iff_exists.mp q
theorem Ub{CX:nq}{P:Program}{w:World}{K:PySem.W.Frag}{mg:Str->Option Value}{base:Heap}{N ps:List Str}{qual:Str}{scope:Scope}{f:Addr}{cd:Value}{A:Around}{outer:List Env}{s s1:Shared}{H:Hp}{E:XK}{us:List Value}{vs:List V}
  (S:FnScope N ps scope)(hd:A.handled=none)(e0:Env0 P w K mg base A outer s H)(hl:vs.length=ps.length)(r:bc vs us)
  (x:InCallC s s.heap.objs.size (bindL (envOfC qual scope s.heap.objs.size f cd).kindOf (ps.zip us) fun _=>none) (cellsFrom (s.heap.objs.size+1) scope.names []) (bindC (envOfC qual scope s.heap.objs.size f cd).kindOf (ps.zip us) fun _=>none) s1) :
  Inv (uv CX P w K mg base N qual scope f cd A outer s H E) [] (start N vs) H s1:=by
 have hpl:ps.length<=N.length:=by have:=congrArg List.length S.pre;rw[List.length_take] at this;omega
 obtain⟨h1,tk,rfl,hk⟩:=x.done
 have noA:∀b:Addr,b∉(uv CX P w K mg base N qual scope f cd A outer s H E).ex:=fun b z=>absurd (show b∈([]:List Addr) from z) (by simp)
 refine⟨⟨e0.mod,S.kind,rfl,rfl,EN _,fun y z c h1 h2=>?_,fun y hy=>?_,fun y c _ h=>?_,fun _=>hd,Around.frames_deeper e0.frames,.inr ⟨rfl,rfl⟩,fun b z=>absurd z (noA b),e0.bs,e0.bsz,fun b _ _=>noA b,fun b z=>absurd z (noA b),e0.funs,e0.frf⟩,
  rfl,e0.bare,Un.kept hk,⟨_,x.toInCall.ns,fun i y v h1 h2 h3=>?_⟩,fun y c h=>⟨_,x.cell y c h⟩,e0.hok.fresh (EN _),fun y c h=>?_,fun p hp=>absurd (show p∈([]:List (Addr×Obj)) from hp) (by simp),e0.hok.kept hk,?_⟩
 ·exact name_of_addr x.apart (PySem.mem_of_lookup h1) (PySem.mem_of_lookup h2)
 ·have hy:scope.names.lookup y=some .cell\/scope.names.lookup y=some .free:=hy
  rcases hy with hy|hy
  ·exact Wm hy
  ·exact absurd rfl (S.nofree _ (PySem.mem_of_lookup hy))
 ·exact Nat.le_of_lt (x.above y c (PySem.mem_of_lookup h))
 ·have hi:i<vs.length:=by
   unfold start at h2
   by_cases hi:i<vs.length
   ·exact hi
   ·rw[List.getElem?_append_right (by simpa using hi)] at h2
    rw[List.getElem?_replicate] at h2
    split at h2<;>cases h2
  have ha:vs[i]?=some v:=by
   unfold start at h2
   rw[List.getElem?_append_left (by simpa using hi),EY] at h2
   cases e:vs[i]? with
   |none=>rw[e] at h2;cases h2
   |some a=>rw[e] at h2;cases h2;rfl
  obtain⟨u,hu,rv⟩:=r.get ha
  have hp:ps[i]?=some y:=by
   rw[<-S.pre,List.getElem?_take_of_lt (by omega)];exact h1
  have ndP:ps.Nodup:=by rw[<-S.pre];exact S.nd.sublist (List.take_sublist _ _)
  refine⟨u,rv,?_⟩
  rcases S.par y (List.mem_of_getElem? hp) with k|k
  ·exact .inl ⟨k,Ur ndP hp hu k⟩
  ·obtain⟨c,e⟩:=Wm (n:=s.heap.objs.size+1) k
   refine .inr ⟨.inl k,c,e,?_⟩
   have q:=x.cell y c e
   rw[Ut ndP hp hu (by show scope.names.lookup y≠_;rw[k];decide)] at q
   exact q
 ·exact e0.hok.fresh (Nat.le_of_lt (x.above y c (PySem.mem_of_lookup h)))
 ·unfold start
  show _=N.length
  rw[ES,EQ,List.length_replicate]
  omega
theorem DT{CX:nq}{P:Program}{w:World}{K:PySem.W.Frag}{mg:Str->Option Value}{base:Heap}{k:Nat}{f:Addr}{name qual:Str}{params:Arguments}{body:List Stmt}{scope:Scope}{dV kV doc pm cdv ct oc:Value}{an od:Option Addr}
  {osl:Array (Option Value)}{N ps:List Str}{sp:Sp}(lk:K.lookup f=some ⟨oc,od,.func (PySem.W.fnOf name qual params body scope dV kV doc pm an cdv ct),osl⟩)(hcd:PySem.W.codeIn K cdv qual=true)(S:FnScope N ps scope)
  (len:∀vs H Q E,sp vs H Q E->vs.length=ps.length)
  (hbody:∀(A:Around)(outer:List Env)(s:Shared)(H:Hp)(vs:List V)(Q:VK)(E:XK),Room k (A.deeper (envOfC qual scope s.heap.objs.size f cdv))->sp vs H Q E ->
   ∃t,ji (uv CX P w K mg base N qual scope f cdv A outer s H E) body t/\t { nx:=fun _ H'=>Q .non H',rt:=Q } (start N vs) H) :
  FnOk P w K mg base CX (k+1) f (PySem.W.fnOf name qual params body scope dV kV doc pm an cdv ct) ps sp:=by
 refine⟨len,fun A outer s H args us vs Q E hr e0 hb r hsp=>?_⟩
 have hl:=len _ _ _ _ hsp
 have KX:K.In s.heap:=e0.mod.kin.keeps fun b o e=>(e0.bs b o e).1
 have lim:s.heap.NoLimit:=e0.mod.nolimit.keeps fun b o e=>(e0.bs b o e).1
 have hkind:∀y∈ps.zip us,scope.names.lookup y.1=some .local\/(scope.names.lookup y.1=some .cell/\((cellsFrom (s.heap.objs.size+1) scope.names []).lookup y.1).isSome=true):=fun⟨n,v⟩ hy=>by
  rcases S.par n (List.of_mem_zip hy).1 with q|q
  ·exact .inl q
  ·exact .inr ⟨q,PySem.W.cellsFrom_some _ _ _ (.inl q)⟩
 refine codeAny_call_function hr.depth (KX _ _ lk) rfl S.co S.gen rfl (PySem.W.codeRec_of KX hcd) (hb _ _ _ _ ?_)
 refine wpAny_newFunctionEnv_cells S.kind hkind fun env he s1 x=>?_
 subst he
 refine⟨lim.keeps x.toInCall.keep,codeAny_func ?_⟩
 obtain⟨t,ht,hq⟩:=hbody A outer s H vs Q E (hr.deeper _) hsp
 have I:Inv (uv CX P w K mg base N qual scope f cdv A outer s H E) [] (start N vs) H s1:=Ub S hr.hd e0 hl r x
 refine FO (ht [] s1 (start N vs) H _ I hq) (fun fl s' hs=>?_) fun e s' hs=>hs
 have fin:∀{σ':St}{H':Hp}{v:V}{u:Value},Inv (uv CX P w K mg base N qual scope f cdv A outer s H E) [] σ' H' s'->az v u->Q v H'->CE outer P w H s Q u s':=
  fun{σ' H' v u} J rv q=>⟨v,H',J.os,J.bare,J.base,J.hok,rv,q⟩
 cases fl with
 |ret u =>
  obtain⟨v,σ',H',J,rv,q⟩:=hs
  exact fin J rv q
 |next =>
  obtain⟨σ',H',J,q⟩:=hs
  exact fin (v:=V.non) (u:=Value.none) J rfl q
 |brk =>
  obtain⟨_,_,_,q⟩:=hs
  exact False.elim q
 |cont =>
  obtain⟨_,_,_,q⟩:=hs
  exact False.elim q
section
variable {X:Cx} {x:Str} {p pos:Pos} {e:Expr} {es:List Expr} {t:TA} {id T:String} {r:List V->Hp->VK->Prop}
def tCB(r:List V->Hp->VK->Prop)(t:TA):TE:=fun σ H Q=>t σ H fun vs H1=>r vs H1 Q
theorem Vv(hc:sj X (.builtin id) r)(hg:Gl X x)(hm:X.mg x=none)(hv:bootBuiltins x=some (.builtin id))(ha:PA X (e::es) t)(hn:x ≠ "__name__":=by decide)(hdb:(x == ("__debug__" : Str))=false:=by decide)
  (he:starEach (e::es) X.env=(false,eval e X.env)::starEach es X.env:=by rfl)(hpl:(backTo pos (starEach es X.env)).any (·.1)=false:=by rfl):PE X (.Call (.Name x p) (e::es) [] pos) (tCB r t):=by
 intro EF s σ H Q I h
 refine wpAny_Call_Name_kw (e8 I hg hm hv ?_ hn hdb)
 exact PyProof.Rows.callWith_builtin1 (bj (ha pos EF s σ H _ I h) fun us s1 ⟨vs,H1,I1,r1,q1⟩=>hc EF s1 σ H1 vs us Q I1 r1 q1) he hpl
theorem mP(hc:sj X (.type T) r)(hg:Gl X x)(hm:X.mg x=none)(hv:bootBuiltins x=some (.type T))(ha:PA X (e::es) t)(hn:x ≠ "__name__":=by decide)(hdb:(x == ("__debug__" : Str))=false:=by decide)
  (he:starEach (e::es) X.env=(false,eval e X.env)::starEach es X.env:=by rfl)(hpl:(backTo pos (starEach es X.env)).any (·.1)=false:=by rfl):PE X (.Call (.Name x p) (e::es) [] pos) (tCB r t):=by
 intro EF s σ H Q I h
 refine wpAny_Call_Name_kw (e8 I hg hm hv ?_ hn hdb)
 exact PyProof.Rows.callWith_type1 (bj (ha pos EF s σ H _ I h) fun us s1 ⟨vs,H1,I1,r1,q1⟩=>hc EF s1 σ H1 vs us Q I1 r1 q1) he hpl
end
end L2
namespace HT
open PySem PyProof.Rows
section
open PySem.SeqAt
open PySem.AutoSeq1 (wpAny_loadPart')
open PySem.MeetsSeq PySem.MeetsSeq2 PySem.MeetsSeq3
end
section
variable {prog:Program} {w:World} {A:Around} {E:Value->Shared->Prop} {s:Shared}
theorem cat_tup(ht:IsTup s.heap t vs.toArray)(hb:IsTup s.heap b ws.toArray)(hv:vs≠[])
  (h1:ws=[]->Q (.ref t) s)(h2:ws≠[]->Q (.ref s.heap.objs.size) { s with heap:=s.heap.push { cls:=.type "tuple",data:=.seq (vs++ws).toArray } })
  (hsz:vs.length+ws.length<=sizeLine):wpAny (model prog w) A (binaryOp .Add (.ref t) (.ref b)) Q E s:=by
 obtain⟨⟨cls,dd,data,sl⟩,ho,hc,n,hd⟩:=id ht
 obtain⟨⟨cls2,dd2,data2,sl2⟩,ho2,hc2,n2,hd2⟩:=id hb
 simp only at hc hd hc2 hd2
 subst hc hd hc2 hd2
 have e:vs.toArray++ws.toArray=(vs++ws).toArray:=by simp
 by_cases hw:ws=[]
 ·exact concat_meets ⟨_,ho,rfl⟩ ⟨_,ho2,rfl⟩ noFill_tuple_add seq_tuple_add PySem.F.slot_tuple_add PySem.F.entry_tuple_add (PySem.F.args_tuple_add_2 _ _)
   (tuple_addW1 t b vs.toArray ws.toArray n n2 dd dd2 sl sl2 (by simpa using hv) (by simp[hw])) ⟨ho,ho2,h1 hw⟩
 ·refine concat_meets ⟨_,ho,rfl⟩ ⟨_,ho2,rfl⟩ noFill_tuple_add seq_tuple_add PySem.F.slot_tuple_add PySem.F.entry_tuple_add (PySem.F.args_tuple_add_2 _ _)
   (tuple_addW2 t b vs.toArray ws.toArray n n2 dd dd2 sl sl2 (by simpa using hv) (by simpa using hw) (by rw[EM,EM];exact hsz)) ⟨ho,ho2,?_⟩
  rw[e]
  exact h2 hw
def sIx(n d:Nat):Option Int->Nat
 |none=>d
 |some v=>if v<0 then(v+(n:Int)).toNat else min v.toNat n
theorem sIx_none(n d:Nat):sIx n d none=d:=rfl
theorem sIx_nat(n d k:Nat):sIx n d (some (k:Int))=min k n:=by
 show(if (k:Int)<0 then((k:Int)+(n:Int)).toNat else min (k:Int).toNat n)=min k n
 rw[FK (by omega),Int.toNat_natCast]
theorem xJ(n d:Nat)(hd:d<=n)(o:Option Int):sIx n d o<=n:=by
 cases o with
 |none=>exact hd
 |some v =>
  show(if v<0 then(v+(n:Int)).toNat else min v.toNat n)<=n
  by_cases hv:v<0
  ·rw[FJ hv];omega
  ·rw[FK hv];exact Nat.min_le_right _ _
theorem Yi(v:Int)(n d:Nat):(if v<0 then max (v+(n:Int)) 0 else min v (n:Int))=((sIx n d (some v):Nat):Int):=by
 show(if v<0 then max (v+(n:Int)) 0 else min v (n:Int))=(((if v<0 then(v+(n:Int)).toNat else min v.toNat n):Nat):Int)
 by_cases hv:v<0
 ·simp only[FJ hv];omega
 ·simp only[FK hv];omega
theorem lN(lo hi:Option Int)(n:Nat):Builtin.Slice.sliceAdjust lo hi 1 (n:Int)=(((sIx n 0 lo:Nat):Int),((sIx n n hi:Nat):Int)):=by
 have h1:¬((1:Int)<0):=by omega
 unfold Builtin.Slice.sliceAdjust
 simp only[h1,if_false]
 refine Prod.ext ?_ ?_
 ·cases lo with
  |none=>rfl
  |some v=>exact Yi v n 0
 ·cases hi with
  |none=>rfl
  |some v=>exact Yi v n n
theorem kG(i j:Nat):Builtin.Slice.slicePlaces (i:Int) (j:Int) 1=j - i:=by
 unfold Builtin.Slice.slicePlaces
 have h1:(1:Int) > 0:=by omega
 simp only[h1,if_true,Int.ediv_one]
 split<;>omega
theorem Sv(p:IsPart v o)(h:Q o s):wpAny (model prog w) A (Builtin.Slice.slicePartIndex v) Q E s:=by
 cases p with
 |none=>exact slicePart_none h
 |int i t=>exact slicePart_int h
theorem sliceApplied_gen{lo hi:Option Int}{n:Nat}{Q:Int×Int×Nat->Shared->Prop}(hs:s.heap.IsSliceOf sl vl vu .none)(pl:IsPart vl lo)(pu:IsPart vu hi)
  (h:Q (((sIx n 0 lo:Nat):Int),1,sIx n n hi - sIx n 0 lo) s):wpAny (model prog w) A (Builtin.Slice.sliceApplied (.ref sl) (pure (n:Int))) Q E s:=by
 obtain⟨os,hos,hcs,hds⟩:=id hs
 unfold Builtin.Slice.sliceApplied Builtin.Slice.sliceFields
 refine FI (FI (wpAny_field hos hds (x:=vl) rfl (FI (wpAny_field hos hds (x:=vu) rfl (FI (wpAny_field hos hds (x:=.none) rfl (FM ?_)))))))
 refine FI (slicePart_none ?_)
 show wpAny _ _ (if ((1:Int) == 0)=true then _ else _) _ _ s
 rw[FK (by decide)]
 refine FI (Sv pl (FI (Sv pu (FI (FM ?_)))))
 show wpAny _ _ (match Builtin.Slice.sliceAdjust lo hi 1 (n:Int) with|(lo,hi)=>pure (lo,(1:Int),Builtin.Slice.slicePlaces lo hi 1)) _ _ s
 rw[lN lo hi n]
 show wpAny _ _ (pure (((sIx n 0 lo:Nat):Int),(1:Int),Builtin.Slice.slicePlaces ((sIx n 0 lo:Nat):Int) ((sIx n n hi:Nat):Int) 1)) _ _ s
 rw[kG]
 exact FM h
theorem pR(xs:Array Value)(i k:Nat):((List.range k).filterMap fun(m:Nat)=>xs[((i:Int)+(m:Int)*1).toNat]?).toArray=((xs.toList.drop i).take k).toArray:=by
 have e:(fun(m:Nat)=>xs[((i:Int)+(m:Int)*1).toNat]?)=fun m=>xs[i+m]?:=by
  funext m
  have:((i:Int)+(m:Int)*1).toNat=i+m:=by omega
  rw[this]
 rw[e]
 have:=pick_run xs i k
 rw[List.filterMap_map] at this
 have e2:((fun x=>xs[x]?) ∘ fun x=>i+x)=fun m=>xs[i+m]?:=rfl
 rw[e2] at this
 rw[this]
theorem getItem_tuple_cut{lo hi:Option Int}{Q:Value->Shared->Prop}(ht:IsTup s.heap t items)(hs:s.heap.IsSliceOf sl vl vu .none)(pl:IsPart vl lo)(pu:IsPart vu hi)
  (hw:¬(sIx items.size 0 lo=0/\sIx items.size items.size hi=items.size))
  (h:Q (.ref s.heap.objs.size) { s with heap:=s.heap.push { cls:=.type "tuple",data:=.seq ((items.toList.drop (sIx items.size 0 lo)).take (sIx items.size items.size hi - sIx items.size 0 lo)).toArray } })
  (hsz:items.size<=sizeLine):wpAny (model prog w) A (getItem (.ref t) (.ref sl)) Q E s:=by
 have htake:sizeOk (.seq ((items.toList.drop (sIx items.size 0 lo)).take (sIx items.size items.size hi - sIx items.size 0 lo)).toArray):=by
  show((items.toList.drop (sIx items.size 0 lo)).take (sIx items.size items.size hi - sIx items.size 0 lo)).toArray.size<=sizeLine
  rw[EM,List.length_take,List.length_drop,Array.length_toList]
  omega
 have hj:sIx items.size items.size hi<=items.size:=xJ _ _ (EN _) hi
 obtain⟨os,hos,hcs,hds⟩:=id hs
 have hTs:s.TypeIs (.ref sl) "slice":=⟨os,hos,hcs⟩
 unfold getItem
 try with_reducible refine wpAny_holding ?_
 first|refine FI (FM ?_)|skip
 refine FI (wpAny_sequenceKey ht.typeIs (by decide) ?_)
 refine FI (wpAny_callSpecial?_slot (name:=Str.ofString "__getitem__") ht.typeIs PyProof.Rows.slot_tuple_getitem
  (wpAny_call_entry PyProof.Rows.slot_tuple_getitem ht.typeIs entry_tuple_getitem ?_ (args_tuple_getitem _ _)))
 show wpAny _ _ (Builtin.Tuple.tupleItemsOf (.ref t) >>= _) _ _ s
 refine FI (tupleItemsOf_ ht ?_)
 refine FI (wpAny_typeOf hTs ?_)
 rw[FJ (by decide)]
 refine FI (sliceApplied_gen hs pl pu ?_)
 have hno:¬((((sIx items.size 0 lo:Nat):Int) == 0&&(1:Int) == 1&&(sIx items.size items.size hi - sIx items.size 0 lo) == items.size)=true):=by
  intro q
  rw[FE,FE] at q
  have q1:((sIx items.size 0 lo:Nat):Int)=0:=eq_of_beq q.1.1
  have q2:sIx items.size items.size hi - sIx items.size 0 lo=items.size:=eq_of_beq q.2
  exact hw ⟨by omega,by omega⟩
 show wpAny _ _ (if (((sIx items.size 0 lo:Nat):Int) == 0&&(1:Int) == 1&&(sIx items.size items.size hi - sIx items.size 0 lo) == items.size)=true then _ else _) _ _ s
 rw[FK hno,pR]
 first
  |exact FI (m:=Builtin.Tuple.tupleExact _) (wpAny_newObj_type (FM ⟨_,rfl,FM h⟩) htake)
  |exact FI (m:=Builtin.Tuple.tupleExact _) (wpAny_newObj_type (FI (FM (FM ⟨_,rfl,FM h⟩))) htake)
  |exact FI (FI (m:=Builtin.Tuple.tupleExact _) (wpAny_newObj_type (FM (FM ⟨_,rfl,FM h⟩)) htake))
  |exact FI (FI (m:=Builtin.Tuple.tupleExact _) (wpAny_newObj_type (FM ⟨_,rfl,FM h⟩) htake))
end
end HT
namespace L2
open PySem PySem.Spec PyProof.Rows
abbrev TO:=St->Hp->(Option Int->Hp->Prop)->Prop
def PO(X:Cx)(e:Option Expr)(t:TO):Prop:=
 ∀(EF:List (Addr×Obj))(s:Shared)(σ:St)(H:Hp)(Q:Option Int->Hp->Prop),Inv X EF σ H s->t σ H Q ->
  wpAny (model X.prog X.w) X.A (evalPart e X.env) (fun u s'=>∃o H',Inv X EF σ H' s'/\IsPart u o/\Q o H') X.xe s
def sM:TO:=fun _ H Q=>Q none H
def F7(t:TE):TO:=fun σ H Q=>t σ H fun x H1=>∃i,x=.int i/\Q (some i) H1
section
variable {X:Cx} {e:Expr} {te:TE} {lo hi:Option Expr} {tl th:TO} {pos p2:Pos}
theorem Hz:PO X none sM:=by
 intro EF s σ H Q I h
 rw[evalPart_none]
 exact FM ⟨none,H,I,.none,h⟩
theorem Hy(h:PE X e te):PO X (some e) (F7 te):=by
 intro EF s σ H Q I hw
 rw[evalPart_some]
 refine bj (h EF s σ H _ I hw) fun u s1 ⟨x,H1,I1,r1,q1⟩=>?_
 obtain⟨i,rfl,q⟩:=q1
 obtain⟨t,rfl⟩:=r1
 exact⟨some i,H1,I1,.int i t,q⟩
def j7(X:Cx)(r:V->Option Int->Option Int->Hp->VK->Prop):Prop:=
 ∀(EF:List (Addr×Obj))(s:Shared)(σ:St)(H:Hp)(x:V)(v vl vu:Value)(lo hi:Option Int)(sl:Addr)(Q:VK),Inv X EF σ H s->az x v->s.heap.IsSliceOf sl vl vu .none->IsPart vl lo->IsPart vu hi->r x lo hi H Q ->
  ∃T id,typeLookup (.type T) "__getitem__" = pure (some (.builtin id))/\s.TypeIs v T/\wpAny (model X.prog X.w) X.A (getItem v (.ref sl)) (EP X EF σ Q) X.xe s
def tSl(r:V->Option Int->Option Int->Hp->VK->Prop)(te:TE)(tl th:TO):TE:=fun σ H Q=>te σ H fun x H1=>tl σ H1 fun l H2=>th σ H2 fun u H3=>r x l u H3 Q
theorem Ht(hr:j7 X r)(he:PE X e te)(hl:PO X lo tl)(hu:PO X hi th):PE X (.Subscript e (.Slice lo hi none p2) pos) (tSl r te tl th):=by
 intro EF s σ H Q I h
 refine Subscript_ (bj (he EF s σ H _ I h) fun v s1 ⟨x,H1,I1,r1,q1⟩=>?_)
 refine wpAny_Slice (bj (hl EF s1 σ H1 _ I1 q1) fun vl s2 ⟨l,H2,I2,pl,q2⟩=>bj (hu EF s2 σ H2 _ I2 q2) fun vu s3 ⟨u,H3,I3,pu,q3⟩=>?_)
 rw[evalPart_none]
 refine FM ?_
 have I4:Inv X EF σ H3 { s3 with heap:=s3.heap.push { cls:=.type "slice",data:=.fields #[vl,vu,.none] } }:=I3.kept (t':=s3.toks) fun b ob q=>EI _ q
 obtain⟨T,id,hT,ht,hg⟩:=hr EF { s3 with heap:=s3.heap.push { cls:=.type "slice",data:=.fields #[vl,vu,.none] } } σ H3 x v vl vu l u s3.heap.objs.size Q I4 r1 (Heap.IsSliceOf.new ..) pl pu q3
 show wpAny (model X.prog X.w) X.A (subscriptTail e (.Slice lo hi none p2) v (.ref s3.heap.objs.size)) (EP X EF σ Q) X.xe { s3 with heap:=s3.heap.push { cls:=.type "slice",data:=.fields #[vl,vu,.none] } }
 exact tail_any (ops:=[.ref s3.heap.objs.size,v]) ht hT hg (by with_unfolding_all rfl)
def uw(xs:List V)(lo hi:Option Int):List V:=(xs.drop (HT.sIx xs.length 0 lo)).take (HT.sIx xs.length xs.length hi - HT.sIx xs.length 0 lo)
theorem Rq(xs:List V)(lo hi:Option Int):(uw xs lo hi).length<=xs.length:=by
 unfold uw
 rw[List.length_take,List.length_drop]
 omega
def rSlT(K:PySem.W.Frag):V->Option Int->Option Int->Hp->VK->Prop:=fun x lo hi H Q=>∃a xs,x=.ref a/\fu K H a xs /\
 ¬(HT.sIx xs.length 0 lo=0/\HT.sIx xs.length xs.length hi=xs.length)/\∀p,H p=none->Q (.ref p) (upd H p (.tup (uw xs lo hi)))
theorem xB:j7 X (rSlT X.K):=by
 intro EF s σ H x v vl vu lo hi sl Q I rx hs pl pu h
 obtain⟨a,xs,rfl,hx,hw,q⟩:=h
 cases rx
 obtain⟨its,r,ht,hz⟩:=I.tuple hx
 have hlen:its.toArray.size=xs.length:=by rw[EM];exact r.length.symm
 refine⟨"tuple",_,PyProof.Rows.slot_tuple_getitem.lookup,ht.typeIs,?_⟩
 refine HT.getItem_tuple_cut ht hs pl pu (by rw[hlen];exact hw) ?_ (by rw[hlen];exact hz)
 rw[hlen]
 refine⟨.ref s.heap.objs.size,_,I.laid (t':=s.toks) (o:=.tup (uw xs lo hi)) (fun b ob q=>EI _ q) (EN _) ?_,rfl,q _ (I.hok.fresh (EN _))⟩
 exact⟨FA (Rq xs lo hi) hz,_,(r.drop (HT.sIx xs.length 0 lo)).take (HT.sIx xs.length xs.length hi - HT.sIx xs.length 0 lo),IsTup.new _ _⟩
def W3(K:PySem.W.Frag):R2:=fun x y H Q=>∃a b xs ys,x=.ref a/\y=.ref b/\fu K H a xs/\fu K H b ys/\xs≠[]/\xs.length+ys.length<=sizeLine /\
 (ys=[]->Q (.ref a) H)/\(ys≠[]->∀p,H p=none->Q (.ref p) (upd H p (.tup (xs++ys))))
theorem bc.nil_iff(r:bc xs us):us=[] ↔ xs=[]:=by
 cases r with
 |nil=>simp
 |cons _ _=>simp
theorem uW:fc X (binaryOp .Add) (W3 X.K):=by
 intro EF s σ H x y v u Q I rx ry h
 obtain⟨a,b,xs,ys,rfl,rfl,ha,hb,hx,hz,q1,q2⟩:=h
 cases rx
 cases ry
 obtain⟨its,r1,p1,_⟩:=I.tuple ha
 obtain⟨its2,r2,p2,_⟩:=I.tuple hb
 refine HT.cat_tup p1 p2 (fun z=>hx (r1.nil_iff.mp z)) (fun z=>⟨.ref a,H,I,rfl,q1 (r2.nil_iff.mp z)⟩) (fun z=>?_) (by rw[<-r1.length,<-r2.length];exact hz)
 refine⟨.ref s.heap.objs.size,_,I.laid (t':=s.toks) (o:=.tup (xs++ys)) (fun b ob q=>EI _ q) (EN _) ?_,rfl,q2 (fun w=>z (r2.nil_iff.mpr w)) _ (I.hok.fresh (EN _))⟩
 exact⟨by rw[ES];exact hz,_,r1.append r2,IsTup.new _ _⟩
end
def ly(n:Nat)(i:Int):Option Nat:=if 0<=i then(if i<n then some i.toNat else none) else if -(n:Int)<=i then some (i+n).toNat else none
def ft{α:Type}(xs:List α)(i:Int):Option α:=(ly xs.length i).bind fun j=>xs[j]?
theorem Xs(h:ly n i=some j):seqIndex? i n=some j/\j<n/\-(n:Int)<=i/\i<n:=by
 unfold ly at h
 by_cases h0:0<=i
 ·rw[FJ h0] at h
  by_cases h1:i<n
  ·rw[FJ h1] at h
   have e:i.toNat=j:=FP h
   exact⟨by rw[seqIndex_of h0 h1,e],by omega,by omega,h1⟩
  ·rw[FK h1] at h;cases h
 ·rw[FK h0] at h
  by_cases h1:-(n:Int)<=i
  ·rw[FJ h1] at h
   have e:(i+n).toNat=j:=FP h
   exact⟨by rw[seqIndex_neg (by omega) h1,e],by omega,h1,by omega⟩
  ·rw[FK h1] at h;cases h
theorem Nh(h:ft xs i=some v):∃j,seqIndex? i xs.length=some j/\xs[j]?=some v/\j<xs.length/\-(xs.length:Int)<=i/\i<xs.length:=by
 unfold ft at h
 cases e:ly xs.length i with
 |none=>rw[e] at h;cases h
 |some j =>
  rw[e] at h
  obtain⟨h1,h2,h3,h4⟩:=Xs e
  exact⟨j,h1,h,h2,h3,h4⟩
theorem Yk{α:Type}{xs:List α}{j:Nat}{v:α}(h:xs[j]?=some v):ft xs (j:Int)=some v:=by
 have hj:j<xs.length:=(List.getElem?_eq_some_iff.mp h).1
 have e:ly xs.length (j:Int)=some j:=by
  unfold ly
  rw[FJ (by omega),FJ (by omega)];simp
 unfold ft;rw[e];exact h
def Ni(b:Expr):Prop:=∀o i,subscripted b false o i=operate [o,i] (getItem o i)
def Gg(X:Cx)(r:R2):Prop:=
 ∀(value slice:Expr)(EF:List (Addr×Obj))(s:Shared)(σ:St)(H:Hp)(x y:V)(v u:Value)(Q:VK),Inv X EF σ H s->az x v->az y u->r x y H Q ->
  subscripted slice false v u=operate [v,u] (getItem v u)->wpAny (model X.prog X.w) X.A (subscriptTail value slice v u) (EP X EF σ Q) X.xe s
def oz(X:Cx)(id:String)(r:V->List V->Hp->VK->Prop):Prop:=
 ∀(EF:List (Addr×Obj))(s:Shared)(σ:St)(H:Hp)(x:V)(xs:List V)(v:Value)(us:List Value)(Q:VK),Inv X EF σ H s->az x v->bc xs us->r x xs H Q ->
  wpAny (model X.prog X.w) X.A (call (.builtin id) (v::us)) (EP X EF σ Q) X.xe s
section
variable {X:Cx} {a b:Expr} {ta tb:TE} {pos:Pos}
theorem X0(hr:Gg X r)(ha:PE X a ta)(hb:PE X b tb)(hs:Ni b):PE X (.Subscript a b pos) (i8 r ta tb):=by
 intro EF s σ H Q I h
 exact Subscript_ (Pd ha hb I h fun v u s2 x y H2 I2 rx ry q=>hr a b EF s2 σ H2 x y v u Q I2 rx ry q (hs _ _))
def rIxL(K:PySem.W.Frag):R2:=fun x y H Q=>∃p xs i v,x=.ref p/\y=.int i/\bx K H p xs/\ft xs i=some v/\Q v H
def rIxT(K:PySem.W.Frag):R2:=fun x y H Q=>∃p xs i v,x=.ref p/\y=.int i/\fu K H p xs/\ft xs i=some v/\Q v H
def rIxS:R2:=fun x y H Q=>∃z i c,x=.str z/\y=.int i/\z.length<=sizeLine/\ft z.cps.toList i=some c/\Q (.str ⟨#[c]⟩) H
theorem vK:Gg X (rIxL X.K):=by
 intro value slice EF s σ H x y v u Q I rx ry h hs
 obtain⟨p,xs,i,z,rfl,rfl,hq,he,q⟩:=h
 cases rx
 obtain⟨t,rfl⟩:=ry
 obtain⟨its,r,pl,hz⟩:=I.list hq
 obtain⟨j,h1,h2,h3,h4,h5⟩:=Nh he
 obtain⟨w,ew,rw'⟩:=r.get h2
 have hl:=r.length
 have hn:=d9
 have fin:EP X EF σ Q w s:=⟨z,H,I,rw',q⟩
 by_cases h0:0<=i
 ·have hj:i.toNat=j:=by
   rw[seqIndex_of h0 h5] at h1
   exact FP h1
  exact item_listR pl.isList h0 (by omega) (by rw[hj];simpa using ew) fin hs
 ·have hj:(i+(its.toArray.size:Int)).toNat=j:=by
   rw[seqIndex_neg (by omega) h4] at h1
   rw[EM,<-hl]
   exact FP h1
  exact subscriptTail_builtinR (x:=w) pl.isList.typeIs slot_list_getitem.lookup
   (wpAny_getItem_list_neg (Q:=fun r s'=>r=w/\EP X EF σ Q r s') pl.isList (by omega) (by rw[EM]<;>omega) (by omega) (by rw[hj];simpa using ew) ⟨rfl,fin⟩) hs
theorem zN:Gg X (rIxT X.K):=by
 intro value slice EF s σ H x y v u Q I rx ry h hs
 obtain⟨p,xs,i,z,rfl,rfl,hq,he,q⟩:=h
 cases rx
 obtain⟨t,rfl⟩:=ry
 obtain⟨its,r,pl,hz⟩:=I.tuple hq
 obtain⟨j,h1,h2,h3,h4,h5⟩:=Nh he
 obtain⟨w,ew,rw'⟩:=r.get h2
 have hl:=r.length
 have hn:=d9
 have fin:EP X EF σ Q w s:=⟨z,H,I,rw',q⟩
 exact subscriptTail_builtinR (x:=w) pl.typeIs slot_tuple_getitem.lookup
  (getItem_tuple (j:=j) (Q:=fun r s'=>r=w/\EP X EF σ Q r s') pl (by omega) (by omega) (by rw[EM,<-hl];exact h1) (by simpa using ew) ⟨rfl,fin⟩) hs
theorem zO:Gg X rIxS:=by
 intro value slice EF s σ H x y v u Q I rx ry h hs
 obtain⟨z,i,c,rfl,rfl,hz,he,q⟩:=h
 obtain⟨t,rfl⟩:=rx
 obtain⟨t',rfl⟩:=ry
 obtain⟨j,h1,h2,h3,h4,h5⟩:=Nh he
 have hl:z.cps.toList.length=z.length:=by simp[Str.length]
 rw[hl] at h1 h4 h5
 have hn:=d9
 exact tail_any (typeIs_str s z t) slot_str_getitem.lookup (getItem_str (c:=c) (by
  have e1:decide (i < -(2 ^ 63:Int))=false:=FR (by omega)
  have e2:decide (i ≥ 2 ^ 63)=false:=FR (by omega)
  rw[e1,e2,Bool.or_false]) (by rw[h1];simpa using h2) ⟨.str ⟨#[c]⟩,H,I.tok _,⟨_,rfl⟩,q⟩) hs
theorem kU(its:List Value)(n j:Nat)(u:Value):Obj.mapSeq (·.setIfInBounds j u) { cls:=.type "list",data:=.seq its.toArray n }={ cls:=.type "list",data:=.seq (its.set j u).toArray n }:=by
 simp[Obj.mapSeq]
theorem Inv.lst(I:Inv X EF σ H s)(h:H p=some (.lst xs)) :
  ∃(its:List Value)(n:Nat),bc xs its/\s.heap.get? p=some { cls:=.type "list",data:=.seq its.toArray n }/\xs.length<=sizeLine:=by
 obtain⟨z,its,n,r,e⟩:=I.hok p _ h
 exact⟨its,n,r,e,z⟩
theorem Inv.lstUpd{EF:List (Addr×Obj)}{σ:St}{H:Hp}{s:Shared}{p:Addr}{xs ys:List V}{its its':List Value}{n n':Nat}{f:Obj->Obj}(I:Inv X EF σ H s)(h:H p=some (.lst xs))
  (ho:s.heap.get? p=some { cls:=.type "list",data:=.seq its.toArray n })(hf:f { cls:=.type "list",data:=.seq its.toArray n }={ cls:=.type "list",data:=.seq its'.toArray n' })(r:bc ys its')(hz:ys.length<=sizeLine)(t:Nat) :
  Inv X EF σ (upd H p (.lst ys)) { s with heap:=s.heap.update p f,toks:=t }:=by
 have e:(s.heap.update p f).get? p=some { cls:=.type "list",data:=.seq its'.toArray n' }:=by
  rw[Heap.get?_update_self f ho (by rw[hf]<;>rfl),hf]
 refine I.write (x:=p) (e:=p) (by rw[h];trivial) (.inl rfl) (fun b u hb q=>(Heap.get?_update_other _ _ (Ne.symm hb)).trans q) ⟨_,e⟩ ?_
 exact⟨hz,its',n',r,e⟩
def W2:V->V->V->Hp->(Hp->Prop)->Prop:=fun o i v H Q=>∃p xs k j,o=.ref p/\i=.int k/\H p=some (.lst xs)/\ly xs.length k=some j/\Q (upd H p (.lst (xs.set j v)))
theorem pE:Jo X W2:=by
 intro EF s σ H o i v ov iv u Q I ro ri rv h
 obtain⟨p,xs,k,j,rfl,rfl,hp,hj,q⟩:=h
 cases ro
 obtain⟨t,rfl⟩:=ri
 obtain⟨its,n,r,ho,hz⟩:=I.lst hp
 obtain⟨h1,h2,h3,h4⟩:=Xs hj
 have hl:=r.length
 have hn:=d9
 have I':Inv X EF σ (upd H p (.lst (xs.set j v))) { s with heap:=s.heap.update p (Obj.mapSeq (·.setIfInBounds j u)) }:=
  I.lstUpd hp ho (kU its n j u) (r.set rv j) (by rw[List.length_set];exact hz) s.toks
 by_cases h0:0<=k
 ·have hk:k.toNat=j:=by
   rw[seqIndex_of h0 h4] at h1
   exact FP h1
  exact PySem.W.ki_setAt ho h0 (by omega) (by rw[EM,<-hl];exact h4) (by rw[hk];exact⟨_,I',q⟩)
 ·have hk:(k+(its.toArray.size:Int)).toNat=j:=by
   rw[seqIndex_neg (by omega) h3] at h1
   rw[EM,<-hl]
   exact FP h1
  exact PySem.W.ki_setBack ho (by omega) (by rw[EM,<-hl];exact h3) (by omega) (by rw[hk];exact⟨_,I',q⟩)
theorem fN(lo hi:Option Int)(n:Nat):(sliceBounds lo hi none n).1=((HT.sIx n 0 lo:Nat):Int)/\(sliceBounds lo hi none n).2.1=((HT.sIx n n hi:Nat):Int)/\(sliceBounds lo hi none n).2.2=1:=by
 refine⟨?_,?_,rfl⟩
 ·cases lo with
  |none=>simp[sliceBounds,HT.sIx]
  |some i =>
   simp only[sliceBounds,HT.sIx,Option.getD_none,show(1:Int) > 0 by decide,if_true]
   by_cases h:i<0
   ·simp only[h,if_true]<;>omega
   ·simp only[h,if_false]<;>omega
 ·cases hi with
  |none=>simp[sliceBounds,HT.sIx]
  |some i =>
   simp only[sliceBounds,HT.sIx,Option.getD_none,show(1:Int) > 0 by decide,if_true]
   by_cases h:i<0
   ·simp only[h,if_true]<;>omega
   ·simp only[h,if_false]<;>omega
theorem eC(its:List Value)(lo hi:Option Int):slicePick its.toArray lo hi none=((its.drop (HT.sIx its.length 0 lo)).take (HT.sIx its.length its.length hi - HT.sIx its.length 0 lo)).toArray:=by
 obtain⟨h1,h2,h3⟩:=fN lo hi its.toArray.size
 unfold slicePick
 rw[h1,h2,h3]
 simp only[sliceRange_one,pick_run,EM]<;>rfl
def rSlL(K:PySem.W.Frag):V->Option Int->Option Int->Hp->VK->Prop:=fun x lo hi H Q=>∃a xs,x=.ref a/\bx K H a xs/\∀p,H p=none->Q (.ref p) (upd H p (.lst (uw xs lo hi)))
theorem sR:j7 X (rSlL X.K):=by
 intro EF s σ H x v vl vu lo hi sl Q I rx hs pl pu h
 obtain⟨a,xs,rfl,hx,q⟩:=h
 cases rx
 obtain⟨its,r,ht,hz⟩:=I.list hx
 have hlen:=r.length
 refine⟨"list",_,slot_list_getitem.lookup,ht.isList.typeIs,?_⟩
 refine wpAny_getItem_list_slice ht.isList hs pl pu .none (by simp) ?_ (by rw[EM]<;>omega)
 rw[eC,<-hlen]
 refine⟨.ref s.heap.objs.size,_,I.laid (t':=s.toks) (o:=.lst (uw xs lo hi)) (fun b ob q=>EI _ q) (EN _) ?_,rfl,q _ (I.hok.fresh (EN _))⟩
 exact⟨FA (Rq xs lo hi) hz,_,0,(r.drop (HT.sIx xs.length 0 lo)).take (HT.sIx xs.length xs.length hi - HT.sIx xs.length 0 lo),EW _ rfl⟩
def jw:V->Bool
 |.non=>true
 |.bl _=>true
 |.int _=>true
 |.str _=>true
 |_=>false
noncomputable def jh:V->V->Bool
 |.non,.non=>true
 |.bl a,.bl b=>a == b
 |.bl a,.int b=>(if a then 1 else 0) == b
 |.int a,.bl b=>a == (if b then 1 else 0)
 |.int a,.int b=>a == b
 |.str a,.str b=>a == b
 |_,_=>false
theorem Zs(ry:az y u)(rx:az x v)(fy:jw y=true)(fx:jw x=true):SeqAt.EqAt A s u v (jh y x):=by
 cases y with
 |non =>
  cases ry
  cases x with
  |non=>cases rx;exact SeqAt.EqAt.same _
  |bl b=>cases rx;exact SeqAt.EqAt.none_bool b
  |int b=>obtain⟨t,rfl⟩:=rx;exact SeqAt.EqAt.none_int b t
  |str b=>obtain⟨t,rfl⟩:=rx;exact SeqAt.EqAt.none_str b t
  |_=>exact absurd (show false=true from fx) EG
 |bl a =>
  cases ry
  cases x with
  |non=>cases rx;exact SeqAt.EqAt.bool_none a
  |bl b=>cases rx;exact SeqAt.EqAt.bool_bool a b
  |int b=>obtain⟨t,rfl⟩:=rx;exact SeqAt.EqAt.bool_int a b t
  |str b=>obtain⟨t,rfl⟩:=rx;exact SeqAt.EqAt.bool_str a b t
  |_=>exact absurd (show false=true from fx) EG
 |int a =>
  obtain⟨t',rfl⟩:=ry
  cases x with
  |non=>cases rx;exact SeqAt.EqAt.int_none a t'
  |bl b=>cases rx;exact SeqAt.EqAt.int_bool a t' b
  |int b=>obtain⟨t,rfl⟩:=rx;exact SeqAt.EqAt.int_int a t' b t
  |str b=>obtain⟨t,rfl⟩:=rx;exact SeqAt.EqAt.int_str a t' b t
  |_=>exact absurd (show false=true from fx) EG
 |str a =>
  obtain⟨t',rfl⟩:=ry
  cases x with
  |non=>cases rx;exact SeqAt.EqAt.str_none a t'
  |bl b=>cases rx;exact SeqAt.EqAt.str_bool a t' b
  |int b=>obtain⟨t,rfl⟩:=rx;exact SeqAt.EqAt.str_int a t' b t
  |str b=>obtain⟨t,rfl⟩:=rx;exact SeqAt.EqAt.str_str a t' b t
  |_=>exact absurd (show false=true from fx) EG
 |_=>exact absurd (show false=true from fy) EG
noncomputable def sx(x:V)(u:Value):Bool:=match u with
 |.none=>jh .non x
 |.bool b=>jh (.bl b) x
 |.int i _=>jh (.int i) x
 |.str z _=>jh (.str z) x
 |_=>false
theorem Iq(r:az y u)(f:jw y=true):sx x u=jh y x:=by
 cases y with
 |non=>cases r;rfl
 |bl b=>cases r;rfl
 |int i=>obtain⟨t,rfl⟩:=r;rfl
 |str z=>obtain⟨t,rfl⟩:=r;rfl
 |_=>exact absurd (show false=true from f) EG
theorem Mb(rx:az x v)(fx:jw x=true):∀{xs:List V}{us:List Value},bc xs us->xs.all jw=true->∀u∈us,SeqAt.EqAt A s u v (sx x u)
 |_,_,.nil,_=>fun u hu=>by cases hu
 |y::xs,u::us,.cons r t,f=>fun u' hu=>by
  rw[List.all_cons,FE] at f
  rcases List.mem_cons.mp hu with rfl|hu
  ·rw[Iq r f.1];exact Zs r rx f.1 fx
  ·exact Mb rx fx t f.2 u' hu
theorem gC:fc X (compareOp .NotIn) (fun x y H Q=>∃i j,x=.str i/\y=.str j/\Q (.bl (!(!(Builtin.Str.occurrences j i 0 j.length 1).isEmpty))) H):=by
 intro EF s σ H x y v u Q I rx ry h
 obtain⟨i,j,rfl,rfl,q⟩:=h
 obtain⟨t,rfl⟩:=rx
 obtain⟨t',rfl⟩:=ry
 exact notIn_str ⟨.bl _,H,I,rfl,q⟩
theorem gU:sj X (.builtin "len") (fun xs H Q=>∃p ys,xs=[.ref p]/\(bx X.K H p ys\/fu X.K H p ys)/\Q (.int ys.length) H):=by
 intro EF s σ H xs us Q I r h
 obtain⟨p,ys,rfl,hq,q⟩:=h
 obtain⟨u,rfl,rx⟩:=yb r
 cases rx
 have hn:=d9
 rcases hq with hq|hq
 ·obtain⟨its,r',pl,hz⟩:=I.list hq
  have hlen:=r'.length
  exact Calls.call_len_list pl.isList (by simp only[EM]<;>omega) ⟨.int ys.length,H,I.tok _,⟨s.toks+1,by rw[EM,hlen]⟩,q⟩
 ·obtain⟨its,r',pl,hz⟩:=I.tuple hq
  have hlen:=r'.length
  exact len_tuple pl (by simp only[EM]<;>omega) ⟨.int ys.length,H,I.tok _,⟨s.toks+1,by rw[EM,hlen]⟩,q⟩
theorem gT:sj X (.builtin "len") (fun xs H Q=>∃z,xs=[.str z]/\z.length<=sizeLine/\Q (.int z.length) H):=by
 intro EF s σ H xs us Q I r h
 obtain⟨z,rfl,hz,q⟩:=h
 obtain⟨u,rfl,t,rfl⟩:=yb r
 have hn:=d9
 exact len_str (by omega) ⟨.int z.length,H,I.tok _,⟨_,rfl⟩,q⟩
theorem gS:sj X (.type "list") (fun xs H Q=>∃p ys,xs=[.ref p]/\(bx X.K H p ys\/fu X.K H p ys)/\∀l,H l=none->Q (.ref l) (upd H l (.lst ys))):=by
 intro EF s σ H xs us Q I r h
 obtain⟨p,ys,rfl,hq,q⟩:=h
 obtain⟨u,rfl,rx⟩:=yb r
 cases rx
 have fin:∀(its:List Value),bc ys its->ys.length<=sizeLine->∀(h':Heap)(c':Nat),(∀b o',s.heap.get? b=some o'->h'.get? b=some o') ->
   h'.get? s.heap.objs.size=some { cls:=.type "list",dict:=none,data:=.seq its.toArray c',slots:=#[] }->EP X EF σ Q (.ref s.heap.objs.size) { s with heap:=h' }:=fun its r' hz h' c' kp e =>
  ⟨.ref s.heap.objs.size,_,I.laid (t':=s.toks) kp (EN _) (show gm X.prog X.w _ h' _ (.lst ys) from⟨hz,its,c',r',e⟩),rfl,q _ (I.hok.fresh (EN _))⟩
 rcases hq with hq|hq
 ·obtain⟨its,r',pl,hz⟩:=I.list hq
  have hlen:=r'.length
  obtain⟨o,ho,hc,n,hd⟩:=pl.isList
  exact call_list_seq p (.inl rfl) ho hc hd (fun h' c' kp e=>fin its r' hz h' c' kp e) (by simp only[EM]<;>omega)
 ·obtain⟨its,r',pl,hz⟩:=I.tuple hq
  have hlen:=r'.length
  obtain⟨o,ho,hc,n,hd⟩:=pl
  exact call_list_seq p (.inr rfl) ho hc hd (fun h' c' kp e=>fin its r' hz h' c' kp e) (by simp only[EM]<;>omega)
theorem Qg:sj X (.type "tuple") (fun xs H Q=>∃p ys,xs=[.ref p]/\((bx X.K H p ys/\∀l,H l=none->Q (.ref l) (upd H l (.tup ys)))\/(fu X.K H p ys/\Q (.ref p) H))):=by
 intro EF s σ H xs us Q I r h
 obtain⟨p,ys,rfl,h⟩:=h
 obtain⟨u,rfl,rx⟩:=yb r
 cases rx
 rcases h with⟨hq,q⟩|⟨hq,q⟩
 ·obtain⟨its,r',pl,hz⟩:=I.list hq
  have hlen:=r'.length
  refine call_tuple_list pl.isList (fun h' kp=>?_) (by simp only[EM]<;>omega)
  have I1:Inv X EF σ H { s with heap:=h' }:=I.kept (t':=s.toks) kp
  have I2:Inv X EF σ (upd H h'.objs.size (.tup ys)) { s with heap:=h'.push { cls:=.type "tuple",data:=.seq its.toArray } }:=
   I1.laid (t':=s.toks) (fun b o e=>EI _ e) (EN _) (show gm X.prog X.w _ _ _ (.tup ys) from⟨hz,its,r',IsTup.new _ _⟩)
  exact⟨.ref h'.objs.size,_,I2,rfl,q _ (I1.hok.fresh (EN _))⟩
 ·obtain⟨its,r',pl,hz⟩:=I.tuple hq
  exact call_tuple_same pl ⟨.ref p,H,I,rfl,q⟩
def Fz(K:PySem.W.Frag)(T:String)(x:V)(H:Hp):Prop:=match x with
 |.str _=>T = "str"
 |.int _=>T = "int"
 | .ref p=>(T = "list"/\∃xs,bx K H p xs)\/(T = "tuple"/\∃o,K.lookup p=some o/\o.cls=.type "tuple"/\o.dict=none) ∨
   (T = "dict"/\((∃kvs,H p=some (.dK kvs))\/∃kvs,H p=some (.dT kvs)))\/(T = "set"/\∃S n,H p=some (.set S n))
 |_=>False
theorem Yt(I:Inv X EF σ H s)(r:az x v)(ty:Fz X.K T x H) :
  s.TypeIs v T/\∀a,v=.ref a->∃ob,s.heap.get? a=some ob/\ob.dict=none:=by
 cases x with
 |str z =>
  obtain⟨t,rfl⟩:=r
  cases (show T = "str" from ty)
  exact⟨typeIs_str s z t,fun _ e=>nomatch e⟩
 |int i =>
  obtain⟨t,rfl⟩:=r
  cases (show T = "int" from ty)
  exact⟨typeIs_int s i t,fun _ e=>nomatch e⟩
 | ref p =>
  cases r
  rcases ty with⟨rfl,xs,hq⟩|⟨rfl,o,hk,hc,hd⟩|⟨rfl,hk⟩|⟨rfl,S,n,hk⟩
  ·obtain⟨its,_,pl,_⟩:=I.list hq
   refine⟨pl.isList.typeIs,fun a e=>?_⟩
   cases e
   obtain⟨o,n,e,c,hd,_⟩:=pl
   exact⟨o,e,hd⟩
  ·refine⟨⟨o,I.kIn p o hk,hc⟩,fun a e=>?_⟩
   cases e
   exact⟨o,I.kIn _ o hk,hd⟩
  ·have z:∃o,s.heap.get? p=some o/\o.ExactDict:=by
    rcases hk with⟨kvs,hk⟩|⟨kvs,hk⟩
    ·obtain⟨_,_,_,_,o,_,_,e,ex,_⟩:=I.hok p _ hk
     exact⟨o,e,ex⟩
    ·obtain⟨_,_,_,_,o,_,_,e,ex,_⟩:=I.hok p _ hk
     exact⟨o,e,ex⟩
   obtain⟨o,e,ex⟩:=z
   refine⟨⟨o,e,ex.1⟩,fun a e2=>?_⟩
   cases e2
   exact⟨o,e,ex.2.1⟩
  ·obtain⟨o,_,_,_,e,ex,_⟩:=I.hok p _ hk
   refine⟨⟨o,e,ex.1⟩,fun a e2=>?_⟩
   cases e2
   exact⟨o,e,ex.2.1⟩
 |_=>exact False.elim ty
def tBM0(K:PySem.W.Frag)(T:String)(r:V->List V->Hp->VK->Prop)(to:TE):TE:=fun σ H Q=>to σ H fun x H1=>Fz K T x H1/\r x [] H1 Q
def tBM(K:PySem.W.Frag)(T:String)(r:V->List V->Hp->VK->Prop)(to:TE)(t:TA):TE:=fun σ H Q=>to σ H fun x H1=>Fz K T x H1/\t σ H1 fun xs H2=>r x xs H2 Q
variable {o e:Expr} {es:List Expr} {to:TE} {t:TA} {name:Str} {apos cpos:Pos} {T id:String} {r:V->List V->Hp->VK->Prop}
theorem yD(pa:PlainAttrs T)(slot:Slot T name id)(hty:typeOf (.builtin id)=pure (.type "method_descriptor"))(hm:oz X id r)(ho:PE X o to)
  (hbase:attributeBase o name X.env (eval o X.env)=eval o X.env:=by rfl)(hline:(apos.endLine == cpos.line)=true:=by rfl):PE X (.Call (.Attribute o name apos) [] [] cpos) (tBM0 X.K T r to):=by
 intro EF s σ H Q I h
 refine wpAny_Call_method0_late hbase hline (bj (ho EF s σ H _ I h) fun v s1 ⟨x,H1,I1,r1,ty,q1⟩=>?_)
 obtain⟨h1,h2⟩:=Yt I1 r1 ty
 exact⟨T,id,pa,slot,hty,h1,h2,Calls.callWith_builtin rfl (PySem.evalArgs_none (hm EF s1 σ H1 x [] v [] Q I1 r1 .nil q1))⟩
theorem X1(pa:PlainAttrs T)(slot:Slot T name id)(hty:typeOf (.builtin id)=pure (.type "method_descriptor"))(hm:oz X id r)(ho:PE X o to)(ha:PA X (e::es) t)
  (hbase:attributeBase o name X.env (eval o X.env)=eval o X.env:=by rfl)
  (hfew:((backTo cpos (starEach (e::es) X.env)).all (fun x=>!x.1)&&(backToKw cpos (keywordEach [] X.env)).all (fun x=>x.1.isSome)
   && decide ((e::es).length+([]:List Keyword).length+(if ([]:List Keyword).isEmpty then 0 else 1)<30))=true:=by rfl)
  (hline:(apos.endLine == cpos.line)=true:=by rfl)(hs:starEach (e::es) X.env=(false,eval e X.env)::starEach es X.env:=by rfl)(hplain:(backTo cpos (starEach es X.env)).any (·.1)=false:=by rfl) :
  PE X (.Call (.Attribute o name apos) (e::es) [] cpos) (tBM X.K T r to t):=by
 intro EF s σ H Q I h
 refine wpAny_Call_method_late hbase hfew hline rfl (bj (ho EF s σ H _ I h) fun v s1 ⟨x,H1,I1,r1,ty,q1⟩=>?_)
 obtain⟨h1,h2⟩:=Yt I1 r1 ty
 refine⟨T,id,pa,slot,hty,h1,h2,?_⟩
 have hA:=ha cpos EF s1 σ H1 _ I1 q1
 rw[hs] at hA ⊢
 refine Calls.callWith_builtin (by show(false||(backTo cpos (starEach es X.env)).any (·.1))=false;rw[hplain]<;>rfl) (Calls.evalArgs_plain ?_)
 exact bj hA fun us s2 ⟨vs,H2,I2,r2,q2⟩=>hm EF s2 σ H2 x vs v us Q I2 r1 r2 q2
end
def MtM(X:Cx)(id:String)(r:V->List V->Hp->VK->Prop):Prop:=
 ∀(EF:List (Addr×Obj))(s:Shared)(σ:St)(H:Hp)(x:V)(xs:List V)(v:Value)(us:List Value)(Q:VK),Inv X EF σ H s->az x v->bc xs us->r x xs H Q ->
  wpAny (model X.prog X.w) X.A (call (.builtin id) (v::us)) (EP X EF σ Q) X.xe s
theorem bc.one:∀{x:V}{us:List Value},bc [x] us->∃u,us=[u]/\az x u
 |_,_,.cons r .nil=>⟨_,rfl,r⟩
theorem bc.rep(h:bc xs us):∀k:Nat,bc (List.replicate k xs).flatten (List.replicate k us).flatten
 |0=>.nil
 |k+1=>by
  rw[List.replicate_succ,List.replicate_succ,List.flatten_cons,List.flatten_cons]
  exact bc.append h (bc.rep h k)
theorem Ln(its:List Value):∀(k:Nat)(acc:List Value),
  List.foldl (fun x1 x2=>x1++x2) acc.toArray (List.replicate k its.toArray)=(acc++(List.replicate k its).flatten).toArray
 |0,acc=>by simp
 | k+1,acc=>by
  have e:acc.toArray++its.toArray=(acc++its).toArray:=by simp
  have e2:(acc++its)++(List.replicate k its).flatten=acc++(List.replicate (k+1) its).flatten:=by
   rw[List.replicate_succ,List.flatten_cons,List.append_assoc]
  rw[<-e2,<-Ln its k (acc++its),<-e,List.replicate_succ,List.foldl_cons]
section
variable {X:Cx} {EF:List (Addr×Obj)} {σ:St} {H:Hp} {s:Shared} {l b:Addr} {xs ys zs:List V}
theorem Inv.lset{its its':List Value}{n:Nat}{f:Array Value->Array Value}{t':Nat}(I:Inv X EF σ H s)(hH:H l=some (.lst xs))
  (e:s.heap.get? l=some { cls:=.type "list",data:=.seq its.toArray n })(hf:f its.toArray=its'.toArray)(hv:bc ys its')(hz:ys.length<=sizeLine) :
  Inv X EF σ (upd H l (.lst ys)) { s with heap:=s.heap.update l (Obj.mapSeq f),toks:=t' }:=by
 have q:=PySem.IsL.update e f
 rw[hf] at q
 refine I.write (x:=l) (e:=l) (by rw[hH];exact trivial) (.inl rfl) (fun b' u hb hu=>(Heap.get?_update_other s.heap (Obj.mapSeq f) (Ne.symm hb)).trans hu) ⟨_,q⟩ ?_
 exact⟨hz,its',_,hv,q⟩
theorem Inv.lnew(I:Inv X EF σ H s)(hv:bc ys its)(hz:ys.length<=sizeLine) :
  Inv X EF σ (upd H s.heap.objs.size (.lst ys)) { s with heap:=s.heap.push { cls:=.type "list",data:=.seq its.toArray },toks:=t' }:=
 I.laid (fun _ _ q=>EI _ q) (EN _) ⟨hz,its,0,hv,EW _ rfl⟩
theorem Inv.fresh(I:Inv X EF σ H s):H s.heap.objs.size=none:=I.hok.fresh (EN _)
theorem Inv.lstM(I:Inv X EF σ H s)(hH:H l=some (.lst xs)):xs.length<=sizeLine/\∃(its:List Value)(n:Nat),bc xs its/\xs.length=its.length/\s.heap.get? l=some { cls:=.type "list",data:=.seq its.toArray n }:=by
 obtain⟨z,its,n,r,e⟩:=I.hok l _ hH
 exact⟨z,its,n,r,r.length,e⟩
theorem Vz(h:n<=sizeLine):Builtin.List.listTooLong n=false:=by
 unfold Builtin.List.listTooLong
 exact FR (by omega)
end
section
variable {X:Cx}
def tI:V->List V->Hp->VK->Prop:=fun x vs H Q=>∃l xs y,x=.ref l/\vs=[y]/\H l=some (.lst xs)/\xs.length<sizeLine/\Q .non (upd H l (.lst (xs++[y])))
theorem nH:MtM X "list.append" tI:=by
 intro EF s σ H x vs v us Q I rx rv h
 obtain⟨l,xs,y,rfl,rfl,hH,hz,q⟩:=h
 cases rx
 obtain⟨u,rfl,ru⟩:=rv.one
 obtain⟨z,its,n,r,hl,e⟩:=I.lstM hH
 refine call_meets F.slot_list_append ⟨_,e,rfl⟩ F.entry_list_append (F.args_list_append_2 _ _) (PySem.list_append l its.toArray n u (by rw[EM];omega)) ⟨e,?_⟩
 refine⟨.non,_,I.lset (its':=its++[u]) hH e (by simp) (r.append (.cons ru .nil)) ?_,rfl,q⟩
 rw[ES,FD]
 omega
theorem Xn(xs:List α)(k:Nat):(List.replicate k xs).flatten.length=k*xs.length:=by
 induction k with
 |zero=>simp
 |succ k ih=>rw[List.replicate_succ,List.flatten_cons,ES,ih,Nat.succ_mul,Nat.add_comm]
end
section
variable {prog:Program} {w:World} {A:Around} {E:Value->Shared->Prop} {s:Shared}
end
section
variable {X:Cx}
end
end L2
namespace Att
open PySem PySem.W PySem.Calls PyProof.Rows
theorem dE:∀(ns:List Int)(vs:List Value),WellAll P h vs (ns.map WData.int)->IntsAre vs ns:=by
 intro ns
 induction ns with
 |nil =>
  intro vs w
  rw[List.map_nil] at w
  cases w
  exact .nil
 | cons n ns ih =>
  intro vs w
  rw[FN] at w
  cases w with
  |cons a b =>
   cases a
   exact .cons _ _ (ih _ b)
theorem mH{l:OpenLaw}{n:Nat}(hn:l.most=some n){P:Params}{h:Heap}{args:List WData}{vals:List Value}
  (hpre:l.row.toRowW.claim.pre args=true)(hwl:WellAll P h vals args) :
  ∃a vs ns,vals=[Value.ref a]/\args=[WData.list (ns.map WData.int)]/\h.get? a=some { cls:=.type "list",data:=.seq vs.toArray }/\IntsAre vs ns/\ns.length<=n:=by
 have hsh:WShape.hasAll [] args [.list .int]=true:=(pre_splitW hpre).1
 have hc:l.pre.holds [] { args:=args }=true:=(pre_splitW hpre).2
 obtain⟨d,r,rfl,h1,h2⟩:=hasAllW_cons hsh
 obtain rfl:=hasAllW_nil h2
 obtain⟨xs,rfl,h3⟩:=hasW_list h1
 obtain⟨ns,rfl⟩:=items_int h3
 have hlen:ns.length<=n:=by
  unfold OpenLaw.pre at hc
  have h4:(WTm.not (.lt (.lit (.int (n:Int))) (.len (.arg 0)))).holds [] { args:=[.list (ns.map .int)] }=true:=by
   have h4:=(holds_andW hc).1
   rw[hn] at h4
   exact h4
  have h5:=condW_of h4 (w_not (w_lt w_lit (w_len_list (w_arg rfl))))
  rw[EQ] at h5
  refine Nat.le_of_not_lt fun q=>?_
  have q':(n:Int)<((ns.length:Nat):Int):=by omega
  first
   |(rw[decide_eq_true q'] at h5;exact absurd h5 (by decide))
   |(simp at h5;omega)
 cases hwl with
 |cons w1 w2 =>
  cases w2
  cases w1 with
  |list ho hall=>exact⟨_,_,ns,rfl,rfl,ho,dE ns _ hall,hlen⟩
theorem mL(l:OpenLaw)(args:List WData):l.row.toRowW.claim.post args (.bool true) args=true:=
 postW_of (r:=l.row.toRowW) (X:=(true == true))
  (show WShape.has [] (.bool true) .bool=true by first|rfl|decide|simp[WShape.has,WShape.arms,WShape.armsAll])
  (show(WTm.eq .res (.lit (.bool true))).value [] { args:=args,res:=some (.bool true),after:=args }=some (.bool (true == true)) from w_eq_bool (w_res rfl) w_lit) rfl
theorem attach_call{l:OpenLaw}{n:Nat}{q:Program}{loose:List Str}{XP:(Str->Option Value)->Heap->Prop}{YP:World->Heap->Prop}{d:DefRec}
  (hn:l.most=some n)(hdf:d.params.defaults=[])
  (call:∀(w:World)(s₀ s₁:Shared)(mg mb:Str->Option Value)(fa:Addr)(o:Obj)(pm cd doc:Value)(a:Addr)(vs:List Value)(ns:List Int),
   Ground q loose [] XP w s₀ mg mb s₁.heap->YP w s₁.heap ->
   s₁.heap.get? fa=some o->o.data=.func (docDef d.name d.params d.body d.scope pm cd doc)->s₁.heap.CodeRec cd d.name->mg d.name=some (.ref fa) ->
   s₁.heap.get? a=some { cls:=.type "list",data:=.seq vs.toArray }->IntsAre vs ns->ns.length<=n->s₁.gens=#[] ->
   codeAny (model l.prog w) callerA (.call (.ref fa) ⟨[.ref a],[]⟩) (fun r s'=>r=.ok (.ret (.bool true))/\OldK s₁.heap s'.heap/\s'.os=s₁.os/\AllBare s'.gens) s₁) :
  WalkO q loose XP YP l.row.toRowW d [] (fun f vs=>PySem.call f vs):=by
 intro w s₀ s₁ mg mb G Y fa o pm cd doc dV kV ho hd hcd hD hmg hg args vals as hpre hlay hrd hwl hlo
 obtain rfl:dV=.none:=Dflts.none hD hdf
 obtain rfl:kV=.none:=Dflts.noKw hD
 obtain⟨a,vs,ns,rfl,rfl,hobj,hints,hlen⟩:=mH hn hpre hwl
 refine enter_call (codeAny_mono (call w s₀ s₁ mg mb fa o pm cd doc a vs ns G Y ho (fd_plain hd) hcd hmg hobj hints hlen hg) fun r s' hq=>?_)
 obtain⟨rfl,h2,h3,h4⟩:=hq
 exact⟨.inl ⟨.bool true,.bool true,[],rfl,fun _=>rfl,.bool true,mL l _,fun _=>⟨List.Pairwise.nil,fun _ hm=>(nomatch hm)⟩⟩,h2,h3,h4⟩
section
variable {prog:Program} {w:World} {A:Around} {E:Value->Shared->Prop} {s:Shared} {K:Frag}
end
end Att
namespace L2
open PySem PySem.Spec PyProof.Rows
theorem Tp:∀{vs:List Value}{ns:List Int},IntsAre vs ns->bc (ns.map V.int) vs
 |_,_,.nil=>.nil
 |_,_,.cons n t h=>.cons ⟨t,rfl⟩ (Tp h)
def Pf(H:Hp):Prop:=∀b,H b=none\/∃o xs,H b=some (.frz o (.lst xs))
theorem qY{P:Program}{w:World}{K:PySem.W.Frag}{mg mb:Str->Option Value}{CX:nq}{k:Nat}{fa a:Addr}{fd:FuncData}{x:Str}{sp:Sp}{s₁:Shared}{vs:List Value}{ns:List Int}
  (KX:K.In s₁.heap)(hns:s₁.heap.Ns mainGlobals mg)(hb:s₁.heap.Ns builtinsNs mb)(hbb:∀x:Str,x ≠ "__name__"->mb x=bootBuiltins x)(hlim:s₁.heap.NoLimit)(hg:s₁.gens=#[])
  (ha:s₁.heap.get? a=some { cls:=.type "list",data:=.seq vs.toArray })(hi:IntsAre vs ns)(hl:ns.length<=sizeLine)(hr:Room k callerA)
  (F:∀base:Heap,K.In base->base.Ns mainGlobals mg->FnOk P w K mg base CX k fa fd [x] sp)(hbind:∀(s:Shared)(u:Value),BindsTo s fd ⟨[u],[]⟩ [(x,u)])
  (hsp:∀H:Hp,Pf H->bx K H a (ns.map V.int)->sp [.ref a] H (fun v _=>v=.bl true) fun _ _ _=>False)
  (hCX:∀H e s',CX [] H s₁ (fun _ _ _=>False) e s'->False) :
  codeAny (model P w) callerA (.call (.ref fa) ⟨[.ref a],[]⟩) (fun r s'=>r=.ok (.ret (.bool true))/\OldK s₁.heap s'.heap/\s'.os=s₁.os/\AllBare s'.gens) s₁:=by
 have rv:=Tp hi
 have lenV:=hi.length
 have core:∀H:Hp,Pf H->bx K H a (ns.map V.int)->dz P w H s₁.heap->(∀b,H b≠none->b=a)->(H a≠none->K.lookup a=none) ->
   codeAny (model P w) callerA (.call (.ref fa) ⟨[.ref a],[]⟩) (fun r s'=>r=.ok (.ret (.bool true))/\OldK s₁.heap s'.heap/\s'.os=s₁.os/\AllBare s'.gens) s₁:=by
  intro H hO hS hok hA hK
  have base_of:∀{b:Addr}{o:Obj},s₁.heap.get? b=some o->H b=none->(ut s₁.heap H).get? b=some o:=fun e n=>rE e n
  have noA:∀{b:Addr}{o:Obj}{es:Array DictEntry}{ep:Nat},s₁.heap.get? b=some o->o.data=.dict es ep->H b=none:=fun{b o es ep} e d=>by
   cases q:H b with
   |none=>rfl
   |some u =>
    have e':b=a:=hA b (by rw[q];simp)
    subst e'
    rw[ha] at e;cases e
    have d':Data.seq vs.toArray _=Data.dict es ep:=d
    cases d'
  have nsK:∀{b:Addr}{m:Str->Option Value},s₁.heap.Ns b m->(ut s₁.heap H).Ns b m:=fun{b m} ⟨o,es,ep,e,d,r⟩=>⟨o,es,ep,base_of e (noA e d),d,r⟩
  have hKb:K.In (ut s₁.heap H):=fun b o e=>base_of (KX b o e) (by
   cases q:H b with
   |none=>rfl
   |some u =>
    have e':b=a:=hA b (by rw[q];simp)
    subst e'
    rw[hK (by rw[q];simp)] at e;cases e)
  have hM:Mod K mg (ut s₁.heap H):=⟨hKb,nsK hns,⟨mb,nsK hb,hbb⟩,let ⟨mc,h1,h2⟩:=hlim;⟨mc,nsK h1,h2⟩⟩
  have e0:Env0 P w K mg (ut s₁.heap H) callerA [] s₁ H:=⟨rfl,hM,fun b o e=>uX e,Nat.le_of_eq (nU _ _),trivial,fun b hb=>absurd (show b∈([]:List Addr) from hb) (by simp),hok,.of_eq hg⟩
  refine codeAny_mono ((F _ hKb (nsK hns)).run callerA [] s₁ H ⟨[.ref a],[]⟩ [.ref a] [.ref a] _ _ hr e0 (hbind s₁ (.ref a)) (.cons rfl .nil) (hsp H hO hS)) fun r s' h=>?_
  cases r with
  |error e=>exact(hCX H e s' h).elim
  | ok fl =>
   cases fl with
   |next=>exact False.elim h
   |brk=>exact False.elim h
   |cont=>exact False.elim h
   | ret u =>
    obtain⟨v,H',os,bare,un,hok',r',q⟩:=h
    have q':v=.bl true:=q
    subst q'
    obtain rfl:u=Value.bool true:=r'
    refine⟨rfl,OldK.of_keep fun b o e=>?_,os,bare⟩
    cases q:H b with
    |none=>exact un.keep b o e q (by intro z;exact absurd (show b∈([]:List Addr) from z) (by simp)) (by simp)
    | some u =>
     rcases hO b with z|⟨ob,xs,z⟩
     ·rw[q] at z;cases z
     ·have z2:=un.frzs b ob _ z
      obtain⟨e1,_⟩:=hok b _ z
      obtain⟨e2,_⟩:=hok' b _ z2
      rw[e] at e1;cases e1
      exact e2
 cases hk:K.lookup a with
 |some o =>
  have e:=KX a o hk
  rw[ha] at e
  cases e
  refine core (fun _=>none) (fun _=>.inl rfl) (.inr ⟨_,vs.toArray,_,hk,rfl,rfl,rfl,by rw[EM,lenV];exact hl,by simpa using rv⟩) (fun b u z=>by have z':(none:Option HO)=some u:=z;cases z') (fun b z=>absurd rfl z) fun z=>absurd rfl z
 | none =>
  refine core (fun b=>if b=a then some (.frz { cls:=.type "list",data:=.seq vs.toArray } (.lst (ns.map V.int))) else none) (fun b=>?_) (.inl (.inr ⟨{ cls:=.type "list",data:=.seq vs.toArray },FJ rfl⟩)) (fun b u z=>?_) (fun b z=>?_) fun _=>hk
  ·by_cases hb:b=a
   ·exact .inr ⟨_,_,FJ hb⟩
   ·exact .inl (FK hb)
  ·by_cases hb:b=a
   ·have z':=(FJ hb).symm.trans z
    cases z'
    subst hb
    exact⟨ha,by rw[EQ];exact hl,vs,_,rv,ha⟩
   ·have z':=(FK hb).symm.trans z
    cases z'
  ·by_cases hb:b=a
   ·exact hb
   ·exact absurd (FK hb) z
theorem walk_of{l:PySem.W.OpenLaw}{n k:Nat}{q:Program}{loose:List Str}{XP:(Str->Option Value)->Heap->Prop}{YP:World->Heap->Prop}{d:DefRec}{K:Params->PySem.W.Frag}{CX:World->nq}{sp:World->Sp}{x:Str}
  (hn:l.most=some n)(hn2:n<=sizeLine)(hdf:d.params.defaults=[])(hr:Room k callerA)
  (hY:∀(w:World)(h:Heap),YP w h->(K w.params).In h)
  (F:∀(w:World)(mg:Str->Option Value)(fa:Addr)(h:Heap),(K w.params).In h->h.Ns mainGlobals mg->mg d.name=some (.ref fa) ->
   ∃fd:FuncData,(∀(s:Shared)(u:Value),BindsTo s fd ⟨[u],[]⟩ [(x,u)]) /\
    ∀base:Heap,(K w.params).In base->base.Ns mainGlobals mg->FnOk l.prog w (K w.params) mg base (CX w) k fa fd [x] (sp w))
  (hsp:∀(w:World)(H:Hp)(a:Addr)(ns:List Int),ns.length<=n->Pf H->bx (K w.params) H a (ns.map V.int)->sp w [.ref a] H (fun v _=>v=.bl true) fun _ _ _=>False)
  (hCX:∀(w:World)(H:Hp)(s:Shared)(e:Value)(s':Shared),CX w [] H s (fun _ _ _=>False) e s'->False) :
  PySem.W.WalkO q loose XP YP l.row.toRowW d [] (fun f vs=>PySem.call f vs):=by
 refine Att.attach_call hn hdf fun w s₀ s₁ mg mb fa o pm cd doc a vs ns G Y ho hd hcd hmg hobj hints hlen hg=>?_
 have KX:=hY w _ Y
 obtain⟨fd,hb,hF⟩:=F w mg fa _ KX G.T.g hmg
 exact qY KX G.T.g G.T.b G.T.builtins G.T.nolimit hg hobj hints (FA hlen hn2) hr hF hb (fun H hO hS=>hsp w H a ns hlen hO hS) fun H e s'=>hCX w H s₁ e s'
def rq(s:Stmt):Arguments:=match s with
 |.FunctionDef _ a _ _ _ _ _ _ _ _=>a
 |_=>{ posonlyargs:=[],args:=[],vararg:=none,kwonlyargs:=[],kw_defaults:=[],kwarg:=none,defaults:=[] }
def bq(s:Stmt):List Stmt:=match s with
 |.FunctionDef _ _ b _ _ _ _ _ _ _=>b
 |_=>[]
def ar(s:Stmt):Scope:=match s with
 |.FunctionDef _ _ _ _ _ _ sc _ _ _=>sc
 |_=>{ kind:=.function,names:=[],isGenerator:=false,isCoroutine:=false }
abbrev mq:nq:=fun _ _ _ _ _ _=>False
abbrev E0:XK:=fun _ _ _=>False
theorem X7:Fi mq X E0:=fun _ _ _ _ _ _ _ h=>h.elim
structure Fun (K:PySem.W.Frag) (x qual:Str) (st:Stmt) (f:Addr) (fd:FuncData):Prop where
 ex:∃(oc:Value)(od:Option Addr)(kV doc pm:Value)(an:Option Addr)(cdv ct:Value)(osl:Array (Option Value)),
  fd=PySem.W.fnOf x qual (rq st) (bq st) (ar st) .none kV doc pm an cdv ct/\K.lookup f=some ⟨oc,od,.func fd,osl⟩/\PySem.W.codeIn K cdv qual=true
 kp:PySem.W.keepIn K (.ref f)=true
section
variable {P:Program} {w:World} {K:PySem.W.Frag} {mg:Str->Option Value} {base:Heap}
theorem Fun.ok{x qual:Str}{st:Stmt}{f:Addr}{fd:FuncData}{N ps:List Str}{k:Nat}{sp:Sp}(F:Fun K x qual st f fd)(S:FnScope N ps (ar st))(len:∀vs H Q E,sp vs H Q E->vs.length=ps.length)
  (hbody:∀(cdv:Value)(A:Around)(outer:List Env)(s:Shared)(H:Hp)(vs:List V)(Q:VK)(E:XK),Room k (A.deeper (envOfC qual (ar st) s.heap.objs.size f cdv))->sp vs H Q E ->
   ∃t,ji (uv mq P w K mg base N qual (ar st) f cdv A outer s H E).nox (bq st) t/\t { nx:=fun _ H'=>Q .non H',rt:=Q } (start N vs) H):FnOk P w K mg base mq (k+1) f fd ps sp:=by
 obtain⟨oc,od,kV,doc,pm,an,cdv,ct,osl,rfl,lk,hcd⟩:=F.ex
 refine DT lk hcd S len fun A outer s H vs Q E hr hsp=>?_
 obtain⟨t,h,q⟩:=hbody cdv A outer s H vs Q E hr hsp
 exact⟨t,h.nox,q⟩
theorem Fun.binds{x qual:Str}{st:Stmt}{f:Addr}{fd:FuncData}{ps:List Str}(F:Fun K x qual st f fd)
  (h:∀(kV doc pm:Value)(an:Option Addr)(cdv ct:Value)(us:List Value),us.length=ps.length->bindArgs (PySem.W.fnOf x qual (rq st) (bq st) (ar st) .none kV doc pm an cdv ct) ⟨us,[]⟩=pure (ps.zip us)):jg K fd ps []:=by
 obtain⟨oc,od,kV,doc,pm,an,cdv,ct,osl,rfl,lk,hcd⟩:=F.ex
 exact .all (h kV doc pm an cdv ct)
theorem Zm{x qual:Str}{st:Stmt}{f:Addr}{oc:Value}{od an:Option Addr}{osl:Array (Option Value)}{kV doc pm cdv ct:Value}(l:K.lookup f=some ⟨oc,od,.func (PySem.W.fnOf x qual (rq st) (bq st) (ar st) .none kV doc pm an cdv ct),osl⟩)
  (c:PySem.W.codeIn K cdv qual=true)(k:PySem.W.keepIn K (.ref f)=true):Fun K x qual st f (PySem.W.fnOf x qual (rq st) (bq st) (ar st) .none kV doc pm an cdv ct):=⟨⟨oc,od,kV,doc,pm,an,cdv,ct,osl,rfl,l,c⟩,k⟩
end
theorem mC(h:n<=1000):n<sizeLine:=FH h (by decide)
section
variable {X:Cx}
end
def im(H H':Hp):Prop:=∀b o,H b=some o->H' b=some o
theorem im.refl(H:Hp):im H H:=fun _ _ h=>h
theorem im.trans(a:im H H1)(b:im H1 H2):im H H2:=fun c o h=>b c o (a c o h)
theorem im.free(e:im H H')(h:H' l=Option.none):H l=Option.none:=by
 cases q:H l with
 |none=>rfl
 |some o =>
  rw[e l o q] at h
  cases h
theorem im.seq{K:PySem.W.Frag}{H H':Hp}{a:Addr}{xs:List V}(e:im H H')(h:bx K H a xs):bx K H' a xs:=by
 rcases h with(h|⟨o,h⟩)|h
 ·exact .inl (.inl (e _ _ h))
 ·exact .inl (.inr ⟨o,e _ _ h⟩)
 ·exact .inr h
section
variable {X:Cx}
def rSlS:V->Option Int->Option Int->Hp->VK->Prop:=fun x lo hi H Q=>∃z,x=.str z/\z.length<=sizeLine/\Q (.str (Txt.slice z lo hi)) H
theorem xC:j7 X rSlS:=by
 intro EF s σ H x v vl vu lo hi sl Q I rx hs pl pu h
 obtain⟨z,rfl,hz,q⟩:=h
 obtain⟨t,rfl⟩:=rx
 refine⟨"str",_,F.slot_str_getitem.lookup,typeIs_str _ _ _,?_⟩
 obtain⟨o,ho,hc,hd⟩:=hs
 have fin:∀t' k,EP X EF σ Q (.str (Txt.slice z lo hi) t') { s with toks:=k }:=fun t' k=>⟨.str _,H,I.tok k,⟨t',rfl⟩,q⟩
 cases pl with
 |none =>
  cases pu with
  |none=>exact wpAny_getItem_str_slice (l:=none) (u:=none) (st:=none) ⟨o,ho,hc,hd⟩ rfl (post_val_or_str ⟨FA (Txt.slice_le z _ _) hz,fin⟩)
  |int j uj=>exact wpAny_getItem_str_slice (l:=none) (u:=some (j,uj)) (st:=none) ⟨o,ho,hc,hd⟩ rfl (post_val_or_str ⟨FA (Txt.slice_le z _ _) hz,fin⟩)
 |int i ui =>
  cases pu with
  |none=>exact wpAny_getItem_str_slice (l:=some (i,ui)) (u:=none) (st:=none) ⟨o,ho,hc,hd⟩ rfl (post_val_or_str ⟨FA (Txt.slice_le z _ _) hz,fin⟩)
  |int j uj=>exact wpAny_getItem_str_slice (l:=some (i,ui)) (u:=some (j,uj)) (st:=none) ⟨o,ho,hc,hd⟩ rfl (post_val_or_str ⟨FA (Txt.slice_le z _ _) hz,fin⟩)
end
def Its(x:Str):It:=⟨fun i _=>i<x.cps.size,fun i H v H'=>H'=H/\∃c,x.cps[i]?=some c/\v=.str ⟨#[c]⟩,fun i _=>x.cps.size<=i⟩
theorem Vm{K:PySem.W.Frag}{x:Str}{y:Str}{py:Pos}{St:Nat->Heap->Prop}
  (W:∀A':Around,A'.handled=none->Walks P w A' it [it] [it] x.cps.size (SignAt x) St)(hobj:∀i h,St i h->∃o,h.get? it=some o/\∀v,o.data≠.cell v)(W0:∀(A:Around)(i:Nat)(s:Shared)(Q:Value->Shared->Prop)(E:Value->Shared->Prop),St i s.heap->Q (.ref it) s->wpAny (model P w) A (pyIter (.ref it)) Q E s) :
  Turn P w K (.Name y py) (Its x) [it] it (fun i h=>i<=x.cps.size/\St i h) where
 mem:=by simp
 obj:=fun i h st b hb=>by
  have e:b=it:=by simpa using hb
  subst e
  exact hobj i h st.2
 keep:=fun i h h' st k=>⟨st.1,(W { } rfl).frame i h h' st.2 k⟩
 item:=by
  intro X hP hw hK hc i EF s σ H E I hf st hg
  subst hP hw hK
  obtain⟨f0,f1,f2,f3,f4,f5⟩:=hf it (by simp)
  refine(W X.A (I.ok.hd hc)).item i s _ _ hg st.2 fun v h' tk hv st' kk=>?_
  obtain⟨c,u,hcx,rfl⟩:=hv
  have I1:Inv X EF σ H { s with heap:=h',toks:=tk }:=I.turned (fun b o hb e=>kk b o (by simpa using hb) e) f0 f1 f3 f4 f5
  exact⟨_,rfl,FM ⟨.str ⟨#[c]⟩,H,I1,⟨u,rfl⟩,⟨rfl,c,hcx,rfl⟩,⟨hg,st'⟩,fun b hb=>(hf b hb).1⟩⟩
 done:=by
  intro X hP hw hK hc i EF s σ H E I hf st hg
  subst hP hw hK
  obtain⟨f0,f1,f2,f3,f4,f5⟩:=hf it (by simp)
  have e:i=x.cps.size:=Nat.le_antisymm st.1 hg
  subst e
  exact(W X.A (I.ok.hd hc)).done s _ _ st.2 fun h' tk kk=>⟨rfl,I.turned (fun b o hb e=>kk b o (by simpa using hb) e) f0 f1 f3 f4 f5⟩
 self:=fun A i s Q E st h=>W0 A i s Q E st.2 h
section
variable {X:Cx}
theorem iA{bs:List Bool}(r:bc (bs.map V.bl) its){i:Nat}(h:its.toArray[i]?=some v):v=.bool (bs.getD i false):=by
 have hl:=r.length
 have hi:i<its.length:=by
  have:=Array.getElem?_eq_some_iff.mp h
  obtain⟨h1,_⟩:=this
  simpa using h1
 have hb:i<bs.length:=by rw[EQ] at hl;omega
 obtain⟨u,hu,ru⟩:=r.get (i:=i) (x:=V.bl bs[i]) (by simp[hb])
 have e:some u=some v:=by rw[<-hu,<-h];simp
 have e1:u=v:=FP e
 have e2:u=Value.bool bs[i]:=ru
 rw[<-e1,e2]
 simp[hb]
theorem gB(bs:List Bool):(List.range bs.length).all (fun i=>bs.getD i false)=bs.all id:=by
 rw[Bool.eq_iff_iff]
 simp only[List.all_eq_true,List.mem_range,id]
 constructor
 ·intro h x hx
  obtain⟨i,hi,rfl⟩:=List.mem_iff_getElem.mp hx
  have:=h i hi
  simpa [hi] using this
 ·intro h i hi
  have:=h bs[i] (List.getElem_mem hi)
  simpa [hi] using this
theorem oF(hc:X.calm=true):sj X (.builtin "all") (fun xs H Q=>∃(p:Addr)(bs:List Bool),xs=[.ref p]/\bx X.K H p (bs.map V.bl)/\Q (.bl (bs.all id)) H):=by
 intro EF s σ H xs us Q I r h
 obtain⟨p,bs,rfl,hp,q⟩:=h
 obtain⟨u,rfl,ru⟩:=yb r
 cases ru
 obtain⟨its,rv,pl,hz⟩:=I.list hp
 have hl:=rv.length
 rw[EQ] at hl
 have hlt:p<s.heap.objs.size:=by obtain⟨_,e,_⟩:=pl.isList;exact EL e
 refine call_all_walk (wpAny_pyIter_list pl.isList ?_)
 refine⟨s.heap.objs.size,_,_,_,_,_,fun i=>bs.getD i false,rfl,Walks.list (A:=X.A.in1) (I.ok.hd hc) s.heap.objs.size p (EX hlt) its.toArray,⟨⟨_,EW _ rfl,rfl,rfl⟩,pl.isList.push _⟩,fun i v s' Q' E' hv hq=>?_,fun h' tk kk=>?_⟩
 ·rw[iA rv hv]
  exact wpAny_truthy_bool hq
 ·have e:(List.range its.toArray.size).all (fun i=>bs.getD i false)=bs.all id:=by
   rw[EM,<-hl];exact gB bs
  rw[e]
  refine⟨.bl _,H,I.kept (t':=tk) fun b o e=>kk b o (fun z=>?_) (EI _ e),rfl,q⟩
  have z':b=s.heap.objs.size:=by simpa using z
  exact absurd (EL e) (by rw[z'];exact FF _)
end
noncomputable def iq(env:Env):List (Str×NameKind)->List (Str×Addr)->List (Str×Addr)
 |[],acc=>acc
 |(n,k)::r,acc=>if k=.free then iq env r ((n,(env.cells.lookup n).getD 0)::acc) else iq env r acc
theorem Um(env:Env):∀(l:List (Str×NameKind))(acc:List (Str×Addr)),(∀y∈l,y.2=.free->(env.cells.lookup y.1).isSome=true) ->
  (forIn l acc fun(x:Str×NameKind)(cs:List (Str×Addr))=>(if (x.2 == NameKind.free)=true then(cellOf env x.1 >>= fun a=>(pure (ForInStep.yield ((x.1,a)::cs)):Sem _)) else pure (ForInStep.yield cs)))=(pure (iq env l acc):Sem _)
 |[],acc,_=>by rw[List.forIn_nil];rfl
 | (n,k)::r,acc,h=>by
  rw[List.forIn_cons]
  have hr:=fun acc'=>Um env r acc' (fun y hy=>h y (ER _ hy))
  by_cases hk:k=.free
  ·subst hk
   obtain⟨a,ha⟩:=Option.isSome_iff_exists.mp (h (n,.free) EK rfl)
   have e1:cellOf env n=pure a:=by unfold cellOf;rw[ha]
   have e2:iq env ((n,NameKind.free)::r) acc=iq env r ((n,a)::acc):=by
    show(if NameKind.free=NameKind.free then iq env r ((n,(env.cells.lookup n).getD 0)::acc) else _)=_
    rw[FJ rfl,ha];rfl
   rw[e2]
   have q:=hr ((n,a)::acc)
   rw[<-q]
   show((cellOf env n >>= fun a=>(pure (ForInStep.yield ((n,a)::acc)):Sem _)) >>= _)=_
   rw[e1]
   rfl
  ·have hb:(k == NameKind.free)=false:=by simpa using hk
   have e2:iq env ((n,k)::r) acc=iq env r acc:=by
    show(if k=NameKind.free then _ else iq env r acc)=_
    rw[FK hk]
   rw[e2]
   have q:=hr acc
   rw[<-q]
   show((if (k == NameKind.free)=true then _ else _) >>= _)=_
   rw[hb]
   rfl
theorem wL(h:∀y∈scope.names,y.2=.free->(env.cells.lookup y.1).isSome=true):closureFor scope env=pure (iq env scope.names []):=by
 have q:=Um env scope.names [] h
 unfold closureFor
 rw[<-bind_pure (forIn scope.names [] _)] at q
 first
  |exact q
  |(simp only[bind_pure] at q ⊢;exact q)
theorem Mh(env:Env):∀(l:List (Str×NameKind))(acc:List (Str×Addr)),(∀y∈l,y.2=.free->(env.cells.lookup y.1).isSome=true)->(∀y c,acc.lookup y=some c->env.cells.lookup y=some c) ->
  ∀y c,(iq env l acc).lookup y=some c->env.cells.lookup y=some c
 |[],acc,_,ha,y,c,h=>ha y c h
 | (n,k)::r,acc,hl,ha,y,c,h=>by
  have hl':∀y∈r,y.2=.free->(env.cells.lookup y.1).isSome=true:=fun y hy=>hl y (ER _ hy)
  by_cases hk:k=.free
  ·have e:iq env ((n,k)::r) acc=iq env r ((n,(env.cells.lookup n).getD 0)::acc):=by
    show(if k=NameKind.free then _ else _)=_
    rw[FJ hk]
   rw[e] at h
   refine Mh env r _ hl' (fun z d hz=>?_) y c h
   rw[List.lookup_cons] at hz
   split at hz
   ·rename_i hzn
    have en:z=n:=by simpa using hzn
    cases hz
    obtain⟨a,ha'⟩:=Option.isSome_iff_exists.mp (hl (n,k) EK hk)
    rw[en,ha'];rfl
   ·exact ha z d hz
  ·have e:iq env ((n,k)::r) acc=iq env r acc:=by
    show(if k=NameKind.free then _ else _)=_
    rw[FK hk]
   rw[e] at h
   exact Mh env r _ hl' ha y c h
theorem Mi(env:Env):∀(l:List (Str×NameKind))(acc:List (Str×Addr))(y:Str),(acc.lookup y).isSome=true\/(y,NameKind.free)∈l->∃c,(iq env l acc).lookup y=some c
 |[],acc,y,h=>by
  rcases h with h|h
  ·exact Option.isSome_iff_exists.mp h
  ·cases h
 | (n,k)::r,acc,y,h=>by
  by_cases hk:k=.free
  ·have e:iq env ((n,k)::r) acc=iq env r ((n,(env.cells.lookup n).getD 0)::acc):=by
    show(if k=NameKind.free then _ else _)=_
    rw[FJ hk]
   rw[e]
   refine Mi env r _ y ?_
   rcases h with h|h
   ·left
    rw[List.lookup_cons]
    split
    ·rfl
    ·exact h
   ·rcases List.mem_cons.mp h with h|h
    ·left
     cases h
     rw[List.lookup_cons]
     simp
    ·exact .inr h
  ·have e:iq env ((n,k)::r) acc=iq env r acc:=by
    show(if k=NameKind.free then _ else _)=_
    rw[FK hk]
   rw[e]
   refine Mi env r _ y ?_
   rcases h with h|h
   ·exact .inl h
   ·rcases List.mem_cons.mp h with h|h
    ·cases h;exact absurd rfl hk
    ·exact .inr h
theorem relabel_mem(h:(relabel scope env).names.lookup y=some k):(y,k)∈scope.names\/(y,NameKind.free)∈scope.names:=by
 have m:=PySem.mem_of_lookup h
 obtain⟨⟨n,k'⟩,hm,e⟩:=List.mem_map.mp (show(y,k)∈scope.names.map _ from m)
 dsimp only at e
 split at e
 ·rename_i hc
  cases e
  simp only[FE,beq_iff_eq] at hc
  right
  rw[<-hc.1.1]
  exact hm
 ·cases e
  exact .inl hm
structure CompSc (X:Cx) (scope:Scope) (x:Str) (cl:List (Str×Addr)) (N:List Str) (cap:List Nat):Prop where
 clos:closureFor scope X.env=pure cl
 cell:∀y∈scope.names,y.2≠.cell
 kind:scope.kind=.function
 names:∀y∈scope.names,y.2=.local->scope.names.lookup y.1=some .local
 loc:scope.names.lookup x=some .local
 nd:N.Nodup
 n0:N[0]?=some x
 len:N.length=cap.length+1
 capN:∀(k j:Nat),cap[k]?=some j->N[k+1]?=X.N[j]?
 out:∀(k:Nat)(y:Str),N[k+1]?=some y->X.env.kindOf y=some .cell\/X.env.kindOf y=some .free
 inn:∀(k:Nat)(y:Str),N[k+1]?=some y->(relabel scope X.env).names.lookup y=some .cell\/(relabel scope X.env).names.lookup y=some .free
 sub:∀y c,cl.lookup y=some c->X.env.cells.lookup y=some c
 has:∀y,((relabel scope X.env).names.lookup y=some .cell\/(relabel scope X.env).names.lookup y=some .free)->∃c,cl.lookup y=some c
noncomputable def ie(X:Cx)(scope:Scope)(cl:List (Str×Addr))(C:Addr)(N:List Str)(s:Shared)(H:Hp)(ex:List Addr):Cx where
 prog:=X.prog
 w:=X.w
 K:=X.K
 mg:=X.mg
 base:=X.base
 A:=X.A
 N:=N
 s₀:=s
 H₀:=H
 env:=compEnvC scope cl C X.env
 outer:=X.stack
 stack:=X.stack
 ex:=ex
 calm:=X.calm
 fn:=fun _=>false
 pn:=[]
 xe:=fun _ _=>False
def kq(cap:List Nat)(σ:St)(x:Option V):St:=x::cap.map fun j=>(σ[j]?).getD none
section
variable {X:Cx} {EF:List (Addr×Obj)} {σ:St} {H:Hp} {s:Shared} {scope:Scope} {x:Str} {cl:List (Str×Addr)} {N:List Str} {cap:List Nat} {C:Addr} {fp:List Addr}
theorem oD(S:CompSc X scope x cl N cap)(I:Inv X EF σ H s)(hC:s.heap.objs.size<=C)(hfp:∀b∈fp,mm X EF H b/\b<s.heap.objs.size):(ie X scope cl C N s H fp).Ok where
 mod:=I.ok.mod
 kind:=S.kind
 glob:=I.ok.glob
 blt:=I.ok.blt
 above:=hC
 inj:=fun y z c h1 h2=>I.ok.inj y z c (S.sub y c h1) (S.sub z c h2)
 has:=fun y h=>S.has y h
 cab:=fun y c h=>by cases h
 hd:=I.ok.hd
 frames:=I.ok.frames
 stk:=.inl rfl
 exf:=fun b hb=>⟨EX (ET (hfp b hb).2 hC),fun y c h=>(hfp b hb).1.2.2.2.2.1 y c (S.sub y c h)⟩
 bs:=I.bs
 bsz:=FA I.ok.bsz I.sz
 noex:=fun b o e hb=>by
  rcases(hfp b hb).1.2.2.2.1 with z|z
  ·exact I.ok.noex b o e z
  ·exact absurd (ET (EL e) (FA I.ok.bsz z)) (FF _)
 exfs:=fun b hb z=>by
  rcases List.mem_cons.mp (I.stkSub b z) with e|e
  ·exact(hfp b hb).1.2.1 e
  ·exact(hfp b hb).1.2.2.1 e
 funs:=I.stack
 frf:=I.stkFree
theorem lM(S:CompSc X scope x cl N cap)(I:Inv X EF σ H s)(hC:s.heap.objs.size<=C)(hfp:∀b∈fp,mm X EF H b/\b<s.heap.objs.size)
  (hns:h₁.Ns C m)(old:∀b o,s.heap.get? b=some o->h₁.get? b=some o):Inv (ie X scope cl C N s H fp) [] (kq cap σ none) H { s with heap:=h₁,toks:=tk }:=by
 refine⟨oD S I hC hfp,rfl,I.bare,Un.kept old,⟨m,hns,fun i y v h1 h2 h3=>?_⟩,fun y c h=>?_,I.hok.fresh hC,fun y c h=>I.freeC y c (S.sub y c h),fun p hp=>absurd (show p∈([]:List (Addr×Obj)) from hp) (by simp),I.hok.kept old,?_⟩
 ·cases i with
  |zero=>exact absurd h2 (by simp[kq])
  | succ k =>
   have h2':(cap.map fun j=>(σ[j]?).getD none)[k]?=some (some v):=by simpa [kq] using h2
   rw[EY] at h2'
   cases ej:cap[k]? with
   |none=>rw[ej] at h2';cases h2'
   | some j =>
    rw[ej] at h2'
    have e1:(σ[j]?).getD none=some v:=by simpa using h2'
    have e2:σ[j]?=some (some v):=by
     cases q:σ[j]? with
     |none=>rw[q] at e1;cases e1
     |some z=>rw[q] at e1;exact congrArg some e1
    have e3:X.N[j]?=some y:=(S.capN k j ej).symm.trans h1
    obtain⟨m2,hn2,hl⟩:=I.loc
    have ko:=S.out k y h1
    have vis:j6 X.env.scope y:=.inr ko
    obtain⟨u,ru,lk⟩:=hl j y v e3 e2 vis
    refine⟨u,ru,.inr ⟨S.inn k y h1,?_⟩⟩
    rcases lk with⟨kl,_⟩|⟨_,c,hc,cell⟩
    ·rcases ko with z|z<;>(rw[z] at kl;cases kl)
    ·obtain⟨c',hc'⟩:=S.has y (S.inn k y h1)
     have e4:=S.sub y c' hc'
     rw[hc] at e4
     cases e4
     obtain⟨o,ho,hd⟩:=cell
     exact⟨c,hc',o,old c o ho,hd⟩
 ·obtain⟨v,o,ho,hd⟩:=I.cell y c (S.sub y c h)
  exact⟨v,o,old c o ho,hd⟩
 ·show(kq cap σ none).length=N.length
  rw[S.len]
  simp[kq]
end
def yw(X:Cx)(ifs:List Expr)(t:TT):Prop:=
 ∀(EF:List (Addr×Obj))(s:Shared)(σ:St)(H:Hp)(Q:Bool->Hp->Prop),Inv X EF σ H s->t σ H Q ->
  wpAny (model X.prog X.w) X.A (forIn ifs true fun c r=>if r=true then do let ok <-isTrue c X.env (eval c X.env);pure (ForInStep.yield ok) else pure (ForInStep.yield r)) (TP X EF σ Q) X.xe s
def aX:TT:=fun _ H Q=>Q true H
theorem Xc:yw X [] aX:=fun _ _ _ H _ I h=>wpAny_tests_nil ⟨H,I,h⟩
theorem tM(h:PT X c t):yw X [c] t:=fun EF s σ H Q I hq=>wpAny_tests_one (h EF s σ H Q I hq)
def aU(cap:List Nat)(tt:TT)(te:TE)(σ:St)(P:List V->Hp->Prop)(J:It)(H1:Hp):Prop:=
  ∃ W:Nat->Nat->List V->Hp->Prop,(∃m,W 0 m [] H1)/\∀i m ys H,W i m ys H->ys.length<sizeLine /\
    ((J.stop i H/\P ys H) ∨
     (J.go i H/\∀v H',J.yld i H v H'->tt (kq cap σ (some v)) H' fun b H2=>if b=true then te (kq cap σ (some v)) H2 fun y H3=>∃m',m'<m/\W (i+1) m' (ys++[y]) H3 else ∃m',m'<m/\W (i+1) m' ys H2))
def Nx(wi:TI)(cap:List Nat)(tt:TT)(te:TE):TE:=fun σ H Q=>wi σ H (aU cap tt te σ fun ys H2=>∀p,H2 p=none->Q (.ref p) (upd H2 p (.lst ys)))
abbrev ql(ys:List Value)(n:Nat):Obj:={ cls:=.type "list",data:=.seq ys.toArray n }
theorem Un.track(u:Un fs ex H H' h h1)(ha:h.objs.size<=a)(hn:H' a=none):Un fs ex H (upd H' a o) h h1 where
 keep:=u.keep
 slot:=u.slot
 free:=fun b ob e n hx=>by rw[du (EX (ET (EL e) ha))];exact u.free b ob e n hx
 there:=u.there
 tups:=fun b xs e=>by have q:=u.tups b xs e;rw[du (lj q hn)];exact q
 frzs:=fun b ob v e=>by have q:=u.frzs b ob v e;rw[du (lj q hn)];exact q
 tbls:=fun b ps e=>by obtain⟨more,q⟩:=u.tbls b ps e;exact⟨more,by rw[du (lj q hn)];exact q⟩
theorem dz.track(x:dz P w H h)(hn:H a=none)(new:gm P w (upd H a o) h a o):dz P w (upd H a o) h:=fun b u e=>by
 by_cases hb:b=a
 ·subst hb;rw[iz] at e;cases e;exact new
 ·rw[du hb] at e
  exact(x b u e).stay (fun c v _ q=>q) (fun c q=>by rw[du (lj q hn)];exact q) fun c xs q=>by rw[du (lj q hn)];exact q
section
variable {X:Cx} {EF:List (Addr×Obj)} {σ:St} {scope:Scope} {x:Str} {px pos:Pos} {cl:List (Str×Addr)} {N:List Str} {cap:List Nat} {elt iter:Expr} {ifs:List Expr} {tt:TT} {te:TE} {E:Value->Shared->Prop}
theorem Uk{P:List V->Hp->Prop}{RR:Value->Addr->Result->Shared->Prop}{tn:Nat->Heap->Prop}(hc:X.calm=true)(S:CompSc X scope x cl N cap)
  (ht:∀C s H ex,yw (ie X scope cl C N s H ex) ifs tt)(he:∀C s H ex,PE (ie X scope cl C N s H ex) elt te)
  (I2:Inv X EF σ H2 s2)(T:Turn X.prog X.w X.K (.Name x px) J fp it tn)(st2:tn 0 s2.heap)(f2:∀b∈fp,mm X EF H2 b)(h:aU cap tt te σ P J H2)
  (hRR:∀(D C:Addr)(s4:Shared)(ys:List V)(H3:Hp)(oC:Obj)(m:Str->Option Value),Inv X (EF++[(C,oC)]) σ (upd H3 D (.lst ys)) s4->(∀h:Heap,h.get? C=some oC->h.Ns C m)->mm X EF (upd H3 D (.lst ys)) C->H3 D=none->P ys H3->RR (.ref D) C (.ok .next) s4) :
  wpAny (model X.prog X.w) X.A (newList []) (fun acc s₃=>wpAny (model X.prog X.w) X.A (newFunctionEnv scope X.env.globals cl [] X.env.qual none .none (some X.env)) (fun cenv s₄ =>
   codeAny (model X.prog X.w) X.A (.compStart (.ListComp elt [⟨.Name x px,iter,ifs,0⟩] scope pos) 0 (.ref it) acc { cenv with scope:=relabel scope X.env }) (RR acc cenv.locals) s₄) E s₃) E s2:=by
 obtain⟨W,⟨m0,w0⟩,turn⟩:=h
 refine wpAny_newObj_type (wpAny_newFunctionEnv S.cell (by intro y hy;simp at hy) (fun h₁ hns₁ hsb₁=>?_) S.kind)
 dsimp only at hns₁ hsb₁ ⊢
 generalize hG:s2.heap.push { cls:=.type "list",dict:=none,data:=.seq ([]:List Value).toArray }=G at hns₁ hsb₁ ⊢
 have hC:G.objs.size=s2.heap.objs.size+1:=by rw[<-hG,Heap.size_push]
 have hDC:s2.heap.objs.size≠G.objs.size:=by rw[hC];exact EX (Nat.lt_succ_self _)
 have hCle:s2.heap.objs.size<=G.objs.size:=by rw[hC];exact Nat.le_succ _
 have old:∀b o,s2.heap.get? b=some o->h₁.get? b=some o:=fun b o e=>by
  have hb:=EL e
  exact hsb₁.extBut b o (by rw[hC];exact EX (Nat.lt_succ_of_lt hb)) (EI _ (hG▸EI _ e))
 have hacc:h₁.get? s2.heap.objs.size=some (ql [] 0):=hsb₁.extBut _ _ hDC (EI _ (hG▸EW _ rfl))
 have flt:∀b∈fp,b<s2.heap.objs.size:=fun b hb=>by obtain⟨o,e,_⟩:=T.obj 0 _ st2 b hb;exact EL e
 have fp2:∀b∈fp,mm X EF H2 b/\b<s2.heap.objs.size:=fun b hb=>⟨f2 b hb,flt b hb⟩
 have st1:tn 0 h₁:=T.keep _ _ _ st2 fun b _ o e=>old b o e
 have fD2:H2 s2.heap.objs.size=none:=I2.hok.fresh (EN _)
 have nDx:∀y c,X.env.cells.lookup y=some c->c≠s2.heap.objs.size/\c≠G.objs.size:=fun y c e=>by
  obtain⟨v,q⟩:=I2.cell y c e
  have:=q.lt
  exact⟨EX this,by rw[hC];exact EX (Nat.lt_succ_of_lt this)⟩
 have nPx:∀p∈X.pn++EF,p.1<s2.heap.objs.size:=fun p hp=>EL (I2.pin p hp).1
 have fpB:∀{H':Hp}{pl:List (Addr×Obj)},(∀b∈fp,H' b=none)->(∀p∈pl,p.1=s2.heap.objs.size)->∀b∈fp,mm (ie X scope cl G.objs.size N s2 H2 fp) pl H' b:=fun{H' pl} hn hp b hb=>by
  refine⟨hn b hb,EX (ET (flt b hb) hCle),fun z=>?_,.inl hb,fun y c e=>(f2 b hb).2.2.2.2.1 y c (S.sub y c e),fun p hq z=>?_⟩
  ·rcases List.mem_cons.mp (I2.stkSub b z) with e|e
   ·exact(f2 b hb).2.1 e
   ·exact(f2 b hb).2.2.1 e
  ·have e1:p.1=s2.heap.objs.size:=hp p (by simpa [ie] using hq)
   rw[e1] at z
   exact absurd (flt b hb) (by rw[<-z];exact FF _)
 have nDfs:s2.heap.objs.size∉frs X.stack:=fun z=>by
  rcases List.mem_cons.mp (I2.stkSub _ z) with e|e
  ·exact absurd I2.lt (by rw[<-e];exact FF _)
  ·exact I2.nofs (EN _) e
 have pinD:∀{σ':St}{H':Hp}{s':Shared}{ob:Obj},Inv (ie X scope cl G.objs.size N s2 H2 fp) [] σ' H' s'->s'.heap.get? s2.heap.objs.size=some ob->(∀v,ob.data≠.cell v)->H' s2.heap.objs.size=none ->
   Inv (ie X scope cl G.objs.size N s2 H2 fp) [(s2.heap.objs.size,ob)] σ' H' s':=fun{σ' H' s' ob} J' e d n=>J'.pins_of fun p hp=>by
  have e1:p=(s2.heap.objs.size,ob):=by simpa using hp
  subst e1
  exact⟨e,n,hDC,nDfs,d⟩
 have nocell:∀(ys:List Value)(n:Nat) v,(ql ys n).data≠.cell v:=fun ys n v z=>by cases (show Data.seq ys.toArray n=Data.cell v from z)
 have loop:∀s₃:Shared,s₃={ s2 with heap:=h₁,toks:=s2.toks+([]:List (Str×Value)).length } ->
   codeAny (model X.prog X.w) X.A (.compLoop (.ListComp elt [⟨.Name x px,iter,ifs,0⟩] scope pos) 0 (.ref it) (.ref s2.heap.objs.size) (compEnvC scope cl G.objs.size X.env)) (RR (.ref s2.heap.objs.size) G.objs.size) s₃:=by
  rintro s₃ rfl
  refine codeAny_compLoop_tests
   (fun n s'=>∃i ys vs e H' a,Inv (ie X scope cl G.objs.size N s2 H2 fp) [(s2.heap.objs.size,ql vs e)] (kq cap σ a) H' s'/\tn i s'.heap/\(∀b∈fp,H' b=none)/\bc ys vs/\H' s2.heap.objs.size=none/\W i n ys H') ?_ m0
   ⟨0,[],[],0,H2,none,pinD (lM S I2 hCle fp2 hns₁ old) hacc (nocell _ _) fD2,st1,fun b hb=>(f2 b hb).1,.nil,fD2,w0⟩
  rintro n s3 ⟨i,ys,vs,e,H3,a,I3,st3,fr3,rel3,fD3,w3⟩
  obtain⟨hlen,hcase⟩:=turn i n ys H3 w3
  have pl1:∀p∈[(s2.heap.objs.size,ql vs e)],p.1=s2.heap.objs.size:=fun p hp=>by
   have e1:p=(s2.heap.objs.size,ql vs e):=by simpa using hp
   rw[e1]
  rcases hcase with⟨stop,fin⟩|⟨go,step⟩
  ·refine FO (T.done (ie X scope cl G.objs.size N s2 H2 fp) rfl rfl rfl hc i _ s3 _ H3 (fun _ _=>False) I3 (fpB fr3 pl1) st3 stop) (fun r s4 ⟨hr,I4⟩=>?_) fun _ _ z=>z.elim
   subst hr
   obtain⟨hD4,hDn,_,_,_⟩:=I4.pin (s2.heap.objs.size,ql vs e) (by simp[ie])
   have un4:Un (frs X.stack) fp H2 H3 s2.heap s4.heap:=I4.base
   have un5:Un (frs X.stack) fp H2 (upd H3 s2.heap.objs.size (.lst ys)) s2.heap s4.heap:=un4.track (EN _) hDn
   have ok5:dz X.prog X.w (upd H3 s2.heap.objs.size (.lst ys)) s4.heap:=dz.track I4.hok hDn ⟨Nat.le_of_lt hlen,vs,e,rel3,hD4⟩
   have I5:Inv X EF σ (upd H3 s2.heap.objs.size (.lst ys)) s4:=I2.call' I4.os un5 ok5 I4.bare fun b hb=>⟨(f2 b hb).2.2.2.1,(f2 b hb).2.1,(f2 b hb).2.2.2.2.1,(f2 b hb).2.2.2.2.2⟩
   obtain⟨m,hnC,_⟩:=I4.loc
   have hnC':s4.heap.Ns G.objs.size m:=hnC
   obtain⟨oC,es,ep,hoC,hdC,hrC⟩:=id hnC'
   have hHC:(upd H3 s2.heap.objs.size (.lst ys)) G.objs.size=none:=by
    rw[du (Ne.symm hDC)]
    exact I4.free
   have fC:mm X EF (upd H3 s2.heap.objs.size (.lst ys)) G.objs.size:=by
    refine⟨hHC,Nat.ne_of_gt (ET I2.lt hCle),I2.nofs hCle,.inr (FA I2.sz hCle),fun y c q=>(nDx y c q).2,fun p hp z=>?_⟩
    have:=nPx p hp
    rw[z] at this
    exact absurd (ET this hCle) (FF _)
   refine hRR s2.heap.objs.size G.objs.size s4 ys H3 oC m (I5.pins_of fun p hp=>?_) (fun h q=>⟨oC,es,ep,q,hdC,hrC⟩) fC hDn fin
   rcases List.mem_append.mp hp with hp|hp
   ·exact I5.pin p (EJ _ hp)
   ·have e1:p=(G.objs.size,oC):=by simpa using hp
    subst e1
    exact⟨hoC,hHC,fC.2.1,fC.2.2.1,fun v z=>by rw[hdC] at z;cases z⟩
  ·refine FO (T.item (ie X scope cl G.objs.size N s2 H2 fp) rfl rfl rfl hc i _ s3 _ H3 (fun _ _=>False) I3 (fpB fr3 pl1) st3 go) (fun r s4 ⟨u,hr,h4⟩=>?_) fun _ _ z=>z.elim
   subst hr
   show wpAny _ _ (letOwnedTupleGo (.Name x px) (.ref it) u >>= fun _=>assign (.Name x px) (compEnvC scope cl G.objs.size X.env) u) _ _ s4
   refine FI (FO h4 (fun _ s5 ⟨v,H5,I5,r5,y5,st5,fr5⟩=>?_) fun _ _ z=>z.elim)
   have I5':=I5.pinned (fpB fr5 pl1) (T.obj _ _ st5)
   have hloc:(ie X scope cl G.objs.size N s2 H2 fp).env.scope.names.lookup x=some .local:=lookup_relabel_local S.loc
   refine FO (Xd (X:=ie X scope cl G.objs.size N s2 H2 fp) (i:=0) (pos:=px) S.nd S.n0 (.inl hloc) (.inr hloc) _ s5 _ H5 v u (fun σ6 H6=>σ6=kq cap σ (some v)/\H6=H5) I5' r5 ⟨rfl,rfl⟩) (fun _ s6 ⟨σ6,H6,I6,e6,e6'⟩=>?_) fun _ _ z=>z.elim
   subst e6 e6'
   refine FO (ht _ _ _ _ _ s6 _ H6 _ I6 (step v H6 y5)) (fun ok s7 ⟨H7,I7,q7⟩=>?_) fun _ _ z=>z.elim
   have after:∀{H8:Hp}{s8:Shared},Inv (ie X scope cl G.objs.size N s2 H2 fp) ([(s2.heap.objs.size,ql vs e)]++Fa fp s5.heap) (kq cap σ (some v)) H8 s8 ->
     tn (i+1) s8.heap/\(∀b∈fp,H8 b=none)/\s8.heap.get? s2.heap.objs.size=some (ql vs e)/\H8 s2.heap.objs.size=none:=fun{H8 s8} I8=>by
    refine⟨T.keep _ _ _ st5 fun b hb o q=>(I8.pin (b,o) (EJ _ (EJ _ (Hh hb q)))).1,fun b hb=>?_,(I8.pin (s2.heap.objs.size,ql vs e) (EJ _ (List.mem_append_left _ EK))).1,(I8.pin (s2.heap.objs.size,ql vs e) (EJ _ (List.mem_append_left _ EK))).2.1⟩
    obtain⟨o,q,_⟩:=T.obj _ _ st5 b hb
    exact(I8.pin (b,o) (EJ _ (EJ _ (Hh hb q)))).2.1
   cases ok with
   |false =>
    rw[FK EG] at q7 ⊢
    obtain⟨m',hm,w7⟩:=q7
    obtain⟨st7,fr7,hD7,fD7⟩:=after I7
    exact⟨m',hm,i+1,ys,vs,e,H7,some v,I7.unpinned,st7,fr7,rel3,fD7,w7⟩
   | true =>
    rw[FJ rfl] at q7 ⊢
    refine FO (he _ _ _ _ _ s7 _ H7 _ I7 q7) (fun yv s8 ⟨y,H8,I8,r8,m',hm,w8⟩=>?_) fun _ _ z=>z.elim
    obtain⟨st8,fr8,hD8,fD8⟩:=after I8
    refine append_at (hsz:=by rw[EM,<-rel3.length];exact Nat.le_of_lt hlen) hD8 fun h9 hs9 hD9=>?_
    have I8u:Inv (ie X scope cl G.objs.size N s2 H2 fp) [] (kq cap σ (some v)) H8 s8:=I8.pins_of fun p hp=>absurd hp (by simp)
    have I9:Inv (ie X scope cl G.objs.size N s2 H2 fp) [] (kq cap σ (some v)) H8 { s8 with heap:=h9 }:=
     I8u.turned (t':=s8.toks) (it:=s2.heap.objs.size) (fun b o hb q=>(hs9.2 b hb).trans q) fD8 hDC (.inr (EN _)) (fun y c q=>(nDx y c (S.sub y c q)).1) fun p hp=>absurd (show p∈([]:List (Addr×Obj)) from hp) (by simp)
    have hD9':h9.get? s2.heap.objs.size=some (ql (vs++[yv]) (e+1)):=by
     rw[hD9]
     show some ({ cls:=.type "list",data:=.seq (vs.toArray.push yv) (e+1) }:Obj)=some { cls:=.type "list",data:=.seq (vs++[yv]).toArray (e+1) }
     rw[List.push_toArray]
    refine⟨m',hm,i+1,ys++[y],vs++[yv],e+1,H8,some v,pinD I9 hD9' (nocell _ _) fD8,?_,fr8,rel3.append (.cons r8 .nil),fD8,w8⟩
    exact T.keep _ _ _ st8 fun b hb o q=>(hs9.2 b (EX (flt b hb))).trans q
 exact codeAny_compStart_list (loop _ rfl) (T.self _ 0 _ _ _ st1 (loop _ rfl))
theorem Xe(hc:X.calm=true)(hi:PI X (.Name x px) iter wi)(S:CompSc X scope x cl N cap)(ht:∀C s H ex,yw (ie X scope cl C N s H ex) ifs tt)(he:∀C s H ex,PE (ie X scope cl C N s H ex) elt te)
  (hs:∀z,foldedSetIterable iter X.env z=pure z:=by intro _;rfl):PE X (.ListComp elt [⟨.Name x px,iter,ifs,0⟩] scope pos) (Nx wi cap tt te):=by
 intro EF s σ H Q I h
 rw[eval_ListComp]
 refine wpAny_comprehension_free (use:=none) rfl hs S.clos S.kind S.names (bj (hi EF s σ H _ I h) fun v s1 h1=>bj h1 fun itv s2 h2=>?_)
 obtain⟨it,fp,tn,J,H2,e,I2,T,st2,f2,h⟩:=h2
 subst e
 refine Uk (RR:=fun acc C=>compPost (model X.prog X.w) X.A X.xe none (EP X EF σ Q) acc C) hc S ht he I2 T st2 f2 h fun D C s4 ys H3 oC m I4 hnC fC hD fin=>?_
 have hoC:=(I4.pin (C,oC) (EJ _ (EJ _ EK))).1
 refine⟨m,hnC _ hoC,fun h' hs'=>?_⟩
 exact⟨.ref D,_,I4.unpinned.turned (t':=s4.toks) (it:=C) (fun b o hb q=>(hs'.2 b hb).trans q) fC.1 fC.2.1 fC.2.2.2.1 fC.2.2.2.2.1 fC.2.2.2.2.2,rfl,fin D hD⟩
theorem kE(hN:X.N.Nodup)(hy:X.N[i]?=some y)(hL:X.env.scope.names.lookup y=some .local)(hc:X.calm=true)(hi:PI X (.Name x px) iter wi)(S:CompSc X scope x cl N cap)
  (ht:∀C s H ex,yw (ie X scope cl C N s H ex) ifs tt)(he:∀C s H ex,PE (ie X scope cl C N s H ex) elt te)
  (hsw:swapsWith (.ListComp elt [⟨.Name x px,iter,ifs,0⟩] scope pos) (some (.Name y py)) spos.line X.env=pure true:=by rfl)
  (hs:∀z,foldedSetIterable iter X.env z=pure z:=by intro _;rfl):PS X (.Assign [.Name y py] (.ListComp elt [⟨.Name x px,iter,ifs,0⟩] scope pos) spos) (yi (Nx wi cap tt te) (si i)):=by
 intro EF s σ H D I h
 rw[exec_Assign_Name_used _ _ _ _ hsw]
 refine FI (wpAny_standAt (FI ?_))
 show wpAny _ X.A (do let _ <-comprehension (.ListComp elt [⟨.Name x px,iter,ifs,0⟩] scope pos) scope X.env _ (newList []) false (eval iter X.env) (some (assign (.Name y py) X.env))) _ _ s
 refine FI (FO (wpAny_comprehension_free (use:=some (assign (.Name y py) X.env)) (Q:=fun _ s'=>SP X EF D .next s') rfl hs S.clos S.kind S.names
  (bj (hi EF s σ H _ I h) fun v s1 h1=>bj h1 fun itv s2 h2=>?_)) (fun _ s' hq=>FM (FM hq)) fun _ _ e=>e)
 obtain⟨it,fp,tn,J,H2,e,I2,T,st2,f2,h⟩:=h2
 subst e
 refine Uk (RR:=fun acc C=>compPost (model X.prog X.w) X.A X.xe (some (assign (.Name y py) X.env)) (fun _ s'=>SP X EF D .next s') acc C) hc S ht he I2 T st2 f2 h fun d C s4 ys H3 oC m I4 hnC fC hD fin=>?_
 show wpAny _ X.A (assign (.Name y py) X.env (.ref d)) _ _ s4
 refine wpAny_assign_Name (El (v:=.ref d) I4 hN hy (.inl hL) rfl (fun s5 I5=>?_) (.inr hL))
 have hoC:=(I5.pin (C,oC) (EJ _ (EJ _ EK))).1
 refine⟨m,hnC _ hoC,fun h' hs'=>?_⟩
 exact⟨σ.set i (some (.ref d)),_,I5.unpinned.turned (t':=s5.toks) (it:=C) (fun b o hb q=>(hs'.2 b hb).trans q) fC.1 fC.2.1 fC.2.2.2.1 fC.2.2.2.2.1 fC.2.2.2.2.2,fin d hD⟩
end
theorem rM(h:jw x=true):jh x x=true:=by
 cases x with
 |non=>rfl
 |bl b=>simp[jh]
 |int i=>simp[jh]
 |str z=>simp[jh]
 |_=>exact absurd (show false=true from h) EG
theorem bc.at(r:bc xs us)(h:j<us.length):∃x,xs[j]?=some x/\az x us[j]:=by
 have hl:=r.length
 have hj:j<xs.length:=by omega
 obtain⟨u,hu,ru⟩:=r.get (i:=j) (x:=xs[j]) (EH hj)
 have e:us[j]=u:=by
  have:=EH h
  rw[this] at hu
  exact FP hu
 exact⟨_,EH hj,by rw[e];exact ru⟩
section
variable {X:Cx} {EF:List (Addr×Obj)} {σ:St} {H:Hp} {s:Shared}
end
section
variable {X:Cx}
end
section
open PySem.SeqAt
open PySem.AutoSeq1 (wpAny_loadPart')
open PySem.MeetsSeq PySem.MeetsSeq2 PySem.MeetsSeq3
end
section
variable {X:Cx} {EF:List (Addr×Obj)} {σ:St} {H:Hp} {s:Shared}
end
section
variable {X:Cx} {EF:List (Addr×Obj)} {σ:St} {H:Hp} {s:Shared} {h':Heap}
end
section
variable {X:Cx} {k:Nat} {f:Addr} {fd:FuncData} {pn:Str} {sp:Sp}
end
def g9(B:Heap)(l:List Env)(L e:Addr)(cls:Value)(h:Heap):Prop:=
 B.StaysIn h/\B.get? e=none/\h.FunFrames B l /\
  ((∃oe vs a0,h.get? e=some oe/\oe.cls=cls/\oe.data=.fields vs/\vs[0]?=some a0/\vs[1]?=some Value.none)\/(∃a0,h.TracedW B e cls a0)\/∃a0,h.TracedAtW B e cls a0 (rawInt L))
section
variable {M:Model} {A:Around} {E:Value->Shared->Prop} {s:Shared} {B:Heap} {env:Env} {outer:List Env} {L e:Addr} {cls:Value}
theorem Lj(hfr:A.frames=some (env::outer))(hf:env.frame=some L)(x:g9 B (env::outer) L e cls s.heap)
  (hQ:∀h' a0,Heap.HeldW B (env::outer) e cls a0 L h'->s.heap.UpToSlots h'->Q () { s with heap:=h' }):wpAny M A (noteFrame (.ref e) env) Q E s:=by
 obtain⟨x1,x2,x3,x4⟩:=x
 rcases x4 with⟨oe,vs,a0,he,hc,hd,h0,h1⟩|⟨a0,ht⟩|⟨a0,ht⟩
 ·subst hc
  unfold noteFrame
  simp only[hf]
  refine FI (wpAny_field he hd h1 ?_)
  rw[FK (by decide)]
  exact wpAny_entryW hfr x3 hf he x1 x2 hd (Array.getElem?_eq_some_iff.mp h1).1 h0 fun h' ⟨k1,k2,k3,k4⟩=>hQ h' a0 ⟨k1,x2,k2,k3⟩ k4
 ·exact wpAny_looks_onW hfr hf ⟨x1,x2,x3,ht⟩ fun h' k1 k2=>hQ h' a0 k1 k2
 ·exact wpAny_noteFrame_againW hf ht (hQ s.heap a0 ⟨x1,x2,x3,ht⟩ (Heap.UpToSlots.refl _))
theorem iR(R:Heap.HeldW B l e cls a0 L s.heap)
  (h:∀h',Heap.HeldW B l e cls a0 L h'->s.heap.UpToSlots h'->Q () { s with heap:=h' }):wpAny M A (setFlight (.ref e) (some L)) Q E s:=by
 obtain⟨hkb,hen,hl,oe,vs,T,oT,ts,he,hcls,hd,h1,hnT,hTe,hT,hdT,h3⟩:=R
 have hsz3:3<ts.size:=(Array.getElem?_eq_some_iff.mp h3).1
 have other:∀b,b≠T->(s.heap.update T (Obj.mapFields (·.setIfInBounds 3 ((some L).elim Value.none fun f=>rawInt f)))).get? b=s.heap.get? b:=
  fun b hb=>Heap.get?_update_other _ _ (Ne.symm hb)
 have noRecord:∀b o,s.heap.get? b=some o->(∀vs,o.data≠.fields vs)->b≠T:=fun b o hb hnf q=>by
  rw[q,hT] at hb;injection hb with hb;subst hb;exact hnf ts hdT
 unfold setFlight
 refine FI (wpAny_field he hd h1 ?_)
 rw[FJ (show(Value.ref T != Value.none)=true from by simp)]
 refine wpAny_setField hT hdT hsz3 (h _ ⟨fun b o hbo=>(other b fun q=>by rw[q,hnT] at hbo;cases hbo).trans (hkb b o hbo),hen,
  hl.of_keeps fun b o hb hnf=>⟨o,(other b (noRecord b o hb hnf)).trans hb,rfl⟩,?_⟩ fun b o hb hnf=>⟨o.slots,(other b (noRecord b o hb hnf)).trans hb⟩)
 exact⟨oe,vs,T,_,_,(other e (Ne.symm hTe)).trans he,hcls,hd,h1,hnT,hTe,Heap.get?_update_self _ hT (Obj.isFreed_of_fields (Obj.data_mapFields hdT _)),Obj.data_mapFields hdT _,by simp[hsz3]⟩
theorem Ud(R:Heap.HeldW B l e cls a0 L h):g9 B l L e cls h:=⟨R.1,R.2.1,R.2.2.1,.inr (.inr ⟨a0,R.2.2.2⟩)⟩
theorem iS(R:Heap.FlyingW B l e cls a0 h):g9 B l L e cls h:=⟨R.1,R.2.1,R.2.2.1,.inr (.inl ⟨a0,R.2.2.2⟩)⟩
theorem kW(hfr:A.frames=some (env::outer))(hf:env.frame=some L)(x:g9 B (env::outer) L e cls s.heap)
  (hQ:∀h' a0,Heap.FlyingW B outer e cls a0 h'->s.heap.UpToSlots h'->Q () { s with heap:=h' }):wpAny M A (leaving env (.ref e)) Q E s:=by
 unfold leaving
 refine FI (Lj hfr hf x fun h1 a0 k1 k2=>?_)
 refine wpAny_landsW k1 fun h2 k3 k4=>?_
 obtain⟨f1,f2,⟨_,_,f3⟩,f4⟩:=k3
 exact hQ h2 a0 ⟨f1,f2,f3,f4⟩ (k2.trans k4)
end
structure OwnFr (X:Cx):Prop where
 stk:X.stack=X.env::X.outer
 fr:X.env.frame=some X.env.locals
 ex:X.ex=[]
def lb(X:Cx)(H:Hp)(e:Addr)(cls:Value)(s':Shared):Prop:=
 ∃EF σ sg B,Inv X EF σ H sg/\s'.os=sg.os/\AllBare s'.gens/\(∀b o,sg.heap.get? b=some o->b∉frs X.stack->B.get? b=some o)/\sg.heap.UpToSlots s'.heap/\g9 B X.stack X.env.locals e cls s'.heap
def XE(X:Cx)(Φ:Value->Hp->Prop):Value->Shared->Prop:=fun e s'=>∃ea cls H,e=.ref ea/\lb X H ea cls s'/\Φ cls H
def yx(P:Program)(w:World):nq:=fun outer H s E e s'=>∃ea cls H' g B a0,e=.ref ea/\s'.os=s.os/\AllBare s'.gens/\Un (frs outer) [] H H' s.heap g/\dz P w H' g /\
 (∀b o,g.get? b=some o->b∉frs outer->B.get? b=some o)/\g.UpToSlots s'.heap/\Heap.FlyingW B outer ea cls a0 s'.heap/\E cls none H'
section
variable {X:Cx} {H:Hp} {e:Addr} {cls:Value} {s':Shared}
theorem lb.unwish(x:lb (X.wish E) H e cls s'):lb X H e cls s':=by
 obtain⟨EF,σ,sg,B,I,h⟩:=x
 exact⟨EF,σ,sg,B,I.unwish,h⟩
theorem Tb{h base:Heap}{l:List Env}(F:h.FunFrames base l){b:Addr}(hb:b∈frs l):∃o,h.get? b=some o/\∀vs,o.data≠.fields vs:=by
 induction l with
 |nil=>cases hb
 |cons env r ih =>
  obtain⟨hk,⟨L,o,hf,hn,ho,hd⟩,hr⟩:=F
  unfold frs at hb
  rw[List.filterMap_cons,hf] at hb
  rcases List.mem_cons.mp hb with rfl|hb
  ·exact⟨o,ho,hd⟩
  ·exact ih hr hb
theorem sI{H:Hp}{g h B base:Heap}{l:List Env}(F:g.FunFrames base l)(hB:∀b o,g.get? b=some o->b∉frs l->B.get? b=some o)(st:B.StaysIn h)(up:g.UpToSlots h):Un (frs l) [] H H g h:=by
 have sl:∀b o,g.get? b=some o->b∈frs l->∃sl,h.get? b=some { o with slots:=sl }:=fun b o e hb=>by
  obtain⟨o',ho,hd⟩:=Tb F hb
  rw[e] at ho;cases ho
  exact up b o e hd
 refine⟨fun b o e _ hb _=>st b o (hB b o e hb),fun b o e _ hb _=>sl b o e hb,fun _ _ _ n _=>n,fun b o e _=>?_,fun _ _ e=>e,fun _ _ _ e=>e,fun b ps e=>⟨#[],by rw[e];simp⟩⟩
 by_cases hb:b∈frs l
 ·obtain⟨q,e'⟩:=sl b o e hb;exact⟨_,e'⟩
 ·exact⟨o,st b o (hB b o e hb)⟩
theorem rD{P:Program}{w:World}{H:Hp}{g h B:Heap}{l:List Env}(ok:dz P w H g)(free:∀b∈frs l,H b=none)(hB:∀b o,g.get? b=some o->b∉frs l->B.get? b=some o)(st:B.StaysIn h):dz P w H h:=fun a o e=>by
 refine(ok a o e).stay (fun c v hc q=>st c v (hB c v q fun z=>?_)) (fun _ q=>q) fun _ _ q=>q
 have:=free c z
 rcases hc with rfl|hc
 ·rw[e] at this;cases this
 ·rw[hc] at this;cases this
end
section
variable {X:Cx} {EF:List (Addr×Obj)} {σ:St} {H:Hp} {e:Addr} {cls:Value} {s s':Shared}
theorem Wg{B h:Heap}(I:Inv X EF σ H sg)(os:s2.os=sg.os)(gn:AllBare s2.gens)(hB:∀b o,sg.heap.get? b=some o->b∉frs X.stack->B.get? b=some o)(st:B.StaysIn s2.heap)(up:sg.heap.UpToSlots s2.heap) :
  Inv X EF σ H s2:=by
 obtain⟨hh,g,d,t,os'⟩:=s2
 obtain rfl:os'=sg.os:=os
 exact I.call (h':=hh) (g':=g) (d':=d) (t':=t) (ch:=[]) (sI I.stack hB st up) (rD I.hok I.stkFree hB st) gn (fun b z=>absurd z (by simp))
theorem lb.born(I:Inv X EF σ H s)(hx:Heap.MadeExcOf s.heap h' e cls vs):lb X H e cls { s with heap:=h' }:=by
 refine⟨EF,σ,s,PySem.W.hideAll s.heap (frs X.stack),I,rfl,I.bare,fun b o q n=>PySem.W.hideAll_get _ q n,Heap.UpToSlots.of_keeps hx.keeps,fun b o q=>hx.keeps b o (PySem.W.of_hideAll _ q),?_,?_,.inl ?_⟩
 ·cases q:(PySem.W.hideAll s.heap (frs X.stack)).get? e with
  |none=>rfl
  |some o=>have:=PySem.W.of_hideAll _ q;rw[hx.new] at this;cases this
 ·have F:=PySem.W.funFrames_hide (as:=frs X.stack) I.stack fun env he a ha=>List.mem_filterMap.mpr ⟨env,he,ha⟩
  exact F.of_keeps fun b o q _=>⟨o,hx.keeps b o q,rfl⟩
 ·obtain⟨t,h1,_,_⟩:=hx.there
  exact⟨_,_,_,h1,rfl,rfl,rfl,rfl⟩
theorem lb.called(I:Inv X EF σ H s)(x:yx X.prog X.w X.stack H s E v s'):∃ea cls H',v=.ref ea/\lb X H' ea cls s'/\E cls none H':=by
 obtain⟨ea,cls,H',g,B,a0,ev,os,gn,un,ok,hB,up,fl,q⟩:=x
 refine⟨ea,cls,H',ev,⟨EF,σ,{ s with heap:=g },B,?_,os,gn,hB,up,iS fl⟩,q⟩
 obtain⟨hh,gg,d,t,os'⟩:=s
 exact I.call (h':=g) (g':=gg) (d':=d) (t':=t) (ch:=[]) un ok I.bare (fun b z=>absurd z (by simp))
theorem Qo(O:OwnFr X):PassesOwn (model X.prog X.w) X.A X.env (XE X Φ):=fun v s' h=>by
 obtain⟨ea,cls,H,rfl,⟨EF,σ,sg,B,I,os,gn,hB,up,L⟩,q⟩:=h
 have hf:X.A.frames=some (X.env::X.outer):=by rw[I.ok.frames,O.stk]
 rw[O.stk] at L
 refine Lj hf O.fr L fun h1 a0 k1 k2=>?_
 obtain⟨_,_,_,oe,vs,T,oT,ts,he,hc,hd,h1',hnT,hTe,hT,hdT,h3⟩:=id k1
 show wpAny _ _ _ _ _ _
 refine FI (wpAny_field he hd h1' ?_)
 rw[FK (show ¬((Value.ref T == Value.none)=true) from by simp)]
 have go:wpAny (model X.prog X.w) X.A (setFlight (.ref ea) X.env.frame) (fun _ s''=>XE X Φ (.ref ea) s'') (XE X Φ) { s' with heap:=h1 }:=by
  rw[O.fr]
  refine iR k1 fun h2 k3 k4=>⟨ea,cls,H,rfl,⟨EF,σ,sg,B,I,os,gn,hB,(up.trans k2).trans k4,?_⟩,q⟩
  rw[O.stk];exact Ud k3
 first|exact go|exact FI (FM go)
theorem nK(O:OwnFr X)(h:XE X (fun cls H'=>E cls none H') v s') :
  wpAny (model X.prog X.w) X.A (leaving X.env v) (fun _ s''=>yx X.prog X.w X.outer X.H₀ X.s₀ E v s'') E2 s':=by
 obtain⟨ea,cls,H',rfl,⟨EF,σ,sg,B,I,os,gn,hB,up,L⟩,q⟩:=h
 have hf:X.A.frames=some (X.env::X.outer):=by rw[I.ok.frames,O.stk]
 rw[O.stk] at L hB
 refine kW hf O.fr L fun h1 a0 k1 k2=>?_
 have nL:∀b o,X.s₀.heap.get? b=some o->b∉[X.env.locals]:=fun b o e z=>by
  have:b=X.env.locals:=by simpa using z
  exact absurd (ET (this▸EL e) I.ok.above) (FF _)
 have bs:Un (frs X.outer) [] X.H₀ H' X.s₀.heap sg.heap:=by have:=I.base;rw[O.ex] at this;exact this
 refine⟨ea,cls,H',PySem.W.hideAll sg.heap [X.env.locals],B,a0,rfl,os.trans I.os,gn,?_,?_,fun b o e n=>?_,fun b o e n=>?_,k1,q⟩
 ·refine⟨fun b o e n hb hx=>PySem.W.hideAll_get _ (bs.keep b o e n hb hx) (nL b o e),fun b o e n hb hx=>?_,bs.free,fun b o e hx=>?_,bs.tups,bs.frzs,bs.tbls⟩
  ·obtain⟨sl,e'⟩:=bs.slot b o e n hb hx
   exact⟨sl,PySem.W.hideAll_get _ e' (nL b o e)⟩
  ·obtain⟨o',e'⟩:=bs.there b o e hx
   exact⟨o',PySem.W.hideAll_get _ e' (nL b o e)⟩
 ·intro a o e
  refine(I.hok a o e).stay (fun c u hc q'=>PySem.W.hideAll_get _ q' fun z=>?_) (fun _ q=>q) fun _ _ q=>q
  have z:c=X.env.locals:=by simpa using z
  have fr:H' X.env.locals=none:=I.free
  rcases hc with rfl|hc
  ·rw[z,fr] at e;cases e
  ·rw[z,fr] at hc;cases hc
 ·have e':=PySem.W.of_hideAll _ e
  refine hB b o e' fun z=>?_
  have z:b∈X.env.locals::frs X.outer:=by
   unfold frs at z ⊢
   rw[List.filterMap_cons,O.fr] at z
   exact z
  rcases List.mem_cons.mp z with z|z
  ·have:(PySem.W.hideAll sg.heap [X.env.locals]).get? b=none:=PySem.W.hideAll_none _ (by rw[z];exact .head _)
   rw[e] at this;cases this
  ·exact n z
 ·exact(up.trans k2) b o (PySem.W.of_hideAll _ e) n
end
noncomputable abbrev Cx.re(X:Cx)(A2:Around)(b:Bool)(E:Value->Shared->Prop):Cx:={ X with A:=A2,calm:=b,xe:=E }
theorem Inv.re(I:Inv X EF σ H s)(hf:A2.frames=X.A.frames)(hd:b=true->A2.handled=none):Inv (X.re A2 b E) EF σ H s:=
 have ok:=I.ok
 ⟨⟨ok.mod,ok.kind,ok.glob,ok.blt,ok.above,ok.inj,ok.has,ok.cab,hd,hf.trans ok.frames,ok.stk,ok.exf,ok.bs,ok.bsz,ok.noex,ok.exfs,ok.funs,ok.frf⟩,I.os,I.bare,I.base,I.loc,I.cell,I.free,I.freeC,I.pin,I.hok,I.len⟩
structure ExCls (K:PySem.W.Frag) (x:Str) (C:Addr):Prop where
 ns:PySem.W.nsIn K mainGlobals x=some (some (.ref C))
 ok:∃B newId initId bmB,PySem.W.excIn K C bmB newId=true/\ExcBaseFacts B newId initId bmB
theorem yU{K:PySem.W.Frag}{h:Heap}{mg:Str->Option Value}{x:Str}{C:Addr}{bmB:List Value}{newId:String}(X:K.In h)(e:mg x=some (.ref C))(q:PySem.W.excIn K C bmB newId=true):OwnCls x C bmB newId mg h:=by
 refine⟨e,?_⟩
 unfold PySem.W.excIn at q
 split at q
 ·rename_i dd cd sl ho
  split at q
  ·rename_i C' bm k0 k1 k2 k3 n k5 hm hs
   simp only[FE,beq_iff_eq,Bool.not_eq_true'] at q
   obtain⟨⟨⟨⟨⟨rfl,rfl⟩,hdel⟩,ht⟩,hok⟩,hni⟩:=q
   obtain⟨nm,bs,mro,ns,qn,hd,sn,sub,ab,col,del⟩:=cd
   dsimp only at hm hdel hok hni
   subst hm hdel
   obtain rfl:sl=#[k0,k1,k2,k3,some (.builtin n),k5]:=by cases sl;simp only at hs;rw[hs]
   exact⟨bm,ns,nm,qn,bs,hd,sn,sub,ab,col,dd,k0,k1,k2,k3,k5,_,X _ _ ho,.of_isNs (PySem.W.isNs_of_in X hok),PySem.W.nsMap_none_of_in X hok hni,PySem.W.tail_of_in X ht⟩
  ·cases q
 ·cases q
section
variable {X:Cx} {x:Str} {C:Addr} {np cpos pos:Pos} {e:Expr} {es:List Expr} {t:TA}
def wV(X:Cx)(C:Addr)(t:TA):TS:=fun _ σ H=>t σ H fun vs H1=>vs.length<=sizeLine/\∀e s',lb X H1 e (.ref C) s'->X.xe (.ref e) s'
theorem pP(hc:X.calm=true)(c:ExCls X.K x C)(hg:Gl X x)(ha:PA X (e::es) t)(hdb:(x == ("__debug__" : Str))=false:=by decide)
  (he:starEach (e::es) X.env=(false,eval e X.env)::starEach es X.env:=by rfl)(hpl:(backTo cpos (starEach es X.env)).any (·.1)=false:=by rfl) :
  PS X (.Raise (some (.Call (.Name x np) (e::es) [] cpos)) none pos) (wV X C t):=by
 intro EF s σ H D I h
 have hm:X.mg x=some (.ref C):=PySem.W.mg_of I.ok.mod.kin I.ok.mod.glob c.ns
 obtain⟨B,newId,initId,bmB,q,FB⟩:=c.ok
 obtain⟨tl,N,nm,qn,bs,hdct,sn,sub,ab,col,dd,k0,k1,k2,k3,k5,mN,hC,hN,hni,T⟩:=(yU (mg:=X.mg) (x:=x) I.ok.mod.kin hm q).obj
 refine wpAny_Raise_call_subT (C:=C) (nm:=nm) (q:=qn) (N:=N) (bs:=bs) (bm:=tl) (hdct:=hdct) (sn:=sn) (sub:=sub) (ab:=ab) (col:=col) (dd:=dd) (k0:=k0) (k1:=k1) (k2:=k2) (k3:=k3) (k5:=k5)
  FB (mN:=mN) (T.hasType FB.hasBase) (I.ok.hd hc) (by rw[he];show(false||(backTo cpos (starEach es X.env)).any (·.1))=false;rw[hpl];rfl) hni (Ev I hg hm ⟨rfl,?_⟩ hdb)
 have h2:=ha cpos EF s σ H _ I h
 rw[he] at h2 ⊢
 exact Calls.evalArgs_plain (FO h2 (fun vs s₂ ⟨xs,H1,I1,r,z,q⟩=>⟨rfl,by rw[<-r.length];exact z,I1.bk _ _ hC,hN.keeps I1.bk,T.keeps I1.bk,fun h' e hx=>q e _ (lb.born I1 hx)⟩) fun _ _ y=>y)
end
structure RoomB (b:Bool) (k:Nat) (A:Around):Prop where
 hd:b=true->A.handled=none
 dp:A.depth+3*k+5<recursionLimit
 un:A.units+16*k+200<cLine
theorem RoomB.mono(r:RoomB b k A)(h:j<=k):RoomB b j A:=⟨r.hd,by have:=r.dp;omega,by have:=r.un;omega⟩
theorem RoomB.deeper(r:RoomB b (k+1) A)(env:Env):RoomB b k (A.deeper env):=
 ⟨r.hd,by have:=r.dp;show A.depth+1+3*k+5<_;omega,by have:=r.un;show A.units+3+16*k+200<_;omega⟩
theorem RoomB.depth(r:RoomB b k A):A.depth<recursionLimit:=by have:=r.dp;omega
theorem RoomB.mark(r:RoomB b k A)(e:Option Value):RoomB false k (A.mark e):=⟨(fun z=>nomatch z),r.dp,r.un⟩
structure FnX (b:Bool) (P:Program) (w:World) (K:PySem.W.Frag) (mg:Str->Option Value) (base:Heap) (k:Nat) (f:Addr) (fd:FuncData) (ps:List Str) (sp:Sp):Prop where
 len:∀vs H Q E,sp vs H Q E->vs.length=ps.length
 run:∀(A:Around)(outer:List Env)(s:Shared)(H:Hp)(args:Args)(us:List Value)(vs:List V)(Q:VK)(E:XK),RoomB b k A->Env0 P w K mg base A outer s H->BindsTo s fd args (ps.zip us)->bc vs us->sp vs H Q E ->
  codeAny (model P w) A (.call (.ref f) args) (CR (yx P w) outer P w H s Q E) s
theorem FnX.mono{b:Bool}{P:Program}{w:World}{K:PySem.W.Frag}{mg:Str->Option Value}{base:Heap}{j k:Nat}{f:Addr}{fd:FuncData}{ps:List Str}{sp:Sp}(F:FnX b P w K mg base j f fd ps sp)(h:j<=k) :
  FnX b P w K mg base k f fd ps sp:=⟨F.len,fun A outer s H args us vs Q E hr=>F.run A outer s H args us vs Q E (hr.mono h)⟩
section
variable {X:Cx} {b:Bool} {k:Nat} {f:Addr} {fd:FuncData} {ps:List Str} {sp:Sp} {x:Str} {p pos:Pos} {e:Expr} {es:List Expr} {t:TA} {E:XK}
theorem tH(F:FnX b X.prog X.w X.K X.mg X.base k f fd ps sp)(hr:RoomB b k X.A)(hb:jg X.K fd ps [])(hx:Fi (yx X.prog X.w) X E)
  (I:Inv X EF σ H s)(r:bc vs us)(h:sp vs H Q E):wpAny (model X.prog X.w) X.A (call (.ref f) us) (EP X EF σ Q) X.xe s:=by
 have hl:us.length=ps.length:=by rw[<-r.length];exact F.len _ _ _ _ h
 have hb':=hb s us I.kIn (by rw[List.append_nil];exact hl)
 rw[List.append_nil] at hb'
 refine wpAny_call (codeAny_mono (F.run X.A X.stack s H ⟨us,[]⟩ us vs Q E hr I.env0 hb' r h) fun r s' hq=>?_)
 cases r with
 |error e=>exact hx EF σ H s e s' I hq
 |ok fl =>
  cases fl with
  |ret u=>exact I.after hq
  |next=>exact False.elim hq
  |brk=>exact False.elim hq
  |cont=>exact False.elim hq
def wX(X:Cx)(sp:Sp)(t:TA):TE:=fun σ H Q=>t σ H fun vs H1=>∃E,Fi (yx X.prog X.w) X E/\sp vs H1 Q E
theorem Vu(F:FnX b X.prog X.w X.K X.mg X.base k f fd ps sp)(hr:RoomB b k X.A)(hg:Gl X x)(hm:X.mg x=some (.ref f))(hk:PySem.W.keepIn X.K (.ref f)=true)(hb:jg X.K fd ps [])
  (ha:PA X (e::es) t)(hdb:(x == ("__debug__" : Str))=false:=by decide)(he:starEach (e::es) X.env=(false,eval e X.env)::starEach es X.env:=by rfl)(hpl:(backTo pos (starEach es X.env)).any (·.1)=false:=by rfl) :
  PE X (.Call (.Name x p) (e::es) [] pos) (wX X sp t):=by
 intro EF s σ H Q I h
 refine wpAny_Call_Name_kw (Ev I hg hm ?_ hdb)
 refine PySem.W.callWith_K (h₀:=X.base) I.ok.mod.kin hk (bj (ha pos EF s σ H _ I h) fun us s1 ⟨vs,H1,I1,r,E,hx,q⟩=>⟨I1.kIn,?_⟩) he hpl
 exact tH F hr hb hx I1 r q
end
noncomputable def yt(b:Bool)(P:Program)(w:World)(K:PySem.W.Frag)(mg:Str->Option Value)(base:Heap)(N:List Str)(qual:Str)(scope:Scope)(f:Addr)(cd:Value)(A:Around)(outer:List Env)(s:Shared)(H:Hp):Cx:=
 (uv mq P w K mg base N qual scope f cd A outer s H fun _ _ _=>False).re (A.deeper (envOfC qual scope s.heap.objs.size f cd)) b fun _ _=>False
theorem Yh{b:Bool}{P:Program}{w:World}{K:PySem.W.Frag}{mg:Str->Option Value}{base:Heap}{N:List Str}{qual:Str}{scope:Scope}{f:Addr}{cd:Value}{A:Around}{outer:List Env}{s:Shared}{H:Hp} :
  OwnFr (yt b P w K mg base N qual scope f cd A outer s H):=⟨rfl,rfl,rfl⟩
theorem zR{b:Bool}{P:Program}{w:World}{K:PySem.W.Frag}{mg:Str->Option Value}{base:Heap}{k:Nat}{f:Addr}{name qual:Str}{params:Arguments}{body:List Stmt}{scope:Scope}{dV kV doc pm cdv ct oc:Value}{an od:Option Addr}
  {osl:Array (Option Value)}{N ps:List Str}{sp:Sp}(lk:K.lookup f=some ⟨oc,od,.func (PySem.W.fnOf name qual params body scope dV kV doc pm an cdv ct),osl⟩)(hcd:PySem.W.codeIn K cdv qual=true)(S:FnScope N ps scope)
  (len:∀vs H Q E,sp vs H Q E->vs.length=ps.length)
  (hbody:∀(A:Around)(outer:List Env)(s:Shared)(H:Hp)(vs:List V)(Q:VK)(E:XK),RoomB b k (A.deeper (envOfC qual scope s.heap.objs.size f cdv))->sp vs H Q E ->
   ∃t,ji ((yt b P w K mg base N qual scope f cdv A outer s H).wish (XE (yt b P w K mg base N qual scope f cdv A outer s H) fun cls H'=>E cls none H')) body t/\t { nx:=fun _ H'=>Q .non H',rt:=Q } (start N vs) H) :
  FnX b P w K mg base (k+1) f (PySem.W.fnOf name qual params body scope dV kV doc pm an cdv ct) ps sp:=by
 refine⟨len,fun A outer s H args us vs Q E hr e0 hb r hsp=>?_⟩
 have hl:=len _ _ _ _ hsp
 have KX:K.In s.heap:=e0.mod.kin.keeps fun b o e=>(e0.bs b o e).1
 have lim:s.heap.NoLimit:=e0.mod.nolimit.keeps fun b o e=>(e0.bs b o e).1
 have hkind:∀y∈ps.zip us,scope.names.lookup y.1=some .local\/(scope.names.lookup y.1=some .cell/\((cellsFrom (s.heap.objs.size+1) scope.names []).lookup y.1).isSome=true):=fun⟨n,v⟩ hy=>by
  rcases S.par n (List.of_mem_zip hy).1 with q|q
  ·exact .inl q
  ·exact .inr ⟨q,PySem.W.cellsFrom_some _ _ _ (.inl q)⟩
 refine codeAny_call_function hr.depth (KX _ _ lk) rfl S.co S.gen rfl (PySem.W.codeRec_of KX hcd) (hb _ _ _ _ ?_)
 refine wpAny_newFunctionEnv_cells S.kind hkind fun env he s1 x=>?_
 subst he
 refine⟨lim.keeps x.toInCall.keep,codeAny_func ?_⟩
 obtain⟨t,ht,hq⟩:=hbody A outer s H vs Q E (hr.deeper _) hsp
 have e0':Env0 P w K mg base { A with handled:=none } outer s H:=⟨e0.frames,e0.mod,e0.bs,e0.bsz,e0.funs,e0.frf,e0.hok,e0.bare⟩
 have I0:Inv (uv mq P w K mg base N qual scope f cdv { A with handled:=none } outer s H fun _ _ _=>False) [] (start N vs) H s1:=Ub S rfl e0' hl r x
 have I:Inv (yt b P w K mg base N qual scope f cdv A outer s H) [] (start N vs) H s1:=I0.re rfl hr.hd
 refine FO (ht [] s1 (start N vs) H _ (I.wish _) hq) (fun fl s' hs=>?_) fun e s' hs=>nK Yh hs
 have fin:∀{σ':St}{H':Hp}{v:V}{u:Value},Inv (yt b P w K mg base N qual scope f cdv A outer s H) [] σ' H' s'->az v u->Q v H'->CE outer P w H s Q u s':=
  fun{σ' H' v u} J rv q=>⟨v,H',J.os,J.bare,J.base,J.hok,rv,q⟩
 have hs:=SP.unwish hs
 cases fl with
 |ret u =>
  obtain⟨v,σ',H',J,rv,q⟩:=hs
  exact fin J rv q
 |next =>
  obtain⟨σ',H',J,q⟩:=hs
  exact fin (v:=V.non) (u:=Value.none) J rfl q
 |brk =>
  obtain⟨_,_,_,q⟩:=hs
  exact False.elim q
 |cont =>
  obtain⟨_,_,_,q⟩:=hs
  exact False.elim q
section
variable {X:Cx} {EF:List (Addr×Obj)} {σ:St} {H:Hp} {s:Shared}
theorem Inv.locals(I:Inv X EF σ H s)(hs:Heap.SameBut X.env.locals s.heap h')(hn':h'.Ns X.env.locals m')(hl:σ'.length=σ.length)
  (hv:∀(i:Nat)(x:Str)(v:V),X.N[i]?=some x->σ'[i]?=some (some v)->j6 X.env.scope x->∃u,az v u/\bY X.env h' m' x u):Inv X EF σ' H { s with heap:=h',toks:=t' }:=by
 have cne:=I.cne
 obtain⟨m,⟨oL,_,_,hoL,_⟩,_⟩:=id I.loc
 refine⟨I.ok,I.os,I.bare,⟨fun b o e n hb hx=>?_,fun b o e n hb hx=>?_,I.base.free,fun b o e hx=>?_,I.base.tups,I.base.frzs,I.base.tbls⟩,⟨m',hn',hv⟩,fun y c e=>?_,I.free,I.freeC,fun p hp=>?_,fun b ob e=>?_,hl.trans I.len⟩
 ·exact(hs.2 b (EX (ET (EL e) I.ok.above))).trans (I.base.keep b o e n hb hx)
 ·obtain⟨sl,e1⟩:=I.base.slot b o e n hb hx
  exact⟨sl,(hs.2 b (EX (ET (EL e) I.ok.above))).trans e1⟩
 ·obtain⟨o',e1⟩:=I.base.there b o e hx
  exact⟨o',(hs.2 b (EX (ET (EL e) I.ok.above))).trans e1⟩
 ·obtain⟨w',z⟩:=I.cell y c e
  exact⟨w',z.sameBut hs (cne y c e)⟩
 ·obtain⟨e,n,ne,nf,d⟩:=I.pin p hp
  exact⟨(hs.2 p.1 ne).trans e,n,ne,nf,d⟩
 ·refine(I.hok b ob e).stay (fun c w' hc q=>(hs.2 c ?_).trans q) (fun _ q=>q) fun _ _ q=>q
  rintro rfl
  rcases hc with rfl|hc
  ·rw[I.free] at e;cases e
  ·rw[I.free] at hc;cases hc
theorem Hk(I:Inv X EF σ H s)(hN:X.N.Nodup)(hi:X.N[i]?=some n)(hx:X.env.scope.names.lookup n=some .local)
  (h:∀s',Inv X EF (σ.set i none) H s'->Q () s'):wpAny M A (do bindName X.env n .none;unbindBehindTheSuite X.env n pos) Q E s:=by
 have hcls:(X.env.scope.kind == .class||(X.env.scope.kind == .module&&X.env.locals != X.env.globals))=false:=by rw[I.ok.kind];rfl
 refine FI (wpAny_bindName (El (v:=.non) I hN hi (.inl hx) rfl (fun s1 I1=>?_) (.inr hx)))
 unfold unbindBehindTheSuite
 refine wpAny_onRaise ?_
 obtain⟨m,hn,hl⟩:=id I1.loc
 have hiσ:i<σ.length:=by rw[I.len];exact(List.getElem?_eq_some_iff.mp hi).1
 obtain⟨u,ru,lk⟩:=hl i n .non hi (List.getElem?_set_self hiσ) (.inl hx)
 have hmn:m n=some u:=by
  rcases lk with⟨_,e⟩|⟨k,_⟩
  ·exact e
  ·rcases k with k|k<;>exact absurd (k.symm.trans (show X.env.kindOf n=some .local from hx)) (by simp)
 refine FO (wpAny_unbindName_local (show X.env.kindOf n=some .local from hx) hn hmn hcls fun h' u' hn' hs=>?_) (fun _ _ x=>x) (fun _ _ x=>wpAny_standAt x)
 refine h _ (Inv.locals (t':=s1.toks) I1 hs hn' (by simp) fun j y v e1 e2 e3=>?_)
 by_cases hj:j=i
 ·subst hj
  rw[List.getElem?_set_self hiσ] at e2;cases e2
 ·rw[List.getElem?_set_ne (Ne.symm hj)] at e2
  obtain⟨u2,r2,l2⟩:=hl j y v e1 (by rw[List.getElem?_set_ne (Ne.symm hj)];exact e2) e3
  refine⟨u2,r2,?_⟩
  have ny:y≠n:=fun e=>hj (Ma hN e1 (e▸hi))
  rcases l2 with⟨k,e⟩|⟨k,c,e,z⟩
  ·exact .inl ⟨k,by simp[ny,e]⟩
  ·exact .inr ⟨k,c,e,z.sameBut hs (I1.cne y c e)⟩
def lf(a:Addr)(cls:Value):Heap->Prop:=fun h=>∃o,h.get? a=some o/\o.cls=cls/\∃vs,o.data=.fields vs
theorem Inv.trackX(I:Inv X EF σ H s)(hn:H a=none)(h0:X.s₀.heap.get? a=none)(hL:a≠X.env.locals)(hC:∀x c,X.env.cells.lookup x=some c->c≠a)(hP:∀p∈X.pn++EF,p.1≠a)
  (hφ:φ s.heap)(ho:∃o,s.heap.get? a=some o)(st:∀h1 h2:Heap,φ h1->(∀o,h1.get? a=some o->h2.get? a=some o)->φ h2):Inv X EF σ (upd H a (.ext φ)) s:=by
 have ne:∀b u,H b=some u->b≠a:=fun b u e z=>by rw[z,hn] at e;cases e
 have up:∀b u,H b=some u->upd H a (.ext φ) b=some u:=fun b u e=>by unfold upd;rw[FK (ne b u e)];exact e
 have un:∀b,b≠a->H b=none->upd H a (.ext φ) b=none:=fun b n e=>by unfold upd;rw[FK n];exact e
 refine⟨I.ok,I.os,I.bare,⟨I.base.keep,I.base.slot,fun b o e n hx=>un b (fun z=>?_) (I.base.free b o e n hx),I.base.there,fun b xs e=>up _ _ (I.base.tups b xs e),fun b o xs e=>up _ _ (I.base.frzs b o xs e),fun b ps e=>?_⟩,I.loc,I.cell,un _ (Ne.symm hL) I.free,
  fun x c e=>un _ (hC x c e) (I.freeC x c e),fun p hp=>?_,fun b u e=>?_,I.len⟩
 ·rw[z,h0] at e;cases e
 ·obtain⟨more,e'⟩:=I.base.tbls b ps e
  exact⟨more,up _ _ e'⟩
 ·obtain⟨e,n,ne',nf,d⟩:=I.pin p hp
  exact⟨e,un _ (hP p hp) n,ne',nf,d⟩
 ·by_cases z:b=a
  ·subst z
   unfold upd at e;rw[FJ rfl] at e;cases e
   exact⟨hφ,ho,st⟩
  ·unfold upd at e;rw[FK z] at e
   exact(I.hok b u e).stay (fun _ _ _ q=>q) (fun _ q=>up _ _ q) fun _ _ q=>up _ _ q
end
theorem iJ(x:gm P w H h a o):∃ob,h.get? a=some ob:=by
 cases o with
 |lst xs=>obtain⟨_,_,_,_,e⟩:=x;exact⟨_,e⟩
 |tup xs=>obtain⟨_,_,_,ob,e,_⟩:=x;exact⟨_,e⟩
 |dK kvs=>obtain⟨_,_,_,_,o,_,_,e,_⟩:=x;exact⟨_,e⟩
 |dT kvs=>obtain⟨_,_,_,_,o,_,_,e,_⟩:=x;exact⟨_,e⟩
 |set S n=>obtain⟨o,_,_,_,e,_⟩:=x;exact⟨_,e⟩
 |ins C dx fs=>obtain⟨_,_,_,e,_⟩:=x;exact⟨_,e⟩
 |own y=>obtain⟨_,e⟩:=x;exact⟨_,e⟩
 |xd fs=>obtain⟨_,⟨_,_,_,e,_⟩,_⟩:=x;exact⟨_,e⟩
 |rng lo hi=>obtain⟨_,_,_,e⟩:=x;exact⟨_,e⟩
 |frz ob u=>obtain⟨e,_⟩:=x;exact⟨_,e⟩
 |tbl ps=>exact⟨_,(show h.get? a=some _ from x)⟩
 |met f y=>exact⟨_,(show h.get? a=some _ from x)⟩
 |ext φ=>obtain⟨_,e,_⟩:=x;exact e
abbrev Cx.pin(X:Cx)(pn:List (Addr×Obj)):Cx:={ X with pn:=pn }
theorem Inv.pnd(I:Inv X EF σ H s):Inv (X.pin (X.pn++EF)) [] σ H s:=
 have ok:=I.ok
 ⟨⟨ok.mod,ok.kind,ok.glob,ok.blt,ok.above,ok.inj,ok.has,ok.cab,ok.hd,ok.frames,ok.stk,ok.exf,ok.bs,ok.bsz,ok.noex,ok.exfs,ok.funs,ok.frf⟩,I.os,I.bare,I.base,I.loc,I.cell,I.free,I.freeC,fun p hp=>I.pin p (by simpa using hp),I.hok,I.len⟩
theorem Inv.unpnd(I:Inv (X.pin (X.pn++EF)) pins' σ H s):Inv X EF σ H s:=
 have ok:=I.ok
 ⟨⟨ok.mod,ok.kind,ok.glob,ok.blt,ok.above,ok.inj,ok.has,ok.cab,ok.hd,ok.frames,ok.stk,ok.exf,ok.bs,ok.bsz,ok.noex,ok.exfs,ok.funs,ok.frf⟩,I.os,I.bare,I.base,I.loc,I.cell,I.free,I.freeC,fun p hp=>I.pin p (List.mem_append_left _ hp),I.hok,I.len⟩
theorem SP.unpnd(h:SP (X.pin (X.pn++EF)) [] D f s'):SP X EF D f s':=by
 cases f with
 |next=>obtain⟨σ',H',I,q⟩:=h;exact⟨σ',H',I.unpnd,q⟩
 |brk=>obtain⟨σ',H',I,q⟩:=h;exact⟨σ',H',I.unpnd,q⟩
 |cont=>obtain⟨σ',H',I,q⟩:=h;exact⟨σ',H',I.unpnd,q⟩
 |ret u=>obtain⟨v,σ',H',I,r,q⟩:=h;exact⟨v,σ',H',I.unpnd,r,q⟩
def Ends.drop(D:Ends)(i:Nat):Ends:={ nx:=fun σ H=>D.nx (σ.set i none) H,rt:=D.rt,bk:=fun σ H=>D.bk (σ.set i none) H,ct:=fun σ H=>D.ct (σ.set i none) H }
def aJ(X:Cx)(c:Value)(i:Nat)(ts:TS)(D:Ends):Value->Hp->Prop:=fun cls H=>∃b,PySem.W.exmOne X.K cls c=some b /\
 (b=true->∀ea,H ea=none->ts (D.drop i) ((List.replicate X.N.length none).set i (some (.ref ea))) (upd H ea (.ext (lf ea cls))))/\(b=false->∀ea s',lb X H ea cls s'->X.xe (.ref ea) s')
noncomputable def Cx.tryB(X:Cx)(pn:List (Addr×Obj))(Φ:Value->Hp->Prop):Cx:=(X.pin pn).wish (XE (X.pin pn) Φ)
noncomputable def Cx.suite(X:Cx)(ea:Addr):Cx:=X.re (X.A.mark (some (.ref ea))) false fun _ _=>False
section
variable {X:Cx} {body suite:List Stmt} {b₀:Stmt} {x n:Str} {np hpos pos:Pos} {i:Nat} {c:Value} {tb:List (Addr×Obj)->(Value->Hp->Prop)->TS} {ts:TS}
def tTry(X:Cx)(c:Value)(i:Nat)(tb:List (Addr×Obj)->(Value->Hp->Prop)->TS)(ts:TS):TS:=fun D σ H=>∀pn,tb pn (aJ X c i ts D) D σ H
theorem xQ(O:OwnFr X)(hN:X.N.Nodup)(hi:X.N[i]?=some n)(hx:X.env.scope.names.lookup n=some .local)(hg:Gl X x)(hm:X.mg x=some c)(hb:∀pn Φ,ji (X.tryB pn Φ) body (tb pn Φ))(hs:∀ea,ji (X.suite ea) (b₀::suite) ts)
  (hdb:(x == ("__debug__" : Str))=false:=by decide):PS X (.Try body [.ExceptHandler (some (.Name x np)) (some n) (b₀::suite) hpos] [] [] pos) (tTry X c i tb ts):=by
 intro EF s σ H D I h
 refine wpAny_Try_except (FO (hb (X.pn++EF) (aJ X c i ts D) [] s σ H D (I.pnd.wish _) (h _)) (fun f s1 hf=>?_) fun v s1 hv=>?_)
 ·have hf:=SP.unpnd (SP.unwish hf)
  cases f with
  |next=>exact wpAny_execs_nil hf
  |brk=>exact hf
  |cont=>exact hf
  |ret u=>exact hf
 obtain⟨ea,cls,H',rfl,⟨pins',σ',sg,B,J0,os,gn,hB,up,L⟩,b,hbm,ht,hfl⟩:=hv
 have J:Inv X EF σ' H' sg:=J0.unpnd
 have hfr:X.A.frames=some (X.env::X.outer):=by rw[I.ok.frames,O.stk]
 have stk:(X.pin (X.pn++EF)).stack=X.env::X.outer:=O.stk
 rw[stk] at L hB
 have L':g9 B (X.env::X.outer) X.env.locals ea cls s1.heap:=L
 refine Lj hfr O.fr L' fun h1 a0 k1 k2=>?_
 refine wpAny_landsW k1 fun h2 k3 k4=>?_
 have up2:sg.heap.UpToSlots h2:=(up.trans k2).trans k4
 have hB':∀b o,sg.heap.get? b=some o->b∉frs X.stack->B.get? b=some o:=by rw[O.stk];exact hB
 have J2:Inv X EF σ' H' { s1 with heap:=h2 }:=Wg (h:=h2) J os gn hB' k3.1 up2
 have Y2:Inv (X.suite ea) EF σ' H' { s1 with heap:=h2 }:=J2.re rfl (fun z=>nomatch z)
 obtain⟨oe,hoe,hoc⟩:=k3.there
 have LT:PySem.W.Looks (model X.prog X.w) h2 (typeOf (.ref ea)) cls:=by subst hoc;exact(PySem.W.Looks.ld hoe).andThen .now
 refine wpAny_handleBy_cons (codeAny_handlers_test (Ev (X:=X.suite ea) Y2 hg hm ?_ hdb)) (by intro q;cases q)
 have LE:PySem.W.Looks (model X.prog X.w) h2 (excMatches (.ref ea) c) b:=PySem.W.exm_one Y2.kIn LT hbm
 refine LE.here (s:={ s1 with heap:=h2 }) ?_
 cases b with
 | false =>
  show wpAny _ _ (handleBy (.ref ea) X.env []) _ _ _
  refine wpAny_handleBy_nil ?_
  obtain⟨_,_,_,oe,ws,T,oT,ts',he,hc,hd,h1',_⟩:=id k3
  unfold PySem.passOn
  refine FI (wpAny_field he hd h1' ?_)
  rw[FK (show ¬((Value.ref T == Value.none)=true) from by simp)]
  have go:∀{α:Type}(Q:α->Shared->Prop),wpAny (model X.prog X.w) X.A (do setFlight (.ref ea) X.env.frame;throw (.ref ea):Sem α) Q X.xe { s1 with heap:=h2 }:=fun{α} Q=>by
   rw[O.fr]
   refine FI (PySem.W.setFlight_onW k3 fun h3 hh hsl=>wpAny_throw (hfl rfl ea _ ⟨EF,σ',sg,B,J,os,gn,hB',up2.trans hsl,?_⟩))
   rw[O.stk];exact Ud hh
  first|exact go _|exact FI (FM (go _))
 | true =>
  show codeAny _ _ _ _ _
  refine codeAny_handlers_suite_as ?_
  refine lands_againW k3 fun h3 k5 k6=>?_
  have up3:sg.heap.UpToSlots h3:=up2.trans k6
  have J3:Inv X EF σ' H' { s1 with heap:=h3 }:=Wg (h:=h3) J os gn hB' k5.1 up3
  obtain⟨oe3,vs3,hoe3,hoc3,hod3,_⟩:=k5.first
  have fresh:sg.heap.get? ea=none:=by
   cases q:sg.heap.get? ea with
   |none=>rfl
   | some o =>
    exfalso
    by_cases hf:ea∈frs X.stack
    ·obtain⟨o',ho',hd'⟩:=Tb J.stack hf
     obtain⟨sl,hs'⟩:=up3 _ _ ho' hd'
     rw[hoe3] at hs';cases hs'
     exact hd' _ hod3
    ·have:=hB' _ _ q hf
     rw[k5.2.1] at this;cases this
  have hn:H' ea=none:=by
   cases q:H' ea with
   |none=>rfl
   | some u =>
    obtain⟨o,ho⟩:∃o,sg.heap.get? ea=some o:=by
     have:=J.hok ea u q
     exact iJ this
    rw[fresh] at ho;cases ho
  have T3:Inv X EF σ' (upd H' ea (.ext (lf ea cls))) { s1 with heap:=h3 }:=by
   refine J3.trackX hn ?_ (fun z=>?_) (fun y c' e z=>?_) (fun p hp z=>?_) ⟨oe3,hoe3,hoc3,vs3,hod3⟩ ⟨oe3,hoe3⟩ fun a1 a2 ⟨o,q1,q2⟩ kk=>⟨o,kk o q1,q2⟩
   ·cases q:X.s₀.heap.get? ea with
    |none=>rfl
    |some o =>
     obtain⟨o',e'⟩:=J.base.there ea o q (by rw[O.ex];simp)
     rw[fresh] at e';cases e'
   ·obtain⟨m,⟨o,_,_,ho,_⟩,_⟩:=J.loc
    rw[<-z,fresh] at ho;cases ho
   ·obtain⟨v,o,ho,_⟩:=J.cell y c' e
    rw[z,fresh] at ho;cases ho
   ·have ho:=(J.pin p hp).1
    rw[z,fresh] at ho;cases ho
  have T4:Inv X EF (List.replicate X.N.length none) (upd H' ea (.ext (lf ea cls))) { s1 with heap:=h3 }:=T3.weak (by rw[List.length_replicate];exact T3.len.symm) fun j v e=>by
   rw[List.getElem?_replicate] at e
   split at e<;>cases e
  have Y4:Inv (X.suite ea) EF (List.replicate X.N.length none) (upd H' ea (.ext (lf ea cls))) { s1 with heap:=h3 }:=T4.re rfl (fun z=>nomatch z)
  refine El (X:=X.suite ea) (v:=.ref ea) Y4 hN hi (.inl hx) rfl (fun s4 Y5=>?_) (.inr hx)
  refine FO (hs ea EF s4 _ _ (D.drop i) Y5 (ht rfl ea hn)) (fun f s5 hf=>?_) fun _ _ z=>False.elim z
  show wpAny _ _ (do bindName X.env n .none;unbindBehindTheSuite X.env n hpos) _ _ _
  have back:∀{σ2:St}{H2:Hp},Inv (X.suite ea) EF σ2 H2 s5->Inv X EF σ2 H2 s5:=fun{σ2 H2} K5=>by
   have z:=K5.re (A2:=X.A) (b:=X.calm) (E:=X.xe) rfl I.ok.hd
   exact z
  cases f with
  |next =>
   obtain⟨σ2,H2,K5,q⟩:=hf
   exact Hk (back K5) hN hi hx fun s6 K6=>⟨_,H2,K6,q⟩
  |brk =>
   obtain⟨σ2,H2,K5,q⟩:=hf
   exact Hk (back K5) hN hi hx fun s6 K6=>⟨_,H2,K6,q⟩
  |cont =>
   obtain⟨σ2,H2,K5,q⟩:=hf
   exact Hk (back K5) hN hi hx fun s6 K6=>⟨_,H2,K6,q⟩
  |ret u =>
   obtain⟨v,σ2,H2,K5,r,q⟩:=hf
   exact Hk (back K5) hN hi hx fun s6 K6=>⟨v,_,H2,K6,r,q⟩
end
end L2
namespace L2
open PySem PySem.Spec PyProof.Rows PySem.W PySem.Builtin PySem.Builtin.ObjectAttr PySem.Builtin.Getset_descriptor
structure ExAt (K:PySem.W.Frag) (C:Addr):Prop where
 ga:findIn K (.ref C) "__getattribute__" = some (some (.builtin "BaseException.__getattribute__"))
 gh:findIn K (.ref C) "__getattr__" = some none
 sb:subIn K (.ref C) (.type "BaseException")=some true
 ca:findIn K (.ref C) "__class__" = some (some (.builtin "object.__class__"))
 cg:specialIn K (.builtin "object.__class__") "__get__" = some (some (.builtin "getset_descriptor.__get__"))
 ct:takesIn K (.builtin "object.__class__")=some true
 cm:mroIn K C (.type "object")=some true
 cl:(clsIn K C).isSome=true
section
variable {prog:Program} {w:World} {A:Around} {E:Value->Shared->Prop} {s:Shared} {K:PySem.W.Frag} {e C:Addr}
theorem Eh(hx:lf e (.ref C) h):Looks M h (typeOf (.ref e)) (.ref C):=by
 obtain⟨o,ho,hc,_⟩:=hx
 exact hc▸(Looks.ld ho).andThen .now
theorem vQ(F:ExAt K C)(X:K.In h):Looks M h (find (.ref e) (.ref C) "__class__") (.bind (.builtin "getset_descriptor.__get__") (.builtin "object.__class__")):=by
 have L1:=looks_findIn (M:=M) X F.ca
 have L2:Looks M h (getOf (some (.builtin "object.__class__"))) (some (.builtin "getset_descriptor.__get__")):=looks_specialIn X F.cg
 have L3:=looks_takesIn (M:=M) X F.ct
 refine L1.andThen (L2.andThen ?_)
 exact(show Looks M h (dataDescriptor? (some (.builtin "object.__class__")) (some (.builtin "getset_descriptor.__get__"))) (some (.builtin "getset_descriptor.__get__",.builtin "object.__class__")) from L3.andThen .now).andThen (Looks.tag .now)
theorem zS(F:ExAt K C)(X:K.In s.heap)(hx:lf e (.ref C) s.heap)(h:R (.ok (.ret (.ref C))) s) :
  codeAny (model prog w) A (.call (.builtin "getset_descriptor.__get__") ⟨[.builtin "object.__class__",.ref e,tp],[]⟩) R s:=by
 obtain⟨hh,g,dr,t,os⟩:=s
 have L0:=Eh (M:=model prog w) hx
 have L1:=looks_mroIn (M:=model prog w) X F.cm
 refine codeAny_call_builtin KF.slot_gs.plain KF.entry_gs (KF.slot_gs.check _ _ _ _ _ _ _ _ KF.type_class (KF.args_gs _ _ _) ?_)
 unfold Builtin.«getset_descriptor.__get__» descrGet
 rw[dga_obj]
 refine FI (FM ?_)
 unfold descrGetter descrCheckInstance descrNameAndClass isInstance
 simp only[KF.owner_class]
 repeat lk
 refine⟨Code.quiet_builtin _ (by decide +kernel),codeAny_builtin KF.entry_class ?_⟩
 unfold Builtin.«object.__class__» shownTypeOf
 repeat lk
 exact h
theorem rK(F:ExAt K C)(X:K.In s.heap)(hx:lf e (.ref C) s.heap)(h:Q () s):wpAny M A (checkBuiltinCall "BaseException.__getattribute__" ⟨[.ref e,nameV],[]⟩) Q E s:=by
 have hk:builtinKind "BaseException.__getattribute__" = some .slot:=by decide +kernel
 have hsplit:splitId "BaseException.__getattribute__" = some ("BaseException", "__getattribute__"):=by decide +kernel
 have ha:=PySem.F.args_bexc_ga (.ref e) nameV
 have L0:=Eh (M:=M) hx
 have L1:=looks_subIn (M:=M) X F.sb
 have LI:Looks M s.heap (isInstance (.ref e) (.type "BaseException")) true:=L0.andThen L1
 simp only[checkBuiltinCall,hk,hsplit]
 refine FI (LI.here ?_)
 repeat (first|exact h|wp_step)
theorem rH(F:ExAt K C)(X:K.In s.heap)(hx:lf e (.ref C) s.heap)(h:R (.ok (.ret (.ref C))) s) :
  codeAny (model prog w) A (.call (.builtin "BaseException.__getattribute__") ⟨[.ref e,.str "__class__" tk],[]⟩) R s:=by
 refine codeAny_call_builtin PySem.F.excAttr_ValueError.ga.plain PySem.F.entry_bexc_ga (rK F X hx ?_)
 have L0:=Eh (M:=model prog w) hx
 have L1:=vQ (M:=model prog w) (e:=e) F X
 obtain⟨hh,g,dr,t,os⟩:=s
 obtain⟨oe,ho,hc,_⟩:=id hx
 have f1:PySem.Shared.heap ⟨hh,g,dr,t,os⟩=hh:=rfl
 repeat (first|(with_reducible refine wpAny_loadPart_at ho ?_;rw[hc])|(with_reducible refine L1.at ?_)|wp_step)
 exact zS F X hx (FM h)
theorem rJ(F:ExAt K C)(X:K.In s.heap)(hx:lf e (.ref C) s.heap)(h:Q (some (.ref C)) { s with toks:=s.toks+1 }):wpAny (model prog w) A (getAttr? (.ref e) "__class__") Q E s:=by
 have L0:=Eh (M:=model prog w) hx
 have L1:=looks_findIn (M:=model prog w) X F.ga
 have L2:=looks_findIn (M:=model prog w) X F.gh
 have f3:=PySem.F.excAttr_ValueError.ga.bind (.ref e)
 obtain⟨hh,g,d,t,os⟩:=s
 unfold getAttr? getAttrBy? getAttrBy
 refine FI (wpAny_mkText (FI (wpAny_attempt (wpAny_holding (FI (L0.at (FI (L1.at ?_))))))))
 have hx2:(Value.builtin "BaseException.__getattribute__" == Value.builtin "object.__getattribute__")=false:=by decide +kernel
 dsimp only
 rw[FK (by rw[hx2];simp)]
 unfold getAttrByItsOwn hookBefore
 refine FI ?_
 rw[FJ (show onTheHeap (Value.ref C)=true from rfl)]
 refine L2.at (FI (wpAny_attempt (wpAny_holding ?_)))
 unfold callGetattribute
 rw[FK (by simp)]
 unfold boundAndCalled
 rw[f3]
 refine FI (FM ?_)
 refine wpAny_call (rH (s:=⟨hh,g,d,t+1,os⟩) F X hx ?_)
 exact handed_on rfl (FM h)
theorem vE(F:ExAt K C):KitX K (.ref e) (.ref C) (lf e (.ref C)) where
 ty:=fun _ _ _ p=>Eh p
 it:=fun _ _ X _=>by
  obtain⟨cdD,hcD⟩:=Option.isSome_iff_exists.mp F.cl
  unfold clsIn at hcD
  split at hcD
  ·rename_i c' d' cd' sl' ho
   intro A' Q' E' s' k q
   unfold isType loadHead
   exact FI (wpAny_loadPart (k _ _ (X _ _ ho)) (FM q))
  ·cases hcD
 ne:=fun h tp dd its n sl X htp=>by
  obtain⟨cdD,hcD⟩:=Option.isSome_iff_exists.mp F.cl
  refine Bool.eq_false_iff.mpr fun q=>?_
  have e:C=tp:=Value.ref.inj (beq_iff_eq.mp q)
  subst e
  unfold clsIn at hcD
  split at hcD
  ·rename_i c' d' cd' sl' ho
   have z:=(X _ _ ho).symm.trans htp
   cases z
  ·cases hcD
 ca:=fun X p k=>rJ F X p k
theorem nQ(I:Inv X EF σ H s)(ea:H e=some (.ext (lf e (.ref C))))(F:ExAt X.K C)(k:kitOne X.K (.ref C) c=some b)(h:∀tk,Q (.bool b) { s with toks:=tk }) :
  wpAny (model X.prog X.w) A (call (.builtin "isinstance") [.ref e,c]) Q E s:=by
 obtain⟨p,_⟩:=(show gm X.prog X.w H s.heap e (.ext (lf e (.ref C))) from I.hok e _ ea)
 exact kia_one (vE F) I.kIn p k (fun z=>nomatch z) h
end
end L2
namespace L2
open PySem PySem.Spec PyProof.Rows
section
variable {prog:Program} {w:World} {A:Around} {E:Value->Shared->Prop} {s:Shared}
end
section
variable {prog:Program} {w:World} {A:Around} {E:Value->Shared->Prop} {s:Shared}
end
section
variable {X:Cx} {EF:List (Addr×Obj)} {σ:List (Option V)} {H H':Hp} {s:Shared} {h':Heap}
end
section
variable {prog:Program} {w:World} {A:Around} {E:Value->Shared->Prop} {s:Shared}
end
section
variable {X:Cx} {EF:List (Addr×Obj)} {σ:List (Option V)} {H H':Hp} {s:Shared} {h':Heap}
end
section
variable {X:Cx} {EF:List (Addr×Obj)} {σ:St} {H:Hp} {s:Shared} {scope:Scope} {x y:Str} {cl:List (Str×Addr)} {N:List Str} {cap:List Nat} {C:Addr} {fp:List Addr}
end
section
variable {X:Cx} {EF:List (Addr×Obj)} {σ:St} {scope:Scope} {x y:Str} {px py pos tp:Pos} {tk:Nat} {cl:List (Str×Addr)} {N:List Str} {cap:List Nat} {elt iter:Expr} {te:TE} {E:Value->Shared->Prop}
end
section
variable {prog:Program} {w:World} {A:Around} {s:Shared} {env:Env} {R:Result->Shared->Prop}
end
section
variable {X:Cx} {EF:List (Addr×Obj)} {σ:St} {scope:Scope} {x y:Str} {px py pos tp:Pos} {tk:Nat} {cl:List (Str×Addr)} {N:List Str} {cap:List Nat} {elt iter:Expr} {ifs:List Expr} {tt:TT} {te:TE} {E:Value->Shared->Prop}
end
def qp(h:Heap)(d:Addr)(es:Array DictEntry)(ep:Nat):Prop:=∃o,h.get? d=some o/\o.ExactDict/\o.data=.dict es ep
section
variable {prog:Program} {w:World} {A:Around} {E:Value->Shared->Prop} {s:Shared} {d it:Addr} {es:Array DictEntry} {ep i:Nat}
theorem qp.type(r:qp s.heap d es ep):s.TypeIs (.ref d) "dict":=let ⟨o,h1,h2,_⟩:=r;⟨o,h1,h2.1⟩
theorem qp.at(r:qp h d es ep)(k:∀o,h.get? d=some o->h'.get? d=some o):qp h' d es ep:=let ⟨o,h1,h2,h3⟩:=r;⟨o,k o h1,h2,h3⟩
theorem rB(lo:(d == sysModules)=false)(r:qp s.heap d es ep)
  (hQ:Q (.ref s.heap.objs.size) { s with heap:=s.heap.push { cls:=.type "dict_keyiterator",data:=.fields #[.ref d,.int 0 0,.int es.size 0,.int ep 0] } }):wpAny (model prog w) A (pyIter (.ref d)) Q E s:=by
 have ty:=r.type
 obtain⟨o,g1,g2,g3⟩:=id r
 refine wpAny_pyIter_slot ty F.slot_dict_iter (wpAny_call_entry F.slot_dict_iter ty F.entry_dict_iter ?_ (F.args_dict_iter_1 _))
 unfold Builtin.«dict.__iter__»
 refine FI ?_
 unfold Builtin.Dict.dictSlotNone
 refine FI (wpAny_notOrdered_dict ty ?_)
 show wpAny _ _ (pure (Value.ref d)) _ _ s
 refine FM ?_
 show wpAny _ _ (Builtin.Dict.showsAll d >>= _) _ _ s
 unfold Builtin.Dict.showsAll
 rw[FK (by rw[lo];exact EG)]
 refine FI (FM (FI (wpAny_dictEntries g1 g3 (FI (wpAny_dictEpoch g1 g3 ?_)))))
 refine FI (wpAny_newObj_type (FM ⟨_,rfl, "dict_keyiterator",_,⟨_,EW _ rfl,rfl⟩,F.slot_dict_keyiterator_next.lookup,?_⟩))
 simpa [rawInt] using hQ
theorem qO(hit:s.heap.IsKeyIter it d i es.size ep)(r:qp s.heap d es ep)(hlt:i<es.size)
  (hQ:∀h',h'.IsKeyIter it d (i+1) es.size ep->Heap.SameBut it s.heap h'->Q (some es[i].key) { s with heap:=h' }):wpAny (model prog w) A (pyNext (.ref it)) Q E s:=by
 obtain⟨o,ho,hc,hd⟩:=id hit
 obtain⟨od,g1,g2,g3⟩:=id r
 have ty:=hit.typeIs
 unfold pyNext
 refine FI (wpAny_attempt (wpAny_callSpecial?_slot (name:=Str.ofString "__next__") ty F.slot_dict_keyiterator_next (wpAny_call_entry F.slot_dict_keyiterator_next ty F.entry_dict_keyiterator_next ?_ (F.args_dict_keyiterator_next_1 _))))
 refine FI (FM (FI (FI ?_)))
 first|refine FI (wpAny_typeNameOfWhole_keyiter ty (FM ?_))|refine FI (wpAny_typeNameOf_keyiter ty (FM ?_))
 refine FI (wpAny_fieldsOf ho hd ?_)
 simp only[show Builtin.Dict_items.ownsTuple "dict_keyiterator" = false by decide,Bool.false_eq_true,if_false]
 show wpAny _ _ (if (Value.ref d == Value.none)=true then _ else _) _ _ s
 rw[FK (show ¬((Value.ref d == Value.none)=true) from EG)]
 refine FI (FM (FI (wpAny_dictEntries g1 g3 ?_)))
 rw[FK (by simp)]
 refine FI (FM (FI (wpAny_dictEpoch g1 g3 ?_)))
 rw[FK (by simp)]
 refine FM ?_
 simp only[show ¬((i:Int)<0) from by omega,if_false,Int.toNat_natCast,Array.getElem?_eq_getElem hlt]
 refine FI ?_
 first|refine FI (wpAny_typeNameOfWhole_keyiter ty (FM ?_))|refine FI (wpAny_typeNameOf_keyiter ty (FM ?_))
 refine FI (wpAny_isOneOf_keyiter ty ?_)
 show wpAny _ _ (setField (.ref it) 1 (rawInt ((i:Int)+1)) >>= _) _ _ s
 refine FI (wpAny_setField ho hd (by simp) ?_)
 have up:(s.heap.update it (Obj.mapFields (·.setIfInBounds 1 (rawInt ((i:Int)+1))))).IsKeyIter it d (i+1) es.size ep:=
  ⟨_,Heap.get?_update_self _ ho (Obj.isFreed_of_fields (Obj.data_mapFields hd _)),(Obj.cls_mapFields ..).trans hc,by rw[Obj.data_mapFields hd];simp[rawInt]⟩
 refine FI (wpAny_holding ?_)
 refine FI (wpAny_isOneOf_keyiter (s:={ s with heap:=s.heap.update it (Obj.mapFields (·.setIfInBounds 1 (rawInt ((i:Int)+1)))) }) up.typeIs ?_)
 show wpAny _ _ (pure es[i].key) _ _ _
 exact FM (FM ⟨_,rfl,FM (hQ _ up (Heap.SameBut.update ..))⟩)
theorem wE(hh:A.handled=none)(hit:s.heap.IsKeyIter it d i es.size ep)(r:qp s.heap d es ep)(hge:es.size<=i)
  (hQ:∀h',Heap.ExtBut it s.heap h'->Q none { s with heap:=h' }):wpAny (model prog w) A (pyNext (.ref it)) Q E s:=by
 obtain⟨o,ho,hc,hd⟩:=id hit
 obtain⟨od,g1,g2,g3⟩:=id r
 have ty:=hit.typeIs
 unfold pyNext
 refine FI (wpAny_attempt (wpAny_callSpecial?_slot (name:=Str.ofString "__next__") ty F.slot_dict_keyiterator_next (wpAny_call_entry F.slot_dict_keyiterator_next ty F.entry_dict_keyiterator_next ?_ (F.args_dict_keyiterator_next_1 _))))
 refine FI (FM (FI (FI ?_)))
 first|refine FI (wpAny_typeNameOfWhole_keyiter ty (FM ?_))|refine FI (wpAny_typeNameOf_keyiter ty (FM ?_))
 refine FI (wpAny_fieldsOf ho hd ?_)
 simp only[show Builtin.Dict_items.ownsTuple "dict_keyiterator" = false by decide,Bool.false_eq_true,if_false]
 show wpAny _ _ (if (Value.ref d == Value.none)=true then _ else _) _ _ s
 rw[FK (show ¬((Value.ref d == Value.none)=true) from EG)]
 refine FI (FM (FI (wpAny_dictEntries g1 g3 ?_)))
 rw[FK (by simp)]
 refine FI (FM (FI (wpAny_dictEpoch g1 g3 ?_)))
 rw[FK (by simp)]
 refine FM ?_
 simp only[show ¬((i:Int)<0) from by omega,if_false,Int.toNat_natCast,Array.getElem?_eq_none hge]
 refine FI ?_
 first|refine FI (wpAny_typeNameOfWhole_keyiter ty (FM ?_))|refine FI (wpAny_typeNameOf_keyiter ty (FM ?_))
 show wpAny _ _ (setField (.ref it) 0 .none >>= _) _ _ s
 refine FI (wpAny_setField ho hd (by simp) ?_)
 show wpAny _ _ (newExc (.type "StopIteration") [] >>= _) _ _ _
 refine FI ?_
 simp only[newExc,newTuple]
 refine FI (wpAny_newObj_type ?_ (by size_fits))
 refine FI (m:=firstArgMember _ _) (wpAny_of_eq (a:=Value.none) (by first|(simp only[firstArgMember];rfl)|rfl) ?_)
 refine wpAny_newObj_type ?_ (by size_fits)
 simp only[raiseNew]
 refine FI (wpAny_handled ?_)
 rw[show A.in1.handled=none from hh]
 refine FI (FM (wpAny_throw ?_))
 refine FI (wpAny_isInstance (T:="StopIteration") (b:=true) ⟨_,EW _ rfl,rfl⟩ isSubtype_stop (FM (hQ _ (((Heap.SameBut.update ..).extBut.push _).push _))))
theorem lS(hh:A.handled=none)(J d:Addr)(hne:d≠J)(es:Array DictEntry)(ep:Nat) :
  Walks prog w A J [J,d] [J] es.size (fun i v=>∃e,es[i]?=some e/\v=e.key) (fun i h=>h.IsKeyIter J d i es.size ep/\qp h d es ep) where
 sub:=fun b hb=>by simp at hb;simp[hb]
 frame:=fun _ _ _ st hk=>⟨st.1.at fun o e=>hk J (by simp) o e,st.2.at fun o e=>hk d (by simp) o e⟩
 item:=fun i s Q E hi st hQ=>qO st.1 st.2 hi fun h' up sb=>hQ _ h' s.toks ⟨es[i],by simp[hi],rfl⟩ ⟨up,st.2.at fun o e=>sb.extBut d o hne e⟩ fun b o hb e=>sb.extBut b o (fun z=>hb (by simp[z])) e
 done:=fun s Q E st hQ=>wE hh st.1 st.2 (EN _) fun h' eb=>hQ h' s.toks fun b o hb e=>eb b o (fun z=>hb (by simp[z])) e
 self:=fun _ _ _ _ st hQ=>wpAny_pyIter_keyiter st.1 hQ
theorem sQ(lo:(d == sysModules)=false):PySem.W.KdlSrc prog w "dict" d d es.size (fun i v=>∃e,es[i]?=some e/\v=e.key) (fun h=>qp h d es ep) where
 type:=fun _ r=>r.type
 there:=fun _ ⟨o,h1,_⟩=>⟨EL h1,EL h1⟩
 keep:=fun _ _ r hk=>r.at fun o e=>hk d (.inl rfl) o e
 notList:=by decide
 notTuple:=by decide
 hint:=fun _ _ _ _ r hq=>PySem.W.kdl_hint_dict r.type hq
 iter:=fun _ _ hh r=>⟨_,_,(fun _ _ hq=>rB lo r hq),lS hh _ d (let ⟨_,h1,_⟩:=r;EX (EL h1)) es ep,⟨⟨_,EW _ rfl,rfl,rfl⟩,r.at fun o e=>EI _ e⟩⟩
end
section
variable {X:Cx} {EF:List (Addr×Obj)} {σ:St} {H:Hp} {s:Shared} {a:Addr}
end
section
variable {prog:Program} {w:World} {A:Around} {R:Result->Shared->Prop} {J:Addr} {fp wr:List Addr} {n:Nat} {P:Nat->Value->Prop} {St:Nat->Heap->Prop} {kw:List (Str×Value)}
end
section
variable {prog:Program} {w:World} {A:Around} {E:Value->Shared->Prop} {s:Shared}
end
section
open PySem.W
end
section
variable {X:Cx}
end
section
variable {κ:Type} [DecidableEq κ]
def jc(kvs:List (κ×V))(k:κ):Option V:=(kvs.find? fun kv=>decide (kv.1=k)).map (·.2)
def jn(kvs:List (κ×V))(k:κ)(v:V):List (κ×V):=
 if (kvs.any fun kv=>decide (kv.1=k))=true then kvs.map (fun kv=>if kv.1=k then(kv.1,v) else kv) else kvs++[(k,v)]
theorem Hr{r:List (κ×V)}(e:p.1=k):jc (p::r) k=some p.2:=by simp[jc,List.find?_cons,e]
theorem Hs{r:List (κ×V)}(e:¬p.1=k):jc (p::r) k=jc r k:=by simp[jc,List.find?_cons,e]
theorem Vl(k:κ):∀kvs:List (κ×V),(kvs.any fun kv=>decide (kv.1=k))=(jc kvs k).isSome
 |[]=>rfl
 |p::r=>by
  rw[List.any_cons]
  by_cases e:p.1=k
  ·simp only[Hr e,decide_eq_true e,Bool.true_or,Option.isSome_some]
  ·rw[Hs e,FR e,Bool.false_or];exact Vl k r
theorem Kr(kvs:List (κ×V))(k:κ)(v:V):(jn kvs k v).length<=kvs.length+1:=by
 unfold jn
 split
 ·rw[EQ];omega
 ·rw[ES,EZ,List.length_nil];omega
theorem ow.isSome_eq(r:ow o u):o.isSome=u.isSome:=by
 cases o with
 |none=>cases u with
  |none=>rfl
  |some _=>exact(show False from r).elim
 |some _=>cases u with
  |none=>exact(show False from r).elim
  |some _=>rfl
theorem KV.val(r:KV kvs vs)(k:κ):ow (jc kvs k) (valueAt vs k):=by
 unfold KV at r
 induction r with
 |nil=>exact True.intro
 | @cons p q ps qs h t ih =>
  obtain⟨h1,h2⟩:=h
  by_cases e:p.1=k
  ·have e':q.1=k:=h1.symm.trans e
   have b:valueAt (q::qs) k=some q.2:=by simp[valueAt,List.find?_cons,e']
   rw[Hr e,b];exact h2
  ·have e':¬q.1=k:=fun z=>e (h1.trans z)
   have b:valueAt (q::qs) k=valueAt qs k:=by simp[valueAt,List.find?_cons,e']
   rw[Hs e,b];exact ih
theorem KV.any(r:KV kvs vs)(k:κ):(kvs.any fun kv=>decide (kv.1=k))=vs.any fun kv=>decide (kv.1=k):=by
 unfold KV at r
 induction r with
 |nil=>rfl
 |cons h t ih=>rw[List.any_cons,List.any_cons,ih,h.1]
theorem KV.repl(r:KV kvs vs)(k:κ)(ry:az y u) :
  KV (kvs.map fun kv=>if kv.1=k then(kv.1,y) else kv) (vs.map fun kv=>if kv.1=k then(kv.1,u) else kv):=by
 unfold KV at r ⊢
 induction r with
 |nil=>exact .nil
 |@cons p q ps qs h t ih =>
  rw[FN,FN]
  refine .cons ?_ ih
  obtain⟨h1,h2⟩:=h
  by_cases e:p.1=k
  ·rw[FJ e,FJ (h1.symm.trans e)];exact⟨h1,ry⟩
  ·rw[FK e,FK (fun z=>e (h1.trans z))];exact⟨h1,h2⟩
theorem KV.put(r:KV kvs vs)(k:κ)(ry:az y u):KV (jn kvs k y) (stored vs k u):=by
 unfold jn stored
 rw[r.any k]
 by_cases e:(vs.any fun kv=>decide (kv.1=k))=true
 ·rw[FJ e,FJ e];exact r.repl k ry
 ·rw[FK e,FK e];exact Paired.snoc r ⟨rfl,ry⟩
theorem KV.length(r:KV kvs vs):kvs.length=vs.length:=Paired.length r
end
theorem uk(r:az (kV k) u):(jb P w).is k u=true:=by
 cases k with
 |inl i=>obtain⟨t,e⟩:=(show ∃t,u=Value.int i t from r);subst e;exact iL P w i t
 |inr x=>obtain⟨t,e⟩:=(show ∃t,u=Value.str x t from r);subst e;exact v6 P w x t
theorem Ty:∀{ks:List be}{us:List Value},bc (ks.map kV) us->ItemsAre (jb P w) ks us
 |[],_,r=>by rw[List.map_nil] at r;cases r;exact .nil
 |k::ks,_,r=>by
  rw[FN] at r
  cases r with
  |cons h t=>exact .cons (uk h) (Ty t)
abbrev KT(H:Hp):List (List be×V)->List (List be×Addr×Value)->Prop:=Paired fun p q=>p.1=q.1/\H q.2.1=some (.tup (p.1.map kV))/\az p.2 q.2.2
theorem KT.val(r:KT H kvs xs)(k:List be):ow (jc kvs k) ((atKey xs k).map (·.2)):=by
 induction r with
 |nil=>exact True.intro
 | @cons p q ps qs h t ih =>
  obtain⟨h1,_,h2⟩:=h
  by_cases e:p.1=k
  ·have e':q.1=k:=h1.symm.trans e
   have b:atKey (q::qs) k=some q.2:=by simp[atKey,List.find?_cons,e']
   rw[Hr e,b];exact h2
  ·have e':¬q.1=k:=fun z=>e (h1.trans z)
   have b:atKey (q::qs) k=atKey qs k:=by simp[atKey,List.find?_cons,e']
   rw[Hs e,b];exact ih
theorem KT.repl(r:KT H kvs xs)(k:List be)(ry:az y u) :
  KT H (kvs.map fun kv=>if kv.1=k then(kv.1,y) else kv) (xs.map (putAt k u)):=by
 induction r with
 |nil=>exact .nil
 |@cons p q ps qs h t ih =>
  rw[FN,FN]
  refine .cons ?_ ih
  obtain⟨h1,h2,h3⟩:=h
  unfold putAt
  by_cases e:p.1=k
  ·rw[FJ e,FJ (h1.symm.trans e)];exact⟨h1,h2,ry⟩
  ·rw[FK e,FK (fun z=>e (h1.trans z))];exact⟨h1,h2,h3⟩
theorem KT.put(r:KT H kvs xs)(k:List be)(hb:H b=some (.tup (k.map kV)))(ry:az y u) :
  KT H (jn kvs k y) (storedH xs k b u):=by
 have e:(kvs.any fun kv=>decide (kv.1=k))=(atKey xs k).isSome:=by
  rw[Vl,(r.val k).isSome_eq,Option.isSome_map]
 unfold jn storedH
 rw[e]
 by_cases q:(atKey xs k).isSome=true
 ·rw[FJ q,FJ q];exact r.repl k ry
 ·rw[FK q,FK q];exact Paired.snoc r ⟨rfl,hb,ry⟩
theorem KT.keeps(r:KT H kvs xs)(ht:∀b ys,H b=some (.tup ys)->H' b=some (.tup ys)):KT H' kvs xs:=
 Paired.mapP r fun _ _ z=>⟨z.1,ht _ _ z.2.1,z.2.2⟩
section
variable {P:Program} {w:World} {H:Hp} {h:Heap} {a:Addr}
theorem aA(ok:dz P w H h)(e:Rd H a u):gm P w H h a u:=e.ok ok
theorem Fs(ok:dz P w H h)(e:Rd H a (.dK kvs)):kvs.length<=sizeLine/\(a == sysModules)=false/\∃vs,KV kvs vs/\h.DictOf (jb P w) a vs:=
 show gm P w H h a (.dK kvs) from aA ok e
theorem Ja(ok:dz P w H h)(e:H a=some (.dK kvs)):kvs.length<=sizeLine/\(a == sysModules)=false/\∃vs,KV kvs vs/\h.DictOf (jb P w) a vs:=Fs ok (.inl e)
theorem Fc(ok:dz P w H h)(e:H a=some (.tup (ks.map kV))):(tupleKind (jb P w)).is h ks a:=by
 obtain⟨_,its,r,o,h1,h2,n,h3⟩:=(show gm P w H h a (.tup (ks.map kV)) from ok a _ e)
 exact⟨o,its.toArray,n,h1,h2,h3,by simpa using Ty r⟩
theorem Fr(ok:dz P w H h)(e:Rd H a (.dT kvs)):kvs.length<=sizeLine/\(a == sysModules)=false /\
  ∃xs,KT H kvs xs/\h.DictOfH (tupleKind (jb P w)) a xs:=by
 obtain⟨z,y,xs,r,o,es,ep,h1,h2,h3,h4,h5⟩:=(show gm P w H h a (.dT kvs) from aA ok e)
 refine⟨z,y,xs,r,o,es,ep,h1,h2,h3,h4,fun x hx=>?_,h5⟩
 have all:∀{l:List (List be×V)}{m:List (List be×Addr×Value)},KT H l m->∀x∈m,(tupleKind (jb P w)).is h x.1 x.2.1:=by
  intro l m q
  induction q with
  |nil=>intro x hx;exact nomatch hx
  | @cons p q ps qs hq t ih =>
   intro x hx
   rcases List.mem_cons.mp hx with e|hx
   ·subst e
    exact Fc ok (by rw[<-hq.1];exact hq.2.1)
   ·exact ih x hx
 exact all r x hx
theorem ED(ok:dz P w H h)(e:H a=some (.dT kvs)):kvs.length<=sizeLine/\(a == sysModules)=false /\
  ∃xs,KT H kvs xs/\h.DictOfH (tupleKind (jb P w)) a xs:=Fr ok (.inl e)
end
def sv(H:Hp)(a:Addr)(y:V)(r:Option V):Prop:=
 (∃kvs k,Rd H a (.dK kvs)/\y=kV k/\r=jc kvs k)\/∃kvs k b,Rd H a (.dT kvs)/\y=.ref b/\H b=some (.tup (k.map kV))/\r=jc kvs k
def i7(H:Hp)(a:Addr)(y v:V)(H':Hp):Prop:=
 (∃kvs k,H a=some (.dK kvs)/\y=kV k/\kvs.length<sizeLine/\H'=upd H a (.dK (jn kvs k v))) ∨
 ∃kvs k b,H a=some (.dT kvs)/\y=.ref b/\H b=some (.tup (k.map kV))/\kvs.length<sizeLine/\H'=upd H a (.dT (jn kvs k v))
theorem sv.k{k:be}(e:H a=some (.dK kvs)):sv H a (kV k) (jc kvs k):=.inl ⟨kvs,k,.inl e,rfl,rfl⟩
theorem i7.k{k:be}{v:V}(e:H a=some (.dK kvs))(hl:kvs.length<sizeLine):i7 H a (kV k) v (upd H a (.dK (jn kvs k v))):=.inl ⟨kvs,k,e,rfl,hl,rfl⟩
section
variable {X:Cx} {EF:List (Addr×Obj)} {σ:St} {H:Hp} {s:Shared} {a:Addr} {y v:V} {u r:Value} {o:Option V} {A:Around} {E:Value->Shared->Prop}
theorem Inv.big(I:Inv X EF σ H s):sysModules<s.heap.objs.size:=by
 have h:mainGlobals<s.heap.objs.size:=(I.mod.glob.keeps I.bk).lt
 exact Nat.lt_trans (by decide) h
theorem oB(hu:A.units+1<cLine)(I:Inv X EF σ H s)(g:sv H a y (some v))(ry:az y u)(h:∀w' s',Inv X EF σ H s'->az v w'->Q w' s') :
  wpAny (model X.prog X.w) A (getItem (.ref a) u) Q E s:=by
 rcases g with⟨kvs,k,e,ey,l⟩|⟨kvs,k,b,e,ey,eb,l⟩
 ·subst ey
  obtain⟨z,hd,vs,rel,dd⟩:=Fs I.hok e
  obtain⟨w',hw,rw'⟩:=ow.some_of (v:=v) (o:=valueAt vs k) (by rw[l];exact rel.val k)
  exact wpAny_getItem_of (uk ry) dd.mapOf hw (h w' _ (I.tok _) rw')
 ·subst ey
  cases (show u=Value.ref b from ry)
  obtain⟨z,hd,xs,rel,dd⟩:=Fr I.hok e
  obtain⟨w',hw,rw'⟩:=ow.some_of (v:=v) (o:=(atKey xs k).map (·.2)) (by rw[l];exact rel.val k)
  obtain⟨p,hp,hp2⟩:=Option.map_eq_some_iff.mp hw
  refine wpAny_getItem_heap (tupleKind_room_in1 hu) (Fc I.hok eb) dd hp ?_
  rw[hp2]
  exact h w' _ (I.tok _) rw'
theorem d_in(hu:A.units+1<cLine)(I:Inv X EF σ H s)(g:sv H a y o)(ry:az y u)(h:∀s',Inv X EF σ H s'->Q (.bool o.isSome) s') :
  wpAny (model X.prog X.w) A (compareOp .In u (.ref a)) Q E s:=by
 rcases g with⟨kvs,k,e,ey,l⟩|⟨kvs,k,b,e,ey,eb,l⟩
 ·subst ey
  obtain⟨z,hd,vs,rel,dd⟩:=Fs I.hok e
  refine wpAny_in_of (uk ry) hd dd.mapOf ?_
  rw[<-(rel.val k).isSome_eq,<-l]
  exact h _ (I.tok _)
 ·subst ey
  cases (show u=Value.ref b from ry)
  obtain⟨z,hd,xs,rel,dd⟩:=Fr I.hok e
  refine wpAny_in_heap (tupleKind_room_in1 hu) (Fc I.hok eb) hd dd ?_
  have q:=(rel.val k).isSome_eq
  rw[Option.isSome_map] at q
  rw[<-q,<-l]
  exact h _ (I.tok _)
theorem wI(hu:A.units+1<cLine)(I:Inv X EF σ H s)(g:sv H a y o)(ry:az y u)(h:∀s',Inv X EF σ H s'->Q (.bool (!o.isSome)) s') :
  wpAny (model X.prog X.w) A (compareOp .NotIn u (.ref a)) Q E s:=by
 rcases g with⟨kvs,k,e,ey,l⟩|⟨kvs,k,b,e,ey,eb,l⟩
 ·subst ey
  obtain⟨z,hd,vs,rel,dd⟩:=Fs I.hok e
  refine wpAny_notIn_of (uk ry) hd dd.mapOf ?_
  rw[<-(rel.val k).isSome_eq,<-l]
  exact h _ (I.tok _)
 ·subst ey
  cases (show u=Value.ref b from ry)
  obtain⟨z,hd,xs,rel,dd⟩:=Fr I.hok e
  refine wpAny_notIn_heap (tupleKind_room_in1 hu) (Fc I.hok eb) hd dd ?_
  have q:=(rel.val k).isSome_eq
  rw[Option.isSome_map] at q
  rw[<-q,<-l]
  exact h _ (I.tok _)
theorem Nc(I:Inv X EF σ H s)(mu:Gf (H a))(hs:Heap.SameBut a s.heap h')(he:∃q,h'.get? a=some q)(new:gm X.prog X.w (upd H a ob) h' a ob) :
  Inv X EF σ (upd H a ob) { s with heap:=h',toks:=t' }:=
 I.write (x:=a) (e:=a) mu (.inl rfl) (fun b q hb z=>(hs.2 b hb).trans z) he new
theorem Zt(z:kvs.length<=sizeLine)(hd:(a == sysModules)=false)(rel:KV kvs vs)(dd:h'.DictOf (jb P w) a vs) :
  gm P w H' h' a (.dK kvs):=⟨z,hd,vs,rel,dd⟩
theorem oA(hu:A.units+1<cLine)(I:Inv X EF σ H s)(g:i7 H a y v H')(ry:az y u)(rv:az v r)(h:∀s',Inv X EF σ H' s'->Q () s') :
  wpAny (model X.prog X.w) A (setItem (.ref a) u r) Q E s:=by
 rcases g with⟨kvs,k,e,ey,l,eH⟩|⟨kvs,k,b,e,ey,eb,l,eH⟩
 ·subst ey eH
  obtain⟨z,hd,vs,rel,dd⟩:=Ja I.hok e
  have hz:vs.length<=sizeLine:=by rw[<-rel.length];exact z
  have hl:(jn kvs k v).length<=sizeLine:=by have:=Kr kvs k v;omega
  refine wpAny_setItem_pairs (hsz:=hz) (uk ry) dd fun h' dd' hs=>h _ ?_
  have he:∃q,h'.get? a=some q:=let ⟨q,_,_,hq,_⟩:=dd';⟨q,hq⟩
  exact Nc I (by rw[e];exact True.intro) hs he (Zt hl hd (rel.put k rv) dd')
 ·subst ey eH
  cases (show u=Value.ref b from ry)
  obtain⟨z,hd,xs,rel,dd⟩:=ED I.hok e
  have hz:xs.length<=sizeLine:=by rw[<-Paired.length rel];exact z
  have hl:(jn kvs k v).length<=sizeLine:=by have:=Kr kvs k v;omega
  refine wpAny_setItem_heap (hsz:=hz) (tupleKind_room_in1 hu) (Fc I.hok eb) dd fun h' dd' hs=>h _ ?_
  obtain⟨q,es,ep,hq,h2,h3,h4,_,h5⟩:=dd'
  refine Nc I (by rw[e];exact True.intro) hs ⟨q,hq⟩ ⟨hl,hd,_,(rel.put k eb rv).keeps fun c ys ec=>?_,q,es,ep,hq,h2,h3,h4,h5⟩
  rw[du (Y7 ec e (fun z=>nomatch z))]
  exact ec
end
section
variable {X:Cx} {EF:List (Addr×Obj)} {σ:St} {H:Hp} {s:Shared} {a:Addr} {kvs:List (be×V)} {k:be} {u:Value} {A:Around} {E:Value->Shared->Prop}
end
def Fx(i:Expr):Prop:=∀ov iv,subscripted i false ov iv=operate [ov,iv] (getItem ov iv)
theorem Ws{E:Value->Shared->Prop}{pos:Pos}{T id:String}{Q:Value->Shared->Prop}
  (hl:typeLookup (.type T) "__getitem__" = pure (some (.builtin id)))(hs:Fx slice)
  (h:wpAny (model prog w) A (eval value env) (fun o s₁=>wpAny (model prog w) A (eval slice env) (fun i s₂=>s₂.TypeIs o T/\wpAny (model prog w) A (getItem o i) Q E s₂) E s₁) E s) :
  wpAny (model prog w) A (eval (.Subscript value slice pos) env) Q E s:=by
 refine Subscript_ (FO h (fun o s₁ h₁=>FO h₁ (fun i s₂ h₂=>?_) fun _ _ x=>x) fun _ _ x=>x)
 obtain⟨hT,h₂⟩:=h₂
 unfold subscriptTail
 refine FI ?_
 rw[getitemInPython_of_ne hT.not_modules]
 refine FI (wpAny_specialOf hT hl ?_)
 have fin:wpAny (model prog w) A (subscripted slice false o i) (fun r s₃=>wpAny (model prog w) A (letTemporaryGo value o r >>= fun _=>pure r) Q E s₃) E s₂:=by
  rw[hs o i]
  exact wpAny_operating (FO h₂ (fun r s₃ h₃=>FI (wpAny_letTemporaryGo (FM h₃))) fun _ _ x=>x)
 first
  |exact FM (FI fin)
  |exact FI (FM (FI fin))
  |exact FI fin
theorem iU(I:Inv X EF σ H s)(g:sv H a y o):s.TypeIs (.ref a) "dict":=by
 rcases g with⟨kvs,k,e,_,_⟩|⟨kvs,k,b,e,_,_,_⟩
 ·obtain⟨_,_,vs,_,dd⟩:=Fs I.hok e
  exact dd.typeIs
 ·obtain⟨_,_,xs,_,dd⟩:=Fr I.hok e
  exact dd.typeIs
def G0(td ty:TE):TE:=fun σ H Q=>td σ H fun x H1=>ty σ H1 fun y H2=>∃a v,x=.ref a/\sv H2 a y (some v)/\Q v H2
def V8(td ty tv:TE):TS:=fun D σ H=>tv σ H fun v H1=>td σ H1 fun x H2=>ty σ H2 fun y H3=>∃a H4,x=.ref a/\i7 H3 a y v H4/\D.nx σ H4
section
variable {X:Cx} {o i e value:Expr} {pos pos' tpos:Pos} {td ty tv:TE}
theorem tS(hu:X.A.units+1<cLine)(ho:PE X o td)(hi:PE X i ty)(hs:Fx i):PE X (.Subscript o i pos) (G0 td ty):=by
 intro EF s σ H Q I h
 refine Ws PySem.F.slot_dict_getitem.lookup hs (bj (ho EF s σ H _ I h) fun u s1 ⟨x,H1,I1,rx,q1⟩=>bj (hi EF s1 σ H1 _ I1 q1) fun iv s2 ⟨y,H2,I2,ry,a,v,ex,g,q2⟩=>?_)
 subst ex
 obtain rfl:u=Value.ref a:=rx
 exact⟨iU I2 g,oB hu I2 g ry fun w' s3 I3 rw'=>⟨v,H2,I3,rw',q2⟩⟩
theorem tR(hu:X.A.units+1<cLine)(ho:PE X o td)(hi:PE X i ty)(hv:PE X value tv)(hs:swapsWith value (some (.Subscript o i pos')) pos.line X.env=pure false) :
  PS X (.Assign [.Subscript o i pos'] value pos) (V8 td ty tv):=by
 intro EF s σ H D I h
 refine wpAny_Assign_Subscript (bj (hv EF s σ H _ I h) fun r s1 ⟨v,H1,I1,rv,q1⟩=>bj (ho EF s1 σ H1 _ I1 q1) fun u s2 ⟨x,H2,I2,rx,q2⟩=>bj (hi EF s2 σ H2 _ I2 q2) fun iv s3 ⟨y,H3,I3,ry,a,H4,ex,g,q3⟩=>?_) hs
 subst ex
 obtain rfl:u=Value.ref a:=rx
 exact oA hu I3 g ry rv fun s4 I4=>⟨σ,H4,I4,q3⟩
end
theorem rN(h:Heap)(hb:sysModules<h.objs.size):gm P w H (h.push { cls:=.type "dict",data:=.dict #[] }) h.objs.size (.dK []):=
 ⟨Nat.zero_le _,beq_eq_false_iff_ne.mpr (Ne.symm (EX hb)),[],.nil,Heap.DictOf.new h⟩
def wW:TE:=fun _ H Q=>∀p,H p=none->Q (.ref p) (upd H p (.dK []))
section
variable {X:Cx} {pos:Pos}
theorem pT:PE X (.Dict [] [] pos) wW:=fun EF s σ H Q I h =>
 wpAny_Dict_empty ⟨.ref s.heap.objs.size,_,I.laid (a:=s.heap.objs.size) (o:=.dK []) (t':=s.toks) (fun _ _ q=>EI _ q) (EN _) (rN s.heap I.big),rfl,h _ (I.hok.fresh (EN _))⟩
end
section
variable {X:Cx} {EF:List (Addr×Obj)} {σ:St} {H:Hp} {s:Shared} {a:Addr} {y d:V} {u r:Value} {o:Option V} {A:Around} {E:Value->Shared->Prop}
end
section
variable {X:Cx} {o e f:Expr} {apos cpos:Pos} {td ty tx:TE}
end
section
variable {X:Cx} {EF:List (Addr×Obj)} {σ:St} {H:Hp} {s:Shared} {a:Addr} {kvs:List (be×V)} {A:Around} {E:Value->Shared->Prop}
end
section
variable {X:Cx} {EF:List (Addr×Obj)} {σ:St} {H:Hp} {s:Shared} {a:Addr} {y:V} {u:Value} {A:Around} {E:Value->Shared->Prop}
end
namespace SS
def stepS(σ:List Str)(z:Str):List Str:=if σ.any (· == z) then σ else σ++[z]
def onceS(zs:List Str):List Str:=zs.foldl stepS []
theorem Vx(zs:List Str)(z:Str):onceS (zs++[z])=stepS (onceS zs) z:=by unfold onceS;rw[List.foldl_append];rfl
theorem step_le(σ:List Str)(z:Str):(stepS σ z).length<=σ.length+1:=by
 unfold stepS
 split
 ·omega
 ·rw[ES,FD];exact EN _
theorem fold_le:∀(zs σ:List Str),(zs.foldl stepS σ).length<=σ.length+zs.length
 |[],σ=>by simp
 |z::zs,σ=>by
  have h1:=fold_le zs (stepS σ z)
  have h2:=step_le σ z
  rw[List.foldl_cons,EZ]
  omega
theorem once_le(zs:List Str):(onceS zs).length<=zs.length:=by have:=fold_le zs [];unfold onceS;simpa using this
theorem step_any(σ:List Str)(v k:Str):(stepS σ v).any (· == k)=(σ.any (· == k)||decide (k=v)):=by
 unfold stepS
 by_cases h:σ.any (· == v)=true
 ·rw[FJ h]
  by_cases e:k=v
  ·subst e;rw[h];simp
  ·simp[e]
 ·rw[FK h,List.any_append]
  by_cases e:k=v
  ·subst e;simp
  ·have hb:(v == k)=false:=by simpa [beq_iff_eq] using (fun h':v=k=>e h'.symm)
   simp[hb,e]
theorem iB(σ:List Str)(v:Str):(stepS σ v).length=if σ.any (· == v) then σ.length else σ.length+1:=by
 unfold stepS;split<;>simp
section
variable {P:Program} {w:World}
abbrev yl(P:Program)(w:World)(h:Heap)(S:Addr)(zs:List Str):Prop:=h.SetOf (PySem.strKind P w) S (fun k=>(onceS zs).any (· == k)) (onceS zs).length
section
variable {A:Around} {R:Result->Shared->Prop} {I:Addr} {fp wr:List Addr} {G:Array GenState->Array GenState->Prop} {n:Nat} {Pv:Nat->Value->Prop} {St:Nat->Shared->Prop}
theorem vD(W:WalksS P w A.in1 I fp wr G n Pv St)(S:Addr)(hSf:S∉fp)(hn:zs.length=n)(hv:∀i v,Pv i v->∃z t,zs[i]?=some z/\v=Value.str z t)(hb:n+1<scanBound) :
  ∀(m i:Nat)(s:Shared),n - i=m->i<=n->St i s->yl P w s.heap S (zs.take i) ->
   (∀s',Moved (S::wr) G s s'->yl P w s'.heap S zs->R (.ok (.ret .none)) s')->codeAny (model P w) A (.builtin "set.update.loop" ⟨[.ref S,.ref I],[]⟩) R s:=by
 have hSw:S∉wr:=fun h=>hSf (W.sub _ h)
 have hsub:∀b∈wr,b∈S::wr:=fun b hb=>ER _ hb
 have tr:∀{s s':Shared}{zs:List Str},Moved wr G s s'->yl P w s.heap S zs->yl P w s'.heap S zs:=by
  intro s s' zs hm hS
  obtain⟨o,es,ep,t,ho,rest⟩:=hS
  exact⟨o,es,ep,t,hm.heap S _ hSw ho,rest⟩
 intro m
 induction m with
 |zero =>
  intro i s hk0 hi hst hS hR
  have hin:i=n:=by omega
  subst hin
  refine codeAny_builtin PyProof.Rows.F.entry_set_update_loop ?_
  rw[Around.under_plainId PyProof.Rows.F.plain_set_update_loop _]
  show wpAny _ A.in1 (pyNext (.ref I) >>= _) _ _ s
  refine FI (W.done s _ _ hst fun s' hm=>?_)
  show wpAny _ A.in1 (ret Value.none) _ _ s'
  refine FM (hR s' (hm.mono hsub) ?_)
  have:=tr hm hS
  rwa [<-hn,List.take_length] at this
 | succ m ih =>
  intro i s hk0 hi hst hS hR
  have hlt:i<n:=by omega
  refine codeAny_builtin PyProof.Rows.F.entry_set_update_loop ?_
  rw[Around.under_plainId PyProof.Rows.F.plain_set_update_loop _]
  show wpAny _ A.in1 (pyNext (.ref I) >>= _) _ _ s
  refine FI (W.item i s _ _ hlt hst fun v s' hP hst' hm=>?_)
  obtain⟨z,t,hz,rfl⟩:=hv i v hP
  have hS':=tr hm hS
  show wpAny _ A.in1 (holding [Value.str z t] (setAdd S (.str z t)) >>= _) _ _ s'
  refine FI (wpAny_holding ?_)
  unfold setAdd
  refine wpAny_holding ?_
  refine FI ((PySem.strKind P w).pyHash (k:=z) (strKind_is _ _ _ _) ?_)
  have hroom:(onceS (zs.take i)).length+1<scanBound:=by
   have h1:=once_le (zs.take i)
   have h2:(zs.take i).length<=i:=by rw[List.length_take];omega
   omega
  refine wpAny_setAddHashed_of (knd:=PySem.strKind P w) (s:={ s' with toks:=s'.toks+1 }) (strKind_is _ _ _ _) rfl hS' hroom fun h' hsb hS2=>?_
  have et:zs.take (i+1)=zs.take i++[z]:=by rw[List.take_add_one,hz];rfl
  have hSi:yl P w h' S (zs.take (i+1)):=SetOf_congr hS2 (fun k'=>by rw[et,Vx,step_any]) (by rw[et,Vx,iB])
  refine FM ⟨plainId_quiet PyProof.Rows.F.plain_set_update_loop _,ih (i+1) _ (by omega) hlt (W.frame _ s' _ _ hst' (Nat.le_succ _) fun b hb o e=>?_) hSi fun s'' hm'' hS''=>?_⟩
  ·rw[hsb.2 b (fun h:b=S=>hSf (by rw[<-h];exact hb))];exact e
  ·refine hR s'' (Moved.trans W.gtrans ((hm.mono hsub).then_heap (Nat.le_succ _) fun b o hb e=>?_) hm'') hS''
   rw[hsb.2 b (fun h:b=S=>hb (by rw[h];exact EK))];exact e
end
section
variable {A:Around} {E:Value->Shared->Prop} {s:Shared}
abbrev newO(led:Bool):Obj:={ cls:=.type "set",dict:=none,data:=.set #[] 0 (.fresh 0 0 led) }
set_option maxRecDepth 100000 in
set_option maxHeartbeats 3200000 in
theorem set_tup(hh:A.handled=none)(hl:s.heap.IsTuple l items)(hn:zs.length=items.size)(hv:∀(i:Nat) v,items[i]?=some v->∃z t,zs[i]?=some z/\v=Value.str z t)(hb:items.size+1<scanBound)
  (h:∀(h':Heap)(tok:Nat),yl P w h' s.heap.objs.size zs->(∀b o,s.heap.get? b=some o->h'.get? b=some o)->Q (.ref s.heap.objs.size) { s with heap:=h',toks:=tok }) :
  wpAny (model P w) A (call (.type "set") [.ref l]) Q E s:=by
 obtain⟨c,tl,hmro⟩:=PySem.F.called_set.mro
 have hmade:=PySem.F.called_set.made
 have hsub:=PySem.F.called_set.sub
 refine wpAny_call (codeAny_of_tree ?_)
 show wpAny _ _ (callAny (.type "set") _) _ _ _
 refine FM ⟨Code.quiet_builtin _ (by decide +kernel),codeAny_builtin PySem.F.entry_type_call ?_⟩
 rw[Around.under_plain (weight_type_call_type "set" [.ref l] []) rfl]
 have h1:=PySem.F.called_set.notType
 have h2:=PySem.F.called_set.canCreate
 have hct:=PySem.F.typeCall_set_1 (.ref l)
 repeat (any_goals (first|assumption|wp_step))
 refine codeAny_mono (code_set_new_1 (.ref l) (E:=E) (Q₁:=fun obj s₁=>∃led:Bool,obj=.ref s.heap.objs.size/\s₁={ s with heap:=s.heap.push (newO led) }) fun led=>⟨led,rfl,rfl⟩) fun r s₁ hr=>?_
 cases r with
 |error e=>exact hr
 | ok fl =>
  cases fl with
  | ret obj =>
   obtain⟨led,rfl,rfl⟩:=hr
   have hS:(s.heap.push (newO led)).get? s.heap.objs.size=some (newO led):=EW _ rfl
   have hT:Shared.TypeIs { s with heap:=s.heap.push (newO led) } (.ref s.heap.objs.size) "set":=⟨_,hS,rfl⟩
   have hli:=PySem.F.called_set.init.lookup
   have hbi:=PySem.F.called_set.init.bind (.ref s.heap.objs.size)
   repeat (any_goals (first|assumption|wp_step))
   refine codeAny_mono (codeAny_call_builtin (R:=wants (fun r s₂=>r=.none/\∃h' tok,s₂={ s with heap:=h',toks:=tok }/\yl P w h' s.heap.objs.size zs /\
     (∀b o,s.heap.get? b=some o->h'.get? b=some o)) E) PySem.F.called_set.init.plain PySem.F.entry_set_init (check_set_init_1 hT ?_)) fun r₂ s₂ hr₂=>?_
   ·obtain⟨ol,hol,hcl,nl,hdl⟩:=hl
    obtain⟨ocls,odict,odata,oslots⟩:=ol
    simp only at hcl hdl
    subst hcl;subst hdl
    have hol':(s.heap.push (newO led)).get? l=some { cls:=.type "tuple",dict:=odict,data:=.seq items nl,slots:=oslots }:=EI _ hol
    have hsls:=PySem.F.sub_tuple_set
    have hslf:=PySem.F.sub_tuple_frozenset
    have hne:(Value.type "tuple" == Value.type "dict")=false:=by decide
    have hl1:(s.heap.push (newO led)).IsTuple l items:=⟨_,hol',rfl,nl,rfl⟩
    unfold Builtin.«set.__init__» noKeywords Builtin.Frozenset.updateFrom
    generalize hPI:pyIter=PI
    wp_walk
    subst hPI
    refine wpAny_pyIter_tuple hl1 ?_
    refine FI (wpAny_runValue ?_)
    have hlS:l<s.heap.objs.size:=EL hol
    have hh3:A.in1.in1.in1.handled=none:=by simp[hh]
    have hneI:l≠(s.heap.push (newO led)).objs.size:=by
     rw[Heap.size_push];exact EX (Nat.lt_succ_of_lt hlS)
    have hSf:s.heap.objs.size∉[(s.heap.push (newO led)).objs.size,l]:=by
     rw[Heap.size_push];simp only[List.mem_cons,List.mem_singleton,List.not_mem_nil,or_false,not_or]
     exact⟨EX (Nat.lt_succ_self _),Nat.ne_of_gt hlS⟩
    refine vD ((Walks.tuple hh3 _ l hneI items).toS) s.heap.objs.size
     hSf hn hv hb (items.size - 0) 0 _ (by omega) (Nat.zero_le _)
     ⟨⟨_,EW _ rfl,rfl,rfl⟩,(hl1.push _)⟩ ?hS0 ?hR
    case hS0 =>
     have hget:((s.heap.push (newO led)).push { cls:=.type "tuple_iterator",data:=.fields #[.ref l,.int 0 0] }).get? s.heap.objs.size=some (newO led):=EI _ hS
     exact SetOf_congr ((setObjOf_fresh (knd:=PySem.strKind P w) led).setOf hget (by unfold scanBound;omega)) (fun _=>rfl) rfl
    case hR =>
     intro s' hm hS'
     obtain⟨h',g',d',tk',os'⟩:=s'
     have eg:g'=s.gens:=hm.gens
     have ed:d'=s.drawn:=hm.drawn
     have eo:os'=s.os:=hm.os
     subst eg;subst ed;subst eo
     show wpAny _ _ _ _ _ _
     refine FM ?_
     show wpAny _ _ (ret Value.none) _ _ _
     refine FM ⟨rfl,h',tk',rfl,hS',fun b o e=>?_⟩
     have hb:=EL e
     have hb1:b≠s.heap.objs.size:=EX hb
     have hb2:b≠(s.heap.push (newO led)).objs.size:=by
      rw[Heap.size_push];exact EX (Nat.lt_succ_of_lt hb)
     exact hm.heap b o (by simp only[List.mem_cons,List.mem_singleton,List.not_mem_nil,or_false,not_or];exact⟨hb1,hb2⟩) (EI _ (EI _ e))
   ·cases r₂ with
    |error e=>exact hr₂
    | ok fl₂ =>
     cases fl₂ with
     |ret r =>
      obtain⟨rfl,h',tok,rfl,hS',hk'⟩:=hr₂
      repeat (any_goals (first|assumption|wp_step))
      exact h _ _ hS' hk'
     |_=>exact hr₂.elim
  |_=>exact hr.elim
end
end
end SS
theorem Wf:∀{es:List DictEntry}{vs:List (be×Value)}{kvs:List (be×V)},Pairs (jb P w) es vs->KV kvs vs->bc (kvs.map fun p=>kV p.1) (es.map (·.key))
 |_,_,_,.nil,.nil=>.nil
 |e::es,v::vs,p::kvs,.cons hk _ t,.cons r q=>by
  refine .cons ?_ (Wf t q)
  have hk:yf v.1 e.key=true:=hk
  rw[<-r.1] at hk
  rcases keyIs_shape hk with⟨i,t,e1,e2⟩|⟨x,t,e1,e2⟩
  ·show az (kV p.1) e.key;rw[e1,e2];exact⟨t,rfl⟩
  ·show az (kV p.1) e.key;rw[e1,e2];exact⟨t,rfl⟩
section
variable {X:Cx} {EF:List (Addr×Obj)} {σ:St} {H:Hp} {s:Shared} {a:Addr}
theorem wJ(hc:X.A.handled=none)(I:Inv X EF σ H s)(e:H a=some (.dK kvs))
  (k:∀(p:Addr)(s':Shared),H p=none->Inv X EF σ (upd H p (.lst (kvs.map fun p=>kV p.1))) s'->Q (.ref p) s') :
  wpAny (model X.prog X.w) X.A (call (.type "list") [.ref a]) Q X.xe s:=by
 obtain⟨z,lo,vs,rel,o,es,ep,h1,h2,h3,h4,h5,h6⟩:=(show gm X.prog X.w H s.heap a (.dK kvs) from I.hok a _ e)
 have r:qp s.heap a es ep:=⟨o,h1,h2,h3⟩
 have vals:=Wf h5 rel
 have lk:kvs.length=es.size:=by have:=vals.length;rw[EQ,EQ,Array.length_toList] at this;exact this
 refine PySem.W.kdl_call (sQ (es:=es) (ep:=ep) lo) hc r (by rw[<-lk];exact z) fun h' tk acc c' hk hD hacc=>?_
 obtain⟨ha1,ha2⟩:=hacc
 have hb:acc.toList=es.toList.map (·.key):=by
  refine List.ext_getElem? fun j=>?_
  rw[EY,Array.getElem?_toList,Array.getElem?_toList]
  by_cases hj:j<acc.size
  ·obtain⟨en,hx,hv⟩:=ha2 j acc[j] (by simp[hj])
   rw[hx,Array.getElem?_eq_getElem hj,hv];rfl
  ·rw[Array.getElem?_eq_none (by omega),Array.getElem?_eq_none (by omega)];rfl
 rw[<-hb] at vals
 exact k s.heap.objs.size _ (I.hok.fresh (EN _)) (I.laid (a:=s.heap.objs.size) (o:=.lst (kvs.map fun p=>kV p.1)) (t':=tk) hk (EN _) ⟨by rw[EQ];exact z,acc.toList,c',vals,by rw[Array.toArray_toList];exact hD⟩)
end
theorem cU:fillsNumberSlot (.type "tuple") "mul" = pure false:=
 PySem.fillsNumberSlot_seq (id:="tuple.__mul__") (r:=some (.builtin "tuple.__rmul__")) PySem.F.slot_tuple_mul.lookup (by decide +kernel) PySem.F.slot_tuple_rmul.lookup (by decide +kernel)
theorem gA:seqRepeat? (.type "tuple")=pure (some (.builtin "tuple.__mul__")):=by
 unfold seqRepeat?
 rw[PySem.seqSlot_of (T:="tuple") (name:="__mul__") (id:="tuple.__mul__") PySem.F.slot_tuple_mul.lookup (by decide +kernel),PySem.seqSlot_of (T:="tuple") (name:="__rmul__") (id:="tuple.__rmul__") PySem.F.slot_tuple_rmul.lookup (by decide +kernel)]
 rfl
theorem nT(a:Int)(t:Tok)(l:Addr)(items:Array Value)(n:Nat)(dd:Option Addr)(sl:Array (Option Value)) :
  Meets (Builtin.«int.__rmul__» ⟨[.int a t,.ref l],[]⟩) (fun _ R s=>s.heap.get? l=some { cls:=.type "tuple",dict:=dd,data:=.seq items n,slots:=sl }/\R (.ok (.ret Value.notImplemented)) s):=
 .of_wp fun prog w A R s h=>by
  obtain⟨hp,g,d,tk,os⟩:=s
  obtain⟨hl,h⟩:=h
  wp_walk
  exact⟨_,rfl,h⟩
theorem jQ(l:Addr)(items:Array Value)(n:Nat)(x:Int)(u:Tok)(dd:Option Addr)(sl:Array (Option Value))(he:items.isEmpty=false)(h1:1<x)(h2:x<1000)(hz:items.size<=1000) :
  Meets (Builtin.«tuple.__mul__» ⟨[.ref l,.int x u],[]⟩) (fun _ R s=>s.heap.get? l=some { cls:=.type "tuple",dict:=dd,data:=.seq items n,slots:=sl }/\R (.ok (.ret (Value.ref s.heap.objs.size))) { s with heap:=s.heap.push { cls:=Value.type "tuple",data:=Data.seq (List.foldl (fun x1 x2=>x1++x2) #[] (List.replicate x.toNat items)) },toks:=s.toks }):=
 .of_wp fun prog w A R s h=>by
  obtain⟨hp,g,d,tk,os⟩:=s
  obtain⟨hl,h⟩:=h
  have f1:=AutoSeq1.idx_int
  have f2:=AutoSeq1.sub_tuple_tuple
  have c1:(decide (x < -2 ^ 63)||decide (x ≥ 2 ^ 63))=false:=by simp only[Bool.or_eq_false_iff,decide_eq_false_iff_not];omega
  have c2:(items.isEmpty||x == 1)=false:=by rw[he,Bool.false_or];exact beq_false_of_ne (by omega)
  have c3:(decide (x<=0)||items.isEmpty)=false:=by rw[he,Bool.or_false];exact FR (by omega)
  have hb:(items.size:Int)*x<=1000000:=by
   have e1:(items.size:Int)*x<=1000*x:=Int.mul_le_mul_of_nonneg_right (by omega) (by omega)
   omega
  have c4:decide (((items.size:Nat):Int)*x > (2 ^ 63 - 1)/8)=false:=FR (by omega)
  have c5:Builtin.Tuple.tupleTooMany ((items.size:Int)*x)=false:=by
   unfold Builtin.Tuple.tupleTooMany
   rw[sizeLine_eq]
   exact FR (by omega)
  have hsz:(List.foldl (fun x1 x2=>x1++x2) #[] (List.replicate x.toNat items)).size<=sizeLine:=by
   rw[AutoListH.size_joined,sizeLine_eq]
   simp only[Array.size_empty,Nat.zero_add]
   have:((x.toNat*items.size:Nat):Int)<=1000000:=by
    rw[Int.natCast_mul,Int.mul_comm,show((x.toNat:Nat):Int)=x by omega];exact hb
   omega
  have no:∀{b:Bool},b=false->decide (b=true)=false:=fun h=>by rw[h];rfl
  wp_walk
  refine wpAny_ite_false (no c1) ?_
  wp_walk
  refine wpAny_ite_false (no c2) ?_
  wp_walk
  refine wpAny_ite_false (no c3) ?_
  wp_walk
  try refine wpAny_ite_false c4 ?_
  try wp_walk
  try refine wpAny_ite_false (no c5) ?_
  try wp_walk
  try refine wpAny_ite_false (FR (Nat.not_lt.mpr hsz)) ?_
  try wp_walk
  exact⟨_,rfl,h⟩
section
variable {prog:Program} {w:World} {A:Around} {E:Value->Shared->Prop} {s:Shared}
theorem rX{t b:Addr}{ws:List Value}{Q:Value->Shared->Prop}(ht:IsTup s.heap t #[])(hb:IsTup s.heap b ws.toArray)(h:Q (.ref b) s):wpAny (model prog w) A (binaryOp .Add (.ref t) (.ref b)) Q E s:=by
 obtain⟨⟨cls,dd,data,sl⟩,ho,hc,n,hd⟩:=id ht
 obtain⟨⟨cls2,dd2,data2,sl2⟩,ho2,hc2,n2,hd2⟩:=id hb
 simp only at hc hd hc2 hd2
 subst hc hd hc2 hd2
 exact concat_meets ⟨_,ho,rfl⟩ ⟨_,ho2,rfl⟩ noFill_tuple_add seq_tuple_add PySem.F.slot_tuple_add PySem.F.entry_tuple_add (PySem.F.args_tuple_add_2 _ _)
   (tuple_addW0 t b #[] ws.toArray n n2 dd dd2 sl sl2 rfl) ⟨ho,ho2,h⟩
end
section
variable {X:Cx}
theorem qM:fc X (binaryOp .Add) (fun x y H Q=>∃a b ys,x=.ref a/\y=.ref b/\fu X.K H a []/\fu X.K H b ys/\Q (.ref b) H):=by
 intro EF s σ H x y v u Q I rx ry h
 obtain⟨a,b,ys,rfl,rfl,ha,hb,q⟩:=h
 cases rx
 cases ry
 obtain⟨its,r1,p1,_⟩:=I.tuple ha
 obtain⟨its2,r2,p2,_⟩:=I.tuple hb
 cases r1
 exact rX p1 p2 ⟨.ref b,H,I,rfl,q⟩
theorem uU:fc X (binaryOp .Mult) (fun x y H Q=>∃a k xs,x=.ref a/\y=.int k/\fu X.K H a xs/\xs≠[]/\1<k/\k<1000/\xs.length<=1000/\∀p,H p=none->Q (.ref p) (upd H p (.tup (List.replicate k.toNat xs).flatten))):=by
 intro EF s σ H x y v u Q I rx ry h
 obtain⟨l,k,xs,rfl,rfl,hH,h0,h1,h2,hz,q⟩:=h
 cases rx
 obtain⟨t,rfl⟩:=ry
 obtain⟨its,r,pl,_⟩:=I.tuple hH
 have hl:=r.length
 obtain⟨⟨cls,dd,data,sl⟩,e,ec,n,ed⟩:=id pl
 simp only at ec ed
 subst ec ed
 have he:its.toArray.isEmpty=false:=by
  cases its with
  |nil=>cases r;exact absurd rfl h0
  |cons a r'=>rfl
 have hnew:List.foldl (fun x1 x2=>x1++x2) #[] (List.replicate k.toNat its.toArray)=(List.replicate k.toNat its).flatten.toArray:=by have:=Ln its k.toNat [];rw[List.nil_append] at this;exact this
 refine wpAny_binaryOp_repeat_ref (T:="tuple") (U:="int") (by decide) ⟨_,e,rfl⟩ (fun s'=>typeIs_int s' k t) cU PySem.F.fills_int_mul PySem.F.slot_int_rmul gA PySem.F.slot_int_index.lookup
  (call_meets PySem.F.slot_int_rmul (typeIs_int s k t) PySem.F.entry_int_rmul (PySem.F.args_int_rmul_2 _ _) (nT k t l its.toArray n dd sl) ⟨e,rfl,⟨_,e,rfl⟩,call_meets PySem.F.slot_tuple_mul ⟨_,e,rfl⟩ PySem.F.entry_tuple_mul (PySem.F.args_tuple_mul_2 _ _) (jQ l its.toArray n k t dd sl he h1 h2 (by rw[EM,<-hl];exact hz)) ⟨e,?_⟩⟩)
 rw[hnew]
 refine⟨.ref _,_,I.laid (t':=s.toks) (o:=.tup (List.replicate k.toNat xs).flatten) (fun b ob q=>EI _ q) (EN _) ⟨?_,_,r.rep k.toNat,IsTup.new _ _⟩,rfl,q _ I.fresh⟩
 rw[Xn]
 have:k.toNat*xs.length<=1000*1000:=Nat.mul_le_mul (by omega) hz
 rw[sizeLine_eq];omega
end
theorem bZ(b:Str)(u:Tok)(l:Addr)(o:Obj)(hc:o.cls=.type "dict")(hd:o.data=.dict es ep) :
  Meets (Builtin.«str.__eq__» ⟨[.str b u,.ref l],[]⟩) (fun _ R s=>s.heap.get? l=some o/\R (.ok (.ret .notImplemented)) s):=
 .of_wp fun prog w A R s h=>by
  obtain⟨cls,dd,data,sl⟩:=o
  simp only at hc hd
  subst hc hd
  obtain⟨hp,g,d,tk,os⟩:=s;obtain⟨hl,h⟩:=h
  wp_walk using wpAny_loadPart hl,wpAny_load hl
  exact⟨_,rfl,h⟩
theorem cB(l:Addr)(o:Obj)(hc:o.cls=.type "dict")(b:Str)(u:Tok) :
  Meets (Builtin.«dict.__eq__» ⟨[.ref l,.str b u],[]⟩) (fun _ R s=>s.heap.get? l=some o/\R (.ok (.ret .notImplemented)) s):=
 .of_wp fun prog w A R s h=>by
  obtain⟨cls,dd,data,sl⟩:=o
  simp only at hc
  subst hc
  obtain⟨hp,g,d,tk,os⟩:=s;obtain⟨hl,h⟩:=h
  have f1:=PySem.F.sub_str_dict
  wp_walk
  exact⟨_,rfl,h⟩
section
variable {A:Around} {s:Shared}
open SeqAt
theorem iH(b:Str)(u:Tok)(ho:s.heap.get? l=some o)(hc:o.cls=.type "dict")(hd:o.data=.dict es ep)(hu:A.units<cLine):RcAt A s (.str b u) (.ref l) false:=fun prog w E Q h =>
 rc_eq_decline_or (k:=false) (typeIs_str s b u) ⟨_,ho,hc⟩ (by decide) PySem.F.sub_dict_str PySem.F.slot_str_eq PySem.F.slot_dict_eq_refl
  (fun _ hq=>call_meets PySem.F.slot_str_eq (typeIs_str s b u) PySem.F.entry_str_eq (PySem.F.args_str_eq_2 _ _) (bZ b u l o hc hd) ⟨ho,hq⟩)
  (fun _ hq=>call_meets PySem.F.slot_dict_eq_refl ⟨_,ho,hc⟩ PySem.F.entry_dict_eq (PySem.F.args_dict_eq_2 _ _) (cB l o hc b u) ⟨ho,hq⟩)
  (fun _ hq=>wpAny_of_eq (rfl:isSame (.str b u) (.ref l)=pure false) hq) (.inr hu) h
theorem iT(b:Str)(u:Tok)(ho:s.heap.get? l=some o)(hc:o.cls=.type "dict")(hd:o.data=.dict es ep)(hu:A.units<cLine):EqAt A s (.str b u) (.ref l) false:=fun prog w E Q h=>by
 unfold eqBool
 refine wpAny_holding ?_
 refine wpAny_ite_split (fun hab=>absurd (eq_of_beq hab) nofun) (fun _=>?_)
 exact FI (iH b u ho hc hd hu prog w E _ (wpAny_truthy_bool h))
end
end L2
namespace DL
open PySem PySem.Spec PyProof.Rows L2
abbrev St:=L2.St
abbrev dy:=be
abbrev kr(kvs:List (dy×V)):HO:=.dK kvs
inductive W where
 |non|bl (b:Bool)|int (i:Int)|str (x:Str)|ty (n:String)
 |tup (xs:List W)|lst (xs:List W)|dct (ks:List dy) (vs:List W)|ref (n:Nat)|exn (x:Str)
instance:Inhabited W:=⟨.non⟩
def kT:Bool:=true
inductive MO where
 |lst (xs:List W)|dct (ks:List dy) (vs:List W)
structure S where
 nxt:Nat
 mu:Nat->Option MO
inductive R (α:Type) where
 |ok (a:α) (s:S)|ex (c:W) (s:S)|stuck
def R.bind{α β:Type}(r:R α)(f:α->S->R β):R β:=match r with
 |.ok a s=>f a s
 |.ex c s=>.ex c s
 |.stuck=>.stuck
abbrev Ga:=List (Option W)
section
variable (K:PySem.W.Frag) (ι:Nat->Addr) (N:Nat) (G:Hp)
mutual
inductive RelW:V->W->Prop
 |non:RelW .non .non
 |bl (b:Bool):RelW (.bl b) (.bl b)
 |int (i:Int):RelW (.int i) (.int i)
 |str (x:Str):RelW (.str x) (.str x)
 |ty (n:String):RelW (.ty n) (.ty n)
 |tup {a:Addr} {xs:List V} {ws:List W}:fu K G a xs->(kT=false->G a=some (.tup xs))->RelWs xs ws->RelW (.ref a) (.tup ws)
 |lst {a:Addr} {xs:List V} {ws:List W}:bx K G a xs->RelWs xs ws->RelW (.ref a) (.lst ws)
 |dct {a:Addr} {xs:List V} {ks:List dy} {ws:List W}:G a=some (kr (ks.zip xs))->xs.length=ks.length->RelWs xs ws->RelW (.ref a) (.dct ks ws)
 |ref {n:Nat}:n<N->RelW (.ref (ι n)) (.ref n)
 |exn {a C:Addr} {x:Str}:G a=some (.ext (lf a (.ref C)))->PySem.W.nsIn K mainGlobals x=some (some (.ref C))->RelW (.ref a) (.exn x)
inductive RelWs:List V->List W->Prop
 |nil:RelWs [] []
 |cons {x:V} {w:W} {xs:List V} {ws:List W}:RelW x w->RelWs xs ws->RelWs (x::xs) (w::ws)
end
end
structure Ext (ι:Nat->Addr) (N:Nat) (G:Hp) (ι':Nat->Addr) (N':Nat) (G':Hp):Prop where
 le:N<=N'
 ag:∀n,n<N->ι' n=ι n
 sm:im G G'
theorem Ext.refl(ι:Nat->Addr)(N:Nat)(G:Hp):Ext ι N G ι N G:=⟨EN _,fun _ _=>rfl,im.refl G⟩
theorem Ext.trans(a:Ext ι N G ι1 N1 G1)(b:Ext ι1 N1 G1 ι2 N2 G2):Ext ι N G ι2 N2 G2:=
 ⟨FA a.le b.le,fun n h=>(b.ag n (ET h a.le)).trans (a.ag n h),a.sm.trans b.sm⟩
theorem sqT_same{K:PySem.W.Frag}{H H':Hp}{a:Addr}{xs:List V}(e:im H H')(h:fu K H a xs):fu K H' a xs:=by
 rcases h with(h|⟨o,h⟩)|h
 ·exact .inl (.inl (e _ _ h))
 ·exact .inl (.inr ⟨o,e _ _ h⟩)
 ·exact .inr h
section
variable {K:PySem.W.Frag} {ι ι':Nat->Addr} {N N':Nat} {G G':Hp}
theorem RelW.mono(e:Ext ι N G ι' N' G')(h:RelW K ι N G v w):RelW K ι' N' G' v w:=by
 refine RelW.rec (motive_1:=fun v w _=>RelW K ι' N' G' v w) (motive_2:=fun vs ws _=>RelWs K ι' N' G' vs ws) ?_ ?_ ?_ ?_ ?_ ?_ ?_ ?_ ?_ ?_ ?_ ?_ h
 ·exact .non
 ·exact .bl
 ·exact .int
 ·exact .str
 ·exact .ty
 ·intro a xs ws s c _ r;exact .tup (sqT_same e.sm s) (fun h=>e.sm _ _ (c h)) r
 ·intro a xs ws s _ r;exact .lst (e.sm.seq s) r
 ·intro a xs ks ws s l _ r;exact .dct (e.sm _ _ s) l r
 ·intro n hn;rw[<-e.ag n hn];exact .ref (ET hn e.le)
 ·intro a C x s n;exact .exn (e.sm _ _ s) n
 ·exact .nil
 ·intro x w xs ws _ _ r1 r2;exact .cons r1 r2
theorem RelWs.mono(e:Ext ι N G ι' N' G'):∀{vs:List V}{ws:List W},RelWs K ι N G vs ws->RelWs K ι' N' G' vs ws
 |_,_,.nil=>.nil
 |_,_,.cons r t=>.cons (r.mono e) (RelWs.mono e t)
theorem RelWs.length:∀{vs:List V}{ws:List W},RelWs K ι N G vs ws->vs.length=ws.length
 |_,_,.nil=>rfl
 |_,_,.cons _ t=>by rw[EZ,EZ,RelWs.length t]
theorem RelWs.get:∀{vs:List V}{ws:List W}{i:Nat}{w:W},RelWs K ι N G vs ws->ws[i]?=some w->∃v,vs[i]?=some v/\RelW K ι N G v w
 |_,_,_,_,.nil,e=>by simp at e
 |_,_,0,_,.cons r _,e=>by simp at e;subst e;exact⟨_,rfl,r⟩
 |_,_,i+1,x,.cons _ t,e=>by
  obtain⟨u,h1,h2⟩:=RelWs.get (i:=i) (w:=x) t (by simpa using e)
  exact⟨u,by simpa using h1,h2⟩
theorem RelWs.get':∀{vs:List V}{ws:List W}{i:Nat}{v:V},RelWs K ι N G vs ws->vs[i]?=some v->∃w,ws[i]?=some w/\RelW K ι N G v w
 |_,_,_,_,.nil,e=>by simp at e
 |_,_,0,_,.cons r _,e=>by simp at e;subst e;exact⟨_,rfl,r⟩
 |_,_,i+1,x,.cons _ t,e=>by
  obtain⟨u,h1,h2⟩:=RelWs.get' (i:=i) (v:=x) t (by simpa using e)
  exact⟨u,by simpa using h1,h2⟩
theorem RelWs.append:∀{vs vs':List V}{ws ws':List W},RelWs K ι N G vs ws->RelWs K ι N G vs' ws'->RelWs K ι N G (vs++vs') (ws++ws')
 |_,_,_,_,.nil,s=>s
 |_,_,_,_,.cons r t,s=>.cons r (RelWs.append t s)
theorem RelWs.take:∀{vs:List V}{ws:List W}(n:Nat),RelWs K ι N G vs ws->RelWs K ι N G (vs.take n) (ws.take n)
 |_,_,0,_=>.nil
 |_,_,_+1,.nil=>.nil
 |_,_,n+1,.cons r t=>.cons r (RelWs.take n t)
theorem RelWs.drop:∀{vs:List V}{ws:List W}(n:Nat),RelWs K ι N G vs ws->RelWs K ι N G (vs.drop n) (ws.drop n)
 |_,_,0,r=>r
 |_,_,_+1,.nil=>.nil
 |_,_,n+1,.cons _ t=>RelWs.drop n t
theorem RelWs.set(r:RelW K ι N G v w):∀{vs:List V}{ws:List W}(n:Nat),RelWs K ι N G vs ws->RelWs K ι N G (vs.set n v) (ws.set n w)
 |_,_,_,.nil=>.nil
 |_,_,0,.cons _ t=>.cons r t
 |_,_,n+1,.cons q t=>.cons q (RelWs.set r n t)
theorem RelWs.bls:∀{vs:List V}{bs:List Bool},RelWs K ι N G vs (bs.map W.bl)->vs=bs.map V.bl
 |_,[],.nil=>rfl
 |_,b::bs,.cons r t=>by cases r;rw[FN,RelWs.bls t]
theorem RelWs.ofInts(ns:List Int):RelWs K ι N G (ns.map V.int) (ns.map W.int):=by
 induction ns with
 |nil=>exact .nil
 |cons n ns ih=>exact .cons (.int n) ih
def nn(K:PySem.W.Frag)(ι:Nat->Addr)(N:Nat)(G H:Hp)(a:Addr):MO->Prop
 |.lst ws=>∃xs,H a=some (.lst xs)/\RelWs K ι N G xs ws
 |.dct ks ws=>∃xs,H a=some (kr (ks.zip xs))/\xs.length=ks.length/\RelWs K ι N G xs ws
structure SR (K:PySem.W.Frag) (ι:Nat->Addr) (st:S) (G H:Hp):Prop where
 sub:im G H
 live:∀n o,st.mu n=some o->n<st.nxt/\G (ι n)=none/\nn K ι st.nxt G H (ι n) o
 inj:∀n m o o',st.mu n=some o->st.mu m=some o'->ι n=ι m->n=m
end
structure EnvR (K:PySem.W.Frag) (ι:Nat->Addr) (N:Nat) (G:Hp) (σ:St) (Γ:Ga):Prop where
 len:σ.length=Γ.length
 get:∀(i:Nat)(w:W),Γ[i]?=some (some w)->∃v,σ[i]?=some (some v)/\RelW K ι N G v w
theorem EnvR.mono{K:PySem.W.Frag}{ι ι':Nat->Addr}{N N':Nat}{G G':Hp}{σ:St}{Γ:Ga}(e:Ext ι N G ι' N' G')(h:EnvR K ι N G σ Γ):EnvR K ι' N' G' σ Γ:=
 ⟨h.len,fun i w q=>let ⟨v,h1,h2⟩:=h.get i w q;⟨v,h1,h2.mono e⟩⟩
theorem EnvR.set{K:PySem.W.Frag}{ι:Nat->Addr}{N:Nat}{G:Hp}{σ:St}{Γ:Ga}{v:V}{w:W}(h:EnvR K ι N G σ Γ)(i:Nat)(r:RelW K ι N G v w):EnvR K ι N G (σ.set i (some v)) (Γ.set i (some w)):=by
 refine⟨by rw[List.length_set,List.length_set];exact h.len,fun j u q=>?_⟩
 rw[List.getElem?_set] at q ⊢
 by_cases hij:i=j
 ·rw[FJ hij] at q ⊢
  subst hij
  by_cases hl:i<Γ.length
  ·rw[FJ hl] at q
   rw[FJ (by rw[h.len];exact hl)]
   cases q
   exact⟨v,rfl,r⟩
  ·rw[FK hl] at q;cases q
 ·rw[FK hij] at q ⊢
  exact h.get j u q
section
variable {K:PySem.W.Frag} {ι:Nat->Addr} {st:S} {G H:Hp}
theorem SR.laid(h:SR K ι st G H)(hp:H p=none):SR K ι st (upd G p o) (upd H p o)/\Ext ι st.nxt G ι st.nxt (upd G p o):=by
 have hG:G p=none:=h.sub.free hp
 have sm:im G (upd G p o):=fun b u e=>by rw[du (lj e hG)];exact e
 have ex:Ext ι st.nxt G ι st.nxt (upd G p o):=⟨EN _,fun _ _=>rfl,sm⟩
 refine⟨⟨fun b u e=>?_,fun n m e=>?_,h.inj⟩,ex⟩
 ·by_cases hb:b=p
  ·subst hb;rw[iz] at e ⊢;exact e
  ·rw[du hb] at e ⊢;exact h.sub b u e
 ·obtain⟨h1,h2,h3⟩:=h.live n m e
  have hne:ι n≠p:=by
   intro z
   cases m with
   |lst ws=>obtain⟨xs,q,_⟩:=h3;rw[z,hp] at q;cases q
   |dct ks ws=>obtain⟨xs,q,_⟩:=h3;rw[z,hp] at q;cases q
  refine⟨h1,by rw[du hne];exact h2,?_⟩
  cases m with
  |lst ws=>obtain⟨xs,q,r⟩:=h3;exact⟨xs,by rw[du hne];exact q,r.mono ex⟩
  |dct ks ws=>obtain⟨xs,q,l,r⟩:=h3;exact⟨xs,by rw[du hne];exact q,l,r.mono ex⟩
def S.new(st:S)(o:MO):S:=⟨st.nxt+1,fun n=>if n=st.nxt then some o else st.mu n⟩
def S.put(st:S)(n:Nat)(o:MO):S:=⟨st.nxt,fun m=>if m=n then some o else st.mu m⟩
theorem SR.newL(h:SR K ι st G H)(hp:H p=none)(r:RelWs K ι st.nxt G xs ws) :
  ∃ι',Ext ι st.nxt G ι' (st.nxt+1) G/\SR K ι' (st.new (.lst ws)) G (upd H p (.lst xs))/\ι' st.nxt=p:=by
 have hG:G p=none:=h.sub.free hp
 have ex:Ext ι st.nxt G (fun n=>if n=st.nxt then p else ι n) (st.nxt+1) G:=⟨Nat.le_succ _,fun n hn=>FK (EX hn),im.refl G⟩
 have nep:∀n o,st.mu n=some o->ι n≠p:=fun n o e z=>by
  obtain⟨_,_,h3⟩:=h.live n o e
  cases o with
  |lst ws=>obtain⟨xs,q,_⟩:=h3;rw[z,hp] at q;cases q
  |dct ks ws=>obtain⟨xs,q,_⟩:=h3;rw[z,hp] at q;cases q
 refine⟨fun n=>if n=st.nxt then p else ι n,ex,⟨fun b u e=>?_,fun n o e=>?_,fun n m o o' e e' z=>?_⟩,FJ rfl⟩
 ·rw[du (lj e hG)];exact h.sub b u e
 ·by_cases hn:n=st.nxt
  ·subst hn
   have e':(if st.nxt=st.nxt then some (MO.lst ws) else st.mu st.nxt)=some o:=e
   rw[FJ rfl] at e'
   cases e'
   refine⟨Nat.lt_succ_self _,by(try dsimp only);rw[FJ rfl];exact hG,xs,by(try dsimp only);rw[FJ rfl,iz],r.mono ex⟩
  ·have e':(if n=st.nxt then some (MO.lst ws) else st.mu n)=some o:=e
   rw[FK hn] at e'
   obtain⟨h1,h2,h3⟩:=h.live n o e'
   have hne:=nep n o e'
   refine⟨Nat.lt_succ_of_lt h1,by(try dsimp only);rw[FK hn];exact h2,?_⟩
   cases o with
   |lst ws=>obtain⟨xs,q,r⟩:=h3;exact⟨xs,by(try dsimp only);rw[FK hn,du hne];exact q,r.mono ex⟩
   |dct ks ws=>obtain⟨xs,q,l,r⟩:=h3;exact⟨xs,by(try dsimp only);rw[FK hn,du hne];exact q,l,r.mono ex⟩
 ·have e1:(if n=st.nxt then some (MO.lst ws) else st.mu n)=some o:=e
  have e2:(if m=st.nxt then some (MO.lst ws) else st.mu m)=some o':=e'
  (try dsimp only at z)
  by_cases hn:n=st.nxt
  ·by_cases hm:m=st.nxt
   ·rw[hn,hm]
   ·rw[FK hm] at e2
    rw[FJ hn,FK hm] at z
    exact absurd z.symm (nep m o' e2)
  ·rw[FK hn] at e1
   by_cases hm:m=st.nxt
   ·rw[FK hn,FJ hm] at z
    exact absurd z (nep n o e1)
   ·rw[FK hm] at e2
    rw[FK hn,FK hm] at z
    exact h.inj n m o o' e1 e2 z
theorem SR.putL(h:SR K ι st G H)(hn:st.mu n=some o)(r:RelWs K ι st.nxt G xs ws):SR K ι (st.put n (.lst ws)) G (upd H (ι n) (.lst xs)):=by
 obtain⟨h1,h2,_⟩:=h.live n o hn
 refine⟨fun b u e=>?_,fun m u e=>?_,fun a b u u' e e' z=>?_⟩
 ·rw[du (lj e h2)];exact h.sub b u e
 ·have e':(if m=n then some (MO.lst ws) else st.mu m)=some u:=e
  by_cases hm:m=n
  ·subst hm
   rw[FJ rfl] at e'
   cases e'
   exact⟨h1,h2,xs,iz,r⟩
  ·rw[FK hm] at e'
   obtain⟨g1,g2,g3⟩:=h.live m u e'
   have hne:ι m≠ι n:=fun z=>hm (h.inj m n u o e' hn z)
   refine⟨g1,g2,?_⟩
   cases u with
   |lst ws=>obtain⟨xs,q,r⟩:=g3;exact⟨xs,by rw[du hne];exact q,r⟩
   |dct ks ws=>obtain⟨xs,q,l,r⟩:=g3;exact⟨xs,by rw[du hne];exact q,l,r⟩
 ·have e1:(if a=n then some (MO.lst ws) else st.mu a)=some u:=e
  have e2:(if b=n then some (MO.lst ws) else st.mu b)=some u':=e'
  have l1:∃o,st.mu a=some o:=by
   by_cases q:a=n
   ·exact⟨o,by rw[q];exact hn⟩
   ·rw[FK q] at e1;exact⟨u,e1⟩
  have l2:∃o,st.mu b=some o:=by
   by_cases q:b=n
   ·exact⟨o,by rw[q];exact hn⟩
   ·rw[FK q] at e2;exact⟨u',e2⟩
  obtain⟨o1,l1⟩:=l1
  obtain⟨o2,l2⟩:=l2
  exact h.inj a b o1 o2 l1 l2 z
end
def Jp(K:PySem.W.Frag)(c:W)(cls:Value):Prop:=∃x C,c=.str x/\PySem.W.nsIn K mainGlobals x=some (some (.ref C))/\cls=.ref C
def XW(X:Cx)(ι:Nat->Addr)(N:Nat)(G:Hp)(c:W)(st':S):Prop:=
 ∀(H':Hp)(ι':Nat->Addr)(G':Hp)(ea:Addr)(cls:Value)(s':Shared),Ext ι N G ι' st'.nxt G'->SR X.K ι' st' G' H'->Jp X.K c cls->lb X H' ea cls s'->X.xe (.ref ea) s'
theorem XW.mono(e:Ext ι N G ι1 N1 G1)(h:XW X ι N G c st'):XW X ι1 N1 G1 c st':=
 fun H' ι' G' x cl s' e' r q I=>h H' ι' G' x cl s' (e.trans e') r q I
def wpR(X:Cx){α:Type}(Rel:(ι:Nat->Addr)->Nat->Hp->α->V->Prop)(ι:Nat->Addr)(N:Nat)(G:Hp)(r:R α)(Q:VK):Prop:=match r with
 |.ok w st'=>∀v ι' G' H',Ext ι N G ι' st'.nxt G'->SR X.K ι' st' G' H'->Rel ι' st'.nxt G' w v->Q v H'
 |.ex c st'=>XW X ι N G c st'
 |.stuck=>False
abbrev RW(X:Cx):(ι:Nat->Addr)->Nat->Hp->W->V->Prop:=fun ι N G w v=>RelW X.K ι N G v w
abbrev au(X:Cx):=wpR X (RW X)
theorem au.bind(h:au X ι N G (r.bind f) Q)
  (k:∀w st' v ι' G' H',r=.ok w st'->Ext ι N G ι' st'.nxt G'->SR X.K ι' st' G' H'->RelW X.K ι' st'.nxt G' v w->au X ι' st'.nxt G' (f w st') Q->Q' v H'):au X ι N G r Q':=by
 cases r with
 |stuck=>exact h
 |ex c s=>exact h
 | ok w st' =>
  intro v ι' G' H' e sr rel
  refine k w st' v ι' G' H' rfl e sr rel ?_
  have h':au X ι N G (f w st') Q:=h
  cases q:f w st' with
  |stuck=>rw[q] at h';exact h'
  |ex c s=>rw[q] at h';exact XW.mono e h'
  |ok w2 st2 =>
   rw[q] at h'
   exact fun v2 ι2 G2 H2 e2 sr2 rel2=>h' v2 ι2 G2 H2 (e.trans e2) sr2 rel2
theorem au.mono(h:au X ι N G r Q)(k:∀v H,Q v H->Q' v H):au X ι N G r Q':=by
 cases r with
 |stuck=>exact h
 |ex c s=>exact h
 |ok w st'=>exact fun v ι' G' H' e sr rel=>k _ _ (h v ι' G' H' e sr rel)
theorem au.later(e:Ext ι N G ι1 N1 G1)(h:au X ι N G r Q):au X ι1 N1 G1 r Q:=by
 cases r with
 |stuck=>exact h
 |ex c s=>exact XW.mono e h
 |ok w st'=>exact fun v ι' G' H' e' sr rel=>h v ι' G' H' (e.trans e') sr rel
abbrev am:=Ga->S->R W
def tD(X:Cx)(run:am):TE:=fun σ H Q=>∃ι G st Γ,EnvR X.K ι st.nxt G σ Γ/\SR X.K ι st G H/\au X ι st.nxt G (run Γ st) Q
abbrev PD(X:Cx)(e:Expr)(run:am):Prop:=PE X e (tD X run)
theorem PE.imp(h:PE X e t)(k:∀σ H Q,t' σ H Q->t σ H Q):PE X e t':=fun EF s σ H Q I q=>h EF s σ H Q I (k σ H Q q)
theorem PT.imp(h:PT X e t)(k:∀σ H Q,t' σ H Q->t σ H Q):PT X e t':=fun EF s σ H Q I q=>h EF s σ H Q I (k σ H Q q)
theorem PS.imp(h:PS X e t)(k:∀D σ H,t' D σ H->t D σ H):PS X e t':=fun EF s σ H D I q=>h EF s σ H D I (k D σ H q)
theorem ji.imp(h:ji X e t)(k:∀D σ H,t' D σ H->t D σ H):ji X e t':=fun EF s σ H D I q=>h EF s σ H D I (k D σ H q)
theorem PA.imp(h:PA X e t)(k:∀σ H Q,t' σ H Q->t σ H Q):PA X e t':=fun pos EF s σ H Q I q=>h pos EF s σ H Q I (k σ H Q q)
def gz(X:Cx)(run:am):TT:=fun σ H Q=>tD X run σ H fun v H'=>∃b,v=.bl b/\Q b H'
section
variable {X:Cx}
def aa(i:Nat):am:=fun Γ st=>match Γ[i]? with
 |some (some w)=>.ok w st
 |_=>.stuck
theorem yG(hN:X.N[i]?=some x)(hv:j6 X.env.scope x)(hd:(x == ("__debug__" : Str))=false)(hcd:(x == ("__classdict__" : Str))=false):PD X (.Name x pos) (aa i):=by
 refine PE.imp (xV hN hv hd hcd) fun σ H Q h=>?_
 obtain⟨ι,G,st,Γ,en,sr,q⟩:=h
 unfold aa at q
 cases e:Γ[i]? with
 |none=>rw[e] at q;exact q.elim
 | some o =>
  cases o with
  |none=>rw[e] at q;exact q.elim
  |some w =>
   rw[e] at q
   obtain⟨v,h1,h2⟩:=en.get i w e
   exact⟨v,h1,q v ι G H (Ext.refl _ _ _) sr h2⟩
def ac(w:W):am:=fun _ st=>.ok w st
theorem d8(h:PE X e (tC v))(r:∀ι N G,RelW X.K ι N G v w):PD X e (ac w):=by
 refine PE.imp h fun σ H Q h=>?_
 obtain⟨ι,G,st,Γ,en,sr,q⟩:=h
 exact q v ι G H (Ext.refl _ _ _) sr (r _ _ _)
abbrev dm:=W->W->S->R W
def fi(X:Cx)(f:Value->Value->Sem Value)(op:dm):Prop:=
 ∀(EF:List (Addr×Obj))(s:Shared)(σ:St)(H:Hp)(ι:Nat->Addr)(G:Hp)(st:S)(x y:V)(w1 w2:W)(v u:Value)(Q:VK),Inv X EF σ H s->SR X.K ι st G H->az x v->az y u->RelW X.K ι st.nxt G x w1->RelW X.K ι st.nxt G y w2 ->
  au X ι st.nxt G (op w1 w2 st) Q->wpAny (model X.prog X.w) X.A (f v u) (EP X EF σ Q) X.xe s
def Gc(X:Cx)(op:dm):R2:=fun x y H Q=>∃ι G st w1 w2,SR X.K ι st G H/\RelW X.K ι st.nxt G x w1/\RelW X.K ι st.nxt G y w2/\au X ι st.nxt G (op w1 w2 st) Q
theorem fi.r(h:fi X f op):fc X f (Gc X op):=
 fun EF s σ H x y v u Q I rx ry ⟨ι,G,st,w1,w2,sr,r1,r2,q⟩=>h EF s σ H ι G st x y w1 w2 v u Q I sr rx ry r1 r2 q
def ae(ra rb:am)(op:dm):am:=fun Γ st=>(ra Γ st).bind fun w1 st1=>(rb Γ st1).bind fun w2 st2=>op w1 w2 st2
theorem Ir(h:tD X (ae ra rb op) σ H Q):i8 (Gc X op) (tD X ra) (tD X rb) σ H Q:=by
 obtain⟨ι,G,st,Γ,en,sr,q⟩:=h
 refine⟨ι,G,st,Γ,en,sr,au.bind q fun w1 st1 v1 ι1 G1 H1 _ e1 sr1 r1 q1=>?_⟩
 refine⟨ι1,G1,st1,Γ,en.mono e1,sr1,au.bind q1 fun w2 st2 v2 ι2 G2 H2 _ e2 sr2 r2 q2=>?_⟩
 exact⟨ι2,G2,st2,w1,w2,sr2,r1.mono e2,r2,q2⟩
theorem X4(ho:fi X (binaryOp op) o)(ha:PD X a ra)(hb:PD X b rb):PD X (.BinOp a op b pos) (ae ra rb o):=
 PE.imp (W9 ho.r ha hb) fun _ _ _ h=>Ir h
theorem yS(ho:fi X (compareOp op) o)(ha:PD X a ra)(hb:PD X b rb)(hm:behindInMarks op b=false):PD X (.Compare a [op] [b] pos) (ae ra rb o):=
 PE.imp (Mp ho.r ha hb hm) fun _ _ _ h=>Ir h
theorem tX(ho:fi X (compareOp op) o)(ha:PD X a ra)(hb:PD X b rb)(hm:behindInMarks op b=false):PT X (.Compare a [op] [b] pos) (gz X (ae ra rb o)):=
 PT.imp (Mo ho.r ha hb hm) fun _ _ _ h=>Ir h
def ni(ra rb rc:am)(o o':dm):am:=fun Γ st=>(ra Γ st).bind fun w1 st1=>(rb Γ st1).bind fun w2 st2=>(o w1 w2 st2).bind fun w st3=>match w with
 |.bl true=>(rc Γ st3).bind fun w3 st4=>o' w2 w3 st4
 |.bl false=>.ok (.bl false) st3
 |_=>.stuck
theorem Vo(h:tD X (ni ra rb rc o o') σ H Q):Nm (Gc X o) (Gc X o') (tD X ra) (tD X rb) (tD X rc) σ H Q:=by
 obtain⟨ι,G,st,Γ,en,sr,q⟩:=h
 refine⟨ι,G,st,Γ,en,sr,au.bind q fun w1 st1 v1 ι1 G1 H1 _ e1 sr1 r1 q1=>?_⟩
 refine⟨ι1,G1,st1,Γ,en.mono e1,sr1,au.bind q1 fun w2 st2 v2 ι2 G2 H2 _ e2 sr2 r2 q2=>?_⟩
 refine⟨ι2,G2,st2,w1,w2,sr2,r1.mono e2,r2,au.bind q2 fun w st3 v ι3 G3 H3 _ e3 sr3 r3 q3=>?_⟩
 cases w with
 | bl b =>
  cases r3
  refine⟨b,rfl,?_⟩
  cases b with
  |false=>rw[FK EG];exact q3 _ ι3 G3 H3 (Ext.refl _ _ _) sr3 (.bl false)
  |true =>
   rw[FJ rfl]
   refine⟨ι3,G3,st3,Γ,((en.mono e1).mono e2).mono e3,sr3,au.bind q3 fun w3 st4 v3 ι4 G4 H4 _ e4 sr4 r4 q4=>?_⟩
   exact⟨ι4,G4,st4,w2,w3,sr4,(r2.mono e3).mono e4,r4,q4⟩
 |_=>exact(show False from q3).elim
theorem qE(ho:fi X (compareOp op) o)(ho':fi X (compareOp op') o')(ha:PD X a ra)(hb:PD X b rb)(hc:PD X c rc)(hm:lastMarks [op,op'] [b,c]=false) :
  PD X (.Compare a [op,op'] [b,c] pos) (ni ra rb rc o o'):=PE.imp (pV ho.r ho'.r ha hb hc hm) fun _ _ _ h=>Vo h
theorem mQ(ho:fi X (compareOp op) o)(ho':fi X (compareOp op') o')(ha:PD X a ra)(hb:PD X b rb)(hc:PD X c rc)(hm:lastMarks [op,op'] [b,c]=false) :
  PT X (.Compare a [op,op'] [b,c] pos) (gz X (ni ra rb rc o o')):=PT.imp (pN ho.r ho'.r ha hb hc hm) fun _ _ _ h=>Vo h
def cr(ra rb:am):am:=fun Γ st=>(ra Γ st).bind fun w st1=>match w with
 |.bl true=>rb Γ st1
 |.bl false=>.ok (.bl false) st1
 |_=>.stuck
def ia(ra rb:am):am:=fun Γ st=>(ra Γ st).bind fun w st1=>match w with
 |.bl true=>.ok (.bl true) st1
 |.bl false=>rb Γ st1
 |_=>.stuck
def gs(ra:am):am:=fun Γ st=>(ra Γ st).bind fun w st1=>match w with
 |.bl b=>.ok (.bl (!b)) st1
 |_=>.stuck
def Ny(rc ra rb:am):am:=fun Γ st=>(rc Γ st).bind fun w st1=>match w with
 |.bl true=>ra Γ st1
 |.bl false=>rb Γ st1
 |_=>.stuck
theorem yI(ha:PD X a ra):PD X (.BoolOp op [a] pos) ra:=xY ha
theorem yT{a b:Expr}{rest:List Expr}{pos:Pos}{ra rb:am}(ha:PD X a ra)(hb:PD X (.BoolOp .And (b::rest) pos) rb):PD X (.BoolOp .And (a::b::rest) pos) (cr ra rb):=by
 refine PE.imp (yE ha hb) fun σ H Q h=>?_
 obtain⟨ι,G,st,Γ,en,sr,q⟩:=h
 refine⟨ι,G,st,Γ,en,sr,au.bind q fun w st1 v ι1 G1 H1 _ e1 sr1 r1 q1=>?_⟩
 cases w with
 |bl b =>
  cases r1
  refine⟨b,rfl,?_⟩
  cases b with
  |false=>rw[FK EG];exact q1 _ ι1 G1 H1 (Ext.refl _ _ _) sr1 (.bl false)
  |true=>rw[FJ rfl];exact⟨ι1,G1,st1,Γ,en.mono e1,sr1,q1⟩
 |_=>exact(show False from q1).elim
theorem X3{a b:Expr}{rest:List Expr}{pos:Pos}{ra rb:am}(ha:PD X a ra)(hb:PD X (.BoolOp .Or (b::rest) pos) rb):PD X (.BoolOp .Or (a::b::rest) pos) (ia ra rb):=by
 refine PE.imp (W8 ha hb) fun σ H Q h=>?_
 obtain⟨ι,G,st,Γ,en,sr,q⟩:=h
 refine⟨ι,G,st,Γ,en,sr,au.bind q fun w st1 v ι1 G1 H1 _ e1 sr1 r1 q1=>?_⟩
 cases w with
 |bl b =>
  cases r1
  refine⟨b,rfl,?_⟩
  cases b with
  |true=>rw[FJ rfl];exact q1 _ ι1 G1 H1 (Ext.refl _ _ _) sr1 (.bl true)
  |false=>rw[FK EG];exact⟨ι1,G1,st1,Γ,en.mono e1,sr1,q1⟩
 |_=>exact(show False from q1).elim
theorem yJ(ha:PD X a ra):PD X (.UnaryOp .Not a pos) (gs ra):=by
 refine PE.imp (xZ ha) fun σ H Q h=>?_
 obtain⟨ι,G,st,Γ,en,sr,q⟩:=h
 refine⟨ι,G,st,Γ,en,sr,au.bind q fun w st1 v ι1 G1 H1 _ e1 sr1 r1 q1=>?_⟩
 cases w with
 |bl b=>cases r1;exact⟨b,rfl,q1 _ ι1 G1 H1 (Ext.refl _ _ _) sr1 (.bl _)⟩
 |_=>exact(show False from q1).elim
theorem tV(ha:PT X a (gz X ra)):PT X (.UnaryOp .Not a pos) (gz X (gs ra)):=by
 refine PT.imp (xP ha) fun σ H Q h=>?_
 obtain⟨ι,G,st,Γ,en,sr,q⟩:=h
 refine⟨ι,G,st,Γ,en,sr,au.bind q fun w st1 v ι1 G1 H1 _ e1 sr1 r1 q1=>?_⟩
 cases w with
 |bl b =>
  cases r1
  obtain⟨b',e,q'⟩:=q1 _ ι1 G1 H1 (Ext.refl _ _ _) sr1 (.bl _)
  cases e
  exact⟨b,rfl,q'⟩
 |_=>exact(show False from q1).elim
theorem tJ(ha:PT X a (gz X ra)):PW X (.BoolOp op [a] pos) (gz X ra):=by
 cases op with
 |And=>exact tL ha
 |Or=>exact xM ha
theorem PW.imp(h:PW X e t)(k:∀σ H Q,t' σ H Q->t σ H Q):PW X e t':=fun whole EF s σ H Q I q=>h whole EF s σ H Q I (k σ H Q q)
theorem tK{a b:Expr}{rest:List Expr}{pos:Pos}{ra rb:am}(ha:PT X a (gz X ra))(hb:PW X (.BoolOp .And (b::rest) pos) (gz X rb)):PW X (.BoolOp .And (a::b::rest) pos) (gz X (cr ra rb)):=by
 refine PW.imp (xN ha hb) fun σ H Q h=>?_
 obtain⟨ι,G,st,Γ,en,sr,q⟩:=h
 refine⟨ι,G,st,Γ,en,sr,au.bind q fun w st1 v ι1 G1 H1 _ e1 sr1 r1 q1=>?_⟩
 cases w with
 | bl b =>
  cases r1
  refine⟨b,rfl,?_⟩
  cases b with
  |false =>
   rw[FK EG]
   obtain⟨b',e,q'⟩:=q1 _ ι1 G1 H1 (Ext.refl _ _ _) sr1 (.bl false)
   cases e;exact q'
  |true=>rw[FJ rfl];exact⟨ι1,G1,st1,Γ,en.mono e1,sr1,q1⟩
 |_=>exact(show False from q1).elim
theorem xL{a b:Expr}{rest:List Expr}{pos:Pos}{ra rb:am}(ha:PT X a (gz X ra))(hb:PW X (.BoolOp .Or (b::rest) pos) (gz X rb)):PW X (.BoolOp .Or (a::b::rest) pos) (gz X (ia ra rb)):=by
 refine PW.imp (W4 ha hb) fun σ H Q h=>?_
 obtain⟨ι,G,st,Γ,en,sr,q⟩:=h
 refine⟨ι,G,st,Γ,en,sr,au.bind q fun w st1 v ι1 G1 H1 _ e1 sr1 r1 q1=>?_⟩
 cases w with
 | bl b =>
  cases r1
  refine⟨b,rfl,?_⟩
  cases b with
  |true =>
   rw[FJ rfl]
   obtain⟨b',e,q'⟩:=q1 _ ι1 G1 H1 (Ext.refl _ _ _) sr1 (.bl true)
   cases e;exact q'
  |false=>rw[FK EG];exact⟨ι1,G1,st1,Γ,en.mono e1,sr1,q1⟩
 |_=>exact(show False from q1).elim
theorem X6(hc:PT X c (gz X rc))(ha:PD X a ra)(hb:PD X b rb):PD X (.IfExp c a b pos) (Ny rc ra rb):=by
 refine PE.imp (pS hc ha hb) fun σ H Q h=>?_
 obtain⟨ι,G,st,Γ,en,sr,q⟩:=h
 refine⟨ι,G,st,Γ,en,sr,au.bind q fun w st1 v ι1 G1 H1 _ e1 sr1 r1 q1=>?_⟩
 cases w with
 |bl b =>
  cases r1
  refine⟨b,rfl,?_⟩
  cases b with
  |true=>rw[FJ rfl];exact⟨ι1,G1,st1,Γ,en.mono e1,sr1,q1⟩
  |false=>rw[FK EG];exact⟨ι1,G1,st1,Γ,en.mono e1,sr1,q1⟩
 |_=>exact(show False from q1).elim
theorem tU(h:PD X e r)(he:∀whole,isTrue e X.env whole=(do let v <-whole;standAt e.pos;holding [v] (truthy v))):PT X e (gz X r):=xO h he
abbrev gr:=Ga->S->R (List W)
def tDA(X:Cx)(run:gr):TA:=fun σ H Q=>∃ι G st Γ,EnvR X.K ι st.nxt G σ Γ/\SR X.K ι st G H/\(match run Γ st with
 |.ok ws st'=>∀vs ι' G' H',Ext ι st.nxt G ι' st'.nxt G'->SR X.K ι' st' G' H'->RelWs X.K ι' st'.nxt G' vs ws->Q vs H'
 |.ex c st'=>XW X ι st.nxt G c st'
 |.stuck=>False)
abbrev mo(X:Cx)(es:List Expr)(run:gr):Prop:=PA X es (tDA X run)
def af:gr:=fun _ st=>.ok [] st
def ad(ra:am)(rr:gr):gr:=fun Γ st=>(ra Γ st).bind fun w st1=>(rr Γ st1).bind fun ws st2=>.ok (w::ws) st2
theorem Mq:mo X [] af:=by
 refine PA.imp Ze fun σ H Q h=>?_
 obtain⟨ι,G,st,Γ,en,sr,q⟩:=h
 exact q [] ι G H (Ext.refl _ _ _) sr .nil
theorem Ly(ha:PD X e ra)(hr:mo X es rr)(hs:starEach (e::es) X.env=(false,eval e X.env)::starEach es X.env):mo X (e::es) (ad ra rr):=by
 refine PA.imp (Mr ha hr hs) fun σ H Q h=>?_
 obtain⟨ι,G,st,Γ,en,sr,q⟩:=h
 refine⟨ι,G,st,Γ,en,sr,?_⟩
 unfold ad at q
 cases e1:ra Γ st with
 |stuck=>rw[e1] at q;exact q
 |ex c s=>rw[e1] at q;exact q
 | ok w st1 =>
  rw[e1] at q
  intro v ι1 G1 H1 x1 sr1 r1
  refine⟨ι1,G1,st1,Γ,en.mono x1,sr1,?_⟩
  have q':match (rr Γ st1).bind fun ws st2=>R.ok (w::ws) st2 with
   |.ok ws st'=>∀vs ι' G' H',Ext ι st.nxt G ι' st'.nxt G'->SR X.K ι' st' G' H'->RelWs X.K ι' st'.nxt G' vs ws->Q vs H'
   |.ex c st'=>XW X ι st.nxt G c st'
   |.stuck=>False:=q
  cases e2:rr Γ st1 with
  |stuck=>rw[e2] at q';exact q'
  |ex c s=>rw[e2] at q';exact XW.mono x1 q'
  |ok ws st2 =>
   rw[e2] at q'
   exact fun vs ι2 G2 H2 x2 sr2 r2=>q' (v::vs) ι2 G2 H2 (x1.trans x2) sr2 (.cons (r1.mono x2) r2)
abbrev bh:=List W->S->R W
def runN(rr:gr)(op:bh):am:=fun Γ st=>(rr Γ st).bind op
theorem Hw(h:tD X (runN rr op) σ H Q)
  (k:∀ws st' vs ι' G' H',SR X.K ι' st' G' H'->RelWs X.K ι' st'.nxt G' vs ws->au X ι' st'.nxt G' (op ws st') Q->Q' vs H'):tDA X rr σ H Q':=by
 obtain⟨ι,G,st,Γ,en,sr,q⟩:=h
 refine⟨ι,G,st,Γ,en,sr,?_⟩
 unfold runN at q
 cases e1:rr Γ st with
 |stuck=>rw[e1] at q;exact q
 |ex c s=>rw[e1] at q;exact q
 |ok ws st1 =>
  rw[e1] at q
  intro vs ι1 G1 H1 x1 sr1 r1
  exact k ws st1 vs ι1 G1 H1 sr1 r1 (au.later x1 (show au X ι st.nxt G (op ws st1) Q from q))
def nh(X:Cx)(f:Value)(op:bh):Prop:=
 ∀(EF:List (Addr×Obj))(s:Shared)(σ:St)(H:Hp)(ι:Nat->Addr)(G:Hp)(st:S)(xs:List V)(ws:List W)(us:List Value)(Q:VK),Inv X EF σ H s->SR X.K ι st G H->bc xs us->RelWs X.K ι st.nxt G xs ws ->
  au X ι st.nxt G (op ws st) Q->wpAny (model X.prog X.w) X.A (call f us) (EP X EF σ Q) X.xe s
def aB(X:Cx)(op:bh):List V->Hp->VK->Prop:=fun xs H Q=>∃ι G st ws,SR X.K ι st G H/\RelWs X.K ι st.nxt G xs ws/\au X ι st.nxt G (op ws st) Q
theorem nh.r(h:nh X f op):sj X f (aB X op):=fun EF s σ H xs us Q I r ⟨ι,G,st,ws,sr,r1,q⟩=>h EF s σ H ι G st xs ws us Q I sr r r1 q
theorem Vp(h:tD X (runN rr op) σ H Q):tCB (aB X op) (tDA X rr) σ H Q:=
 Hw h fun ws st' vs ι' G' H' sr r q=>⟨ι',G',st',ws,sr,r,q⟩
def ap:bh:=fun ws st=>if ws.length<=sizeLine then .ok (.tup ws) st else .stuck
def oi:bh:=fun ws st=>if ws.length<=sizeLine then .ok (.lst ws) st else .stuck
def mi:bh:=fun ws st=>if ws.length<=sizeLine then .ok (.ref st.nxt) (st.new (.lst ws)) else .stuck
theorem Vn{ι:Nat->Addr}{G H:Hp}{st:S}{xs:List V}{ws:List W}{Q:VK}(sr:SR X.K ι st G H)(r:RelWs X.K ι st.nxt G xs ws)(q:au X ι st.nxt G (ap ws st) Q):xs.length<=sizeLine/\∀p,H p=none->Q (.ref p) (upd H p (.tup xs)):=by
 unfold ap at q
 by_cases hl:ws.length<=sizeLine
 ·rw[FJ hl] at q
  refine⟨by rw[r.length];exact hl,fun p hp=>?_⟩
  obtain⟨s2,e2⟩:=sr.laid (o:=.tup xs) hp
  exact q _ ι _ _ e2 s2 (.tup (.inl (.inl iz)) (fun _=>iz) (r.mono e2))
 ·rw[FK hl] at q;exact q.elim
theorem c7{ι:Nat->Addr}{G H:Hp}{st:S}{xs:List V}{ws:List W}{Q:VK}(sr:SR X.K ι st G H)(r:RelWs X.K ι st.nxt G xs ws)(q:au X ι st.nxt G (oi ws st) Q):xs.length<=sizeLine/\∀p,H p=none->Q (.ref p) (upd H p (.lst xs)):=by
 unfold oi at q
 by_cases hl:ws.length<=sizeLine
 ·rw[FJ hl] at q
  refine⟨by rw[r.length];exact hl,fun p hp=>?_⟩
  obtain⟨s2,e2⟩:=sr.laid (o:=.lst xs) hp
  exact q _ ι _ _ e2 s2 (.lst (.inl (.inl iz)) (r.mono e2))
 ·rw[FK hl] at q;exact q.elim
theorem zy{ι:Nat->Addr}{G H:Hp}{st:S}{xs:List V}{ws:List W}{Q:VK}(sr:SR X.K ι st G H)(r:RelWs X.K ι st.nxt G xs ws)(q:au X ι st.nxt G (mi ws st) Q):xs.length<=sizeLine/\∀p,H p=none->Q (.ref p) (upd H p (.lst xs)):=by
 unfold mi at q
 by_cases hl:ws.length<=sizeLine
 ·rw[FJ hl] at q
  refine⟨by rw[r.length];exact hl,fun p hp=>?_⟩
  obtain⟨ι',e2,s2,ep⟩:=sr.newL hp r
  have q':=q (.ref p) ι' G (upd H p (.lst xs)) e2 s2
  rw[<-ep] at q' ⊢
  exact q' (.ref (Nat.lt_succ_self _))
 ·rw[FK hl] at q;exact q.elim
theorem yH(h:mo X es rr):PD X (.Tuple es k pos) (runN rr ap):=
 PE.imp (xW h) fun _ _ _ h=>Hw h fun _ _ _ _ _ _ sr r q=>Vn sr r q
theorem yM(h:mo X es rr):PD X (.List es pos) (runN rr oi):=
 PE.imp (Zd h) fun _ _ _ h=>Hw h fun _ _ _ _ _ _ sr r q=>c7 sr r q
theorem uJ(h:mo X es rr):PD X (.List es pos) (runN rr mi):=
 PE.imp (Zd h) fun _ _ _ h=>Hw h fun _ _ _ _ _ _ sr r q=>zy sr r q
end
section
variable {X:Cx}
def MO.items:Option MO->Option (List W)
 |some (.lst xs)=>some xs
 |_=>none
def wm(a b:Option (List W))(st:S):R W:=match a,b with
 |some xs,some ys=>if xs.length+ys.length<=sizeLine then .ok (.lst (xs++ys)) st else .stuck
 |_,_=>.stuck
noncomputable def av:dm:=fun a b st=>match a,b with
 |.int i,.int j=>.ok (.int (i+j)) st
 |.str x,.str y=>if x.length+y.length<=sizeLine then .ok (.str (x++y)) st else .stuck
 |.lst xs,.lst ys=>wm (some xs) (some ys) st
 |.lst xs,.ref m=>wm (some xs) (MO.items (st.mu m)) st
 |.ref n,.lst ys=>wm (MO.items (st.mu n)) (some ys) st
 |.ref n,.ref m=>wm (MO.items (st.mu n)) (MO.items (st.mu m)) st
 |.tup [],.tup ys=>.ok (.tup ys) st
 |.tup xs,.tup ys=>if xs≠[]/\xs.length+ys.length<=sizeLine then .ok (.tup (xs++ys)) st else .stuck
 |_,_=>.stuck
noncomputable def na:dm:=fun a b st=>match a,b with
 |.int i,.int j=>.ok (.int (i - j)) st
 |_,_=>.stuck
instance (i j:Int):Decidable (yn i j):=by unfold yn;infer_instance
instance (i j:Int):Decidable (Jq i j):=by unfold Jq;infer_instance
noncomputable def Zg:dm:=fun a b st=>match a,b with
 |.int i,.int j=>if yn i j then .ok (.int (i*j)) st else .stuck
 |_,_=>.stuck
noncomputable def Om(a:Option (List W))(k:Int)(st:S):R W:=match a with
 |some xs=>if (-(2 ^ 63)<=k/\k<2 ^ 63)/\xs.length*k.toNat<=sizeLine then .ok (.lst (List.replicate k.toNat xs).flatten) st else .stuck
 |none=>.stuck
noncomputable def dj:dm:=fun a b st=>match a,b with
 |.lst xs,.int k=>Om (some xs) k st
 |.ref n,.int k=>Om (MO.items (st.mu n)) k st
 |.str x,.int k=>if x.length<=1000/\0<=k/\k<=1000 then .ok (.str (Txt.mul x k)) st else .stuck
 |.tup xs,.int k=>if xs≠[]/\1<k/\k<1000/\xs.length<=1000 then .ok (.tup (List.replicate k.toNat xs).flatten) st else .stuck
 |a,b=>Zg a b st
noncomputable def bi:dm:=fun a b st=>match a,b with
 |.int i,.int j=>if Jq i j then .ok (.int (i/j)) st else .stuck
 |_,_=>.stuck
noncomputable def bf:dm:=fun a b st=>match a,b with
 |.int i,.int j=>if 0<j then .ok (.int (i % j)) st else .stuck
 |_,_=>.stuck
theorem Xi:fc X (binaryOp .Add) (fun x y H Q=>∃l b xs zs,x=.ref l/\y=.ref b/\bx X.K H l xs/\bx X.K H b zs/\xs.length+zs.length<=sizeLine/\∀p,H p=none->Q (.ref p) (upd H p (.lst (xs++zs)))):=by
 intro EF s σ H x y v u Q I rx ry h
 obtain⟨l,b,xs,zs,rfl,rfl,hH,hB,hz,q⟩:=h
 cases rx
 cases ry
 obtain⟨its,r,pl,z⟩:=I.list hH
 obtain⟨its2,r2,pl2,z2⟩:=I.list hB
 have hl:=r.length
 have hl2:=r2.length
 obtain⟨⟨cls,dd,data,sl⟩,n,e,ec,ed,es⟩:=pl
 obtain⟨⟨cls2,dd2,data2,sl2⟩,n2,e2,ec2,ed2,es2⟩:=pl2
 simp only at ec es ec2 es2
 subst ec es ec2 es2
 have ea:its.toArray++its2.toArray=(its++its2).toArray:=by simp
 refine concat_meets ⟨_,e,rfl⟩ ⟨_,e2,rfl⟩ noFill_list_add seq_list_add PySem.F.slot_list_add PySem.F.entry_list_add (PySem.F.args_list_add_2 _ _) (list_addW l b its.toArray its2.toArray n n2 dd dd2 sl sl2 (by rw[EM,EM];omega)) ⟨e,e2,?_⟩
 rw[ea]
 exact⟨.ref _,_,I.lnew (t':=s.toks) (r.append r2) (by rw[ES];omega),rfl,q _ I.fresh⟩
theorem xc{K:PySem.W.Frag}{ι:Nat->Addr}{st:S}{G H:Hp}{n:Nat}{ws:List W}(sr:SR K ι st G H)(h:MO.items (st.mu n)=some ws):∃xs,bx K H (ι n) xs/\RelWs K ι st.nxt G xs ws:=by
 cases e:st.mu n with
 |none=>rw[e] at h;cases h
 | some o =>
  obtain⟨_,_,h3⟩:=sr.live n o e
  cases o with
  |lst zs =>
   rw[e] at h
   cases h
   obtain⟨vs,q,r⟩:=h3
   exact⟨vs,bx.of q,r⟩
  |dct ks vs=>rw[e] at h;cases h
theorem uT:fi X (binaryOp .Add) av:=by
 intro EF s σ H ι G st x y w1 w2 v u Q I sr rx ry r1 r2 q
 have cat:∀{a b:Addr}{xs ys:List V}{ws ws':List W},az (.ref a) v->az (.ref b) u->bx X.K H a xs->bx X.K H b ys->RelWs X.K ι st.nxt G xs ws->RelWs X.K ι st.nxt G ys ws'->au X ι st.nxt G (wm (some ws) (some ws') st) Q ->
   wpAny (model X.prog X.w) X.A (binaryOp .Add v u) (EP X EF σ Q) X.xe s:=by
  intro a b xs ys ws ws' rx ry s1 s2 t1 t2 q
  have q':au X ι st.nxt G (if ws.length+ws'.length<=sizeLine then .ok (.lst (ws++ws')) st else .stuck) Q:=q
  by_cases hl:ws.length+ws'.length<=sizeLine
  ·rw[FJ hl] at q'
   refine Xi EF s σ H _ _ v u Q I rx ry ⟨_,_,_,_,rfl,rfl,s1,s2,by rw[t1.length,t2.length];exact hl,fun p hp=>?_⟩
   obtain⟨sr2,e2⟩:=sr.laid (o:=.lst _) hp
   exact q' _ ι _ _ e2 sr2 (.lst (.inl (.inl iz)) ((t1.append t2).mono e2))
  ·rw[FK hl] at q';exact q'.elim
 cases w1 with
 |int i =>
  cases w2 with
  |int j=>cases r1;cases r2;exact zE EF s σ H _ _ v u Q I rx ry ⟨i,j,rfl,rfl,q _ ι G H (Ext.refl _ _ _) sr (.int _)⟩
  |_=>exact(show False from q).elim
 | str i =>
  cases w2 with
  | str j =>
   cases r1;cases r2
   have q':au X ι st.nxt G (if i.length+j.length<=sizeLine then .ok (.str (i++j)) st else .stuck) Q:=q
   by_cases hl:i.length+j.length<=sizeLine
   ·rw[FJ hl] at q'
    exact kN EF s σ H _ _ v u Q I rx ry ⟨i,j,rfl,rfl,hl,q' _ ι G H (Ext.refl _ _ _) sr (.str _)⟩
   ·rw[FK hl] at q';exact q'.elim
  |_=>exact(show False from q).elim
 | lst xs =>
  cases w2 with
  | lst ys =>
   cases r1 with
   |lst s1 t1 =>
    cases r2 with
    |lst s2 t2=>exact cat rx ry (sr.sub.seq s1) (sr.sub.seq s2) t1 t2 q
  | ref m =>
   cases r1 with
   | lst s1 t1 =>
    have q':au X ι st.nxt G (wm (some xs) (MO.items (st.mu m)) st) Q:=q
    cases hm:MO.items (st.mu m) with
    |none=>rw[hm] at q';exact(show False from q').elim
    | some ys =>
     rw[hm] at q'
     cases r2 with
     |ref hn =>
      obtain⟨vs,h1,h2⟩:=xc sr hm
      exact cat rx ry (sr.sub.seq s1) h1 t1 h2 q'
  |_=>exact(show False from q).elim
 | ref n =>
  cases w2 with
  | lst ys =>
   cases r2 with
   | lst s2 t2 =>
    have q':au X ι st.nxt G (wm (MO.items (st.mu n)) (some ys) st) Q:=q
    cases hm:MO.items (st.mu n) with
    |none=>rw[hm] at q';exact(show False from q').elim
    | some xs =>
     rw[hm] at q'
     cases r1 with
     |ref hn =>
      obtain⟨vs,h1,h2⟩:=xc sr hm
      exact cat rx ry h1 (sr.sub.seq s2) h2 t2 q'
  | ref m =>
   have q':au X ι st.nxt G (wm (MO.items (st.mu n)) (MO.items (st.mu m)) st) Q:=q
   cases hm:MO.items (st.mu n) with
   |none=>rw[hm] at q';exact(show False from q').elim
   | some xs =>
    cases hk:MO.items (st.mu m) with
    |none=>rw[hm,hk] at q';exact(show False from q').elim
    | some ys =>
     rw[hm,hk] at q'
     cases r1 with
     | ref hn =>
      cases r2 with
      |ref hn' =>
       obtain⟨vs,h1,h2⟩:=xc sr hm
       obtain⟨vs',h3,h4⟩:=xc sr hk
       exact cat rx ry h1 h3 h2 h4 q'
  |_=>exact(show False from q).elim
 | tup xs =>
  cases w2 with
  | tup ys =>
   cases r1 with
   | tup s1 c1 t1 =>
    cases r2 with
    | tup s2 c2 t2 =>
     by_cases h0:xs=[]
     case pos =>
      subst h0
      cases t1
      exact qM EF s σ H _ _ v u Q I rx ry ⟨_,_,_,rfl,rfl,sqT_same sr.sub s1,sqT_same sr.sub s2,q _ ι G H (Ext.refl _ _ _) sr (.tup s2 c2 t2)⟩
     have q':au X ι st.nxt G (if xs≠[]/\xs.length+ys.length<=sizeLine then .ok (.tup (xs++ys)) st else .stuck) Q:=by
      cases xs with
      |nil=>exact absurd rfl h0
      |cons a b=>exact q
     by_cases hl:xs≠[]/\xs.length+ys.length<=sizeLine
     ·rw[FJ hl] at q'
      refine uW EF s σ H _ _ v u Q I rx ry ⟨_,_,_,_,rfl,rfl,sqT_same sr.sub s1,sqT_same sr.sub s2,fun z=>hl.1 ?_,by rw[t1.length,t2.length];exact hl.2,fun z=>?_,fun z p hp=>?_⟩
      ·subst z;cases t1;rfl
      ·subst z
       cases t2
       refine q' _ ι G H (Ext.refl _ _ _) sr (.tup s1 c1 ?_)
       rw[List.append_nil];exact t1
      ·obtain⟨sr2,e2⟩:=sr.laid (o:=.tup _) hp
       exact q' _ ι _ _ e2 sr2 (.tup (.inl (.inl iz)) (fun _=>iz) ((t1.append t2).mono e2))
     ·rw[FK hl] at q';exact q'.elim
  |_=>cases xs<;>exact(show False from q).elim
 |_=>exact(show False from q).elim
theorem uO:fi X (binaryOp .Sub) na:=by
 intro EF s σ H ι G st x y w1 w2 v u Q I sr rx ry r1 r2 q
 cases w1 with
 |int i =>
  cases w2 with
  |int j=>cases r1;cases r2;exact zB EF s σ H _ _ v u Q I rx ry ⟨i,j,rfl,rfl,q _ ι G H (Ext.refl _ _ _) sr (.int _)⟩
  |_=>exact(show False from q).elim
 |_=>exact(show False from q).elim
theorem Oa{f:Value->Value->Sem Value}{C:Int->Int->Prop}[∀i j,Decidable (C i j)]{g:Int->Int->Int}(h:fc X f (rI C fun i j=>.int (g i j)))
  (hi:∀i j st,op (.int i) (.int j) st=if C i j then .ok (.int (g i j)) st else .stuck)(ho:∀a b st,(∀i j,¬(a=.int i/\b=.int j))->op a b st=.stuck):fi X f op:=by
 intro EF s σ H ι G st x y w1 w2 v u Q I sr rx ry r1 r2 q
 by_cases hw:∃i j,w1=.int i/\w2=.int j
 ·obtain⟨i,j,rfl,rfl⟩:=hw
  cases r1;cases r2
  rw[hi] at q
  by_cases hc:C i j
  ·rw[FJ hc] at q
   exact h EF s σ H _ _ v u Q I rx ry ⟨i,j,rfl,rfl,hc,q _ ι G H (Ext.refl _ _ _) sr (.int _)⟩
  ·rw[FK hc] at q;exact(show False from q).elim
 ·rw[ho _ _ _ fun i j z=>hw ⟨i,j,z.1,z.2⟩] at q
  exact(show False from q).elim
theorem nI(l:Addr)(items:Array Value)(n:Nat)(x:Int)(u:Tok)(dd:Option Addr)(sl:Array (Option Value))(hc0:¬(!Builtin.List.listFitsIndex x)=true)(hc1:¬items.size*x.toNat > (2 ^ 63 - 1)/8)(hc2:¬Builtin.List.listTooLong (items.size*x.toNat)=true) :
  Meets (Builtin.«list.__mul__» ⟨[.ref l,.int x u],[]⟩) (fun _ R s=>s.heap.get? l=some { cls:=.type "list",dict:=dd,data:=.seq items n,slots:=sl }/\R (.ok (.ret (Value.ref s.heap.objs.size))) { s with heap:=s.heap.push { cls:=Value.type "list",data:=Data.seq (List.foldl (fun x1 x2=>x1++x2) #[] (List.replicate (if items.isEmpty=true then 0 else x.toNat) items)) },toks:=s.toks }):=
 .of_wp fun prog w A R s h=>by
  obtain⟨hp,g,d,tk,os⟩:=s
  obtain⟨hl,h⟩:=h
  have hsz:=AutoListH.joined_fits hc2
  wp_walk
  refine wpAny_ite_false (FR (Nat.not_lt.mpr hsz)) ?_
  wp_walk
  exact⟨_,rfl,h⟩
theorem nS(a:Int)(t:Tok)(l:Addr)(items:Array Value)(n:Nat)(dd:Option Addr)(sl:Array (Option Value)) :
  Meets (Builtin.«int.__rmul__» ⟨[.int a t,.ref l],[]⟩) (fun _ R s=>s.heap.get? l=some { cls:=.type "list",dict:=dd,data:=.seq items n,slots:=sl }/\R (.ok (.ret Value.notImplemented)) s):=
 .of_wp fun prog w A R s h=>by
  obtain⟨hp,g,d,tk,os⟩:=s
  obtain⟨hl,h⟩:=h
  wp_walk
  exact⟨_,rfl,h⟩
theorem Xh:fc X (binaryOp .Mult) (fun x y H Q=>∃l k xs,x=.ref l/\y=.int k/\bx X.K H l xs/\-(2 ^ 63)<=k/\k<2 ^ 63/\xs.length*k.toNat<=sizeLine/\∀p,H p=none->Q (.ref p) (upd H p (.lst (List.replicate k.toNat xs).flatten))):=by
 intro EF s σ H x y v u Q I rx ry h
 obtain⟨l,k,xs,rfl,rfl,hH,h1,h2,hz,q⟩:=h
 cases rx
 obtain⟨t,rfl⟩:=ry
 obtain⟨its,r,pl,z⟩:=I.list hH
 have hl:=r.length
 obtain⟨⟨cls,dd,data,sl⟩,n,e,ec,ed,es⟩:=pl
 simp only at ec es
 subst ec es
 have hlen:its.toArray.size*k.toNat<=sizeLine:=by rw[EM,<-hl];exact hz
 have hcap:¬its.toArray.size*k.toNat > (2 ^ 63 - 1)/8:=by
  have:(sizeLine:Nat)<=(2 ^ 63 - 1)/8:=by decide
  omega
 have hfit:¬(!Builtin.List.listFitsIndex k)=true:=by rw[fitsIndex_both h1 h2];exact EG
 have hlong:¬Builtin.List.listTooLong (its.toArray.size*k.toNat)=true:=by rw[Vz hlen];exact EG
 have f0:∀m:Nat,List.foldl (fun x1 x2=>x1++x2) #[] (List.replicate m its.toArray)=(List.replicate m its).flatten.toArray:=fun m=>by have:=Ln its m [];rw[List.nil_append] at this;exact this
 have hnew:List.foldl (fun x1 x2=>x1++x2) #[] (List.replicate (if its.toArray.isEmpty=true then 0 else k.toNat) its.toArray)=(List.replicate k.toNat its).flatten.toArray:=by
  rw[f0]
  cases its with
  |nil=>simp
  |cons a r'=>rw[FK (by simp)]
 refine wpAny_binaryOp_repeat_ref (T:="list") (U:="int") (by decide) ⟨_,e,rfl⟩ (fun s'=>typeIs_int s' k t) noFill_list_mul F.fills_int_mul F.slot_int_rmul repeat_list F.slot_int_index.lookup
  (call_meets F.slot_int_rmul (typeIs_int s k t) F.entry_int_rmul (F.args_int_rmul_2 _ _) (nS k t l its.toArray n dd sl) ⟨e,rfl,⟨_,e,rfl⟩,call_meets F.slot_list_mul ⟨_,e,rfl⟩ F.entry_list_mul (F.args_list_mul_2 _ _) (nI l its.toArray n k t dd sl hfit hcap hlong) ⟨e,?_⟩⟩)
 rw[hnew]
 exact⟨.ref _,_,I.lnew (t':=s.toks) (r.rep k.toNat) (by rw[Xn,Nat.mul_comm];exact hz),rfl,q _ I.fresh⟩
theorem RelWs.rep{K:PySem.W.Frag}{ι:Nat->Addr}{N:Nat}{G:Hp}{vs:List V}{ws:List W}(r:RelWs K ι N G vs ws):∀k:Nat,RelWs K ι N G (List.replicate k vs).flatten (List.replicate k ws).flatten
 |0=>.nil
 |k+1=>by rw[List.replicate_succ,List.replicate_succ,List.flatten_cons,List.flatten_cons];exact r.append (RelWs.rep r k)
theorem qJ:fi X (binaryOp .Mult) Zg:=Oa zC (fun _ _ _=>rfl) fun a b st h=>by
 cases a<;>cases b<;>first|rfl|exact absurd ⟨rfl,rfl⟩ (h _ _)
theorem uP:fi X (binaryOp .Mult) dj:=by
 intro EF s σ H ι G st x y w1 w2 v u Q I sr rx ry r1 r2 q
 have rep:∀{a:Addr}{k:Int}{xs:List V}{ws:List W},az (.ref a) v->az (.int k) u->bx X.K H a xs->RelWs X.K ι st.nxt G xs ws->au X ι st.nxt G (Om (some ws) k st) Q->wpAny (model X.prog X.w) X.A (binaryOp .Mult v u) (EP X EF σ Q) X.xe s:=by
  intro a k xs ws rx ry s1 t1 q
  have q':au X ι st.nxt G (if (-(2 ^ 63)<=k/\k<2 ^ 63)/\ws.length*k.toNat<=sizeLine then .ok (.lst (List.replicate k.toNat ws).flatten) st else .stuck) Q:=q
  by_cases hl:(-(2 ^ 63)<=k/\k<2 ^ 63)/\ws.length*k.toNat<=sizeLine
  ·rw[FJ hl] at q'
   refine Xh EF s σ H _ _ v u Q I rx ry ⟨_,_,_,rfl,rfl,s1,hl.1.1,hl.1.2,by rw[t1.length];exact hl.2,fun p hp=>?_⟩
   obtain⟨sr2,e2⟩:=sr.laid (o:=.lst _) hp
   exact q' _ ι _ _ e2 sr2 (.lst (.inl (.inl iz)) ((t1.rep _).mono e2))
  ·rw[FK hl] at q';exact q'.elim
 unfold dj at q
 split at q
 ·cases r1 with
  |lst s1 t1=>cases r2;exact rep rx ry (sr.sub.seq s1) t1 q
 ·rename_i n k
  cases r1 with
  | ref hn =>
   cases r2
   cases hm:MO.items (st.mu n) with
   |none=>rw[hm] at q;exact(show False from q).elim
   |some xs =>
    rw[hm] at q
    obtain⟨vs,h1,h2⟩:=xc sr hm
    exact rep rx ry h1 h2 q
 ·rename_i z k
  cases r1
  cases r2
  obtain⟨t1,rfl⟩:=(show ∃t,v=Value.str z t from rx)
  obtain⟨t2,rfl⟩:=(show ∃t,u=Value.int k t from ry)
  by_cases hl:z.length<=1000/\0<=k/\k<=1000
  ·rw[FJ hl] at q
   exact PySem.SB.mul (mulOk_of 1000 1000 hl.1 hl.2.2 (by omega) (by decide) (by decide)) fun t' k'=>⟨.str (Txt.mul z k),H,I.tok _,⟨t',rfl⟩,q _ ι G H (Ext.refl _ _ _) sr (.str _)⟩
  ·rw[FK hl] at q;exact q.elim
 ·rename_i xs k
  cases r1 with
  | tup s1 c1 t1 =>
   cases r2
   by_cases hl:xs≠[]/\1<k/\k<1000/\xs.length<=1000
   ·rw[FJ hl] at q
    refine uU EF s σ H _ _ v u Q I rx ry ⟨_,_,_,rfl,rfl,sqT_same sr.sub s1,fun z=>hl.1 ?_,hl.2.1,hl.2.2.1,by rw[t1.length];exact hl.2.2.2,fun p hp=>?_⟩
    ·subst z;cases t1;rfl
    ·obtain⟨sr2,e2⟩:=sr.laid (o:=.tup _) hp
     exact q _ ι _ _ e2 sr2 (.tup (.inl (.inl iz)) (fun _=>iz) ((t1.rep _).mono e2))
   ·rw[FK hl] at q;exact q.elim
 ·exact qJ EF s σ H ι G st x y w1 w2 v u Q I sr rx ry r1 r2 q
theorem uS:fi X (binaryOp .FloorDiv) bi:=Oa uV (fun _ _ _=>rfl) fun a b st h=>by
 cases a<;>cases b<;>first|rfl|exact absurd ⟨rfl,rfl⟩ (h _ _)
theorem uQ:fi X (binaryOp .Mod) bf:=Oa zD (fun _ _ _=>rfl) fun a b st h=>by
 cases a<;>cases b<;>first|rfl|exact absurd ⟨rfl,rfl⟩ (h _ _)
noncomputable def di:W->S->R W:=fun a st=>match a with
 |.int i=>.ok (.int (-i)) st
 |_=>.stuck
def bb(ra:am)(op:W->S->R W):am:=fun Γ st=>(ra Γ st).bind op
theorem yK(ha:PD X a ra):PD X (.UnaryOp .USub a pos) (bb ra di):=by
 refine PE.imp (W7 wU ha) fun σ H Q h=>?_
 obtain⟨ι,G,st,Γ,en,sr,q⟩:=h
 refine⟨ι,G,st,Γ,en,sr,au.bind q fun w st1 v ι1 G1 H1 _ e1 sr1 r1 q1=>?_⟩
 cases w with
 |int i=>cases r1;exact⟨i,rfl,q1 _ ι1 G1 H1 (Ext.refl _ _ _) sr1 (.int _)⟩
 |_=>exact(show False from q1).elim
noncomputable def yj:dm:=fun a b st=>match a,b with
 |.int i,.int j=>.ok (.bl (decide (i<j))) st
 |.str x,.str y=>.ok (.bl (decide (x.cps.toList<y.cps.toList))) st
 |_,_=>.stuck
noncomputable def km:dm:=fun a b st=>match a,b with
 |.int i,.int j=>.ok (.bl (decide (i<=j))) st
 |_,_=>.stuck
noncomputable def ur:dm:=fun a b st=>match a,b with
 |.int i,.int j=>.ok (.bl (decide (j<i))) st
 |_,_=>.stuck
noncomputable def opGe:dm:=fun a b st=>match a,b with
 |.int i,.int j=>.ok (.bl (decide (j<=i))) st
 |_,_=>.stuck
theorem aC{f:Value->Value->Sem Value}{g:Int->Int->Bool}(h:fc X f (wp fun i j=>.bl (g i j)))
  (hi:∀i j st,op (.int i) (.int j) st=.ok (.bl (g i j)) st)(ho:∀a b st,(∀i j,¬(a=.int i/\b=.int j))->op a b st=.stuck):fi X f op:=by
 intro EF s σ H ι G st x y w1 w2 v u Q I sr rx ry r1 r2 q
 by_cases hw:∃i j,w1=.int i/\w2=.int j
 ·obtain⟨i,j,rfl,rfl⟩:=hw
  cases r1;cases r2
  rw[hi] at q
  exact h EF s σ H _ _ v u Q I rx ry ⟨i,j,rfl,rfl,q _ ι G H (Ext.refl _ _ _) sr (.bl _)⟩
 ·rw[ho _ _ _ fun i j z=>hw ⟨i,j,z.1,z.2⟩] at q
  exact(show False from q).elim
theorem yX:fi X (compareOp .LtE) km:=aC X9 (fun _ _ _=>rfl) fun a b st h=>by
 cases a<;>cases b<;>first|rfl|exact absurd ⟨rfl,rfl⟩ (h _ _)
theorem yZ:fi X (compareOp .Gt) ur:=aC Y0 (fun _ _ _=>rfl) fun a b st h=>by
 cases a<;>cases b<;>first|rfl|exact absurd ⟨rfl,rfl⟩ (h _ _)
theorem yW:fi X (compareOp .Lt) yj:=by
 intro EF s σ H ι G st x y w1 w2 v u Q I sr rx ry r1 r2 q
 cases w1 with
 |int i =>
  cases w2 with
  |int j=>cases r1;cases r2;exact X8 EF s σ H _ _ v u Q I rx ry ⟨i,j,rfl,rfl,q _ ι G H (Ext.refl _ _ _) sr (.bl _)⟩
  |_=>exact(show False from q).elim
 |str i =>
  cases w2 with
  |str j=>cases r1;cases r2;exact mY EF s σ H _ _ v u Q I rx ry ⟨i,j,rfl,rfl,q _ ι G H (Ext.refl _ _ _) sr (.bl _)⟩
  |_=>exact(show False from q).elim
 |_=>exact(show False from q).elim
def iw:W->Option V
 |.non=>some .non
 |.bl b=>some (.bl b)
 |.int i=>some (.int i)
 |.str x=>some (.str x)
 |_=>none
def g0:W->Bool
 |.tup _=>true
 |.lst _=>true
 |_=>false
def fk(f:W->W->Option Bool):List W->List W->Option Bool
 |x::xs,y::ys=>match f x y,fk f xs ys with
  |some a,some b=>some (a&&b)
  |_,_=>none
 |_,_=>some true
noncomputable def ci:Nat->W->W->Option Bool
 |0,_,_=>none
 | n+1,a,b=>match iw a,iw b with
  |some x,some y=>some (jh x y)
  |some _,none=>if g0 b then some false else none
  |none,some _=>if g0 a then some false else none
  |none,none=>match a,b with
   |.tup xs,.tup ys=>(fk (ci n) xs ys).map fun r=>r&&xs.length == ys.length
   |.lst xs,.lst ys=>if xs.length=ys.length then fk (ci n) xs ys else some false
   |.tup _,.lst _=>some false
   |.lst _,.tup _=>some false
   |_,_=>none
theorem Lo:∀{xs ys:List W}{r:Bool},fk f xs ys=some r ->
  ∃e:Nat->Bool,(∀(j:Nat) x y,xs[j]?=some x->ys[j]?=some y->f x y=some (e j))/\(List.range (min xs.length ys.length)).all e=r
 |[],ys,r,h=>by
  refine⟨fun _=>true,fun j x y hx _=>by simp at hx,?_⟩
  cases h
  simp
 |x::xs,[],r,h=>by
  refine⟨fun _=>true,fun j x y _ hy=>by simp at hy,?_⟩
  cases h
  simp
 | x :: xs,y::ys,r,h=>by
  unfold fk at h
  cases e1:f x y with
  |none=>rw[e1] at h;cases h
  | some a =>
   cases e2:fk f xs ys with
   |none=>rw[e1,e2] at h;cases h
   | some b =>
    rw[e1,e2] at h
    obtain⟨e,h1,h2⟩:=Lo e2
    refine⟨fun j=>match j with|0=>a|j+1=>e j,fun j x' y' hx hy=>?_,?_⟩
    ·cases j with
     |zero=>simp at hx hy;subst hx hy;exact e1
     |succ j=>exact h1 j x' y' (by simpa using hx) (by simpa using hy)
    ·have em:min (x::xs).length (y::ys).length=min xs.length ys.length+1:=by simp only[EZ];omega
     rw[em,List.range_succ_eq_map,List.all_cons,List.all_map]
     cases h
     show(a&&(List.range (min xs.length ys.length)).all e)=(a&&b)
     rw[h2]
theorem pw{K:PySem.W.Frag}{ι:Nat->Addr}{N:Nat}{G:Hp}{v x:V}{w:W}(r:RelW K ι N G v w)(h:iw w=some x):v=x/\jw x=true:=by
 cases r<;>first|(cases h;exact⟨rfl,rfl⟩)|cases h
theorem Me{K:PySem.W.Frag}{ι:Nat->Addr}{N:Nat}{G:Hp}(inT:∀a xs ys,fu K G a xs->fu K G a ys->xs=ys)(inL:∀a xs ys,bx K G a xs->bx K G a ys->xs=ys)(ntl:∀a xs ys,fu K G a xs->bx K G a ys->False) :
  ∀(n:Nat){v:V}{w1 w2:W}{b:Bool},RelW K ι N G v w1->RelW K ι N G v w2->ci n w1 w2=some b->b=true
 |0,_,_,_,_,_,_,h=>by cases h
 | n + 1,v,w1,w2,b,r1,r2,h=>by
  have items:∀{xs:List V}{ws1 ws2:List W}{r:Bool},RelWs K ι N G xs ws1->RelWs K ι N G xs ws2->fk (ci n) ws1 ws2=some r->r=true:=by
   intro xs
   induction xs with
   |nil=>intro ws1 ws2 r t1 t2 e;cases t1;cases t2;cases e;rfl
   | cons x xs ih =>
    intro ws1 ws2 r t1 t2 e
    cases t1 with
    | @cons _ w _ wt1 a1 t1 =>
     cases t2 with
     | @cons _ w' _ wt2 a2 t2 =>
      unfold fk at e
      cases e1:ci n w w' with
      |none=>rw[e1] at e;cases e
      | some p =>
       cases e2:fk (ci n) wt1 wt2 with
       |none=>rw[e1,e2] at e;cases e
       |some q =>
        rw[e1,e2] at e
        cases e
        rw[Me inT inL ntl n a1 a2 e1,ih t1 t2 e2];rfl
  unfold ci at h
  cases f1:iw w1 with
  | some x =>
   obtain⟨ex,fx⟩:=pw r1 f1
   cases f2:iw w2 with
   |some y =>
    obtain⟨ey,fy⟩:=pw r2 f2
    rw[f1,f2] at h
    have h':some (jh x y)=some b:=h
    cases h'
    rw[<-ex,<-ey]
    exact rM (by rw[ex];exact fx)
   |none =>
    rw[f1,f2] at h
    cases r2<;>first|(cases f2;done)|(subst ex;cases fx;done)
  | none =>
   cases f2:iw w2 with
   |some y =>
    obtain⟨ey,fy⟩:=pw r2 f2
    cases r1<;>first|(cases f1;done)|(subst ey;cases fy;done)
   | none =>
    rw[f1,f2] at h
    cases r1 with
    | tup s1 c1 t1 =>
     rename_i a xs ws1
     cases w2 with
     | tup ws2 =>
      cases r2 with
      | tup s2 c2 t2 =>
       cases inT _ _ _ s1 s2
       have h':(fk (ci n) ws1 ws2).map (fun r=>r&&ws1.length == ws2.length)=some b:=h
       cases e:fk (ci n) ws1 ws2 with
       |none=>rw[e] at h';cases h'
       |some r =>
        rw[e] at h'
        cases h'
        rw[items t1 t2 e,<-t1.length,<-t2.length]
        simp
     |lst ws2 =>
      cases r2 with
      |lst s2 t2=>exact(ntl _ _ _ s1 s2).elim
     |_=>cases h
    | lst s1 t1 =>
     rename_i a xs ws1
     cases w2 with
     | lst ws2 =>
      cases r2 with
      |lst s2 t2 =>
       cases inL _ _ _ s1 s2
       have h':(if ws1.length=ws2.length then fk (ci n) ws1 ws2 else some false)=some b:=h
       rw[FJ (by rw[<-t1.length,<-t2.length])] at h'
       exact items t1 t2 h'
     |tup ws2 =>
      cases r2 with
      |tup s2 c2 t2=>exact(ntl _ _ _ s2 s1).elim
     |_=>cases h
    |_=>first|(cases f1;done)|(cases w2<;>cases h)
end
section
variable {X:Cx}
def j9(A:Around)(s:Shared)(u v:Value)(b:Bool):Prop:=SeqAt.EqAt A s u v b/\SeqAt.RcAt A s u v b/\SeqAt.RcNeAt A s u v (!b)
theorem DZ(ry:az y u)(rx:az x v)(fy:jw y=true)(fx:jw x=true):j9 A s u v (jh y x):=by
 refine⟨Zs ry rx fy fx,?_⟩
 cases y with
 |non =>
  cases ry
  cases x with
  |non=>cases rx;exact⟨SeqAt.RcAt.none_none,SeqAt.RcNeAt.none_none⟩
  |bl b=>cases rx;exact⟨SeqAt.RcAt.none_bool b,SeqAt.RcNeAt.none_bool b⟩
  |int b=>obtain⟨t,rfl⟩:=rx;exact⟨SeqAt.RcAt.none_int b t,SeqAt.RcNeAt.none_int b t⟩
  |str b=>obtain⟨t,rfl⟩:=rx;exact⟨SeqAt.RcAt.none_str b t,SeqAt.RcNeAt.none_str b t⟩
  |_=>exact absurd (show false=true from fx) EG
 |bl a =>
  cases ry
  cases x with
  |non=>cases rx;exact⟨SeqAt.RcAt.bool_none a,SeqAt.RcNeAt.bool_none a⟩
  |bl b=>cases rx;exact⟨SeqAt.RcAt.bool_bool a b,SeqAt.RcNeAt.bool_bool a b⟩
  |int b=>obtain⟨t,rfl⟩:=rx;exact⟨SeqAt.RcAt.bool_int a b t,SeqAt.RcNeAt.bool_int a b t⟩
  |str b=>obtain⟨t,rfl⟩:=rx;exact⟨SeqAt.RcAt.bool_str a b t,SeqAt.RcNeAt.bool_str a b t⟩
  |_=>exact absurd (show false=true from fx) EG
 |int a =>
  obtain⟨t',rfl⟩:=ry
  cases x with
  |non=>cases rx;exact⟨SeqAt.RcAt.int_none a t',SeqAt.RcNeAt.int_none a t'⟩
  |bl b=>cases rx;exact⟨SeqAt.RcAt.int_bool a t' b,SeqAt.RcNeAt.int_bool a t' b⟩
  |int b=>obtain⟨t,rfl⟩:=rx;exact⟨SeqAt.RcAt.int_int a t' b t,SeqAt.RcNeAt.int_int a t' b t⟩
  |str b=>obtain⟨t,rfl⟩:=rx;exact⟨SeqAt.RcAt.int_str a t' b t,SeqAt.RcNeAt.int_str a t' b t⟩
  |_=>exact absurd (show false=true from fx) EG
 |str a =>
  obtain⟨t',rfl⟩:=ry
  cases x with
  |non=>cases rx;exact⟨SeqAt.RcAt.str_none a t',SeqAt.RcNeAt.str_none a t'⟩
  |bl b=>cases rx;exact⟨SeqAt.RcAt.str_bool a t' b,SeqAt.RcNeAt.str_bool a t' b⟩
  |int b=>obtain⟨t,rfl⟩:=rx;exact⟨SeqAt.RcAt.str_int a t' b t,SeqAt.RcNeAt.str_int a t' b t⟩
  |str b=>obtain⟨t,rfl⟩:=rx;exact⟨SeqAt.RcAt.str_str a t' b t,SeqAt.RcNeAt.str_str a t' b t⟩
  |_=>exact absurd (show false=true from fx) EG
 |_=>exact absurd (show false=true from fy) EG
section
variable {A:Around} {s:Shared} {y:V} {u:Value} {l:Addr} {items:Array Value}
theorem eZ(ry:az y u)(fy:jw y=true)(hl:s.heap.IsList l items)(hu:A.units<cLine):j9 A s u (.ref l) false:=by
 cases y with
 |non=>cases ry;exact⟨SeqAt.EqAt.none_list hl hu,SeqAt.RcAt.none_list hl hu,SeqAt.RcNeAt.none_list hl hu⟩
 |bl b=>cases ry;exact⟨SeqAt.EqAt.bool_list b hl hu,SeqAt.RcAt.bool_list b hl hu,SeqAt.RcNeAt.bool_list b hl hu⟩
 |int b=>obtain⟨t,rfl⟩:=ry;exact⟨SeqAt.EqAt.int_list b t hl hu,SeqAt.RcAt.int_list b t hl hu,SeqAt.RcNeAt.int_list b t hl hu⟩
 |str b=>obtain⟨t,rfl⟩:=ry;exact⟨SeqAt.EqAt.str_list b t hl hu,SeqAt.RcAt.str_list b t hl hu,SeqAt.RcNeAt.str_list b t hl hu⟩
 |_=>exact absurd (show false=true from fy) EG
theorem eY(ry:az y u)(fy:jw y=true)(hl:s.heap.IsList l items)(hu:A.units<cLine):j9 A s (.ref l) u false:=by
 cases y with
 |non=>cases ry;exact⟨SeqAt.EqAt.list_none hl hu,SeqAt.RcAt.list_none hl hu,SeqAt.RcNeAt.list_none hl hu⟩
 |bl b=>cases ry;exact⟨SeqAt.EqAt.list_bool b hl hu,SeqAt.RcAt.list_bool b hl hu,SeqAt.RcNeAt.list_bool b hl hu⟩
 |int b=>obtain⟨t,rfl⟩:=ry;exact⟨SeqAt.EqAt.list_int b t hl hu,SeqAt.RcAt.list_int b t hl hu,SeqAt.RcNeAt.list_int b t hl hu⟩
 |str b=>obtain⟨t,rfl⟩:=ry;exact⟨SeqAt.EqAt.list_str b t hl hu,SeqAt.RcAt.list_str b t hl hu,SeqAt.RcNeAt.list_str b t hl hu⟩
 |_=>exact absurd (show false=true from fy) EG
theorem dS(ry:az y u)(fy:jw y=true)(hl:s.heap.IsTuple l items)(hu:A.units<cLine):j9 A s u (.ref l) false:=by
 cases y with
 |non=>cases ry;exact⟨SeqAt.EqAt.none_tuple hl hu,SeqAt.RcAt.none_tuple hl hu,SeqAt.RcNeAt.none_tuple hl hu⟩
 |bl b=>cases ry;exact⟨SeqAt.EqAt.bool_tuple b hl hu,SeqAt.RcAt.bool_tuple b hl hu,SeqAt.RcNeAt.bool_tuple b hl hu⟩
 |int b=>obtain⟨t,rfl⟩:=ry;exact⟨SeqAt.EqAt.int_tuple b t hl hu,SeqAt.RcAt.int_tuple b t hl hu,SeqAt.RcNeAt.int_tuple b t hl hu⟩
 |str b=>obtain⟨t,rfl⟩:=ry;exact⟨SeqAt.EqAt.str_tuple b t hl hu,SeqAt.RcAt.str_tuple b t hl hu,SeqAt.RcNeAt.str_tuple b t hl hu⟩
 |_=>exact absurd (show false=true from fy) EG
theorem dR(ry:az y u)(fy:jw y=true)(hl:s.heap.IsTuple l items)(hu:A.units<cLine):j9 A s (.ref l) u false:=by
 cases y with
 |non=>cases ry;exact⟨SeqAt.EqAt.tuple_none hl hu,SeqAt.RcAt.tuple_none hl hu,SeqAt.RcNeAt.tuple_none hl hu⟩
 |bl b=>cases ry;exact⟨SeqAt.EqAt.tuple_bool b hl hu,SeqAt.RcAt.tuple_bool b hl hu,SeqAt.RcNeAt.tuple_bool b hl hu⟩
 |int b=>obtain⟨t,rfl⟩:=ry;exact⟨SeqAt.EqAt.tuple_int b t hl hu,SeqAt.RcAt.tuple_int b t hl hu,SeqAt.RcNeAt.tuple_int b t hl hu⟩
 |str b=>obtain⟨t,rfl⟩:=ry;exact⟨SeqAt.EqAt.tuple_str b t hl hu,SeqAt.RcAt.tuple_str b t hl hu,SeqAt.RcNeAt.tuple_str b t hl hu⟩
 |_=>exact absurd (show false=true from fy) EG
end
section
variable {EF:List (Addr×Obj)} {σ:St} {H:Hp} {s:Shared} {ι:Nat->Addr} {N:Nat}
theorem list_inj(I:Inv X EF σ H s)(h1:bx X.K H a xs)(h2:bx X.K H a ys):xs=ys:=by
 obtain⟨its,r,pl,_⟩:=I.list h1
 obtain⟨its2,r2,pl2,_⟩:=I.list h2
 obtain⟨o,n,e,_,_,d⟩:=pl
 obtain⟨o2,n2,e2,_,_,d2⟩:=pl2
 rw[e] at e2;cases e2
 rw[d] at d2;cases d2
 exact r.inj r2
theorem c6(I:Inv X EF σ H s)(h1:fu X.K H a xs)(h2:bx X.K H a ys):False:=by
 obtain⟨its,r,pl,_⟩:=I.tuple h1
 obtain⟨its2,r2,pl2,_⟩:=I.list h2
 obtain⟨o,e,c,_⟩:=pl
 obtain⟨o2,n2,e2,c2,_,_⟩:=pl2
 rw[e] at e2;cases e2
 rw[c] at c2
 injection c2 with h
 exact absurd h (by decide)
theorem Ff(I:Inv X EF σ H s):∀(n:Nat){w1 w2:W}{b:Bool}{v1 v2:V}{u1 u2:Value}{A:Around},ci n w1 w2=some b->RelW X.K ι N H v1 w1->RelW X.K ι N H v2 w2->az v1 u1->az v2 u2->A.units+n<cLine->j9 A s u1 u2 b
 |0,_,_,_,_,_,_,_,_,h,_,_,_,_,_=>by cases h
 | n + 1, w1,w2,b,v1,v2,u1,u2,A,h,r1,r2,q1,q2,hA=>by
  have hA1:A.units<cLine:=by omega
  have its_at:∀{xs ys:List V}{ws1 ws2:List W}{its its2:List Value}{e:Nat->Bool},RelWs X.K ι N H xs ws1->RelWs X.K ι N H ys ws2->bc xs its->bc ys its2->(∀(j:Nat) x y,ws1[j]?=some x->ws2[j]?=some y->ci n x y=some (e j)) ->
    ∀j (h1:j<its.toArray.size) (h2:j<its2.toArray.size),SeqAt.EqAt A.in1 s its.toArray[j] its2.toArray[j] (e j):=by
   intro xs ys ws1 ws2 its its2 e t1 t2 p1 p2 he j h1 h2
   have h1':j<its.length:=by simpa using h1
   have h2':j<its2.length:=by simpa using h2
   obtain⟨x',ex,rx⟩:=p1.at h1'
   obtain⟨y',ey,ry⟩:=p2.at h2'
   obtain⟨w,ew,rw1⟩:=t1.get' ex
   obtain⟨w',ew',rw2⟩:=t2.get' ey
   have z1:its.toArray[j]=its[j]:=by simp
   have z2:its2.toArray[j]=its2[j]:=by simp
   rw[z1,z2]
   exact(Ff I n (A:=A.in1) (he j w w' ew ew') rw1 rw2 rx ry (by show A.units+1+n<cLine;omega)).1
  have keep:=h
  unfold ci at h
  cases f1:iw w1 with
  | some x =>
   obtain⟨ex,fx⟩:=pw r1 f1
   subst ex
   cases f2:iw w2 with
   |some y =>
    obtain⟨ey,fy⟩:=pw r2 f2
    subst ey
    rw[f1,f2] at h
    have h':some (jh v1 v2)=some b:=h
    cases h'
    exact DZ q1 q2 fx fy
   | none =>
    rw[f1,f2] at h
    have h':(if g0 w2 then some false else none)=some b:=h
    cases r2 with
    |tup s2 c2 t2 =>
     cases h'
     cases q2
     obtain⟨its,_,pl,_⟩:=I.tuple s2
     exact dS q1 fx pl hA1
    |lst s2 t2 =>
     cases h'
     cases q2
     obtain⟨its,_,pl,_⟩:=I.list s2
     exact eZ q1 fx pl.isList hA1
    |_=>first|(cases f2;done)|(cases h';done)
  | none =>
   cases f2:iw w2 with
   | some y =>
    obtain⟨ey,fy⟩:=pw r2 f2
    subst ey
    rw[f1,f2] at h
    have h':(if g0 w1 then some false else none)=some b:=h
    cases r1 with
    |tup s1 c1 t1 =>
     cases h'
     cases q1
     obtain⟨its,_,pl,_⟩:=I.tuple s1
     exact dR q2 fy pl hA1
    |lst s1 t1 =>
     cases h'
     cases q1
     obtain⟨its,_,pl,_⟩:=I.list s1
     exact eY q2 fy pl.isList hA1
    |_=>first|(cases f1;done)|(cases h';done)
   | none =>
    rw[f1,f2] at h
    cases r1 with
    | tup s1 c1 t1 =>
     rename_i a xs ws1
     cases q1
     obtain⟨its,p1,pl1,_⟩:=I.tuple s1
     cases w2 with
     | tup ws2 =>
      cases r2 with
      | tup s2 c2 t2 =>
       rename_i a2 ys
       cases q2
       obtain⟨its2,p2,pl2,_⟩:=I.tuple s2
       have h':(fk (ci n) ws1 ws2).map (fun r=>r&&ws1.length == ws2.length)=some b:=h
       cases e:fk (ci n) ws1 ws2 with
       |none=>rw[e] at h';cases h'
       | some r =>
        rw[e] at h'
        obtain⟨ef,he1,he2⟩:=Lo e
        have l1:ws1.length=its.toArray.size:=by rw[EM,<-p1.length,t1.length]
        have l2:ws2.length=its2.toArray.size:=by rw[EM,<-p2.length,t2.length]
        have eb:b=((List.range (min its.toArray.size its2.toArray.size)).all ef&&its.toArray.size == its2.toArray.size):=by
         cases h'
         rw[<-l1,<-l2,he2]
        have at1:=its_at t1 t2 p1 p2 he1
        have rc:SeqAt.RcAt A s (.ref a) (.ref a2) b:=by
         rw[eb]
         exact SeqAt.RcAt.tuples (e:=ef) pl1 pl2 hA1 at1
        refine⟨?_,rc,?_⟩
        ·by_cases ha:a=a2
         ·subst ha
          have ht:b=true:=Me (fun a xs ys h1 h2=>I.tuple_inj h1 h2) (fun a xs ys h1 h2=>list_inj I h1 h2) (fun a xs ys h1 h2=>c6 I h1 h2) (n+1) (.tup s1 c1 t1) (.tup s2 c2 t2) keep
          rw[ht];exact SeqAt.EqAt.same _
         ·exact SeqAt.EqAt.of_refs ha rc
        ·rw[eb]
         exact SeqAt.RcNeAt.tuples (e:=ef) pl1 pl2 hA1 at1
     | lst ws2 =>
      cases r2 with
      |lst s2 t2 =>
       cases q2
       cases h
       obtain⟨its2,p2,pl2,_⟩:=I.list s2
       exact⟨SeqAt.EqAt.tuple_list pl1 pl2.isList hA1,SeqAt.RcAt.tuple_list pl1 pl2.isList hA1,SeqAt.RcNeAt.tuple_list pl1 pl2.isList hA1⟩
     |_=>cases h
    | lst s1 t1 =>
     rename_i a xs ws1
     cases q1
     obtain⟨its,p1,pl1,_⟩:=I.list s1
     cases w2 with
     | lst ws2 =>
      cases r2 with
      | lst s2 t2 =>
       rename_i a2 ys
       cases q2
       obtain⟨its2,p2,pl2,_⟩:=I.list s2
       have l1:ws1.length=its.toArray.size:=by rw[EM,<-p1.length,t1.length]
       have l2:ws2.length=its2.toArray.size:=by rw[EM,<-p2.length,t2.length]
       have h':(if ws1.length=ws2.length then fk (ci n) ws1 ws2 else some false)=some b:=h
       by_cases hl:ws1.length=ws2.length
       ·rw[FJ hl] at h'
        obtain⟨ef,he1,he2⟩:=Lo h'
        have hsz:its.toArray.size=its2.toArray.size:=by rw[<-l1,<-l2,hl]
        have eb:b=(List.range its.toArray.size).all ef:=by
         rw[<-he2,<-l1,<-hl,Nat.min_self]
        have at1:=its_at t1 t2 p1 p2 he1
        have rc:SeqAt.RcAt A s (.ref a) (.ref a2) b:=by
         rw[eb]
         exact SeqAt.RcAt.lists (e:=ef) pl1.isList pl2.isList hsz hA1 at1
        refine⟨?_,rc,?_⟩
        ·by_cases ha:a=a2
         ·subst ha
          have ht:b=true:=Me (fun a xs ys h1 h2=>I.tuple_inj h1 h2) (fun a xs ys h1 h2=>list_inj I h1 h2) (fun a xs ys h1 h2=>c6 I h1 h2) (n+1) (.lst s1 t1) (.lst s2 t2) keep
          rw[ht];exact SeqAt.EqAt.same _
         ·exact SeqAt.EqAt.of_refs ha rc
        ·rw[eb]
         exact SeqAt.RcNeAt.lists (e:=ef) pl1.isList pl2.isList hsz hA1 at1
       ·rw[FK hl] at h'
        cases h'
        have hsz:(its.toArray.size != its2.toArray.size)=true:=by
         rw[<-l1,<-l2];simpa using hl
        have rc:SeqAt.RcAt A s (.ref a) (.ref a2) false:=SeqAt.RcAt.lists_lengths pl1.isList pl2.isList hsz hA1
        refine⟨SeqAt.EqAt.of_refs (fun ha=>?_) rc,rc,SeqAt.RcNeAt.lists_lengths pl1.isList pl2.isList hsz hA1⟩
        subst ha
        have:=list_inj I s1 s2
        subst this
        exact hl (by rw[<-t1.length,<-t2.length])
     | tup ws2 =>
      cases r2 with
      |tup s2 c2 t2 =>
       cases q2
       cases h
       obtain⟨its2,p2,pl2,_⟩:=I.tuple s2
       exact⟨SeqAt.EqAt.list_tuple pl1.isList pl2 hA1,SeqAt.RcAt.list_tuple pl1.isList pl2 hA1,SeqAt.RcNeAt.list_tuple pl1.isList pl2 hA1⟩
     |_=>cases h
    |_=>first|(cases f1;done)|(cases w2<;>cases h)
end
theorem SR.look{K:PySem.W.Frag}{ι:Nat->Addr}{st:S}{G H:Hp}(h:SR K ι st G H):Ext ι st.nxt G ι st.nxt H:=⟨EN _,fun _ _=>rfl,h.sub⟩
def oo(i j:Str):Bool:=!(Builtin.Str.occurrences j i 0 j.length 1).isEmpty
noncomputable def kc(x:W):List W->Option Bool
 |[]=>some false
 |y::ys=>match ci 12 y x,kc x ys with
  |some a,some b=>some (a||b)
  |_,_=>none
def fb(st:S):W->Option (List W)
 |.lst xs=>some xs
 |.tup xs=>some xs
 |.ref n=>MO.items (st.mu n)
 |_=>none
noncomputable def j2(st:S)(a b:W):Option Bool:=match a,b with
 |.str i,.str j=>some (oo i j)
 |x,y=>match fb st y with
  |some ys=>kc x ys
  |none=>none
noncomputable def aE:dm:=fun a b st=>match j2 st a b with
 |some r=>.ok (.bl r) st
 |none=>.stuck
noncomputable def Hv:dm:=fun a b st=>match j2 st a b with
 |some r=>.ok (.bl (!r)) st
 |none=>.stuck
theorem zz{K:PySem.W.Frag}{ι:Nat->Addr}{st:S}{G H:Hp}{v:V}{w:W}{ws:List W}(sr:SR K ι st G H)(r:RelW K ι st.nxt G v w)(h:fb st w=some ws):∃a xs,v=.ref a/\(bx K H a xs\/fu K H a xs)/\RelWs K ι st.nxt G xs ws:=by
 cases r with
 |tup s1 c1 t1=>cases h;exact⟨_,_,rfl,.inr (sqT_same sr.sub s1),t1⟩
 |lst s1 t1=>cases h;exact⟨_,_,rfl,.inl (sr.sub.seq s1),t1⟩
 | ref hn =>
  rename_i n
  have h:MO.items (st.mu n)=some ws:=h
  cases e:st.mu n with
  |none=>rw[e] at h;cases h
  | some o =>
   obtain⟨_,_,h3⟩:=sr.live n o e
   cases o with
   |lst xs =>
    rw[e] at h
    cases h
    obtain⟨vs,q,r⟩:=h3
    exact⟨_,vs,rfl,.inl (bx.of q),r⟩
   |dct ks vs=>rw[e] at h;cases h
 |_=>cases h
theorem Ye{K:PySem.W.Frag}{ι:Nat->Addr}{N:Nat}{G:Hp}(inT:∀a xs ys,fu K G a xs->fu K G a ys->xs=ys)(inL:∀a xs ys,bx K G a xs->bx K G a ys->xs=ys)(ntl:∀a xs ys,fu K G a xs->bx K G a ys->False) :
  ∀(n:Nat){v:V}{w w' x:W}{c c':Bool},RelW K ι N G v w->RelW K ι N G v w'->ci n w x=some c->ci n w' x=some c'->c=c'
 |0,_,_,_,_,_,_,_,_,h,_=>by cases h
 | n + 1, v,w,w',x,c,c',r1,r2,h1,h2=>by
  have items:∀{vs:List V}{ws1 ws2 ys:List W}{r r':Bool},RelWs K ι N G vs ws1->RelWs K ι N G vs ws2->fk (ci n) ws1 ys=some r->fk (ci n) ws2 ys=some r'->r=r':=by
   intro vs
   induction vs with
   |nil=>intro ws1 ws2 ys r r' t1 t2 e e';cases t1;cases t2;rw[e] at e';exact FP e'
   | cons x xs ih =>
    intro ws1 ws2 ys r r' t1 t2 e e'
    cases t1 with
    | @cons _ w1 _ wt1 a1 t1 =>
     cases t2 with
     | @cons _ w2 _ wt2 a2 t2 =>
      cases ys with
      |nil=>cases e;cases e';rfl
      | cons y ys =>
       unfold fk at e e'
       cases e1:ci n w1 y with
       |none=>rw[e1] at e;cases e
       | some p =>
        cases e2:fk (ci n) wt1 ys with
        |none=>rw[e1,e2] at e;cases e
        | some q =>
         cases e3:ci n w2 y with
         |none=>rw[e3] at e';cases e'
         | some p' =>
          cases e4:fk (ci n) wt2 ys with
          |none=>rw[e3,e4] at e';cases e'
          |some q' =>
           rw[e1,e2] at e
           rw[e3,e4] at e'
           cases e;cases e'
           rw[Ye inT inL ntl n a1 a2 e1 e3,ih t1 t2 e2 e4]
  unfold ci at h1 h2
  cases f1:iw w with
  | some y =>
   obtain⟨ey,fy⟩:=pw r1 f1
   cases f2:iw w' with
   | some z =>
    obtain⟨ez,fz⟩:=pw r2 f2
    have:y=z:=by rw[<-ey,<-ez]
    subst this
    cases f3:iw x with
    |some z =>
     rw[f1,f3] at h1;rw[f2,f3] at h2
     have g1:some (jh y z)=some c:=h1
     have g2:some (jh y z)=some c':=h2
     rw[g1] at g2;exact FP g2
    |none =>
     rw[f1,f3] at h1;rw[f2,f3] at h2
     have g1:(if g0 x then some false else none)=some c:=h1
     have g2:(if g0 x then some false else none)=some c':=h2
     rw[g1] at g2;exact FP g2
   |none=>cases r2<;>first|(cases f2;done)|(subst ey;cases fy;done)
  | none =>
   cases f2:iw w' with
   |some z =>
    obtain⟨ez,fz⟩:=pw r2 f2
    cases r1<;>first|(cases f1;done)|(subst ez;cases fz;done)
   | none =>
    rw[f1] at h1;rw[f2] at h2
    cases r1 with
    | tup s1 c1 t1 =>
     rename_i a xs ws1
     cases w' with
     | tup ws2 =>
      cases r2 with
      | tup s2 c2 t2 =>
       cases inT _ _ _ s1 s2
       cases f3:iw x with
       |some z=>rw[f3] at h1 h2;cases h1;cases h2;rfl
       | none =>
        rw[f3] at h1 h2
        cases x with
        | tup ys =>
         have g1:(fk (ci n) ws1 ys).map (fun r=>r&&ws1.length == ys.length)=some c:=h1
         have g2:(fk (ci n) ws2 ys).map (fun r=>r&&ws2.length == ys.length)=some c':=h2
         cases e1:fk (ci n) ws1 ys with
         |none=>rw[e1] at g1;cases g1
         | some p =>
          cases e2:fk (ci n) ws2 ys with
          |none=>rw[e2] at g2;cases g2
          |some q =>
           rw[e1] at g1;rw[e2] at g2
           cases g1;cases g2
           rw[items t1 t2 e1 e2,<-t1.length,<-t2.length]
        |lst ys=>cases h1;cases h2;rfl
        |_=>cases h1
     |lst ws2=>cases r2 with|lst s2 t2=>exact(ntl _ _ _ s1 s2).elim
     |_=>first|(cases f2;done)|(cases f3:iw x<;>rw[f3] at h2<;>first|(cases h2;done)|(cases x<;>cases h2))
    | lst s1 t1 =>
     rename_i a xs ws1
     cases w' with
     | lst ws2 =>
      cases r2 with
      | lst s2 t2 =>
       cases inL _ _ _ s1 s2
       cases f3:iw x with
       |some z=>rw[f3] at h1 h2;cases h1;cases h2;rfl
       | none =>
        rw[f3] at h1 h2
        cases x with
        | lst ys =>
         have g1:(if ws1.length=ys.length then fk (ci n) ws1 ys else some false)=some c:=h1
         have g2:(if ws2.length=ys.length then fk (ci n) ws2 ys else some false)=some c':=h2
         have hl:ws1.length=ws2.length:=by rw[<-t1.length,<-t2.length]
         rw[<-hl] at g2
         by_cases hy:ws1.length=ys.length
         ·rw[FJ hy] at g1 g2
          exact items t1 t2 g1 g2
         ·rw[FK hy] at g1 g2
          cases g1;cases g2;rfl
        |tup ys=>cases h1;cases h2;rfl
        |_=>cases h1
     |tup ws2=>cases r2 with|tup s2 c2 t2=>exact(ntl _ _ _ s2 s1).elim
     |_=>first|(cases f2;done)|(cases f3:iw x<;>rw[f3] at h2<;>first|(cases h2;done)|(cases x<;>cases h2))
    |_=>first|(cases f1;done)|(cases f3:iw x<;>rw[f3] at h1<;>first|(cases h1;done)|(cases x<;>cases h1))
theorem Xk{EF:List (Addr×Obj)}{σ:St}{H:Hp}{s:Shared}{ι:Nat->Addr}{N:Nat}{A:Around}{x:W}{vx:V}{ux:Value}(I:Inv X EF σ H s)(rx:RelW X.K ι N H vx x)(qx:az vx ux)(hA:A.units+12<cLine) :
  ∀{ws:List W}{vs:List V}{us:List Value}{b:Bool},kc x ws=some b->RelWs X.K ι N H vs ws->bc vs us ->
   ∃e:Value->Bool,(∀u∈us,SeqAt.EqAt A s u ux (e u))/\us.any e=b/\∀(j:Nat) v u w,vs[j]?=some v->us[j]?=some u->ws[j]?=some w->ci 12 w x=some (e u):=by
 intro ws
 induction ws with
 |nil=>intro vs us b h t q;cases t;cases q;cases h;exact⟨fun _=>false,fun u hu=>(by cases hu),rfl,fun j v u w hv=>(by simp at hv)⟩
 | cons w ws ih =>
  intro vs us b h t q
  cases t with
  | cons r t =>
   cases q with
   | cons qv q =>
    rename_i v vs u us
    unfold kc at h
    cases e1:ci 12 w x with
    |none=>rw[e1] at h;cases h
    | some a =>
     cases e2:kc x ws with
     |none=>rw[e1,e2] at h;cases h
     | some c =>
      rw[e1,e2] at h
      obtain⟨e,h1,h2,h3⟩:=ih e2 t q
      have at1:=(Ff I 12 (A:=A) e1 r rx qv qx hA).1
      have keep:∀u'∈us,u'=u->e u'=a:=fun u' hu hue=>by
       obtain⟨j,hj,ej⟩:=List.mem_iff_getElem.mp hu
       have g1:us[j]?=some u':=by rw[EH hj,ej]
       obtain⟨v',gv,rv'⟩:=bc.at q hj
       obtain⟨w',gw,rw'⟩:=t.get' gv
       have d:=h3 j v' u' w' gv g1 gw
       rw[ej,hue] at rv'
       have ev:v'=v:=rv'.inj qv
       subst ev
       exact Ye (fun a xs ys h1 h2=>I.tuple_inj h1 h2) (fun a xs ys h1 h2=>list_inj I h1 h2) (fun a xs ys h1 h2=>c6 I h1 h2) 12 rw' r d e1
      refine⟨fun z=>if z=u then a else e z,fun z hz=>?_,?_,fun j v' u' w' hv hu hw=>?_⟩
      ·by_cases hzu:z=u
       ·(try dsimp only);rw[FJ hzu,hzu];exact at1
       ·(try dsimp only);rw[FK hzu]
        rcases List.mem_cons.mp hz with hz|hz
        ·exact absurd hz hzu
        ·exact h1 z hz
      ·rw[List.any_cons,FJ rfl]
       have e3:us.any (fun z=>if z=u then a else e z)=us.any e:=by
        rw[Bool.eq_iff_iff,List.any_eq_true,List.any_eq_true]
        constructor
        ·rintro⟨z,hz,hq⟩
         refine⟨z,hz,?_⟩
         by_cases hzu:z=u
         ·rw[FJ hzu] at hq;rw[keep z hz hzu];exact hq
         ·rw[FK hzu] at hq;exact hq
        ·rintro⟨z,hz,hq⟩
         refine⟨z,hz,?_⟩
         by_cases hzu:z=u
         ·rw[FJ hzu,<-keep z hz hzu];exact hq
         ·rw[FK hzu];exact hq
       rw[e3,h2]
       cases h;rfl
      ·cases j with
       |zero =>
        simp at hv hu hw
        subst hv hu hw
        (try dsimp only);rw[FJ rfl];exact e1
       |succ j =>
        have hv':vs[j]?=some v':=by simpa using hv
        have hu':us[j]?=some u':=by simpa using hu
        have hw':ws[j]?=some w':=by simpa using hw
        have d:=h3 j v' u' w' hv' hu' hw'
        dsimp only
        by_cases hzu:u'=u
        ·rw[FJ hzu,<-keep u' (List.mem_of_getElem? hu') hzu];exact d
        ·rw[FK hzu];exact d
theorem Xg{neg:Bool}{op:CmpOp}{o:dm}(ho:o=fun a b st=>match j2 st a b with|some r=>.ok (.bl (if neg then !r else r)) st|none=>.stuck)
  (hs:fc X (compareOp op) (fun x y H Q=>∃i j,x=.str i/\y=.str j/\Q (.bl (if neg then !(!(Builtin.Str.occurrences j i 0 j.length 1).isEmpty) else(!(Builtin.Str.occurrences j i 0 j.length 1).isEmpty))) H))
  (hl:∀{s:Shared}{l:Addr}{items:Array Value}{x:Value}{Q:Value->Shared->Prop}(e:Value->Bool),s.heap.IsList l items->(∀y,y∈items->SeqAt.EqAt X.A.in1 s y x (e y))->Q (.bool (if neg then !items.any e else items.any e)) s->wpAny (model X.prog X.w) X.A (compareOp op x (.ref l)) Q X.xe s)
  (ht:∀{s:Shared}{l:Addr}{items:Array Value}{x:Value}{Q:Value->Shared->Prop}(e:Value->Bool),s.heap.IsTuple l items->(∀y,y∈items->SeqAt.EqAt X.A.in1 s y x (e y))->Q (.bool (if neg then !items.any e else items.any e)) s->wpAny (model X.prog X.w) X.A (compareOp op x (.ref l)) Q X.xe s)
  (hu:X.A.units+64<cLine):fi X (compareOp op) o:=by
 subst ho
 intro EF s σ H ι G st x y w1 w2 v u Q I sr rx ry r1 r2 q
 dsimp only at q
 cases e:j2 st w1 w2 with
 |none=>rw[e] at q;exact(show False from q).elim
 | some b =>
  rw[e] at q
  have qq:∀(H':Hp),H'=H->Q (.bl (if neg then !b else b)) H':=fun H' hh=>by rw[hh];exact q _ ι G H (Ext.refl _ _ _) sr (.bl _)
  have seq:∀{ys:List W},fb st w2=some ys->kc w1 ys=some b->wpAny (model X.prog X.w) X.A (compareOp op v u) (EP X EF σ Q) X.xe s:=by
   intro ys hi hd
   obtain⟨a,xs,ea,hq,t⟩:=zz sr r2 hi
   subst ea
   cases ry
   rcases hq with hq|hq
   ·obtain⟨its,r,pl,hz⟩:=I.list hq
    obtain⟨f,h1,h2,_⟩:=Xk (A:=X.A.in1) I (r1.mono sr.look) rx (by show X.A.units+1+12<cLine;omega) hd (t.mono sr.look) r
    refine hl f pl.isList (fun w hw=>h1 w (by simpa using hw)) ⟨.bl (if neg then !b else b),H,I,?_,qq H rfl⟩
    rw[show its.toArray.any f=its.any f by simp,h2];rfl
   ·obtain⟨its,r,pl,hz⟩:=I.tuple hq
    obtain⟨f,h1,h2,_⟩:=Xk (A:=X.A.in1) I (r1.mono sr.look) rx (by show X.A.units+1+12<cLine;omega) hd (t.mono sr.look) r
    refine ht f pl (fun w hw=>h1 w (by simpa using hw)) ⟨.bl (if neg then !b else b),H,I,?_,qq H rfl⟩
    rw[show its.toArray.any f=its.any f by simp,h2];rfl
  by_cases hb:∃i j,w1=.str i/\w2=.str j
  ·obtain⟨i,j,rfl,rfl⟩:=hb
   cases r1;cases r2
   have e':some (oo i j)=some b:=e
   cases e'
   exact hs EF s σ H _ _ v u Q I rx ry ⟨i,j,rfl,rfl,qq H rfl⟩
  ·have e':(match fb st w2 with|some ys=>kc w1 ys|none=>none)=some b:=by
    rw[<-e]
    unfold j2
    cases w1<;>cases w2<;>first|rfl|exact absurd ⟨_,_,rfl,rfl⟩ hb
   cases hi:fb st w2 with
   |none=>rw[hi] at e';cases e'
   |some ys=>rw[hi] at e';exact seq hi e'
theorem uR(hu:X.A.units+64<cLine):fi X (compareOp .In) aE:=Xg (neg:=false) rfl mZ (fun e h1 h2 h3=>SeqAt.in_listAt e h1 h2 h3) (fun e h1 h2 h3=>SeqAt.in_tupleAt e h1 h2 h3) hu
theorem kM(hu:X.A.units+64<cLine):fi X (compareOp .NotIn) Hv:=Xg (neg:=true) rfl gC (fun e h1 h2 h3=>SeqAt.notIn_listAt e h1 h2 h3) (fun e h1 h2 h3=>SeqAt.notIn_tupleAt e h1 h2 h3) hu
end
section
variable {X:Cx}
noncomputable def vw:dm:=fun a b st=>match b with
 | .int i=>match a with
  |.str z=>if z.length<=sizeLine then(match ft z.cps.toList i with|some c=>.ok (.str ⟨#[c]⟩) st|none=>.stuck) else .stuck
  |a=>match fb st a with
   |some ws=>(match ft ws i with|some w=>.ok w st|none=>.stuck)
   |none=>.stuck
 |_=>.stuck
theorem wQ{K:PySem.W.Frag}{ι:Nat->Addr}{N:Nat}{G:Hp}{xs:List V}{ws:List W}{i:Int}{w:W}(t:RelWs K ι N G xs ws)(h:ft ws i=some w):∃v,ft xs i=some v/\RelW K ι N G v w:=by
 unfold ft at h ⊢
 rw[t.length]
 cases e:ly ws.length i with
 |none=>rw[e] at h;cases h
 |some j =>
  rw[e] at h
  exact t.get (show ws[j]?=some w from h)
theorem ix_w:Gg X (Gc X vw):=by
 intro value slice EF s σ H x y v u Q I rx ry h hs
 obtain⟨ι,G,st,w1,w2,sr,r1,r2,q⟩:=h
 cases w2 with
 | int i =>
  cases r2
  have seq:∀{ws:List W},fb st w1=some ws->au X ι st.nxt G (match ft ws i with|some w=>.ok w st|none=>.stuck) Q->wpAny (model X.prog X.w) X.A (subscriptTail value slice v u) (EP X EF σ Q) X.xe s:=by
   intro ws hi q
   cases e:ft ws i with
   |none=>rw[e] at q;exact(show False from q).elim
   |some w =>
    rw[e] at q
    obtain⟨a,xs,ea,hq,t⟩:=zz sr r1 hi
    subst ea
    obtain⟨z,hz,rz⟩:=wQ t e
    have fin:=q z ι G H (Ext.refl _ _ _) sr rz
    rcases hq with hq|hq
    ·exact vK value slice EF s σ H _ _ v u Q I rx ry ⟨a,xs,i,z,rfl,rfl,hq,hz,fin⟩ hs
    ·exact zN value slice EF s σ H _ _ v u Q I rx ry ⟨a,xs,i,z,rfl,rfl,hq,hz,fin⟩ hs
  cases w1 with
  | str z =>
   cases r1
   have q':au X ι st.nxt G (if z.length<=sizeLine then(match ft z.cps.toList i with|some c=>.ok (.str ⟨#[c]⟩) st|none=>.stuck) else .stuck) Q:=q
   by_cases hl:z.length<=sizeLine
   ·rw[FJ hl] at q'
    cases e:ft z.cps.toList i with
    |none=>rw[e] at q';exact(show False from q').elim
    |some c =>
     rw[e] at q'
     exact zO value slice EF s σ H _ _ v u Q I rx ry ⟨z,i,c,rfl,rfl,hl,e,q' _ ι G H (Ext.refl _ _ _) sr (.str _)⟩ hs
   ·rw[FK hl] at q';exact(show False from q').elim
  |tup ws=>exact seq (ws:=ws) rfl q
  |lst ws=>exact seq (ws:=ws) rfl q
  | ref n =>
   cases hi:fb st (.ref n) with
   |none =>
    have q':au X ι st.nxt G (match fb st (.ref n) with|some ws=>(match ft ws i with|some w=>.ok w st|none=>.stuck)|none=>.stuck) Q:=q
    rw[hi] at q';exact(show False from q').elim
   |some ws =>
    have q':au X ι st.nxt G (match fb st (.ref n) with|some ws=>(match ft ws i with|some w=>.ok w st|none=>.stuck)|none=>.stuck) Q:=q
    rw[hi] at q';exact seq hi q'
  |_=>exact(show False from q).elim
 |_=>exact(show False from q).elim
theorem yO(ha:PD X a ra)(hb:PD X b rb)(hs:Ni b):PD X (.Subscript a b pos) (ae ra rb vw):=
 PE.imp (X0 ix_w ha hb hs) fun _ _ _ h=>Ir h
def fq(xs:List W)(lo hi:Option Int):List W:=(xs.drop (HT.sIx xs.length 0 lo)).take (HT.sIx xs.length xs.length hi - HT.sIx xs.length 0 lo)
noncomputable def su(m:Bool)(lo hi:Option Int)(a:W)(st:S):R W:=match a with
 |.str z=>if z.length<=sizeLine then .ok (.str (Txt.slice z lo hi)) st else .stuck
 |.tup ws=>.ok (.tup (fq ws lo hi)) st
 |a=>match fb st a with
  |some ws=>if m then mi (fq ws lo hi) st else oi (fq ws lo hi) st
  |none=>.stuck
theorem Nd{K:PySem.W.Frag}{ι:Nat->Addr}{N:Nat}{G:Hp}{xs:List V}{ws:List W}(t:RelWs K ι N G xs ws)(lo hi:Option Int):RelWs K ι N G (uw xs lo hi) (fq ws lo hi):=by
 unfold uw fq
 rw[t.length]
 exact(t.drop _).take _
theorem eB(ht:IsTup s.heap t items)(h:Q true s):wpAny (model prog w) A (Builtin.Tuple.tupleIsExact (.ref t)) Q E s:=by
 unfold Builtin.Tuple.tupleIsExact
 refine FI (wpAny_typeOf ht.typeIs (FM ?_))
 exact h
theorem cF{prog:Program}{w:World}{A:Around}{E:Value->Shared->Prop}{lo hi:Option Int}{Q:Value->Shared->Prop}(ht:IsTup s.heap t items)(hs:s.heap.IsSliceOf sl vl vu .none)(pl:IsPart vl lo)(pu:IsPart vu hi)
  (h0:HT.sIx items.size 0 lo=0)(h1:HT.sIx items.size items.size hi=items.size)(h:Q (.ref t) s):wpAny (model prog w) A (getItem (.ref t) (.ref sl)) Q E s:=by
 obtain⟨os,hos,hcs,hds⟩:=id hs
 have hTs:s.TypeIs (.ref sl) "slice":=⟨os,hos,hcs⟩
 unfold getItem
 try with_reducible refine wpAny_holding ?_
 first|refine FI (FM ?_)|skip
 refine FI (wpAny_sequenceKey ht.typeIs (by decide) ?_)
 refine FI (wpAny_callSpecial?_slot (name:=Str.ofString "__getitem__") ht.typeIs PyProof.Rows.slot_tuple_getitem
  (wpAny_call_entry PyProof.Rows.slot_tuple_getitem ht.typeIs entry_tuple_getitem ?_ (args_tuple_getitem _ _)))
 show wpAny _ _ (Builtin.Tuple.tupleItemsOf (.ref t) >>= _) _ _ s
 refine FI (tupleItemsOf_ ht ?_)
 refine FI (wpAny_typeOf hTs ?_)
 rw[FJ (by decide)]
 refine FI (HT.sliceApplied_gen hs pl pu ?_)
 show wpAny _ _ (if (((HT.sIx items.size 0 lo:Nat):Int) == 0&&(1:Int) == 1&&(HT.sIx items.size items.size hi - HT.sIx items.size 0 lo) == items.size)=true then _ else _) _ _ s
 rw[h0,h1,FJ (by simp)]
 refine FI (eB ht ?_)
 rw[FJ rfl]
 refine FI (wpAny_rule ?_)
 exact FM ⟨_,rfl,FM h⟩
theorem mD:j7 X (fun x lo hi H Q=>∃a xs,x=.ref a/\fu X.K H a xs/\HT.sIx xs.length 0 lo=0/\HT.sIx xs.length xs.length hi=xs.length/\Q (.ref a) H):=by
 intro EF s σ H x v vl vu lo hi sl Q I rx hs pl pu h
 obtain⟨a,xs,rfl,hx,h0,h1,q⟩:=h
 cases rx
 obtain⟨its,r,ht,hz⟩:=I.tuple hx
 have hlen:its.toArray.size=xs.length:=by rw[EM];exact r.length.symm
 refine⟨"tuple",_,PyProof.Rows.slot_tuple_getitem.lookup,ht.typeIs,?_⟩
 exact cF ht hs pl pu (by rw[hlen];exact h0) (by rw[hlen];exact h1) ⟨.ref a,H,I,rfl,q⟩
noncomputable def rSlW(X:Cx)(m:Bool):V->Option Int->Option Int->Hp->VK->Prop:=fun x lo hi H Q=>∃ι G st w,SR X.K ι st G H/\RelW X.K ι st.nxt G x w/\au X ι st.nxt G (su m lo hi w st) Q
theorem Jd:j7 X (rSlW X m):=by
 intro EF s σ H x v vl vu lo hi sl Q I rx hs pl pu h
 obtain⟨ι,G,st,w,sr,r1,q⟩:=h
 have seq:∀{a:Addr}{xs:List V}{ws:List W},v=.ref a->x=.ref a->bx X.K H a xs->RelWs X.K ι st.nxt G xs ws->au X ι st.nxt G (if m then mi (fq ws lo hi) st else oi (fq ws lo hi) st) Q ->
   ∃T id,typeLookup (.type T) "__getitem__" = pure (some (.builtin id))/\s.TypeIs v T/\wpAny (model X.prog X.w) X.A (getItem v (.ref sl)) (EP X EF σ Q) X.xe s:=by
  intro a xs ws ev ex hq t q
  refine sR EF s σ H x v vl vu lo hi sl Q I rx hs pl pu ⟨a,xs,ex,hq,?_⟩
  cases m with
  |true=>rw[FJ rfl] at q;exact(zy sr (Nd t lo hi) q).2
  |false=>rw[FK EG] at q;exact(c7 sr (Nd t lo hi) q).2
 cases r1 with
 | str z =>
  have q':au X ι st.nxt G (if z.length<=sizeLine then .ok (.str (Txt.slice z lo hi)) st else .stuck) Q:=q
  by_cases hl:z.length<=sizeLine
  ·rw[FJ hl] at q'
   exact xC EF s σ H _ v vl vu lo hi sl Q I rx hs pl pu ⟨z,rfl,hl,q' _ ι G H (Ext.refl _ _ _) sr (.str _)⟩
  ·rw[FK hl] at q';exact(show False from q').elim
 | tup s1 c1 t1 =>
  rename_i a xs ws
  have hq:=sqT_same sr.sub s1
  by_cases hw:HT.sIx xs.length 0 lo=0/\HT.sIx xs.length xs.length hi=xs.length
  ·refine mD EF s σ H _ v vl vu lo hi sl Q I rx hs pl pu ⟨a,xs,rfl,hq,hw.1,hw.2,q _ ι G H (Ext.refl _ _ _) sr (.tup s1 c1 ?_)⟩
   have ec:fq ws lo hi=ws:=by
    unfold fq
    rw[<-t1.length,hw.1,hw.2,List.drop_zero,Nat.sub_zero,t1.length,List.take_length]
   rw[ec];exact t1
  ·refine xB EF s σ H _ v vl vu lo hi sl Q I rx hs pl pu ⟨a,xs,rfl,hq,hw,fun p hp=>?_⟩
   obtain⟨sr2,e2⟩:=sr.laid (o:=.tup (uw xs lo hi)) hp
   exact q _ ι _ _ e2 sr2 (.tup (.inl (.inl iz)) (fun _=>iz) ((Nd t1 lo hi).mono e2))
 |lst s1 t1=>exact seq rx rfl (sr.sub.seq s1) t1 q
 | ref hn =>
  rename_i n
  have q':au X ι st.nxt G (match fb st (.ref n) with|some ws=>if m then mi (fq ws lo hi) st else oi (fq ws lo hi) st|none=>.stuck) Q:=q
  cases hi':fb st (.ref n) with
  |none=>rw[hi'] at q';exact(show False from q').elim
  | some ws =>
   rw[hi'] at q'
   obtain⟨a,xs,ea,hq,t⟩:=zz sr (.ref hn) hi'
   rcases hq with hq|hq
   ·exact seq (by cases ea;exact rx) ea hq t q'
   ·exfalso
    have hi2:=hi'
    have hi2:MO.items (st.mu n)=some ws:=hi2
    cases e:st.mu n with
    |none=>rw[e] at hi2;cases hi2
    | some o =>
     obtain⟨_,_,h3⟩:=sr.live n o e
     cases o with
     |lst zs =>
      obtain⟨vs,qv,_⟩:=h3
      cases ea
      exact c6 I hq (bx.of qv)
     |dct ks vs=>rw[e] at hi2;cases hi2
 |_=>exact(show False from q).elim
noncomputable def Wy(m:Bool)(ra:am):am:=fun Γ st=>(ra Γ st).bind fun w st1=>su m none none w st1
noncomputable def dl(m:Bool)(ra rl:am):am:=fun Γ st=>(ra Γ st).bind fun w st1=>(rl Γ st1).bind fun l st2=>(match l with|.int i=>su m (some i) none w st2|_=>.stuck)
noncomputable def dq(m:Bool)(ra rh:am):am:=fun Γ st=>(ra Γ st).bind fun w st1=>(rh Γ st1).bind fun h st2=>(match h with|.int i=>su m none (some i) w st2|_=>.stuck)
noncomputable def vq(m:Bool)(ra rl rh:am):am:=fun Γ st=>(ra Γ st).bind fun w st1=>(rl Γ st1).bind fun l st2=>(match l with|.int i=>(rh Γ st2).bind fun h st3=>(match h with|.int j=>su m (some i) (some j) w st3|_=>.stuck)|_=>.stuck)
section
variable {e lo hi:Expr} {pos p2:Pos} {ra rl rh:am} {m:Bool}
theorem uI(ha:PD X e ra):PD X (.Subscript e (.Slice none none none p2) pos) (Wy m ra):=by
 refine PE.imp (Ht (Jd (m:=m)) ha Hz Hz) fun σ H Q h=>?_
 obtain⟨ι,G,st,Γ,en,sr,q⟩:=h
 exact⟨ι,G,st,Γ,en,sr,au.bind q fun w st1 v ι1 G1 H1 _ e1 sr1 r1 q1=>⟨ι1,G1,st1,w,sr1,r1,q1⟩⟩
theorem uG(ha:PD X e ra)(hl:PD X lo rl):PD X (.Subscript e (.Slice (some lo) none none p2) pos) (dl m ra rl):=by
 refine PE.imp (Ht (Jd (m:=m)) ha (Hy hl) Hz) fun σ H Q h=>?_
 obtain⟨ι,G,st,Γ,en,sr,q⟩:=h
 refine⟨ι,G,st,Γ,en,sr,au.bind q fun w st1 v ι1 G1 H1 _ e1 sr1 r1 q1=>?_⟩
 refine⟨ι1,G1,st1,Γ,en.mono e1,sr1,au.bind q1 fun l st2 v2 ι2 G2 H2 _ e2 sr2 r2 q2=>?_⟩
 cases l with
 |int i=>cases r2;exact⟨i,rfl,ι2,G2,st2,w,sr2,r1.mono e2,q2⟩
 |_=>exact(show False from q2).elim
theorem uH(ha:PD X e ra)(hh:PD X hi rh):PD X (.Subscript e (.Slice none (some hi) none p2) pos) (dq m ra rh):=by
 refine PE.imp (Ht (Jd (m:=m)) ha Hz (Hy hh)) fun σ H Q h=>?_
 obtain⟨ι,G,st,Γ,en,sr,q⟩:=h
 refine⟨ι,G,st,Γ,en,sr,au.bind q fun w st1 v ι1 G1 H1 _ e1 sr1 r1 q1=>?_⟩
 refine⟨ι1,G1,st1,Γ,en.mono e1,sr1,au.bind q1 fun l st2 v2 ι2 G2 H2 _ e2 sr2 r2 q2=>?_⟩
 cases l with
 |int i=>cases r2;exact⟨i,rfl,ι2,G2,st2,w,sr2,r1.mono e2,q2⟩
 |_=>exact(show False from q2).elim
theorem uF(ha:PD X e ra)(hl:PD X lo rl)(hh:PD X hi rh):PD X (.Subscript e (.Slice (some lo) (some hi) none p2) pos) (vq m ra rl rh):=by
 refine PE.imp (Ht (Jd (m:=m)) ha (Hy hl) (Hy hh)) fun σ H Q h=>?_
 obtain⟨ι,G,st,Γ,en,sr,q⟩:=h
 refine⟨ι,G,st,Γ,en,sr,au.bind q fun w st1 v ι1 G1 H1 _ e1 sr1 r1 q1=>?_⟩
 refine⟨ι1,G1,st1,Γ,en.mono e1,sr1,au.bind q1 fun l st2 v2 ι2 G2 H2 _ e2 sr2 r2 q2=>?_⟩
 cases l with
 |int i =>
  cases r2
  refine⟨i,rfl,ι2,G2,st2,Γ,(en.mono e1).mono e2,sr2,au.bind q2 fun h st3 v3 ι3 G3 H3 _ e3 sr3 r3 q3=>?_⟩
  cases h with
  |int j=>cases r3;exact⟨j,rfl,ι3,G3,st3,w,sr3,(r1.mono e2).mono e3,q3⟩
  |_=>exact(show False from q3).elim
 |_=>exact(show False from q2).elim
end
noncomputable def gj:bh:=fun ws st=>match ws with
 |[.str z]=>if z.length<=sizeLine then .ok (.int z.length) st else .stuck
 |[w]=>match fb st w with
  |some xs=>.ok (.int xs.length) st
  |none=>.stuck
 |_=>.stuck
def lu:List W->Option (List Bool)
 |[]=>some []
 |.bl b::ws=>(lu ws).map (b::·)
 |_::_=>none
noncomputable def ij:bh:=fun ws st=>match ws with
 |[.lst xs]=>(match lu xs with|some bs=>.ok (.bl (bs.all id)) st|none=>.stuck)
 |_=>.stuck
noncomputable def mt:bh:=fun ws st=>match ws with
 |[.tup xs]=>.ok (.tup xs) st
 |[w]=>match fb st w with
  |some xs=>ap xs st
  |none=>.stuck
 |_=>.stuck
noncomputable def Im(m:Bool):bh:=fun ws st=>match ws with
 |[w]=>match fb st w with
  |some xs=>if m then mi xs st else oi xs st
  |none=>.stuck
 |_=>.stuck
noncomputable def nb:bh:=fun ws st=>match ws with
 |[.int i]=>.ok (.int i) st
 |[.bl b]=>.ok (.int (if b then 1 else 0)) st
 |_=>.stuck
theorem Up:∀{ws:List W}{bs:List Bool},lu ws=some bs->ws=bs.map W.bl
 |[],bs,h=>by cases h;rfl
 | w::ws,bs,h=>by
  cases w with
  |bl b =>
   have h':(lu ws).map (b::·)=some bs:=h
   cases e:lu ws with
   |none=>rw[e] at h';cases h'
   |some cs=>rw[e] at h';cases h';rw[FN,<-Up e]
  |_=>cases h
theorem qk{K:PySem.W.Frag}{ι:Nat->Addr}{N:Nat}{G:Hp}{xs:List V}{w:W}(t:RelWs K ι N G xs [w]):∃v,xs=[v]/\RelW K ι N G v w:=by
 cases t with
 |cons r t=>cases t;exact⟨_,rfl,r⟩
theorem rel2{K:PySem.W.Frag}{ι:Nat->Addr}{N:Nat}{G:Hp}{xs:List V}{w w':W}(t:RelWs K ι N G xs [w,w']):∃v v',xs=[v,v']/\RelW K ι N G v w/\RelW K ι N G v' w':=by
 cases t with
 |cons r t=>obtain⟨v,rfl,r'⟩:=qk t;exact⟨_,_,rfl,r,r'⟩
theorem E7:nh X (.builtin "len") gj:=by
 intro EF s σ H ι G st xs ws us Q I sr rv t q
 match ws,t,q with
 | [w],t,q =>
  obtain⟨v,rfl,r⟩:=qk t
  have seq:∀{zs:List W},fb st w=some zs->au X ι st.nxt G (.ok (.int zs.length) st) Q->wpAny (model X.prog X.w) X.A (call (.builtin "len") us) (EP X EF σ Q) X.xe s:=by
   intro zs hi q
   obtain⟨a,ys,ea,hq,t2⟩:=zz sr r hi
   subst ea
   refine gU EF s σ H _ us Q I rv ⟨a,ys,rfl,hq,?_⟩
   rw[t2.length]
   exact q _ ι G H (Ext.refl _ _ _) sr (.int _)
  cases w with
  | str z =>
   cases r
   have q':au X ι st.nxt G (if z.length<=sizeLine then .ok (.int z.length) st else .stuck) Q:=q
   by_cases hl:z.length<=sizeLine
   ·rw[FJ hl] at q'
    exact gT EF s σ H _ us Q I rv ⟨z,rfl,hl,q' _ ι G H (Ext.refl _ _ _) sr (.int _)⟩
   ·rw[FK hl] at q';exact(show False from q').elim
  |tup zs=>exact seq rfl q
  |lst zs=>exact seq rfl q
  |ref n =>
   have q':au X ι st.nxt G (match fb st (.ref n) with|some xs=>.ok (.int xs.length) st|none=>.stuck) Q:=q
   cases hi:fb st (.ref n) with
   |none=>rw[hi] at q';exact(show False from q').elim
   |some zs=>rw[hi] at q';exact seq hi q'
  |_=>exact(show False from q).elim
 |[],_,q=>exact(show False from q).elim
 |w::w'::ws,_,q=>exact(show False from(by cases w<;>exact q)).elim
theorem F0(hc:X.calm=true):nh X (.builtin "all") ij:=by
 intro EF s σ H ι G st xs ws us Q I sr rv t q
 unfold ij at q
 split at q
 ·rename_i zs
  cases e:lu zs with
  |none=>rw[e] at q;exact(show False from q).elim
  | some bs =>
   rw[e] at q
   obtain⟨v,rfl,r⟩:=qk t
   cases r with
   |lst s1 t1 =>
    rw[Up e] at t1
    have e2:=t1.bls
    subst e2
    exact oF hc EF s σ H _ us Q I rv ⟨_,bs,rfl,sr.sub.seq s1,q _ ι G H (Ext.refl _ _ _) sr (.bl _)⟩
 ·exact(show False from q).elim
theorem wK{m:Bool}:nh X (.type "list") (Im m):=by
 intro EF s σ H ι G st xs ws us Q I sr rv t q
 unfold Im at q
 split at q
 ·rename_i w
  cases hi:fb st w with
  |none=>rw[hi] at q;exact(show False from q).elim
  |some zs =>
   rw[hi] at q
   obtain⟨v,rfl,r⟩:=qk t
   obtain⟨a,ys,ea,hq,t2⟩:=zz sr r hi
   subst ea
   refine gS EF s σ H _ us Q I rv ⟨a,ys,rfl,hq,?_⟩
   cases m with
   |true=>exact(zy sr t2 q).2
   |false=>exact(c7 sr t2 q).2
 ·exact(show False from q).elim
theorem rQ:nh X (.type "tuple") mt:=by
 intro EF s σ H ι G st xs ws us Q I sr rv t q
 unfold mt at q
 split at q
 ·rename_i zs
  obtain⟨v,rfl,r⟩:=qk t
  cases r with
  |tup s1 c1 t1=>exact Qg EF s σ H _ us Q I rv ⟨_,_,rfl,.inr ⟨sqT_same sr.sub s1,q _ ι G H (Ext.refl _ _ _) sr (.tup s1 c1 t1)⟩⟩
 ·rename_i w hne
  cases hi:fb st w with
  |none=>rw[hi] at q;exact(show False from q).elim
  | some zs =>
   rw[hi] at q
   obtain⟨v,rfl,r⟩:=qk t
   obtain⟨a,ys,ea,hq,t2⟩:=zz sr r hi
   subst ea
   rcases hq with hq|hq
   ·exact Qg EF s σ H _ us Q I rv ⟨a,ys,rfl,.inl ⟨hq,(Vn sr t2 q).2⟩⟩
   ·exfalso
    cases r with
    |tup s1 c1 t1=>exact hne _ rfl
    |lst s1 t1=>exact c6 I hq (sr.sub.seq s1)
    | @ref n hn =>
     have hi:MO.items (st.mu n)=some zs:=hi
     cases e:st.mu n with
     |none=>rw[e] at hi;cases hi
     |some o =>
      obtain⟨_,_,h3⟩:=sr.live n o e
      cases o with
      |lst zs=>obtain⟨vs,qv,_⟩:=h3;exact c6 I hq (bx.of qv)
      |dct ks vs=>rw[e] at hi;cases hi
    |_=>cases hi
 ·exact(show False from q).elim
theorem E9:nh X (.type "int") nb:=by
 intro EF s σ H ι G st xs ws us Q I sr rv t q
 unfold nb at q
 split at q
 ·obtain⟨v,rfl,r⟩:=qk t
  cases r
  exact Uo EF s σ H _ us Q I rv (.inl ⟨_,rfl,q _ ι G H (Ext.refl _ _ _) sr (.int _)⟩)
 ·obtain⟨v,rfl,r⟩:=qk t
  cases r
  exact Uo EF s σ H _ us Q I rv (.inr ⟨_,rfl,q _ ι G H (Ext.refl _ _ _) sr (.int _)⟩)
 ·exact(show False from q).elim
def MO.kind:Option MO->Option String
 |some (.lst _)=>some "list"
 |some (.dct _ _)=>some "dict"
 |none=>none
noncomputable def ng(st:S):W->Option String
 |.non=>some "NoneType"
 |.bl _=>some "bool"
 |.int _=>some "int"
 |.str _=>some "str"
 |.tup _=>some "tuple"
 |.lst _=>some "list"
 |.dct _ _=>some "dict"
 |.ref n=>MO.kind (st.mu n)
 |.ty _=>none
 |.exn _=>none
def e9(k T:String):Bool:=k == T||(k == "bool" && T == "int")
def kinds:List String:=["NoneType", "bool", "int", "str", "tuple", "list", "dict"]
noncomputable def cb:bh:=fun ws st=>match ws with
 |[w,.ty T]=>if kinds.contains T then(match ng st w with|some k=>.ok (.bl (e9 k T)) st|none=>.stuck) else .stuck
 |_=>.stuck
end
section
variable {X:Cx}
structure SrcR (K:PySem.W.Frag) (J:It) (items:List W) (ι:Nat->Addr) (N:Nat) (G:Hp):Prop where
 go:∀(i:Nat)(w:W)(ι':Nat->Addr)(N':Nat)(G' H':Hp),items[i]?=some w->Ext ι N G ι' N' G'->im G' H'->J.go i H'/\∀v H'',J.yld i H' v H''->H''=H'/\RelW K ι' N' G' v w
 stop:∀(G' H':Hp),im G G'->im G' H'->J.stop items.length H'
abbrev jt:=Ga->S->R (List W)
def tDI(X:Cx)(src:jt):TI:=fun σ H Rr=>∃ι G st Γ,EnvR X.K ι st.nxt G σ Γ/\SR X.K ι st G H/\(match src Γ st with
 |.ok items st'=>∀J ι' G' H',Ext ι st.nxt G ι' st'.nxt G'->SR X.K ι' st' G' H'->SrcR X.K J items ι' st'.nxt G'->Rr J H'
 |.ex c st'=>XW X ι st.nxt G c st'
 |.stuck=>False)
abbrev wv(X:Cx)(tg iter:Expr)(src:jt):Prop:=PI X tg iter (tDI X src)
theorem PI.imp(h:PI X tg e t)(k:∀σ H Q,t' σ H Q->t σ H Q):PI X tg e t':=fun EF s σ H Q I q=>h EF s σ H Q I (k σ H Q q)
def iSeq(K:PySem.W.Frag)(tl:TE):TI:=fun σ H R=>tl σ H fun x H1=>(∃a,x=.ref a/\(∃xs,bx K H1 a xs)/\R (Itl K a) H1)\/(∃a,x=.ref a/\(∃xs,fu K H1 a xs)/\R (Itt K a) H1)\/∃z,x=.str z/\R (Its z) H1
theorem Np(hl:PE X l tl):PI X (.Name y py) l (iSeq X.K tl):=by
 intro EF s σ H R I h
 refine bj (hl EF s σ H _ I h) fun v s1 ⟨x,H1,I1,r1,q1⟩=>?_
 rcases q1 with⟨a,e,⟨xs,hq⟩,q⟩|⟨a,e,⟨xs,hq⟩,q⟩|⟨z,e,q⟩
 ·subst e
  cases r1
  obtain⟨its,rv,p,hz⟩:=I1.list hq
  refine wpAny_pyIter_list p.isList ?_
  refine⟨s1.heap.objs.size,[s1.heap.objs.size],_,_,H1,rfl,I1.kept (t':=s1.toks) fun b o e=>EI _ e,lU a _,⟨_,EW _ rfl,rfl,rfl⟩,fun b hb=>?_,q⟩
  have e:b=s1.heap.objs.size:=by simpa using hb
  subst e
  exact I1.fpOk (EN _) (I1.hok.fresh (EN _))
 ·subst e
  cases r1
  obtain⟨its,rv,p,hz⟩:=I1.tuple hq
  refine wpAny_pyIter_tuple (show s1.heap.IsTuple a its.toArray from p) ?_
  refine⟨s1.heap.objs.size,[s1.heap.objs.size],_,_,H1,rfl,I1.kept (t':=s1.toks) fun b o e=>EI _ e,jO a _,⟨_,EW _ rfl,rfl,rfl⟩,fun b hb=>?_,q⟩
  have e:b=s1.heap.objs.size:=by simpa using hb
  subst e
  exact I1.fpOk (EN _) (I1.hok.fresh (EN _))
 ·subst e
  obtain⟨t,rfl⟩:=r1
  have fp:∀b∈[s1.heap.objs.size],mm X EF H1 b:=fun b hb=>by
   have e:b=s1.heap.objs.size:=by simpa using hb
   subst e
   exact I1.fpOk (EN _) (I1.hok.fresh (EN _))
  cases ha:z.cps.all (· < 128)
  ·refine wpAny_pyIter_wide ha ?_
   exact⟨s1.heap.objs.size,[s1.heap.objs.size],_,_,H1,rfl,I1.kept (t':=s1.toks) fun b o e=>EI _ e,
    Vm (fun A' hA=>Walks.strWide hA _ z t) (fun i h st=>by obtain⟨o,e,c,d⟩:=st;exact⟨o,e,fun v z=>by rw[d] at z;cases z⟩) (fun _ _ _ _ _ st h=>wpAny_pyIter_striter_wide st h),
    ⟨Nat.zero_le _,⟨_,EW _ rfl,rfl,rfl⟩⟩,fp,q⟩
  ·refine wpAny_pyIter_ascii ha ?_
   exact⟨s1.heap.objs.size,[s1.heap.objs.size],_,_,H1,rfl,I1.kept (t':=s1.toks) fun b o e=>EI _ e,
    Vm (fun A' hA=>Walks.strAscii hA _ z t) (fun i h st=>by obtain⟨o,e,c,d⟩:=st;exact⟨o,e,fun v z=>by rw[d] at z;cases z⟩) (fun _ _ _ _ _ st h=>wpAny_pyIter_striter_ascii st h),
    ⟨Nat.zero_le _,⟨_,EW _ rfl,rfl,rfl⟩⟩,fp,q⟩
def oh(z:Str):List W:=z.cps.toList.map fun c=>W.str ⟨#[c]⟩
def Fk:W->Option (List W)
 |.lst xs=>some xs
 |.tup xs=>some xs
 |.str z=>some (oh z)
 |_=>none
noncomputable def ba(r:am):jt:=fun Γ st=>(r Γ st).bind fun w st1=>match Fk w with
 |some xs=>.ok xs st1
 |none=>.stuck
theorem pA{K:PySem.W.Frag}{ι:Nat->Addr}{N:Nat}{G:Hp}{a:Addr}{xs:List V}{ws:List W}(h:bx K G a xs)(t:RelWs K ι N G xs ws):SrcR K (Itl K a) ws ι N G where
 go:=fun i w ι' N' G' H' hw e sm=>by
  obtain⟨v,hv,rv⟩:=(t.mono e).get hw
  have hq:bx K H' a xs:=sm.seq (e.sm.seq h)
  refine⟨⟨xs,v,hq,hv⟩,fun v' H'' ⟨e1,y⟩=>⟨e1,?_⟩⟩
  have:=y xs hq
  rw[hv] at this
  cases this
  exact rv
 stop:=fun G' H' sm sm'=>⟨xs,sm'.seq (sm.seq h),by rw[t.length];exact EN _⟩
theorem sN{K:PySem.W.Frag}{ι:Nat->Addr}{N:Nat}{G:Hp}{a:Addr}{xs:List V}{ws:List W}(h:fu K G a xs)(t:RelWs K ι N G xs ws):SrcR K (Itt K a) ws ι N G where
 go:=fun i w ι' N' G' H' hw e sm=>by
  obtain⟨v,hv,rv⟩:=(t.mono e).get hw
  have hq:fu K H' a xs:=sqT_same sm (sqT_same e.sm h)
  refine⟨⟨xs,v,hq,hv⟩,fun v' H'' ⟨e1,y⟩=>⟨e1,?_⟩⟩
  have:=y xs hq
  rw[hv] at this
  cases this
  exact rv
 stop:=fun G' H' sm sm'=>⟨xs,sqT_same sm' (sqT_same sm h),by rw[t.length];exact EN _⟩
theorem sO{K:PySem.W.Frag}{ι:Nat->Addr}{N:Nat}{G:Hp}(z:Str):SrcR K (Its z) (oh z) ι N G where
 go:=fun i w ι' N' G' H' hw e sm=>by
  unfold oh at hw
  rw[EY] at hw
  cases hc:z.cps.toList[i]? with
  |none=>rw[hc] at hw;cases hw
  |some c =>
   rw[hc] at hw
   cases hw
   have hc':z.cps[i]?=some c:=by simpa using hc
   have hi:i<z.cps.size:=(Array.getElem?_eq_some_iff.mp hc').1
   refine⟨hi,fun v' H'' ⟨e1,c',h1,h2⟩=>⟨e1,?_⟩⟩
   rw[hc'] at h1
   cases h1
   rw[h2]
   exact .str _
 stop:=fun G' H' sm sm'=>by
  show z.cps.size<=(oh z).length
  unfold oh
  simp
def ju(lo:Int)(n:Nat):List W:=(List.range n).map fun(i:Nat)=>W.int (lo+i)
theorem lW{K:PySem.W.Frag}{ι:Nat->Addr}{N:Nat}{G:Hp}(lo:Int)(n:Nat):SrcR K (Itr lo n) (ju lo n) ι N G where
 go:=fun i w ι' N' G' H' hw e sm=>by
  unfold ju at hw
  rw[EY] at hw
  by_cases hi:i<n
  ·rw[List.getElem?_range hi] at hw
   cases hw
   refine⟨hi,fun v' H'' ⟨e1,h2⟩=>⟨e1,?_⟩⟩
   rw[h2]
   exact .int _
  ·rw[List.getElem?_eq_none (by simp;omega)] at hw;cases hw
 stop:=fun G' H' sm sm'=>by
  show n<=(ju lo n).length
  unfold ju
  simp
theorem uE(h:PD X l r):wv X (.Name y py) l (ba r):=by
 refine PI.imp (Np h) fun σ H Q hq=>?_
 obtain⟨ι,G,st,Γ,en,sr,q⟩:=hq
 refine⟨ι,G,st,Γ,en,sr,?_⟩
 unfold ba at q
 cases e1:r Γ st with
 |stuck=>rw[e1] at q;exact q
 |ex c s=>rw[e1] at q;exact q
 | ok w st1 =>
  rw[e1] at q
  intro v ι1 G1 H1 x1 sr1 r1
  have q':match (match Fk w with|some xs=>R.ok xs st1|none=>R.stuck) with
   |.ok items st'=>∀J ι' G' H',Ext ι st.nxt G ι' st'.nxt G'->SR X.K ι' st' G' H'->SrcR X.K J items ι' st'.nxt G'->Q J H'
   |.ex c st'=>XW X ι st.nxt G c st'
   |.stuck=>False:=q
  cases r1 with
  |tup s1 c1 t1=>exact .inr (.inl ⟨_,rfl,⟨_,sqT_same sr1.sub s1⟩,q' _ ι1 G1 H1 x1 sr1 (sN s1 t1)⟩)
  |lst s1 t1=>exact .inl ⟨_,rfl,⟨_,sr1.sub.seq s1⟩,q' _ ι1 G1 H1 x1 sr1 (pA s1 t1)⟩
  |str z=>exact .inr (.inr ⟨z,rfl,q' _ ι1 G1 H1 x1 sr1 (sO z)⟩)
  |_=>exact q'.elim
def d3(j:Int):Prop:=-(2 ^ 62)<=j/\j<2 ^ 62
instance (j:Int):Decidable (d3 j):=by unfold d3;infer_instance
noncomputable def ja(r:am):jt:=fun Γ st=>(r Γ st).bind fun w st1=>match w with
 |.int j=>if d3 j then .ok (ju 0 j.toNat) st1 else .stuck
 |_=>.stuck
theorem kJ(hg:Gl X "range")(hm:X.mg "range" = none)(ha:PD X a ra)(hs:starEach [a] X.env=[(false,eval a X.env)]):wv X tg (.Call (.Name "range" p) [a] [] pos) (ja ra):=by
 refine PI.imp (mO hg hm (Ly ha Mq hs) hs) fun σ H Q hq=>?_
 obtain⟨ι,G,st,Γ,en,sr,q⟩:=hq
 refine⟨ι,G,st,Γ,en,sr,?_⟩
 unfold ja at q
 unfold ad af
 cases e1:ra Γ st with
 |stuck=>rw[e1] at q;exact q
 |ex c s=>rw[e1] at q;exact q
 | ok w st1 =>
  rw[e1] at q
  intro vs ι1 G1 H1 x1 sr1 r1
  obtain⟨v,rfl,r2⟩:=qk r1
  cases r2 with
  | int j =>
   by_cases hr:d3 j
   ·have q':match (if d3 j then R.ok (ju 0 j.toNat) st1 else R.stuck) with
     |.ok items st'=>∀J ι' G' H',Ext ι st.nxt G ι' st'.nxt G'->SR X.K ι' st' G' H'->SrcR X.K J items ι' st'.nxt G'->Q J H'
     |.ex c st'=>XW X ι st.nxt G c st'
     |.stuck=>False:=q
    rw[FJ hr] at q'
    exact⟨j,rfl,hr.1,hr.2,q' _ ι1 G1 H1 x1 sr1 (lW 0 _)⟩
   ·have q':match (if d3 j then R.ok (ju 0 j.toNat) st1 else R.stuck) with
     |.ok items st'=>∀J ι' G' H',Ext ι st.nxt G ι' st'.nxt G'->SR X.K ι' st' G' H'->SrcR X.K J items ι' st'.nxt G'->Q J H'
     |.ex c st'=>XW X ι st.nxt G c st'
     |.stuck=>False:=q
    rw[FK hr] at q'
    exact q'.elim
  |_=>exact(show False from q).elim
def R.calm{α:Type}:R α->R α
 |.ok a s=>.ok a s
 |_=>.stuck
def Fy(K:PySem.W.Frag)(ι:Nat->Addr)(N:Nat)(G:Hp)(r:R W)(Q:VK):Prop:=match r with
 |.ok w st'=>∀v ι' G' H',Ext ι N G ι' st'.nxt G'->SR K ι' st' G' H'->RelW K ι' st'.nxt G' v w->Q v H'
 |_=>False
def i9(K:PySem.W.Frag)(run:am):TE:=fun σ H Q=>∃ι G st Γ,EnvR K ι st.nxt G σ Γ/\SR K ι st G H/\Fy K ι st.nxt G (run Γ st) Q
def tT0(K:PySem.W.Frag)(run:am):TT:=fun σ H Q=>i9 K run σ H fun v H'=>∃b,v=.bl b/\Q b H'
theorem Yv{run:am}{σ:St}{H:Hp}{Q:VK}(h:i9 X.K run σ H Q):tD X run σ H Q:=by
 obtain⟨ι,G,st,Γ,en,sr,q⟩:=h
 refine⟨ι,G,st,Γ,en,sr,?_⟩
 cases e:run Γ st with
 |ok w st'=>rw[e] at q;exact q
 |ex c s=>rw[e] at q;exact q.elim
 |stuck=>rw[e] at q;exact q
theorem PD.calm{e:Expr}{run:am}(h:PD X e run):PE X e (i9 X.K run):=PE.imp h fun _ _ _ q=>Yv q
theorem PT.calm{e:Expr}{run:am}(h:PT X e (gz X run)):PT X e (tT0 X.K run):=PT.imp h fun _ _ _ q=>Yv q
noncomputable def gc(rt re:am)(Γc:Ga):List W->List W->S->R (List W)
 |[],acc,st=>.ok acc st
 |x::xs,acc,st=>(rt (some x::Γc) st).calm.bind fun b st1=>match b with
  |.bl true=>(re (some x::Γc) st1).calm.bind fun y st2=>gc rt re Γc xs (acc++[y]) st2
  |.bl false=>gc rt re Γc xs acc st1
  |_=>.stuck
def fh(cap:List Nat)(Γ:Ga):Ga:=cap.map fun j=>(Γ[j]?).getD none
def ay(m:Bool):bh:=if m then mi else oi
noncomputable def ck(m:Bool)(src:jt)(cap:List Nat)(rt re:am):am:=fun Γ st=>(src Γ st).bind fun items st1=>if items.length<sizeLine then(gc rt re (fh cap Γ) items [] st1).bind (ay m) else .stuck
theorem Yj{K:PySem.W.Frag}{ι:Nat->Addr}{N:Nat}{G:Hp}{σ:St}{Γ:Ga}{v:V}{w:W}(cap:List Nat)(en:EnvR K ι N G σ Γ)(r:RelW K ι N G v w):EnvR K ι N G (kq cap σ (some v)) (some w::fh cap Γ):=by
 refine⟨by unfold kq fh;simp,fun i u h=>?_⟩
 cases i with
 |zero =>
  have h':some (some w)=some (some u):=by simpa using h
  cases h'
  exact⟨v,by unfold kq;simp,r⟩
 | succ i =>
  have h':(fh cap Γ)[i]?=some (some u):=by simpa using h
  unfold fh at h'
  rw[EY] at h'
  cases hj:cap[i]? with
  |none=>rw[hj] at h';cases h'
  | some j =>
   rw[hj] at h'
   have h2:(Γ[j]?).getD none=some u:=FP h'
   cases hg:Γ[j]? with
   |none=>rw[hg] at h2;cases h2
   |some o =>
    rw[hg] at h2
    have h3:o=some u:=h2
    subst h3
    obtain⟨z,h4,h5⟩:=en.get j u hg
    refine⟨z,?_,h5⟩
    unfold kq
    rw[List.getElem?_cons_succ,EY,hj]
    show some ((σ[j]?).getD none)=some (some z)
    rw[h4];rfl
def nj(X:Cx)(m:Bool)(ι:Nat->Addr)(N:Nat)(G:Hp)(r:R (List W))(Q:VK):Prop:=match r with
 |.ok ys st=>au X ι N G (ay m ys st) Q
 |.ex c st=>XW X ι N G c st
 |.stuck=>False
theorem Vk(h:au X ι N G (r.bind (ay m)) Q):nj X m ι N G r Q:=by
 cases r<;>exact h
theorem nj.later(e:Ext ι N G ι1 N1 G1)(h:nj X m ι N G r Q):nj X m ι1 N1 G1 r Q:=by
 cases r with
 |stuck=>exact h
 |ex c s=>exact XW.mono e h
 |ok w st'=>exact au.later e h
theorem Lr{m:Bool}{ι:Nat->Addr}{N:Nat}{G:Hp}{r:R W}{f:W->S->R (List W)}{Q:VK}{Q':VK}{K:PySem.W.Frag}(hK:K=X.K)(h:nj X m ι N G (r.calm.bind f) Q)
  (k:∀w st' v ι' G' H',Ext ι N G ι' st'.nxt G'->SR X.K ι' st' G' H'->RelW X.K ι' st'.nxt G' v w->nj X m ι' st'.nxt G' (f w st') Q->Q' v H'):Fy K ι N G r Q':=by
 subst hK
 cases r with
 |stuck=>exact h
 |ex c s=>exact(show False from h).elim
 |ok w st'=>exact fun v ι' G' H' e sr rel=>k w st' v ι' G' H' e sr rel (nj.later e (show nj X m ι N G (f w st') Q from h))
theorem uM{scope:Scope}{x:Str}{px pos:Pos}{cl:List (Str×Addr)}{N:List Str}{cap:List Nat}{elt iter:Expr}{ifs:List Expr}{src:jt}{rt re:am}{m:Bool}(hc:X.calm=true)(hi:wv X (.Name x px) iter src)(Sc:CompSc X scope x cl N cap)
  (ht:∀C s H ex,yw (ie X scope cl C N s H ex) ifs (tT0 X.K rt))(he:∀C s H ex,PE (ie X scope cl C N s H ex) elt (i9 X.K re))(hs:∀z,foldedSetIterable iter X.env z=pure z) :
  PD X (.ListComp elt [⟨.Name x px,iter,ifs,0⟩] scope pos) (ck m src cap rt re) /\
  (∀{i:Nat}{y:Str}{py spos:Pos},X.N.Nodup->X.N[i]?=some y->X.env.scope.names.lookup y=some .local->swapsWith (.ListComp elt [⟨.Name x px,iter,ifs,0⟩] scope pos) (some (.Name y py)) spos.line X.env=pure true ->
   PS X (.Assign [.Name y py] (.ListComp elt [⟨.Name x px,iter,ifs,0⟩] scope pos) spos) (yi (tD X (ck m src cap rt re)) (si i))):=by
 have key:∀σ H Q,tD X (ck m src cap rt re) σ H Q->Nx (tDI X src) cap (tT0 X.K rt) (i9 X.K re) σ H Q:=by
  intro σ H Q h
  obtain⟨ι,G,st,Γ,en,sr,q⟩:=h
  refine⟨ι,G,st,Γ,en,sr,?_⟩
  unfold ck at q
  cases e1:src Γ st with
  |stuck=>rw[e1] at q;exact q
  |ex c s=>rw[e1] at q;exact q
  | ok items st1 =>
   rw[e1] at q
   intro J ι1 G1 H1 x1 sr1 sc
   have q':au X ι st.nxt G (if items.length<sizeLine then(gc rt re (fh cap Γ) items [] st1).bind (ay m) else .stuck) Q:=q
   by_cases hl:items.length<sizeLine
   ·rw [FJ hl] at q'
    have q1:=nj.later x1 (Vk q')
    have en1:=en.mono x1
    refine⟨fun i k ys H'=>k=items.length - i/\i<=items.length/\ys.length<=i/\∃ι2 G2 st2 acc,Ext ι1 st1.nxt G1 ι2 st2.nxt G2/\SR X.K ι2 st2 G2 H'/\RelWs X.K ι2 st2.nxt G2 ys acc/\nj X m ι2 st2.nxt G2 (gc rt re (fh cap Γ) (items.drop i) acc st2) Q,
     ⟨items.length,by simp,Nat.zero_le _,Nat.zero_le _,ι1,G1,st1,[],Ext.refl _ _ _,sr1,.nil,by rw[List.drop_zero];exact q1⟩,?_⟩
    rintro i k ys H' ⟨rfl,hi',hy,ι2,G2,st2,acc,e2,sr2,ra,q2⟩
    refine⟨by omega,?_⟩
    by_cases hlt:i<items.length
    ·have hd:items.drop i=items[i]::items.drop (i+1):=List.drop_eq_getElem_cons hlt
     have hg:items[i]?=some items[i]:=EH hlt
     obtain⟨g1,g2⟩:=sc.go i items[i] ι2 st2.nxt G2 H' hg e2 sr2.sub
     refine .inr ⟨g1,fun v H'' hy'=>?_⟩
     obtain⟨eh,rv⟩:=g2 v H'' hy'
     subst eh
     rw[hd] at q2
     have q2':nj X m ι2 st2.nxt G2 ((rt (some items[i]::fh cap Γ) st2).calm.bind fun b st3=>match b with
      |.bl true=>(re (some items[i]::fh cap Γ) st3).calm.bind fun y st4=>gc rt re (fh cap Γ) (items.drop (i+1)) (acc++[y]) st4
      |.bl false=>gc rt re (fh cap Γ) (items.drop (i+1)) acc st3
      |_=>.stuck) Q:=q2
     have en2:EnvR X.K ι2 st2.nxt G2 (kq cap σ (some v)) (some items[i]::fh cap Γ):=Yj cap (en1.mono e2) rv
     refine⟨ι2,G2,st2,some items[i]::fh cap Γ,en2,sr2,Lr rfl q2' fun b st3 vb ι3 G3 H3 e3 sr3 rb q3=>?_⟩
     cases b with
     | bl b =>
      cases rb
      refine⟨b,rfl,?_⟩
      cases b with
      |true =>
       rw[FJ rfl]
       refine⟨ι3,G3,st3,some items[i]::fh cap Γ,en2.mono e3,sr3,Lr rfl q3 fun y st4 vy ι4 G4 H4 e4 sr4 ry q4=>?_⟩
       refine⟨items.length - (i+1),by omega,rfl,hlt,by rw[ES,FD];omega,ι4,G4,st4,acc++[y],(e2.trans e3).trans e4,sr4,((ra.mono e3).mono e4).append (.cons ry .nil),q4⟩
      |false =>
       rw[FK EG]
       exact⟨items.length - (i+1),by omega,rfl,hlt,by omega,ι3,G3,st3,acc,e2.trans e3,sr3,ra.mono e3,q3⟩
     |_=>exact(show False from q3).elim
    ·have ei:i=items.length:=by omega
     subst ei
     rw[List.drop_length] at q2
     refine .inl ⟨sc.stop G2 H' e2.sm sr2.sub,?_⟩
     have q3:au X ι2 st2.nxt G2 (ay m acc st2) Q:=q2
     cases m with
     |true=>exact(zy sr2 ra q3).2
     |false=>exact(c7 sr2 ra q3).2
   ·rw[FK hl] at q';exact(show False from q').elim
 refine⟨PE.imp (Xe hc hi Sc ht he hs) key,fun{i y py spos} hN hy hL hsw=>?_⟩
 exact PS.imp (kE hN hy hL hc hi Sc ht he hsw hs) fun D σ H h=>key σ H _ h
def wu(K:PySem.W.Frag)(n:Nat)(op:bh):Sp:=fun vs H Q _=>vs.length=n/\∃ι G st ws,SR K ι st G H/\RelWs K ι st.nxt G vs ws/\Fy K ι st.nxt G (op ws st) Q
def ao(op:bh):bh:=fun ws st=>(op ws st).calm
theorem oQ(h:au X ι N G r.calm Q):Fy X.K ι N G r Q:=by
 cases r with
 |ok w st=>exact h
 |ex c s=>exact(show False from h).elim
 |stuck=>exact h
theorem uN(F:FnOk X.prog X.w X.K X.mg X.base mq k f fd ps (wu X.K n op))(hr:Room k X.A)(hg:Gl X x)(hm:X.mg x=some (.ref f))(hk:PySem.W.keepIn X.K (.ref f)=true)
  (hb:jg X.K fd ps [])(ha:mo X (e::es) rr)(hn:∀Γ st ws st',rr Γ st=.ok ws st'->ws.length=n)(hdb:(x == ("__debug__" : Str))=false)(he:starEach (e::es) X.env=(false,eval e X.env)::starEach es X.env)(hpl:(backTo pos (starEach es X.env)).any (·.1)=false) :
  PD X (.Call (.Name x p) (e::es) [] pos) (runN rr (ao op)):=by
 refine PE.imp (tT F hr hg hm hk hb .nil X7 ha hdb he hpl) fun σ H Q h=>?_
 obtain⟨ι,G,st,Γ,en,sr,q⟩:=h
 refine⟨ι,G,st,Γ,en,sr,?_⟩
 unfold runN at q
 cases e1:rr Γ st with
 |stuck=>rw[e1] at q;exact q
 |ex c s=>rw[e1] at q;exact q
 |ok ws st1 =>
  rw[e1] at q
  intro vs ι1 G1 H1 x1 sr1 r1
  rw[List.append_nil]
  exact⟨by rw[r1.length];exact hn Γ st ws st1 e1,ι1,G1,st1,ws,sr1,r1,oQ (au.later x1 (show au X ι st.nxt G (ao op ws st1) Q from q))⟩
end
inductive Fl where
 |nx (Γ:Ga)|rt (w:W)|bk (Γ:Ga)|ct (Γ:Ga)
abbrev aq:=Ga->S->R Fl
section
variable {X:Cx}
def dt(X:Cx)(ι:Nat->Addr)(N:Nat)(G:Hp)(r:R Fl)(D:Ends):Prop:=match r with
 |.ok fl st'=>∀ι' G' H',Ext ι N G ι' st'.nxt G'->SR X.K ι' st' G' H'->(match fl with
  |.nx Γ'=>∀σ',EnvR X.K ι' st'.nxt G' σ' Γ'->D.nx σ' H'
  |.rt w=>∀v,RelW X.K ι' st'.nxt G' v w->D.rt v H'
  |.bk Γ'=>∀σ',EnvR X.K ι' st'.nxt G' σ' Γ'->D.bk σ' H'
  |.ct Γ'=>∀σ',EnvR X.K ι' st'.nxt G' σ' Γ'->D.ct σ' H')
 |.ex c st'=>XW X ι N G c st'
 |.stuck=>False
theorem dt.later(e:Ext ι N G ι1 N1 G1)(h:dt X ι N G r D):dt X ι1 N1 G1 r D:=by
 cases r with
 |stuck=>exact h
 |ex c s=>exact XW.mono e h
 |ok w st'=>exact fun ι' G' H' e' sr=>h ι' G' H' (e.trans e') sr
theorem xh(h:dt X ι N G (r.bind f) D)
  (k:∀w st' v ι' G' H',Ext ι N G ι' st'.nxt G'->SR X.K ι' st' G' H'->RelW X.K ι' st'.nxt G' v w->dt X ι' st'.nxt G' (f w st') D->Q' v H'):au X ι N G r Q':=by
 cases r with
 |stuck=>exact h
 |ex c s=>exact h
 |ok w st'=>exact fun v ι' G' H' e sr rel=>k w st' v ι' G' H' e sr rel (dt.later e (show dt X ι N G (f w st') D from h))
def Gb(X:Cx)(run:aq):TS:=fun D σ H=>∃ι G st Γ,EnvR X.K ι st.nxt G σ Γ/\SR X.K ι st G H/\dt X ι st.nxt G (run Γ st) D
abbrev jp(X:Cx)(s:Stmt)(run:aq):Prop:=PS X s (Gb X run)
abbrev ox(X:Cx)(s:List Stmt)(run:aq):Prop:=ji X s (Gb X run)
def aj:aq:=fun Γ st=>.ok (.nx Γ) st
def bD:aq:=fun Γ st=>.ok (.bk Γ) st
def bC:aq:=fun Γ st=>.ok (.ct Γ) st
def Zz:aq:=fun _ st=>.ok (.rt .non) st
def aw(r:am):aq:=fun Γ st=>(r Γ st).bind fun w st'=>.ok (.rt w) st'
def fm(r:am):aq:=fun Γ st=>(r Γ st).bind fun _ st'=>.ok (.nx Γ) st'
def ax(i:Nat)(r:am):aq:=fun Γ st=>(r Γ st).bind fun w st'=>.ok (.nx (Γ.set i (some w))) st'
def bg(rc:am)(a b:aq):aq:=fun Γ st=>(rc Γ st).bind fun w st'=>match w with
 |.bl true=>a Γ st'
 |.bl false=>b Γ st'
 |_=>.stuck
def ai(a b:aq):aq:=fun Γ st=>(a Γ st).bind fun fl st'=>match fl with
 |.nx Γ'=>b Γ' st'
 |fl=>.ok fl st'
theorem pY:jp X (.Pass pos) aj:=PS.imp tP fun D σ H ⟨ι,G,_,_,en,sr,q⟩=>q ι G H (Ext.refl _ _ _) sr σ en
theorem uD:jp X (.Break pos) bD:=PS.imp pQ fun D σ H ⟨ι,G,_,_,en,sr,q⟩=>q ι G H (Ext.refl _ _ _) sr σ en
theorem uC:jp X (.Continue pos) bC:=PS.imp iI fun D σ H ⟨ι,G,_,_,en,sr,q⟩=>q ι G H (Ext.refl _ _ _) sr σ en
theorem pX:jp X (.Return none pos) Zz:=PS.imp tO fun D σ H ⟨ι,G,_,_,en,sr,q⟩=>q ι G H (Ext.refl _ _ _) sr .non .non
theorem uA(he:PD X e r):jp X (.Return (some e) pos) (aw r):=by
 refine PS.imp (xS he) fun D σ H ⟨ι,G,st,Γ,en,sr,q⟩=>⟨ι,G,st,Γ,en,sr,xh q fun w st1 v ι1 G1 H1 e1 sr1 r1 q1=>?_⟩
 exact q1 ι1 G1 H1 (Ext.refl _ _ _) sr1 v r1
theorem qA(he:PD X e r)(hs:swapsWith e none pos.line X.env=pure false):jp X (.Expr e pos) (fm r):=by
 refine PS.imp (tQ he hs) fun D σ H ⟨ι,G,st,Γ,en,sr,q⟩=>⟨ι,G,st,Γ,en,sr,xh q fun w st1 v ι1 G1 H1 e1 sr1 r1 q1=>?_⟩
 exact q1 ι1 G1 H1 (Ext.refl _ _ _) sr1 σ (en.mono e1)
theorem Yl(h:Gb X (ax i r) D σ H):yi (tD X r) (si i) D σ H:=by
 obtain⟨ι,G,st,Γ,en,sr,q⟩:=h
 refine⟨ι,G,st,Γ,en,sr,xh q fun w st1 v ι1 G1 H1 e1 sr1 r1 q1=>?_⟩
 exact q1 ι1 G1 H1 (Ext.refl _ _ _) sr1 _ ((en.mono e1).set i r1)
theorem tZ(hN:X.N.Nodup)(hi:X.N[i]?=some x)(hx:j8 X.env.scope x)(he:PD X e r)(hs:swapsWith e (some (.Name x pos')) pos.line X.env=pure false)(hf:X.fn x=true\/X.env.scope.names.lookup x=some .local) :
  jp X (.Assign [.Name x pos'] e pos) (ax i r):=PS.imp (xR hN hi hx he hs hf) fun D σ H h=>Yl h
theorem yF(hc:PT X c (gz X rc))(ha:ox X a ra)(hb:ox X b rb):jp X (.If c a b pos) (bg rc ra rb):=by
 refine PS.imp (W6 hc ha hb) fun D σ H ⟨ι,G,st,Γ,en,sr,q⟩=>⟨ι,G,st,Γ,en,sr,xh q fun w st1 v ι1 G1 H1 e1 sr1 r1 q1=>?_⟩
 cases w with
 |bl b =>
  cases r1
  refine⟨b,rfl,?_⟩
  cases b with
  |true=>rw[FJ rfl];exact⟨ι1,G1,st1,Γ,en.mono e1,sr1,q1⟩
  |false=>rw[FK EG];exact⟨ι1,G1,st1,Γ,en.mono e1,sr1,q1⟩
 |_=>exact(show False from q1).elim
theorem pW:ox X [] aj:=ji.imp tN fun D σ H ⟨ι,G,_,_,en,sr,q⟩=>q ι G H (Ext.refl _ _ _) sr σ en
theorem mR(h1:jp X s a)(h2:ox X ss b):ox X (s::ss) (ai a b):=by
 refine ji.imp (pO h1 h2) fun D σ H ⟨ι,G,st,Γ,en,sr,q⟩=>⟨ι,G,st,Γ,en,sr,?_⟩
 unfold ai at q
 cases e1:a Γ st with
 |stuck=>rw[e1] at q;exact q
 |ex c s=>rw[e1] at q;exact q
 |ok fl st1 =>
  rw[e1] at q
  intro ι1 G1 H1 x1 sr1
  cases fl with
  |nx Γ1=>exact fun σ1 en1=>⟨ι1,G1,st1,Γ1,en1,sr1,dt.later x1 (show dt X ι st.nxt G (b Γ1 st1) D from q)⟩
  |rt w=>exact q ι1 G1 H1 x1 sr1
  |bk Γ1=>exact q ι1 G1 H1 x1 sr1
  |ct Γ1=>exact q ι1 G1 H1 x1 sr1
def cy(i:Nat)(body:aq):List W->Ga->S->R Fl
 |[],Γ,st=>.ok (.nx Γ) st
 |x::xs,Γ,st=>(body (Γ.set i (some x)) st).bind fun fl st'=>match fl with
  |.nx Γ'=>cy i body xs Γ' st'
  |.ct Γ'=>cy i body xs Γ' st'
  |.bk Γ'=>.ok (.nx Γ') st'
  |.rt w=>.ok (.rt w) st'
def ib(i:Nat)(src:jt)(body:aq):aq:=fun Γ st=>(src Γ st).bind fun items st'=>cy i body items Γ st'
theorem uB(hp:PassesOwn (model X.prog X.w) X.A X.env X.xe)(hc:X.calm=true)(hi:wv X (.Name x px) iter src)(hg:PG X (.Name x px) (si i))(hb:ox X body rb)(hs:∀z,foldedSetIterable iter X.env z=pure z) :
  jp X (.For (.Name x px) iter body [] pos) (ib i src rb):=by
 refine PS.imp (Zc hp hc hi hg hb hs) fun D σ H ⟨ι,G,st,Γ,en,sr,q⟩=>⟨ι,G,st,Γ,en,sr,?_⟩
 unfold ib at q
 cases e1:src Γ st with
 |stuck=>rw[e1] at q;exact q
 |ex c s=>rw[e1] at q;exact q
 | ok items st1 =>
  rw[e1] at q
  intro J ι1 G1 H1 x1 sr1 sc
  have q1:dt X ι1 st1.nxt G1 (cy i rb items Γ st1) D:=dt.later x1 (show dt X ι st.nxt G (cy i rb items Γ st1) D from q)
  refine⟨fun k m σ' H'=>m=items.length - k/\k<=items.length/\∃ι2 G2 st2 Γ2,Ext ι1 st1.nxt G1 ι2 st2.nxt G2/\SR X.K ι2 st2 G2 H'/\EnvR X.K ι2 st2.nxt G2 σ' Γ2/\dt X ι2 st2.nxt G2 (cy i rb (items.drop k) Γ2 st2) D,
   ⟨items.length,by simp,Nat.zero_le _,ι1,G1,st1,Γ,Ext.refl _ _ _,sr1,en.mono x1,by rw[List.drop_zero];exact q1⟩,?_⟩
  rintro k m σ' H' ⟨rfl,hk,ι2,G2,st2,Γ2,e2,sr2,en2,q2⟩
  by_cases hlt:k<items.length
  ·have hd:items.drop k=items[k]::items.drop (k+1):=List.drop_eq_getElem_cons hlt
   have hg':items[k]?=some items[k]:=EH hlt
   obtain⟨g1,g2⟩:=sc.go k items[k] ι2 st2.nxt G2 H' hg' e2 sr2.sub
   rw[hd] at q2
   refine .inr ⟨g1,fun σ3 H3=>∃ι3 G3 st3 Γ3,Ext ι1 st1.nxt G1 ι3 st3.nxt G3/\SR X.K ι3 st3 G3 H3/\EnvR X.K ι3 st3.nxt G3 σ3 Γ3/\dt X ι3 st3.nxt G3 (cy i rb (items.drop (k+1)) Γ3 st3) D,
    fun σ3 H3 h3=>⟨items.length - (k+1),by omega,rfl,hlt,h3⟩,fun v H'' hy=>?_⟩
   obtain⟨eh,rv⟩:=g2 v H'' hy
   subst eh
   refine⟨ι2,G2,st2,Γ2.set i (some items[k]),en2.set i rv,sr2,?_⟩
   have q2':dt X ι2 st2.nxt G2 ((rb (Γ2.set i (some items[k])) st2).bind fun fl st'=>match fl with
    |.nx Γ'=>cy i rb (items.drop (k+1)) Γ' st'
    |.ct Γ'=>cy i rb (items.drop (k+1)) Γ' st'
    |.bk Γ'=>.ok (.nx Γ') st'
    |.rt w=>.ok (.rt w) st') D:=q2
   cases e3:rb (Γ2.set i (some items[k])) st2 with
   |stuck=>rw[e3] at q2';exact q2'
   |ex c s=>rw[e3] at q2';exact q2'
   |ok fl st3 =>
    rw[e3] at q2'
    intro ι3 G3 H3 x3 sr3
    cases fl with
    |nx Γ3=>exact fun σ3 en3=>⟨ι3,G3,st3,Γ3,e2.trans x3,sr3,en3,dt.later x3 q2'⟩
    |ct Γ3=>exact fun σ3 en3=>⟨ι3,G3,st3,Γ3,e2.trans x3,sr3,en3,dt.later x3 q2'⟩
    |bk Γ3=>exact q2' ι3 G3 H3 x3 sr3
    |rt w=>exact q2' ι3 G3 H3 x3 sr3
  ·have ek:k=items.length:=by omega
   subst ek
   rw[List.drop_length] at q2
   exact .inl ⟨sc.stop G2 H' e2.sm sr2.sub,q2 ι2 G2 H' (Ext.refl _ _ _) sr2 σ' en2⟩
noncomputable def putAt(n:Nat)(k:Int)(v:W)(st:S):Option MO->R Unit
 |some (.lst ws)=>(match ly ws.length k with|some j=>.ok () (st.put n (.lst (ws.set j v)))|none=>.stuck)
 |_=>.stuck
noncomputable def Hu:W->W->W->S->R Unit:=fun o i v st=>match o,i with
 |.ref n,.int k=>putAt n k v st (st.mu n)
 |_,_=>.stuck
noncomputable def Mm(ro ri rv:am):aq:=fun Γ st=>(rv Γ st).bind fun v st1=>(ro Γ st1).bind fun o st2=>(ri Γ st2).bind fun i st3=>(Hu o i v st3).bind fun _ st4=>.ok (.nx Γ) st4
theorem kI(ho:PD X o ro)(hi:PD X i ri)(he:PD X e rv)(hg:∀{t:Jn},Jo X t->PG X (.Subscript o i tpos) (Ox (tD X ro) (tD X ri) t))(hs:swapsWithSole [.Subscript o i tpos] e pos.line X.env=pure false)(hw:swappedStores [.Subscript o i tpos] e X.env=pure none) :
  jp X (.Assign [.Subscript o i tpos] e pos) (Mm ro ri rv):=by
 refine PS.imp (xT he (hg pE) hs hw) fun D σ H ⟨ι,G,st,Γ,en,sr,q⟩=>⟨ι,G,st,Γ,en,sr,xh q fun w st1 v ι1 G1 H1 e1 sr1 r1 q1=>?_⟩
 refine⟨ι1,G1,st1,Γ,en.mono e1,sr1,xh q1 fun wo st2 vo ι2 G2 H2 e2 sr2 r2 q2=>?_⟩
 refine⟨ι2,G2,st2,Γ,(en.mono e1).mono e2,sr2,xh q2 fun wi st3 vi ι3 G3 H3 e3 sr3 r3 q3=>?_⟩
 have r1':=(r1.mono e2).mono e3
 have r2':=r2.mono e3
 cases wo with
 | ref n =>
  cases wi with
  | int k =>
   cases r3
   cases r2'
   have q3:dt X ι3 st3.nxt G3 ((putAt n k w st3 (st3.mu n)).bind fun x st4=>.ok (.nx Γ) st4) D:=q3
   cases em:st3.mu n with
   |none=>rw[em] at q3;exact(show False from q3).elim
   | some ob =>
    cases ob with
    |dct ks vs=>rw[em] at q3;exact(show False from q3).elim
    | lst ws =>
     rw[em] at q3
     have q3:dt X ι3 st3.nxt G3 ((match ly ws.length k with|some j=>R.ok () (st3.put n (.lst (ws.set j w)))|none=>R.stuck).bind fun x st4=>.ok (.nx Γ) st4) D:=q3
     cases ej:ly ws.length k with
     |none=>rw[ej] at q3;exact(show False from q3).elim
     |some j =>
      rw[ej] at q3
      obtain⟨_,_,xs,hx,rx⟩:=sr3.live n _ em
      refine⟨_,xs,k,j,rfl,rfl,hx,by rw[rx.length];exact ej,?_⟩
      have sr4:=sr3.putL em (rx.set r1' j)
      exact q3 ι3 G3 _ (Ext.refl _ _ _) sr4 σ (((en.mono e1).mono e2).mono e3)
  |_=>exact(show False from q3).elim
 |_=>exact(show False from q3).elim
noncomputable def frzs(f:W->Option W):List W->Option (List W)
 |[]=>some []
 |x::xs=>match f x,frzs f xs with
  |some y,some ys=>some (y::ys)
  |_,_=>none
noncomputable def frz(N:Nat)(mu:Nat->Option MO):Nat->W->Option W
 |0,_=>none
 | k+1,w=>match w with
  |.ref n=>if n<N then some (.ref n) else(match mu n with
   |some (.lst xs)=>(frzs (frz N mu k) xs).map W.lst
   |some (.dct ks xs)=>(frzs (frz N mu k) xs).map (W.dct ks)
   |none=>none)
  |.tup xs=>(frzs (frz N mu k) xs).map W.tup
  |.lst xs=>(frzs (frz N mu k) xs).map W.lst
  |.dct ks xs=>(frzs (frz N mu k) xs).map (W.dct ks)
  |w=>some w
section
variable {K:PySem.W.Frag} {ι ι':Nat->Addr} {N N':Nat} {G G':Hp}
theorem RelW.low(h:RelW K ι N G v0 w):∀v,RelW K ι' N' G' v w->RelW K ι' N G' v w:=by
 refine RelW.rec (motive_1:=fun _ w _=>∀v,RelW K ι' N' G' v w->RelW K ι' N G' v w) (motive_2:=fun _ ws _=>∀vs,RelWs K ι' N' G' vs ws->RelWs K ι' N G' vs ws) ?_ ?_ ?_ ?_ ?_ ?_ ?_ ?_ ?_ ?_ ?_ ?_ h
 ·intro v r;cases r;exact .non
 ·intro b v r;cases r;exact .bl b
 ·intro i v r;cases r;exact .int i
 ·intro x v r;cases r;exact .str x
 ·intro n v r;cases r;exact .ty n
 ·intro a xs ws _ _ _ ih v r;cases r with|tup s c t=>exact .tup s c (ih _ t)
 ·intro a xs ws _ _ ih v r;cases r with|lst s t=>exact .lst s (ih _ t)
 ·intro a xs ks ws _ _ _ ih v r;cases r with|dct s l t=>exact .dct s l (ih _ t)
 ·intro n hn v r;cases r;exact .ref hn
 ·intro a C x _ _ v r;cases r with|exn s n=>exact .exn s n
 ·intro vs r;cases r;exact .nil
 ·intro x w xs ws _ _ i1 i2 vs r;cases r with|cons r t=>exact .cons (i1 _ r) (i2 _ t)
theorem RelWs.low:∀{vs0:List V}{ws:List W}{vs:List V},RelWs K ι N G vs0 ws->RelWs K ι' N' G' vs ws->RelWs K ι' N G' vs ws
 |_,_,_,.nil,.nil=>.nil
 |_,_,_,.cons r0 t0,.cons r t=>.cons (r0.low _ r) (RelWs.low t0 t)
theorem vp(hf:∀v w w',RelW K ι N' G v w->f w=some w'->RelW K ι N G' v w'):∀{vs:List V}{ws ws':List W},RelWs K ι N' G vs ws->frzs f ws=some ws'->RelWs K ι N G' vs ws'
 |_,_,_,.nil,h=>by cases h;exact .nil
 | _,w::ws,ws',.cons r t,h=>by
  unfold frzs at h
  cases e1:f w with
  |none=>rw[e1] at h;cases h
  | some y =>
   cases e2:frzs f ws with
   |none=>rw[e1,e2] at h;cases h
   |some ys =>
    rw[e1,e2] at h
    cases h
    exact .cons (hf _ _ _ r e1) (vp hf t e2)
theorem Mv(sm:im G G')(hmu:∀n o,N<=n->mu n=some o->nn K ι N' G G' (ι n) o):∀(k:Nat)(v:V)(w w':W),RelW K ι N' G v w->frz N mu k w=some w'->RelW K ι N G' v w'
 |0,_,_,_,_,h=>by cases h
 | k + 1,v,w,w',r,h=>by
  have ih:=Mv sm hmu k
  unfold frz at h
  cases r with
  |non=>cases h;exact .non
  |bl b=>cases h;exact .bl b
  |int i=>cases h;exact .int i
  |str x=>cases h;exact .str x
  |ty n=>cases h;exact .ty n
  |exn s n=>cases h;exact .exn (sm _ _ s) n
  |@tup a xs ws s c t =>
   have h:(frzs (frz N mu k) ws).map W.tup=some w':=h
   cases e:frzs (frz N mu k) ws with
   |none=>rw[e] at h;cases h
   |some ys=>rw[e] at h;cases h;exact .tup (sqT_same sm s) (fun h=>sm _ _ (c h)) (vp ih t e)
  |@lst a xs ws s t =>
   have h:(frzs (frz N mu k) ws).map W.lst=some w':=h
   cases e:frzs (frz N mu k) ws with
   |none=>rw[e] at h;cases h
   |some ys=>rw[e] at h;cases h;exact .lst (sm.seq s) (vp ih t e)
  |@dct a xs ks ws s l t =>
   have h:(frzs (frz N mu k) ws).map (W.dct ks)=some w':=h
   cases e:frzs (frz N mu k) ws with
   |none=>rw[e] at h;cases h
   |some ys=>rw[e] at h;cases h;exact .dct (sm _ _ s) l (vp ih t e)
  | @ref n hn =>
   have h:(if n<N then some (W.ref n) else(match mu n with
    |some (.lst xs)=>(frzs (frz N mu k) xs).map W.lst
    |some (.dct ks xs)=>(frzs (frz N mu k) xs).map (W.dct ks)
    |none=>none))=some w':=h
   by_cases hl:n<N
   ·rw[FJ hl] at h;cases h;exact .ref hl
   ·rw[FK hl] at h
    cases em:mu n with
    |none=>rw[em] at h;cases h
    | some o =>
     rw[em] at h
     have m:=hmu n o (Nat.le_of_not_lt hl) em
     cases o with
     |lst ws =>
      obtain⟨xs,h1,t⟩:=m
      have h:(frzs (frz N mu k) ws).map W.lst=some w':=h
      cases e:frzs (frz N mu k) ws with
      |none=>rw[e] at h;cases h
      |some ys=>rw[e] at h;cases h;exact .lst (bx.of h1) (vp ih t e)
     |dct ks ws =>
      obtain⟨xs,h1,l,t⟩:=m
      have h:(frzs (frz N mu k) ws).map (W.dct ks)=some w':=h
      cases e:frzs (frz N mu k) ws with
      |none=>rw[e] at h;cases h
      |some ys=>rw[e] at h;cases h;exact .dct h1 l (vp ih t e)
end
theorem SR.kept{K:PySem.W.Frag}{ι ι':Nat->Addr}{st st':S}{G G' H H':Hp}(sr0:SR K ι st G H)(e:Ext ι st.nxt G ι' st'.nxt G')(sr1:SR K ι' st' G' H')(hs:∀n,n<st.nxt->st'.mu n=st.mu n) :
  ∃G'',Ext ι st.nxt G ι' st.nxt G''/\SR K ι' st G'' H'/\(∀(k:Nat)(v:V)(w w':W),RelW K ι' st'.nxt G' v w->frz st.nxt st'.mu k w=some w'->RelW K ι' st.nxt G'' v w') /\
   ∀a,(¬∃n o,st.nxt<=n/\st'.mu n=some o/\ι' n=a)->G'' a=G' a:=by
 have hold:∀n o,st.mu n=some o->n<st.nxt/\st'.mu n=some o:=fun n o h=>by
  have l:=(sr0.live n o h).1
  exact⟨l,by rw[hs n l];exact h⟩
 let P:Addr->Prop:=fun a=>∃n o,st.nxt<=n/\st'.mu n=some o/\ι' n=a
 let G'':Hp:=fun a=>@ite _ (P a) (Classical.propDecidable _) (H' a) (G' a)
 have g1:∀a,P a->G'' a=H' a:=fun a h=>@if_pos _ (Classical.propDecidable _) h _ _ _
 have g2:∀a,¬P a->G'' a=G' a:=fun a h=>@if_neg _ (Classical.propDecidable _) h _ _ _
 have sm:im G' G'':=fun a u h=>by
  by_cases p:P a
  ·obtain⟨n,o,_,h2,h3⟩:=p
   have:=(sr1.live n o h2).2.1
   rw[h3,h] at this
   cases this
  ·rw[g2 a p];exact h
 have sub:im G'' H':=fun a u h=>by
  by_cases p:P a
  ·rw[g1 a p] at h;exact h
  ·rw[g2 a p] at h;exact sr1.sub a u h
 refine⟨G'',⟨EN _,e.ag,e.sm.trans sm⟩,⟨sub,fun n o h=>?_,fun n m o o' h h' z=>sr1.inj n m o o' (hold n o h).2 (hold m o' h').2 z⟩,?_,g2⟩
 ·obtain⟨l,h'⟩:=hold n o h
  have np:¬P (ι' n):=fun⟨m,o',h1,h2,h3⟩=>by
   have:=sr1.inj m n o' o h2 h' h3
   omega
  obtain⟨_,a2,a3⟩:=sr1.live n o h'
  have ex:Ext ι' st'.nxt G' ι' st'.nxt G'':=⟨EN _,fun _ _=>rfl,sm⟩
  refine⟨l,by rw[g2 _ np];exact a2,?_⟩
  have b3:=(sr0.live n o h).2.2
  cases o with
  |lst ws=>obtain⟨xs,q,t⟩:=a3;obtain⟨_,_,t0⟩:=b3;exact⟨xs,q,RelWs.low t0 (t.mono ex)⟩
  |dct ks ws=>obtain⟨xs,q,z,t⟩:=a3;obtain⟨_,_,_,t0⟩:=b3;exact⟨xs,q,z,RelWs.low t0 (t.mono ex)⟩
 ·refine Mv sm fun n o hn h=>?_
  have p:P (ι' n):=⟨n,o,hn,h,rfl⟩
  have a3:=(sr1.live n o h).2.2
  cases o with
  |lst ws=>obtain⟨xs,q,t⟩:=a3;exact⟨xs,by rw[g1 _ p];exact q,t⟩
  |dct ks ws=>obtain⟨xs,q,z,t⟩:=a3;exact⟨xs,by rw[g1 _ p];exact q,z,t⟩
noncomputable def keep(st st':S)(w:W):R W:=@ite _ (∀n,n<st.nxt->st'.mu n=st.mu n) (Classical.propDecidable _) (match frz st.nxt st'.mu 12 w with
 |some w'=>.ok w' st
 |none=>.stuck) .stuck
theorem vn{st st':S}{w w':W}(h:∀n,n<st.nxt->st'.mu n=st.mu n)(e:frz st.nxt st'.mu 12 w=some w'):keep st st' w=.ok w' st:=by
 unfold keep
 rw[FJ h,e]
theorem qZ{st st':S}{w:W}(h:keep st st' w≠.stuck):(∀n,n<st.nxt->st'.mu n=st.mu n)/\∃w',frz st.nxt st'.mu 12 w=some w'/\keep st st' w=.ok w' st:=by
 by_cases hs:∀n,n<st.nxt->st'.mu n=st.mu n
 ·refine⟨hs,?_⟩
  cases e:frz st.nxt st'.mu 12 w with
  |none=>exact absurd (by unfold keep;rw[FJ hs,e]) h
  |some w'=>exact⟨w',rfl,vn hs e⟩
 ·exact absurd (by unfold keep;rw[FK hs]) h
theorem SR.adopt{K:PySem.W.Frag}{ι:Nat->Addr}{st:S}{G H:Hp}{p:Addr}{o:MO}(h:SR K ι st G H)(hG:G p=none)(hne:∀m o,st.mu m=some o->ι m≠p)(mor:nn K ι st.nxt G H p o) :
  ∃ι',Ext ι st.nxt G ι' (st.nxt+1) G/\SR K ι' (st.new o) G H/\ι' st.nxt=p:=by
 have ex:Ext ι st.nxt G (fun n=>if n=st.nxt then p else ι n) (st.nxt+1) G:=⟨Nat.le_succ _,fun n hn=>FK (EX hn),im.refl G⟩
 have up:∀{a:Addr}{q:MO},nn K ι st.nxt G H a q->nn K (fun n=>if n=st.nxt then p else ι n) (st.nxt+1) G H a q:=by
  intro a q m
  cases q with
  |lst ws=>obtain⟨xs,q,r⟩:=m;exact⟨xs,q,r.mono ex⟩
  |dct ks ws=>obtain⟨xs,q,l,r⟩:=m;exact⟨xs,q,l,r.mono ex⟩
 refine⟨fun n=>if n=st.nxt then p else ι n,ex,⟨h.sub,fun n q e=>?_,fun n m q q' e e' z=>?_⟩,FJ rfl⟩
 ·by_cases hn:n=st.nxt
  ·subst hn
   have e':(if st.nxt=st.nxt then some o else st.mu st.nxt)=some q:=e
   rw[FJ rfl] at e'
   cases e'
   refine⟨Nat.lt_succ_self _,?_,?_⟩
   ·(try dsimp only);rw[FJ rfl];exact hG
   ·(try dsimp only);rw[FJ rfl];exact up mor
  ·have e':(if n=st.nxt then some o else st.mu n)=some q:=e
   rw[FK hn] at e'
   obtain⟨h1,h2,h3⟩:=h.live n q e'
   refine⟨Nat.lt_succ_of_lt h1,?_,?_⟩
   ·(try dsimp only);rw[FK hn];exact h2
   ·(try dsimp only);rw[FK hn];exact up h3
 ·have e1:(if n=st.nxt then some o else st.mu n)=some q:=e
  have e2:(if m=st.nxt then some o else st.mu m)=some q':=e'
  (try dsimp only at z)
  by_cases hn:n=st.nxt
  ·by_cases hm:m=st.nxt
   ·rw[hn,hm]
   ·rw[FK hm] at e2
    rw[FJ hn,FK hm] at z
    exact absurd z.symm (hne m q' e2)
  ·rw[FK hn] at e1
   by_cases hm:m=st.nxt
   ·rw[FK hn,FJ hm] at z
    exact absurd z (hne n q e1)
   ·rw[FK hm] at e2
    rw[FK hn,FK hm] at z
    exact h.inj n m q q' e1 e2 z
def S.less(st:S)(n:Nat):S:=⟨st.nxt,fun m=>if m=n then none else st.mu m⟩
theorem SR.less{K:PySem.W.Frag}{ι:Nat->Addr}{st:S}{G H:Hp}(h:SR K ι st G H)(n:Nat):SR K ι (st.less n) G H:=by
 have sub:∀m o,(st.less n).mu m=some o->st.mu m=some o/\m≠n:=fun m o e=>by
  have e:(if m=n then none else st.mu m)=some o:=e
  by_cases hm:m=n
  ·rw[FJ hm] at e;cases e
  ·rw[FK hm] at e;exact⟨e,hm⟩
 exact⟨h.sub,fun m o e=>h.live m o (sub m o e).1,fun a b o o' e e' z=>h.inj a b o o' (sub a o e).1 (sub b o' e').1 z⟩
noncomputable def yg(N:Nat)(mu:Nat->Option MO):MO->Option MO
 |.lst xs=>(frzs (frz N mu 12) xs).map MO.lst
 |.dct ks xs=>(frzs (frz N mu 12) xs).map (MO.dct ks)
noncomputable def we(st st':S)(w:W):R W:=match w with
 | .ref n=>if n<st.nxt then keep st st' (.ref n) else @ite _ (∀m,m<st.nxt->st'.mu m=st.mu m) (Classical.propDecidable _) (match st'.mu n with
  |some o=>(match yg st.nxt (st'.less n).mu o with
   |some o'=>.ok (.ref st.nxt) (st.new o')
   |none=>.stuck)
  |none=>.stuck) .stuck
 |w=>keep st st' w
theorem SR.keptL{K:PySem.W.Frag}{ι ι':Nat->Addr}{st st':S}{G G' H H':Hp}{n:Nat}{o o':MO}(sr0:SR K ι st G H)(e:Ext ι st.nxt G ι' st'.nxt G')(sr1:SR K ι' st' G' H')(hs:∀n,n<st.nxt->st'.mu n=st.mu n)
  (hn:st.nxt<=n)(ho:st'.mu n=some o)(hf:yg st.nxt (st'.less n).mu o=some o') :
  ∃ι'' G'',Ext ι st.nxt G ι'' (st.nxt+1) G''/\SR K ι'' (st.new o') G'' H'/\ι'' st.nxt=ι' n:=by
 have hs':∀m,m<st.nxt->(st'.less n).mu m=st.mu m:=fun m hm=>by
  show(if m=n then none else st'.mu m)=_
  rw[FK (by omega)];exact hs m hm
 obtain⟨G'',ex,sr2,rel,g2⟩:=sr0.kept (st':=st'.less n) e (sr1.less n) hs'
 obtain⟨_,a2,a3⟩:=sr1.live n o ho
 have np:¬∃m q,st.nxt<=m/\(st'.less n).mu m=some q/\ι' m=ι' n:=fun⟨m,q,_,h2,h3⟩=>by
  have h2:(if m=n then none else st'.mu m)=some q:=h2
  by_cases hm:m=n
  ·rw[FJ hm] at h2;cases h2
  ·rw[FK hm] at h2;exact hm (sr1.inj m n q o h2 ho h3)
 have hG:G'' (ι' n)=none:=by rw[g2 _ np];exact a2
 have mor:nn K ι' st.nxt G'' H' (ι' n) o':=by
  cases o with
  |lst ws =>
   obtain⟨xs,q,t⟩:=a3
   have hf:(frzs (frz st.nxt (st'.less n).mu 12) ws).map MO.lst=some o':=hf
   cases e2:frzs (frz st.nxt (st'.less n).mu 12) ws with
   |none=>rw[e2] at hf;cases hf
   |some ys=>rw[e2] at hf;cases hf;exact⟨xs,q,vp (rel 12) t e2⟩
  |dct ks ws =>
   obtain⟨xs,q,z,t⟩:=a3
   have hf:(frzs (frz st.nxt (st'.less n).mu 12) ws).map (MO.dct ks)=some o':=hf
   cases e2:frzs (frz st.nxt (st'.less n).mu 12) ws with
   |none=>rw[e2] at hf;cases hf
   |some ys=>rw[e2] at hf;cases hf;exact⟨xs,q,z,vp (rel 12) t e2⟩
 obtain⟨ι'',ex2,sr3,ep⟩:=sr2.adopt hG (fun m q h z=>by
  have l:=(sr0.live m q h).1
  have h':st'.mu m=some q:=by rw[hs m l];exact h
  have:=sr1.inj m n q o h' ho z
  omega) mor
 exact⟨ι'',G'',ex.trans ex2,sr3,ep⟩
noncomputable def wd(fz:Nat)(st st':S)(w:W):R W:=match fz with
 |0=>.ok w st'
 |1=>keep st st' w
 |_=>we st st' w
noncomputable def jv(fz:Nat)(st:S):R Fl->R W
 |.ok (.rt w) st'=>wd fz st st' w
 |.ok (.nx _) st'=>wd fz st st' .non
 |_=>.stuck
noncomputable def dg(n nl fz:Nat)(run:aq):bh:=fun ws st=>if ws.length=n then jv fz st (run (ws.map some++List.replicate (nl - n) none) st) else .stuck
theorem Xp{K:PySem.W.Frag}{ι ι1:Nat->Addr}{st0 st1:S}{G G1 H0 H1:Hp}{fz:Nat}{w1:W}{v:V}(sr:SR K ι st0 G H0)(x1:Ext ι st0.nxt G ι1 st1.nxt G1)(sr1:SR K ι1 st1 G1 H1)(r1:RelW K ι1 st1.nxt G1 v w1)
  (ns:wd fz st0 st1 w1≠.stuck):∃w' st' ι' G',wd fz st0 st1 w1=.ok w' st'/\Ext ι st0.nxt G ι' st'.nxt G'/\SR K ι' st' G' H1/\RelW K ι' st'.nxt G' v w':=by
 have one:keep st0 st1 w1≠.stuck->∃w' st' ι' G',keep st0 st1 w1=.ok w' st'/\Ext ι st0.nxt G ι' st'.nxt G'/\SR K ι' st' G' H1/\RelW K ι' st'.nxt G' v w':=fun ns=>by
  obtain⟨hs,w',e,ek⟩:=qZ ns
  obtain⟨G2,e2,sr2,rel,_⟩:=sr.kept x1 sr1 hs
  exact⟨w',st0,ι1,G2,ek,e2,sr2,rel 12 v w1 w' r1 e⟩
 match fz with
 |0=>exact⟨w1,st1,ι1,G1,rfl,x1,sr1,r1⟩
 |1=>exact one ns
 | k + 2 =>
  have nl:we st0 st1 w1≠.stuck:=ns
  clear ns
  show ∃w' st' ι' G',we st0 st1 w1=.ok w' st'/\_
  unfold we at nl ⊢
  split at nl
  ·rename_i n
   by_cases hn:n<st0.nxt
   ·rw[FJ hn] at nl ⊢;exact one nl
   ·rw [FK hn] at nl ⊢
    by_cases hs:∀m,m<st0.nxt->st1.mu m=st0.mu m
    ·rw [FJ hs] at nl ⊢
     cases ho:st1.mu n with
     |none=>rw[ho] at nl;exact absurd rfl nl
     | some o =>
      rw[ho] at nl
      have ns:(match yg st0.nxt (st1.less n).mu o with
       |some o'=>R.ok (W.ref st0.nxt) (st0.new o')
       |none=>.stuck)≠.stuck:=nl
      cases hf:yg st0.nxt (st1.less n).mu o with
      |none=>rw[hf] at ns;exact absurd rfl ns
      | some o' =>
       obtain⟨ι2,G2,e2,sr2,ep⟩:=sr.keptL x1 sr1 hs (Nat.le_of_not_lt hn) ho hf
       refine⟨.ref st0.nxt,st0.new o',ι2,G2,?_,e2,sr2,?_⟩
       ·show(match yg st0.nxt (st1.less n).mu o with
         |some o'=>R.ok (W.ref st0.nxt) (st0.new o')
         |none=>.stuck)=_
        rw[hf]
       ·cases r1
        rw[<-ep]
        exact .ref (Nat.lt_succ_self _)
    ·rw[FK hs] at nl;exact absurd rfl nl
  ·exact one nl
theorem Xo{K:PySem.W.Frag}{ι ι1:Nat->Addr}{st0 st1:S}{G G1 H0 H1:Hp}{fz:Nat}{w1:W}{v:V}{Q:VK}(sr:SR K ι st0 G H0)(x1:Ext ι st0.nxt G ι1 st1.nxt G1)(sr1:SR K ι1 st1 G1 H1)(r1:RelW K ι1 st1.nxt G1 v w1)
  (q:Fy K ι st0.nxt G (wd fz st0 st1 w1) Q):Q v H1:=by
 obtain⟨w',st',ι',G',e,ex,sr',r'⟩:=Xp (fz:=fz) sr x1 sr1 r1 (fun z=>by rw[z] at q;exact q)
 rw[e] at q
 exact q v ι' G' H1 ex sr' r'
theorem Tr{K:PySem.W.Frag}{ι:Nat->Addr}{N:Nat}{G:Hp}{vs:List V}{ws:List W}{Ns:List Str}(t:RelWs K ι N G vs ws):EnvR K ι N G (L2.start Ns vs) (ws.map some++List.replicate (Ns.length - ws.length) none):=by
 unfold L2.start
 rw[t.length]
 refine⟨by simp[t.length],fun i w h=>?_⟩
 by_cases hi:i<ws.length
 ·rw[List.getElem?_append_left (by simpa using hi),EY] at h
  cases e:ws[i]? with
  |none=>rw[e] at h;cases h
  |some u =>
   rw[e] at h
   cases h
   obtain⟨v,h1,h2⟩:=t.get e
   refine⟨v,?_,h2⟩
   rw[List.getElem?_append_left (by rw[EQ,t.length];exact hi),EY,h1];rfl
 ·rw[List.getElem?_append_right (by simpa using hi),List.getElem?_replicate] at h
  split at h<;>cases h
theorem vN{P:Program}{w:World}{K:PySem.W.Frag}{mg:Str->Option Value}{base:Heap}{x qual:Str}{st:Stmt}{f:Addr}{fd:FuncData}{N ps:List Str}{k fz:Nat}{run:aq}(F:Fun K x qual st f fd)(Sc:FnScope N ps (ar st))
  (hb:∀(cdv:Value)(A:Around)(outer:List Env)(s:Shared)(H:Hp)(E:XK),Room k (A.deeper (envOfC qual (ar st) s.heap.objs.size f cdv))->ox (uv mq P w K mg base N qual (ar st) f cdv A outer s H E).nox (bq st) run) :
  FnOk P w K mg base mq (k+1) f fd ps (wu K ps.length (dg ps.length N.length fz run)):=by
 refine Fun.ok F Sc (fun vs H Q E h=>h.1) fun cdv A outer s H vs Q E hr hsp=>⟨_,hb cdv A outer s H E hr,?_⟩
 obtain⟨hl,ι,G,st0,ws,sr,t,q⟩:=hsp
 have hlw:ws.length=ps.length:=by rw[<-t.length];exact hl
 refine⟨ι,G,st0,ws.map some++List.replicate (N.length - ws.length) none,Tr t,sr,?_⟩
 unfold dg at q
 rw[FJ hlw,<-hlw] at q
 cases e:run (ws.map some++List.replicate (N.length - ws.length) none) st0 with
 |stuck=>rw[e] at q;exact q
 |ex c s=>rw[e] at q;exact(show False from q).elim
 |ok fl st1 =>
  rw[e] at q
  intro ι1 G1 H1 x1 sr1
  cases fl with
  |nx Γ1=>exact fun σ1 en1=>Xo (fz:=fz) (w1:=.non) sr x1 sr1 .non q
  |rt w1=>exact fun v r1=>Xo (fz:=fz) sr x1 sr1 r1 q
  |bk Γ1=>exact(show False from q).elim
  |ct Γ1=>exact(show False from q).elim
end
end DL
namespace L2
open PySem PySem.Spec PyProof.Rows
theorem Inv.big'(I:Inv X EF σ H s):sysModules<s.heap.objs.size:=by
 have h:mainGlobals<s.heap.objs.size:=(I.mod.glob.keeps I.bk).lt
 exact Nat.lt_trans (by decide) h
theorem nY(h:Heap)(hb:sysModules<h.objs.size):gm P w H (h.push { cls:=.type "dict",data:=.dict #[] }) h.objs.size (.dK []):=
 ⟨Nat.zero_le _,beq_eq_false_iff_ne.mpr (Ne.symm (EX hb)),[],.nil,Heap.DictOf.new h⟩
theorem pU:PE X (.Dict [] [] pos) (fun _ H Q=>∀p,H p=none->Q (.ref p) (upd H p (.dK []))):=fun EF s σ H Q I h =>
 wpAny_Dict_empty ⟨.ref s.heap.objs.size,_,I.laid (a:=s.heap.objs.size) (o:=.dK []) (t':=s.toks) (fun _ _ q=>EI _ q) (EN _) (nY s.heap I.big'),rfl,h _ (I.hok.fresh (EN _))⟩
section
variable {X:Cx}
variable {k:Nat} {f:Addr} {fd:FuncData} {pn:Str} {sp:Sp}
end
end L2
namespace DL
open PySem PySem.Spec PyProof.Rows L2
section
variable {X:Cx}
def d7:am:=fun _ st=>.ok (.dct [] []) st
theorem qC:PD X (.Dict [] [] pos) d7:=by
 refine PE.imp pU fun σ H Q h=>?_
 obtain⟨ι,G,st,Γ,en,sr,q⟩:=h
 intro p hp
 obtain⟨sr2,e2⟩:=sr.laid (o:=kr []) hp
 exact q _ ι _ _ e2 sr2 (.dct (xs:=[]) iz rfl .nil)
section
variable {K:PySem.W.Frag} {ι:Nat->Addr} {N:Nat} {G:Hp}
end
def Ms:Expr->Bool
 |.Starred _ _=>false
 |_=>true
end
noncomputable def f9(st st':S)(c:W):R W:=@ite _ (∀n,n<st.nxt->st'.mu n=st.mu n) (Classical.propDecidable _) (.ex c st) .stuck
theorem xg{st st':S}{c:W}(h:∀n,n<st.nxt->st'.mu n=st.mu n):f9 st st' c=.ex c st:=by
 unfold f9;rw[FJ h]
noncomputable def gu(fz:Nat)(st:S):R Fl->R W
 |.ok (.rt w) st'=>wd fz st st' w
 |.ok (.nx _) st'=>wd fz st st' .non
 |.ex c st'=>(match fz with
  |0=>.ex c st'
  |_=>f9 st st' c)
 |_=>.stuck
noncomputable def jl(n nl fz:Nat)(run:aq):bh:=fun ws st=>if ws.length=n then gu fz st (run (ws.map some++List.replicate (nl - n) none) st) else .stuck
def wpX(K:PySem.W.Frag)(ι:Nat->Addr)(N:Nat)(G:Hp)(r:R W)(Q:VK)(E:XK):Prop:=match r with
 |.ok w st'=>∀v ι' G' H',Ext ι N G ι' st'.nxt G'->SR K ι' st' G' H'->RelW K ι' st'.nxt G' v w->Q v H'
 |.ex c st'=>∀ι' G' H' cls,Ext ι N G ι' st'.nxt G'->SR K ι' st' G' H'->Jp K c cls->E cls none H'
 |.stuck=>False
def mn(K:PySem.W.Frag)(n:Nat)(op:bh):Sp:=fun vs H Q E=>vs.length=n/\∃ι G st ws,SR K ι st G H/\RelWs K ι st.nxt G vs ws/\wpX K ι st.nxt G (op ws st) Q E
theorem Wd{K:PySem.W.Frag}{ι ι1:Nat->Addr}{st0 st1:S}{G G1 H0 H1:Hp}{fz:Nat}{w1:W}{v:V}{Q:VK}{E:XK}(sr:SR K ι st0 G H0)(x1:Ext ι st0.nxt G ι1 st1.nxt G1)(sr1:SR K ι1 st1 G1 H1)(r1:RelW K ι1 st1.nxt G1 v w1)
  (q:wpX K ι st0.nxt G (wd fz st0 st1 w1) Q E):Q v H1:=by
 obtain⟨w',st',ι',G',e,ex,sr',r'⟩:=Xp (fz:=fz) sr x1 sr1 r1 (fun z=>by rw[z] at q;exact q)
 rw[e] at q
 exact q v ι' G' H1 ex sr' r'
theorem qX{K:PySem.W.Frag}{ι ι1:Nat->Addr}{st0 st1:S}{G G1 H0 H1:Hp}{fz:Nat}{c:W}{cls:Value}{Q:VK}{E:XK}(sr:SR K ι st0 G H0)(x1:Ext ι st0.nxt G ι1 st1.nxt G1)(sr1:SR K ι1 st1 G1 H1)(cl:Jp K c cls)
  (q:wpX K ι st0.nxt G (gu fz st0 (.ex c st1)) Q E):E cls none H1:=by
 cases fz with
 |zero=>exact q ι1 G1 H1 cls x1 sr1 cl
 | succ fz =>
  have q:wpX K ι st0.nxt G (f9 st0 st1 c) Q E:=q
  by_cases hs:∀n,n<st0.nxt->st1.mu n=st0.mu n
  ·rw[xg hs] at q
   obtain⟨G2,e2,sr2,_⟩:=sr.kept x1 sr1 hs
   exact q ι1 G2 H1 cls e2 sr2 cl
  ·unfold f9 at q
   rw[FK hs] at q
   exact q.elim
section
variable {X:Cx}
theorem qF(F:FnX b X.prog X.w X.K X.mg X.base k f fd ps (mn X.K n op))(hr:RoomB b k X.A)(hg:Gl X x)(hm:X.mg x=some (.ref f))(hk:PySem.W.keepIn X.K (.ref f)=true)
  (hb:jg X.K fd ps [])(ha:mo X (e::es) rr)(hn:∀Γ st ws st',rr Γ st=.ok ws st'->ws.length=n)(hdb:(x == ("__debug__" : Str))=false)(he:starEach (e::es) X.env=(false,eval e X.env)::starEach es X.env)(hpl:(backTo pos (starEach es X.env)).any (·.1)=false) :
  PD X (.Call (.Name x p) (e::es) [] pos) (runN rr op):=by
 refine PE.imp (Vu F hr hg hm hk hb ha hdb he hpl) fun σ H Q h=>?_
 obtain⟨ι,G,st,Γ,en,sr,q⟩:=h
 refine⟨ι,G,st,Γ,en,sr,?_⟩
 unfold runN at q
 cases e1:rr Γ st with
 |stuck=>rw[e1] at q;exact q
 |ex c s=>rw[e1] at q;exact q
 | ok ws st1 =>
  rw[e1] at q
  intro vs ι1 G1 H1 x1 sr1 r1
  have q1:au X ι1 st1.nxt G1 (op ws st1) Q:=au.later x1 (show au X ι st.nxt G (op ws st1) Q from q)
  refine⟨fun cls _ H'=>∃ι' G' c st',op ws st1=.ex c st'/\Ext ι1 st1.nxt G1 ι' st'.nxt G'/\SR X.K ι' st' G' H'/\Jp X.K c cls,fun EF σ2 H2 s2 v s' I2 hx=>?_,by rw[r1.length];exact hn Γ st ws st1 e1,ι1,G1,st1,ws,sr1,r1,?_⟩
  ·obtain⟨ea,cls,H',rfl,ei,ι',G',c,st',e2,x2,sr2,cl⟩:=lb.called I2 hx
   rw[e2] at q1
   exact q1 H' ι' G' ea cls s' x2 sr2 cl ei
  ·cases e2:op ws st1 with
   |stuck=>rw[e2] at q1;exact q1
   |ok w st2=>rw[e2] at q1;exact q1
   |ex c st2=>exact fun ι' G' H' cls x2 sr2 cl=>⟨ι',G',c,st2,rfl,x2,sr2,cl⟩
theorem mW(F:FnX b X.prog X.w X.K X.mg X.base k f fd ps (mn X.K n op))(hr:RoomB b k X.A)(hg:Gl X x)(hm:X.mg x=some (.ref f))(hk:PySem.W.keepIn X.K (.ref f)=true)
  (hb:jg X.K fd ps [])(ha:mo X (e::es) rr)(hn:∀Γ st ws st',rr Γ st=.ok ws st'->ws.length=n)(hdb:(x == ("__debug__" : Str))=false)(he:starEach (e::es) X.env=(false,eval e X.env)::starEach es X.env)(hpl:(backTo pos (starEach es X.env)).any (·.1)=false) :
  PD X (.Call (.Name x p) (e::es) [] pos) (runN rr (ao op)):=by
 refine PE.imp (Vu F hr hg hm hk hb ha hdb he hpl) fun σ H Q h=>?_
 obtain⟨ι,G,st,Γ,en,sr,q⟩:=h
 refine⟨ι,G,st,Γ,en,sr,?_⟩
 unfold runN at q
 cases e1:rr Γ st with
 |stuck=>rw[e1] at q;exact q
 |ex c s=>rw[e1] at q;exact q
 | ok ws st1 =>
  rw[e1] at q
  intro vs ι1 G1 H1 x1 sr1 r1
  have q1:au X ι1 st1.nxt G1 (op ws st1).calm Q:=au.later x1 (show au X ι st.nxt G (ao op ws st1) Q from q)
  refine⟨fun _ _ _=>False,fun EF σ2 H2 s2 v s' I2 hx=>?_,by rw[r1.length];exact hn Γ st ws st1 e1,ι1,G1,st1,ws,sr1,r1,?_⟩
  ·obtain⟨_,_,_,_,_,z⟩:=lb.called I2 hx
   exact z.elim
  ·cases e2:op ws st1 with
   |stuck=>rw[e2] at q1;exact q1
   |ok w st2=>rw[e2] at q1;exact q1
   |ex c st2=>rw[e2] at q1;exact(show False from q1).elim
theorem Fun.okX{b:Bool}{P:Program}{w:World}{K:PySem.W.Frag}{mg:Str->Option Value}{base:Heap}{x qual:Str}{st:Stmt}{f:Addr}{fd:FuncData}{N ps:List Str}{k fz:Nat}{run:aq}(F:Fun K x qual st f fd)(Sc:FnScope N ps (ar st))
  (hb:∀(cdv:Value)(A:Around)(outer:List Env)(s:Shared)(H:Hp)(Φ:Value->Hp->Prop),RoomB b k (A.deeper (envOfC qual (ar st) s.heap.objs.size f cdv)) ->
   ox ((yt b P w K mg base N qual (ar st) f cdv A outer s H).wish (XE (yt b P w K mg base N qual (ar st) f cdv A outer s H) Φ)) (bq st) run) :
  FnX b P w K mg base (k+1) f fd ps (mn K ps.length (jl ps.length N.length fz run)):=by
 obtain⟨oc,od,kV,doc,pm,an,cdv,ct,osl,rfl,lk,hcd⟩:=F.ex
 refine zR lk hcd Sc (fun vs H Q E h=>h.1) fun A outer s H vs Q E hr hsp=>⟨_,hb cdv A outer s H (fun cls H'=>E cls none H') hr,?_⟩
 obtain⟨hl,ι,G,st0,ws,sr,t,q⟩:=hsp
 have hlw:ws.length=ps.length:=by rw[<-t.length];exact hl
 refine⟨ι,G,st0,ws.map some++List.replicate (N.length - ws.length) none,Tr t,sr,?_⟩
 unfold jl at q
 rw[FJ hlw,<-hlw] at q
 cases e:run (ws.map some++List.replicate (N.length - ws.length) none) st0 with
 |stuck=>rw[e] at q;exact q
 |ex c st1 =>
  rw[e] at q
  intro H' ι' G' ea cls s' x1 sr1 cl ei
  exact⟨ea,cls,H',rfl,lb.unwish ei,qX (fz:=fz) sr x1 sr1 cl q⟩
 |ok fl st1 =>
  rw[e] at q
  intro ι1 G1 H1 x1 sr1
  cases fl with
  |nx Γ1=>exact fun σ1 en1=>Wd (fz:=fz) (w1:=.non) sr x1 sr1 .non q
  |rt w1=>exact fun v r1=>Wd (fz:=fz) sr x1 sr1 r1 q
  |bk Γ1=>exact(show False from q).elim
  |ct Γ1=>exact(show False from q).elim
def mw(x:Str)(rr:gr):aq:=fun Γ st=>(rr Γ st).bind fun ws st'=>if ws.length<=sizeLine then .ex (.str x) st' else .stuck
theorem mT(hc:X.calm=true)(c:ExCls X.K x C)(hg:Gl X x)(ha:mo X (e::es) rr)(hdb:(x == ("__debug__" : Str))=false)
  (he:starEach (e::es) X.env=(false,eval e X.env)::starEach es X.env)(hpl:(backTo cpos (starEach es X.env)).any (·.1)=false) :
  jp X (.Raise (some (.Call (.Name x np) (e::es) [] cpos)) none pos) (mw x rr):=by
 refine PS.imp (pP hc c hg ha hdb he hpl) fun D σ H h=>?_
 obtain⟨ι,G,st,Γ,en,sr,q⟩:=h
 refine⟨ι,G,st,Γ,en,sr,?_⟩
 unfold mw at q
 cases e1:rr Γ st with
 |stuck=>rw[e1] at q;exact q
 |ex c s=>rw[e1] at q;exact q
 | ok ws st1 =>
  rw[e1] at q
  intro vs ι1 G1 H1 x1 sr1 r1
  have q1:dt X ι st.nxt G (if ws.length<=sizeLine then .ex (.str x) st1 else .stuck) D:=q
  by_cases hl:ws.length<=sizeLine
  ·rw[FJ hl] at q1
   exact⟨by rw[r1.length];exact hl,fun ea s' ei=>q1 H1 ι1 G1 ea (.ref C) s' x1 sr1 ⟨x,C,rfl,c.ns,rfl⟩ ei⟩
  ·rw[FK hl] at q1;exact q1.elim
def wpF0(K:PySem.W.Frag)(ι:Nat->Addr)(N:Nat)(G:Hp)(r:R Fl)(D:Ends):Prop:=match r with
 |.ok fl st'=>∀ι' G' H',Ext ι N G ι' st'.nxt G'->SR K ι' st' G' H'->(match fl with
  |.nx Γ'=>∀σ',EnvR K ι' st'.nxt G' σ' Γ'->D.nx σ' H'
  |.rt w=>∀v,RelW K ι' st'.nxt G' v w->D.rt v H'
  |.bk Γ'=>∀σ',EnvR K ι' st'.nxt G' σ' Γ'->D.bk σ' H'
  |.ct Γ'=>∀σ',EnvR K ι' st'.nxt G' σ' Γ'->D.ct σ' H')
 |_=>False
def aY(K:PySem.W.Frag)(run:aq):TS:=fun D σ H=>∃ι G st Γ,EnvR K ι st.nxt G σ Γ/\SR K ι st G H/\wpF0 K ι st.nxt G (run Γ st) D
theorem oX{run:aq}{D:Ends}{σ:St}{H:Hp}(h:aY X.K run D σ H):Gb X run D σ H:=by
 obtain⟨ι,G,st,Γ,en,sr,q⟩:=h
 refine⟨ι,G,st,Γ,en,sr,?_⟩
 cases e:run Γ st with
 |ok fl st'=>rw[e] at q;exact q
 |ex c s=>rw[e] at q;exact q.elim
 |stuck=>rw[e] at q;exact q
noncomputable def Iz(i:Nat):R Fl->R Fl
 |.ok (.nx Γ) st=>.ok (.nx (Γ.set i none)) st
 |.ok (.bk Γ) st=>.ok (.bk (Γ.set i none)) st
 |.ok (.ct Γ) st=>.ok (.ct (Γ.set i none)) st
 |.ok (.rt w) st=>.ok (.rt w) st
 |_=>.stuck
noncomputable def ot(nl i:Nat)(tab:List (Str×Bool))(rb rs:aq):aq:=fun Γ st=>match rb Γ st with
 |.ok fl st'=>.ok fl st'
 |.ex (.str x) st'=>(match tab.lookup x with
  |some true=>Iz i (rs ((List.replicate nl none).set i (some (.exn x))) st')
  |some false=>.ex (.str x) st'
  |none=>.stuck)
 |_=>.stuck
theorem EnvR.drop{K:PySem.W.Frag}{ι:Nat->Addr}{N:Nat}{G:Hp}{σ:St}{Γ:Ga}(h:EnvR K ι N G σ Γ)(i:Nat):EnvR K ι N G (σ.set i none) (Γ.set i none):=by
 refine⟨by rw[List.length_set,List.length_set];exact h.len,fun j u q=>?_⟩
 rw[List.getElem?_set] at q ⊢
 by_cases hij:i=j
 ·rw[FJ hij] at q
  split at q<;>cases q
 ·rw[FK hij] at q ⊢
  exact h.get j u q
theorem tY(O:OwnFr X)(hN:X.N.Nodup)(hi:X.N[i]?=some n)(hx:X.env.scope.names.lookup n=some .local)(hg:Gl X x)(hm:X.mg x=some c)
  (ht:∀y b,tab.lookup y=some b->∃C,PySem.W.nsIn X.K mainGlobals y=some (some (.ref C))/\PySem.W.exmOne X.K (.ref C) c=some b)
  (hb:∀pn Φ,ox (X.tryB pn Φ) body rb)(hs:∀ea,ox (X.suite ea) (b₀::suite) rs)(hdb:(x == ("__debug__" : Str))=false) :
  jp X (.Try body [.ExceptHandler (some (.Name x np)) (some n) (b₀::suite) hpos] [] [] pos) (ot X.N.length i tab rb rs):=by
 refine PS.imp (xQ (tb:=fun pn Φ=>Gb (X.tryB pn Φ) rb) (ts:=aY X.K rs) O hN hi hx hg hm hb (fun ea=>ji.imp (hs ea) fun D σ H h=>oX (X:=X.suite ea) h) hdb) fun D σ H h pn=>?_
 obtain⟨ι,G,st,Γ,en,sr,q⟩:=h
 refine⟨ι,G,st,Γ,en,sr,?_⟩
 unfold ot at q
 cases e1:rb Γ st with
 |stuck=>rw[e1] at q;exact q
 |ok fl st1=>rw[e1] at q;exact q
 | ex c1 st1 =>
  rw[e1] at q
  intro H' ι' G' ea cls s' x1 sr1 cl ei
  obtain⟨y,C,rfl,ns,rfl⟩:=cl
  refine⟨ea,.ref C,H',rfl,lb.unwish ei,?_⟩
  have q1:dt X ι st.nxt G (match tab.lookup y with
   |some true=>Iz i (rs ((List.replicate X.N.length none).set i (some (.exn y))) st1)
   |some false=>.ex (.str y) st1
   |none=>.stuck) D:=q
  cases e2:tab.lookup y with
  |none=>rw[e2] at q1;exact(show False from q1).elim
  | some b =>
   rw[e2] at q1
   obtain⟨C',ns',ex⟩:=ht y b e2
   have ns:PySem.W.nsIn X.K mainGlobals y=some (some (.ref C)):=ns
   rw[ns] at ns'
   cases ns'
   refine⟨b,ex,fun hb' ea2 hn=>?_,fun hb' ea2 s2 ei2=>?_⟩
   ·subst hb'
    obtain⟨s2,e3⟩:=SR.laid (K:=X.K) (o:=.ext (lf ea2 (.ref C))) sr1 hn
    have en2:EnvR X.K ι' st1.nxt (upd G' ea2 (.ext (lf ea2 (.ref C)))) ((List.replicate X.N.length none).set i (some (.ref ea2))) ((List.replicate X.N.length none).set i (some (.exn y))):=
     EnvR.set (⟨by simp,fun j w e=>by rw[List.getElem?_replicate] at e;split at e<;>cases e⟩) i (.exn iz ns)
    refine⟨ι',_,st1,_,en2,s2,?_⟩
    have q2:dt X ι st.nxt G (Iz i (rs ((List.replicate X.N.length none).set i (some (.exn y))) st1)) D:=q1
    cases e4:rs ((List.replicate X.N.length none).set i (some (.exn y))) st1 with
    |stuck=>rw[e4] at q2;exact q2
    |ex c2 s2=>rw[e4] at q2;exact q2
    |ok fl st2 =>
     rw[e4] at q2
     intro ι2 G2 H2 x2 sr2
     have x3:=(x1.trans e3).trans x2
     cases fl with
     |nx Γ2=>exact fun σ2 en3=>q2 ι2 G2 H2 x3 sr2 (σ2.set i none) (en3.drop i)
     |bk Γ2=>exact fun σ2 en3=>q2 ι2 G2 H2 x3 sr2 (σ2.set i none) (en3.drop i)
     |ct Γ2=>exact fun σ2 en3=>q2 ι2 G2 H2 x3 sr2 (σ2.set i none) (en3.drop i)
     |rt w2=>exact fun v r=>q2 ι2 G2 H2 x3 sr2 v r
   ·subst hb'
    exact q1 H' ι' G' ea2 (.ref C) s2 x1 sr1 ⟨y,C,rfl,ns,rfl⟩ ei2
end
section
variable {X:Cx}
def tFmt(te:TE):TE:=fun σ H Q=>te σ H fun v H1=>(∃x,v=.str x/\x.length<=sizeLine/\Q (.str x) H1)\/(∃i,v=.int i/\i.natAbs.log2<1920/\Q (.str (toString i)) H1)
theorem yC(he:PE X e te):PE X (.FormattedValue e (-1) none pos) (tFmt te):=by
 intro EF s σ H Q I h
 refine wpAny_FormattedValue_plain (bj (he EF s σ H _ I h) fun u s1 ⟨v,H1,I1,r,q⟩=>?_)
 rcases q with⟨x,rfl,hl,q⟩|⟨i,rfl,hl,q⟩
 ·obtain⟨t,rfl⟩:=(show ∃t,u=Value.str x t from r)
  exact formatField_str (fun t' tk=>⟨.str x,H1,I1.tok _,⟨t',rfl⟩,q⟩) hl
 ·obtain⟨t,rfl⟩:=(show ∃t,u=Value.int i t from r)
  exact wpAny_formatField_int hl ⟨.str (toString i),H1,I1.tok _,⟨_,rfl⟩,q⟩
def ls:W->S->R W:=fun w st=>match w with
 |.str x=>if x.length<=sizeLine then .ok (.str x) st else .stuck
 |.int i=>if i.natAbs.log2<1920 then .ok (.str (toString i)) st else .stuck
 |_=>.stuck
theorem yR(he:PD X e ra):PD X (.FormattedValue e (-1) none pos) (bb ra ls):=by
 refine PE.imp (yC he) fun σ H Q ⟨ι,G,st,Γ,en,sr,q⟩=>⟨ι,G,st,Γ,en,sr,au.bind q fun w st1 v ι1 G1 H1 _ e1 sr1 r1 q1=>?_⟩
 unfold ls at q1
 cases w with
 | str x =>
  cases r1
  have q2:au X ι1 st1.nxt G1 (if x.length<=sizeLine then .ok (.str x) st1 else .stuck) Q:=q1
  by_cases hl:x.length<=sizeLine
  ·rw[FJ hl] at q2
   exact .inl ⟨x,rfl,hl,q2 _ ι1 G1 H1 (Ext.refl _ _ _) sr1 (.str x)⟩
  ·rw[FK hl] at q2;exact q2.elim
 | int i =>
  cases r1
  have q2:au X ι1 st1.nxt G1 (if i.natAbs.log2<1920 then .ok (.str (toString i)) st1 else .stuck) Q:=q1
  by_cases hl:i.natAbs.log2<1920
  ·rw[FJ hl] at q2
   exact .inr ⟨i,rfl,hl,q2 _ ι1 G1 H1 (Ext.refl _ _ _) sr1 (.str _)⟩
  ·rw[FK hl] at q2;exact q2.elim
 |_=>exact(show False from q1).elim
noncomputable def kj:List am->Str->am
 |[],out=>fun _ st=>if out.length<=sizeLine then .ok (.str out) st else .stuck
 |r::rs,out=>fun Γ st=>(r Γ st).bind fun w st1=>match w with
  |.str y=>if (out++y).length<=sizeLine then kj rs (out++y) Γ st1 else .stuck
  |_=>.stuck
theorem pj(h:Paired (fun e r=>PD X e r) es rs):∀(out:Str)(EF:List (Addr×Obj))(s:Shared)(σ:St)(H:Hp)(Q:VK),Inv X EF σ H s->tD X (kj rs out) σ H Q ->
  wpAny (model X.prog X.w) X.A (joinParts out (es.map fun e=>eval e X.env)) (EP X EF σ Q) X.xe s:=by
 induction h with
 | nil =>
  intro out EF s σ H Q I ⟨ι,G,st,Γ,en,sr,q⟩
  have q2:au X ι st.nxt G (if out.length<=sizeLine then .ok (.str out) st else .stuck) Q:=q
  by_cases hl:out.length<=sizeLine
  ·rw[FJ hl] at q2
   exact joinParts_nil ⟨.str out,H,I.tok _,⟨_,rfl⟩,q2 _ ι G H (Ext.refl _ _ _) sr (.str out)⟩ hl
  ·rw[FK hl] at q2;exact q2.elim
 | @cons e r es rs he _ ih =>
  intro out EF s σ H Q I ⟨ι,G,st,Γ,en,sr,q⟩
  refine joinParts_cons ?_
  have go:tD X r σ H fun v H1=>∃y,v=.str y/\(out++y).length<=sizeLine/\tD X (kj rs (out++y)) σ H1 Q:=by
   refine⟨ι,G,st,Γ,en,sr,au.bind q fun w st1 v ι1 G1 H1 _ e1 sr1 r1 q1=>?_⟩
   cases w with
   | str y =>
    cases r1
    have q2:au X ι1 st1.nxt G1 (if (out++y).length<=sizeLine then kj rs (out++y) Γ st1 else .stuck) Q:=q1
    by_cases hl:(out++y).length<=sizeLine
    ·rw[FJ hl] at q2
     exact⟨y,rfl,hl,ι1,G1,st1,Γ,en.mono e1,sr1,q2⟩
    ·rw[FK hl] at q2;exact q2.elim
   |_=>exact(show False from q1).elim
  refine bj (he EF s σ H _ I go) fun u s1 ⟨v,H1,I1,rv,y,ev,hl,q1⟩=>?_
  subst ev
  obtain⟨t,rfl⟩:=(show ∃t,u=Value.str y t from rv)
  exact⟨hl,ih (out++y) EF s1 σ H1 Q I1 q1⟩
theorem mV(h:Paired (fun e r=>PD X e r) (a::b::es) rs)(hm:evalEach (a::b::es) X.env=(a::b::es).map fun e=>eval e X.env):PD X (.JoinedStr (a::b::es) pos) (kj rs Str.empty):=by
 intro EF s σ H Q I q
 have hm':eval a X.env::eval b X.env::evalEach es X.env=(a::b::es).map fun e=>eval e X.env:=hm
 refine JoinedStr_many ?_
 rw[hm']
 exact pj h Str.empty EF s σ H Q I q
theorem Qu:∀(es:List Expr)(env:Env),evalEach es env=es.map fun e=>eval e env
 |[],_=>rfl
 |e::es,env=>by
  show eval e env::evalEach es env=_
  rw[Qu es env];rfl
noncomputable def oj(tab:List (Str×Bool)):W->S->R W:=fun w st=>match w with
 |.exn x=>(match tab.lookup x with
  |some b=>.ok (.bl b) st
  |none=>.stuck)
 |_=>.stuck
theorem rY:sj X (.builtin "isinstance") (fun xs H Q=>∃e C vc c b,xs=[.ref e,vc]/\az vc c/\(∀u,az vc u->u=c)/\H e=some (.ext (lf e (.ref C)))/\ExAt X.K C/\PySem.W.kitOne X.K (.ref C) c=some b/\Q (.bl b) H):=by
 intro EF s σ H xs us Q I r ⟨e,C,vc,c,b,ex,rc,un,he,F,k,q⟩
 subst ex
 match us,r with
 |[u1,u2],.cons r1 (.cons r2 .nil) =>
  cases (show u1=Value.ref e from r1)
  cases un u2 r2
  exact nQ I he F k fun tk=>⟨.bl b,H,I.tok _,rfl,q⟩
theorem yP(hg:Gl X "isinstance")(hm:X.mg "isinstance" = none)(ha:PD X a ra)(hy:PE X (.Name y p2) (tC vc))(rc:az vc c)(un:∀u,az vc u->u=c)
  (ht:∀x b,tab.lookup x=some b->∃C,PySem.W.nsIn X.K mainGlobals x=some (some (.ref C))/\ExAt X.K C/\PySem.W.kitOne X.K (.ref C) c=some b)
  (hs:starEach [a,.Name y p2] X.env=(false,eval a X.env)::starEach [.Name y p2] X.env)(hs2:starEach [.Name y p2] X.env=(false,eval (.Name y p2) X.env)::starEach [] X.env)(hpl:(backTo pos (starEach [.Name y p2] X.env)).any (·.1)=false) :
  PD X (.Call (.Name "isinstance" p) [a,.Name y p2] [] pos) (bb ra (oj tab)):=by
 refine PE.imp (Vv rY hg hm (by decide +kernel) (Mr ha (Mr hy Ze hs2) hs) (by decide) (by decide) hs hpl) fun σ H Q ⟨ι,G,st,Γ,en,sr,q⟩=>?_
 refine⟨ι,G,st,Γ,en,sr,au.bind q fun w st1 v ι1 G1 H1 _ e1 sr1 r1 q1=>?_⟩
 unfold oj at q1
 cases w with
 | exn x =>
  cases r1 with
  | @exn e C _ hG ns =>
   have q2:au X ι1 st1.nxt G1 (match tab.lookup x with
    |some b=>.ok (.bl b) st1
    |none=>.stuck) Q:=q1
   cases e2:tab.lookup x with
   |none=>rw[e2] at q2;exact(show False from q2).elim
   |some b =>
    rw[e2] at q2
    obtain⟨C',ns',F,k⟩:=ht x b e2
    rw[ns] at ns';cases ns'
    exact⟨e,C,vc,c,b,rfl,rc,un,sr1.sub _ _ hG,F,k,q2 (.bl b) ι1 G1 H1 (Ext.refl _ _ _) sr1 (.bl b)⟩
 |_=>exact(show False from q1).elim
end
section
variable {X:Cx}
noncomputable def Ia:Expr->Bool
 |.Call _ [] [] _=>false
 |_=>true
theorem Tf(h:Ia o=true):attributeBase o m env w=w:=by
 unfold attributeBase
 split
 ·exact absurd (show false=true from h) EG
 ·rfl
theorem oR{ι:Nat->Addr}{G H:Hp}{st:S}{v:V}{w:W}{T:String}(sr:SR X.K ι st G H)(r:RelW X.K ι st.nxt G v w)(k:ng st w=some T)(hT:T = "str"\/T = "list"\/T = "dict"):Fz X.K T v H:=by
 cases r with
 |non=>cases k;exact absurd hT (by decide)
 |bl b=>cases k;exact absurd hT (by decide)
 |int i=>cases k;exact absurd hT (by decide)
 |str x=>cases k;exact rfl
 |ty n=>cases k
 |tup s c t=>cases k;exact absurd hT (by decide)
 |lst s t=>cases k;exact .inl ⟨rfl,_,sr.sub.seq s⟩
 |dct s l t=>cases k;exact .inr (.inr (.inl ⟨rfl,.inl ⟨_,sr.sub _ _ s⟩⟩))
 |exn s n=>cases k
 | @ref n hn =>
  have k:MO.kind (st.mu n)=some T:=k
  cases e:st.mu n with
  |none=>rw[e] at k;cases k
  |some o =>
   rw[e] at k
   obtain⟨_,_,h3⟩:=sr.live n o e
   cases o with
   |lst zs=>cases k;obtain⟨vs,qv,_⟩:=h3;exact .inl ⟨rfl,vs,bx.of qv⟩
   |dct ks zs=>cases k;obtain⟨xs,qv,_,_⟩:=h3;exact .inr (.inr (.inl ⟨rfl,.inl ⟨_,qv⟩⟩))
abbrev qw:=W->List W->S->R W
def qr(X:Cx)(op:qw):V->List V->Hp->VK->Prop:=fun x xs H Q=>∃ι G st w ws,SR X.K ι st G H/\RelW X.K ι st.nxt G x w/\RelWs X.K ι st.nxt G xs ws/\au X ι st.nxt G (op w ws st) Q
noncomputable def dw(T:String)(ro:am)(rr:gr)(op:qw):am:=fun Γ st=>(ro Γ st).bind fun w st1=>if ng st1 w=some T then(rr Γ st1).bind fun ws st2=>op w ws st2 else .stuck
theorem Wz(hT:T = "str"\/T = "list"\/T = "dict")(h:tD X (dw T ro rr op) σ H Q) :
  tD X ro σ H fun x H1=>Fz X.K T x H1/\tDA X rr σ H1 fun xs H2=>qr X op x xs H2 Q:=by
 obtain⟨ι,G,st,Γ,en,sr,q⟩:=h
 refine⟨ι,G,st,Γ,en,sr,au.bind q fun w st1 v ι1 G1 H1 _ e1 sr1 r1 q1=>?_⟩
 by_cases hk:ng st1 w=some T
 ·rw[FJ hk] at q1
  refine⟨oR sr1 r1 hk hT,ι1,G1,st1,Γ,en.mono e1,sr1,?_⟩
  cases e2:rr Γ st1 with
  |stuck=>rw[e2] at q1;exact q1
  |ex c s=>rw[e2] at q1;exact q1
  |ok ws st2 =>
   rw[e2] at q1
   intro vs ι2 G2 H2 x2 sr2 r2
   exact⟨ι2,G2,st2,w,ws,sr2,r1.mono x2,r2,au.later x2 (show au X ι1 st1.nxt G1 (op w ws st2) Q from q1)⟩
 ·rw[FK hk] at q1;exact q1.elim
theorem X5{m:Str}{T id:String}(hT:T = "str"\/T = "list"\/T = "dict")(pa:PlainAttrs T)(slot:Slot T m id)(hty:typeOf (.builtin id)=pure (.type "method_descriptor"))(hm:oz X id (qr X op))(ho:PD X o ro)(ha:mo X (e::es) rr)(hb:Ia o=true)
  (hfew:((backTo cpos (starEach (e::es) X.env)).all (fun x=>!x.1)&&(backToKw cpos (keywordEach [] X.env)).all (fun x=>x.1.isSome)
   && decide ((e::es).length+([]:List Keyword).length+(if ([]:List Keyword).isEmpty then 0 else 1)<30))=true)
  (hline:(apos.endLine == cpos.line)=true)(hs:starEach (e::es) X.env=(false,eval e X.env)::starEach es X.env)(hplain:(backTo cpos (starEach es X.env)).any (·.1)=false) :
  PD X (.Call (.Attribute o m apos) (e::es) [] cpos) (dw T ro rr op):=
 PE.imp (X1 pa slot hty hm ho ha (Tf hb) hfew hline hs hplain) fun _ _ _ h=>Wz hT h
theorem yL{m:Str}{T id:String}(hT:T = "str"\/T = "list"\/T = "dict")(pa:PlainAttrs T)(slot:Slot T m id)(hty:typeOf (.builtin id)=pure (.type "method_descriptor"))(hm:oz X id (qr X op))(ho:PD X o ro)(hb:Ia o=true)(hline:(apos.endLine == cpos.line)=true) :
  PD X (.Call (.Attribute o m apos) [] [] cpos) (dw T ro af op):=by
 refine PE.imp (yD pa slot hty hm ho (Tf hb) hline) fun σ H Q h=>?_
 obtain⟨ι,G,st,Γ,en,sr,q⟩:=Wz hT h
 refine⟨ι,G,st,Γ,en,sr,au.mono q fun v H1 ⟨h1,ι1,G1,st1,Γ1,_,sr1,q1⟩=>⟨h1,?_⟩⟩
 exact q1 [] ι1 G1 H1 (Ext.refl _ _ _) sr1 .nil
noncomputable def kg:qw:=fun w ws st=>match w,ws with
 |.ref n,[y]=>(match st.mu n with
  |some (.lst xs)=>if xs.length<sizeLine then .ok .non (st.put n (.lst (xs++[y]))) else .stuck
  |_=>.stuck)
 |_,_=>.stuck
theorem nD:oz X "list.append" (qr X kg):=by
 intro EF s σ H x xs v us Q I rx rv ⟨ι,G,st,w,ws,sr,r,t,q⟩
 unfold kg at q
 split at q
 ·rename_i n y
  cases t with
  | @cons x1 _ xs1 _ r1 t1 =>
   cases t1
   cases r with
   | ref hn =>
    have q:au X ι st.nxt G (match st.mu n with
     |some (.lst xs)=>if xs.length<sizeLine then .ok .non (st.put n (.lst (xs++[y]))) else .stuck
     |_=>.stuck) Q:=q
    cases e:st.mu n with
    |none=>rw[e] at q;exact(show False from q).elim
    | some o =>
     cases o with
     |dct ks zs=>rw[e] at q;exact(show False from q).elim
     | lst zs =>
      rw[e] at q
      have q:au X ι st.nxt G (if zs.length<sizeLine then .ok .non (st.put n (.lst (zs++[y]))) else .stuck) Q:=q
      by_cases hl:zs.length<sizeLine
      ·rw[FJ hl] at q
       obtain⟨_,_,xs2,hH,t2⟩:=sr.live n _ e
       refine nH EF s σ H _ _ v us Q I rx rv ⟨ι n,xs2,x1,rfl,rfl,hH,by rw[t2.length];exact hl,?_⟩
       exact q .non ι G _ (Ext.refl _ _ _) (sr.putL e (t2.append (.cons r1 .nil))) .non
      ·rw[FK hl] at q;exact q.elim
 ·exact(show False from q).elim
noncomputable def xm:qw:=fun w ws st=>match w,ws with
 |.str x,[]=>if x.length<=5592405 then .ok (.str (PySem.Txt.upper x)) st else .stuck
 |_,_=>.stuck
theorem qQ:oz X "str.upper" (qr X xm):=by
 intro EF s σ H x xs v us Q I rx rv ⟨ι,G,st,w,ws,sr,r,t,q⟩
 unfold xm at q
 split at q
 ·rename_i z
  cases t
  cases rv
  cases r
  obtain⟨tk,rfl⟩:=(show ∃t,v=Value.str z t from rx)
  by_cases hl:z.length<=5592405
  ·rw[FJ hl] at q
   exact SCL.upper hl fun _=>⟨.str _,H,I.tok _,⟨_,rfl⟩,q _ ι G H (Ext.refl _ _ _) sr (.str _)⟩
  ·rw[FK hl] at q;exact q.elim
 ·exact(show False from q).elim
noncomputable def la:List W->Option (List Str)
 |[]=>some []
 |.str x::ws=>(la ws).map (x::·)
 |_=>none
theorem Hl{K:PySem.W.Frag}{ι:Nat->Addr}{N:Nat}{G:Hp}:∀{xs:List V}{ws:List W}{us:List Value}{ys:List Str},RelWs K ι N G xs ws->bc xs us->la ws=some ys->StrsAre us ys
 |_,_,_,_,.nil,.nil,h=>by cases h;exact .nil
 | _,_,_,_,.cons r t,.cons rv tv,h=>by
  rename_i x w xs ws u us
  cases w with
  | str z =>
   have h:(la ws).map (z::·)=some _:=h
   cases e:la ws with
   |none=>rw[e] at h;cases h
   |some zs =>
    rw[e] at h
    cases h
    cases r
    have ih:=Hl t tv e
    obtain⟨tk,e2⟩:=(show ∃t,u=Value.str z t from rv)
    cases e2
    exact .cons z tk ih
  |_=>cases h
noncomputable def xu:qw:=fun w ws st=>match w,ws with
 | .str x,[l]=>(match fb st l with
  |some zs=>(match la zs with
   |some ys=>if x.length<=16/\(ys.map (·.length)).sum+ys.length<=1048576 then .ok (.str (PySem.Txt.join x ys)) st else .stuck
   |none=>.stuck)
  |none=>.stuck)
 |_,_=>.stuck
theorem uZ:oz X "str.join" (qr X xu):=by
 intro EF s σ H x xs v us Q I rx rv ⟨ι,G,st,w,ws,sr,r,t,q⟩
 unfold xu at q
 split at q
 ·rename_i z l
  cases t with
  | @cons x1 _ xs1 _ r1 t1 =>
   cases t1
   cases r
   obtain⟨tk,ev⟩:=(show ∃t,v=Value.str z t from rx)
   subst ev
   obtain⟨u1,eu,ru⟩:=rv.one
   subst eu
   have q:au X ι st.nxt G (match fb st l with
    |some zs=>(match la zs with
     |some ys=>if z.length<=16/\(ys.map (·.length)).sum+ys.length<=1048576 then .ok (.str (PySem.Txt.join z ys)) st else .stuck
     |none=>.stuck)
    |none=>.stuck) Q:=q
   cases e1:fb st l with
   |none=>rw[e1] at q;exact(show False from q).elim
   | some zs =>
    rw[e1] at q
    have q:au X ι st.nxt G (match la zs with
     |some ys=>if z.length<=16/\(ys.map (·.length)).sum+ys.length<=1048576 then .ok (.str (PySem.Txt.join z ys)) st else .stuck
     |none=>.stuck) Q:=q
    cases e2:la zs with
    |none=>rw[e2] at q;exact(show False from q).elim
    | some ys =>
     rw[e2] at q
     have q:au X ι st.nxt G (if z.length<=16/\(ys.map (·.length)).sum+ys.length<=1048576 then .ok (.str (PySem.Txt.join z ys)) st else .stuck) Q:=q
     by_cases hl:z.length<=16/\(ys.map (·.length)).sum+ys.length<=1048576
     ·rw[FJ hl] at q
      have fin:∀t' k,EP X EF σ Q (.str (PySem.Txt.join z ys) t') { s with toks:=k }:=fun t' k=>⟨.str _,H,I.tok _,⟨t',rfl⟩,q _ ι G H (Ext.refl _ _ _) sr (.str _)⟩
      have lst:∀{a:Addr}{vs:List V},x1=.ref a->bx X.K H a vs->RelWs X.K ι st.nxt G vs zs->wpAny (model X.prog X.w) X.A (call (.builtin "str.join") [.str z tk,u1]) (EP X EF σ Q) X.xe s:=by
       intro a vs ex hq tt
       subst ex
       cases (show u1=Value.ref a from ru)
       obtain⟨its,tv,pl,_⟩:=I.list hq
       exact join_listW pl.isList (by simpa using Hl tt tv e2) hl.1 hl.2 fin
      cases r1 with
      |lst sq tt=>cases e1;exact lst rfl (sr.sub.seq sq) tt
      |tup sq cq tt =>
       cases e1
       cases (show u1=Value.ref _ from ru)
       obtain⟨its,tv,pl,_⟩:=I.tuple (sqT_same sr.sub sq)
       exact join_tupleW pl (by simpa using Hl tt tv e2) hl.1 hl.2 fin
      |@ref n hn =>
       obtain⟨vs,hq,tt⟩:=xc sr e1
       exact lst rfl hq tt
      |_=>cases e1
     ·rw[FK hl] at q;exact q.elim
 ·exact(show False from q).elim
structure Mth (X:Cx) (m:Str) (T id:String) (op:qw):Prop where
 hT:T = "str"\/T = "list"\/T = "dict"
 pa:PlainAttrs T
 slot:Slot T m id
 hty:typeOf (.builtin id)=pure (.type "method_descriptor")
 hm:oz X id (qr X op)
theorem nE:Mth X "upper" "str" "str.upper" xm:=⟨.inl rfl,F.plainAttrs_str,F.slot_str_upper,F.type_str_upper,qQ⟩
theorem qU:Mth X "join" "str" "str.join" xu:=⟨.inl rfl,F.plainAttrs_str,F.slot_str_join,F.type_str_join,uZ⟩
theorem kR:Mth X "append" "list" "list.append" kg:=⟨.inr (.inl rfl),F.plainAttrs_list,F.slot_list_append,F.type_list_append,nD⟩
end
section
variable {X:Cx}
noncomputable def xz:List W->Option (List V)
 |[]=>some []
 |w::ws=>match iw w,xz ws with
  |some v,some vs=>some (v::vs)
  |_,_=>none
theorem Tc{K:PySem.W.Frag}{ι:Nat->Addr}{N:Nat}{G:Hp}:∀{vs vs':List V}{ws:List W},RelWs K ι N G vs ws->xz ws=some vs'->vs=vs'/\vs.all jw=true
 |_,_,_,.nil,h=>by cases h;exact⟨rfl,rfl⟩
 | _,_,_,.cons (w:=w) (ws:=ws) r t,h=>by
  unfold xz at h
  cases e1:iw w with
  |none=>rw[e1] at h;cases h
  | some v1 =>
   cases e2:xz ws with
   |none=>rw[e1,e2] at h;cases h
   |some vs1 =>
    rw[e1,e2] at h
    cases h
    obtain⟨rfl,f1⟩:=pw r e1
    obtain⟨rfl,f2⟩:=Tc t e2
    exact⟨rfl,by rw[List.all_cons,f1,f2];rfl⟩
theorem Uj:∀{xs:List V}{us:List Value},bc xs us->xs.all jw=true->us.countP (sx x)=xs.countP fun y=>jh y x
 |_,_,.nil,_=>rfl
 |y::xs,u::us,.cons r t,f=>by
  rw[List.all_cons,FE] at f
  rw[List.countP_cons,List.countP_cons,Iq r f.1,Uj t f.2]
noncomputable def fg(st:S):W->Option (List W)
 |.lst xs=>some xs
 |.ref n=>MO.items (st.mu n)
 |_=>none
theorem zu{ι:Nat->Addr}{G H:Hp}{st:S}{v:V}{w:W}{zs:List W}(sr:SR X.K ι st G H)(r:RelW X.K ι st.nxt G v w)(h:fg st w=some zs):∃a xs,v=.ref a/\bx X.K H a xs/\RelWs X.K ι st.nxt G xs zs:=by
 cases r with
 |lst s t=>cases h;exact⟨_,_,rfl,sr.sub.seq s,t⟩
 |ref hn=>obtain⟨xs,h1,h2⟩:=xc sr h;exact⟨_,xs,rfl,h1,h2⟩
 |_=>cases h
noncomputable def c9(st:S)(w:W)(ws:List W):Option (List V×V):=match ws with
 | [y]=>(match fg st w with
  |some zs=>(match xz zs,iw y with
   |some vs,some v=>some (vs,v)
   |_,_=>none)
  |none=>none)
 |_=>none
noncomputable def Eu:qw:=fun w ws st=>match c9 st w ws with
 |some (vs,v)=>.ok (.int (vs.countP fun y=>jh y v:Nat)) st
 |none=>.stuck
theorem Qt{ι:Nat->Addr}{G H:Hp}{st:S}{x:V}{xs:List V}{w:W}{ws:List W}{vs:List V}{v:V}(sr:SR X.K ι st G H)(r:RelW X.K ι st.nxt G x w)(t:RelWs X.K ι st.nxt G xs ws)(h:c9 st w ws=some (vs,v)) :
  ∃a,x=.ref a/\xs=[v]/\bx X.K H a vs/\vs.all jw=true/\jw v=true:=by
 unfold c9 at h
 split at h
 ·rename_i y
  cases t with
  | @cons x1 _ xs1 _ r1 t1 =>
   cases t1
   cases e1:fg st w with
   |none=>rw[e1] at h;cases h
   | some zs =>
    rw[e1] at h
    have h:(match xz zs,iw y with
     |some vs,some v=>some (vs,v)
     |_,_=>none)=some (vs,v):=h
    cases e2:xz zs with
    |none=>rw[e2] at h;cases h
    | some vs1 =>
     cases e3:iw y with
     |none=>rw[e2,e3] at h;cases h
     |some v1 =>
      rw[e2,e3] at h
      cases h
      obtain⟨a,ys,rfl,hq,tt⟩:=zu sr r e1
      obtain⟨rfl,f1⟩:=Tc tt e2
      obtain⟨rfl,f2⟩:=pw r1 e3
      exact⟨a,rfl,rfl,hq,f1,f2⟩
 ·cases h
theorem qS:oz X "list.count" (qr X Eu):=by
 intro EF s σ H x xs v us Q I rx rv ⟨ι,G,st,w,ws,sr,r,t,q⟩
 unfold Eu at q
 cases e:c9 st w ws with
 |none=>rw[e] at q;exact(show False from q).elim
 |some p =>
  obtain⟨vs,y⟩:=p
  rw[e] at q
  obtain⟨a,rfl,rfl,hq,fs,fy⟩:=Qt sr r t e
  cases (show v=Value.ref a from rx)
  obtain⟨u,rfl,ru⟩:=rv.one
  obtain⟨its,tv,⟨⟨oc,od,odt,osl⟩,n,ho,hc,hd,hs⟩,_⟩:=I.list hq
  dsimp only at hc hd hs
  subst hc hd hs
  refine call_meets F.slot_list_count ⟨_,ho,rfl⟩ F.entry_list_count (F.args_list_count_2 _ _) (SeqAt.list_countAt a its.toArray n none osl u (sx y)) ⟨ho,fun w' hw=>Mb ru fy tv fs w' (by simpa using hw),?_⟩
  refine⟨.int _,H,I.tok _,⟨_,rfl⟩,?_⟩
  have e2:its.toArray.toList.countP (sx y)=vs.countP fun z=>jh z y:=by rw[show its.toArray.toList=its by simp];exact Uj tv fs
  rw[e2]
  exact q _ ι G H (Ext.refl _ _ _) sr (.int _)
noncomputable def ya(v:V):List V->Option Nat
 |[]=>none
 |x::xs=>if jh x v then some 0 else(ya v xs).map (· + 1)
theorem Uh:∀{xs:List V}{us:List Value}{j:Nat},bc xs us->xs.all jw=true->ya v xs=some j->∃h:j<us.length,sx v us[j]=true/\∀m (hm:m<us.length),m<j->sx v us[m]=false
 |_,_,_,.nil,_,h=>by cases h
 | x::xs,u::us,j,.cons r t,f,h=>by
  rw[List.all_cons,FE] at f
  unfold ya at h
  by_cases e:jh x v=true
  ·rw[FJ e] at h
   cases h
   exact⟨Nat.zero_lt_succ _,by show sx v u=true;rw[Iq r f.1];exact e,fun m _ hm=>absurd hm (Nat.not_lt_zero _)⟩
  ·rw[FK e] at h
   cases e2:ya v xs with
   |none=>rw[e2] at h;cases h
   |some j' =>
    rw[e2] at h
    cases h
    obtain⟨h1,h2,h3⟩:=Uh t f.2 e2
    refine⟨Nat.succ_lt_succ h1,h2,fun m hm hlt=>?_⟩
    cases m with
    |zero=>show sx v u=false;rw[Iq r f.1];simpa using e
    |succ m=>exact h3 m (Nat.lt_of_succ_lt_succ hm) (Nat.lt_of_succ_lt_succ hlt)
noncomputable def Et:qw:=fun w ws st=>match c9 st w ws with
 |some (vs,v)=>(match ya v vs with
  |some j=>.ok (.int (j:Nat)) st
  |none=>.stuck)
 |none=>.stuck
theorem qR:oz X "list.index" (qr X Et):=by
 intro EF s σ H x xs v us Q I rx rv ⟨ι,G,st,w,ws,sr,r,t,q⟩
 unfold Et at q
 cases e:c9 st w ws with
 |none=>rw[e] at q;exact(show False from q).elim
 | some p =>
  obtain⟨vs,y⟩:=p
  rw[e] at q
  have q:au X ι st.nxt G (match ya y vs with
   |some j=>.ok (.int (j:Nat)) st
   |none=>.stuck) Q:=q
  cases e2:ya y vs with
  |none=>rw[e2] at q;exact(show False from q).elim
  |some j =>
   rw[e2] at q
   obtain⟨a,rfl,rfl,hq,fs,fy⟩:=Qt sr r t e
   cases (show v=Value.ref a from rx)
   obtain⟨u,rfl,ru⟩:=rv.one
   obtain⟨its,tv,⟨⟨oc,od,odt,osl⟩,n,ho,hc,hd,hs⟩,hz⟩:=I.list hq
   dsimp only at hc hd hs
   subst hc hd hs
   obtain⟨h1,h2,h3⟩:=Uh tv fs e2
   have hl:its.length<=sizeLine:=by rw[<-tv.length];exact hz
   have hb:(sizeLine:Nat)<2 ^ 62:=by decide
   refine call_meets F.slot_list_index ⟨_,ho,rfl⟩ F.entry_list_index (F.args_list_index_2 _ _) (SeqAt.list_indexAt a its.toArray n none osl u (sx y) j (by simpa using h1) (by omega) (by simpa using h2) (fun m hm hlt=>by simpa using h3 m (by simpa using hm) hlt)) ⟨ho,fun w' hw=>Mb ru fy tv fs w' (by simpa using hw),?_⟩
   exact⟨.int _,H,I.tok _,⟨_,rfl⟩,q _ ι G H (Ext.refl _ _ _) sr (.int _)⟩
theorem nF:Mth X "index" "list" "list.index" Et:=⟨.inr (.inl rfl),F.plainAttrs_list,F.slot_list_index,F.type_list_index,qR⟩
theorem nG:Mth X "count" "list" "list.count" Eu:=⟨.inr (.inl rfl),F.plainAttrs_list,F.slot_list_count,F.type_list_count,qS⟩
end
theorem eT(l:Addr)(items:Array Value)(n:Nat)(b:Addr)(items2:Array Value)(n2:Nat)(sl2:Array (Option Value))(hc0:¬(!items.isEmpty&&Builtin.List.listTooLong (items.size+items2.size))=true)(hc1:items.size<=sizeLine)(hs2:items.size+items2.size<=sizeLine+1) :
  Meets (Builtin.«list.extend» ⟨[.ref l,.ref b],[]⟩) (fun _ R s=>s.heap.get? l=some { cls:=.type "list",dict:=none,data:=.seq items n,slots:=#[] }/\s.heap.get? b=some { cls:=.type "list",dict:=none,data:=.seq items2 n2,slots:=sl2 } /\
   R (.ok (.ret Value.none)) { s with heap:=s.heap.update l (Obj.mapSeq fun x=>x++items2),toks:=s.toks }):=
 .of_wp fun prog w A R s h=>by
  obtain⟨hp,g,d,tk,os⟩:=s;obtain⟨hl,hb,h⟩:=h;have f1:=AutoSeq1.idx_int;have f2:=AutoSeq1.sub_tuple_tuple;have f3:=AutoSeq1.sub_list_list;have f4:=AutoSeq1.sub_tuple_list;have f5:=AutoSeq1.sub_list_tuple
  have hz':(items++items2).size<=sizeLine+1:=by rw[Array.size_append];exact hs2
  wp_walk using (wpAny_updateSeq hl rfl (hz:=hc1) (_hz':=hz')),AutoSeq1.wpAny_loadPart' hl,AutoSeq1.wpAny_loadPart' hb
  exact⟨_,rfl,h⟩
section
variable {X:Cx}
noncomputable def xj:qw:=fun w ws st=>match w,ws with
 |.ref n,[l]=>(match st.mu n,fg st l with
  |some (.lst xs),some zs=>if xs.length+zs.length<=sizeLine then .ok .non (st.put n (.lst (xs++zs))) else .stuck
  |_,_=>.stuck)
 |_,_=>.stuck
theorem nC:oz X "list.extend" (qr X xj):=by
 intro EF s σ H x xs v us Q I rx rv ⟨ι,G,st,w,ws,sr,r,t,q⟩
 unfold xj at q
 split at q
 ·rename_i n l
  cases t with
  | @cons x1 _ xs1 _ r1 t1 =>
   cases t1
   cases r with
   | ref hn =>
    have q:au X ι st.nxt G (match st.mu n,fg st l with
     |some (.lst xs),some zs=>if xs.length+zs.length<=sizeLine then .ok .non (st.put n (.lst (xs++zs))) else .stuck
     |_,_=>.stuck) Q:=q
    cases e:st.mu n with
    |none=>rw[e] at q;exact(show False from q).elim
    | some o =>
     cases o with
     |dct ks zs=>rw[e] at q;exact(show False from q).elim
     | lst ys =>
      cases e2:fg st l with
      |none=>rw[e,e2] at q;exact(show False from q).elim
      | some zs =>
       rw[e,e2] at q
       have q:au X ι st.nxt G (if ys.length+zs.length<=sizeLine then .ok .non (st.put n (.lst (ys++zs))) else .stuck) Q:=q
       by_cases hl:ys.length+zs.length<=sizeLine
       ·rw[FJ hl] at q
        obtain⟨_,_,xs2,hH,t2⟩:=sr.live n _ e
        obtain⟨b,xs3,rfl,hq,t3⟩:=zu sr r1 e2
        cases (show v=Value.ref (ι n) from rx)
        obtain⟨u,rfl,ru⟩:=rv.one
        cases (show u=Value.ref b from ru)
        obtain⟨z,its,m,tv,hlen,ho⟩:=I.lstM hH
        obtain⟨its2,tv2,⟨⟨oc,od,odt,osl⟩,m2,ho2,hc,hd,hs⟩,hz2⟩:=I.list hq
        dsimp only at hc hd hs
        subst hc hd hs
        have l1:its.length=ys.length:=by rw[<-tv.length,t2.length]
        have l2:its2.length=zs.length:=by rw[<-tv2.length,t3.length]
        have hsz:its.toArray.size+its2.toArray.size<=sizeLine:=by rw[EM,EM];omega
        have hlong:¬(!its.toArray.isEmpty&&Builtin.List.listTooLong (its.toArray.size+its2.toArray.size))=true:=by
         rw[Vz hsz,Bool.and_false]
         exact EG
        refine call_meets F.slot_list_extend ⟨_,ho,rfl⟩ F.entry_list_extend (F.args_list_extend_2 _ _) (eT (ι n) its.toArray m b its2.toArray m2 osl hlong (by omega) (by omega)) ⟨ho,ho2,?_⟩
        refine⟨.non,_,I.lset (its':=its++its2) hH ho (by simp) (tv.append tv2) ?_,rfl,?_⟩
        ·rw[ES,t2.length,t3.length];exact hl
        ·exact q .non ι G _ (Ext.refl _ _ _) (sr.putL e (t2.append t3)) .non
       ·rw[FK hl] at q;exact q.elim
 ·exact(show False from q).elim
theorem kQ:Mth X "extend" "list" "list.extend" xj:=⟨.inr (.inl rfl),F.plainAttrs_list,F.slot_list_extend,F.type_list_extend,nC⟩
end
section
variable {X:Cx}
end
section
variable {X:Cx}
noncomputable def jy:W->Option be
 |.int i=>some (.inl i)
 |.str x=>some (.inr x)
 |_=>none
def ve(_:Hp)(v:V)(k:dy):Prop:=v=kV k
theorem ve.mono(h:ve H v k)(_:im H H'):ve H' v k:=h
theorem ve.get(e:H a=some (kr kvs))(h:ve H v k):sv H a v (jc kvs k):=by cases h;exact sv.k e
theorem ve.put(e:H a=some (kr kvs))(hl:kvs.length<sizeLine)(h:ve H v k):i7 H a v y (upd H a (kr (jn kvs k y))):=by cases h;exact i7.k e hl
def gy:List dy->List W->dy->Option W
 |k::ks,w::ws,j=>if k=j then some w else gy ks ws j
 |_,_,_=>none
def jk(st:S):W->Option (List dy×List W)
 |.dct ks ws=>some (ks,ws)
 |.ref n=>(match st.mu n with
  |some (.dct ks ws)=>some (ks,ws)
  |_=>none)
 |_=>none
theorem c8{K:PySem.W.Frag}{ι:Nat->Addr}{N:Nat}{G:Hp}{v:V}{w:W}{k:dy}(r:RelW K ι N G v w)(h:jy w=some k):ve G v k:=by
 cases r<;>first|(cases h;rfl)|(cases h;done)
theorem valW_rel{K:PySem.W.Frag}{ι:Nat->Addr}{N:Nat}{G:Hp}{k:dy}:∀{ks:List dy}{xs:List V}{ws:List W},RelWs K ι N G xs ws->xs.length=ks.length ->
  (jc (ks.zip xs) k=none/\gy ks ws k=none)\/∃v w,jc (ks.zip xs) k=some v/\gy ks ws k=some w/\RelW K ι N G v w
 |[],_,_,_,_=>.inl ⟨rfl,by unfold gy;rfl⟩
 |j::ks,[],_,_,h=>by cases h
 | j::ks,x::xs,_,.cons r t,h=>by
  by_cases e:j=k
  ·refine .inr ⟨x,_,?_,?_,r⟩
   ·exact Hr (p:=(j,x)) e
   ·unfold gy;rw[FJ e]
  ·have e1:jc ((j::ks).zip (x::xs)) k=jc (ks.zip xs) k:=Hs (p:=(j,x)) e
   rcases valW_rel (k:=k) t (by simpa using h) with⟨h1,h2⟩|⟨v,w,h1,h2,h3⟩
   ·exact .inl ⟨e1.trans h1,by unfold gy;rw[FK e];exact h2⟩
   ·exact .inr ⟨v,w,e1.trans h1,by unfold gy;rw[FK e];exact h2,h3⟩
theorem a8{ι:Nat->Addr}{G H:Hp}{st:S}{v:V}{w:W}{ks:List dy}{ws:List W}(sr:SR X.K ι st G H)(r:RelW X.K ι st.nxt G v w)(h:jk st w=some (ks,ws)):∃a xs,v=.ref a/\H a=some (kr (ks.zip xs))/\xs.length=ks.length/\RelWs X.K ι st.nxt G xs ws:=by
 cases r with
 |@dct a xs _ _ s l t=>cases h;exact⟨a,xs,rfl,sr.sub _ _ s,l,t⟩
 | @ref n hn =>
  have h:(match st.mu n with
   |some (.dct ks ws)=>some (ks,ws)
   |_=>none)=some (ks,ws):=h
  cases e:st.mu n with
  |none=>rw[e] at h;cases h
  | some o =>
   rw[e] at h
   cases o with
   |lst zs=>cases h
   |dct ks' zs =>
    cases h
    obtain⟨_,_,xs,h1,h2,h3⟩:=sr.live n _ e
    exact⟨ι n,xs,rfl,h1,h2,h3⟩
 |_=>cases h
noncomputable def ul(st:S)(a b:W):Option Bool:=match jy a,jk st b with
 |some k,some (ks,ws)=>some (gy ks ws k).isSome
 |_,_=>none
theorem Uc{ι:Nat->Addr}{G H:Hp}{st:S}{x y:V}{w1 w2:W}{b:Bool}(sr:SR X.K ι st G H)(r1:RelW X.K ι st.nxt G x w1)(r2:RelW X.K ι st.nxt G y w2)(h:ul st w1 w2=some b):∃a o,y=.ref a/\sv H a x o/\o.isSome=b:=by
 unfold ul at h
 cases e1:jy w1 with
 |none=>rw[e1] at h;cases h
 | some k =>
  cases e2:jk st w2 with
  |none=>rw[e1,e2] at h;cases h
  |some p =>
   obtain⟨ks,ws⟩:=p
   rw[e1,e2] at h
   cases h
   obtain⟨a,xs,rfl,hH,hl,t⟩:=a8 sr r2 e2
   refine⟨a,_,rfl,((c8 r1 e1).mono sr.sub).get hH,?_⟩
   rcases valW_rel (k:=k) t hl with⟨h1,h2⟩|⟨v,w,h1,h2,_⟩
   ·rw[h1,h2];rfl
   ·rw[h1,h2];rfl
noncomputable def Zj:W->Bool
 |.str _=>true
 |_=>false
noncomputable def g8(st:S)(a b:W):Bool:=(jk st a).isSome&&(match b with
 |.tup ys=>ys.all Zj
 |_=>false)
noncomputable def cn:dm:=fun a b st=>match ul st a b with
 |some c=>.ok (.bl c) st
 |none=>if g8 st a b=true then .ok (.bl false) st else aE a b st
noncomputable def mv:dm:=fun a b st=>match ul st a b with
 |some c=>.ok (.bl (!c)) st
 |none=>Hv a b st
theorem Wt{K:PySem.W.Frag}{ι:Nat->Addr}{N:Nat}{G:Hp}:∀{xs:List V}{ys:List W}{us:List Value},RelWs K ι N G xs ys->ys.all Zj=true->bc xs us->∀u∈us,∃z t,u=Value.str z t
 |_,_,_,.nil,_,.nil,u,hu=>by cases hu
 | _,_,_,.cons r t,h,.cons q p,u,hu=>by
  rw[List.all_cons,FE] at h
  rcases List.mem_cons.mp hu with rfl|hu
  ·cases r with
   |str z=>obtain⟨t,e⟩:=q;exact⟨z,t,e⟩
   |_=>exact absurd (show false=true from h.1) EG
  ·exact Wt t h.2 p u hu
theorem qK(hu:X.A.units+64<cLine){EF:List (Addr×Obj)}{s:Shared}{σ:St}{H:Hp}{ι:Nat->Addr}{G:Hp}{st:S}{x y:V}{w1 w2:W}{v u:Value}{Q:VK}(I:Inv X EF σ H s)(sr:SR X.K ι st G H)(rx:az x v)(ry:az y u)(r1:RelW X.K ι st.nxt G x w1)(r2:RelW X.K ι st.nxt G y w2)(hd:g8 st w1 w2=true)(q:Q (.bl false) H) :
  wpAny (model X.prog X.w) X.A (compareOp .In v u) (EP X EF σ Q) X.xe s:=by
 unfold g8 at hd
 rw[FE] at hd
 obtain⟨h1,h2⟩:=hd
 cases e:jk st w1 with
 |none=>rw[e] at h1;cases h1
 | some p =>
  obtain⟨ks,ws⟩:=p
  obtain⟨a,xs,rfl,hH,_,_⟩:=a8 sr r1 e
  cases (show v=Value.ref a from rx)
  cases r2 with
  | @tup b zs ys s2 c2 t2 =>
   cases (show u=Value.ref b from ry)
   obtain⟨its,r,pl,hz⟩:=I.tuple (sqT_same sr.sub s2)
   obtain⟨_,_,vs,_,o,es,ep,g1,g2,g3,_⟩:=(show gm X.prog X.w H s.heap a (kr (ks.zip xs)) from I.hok a _ hH)
   refine SeqAt.in_tupleAt (fun _=>false) pl (fun w hw=>?_) ⟨.bl false,H,I,?_,q⟩
   ·obtain⟨z,t,rfl⟩:=Wt t2 h2 r w (by simpa using hw)
    exact iT z t g1 g2.1 g3 (by show X.A.units+1<cLine;omega)
   ·show Value.bool (its.toArray.any fun _=>false)=Value.bool false
    simp
  |_=>exact absurd (show false=true from h2) EG
theorem yY(hu:X.A.units+64<cLine):fi X (compareOp .In) cn:=by
 intro EF s σ H ι G st x y w1 w2 v u Q I sr rx ry r1 r2 q
 unfold cn at q
 cases e:ul st w1 w2 with
 |none =>
  rw[e] at q
  by_cases hd:g8 st w1 w2=true
  ·exact qK hu I sr rx ry r1 r2 hd (by have q:au X ι st.nxt G (if g8 st w1 w2=true then _ else _) Q:=q;rw[FJ hd] at q;exact q _ ι G H (Ext.refl _ _ _) sr (.bl false))
  ·have q:au X ι st.nxt G (if g8 st w1 w2=true then _ else _) Q:=q;rw[FK hd] at q;exact uR hu EF s σ H ι G st x y w1 w2 v u Q I sr rx ry r1 r2 q
 |some c =>
  rw[e] at q
  obtain⟨a,o,rfl,g,ho⟩:=Uc sr r1 r2 e
  cases (show u=Value.ref a from ry)
  refine d_in (by omega) I g rx fun s' I'=>?_
  rw[ho]
  exact⟨.bl c,H,I',rfl,q (.bl c) ι G H (Ext.refl _ _ _) sr (.bl c)⟩
theorem mX(hu:X.A.units+64<cLine):fi X (compareOp .NotIn) mv:=by
 intro EF s σ H ι G st x y w1 w2 v u Q I sr rx ry r1 r2 q
 unfold mv at q
 cases e:ul st w1 w2 with
 |none=>rw[e] at q;exact kM hu EF s σ H ι G st x y w1 w2 v u Q I sr rx ry r1 r2 q
 |some c =>
  rw[e] at q
  obtain⟨a,o,rfl,g,ho⟩:=Uc sr r1 r2 e
  cases (show u=Value.ref a from ry)
  refine wI (by omega) I g rx fun s' I'=>?_
  rw[ho]
  exact⟨.bl (!c),H,I',rfl,q (.bl (!c)) ι G H (Ext.refl _ _ _) sr (.bl (!c))⟩
noncomputable def ak:dm:=fun a b st=>match jk st a,jy b with
 |some (ks,ws),some k=>(match gy ks ws k with
  |some w=>.ok w st
  |none=>.stuck)
 |_,_=>vw a b st
theorem yN(hu:X.A.units+1<cLine)(ha:PD X a ra)(hb:PD X b rb)(hs:Fx b)(hix:PD X (.Subscript a b pos) (ae ra rb vw)):PD X (.Subscript a b pos) (ae ra rb ak):=by
 intro EF s σ H Q I h
 obtain⟨ι,G,st,Γ,en,sr,q⟩:=h
 have ch:(∃w1 st1 w2 st2 ks ws k,ra Γ st=.ok w1 st1/\rb Γ st1=.ok w2 st2/\jk st2 w1=some (ks,ws)/\jy w2=some k)\/ae ra rb ak Γ st=ae ra rb vw Γ st:=by
  unfold ae
  cases e1:ra Γ st with
  |stuck=>exact .inr rfl
  |ex c s=>exact .inr rfl
  | ok w1 st1 =>
   cases e2:rb Γ st1 with
   |stuck=>refine .inr ?_;show(rb Γ st1).bind _=(rb Γ st1).bind _;rw[e2];rfl
   |ex c s=>refine .inr ?_;show(rb Γ st1).bind _=(rb Γ st1).bind _;rw[e2];rfl
   | ok w2 st2 =>
    cases e3:jk st2 w1 with
    |none =>
     refine .inr ?_
     show(rb Γ st1).bind _=(rb Γ st1).bind _
     rw[e2]
     show ak w1 w2 st2=vw w1 w2 st2
     unfold ak;rw[e3]
    | some p =>
     obtain⟨ks,ws⟩:=p
     cases e4:jy w2 with
     |none =>
      refine .inr ?_
      show(rb Γ st1).bind _=(rb Γ st1).bind _
      rw[e2]
      show ak w1 w2 st2=vw w1 w2 st2
      unfold ak;rw[e3,e4]
     |some k=>exact .inl ⟨w1,st1,w2,st2,ks,ws,k,rfl,e2,e3,e4⟩
 rcases ch with⟨w1,st1,w2,st2,ks,ws,k,e1,e2,e3,e4⟩|ch
 ·refine tS hu ha hb hs EF s σ H Q I ⟨ι,G,st,Γ,en,sr,au.bind q fun w1' st1' v1 ι1 G1 H1 e1' x1 sr1 r1 q1=>⟨ι1,G1,st1',Γ,en.mono x1,sr1,au.bind q1 fun w2' st2' v2 ι2 G2 H2 e2' x2 sr2 r2 q2=>?_⟩⟩
  rw[e1] at e1';cases e1'
  rw[e2] at e2';cases e2'
  obtain⟨a,xs,rfl,hH,hl,t⟩:=a8 sr2 (r1.mono x2) e3
  unfold ak at q2
  rw[e3,e4] at q2
  have q3:au X ι2 st2.nxt G2 (match gy ks ws k with
   |some w=>.ok w st2
   |none=>.stuck) Q:=q2
  rcases valW_rel (k:=k) t hl with⟨h1,h2⟩|⟨v,w,h1,h2,h3⟩
  ·rw[h2] at q3;exact(show False from q3).elim
  ·rw[h2] at q3
   refine⟨a,v,rfl,?_,q3 v ι2 G2 H2 (Ext.refl _ _ _) sr2 h3⟩
   rw[<-h1]
   exact((c8 r2 e4).mono sr2.sub).get hH
 ·exact hix EF s σ H Q I ⟨ι,G,st,Γ,en,sr,by rw[<-ch];exact q⟩
end
def KD(P:Program)(w:World)(K:PySem.W.Frag)(a:Addr)(kvs:List (be×V)):Prop:=
 (a == sysModules)=false/\∃(o:Obj)(vs:List (be×Value)),K.lookup a=some o/\KV kvs vs/\∀h:Heap,h.get? a=some o->h.DictOf (jb P w) a vs
def pc(P:Program)(w:World)(K:PySem.W.Frag)(mg:Str->Option Value)(x:Str)(ks:List be)(ws:List W):Prop:=
 ∃a xs,mg x=some (.ref a)/\KD P w K a (ks.zip xs)/\xs.length=ks.length/\∀ι N G,RelWs K ι N G xs ws
section
variable {X:Cx}
theorem KD.here(d:KD X.prog X.w X.K a kvs)(I:Inv X EF σ H s):(a == sysModules)=false/\∃vs,KV kvs vs/\s.heap.DictOf (jb X.prog X.w) a vs:=by
 obtain⟨h1,o,vs,hl,kv,hd⟩:=d
 exact⟨h1,vs,kv,hd _ (I.kIn a o hl)⟩
def On(a:Addr)(kvs:List (be×V))(neg:Bool):R2:=fun x y H Q=>y=.ref a/\∃k,x=kV k/\Q (.bl ((jc kvs k).isSome != neg)) H
theorem Zf(d:KD X.prog X.w X.K a kvs):fc X (compareOp .In) (On a kvs false):=by
 intro EF s σ H x y v u Q I rx ry ⟨ey,k,ex,q⟩
 subst ey ex
 cases (show u=Value.ref a from ry)
 obtain⟨hd,vs,rel,dd⟩:=d.here I
 refine wpAny_in_of (uk rx) hd dd.mapOf ?_
 rw[<-(rel.val k).isSome_eq]
 refine⟨.bl _,H,I.tok _,?_,q⟩
 cases (jc kvs k).isSome<;>rfl
theorem Tv(d:KD X.prog X.w X.K a kvs):fc X (compareOp .NotIn) (On a kvs true):=by
 intro EF s σ H x y v u Q I rx ry ⟨ey,k,ex,q⟩
 subst ey ex
 cases (show u=Value.ref a from ry)
 obtain⟨hd,vs,rel,dd⟩:=d.here I
 refine wpAny_notIn_of (uk rx) hd dd.mapOf ?_
 rw[<-(rel.val k).isSome_eq]
 refine⟨.bl _,H,I.tok _,?_,q⟩
 cases (jc kvs k).isSome<;>rfl
noncomputable def nc(ks:List be)(ws:List W)(neg:Bool):W->S->R W:=fun w st=>match jy w with
 |some k=>.ok (.bl ((gy ks ws k).isSome != neg)) st
 |none=>.stuck
noncomputable def Fb(ks:List be)(ws:List W):W->S->R W:=fun w st=>match jy w with
 |some k=>(match gy ks ws k with
  |some u=>.ok u st
  |none=>.stuck)
 |none=>.stuck
theorem Ik(hl:xs.length=ks.length)(ht:∀ι N G,RelWs X.K ι N G xs ws)(h:tD X (bb ra (nc ks ws neg)) σ H Q):i8 (On a (ks.zip xs) neg) (tD X ra) (tC (.ref a)) σ H Q:=by
 obtain⟨ι,G,st,Γ,en,sr,q⟩:=h
 refine⟨ι,G,st,Γ,en,sr,au.bind q fun w st1 v ι1 G1 H1 _ e1 sr1 r1 q1=>?_⟩
 refine⟨rfl,?_⟩
 unfold nc at q1
 cases ek:jy w with
 |none=>rw[ek] at q1;exact(show False from q1).elim
 | some k =>
  rw[ek] at q1
  refine⟨k,c8 r1 ek,?_⟩
  have e:(jc (ks.zip xs) k).isSome=(gy ks ws k).isSome:=by
   rcases valW_rel (k:=k) (ht ι1 st1.nxt G1) hl with⟨h1,h2⟩|⟨v,w,h1,h2,_⟩<;>rw[h1,h2]<;>rfl
  rw[e]
  exact q1 _ ι1 G1 H1 (Ext.refl _ _ _) sr1 (.bl _)
theorem yQ(D:pc X.prog X.w X.K X.mg x ks ws)(hg:Gl X x)(hd:(x == ("__debug__" : Str))=false)(ha:PD X e ra):PD X (.Compare e [.In] [.Name x p] pos) (bb ra (nc ks ws false)):=by
 obtain⟨a,xs,hm,d,hl,ht⟩:=D
 exact PE.imp (Mp (Zf d) ha (xl (v:=.ref a) hg hm rfl hd) rfl) fun _ _ _ h=>Ik hl ht h
theorem mU(D:pc X.prog X.w X.K X.mg x ks ws)(hg:Gl X x)(hd:(x == ("__debug__" : Str))=false)(ha:PD X e ra):PD X (.Compare e [.NotIn] [.Name x p] pos) (bb ra (nc ks ws true)):=by
 obtain⟨a,xs,hm,d,hl,ht⟩:=D
 exact PE.imp (Mp (Tv d) ha (xl (v:=.ref a) hg hm rfl hd) rfl) fun _ _ _ h=>Ik hl ht h
theorem tW(D:pc X.prog X.w X.K X.mg x ks ws)(hg:Gl X x)(hd:(x == ("__debug__" : Str))=false)(ha:PD X e ra):PT X (.Compare e [.In] [.Name x p] pos) (gz X (bb ra (nc ks ws false))):=by
 obtain⟨a,xs,hm,d,hl,ht⟩:=D
 exact PT.imp (Mo (Zf d) ha (xl (v:=.ref a) hg hm rfl hd) rfl) fun _ _ _ h=>Ik hl ht h
theorem kH(D:pc X.prog X.w X.K X.mg x ks ws)(hg:Gl X x)(hd:(x == ("__debug__" : Str))=false)(ha:PD X e ra):PT X (.Compare e [.NotIn] [.Name x p] pos) (gz X (bb ra (nc ks ws true))):=by
 obtain⟨a,xs,hm,d,hl,ht⟩:=D
 exact PT.imp (Mo (Tv d) ha (xl (v:=.ref a) hg hm rfl hd) rfl) fun _ _ _ h=>Ik hl ht h
theorem uL(D:pc X.prog X.w X.K X.mg x ks ws)(hg:Gl X x)(hd:(x == ("__debug__" : Str))=false)(hi:PD X i ri)(hs:Fx i):PD X (.Subscript (.Name x p) i pos) (bb ri (Fb ks ws)):=by
 obtain⟨a,xs,hm,d,hl,ht⟩:=D
 intro EF s σ H Q I h
 obtain⟨ι,G,st,Γ,en,sr,q⟩:=h
 have ho:PE X (.Name x p) (tC (.ref a)):=xl hg hm rfl hd
 have q':tD X ri σ H fun v1 H1=>∃k y,v1=kV k/\jc (ks.zip xs) k=some y/\Q y H1:=by
  refine⟨ι,G,st,Γ,en,sr,au.bind q fun w st1 v ι1 G1 H1 _ e1 sr1 r1 q1=>?_⟩
  unfold Fb at q1
  cases ek:jy w with
  |none=>rw[ek] at q1;exact(show False from q1).elim
  | some k =>
   rw[ek] at q1
   have q2:au X ι1 st1.nxt G1 (match gy ks ws k with
    |some u=>.ok u st1
    |none=>.stuck) Q:=q1
   rcases valW_rel (k:=k) (ht ι1 st1.nxt G1) hl with⟨h1,h2⟩|⟨y,u,h1,h2,h3⟩
   ·rw[h2] at q2;exact(show False from q2).elim
   ·rw[h2] at q2
    exact⟨k,y,c8 r1 ek,h1,q2 y ι1 G1 H1 (Ext.refl _ _ _) sr1 h3⟩
 refine Ws PySem.F.slot_dict_getitem.lookup hs (bj (ho EF s σ H (fun v0 H1=>v0=.ref a/\tD X ri σ H1 fun v1 H2=>∃k y,v1=kV k/\jc (ks.zip xs) k=some y/\Q y H2) I ⟨rfl,q'⟩) fun u s1 ⟨v0,H1,I1,rx,e0,q1⟩=>bj (hi EF s1 σ H1 _ I1 q1) fun iv s2 ⟨v1,H2,I2,ry,k,y,ek,hy,q2⟩=>?_)
 subst e0
 subst ek
 cases (show u=Value.ref a from rx)
 obtain⟨_,vs,rel,dd⟩:=d.here I2
 obtain⟨w',hw,rw'⟩:=ow.some_of (v:=y) (o:=valueAt vs k) (by rw[<-hy];exact rel.val k)
 exact⟨dd.typeIs,wpAny_getItem_of (uk ry) dd.mapOf hw ⟨y,H2,I2.tok _,rw',q2⟩⟩
end
section
variable {K:PySem.W.Frag} {ι:Nat->Addr} {st:S} {G H:Hp}
theorem Xm(h:SR K ι st G H)(e:st.mu n=some o):H (ι n)≠none:=by
 intro z
 obtain⟨_,_,h3⟩:=h.live n o e
 cases o with
 |lst ws=>obtain⟨xs,q,_⟩:=h3;rw[z] at q;cases q
 |dct ks ws=>obtain⟨xs,q,_⟩:=h3;rw[z] at q;cases q
theorem nn.upd(m:nn K ι N G H a o)(hne:a≠p):nn K ι N G (upd H p u) a o:=by
 cases o with
 |lst ws=>obtain⟨xs,q,r⟩:=m;exact⟨xs,by rw[du hne];exact q,r⟩
 |dct ks ws=>obtain⟨xs,q,l,r⟩:=m;exact⟨xs,by rw[du hne];exact q,l,r⟩
theorem SR.grow(h:SR K ι st G H)(hp:H p=none):SR K ι st G (upd H p u):=by
 have hG:G p=none:=h.sub.free hp
 refine⟨fun b v e=>by rw[du (lj e hG)];exact h.sub b v e,fun n o e=>?_,h.inj⟩
 obtain⟨h1,h2,h3⟩:=h.live n o e
 exact⟨h1,h2,h3.upd fun z=>Xm h e (by rw[z];exact hp)⟩
theorem SR.newO(h:SR K ι st G H)(hp:H p=none)(m:nn K ι st.nxt G (upd H p u) p o):∃ι',Ext ι st.nxt G ι' (st.nxt+1) G/\SR K ι' (st.new o) G (upd H p u)/\ι' st.nxt=p:=
 (h.grow hp).adopt (h.sub.free hp) (fun m o e z=>Xm h e (by rw[z];exact hp)) m
theorem SR.putO(h:SR K ι st G H)(hn:st.mu n=some o)(m:nn K ι st.nxt G (L2.upd H (ι n) u) (ι n) o'):SR K ι (st.put n o') G (L2.upd H (ι n) u):=by
 obtain⟨h1,h2,_⟩:=h.live n o hn
 have old:∀a q,(st.put n o').mu a=some q->∃q',st.mu a=some q':=fun a q e=>by
  have e:(if a=n then some o' else st.mu a)=some q:=e
  by_cases z:a=n
  ·exact⟨o,by rw[z];exact hn⟩
  ·rw[FK z] at e;exact⟨q,e⟩
 refine⟨fun b v e=>by rw[du (lj e h2)];exact h.sub b v e,fun a q e=>?_,fun a b q q' e e' z=>?_⟩
 ·have e':(if a=n then some o' else st.mu a)=some q:=e
  by_cases ha:a=n
  ·subst ha
   rw[FJ rfl] at e'
   cases e'
   exact⟨h1,h2,m⟩
  ·rw[FK ha] at e'
   obtain⟨g1,g2,g3⟩:=h.live a q e'
   exact⟨g1,g2,g3.upd fun z=>ha (h.inj a n q o e' hn z)⟩
 ·obtain⟨q1,l1⟩:=old a q e
  obtain⟨q2,l2⟩:=old b q' e'
  exact h.inj a b q1 q2 l1 l2 z
end
def Fn(k:dy)(v:W):List dy->List W->List W
 |j::ks,w::ws=>(if j=k then v else w)::Fn k v ks ws
 |_,_=>[]
def uu(k:dy)(ks:List dy):Bool:=ks.any fun j=>decide (j=k)
def ic(ks:List dy)(ws:List W)(k:dy)(v:W):List dy×List W:=if uu k ks=true then(ks,Fn k v ks ws) else(ks++[k],ws++[v])
def yd(k:dy)(v:V):List dy->List V->List V
 |j::ks,w::ws=>(if j=k then v else w)::yd k v ks ws
 |_,_=>[]
theorem Vs{K:PySem.W.Frag}{ι:Nat->Addr}{N:Nat}{G:Hp}{k:dy}{v:V}{w:W}(r:RelW K ι N G v w):∀{ks:List dy}{xs:List V}{ws:List W},RelWs K ι N G xs ws->xs.length=ks.length ->
  RelWs K ι N G (yd k v ks xs) (Fn k w ks ws)/\(yd k v ks xs).length=ks.length/\(ks.zip xs).map (fun kv=>if kv.1=k then(kv.1,v) else kv)=ks.zip (yd k v ks xs)
 |[],[],_,.nil,_=>⟨.nil,rfl,rfl⟩
 | j::ks,x::xs,_,.cons r1 t,h=>by
  obtain⟨h1,h2,h3⟩:=Vs (k:=k) r t (by simpa using h)
  refine⟨?_,?_,?_⟩
  ·by_cases e:j=k
   ·show RelWs K ι N G ((if j=k then v else x)::_) ((if j=k then w else _)::_)
    rw[FJ e,FJ e];exact .cons r h1
   ·show RelWs K ι N G ((if j=k then v else x)::_) ((if j=k then w else _)::_)
    rw[FK e,FK e];exact .cons r1 h1
  ·show(yd k v ks xs).length+1=ks.length+1
   rw[h2]
  ·show(if j=k then(j,v) else(j,x))::(ks.zip xs).map (fun kv=>if kv.1=k then(kv.1,v) else kv)=(j,if j=k then v else x)::ks.zip (yd k v ks xs)
   rw[h3]
   by_cases e:j=k<;>simp[e]
 |[],_::_,_,_,h=>by cases h
 |_::_,[],_,_,h=>by cases h
theorem Ym:∀{ks:List dy}{xs:List V},xs.length=ks.length->((ks.zip xs).any fun kv=>decide (kv.1=k))=uu k ks
 |[],_,_=>by simp[uu]
 |j::ks,[],h=>by cases h
 |j::ks,x::xs,h=>by
  have ih:=Ym (k:=k) (ks:=ks) (xs:=xs) (by simpa using h)
  rw[List.zip_cons_cons,List.any_cons,ih]
  unfold uu
  rw[List.any_cons]
theorem Xb{K:PySem.W.Frag}{ι:Nat->Addr}{N:Nat}{G:Hp}{k:dy}{v:V}{w:W}{ks:List dy}{xs:List V}{ws:List W}(r:RelW K ι N G v w)(t:RelWs K ι N G xs ws)(h:xs.length=ks.length) :
  ∃xs',jn (ks.zip xs) k v=(ic ks ws k w).1.zip xs'/\xs'.length=(ic ks ws k w).1.length/\RelWs K ι N G xs' (ic ks ws k w).2:=by
 unfold jn ic
 rw[Ym h]
 by_cases hk:uu k ks=true
 ·rw[FJ hk,FJ hk]
  obtain⟨h1,h2,h3⟩:=Vs (k:=k) r t h
  exact⟨yd k v ks xs,h3,h2,h1⟩
 ·rw[FK hk,FK hk]
  refine⟨xs++[v],?_,by simp[h],t.append (.cons r .nil)⟩
  rw[List.zip_append h.symm];rfl
section
variable {X:Cx}
def se:am:=fun _ st=>.ok (.ref st.nxt) (st.new (.dct [] []))
theorem nB{ι:Nat->Addr}{G H:Hp}{st:S}{ks:List dy}{xs:List V}{ws:List W}{p:Addr}{Q:VK}(sr:SR X.K ι st G H)(t:RelWs X.K ι st.nxt G xs ws)(hl:xs.length=ks.length)(hp:H p=none)(q:au X ι st.nxt G (.ok (.ref st.nxt) (st.new (.dct ks ws))) Q):Q (.ref p) (upd H p (kr (ks.zip xs))):=by
 obtain⟨ι',e2,s2,ep⟩:=sr.newO (o:=.dct ks ws) (u:=kr (ks.zip xs)) hp ⟨xs,iz,hl,t⟩
 have q':=q (.ref p) ι' G (upd H p (kr (ks.zip xs))) e2 s2
 rw[<-ep] at q' ⊢
 exact q' (.ref (Nat.lt_succ_self _))
theorem qB{pos:Pos}:PD X (.Dict [] [] pos) se:=by
 refine PE.imp pT fun σ H Q h=>?_
 obtain⟨ι,G,st,Γ,en,sr,q⟩:=h
 intro p hp
 exact nB (ks:=[]) (xs:=[]) sr .nil rfl hp q
noncomputable def qc:qw:=fun w ws st=>match w,ws with
 | .ref n,[k,d]=>(match st.mu n,jy k with
  |some (.dct ks vs),some k=>(match gy ks vs k with
   |some v=>.ok v st
   |none=>if ks.length<sizeLine then .ok d (st.put n (.dct (ic ks vs k d).1 (ic ks vs k d).2)) else .stuck)
  |_,_=>.stuck)
 |_,_=>.stuck
theorem jR{k:dy}(r:KV kvs vs)(h:az v u):KV (jn kvs k v) (stored vs k u):=r.put k h
theorem uY:oz X "dict.setdefault" (qr X qc):=by
 intro EF s σ H x xs v us Q I rx rv ⟨ι,G,st,w,ws,sr,r,t,q⟩
 unfold qc at q
 split at q
 ·rename_i n k d
  cases r
  cases (show v=Value.ref (ι n) from rx)
  obtain⟨v1,v2,rfl,r1,r2⟩:=rel2 t
  cases rv with
  | cons ru rv =>
   cases rv with
   | cons ru2 rv =>
    cases rv
    rename_i u1 u2
    split at q
    ·rename_i ks vs k' em ek
     obtain⟨_,_,ys,hH,hl,t2⟩:=sr.live n _ em
     have e1:_=kV k':=c8 r1 ek
     subst e1
     obtain⟨z,hd,us2,rel,dd⟩:=Ja I.hok hH
     refine call_meetsIn PySem.F.slot_dict_setdefault dd.typeIs PySem.F.entry_dict_setdefault (PySem.F.args_dict_setdefault_3 _ _ _) (kt_meets_setdefault (jb X.prog X.w) (ι n) (uk ru) hd u2) ⟨us2,dd,by rw[<-rel.length];exact z,fun y hy=>?_,fun hn h' dd' hs=>?_⟩
     ·rcases valW_rel (k:=k') t2 hl with⟨h1,h2⟩|⟨v3,w3,h1,h2,h3⟩
      ·have:=rel.val k'
       rw[h1,hy] at this
       exact(show False from this).elim
      ·rw[h2] at q
       have ry:az v3 y:=by have:=rel.val k';rw[h1,hy] at this;exact this
       exact⟨v3,H,I.tok _,ry,(show au X ι st.nxt G (.ok w3 st) Q from q) v3 ι G H (Ext.refl _ _ _) sr h3⟩
     ·rcases valW_rel (k:=k') t2 hl with⟨h1,h2⟩|⟨v3,w3,h1,h2,h3⟩
      ·rw[h2] at q
       have q:au X ι st.nxt G (if ks.length<sizeLine then .ok d (st.put n (.dct (ic ks vs k' d).1 (ic ks vs k' d).2)) else .stuck) Q:=q
       by_cases hz:ks.length<sizeLine
       ·rw[FJ hz] at q
        obtain⟨ys',e2,l2,t3⟩:=Xb (k:=k') r2 t2 hl
        have hlen:(jn (ks.zip ys) k' v2).length<=sizeLine:=by
         have:=Kr (ks.zip ys) k' v2
         have l3:(ks.zip ys).length=ks.length:=by rw[List.length_zip,hl,Nat.min_self]
         omega
        have he:∃q,h'.get? (ι n)=some q:=let ⟨q,_,_,hq,_⟩:=dd';⟨q,hq⟩
        refine⟨v2,upd H (ι n) (kr (jn (ks.zip ys) k' v2)),Nc I (by rw[hH];exact True.intro) hs he (Zt hlen hd (jR rel ru2) dd'),ru2,?_⟩
        have m:nn X.K ι st.nxt G (upd H (ι n) (kr (jn (ks.zip ys) k' v2))) (ι n) (.dct (ic ks vs k' d).1 (ic ks vs k' d).2):=⟨ys',by rw[iz,e2],l2,t3⟩
        exact q v2 ι G _ (Ext.refl _ _ _) (sr.putO em m) r2
       ·rw[FK hz] at q;exact q.elim
      ·have:=rel.val k'
       rw[h1,hn] at this
       exact(show False from this).elim
    ·exact(show False from q).elim
 ·exact(show False from q).elim
theorem qT:Mth X "setdefault" "dict" "dict.setdefault" qc:=⟨.inr (.inr rfl),F.plainAttrs_dict,F.slot_dict_setdefault,F.type_dict_setdefault,uY⟩
noncomputable def qe(ks:List dy)(ws:List W):List dy->List W->Option Bool
 | j::js,v::vs=>(match gy ks ws j with
  |none=>some false
  |some w=>(match ci 12 v w,qe ks ws js vs with
   |some a,some b=>some (a&&b)
   |_,_=>none))
 |_,_=>some true
noncomputable def uo(st:S)(a b:W):Option Bool:=match jk st a,jk st b with
 |some (js,vs),some (ks,ws)=>(qe ks ws js vs).map fun r=>js.length == ks.length&&r
 |_,_=>none
theorem Rp(I:Inv X EF σ H s)(hu:X.A.in1.units+12<cLine)(t:RelWs X.K ι N H xs ws)(hl:xs.length=ks.length)(kv:KV (ks.zip xs) us) :
  ∀{js:List dy}{ys:List V}{vs:List W}{us2:List (dy×Value)}{r:Bool},RelWs X.K ι N H ys vs->ys.length=js.length->KV (js.zip ys) us2->qe ks ws js vs=some r->PySem.W.KeqHits X.A.in1 s us us2 r
 |[],[],_,_,r,.nil,_,.nil,h=>by cases h;exact .nil
 | j :: js,y::ys,v::vs,p::us2,r,.cons r1 t1,hl1,.cons hp k1,h=>by
  obtain⟨k,u⟩:=p
  obtain⟨e1,ru⟩:=hp
  have e1:j=k:=e1
  subst e1
  have val:=kv.val j
  unfold qe at h
  rcases valW_rel (k:=j) t hl with⟨h1,h2⟩|⟨v3,w3,h1,h2,h3⟩
  ·rw[h2] at h
   cases h
   refine .miss ?_
   rw[h1] at val
   cases e:valueAt us j with
   |none=>rfl
   |some z=>rw[e] at val;exact(show False from val).elim
  ·rw[h2] at h
   have h:(match ci 12 v w3,qe ks ws js vs with
    |some a,some b=>some (a&&b)
    |_,_=>none)=some r:=h
   cases ea:ci 12 v w3 with
   |none=>rw[ea] at h;cases h
   | some a =>
    cases eb:qe ks ws js vs with
    |none=>rw[ea,eb] at h;cases h
    |some b =>
     rw[ea,eb] at h
     cases h
     obtain⟨z,hz,rz⟩:=ow.some_of (v:=v3) (o:=valueAt us j) (by rw[<-h1];exact val)
     exact .hit hz (Ff I 12 (A:=X.A.in1) ea r1 h3 ru rz hu).1 (Rp I hu t hl kv t1 (by simpa using hl1) k1 eb)
 |[],_::_,_,_,_,_,h,_,_=>by cases h
 |_::_,[],_,_,_,_,h,_,_=>by cases h
theorem nW{EF:List (Addr×Obj)}{σ:St}{H:Hp}{s:Shared}{ι:Nat->Addr}{G:Hp}{st:S}{x y:V}{w1 w2:W}{b:Bool}(I:Inv X EF σ H s)(hu:X.A.units+64<cLine)(sr:SR X.K ι st G H)(r1:RelW X.K ι st.nxt G x w1)(r2:RelW X.K ι st.nxt G y w2)(h:uo st w1 w2=some b) :
  ∃a c ka kb r,x=.ref a/\y=.ref c/\(a == sysModules)=false/\(c == sysModules)=false/\s.heap.DictOf (jb X.prog X.w) a ka/\s.heap.DictOf (jb X.prog X.w) c kb/\PySem.W.KeqHits X.A.in1 s kb ka r/\(ka.length == kb.length&&r)=b:=by
 unfold uo at h
 split at h
 ·rename_i js vs ks ws e1 e2
  obtain⟨a,ys,rfl,hH,hl,t⟩:=a8 sr r1 e1
  obtain⟨c,xs,rfl,hH2,hl2,t2⟩:=a8 sr r2 e2
  obtain⟨z,hd,ua,rel,dd⟩:=Ja I.hok hH
  obtain⟨z2,hd2,ub,rel2,dd2⟩:=Ja I.hok hH2
  cases e:qe ks ws js vs with
  |none=>rw[e] at h;cases h
  |some r =>
   rw[e] at h
   cases h
   refine⟨a,c,ua,ub,r,rfl,rfl,hd,hd2,dd,dd2,Rp I (by show X.A.units+1+12<cLine;omega) (t2.mono sr.look) hl2 rel2 (t.mono sr.look) hl rel e,?_⟩
   have l1:=rel.length
   have l2:=rel2.length
   rw[List.length_zip,hl,Nat.min_self] at l1
   rw[List.length_zip,hl2,Nat.min_self] at l2
   rw[<-l1,<-l2]
 ·cases h
noncomputable def nk(st:S)(a b:W):Option Bool:=match uo st a b with
 |some c=>some c
 | none=>(match ci 12 a b with
  |some c=>some c
  |none=>(match frz 0 st.mu 12 a,frz 0 st.mu 12 b with
   |some a',some b'=>ci 12 a' b'
   |_,_=>none))
noncomputable def bw:dm:=fun a b st=>match nk st a b with
 |some r=>.ok (.bl r) st
 |none=>.stuck
noncomputable def de:dm:=fun a b st=>match nk st a b with
 |some r=>.ok (.bl (!r)) st
 |none=>.stuck
theorem bA{K:PySem.W.Frag}{ι:Nat->Addr}{st:S}{G H:Hp}{v:V}{w w':W}(sr:SR K ι st G H)(r:RelW K ι st.nxt G v w)(h:frz 0 st.mu 12 w=some w'):RelW K ι 0 H v w':=
 Mv sr.sub (fun n o _ e=>(sr.live n o e).2.2) 12 v w w' r h
theorem Yd{EF:List (Addr×Obj)}{σ:St}{H:Hp}{s:Shared}{ι:Nat->Addr}{G:Hp}{st:S}{x y:V}{w1 w2:W}{v u:Value}{b:Bool}(I:Inv X EF σ H s)(hu:X.A.units+64<cLine)(sr:SR X.K ι st G H)(rx:az x v)(ry:az y u)(r1:RelW X.K ι st.nxt G x w1)(r2:RelW X.K ι st.nxt G y w2)(h:nk st w1 w2=some b) :
  (∀(Q:Value->Shared->Prop)(E:Value->Shared->Prop),Q (.bool b) s->wpAny (model X.prog X.w) X.A (compareOp .Eq v u) Q E s)/\∀(Q:Value->Shared->Prop)(E:Value->Shared->Prop),Q (.bool (!b)) s->wpAny (model X.prog X.w) X.A (compareOp .NotEq v u) Q E s:=by
 unfold nk at h
 cases e:uo st w1 w2 with
 |some c =>
  rw[e] at h
  cases h
  obtain⟨a,c,ka,kb,r,rfl,rfl,ha,hc,da,db,hits,er⟩:=nW I hu sr r1 r2 e
  cases (show v=Value.ref a from rx)
  cases (show u=Value.ref c from ry)
  refine⟨fun Q E q=>PySem.W.keq_eq ha hc da db (by omega) (fun _=>hits) (by rw[er];exact q),fun Q E q=>PySem.W.keq_ne ha hc da db (by omega) (fun _=>hits) (by rw[er];exact q)⟩
 | none =>
  rw[e] at h
  have h:(match ci 12 w1 w2 with
   |some c=>some c
   |none=>(match frz 0 st.mu 12 w1,frz 0 st.mu 12 w2 with
    |some a',some b'=>ci 12 a' b'
    |_,_=>none))=some b:=h
  cases e2:ci 12 w1 w2 with
  |some c =>
   rw[e2] at h
   cases h
   have q:=Ff I 12 (A:=X.A) e2 (r1.mono sr.look) (r2.mono sr.look) rx ry (by omega)
   exact⟨fun Q E h=>q.2.1 _ _ E Q h,fun Q E h=>q.2.2 _ _ E Q h⟩
  | none =>
   rw[e2] at h
   have h:(match frz 0 st.mu 12 w1,frz 0 st.mu 12 w2 with
    |some a',some b'=>ci 12 a' b'
    |_,_=>none)=some b:=h
   split at h
   ·rename_i a' b' ea eb
    have q:=Ff I 12 (A:=X.A) h (bA sr r1 ea) (bA sr r2 eb) rx ry (by omega)
    exact⟨fun Q E h=>q.2.1 _ _ E Q h,fun Q E h=>q.2.2 _ _ E Q h⟩
   ·cases h
theorem zA(hu:X.A.units+64<cLine):fi X (compareOp .Eq) bw:=by
 intro EF s σ H ι G st x y w1 w2 v u Q I sr rx ry r1 r2 q
 unfold bw at q
 cases e:nk st w1 w2 with
 |none=>rw[e] at q;exact(show False from q).elim
 |some b=>rw[e] at q;exact(Yd I hu sr rx ry r1 r2 e).1 _ _ ⟨.bl b,H,I,rfl,q _ ι G H (Ext.refl _ _ _) sr (.bl _)⟩
theorem yV(hu:X.A.units+64<cLine):fi X (compareOp .NotEq) de:=by
 intro EF s σ H ι G st x y w1 w2 v u Q I sr rx ry r1 r2 q
 unfold de at q
 cases e:nk st w1 w2 with
 |none=>rw[e] at q;exact(show False from q).elim
 |some b=>rw[e] at q;exact(Yd I hu sr rx ry r1 r2 e).2 _ _ ⟨.bl (!b),H,I,rfl,q _ ι G H (Ext.refl _ _ _) sr (.bl _)⟩
noncomputable def Ez(n:Nat)(i v:W)(st:S):Option MO->Option dy->R Unit
 |some (.dct ks vs),some k=>if ks.length<sizeLine then .ok () (st.put n (.dct (ic ks vs k v).1 (ic ks vs k v).2)) else .stuck
 |_,_=>Hu (.ref n) i v st
noncomputable def pz:W->W->W->S->R Unit:=fun o i v st=>match o with
 |.ref n=>Ez n i v st (st.mu n) (jy i)
 |_=>.stuck
noncomputable def ku(ro ri rv:am):aq:=fun Γ st=>(rv Γ st).bind fun v st1=>(ro Γ st1).bind fun o st2=>(ri Γ st2).bind fun i st3=>(pz o i v st3).bind fun _ st4=>.ok (.nx Γ) st4
theorem setIx_or(o i v:W)(st:S):(∃n ks vs k,o=.ref n/\st.mu n=some (.dct ks vs)/\jy i=some k)\/pz o i v st=Hu o i v st:=by
 cases o with
 | ref n =>
  have e0:pz (.ref n) i v st=Ez n i v st (st.mu n) (jy i):=rfl
  cases em:st.mu n with
  |none=>refine .inr ?_;rw[e0,em];rfl
  | some q =>
   cases q with
   |lst xs=>refine .inr ?_;rw[e0,em];rfl
   |dct ks vs =>
    cases ek:jy i with
    |none=>refine .inr ?_;rw[e0,em,ek];rfl
    |some k=>exact .inl ⟨n,ks,vs,k,rfl,em,rfl⟩
 |_=>exact .inr rfl
theorem mS{o i e:Expr}{pos tpos:Pos}{ro ri rv:am}(hu:X.A.units+1<cLine)(ho:PD X o ro)(hi:PD X i ri)(he:PD X e rv)(hg:∀{t:Jn},Jo X t->PG X (.Subscript o i tpos) (Ox (tD X ro) (tD X ri) t))(hs:swapsWithSole [.Subscript o i tpos] e pos.line X.env=pure false)(hw:swappedStores [.Subscript o i tpos] e X.env=pure none)(hs':swapsWith e (some (.Subscript o i tpos)) pos.line X.env=pure false) :
  jp X (.Assign [.Subscript o i tpos] e pos) (ku ro ri rv):=by
 intro EF s σ H D I h
 obtain⟨ι,G,st,Γ,en,sr,q⟩:=h
 have ch:(∃v st1 w st2 j st3 n ks vs k,rv Γ st=.ok v st1/\ro Γ st1=.ok w st2/\ri Γ st2=.ok j st3/\w=.ref n/\st3.mu n=some (.dct ks vs)/\jy j=some k)\/ku ro ri rv Γ st=Mm ro ri rv Γ st:=by
  unfold ku Mm
  cases e1:rv Γ st with
  |stuck=>exact .inr rfl
  |ex c s=>exact .inr rfl
  | ok v st1 =>
   cases e2:ro Γ st1 with
   |stuck=>refine .inr ?_;show(ro Γ st1).bind _=(ro Γ st1).bind _;rw[e2];rfl
   |ex c s=>refine .inr ?_;show(ro Γ st1).bind _=(ro Γ st1).bind _;rw[e2];rfl
   | ok w st2 =>
    cases e3:ri Γ st2 with
    |stuck=>refine .inr ?_;show(ro Γ st1).bind _=(ro Γ st1).bind _;rw[e2];show(ri Γ st2).bind _=(ri Γ st2).bind _;rw[e3];rfl
    |ex c s=>refine .inr ?_;show(ro Γ st1).bind _=(ro Γ st1).bind _;rw[e2];show(ri Γ st2).bind _=(ri Γ st2).bind _;rw[e3];rfl
    | ok j st3 =>
     rcases setIx_or w j v st3 with⟨n,ks,vs,k,h1,h2,h3⟩|h
     ·exact .inl ⟨v,st1,w,st2,j,st3,n,ks,vs,k,rfl,e2,e3,h1,h2,h3⟩
     ·refine .inr ?_
      show(ro Γ st1).bind _=(ro Γ st1).bind _
      rw[e2]
      show(ri Γ st2).bind _=(ri Γ st2).bind _
      rw[e3]
      show(pz w j v st3).bind _=(Hu w j v st3).bind _
      rw[h]
 rcases ch with⟨v,st1,w,st2,j,st3,n,ks,vs,k,e1,e2,e3,rfl,em,ek⟩|ch
 ·have q':dt X ι st.nxt G ((pz (.ref n) j v st3).bind fun _ st4=>.ok (.nx Γ) st4) D:=by
   have q:=q
   unfold ku at q
   rw[e1] at q
   have q:dt X ι st.nxt G ((ro Γ st1).bind fun o st2=>(ri Γ st2).bind fun i st3=>(pz o i v st3).bind fun _ st4=>.ok (.nx Γ) st4) D:=q
   rw[e2] at q
   have q:dt X ι st.nxt G ((ri Γ st2).bind fun i st3=>(pz (.ref n) i v st3).bind fun _ st4=>.ok (.nx Γ) st4) D:=q
   rw[e3] at q
   exact q
  have e0:pz (.ref n) j v st3=Ez n j v st3 (st3.mu n) (jy j):=rfl
  rw[e0,em,ek] at q'
  by_cases hz:ks.length<sizeLine
  ·have q2:dt X ι st.nxt G (.ok (.nx Γ) (st3.put n (.dct (ic ks vs k v).1 (ic ks vs k v).2))) D:=by
    have q':dt X ι st.nxt G ((if ks.length<sizeLine then .ok () (st3.put n (.dct (ic ks vs k v).1 (ic ks vs k v).2)) else .stuck:R Unit).bind fun _ st4=>.ok (.nx Γ) st4) D:=q'
    rw[FJ hz] at q'
    exact q'
   refine tR hu ho hi he hs' EF s σ H D I ⟨ι,G,st,Γ,en,sr,?_⟩
   rw[e1]
   intro vv ι1 G1 H1 x1 sr1 r1
   refine⟨ι1,G1,st1,Γ,en.mono x1,sr1,?_⟩
   rw[e2]
   intro vo ι2 G2 H2 x2 sr2 r2
   refine⟨ι2,G2,st2,Γ,(en.mono x1).mono x2,sr2,?_⟩
   rw[e3]
   intro vj ι3 G3 H3 x3 sr3 r3
   have ro':=r2.mono x3
   cases ro'
   obtain⟨_,_,ys,hH,hl,t2⟩:=sr3.live n _ em
   have lz:(ks.zip ys).length=ks.length:=by rw[List.length_zip,hl,Nat.min_self]
   obtain⟨ys',e4,l2,t3⟩:=Xb (k:=k) ((r1.mono x2).mono x3) t2 hl
   refine⟨ι3 n,upd H3 (ι3 n) (kr (jn (ks.zip ys) k vv)),rfl,ve.put hH (by rw[lz];exact hz) ((c8 r3 ek).mono sr3.sub),?_⟩
   have m:nn X.K ι3 st3.nxt G3 (upd H3 (ι3 n) (kr (jn (ks.zip ys) k vv))) (ι3 n) (.dct (ic ks vs k v).1 (ic ks vs k v).2):=⟨ys',by rw[iz,e4],l2,t3⟩
   exact q2 ι3 G3 _ ((x1.trans x2).trans x3) (sr3.putO em m) σ (((en.mono x1).mono x2).mono x3)
  ·have q':dt X ι st.nxt G ((if ks.length<sizeLine then .ok () (st3.put n (.dct (ic ks vs k v).1 (ic ks vs k v).2)) else .stuck:R Unit).bind fun _ st4=>.ok (.nx Γ) st4) D:=q'
   rw[FK hz] at q'
   exact(show False from q').elim
 ·exact kI ho hi he hg hs hw EF s σ H D I ⟨ι,G,st,Γ,en,sr,by rw[<-ch];exact q⟩
end
end DL
namespace L2
open PySem PySem.Spec PyProof.Rows
section
variable {X:Cx} {tg:Expr}
end
end L2
namespace DL
open PySem PySem.Spec PyProof.Rows L2
section
variable {X:Cx}
end
section
variable {X:Cx}
theorem wT(h:Q true H):aX σ H Q:=h
noncomputable def qa(n:Nat)(all:List W)(re:am)(Γc:Ga):List W->List W->S->R (List W)
 |[],acc,st=>@ite _ (st.mu n=some (.lst all)) (Classical.propDecidable _) (.ok acc st) .stuck
 |x::xs,acc,st=>@ite _ (st.mu n=some (.lst all)) (Classical.propDecidable _) ((re (some x::Γc) st).calm.bind fun y st2=>qa n all re Γc xs (acc++[y]) st2) .stuck
noncomputable def tu(m:Bool)(r:am)(cap:List Nat)(re:am):am:=fun Γ st=>(r Γ st).bind fun w st1=>match w with
 |.ref n=>(match st1.mu n with
  |some (.lst xs)=>if xs.length<sizeLine then(qa n xs re (fh cap Γ) xs [] st1).bind (ay m) else .stuck
  |_=>.stuck)
 |_=>.stuck
theorem qD(hc:X.calm=true)(hi:PD X iter r)(Sc:CompSc X scope x cl N cap)
  (he:∀C s H ex,PE (ie X scope cl C N s H ex) elt (i9 X.K re))(hs:∀z,foldedSetIterable iter X.env z=pure z):PD X (.ListComp elt [⟨.Name x px,iter,[],0⟩] scope pos) (tu m r cap re):=by
 refine PE.imp (Xe hc (Np hi) Sc (fun _ _ _ _=>Xc) he hs) fun σ H Q h=>?_
 obtain⟨ι,G,st,Γ,en,sr,q⟩:=h
 refine⟨ι,G,st,Γ,en,sr,?_⟩
 unfold tu at q
 cases e1:r Γ st with
 |stuck=>rw[e1] at q;exact q
 |ex c s=>rw[e1] at q;exact q
 | ok w st1 =>
  rw[e1] at q
  intro v ι1 G1 H1 x1 sr1 r1
  cases r1 with
  | @ref n hn =>
   have q:au X ι st.nxt G (match st1.mu n with
    |some (.lst xs)=>if xs.length<sizeLine then(qa n xs re (fh cap Γ) xs [] st1).bind (ay m) else .stuck
    |_=>.stuck) Q:=q
   cases em:st1.mu n with
   |none=>rw[em] at q;exact(show False from q).elim
   | some o =>
    cases o with
    |dct ks vs=>rw[em] at q;exact(show False from q).elim
    | lst xs =>
     rw[em] at q
     have q:au X ι st.nxt G (if xs.length<sizeLine then(qa n xs re (fh cap Γ) xs [] st1).bind (ay m) else .stuck) Q:=q
     by_cases hl:xs.length<sizeLine
     ·rw[FJ hl] at q
      have q1:=nj.later x1 (Vk q)
      have en1:=en.mono x1
      obtain⟨_,_,vs,hv,_⟩:=sr1.live n _ em
      refine .inl ⟨ι1 n,rfl,⟨vs,bx.of hv⟩,?_⟩
      refine⟨fun i k ys H'=>k=xs.length - i/\i<=xs.length/\ys.length<=i/\∃ι2 G2 st2 acc,Ext ι1 st1.nxt G1 ι2 st2.nxt G2/\SR X.K ι2 st2 G2 H'/\RelWs X.K ι2 st2.nxt G2 ys acc/\nj X m ι2 st2.nxt G2 (qa n xs re (fh cap Γ) (xs.drop i) acc st2) Q,
       ⟨xs.length,by simp,Nat.zero_le _,Nat.zero_le _,ι1,G1,st1,[],Ext.refl _ _ _,sr1,.nil,by rw[List.drop_zero];exact q1⟩,?_⟩
      rintro i k ys H' ⟨rfl,hi',hy,ι2,G2,st2,acc,e2,sr2,ra,q2⟩
      refine⟨by omega,?_⟩
      have hm:st2.mu n=some (.lst xs):=by
       refine Classical.byContradiction fun hm=>?_
       cases hx:xs.drop i with
       |nil =>
        rw[hx] at q2
        unfold qa at q2
        rw[FK hm] at q2
        exact q2
       |cons z zs =>
        rw[hx] at q2
        unfold qa at q2
        rw[FK hm] at q2
        exact q2
      obtain⟨_,_,vs2,hv2,rv2⟩:=sr2.live n _ hm
      rw[e2.ag n hn] at hv2
      have sa2:bx X.K H' (ι1 n) vs2:=bx.of hv2
      have lv:=rv2.length
      by_cases hlt:i<xs.length
      ·obtain⟨xv,hxv,rxv⟩:=rv2.get (EH hlt)
       refine .inr ⟨⟨vs2,xv,sa2,hxv⟩,fun v H'' hy'=>?_⟩
       obtain⟨rfl,gx⟩:=hy'
       have ex:=gx vs2 sa2
       rw[hxv] at ex
       cases ex
       rw[List.drop_eq_getElem_cons hlt] at q2
       unfold qa at q2
       rw[FJ hm] at q2
       refine wT ?_
       rw[FJ rfl]
       have en2:=Yj cap (en1.mono e2) rxv
       refine⟨ι2,_,st2,_,en2,sr2,Lr rfl q2 fun y st4 vy ι4 G4 H4 e4 sr4 ry q4=>?_⟩
       exact⟨xs.length - (i+1),by omega,rfl,hlt,by rw[ES,FD];omega,ι4,G4,st4,acc++[y],e2.trans e4,sr4,(ra.mono e4).append (.cons ry .nil),q4⟩
      ·have ei:i=xs.length:=by omega
       subst ei
       rw[List.drop_length] at q2
       unfold qa at q2
       rw[FJ hm] at q2
       refine .inl ⟨⟨vs2,sa2,by omega⟩,?_⟩
       have q3:au X ι2 st2.nxt G2 (ay m acc st2) Q:=q2
       cases m with
       |true=>exact(zy sr2 ra q3).2
       |false=>exact(c7 sr2 ra q3).2
     ·rw[FK hl] at q;exact(show False from q).elim
  |_=>exact(show False from q).elim
end
end DL
namespace L2
open PySem PySem.Spec PyProof.Rows
section
variable {X:Cx} {k:Nat} {f:Addr} {fd:FuncData} {pn:Str} {sp:Sp}
end
end L2
namespace L2
open PySem PySem.Spec PyProof.Rows PySem.W PySem.Calls
section
variable {prog:Program} {w:World} {A:Around} {E:Value->Shared->Prop} {s:Shared} {h₀:Heap} {L a kS:Addr} {m:Str->Option Value} {news:List (Addr×Obj)} {vs ks:List Value}
end
end L2
namespace L2
open PySem PySem.Spec PyProof.Rows
section
variable {X:Cx} {k:Nat} {f:Addr} {fd:FuncData} {pn:Str} {sp:Sp}
end
section
variable {X:Cx}
end
section
open PySem.SeqAt
open PySem.AutoSeq1 (wpAny_loadPart')
open PySem.MeetsSeq PySem.MeetsSeq2 PySem.MeetsSeq3
end
section
variable {X:Cx} {H:Hp}
end
section
variable {X:Cx} {EF:List (Addr×Obj)} {σ:List (Option V)} {H H':Hp} {s:Shared} {h':Heap}
end
end L2
namespace DL
open PySem PySem.Spec PyProof.Rows L2
section
variable {X:Cx}
theorem qN{ι:Nat->Addr}{G H:Hp}{st:S}{m:Bool}{xs:List V}{ws:List W}{Q:VK}(sr:SR X.K ι st G H)(r:RelWs X.K ι st.nxt G xs ws)(q:au X ι st.nxt G (ay m ws st) Q):∀p,H p=none->Q (.ref p) (upd H p (.lst xs)):=by
 cases m with
 |true=>exact(zy sr r q).2
 |false=>exact(c7 sr r q).2
end
section
variable {X:Cx}
end
section
variable {X:Cx}
def Fo:be->W
 |.inl i=>.int i
 |.inr x=>.str x
theorem Lk{K:PySem.W.Frag}{ι:Nat->Addr}{N:Nat}{G:Hp}:∀k:List be,RelWs K ι N G (k.map kV) (k.map Fo)
 |[]=>.nil
 |.inl i::k=>.cons (.int i) (Lk k)
 |.inr x::k=>.cons (.str x) (Lk k)
theorem aV:∀{ks:List dy}{xs:List V},xs.length=ks.length->((ks.zip xs).map fun p=>kV p.1)=ks.map kV
 |[],[],_=>rfl
 |k::ks,x::xs,h=>by rw[List.zip_cons_cons,FN,FN,aV (by simpa using h)]
 |[],_::_,h=>by cases h
 |_::_,[],h=>by cases h
noncomputable def jd(m:Bool):bh:=fun ws st=>match ws with
 |[w]=>(match jk st w with
  |some (ks,_)=>ay m (ks.map Fo) st
  |none=>Im m [w] st)
 |_=>.stuck
theorem rR(hh:X.A.handled=none):nh X (.type "list") (jd m):=by
 intro EF s σ H ι G st xs ws us Q I sr rv t q
 unfold jd at q
 split at q
 ·rename_i w
  cases e:jk st w with
  |none=>rw[e] at q;exact wK EF s σ H ι G st xs [w] us Q I sr rv t q
  |some p =>
   obtain⟨ks,vs⟩:=p
   rw[e] at q
   obtain⟨v,rfl,r⟩:=qk t
   obtain⟨u,rfl,ru⟩:=rv.one
   obtain⟨a,ys,rfl,hH,hl,t2⟩:=a8 sr r e
   cases (show u=Value.ref a from ru)
   refine wJ hh I hH fun p s' hp I'=>?_
   rw[aV hl] at I'
   exact⟨.ref p,_,I',rfl,qN sr (Lk ks) (show au X ι st.nxt G (ay m (ks.map Fo) st) Q from q) p hp⟩
 ·exact(show False from q).elim
end
section
variable {X:Cx}
end
section
variable {X:Cx}
end
section
variable {X:Cx}
noncomputable def xt:W->S->R W:=fun w st=>match w with
 |.tup ws=>(match la ws with
  |some zs=>if zs.length<=1000 then .ok (.int (SS.onceS zs).length) st else .stuck
  |none=>.stuck)
 |_=>.stuck
theorem Wv:∀{us:List Value}{zs:List Str},StrsAre us zs->us.length=zs.length/\∀(i:Nat) v,us[i]?=some v->∃z t,zs[i]?=some z/\v=Value.str z t
 |_,_,.nil=>⟨rfl,fun i v h=>by simp at h⟩
 |_,_,.cons x t r=>by
  obtain⟨h1,h2⟩:=Wv r
  refine⟨by rw[EZ,EZ,h1],fun i v h=>?_⟩
  cases i with
  |zero=>simp at h;exact⟨x,t,rfl,h.symm⟩
  |succ i=>exact h2 i v (by simpa using h)
theorem F5:bootBuiltins "set" = some (.type "set"):=by decide +kernel
theorem uK(hh:X.A.handled=none)(hg:Gl X "len")(hm:X.mg "len" = none)(hg2:Gl X "set")(hm2:X.mg "set" = none)(ha:PD X e ra)(hs:Ms e=true) :
  PD X (.Call (.Name "len" p) [.Call (.Name "set" p2) [e] [] pos2] [] pos) (bb ra xt):=by
 have hs1:starEach [e] X.env=[(false,eval e X.env)]:=by
  cases e<;>first|rfl|exact absurd (show false=true from hs) EG
 intro EF s σ H Q I h
 obtain⟨ι,G,st,Γ,en,sr,q⟩:=h
 refine wpAny_Call_Name_kw (e8 I hg hm PySem.boot_len ?_)
 refine PyProof.Rows.callWith_builtin1 ?_
 show wpAny _ _ (spliced ((false,eval (.Call (.Name "set" p2) [e] [] pos2) X.env)::backTo pos (starEach [] X.env))) _ _ s
 refine Calls.spliced_cons ?_
 refine wpAny_Call_Name_kw (e8 I hg2 hm2 F5 ?_)
 refine PyProof.Rows.callWith_type1 ?_ (by rw[hs1];rfl) (by rfl)
 refine bj ((Ly ha Mq hs1) pos2 EF s σ H (fun vs H1=>∃v ι1 G1 st1 w,vs=[v]/\SR X.K ι1 st1 G1 H1/\RelW X.K ι1 st1.nxt G1 v w/\au X ι1 st1.nxt G1 (xt w st1) Q) I ?_) fun us s1 ⟨vs,H1,I1,r1,q1⟩=>?_
 ·refine⟨ι,G,st,Γ,en,sr,?_⟩
  unfold bb at q
  unfold ad af
  cases e1:ra Γ st with
  |stuck=>rw[e1] at q;exact q
  |ex c s=>rw[e1] at q;exact q
  |ok w st1 =>
   rw[e1] at q
   intro vs ι1 G1 H1 x1 sr1 r1
   obtain⟨v,rfl,r2⟩:=qk r1
   exact⟨v,ι1,G1,st1,w,rfl,sr1,r2,au.later x1 (show au X ι st.nxt G (xt w st1) Q from q)⟩
 ·obtain⟨v,ι1,G1,st1,w,rfl,sr1,r2,q2⟩:=q1
  clear q sr en
  obtain⟨u,rfl,ru⟩:=r1.one
  unfold xt at q2
  cases r2 with
  | @tup a xs ws s2 c2 t2 =>
   cases (show u=Value.ref a from ru)
   dsimp only at q2
   cases ez:la ws with
   |none=>rw[ez] at q2;exact(show False from q2).elim
   | some zs =>
    rw[ez] at q2
    dsimp only at q2
    by_cases hc:zs.length<=1000
    ·rw[FJ hc] at q2
     obtain⟨its,rv,pl,_⟩:=I1.tuple (sqT_same sr1.sub s2)
     obtain⟨el,at_⟩:=Wv (Hl t2 rv ez)
     refine SS.set_tup (zs:=zs) hh pl (by rw[EM];exact el.symm) (fun i v hv=>at_ i v (by simpa using hv)) (by simp only[EM];unfold scanBound;omega) fun h' tok SA kp=>?_
     refine Calls.spliced_nil ?_
     have I2:Inv X EF σ H1 { s1 with heap:=h',toks:=tok }:=I1.kept kp
     obtain⟨o,es,ep,t,ho,hex,hd,_,_,_,hf,hn⟩:=SA
     have hle:=SS.once_le zs
     refine call_len_set ho hex hd hf (by rw[hn];omega) ?_
     exact⟨.int _,H1,I2.tok _,⟨_,by rw[hn]⟩,q2 _ ι1 G1 H1 (Ext.refl _ _ _) sr1 (.int _)⟩
    ·rw[FK hc] at q2;exact(show False from q2).elim
  |_=>exact(show False from q2).elim
end
section
variable {X:Cx}
noncomputable def xw:dm:=fun a b st=>match fg st a,fg st b with
 |some xs,some ys=>if xs.length+ys.length<=sizeLine then .ok (.ref st.nxt) (st.new (.lst (xs++ys))) else .stuck
 |_,_=>.stuck
noncomputable def xr:dm:=fun a b st=>match fg st a,b with
 |some xs,.int k=>if (-(2 ^ 63)<=k/\k<2 ^ 63)/\xs.length*k.toNat<=sizeLine then .ok (.ref st.nxt) (st.new (.lst (List.replicate k.toNat xs).flatten)) else .stuck
 |_,_=>.stuck
theorem qL:fi X (binaryOp .Add) xw:=by
 intro EF s σ H ι G st x y w1 w2 v u Q I sr rx ry r1 r2 q
 unfold xw at q
 cases e1:fg st w1 with
 |none=>rw[e1] at q;exact(show False from q).elim
 | some xs =>
  cases e2:fg st w2 with
  |none=>rw[e1,e2] at q;exact(show False from q).elim
  | some ys =>
   rw[e1,e2] at q
   have q:au X ι st.nxt G (if xs.length+ys.length<=sizeLine then _ else .stuck) Q:=q
   by_cases hl:xs.length+ys.length<=sizeLine
   ·rw[FJ hl] at q
    obtain⟨a,xs',rfl,s1,t1⟩:=zu sr r1 e1
    obtain⟨b,ys',rfl,s2,t2⟩:=zu sr r2 e2
    refine Xi EF s σ H _ _ v u Q I rx ry ⟨_,_,_,_,rfl,rfl,s1,s2,by rw[t1.length,t2.length];exact hl,fun p hp=>?_⟩
    obtain⟨ι',ex,sr',e⟩:=sr.newL hp (t1.append t2)
    exact q (.ref p) ι' G _ ex sr' (by have:=RelW.ref (K:=X.K) (ι:=ι') (N:=st.nxt+1) (G:=G) (Nat.lt_succ_self st.nxt);rw[e] at this;exact this)
   ·rw[FK hl] at q;exact q.elim
theorem qI:fi X (binaryOp .Mult) xr:=by
 intro EF s σ H ι G st x y w1 w2 v u Q I sr rx ry r1 r2 q
 unfold xr at q
 cases e1:fg st w1 with
 |none=>rw[e1] at q;exact(show False from q).elim
 | some xs =>
  cases r2 with
  | int k =>
   rw[e1] at q
   have q:au X ι st.nxt G (if (-(2 ^ 63)<=k/\k<2 ^ 63)/\xs.length*k.toNat<=sizeLine then _ else .stuck) Q:=q
   by_cases hl:(-(2 ^ 63)<=k/\k<2 ^ 63)/\xs.length*k.toNat<=sizeLine
   ·rw[FJ hl] at q
    obtain⟨a,xs',rfl,s1,t1⟩:=zu sr r1 e1
    refine Xh EF s σ H _ _ v u Q I rx ry ⟨_,_,_,rfl,rfl,s1,hl.1.1,hl.1.2,by rw[t1.length];exact hl.2,fun p hp=>?_⟩
    obtain⟨ι',ex,sr',e⟩:=sr.newL hp (t1.rep _)
    exact q (.ref p) ι' G _ ex sr' (by have:=RelW.ref (K:=X.K) (ι:=ι') (N:=st.nxt+1) (G:=G) (Nat.lt_succ_self st.nxt);rw[e] at this;exact this)
   ·rw[FK hl] at q;exact q.elim
  |_=>rw[e1] at q;exact(show False from q).elim
end
section
variable {X:Cx}
noncomputable def ik(i:Nat)(body:aq)(w:W):Nat->Nat->Ga->S->R Fl
 |0,_,_,_=>.stuck
 | f+1,k,Γ,st=>(match fg st w with
  | some ws=>(match ws[k]? with
   |none=>.ok (.nx Γ) st
   |some x=>(body (Γ.set i (some x)) st).bind fun fl st'=>match fl with
    |.nx Γ'=>ik i body w f (k+1) Γ' st'
    |.ct Γ'=>ik i body w f (k+1) Γ' st'
    |.bk Γ'=>.ok (.nx Γ') st'
    |.rt w=>.ok (.rt w) st')
  |none=>.stuck)
noncomputable def wb(i:Nat)(r:am)(body:aq):aq:=fun Γ st=>(r Γ st).bind fun w st1=>ik i body w 4096 0 Γ st1
theorem pZ(hp:PassesOwn (model X.prog X.w) X.A X.env X.xe)(hc:X.calm=true)(hr:PD X iter r)(hg:PG X (.Name x px) (si i))(hb:ox X body rb)(hs:∀z,foldedSetIterable iter X.env z=pure z) :
  jp X (.For (.Name x px) iter body [] pos) (wb i r rb):=by
 refine PS.imp (Zc hp hc (Np hr) hg hb hs) fun D σ H ⟨ι,G,st,Γ,en,sr,q⟩=>⟨ι,G,st,Γ,en,sr,?_⟩
 unfold wb at q
 cases e1:r Γ st with
 |stuck=>rw[e1] at q;exact q
 |ex c s=>rw[e1] at q;exact q
 | ok w st1 =>
  rw[e1] at q
  have q:dt X ι st.nxt G (ik i rb w 4096 0 Γ st1) D:=q
  intro v ι1 G1 H1 x1 sr1 rel
  have live:∀{ι2:Nat->Addr}{st2:S}{G2 H2:Hp}{f k:Nat}{Γ2:Ga},Ext ι1 st1.nxt G1 ι2 st2.nxt G2->SR X.K ι2 st2 G2 H2->dt X ι2 st2.nxt G2 (ik i rb w f k Γ2 st2) D->∃f' ws a xs,f=f'+1/\fg st2 w=some ws/\v=.ref a/\bx X.K H2 a xs/\RelWs X.K ι2 st2.nxt G2 xs ws:=by
   intro ι2 st2 G2 H2 f k Γ2 e2 sr2 q2
   cases f with
   |zero=>exact(show False from q2).elim
   | succ f =>
    unfold ik at q2
    cases em:fg st2 w with
    |none=>rw[em] at q2;exact(show False from q2).elim
    |some ws =>
     obtain⟨a,xs,e,h1,h2⟩:=zu sr2 (rel.mono e2) em
     exact⟨f,ws,a,xs,rfl,rfl,e,h1,h2⟩
  have q0:dt X ι1 st1.nxt G1 (ik i rb w 4096 0 Γ st1) D:=dt.later x1 q
  obtain⟨_,_,a,xs0,_,_,rfl,hx0,_⟩:=live (Ext.refl _ _ _) sr1 q0
  refine .inl ⟨a,rfl,⟨xs0,hx0⟩,?_⟩
  refine⟨fun k m σ' H'=>∃ι2 G2 st2 Γ2,Ext ι1 st1.nxt G1 ι2 st2.nxt G2/\SR X.K ι2 st2 G2 H'/\EnvR X.K ι2 st2.nxt G2 σ' Γ2/\dt X ι2 st2.nxt G2 (ik i rb w m k Γ2 st2) D,
   ⟨4096,ι1,G1,st1,Γ,Ext.refl _ _ _,sr1,en.mono x1,q0⟩,?_⟩
  rintro k m σ' H' ⟨ι2,G2,st2,Γ2,e2,sr2,en2,q2⟩
  obtain⟨f,ws,a',xs,rfl,em,ea,hx,rl⟩:=live e2 sr2 q2
  cases ea
  have lx:=rl.length
  unfold ik at q2
  rw[em] at q2
  dsimp only at q2
  cases ew:ws[k]? with
  |none =>
   rw[ew] at q2
   refine .inl ⟨⟨xs,hx,?_⟩,(show dt X ι2 st2.nxt G2 (.ok (.nx Γ2) st2) D from q2) ι2 G2 H' (Ext.refl _ _ _) sr2 σ' en2⟩
   rw[lx];exact List.getElem?_eq_none_iff.mp ew
  | some y =>
   rw[ew] at q2
   obtain⟨v,hv,rv⟩:=rl.get ew
   refine .inr ⟨⟨xs,v,hx,hv⟩,fun σ3 H3=>∃ι3 G3 st3 Γ3,Ext ι1 st1.nxt G1 ι3 st3.nxt G3/\SR X.K ι3 st3 G3 H3/\EnvR X.K ι3 st3.nxt G3 σ3 Γ3/\dt X ι3 st3.nxt G3 (ik i rb w f (k+1) Γ3 st3) D,
    fun σ3 H3 h3=>⟨f,Nat.lt_succ_self f,h3⟩,fun v' H'' hy=>?_⟩
   obtain⟨eh,hall⟩:=hy
   subst eh
   have:=hall xs (hx)
   rw[hv] at this
   cases this
   refine⟨ι2,G2,st2,Γ2.set i (some y),en2.set i rv,sr2,?_⟩
   have q2':dt X ι2 st2.nxt G2 ((rb (Γ2.set i (some y)) st2).bind fun fl st'=>match fl with
    |.nx Γ'=>ik i rb w f (k+1) Γ' st'
    |.ct Γ'=>ik i rb w f (k+1) Γ' st'
    |.bk Γ'=>.ok (.nx Γ') st'
    |.rt w=>.ok (.rt w) st') D:=q2
   cases e3:rb (Γ2.set i (some y)) st2 with
   |stuck=>rw[e3] at q2';exact q2'
   |ex c s=>rw[e3] at q2';exact q2'
   |ok fl st3 =>
    rw[e3] at q2'
    intro ι3 G3 H3 x3 sr3
    cases fl with
    |nx Γ3=>exact fun σ3 en3=>⟨ι3,G3,st3,Γ3,e2.trans x3,sr3,en3,dt.later x3 q2'⟩
    |ct Γ3=>exact fun σ3 en3=>⟨ι3,G3,st3,Γ3,e2.trans x3,sr3,en3,dt.later x3 q2'⟩
    |bk Γ3=>exact q2' ι3 G3 H3 x3 sr3
    |rt w=>exact q2' ι3 G3 H3 x3 sr3
end
section
variable {X:Cx}
theorem nM(K:PySem.W.Frag):∀k∈kinds,∀T∈kinds,PySem.W.kitOne K (.type k) (.type T)=some (e9 k T):=by
 intro k hk T hT
 simp only[kinds,List.mem_cons,List.not_mem_nil,or_false] at hk hT
 rcases hk with rfl|rfl|rfl|rfl|rfl|rfl|rfl<;>rcases hT with rfl|rfl|rfl|rfl|rfl|rfl|rfl<;>with_unfolding_all rfl
theorem E8:nh X (.builtin "isinstance") cb:=by
 intro EF s σ H ι G st xs ws us Q I sr rv t q
 unfold cb at q
 split at q
 ·rename_i w T
  by_cases hT:kinds.contains T=true
  ·rw [FJ hT] at q
   have hT':T∈kinds:=by simpa using hT
   obtain⟨v,v',rfl,r,r'⟩:=rel2 t
   cases r'
   cases rv with
   | cons ru rv =>
    cases rv with
    | cons rc rv =>
     cases rv
     rename_i u c
     cases (show c=Value.type T from rc)
     cases hk:ng st w with
     |none=>rw[hk] at q;exact(show False from q).elim
     | some k =>
      rw[hk] at q
      have fin:∀tk,EP X EF σ Q (.bool (e9 k T)) { s with toks:=tk }:=fun tk=>⟨.bl (e9 k T),H,I.tok tk,rfl,q _ ι G H (Ext.refl _ _ _) sr (.bl _)⟩
      have kk:k∈kinds->PySem.W.kitOne X.K (.type k) (.type T)=some (e9 k T):=fun h=>nM X.K k h T hT'
      cases r with
      |non=>cases hk;cases (show u=Value.none from ru);exact PySem.W.kia_one PySem.W.kitx_none I.kIn True.intro (kk (by decide)) (fun z=>nomatch z) fin
      |bl b=>cases hk;cases (show u=Value.bool b from ru);exact PySem.W.kia_one PySem.W.kitx_bool I.kIn True.intro (kk (by decide)) (fun z=>nomatch z) fin
      |int i=>cases hk;obtain⟨tk,e⟩:=(show ∃t,u=Value.int i t from ru);cases e;exact PySem.W.kia_one PySem.W.kitx_int I.kIn True.intro (kk (by decide)) (fun z=>nomatch z) fin
      |str x=>cases hk;obtain⟨tk,e⟩:=(show ∃t,u=Value.str x t from ru);cases e;exact PySem.W.kia_one PySem.W.kitx_str I.kIn True.intro (kk (by decide)) (fun z=>nomatch z) fin
      |@tup a xs _ s1 c1 t1 =>
       cases hk
       cases (show u=Value.ref a from ru)
       obtain⟨its,_,pl,_⟩:=I.tuple (sqT_same sr.sub s1)
       obtain⟨o,h1,h2,_⟩:=pl
       exact PySem.W.kia_one PySem.W.kitx_tuple I.kIn ⟨o,h1,h2⟩ (kk (by decide)) (fun z=>nomatch z) fin
      |@lst a xs _ s1 t1 =>
       cases hk
       cases (show u=Value.ref a from ru)
       obtain⟨its,_,pl,_⟩:=I.list (sr.sub.seq s1)
       obtain⟨o,n,h1,h2,_⟩:=pl
       exact PySem.W.kia_one PySem.W.kitx_list I.kIn ⟨o,h1,h2⟩ (kk (by decide)) (fun z=>nomatch z) fin
      |@dct a xs ks _ s1 l1 t1 =>
       cases hk
       cases (show u=Value.ref a from ru)
       obtain⟨_,_,vs,_,p⟩:=(show gm X.prog X.w H s.heap a (kr (ks.zip xs)) from I.hok a _ (sr.sub _ _ s1))
       obtain⟨o,es,ep,h1,h2,_⟩:=p
       exact PySem.W.kia_one PySem.W.kitx_dict I.kIn ⟨o,h1,h2.1⟩ (kk (by decide)) (fun z=>nomatch z) fin
      |ty n=>cases hk
      |exn s1 s2=>cases hk
      | ref hn =>
       rename_i n
       cases (show u=Value.ref (ι n) from ru)
       have hk:MO.kind (st.mu n)=some k:=hk
       cases e:st.mu n with
       |none=>rw[e] at hk;cases hk
       | some o =>
        rw[e] at hk
        obtain⟨_,_,h3⟩:=sr.live n o e
        cases o with
        |lst zs =>
         cases hk
         obtain⟨vs,qv,_⟩:=h3
         obtain⟨its,_,pl,_⟩:=I.list (bx.of qv)
         obtain⟨o,n,h1,h2,_⟩:=pl
         exact PySem.W.kia_one PySem.W.kitx_list I.kIn ⟨o,h1,h2⟩ (kk (by decide)) (fun z=>nomatch z) fin
        |dct ks zs =>
         cases hk
         obtain⟨xs,qv,_,_⟩:=h3
         obtain⟨_,_,vs,_,p⟩:=(show gm X.prog X.w H s.heap _ (kr (ks.zip xs)) from I.hok _ _ qv)
         obtain⟨o,es,ep,h1,h2,_⟩:=p
         exact PySem.W.kia_one PySem.W.kitx_dict I.kIn ⟨o,h1,h2.1⟩ (kk (by decide)) (fun z=>nomatch z) fin
  ·rw[FK hT] at q;exact(show False from q).elim
 ·exact(show False from q).elim
end
inductive GV where
 |con (w:W)
 |fn (n:Nat) (op:bh)
 |blt
 |fx (n:Nat) (b:Bool) (op:bh)
 |exc (own:Bool) (tab:List (Str×Bool))
 |dcon (ks:List dy) (ws:List W)
structure FC where
 N:List Str
 sc:Scope
 gl:List (Str×GV)
 mts:List (Nat×Nat)
 cm:Bool
 cx:Bool
def FC.isMut(c:FC)(p:Pos):Bool:=c.mts.any fun q=>q.1 == p.line&&q.2 == p.col
structure ExcOk (K:PySem.W.Frag) (mg:Str->Option Value) (y:Str) (own:Bool) (tab:List (Str×Bool)) (cv:Value) (vc:V):Prop where
 rel:az vc cv
 un:∀u,az vc u->u=cv
 glob:own=true->mg y=some cv/\∃C,cv=.ref C/\ExCls K y C
 blt:own=false->mg y=none/\bootBuiltins y=some cv
 tab:∀x b,tab.lookup x=some b->∃C,PySem.W.nsIn K mainGlobals x=some (some (.ref C))/\ExAt K C/\PySem.W.kitOne K (.ref C) cv=some b/\PySem.W.exmOne K (.ref C) cv=some b
structure XOK (c:FC) (X:Cx):Prop where
 N:X.N=c.N
 nd:c.N.Nodup
 sc:X.env.scope=c.sc
 calm:c.cm=true->X.calm=true
 hnd:c.cm=true->X.A.handled=none
 units:X.A.units+80<cLine
 cells:∀y,(c.sc.names.lookup y=some .cell\/c.sc.names.lookup y=some .free)->(X.env.cells.lookup y).isSome=true
 con:∀x w,c.gl.lookup x=some (.con w)->∃u v,X.mg x=some u/\az v u/\∀ι N G,RelW X.K ι N G v w
 fn:c.cm=true->∀x n op,c.gl.lookup x=some (.fn n op)->∃k f fd ps,FnOk X.prog X.w X.K X.mg X.base mq k f fd ps (wu X.K n op)/\Room (k+2) X.A/\X.mg x=some (.ref f)/\PySem.W.keepIn X.K (.ref f)=true/\jg X.K fd ps []/\ps.length=n
 blt:∀x,c.gl.lookup x=some .blt->X.mg x=none
 fx:∀x n b op,c.gl.lookup x=some (.fx n b op)->∃k f fd ps,FnX b X.prog X.w X.K X.mg X.base k f fd ps (mn X.K n op)/\RoomB false (k+2) X.A/\X.mg x=some (.ref f)/\PySem.W.keepIn X.K (.ref f)=true/\jg X.K fd ps []/\ps.length=n
 exc:∀y own tab,c.gl.lookup y=some (.exc own tab)->∃cv vc,ExcOk X.K X.mg y own tab cv vc
 own:c.cx=true->OwnFr X
 dcon:∀x ks ws,c.gl.lookup x=some (.dcon ks ws)->pc X.prog X.w X.K X.mg x ks ws
theorem XOK.gl(h:XOK c X)(e:c.sc.names.lookup x=some .globalImplicit):Gl X x:=by
 show X.env.scope.names.lookup x=_
 rw[h.sc];exact e
def ix(x:Str):Bool:=(x == ("__debug__" : Str))||(x == ("__classdict__" : Str))||(x == ("__name__" : Str))
theorem kn(h:ix x=false):(x == ("__debug__" : Str))=false:=by unfold ix at h;simp only[Bool.or_eq_false_iff] at h;exact h.1.1
theorem dbg2(h:ix x=false):(x == ("__classdict__" : Str))=false:=by unfold ix at h;simp only[Bool.or_eq_false_iff] at h;exact h.1.2
theorem Jj(h:ix x=false):x ≠ "__name__":=by
 unfold ix at h;simp only[Bool.or_eq_false_iff] at h
 intro e;rw[e] at h;simp at h
def slot(N:List Str)(x:Str):Option Nat:=match N with
 |[]=>none
 |y::ys=>if y == x then some 0 else(slot ys x).map (· + 1)
theorem Em(h:slot N x=some i):N[i]?=some x:=by
 induction N generalizing i with
 |nil=>cases h
 | cons y ys ih =>
  unfold slot at h
  by_cases hy:(y == x)=true
  ·rw[FJ hy] at h
   cases h
   have:y=x:=by simpa using hy
   rw[this];rfl
  ·rw[FK hy] at h
   cases e:slot ys x with
   |none=>rw[e] at h;cases h
   |some j=>rw[e] at h;cases h;rw[List.getElem?_cons_succ];exact ih e
noncomputable def bV:Operator->Option dm
 |.Add=>some av
 |.Sub=>some na
 |.Mult=>some dj
 |.FloorDiv=>some bi
 |.Mod=>some bf
 |_=>none
noncomputable def Pe(m:Bool)(op:Operator):Option dm:=if m=true then(match op with
 |.Add=>some xw
 |.Mult=>some xr
 |_=>none) else bV op
noncomputable def Jl:CmpOp->Option dm
 |.Eq=>some bw
 |.NotEq=>some de
 |.Lt=>some yj
 |.LtE=>some km
 |.Gt=>some ur
 |.In=>some cn
 |.NotIn=>some mv
 |_=>none
noncomputable def tyD(x:Str):Option String:=if x == ("str" : Str) then some "str" else if x == ("int" : Str) then some "int" else if x == ("bool" : Str) then some "bool" else if x == ("tuple" : Str) then some "tuple" else if x == ("list" : Str) then some "list" else if x == ("dict" : Str) then some "dict" else none
theorem oS(h:tyD x=some T):bootBuiltins x=some (.type T):=by
 unfold tyD at h
 repeat' split at h
 all_goals first
  |(cases h;rename_i e;have e':=eq_of_beq e;subst e';decide +kernel)
  |cases h
noncomputable def Pc(m:Bool)(x:Str):Option (Value×bh):=
 if x == ("len" : Str) then some (.builtin "len",gj)
 else if x == ("all" : Str) then some (.builtin "all",ij)
 else if x == ("isinstance" : Str) then some (.builtin "isinstance",cb)
 else none
noncomputable def Mk(m:Bool)(x:Str):Option (String×bh):=
 if x == ("tuple" : Str) then some ("tuple",mt)
 else if x == ("list" : Str) then some ("list",jd m)
 else if x == ("int" : Str) then some ("int",nb)
 else none
def my:Expr->Bool
 |.Starred _ _=>false
 |_=>true
theorem pp(h:my e=true):starEach (e::es) env=(false,eval e env)::starEach es env:=by
 cases e<;>first|rfl|exact absurd (show false=true from h) EG
theorem tq(h:es.all my=true):(backTo pos (starEach es env)).any (·.1)=false:=by
 induction es with
 |nil=>rfl
 |cons e es ih =>
  rw[List.all_cons,FE] at h
  rw[pp h.1]
  show((false:Bool)||(backTo pos (starEach es env)).any (·.1))=false
  rw[ih h.2];rfl
theorem oZ(h:(e::es).all my=true)(hl:(e::es).length<30) :
  ((backTo pos (starEach (e::es) env)).all (fun x=>!x.1)&&(backToKw pos (keywordEach [] env)).all (fun x=>x.1.isSome)&&decide ((e::es).length+([]:List Keyword).length+(if ([]:List Keyword).isEmpty then 0 else 1)<30))=true:=by
 have h1:(backTo pos (starEach (e::es) env)).all (fun x=>!x.1)=true:=by
  rw[<-List.not_any_eq_all_not,tq h];rfl
 have h2:(backToKw pos (keywordEach [] env)).all (fun x=>x.1.isSome)=true:=rfl
 have h3:decide ((e::es).length+([]:List Keyword).length+(if ([]:List Keyword).isEmpty then 0 else 1)<30)=true:=decide_eq_true (by simpa using hl)
 rw[h1,h2,h3];rfl
noncomputable def Oq(m:Str):Option (String×qw):=
 if m == ("append" : Str) then some ("list",kg)
 else if m == ("join" : Str) then some ("str",xu)
 else if m == ("upper" : Str) then some ("str",xm)
 else if m == ("count" : Str) then some ("list",Eu)
 else if m == ("index" : Str) then some ("list",Et)
 else if m == ("extend" : Str) then some ("list",xj)
 else if m == ("setdefault" : Str) then some ("dict",qc)
 else none
theorem vA(hu:X.A.units+64<cLine)(h:Oq m=some (T,op)):∃id,Mth X m T id op:=by
 unfold Oq at h
 repeat' split at h
 all_goals first
  |(cases h;done)
  |(cases h;rename_i e;have e':=eq_of_beq e;subst e';first
   |exact⟨_,kR⟩
   |exact⟨_,qU⟩
   |exact⟨_,nE⟩
   |exact⟨_,nG⟩
   |exact⟨_,nF⟩
   |exact⟨_,kQ⟩
   |exact⟨_,qT⟩
   )
def tw:Expr->Bool
 |.Slice _ _ _ _=>false
 |_=>true
theorem Qn(h:tw e=true):Fx e:=by
 intro ov iv
 cases e<;>first|rfl|exact absurd (show false=true from h) EG
theorem kF(h:tw e=true):Ni e:=by
 intro o i
 cases e<;>first|rfl|exact absurd (show false=true from h) EG
def wc:Expr->Bool
 |.Set _ _ _=>false
 |_=>true
theorem Qp(h:wc e=true):behindInMarks op e=false:=by
 cases e<;>first|rfl|exact absurd (show false=true from h) EG
theorem Hg(h:wc e=true):∀z,foldedSetIterable e env z=pure z:=by
 intro z
 cases e<;>first|rfl|exact absurd (show false=true from h) EG
theorem Sz(h:wc c=true):lastMarks [op,op'] [b,c]=false:=by
 cases c<;>first|rfl|exact absurd (show false=true from h) EG
def No:Expr->Bool
 |.UnaryOp .Not _ _=>false
 |.BoolOp _ _ _=>false
 |.IfExp _ _ _ _=>false
 |.Compare _ _ _ _=>false
 |_=>true
theorem mM(h:No e=true):∀whole,isTrue e env whole=(do let v <-whole;standAt e.pos;holding [v] (truthy v)):=by
 intro whole
 cases e with
 |UnaryOp op a p=>cases op<;>first|rfl|exact absurd (show false=true from h) EG
 |BoolOp _ _ _=>exact absurd (show false=true from h) EG
 |IfExp _ _ _ _=>exact absurd (show false=true from h) EG
 |Compare _ _ _ _=>exact absurd (show false=true from h) EG
 |_=>rfl
def xi(scope sc:Scope):Scope:={ scope with names:=scope.names.map fun(n,k)=>if (k == .free&&sc.kind == .function&&sc.names.lookup n == some .cell) then(n,.cell) else(n,k) }
def ln(scope:Scope):List Str:=(scope.names.filter fun p=>p.2 == .free).map (·.1)
noncomputable def slots(N:List Str):List Str->Option (List Nat)
 |[]=>some []
 |y::ys=>match slot N y,slots N ys with
  |some i,some r=>some (i::r)
  |_,_=>none
def Fg(scope sc:Scope)(x:Str):Bool:=
 scope.names.all (fun y=>y.2 != .cell)&&scope.names.all (fun y=>y.2 != .free||(sc.names.lookup y.1 == some .cell||sc.names.lookup y.1 == some .free))&&(scope.kind == .function) &&
 scope.names.all (fun y=>y.2 != .local||scope.names.lookup y.1 == some .local)&&(scope.names.lookup x == some .local)&&(ln scope).all (fun y=>scope.names.lookup y == some .free)&&decide ((x::ln scope).Nodup)
theorem Ts:∀{ys:List Str}{js:List Nat},slots N ys=some js->ys.length=js.length/\∀(k j:Nat),js[k]?=some j->ys[k]?=N[j]?
 |[],js,h=>by cases h;exact⟨rfl,fun k j e=>by simp at e⟩
 | y::ys,js,h=>by
  unfold slots at h
  cases e1:slot N y with
  |none=>rw[e1] at h;cases h
  | some i =>
   cases e2:slots N ys with
   |none=>rw[e1,e2] at h;cases h
   |some r =>
    rw[e1,e2] at h
    cases h
    obtain⟨h1,h2⟩:=Ts e2
    refine⟨by simp[h1],fun k j e=>?_⟩
    cases k with
    |zero=>simp at e;subst e;rw[Em e1];rfl
    |succ k=>exact h2 k j (by simpa using e)
theorem Nf(h:XOK c X)(hk:Fg scope c.sc x=true)(hc:slots c.N (ln scope)=some cap) :
  CompSc X scope x (iq X.env scope.names []) (x::ln scope) cap:=by
 unfold Fg at hk
 simp only[FE,List.all_eq_true,decide_eq_true_eq,beq_iff_eq] at hk
 obtain⟨⟨⟨⟨⟨⟨h1,h2⟩,h3⟩,h4⟩,h5⟩,h6⟩,h7⟩:=hk
 have g1:∀y∈scope.names,y.2≠.cell:=fun y hy e=>by have:=h1 y hy;rw[e] at this;cases this
 have g2:∀y∈scope.names,y.2=.free->c.sc.names.lookup y.1=some .cell\/c.sc.names.lookup y.1=some .free:=fun y hy e=>by
  have:=h2 y hy
  rw[e] at this
  simpa using this
 have g4:∀y∈scope.names,y.2=.local->scope.names.lookup y.1=some .local:=fun y hy e=>by
  have:=h4 y hy
  rw[e] at this
  simpa using this
 have cells:∀y∈scope.names,y.2=.free->(X.env.cells.lookup y.1).isSome=true:=fun y hy e=>h.cells y.1 (g2 y hy e)
 obtain⟨sl1,sl2⟩:=Ts hc
 have fr:∀(k:Nat)(y:Str),(x::ln scope)[k+1]?=some y->scope.names.lookup y=some .free:=fun k y e=>by
  have e':(ln scope)[k]?=some y:=by simpa using e
  exact h6 y (List.mem_of_getElem? e')
 have rl:∀(l:List (Str×NameKind))(y:Str),l.lookup y=some .free ->
   (l.map fun(n,k)=>if (k == NameKind.free&&X.env.scope.kind == .function&&X.env.kindOf n == some .cell) then(n,NameKind.cell) else(n,k)).lookup y=some .cell ∨
   (l.map fun(n,k)=>if (k == NameKind.free&&X.env.scope.kind == .function&&X.env.kindOf n == some .cell) then(n,NameKind.cell) else(n,k)).lookup y=some .free:=by
  intro l y
  induction l with
  |nil=>intro h;simp at h
  | cons p r ih =>
   intro hl
   obtain⟨n,k'⟩:=p
   rw[List.lookup_cons] at hl
   rw[FN]
   cases hy:y == n with
   |true =>
    rw[hy] at hl
    cases hl
    dsimp only
    split
    ·left;rw[List.lookup_cons,hy]
    ·right;rw[List.lookup_cons,hy]
   |false =>
    rw[hy] at hl
    dsimp only
    split
    ·rw[List.lookup_cons,hy];exact ih hl
    ·rw[List.lookup_cons,hy];exact ih hl
 refine⟨wL cells,g1,h3,g4,h5,h7,rfl,by rw[EZ,sl1],fun k j e=>?_,fun k y e=>?_,fun k y e=>rl scope.names y (fr k y e),Mh X.env scope.names [] cells (fun y c h=>by simp at h),fun y hy=>?_⟩
 ·rw[List.getElem?_cons_succ,h.N];exact sl2 k j e
 ·have m:=PySem.mem_of_lookup (fr k y e)
  have:=g2 _ m rfl
  show X.env.scope.names.lookup y=_\/X.env.scope.names.lookup y=_
  rw[h.sc];exact this
 ·refine Mi X.env scope.names [] y (.inr ?_)
  rcases hy with hy|hy
  ·rcases relabel_mem hy with m|m
   ·exact absurd rfl (g1 _ m)
   ·exact m
  ·rcases relabel_mem hy with m|m
   ·exact m
   ·exact m
theorem Mf(h:XOK c X)(hk:Fg scope c.sc x=true)(hc:slots c.N (ln scope)=some cap)(C:Addr)(s:Shared)(H:Hp)(ex:List Addr) :
  XOK { c with N:=x::ln scope,sc:=xi scope c.sc,cx:=false } (ie X scope (iq X.env scope.names []) C (x::ln scope) s H ex):=by
 have Sc:=Nf h hk hc
 have es:(ie X scope (iq X.env scope.names []) C (x::ln scope) s H ex).env.scope=xi scope c.sc:=by
  show relabel scope X.env=_
  unfold relabel xi
  rw[<-h.sc];rfl
 refine⟨rfl,Sc.nd,es,h.calm,h.hnd,h.units,fun y hy=>?_,h.con,h.fn,h.blt,h.fx,h.exc,(fun z=>Bool.noConfusion z),h.dcon⟩
 obtain⟨cc,hcc⟩:=Sc.has y (by
  have e2:relabel scope X.env=xi scope c.sc:=es
  rw[e2];exact hy)
 show((iq X.env scope.names []).lookup y).isSome=true
 rw[hcc];rfl
noncomputable def Ov(c:FC)(x:Str)(es:List Expr):Option (Expr×Str×Pos×List (Str×Bool)):=if x == ("isinstance" : Str) then(match es with
 |[a,.Name y p]=>if ix y then none else(match c.sc.names.lookup y,c.gl.lookup y with
  |some .globalImplicit,some (.exc _ tab)=>some (a,y,p,tab)
  |_,_=>none)
 |_=>none) else none
theorem vL(h:Ov c x es=some (a,y,p,tab)):x = "isinstance"/\es=[a,.Name y p]/\ix y=false/\c.sc.names.lookup y=some .globalImplicit/\∃own,c.gl.lookup y=some (.exc own tab):=by
 unfold Ov at h
 split at h
 ·rename_i hx
  split at h
  ·split at h
   ·cases h
   ·rename_i hd
    split at h
    ·rename_i h1 h2
     cases h
     exact⟨eq_of_beq hx,rfl,by simpa using hd,h1,_,h2⟩
    ·cases h
  ·cases h
 ·cases h
noncomputable def Jb(c:FC):Expr->Option (Str×Pos×List be×List W)
 |.Name y p=>if ix y then none else(match c.sc.names.lookup y,c.gl.lookup y with
  |some .globalImplicit,some (.dcon ks ws)=>some (y,p,ks,ws)
  |_,_=>none)
 |_=>none
theorem Wl(h:Jb c e=some (y,p,ks,ws)):e=.Name y p/\ix y=false/\c.sc.names.lookup y=some .globalImplicit/\c.gl.lookup y=some (.dcon ks ws):=by
 unfold Jb at h
 split at h
 ·split at h
  ·cases h
  ·rename_i hd
   split at h
   ·rename_i h1 h2
    cases h
    exact⟨rfl,by simpa using hd,h1,h2⟩
   ·cases h
 ·cases h
noncomputable def bS(op:CmpOp)(ks:List be)(ws:List W):Option (W->S->R W):=match op with
 |.In=>some (nc ks ws false)
 |.NotIn=>some (nc ks ws true)
 |_=>none
noncomputable def Ob(c:FC)(x:Str):Option am:=if ix x then none else(match c.sc.names.lookup x with
 |some .globalImplicit=>(match c.gl.lookup x with
  |some (.con w)=>some (ac w)
  |some .blt=>(tyD x).map fun T=>ac (.ty T)
  |_=>none)
 |some .local=>(slot c.N x).map aa
 |some .cell=>(slot c.N x).map aa
 |some .free=>(slot c.N x).map aa
 |_=>none)
noncomputable def bR:Const->Option am
 |.int i=>some (ac (.int i))
 |.str x=>some (ac (.str x))
 |.bool b=>some (ac (.bl b))
 |.none=>some (ac .non)
 |_=>none
noncomputable def unD(op:UnaryOp)(r:am):Option am:=match op with
 |.Not=>some (gs r)
 |.USub=>some (bb r di)
 |_=>none
def Oj(op:BoolOp)(ra rb:am):am:=match op with
 |.And=>cr ra rb
 |.Or=>ia ra rb
noncomputable def bT(E:Expr->Option am)(a:Expr)(op:CmpOp)(b:Expr):Option am:=if wc b then(E a).bind fun ra=>(E b).bind fun rb=>(Jl op).map fun o=>ae ra rb o else none
noncomputable def Jm(c:FC)(E:Expr->Option am)(a:Expr)(op:CmpOp)(b:Expr):Option am:=match Jb c b with
 |some (_,_,ks,ws)=>(E a).bind fun ra=>(bS op ks ws).map fun o=>bb ra o
 |none=>bT E a op b
noncomputable def Oy(E:Expr->Option am)(a:Expr)(op op':CmpOp)(b d:Expr):Option am:=if wc d then(E a).bind fun ra=>(E b).bind fun rb=>(E d).bind fun rd=>(Jl op).bind fun o=>(Jl op').map fun o'=>ni ra rb rd o o' else none
noncomputable def Jk(c:FC)(E:Expr->Option am)(a:Expr):List CmpOp->List Expr->Option am
 |[op],[b]=>Jm c E a op b
 |[op,op'],[b,d]=>Oy E a op op' b d
 |_,_=>none
theorem cmpR_ok(h:Jk c E a ops bs=some r) :
  (∃op b,ops=[op]/\bs=[b]/\Jm c E a op b=some r)
 \/(∃op op' b d,ops=[op,op']/\bs=[b,d]/\Oy E a op op' b d=some r)
  := by
 rcases ops with _|⟨op,_|⟨op',_|⟨_,_⟩⟩⟩<;>rcases bs with _|⟨b,_|⟨d,_|⟨_,_⟩⟩⟩<;>first|exact .inl ⟨_,_,rfl,rfl,h⟩|exact .inr ⟨_,_,_,_,rfl,rfl,h⟩|cases h
noncomputable def bU(c:FC)(Es:List Expr->Option gr)(x:Str)(es:List Expr)(pos:Pos):Option am:=if !c.cm then none else match Pc (c.isMut pos) x with
 |some (_,op)=>(Es es).map fun rr=>runN rr op
 |none=>(match Mk (c.isMut pos) x with
  |some (_,op)=>(Es es).map fun rr=>runN rr op
  |none=>none)
noncomputable def Oz(a:Option NameKind)(b:Option GV):Bool:=match a,b with
 |some .globalImplicit,some .blt=>true
 |_,_=>false
theorem wM(h:Oz a b=true):a=some .globalImplicit/\b=some .blt:=by
 unfold Oz at h
 split at h
 ·exact⟨rfl,rfl⟩
 ·cases h
noncomputable def lsD(c:FC)(x:Str)(e:Expr)(es:List Expr):Option Expr:=match e,es with
 |.Call (.Name y _) [a] [] _,[]=>if x == ("len" : Str)&&y == ("set" : Str)&&Ms a&&c.cm&&Oz (c.sc.names.lookup y) (c.gl.lookup y) then some a else none
 |_,_=>none
theorem zF(h:lsD c x e es=some a):∃p2 pos2,x = "len"/\es=[]/\e=.Call (.Name "set" p2) [a] [] pos2/\Ms a=true/\c.cm=true/\c.sc.names.lookup ("set" : Str)=some .globalImplicit/\c.gl.lookup ("set" : Str)=some .blt:=by
 unfold lsD at h
 split at h
 ·rename_i y p2 b pos2
  split at h
  ·rename_i hc
   cases h
   simp only[FE] at hc
   obtain⟨⟨⟨⟨h1,h2⟩,h3⟩,h4⟩,h5⟩:=hc
   have h2':=eq_of_beq h2
   clear h2
   subst h2'
   obtain⟨h6,h7⟩:=wM h5
   exact⟨p2,pos2,eq_of_beq h1,rfl,rfl,h3,h4,h6,h7⟩
  ·cases h
 ·cases h
noncomputable def Pa(c:FC)(E:Expr->Option am)(Es:List Expr->Option gr)(x:Str)(e:Expr)(es:List Expr)(pos:Pos):Option am:=match lsD c x e es with
 |some a=>(E a).map fun ra=>bb ra xt
 |none=>bU c Es x (e::es) pos
noncomputable def Pb(c:FC)(E:Expr->Option am)(Es:List Expr->Option gr)(x:Str)(e:Expr)(es:List Expr)(pos:Pos):Option am:=match Ov c x (e::es) with
 |some (_,_,_,tab)=>(E e).map fun ra=>bb ra (oj tab)
 |none=>Pa c E Es x e es pos
noncomputable def Oi(c:FC)(E:Expr->Option am)(Es:List Expr->Option gr)(x:Str)(e:Expr)(es:List Expr)(pos:Pos):Option am:=
 if ix x then none else if (e::es).all my then(match c.sc.names.lookup x with
  |some .globalImplicit=>(match c.gl.lookup x with
   |some (.fn k op)=>if (e::es).length=k then(if c.cm then(Es (e::es)).map fun rr=>runN rr (ao op) else none) else none
   |some (.fx k b op)=>if (e::es).length=k then(if !b||c.cm then(Es (e::es)).map fun rr=>runN rr (if c.cx then op else ao op) else none) else none
   |some .blt=>Pb c E Es x e es pos
   |_=>none)
  |_=>none) else none
noncomputable def bH(E:Expr->Option am)(Es:List Expr->Option gr)(o:Expr)(m:Str)(apos:Pos)(es:List Expr)(pos:Pos):Option am:=
 if Ia o&&apos.endLine == pos.line&&es.all my&&decide (es.length<30) then(Oq m).bind fun(T,op)=>(E o).bind fun ro=>(Es es).map fun rr=>dw T ro rr op else none
noncomputable def aR(c:FC)(E:Expr->Option am)(Es:List Expr->Option gr)(f:Expr)(es:List Expr)(ks:List Keyword)(pos:Pos):Option am:=match f with
 | .Name x _=>(match es with
  |[]=>none
  |e::es=>(match ks with
   |[]=>Oi c E Es x e es pos
   |_::_=>none
   ))
 |.Attribute o m apos=>(match ks with
  |[]=>bH E Es o m apos es pos
  |_::_=>none)
 |_=>none
noncomputable def slG(m:Bool)(E:Expr->Option am)(a:Expr)(lo hi:Option Expr):Option am:=match lo with
 |none=>(match hi with
  |none=>(E a).map fun ra=>Wy m ra
  |some h=>(E a).bind fun ra=>(E h).map fun rh=>dq m ra rh)
 |some l=>(match hi with
  |none=>(E a).bind fun ra=>(E l).map fun rl=>dl m ra rl
  |some h=>(E a).bind fun ra=>(E l).bind fun rl=>(E h).map fun rh=>vq m ra rl rh)
noncomputable def ixG(c:FC)(E:Expr->Option am)(a b:Expr):Option am:=match Jb c a with
 |some (_,_,ks,ws)=>(E b).map fun rb=>bb rb (Fb ks ws)
 |none=>(E a).bind fun ra=>(E b).map fun rb=>ae ra rb ak
noncomputable def aZ(c:FC)(E:Expr->Option am)(a i:Expr)(pos:Pos):Option am:=match i with
 |.Slice lo hi st _=>(match st with
  |none=>slG (c.isMut pos) E a lo hi
  |some _=>none
  )
 |i=>if tw i then ixG c E a i else none
noncomputable def bP(T:Expr->Option am):List Expr->Option am
 |[]=>some (ac (.bl true))
 |t::ts=>(match ts with
  |[]=>T t
  |_::_=>none)
noncomputable def aP(c:FC)(I:Expr->Option jt)(T E:FC->Expr->Option am)(elt:Expr)(x:Str)(iter:Expr)(ifs:List Expr)(scope:Scope)(pos:Pos):Option am:=
 if !c.cm then none else if wc iter&&Fg scope c.sc x then(I iter).bind fun src=>(slots c.N (ln scope)).bind fun cap =>
  (bP (T { c with N:=x::ln scope,sc:=xi scope c.sc,cx:=false }) ifs).bind fun rt=>(E { c with N:=x::ln scope,sc:=xi scope c.sc,cx:=false } elt).map fun re=>ck (c.isMut pos) src cap rt re else none
noncomputable def F4(c:FC)(E:FC->Expr->Option am)(elt:Expr)(x:Str)(iter:Expr)(ifs:List Expr)(scope:Scope)(pos:Pos):Option am:=
 if !c.cm then none else if ifs.isEmpty&&wc iter&&Fg scope c.sc x then(E c iter).bind fun r=>(slots c.N (ln scope)).bind fun cap =>
  (E { c with N:=x::ln scope,sc:=xi scope c.sc,cx:=false } elt).map fun re=>tu (c.isMut pos) r cap re else none
noncomputable def Oh(c:FC)(I:Expr->Option jt)(T E:FC->Expr->Option am)(elt:Expr)(x:Str)(iter:Expr)(ifs:List Expr)(scope:Scope)(pos:Pos):Option am:=if c.isMut iter.pos then F4 c E elt x iter ifs scope pos else aP c I T E elt x iter ifs scope pos
noncomputable def Jc(c:FC)(I:Expr->Option jt)(T E:FC->Expr->Option am)(Es:List Expr->Option gr)(elt:Expr)(gens:List Comprehension)(scope:Scope)(pos:Pos):Option am:=match gens with
 |[⟨.Name x _,iter,ifs,0⟩]=>Oh c I T E elt x iter ifs scope pos
 |_=>none
theorem rW(h:Jc c I T E Es elt gens scope pos=some r):(∃x px iter ifs,gens=[⟨.Name x px,iter,ifs,0⟩]/\Oh c I T E elt x iter ifs scope pos=some r)
  := by
 unfold Jc at h
 split at h
 ·exact⟨_,_,_,_,rfl,h⟩
 ·cases h
noncomputable def Jg(c:FC):Expr->Bool
 |.ListComp _ gens _ _=>(match gens with
  |[⟨.Name _ _,iter,_,0⟩]=>c.isMut iter.pos
  |_=>true)
 |_=>false
def W1(E:Expr->Option am)(a b:Expr):Option jt:=none
def V9(Es:List Expr->Option gr)(a:Expr)(es:List Expr):Option jt:=none
noncomputable def Fu(c:FC)(E:Expr->Option am)(Es:List Expr->Option gr)(x:Str)(es:List Expr):Option jt:=match c.sc.names.lookup x,c.gl.lookup x with
 | some .globalImplicit,some .blt=>(match es with
  |[]=>none
  | a::es=>(match es with
   |[]=>if my a then(E a).map ja else none
   |b::es=>(match es with
    |[]=>W1 E a b
    |d::es=>V9 Es a (b::d::es))))
 |_,_=>none
mutual
noncomputable def bu:Nat->FC->Expr->Option am
 |0,_,_=>none
 | n+1,c,e=>match e with
  |.Name x _=>Ob c x
  |.Constant v _ _=>bR v
  |.BinOp a op b pos=>(bu n c a).bind fun ra=>(bu n c b).bind fun rb=>(Pe (c.isMut pos) op).map fun o=>ae ra rb o
  |.UnaryOp op a _=>(bu n c a).bind fun ra=>unD op ra
  | .BoolOp op es pos=>(match es with
   |[]=>none
   |a::es=>(match es with
    |[]=>bu n c a
    |b::rest=>(bu n c a).bind fun ra=>(bu n c (.BoolOp op (b::rest) pos)).map fun rb=>Oj op ra rb))
  |.Compare a ops bs _=>Jk c (bu n c) a ops bs
  |.IfExp t a b _=>(denT n c t).bind fun rt=>(bu n c a).bind fun ra=>(bu n c b).map fun rb=>Ny rt ra rb
  |.Tuple es _ _=>(denEs n c es).map fun rr=>runN rr ap
  |.List es pos=>(denEs n c es).map fun rr=>runN rr (ay (c.isMut pos))
  |.Call f es ks pos=>aR c (bu n c) (denEs n c) f es ks pos
  |.Subscript a i pos=>aZ c (bu n c) a i pos
  |.ListComp elt gens scope pos=>Jc c (denI n c) (denT n) (bu n) (denEs n c) elt gens scope pos
  | .Dict ks vs pos=>(match ks with
   |[]=>(match vs with
    |[]=>some (if c.isMut pos then se else d7)
    |_::_=>none)
   |_::_=>none)
  |.JoinedStr es _=>(match es with
   |a::b::es=>(denJ n c (a::b::es)).map fun rs=>kj rs Str.empty
   |_=>none)
  |.FormattedValue a (-1) none _=>(bu n c a).map fun ra=>bb ra ls
  |_=>none
noncomputable def denT:Nat->FC->Expr->Option am
 |0,_,_=>none
 | n+1,c,e=>match e with
  |.UnaryOp op a pos=>(match op with
   |.Not=>(denT n c a).map gs
   |_=>bu n c (.UnaryOp op a pos))
  | .BoolOp op es pos=>(match es with
   |[]=>none
   |a::es=>(match es with
    |[]=>denT n c a
    |b::rest=>(denT n c a).bind fun ra=>(denT n c (.BoolOp op (b::rest) pos)).map fun rb=>Oj op ra rb))
  |.Compare a ops bs _=>Jk c (bu n c) a ops bs
  |e=>if No e then bu n c e else none
noncomputable def denEs:Nat->FC->List Expr->Option gr
 |0,_,_=>none
 |n+1,c,es=>match es with
  |[]=>some af
  |e::es=>if my e then(bu n c e).bind fun r=>(denEs n c es).map fun rr=>ad r rr else none
noncomputable def denJ:Nat->FC->List Expr->Option (List am)
 |0,_,_=>none
 |n+1,c,es=>match es with
  |[]=>some []
  |e::es=>(bu n c e).bind fun r=>(denJ n c es).map fun rs=>r::rs
noncomputable def denI:Nat->FC->Expr->Option jt
 |0,_,_=>none
 | n+1,c,e=>match e with
  | .Call f es ks pos=>(match f with
   |.Name x p=>(match ks with
    |[]=>if x == ("range" : Str) then Fu c (bu n c) (denEs n c) x es else(bu n c (.Call (.Name x p) es [] pos)).map ba
    |k::ks=>(bu n c (.Call (.Name x p) es (k::ks) pos)).map ba)
   |f=>(bu n c (.Call f es ks pos)).map ba)
  |e=>(bu n c e).map ba
end
section
variable {X:Cx}
theorem wP(h:bV op=some o):fi X (binaryOp op) o:=by
 cases op<;>first
  |(cases h;done)
  |(cases h;exact uT)
  |(cases h;exact uO)
  |(cases h;exact uP)
  |(cases h;exact uS)
  |(cases h;exact uQ)
theorem wO(h:Pe m op=some o):fi X (binaryOp op) o:=by
 unfold Pe at h
 by_cases hm:m=true
 ·rw[FJ hm] at h
  split at h
  ·cases h;exact qL
  ·cases h;exact qI
  ·cases h
 ·rw[FK hm] at h;exact wP h
theorem Ng(hu:X.A.units+64<cLine)(h:Jl op=some o):fi X (compareOp op) o:=by
 cases op<;>first
  |(cases h;done)
  |(cases h;exact zA hu)
  |(cases h;exact yV hu)
  |(cases h;exact yW)
  |(cases h;exact yX)
  |(cases h;exact yZ)
  |(cases h;exact yY hu)
  |(cases h;exact mX hu)
theorem wN(hh:X.A.handled=none)(hc:X.calm=true)(hu:X.A.units+80<cLine)(h:Pc m x=some (f,op)):∃id,f=.builtin id/\bootBuiltins x=some (.builtin id)/\nh X (.builtin id) op:=by
 unfold Pc at h
 repeat' split at h
 all_goals first
  |(cases h;done)
  |(cases h;rename_i e;have e':=eq_of_beq e;subst e';first
   |exact⟨_,rfl,by decide +kernel,E7⟩
   |exact⟨_,rfl,by decide +kernel,E8⟩
   |exact⟨_,rfl,by decide +kernel,F0 hc⟩
   )
theorem jN(hh:X.A.handled=none)(h:Mk m x=some (T,op)):bootBuiltins x=some (.type T)/\nh X (.type T) op:=by
 unfold Mk at h
 repeat' split at h
 all_goals first
  |(cases h;done)
  |(cases h;rename_i e;have e':=eq_of_beq e;subst e';first
   |exact⟨by decide +kernel,rQ⟩
   |exact⟨by decide +kernel,rR hh⟩
   |exact⟨by decide +kernel,E9⟩
   )
theorem qH{id:String}{x:Str}{p pos:Pos}(hc:nh X (.builtin id) op)(hg:Gl X x)(hm:X.mg x=none)(hv:bootBuiltins x=some (.builtin id))(ha:mo X (e::es) rr)(hd:ix x=false)(hs:(e::es).all my=true) :
  PD X (.Call (.Name x p) (e::es) [] pos) (runN rr op):=by
 rw[List.all_cons,FE] at hs
 exact PE.imp (Vv hc.r hg hm hv ha (Jj hd) (kn hd) (pp hs.1) (tq hs.2)) fun _ _ _ h=>Vp h
theorem qG(hc:nh X (.type T) op)(hg:Gl X x)(hm:X.mg x=none)(hv:bootBuiltins x=some (.type T))(ha:mo X (e::es) rr)(hd:ix x=false)(hs:(e::es).all my=true) :
  PD X (.Call (.Name x p) (e::es) [] pos) (runN rr op):=by
 rw[List.all_cons,FE] at hs
 exact PE.imp (mP hc.r hg hm hv ha (Jj hd) (kn hd) (pp hs.1) (tq hs.2)) fun _ _ _ h=>Vp h
end
theorem ob(h:o.bind f=some b):∃a,o=some a/\f a=some b:=by
 cases o with
 |none=>cases h
 |some a=>exact⟨a,rfl,h⟩
theorem om(h:o.map f=some b):∃a,o=some a/\f a=b:=by
 cases o with
 |none=>cases h
 |some a=>exact⟨a,rfl,FP h⟩
theorem lc(h:(if c then x else none)=some b):c=true/\x=some b:=by
 cases c with
 |true=>exact⟨rfl,h⟩
 |false=>cases h
theorem Y6(h:(if c then none else x)=some b):c=false/\x=some b:=by
 cases c with
 |true=>cases h
 |false=>exact⟨rfl,h⟩
theorem Is(h:(if !c then none else x)=some b):c=true/\x=some b:=by
 cases c with
 |true=>exact⟨rfl,h⟩
 |false=>cases h
theorem Lx:∀(n:Nat)(c:FC)(es:List Expr)(rr:gr),denEs n c es=some rr->∀Γ st ws st',rr Γ st=.ok ws st'->ws.length=es.length
 |0,_,_,_,h=>by cases h
 |n+1,c,[],rr,h=>by
  cases h
  intro Γ st ws st' e
  cases e;rfl
 | n+1,c,e::es,rr,h=>by
  unfold denEs at h
  obtain⟨_,h⟩:=lc h
  obtain⟨r,hr,h⟩:=ob h
  obtain⟨r2,hr2,h⟩:=om h
  subst h
  intro Γ st ws st' e
  unfold ad at e
  cases e1:r Γ st with
  |stuck=>rw[e1] at e;cases e
  |ex c s=>rw[e1] at e;cases e
  | ok w st1 =>
   rw[e1] at e
   have e':((r2 Γ st1).bind fun ws st2=>R.ok (w::ws) st2)=.ok ws st':=e
   cases e2:r2 Γ st1 with
   |stuck=>rw[e2] at e';cases e'
   |ex c s=>rw[e2] at e';cases e'
   |ok ws2 st2 =>
    rw[e2] at e'
    cases e'
    rw[EZ,EZ,Lx n c es r2 hr2 Γ st1 ws2 _ e2]
theorem XOK.u64(h:XOK c X):X.A.units+64<cLine:=by have:=h.units;omega
structure Sound (n:Nat):Prop where
 e:∀(c:FC)(X:Cx)(e:Expr)(r:am),XOK c X->bu n c e=some r->PD X e r
 t:∀(c:FC)(X:Cx)(e:Expr)(r:am),XOK c X->denT n c e=some r->PT X e (gz X r)
 w:∀(c:FC)(X:Cx)(op:BoolOp)(es:List Expr)(pos:Pos)(r:am),XOK c X->denT n c (.BoolOp op es pos)=some r->PW X (.BoolOp op es pos) (gz X r)
 es:∀(c:FC)(X:Cx)(es:List Expr)(r:gr),XOK c X->denEs n c es=some r->mo X es r
 i:∀(c:FC)(X:Cx)(y:Str)(py:Pos)(e:Expr)(r:jt),XOK c X->denI n c e=some r->wv X (.Name y py) e r
 j:∀(c:FC)(X:Cx)(es:List Expr)(rs:List am),XOK c X->denJ n c es=some rs->Paired (fun e r=>PD X e r) es rs
section
variable {c:FC} {X:Cx} {n:Nat}
theorem sU(xo:XOK c X)(h:Ob c x=some r):PD X (.Name x pos) r:=by
 unfold Ob at h
 by_cases hd:ix x=true
 ·rw[FJ hd] at h;cases h
 ·rw[FK hd] at h
  have hd':ix x=false:=by simpa using hd
  have var:∀{r:am},(slot c.N x).map aa=some r->j6 X.env.scope x->PD X (.Name x pos) r:=by
   intro r h hv
   obtain⟨i,hi,rfl⟩:=om h
   exact yG (by rw[xo.N];exact Em hi) hv (kn hd') (dbg2 hd')
  split at h
  ·rename_i hl
   split at h
   ·rename_i w hw
    cases h
    obtain⟨u,v,h1,h2,h3⟩:=xo.con x w hw
    exact d8 (xl (xo.gl hl) h1 h2 (kn hd')) h3
   ·rename_i hw
    obtain⟨T,hT,rfl⟩:=om h
    exact d8 (v:=.ty T) (Xf (xo.gl hl) (xo.blt x hw) (oS hT) rfl (Jj hd') (kn hd')) fun _ _ _=>.ty T
   ·cases h
  ·rename_i hl;exact var h (.inl (by rw[xo.sc];exact hl))
  ·rename_i hl;exact var h (.inr (.inl (by rw[xo.sc];exact hl)))
  ·rename_i hl;exact var h (.inr (.inr (by rw[xo.sc];exact hl)))
  ·cases h
theorem xH(h:bR v=some r):PD X (.Constant v k pos) r:=by
 cases v<;>first
  |(cases h;done)
  |(cases h;exact d8 yB fun _ _ _=>.int _)
  |(cases h;exact d8 xX fun _ _ _=>.str _)
  |(cases h;exact d8 X2 fun _ _ _=>.bl _)
  |(cases h;exact d8 yA fun _ _ _=>.non)
theorem H9(ha:PD X a ra)(h:unD op ra=some r):PD X (.UnaryOp op a pos) r:=by
 cases op<;>first
  |(cases h;done)
  |(cases h;exact yJ ha)
  |(cases h;exact yK ha)
theorem tE{op:BoolOp}{a b:Expr}{rest:List Expr}{pos:Pos}{ra rb:am}(ha:PD X a ra)(hb:PD X (.BoolOp op (b::rest) pos) rb):PD X (.BoolOp op (a::b::rest) pos) (Oj op ra rb):=by
 cases op with
 |And=>exact yT ha hb
 |Or=>exact X3 ha hb
theorem sY(ih:Sound n)(xo:XOK c X)(h:bT (bu n c) a op b=some r):PD X (.Compare a [op] [b] pos) r/\PT X (.Compare a [op] [b] pos) (gz X r):=by
 obtain⟨hn,h⟩:=lc h
 obtain⟨ra,ha,h⟩:=ob h
 obtain⟨rb,hb,h⟩:=ob h
 obtain⟨o,ho,rfl⟩:=om h
 have k:=Ng (X:=X) xo.u64 ho
 exact⟨yS k (ih.e c X a ra xo ha) (ih.e c X b rb xo hb) (Qp hn),tX k (ih.e c X a ra xo ha) (ih.e c X b rb xo hb) (Qp hn)⟩
theorem sX(ih:Sound n)(xo:XOK c X)(h:Jm c (bu n c) a op b=some r):PD X (.Compare a [op] [b] pos) r/\PT X (.Compare a [op] [b] pos) (gz X r):=by
 unfold Jm at h
 split at h
 ·rename_i y p ks ws hdc
  obtain⟨rfl,hdy,hly,hgy⟩:=Wl hdc
  obtain⟨ra,ha,h⟩:=ob h
  obtain⟨o,ho,rfl⟩:=om h
  have hD:=xo.dcon y ks ws hgy
  have pa:=ih.e c X a ra xo ha
  unfold bS at ho
  split at ho
  ·cases ho;exact⟨yQ hD (xo.gl hly) (kn hdy) pa,tW hD (xo.gl hly) (kn hdy) pa⟩
  ·cases ho;exact⟨mU hD (xo.gl hly) (kn hdy) pa,kH hD (xo.gl hly) (kn hdy) pa⟩
  ·cases ho
 exact sY ih xo h
theorem sW(ih:Sound n)(xo:XOK c X)(h:Oy (bu n c) a op op' b d=some r):PD X (.Compare a [op,op'] [b,d] pos) r/\PT X (.Compare a [op,op'] [b,d] pos) (gz X r):=by
 obtain⟨hn,h⟩:=lc h
 obtain⟨ra,ha,h⟩:=ob h
 obtain⟨rb,hb,h⟩:=ob h
 obtain⟨rd,hd,h⟩:=ob h
 obtain⟨o,ho,h⟩:=ob h
 obtain⟨o',ho',rfl⟩:=om h
 have k:=Ng (X:=X) xo.u64 ho
 have k':=Ng (X:=X) xo.u64 ho'
 exact⟨qE k k' (ih.e c X a ra xo ha) (ih.e c X b rb xo hb) (ih.e c X d rd xo hd) (Sz hn),mQ k k' (ih.e c X a ra xo ha) (ih.e c X b rb xo hb) (ih.e c X d rd xo hd) (Sz hn)⟩
theorem Zb(ih:Sound n)(xo:XOK c X)(h:Jk c (bu n c) a ops bs=some r):PD X (.Compare a ops bs pos) r/\PT X (.Compare a ops bs pos) (gz X r):=by
 rcases cmpR_ok h with⟨op,b,rfl,rfl,h⟩|⟨op,op',b,d,rfl,rfl,h⟩
 ·exact sX ih xo h
 ·exact sW ih xo h
theorem tG(ih:Sound n)(xo:XOK c X)(hd:ix x=false)(hs:(e::es).all my=true)(hl:c.sc.names.lookup x=some .globalImplicit)(hw:c.gl.lookup x=some .blt)(h:bU c (denEs n c) x (e::es) pos=some r):PD X (.Call (.Name x p) (e::es) [] pos) r:=by
 obtain⟨hcm,h⟩:=Is h
 split at h
 ·rename_i f op hb
  obtain⟨rr,hr,rfl⟩:=om h
  obtain⟨id,rfl,h1,h2⟩:=wN (X:=X) (xo.hnd hcm) (xo.calm hcm) xo.units hb
  exact qH h2 (xo.gl hl) (xo.blt x hw) h1 (ih.es c X _ rr xo hr) hd hs
 ·split at h
  ·rename_i T op hb
   obtain⟨rr,hr,rfl⟩:=om h
   obtain⟨h1,h2⟩:=jN (X:=X) (xo.hnd hcm) hb
   exact qG h2 (xo.gl hl) (xo.blt x hw) h1 (ih.es c X _ rr xo hr) hd hs
  ·cases h
theorem tF(ih:Sound n)(xo:XOK c X)(hd:ix x=false)(hs:(e::es).all my=true)(hl:c.sc.names.lookup x=some .globalImplicit)(hw:c.gl.lookup x=some .blt)(h:Pa c (bu n c) (denEs n c) x e es pos=some r):PD X (.Call (.Name x p) (e::es) [] pos) r:=by
 unfold Pa at h
 split at h
 ·rename_i a hss
  obtain⟨ra,ha,er⟩:=om h
  subst er
  obtain⟨p2,pos2,rfl,rfl,rfl,h3,h4,h6,h7⟩:=zF hss
  exact uK (xo.hnd h4) (xo.gl hl) (xo.blt _ hw) (xo.gl h6) (xo.blt _ h7) (ih.e c X a ra xo ha) h3
 exact tG ih xo hd hs hl hw h
theorem sd_bltG(ih:Sound n)(xo:XOK c X)(hd:ix x=false)(hs:(e::es).all my=true)(hl:c.sc.names.lookup x=some .globalImplicit)(hw:c.gl.lookup x=some .blt)(h:Pb c (bu n c) (denEs n c) x e es pos=some r):PD X (.Call (.Name x p) (e::es) [] pos) r:=by
 unfold Pb at h
 split at h
 ·rename_i a y p2 tab hix
  obtain⟨ra,ha,er⟩:=om h
  subst er
  obtain⟨ex,hes,hdy,hly,own,hgy⟩:=vL hix
  subst ex
  obtain⟨e1,e2⟩:=List.cons.inj hes
  subst e2
  have e1:e=a:=e1
  obtain⟨cv,vc,EO⟩:=xo.exc y own tab hgy
  rw[List.all_cons,FE] at hs
  have hy:PE X (.Name y p2) (tC vc):=by
   cases own with
   |true=>exact xl (xo.gl hly) (EO.glob rfl).1 EO.rel (kn hdy)
   |false=>exact Xf (xo.gl hly) (EO.blt rfl).1 (EO.blt rfl).2 EO.rel (Jj hdy) (kn hdy)
  exact yP (xo.gl hl) (xo.blt _ hw) (ih.e c X e ra xo ha) hy EO.rel EO.un (fun x b q=>let ⟨C,h1,h2,h3,_⟩:=EO.tab x b q;⟨C,h1,h2,h3⟩) (pp hs.1) rfl (tq hs.2)
 exact tF ih xo hd hs hl hw h
theorem pH(ih:Sound n)(xo:XOK c X)(h:Oi c (bu n c) (denEs n c) x e es pos=some r):PD X (.Call (.Name x p) (e::es) [] pos) r:=by
 unfold Oi at h
 by_cases hd:ix x=true
 ·rw[FJ hd] at h;cases h
 ·rw [FK hd] at h
  have hd':ix x=false:=by simpa using hd
  obtain⟨hs,h⟩:=lc h
  have hs':=hs
  rw[List.all_cons,FE] at hs'
  split at h
  ·rename_i hl
   split at h
   ·rename_i k op hw
    split at h
    ·rename_i hk
     obtain⟨hcm,h⟩:=lc h
     obtain⟨rr,hr,rfl⟩:=om h
     obtain⟨kk,f,fd,ps,F,R,h1,h2,h3,_⟩:=xo.fn hcm x k op hw
     exact uN F (R.mono (Nat.le_add_right kk 2)) (xo.gl hl) h1 h2 h3 (ih.es c X _ rr xo hr) (fun Γ st ws st' e=>by rw[Lx n c _ rr hr Γ st ws st' e];exact hk) (kn hd') (pp hs'.1) (tq hs'.2)
    ·cases h
   ·rename_i k b op hw
    split at h
    ·rename_i hk
     obtain⟨hcm,h⟩:=lc h
     obtain⟨rr,hr,rfl⟩:=om h
     obtain⟨kk,f,fd,ps,F,R,h1,h2,h3,_⟩:=xo.fx x k b op hw
     have R:=R.mono (Nat.le_add_right kk 2)
     have R:RoomB b kk X.A:=⟨fun hb=>xo.hnd (by rw[hb] at hcm;simpa using hcm),R.dp,R.un⟩
     have hl':∀Γ st ws st',rr Γ st=.ok ws st'->ws.length=k:=fun Γ st ws st' e=>by rw[Lx n c _ rr hr Γ st ws st' e];exact hk
     cases c.cx with
     |true=>exact qF F R (xo.gl hl) h1 h2 h3 (ih.es c X _ rr xo hr) hl' (kn hd') (pp hs'.1) (tq hs'.2)
     |false=>exact mW F R (xo.gl hl) h1 h2 h3 (ih.es c X _ rr xo hr) hl' (kn hd') (pp hs'.1) (tq hs'.2)
    ·cases h
   ·rename_i hw;exact sd_bltG ih xo hd' hs hl hw h
   ·cases h
  ·cases h
theorem sV(ih:Sound n)(xo:XOK c X)(h:bH (bu n c) (denEs n c) o m apos es pos=some r):PD X (.Call (.Attribute o m apos) es [] pos) r:=by
 obtain⟨hk,h⟩:=lc h
 simp only[FE,decide_eq_true_eq] at hk
 obtain⟨⟨⟨h1,h2⟩,h3⟩,h4⟩:=hk
 obtain⟨⟨T,op⟩,hm,h⟩:=ob h
 obtain⟨ro,ho,h⟩:=ob h
 obtain⟨rr,hr,rfl⟩:=om h
 obtain⟨id,M⟩:=vA (X:=X) xo.u64 hm
 cases es with
 |nil =>
  cases n with
  |zero=>cases hr
  |succ n=>cases hr;exact yL M.hT M.pa M.slot M.hty M.hm (ih.e c X o ro xo ho) h1 h2
 |cons e es =>
  have h3':=h3
  rw[List.all_cons,FE] at h3'
  exact X5 M.hT M.pa M.slot M.hty M.hm (ih.e c X o ro xo ho) (ih.es c X _ rr xo hr) h1 (oZ h3 h4) h2 (pp h3'.1) (tq h3'.2)
theorem sZ(ih:Sound n)(xo:XOK c X)(h:aR c (bu n c) (denEs n c) f es ks pos=some r):PD X (.Call f es ks pos) r:=by
 cases f<;>first|(cases h;done)|skip
 ·cases ks with
  |nil=>exact sV ih xo h
  |cons k ks=>cases h
 ·cases es with
  |nil=>cases h
  | cons e es =>
   cases ks with
   |nil=>exact pH ih xo h
   |cons k ks =>
    cases h
theorem V6{m:Bool}{a:Expr}{lo hi:Option Expr}{p2 pos:Pos}{r:am}(ih:Sound n)(xo:XOK c X)(h:slG m (bu n c) a lo hi=some r):PD X (.Subscript a (.Slice lo hi none p2) pos) r:=by
 cases lo with
 |none =>
  cases hi with
  |none=>obtain⟨ra,ha,rfl⟩:=om h;exact uI (ih.e c X a ra xo ha)
  |some u=>obtain⟨ra,ha,h⟩:=ob h;obtain⟨rl,hl,rfl⟩:=om h;exact uH (ih.e c X a ra xo ha) (ih.e c X u rl xo hl)
 |some l =>
  cases hi with
  |none=>obtain⟨ra,ha,h⟩:=ob h;obtain⟨rl,hl,rfl⟩:=om h;exact uG (ih.e c X a ra xo ha) (ih.e c X l rl xo hl)
  |some u=>obtain⟨ra,ha,h⟩:=ob h;obtain⟨rl,hl,h⟩:=ob h;obtain⟨rh,hr,rfl⟩:=om h;exact uF (ih.e c X a ra xo ha) (ih.e c X l rl xo hl) (ih.e c X u rh xo hr)
theorem V7(ih:Sound n)(xo:XOK c X)(hp:tw b=true)(h:ixG c (bu n c) a b=some r):PD X (.Subscript a b pos) r:=by
 unfold ixG at h
 split at h
 ·rename_i y p ks ws hdc
  obtain⟨rfl,hdy,hly,hgy⟩:=Wl hdc
  obtain⟨rb,hb,rfl⟩:=om h
  exact uL (xo.dcon y ks ws hgy) (xo.gl hly) (kn hdy) (ih.e c X b rb xo hb) (Qn hp)
 obtain⟨ra,ha,h3⟩:=ob h
 obtain⟨rb,hb,rfl⟩:=om h3
 exact yN (by have:=xo.units;omega) (ih.e c X a ra xo ha) (ih.e c X b rb xo hb) (Qn hp) (yO (ih.e c X a ra xo ha) (ih.e c X b rb xo hb) (kF hp))
theorem xE(ih:Sound n)(xo:XOK c X)(h:aZ c (bu n c) a i pos=some r):PD X (.Subscript a i pos) r:=by
 by_cases hp:tw i=true
 ·have h':(if tw i then ixG c (bu n c) a i else none)=some r:=by
   rw[<-h]
   cases i<;>first|rfl|exact absurd (show false=true from hp) EG
  exact V7 ih xo hp (lc h').2
 ·cases i<;>first|exact absurd rfl hp|skip
  rename_i lo hi st p2
  cases st with
  |none=>exact V6 ih xo h
  |some st=>cases h
theorem xG(hK:X'.K=X.K)(h:bP (denT n c) ifs=some rt)(k:∀t r,denT n c t=some r->PT X' t (gz X' r)):yw X' ifs (tT0 X.K rt):=by
 cases ifs with
 |nil =>
  cases h
  intro EF s' σ H' Q I q
  refine Xc EF s' σ H' Q I ?_
  obtain⟨ι,G,st,Γ,en,sr,q⟩:=q
  obtain⟨b,e,q'⟩:=q (.bl true) ι G H' (Ext.refl _ _ _) sr (.bl true)
  cases e;exact q'
 |cons t ts =>
  cases ts with
  |nil=>rw[<-hK];exact tM (PT.calm (k t rt h))
  |cons _ _=>cases h
theorem pG(ih:Sound n)(xo:XOK c X)(h:aP c (denI n c) (denT n) (bu n) elt x iter ifs scope pos=some r) :
  PD X (.ListComp elt [⟨.Name x px,iter,ifs,0⟩] scope pos) r/\(∀{i:Nat}{y:Str}{py spos:Pos},X.N.Nodup->X.N[i]?=some y->X.env.scope.names.lookup y=some .local->swapsWith (.ListComp elt [⟨.Name x px,iter,ifs,0⟩] scope pos) (some (.Name y py)) spos.line X.env=pure true ->
   PS X (.Assign [.Name y py] (.ListComp elt [⟨.Name x px,iter,ifs,0⟩] scope pos) spos) (yi (tD X r) (si i))):=by
 obtain⟨hcm,h⟩:=Is h
 obtain⟨hk,h⟩:=lc h
 rw[FE] at hk
 obtain⟨src,hsrc,h⟩:=ob h
 obtain⟨cap,hcap,h⟩:=ob h
 obtain⟨rt,hrt,h⟩:=ob h
 obtain⟨re,hre,rfl⟩:=om h
 exact uM (xo.calm hcm) (ih.i c X x px iter src xo hsrc) (Nf xo hk.2 hcap) (fun C s H ex=>xG (X:=X) rfl hrt fun t r ht=>ih.t _ _ t r (Mf xo hk.2 hcap C s H ex) ht) (fun C s H ex=>PD.calm (ih.e _ _ elt re (Mf xo hk.2 hcap C s H ex) hre)) (Hg hk.1)
theorem Wx(ih:Sound n)(xo:XOK c X)(h:Jc c (denI n c) (denT n) (bu n) (denEs n c) elt gens scope pos=some r) :
  PD X (.ListComp elt gens scope pos) r/\(Jg c (.ListComp elt gens scope pos)=false->∀{i:Nat}{y:Str}{py spos:Pos},X.N.Nodup->X.N[i]?=some y->X.env.scope.names.lookup y=some .local->swapsWith (.ListComp elt gens scope pos) (some (.Name y py)) spos.line X.env=pure true ->
   PS X (.Assign [.Name y py] (.ListComp elt gens scope pos) spos) (yi (tD X r) (si i))):=by
 have h0:=rW h
 clear h
 obtain⟨x,px,iter,ifs,rfl,h⟩:=h0
 unfold Oh at h
 by_cases hm:c.isMut iter.pos=true
 ·rw[FJ hm] at h
  obtain⟨hcm,h⟩:=Is h
  obtain⟨hk,h⟩:=lc h
  rw[FE,FE] at hk
  obtain⟨⟨hi,hs⟩,hk⟩:=hk
  obtain⟨r1,hr,h⟩:=ob h
  obtain⟨cap,hcap,h⟩:=ob h
  obtain⟨re,hre,rfl⟩:=om h
  have hi:ifs=[]:=by simpa using hi
  subst hi
  exact⟨qD (xo.calm hcm) (ih.e c X iter r1 xo hr) (Nf xo hk hcap) (fun C s H ex=>PD.calm (ih.e _ _ elt re (Mf xo hk hcap C s H ex) hre)) (Hg hs),fun z=>by rw[show Jg c (.ListComp elt [⟨.Name x px,iter,[],0⟩] scope pos)=c.isMut iter.pos from rfl,hm] at z;cases z⟩
 rw[FK hm] at h
 obtain⟨g1,g2⟩:=pG (px:=px) ih xo h
 exact⟨g1,fun _=>g2⟩
theorem xF(ih:Sound n)(xo:XOK c X)(h:Fu c (bu n c) (denEs n c) "range" es=some r):wv X (.Name y py) (.Call (.Name "range" p) es [] pos) r:=by
 unfold Fu at h
 split at h
 ·rename_i hl hw
  cases es with
  |nil=>cases h
  | cons a es =>
   cases es with
   |nil =>
    obtain⟨hs,h⟩:=lc h
    obtain⟨ra,ha,rfl⟩:=om h
    exact kJ (xo.gl hl) (xo.blt _ hw) (ih.e c X a ra xo ha) (pp hs)
   | cons b es =>
    cases es with
    |nil =>
     cases h
    |cons d es =>
     cases h
 ·cases h
theorem sd_E(ih:Sound n)(xo:XOK c X)(h:bu (n+1) c e=some r):PD X e r:=by
 unfold bu at h
 cases e with
 |Name x pos=>exact sU xo h
 |Constant v k pos=>exact xH h
 |BinOp a op b pos =>
  obtain⟨ra,ha,h⟩:=ob h
  obtain⟨rb,hb,h⟩:=ob h
  obtain⟨o,ho,rfl⟩:=om h
  exact X4 (wO ho) (ih.e c X a ra xo ha) (ih.e c X b rb xo hb)
 |UnaryOp op a pos=>obtain⟨ra,ha,h⟩:=ob h;exact H9 (ih.e c X a ra xo ha) h
 | BoolOp op es pos =>
  cases es with
  |nil=>cases h
  |cons a es =>
   cases es with
   |nil=>exact yI (ih.e c X a r xo h)
   |cons b rest=>obtain⟨ra,ha,h⟩:=ob h;obtain⟨rb,hb,rfl⟩:=om h;exact tE (ih.e c X a ra xo ha) (ih.e c X _ rb xo hb)
 |Compare a ops bs pos=>exact(Zb ih xo h).1
 |IfExp t a b pos =>
  obtain⟨rt,ht,h⟩:=ob h
  obtain⟨ra,ha,h⟩:=ob h
  obtain⟨rb,hb,rfl⟩:=om h
  exact X6 (ih.t c X t rt xo ht) (ih.e c X a ra xo ha) (ih.e c X b rb xo hb)
 |Tuple es k pos=>obtain⟨rr,hr,rfl⟩:=om h;exact yH (ih.es c X es rr xo hr)
 |List es pos =>
  obtain⟨rr,hr,rfl⟩:=om h
  cases c.isMut pos with
  |true=>exact uJ (ih.es c X es rr xo hr)
  |false=>exact yM (ih.es c X es rr xo hr)
 |Call f es ks pos=>exact sZ ih xo h
 |Subscript a i pos=>exact xE ih xo h
 |ListComp elt gens scope pos=>exact(Wx ih xo h).1
 | Dict ks vs pos =>
  cases ks with
  |cons _ _=>cases h
  | nil =>
   cases vs with
   |cons _ _=>cases h
   |nil =>
    cases h
    cases c.isMut pos with
    |true=>exact qB
    |false=>exact qC
 | JoinedStr es pos =>
  cases es with
  |nil=>cases h
  | cons a es =>
   cases es with
   |nil=>cases h
   |cons b es =>
    obtain⟨rs,hr,rfl⟩:=om h
    exact mV (ih.j c X _ rs xo hr) (Qu _ _)
 |FormattedValue a k sp pos =>
  split at h
  all_goals first|(cases h;done)|skip
  all_goals (rename_i heq;cases heq)
  obtain⟨ra,ha,rfl⟩:=om h;exact yR (ih.e c X _ ra xo ha)
 |_=>cases h
theorem bB(ih:Sound n)(xo:XOK c X)(h:denT (n+1) c (.BoolOp op es pos)=some r):PW X (.BoolOp op es pos) (gz X r):=by
 unfold denT at h
 cases es with
 |nil=>cases h
 | cons a es =>
  cases es with
  |nil=>exact tJ (ih.t c X a r xo h)
  |cons b rest =>
   obtain⟨ra,ha,h⟩:=ob h
   obtain⟨rb,hb,rfl⟩:=om h
   cases op with
   |And=>exact tK (ih.t c X a ra xo ha) (ih.w c X .And (b::rest) pos rb xo hb)
   |Or=>exact xL (ih.t c X a ra xo ha) (ih.w c X .Or (b::rest) pos rb xo hb)
theorem sd_T(ih:Sound n)(xo:XOK c X)(h:denT (n+1) c e=some r):PT X e (gz X r):=by
 have pl:No e=true->bu n c e=some r->PT X e (gz X r):=fun hp h=>tU (ih.e c X e r xo h) (mM hp)
 cases e with
 |BoolOp op es pos=>exact(bB ih xo h).pt
 |UnaryOp op a pos =>
  unfold denT at h
  cases op with
  |Not=>obtain⟨ra,ha,rfl⟩:=om h;exact tV (ih.t c X a ra xo ha)
  |_=>exact pl rfl h
 |Compare a ops bs pos=>unfold denT at h;exact(Zb ih xo h).2
 |_=>unfold denT at h;obtain⟨hp,h⟩:=lc h;exact pl hp h
theorem sd_I(ih:Sound n)(xo:XOK c X)(h:denI (n+1) c e=some r):wv X (.Name y py) e r:=by
 have val:∀{r:jt},(bu n c e).map ba=some r->wv X (.Name y py) e r:=fun{r} h=>by
  obtain⟨ra,ha,rfl⟩:=om h
  exact uE (ih.e c X e ra xo ha)
 unfold denI at h
 cases e with
 | Call f es ks pos =>
  cases f with
  | Name x p =>
   cases ks with
   | nil =>
    by_cases hx:(x == ("range" : Str))=true
    ·have h:(if x == ("range" : Str) then Fu c (bu n c) (denEs n c) x es else(bu n c (.Call (.Name x p) es [] pos)).map ba)=some r:=h
     rw[FJ hx] at h
     have hx':=eq_of_beq hx
     subst hx'
     exact xF ih xo h
    ·have h:(if x == ("range" : Str) then Fu c (bu n c) (denEs n c) x es else(bu n c (.Call (.Name x p) es [] pos)).map ba)=some r:=h
     rw[FK hx] at h
     exact val h
   |cons k ks=>exact val h
  |_=>exact val h
 |_=>exact val h
end
theorem og:∀n,Sound n
 |0=>⟨fun _ _ _ _ _ h=>by(unfold bu at h;cases h),fun _ _ _ _ _ h=>by(unfold denT at h;cases h),fun _ _ _ _ _ _ _ h=>by(unfold denT at h;cases h),fun _ _ _ _ _ h=>by(unfold denEs at h;cases h),fun _ _ _ _ _ _ _ h=>by(unfold denI at h;cases h),fun _ _ _ _ _ h=>by(unfold denJ at h;cases h)⟩
 | n+1=>by
  have ih:=og n
  refine⟨fun _ _ _ _ xo h=>sd_E ih xo h,fun _ _ _ _ xo h=>sd_T ih xo h,fun _ _ _ _ _ _ xo h=>bB ih xo h,fun c X es r xo h=>?_,fun _ _ _ _ _ _ xo h=>sd_I ih xo h,fun c X es rs xo h=>?_⟩
  ·unfold denEs at h
   cases es with
   |nil=>cases h;exact Mq
   |cons e es =>
    obtain⟨hs,h⟩:=lc h
    obtain⟨ra,ha,h⟩:=ob h
    obtain⟨rr,hr,rfl⟩:=om h
    exact Ly (ih.e c X e ra xo ha) (ih.es c X es rr xo hr) (pp hs)
  ·unfold denJ at h
   cases es with
   |nil=>cases h;exact .nil
   |cons e es =>
    obtain⟨ra,ha,h⟩:=ob h
    obtain⟨rr,hr,rfl⟩:=om h
    exact .cons (ih.e c X e ra xo ha) (ih.j c X es rr xo hr)
def xx:Expr->Bool
 |.ListComp _ _ _ _=>true
 |.SetComp _ _ _ _=>true
 |.DictComp _ _ _ _ _=>true
 |_=>false
theorem Kh(h:xx e=false):swapsWith e t l env=pure false:=by
 cases e<;>first|rfl|exact absurd (show true=false from h) (by decide)
def Od:Expr->Bool
 |.Tuple _ _ _=>true
 |_=>false
def g7(c:FC)(x:Str):Option Nat:=match c.sc.names.lookup x with
 |some .local=>slot c.N x
 |some .cell=>slot c.N x
 |_=>none
theorem Xl(h:g7 c x=some i):(c.sc.names.lookup x=some .local\/c.sc.names.lookup x=some .cell)/\slot c.N x=some i:=by
 unfold g7 at h
 split at h
 ·rename_i e;exact⟨.inl e,h⟩
 ·rename_i e;exact⟨.inr e,h⟩
 ·cases h
noncomputable def bX(c:FC)(E:Expr->Option am)(e:Expr):List Expr->Option aq
 |[]=>none
 | t::ts=>(match ts with
  |_::_=>none
  |[]=>(match t with
   |.Name x _=>if Jg c e then none else(g7 c x).bind fun i=>(E e).map fun r=>ax i r
   |.Subscript o i _=>if xx e||Od e||!tw i then none else(E o).bind fun ro=>(E i).bind fun ri=>(E e).map fun rv=>ku ro ri rv
   |_=>none))
noncomputable def bQ(c:FC)(I:Expr->Option jt)(E:Expr->Option am)(Es:List Expr->Option gr)(rb:aq)(tg iter:Expr):Option aq:=match tg with
 |.Name x _=>if wc iter then(g7 c x).bind fun i=>(if c.isMut iter.pos=true then(E iter).map fun r=>wb i r rb else(I iter).map fun src=>ib i src rb) else none
 |_=>none
mutual
noncomputable def Ji:Nat->FC->Stmt->Option aq
 |0,_,_=>none
 | n+1,c,s=>match s with
  |.Return v _=>(match v with
   |none=>some Zz
   |some e=>(bu n c e).map aw)
  |.Pass _=>some aj
  |.Break _=>some bD
  |.Continue _=>some bC
  |.Assign ts e _=>bX c (bu n c) e ts
  |.If t a b _=>(denT n c t).bind fun rt=>(denSs n c a).bind fun ra=>(denSs n c b).map fun rb=>bg rt ra rb
  |.For tg iter body orelse _=>(match orelse with
   |[]=>if !c.cm then none else(denSs n c body).bind fun rb=>bQ c (denI n c) (bu n c) (denEs n c) rb tg iter
   |_::_=>none)
  |.Expr e _=>if xx e then none else(bu n c e).map fm
  |.Raise (some (.Call (.Name y _) (e::es) [] _)) none _=>if c.cm&&c.cx&&!ix y&&(e::es).all my then(match c.sc.names.lookup y,c.gl.lookup y with
   |some .globalImplicit,some (.exc true _)=>(denEs n c (e::es)).map fun rr=>mw y rr
   |_,_=>none) else none
  |.Try body [.ExceptHandler (some (.Name y _)) (some m) (s::ss) _] [] [] _=>if c.cm&&c.cx&&!ix y then(match c.sc.names.lookup y,c.gl.lookup y,c.sc.names.lookup m with
   |some .globalImplicit,some (.exc true tab),some .local=>(slot c.N m).bind fun i=>(denSs n c body).bind fun rb=>(denSs n { c with cm:=false,cx:=false } (s::ss)).map fun rs=>ot c.N.length i tab rb rs
   |_,_,_=>none) else none
  |_=>none
noncomputable def denSs:Nat->FC->List Stmt->Option aq
 |0,_,_=>none
 |n+1,c,ss=>match ss with
  |[]=>some aj
  |s::ss=>(Ji n c s).bind fun a=>(denSs n c ss).map fun b=>ai a b
end
structure XS (c:FC) (X:Cx):Prop extends XOK c X where
 fnx:∀x,X.fn x=true
 own':PassesOwn (model X.prog X.w) X.A X.env X.xe
structure SoundS (n:Nat):Prop where
 s:∀(c:FC)(X:Cx)(s:Stmt)(r:aq),XS c X->Ji n c s=some r->jp X s r
 ss:∀(c:FC)(X:Cx)(s:List Stmt)(r:aq),XS c X->denSs n c s=some r->ox X s r
theorem Zh(xo:XS c X)(h:g7 c x=some i):PG X (.Name x p) (si i):=by
 obtain⟨hl,hi⟩:=Xl h
 exact Xd (by rw[xo.N];exact xo.nd) (by rw[xo.N];exact Em hi) (by show X.env.scope.names.lookup x=_\/_;rw[xo.sc];exact hl) (.inl (xo.fnx x))
theorem mG(xo:XS c X)(hl:g7 c x=some i)(hodd:Jg c e=false)(he:bu n c e=some r):jp X (.Assign [.Name x p] e pos) (ax i r):=by
 obtain⟨hl,hi⟩:=Xl hl
 have hN:X.N.Nodup:=by rw[xo.N];exact xo.nd
 have hx:X.N[i]?=some x:=by rw[xo.N];exact Em hi
 have hL:j8 X.env.scope x:=by show X.env.scope.names.lookup x=_\/_;rw[xo.sc];exact hl
 have hp:=(og n).e c X e r xo.toXOK he
 have plain:swapsWith e (some (.Name x p)) pos.line X.env=pure false->jp X (.Assign [.Name x p] e pos) (ax i r):=fun h=>tZ hN hx hL hp h (.inl (xo.fnx x))
 cases e with
 | ListComp elt gens scope cpos =>
  cases hb:X.env.blockKind == .function&&X.env.kindOf x == some .local&&p.line == cpos.line&&!(scope.names.any fun(n,k)=>n == x&&(k == .local||k == .cell)) with
  |false=>exact plain (congrArg pure hb)
  | true =>
   have hloc:X.env.scope.names.lookup x=some .local:=by
    simp only[FE] at hb
    exact eq_of_beq hb.1.1.2
   cases n with
   |zero=>unfold bu at he;cases he
   |succ n=>unfold bu at he;exact PS.imp ((Wx (og n) xo.toXOK he).2 hodd hN hx hloc (congrArg pure hb)) fun D σ H h=>Yl h
 |SetComp _ _ _ _=>cases n<;>(unfold bu at he;cases he)
 |DictComp _ _ _ _ _=>cases n<;>(unfold bu at he;cases he)
 |_=>exact plain rfl
theorem xA(xo:XS c X)(h:bX c (bu n c) e ts=some r):jp X (.Assign ts e pos) r:=by
 cases ts with
 |nil=>cases h
 | cons t ts =>
  cases ts with
  |cons _ _=>cases h
  | nil =>
   cases t<;>first|(cases h;done)|skip
   ·rename_i o i p
    have h:(if xx e||Od e||!tw i then none else(bu n c o).bind fun ro=>(bu n c i).bind fun ri=>(bu n c e).map fun rv=>ku ro ri rv)=some r:=h
    cases hc1:xx e with
    |true=>rw[hc1] at h;cases h
    | false =>
     cases hc2:Od e with
     |true=>rw[hc1,hc2] at h;cases h
     | false =>
      cases hc3:tw i with
      |false=>rw[hc1,hc2,hc3] at h;cases h
      |true =>
       rw[hc1,hc2,hc3] at h
       obtain⟨ro,ho,h⟩:=ob h
       obtain⟨ri,hi,h⟩:=ob h
       obtain⟨rv,hv,rfl⟩:=om h
       have po:=(og n).e c X o ro xo.toXOK ho
       have pi:=(og n).e c X i ri xo.toXOK hi
       refine mS (by have:=xo.units;omega) po pi ((og n).e c X e rv xo.toXOK hv) (fun hs=>xU po pi hs (by intro v;cases i<;>first|rfl|exact absurd (show false=true from hc3) EG)) (show swapsWith e (some (.Subscript o i p)) pos.line X.env=pure false from Kh hc1) ?_ (Kh hc1)
       cases e<;>first|rfl|exact absurd (show true=false from hc2) (by decide)
   ·obtain⟨ho,h⟩:=Y6 h
    obtain⟨i,hi,h⟩:=ob h
    obtain⟨ra,ha,rfl⟩:=om h
    exact mG xo hi ho ha
theorem wZ(ih:SoundS n)(xo:XS c X)(hcm:c.cm=true)(hb:denSs n c body=some rb)(h:bQ c (denI n c) (bu n c) (denEs n c) rb tg iter=some r):jp X (.For tg iter body [] pos) r:=by
 cases tg<;>first|(cases h;done)|skip
 ·rename_i x p
  obtain⟨hs,h⟩:=lc h
  obtain⟨i,hi,h⟩:=ob h
  by_cases hm:c.isMut iter.pos=true
  ·rw[FJ hm] at h
   obtain⟨r1,hr,rfl⟩:=om h
   exact pZ xo.own' (xo.calm hcm) ((og n).e c X iter r1 xo.toXOK hr) (Zh xo hi) (ih.ss c X body rb xo hb) (Hg hs)
  rw[FK hm] at h
  obtain⟨src,hsrc,rfl⟩:=om h
  exact uB xo.own' (xo.calm hcm) ((og n).i c X x p iter src xo.toXOK hsrc) (Zh xo hi) (ih.ss c X body rb xo hb) (Hg hs)
theorem Nn:∀n,SoundS n
 |0=>⟨fun _ _ _ _ _ h=>by(unfold Ji at h;cases h),fun _ _ _ _ _ h=>by(unfold denSs at h;cases h)⟩
 | n + 1=>by
  have ih:=Nn n
  refine⟨fun c X s r xo h=>?_,fun c X ss r xo h=>?_⟩
  ·unfold Ji at h
   cases s with
   |Return v pos =>
    cases v with
    |none=>cases h;exact pX
    |some e=>obtain⟨ra,ha,rfl⟩:=om h;exact uA ((og n).e c X e ra xo.toXOK ha)
   |Pass _=>cases h;exact pY
   |Break _=>cases h;exact uD
   |Continue _=>cases h;exact uC
   |Assign ts e pos=>exact xA xo h
   |If t a b pos =>
    obtain⟨rt,ht,h⟩:=ob h
    obtain⟨ra,ha,h⟩:=ob h
    obtain⟨rb,hb,rfl⟩:=om h
    exact yF ((og n).t c X t rt xo.toXOK ht) (ih.ss c X a ra xo ha) (ih.ss c X b rb xo hb)
   | For tg iter body orelse pos =>
    cases orelse with
    |cons _ _=>cases h
    |nil =>
     obtain⟨hcm,h⟩:=Is h
     obtain⟨rb,hb,h⟩:=ob h
     exact wZ ih xo hcm hb h
   | Expr e pos =>
    have h:(if xx e then none else(bu n c e).map fm)=some r:=h
    cases hc:xx e with
    |true=>rw[hc] at h;cases h
    |false =>
     rw[hc] at h
     obtain⟨ra,ha,rfl⟩:=om h
     exact qA ((og n).e c X e ra xo.toXOK ha) (Kh hc)
   | Raise e1 e2 pos =>
    split at h<;>rename_i heq<;>first|(cases heq;done)|skip
    all_goals first|(cases h;done)|skip
    cases heq
    obtain⟨hk,h⟩:=lc h
    simp only[FE,Bool.not_eq_true'] at hk
    obtain⟨⟨⟨hcm,hcx⟩,hd⟩,hs⟩:=hk
    split at h
    ·rename_i tab hl hg
     obtain⟨rr,hr,rfl⟩:=om h
     obtain⟨cv,vc,EO⟩:=xo.exc _ true tab hg
     obtain⟨_,C,_,c1⟩:=EO.glob rfl
     rw[List.all_cons,FE] at hs
     exact mT (xo.calm hcm) c1 (xo.gl hl) ((og n).es c X _ rr xo.toXOK hr) (kn hd) (pp hs.1) (tq hs.2)
    ·cases h
   | Try body hs o f pos =>
    split at h<;>rename_i heq<;>first|(cases heq;done)|skip
    all_goals first|(cases h;done)|skip
    cases heq
    obtain⟨hk,h⟩:=lc h
    simp only[FE,Bool.not_eq_true'] at hk
    obtain⟨⟨hcm,hcx⟩,hd⟩:=hk
    split at h
    ·rename_i tab hl hg hm
     obtain⟨i,hi,h⟩:=ob h
     obtain⟨rb,hb,h⟩:=ob h
     obtain⟨rs,hrs,rfl⟩:=om h
     obtain⟨cv,vc,EO⟩:=xo.exc _ true tab hg
     have O:=xo.own hcx
     have hN:X.N.length=c.N.length:=by rw[xo.N]
     rw[<-hN]
     refine tY O (by rw[xo.N];exact xo.nd) (by rw[xo.N];exact Em hi) (by rw[xo.sc];exact hm) (xo.gl hl) (EO.glob rfl).1 (fun x b q=>let ⟨C,h1,_,_,h4⟩:=EO.tab x b q;⟨C,h1,h4⟩) (fun pn Φ=>ih.ss c _ body rb ?_ hb) (fun ea=>ih.ss _ _ _ rs ?_ hrs) (kn hd)
     ·exact⟨⟨xo.N,xo.nd,xo.sc,xo.calm,xo.hnd,xo.units,xo.cells,xo.con,xo.fn,xo.blt,xo.fx,xo.exc,(fun _=>⟨O.stk,O.fr,O.ex⟩),xo.dcon⟩,xo.fnx,Qo (X:=X.pin pn) ⟨O.stk,O.fr,O.ex⟩⟩
     ·exact⟨⟨xo.N,xo.nd,xo.sc,(fun z=>Bool.noConfusion z),(fun z=>Bool.noConfusion z),xo.units,xo.cells,xo.con,(fun z=>Bool.noConfusion z),xo.blt,fun x n b op q=>(let ⟨k,f,fd,ps,F,R,r⟩:=xo.fx x n b op q;⟨k,f,fd,ps,F,R.mark _,r⟩),xo.exc,(fun z=>Bool.noConfusion z),xo.dcon⟩,xo.fnx,PassesOwn.never⟩
    ·cases h
   |_=>cases h
  ·unfold denSs at h
   cases ss with
   |nil=>cases h;exact pW
   |cons s ss =>
    obtain⟨ra,ha,h⟩:=ob h
    obtain⟨rb,hb,rfl⟩:=om h
    exact mR (ih.s c X s ra xo ha) (ih.ss c X ss rb xo hb)
noncomputable def ce(N ps:List Str)(sc:Scope):Bool:=
 (sc.kind == .function)&&!sc.isCoroutine&&!sc.isGenerator&&decide N.Nodup&&decide (N.take ps.length=ps)&&ps.all (fun x=>sc.names.lookup x == some .local||sc.names.lookup x == some .cell)&&sc.names.all (fun y=>y.2 != .free)
theorem Sw(h:ce N ps sc=true):FnScope N ps sc:=by
 unfold ce at h
 simp only[FE,List.all_eq_true,decide_eq_true_eq,beq_iff_eq,Bool.not_eq_true',Bool.or_eq_true] at h
 obtain⟨⟨⟨⟨⟨⟨h1,h2⟩,h3⟩,h4⟩,h5⟩,h6⟩,h7⟩:=h
 exact⟨h1,h2,h3,h4,h5,fun x hx=>h6 x hx,fun y hy e=>by have:=h7 y hy;rw[e] at this;cases this⟩
structure TX (P:Program) (w:World) (K:PySem.W.Frag) (mg:Str->Option Value) (base:Heap) (gl:List (Str×GV)) (k:Nat):Prop where
 con:∀x w',gl.lookup x=some (.con w')->∃u v,mg x=some u/\az v u/\∀ι N G,RelW K ι N G v w'
 fn:∀x n op,gl.lookup x=some (.fn n op)->∃f fd ps,FnOk P w K mg base mq k f fd ps (wu K n op)/\mg x=some (.ref f)/\PySem.W.keepIn K (.ref f)=true/\jg K fd ps []/\ps.length=n
 blt:∀x,gl.lookup x=some .blt->mg x=none
 fx:∀x n b op,gl.lookup x=some (.fx n b op)->∃f fd ps,FnX b P w K mg base k f fd ps (mn K n op)/\mg x=some (.ref f)/\PySem.W.keepIn K (.ref f)=true/\jg K fd ps []/\ps.length=n
 exc:∀y own tab,gl.lookup y=some (.exc own tab)->∃cv vc,ExcOk K mg y own tab cv vc
 dcon:∀x ks ws,gl.lookup x=some (.dcon ks ws)->pc P w K mg x ks ws
theorem E5{P:Program}{w:World}{K:PySem.W.Frag}{mg:Str->Option Value}{base:Heap}{gl:List (Str×GV)}{k n:Nat}{x qual:Str}{st:Stmt}{f:Addr}{fd:FuncData}{N ps:List Str}{mts:List (Nat×Nat)}{fz:Nat}{run:aq}(T:TX P w K mg base gl k)(F:Fun K x qual st f fd)(hs:ce N ps (ar st)=true)
  (hd:denSs n ⟨N,ar st,gl,mts,true,false⟩ (bq st)=some run):FnOk P w K mg base mq (k+3) f fd ps (wu K ps.length (dg ps.length N.length fz run)):=by
 have Sc:=Sw hs
 refine vN (k:=k+2) F Sc fun cdv A outer s H E hr=>(Nn n).ss ⟨N,ar st,gl,mts,true,false⟩ _ _ run ⟨⟨rfl,Sc.nd,rfl,fun _=>rfl,fun _=>hr.hd,(by have h:=hr.un;show(A.deeper (envOfC qual (ar st) s.heap.objs.size f cdv)).units+80<cLine;omega),fun y hy=>?_,T.con,fun _ x n op h=>?_,T.blt,fun x n b op h=>?_,T.exc,(fun z=>Bool.noConfusion z),T.dcon⟩,fun _=>rfl,PassesOwn.never⟩ hd
 ·rcases hy with hy|hy
  ·exact PySem.W.cellsFrom_some _ _ _ (.inl hy)
  ·exact absurd rfl (Sc.nofree _ (PySem.mem_of_lookup hy))
 ·obtain⟨f,fd,ps,h1,h2,h3,h4,h5⟩:=T.fn x n op h
  exact⟨k,f,fd,ps,h1,hr,h2,h3,h4,h5⟩
 ·obtain⟨f,fd,ps,h1,h2,h3,h4,h5⟩:=T.fx x n b op h
  exact⟨k,f,fd,ps,h1,⟨(fun z=>Bool.noConfusion z),hr.dp,hr.un⟩,h2,h3,h4,h5⟩
theorem Yg{b:Bool}{P:Program}{w:World}{K:PySem.W.Frag}{mg:Str->Option Value}{base:Heap}{gl:List (Str×GV)}{k n:Nat}{x qual:Str}{st:Stmt}{f:Addr}{fd:FuncData}{N ps:List Str}{mts:List (Nat×Nat)}{fz:Nat}{run:aq}(T:TX P w K mg base gl k)(F:Fun K x qual st f fd)(hs:ce N ps (ar st)=true)
  (hd:denSs n ⟨N,ar st,gl,mts,b,true⟩ (bq st)=some run):FnX b P w K mg base (k+3) f fd ps (mn K ps.length (jl ps.length N.length fz run)):=by
 have Sc:=Sw hs
 refine Fun.okX (k:=k+2) F Sc fun cdv A outer s H Φ hr=>(Nn n).ss ⟨N,ar st,gl,mts,b,true⟩ _ _ run ⟨⟨rfl,Sc.nd,rfl,fun z=>z,hr.hd,(by have h:=hr.un;show(A.deeper (envOfC qual (ar st) s.heap.objs.size f cdv)).units+80<cLine;omega),fun y hy=>?_,T.con,fun hb x n op h=>?_,T.blt,fun x n b' op h=>?_,T.exc,(fun _=>⟨rfl,rfl,rfl⟩),T.dcon⟩,fun _=>rfl,Qo Yh⟩ hd
 ·rcases hy with hy|hy
  ·exact PySem.W.cellsFrom_some _ _ _ (.inl hy)
  ·exact absurd rfl (Sc.nofree _ (PySem.mem_of_lookup hy))
 ·obtain⟨f,fd,ps,h1,h2,h3,h4,h5⟩:=T.fn x n op h
  exact⟨k,f,fd,ps,h1,⟨hr.hd hb,hr.dp,hr.un⟩,h2,h3,h4,h5⟩
 ·obtain⟨f,fd,ps,h1,h2,h3,h4,h5⟩:=T.fx x n b' op h
  exact⟨k,f,fd,ps,h1,⟨(fun z=>Bool.noConfusion z),hr.dp,hr.un⟩,h2,h3,h4,h5⟩
structure DefAt (K:PySem.W.Frag) (mg:Str->Option Value) (x:Str) (st:Stmt) (ps:List Str):Prop where
 ex:∃f fd,Fun K x x st f fd/\mg x=some (.ref f)/\jg K fd ps []
theorem rO{K:PySem.W.Frag}{h:Heap}{mg:Str->Option Value}{x:Str}{st:Stmt}{ps:List Str}{f:Addr}{oc:Value}{od an:Option Addr}{osl:Array (Option Value)}{kV doc pm cdv ct:Value}(X:K.In h)(G:h.Ns mainGlobals mg)
  (a:PySem.W.nsIn K mainGlobals x=some (some (.ref f)))(l:K.lookup f=some ⟨oc,od,.func (PySem.W.fnOf x x (rq st) (bq st) (ar st) .none kV doc pm an cdv ct),osl⟩)
  (c:PySem.W.codeIn K cdv x=true)(k:PySem.W.keepIn K (.ref f)=true)
  (hb:∀(kV doc pm:Value)(an:Option Addr)(cdv ct:Value)(us:List Value),us.length=ps.length->bindArgs (PySem.W.fnOf x x (rq st) (bq st) (ar st) .none kV doc pm an cdv ct) ⟨us,[]⟩=pure (ps.zip us)):DefAt K mg x st ps:=
 have F:=Zm (st:=st) l c k
 ⟨_,_,F,PySem.W.mg_of X G a,F.binds hb⟩
section
variable {P:Program} {w:World} {K:PySem.W.Frag} {mg:Str->Option Value} {base:Heap} {gl:List (Str×GV)} {k:Nat}
theorem TX.mono(h:TX P w K mg base gl k)(hk:k<=k'):TX P w K mg base gl k':=
 ⟨h.con,fun x n op e=>let ⟨f,fd,ps,h1,h2⟩:=h.fn x n op e;⟨f,fd,ps,h1.mono hk,h2⟩,h.blt,fun x n b op e=>let ⟨f,fd,ps,h1,h2⟩:=h.fx x n b op e;⟨f,fd,ps,h1.mono hk,h2⟩,h.exc,h.dcon⟩
def GOk(P:Program)(w:World)(K:PySem.W.Frag)(mg:Str->Option Value)(base:Heap)(k:Nat)(x:Str):GV->Prop
 |.con w'=>∃u v,mg x=some u/\az v u/\∀ι N G,RelW K ι N G v w'
 |.fn n op=>∃f fd ps,FnOk P w K mg base mq k f fd ps (wu K n op)/\mg x=some (.ref f)/\PySem.W.keepIn K (.ref f)=true/\jg K fd ps []/\ps.length=n
 |.blt=>mg x=none
 |.fx n b op=>∃f fd ps,FnX b P w K mg base k f fd ps (mn K n op)/\mg x=some (.ref f)/\PySem.W.keepIn K (.ref f)=true/\jg K fd ps []/\ps.length=n
 |.exc own tab=>∃cv vc,ExcOk K mg x own tab cv vc
 |.dcon ks ws=>pc P w K mg x ks ws
theorem TX.get(h:TX P w K mg base gl k)(q:gl.lookup x=some g):GOk P w K mg base k x g:=by
 cases g with
 |con w'=>exact h.con x w' q
 |fn n op=>exact h.fn x n op q
 |blt=>exact h.blt x q
 |fx n b op=>exact h.fx x n b op q
 |exc own tab=>exact h.exc x own tab q
 |dcon ks ws=>exact h.dcon x ks ws q
theorem TX.of(h:∀x g,gl.lookup x=some g->GOk P w K mg base k x g):TX P w K mg base gl k:=
 ⟨fun x w' q=>h x _ q,fun x n op q=>h x _ q,fun x q=>h x _ q,fun x n b op q=>h x _ q,fun x own tab q=>h x _ q,fun x ks ws q=>h x _ q⟩
theorem TX.add(h:TX P w K mg base gl k)(e:GOk P w K mg base k x g):TX P w K mg base ((x,g)::gl) k:=TX.of fun y g' q=>by
 rw[List.lookup_cons] at q
 cases hy:y == x with
 |true =>
  rw[hy] at q
  cases q
  have:=eq_of_beq hy
  subst this
  exact e
 |false=>rw[hy] at q;exact h.get q
theorem TX.cons(h:TX P w K mg base gl k)(e:∃f fd ps,FnOk P w K mg base mq k f fd ps (wu K n op)/\mg x=some (.ref f)/\PySem.W.keepIn K (.ref f)=true/\jg K fd ps []/\ps.length=n):TX P w K mg base ((x,.fn n op)::gl) k:=h.add e
theorem TX.consX(h:TX P w K mg base gl k)(e:∃f fd ps,FnX b P w K mg base k f fd ps (mn K n op)/\mg x=some (.ref f)/\PySem.W.keepIn K (.ref f)=true/\jg K fd ps []/\ps.length=n):TX P w K mg base ((x,.fx n b op)::gl) k:=h.add e
theorem TX.fnOf{x:Str}{st:Stmt}{N ps:List Str}{mts:List (Nat×Nat)}{fz:Nat}{run:aq}{n:Nat}(T:TX P w K mg base gl k)(D:DefAt K mg x st ps)(hs:ce N ps (ar st)=true)(hd:denSs n ⟨N,ar st,gl,mts,true,false⟩ (bq st)=some run) :
  ∃f fd ps',FnOk P w K mg base mq (k+3) f fd ps' (wu K ps.length (dg ps.length N.length fz run))/\mg x=some (.ref f)/\PySem.W.keepIn K (.ref f)=true/\jg K fd ps' []/\ps'.length=ps.length:=by
 obtain⟨f,fd,F,hm,hb⟩:=D.ex
 exact⟨f,fd,ps,E5 T F hs hd,hm,F.kp,hb,rfl⟩
theorem TX.fxOf{b:Bool}{x:Str}{st:Stmt}{N ps:List Str}{mts:List (Nat×Nat)}{fz:Nat}{run:aq}{n:Nat}(T:TX P w K mg base gl k)(D:DefAt K mg x st ps)(hs:ce N ps (ar st)=true)(hd:denSs n ⟨N,ar st,gl,mts,b,true⟩ (bq st)=some run) :
  ∃f fd ps',FnX b P w K mg base (k+3) f fd ps' (mn K ps.length (jl ps.length N.length fz run))/\mg x=some (.ref f)/\PySem.W.keepIn K (.ref f)=true/\jg K fd ps' []/\ps'.length=ps.length:=by
 obtain⟨f,fd,F,hm,hb⟩:=D.ex
 exact⟨f,fd,ps,Yg T F hs hd,hm,F.kp,hb,rfl⟩
inductive ConK (K:PySem.W.Frag):Value->W->Prop
 |int (i:Int) (t:Tok):ConK K (.int i t) (.int i)
 |str (x:Str) (t:Tok):ConK K (.str x t) (.str x)
 |txts {a:Addr} {od:Option Addr} {its:List Value} {n:Nat} {sl:Array (Option Value)} {xs:List Str}:K.lookup a=some ⟨.type "tuple",od,.seq its.toArray n,sl⟩->its.length<=sizeLine->bc (xs.map V.str) its->ConK K (.ref a) (.tup (xs.map W.str))
theorem ConK.rel(h:ConK K u c):∃v,az v u/\∀ι N G,RelW K ι N G v c:=by
 cases h with
 |int i t=>exact⟨.int i,⟨t,rfl⟩,fun _ _ _=>.int i⟩
 |str x t=>exact⟨.str x,⟨t,rfl⟩,fun _ _ _=>.str x⟩
 |@txts a od its n sl xs l z v =>
  refine⟨.ref a,rfl,fun ι N G=>.tup (xs:=xs.map V.str) (.inr ⟨_,its.toArray,n,l,rfl,rfl,by simpa using z,by simpa using v⟩) (fun h=>by cases h) ?_⟩
  clear v
  induction xs with
  |nil=>exact .nil
  |cons y ys ih=>exact .cons (.str y) ih
theorem TX.nil:TX P w K mg base [] w0:=TX.of fun _ _ h=>by cases h
theorem TX.con1(h:TX P w K mg base gl k)(hm:mg x=some u)(hc:ConK K u c):TX P w K mg base ((x,.con c)::gl) k:=
 h.add (let ⟨v,h1,h2⟩:=hc.rel;⟨u,v,hm,h1,h2⟩)
theorem TX.blt1(h:TX P w K mg base gl k)(hm:mg x=none):TX P w K mg base ((x,.blt)::gl) k:=h.add hm
theorem TX.dcon1(h:TX P w K mg base gl k)(e:pc P w K mg x ks ws):TX P w K mg base ((x,.dcon ks ws)::gl) k:=h.add e
theorem TX.exc1(h:TX P w K mg base gl k)(e:∃cv vc,ExcOk K mg x own tab cv vc):TX P w K mg base ((x,.exc own tab)::gl) k:=h.add e
structure ClsK (K:PySem.W.Frag) (x:Str) (C:Addr):Prop where
 cls:ExCls K x C
 ex:ExAt K C
theorem tz(hm:mg x=some (.ref C))(c:ExCls K x C)(ht:∀y b,tab.lookup y=some b->∃Cy,ClsK K y Cy/\PySem.W.kitOne K (.ref Cy) (.ref C)=some b/\PySem.W.exmOne K (.ref Cy) (.ref C)=some b):∃cv vc,ExcOk K mg x true tab cv vc:=
 ⟨.ref C,.ref C,rfl,fun _ r=>r,fun _=>⟨hm,C,rfl,c⟩,(fun z=>Bool.noConfusion z),fun y b q=>let ⟨Cy,a,h1,h2⟩:=ht y b q;⟨Cy,a.cls.ns,a.ex,h1,h2⟩⟩
theorem vP(hm:mg x=none)(hb:bootBuiltins x=some (.type T))(ht:∀y b,tab.lookup y=some b->∃Cy,ClsK K y Cy/\PySem.W.kitOne K (.ref Cy) (.type T)=some b/\PySem.W.exmOne K (.ref Cy) (.type T)=some b):∃cv vc,ExcOk K mg x false tab cv vc:=
 ⟨.type T,.ty T,rfl,fun _ r=>r,(fun z=>Bool.noConfusion z),fun _=>⟨hm,hb⟩,fun y b q=>let ⟨Cy,a,h1,h2⟩:=ht y b q;⟨Cy,a.cls.ns,a.ex,h1,h2⟩⟩
end
def st0:S:=⟨0,fun _=>none⟩
theorem lZ{K:PySem.W.Frag}{H:Hp}{a:Addr}{ns:List Int}{op:bh}{E:XK}(hS:bx K H a (ns.map V.int))(h:∃st',op [.lst (ns.map W.int)] st0=.ok (.bl true) st'):mn K 1 op [.ref a] H (fun v _=>v=.bl true) E:=by
 obtain⟨st',e⟩:=h
 refine⟨rfl,fun _=>0,H,st0,[.lst (ns.map W.int)],⟨im.refl H,fun n o q=>(by cases q),fun n m o o' q=>(by cases q)⟩,.cons (.lst hS (RelWs.ofInts ns)) .nil,?_⟩
 rw[e]
 intro v ι' G' H' _ _ r
 cases r;rfl
theorem FnX.ok{b:Bool}{P:Program}{w:World}{K:PySem.W.Frag}{mg:Str->Option Value}{base:Heap}{k:Nat}{f:Addr}{fd:FuncData}{ps:List Str}{sp:Sp}(F:FnX b P w K mg base k f fd ps sp):FnOk P w K mg base (yx P w) k f fd ps sp:=
 ⟨F.len,fun A outer s H args us vs Q E hr=>F.run A outer s H args us vs Q E ⟨fun _=>hr.hd,hr.dp,hr.un⟩⟩
theorem walkX{b:Bool}{l:PySem.W.OpenLaw}{q:Program}{loose:List Str}{XP:(Str->Option Value)->Heap->Prop}{YP:World->Heap->Prop}{d:DefRec}{K:Params->PySem.W.Frag}{op:bh}{k:Nat}{x:Str}(hn:l.most=some 63)(hdf:d.params.defaults=[])(hr:Room k callerA)
  (hY:∀(w:World)(h:Heap),YP w h->(K w.params).In h)(hop:∀ns:List Int,ns.length<=63->∃st',op [.lst (ns.map W.int)] st0=.ok (.bl true) st')
  (F:∀(w:World)(mg:Str->Option Value)(fa:Addr)(h:Heap),(K w.params).In h->h.Ns mainGlobals mg->mg d.name=some (.ref fa) ->
   ∃fd:FuncData,(∀(s:Shared)(u:Value),BindsTo s fd ⟨[u],[]⟩ [(x,u)])/\∀base:Heap,(K w.params).In base->base.Ns mainGlobals mg->FnX b l.prog w (K w.params) mg base k fa fd [x] (mn (K w.params) 1 op)) :
  PySem.W.WalkO q loose XP YP l.row.toRowW d [] (fun f vs=>PySem.call f vs):=
 L2.walk_of (n:=63) (k:=k) (x:=x) (CX:=fun w=>yx l.prog w) (sp:=fun w=>mn (K w.params) 1 op) hn (by decide) hdf hr hY (fun w mg fa h a1 a2 a3=>let ⟨fd,b1,b2⟩:=F w mg fa h a1 a2 a3;⟨fd,b1,fun base c1 c2=>DL.FnX.ok (b2 base c1 c2)⟩) (fun _ _ a ns hl _ hS=>lZ hS (hop ns hl)) fun _ _ _ _ _ ⟨_,_,_,_,_,_,_,_,_,_,_,_,_,_,z⟩=>z
section
variable {α β:Type} {st:S} {Γ:Ga}
theorem ah(a:α)(s:S)(f:α->S->R β):(R.ok a s).bind f=f a s:=FL rfl rfl
theorem zY(c:Prop)[Decidable c](x y:R α)(f:α->S->R β):(if c then x else y).bind f=if c then x.bind f else y.bind f:=by by_cases h:c<;>simp only[h,if_true,if_false]
theorem rp(a:α)(s:S):(R.ok a s).calm=R.ok a s:=FL rfl rfl
def sw(A B:S->R α)(w:W)(s:S):R α:=match w with
 |.bl true=>A s
 |.bl false=>B s
 |_=>.stuck
theorem kh(A B:S->R α)(b:Bool)(s:S):sw A B (.bl b) s=if b=true then A s else B s:=by cases b<;>rfl
def Os(b:aq)(fl:Fl)(s:S):R Fl:=match fl with
 |.nx Γ'=>b Γ' s
 |fl=>.ok fl s
theorem fj(b:aq)(Γ:Ga)(s:S):Os b (.nx Γ) s=b Γ s:=FL rfl rfl
theorem Ib(b:aq)(w:W)(s:S):Os b (.rt w) s=.ok (.rt w) s:=FL rfl rfl
theorem cj(a b:aq):ai a b Γ st=(a Γ st).bind (Os b):=FL rfl rfl
theorem Fq(rc:am)(a b:aq):bg rc a b Γ st=(rc Γ st).bind (sw (a Γ) (b Γ)):=FL rfl rfl
theorem Nt(r:am):aw r Γ st=(r Γ st).bind fun w s=>.ok (.rt w) s:=FL rfl rfl
theorem xp:aj Γ st=.ok (.nx Γ) st:=FL rfl rfl
theorem dc(w:W):aa 0 (some w::Γ) st=.ok w st:=FL rfl rfl
theorem ip(a:Option W)(w:W):aa 1 (a::some w::Γ) st=.ok w st:=FL rfl rfl
theorem jx(a b:Option W)(w:W):aa 2 (a::b::some w::Γ) st=.ok w st:=FL rfl rfl
theorem wj(a b c:Option W)(w:W):aa 3 (a::b::c::some w::Γ) st=.ok w st:=FL rfl rfl
theorem Og(a b c d:Option W)(w:W):aa 4 (a::b::c::d::some w::Γ) st=.ok w st:=FL rfl rfl
theorem Iy(a b c d e:Option W)(w:W):aa 5 (a::b::c::d::e::some w::Γ) st=.ok w st:=FL rfl rfl
theorem aL(a b c d e f:Option W)(w:W):aa 6 (a::b::c::d::e::f::some w::Γ) st=.ok w st:=FL rfl rfl
theorem DW(a b c d e f g:Option W)(w:W):aa 7 (a::b::c::d::e::f::g::some w::Γ) st=.ok w st:=FL rfl rfl
theorem DV(a b c d e f g h:Option W)(w:W):aa 8 (a::b::c::d::e::f::g::h::some w::Γ) st=.ok w st:=FL rfl rfl
theorem DU(a b c d e f g h i:Option W)(w:W):aa 9 (a::b::c::d::e::f::g::h::i::some w::Γ) st=.ok w st:=FL rfl rfl
theorem DX(r:am)(a z:Option W):ax 1 r (a::z::Γ) st=(r (a::z::Γ) st).bind fun w s=>.ok (.nx (a::some w::Γ)) s:=FL rfl rfl
theorem vU:List.replicate 7 (none:Option W)=[none,none,none,none,none,none,none]:=FL rfl rfl
theorem vT:List.replicate 8 (none:Option W)=[none,none,none,none,none,none,none,none]:=FL rfl rfl
theorem vS:List.replicate 9 (none:Option W)=[none,none,none,none,none,none,none,none,none]:=FL rfl rfl
theorem jj(i:Nat)(src:jt)(body:aq):ib i src body Γ st=(src Γ st).bind fun items s=>cy i body items Γ s:=FL rfl rfl
theorem Xu(r:am)(i:Int)(h:r Γ st=.ok (.int i) st)(h0:-4611686018427387904<=i)(h1:i<4611686018427387904):ja r Γ st=.ok (ju 0 i.toNat) st:=by
 unfold ja
 rw[h]
 exact FJ ⟨h0,h1⟩
theorem d5(nl fz:Nat)(run:aq)(w:W):jl 1 nl fz run [w] st=gu fz st (run (some w::List.replicate (nl - 1) none) st):=FL rfl rfl
theorem Ih(nl fz:Nat)(run:aq)(w w':W):jl 2 nl fz run [w,w'] st=gu fz st (run (some w::some w'::List.replicate (nl - 2) none) st):=FL rfl rfl
theorem zT(s0 s:S)(w:W):gu 0 s0 (.ok (.rt w) s)=.ok w s:=FL rfl rfl
theorem zV(s0 s:S)(Γ:Ga):gu 0 s0 (.ok (.nx Γ) s)=.ok .non s:=FL rfl rfl
theorem D2(s0 s:S)(c:W):gu 0 s0 (.ex c s)=.ex c s:=FL rfl rfl
theorem vZ(s0 s:S)(Γ:Ga):gu 1 s0 (.ok (.nx Γ) s)=keep s0 s .non:=FL rfl rfl
theorem wC(s0 s:S)(c:W):gu 1 s0 (.ex c s)=f9 s0 s c:=FL rfl rfl
theorem Zr(c:W)(s:S)(f:α->S->R β):(R.ex c s:R α).bind f=.ex c s:=FL rfl rfl
noncomputable def kLo(m:Bool)(w l:W)(s:S):R W:=match l with
 |.int i=>su m (some i) none w s
 |_=>.stuck
noncomputable def kHi(m:Bool)(w l:W)(s:S):R W:=match l with
 |.int i=>su m none (some i) w s
 |_=>.stuck
theorem Mt(m:Bool)(w:W)(i:Int)(s:S):kLo m w (.int i) s=su m (some i) none w s:=FL rfl rfl
theorem Ic(m:Bool)(w:W)(i:Int)(s:S):kHi m w (.int i) s=su m none (some i) w s:=FL rfl rfl
theorem Mx(m:Bool)(a b:am):dl m a b Γ st=(a Γ st).bind fun w s=>(b Γ s).bind fun l s=>kLo m w l s:=FL rfl rfl
theorem Ie(m:Bool)(a b:am):dq m a b Γ st=(a Γ st).bind fun w s=>(b Γ s).bind fun l s=>kHi m w l s:=FL rfl rfl
theorem Ip(ws:List W)(lo hi:Option Int):su false lo hi (.tup ws) st=.ok (.tup (fq ws lo hi)) st:=FL rfl rfl
theorem df(w:W):ac w Γ st=.ok w st:=FL rfl rfl
theorem Ig(r:am)(o:W->S->R W):bb r o Γ st=(r Γ st).bind o:=FL rfl rfl
theorem cz(a b:am)(o:dm):ae a b o Γ st=(a Γ st).bind fun x s=>(b Γ s).bind fun y s=>o x y s:=FL rfl rfl
theorem ee(rr:gr)(o:bh):DL.runN rr o Γ st=(rr Γ st).bind o:=FL rfl rfl
theorem lm(o:bh)(ws:List W):ao o ws st=(o ws st).calm:=FL rfl rfl
theorem dv:af Γ st=.ok [] st:=FL rfl rfl
theorem cf(r:am)(rr:gr):ad r rr Γ st=(r Γ st).bind fun w s=>(rr Γ s).bind fun ws s=>.ok (w::ws) s:=FL rfl rfl
theorem vz(a b:am):cr a b Γ st=(a Γ st).bind (sw (b Γ) (fun s=>.ok (.bl false) s)):=FL rfl rfl
theorem aN(a b:am):ia a b Γ st=(a Γ st).bind (sw (fun s=>.ok (.bl true) s) (b Γ)):=FL rfl rfl
def bK(w:W)(s:S):R W:=match w with
 |.bl b=>.ok (.bl (!b)) s
 |_=>.stuck
theorem Xr(b:Bool)(s:S):bK (.bl b) s=.ok (.bl (!b)) s:=FL rfl rfl
theorem Zo(a:am):gs a Γ st=(a Γ st).bind bK:=FL rfl rfl
theorem rL(c a b:am):Ny c a b Γ st=(c Γ st).bind (sw (a Γ) (b Γ)):=FL rfl rfl
theorem Wj(a b c:am)(o o':dm):ni a b c o o' Γ st=(a Γ st).bind fun x s=>(b Γ s).bind fun y s=>(o x y s).bind (sw (fun s=>(c Γ s).bind fun z s=>o' y z s) (fun s=>.ok (.bl false) s)):=FL rfl rfl
theorem aM(s0 s:S)(w:W):jv 0 s0 (.ok (.rt w) s)=.ok w s:=FL rfl rfl
theorem DY(s0 s:S)(Γ:Ga):jv 0 s0 (.ok (.nx Γ) s)=.ok .non s:=FL rfl rfl
theorem f6(s0 s:S)(w:W):jv 1 s0 (.ok (.rt w) s)=keep s0 s w:=FL rfl rfl
theorem fw(nl fz:Nat)(run:aq)(w:W):dg 1 nl fz run [w] st=jv fz st (run (some w::List.replicate (nl - 1) none) st):=FL rfl rfl
theorem Fe(nl fz:Nat)(run:aq)(w w':W):dg 2 nl fz run [w,w'] st=jv fz st (run (some w::some w'::List.replicate (nl - 2) none) st):=FL rfl rfl
theorem zU(nl fz:Nat)(run:aq)(w w' w2:W):dg 3 nl fz run [w,w',w2] st=jv fz st (run (some w::some w'::some w2::List.replicate (nl - 3) none) st):=FL rfl rfl
theorem vY:List.replicate 1 (none:Option W)=[none]:=FL rfl rfl
theorem vX:List.replicate 2 (none:Option W)=[none,none]:=FL rfl rfl
theorem Xw:List.replicate 3 (none:Option W)=[none,none,none]:=FL rfl rfl
theorem vW:List.replicate 4 (none:Option W)=[none,none,none,none]:=FL rfl rfl
theorem vV:List.replicate 5 (none:Option W)=[none,none,none,none,none]:=FL rfl rfl
theorem Xv:List.replicate 6 (none:Option W)=[none,none,none,none,none,none]:=FL rfl rfl
theorem rn:List.replicate 0 (none:Option W)=[]:=FL rfl rfl
theorem Yc(i j:Int):av (.int i) (.int j) st=.ok (.int (i+j)) st:=FL rfl rfl
theorem vR(i j:Int):na (.int i) (.int j) st=.ok (.int (i - j)) st:=FL rfl rfl
theorem Xx(i j:Int)(h:yn i j):dj (.int i) (.int j) st=.ok (.int (i*j)) st:=FJ h
theorem wB(i j:Int)(h0:-1000000<=j)(h1:j<=1000000):dj (.int i) (.int j) st=.ok (.int (i*j)) st:=Xx i j (.inr ⟨by omega,by omega⟩)
theorem Mz(i j:Int)(h0:-1000000<=i)(h1:i<=1000000):dj (.int i) (.int j) st=.ok (.int (i*j)) st:=Xx i j (.inl ⟨by omega,by omega⟩)
theorem Yb(i j:Int)(h:0<j)(h':j<1073741824):bi (.int i) (.int j) st=.ok (.int (i/j)) st:=FJ ⟨h,h'⟩
theorem Na(i j:Int)(h:0<j):bf (.int i) (.int j) st=.ok (.int (i % j)) st:=FJ h
theorem wA(i:Int):di (.int i) st=.ok (.int (-i)) st:=FL rfl rfl
theorem Zq(i j:Int):yj (.int i) (.int j) st=.ok (.bl (decide (i<j))) st:=FL rfl rfl
theorem Nu(i j:Int):km (.int i) (.int j) st=.ok (.bl (decide (i<=j))) st:=FL rfl rfl
theorem zZ(i j:Int):ur (.int i) (.int j) st=.ok (.bl (decide (j<i))) st:=FL rfl rfl
theorem D1(i j:Int):opGe (.int i) (.int j) st=.ok (.bl (decide (j<=i))) st:=FL rfl rfl
theorem Nv(i j:Int):bw (.int i) (.int j) st=.ok (.bl (i == j)) st:=FL rfl rfl
theorem zW(i j:Int):de (.int i) (.int j) st=.ok (.bl (!(i == j))) st:=FL rfl rfl
theorem D4(i j:Bool):bw (.bl i) (.bl j) st=.ok (.bl (i == j)) st:=FL rfl rfl
theorem zX(i j:Bool):de (.bl i) (.bl j) st=.ok (.bl (!(i == j))) st:=FL rfl rfl
theorem D3(i j:Str):bw (.str i) (.str j) st=.ok (.bl (i == j)) st:=FL rfl rfl
theorem Zp(i j:Str):de (.str i) (.str j) st=.ok (.bl (!(i == j))) st:=FL rfl rfl
theorem wD(x y:Str)(h:x.length+y.length<=sizeLine):av (.str x) (.str y) st=.ok (.str (x++y)) st:=FJ h
theorem Ya(xs:List W):gj [.lst xs] st=.ok (.int xs.length) st:=FL rfl rfl
theorem Xy(xs:List W):gj [.tup xs] st=.ok (.int xs.length) st:=FL rfl rfl
theorem Xz(x:Str)(h:x.length<=sizeLine):gj [.str x] st=.ok (.int x.length) st:=FJ h
theorem ky(ws:List W)(h:ws.length<=sizeLine):ay false ws st=.ok (.lst ws) st:=FJ h
theorem mz(ws:List W)(h:ws.length<=sizeLine):ap ws st=.ok (.tup ws) st:=FJ h
theorem nu(ws:List W)(i:Int)(w:W)(h:ft ws i=some w):ak (.lst ws) (.int i) st=.ok w st:=by
 show(match ft ws i with|some w=>R.ok w st|none=>.stuck)=_
 rw[h]
theorem kt(ws:List W)(i:Int)(w:W)(h:ft ws i=some w):ak (.tup ws) (.int i) st=.ok w st:=by
 show(match ft ws i with|some w=>R.ok w st|none=>.stuck)=_
 rw[h]
theorem Nb(z:Str)(i:Int)(c:Nat)(hz:z.length<=sizeLine)(h:ft z.cps.toList i=some c):ak (.str z) (.int i) st=.ok (.str ⟨#[c]⟩) st:=by
 show(if z.length<=sizeLine then(match ft z.cps.toList i with|some c=>R.ok (W.str ⟨#[c]⟩) st|none=>.stuck) else .stuck)=_
 rw[FJ hz,h]
theorem dk(h:n<=1000):n<=sizeLine:=Nat.le_of_lt (mC h)
theorem aS(xs:List γ)(i:Int)(h0:0<=i)(h1:i<xs.length):∃x,ft xs i=some x/\x∈xs:=by
 have hj:i.toNat<xs.length:=by omega
 refine⟨xs[i.toNat],?_,List.getElem_mem hj⟩
 have e:((i.toNat:Nat):Int)=i:=by omega
 have h:=Yk (xs:=xs) (j:=i.toNat) (EH hj)
 rw[e] at h
 exact h
theorem gi(xs:List γ)(k:Nat)(x:γ)(h:xs[k]?=some x):ft xs (k:Int)=some x:=Yk h
theorem mj(x:W)(xs:List W):ak (.tup (x::xs)) (.int 0) st=.ok x st:=kt _ 0 x (gi (x::xs) 0 x rfl)
theorem qj(x y:W)(xs:List W):ak (.tup (x::y::xs)) (.int 1) st=.ok y st:=kt _ 1 y (gi (x::y::xs) 1 y rfl)
theorem Oe(x y z:W)(xs:List W):ak (.tup (x::y::z::xs)) (.int 2) st=.ok z st:=kt _ 2 z (gi (x::y::z::xs) 2 z rfl)
end
section
variable {st:S} {Γ:Ga}
def bJ(w:W)(s:S):R Fl:=.ok (.rt w) s
def qm(i:Nat)(Γ:Ga)(w:W)(s:S):R Fl:=.ok (.nx (Γ.set i (some w))) s
def aG(Γ:Ga)(_:W)(s:S):R Fl:=.ok (.nx Γ) s
def k2(b:am)(o:dm)(Γ:Ga)(x:W)(s:S):R W:=(b Γ s).bind (o x)
def kC2(w:W)(ws:List W)(s:S):R (List W):=.ok (w::ws) s
def kC(rr:gr)(Γ:Ga)(w:W)(s:S):R (List W):=(rr Γ s).bind (kC2 w)
def bI(s:S):R W:=.ok (.bl true) s
def Jh(s:S):R W:=.ok (.bl false) s
def Ot(c:am)(o':dm)(Γ:Ga)(y:W)(s:S):R W:=(c Γ s).bind (o' y)
def Ou(c:am)(o o':dm)(Γ:Ga)(x y:W)(s:S):R W:=(o x y s).bind (sw (Ot c o' Γ y) Jh)
def bO(b c:am)(o o':dm)(Γ:Ga)(x:W)(s:S):R W:=(b Γ s).bind (Ou c o o' Γ x)
noncomputable def bL(m:Bool)(b:am)(Γ:Ga)(w:W)(s:S):R W:=(b Γ s).bind (kLo m w)
noncomputable def bM(m:Bool)(b:am)(Γ:Ga)(w:W)(s:S):R W:=(b Γ s).bind (kHi m w)
def bN(i:Nat)(body:aq)(Γ:Ga)(items:List W)(s:S):R Fl:=cy i body items Γ s
def Zi(x:Str)(ws:List W)(s:S):R Fl:=if ws.length<=sizeLine then .ex (.str x) s else .stuck
theorem Z1(w:W)(s:S):bJ w s=.ok (.rt w) s:=FL rfl rfl
theorem zM(Γ:Ga)(w:W)(s:S):aG Γ w s=.ok (.nx Γ) s:=FL rfl rfl
theorem k2_(b:am)(o:dm)(Γ:Ga)(x:W)(s:S):k2 b o Γ x s=(b Γ s).bind (o x):=FL rfl rfl
theorem kC2_(w:W)(ws:List W)(s:S):kC2 w ws s=.ok (w::ws) s:=FL rfl rfl
theorem kC_(rr:gr)(Γ:Ga)(w:W)(s:S):kC rr Γ w s=(rr Γ s).bind (kC2 w):=FL rfl rfl
theorem Z0(s:S):bI s=.ok (.bl true) s:=FL rfl rfl
theorem Z5(s:S):Jh s=.ok (.bl false) s:=FL rfl rfl
theorem Z6(c:am)(o':dm)(Γ:Ga)(y:W)(s:S):Ot c o' Γ y s=(c Γ s).bind (o' y):=FL rfl rfl
theorem Z7(c:am)(o o':dm)(Γ:Ga)(x y:W)(s:S):Ou c o o' Γ x y s=(o x y s).bind (sw (Ot c o' Γ y) Jh):=FL rfl rfl
theorem Z8(b c:am)(o o':dm)(Γ:Ga)(x:W)(s:S):bO b c o o' Γ x s=(b Γ s).bind (Ou c o o' Γ x):=FL rfl rfl
theorem Z2(m:Bool)(b:am)(Γ:Ga)(w:W)(s:S):bL m b Γ w s=(b Γ s).bind (kLo m w):=FL rfl rfl
theorem Z3(m:Bool)(b:am)(Γ:Ga)(w:W)(s:S):bM m b Γ w s=(b Γ s).bind (kHi m w):=FL rfl rfl
theorem Z4(i:Nat)(body:aq)(Γ:Ga)(items:List W)(s:S):bN i body Γ items s=cy i body items Γ s:=FL rfl rfl
theorem rA(x:Str)(w:W)(s:S):Zi x [w] s=.ex (.str x) s:=FJ (show 1<=sizeLine by decide)
theorem ks0(z:Option W)(Γ:Ga)(w:W)(s:S):qm 0 (z::Γ) w s=.ok (.nx (some w::Γ)) s:=FL rfl rfl
theorem yp(a z:Option W)(Γ:Ga)(w:W)(s:S):qm 1 (a::z::Γ) w s=.ok (.nx (a::some w::Γ)) s:=FL rfl rfl
theorem ks2(a b z:Option W)(Γ:Ga)(w:W)(s:S):qm 2 (a::b::z::Γ) w s=.ok (.nx (a::b::some w::Γ)) s:=FL rfl rfl
theorem Gd(a b c z:Option W)(Γ:Ga)(w:W)(s:S):qm 3 (a::b::c::z::Γ) w s=.ok (.nx (a::b::c::some w::Γ)) s:=FL rfl rfl
theorem ks4(a b c d z:Option W)(Γ:Ga)(w:W)(s:S):qm 4 (a::b::c::d::z::Γ) w s=.ok (.nx (a::b::c::d::some w::Γ)) s:=FL rfl rfl
theorem ks5(a b c d e z:Option W)(Γ:Ga)(w:W)(s:S):qm 5 (a::b::c::d::e::z::Γ) w s=.ok (.nx (a::b::c::d::e::some w::Γ)) s:=FL rfl rfl
theorem ks6(a b c d e f z:Option W)(Γ:Ga)(w:W)(s:S):qm 6 (a::b::c::d::e::f::z::Γ) w s=.ok (.nx (a::b::c::d::e::f::some w::Γ)) s:=FL rfl rfl
theorem ks7(a b c d e f g z:Option W)(Γ:Ga)(w:W)(s:S):qm 7 (a::b::c::d::e::f::g::z::Γ) w s=.ok (.nx (a::b::c::d::e::f::g::some w::Γ)) s:=FL rfl rfl
theorem ks8(a b c d e f g h z:Option W)(Γ:Ga)(w:W)(s:S):qm 8 (a::b::c::d::e::f::g::h::z::Γ) w s=.ok (.nx (a::b::c::d::e::f::g::h::some w::Γ)) s:=FL rfl rfl
theorem ks9(a b c d e f g h i z:Option W)(Γ:Ga)(w:W)(s:S):qm 9 (a::b::c::d::e::f::g::h::i::z::Γ) w s=.ok (.nx (a::b::c::d::e::f::g::h::i::some w::Γ)) s:=FL rfl rfl
theorem EA(r:am):aw r Γ st=(r Γ st).bind bJ:=FL rfl rfl
theorem ki(i:Nat)(r:am):ax i r Γ st=(r Γ st).bind (qm i Γ):=FL rfl rfl
theorem D9(r:am):fm r Γ st=(r Γ st).bind (aG Γ):=FL rfl rfl
theorem D8(a b:am)(o:dm):ae a b o Γ st=(a Γ st).bind (k2 b o Γ):=FL rfl rfl
theorem E1(r:am)(rr:gr):ad r rr Γ st=(r Γ st).bind (kC rr Γ):=FL rfl rfl
theorem EC(a b:am):cr a b Γ st=(a Γ st).bind (sw (b Γ) Jh):=FL rfl rfl
theorem e_or(a b:am):ia a b Γ st=(a Γ st).bind (sw bI (b Γ)):=FL rfl rfl
theorem wG(a b c:am)(o o':dm):ni a b c o o' Γ st=(a Γ st).bind (bO b c o o' Γ):=FL rfl rfl
theorem D6(m:Bool)(a b:am):dl m a b Γ st=(a Γ st).bind (bL m b Γ):=FL rfl rfl
theorem D7(m:Bool)(a b:am):dq m a b Γ st=(a Γ st).bind (bM m b Γ):=FL rfl rfl
theorem EB(i:Nat)(src:jt)(body:aq):ib i src body Γ st=(src Γ st).bind (bN i body Γ):=FL rfl rfl
theorem wF(x:Str)(rr:gr):mw x rr Γ st=(rr Γ st).bind (Zi x):=FL rfl rfl
end
noncomputable def EV:=And.intro @cj (And.intro @Fq (And.intro @EA (And.intro @xp (And.intro @D9 (And.intro @ah (And.intro @zY (And.intro @kh (And.intro @fj (And.intro @Ib (And.intro @df (And.intro @dc (And.intro @ip (And.intro @jx (And.intro @wj (And.intro @Og (And.intro @Iy (And.intro @aL (And.intro @DW (And.intro @DV (And.intro @DU (And.intro @ki (And.intro @ks0 (And.intro @yp (And.intro @ks2 (And.intro @Gd (And.intro @ks4 (And.intro @ks5 (And.intro @ks6 (And.intro @ks7 (And.intro @ks8 (And.intro @ks9 (And.intro @Ig (And.intro @D8 (And.intro @ee (And.intro @E1 (And.intro @dv (And.intro @EC (And.intro @e_or (And.intro @Zo (And.intro @Xr (And.intro @rL (And.intro @wG (And.intro @lm (And.intro @rp (And.intro @Yc (And.intro @vR (And.intro @wA (And.intro @Yb (And.intro @Na (And.intro @Zq (And.intro @Nu (And.intro @zZ (And.intro @D1 (And.intro @Nv (And.intro @zW (And.intro @D3 (And.intro @Zp (And.intro @D4 (And.intro @zX (And.intro @Ya (And.intro @Xy (And.intro @fw (And.intro @Fe (And.intro @zU (And.intro @d5 (And.intro @Ih (And.intro @aM (And.intro @DY (And.intro @zT (And.intro @zV (And.intro @D2 (And.intro @Zr (And.intro @D6 (And.intro @D7 (And.intro @Mt (And.intro @Ic (And.intro @Ip (And.intro @rn (And.intro @vY (And.intro @vX (And.intro @Xw (And.intro @vW (And.intro @vV (And.intro @Xv (And.intro @vU (And.intro @vT (And.intro @vS (And.intro @Z1 (And.intro @zM (And.intro @k2_ (And.intro @kC2_ (And.intro @kC_ (And.intro @Z0 (And.intro @Z5 (And.intro @Z6 (And.intro @Z7 (And.intro @Z8 (And.intro @Z2 (And.intro @Z3 (And.intro @Z4 (And.intro @rA (And.intro @EB @wF))))))))))))))))))))))))))))))))))))))))))))))))))))))))))))))))))))))))))))))))))))))))))))))))))))))
section
variable {K:PySem.W.Frag}
structure ClsIn (K:PySem.W.Frag) (x:Str) (C:Addr):Prop where
 ns:PySem.W.nsIn K mainGlobals x=some (some (.ref C))
 ex:PySem.W.excIn K C [.type "ValueError",.type "Exception",.type "BaseException",.type "object"] "ValueError.__new__" = true
 ga:PySem.W.findIn K (.ref C) "__getattribute__" = some (some (.builtin "BaseException.__getattribute__"))
 gh:PySem.W.findIn K (.ref C) "__getattr__" = some none
 sb:PySem.W.subIn K (.ref C) (.type "BaseException")=some true
 ca:PySem.W.findIn K (.ref C) "__class__" = some (some (.builtin "object.__class__"))
 cg:PySem.W.specialIn K (.builtin "object.__class__") "__get__" = some (some (.builtin "getset_descriptor.__get__"))
 ct:PySem.W.takesIn K (.builtin "object.__class__")=some true
 cm:PySem.W.mroIn K C (.type "object")=some true
 rf:PySem.W.subIn K (.ref C) (.ref C)=some true
theorem ClsIn.obj(c:ClsIn K x C):(PySem.W.clsIn K C).isSome=true/\PySem.W.typeIn K (.ref C)=some (.type "type"):=by
 have q:=c.ex
 unfold PySem.W.excIn at q
 split at q
 ·rename_i dd cd sl ho
  refine⟨?_,?_⟩
  ·unfold PySem.W.clsIn;rw[ho];rfl
  ·show(K.lookup C).map _=_
   rw[ho];rfl
 ·cases q
theorem ClsIn.k(c:ClsIn K x C):ClsK K x C:=⟨⟨c.ns,_,_,_,_,c.ex,PySem.F.excBase_ValueError⟩,⟨c.ga,c.gh,c.sb,c.ca,c.cg,c.ct,c.cm,c.obj.1⟩⟩
theorem ClsIn.pair(c:ClsIn K x C)(d:ClsIn K y D)(s:PySem.W.subIn K (.ref C) (.ref D)=some b):PySem.W.kitOne K (.ref C) (.ref D)=some b/\PySem.W.exmOne K (.ref C) (.ref D)=some b:=by
 have k:PySem.W.kitCls K (.ref C) (.ref D)=some b:=by
  show(if ((PySem.W.clsIn K D).isSome&&PySem.W.typeIn K (.ref D) == some (.type "type"))=true then PySem.W.subIn K (.ref C) (.ref D) else none)=some b
  rw[FJ (by rw[d.obj.1,d.obj.2];decide)]
  exact s
 refine⟨?_,?_⟩
 ·unfold PySem.W.kitOne
  by_cases e:C=D
  ·subst e
   rw[d.rf] at s
   cases s
   rw[FJ (by simp)]
  ·rw[FK (by simp[e])];exact k
 ·unfold PySem.W.exmOne
  rw[FJ (by rw[d.sb];decide)]
  exact k
theorem ClsIn.blt(_:ClsIn K x C)(hm:PySem.W.kitMeta T=true)(hb:PySem.W.subIn K (.type T) (.type "BaseException")=some true)(s:PySem.W.subIn K (.ref C) (.type T)=some b):PySem.W.kitOne K (.ref C) (.type T)=some b/\PySem.W.exmOne K (.ref C) (.type T)=some b:=by
 have k:PySem.W.kitCls K (.ref C) (.type T)=some b:=by
  show(if PySem.W.kitMeta T=true then PySem.W.subIn K (.ref C) (.type T) else none)=some b
  rw[FJ hm]
  exact s
 refine⟨?_,?_⟩
 ·unfold PySem.W.kitOne
  rw[FK (by simp)];exact k
 ·unfold PySem.W.exmOne
  rw[FJ (by rw[hb];decide)]
  exact k
theorem Gn:PySem.W.kitMeta "ValueError" = true:=by decide +kernel
def bt(K:PySem.W.Frag)(cv:Value)(tab:List (Str×Bool)):Prop:=∀y b,tab.lookup y=some b->∃Cy,ClsK K y Cy/\PySem.W.kitOne K (.ref Cy) cv=some b/\PySem.W.exmOne K (.ref Cy) cv=some b
theorem bt.nil:bt K cv []:=fun _ _ h=>by cases h
theorem bt.cons(c:ClsIn K x C)(p:PySem.W.kitOne K (.ref C) cv=some b/\PySem.W.exmOne K (.ref C) cv=some b)(h:bt K cv tab):bt K cv ((x,b)::tab):=fun y b' q=>by
 rw[List.lookup_cons] at q
 cases hy:y == x with
 |true =>
  rw[hy] at q
  cases q
  have:=eq_of_beq hy
  subst this
  exact⟨C,c.k,p⟩
 |false=>rw[hy] at q;exact h y b' q
inductive DE (w:World):List DictEntry->List be->List V->List W->Prop
 |nil:DE w [] [] [] []
 |int {hs:Int} {x:Str} {i:Int} {t t':Tok} {es:List DictEntry} {ks:List be} {vs:List V} {ws:List W}:hs=hashStr w x->DE w es ks vs ws->DE w (⟨hs,.str x t,.int i t'⟩::es) (.inr x::ks) (.int i::vs) (.int i::ws)
 |str {hs:Int} {x y:Str} {t t':Tok} {es:List DictEntry} {ks:List be} {vs:List V} {ws:List W}:hs=hashStr w x->DE w es ks vs ws->DE w (⟨hs,.str x t,.str y t'⟩::es) (.inr x::ks) (.str y::vs) (.str y::ws)
theorem DE.out(d:DE w es ks vs ws):vs.length=ks.length/\(∀ι N G,RelWs K ι N G vs ws) /\
  ∃us:List (be×Value),KV (ks.zip vs) us/\Pairs (jb P w) es us/\us.map (·.1)=ks/\∀e∈es,∃k,(jb P w).is k e.key=true/\e.hash=(jb P w).hash k:=by
 induction d with
 |nil=>exact⟨rfl,fun _ _ _=>.nil,[],.nil,.nil,rfl,fun e h=>by cases h⟩
 |@int hs x i t t' es ks vs ws hh _ ih =>
  obtain⟨h1,h2,us,h3,h4,h5,h6⟩:=ih
  refine⟨by simp[h1],fun ι N G=>.cons (.int i) (h2 ι N G),(.inr x,.int i t')::us,.cons ⟨rfl,⟨t',rfl⟩⟩ h3,.cons (v6 P w x t) rfl h4,by rw[FN,h5],fun e he=>?_⟩
  rcases List.mem_cons.mp he with rfl|he
  ·exact⟨.inr x,v6 P w x t,hh⟩
  ·exact h6 e he
 |@str hs x y t t' es ks vs ws hh _ ih =>
  obtain⟨h1,h2,us,h3,h4,h5,h6⟩:=ih
  refine⟨by simp[h1],fun ι N G=>.cons (.str y) (h2 ι N G),(.inr x,.str y t')::us,.cons ⟨rfl,⟨t',rfl⟩⟩ h3,.cons (v6 P w x t) rfl h4,by rw[FN,h5],fun e he=>?_⟩
  rcases List.mem_cons.mp he with rfl|he
  ·exact⟨.inr x,v6 P w x t,hh⟩
  ·exact h6 e he
theorem zL(X:K.In h)(G:h.Ns mainGlobals mg)(n:PySem.W.nsIn K mainGlobals x=some (some (.ref a)))
  (l:K.lookup a=some ⟨.type "dict",none,.dict es.toArray ep,#[]⟩)(hs:(a == sysModules)=false)(d:DE w es ks vs ws)(nd:ks.Nodup):pc P w K mg x ks ws:=by
 obtain⟨h1,h2,us,h3,h4,h5,h6⟩:=d.out (K:=K) (P:=P)
 refine⟨a,vs,PySem.W.mg_of X G n,⟨hs,_,us,l,h3,fun h' e=>⟨_,_,_,e,⟨rfl,rfl,rfl⟩,rfl,fun e he=>h6 e (by simpa using he),by simpa using h4,by rw[h5];exact nd⟩⟩,h1,h2⟩
structure DIn (K:PySem.W.Frag) (x:Str) (st:Stmt):Prop where
 ex:∃(f:Addr)(oc:Value)(od:Option Addr)(kV doc pm:Value)(an:Option Addr)(cdv ct:Value)(osl:Array (Option Value)),PySem.W.nsIn K mainGlobals x=some (some (.ref f)) /\
  K.lookup f=some ⟨oc,od,.func (PySem.W.fnOf x x (rq st) (bq st) (ar st) .none kV doc pm an cdv ct),osl⟩/\PySem.W.codeIn K cdv x=true/\PySem.W.keepIn K (.ref f)=true
theorem DIn.mk'{x:Str}{st:Stmt}{f:Addr}{oc:Value}{od:Option Addr}{kV doc pm:Value}{an:Option Addr}{cdv ct:Value}{osl:Array (Option Value)}(a:PySem.W.nsIn K mainGlobals x=some (some (.ref f)))
  (l:K.lookup f=some ⟨oc,od,.func (PySem.W.fnOf x x (rq st) (bq st) (ar st) .none kV doc pm an cdv ct),osl⟩)(c:PySem.W.codeIn K cdv x=true)(p:PySem.W.keepIn K (.ref f)=true):DIn K x st:=⟨_,_,_,_,_,_,_,_,_,_,a,l,c,p⟩
theorem DIn.at_{x:Str}{st:Stmt}{ps:List Str}{h:Heap}{mg:Str->Option Value}(X:K.In h)(G:h.Ns mainGlobals mg)(d:DIn K x st)
  (hb:∀(kV doc pm:Value)(an:Option Addr)(cdv ct:Value)(us:List Value),us.length=ps.length->bindArgs (PySem.W.fnOf x x (rq st) (bq st) (ar st) .none kV doc pm an cdv ct) ⟨us,[]⟩=pure (ps.zip us)):DefAt K mg x st ps:=by
 obtain⟨_,_,_,_,_,_,_,_,_,_,a,l,c,p⟩:=d.ex
 exact rO X G a l c p hb
theorem DIn.law{x:Str}{st:Stmt}{y:Str}{h:Heap}{mg:Str->Option Value}{fa:Addr}{R:FuncData->Prop}(X:K.In h)(G:h.Ns mainGlobals mg)(d:DIn K x st)(hfa:mg x=some (.ref fa))
  (hb:∀(kV doc pm:Value)(an:Option Addr)(cdv ct:Value)(s:Shared)(u:Value),BindsTo s (PySem.W.fnOf x x (rq st) (bq st) (ar st) .none kV doc pm an cdv ct) ⟨[u],[]⟩ [(y,u)])(hR:∀fd,Fun K x x st fa fd->R fd) :
  ∃fd:FuncData,(∀(s:Shared)(u:Value),BindsTo s fd ⟨[u],[]⟩ [(y,u)])/\R fd:=by
 obtain⟨_,_,_,_,_,_,_,_,_,_,a,l,c,p⟩:=d.ex
 have e:=hfa.symm.trans (PySem.W.mg_of X G a)
 cases e
 exact⟨_,fun s u=>hb _ _ _ _ _ _ s u,hR _ (Zm (st:=st) l c p)⟩
theorem ClsIn.mk'(ns:PySem.W.nsIn K mainGlobals x=some (some (.ref C)))(ex:PySem.W.excIn K C [.type "ValueError",.type "Exception",.type "BaseException",.type "object"] "ValueError.__new__" = true)
  (ga:PySem.W.findIn K (.ref C) "__getattribute__" = some (some (.builtin "BaseException.__getattribute__")))(gh:PySem.W.findIn K (.ref C) "__getattr__" = some none)(sb:PySem.W.subIn K (.ref C) (.type "BaseException")=some true)
  (ca:PySem.W.findIn K (.ref C) "__class__" = some (some (.builtin "object.__class__")))(cg:PySem.W.specialIn K (.builtin "object.__class__") "__get__" = some (some (.builtin "getset_descriptor.__get__")))(ct:PySem.W.takesIn K (.builtin "object.__class__")=some true)
  (cm:PySem.W.mroIn K C (.type "object")=some true)(rf:PySem.W.subIn K (.ref C) (.ref C)=some true):ClsIn K x C:=⟨ns,ex,ga,gh,sb,ca,cg,ct,cm,rf⟩
end
def cp(z:Str):List Nat:=z.cps.toList
theorem sf(z:Str):(cp z).length=z.length:=by unfold cp;rw[Array.length_toList];rfl
theorem uf(x y:Str):cp (x++y)=cp x++cp y:=by
 show(x.cps++y.cps).toList=_
 rw[Array.toList_append];rfl
theorem F2(c:Nat):cp ⟨#[c]⟩=[c]:=rfl
theorem F3(h:cp x=cp y):x=y:=by
 obtain⟨a⟩:=x
 obtain⟨b⟩:=y
 have:a=b:=Array.toList_inj.mp h
 rw[this]
theorem rT:∀ys:List Str,cp (Txt.join "" ys)=(ys.map cp).flatten:=by
 have e:∀ys:List Str,cp (Str.join "" ys)=(ys.map cp).flatten:=by
  intro ys
  induction ys with
  |nil=>rfl
  | cons x r ih =>
   cases r with
   |nil=>show cp x=_;simp
   |cons y r =>
    show cp (x++("" : Str)++Str.join "" (y::r))=_
    rw[uf,uf,ih]
    show cp x++[]++_=_
    simp
 intro ys
 show cp (Builtin.Str.glued "" ys)=_
 rw[StrLaws.glued_eq_join]
 exact e ys
theorem Ky(l:List Nat)(s:Nat):∀m:Nat,((List.range m).map fun(k:Nat)=>s+k).filterMap (fun i=>l[i]?)=(l.drop s).take m
 |0=>by simp
 |m+1=>by
  rw[List.range_succ,List.map_append,List.filterMap_append,Ky l s m,List.take_succ,List.getElem?_drop]
  congr 1
theorem Vq(z:Str)(k:Nat):cp (Txt.slice z (some (k:Int)) none)=(cp z).drop k:=by
 have hi:Builtin.Str.strSliceIndices (some (k:Int)) none 1 z.length=(List.range (z.length - k)).map fun(i:Nat)=>min k z.length+i:=by
  unfold Builtin.Str.strSliceIndices sliceRange
  simp only[show(1:Int) > 0 by decide,if_true]
  have c0:¬((k:Int)<0):=by omega
  simp only[c0,if_false]
  have e1:max (0:Int) (min (k:Int) (z.length:Int))=((min k z.length:Nat):Int):=by omega
  rw[e1]
  by_cases h:k<z.length
  ·rw[FJ (by omega)]
   have e2:(((z.length:Int) - ((min k z.length:Nat):Int)+1 - 1)/1).toNat=z.length - k:=by rw[Int.ediv_one];omega
   rw[e2]
   apply List.map_congr_left
   intro i _
   omega
  ·rw[FK (by omega)]
   have:z.length - k=0:=by omega
   rw[this];rfl
 have hp:=Ky (cp z) (min k z.length) (z.length - k)
 unfold Txt.slice
 rw[hi]
 by_cases h:((1:Int) == 1&&((List.range (z.length - k)).map fun(i:Nat)=>min k z.length+i).length == z.length)=true
 ·rw[FJ h]
  simp only[FE,beq_iff_eq,EQ,List.length_range] at h
  have h2:=h.2
  by_cases hk:k=0
  ·rw[hk,List.drop_zero]
  ·have hz:z.length=0:=by omega
   have:cp z=[]:=List.length_eq_zero_iff.mp (by rw[sf];exact hz)
   rw[this];simp
 ·rw[FK h]
  show(List.filterMap _ _).toArray.toList=_
  rw[List.toList_toArray]
  have e3:(fun(x:Nat)=>z.cps[x]?)=fun(i:Nat)=>(cp z)[i]?:=by funext i;unfold cp;simp
  rw[e3,hp]
  by_cases hk:k<=z.length
  ·rw[Nat.min_eq_left hk]
   exact List.take_of_length_le (by rw[List.length_drop,sf];omega)
  ·rw[Nat.min_eq_right (by omega),List.drop_of_length_le (by rw[sf];omega),List.drop_of_length_le (by rw[sf];omega)]
   simp
theorem Lw(z:Str)(k:Nat):cp (Txt.slice z none (some (k:Int)))=(cp z).take k:=by
 have hi:Builtin.Str.strSliceIndices none (some (k:Int)) 1 z.length=(List.range (min k z.length)).map fun(i:Nat)=>0+i:=by
  unfold Builtin.Str.strSliceIndices sliceRange
  simp only[show(1:Int) > 0 by decide,if_true]
  have c0:¬((k:Int)<0):=by omega
  simp only[c0,if_false]
  have e1:max (0:Int) (min (k:Int) (z.length:Int))=((min k z.length:Nat):Int):=by omega
  rw[e1]
  by_cases h:0<min k z.length
  ·rw[FJ (by omega)]
   have e2:((((min k z.length:Nat):Int) - 0+1 - 1)/1).toNat=min k z.length:=by rw[Int.ediv_one];omega
   rw[e2]
   apply List.map_congr_left
   intro i _
   omega
  ·rw[FK (by omega)]
   have:min k z.length=0:=by omega
   rw[this];rfl
 have hp:=Ky (cp z) 0 (min k z.length)
 unfold Txt.slice
 rw[hi]
 by_cases h:((1:Int) == 1&&((List.range (min k z.length)).map fun(i:Nat)=>0+i).length == z.length)=true
 ·rw[FJ h]
  simp only[FE,beq_iff_eq,EQ,List.length_range] at h
  have h2:=h.2
  rw[List.take_of_length_le (by rw[sf];omega)]
 ·rw[FK h]
  show(List.filterMap _ _).toArray.toList=_
  rw[List.toList_toArray]
  have e3:(fun(x:Nat)=>z.cps[x]?)=fun(i:Nat)=>(cp z)[i]?:=by funext i;unfold cp;simp
  rw[e3,hp,List.drop_zero]
  by_cases hk:k<=z.length
  ·rw[Nat.min_eq_left hk]
  ·rw[Nat.min_eq_right (by omega),List.take_of_length_le (by rw[sf];exact EN _),List.take_of_length_le (by rw[sf];omega)]
def lp(c:Nat):Prop:=97<=c/\c<=122
def Fd(c:Nat):Prop:=65<=c/\c<=90
theorem pB(h:lp c):oo ⟨#[c]⟩ "abcdefghijklmnopqrstuvwxyz" = true:=by
 have all:(List.range 26).all (fun k=>oo ⟨#[97+k]⟩ "abcdefghijklmnopqrstuvwxyz")=true:=by decide +kernel
 have:=List.all_eq_true.mp all (c - 97) (List.mem_range.mpr (by have:=h.1;have:=h.2;omega))
 rwa [show 97+(c - 97)=c from by have:=h.1;omega] at this
theorem rG(h:Fd c):oo ⟨#[c]⟩ "ABCDEFGHIJKLMNOPQRSTUVWXYZ" = true:=by
 have all:(List.range 26).all (fun k=>oo ⟨#[65+k]⟩ "ABCDEFGHIJKLMNOPQRSTUVWXYZ")=true:=by decide +kernel
 have:=List.all_eq_true.mp all (c - 65) (List.mem_range.mpr (by have:=h.1;have:=h.2;omega))
 rwa [show 65+(c - 65)=c from by have:=h.1;omega] at this
theorem lT(h:lp c):Txt.upper ⟨#[c]⟩=⟨#[c - 32]⟩:=by
 have all:(List.range 26).all (fun k=>Txt.upper ⟨#[97+k]⟩ == ⟨#[97+k - 32]⟩)=true:=by decide +kernel
 have:=List.all_eq_true.mp all (c - 97) (List.mem_range.mpr (by have:=h.1;have:=h.2;omega))
 rw[show 97+(c - 97)=c from by have:=h.1;omega] at this
 exact eq_of_beq this
theorem Zv(i:Nat)(h:i<26):(cp "abcdefghijklmnopqrstuvwxyz")[i]?=some (97+i):=by
 have all:(List.range 26).all (fun k=>(cp "abcdefghijklmnopqrstuvwxyz")[k]? == some (97+k))=true:=by decide +kernel
 exact eq_of_beq (List.all_eq_true.mp all i (List.mem_range.mpr h))
end DL
namespace DL.My
open PySem L2
def cw(i:Nat):Stmt:=PySem.Challenge.pw_whyfacts_k03_bound_and_widths.main.body.getD i (.Pass ⟨0,0,0,0⟩)
def wz:W:=.int 20
def t5:W:=.int 4
def zk:W:=.int 6
def Ha:W:=.int 8
def zg:W:=.int 999999999
def Ka:W:=.str "abcdefghijklmnopqrstuvwxyz"
def zc:W:=.str "ABCDEFGHIJKLMNOPQRSTUVWXYZ"
noncomputable def zl:W:=.tup ((["has", "not", "less", "same", "plus", "if", "by", "is", "count", "sum", "least", "most", "why"]:List Str).map W.str)
def zo:W:=.int 3
def pd:W:=.tup ((["has", "not"]:List Str).map W.str)
def md:List be:=[Sum.inr "less",Sum.inr "same",Sum.inr "plus"]
def ma:List W:=[(W.int 2),(W.int 2),(W.int 3)]
def Gq:W:=.tup ((["count", "sum", "least", "most"]:List Str).map W.str)
noncomputable def y9:List (Str×Bool):=[("BadRule",false),("BadWidth",false),("Unbound",false),("TooMany",false)]
def y8:List (Str×Bool):=[("BadRule",true),("BadWidth",false),("Unbound",false),("TooMany",false)]
def v7:List (Str×Bool):=[("BadRule",false),("BadWidth",true),("Unbound",false),("TooMany",false)]
def pf:List (Str×Bool):=[("BadRule",true),("BadWidth",true),("Unbound",true),("TooMany",true)]
def Ek:List (Str×Bool):=[("BadRule",false),("BadWidth",false),("Unbound",false),("TooMany",false)]
def Ej:List (Str×Bool):=[("BadRule",false),("BadWidth",false),("Unbound",false),("TooMany",false)]
def Ei:List (Str×Bool):=[("BadRule",false),("BadWidth",false),("Unbound",false),("TooMany",false)]
def y7:List (Str×Bool):=[("BadRule",false),("BadWidth",false),("Unbound",false),("TooMany",true)]
def y0:List (Str×Bool):=[("BadRule",false),("BadWidth",false),("Unbound",true),("TooMany",false)]
def o7:List (Str×Bool):=[("BadRule",true),("BadWidth",true),("Unbound",true),("TooMany",true)]
noncomputable def ke:List (Str×GV):=[("BadFact",.exc true y9),("BadRule",.exc true y8),("BadWidth",.exc true v7),("FactError",.exc true pf),("NoFact",.exc true Ek),("NoText",.exc true Ej),("Ringed",.exc true Ei),("TooMany",.exc true y7),("Unbound",.exc true y0),("ValueError",.exc false o7),("MOST_RULES",.con wz),("MOST_WIDTH",.con t5),("MOST_PARTS",.con zk),("MOST_SIGNS",.con Ha),("MOST_NUMBER",.con zg),("SMALL_LETTERS",.con Ka),("GREAT_LETTERS",.con zc),("KEPT_WORDS",.con zl),("MOST_KEYS",.con zo),("PATTERN_PARTS",.con pd),("TERM_COUNTS",.dcon md ma),("GATHER_KINDS",.con Gq),("all",.blt),("bool",.blt),("int",.blt),("isinstance",.blt),("len",.blt),("list",.blt),("range",.blt),("set",.blt),("str",.blt),("tuple",.blt)]
abbrev m9:Stmt:=cw 50
def Qk:List Str:=["rule"]
def Qh:List Str:=["rule"]
def fJ:List (Nat×Nat):=[]
noncomputable def Kc:aq:=
 (ai (aw (ae (runN (ad (ae (aa 0) (ac (W.int 1)) ak) af) (ay false)) (ck false (ba (ae (aa 0) (bb (ac (W.int 1)) di) ak)) [] (ae (ae (aa 0) (ac (W.int 0)) ak) (ac pd) cn) (ae (aa 0) (ac (W.int 1)) ak)) av))
 aj)
noncomputable def zd:bh:=dg 1 1 0 Kc
abbrev u8:Stmt:=cw 54
def Sn:List Str:=["_law_script", "_law_k"]
def Sa:List Str:=["_law_script", "_law_k"]
def jI:List (Nat×Nat):=[]
noncomputable def Kn:aq:=
 (ai (bg (ae (aa 1) (runN (ad (aa 0) af) gj) yj)
  (ai (aw (ae (aa 0) (aa 1) ak))
 aj)
  aj)
 (ai (aw (ac (W.int 0)))
 aj))
noncomputable def ir:bh:=dg 2 2 0 Kn
abbrev u7:Stmt:=cw 57
def Sm:List Str:=["_law_term"]
def Rz:List Str:=["_law_term"]
def jH:List (Nat×Nat):=[]
noncomputable def Km:aq:=
 (ai (aw (cr (runN (ad (aa 0) (ad (ac (.ty "str")) af)) cb) (ae (ae (aa 0) (ac (W.int 0)) ak) (ac (W.str "ABCDEFGHIJKLMNOPQRSTUVWXYZ")) cn)))
 aj)
noncomputable def s9:bh:=dg 1 1 0 Km
abbrev z8:Stmt:=cw 63
def Vd:List Str:=["_law_part"]
def Uv:List Str:=["_law_part"]
def oH:List (Nat×Nat):=[]
noncomputable def Ee:aq:=
 (ai (bg (ae (ae (aa 0) (ac (W.int 0)) ak) (runN (ad (ac (W.str "has")) (ad (ac (W.str "not")) af)) ap) cn)
  (ai (aw (runN (ad (dl false (ae (aa 0) (ac (W.int 1)) ak) (ac (W.int 1))) af) (jd false)))
 aj)
  aj)
 (ai (aw (runN (ad (dl false (aa 0) (ac (W.int 1))) af) (jd false)))
 aj))
noncomputable def li:bh:=dg 1 1 0 Ee
abbrev v9:Stmt:=cw 67
noncomputable def Tm:List Str:=["_law_rule", "_law_cell", "_law_some", "_law_more", "_law_four", "_law_bad", "_law_at", "_law_body"]
def Ti:List Str:=["_law_rule", "_law_cell"]
def lP:List (Nat×Nat):=[]
noncomputable def Kv:aq:=
 (ai (ax 2 (runN (ad (runN (ad (aa 0) af) (jd false)) (ad (dq false (aa 0) (ac (W.int 2))) (ad (ae (runN (ad (ac (W.str "rules")) af) ap) (dl false (aa 0) (ac (W.int 1))) av) (ad (runN (ad (ac (W.str "rule")) (ad (ae (aa 0) (ac (W.int 1)) ak) (ad (runN (ad (ae (aa 0) (bb (ac (W.int 1)) di) ak) af) (jd false)) af))) ap) (ad (runN (ad (ac (W.str "rule")) (ad (ae (aa 0) (ac (W.int 1)) ak) (ad (runN af ap) af))) ap) (ad (ac W.non) af)))))) (ay false)))
 (ai (ax 3 (runN (ad (ac (W.str "gather")) (ad (runN (ad (ac (W.str "town")) (ad (ac (W.str "T")) af)) ap) (ad (ac (W.str "count")) (ad (ac (W.str "T")) (ad (ac (W.str "")) (ad (runN af ap) (ad (runN (ad (runN (ad (ac (W.str "has")) (ad (runN (ad (ac (W.str "town")) (ad (ac (W.str "X")) af)) ap) af)) ap) af) ap) af))))))) ap))
 (ai (ax 2 (ae (aa 2) (runN (ad (ae (ae (dq false (aa 3) (ac (W.int 2))) (runN (ad (ac (W.str "counts")) af) ap) av) (dl false (aa 3) (ac (W.int 3))) av) (ad (ae (ae (dq false (aa 3) (ac (W.int 4))) (runN (ad (ac (W.str "X")) af) ap) av) (dl false (aa 3) (ac (W.int 5))) av) (ad (ae (ae (dq false (aa 3) (ac (W.int 5))) (runN (ad (runN (ad (ac (W.str "X")) (ad (ac (W.str "X")) af)) ap) af) ap) av) (dl false (aa 3) (ac (W.int 6))) av) af))) (ay false)) av))
 (ai (ax 2 (ae (aa 2) (runN (ad (ae (ae (dq false (aa 3) (ac (W.int 3))) (runN (ad (ac (W.str "t")) af) ap) av) (dl false (aa 3) (ac (W.int 4))) av) (ad (ae (ae (dq false (aa 3) (ac (W.int 5))) (runN (ad (runN (ad (ac (W.str "X")) af) (ay false)) af) ap) av) (dl false (aa 3) (ac (W.int 6))) av) (ad (ae (ae (dq false (aa 3) (ac (W.int 2))) (runN (ad (ac (W.str "sum")) af) ap) av) (dl false (aa 3) (ac (W.int 3))) av) af))) (ay false)) av))
 (ai (ax 2 (ae (aa 2) (runN (ad (ae (ae (dq false (aa 3) (ac (W.int 2))) (runN (ad (runN (ad (ac (W.str "count")) af) (ay false)) af) ap) av) (dl false (aa 3) (ac (W.int 3))) av) (ad (ae (ae (dq false (aa 3) (ac (W.int 3))) (runN (ad (runN (ad (ac (W.str "T")) af) (ay false)) af) ap) av) (dl false (aa 3) (ac (W.int 4))) av) af)) (ay false)) av))
 (ai (ax 2 (ae (aa 2) (runN (ad (ae (ae (dq false (aa 3) (ac (W.int 5))) (runN (ad (runN (ad (runN (ad (ac (W.str "X")) af) (ay false)) af) ap) af) ap) av) (dl false (aa 3) (ac (W.int 6))) av) af) (ay false)) av))
 (ai (ax 2 (ae (aa 2) (runN (ad (ae (ae (dq false (aa 3) (ac (W.int 2))) (runN (ad (ac (W.str "sum")) (ad (ac (W.str "T")) (ad (runN (ad (ac (W.str "X")) af) (ay false)) af))) ap) av) (dl false (aa 3) (ac (W.int 5))) av) (ad (ae (runN (ad (runN (ad (ac (W.str "rule")) af) (ay false)) af) ap) (dl false (aa 0) (ac (W.int 1))) av) (ad (ae (runN (ad (runN (ad (ac (W.str "gather")) af) (ay false)) af) ap) (dl false (aa 3) (ac (W.int 1))) av) af))) (ay false)) av))
 (ai (ax 4 (runN (ad (runN (ad (ac (W.str "has")) (ad (runN (ad (ac (W.str "load")) (ad (ac (W.str "X")) (ad (ac (W.str "Y")) (ad (ac (W.str "Zed")) af)))) ap) af)) ap) (ad (runN (ad (ac (W.str "has")) (ad (runN (ad (ac (W.str "town")) (ad (ac (W.str "W")) af)) ap) af)) ap) af)) ap))
 (ai (ax 2 (ae (aa 2) (runN (ad (ae (dq false (aa 3) (ac (W.int 5))) (runN (ad (runN (ad (ac (W.str "X")) (ad (ac (W.str "Y")) (ad (ac (W.str "Zed")) (ad (ac (W.str "W")) af)))) ap) (ad (aa 4) af)) ap) av) (ad (runN (ad (ac (W.str "rule")) (ad (runN (ad (ac (W.str "road")) (ad (ac W.non) af)) ap) (ad (ae (aa 0) (bb (ac (W.int 1)) di) ak) af))) ap) af)) (ay false)) av))
 (ai (ax 2 (ae (aa 2) (runN (ad (runN (ad (ac (W.str "rule")) (ad (runN (ad (ae (aa 0) (ac (W.int 1)) ak) af) (jd false)) (ad (ae (aa 0) (bb (ac (W.int 1)) di) ak) af))) ap) (ad (runN (ad (ac (W.str "rule")) (ad (ae (aa 0) (ac (W.int 1)) ak) (ad (ae (ae (aa 0) (bb (ac (W.int 1)) di) ak) (ac (W.int 7)) dj) af))) ap) af)) (ay false)) av))
 (ai (ax 2 (ae (aa 2) (runN (ad (ae (ae (dq false (aa 3) (ac (W.int 1))) (runN (ad (runN (ad (ac (W.str "Town")) af) ap) af) ap) av) (dl false (aa 3) (ac (W.int 2))) av) af) (ay false)) av))
 (ai (ax 5 (runN (ad (runN (ad (ac (W.str "less")) (ad (ac (W.int 1)) af)) ap) (ad (runN (ad (ac (W.str "has")) (ad (runN (ad (ac (W.str "town")) (ad (ac (W.str "x1")) af)) ap) af)) ap) (ad (runN (ad (ac (W.str "not")) (ad (ac (W.int 5)) af)) ap) (ad (runN (ad (ac (W.str "is")) (ad (runN (ad (ac (W.str "town")) (ad (ac (W.int 1)) af)) ap) af)) ap) (ad (runN (ad (ac (W.str "plus")) (ad (ac (W.int 1)) (ad (ac (W.int 2)) af))) ap) (ad (ac W.non) af)))))) (ay false)))
 (ai (ax 5 (ae (aa 5) (runN (ad (runN (ad (ac (W.str "has")) (ad (runN (ad (ac (W.str "town")) (ad (ac (W.int 1)) af)) ap) af)) (ay false)) af) (ay false)) av))
 (ai (ax 6 (ae (ae (aa 1) (ac (W.int 28)) bi) (ae (runN (ad (ae (aa 0) (bb (ac (W.int 1)) di) ak) af) gj) (ac (W.int 1)) av) bf))
 (ai (ax 7 (ae (ae (dq false (ae (aa 0) (bb (ac (W.int 1)) di) ak) (aa 6)) (runN (ad (ae (aa 5) (ae (ae (aa 1) (ac (W.int 28)) bi) (ac (W.int 7)) bf) ak) af) ap) av) (dl false (ae (aa 0) (bb (ac (W.int 1)) di) ak) (aa 6)) av))
 (ai (ax 2 (ae (aa 2) (runN (ad (runN (ad (ac (W.str "rule")) (ad (ae (aa 0) (ac (W.int 1)) ak) (ad (aa 7) af))) ap) (ad (ae (dq false (aa 3) (ac (W.int 6))) (runN (ad (aa 7) af) ap) av) (ad (runN (ad (ac (W.str "rule")) (ad (runN af ap) (ad (ae (aa 0) (bb (ac (W.int 1)) di) ak) af))) ap) (ad (runN (ad (ac (W.str "rule")) (ad (ac (W.str "road")) (ad (ae (aa 0) (bb (ac (W.int 1)) di) ak) af))) ap) af)))) (ay false)) av))
 (ai (ax 2 (ae (aa 2) (runN (ad (runN (ad (ac (W.str "rule")) (ad (runN (ad (ac (W.str "road")) (ad (ac (W.int 1)) (ad (ac (W.int 2)) (ad (ac (W.int 3)) (ad (ac (W.int 4)) (ad (ac (W.int 5)) af)))))) ap) (ad (ae (aa 0) (bb (ac (W.int 1)) di) ak) af))) ap) (ad (ae (aa 0) (runN (ad (ae (aa 0) (bb (ac (W.int 1)) di) ak) af) ap) av) (ad (ae (aa 3) (runN (ad (ae (aa 3) (bb (ac (W.int 1)) di) ak) af) ap) av) af))) (ay false)) av))
 (ai (aw (ae (aa 2) (ae (aa 1) (ac (W.int 30)) bf) ak))
 aj))))))))))))))))))
noncomputable def xa:bh:=dg 2 8 0 Kv
abbrev m4:Stmt:=cw 19
def Py:List Str:=["thing"]
def Pt:List Str:=["thing"]
def dJ:List (Nat×Nat):=[]
noncomputable def Jy:aq:=
 (ai (aw (cr (runN (ad (aa 0) (ad (ac (.ty "str")) af)) cb) (ni (ac (W.int 1)) (runN (ad (aa 0) af) gj) (ac Ha) km km)))
 aj)
noncomputable def qz:bh:=dg 1 1 0 Jy
abbrev v5:Stmt:=cw 20
def Sr:List Str:=["text"]
def Se:List Str:=["text"]
def jL:List (Nat×Nat):=[]
noncomputable def Kq:aq:=
 (ai (aw (runN (ad (ck false (ba (aa 0)) [] (ac (.bl true)) (ae (aa 0) (ac Ka) cn)) af) ij))
 aj)
noncomputable def tm:bh:=dg 1 1 0 Kq
abbrev u9:Stmt:=cw 23
def So:List Str:=["thing"]
def Sb:List Str:=["thing"]
def jJ:List (Nat×Nat):=[]
noncomputable def Ko:aq:=
 (ai (bg (runN (ad (aa 0) (ad (ac (.ty "bool")) af)) cb)
  (ai (aw (ac (W.bl false)))
 aj)
  aj)
 (ai (aw (cr (runN (ad (aa 0) (ad (ac (.ty "int")) af)) cb) (ni (bb (ac zg) di) (aa 0) (ac zg) km km)))
 aj))
noncomputable def vh:bh:=dg 1 1 0 Ko
abbrev o8:Stmt:=cw 32
def Rf:List Str:=["thing"]
def Qw:List Str:=["thing"]
def gY:List (Nat×Nat):=[]
noncomputable def Ke:aq:=
 (ai (bg (cr (runN (ad (aa 0) (ad (ac (.ty "tuple")) af)) cb) (cr (ae (runN (ad (aa 0) af) gj) (ac (W.int 0)) ur) (runN (ad (ae (aa 0) (ac (W.int 0)) ak) (ad (ac (.ty "str")) af)) cb)))
  (ai (aw (ae (aa 0) (ac (W.int 0)) ak))
 aj)
  aj)
 (ai (aw (ac (W.str "")))
 aj))
noncomputable def sy:bh:=dg 1 1 0 Ke
abbrev l8:Stmt:=cw 43
def Pq:List Str:=["thing"]
def Pp:List Str:=["thing"]
def cZ:List (Nat×Nat):=[]
noncomputable def Jv:aq:=
 (ai (aw (cr (runN (ad (aa 0) (ad (ac (.ty "str")) af)) cb) (ae (aa 0) (ac Gq) cn)))
 aj)
noncomputable def l7:bh:=dg 1 1 0 Jv
abbrev p5:Stmt:=cw 39
def Rh:List Str:=["words", "bound", "word"]
def Qy:List Str:=["words", "bound"]
def hE:List (Nat×Nat):=[]
noncomputable def Gv:aq:=
 (ai (ib 2 (ba (aa 0)) (ai (bg (ae (aa 2) (aa 1) mv)
  (ai (mw "Unbound" (ad (kj [(ac (W.str "the free word ")),(bb (aa 2) ls),(ac (W.str " is not bound"))] Str.empty) af))
 aj)
  aj)
 aj))
 aj)
noncomputable def pe:bh:=jl 2 3 0 Gv
abbrev z9:Stmt:=cw 55
def Ve:List Str:=["_law_e", "_law_found"]
def Uw:List Str:=["_law_e"]
def oI:List (Nat×Nat):=[]
noncomputable def Tu:aq:=
 (ai (ax 1 (runN (ad (bb (aa 0) (oj y9)) (ad (bb (aa 0) (oj y8)) (ad (bb (aa 0) (oj v7)) (ad (bb (aa 0) (oj y0)) af)))) (ay false)))
 (ai (ax 1 (ae (aa 1) (runN (ad (bb (aa 0) (oj Ei)) (ad (bb (aa 0) (oj y7)) (ad (bb (aa 0) (oj Ek)) (ad (bb (aa 0) (oj Ej)) af)))) (ay false)) av))
 (ai (bg (ia (ae (dw "list" (aa 1) (ad (ac (W.bl true)) af) Eu) (ac (W.int 1)) de) (gs (bb (aa 0) (oj o7))))
  (ai (aw (ac (W.str "none")))
 aj)
  aj)
 (ai (aw (ae (runN (ad (ac (W.str "fact")) (ad (ac (W.str "rule")) (ad (ac (W.str "width")) (ad (ac (W.str "unbound")) (ad (ac (W.str "ring")) (ad (ac (W.str "many")) (ad (ac (W.str "nofact")) (ad (ac (W.str "text")) af)))))))) (ay false)) (dw "list" (aa 1) (ad (ac (W.bl true)) af) Et) ak))
 aj))))
noncomputable def me:bh:=jl 1 2 0 Tu
abbrev m8:Stmt:=cw 56
noncomputable def Qd:List Str:=["_law_cell", "_law_small", "_law_tail", "_law_at", "_law_found", "_law_k", "_law_letter"]
def Qb:List Str:=["_law_cell"]
def eA:List (Nat×Nat):=[(176,17)]
noncomputable def Kb:aq:=
 (ai (bg (ae (ae (aa 0) (ac (W.int 3)) bf) (ac (W.int 0)) bw)
  (ai (aw (runN (ad (ac (W.str "X")) (ad (ac (W.str "Y")) (ad (ac (W.str "Zed")) (ad (ac (W.str "T")) (ad (ac (W.str "Result")) af))))) (ay false)))
 aj)
  aj)
 (ai (ax 1 (ac (W.str "abcdefghijklmnopqrstuvwxyz")))
 (ai (ax 2 (dw "str" (ac (W.str "")) (ad (ck false (ja (ae (ae (aa 0) (ac (W.int 3)) bi) (ac (W.int 8)) bf)) [0,1] (ac (.bl true)) (ae (aa 2) (ae (ae (ae (aa 1) (ac (W.int 52)) bi) (ae (ac (W.int 5)) (aa 0) dj) av) (ac (W.int 26)) bf) ak)) af) xu))
 (ai (bg (ae (ae (aa 0) (ac (W.int 3)) bf) (ac (W.int 1)) bw)
  (ai (aw (ck false (ja (ac (W.int 5))) [0,2] (ac (.bl true)) (dq false (ae (ac (W.str "N")) (dq false (ae (aa 2) (ac (W.str "abcdefg")) av) (ac (W.int 7))) av) (ae (ac (W.int 1)) (ae (ae (aa 0) (ae (aa 1) (ac (W.int 24)) bi) av) (ac (W.int 8)) bf) av))))
 aj)
  aj)
 (ai (ax 3 (ae (ae (aa 0) (ac (W.int 24)) bi) (ae (runN (ad (aa 2) af) gj) (ac (W.int 1)) av) bf))
 (ai (ax 4 (runN af (ay true)))
 (ai (ib 5 (ja (ac (W.int 5))) (ai (ax 6 (ae (aa 1) (ae (ae (ae (aa 0) (ac (W.int 208)) bi) (ae (ac (W.int 7)) (aa 5) dj) av) (ac (W.int 26)) bf) ak))
 (ai (bg (ae (aa 3) (ac (W.int 0)) bw)
  (ai (fm (dw "list" (aa 4) (ad (ae (dw "str" (aa 6) af xm) (aa 2) av) af) kg))
 aj)
  (ai (fm (dw "list" (aa 4) (ad (ae (ae (ae (ac (W.str "Q")) (dq false (aa 2) (ae (aa 3) (ac (W.int 1)) na)) av) (aa 6) av) (dl false (aa 2) (aa 3)) av) af) kg))
 aj))
 aj)))
 (ai (aw (aa 4))
 aj))))))))
noncomputable def m6:bh:=dg 1 7 1 Kb
abbrev u4:Stmt:=cw 58
def Sj:List Str:=["_law_cell", "_law_words_here"]
def Rw:List Str:=["_law_cell", "_law_words_here"]
def jE:List (Nat×Nat):=[]
noncomputable def Kl:aq:=
 (ai (bg (ae (ae (aa 0) (ac (W.int 4)) bf) (ac (W.int 2)) yj)
  (ai (aw (ae (aa 1) (ae (ae (aa 0) (ac (W.int 4)) bi) (ac (W.int 3)) bf) ak))
 aj)
  aj)
 (ai (aw (ae (runN (ad (ac (W.int 1)) (ad (ac (W.str "a")) (ad (bb (ac (W.int 5)) di) (ad (ac (W.str "b")) af)))) (ay false)) (ae (ae (aa 0) (ac (W.int 4)) bi) (ac (W.int 4)) bf) ak))
 aj))
noncomputable def vg:bh:=dg 2 2 0 Kl
noncomputable def vd:List (Str×GV):=("_law_term_by",.fn 2 vg)::("_law_free_words",.fn 1 m6)::("_law_names",.fx 1 false me)::("need_bound",.fx 2 true pe)::("is_gather_kind",.fn 1 l7)::("word_ahead",.fn 1 sy)::("is_number",.fn 1 vh)::("all_small",.fn 1 tm)::("is_short_text",.fn 1 qz)::("_law_spoilt",.fn 2 xa)::("_law_terms",.fn 1 li)::("_law_is_free",.fn 1 s9)::("_law_cell_at",.fn 2 ir)::("patterns_in",.fn 1 zd)::ke
abbrev t6:Stmt:=cw 51
noncomputable def Sf:List Str:=["rules", "widths", "rule", "pattern", "name", "width"]
def Rs:List Str:=["rules"]
def jA:List (Nat×Nat):=[(140,13),(141,16)]
noncomputable def Hb:aq:=
 (ai (ax 1 se)
 (ai (wb 2 (aa 0) (ai (ib 3 (ba (runN (ad (aa 2) af) (ao zd))) (ai (ax 4 (ae (aa 3) (ac (W.int 0)) ak))
 (ai (ax 5 (ae (runN (ad (aa 3) af) gj) (ac (W.int 1)) na))
 (ai (bg (ae (dw "dict" (aa 1) (ad (aa 4) (ad (aa 5) af)) qc) (aa 5) de)
  (ai (mw "BadWidth" (ad (kj [(ac (W.str "the name ")),(bb (aa 4) ls),(ac (W.str " has two widths"))] Str.empty) af))
 aj)
  aj)
 aj))))
 aj))
 (ai (aw (aa 1))
 aj)))
noncomputable def nr:bh:=jl 1 6 1 Hb
abbrev z7:Stmt:=cw 62
def Vc:List Str:=["_law_terms_here"]
def Uu:List Str:=["_law_terms_here"]
def oG:List (Nat×Nat):=[]
noncomputable def Lf:aq:=
 (ai (aw (ck false (ba (aa 0)) [] (runN (ad (aa 0) af) (ao s9)) (aa 0)))
 aj)
noncomputable def kf:bh:=dg 1 1 0 Lf
abbrev Eb:Stmt:=cw 21
def Vh:List Str:=["thing"]
def Uz:List Str:=["thing"]
def oM:List (Nat×Nat):=[]
noncomputable def Hn:aq:=
 (ai (aw (cr (runN (ad (aa 0) af) (ao qz)) (cr (runN (ad (aa 0) af) (ao tm)) (ae (aa 0) (ac zl) mv))))
 aj)
noncomputable def rk:bh:=dg 1 1 0 Hn
abbrev Ec:Stmt:=cw 22
def Vi:List Str:=["thing"]
def Va:List Str:=["thing"]
def oN:List (Nat×Nat):=[]
noncomputable def Ho:aq:=
 (ai (aw (cr (runN (ad (aa 0) af) (ao qz)) (cr (ae (ae (aa 0) (ac (W.int 0)) ak) (ac zc) cn) (runN (ad (dl false (aa 0) (ac (W.int 1))) af) (ao tm)))))
 aj)
noncomputable def mf:bh:=dg 1 1 0 Ho
abbrev m7:Stmt:=cw 59
def Qc:List Str:=["_law_cell", "_law_any_width", "_law_words_here", "_law_k", "_law_size", "_law_terms_here"]
def Qa:List Str:=["_law_cell", "_law_any_width", "_law_words_here"]
def dZ:List (Nat×Nat):=[]
noncomputable def Go:aq:=
 (ai (ax 3 (ae (aa 0) (ac (W.int 4)) bf))
 (ai (ax 4 (ae (runN (ad (ac (W.int 2)) (ad (ac (W.int 1)) (ad (ac (W.int 0)) (ad (ac (W.int 3)) af)))) (ay false)) (aa 3) ak))
 (ai (bg (cr (aa 1) (ae (ae (ae (aa 0) (ac (W.int 4)) bi) (ac (W.int 3)) bf) (ac (W.int 1)) bw))
  (ai (ax 4 (ae (ae (aa 0) (ac (W.int 12)) bi) (ac (W.int 5)) bf))
 aj)
  aj)
 (ai (ax 5 (ck false (ja (aa 4)) [0,2] (ac (.bl true)) (runN (ad (ae (ae (ae (aa 1) (ac (W.int 4)) bi) (ae (ac (W.int 7)) (aa 0) dj) av) (ae (ae (aa 1) (ac (W.int 29)) bi) (aa 0) dj) av) (ad (aa 2) af)) (ao vg))))
 (ai (aw (runN (ad (ae (runN (ad (ae (runN (ad (ac (W.str "road")) (ad (ac (W.str "town")) (ad (ac (W.str "rain")) (ad (ac (W.str "load")) af)))) (ay false)) (aa 3) ak) af) (ay false)) (aa 5) av) af) mt))
 aj)))))
noncomputable def ww:bh:=dg 3 6 0 Go
noncomputable def qt:List (Str×GV):=("_law_pattern_by",.fn 3 ww)::("is_free",.fn 1 mf)::("is_name",.fn 1 rk)::("_law_words",.fn 1 kf)::("widths_of",.fx 1 true nr)::vd
abbrev p8:Stmt:=cw 64
def Rk:List Str:=["_law_body", "_law_bound", "_law_part", "_law_wants", "_law_word"]
def Rb:List Str:=["_law_body"]
def hU:List (Nat×Nat):=[(225,17)]
noncomputable def Gx:aq:=
 (ai (ax 1 se)
 (ai (ib 2 (ba (aa 0)) (ai (ax 3 (runN (ad (runN (ad (aa 2) af) (ao li)) af) (ao kf)))
 (ai (bg (ae (ae (aa 2) (ac (W.int 0)) ak) (ac (W.str "plus")) bw)
  (ai (ax 3 (runN (ad (vq false (aa 2) (ac (W.int 1)) (ac (W.int 3))) af) (ao kf)))
 aj)
  aj)
 (ai (bg (cr (ae (ae (aa 2) (ac (W.int 0)) ak) (ac (W.str "has")) de) (gs (runN (ad (ck false (ba (aa 3)) [1] (ac (.bl true)) (ae (aa 0) (aa 1) cn)) af) ij)))
  (ai (aw (ac (W.str "unbound")))
 aj)
  aj)
 (ai (ib 4 (ba (runN (ad (runN (ad (aa 2) af) (ao li)) af) (ao kf))) (ai (ku (aa 1) (aa 4) (ac (W.bl true)))
 aj))
 aj)))))
 (ai (aw (ac (W.str "")))
 aj)))
noncomputable def wx:bh:=dg 1 5 1 Gx
abbrev w6:Stmt:=cw 24
def Tn:List Str:=["thing"]
def Tj:List Str:=["thing"]
def lQ:List (Nat×Nat):=[]
noncomputable def Kw:aq:=
 (ai (aw (ia (runN (ad (aa 0) af) (ao rk)) (runN (ad (aa 0) af) (ao vh))))
 aj)
noncomputable def xb:bh:=dg 1 1 0 Kw
abbrev l6:Stmt:=cw 44
def Po:List Str:=["thing", "kind"]
def Pn:List Str:=["thing", "kind"]
def cP:List (Nat×Nat):=[]
noncomputable def Ju:aq:=
 (ai (bg (ae (aa 1) (ac (W.str "count")) bw)
  (ai (aw (cr (runN (ad (aa 0) (ad (ac (.ty "str")) af)) cb) (ae (aa 0) (ac (W.str "")) bw)))
 aj)
  aj)
 (ai (aw (runN (ad (aa 0) af) (ao mf)))
 aj))
noncomputable def Gj:bh:=dg 2 2 0 Ju
abbrev w9:Stmt:=cw 45
def To:List Str:=["thing"]
def Tk:List Str:=["thing"]
def lR:List (Nat×Nat):=[]
noncomputable def Kx:aq:=
 (ai (bg (ia (gs (runN (ad (aa 0) (ad (ac (.ty "tuple")) af)) cb)) (ae (runN (ad (aa 0) af) gj) (ac zo) ur))
  (ai (aw (ac (W.bl false)))
 aj)
  aj)
 (ai (aw (cr (runN (ad (ck false (ba (aa 0)) [] (ac (.bl true)) (runN (ad (aa 0) af) (ao mf))) af) ij) (ae (bb (aa 0) xt) (runN (ad (aa 0) af) gj) bw)))
 aj))
noncomputable def Hf:bh:=dg 1 1 0 Kx
abbrev q8:Stmt:=cw 35
def Rm:List Str:=["terms"]
def Re:List Str:=["terms"]
def hX:List (Nat×Nat):=[]
noncomputable def Kg:aq:=
 (ai (aw (ck false (ba (aa 0)) [] (runN (ad (aa 0) af) (ao mf)) (aa 0)))
 aj)
noncomputable def tj:bh:=dg 1 1 0 Kg
abbrev m3:Stmt:=cw 69
def Px:List Str:=["_law_rules", "_law_e"]
def Ps:List Str:=["_law_rules"]
def dI:List (Nat×Nat):=[]
noncomputable def Gm:aq:=
 (ai (ot 2 1 pf (ai (fm (runN (ad (aa 0) af) nr))
 aj) (ai (aw (runN (ad (aa 1) af) (ao me)))
 aj))
 (ai (aw (ac (W.str "")))
 aj))
noncomputable def zb:bh:=jl 1 2 0 Gm
abbrev u6:Stmt:=cw 60
def Sl:List Str:=["_law_cell", "_law_any_width", "_law_words_here", "_law_terms_here"]
def Ry:List Str:=["_law_cell", "_law_any_width", "_law_words_here"]
def jG:List (Nat×Nat):=[]
noncomputable def He:aq:=
 (ai (bg (ae (ae (aa 0) (ac (W.int 7)) bf) (ac (W.int 4)) yj)
  (ai (aw (runN (ad (ac (W.str "has")) (ad (runN (ad (ae (aa 0) (ac (W.int 7)) bi) (ad (aa 1) (ad (aa 2) af))) (ao ww)) af)) ap))
 aj)
  aj)
 (ai (bg (ae (ae (aa 0) (ac (W.int 7)) bf) (ac (W.int 4)) bw)
  (ai (aw (runN (ad (ac (W.str "not")) (ad (runN (ad (ae (aa 0) (ac (W.int 7)) bi) (ad (aa 1) (ad (aa 2) af))) (ao ww)) af)) ap))
 aj)
  aj)
 (ai (ax 3 (ck false (ja (ac (W.int 3))) [0,2] (ac (.bl true)) (runN (ad (ae (ae (ae (aa 1) (ac (W.int 7)) bi) (ae (ac (W.int 5)) (aa 0) dj) av) (ae (ae (aa 1) (ac (W.int 31)) bi) (aa 0) dj) av) (ad (aa 2) af)) (ao vg))))
 (ai (bg (ae (ae (aa 0) (ac (W.int 7)) bf) (ac (W.int 5)) bw)
  (ai (aw (runN (ad (ac (W.str "plus")) (ad (ae (aa 3) (ac (W.int 0)) ak) (ad (ae (aa 3) (ac (W.int 1)) ak) (ad (ae (aa 3) (ac (W.int 2)) ak) af)))) ap))
 aj)
  aj)
 (ai (aw (runN (ad (ae (runN (ad (ac (W.str "less")) (ad (ac (W.str "same")) af)) (ay false)) (ae (ae (aa 0) (ac (W.int 7)) bi) (ac (W.int 2)) bf) ak) (ad (ae (aa 3) (ac (W.int 0)) ak) (ad (ae (aa 3) (ac (W.int 1)) ak) af))) ap))
 aj)))))
noncomputable def r9:bh:=dg 3 4 0 He
noncomputable def wq:List (Str×GV):=("_law_part_by",.fn 3 r9)::("_law_widths_told",.fx 1 true zb)::("free_among",.fn 1 tj)::("are_keys",.fn 1 Hf)::("is_gather_value",.fn 2 Gj)::("is_value",.fn 1 xb)::("_law_body_due",.fn 1 wx)::qt
abbrev p7:Stmt:=cw 65
def Rj:List Str:=["_law_rule", "_law_words_here", "_law_part", "_law_due_here", "_law_heads", "_law_wants"]
def Ra:List Str:=["_law_rule"]
def hJ:List (Nat×Nat):=[(247,17),(250,62)]
noncomputable def zh:aq:=
 (ai (ax 1 (runN af (ay false)))
 (ai (ib 2 (ba (ae (aa 0) (bb (ac (W.int 1)) di) ak)) (ai (ax 1 (ae (aa 1) (runN (ad (runN (ad (aa 2) af) (ao li)) af) (ao kf)) av))
 aj))
 (ai (ax 3 (runN (ad (ae (aa 0) (bb (ac (W.int 1)) di) ak) af) (ao wx)))
 (ai (bg (ae (aa 3) (ac (W.str "")) de)
  (ai (aw (aa 3))
 aj)
  aj)
 (ai (ax 4 (runN (ad (dl false (ae (aa 0) (ac (W.int 1)) ak) (ac (W.int 1))) af) (ao kf)))
 (ai (bg (ae (ae (aa 0) (ac (W.int 0)) ak) (ac (W.str "rule")) bw)
  (ai (aw (ae (ac (W.str "unbound")) (runN (ad (gs (runN (ad (ck false (ba (aa 4)) [1] (ac (.bl true)) (ae (aa 0) (aa 1) cn)) af) ij)) af) nb) dj))
 aj)
  aj)
 (ai (bg (ae (ae (aa 0) (ac (W.int 3)) ak) (aa 1) cn)
  (ai (aw (ac (W.str "rule")))
 aj)
  aj)
 (ai (ax 5 (runN (ad (ae (aa 0) (ac (W.int 5)) ak) af) (jd true)))
 (ai (bg (ae (ae (aa 0) (ac (W.int 4)) ak) (ac (W.str "")) de)
  (ai (fm (dw "list" (aa 5) (ad (ae (aa 0) (ac (W.int 4)) ak) af) kg))
 aj)
  aj)
 (ai (bg (gs (runN (ad (tu false (aa 5) [1] (ae (aa 0) (aa 1) cn)) af) ij))
  (ai (aw (ac (W.str "unbound")))
 aj)
  aj)
 (ai (aw (ae (ac (W.str "unbound")) (runN (ad (gs (runN (ad (ck false (ba (aa 4)) [0] (ac (.bl true)) (ia (ae (aa 0) (ae (aa 1) (ac (W.int 5)) ak) cn) (ae (aa 0) (ae (aa 1) (ac (W.int 3)) ak) bw))) af) ij)) af) nb) dj))
 aj)))))))))))
noncomputable def tf:bh:=dg 1 6 1 zh
abbrev Cl:Stmt:=cw 25
def Vf:List Str:=["thing"]
def Ux:List Str:=["thing"]
def oJ:List (Nat×Nat):=[]
noncomputable def Lg:aq:=
 (ai (aw (ia (runN (ad (aa 0) af) (ao xb)) (runN (ad (aa 0) af) (ao mf))))
 aj)
noncomputable def zq:bh:=dg 1 1 0 Lg
abbrev l9:Stmt:=cw 36
def Pw:List Str:=["part"]
def Pr:List Str:=["part"]
def dH:List (Nat×Nat):=[]
noncomputable def Jx:aq:=
 (ai (bg (ae (ae (aa 0) (ac (W.int 0)) ak) (ac pd) cn)
  (ai (aw (runN (ad (dl false (ae (aa 0) (ac (W.int 1)) ak) (ac (W.int 1))) af) (ao tj)))
 aj)
  aj)
 (ai (aw (runN (ad (dl false (aa 0) (ac (W.int 1))) af) (ao tj)))
 aj))
noncomputable def qy:bh:=dg 1 1 0 Jx
abbrev u5:Stmt:=cw 61
noncomputable def Sk:List Str:=["_law_cell", "_law_any_width", "_law_words_here", "_law_parts", "_law_body", "_law_head", "_law_kind", "_law_value", "_law_keys"]
def Rx:List Str:=["_law_cell", "_law_any_width", "_law_words_here"]
def jF:List (Nat×Nat):=[]
noncomputable def Hd:aq:=
 (ai (ax 3 (ck false (ja (ae (ac (W.int 1)) (ae (ae (aa 0) (ac (W.int 3)) bi) (ac (W.int 3)) bf) av)) [1,0,2] (ac (.bl true)) (runN (ad (ae (ae (aa 2) (ac (W.int 11)) bi) (ae (ae (ac (W.int 10007)) (aa 0) dj) (ae (ac (W.int 1)) (ae (aa 2) (ac (W.int 5)) bf) av) dj) av) (ad (aa 1) (ad (aa 3) af))) (ao r9))))
 (ai (ax 4 (runN (ad (aa 3) af) mt))
 (ai (ax 5 (runN (ad (ae (aa 0) (ac (W.int 5)) bi) (ad (aa 1) (ad (aa 2) af))) (ao ww)))
 (ai (bg (ae (ae (aa 0) (ac (W.int 5)) bf) (ac (W.int 1)) ur)
  (ai (aw (runN (ad (ac (W.str "rule")) (ad (aa 5) (ad (aa 4) af))) ap))
 aj)
  aj)
 (ai (ax 6 (ae (runN (ad (ac (W.str "count")) (ad (ac (W.str "sum")) (ad (ac (W.str "least")) (ad (ac (W.str "most")) af)))) (ay false)) (ae (ae (aa 0) (ac (W.int 4)) bi) (ac (W.int 4)) bf) ak))
 (ai (ax 7 (ac (W.str "")))
 (ai (bg (ae (aa 6) (ac (W.str "count")) de)
  (ai (ax 7 (ae (aa 2) (ae (ae (aa 0) (ac (W.int 16)) bi) (ac (W.int 2)) bf) ak))
 aj)
  aj)
 (ai (ax 8 (ae (runN (ad (runN af ap) (ad (runN (ad (ae (aa 2) (ac (W.int 0)) ak) af) ap) (ad (runN (ad (ae (aa 2) (ac (W.int 1)) ak) af) ap) (ad (runN (ad (ae (aa 2) (ac (W.int 0)) ak) (ad (ae (aa 2) (ac (W.int 1)) ak) af)) ap) (ad (runN (ad (ae (aa 2) (ac (W.int 2)) ak) (ad (ae (aa 2) (ac (W.int 0)) ak) (ad (ae (aa 2) (ac (W.int 1)) ak) af))) ap) af))))) (ay false)) (ae (ae (aa 0) (ac (W.int 32)) bi) (ac (W.int 5)) bf) ak))
 (ai (aw (runN (ad (ac (W.str "gather")) (ad (aa 5) (ad (aa 6) (ad (ae (runN (ad (ae (aa 2) (ac (W.int 3)) ak) (ad (ae (aa 2) (ac (W.int 3)) ak) (ad (ae (aa 2) (ac (W.int 2)) ak) af))) (ay false)) (ae (ae (aa 0) (ac (W.int 160)) bi) (ac (W.int 3)) bf) ak) (ad (aa 7) (ad (aa 8) (ad (aa 4) af))))))) ap))
 aj)))))))))
noncomputable def r6:bh:=dg 3 9 0 Hd
noncomputable def va:List (Str×GV):=("_law_rule_by",.fn 3 r6)::("words_of_part",.fn 1 qy)::("is_term",.fn 1 zq)::("_law_rule_due",.fn 1 tf)::wq
abbrev Er:Stmt:=cw 66
def Yo:List Str:=["_law_rules", "_law_rule", "_law_due_here", "_law_found", "_law_pattern"]
def Yn:List Str:=["_law_rules"]
def wS:List (Nat×Nat):=[(254,21),(258,17),(259,21)]
noncomputable def Hx:aq:=
 (ai (wb 1 (aa 0) (ai (ax 2 (runN (ad (aa 1) af) (ao tf)))
 (ai (bg (ae (aa 2) (ac (W.str "")) de)
  (ai (aw (aa 2))
 aj)
  aj)
 aj)))
 (ai (ax 3 se)
 (ai (wb 1 (aa 0) (ai (ib 4 (ba (ae (runN (ad (ae (aa 1) (ac (W.int 1)) ak) af) (ay false)) (ck false (ba (ae (aa 1) (bb (ac (W.int 1)) di) ak)) [] (ae (ae (aa 0) (ac (W.int 0)) ak) (runN (ad (ac (W.str "has")) (ad (ac (W.str "not")) af)) ap) cn) (ae (aa 0) (ac (W.int 1)) ak)) av)) (ai (bg (ae (dw "dict" (aa 3) (ad (ae (aa 4) (ac (W.int 0)) ak) (ad (ae (runN (ad (aa 4) af) gj) (ac (W.int 1)) na) af)) qc) (ae (runN (ad (aa 4) af) gj) (ac (W.int 1)) na) de)
  (ai (aw (ac (W.str "width")))
 aj)
  aj)
 aj))
 aj))
 (ai (aw (aa 3))
 aj))))
noncomputable def vm:bh:=dg 1 5 1 Hx
abbrev p9:Stmt:=cw 31
def Rl:List Str:=["thing"]
def Rc:List Str:=["thing"]
def hW:List (Nat×Nat):=[]
noncomputable def Kf:aq:=
 (ai (bg (ia (gs (runN (ad (aa 0) (ad (ac (.ty "tuple")) af)) cb)) (gs (ni (ac (W.int 1)) (runN (ad (aa 0) af) gj) (ae (ac (W.int 1)) (ac t5) av) km km)))
  (ai (aw (ac (W.bl false)))
 aj)
  aj)
 (ai (aw (cr (runN (ad (ae (aa 0) (ac (W.int 0)) ak) af) (ao rk)) (runN (ad (ck false (ba (dl false (aa 0) (ac (W.int 1)))) [] (ac (.bl true)) (runN (ad (aa 0) af) (ao zq))) af) ij)))
 aj))
noncomputable def zf:bh:=dg 1 1 0 Kf
abbrev v8:Stmt:=cw 37
def Tl:List Str:=["body", "words", "part", "word"]
def Tg:List Str:=["body"]
def lO:List (Nat×Nat):=[(76,12)]
noncomputable def Ku:aq:=
 (ai (ax 1 se)
 (ai (ib 2 (ba (aa 0)) (ai (ib 3 (ba (runN (ad (aa 2) af) (ao qy))) (ai (ku (aa 1) (aa 3) (ac (W.bl true)))
 aj))
 aj))
 (ai (aw (runN (ad (aa 1) af) (jd false)))
 aj)))
noncomputable def zm:bh:=dg 1 4 1 Ku
abbrev t8:Stmt:=cw 38
def Sg:List Str:=["part"]
def Rt:List Str:=["part"]
def jB:List (Nat×Nat):=[]
noncomputable def Kj:aq:=
 (ai (bg (ae (ae (aa 0) (ac (W.int 0)) ak) (ac (W.str "has")) bw)
  (ai (aw (runN af (ay false)))
 aj)
  aj)
 (ai (bg (ae (ae (aa 0) (ac (W.int 0)) ak) (ac (W.str "plus")) bw)
  (ai (aw (runN (ad (vq false (aa 0) (ac (W.int 1)) (ac (W.int 3))) af) (ao tj)))
 aj)
  aj)
 (ai (aw (runN (ad (aa 0) af) (ao qy)))
 aj)))
noncomputable def q9:bh:=dg 1 1 0 Kj
abbrev p6:Stmt:=cw 71
def Ri:List Str:=["_law_script", "_law_many", "_law_any_width", "_law_words_here", "_law_rules", "_law_odd"]
def Qz:List Str:=["_law_script", "_law_many", "_law_any_width"]
def hI:List (Nat×Nat):=[(302,15),(303,17),(306,21)]
noncomputable def Gw:aq:=
 (ai (ax 3 (runN (ad (runN (ad (aa 0) (ad (ac (W.int 14)) af)) (ao ir)) af) (ao m6)))
 (ai (bg (ae (aa 1) (ac (W.int 6)) yj)
  (ai (aw (ck true (ja (aa 1)) [2,0,3] (ac (.bl true)) (runN (ad (runN (ad (aa 2) (ad (ae (ac (W.int 2)) (aa 0) av) af)) (ao ir)) (ad (aa 1) (ad (aa 3) af))) (ao r6))))
 aj)
  aj)
 (ai (ax 4 (ae (runN (ad (runN (ad (ac (W.str "rule")) (ad (runN (ad (ac (W.str "road")) (ad (ac (W.int 1)) (ad (ae (aa 3) (ac (W.int 0)) ak) af))) ap) (ad (runN (ad (runN (ad (ac (W.str "has")) (ad (runN (ad (ac (W.str "town")) (ad (ae (aa 3) (ac (W.int 0)) ak) af)) ap) af)) ap) af) ap) af))) ap) af) (ay true)) (aa 1) xr))
 (ai (bg (aa 2)
  (ai (ax 5 (runN (ad (runN (ad (ac (W.str "has")) (ad (runN (ad (ac (W.str "town")) (ad (ae (aa 3) (ac (W.int 0)) ak) af)) ap) af)) ap) (ad (runN (ad (ac (W.str "not")) (ad (runN (ad (ac (W.str "road")) (ad (ae (aa 3) (ac (W.int 0)) ak) af)) ap) af)) ap) af)) ap))
 (ai (ax 4 (ae (dq true (aa 4) (bb (ac (W.int 1)) di)) (runN (ad (runN (ad (ac (W.str "rule")) (ad (runN (ad (ac (W.str "town")) (ad (ae (aa 3) (ac (W.int 0)) ak) af)) ap) (ad (aa 5) af))) ap) af) (ay false)) xw))
 aj))
  aj)
 (ai (aw (aa 4))
 aj)))))
noncomputable def o6:bh:=dg 3 6 2 Gw
noncomputable def j5:List (Str×GV):=("_law_rules_by",.fn 3 o6)::("wanted_by",.fn 1 q9)::("words_in",.fn 1 zm)::("is_pattern",.fn 1 zf)::("_law_due",.fn 1 vm)::va
abbrev Ea:Stmt:=cw 33
def Vg:List Str:=["thing", "word"]
def Uy:List Str:=["thing"]
def oK:List (Nat×Nat):=[]
noncomputable def Hm:aq:=
 (ai (ax 1 (runN (ad (aa 0) af) (ao sy)))
 (ai (bg (ae (aa 1) (ac pd) cn)
  (ai (aw (cr (ae (runN (ad (aa 0) af) gj) (ac (W.int 2)) bw) (runN (ad (ae (aa 0) (ac (W.int 1)) ak) af) (ao zf))))
 aj)
  aj)
 (ai (bg (bb (aa 1) (nc md ma false))
  (ai (aw (cr (ae (runN (ad (aa 0) af) gj) (ae (ac (W.int 1)) (bb (aa 1) (Fb md ma)) av) bw) (runN (ad (ck false (ba (dl false (aa 0) (ac (W.int 1)))) [] (ac (.bl true)) (runN (ad (aa 0) af) (ao zq))) af) ij)))
 aj)
  aj)
 (ai (aw (ac (W.bl false)))
 aj))))
noncomputable def zr:bh:=dg 1 2 0 Hm
abbrev k9:Stmt:=cw 40
def Pm:List Str:=["body", "bound", "part"]
def Pk:List Str:=["body"]
def cM:List (Nat×Nat):=[(92,12)]
noncomputable def Js:aq:=
 (ai (ax 1 (runN af (ay true)))
 (ai (ib 2 (ba (aa 0)) (ai (fm (runN (ad (runN (ad (aa 2) af) (ao q9)) (ad (aa 1) af)) pe))
 (ai (fm (dw "list" (aa 1) (ad (runN (ad (aa 2) af) (ao qy)) af) xj))
 aj)))
 aj))
noncomputable def za:bh:=jl 1 3 1 Js
noncomputable def yr:List (Str×GV):=("need_bound_parts",.fx 1 true za)::("is_part",.fn 1 zr)::j5
abbrev Ed:Stmt:=cw 34
def Vj:List Str:=["thing"]
def Vb:List Str:=["thing"]
def oO:List (Nat×Nat):=[]
noncomputable def Lh:aq:=
 (ai (bg (ia (gs (runN (ad (aa 0) (ad (ac (.ty "tuple")) af)) cb)) (gs (ni (ac (W.int 1)) (runN (ad (aa 0) af) gj) (ac zk) km km)))
  (ai (aw (ac (W.bl false)))
 aj)
  aj)
 (ai (aw (runN (ad (ck false (ba (aa 0)) [] (ac (.bl true)) (runN (ad (aa 0) af) (ao zr))) af) ij))
 aj))
noncomputable def zt:bh:=dg 1 1 0 Lh
abbrev k8:Stmt:=cw 47
def Pl:List Str:=["head", "body"]
def Pj:List Str:=["head", "body"]
def cL:List (Nat×Nat):=[]
noncomputable def Jr:aq:=
 (ai (fm (runN (ad (aa 1) af) za))
 (ai (fm (runN (ad (runN (ad (dl false (aa 0) (ac (W.int 1))) af) (ao tj)) (ad (runN (ad (aa 1) af) (ao zm)) af)) pe))
 aj))
noncomputable def yz:bh:=jl 2 2 0 Jr
abbrev k7:Stmt:=cw 48
def Ph:List Str:=["head", "result", "value", "keys", "body", "bound"]
def Pg:List Str:=["head", "result", "value", "keys", "body"]
def cI:List (Nat×Nat):=[]
noncomputable def Gi:aq:=
 (ai (fm (runN (ad (aa 4) af) za))
 (ai (ax 5 (runN (ad (aa 4) af) (ao zm)))
 (ai (bg (ae (aa 1) (aa 5) cn)
  (ai (mw "BadRule" (ad (kj [(ac (W.str "the result ")),(bb (aa 1) ls),(ac (W.str " of a gather stands in its body"))] Str.empty) af))
 aj)
  aj)
 (ai (fm (runN (ad (runN (ad (runN (ad (aa 2) af) ap) af) (ao tj)) (ad (aa 5) af)) pe))
 (ai (fm (runN (ad (aa 3) (ad (aa 5) af)) pe))
 (ai (fm (runN (ad (runN (ad (dl false (aa 0) (ac (W.int 1))) af) (ao tj)) (ad (ae (aa 3) (runN (ad (aa 1) af) ap) av) af)) pe))
 aj))))))
noncomputable def yy:bh:=jl 5 6 0 Gi
noncomputable def yq:List (Str×GV):=("need_gather_bound",.fx 5 true yy)::("need_plain_bound",.fx 2 true yz)::("is_body",.fn 1 zt)::yr
abbrev m5:Stmt:=cw 42
def Pz:List Str:=["thing"]
def Pu:List Str:=["thing"]
def dL:List (Nat×Nat):=[]
noncomputable def Jz:aq:=
 (ai (aw (cr (ae (runN (ad (aa 0) af) (ao sy)) (ac (W.str "rule")) bw) (cr (ae (runN (ad (aa 0) af) gj) (ac (W.int 3)) bw) (cr (runN (ad (ae (aa 0) (ac (W.int 1)) ak) af) (ao zf)) (runN (ad (ae (aa 0) (ac (W.int 2)) ak) af) (ao zt))))))
 aj)
noncomputable def Gk:bh:=dg 1 1 0 Jz
abbrev v4:Stmt:=cw 46
def Sq:List Str:=["thing"]
def Sd:List Str:=["thing"]
def jK:List (Nat×Nat):=[]
noncomputable def Kp:aq:=
 (ai (bg (ia (ae (runN (ad (aa 0) af) (ao sy)) (ac (W.str "gather")) de) (ae (runN (ad (aa 0) af) gj) (ac (W.int 7)) de))
  (ai (aw (ac (W.bl false)))
 aj)
  aj)
 (ai (bg (ia (gs (runN (ad (ae (aa 0) (ac (W.int 2)) ak) af) (ao l7))) (gs (runN (ad (ae (aa 0) (ac (W.int 4)) ak) (ad (ae (aa 0) (ac (W.int 2)) ak) af)) (ao Gj))))
  (ai (aw (ac (W.bl false)))
 aj)
  aj)
 (ai (aw (cr (runN (ad (ae (aa 0) (ac (W.int 1)) ak) af) (ao zf)) (cr (runN (ad (ae (aa 0) (ac (W.int 3)) ak) af) (ao mf)) (cr (runN (ad (ae (aa 0) (ac (W.int 5)) ak) af) (ao Hf)) (runN (ad (ae (aa 0) (ac (W.int 6)) ak) af) (ao zt))))))
 aj)))
noncomputable def Gy:bh:=dg 1 1 0 Kp
abbrev u3:Stmt:=cw 41
def Si:List Str:=["body"]
def Rv:List Str:=["body"]
def jD:List (Nat×Nat):=[]
noncomputable def Kk:aq:=
 (ai (bg (gs (runN (ad (aa 0) af) (ao zt)))
  (ai (mw "BadRule" (ad (ac (W.str "a body is a tuple of 1 to 6 parts")) af))
 aj)
  aj)
 (ai (fm (runN (ad (aa 0) af) za))
 (ai (aw (aa 0))
 aj)))
noncomputable def wy:bh:=jl 1 1 0 Kk
noncomputable def j4:List (Str×GV):=("need_body",.fx 1 true wy)::("is_gather",.fn 1 Gy)::("is_plain_rule",.fn 1 Gk)::yq
abbrev t9:Stmt:=cw 49
def Sh:List Str:=["rule"]
def Ru:List Str:=["rule"]
def jC:List (Nat×Nat):=[]
noncomputable def Hc:aq:=
 (ai (bg (runN (ad (aa 0) af) (ao Gk))
  (ai (fm (runN (ad (ae (aa 0) (ac (W.int 1)) ak) (ad (ae (aa 0) (ac (W.int 2)) ak) af)) yz))
 aj)
  (ai (bg (runN (ad (aa 0) af) (ao Gy))
  (ai (fm (runN (ad (ae (aa 0) (ac (W.int 1)) ak) (ad (ae (aa 0) (ac (W.int 3)) ak) (ad (ae (aa 0) (ac (W.int 4)) ak) (ad (ae (aa 0) (ac (W.int 5)) ak) (ad (ae (aa 0) (ac (W.int 6)) ak) af))))) yy))
 aj)
  (ai (mw "BadRule" (ad (ac (W.str "a rule is a tuple of the word rule or gather and its fields")) af))
 aj))
 aj))
 aj)
noncomputable def rj:bh:=jl 1 1 0 Hc
abbrev o0:Stmt:=cw 70
def Ql:List Str:=["_law_body", "_law_e"]
def Qi:List Str:=["_law_body"]
def fK:List (Nat×Nat):=[]
noncomputable def Gr:aq:=
 (ai (ot 2 1 pf (ai (aw (ae (ac (W.str "other")) (runN (ad (ae (runN (ad (aa 0) af) wy) (aa 0) de) af) nb) dj))
 aj) (ai (aw (runN (ad (aa 1) af) (ao me)))
 aj))
 aj)
noncomputable def Gp:bh:=jl 1 2 0 Gr
noncomputable def j3:List (Str×GV):=("_law_body_told",.fx 1 true Gp)::("need_rule",.fx 1 true rj)::j4
abbrev o9:Stmt:=cw 52
def Rg:List Str:=["rules", "rule"]
def Qx:List Str:=["rules"]
def gZ:List (Nat×Nat):=[(156,11)]
noncomputable def rg:aq:=
 (ai (bg (gs (runN (ad (aa 0) (ad (ac (.ty "list")) af)) cb))
  (ai (mw "BadRule" (ad (ac (W.str "rules stand in a list")) af))
 aj)
  aj)
 (ai (bg (ae (runN (ad (aa 0) af) gj) (ac wz) ur)
  (ai (mw "TooMany" (ad (ac (W.str "at most 20 rules stand in a list")) af))
 aj)
  aj)
 (ai (ib 1 (ba (aa 0)) (ai (fm (runN (ad (aa 1) af) rj))
 aj))
 (ai (fm (runN (ad (aa 0) af) nr))
 (ai (aw (runN (ad (aa 0) af) (jd true)))
 aj)))))
noncomputable def lh:bh:=jl 1 2 2 rg
abbrev o5:Stmt:=cw 72
def Qm:List Str:=["_law_body", "_law_seen", "_law_part", "_law_word"]
def Qj:List Str:=["_law_body"]
def fL:List (Nat×Nat):=[(309,16)]
noncomputable def Gs:aq:=
 (ai (ax 1 (runN af (ay true)))
 (ai (ib 2 (ba (aa 0)) (ai (ib 3 (ba (runN (ad (runN (ad (aa 2) af) (ao li)) af) (ao kf))) (ai (bg (ae (aa 3) (aa 1) mv)
  (ai (fm (dw "list" (aa 1) (ad (aa 3) af) kg))
 aj)
  aj)
 aj))
 aj))
 (ai (aw (cr (ae (runN (ad (aa 0) af) (ao zm)) (aa 1) bw) (ae (runN (ad (aa 0) af) Gp) (runN (ad (aa 0) af) (ao wx)) bw)))
 aj)))
noncomputable def ze:bh:=jl 1 4 1 Gs
noncomputable def Fw:List (Str×GV):=("_law_body_good",.fx 1 true ze)::("need_rules",.fx 1 true lh)::j3
abbrev En:Stmt:=cw 68
def Wp:List Str:=["_law_rules", "_law_e"]
def Wo:List Str:=["_law_rules"]
def sD:List (Nat×Nat):=[]
noncomputable def a9:aq:=
 (ai (ot 2 1 pf (ai (aw (runN (ad (aa 0) af) lh))
 aj) (ai (aw (runN (ad (aa 1) af) (ao me)))
 aj))
 aj)
noncomputable def ll:bh:=jl 1 2 0 a9
noncomputable def Ow:List (Str×GV):=("_law_told",.fx 1 true ll)::Fw
abbrev f7:Stmt:=cw 73
noncomputable def aT:List Str:=["_law_script", "_law_cell", "_law_many", "_law_rules", "_law_due_here", "_law_at", "_law_ahead", "_law_handed", "_law_found"]
def Ol:List Str:=["_law_script"]
def EE:List (Nat×Nat):=[]
noncomputable def Nz:aq:=
 (ai (ax 1 (runN (ad (aa 0) (ad (ac (W.int 0)) af)) (ao ir)))
 (ai (ax 2 (ae (runN (ad (ac (W.int 1)) (ad (ac (W.int 1)) (ad (ac (W.int 2)) (ad (ac (W.int 3)) (ad (ac (W.int 0)) (ad (ac (W.int 5)) af)))))) (ay false)) (ae (aa 1) (ac (W.int 6)) bf) ak))
 (ai (bg (ae (ae (ae (aa 1) (ac (W.int 6)) bi) (ac (W.int 9)) bf) (ac (W.int 1)) bw)
  (ai (ax 2 (ae (runN (ad (ac (W.int 20)) (ad (ac (W.int 21)) af)) (ay false)) (ae (ae (aa 1) (ac (W.int 108)) bi) (ac (W.int 2)) bf) ak))
 aj)
  aj)
 (ai (ax 3 (runN (ad (aa 0) (ad (aa 2) (ad (ae (ae (ae (aa 1) (ac (W.int 54)) bi) (ac (W.int 2)) bf) (ac (W.int 1)) bw) af))) (ao o6)))
 (ai (bg (gs (runN (ad (ck false (ba (dq false (aa 3) (ac (W.int 5)))) [] (ac (.bl true)) (runN (ad (ae (aa 0) (bb (ac (W.int 1)) di) ak) af) (ao ze))) af) ij))
  (ai (aw (ac (W.bl false)))
 aj)
  aj)
 (ai (ax 4 (runN (ad (aa 3) af) (ao vm)))
 (ai (bg (cr (ae (ae (ae (aa 1) (ac (W.int 216)) bi) (ac (W.int 4)) bf) (ac (W.int 1)) bw) (ae (aa 2) (ac (W.int 0)) ur))
  (ai (ax 5 (ae (runN (ad (aa 0) (ad (ac (W.int 1)) af)) (ao ir)) (aa 2) bf))
 (ai (ax 6 (runN (ad (dq false (aa 3) (aa 5)) af) (ao vm)))
 (ai (ku (aa 3) (aa 5) (runN (ad (ae (aa 3) (aa 5) ak) (ad (ae (runN (ad (aa 0) (ad (ac (W.int 1)) af)) (ao ir)) (ac (W.int 21)) bi) af)) (ao xa)))
 (ai (ax 4 (ac (W.str "rule")))
 (ai (bg (ae (aa 6) (runN (ad (ac (W.str "rule")) (ad (ac (W.str "unbound")) af)) ap) cn)
  (ai (ax 4 (aa 6))
 aj)
  aj)
 aj)))))
  aj)
 (ai (bg (ae (aa 2) (ac (W.int 21)) bw)
  (ai (ax 4 (ac (W.str "many")))
 aj)
  aj)
 (ai (ax 7 (runN (ad (aa 3) af) (jd false)))
 (ai (ax 8 (runN (ad (aa 7) af) ll))
 (ai (bg (ia (ae (aa 7) (aa 3) de) (ae (runN (ad (ae (runN (ad (runN (ad (aa 3) af) mt) (ad (ac W.non) (ad (ac (W.str "rules")) (ad d7 af)))) (ay false)) (ae (runN (ad (aa 0) (ad (ac (W.int 1)) af)) (ao ir)) (ac (W.int 4)) bf) ak) af) ll) (ac (W.str "rule")) de))
  (ai (aw (ac (W.bl false)))
 aj)
  aj)
 (ai (bg (runN (ad (aa 4) (ad (ac (.ty "str")) af)) cb)
  (ai (aw (cr (runN (ad (aa 8) (ad (ac (.ty "str")) af)) cb) (cr (ae (aa 8) (aa 4) bw) (ia (ae (aa 4) (ac (W.str "width")) de) (ae (runN (ad (aa 3) af) zb) (ac (W.str "width")) bw)))))
 aj)
  aj)
 (ai (bg (ia (gs (runN (ad (aa 8) (ad (ac (.ty "list")) af)) cb)) (ia (ae (aa 8) (aa 3) de) (ae (runN (ad (aa 3) af) nr) (aa 4) de)))
  (ai (aw (ac (W.bl false)))
 aj)
  aj)
 (ai (fm (dw "list" (aa 8) (ad (ac W.non) af) kg))
 (ai (aw (cr (ae (aa 7) (aa 3) bw) (ae (runN (ad (aa 7) af) ll) (aa 3) bw)))
 aj)))))))))))))))
noncomputable def op_law:bh:=jl 1 9 0 Nz
theorem dM:ce Qk Qh (ar m9)=true:=by decide +kernel
theorem dU:denSs 60 ⟨Qk,ar m9,ke,fJ,true,false⟩ (bq m9)=some Kc:=by kernel_rfl
theorem fO:ce Sf Rs (ar t6)=true:=by decide +kernel
theorem gG:denSs 60 ⟨Sf,ar t6,vd,jA,true,true⟩ (bq t6)=some Hb:=by kernel_rfl
theorem fW:ce Sn Sa (ar u8)=true:=by decide +kernel
theorem gO:denSs 60 ⟨Sn,ar u8,ke,jI,true,false⟩ (bq u8)=some Kn:=by kernel_rfl
theorem fV:ce Sm Rz (ar u7)=true:=by decide +kernel
theorem gN:denSs 60 ⟨Sm,ar u7,ke,jH,true,false⟩ (bq u7)=some Km:=by kernel_rfl
theorem jU:ce Vc Uu (ar z7)=true:=by decide +kernel
theorem lE:denSs 60 ⟨Vc,ar z7,vd,oG,true,false⟩ (bq z7)=some Lf:=by kernel_rfl
theorem jV:ce Vd Uv (ar z8)=true:=by decide +kernel
theorem lF:denSs 60 ⟨Vd,ar z8,ke,oH,true,false⟩ (bq z8)=some Ee:=by kernel_rfl
theorem eJ:ce Rk Rb (ar p8)=true:=by decide +kernel
theorem fG:denSs 60 ⟨Rk,ar p8,qt,hU,true,false⟩ (bq p8)=some Gx:=by kernel_rfl
theorem eI:ce Rj Ra (ar p7)=true:=by decide +kernel
theorem fF:denSs 60 ⟨Rj,ar p7,wq,hJ,true,false⟩ (bq p7)=some zh:=by kernel_rfl
theorem pJ:ce Yo Yn (ar Er)=true:=by decide +kernel
theorem rP:denSs 60 ⟨Yo,ar Er,va,wS,true,false⟩ (bq Er)=some Hx:=by kernel_rfl
theorem iD:ce Tm Ti (ar v9)=true:=by decide +kernel
theorem iW:denSs 60 ⟨Tm,ar v9,ke,lP,true,false⟩ (bq v9)=some Kv:=by kernel_rfl
theorem cS:ce Py Pt (ar m4)=true:=by decide +kernel
theorem cX:denSs 60 ⟨Py,ar m4,ke,dJ,true,false⟩ (bq m4)=some Jy:=by kernel_rfl
theorem fZ:ce Sr Se (ar v5)=true:=by decide +kernel
theorem gR:denSs 60 ⟨Sr,ar v5,ke,jL,true,false⟩ (bq v5)=some Kq:=by kernel_rfl
theorem jZ:ce Vh Uz (ar Eb)=true:=by decide +kernel
theorem lJ:denSs 60 ⟨Vh,ar Eb,vd,oM,true,false⟩ (bq Eb)=some Hn:=by kernel_rfl
theorem kA:ce Vi Va (ar Ec)=true:=by decide +kernel
theorem lK:denSs 60 ⟨Vi,ar Ec,vd,oN,true,false⟩ (bq Ec)=some Ho:=by kernel_rfl
theorem fX:ce So Sb (ar u9)=true:=by decide +kernel
theorem gP:denSs 60 ⟨So,ar u9,ke,jJ,true,false⟩ (bq u9)=some Ko:=by kernel_rfl
theorem iE:ce Tn Tj (ar w6)=true:=by decide +kernel
theorem iX:denSs 60 ⟨Tn,ar w6,qt,lQ,true,false⟩ (bq w6)=some Kw:=by kernel_rfl
theorem jX:ce Vf Ux (ar Cl)=true:=by decide +kernel
theorem lH:denSs 60 ⟨Vf,ar Cl,wq,oJ,true,false⟩ (bq Cl)=some Lg:=by kernel_rfl
theorem eL:ce Rl Rc (ar p9)=true:=by decide +kernel
theorem fH:denSs 60 ⟨Rl,ar p9,va,hW,true,false⟩ (bq p9)=some Kf:=by kernel_rfl
theorem eD:ce Rf Qw (ar o8)=true:=by decide +kernel
theorem fA:denSs 60 ⟨Rf,ar o8,ke,gY,true,false⟩ (bq o8)=some Ke:=by kernel_rfl
theorem jY:ce Vg Uy (ar Ea)=true:=by decide +kernel
theorem lI:denSs 60 ⟨Vg,ar Ea,j5,oK,true,false⟩ (bq Ea)=some Hm:=by kernel_rfl
theorem kB:ce Vj Vb (ar Ed)=true:=by decide +kernel
theorem lL:denSs 60 ⟨Vj,ar Ed,yr,oO,true,false⟩ (bq Ed)=some Lh:=by kernel_rfl
theorem cT:ce Pz Pu (ar m5)=true:=by decide +kernel
theorem cY:denSs 60 ⟨Pz,ar m5,yq,dL,true,false⟩ (bq m5)=some Jz:=by kernel_rfl
theorem cN:ce Pq Pp (ar l8)=true:=by decide +kernel
theorem cO:denSs 60 ⟨Pq,ar l8,ke,cZ,true,false⟩ (bq l8)=some Jv:=by kernel_rfl
theorem cJ:ce Po Pn (ar l6)=true:=by decide +kernel
theorem cK:denSs 60 ⟨Po,ar l6,qt,cP,true,false⟩ (bq l6)=some Ju:=by kernel_rfl
theorem iF:ce To Tk (ar w9)=true:=by decide +kernel
theorem iY:denSs 60 ⟨To,ar w9,qt,lR,true,false⟩ (bq w9)=some Kx:=by kernel_rfl
theorem fY:ce Sq Sd (ar v4)=true:=by decide +kernel
theorem gQ:denSs 60 ⟨Sq,ar v4,yq,jK,true,false⟩ (bq v4)=some Kp:=by kernel_rfl
theorem eM:ce Rm Re (ar q8)=true:=by decide +kernel
theorem fI:denSs 60 ⟨Rm,ar q8,qt,hX,true,false⟩ (bq q8)=some Kg:=by kernel_rfl
theorem cQ:ce Pw Pr (ar l9)=true:=by decide +kernel
theorem cV:denSs 60 ⟨Pw,ar l9,wq,dH,true,false⟩ (bq l9)=some Jx:=by kernel_rfl
theorem iC:ce Tl Tg (ar v8)=true:=by decide +kernel
theorem iV:denSs 60 ⟨Tl,ar v8,va,lO,true,false⟩ (bq v8)=some Ku:=by kernel_rfl
theorem eF:ce Rh Qy (ar p5)=true:=by decide +kernel
theorem fD:denSs 60 ⟨Rh,ar p5,ke,hE,true,true⟩ (bq p5)=some Gv:=by kernel_rfl
theorem fP:ce Sg Rt (ar t8)=true:=by decide +kernel
theorem gH:denSs 60 ⟨Sg,ar t8,va,jB,true,false⟩ (bq t8)=some Kj:=by kernel_rfl
theorem cE:ce Pm Pk (ar k9)=true:=by decide +kernel
theorem cH:denSs 60 ⟨Pm,ar k9,j5,cM,true,true⟩ (bq k9)=some Js:=by kernel_rfl
theorem cD:ce Pl Pj (ar k8)=true:=by decide +kernel
theorem cG:denSs 60 ⟨Pl,ar k8,yr,cL,true,true⟩ (bq k8)=some Jr:=by kernel_rfl
theorem cA:ce Ph Pg (ar k7)=true:=by decide +kernel
theorem cC:denSs 60 ⟨Ph,ar k7,yr,cI,true,true⟩ (bq k7)=some Gi:=by kernel_rfl
theorem fQ:ce Sh Ru (ar t9)=true:=by decide +kernel
theorem gI:denSs 60 ⟨Sh,ar t9,j4,jC,true,true⟩ (bq t9)=some Hc:=by kernel_rfl
theorem eE:ce Rg Qx (ar o9)=true:=by decide +kernel
theorem fB:denSs 60 ⟨Rg,ar o9,j3,gZ,true,true⟩ (bq o9)=some rg:=by kernel_rfl
theorem jW:ce Ve Uw (ar z9)=true:=by decide +kernel
theorem lG:denSs 60 ⟨Ve,ar z9,ke,oI,false,true⟩ (bq z9)=some Tu:=by kernel_rfl
theorem mJ:ce Wp Wo (ar En)=true:=by decide +kernel
theorem nZ:denSs 60 ⟨Wp,ar En,Fw,sD,true,true⟩ (bq En)=some a9:=by kernel_rfl
theorem cR:ce Px Ps (ar m3)=true:=by decide +kernel
theorem cW:denSs 60 ⟨Px,ar m3,qt,dI,true,true⟩ (bq m3)=some Gm:=by kernel_rfl
theorem dC:ce Qd Qb (ar m8)=true:=by decide +kernel
theorem dG:denSs 60 ⟨Qd,ar m8,ke,eA,true,false⟩ (bq m8)=some Kb:=by kernel_rfl
theorem fS:ce Sj Rw (ar u4)=true:=by decide +kernel
theorem gK:denSs 60 ⟨Sj,ar u4,ke,jE,true,false⟩ (bq u4)=some Kl:=by kernel_rfl
theorem dB:ce Qc Qa (ar m7)=true:=by decide +kernel
theorem dF:denSs 60 ⟨Qc,ar m7,vd,dZ,true,false⟩ (bq m7)=some Go:=by kernel_rfl
theorem fU:ce Sl Ry (ar u6)=true:=by decide +kernel
theorem gM:denSs 60 ⟨Sl,ar u6,qt,jG,true,false⟩ (bq u6)=some He:=by kernel_rfl
theorem fT:ce Sk Rx (ar u5)=true:=by decide +kernel
theorem gL:denSs 60 ⟨Sk,ar u5,wq,jF,true,false⟩ (bq u5)=some Hd:=by kernel_rfl
theorem eG:ce Ri Qz (ar p6)=true:=by decide +kernel
theorem fE:denSs 60 ⟨Ri,ar p6,va,hI,true,false⟩ (bq p6)=some Gw:=by kernel_rfl
theorem fR:ce Si Rv (ar u3)=true:=by decide +kernel
theorem gJ:denSs 60 ⟨Si,ar u3,yq,jD,true,true⟩ (bq u3)=some Kk:=by kernel_rfl
theorem dN:ce Ql Qi (ar o0)=true:=by decide +kernel
theorem dX:denSs 60 ⟨Ql,ar o0,j4,fK,true,true⟩ (bq o0)=some Gr:=by kernel_rfl
theorem dO:ce Qm Qj (ar o5)=true:=by decide +kernel
theorem dY:denSs 60 ⟨Qm,ar o5,j3,fL,true,true⟩ (bq o5)=some Gs:=by kernel_rfl
theorem xI:ce aT Ol (ar f7)=true:=by decide +kernel
theorem E6:denSs 60 ⟨aT,ar f7,Ow,EE,true,true⟩ (bq f7)=some Nz:=by kernel_rfl
structure Tx (P:Program) (w:World) (K:PySem.W.Frag) (mg:Str->Option Value):Prop where
 Bz:∃cv vc,ExcOk K mg "BadFact" true y9 cv vc
 BA:∃cv vc,ExcOk K mg "BadRule" true y8 cv vc
 BB:∃cv vc,ExcOk K mg "BadWidth" true v7 cv vc
 BC:∃cv vc,ExcOk K mg "FactError" true pf cv vc
 BD:∃cv vc,ExcOk K mg "NoFact" true Ek cv vc
 BE:∃cv vc,ExcOk K mg "NoText" true Ej cv vc
 BF:∃cv vc,ExcOk K mg "Ringed" true Ei cv vc
 BG:∃cv vc,ExcOk K mg "TooMany" true y7 cv vc
 BH:∃cv vc,ExcOk K mg "Unbound" true y0 cv vc
 BI:∃cv vc,ExcOk K mg "ValueError" false o7 cv vc
 BJ:∃u,mg "MOST_RULES" = some u/\ConK K u wz
 BK:∃u,mg "MOST_WIDTH" = some u/\ConK K u t5
 BL:∃u,mg "MOST_PARTS" = some u/\ConK K u zk
 BM:∃u,mg "MOST_SIGNS" = some u/\ConK K u Ha
 BN:∃u,mg "MOST_NUMBER" = some u/\ConK K u zg
 BO:∃u,mg "SMALL_LETTERS" = some u/\ConK K u Ka
 BP:∃u,mg "GREAT_LETTERS" = some u/\ConK K u zc
 BQ:∃u,mg "KEPT_WORDS" = some u/\ConK K u zl
 BR:∃u,mg "MOST_KEYS" = some u/\ConK K u zo
 BS:∃u,mg "PATTERN_PARTS" = some u/\ConK K u pd
 BT:pc P w K mg "TERM_COUNTS" md ma
 BU:∃u,mg "GATHER_KINDS" = some u/\ConK K u Gq
 At:mg "all" = none
 Au:mg "bool" = none
 Av:mg "int" = none
 Aw:mg "isinstance" = none
 Ax:mg "len" = none
 Ay:mg "list" = none
 Az:mg "range" = none
 AA:mg "set" = none
 AB:mg "str" = none
 AC:mg "tuple" = none
 AD:DefAt K mg "patterns_in" m9 Qh
 AE:DefAt K mg "widths_of" t6 Rs
 AF:DefAt K mg "_law_cell_at" u8 Sa
 AG:DefAt K mg "_law_is_free" u7 Rz
 AH:DefAt K mg "_law_words" z7 Uu
 AI:DefAt K mg "_law_terms" z8 Uv
 AJ:DefAt K mg "_law_body_due" p8 Rb
 AK:DefAt K mg "_law_rule_due" p7 Ra
 AL:DefAt K mg "_law_due" Er Yn
 AM:DefAt K mg "_law_spoilt" v9 Ti
 AN:DefAt K mg "is_short_text" m4 Pt
 AO:DefAt K mg "all_small" v5 Se
 AQ:DefAt K mg "is_name" Eb Uz
 AR:DefAt K mg "is_free" Ec Va
 AS:DefAt K mg "is_number" u9 Sb
 AT:DefAt K mg "is_value" w6 Tj
 AU:DefAt K mg "is_term" Cl Ux
 AV:DefAt K mg "is_pattern" p9 Rc
 AW:DefAt K mg "word_ahead" o8 Qw
 AX:DefAt K mg "is_part" Ea Uy
 AY:DefAt K mg "is_body" Ed Vb
 AZ:DefAt K mg "is_plain_rule" m5 Pu
 A0:DefAt K mg "is_gather_kind" l8 Pp
 A1:DefAt K mg "is_gather_value" l6 Pn
 A3:DefAt K mg "are_keys" w9 Tk
 A4:DefAt K mg "is_gather" v4 Sd
 A5:DefAt K mg "free_among" q8 Re
 A6:DefAt K mg "words_of_part" l9 Pr
 A7:DefAt K mg "words_in" v8 Tg
 A8:DefAt K mg "need_bound" p5 Qy
 A9:DefAt K mg "wanted_by" t8 Rt
 Ba:DefAt K mg "need_bound_parts" k9 Pk
 Bb:DefAt K mg "need_plain_bound" k8 Pj
 Bc:DefAt K mg "need_gather_bound" k7 Pg
 Bd:DefAt K mg "need_rule" t9 Ru
 Be:DefAt K mg "need_rules" o9 Qx
 Bf:DefAt K mg "_law_names" z9 Uw
 Bg:DefAt K mg "_law_told" En Wo
 Bh:DefAt K mg "_law_widths_told" m3 Ps
 Bi:DefAt K mg "_law_free_words" m8 Qb
 Bj:DefAt K mg "_law_term_by" u4 Rw
 Bk:DefAt K mg "_law_pattern_by" m7 Qa
 Bl:DefAt K mg "_law_part_by" u6 Ry
 Bm:DefAt K mg "_law_rule_by" u5 Rx
 Bn:DefAt K mg "_law_rules_by" p6 Qz
 Bo:DefAt K mg "need_body" u3 Rv
 Bp:DefAt K mg "_law_body_told" o0 Qi
 Bq:DefAt K mg "_law_body_good" o5 Qj
 Br:DefAt K mg "law" f7 Ol
section
variable {P:Program} {w:World} {K:PySem.W.Frag} {mg:Str->Option Value} {base:Heap}
theorem tx0(t:Tx P w K mg):TX P w K mg base ke 0:=by
 obtain⟨u_MOST_RULES,m_MOST_RULES,h_MOST_RULES⟩:=t.BJ
 obtain⟨u_MOST_WIDTH,m_MOST_WIDTH,h_MOST_WIDTH⟩:=t.BK
 obtain⟨u_MOST_PARTS,m_MOST_PARTS,h_MOST_PARTS⟩:=t.BL
 obtain⟨u_MOST_SIGNS,m_MOST_SIGNS,h_MOST_SIGNS⟩:=t.BM
 obtain⟨u_MOST_NUMBER,m_MOST_NUMBER,h_MOST_NUMBER⟩:=t.BN
 obtain⟨u_SMALL_LETTERS,m_SMALL_LETTERS,h_SMALL_LETTERS⟩:=t.BO
 obtain⟨u_GREAT_LETTERS,m_GREAT_LETTERS,h_GREAT_LETTERS⟩:=t.BP
 obtain⟨u_KEPT_WORDS,m_KEPT_WORDS,h_KEPT_WORDS⟩:=t.BQ
 obtain⟨u_MOST_KEYS,m_MOST_KEYS,h_MOST_KEYS⟩:=t.BR
 obtain⟨u_PATTERN_PARTS,m_PATTERN_PARTS,h_PATTERN_PARTS⟩:=t.BS
 obtain⟨u_GATHER_KINDS,m_GATHER_KINDS,h_GATHER_KINDS⟩:=t.BU
 exact(TX.exc1 (TX.exc1 (TX.exc1 (TX.exc1 (TX.exc1 (TX.exc1 (TX.exc1 (TX.exc1 (TX.exc1 (TX.exc1 (TX.con1 (TX.con1 (TX.con1 (TX.con1 (TX.con1 (TX.con1 (TX.con1 (TX.con1 (TX.con1 (TX.con1 (TX.dcon1 (TX.con1 (TX.blt1 (TX.blt1 (TX.blt1 (TX.blt1 (TX.blt1 (TX.blt1 (TX.blt1 (TX.blt1 (TX.blt1 (TX.blt1 TX.nil t.AC) t.AB) t.AA) t.Az) t.Ay) t.Ax) t.Aw) t.Av) t.Au) t.At) m_GATHER_KINDS h_GATHER_KINDS) t.BT) m_PATTERN_PARTS h_PATTERN_PARTS) m_MOST_KEYS h_MOST_KEYS) m_KEPT_WORDS h_KEPT_WORDS) m_GREAT_LETTERS h_GREAT_LETTERS) m_SMALL_LETTERS h_SMALL_LETTERS) m_MOST_NUMBER h_MOST_NUMBER) m_MOST_SIGNS h_MOST_SIGNS) m_MOST_PARTS h_MOST_PARTS) m_MOST_WIDTH h_MOST_WIDTH) m_MOST_RULES h_MOST_RULES) t.BI) t.BH) t.BG) t.BF) t.BE) t.BD) t.BC) t.BB) t.BA) t.Bz)
theorem tx1(t:Tx P w K mg):TX P w K mg base vd 3:=by
 have T0:TX P w K mg base ke 0:=tx0 t
 have T:TX P w K mg base ke 0:=T0.mono (by decide)
 exact(TX.cons (TX.cons (TX.consX (TX.consX (TX.cons (TX.cons (TX.cons (TX.cons (TX.cons (TX.cons (TX.cons (TX.cons (TX.cons (TX.cons (T.mono (by decide)) (TX.fnOf (fz:=0) T t.AD dM dU)) (TX.fnOf (fz:=0) T t.AF fW gO)) (TX.fnOf (fz:=0) T t.AG fV gN)) (TX.fnOf (fz:=0) T t.AI jV lF)) (TX.fnOf (fz:=0) T t.AM iD iW)) (TX.fnOf (fz:=0) T t.AN cS cX)) (TX.fnOf (fz:=0) T t.AO fZ gR)) (TX.fnOf (fz:=0) T t.AS fX gP)) (TX.fnOf (fz:=0) T t.AW eD fA)) (TX.fnOf (fz:=0) T t.A0 cN cO)) (TX.fxOf (fz:=0) T t.A8 eF fD)) (TX.fxOf (fz:=0) T t.Bf jW lG)) (TX.fnOf (fz:=1) T t.Bi dC dG)) (TX.fnOf (fz:=0) T t.Bj fS gK))
theorem tx2(t:Tx P w K mg):TX P w K mg base qt 6:=by
 have T0:TX P w K mg base vd 3:=tx1 t
 have T:TX P w K mg base vd 3:=T0.mono (by decide)
 exact(TX.cons (TX.cons (TX.cons (TX.cons (TX.consX (T.mono (by decide)) (TX.fxOf (fz:=1) T t.AE fO gG)) (TX.fnOf (fz:=0) T t.AH jU lE)) (TX.fnOf (fz:=0) T t.AQ jZ lJ)) (TX.fnOf (fz:=0) T t.AR kA lK)) (TX.fnOf (fz:=0) T t.Bk dB dF))
theorem tx3(t:Tx P w K mg):TX P w K mg base wq 9:=by
 have T0:TX P w K mg base qt 6:=tx2 t
 have T:TX P w K mg base qt 6:=T0.mono (by decide)
 exact(TX.cons (TX.consX (TX.cons (TX.cons (TX.cons (TX.cons (TX.cons (T.mono (by decide)) (TX.fnOf (fz:=1) T t.AJ eJ fG)) (TX.fnOf (fz:=0) T t.AT iE iX)) (TX.fnOf (fz:=0) T t.A1 cJ cK)) (TX.fnOf (fz:=0) T t.A3 iF iY)) (TX.fnOf (fz:=0) T t.A5 eM fI)) (TX.fxOf (fz:=0) T t.Bh cR cW)) (TX.fnOf (fz:=0) T t.Bl fU gM))
theorem tx4(t:Tx P w K mg):TX P w K mg base va 12:=by
 have T0:TX P w K mg base wq 9:=tx3 t
 have T:TX P w K mg base wq 9:=T0.mono (by decide)
 exact(TX.cons (TX.cons (TX.cons (TX.cons (T.mono (by decide)) (TX.fnOf (fz:=1) T t.AK eI fF)) (TX.fnOf (fz:=0) T t.AU jX lH)) (TX.fnOf (fz:=0) T t.A6 cQ cV)) (TX.fnOf (fz:=0) T t.Bm fT gL))
theorem tx5(t:Tx P w K mg):TX P w K mg base j5 15:=by
 have T0:TX P w K mg base va 12:=tx4 t
 have T:TX P w K mg base va 12:=T0.mono (by decide)
 exact(TX.cons (TX.cons (TX.cons (TX.cons (TX.cons (T.mono (by decide)) (TX.fnOf (fz:=1) T t.AL pJ rP)) (TX.fnOf (fz:=0) T t.AV eL fH)) (TX.fnOf (fz:=1) T t.A7 iC iV)) (TX.fnOf (fz:=0) T t.A9 fP gH)) (TX.fnOf (fz:=2) T t.Bn eG fE))
theorem tx6(t:Tx P w K mg):TX P w K mg base yr 18:=by
 have T0:TX P w K mg base j5 15:=tx5 t
 have T:TX P w K mg base j5 15:=T0.mono (by decide)
 exact(TX.consX (TX.cons (T.mono (by decide)) (TX.fnOf (fz:=0) T t.AX jY lI)) (TX.fxOf (fz:=1) T t.Ba cE cH))
theorem tx7(t:Tx P w K mg):TX P w K mg base yq 21:=by
 have T0:TX P w K mg base yr 18:=tx6 t
 have T:TX P w K mg base yr 18:=T0.mono (by decide)
 exact(TX.consX (TX.consX (TX.cons (T.mono (by decide)) (TX.fnOf (fz:=0) T t.AY kB lL)) (TX.fxOf (fz:=0) T t.Bb cD cG)) (TX.fxOf (fz:=0) T t.Bc cA cC))
theorem tx8(t:Tx P w K mg):TX P w K mg base j4 24:=by
 have T0:TX P w K mg base yq 21:=tx7 t
 have T:TX P w K mg base yq 21:=T0.mono (by decide)
 exact(TX.consX (TX.cons (TX.cons (T.mono (by decide)) (TX.fnOf (fz:=0) T t.AZ cT cY)) (TX.fnOf (fz:=0) T t.A4 fY gQ)) (TX.fxOf (fz:=0) T t.Bo fR gJ))
theorem tx9(t:Tx P w K mg):TX P w K mg base j3 27:=by
 have T0:TX P w K mg base j4 24:=tx8 t
 have T:TX P w K mg base j4 24:=T0.mono (by decide)
 exact(TX.consX (TX.consX (T.mono (by decide)) (TX.fxOf (fz:=0) T t.Bd fQ gI)) (TX.fxOf (fz:=0) T t.Bp dN dX))
theorem tx10(t:Tx P w K mg):TX P w K mg base Fw 30:=by
 have T0:TX P w K mg base j3 27:=tx9 t
 have T:TX P w K mg base j3 27:=T0.mono (by decide)
 exact(TX.consX (TX.consX (T.mono (by decide)) (TX.fxOf (fz:=2) T t.Be eE fB)) (TX.fxOf (fz:=1) T t.Bq dO dY))
theorem tx11(t:Tx P w K mg):TX P w K mg base Ow 33:=by
 have T0:TX P w K mg base Fw 30:=tx10 t
 have T:TX P w K mg base Fw 30:=T0.mono (by decide)
 exact(TX.consX (T.mono (by decide)) (TX.fxOf (fz:=0) T t.Bg mJ nZ))
theorem zG(t:Tx P w K mg)(F:Fun K "law" "law" f7 f fd):FnX true P w K mg base 36 f fd Ol (mn K 1 op_law):=
 Yg (fz:=0) (tx11 t:TX P w K mg base Ow 33) F xI E6
end
theorem all_mk{l:PySem.W.OpenLaw}(X:K.In h)(G:h.Ns mainGlobals mg)(hfa:mg "law" = some (.ref fa))
  (An:ClsIn K "FactError" Ai)
  (Ao:ClsIn K "BadFact" Aj)
  (Aa:ClsIn K "BadRule" Ae)
  (Ab:ClsIn K "BadWidth" Af)
  (Ac:ClsIn K "Unbound" Ag)
  (Ap:ClsIn K "Ringed" Ak)
  (Ad:ClsIn K "TooMany" Ah)
  (Aq:ClsIn K "NoFact" Al)
  (Ar:ClsIn K "NoText" Am)
  (CG:PySem.W.subIn K (.ref Ae) (.ref Aj)=some false)
  (CH:PySem.W.subIn K (.ref Af) (.ref Aj)=some false)
  (CI:PySem.W.subIn K (.ref Ag) (.ref Aj)=some false)
  (CJ:PySem.W.subIn K (.ref Ah) (.ref Aj)=some false)
  (CK:PySem.W.subIn K (.ref Af) (.ref Ae)=some false)
  (CL:PySem.W.subIn K (.ref Ag) (.ref Ae)=some false)
  (CM:PySem.W.subIn K (.ref Ah) (.ref Ae)=some false)
  (CN:PySem.W.subIn K (.ref Ae) (.ref Af)=some false)
  (CO:PySem.W.subIn K (.ref Ag) (.ref Af)=some false)
  (CP:PySem.W.subIn K (.ref Ah) (.ref Af)=some false)
  (CQ:PySem.W.subIn K (.ref Ae) (.ref Ai)=some true)
  (CS:PySem.W.subIn K (.ref Af) (.ref Ai)=some true)
  (CT:PySem.W.subIn K (.ref Ag) (.ref Ai)=some true)
  (CU:PySem.W.subIn K (.ref Ah) (.ref Ai)=some true)
  (CV:PySem.W.subIn K (.ref Ae) (.ref Al)=some false)
  (CW:PySem.W.subIn K (.ref Af) (.ref Al)=some false)
  (CY:PySem.W.subIn K (.ref Ag) (.ref Al)=some false)
  (CZ:PySem.W.subIn K (.ref Ah) (.ref Al)=some false)
  (C0:PySem.W.subIn K (.ref Ae) (.ref Am)=some false)
  (C1:PySem.W.subIn K (.ref Af) (.ref Am)=some false)
  (C2:PySem.W.subIn K (.ref Ag) (.ref Am)=some false)
  (C3:PySem.W.subIn K (.ref Ah) (.ref Am)=some false)
  (C4:PySem.W.subIn K (.ref Ae) (.ref Ak)=some false)
  (C5:PySem.W.subIn K (.ref Af) (.ref Ak)=some false)
  (C6:PySem.W.subIn K (.ref Ag) (.ref Ak)=some false)
  (C7:PySem.W.subIn K (.ref Ah) (.ref Ak)=some false)
  (C8:PySem.W.subIn K (.ref Ae) (.ref Ah)=some false)
  (C9:PySem.W.subIn K (.ref Af) (.ref Ah)=some false)
  (Da:PySem.W.subIn K (.ref Ag) (.ref Ah)=some false)
  (Db:PySem.W.subIn K (.ref Ae) (.ref Ag)=some false)
  (Dc:PySem.W.subIn K (.ref Af) (.ref Ag)=some false)
  (Dd:PySem.W.subIn K (.ref Ah) (.ref Ag)=some false)
  (De:PySem.W.nsIn K mainGlobals "ValueError" = some none)
  (As:PySem.W.subIn K (.type "ValueError") (.type "BaseException")=some true)
  (Df:PySem.W.subIn K (.ref Ae) (.type "ValueError")=some true)
  (Dg:PySem.W.subIn K (.ref Af) (.type "ValueError")=some true)
  (Dh:PySem.W.subIn K (.ref Ag) (.type "ValueError")=some true)
  (Di:PySem.W.subIn K (.ref Ah) (.type "ValueError")=some true)
  (Dj:PySem.W.nsIn K mainGlobals "MOST_RULES" = some (some (Value.int 20 B1)))
  (Dk:PySem.W.nsIn K mainGlobals "MOST_WIDTH" = some (some (Value.int 4 B2)))
  (Dl:PySem.W.nsIn K mainGlobals "MOST_PARTS" = some (some (Value.int 6 B3)))
  (Dm:PySem.W.nsIn K mainGlobals "MOST_SIGNS" = some (some (Value.int 8 B4)))
  (Do:PySem.W.nsIn K mainGlobals "MOST_NUMBER" = some (some (Value.int 999999999 B5)))
  (Dp:PySem.W.nsIn K mainGlobals "SMALL_LETTERS" = some (some (Value.str "abcdefghijklmnopqrstuvwxyz" B6)))
  (Dq:PySem.W.nsIn K mainGlobals "GREAT_LETTERS" = some (some (Value.str "ABCDEFGHIJKLMNOPQRSTUVWXYZ" B7)))
  (Dr:PySem.W.nsIn K mainGlobals "KEPT_WORDS" = some (some (.ref Bt)))
  (Ds:K.lookup Bt=some ⟨.type "tuple",BV,.seq (List.toArray [Value.str "has" B8,Value.str "not" B9,Value.str "less" Ca,Value.str "same" Cb,Value.str "plus" Cc,Value.str "if" Cd,Value.str "by" Ce,Value.str "is" Cf,Value.str "count" Cg,Value.str "sum" Ch,Value.str "least" Ci,Value.str "most" Cj,Value.str "why" Ck]) Cm,BY⟩)
  (Dt:PySem.W.nsIn K mainGlobals "MOST_KEYS" = some (some (Value.int 3 Cn)))
  (Du:PySem.W.nsIn K mainGlobals "PATTERN_PARTS" = some (some (.ref Bu)))
  (Dv:K.lookup Bu=some ⟨.type "tuple",BW,.seq (List.toArray [Value.str "has" Co,Value.str "not" Cp]) Cq,BZ⟩)
  (Dw:PySem.W.nsIn K mainGlobals "TERM_COUNTS" = some (some (.ref Bs)))
  (Dx:K.lookup Bs=some ⟨.type "dict",none,.dict (List.toArray [⟨Bw,.str "less" Cr,.int 2 Cs⟩,⟨Bx,.str "same" Ct,.int 2 Cu⟩,⟨By,.str "plus" Cv,.int 3 Cw⟩]) Cz,#[]⟩)
  (Dy:(Bs == sysModules)=false)
  (Dz:Bw=hashStr w "less")
  (DA:Bx=hashStr w "same")
  (DB:By=hashStr w "plus")
  (DC:PySem.W.nsIn K mainGlobals "GATHER_KINDS" = some (some (.ref Bv)))
  (DD:K.lookup Bv=some ⟨.type "tuple",BX,.seq (List.toArray [Value.str "count" CA,Value.str "sum" CB,Value.str "least" CC,Value.str "most" CD]) CF,B0⟩)
  (At:PySem.W.nsIn K mainGlobals "all" = some none)
  (Au:PySem.W.nsIn K mainGlobals "bool" = some none)
  (Av:PySem.W.nsIn K mainGlobals "int" = some none)
  (Aw:PySem.W.nsIn K mainGlobals "isinstance" = some none)
  (Ax:PySem.W.nsIn K mainGlobals "len" = some none)
  (Ay:PySem.W.nsIn K mainGlobals "list" = some none)
  (Az:PySem.W.nsIn K mainGlobals "range" = some none)
  (AA:PySem.W.nsIn K mainGlobals "set" = some none)
  (AB:PySem.W.nsIn K mainGlobals "str" = some none)
  (AC:PySem.W.nsIn K mainGlobals "tuple" = some none)
  (AD:DIn K "patterns_in" m9)
  (AE:DIn K "widths_of" t6)
  (AF:DIn K "_law_cell_at" u8)
  (AG:DIn K "_law_is_free" u7)
  (AH:DIn K "_law_words" z7)
  (AI:DIn K "_law_terms" z8)
  (AJ:DIn K "_law_body_due" p8)
  (AK:DIn K "_law_rule_due" p7)
  (AL:DIn K "_law_due" Er)
  (AM:DIn K "_law_spoilt" v9)
  (AN:DIn K "is_short_text" m4)
  (AO:DIn K "all_small" v5)
  (AQ:DIn K "is_name" Eb)
  (AR:DIn K "is_free" Ec)
  (AS:DIn K "is_number" u9)
  (AT:DIn K "is_value" w6)
  (AU:DIn K "is_term" Cl)
  (AV:DIn K "is_pattern" p9)
  (AW:DIn K "word_ahead" o8)
  (AX:DIn K "is_part" Ea)
  (AY:DIn K "is_body" Ed)
  (AZ:DIn K "is_plain_rule" m5)
  (A0:DIn K "is_gather_kind" l8)
  (A1:DIn K "is_gather_value" l6)
  (A3:DIn K "are_keys" w9)
  (A4:DIn K "is_gather" v4)
  (A5:DIn K "free_among" q8)
  (A6:DIn K "words_of_part" l9)
  (A7:DIn K "words_in" v8)
  (A8:DIn K "need_bound" p5)
  (A9:DIn K "wanted_by" t8)
  (Ba:DIn K "need_bound_parts" k9)
  (Bb:DIn K "need_plain_bound" k8)
  (Bc:DIn K "need_gather_bound" k7)
  (Bd:DIn K "need_rule" t9)
  (Be:DIn K "need_rules" o9)
  (Bf:DIn K "_law_names" z9)
  (Bg:DIn K "_law_told" En)
  (Bh:DIn K "_law_widths_told" m3)
  (Bi:DIn K "_law_free_words" m8)
  (Bj:DIn K "_law_term_by" u4)
  (Bk:DIn K "_law_pattern_by" m7)
  (Bl:DIn K "_law_part_by" u6)
  (Bm:DIn K "_law_rule_by" u5)
  (Bn:DIn K "_law_rules_by" p6)
  (Bo:DIn K "need_body" u3)
  (Bp:DIn K "_law_body_told" o0)
  (Bq:DIn K "_law_body_good" o5)
  (Br:DIn K "law" f7)
  : ∃fd:FuncData,(∀(s:Shared)(v:Value),BindsTo s fd ⟨[v],[]⟩ [("_law_script",v)])/\∀base:Heap,K.In base->base.Ns mainGlobals mg->FnX true l.prog w K mg base 36 fa fd ["_law_script"] (mn K 1 op_law):=by
 have DF:∃cv vc,ExcOk K mg "BadFact" true y9 cv vc:=tz (PySem.W.mg_of X G Ao.ns) Ao.k.cls (show bt K (.ref Aj) y9 from(bt.cons Aa (Aa.pair Ao CG) (bt.cons Ab (Ab.pair Ao CH) (bt.cons Ac (Ac.pair Ao CI) (bt.cons Ad (Ad.pair Ao CJ) bt.nil)))))
 have DG:∃cv vc,ExcOk K mg "BadRule" true y8 cv vc:=tz (PySem.W.mg_of X G Aa.ns) Aa.k.cls (show bt K (.ref Ae) y8 from(bt.cons Aa (Aa.pair Aa Aa.rf) (bt.cons Ab (Ab.pair Aa CK) (bt.cons Ac (Ac.pair Aa CL) (bt.cons Ad (Ad.pair Aa CM) bt.nil)))))
 have DH:∃cv vc,ExcOk K mg "BadWidth" true v7 cv vc:=tz (PySem.W.mg_of X G Ab.ns) Ab.k.cls (show bt K (.ref Af) v7 from(bt.cons Aa (Aa.pair Ab CN) (bt.cons Ab (Ab.pair Ab Ab.rf) (bt.cons Ac (Ac.pair Ab CO) (bt.cons Ad (Ad.pair Ab CP) bt.nil)))))
 have DI:∃cv vc,ExcOk K mg "FactError" true pf cv vc:=tz (PySem.W.mg_of X G An.ns) An.k.cls (show bt K (.ref Ai) pf from(bt.cons Aa (Aa.pair An CQ) (bt.cons Ab (Ab.pair An CS) (bt.cons Ac (Ac.pair An CT) (bt.cons Ad (Ad.pair An CU) bt.nil)))))
 have DJ:∃cv vc,ExcOk K mg "NoFact" true Ek cv vc:=tz (PySem.W.mg_of X G Aq.ns) Aq.k.cls (show bt K (.ref Al) Ek from(bt.cons Aa (Aa.pair Aq CV) (bt.cons Ab (Ab.pair Aq CW) (bt.cons Ac (Ac.pair Aq CY) (bt.cons Ad (Ad.pair Aq CZ) bt.nil)))))
 have DK:∃cv vc,ExcOk K mg "NoText" true Ej cv vc:=tz (PySem.W.mg_of X G Ar.ns) Ar.k.cls (show bt K (.ref Am) Ej from(bt.cons Aa (Aa.pair Ar C0) (bt.cons Ab (Ab.pair Ar C1) (bt.cons Ac (Ac.pair Ar C2) (bt.cons Ad (Ad.pair Ar C3) bt.nil)))))
 have DM:∃cv vc,ExcOk K mg "Ringed" true Ei cv vc:=tz (PySem.W.mg_of X G Ap.ns) Ap.k.cls (show bt K (.ref Ak) Ei from(bt.cons Aa (Aa.pair Ap C4) (bt.cons Ab (Ab.pair Ap C5) (bt.cons Ac (Ac.pair Ap C6) (bt.cons Ad (Ad.pair Ap C7) bt.nil)))))
 have DN:∃cv vc,ExcOk K mg "TooMany" true y7 cv vc:=tz (PySem.W.mg_of X G Ad.ns) Ad.k.cls (show bt K (.ref Ah) y7 from(bt.cons Aa (Aa.pair Ad C8) (bt.cons Ab (Ab.pair Ad C9) (bt.cons Ac (Ac.pair Ad Da) (bt.cons Ad (Ad.pair Ad Ad.rf) bt.nil)))))
 have DO:∃cv vc,ExcOk K mg "Unbound" true y0 cv vc:=tz (PySem.W.mg_of X G Ac.ns) Ac.k.cls (show bt K (.ref Ag) y0 from(bt.cons Aa (Aa.pair Ac Db) (bt.cons Ab (Ab.pair Ac Dc) (bt.cons Ac (Ac.pair Ac Ac.rf) (bt.cons Ad (Ad.pair Ac Dd) bt.nil)))))
 have DP:∃cv vc,ExcOk K mg "ValueError" false o7 cv vc:=vP (PySem.W.mg_none_of X G De) (by decide +kernel) (show bt K (.type "ValueError") o7 from(bt.cons Aa (Aa.blt Gn As Df) (bt.cons Ab (Ab.blt Gn As Dg) (bt.cons Ac (Ac.blt Gn As Dh) (bt.cons Ad (Ad.blt Gn As Di) bt.nil)))))
 have D0:pc l.prog w K mg "TERM_COUNTS" md ma:=zL X G Dw Dx Dy (DE.int Dz (DE.int DA (DE.int DB DE.nil))) (by decide)
 have t:Tx l.prog w K mg:=⟨DF,DG,DH,DI,DJ,DK,DM,DN,DO,DP,⟨_,PySem.W.mg_of X G Dj,.int _ _⟩,⟨_,PySem.W.mg_of X G Dk,.int _ _⟩,⟨_,PySem.W.mg_of X G Dl,.int _ _⟩,⟨_,PySem.W.mg_of X G Dm,.int _ _⟩,⟨_,PySem.W.mg_of X G Do,.int _ _⟩,⟨_,PySem.W.mg_of X G Dp,.str _ _⟩,⟨_,PySem.W.mg_of X G Dq,.str _ _⟩,⟨_,PySem.W.mg_of X G Dr,.txts Ds (by show 13<=sizeLine;decide) (.cons ⟨_,rfl⟩ (.cons ⟨_,rfl⟩ (.cons ⟨_,rfl⟩ (.cons ⟨_,rfl⟩ (.cons ⟨_,rfl⟩ (.cons ⟨_,rfl⟩ (.cons ⟨_,rfl⟩ (.cons ⟨_,rfl⟩ (.cons ⟨_,rfl⟩ (.cons ⟨_,rfl⟩ (.cons ⟨_,rfl⟩ (.cons ⟨_,rfl⟩ (.cons ⟨_,rfl⟩ (.nil))))))))))))))⟩,⟨_,PySem.W.mg_of X G Dt,.int _ _⟩,⟨_,PySem.W.mg_of X G Du,.txts Dv (by show 2<=sizeLine;decide) (.cons ⟨_,rfl⟩ (.cons ⟨_,rfl⟩ (.nil)))⟩,D0,⟨_,PySem.W.mg_of X G DC,.txts DD (by show 4<=sizeLine;decide) (.cons ⟨_,rfl⟩ (.cons ⟨_,rfl⟩ (.cons ⟨_,rfl⟩ (.cons ⟨_,rfl⟩ (.nil)))))⟩,PySem.W.mg_none_of X G At,PySem.W.mg_none_of X G Au,PySem.W.mg_none_of X G Av,PySem.W.mg_none_of X G Aw,PySem.W.mg_none_of X G Ax,PySem.W.mg_none_of X G Ay,PySem.W.mg_none_of X G Az,PySem.W.mg_none_of X G AA,PySem.W.mg_none_of X G AB,PySem.W.mg_none_of X G AC,(AD.at_ X G fun _ _ _ _ _ _ us hl=>match us,hl with|[_],_=>rfl),(AE.at_ X G fun _ _ _ _ _ _ us hl=>match us,hl with|[_],_=>rfl),(AF.at_ X G fun _ _ _ _ _ _ us hl=>match us,hl with|[_,_],_=>rfl),(AG.at_ X G fun _ _ _ _ _ _ us hl=>match us,hl with|[_],_=>rfl),(AH.at_ X G fun _ _ _ _ _ _ us hl=>match us,hl with|[_],_=>rfl),(AI.at_ X G fun _ _ _ _ _ _ us hl=>match us,hl with|[_],_=>rfl),(AJ.at_ X G fun _ _ _ _ _ _ us hl=>match us,hl with|[_],_=>rfl),(AK.at_ X G fun _ _ _ _ _ _ us hl=>match us,hl with|[_],_=>rfl),(AL.at_ X G fun _ _ _ _ _ _ us hl=>match us,hl with|[_],_=>rfl),(AM.at_ X G fun _ _ _ _ _ _ us hl=>match us,hl with|[_,_],_=>rfl),(AN.at_ X G fun _ _ _ _ _ _ us hl=>match us,hl with|[_],_=>rfl),(AO.at_ X G fun _ _ _ _ _ _ us hl=>match us,hl with|[_],_=>rfl),(AQ.at_ X G fun _ _ _ _ _ _ us hl=>match us,hl with|[_],_=>rfl),(AR.at_ X G fun _ _ _ _ _ _ us hl=>match us,hl with|[_],_=>rfl),(AS.at_ X G fun _ _ _ _ _ _ us hl=>match us,hl with|[_],_=>rfl),(AT.at_ X G fun _ _ _ _ _ _ us hl=>match us,hl with|[_],_=>rfl),(AU.at_ X G fun _ _ _ _ _ _ us hl=>match us,hl with|[_],_=>rfl),(AV.at_ X G fun _ _ _ _ _ _ us hl=>match us,hl with|[_],_=>rfl),(AW.at_ X G fun _ _ _ _ _ _ us hl=>match us,hl with|[_],_=>rfl),(AX.at_ X G fun _ _ _ _ _ _ us hl=>match us,hl with|[_],_=>rfl),(AY.at_ X G fun _ _ _ _ _ _ us hl=>match us,hl with|[_],_=>rfl),(AZ.at_ X G fun _ _ _ _ _ _ us hl=>match us,hl with|[_],_=>rfl),(A0.at_ X G fun _ _ _ _ _ _ us hl=>match us,hl with|[_],_=>rfl),(A1.at_ X G fun _ _ _ _ _ _ us hl=>match us,hl with|[_,_],_=>rfl),(A3.at_ X G fun _ _ _ _ _ _ us hl=>match us,hl with|[_],_=>rfl),(A4.at_ X G fun _ _ _ _ _ _ us hl=>match us,hl with|[_],_=>rfl),(A5.at_ X G fun _ _ _ _ _ _ us hl=>match us,hl with|[_],_=>rfl),(A6.at_ X G fun _ _ _ _ _ _ us hl=>match us,hl with|[_],_=>rfl),(A7.at_ X G fun _ _ _ _ _ _ us hl=>match us,hl with|[_],_=>rfl),(A8.at_ X G fun _ _ _ _ _ _ us hl=>match us,hl with|[_,_],_=>rfl),(A9.at_ X G fun _ _ _ _ _ _ us hl=>match us,hl with|[_],_=>rfl),(Ba.at_ X G fun _ _ _ _ _ _ us hl=>match us,hl with|[_],_=>rfl),(Bb.at_ X G fun _ _ _ _ _ _ us hl=>match us,hl with|[_,_],_=>rfl),(Bc.at_ X G fun _ _ _ _ _ _ us hl=>match us,hl with|[_,_,_,_,_],_=>rfl),(Bd.at_ X G fun _ _ _ _ _ _ us hl=>match us,hl with|[_],_=>rfl),(Be.at_ X G fun _ _ _ _ _ _ us hl=>match us,hl with|[_],_=>rfl),(Bf.at_ X G fun _ _ _ _ _ _ us hl=>match us,hl with|[_],_=>rfl),(Bg.at_ X G fun _ _ _ _ _ _ us hl=>match us,hl with|[_],_=>rfl),(Bh.at_ X G fun _ _ _ _ _ _ us hl=>match us,hl with|[_],_=>rfl),(Bi.at_ X G fun _ _ _ _ _ _ us hl=>match us,hl with|[_],_=>rfl),(Bj.at_ X G fun _ _ _ _ _ _ us hl=>match us,hl with|[_,_],_=>rfl),(Bk.at_ X G fun _ _ _ _ _ _ us hl=>match us,hl with|[_,_,_],_=>rfl),(Bl.at_ X G fun _ _ _ _ _ _ us hl=>match us,hl with|[_,_,_],_=>rfl),(Bm.at_ X G fun _ _ _ _ _ _ us hl=>match us,hl with|[_,_,_],_=>rfl),(Bn.at_ X G fun _ _ _ _ _ _ us hl=>match us,hl with|[_,_,_],_=>rfl),(Bo.at_ X G fun _ _ _ _ _ _ us hl=>match us,hl with|[_],_=>rfl),(Bp.at_ X G fun _ _ _ _ _ _ us hl=>match us,hl with|[_],_=>rfl),(Bq.at_ X G fun _ _ _ _ _ _ us hl=>match us,hl with|[_],_=>rfl),(Br.at_ X G fun _ _ _ _ _ _ us hl=>match us,hl with|[_],_=>rfl)⟩
 exact Br.law X G hfa (fun _ _ _ _ _ _ s v=>.of_eq rfl) fun fd F base _ _=>zG t F
theorem kx(h:r Γ st=.ok w st):ai (aw r) aj Γ st=.ok (.rt w) st:=by
 rw[cj,Nt,h];rfl
theorem Te(f:W->W):∀(items acc:List W),(∀x∈items,re (some x::Γc) st=.ok (f x) st)->gc (ac (.bl true)) re Γc items acc st=.ok (acc++items.map f) st
 |[],acc,_=>by simp[gc]
 | x::xs,acc,h=>by
  show((ac (.bl true) (some x::Γc) st).calm.bind fun b st1=>match b with
   |.bl true=>(re (some x::Γc) st1).calm.bind fun y st2=>gc (ac (.bl true)) re Γc xs (acc++[y]) st2
   |.bl false=>gc (ac (.bl true)) re Γc xs acc st1
   |_=>.stuck)=_
  show((re (some x::Γc) st).calm.bind fun y st2=>gc (ac (.bl true)) re Γc xs (acc++[y]) st2)=_
  rw[h x EK,rp,ah,Te f xs (acc++[f x]) fun y hy=>h y (ER _ hy)]
  simp
theorem Mg(f:W->W)(hs:src Γ st=.ok items st)(hl:items.length<sizeLine)(h:∀x∈items,re (some x::fh cap Γ) st=.ok (f x) st) :
  ck false src cap (ac (.bl true)) re Γ st=.ok (.lst (items.map f)) st:=by
 unfold ck
 rw[hs,ah,FJ hl,Te f items [] h,ah,List.nil_append]
 exact ky _ (by rw[EQ];exact Nat.le_of_lt hl)
theorem Eo(g:α->Bool):∀xs:List α,lu (xs.map fun x=>W.bl (g x))=some (xs.map g)
 |[]=>rfl
 |x::xs=>by
  show(lu (xs.map fun x=>W.bl (g x))).map (g x::·)=_
  rw[Eo g xs];rfl
theorem rm(z:Str):∀ks:List Str,kc (.str z) (ks.map W.str)=some (ks.any fun a=>a == z)
 |[]=>rfl
 |k::ks=>by
  show(match ci 12 (.str k) (.str z),kc (.str z) (ks.map W.str) with|some a,some b=>some (a||b)|_,_=>none)=_
  rw[rm z ks];rfl
def yu:Str:="abcdefghijklmnopqrstuvwxyz"
def ABC:Str:="ABCDEFGHIJKLMNOPQRSTUVWXYZ"
def sm(z:Str):Bool:=(z.cps.toList.map fun c=>oo ⟨#[c]⟩ yu).all id
theorem mB(hr:r Γ st=.ok (.str yu) st)(hz:z.length<sizeLine)(hr2:∀w,r (some w::[]) st=.ok (.str yu) st):runN (ad (ck false (ba (aa 0)) [] (ac (.bl true)) (ae (aa 0) r cn)) af) ij (some (.str z)::Γ) st=.ok (.bl (sm z)) st:=by
 rw[ee,cf]
 have hsrc:ba (aa 0) (some (.str z)::Γ) st=.ok (oh z) st:=rfl
 have hl:(oh z).length<sizeLine:=by unfold oh;rw[EQ];exact hz
 have hc:ck false (ba (aa 0)) [] (ac (.bl true)) (ae (aa 0) r cn) (some (.str z)::Γ) st=.ok (.lst ((oh z).map fun w=>match w with|.str x=>W.bl (oo x yu)|w=>w)) st:=by
  refine Mg _ hsrc hl fun w hw=>?_
  unfold oh at hw
  obtain⟨c,_,rfl⟩:=List.mem_map.mp hw
  rw[cz,dc,ah]
  show(r [some (W.str ⟨#[c]⟩)] st).bind _=_
  rw[hr2,ah];rfl
 rw[hc,ah,dv,ah,ah]
 have e:((oh z).map fun w=>match w with|.str x=>W.bl (oo x yu)|w=>w)=z.cps.toList.map fun c=>W.bl (oo ⟨#[c]⟩ yu):=by
  unfold oh;rw[List.map_map];rfl
 rw[e]
 show(match lu (z.cps.toList.map fun c=>W.bl (oo ⟨#[c]⟩ yu)) with|some bs=>R.ok (W.bl (bs.all id)) st|none=>.stuck)=_
 rw[Eo];rfl
theorem Qv(z:Str)(st:S)(hz:z.length<sizeLine):tm [.str z] st=.ok (.bl (sm z)) st:=by
 unfold tm
 rw[fw]
 unfold Kq
 rw[kx (mB (z:=z) rfl hz fun _=>rfl)];rfl
inductive Th:W->Prop
 |str (z:Str):z.length<=100->Th (.str z)
 |int (i:Int):Th (.int i)
 |bl (b:Bool):Th (.bl b)
 |non:Th .non
 |lst (ws:List W):Th (.lst ws)
 |tup (ws:List W):ws.length<=1000->(∀w∈ws,Th w)->Th (.tup ws)
 |dct (ks:List be) (ws:List W):Th (.dct ks ws)
def lr(z:Str):Bool:=if decide ((1:Int)<=(z.length:Int))=true then decide ((z.length:Int)<=8) else false
theorem Fh(h:n<=100):n<sizeLine:=FH h (by decide)
theorem mF(h:z.length<=100):ni (ac (W.int 1)) (runN (ad (aa 0) af) gj) (ac (.int 8)) km km (some (.str z)::Γ) st=.ok (.bl (lr z)) st:=by
 simp only[Wj,df,ah,ee,cf,dc,dv,Xz z (Nat.le_of_lt (Fh h)),Nu,kh]
 unfold lr
 split<;>rfl
theorem Qs(z:Str)(st:S)(h:z.length<=100):qz [.str z] st=.ok (.bl (lr z)) st:=by
 unfold qz
 rw[fw]
 unfold Jy
 have e:cr (runN (ad (aa 0) (ad (ac (.ty "str")) af)) cb) (ni (ac (W.int 1)) (runN (ad (aa 0) af) gj) (ac Ha) km km) (some (.str z)::List.replicate (1 - 1) none) st=.ok (.bl (lr z)) st:=by
  have h1:runN (ad (aa 0) (ad (ac (.ty "str")) af)) cb (some (.str z)::List.replicate (1 - 1) none) st=.ok (.bl true) st:=rfl
  rw[vz,h1,ah,kh,FJ rfl]
  exact mF h
 rw[kx e];rfl
theorem Ro(st:S)(h:Th w)(hs:∀z,w≠.str z):qz [w] st=.ok (.bl false) st:=by
 cases h with
 |str z _=>exact absurd rfl (hs z)
 |_=>rfl
def kw:List Str:=["has", "not", "less", "same", "plus", "if", "by", "is", "count", "sum", "least", "most", "why"]
def kept(z:Str):Bool:=kw.any fun a=>a == z
def qg(z:Str):Bool:=if lr z=true then(if sm z=true then !kept z else false) else false
def xy(z:Str):Bool:=oo ⟨#[z.cps.toList.headD 0]⟩ ABC
def jq(z:Str):Bool:=if lr z=true then(if xy z=true then sm (Txt.slice z (some 1) none) else false) else false
theorem kP(z:Str)(st:S):mv (.str z) zl st=.ok (.bl (!kept z)) st:=by
 show(match kc (.str z) (kw.map W.str) with|some r=>R.ok (W.bl (!r)) st|none=>.stuck)=_
 rw[rm];rfl
theorem oq(h:op [w] st=.ok w' st):runN (ad (aa 0) af) (ao op) (some w::Γ) st=.ok w' st:=by
 rw[ee,cf,dc,ah,dv,ah,ah,lm,h];rfl
theorem iP(z:Str)(st:S)(h:z.length<=100):rk [.str z] st=.ok (.bl (qg z)) st:=by
 unfold rk
 rw[fw]
 unfold Hn
 have e:cr (runN (ad (aa 0) af) (ao qz)) (cr (runN (ad (aa 0) af) (ao tm)) (ae (aa 0) (ac zl) mv)) (some (.str z)::List.replicate (1 - 1) none) st=.ok (.bl (qg z)) st:=by
  rw[vz,oq (Qs z st h),ah,kh,vz,oq (Qv z st (Fh h)),ah,kh,cz,dc,ah,df,ah,kP]
  unfold qg
  split
  ·split<;>rfl
  ·rfl
 rw[kx e];rfl
theorem zv(st:S)(h:Th w)(hs:∀z,w≠.str z):rk [w] st=.ok (.bl false) st:=by
 unfold rk
 rw[fw]
 unfold Hn
 have e:cr (runN (ad (aa 0) af) (ao qz)) (cr (runN (ad (aa 0) af) (ao tm)) (ae (aa 0) (ac zl) mv)) (some w::List.replicate (1 - 1) none) st=.ok (.bl false) st:=by
  rw[vz,oq (Ro st h hs),ah,kh];rfl
 rw[kx e];rfl
theorem jS(z:Str):(Txt.slice z (some 1) none).length<=z.length:=Txt.slice_le z _ _
theorem Md(hG:∀Γ,G Γ st=.ok (.str ABC) st)(h:z.length<=100)(hs:lr z=true):ae (ae (aa 0) (ac (W.int 0)) ak) G cn (some (.str z)::Γ) st=.ok (.bl (xy z)) st:=by
 have hl:1<=z.length:=by
  unfold lr at hs
  by_cases h1:(1:Int)<=(z.length:Int)
  ·omega
  ·rw[FR h1] at hs;simp at hs
 have hl':0<z.cps.toList.length:=by
  have:z.cps.toList.length=z.length:=by simp[Str.length]
  omega
 have ha:ft z.cps.toList (0:Int)=some (z.cps.toList.headD 0):=by
  have:=gi z.cps.toList 0 (z.cps.toList.headD 0) (by
   cases e:z.cps.toList with
   |nil=>rw[e] at hl';simp at hl'
   |cons a b=>rfl)
  exact this
 rw[cz,cz,dc,ah,df,ah,Nb z 0 _ (Nat.le_of_lt (Fh h)) ha,ah,hG,ah]
 rfl
theorem oV(hop:∀y:Str,y.length<sizeLine->op [.str y] st=.ok (.bl (sm y)) st)(h:z.length<=100):runN (ad (dl false (aa 0) (ac (W.int 1))) af) (ao op) (some (.str z)::Γ) st=.ok (.bl (sm (Txt.slice z (some 1) none))) st:=by
 have e:dl false (aa 0) (ac (W.int 1)) (some (.str z)::Γ) st=.ok (.str (Txt.slice z (some 1) none)) st:=by
  show(if z.length<=sizeLine then R.ok (W.str (Txt.slice z (some 1) none)) st else .stuck)=_
  rw[FJ (Nat.le_of_lt (Fh h))]
 rw[ee,cf,e,ah,dv,ah,ah,lm,hop _ (Fh (FA (jS z) h))];rfl
theorem iQ(z:Str)(st:S)(h:z.length<=100):mf [.str z] st=.ok (.bl (jq z)) st:=by
 unfold mf
 rw[fw]
 unfold Ho
 have e:cr (runN (ad (aa 0) af) (ao qz)) (cr (ae (ae (aa 0) (ac (W.int 0)) ak) (ac zc) cn) (runN (ad (dl false (aa 0) (ac (W.int 1))) af) (ao tm))) (some (.str z)::List.replicate (1 - 1) none) st=.ok (.bl (jq z)) st:=by
  rw[vz,oq (Qs z st h),ah,kh]
  unfold jq
  split
  ·rename_i hs
   rw[vz,Md (G:=ac zc) (fun _=>rfl) h hs,ah,kh]
   split
   ·exact oV (fun y hy=>Qv y st hy) h
   ·rfl
  ·rfl
 rw[kx e];rfl
theorem zw(st:S)(h:Th w)(hs:∀z,w≠.str z):mf [w] st=.ok (.bl false) st:=by
 unfold mf
 rw[fw]
 unfold Ho
 have e:cr (runN (ad (aa 0) af) (ao qz)) (cr (ae (ae (aa 0) (ac (W.int 0)) ak) (ac zc) cn) (runN (ad (dl false (aa 0) (ac (W.int 1))) af) (ao tm))) (some w::List.replicate (1 - 1) none) st=.ok (.bl false) st:=by
  rw[vz,oq (Ro st h hs),ah,kh];rfl
 rw[kx e];rfl
def g6(i:Int):Bool:=if decide ((-999999999:Int)<=i)=true then decide (i<=999999999) else false
theorem eW(i:Int)(st:S):vh [.int i] st=.ok (.bl (g6 i)) st:=by
 unfold vh
 rw[fw]
 unfold Ko
 have h1:runN (ad (aa 0) (ad (ac (.ty "bool")) af)) cb (some (.int i)::List.replicate (1 - 1) none) st=.ok (.bl false) st:=rfl
 have h2:runN (ad (aa 0) (ad (ac (.ty "int")) af)) cb (some (.int i)::List.replicate (1 - 1) none) st=.ok (.bl true) st:=rfl
 have e:cr (runN (ad (aa 0) (ad (ac (.ty "int")) af)) cb) (ni (bb (ac zg) di) (aa 0) (ac zg) km km) (some (.int i)::List.replicate (1 - 1) none) st=.ok (.bl (g6 i)) st:=by
  rw[vz,h2,ah,kh,FJ rfl,Wj,Ig,df,ah]
  show((R.ok (W.int (-999999999)) st).bind _)=_
  rw[ah,dc,ah,Nu,ah,kh]
  unfold g6
  split
  ·rw[df,ah];rfl
  ·rfl
 rw[cj,Fq,h1,ah,kh,FK EG,xp,ah,fj,kx e];rfl
theorem zi(st:S)(h:Th w)(hs:∀i,w≠.int i):vh [w] st=.ok (.bl false) st:=by
 cases h with
 |int i=>exact absurd rfl (hs i)
 |_=>rfl
theorem iN(h1:rk [w] st=.ok (.bl a) st)(h2:vh [w] st=.ok (.bl b) st):xb [w] st=.ok (.bl (a||b)) st:=by
 unfold xb
 rw[fw]
 unfold Kw
 have e:ia (runN (ad (aa 0) af) (ao rk)) (runN (ad (aa 0) af) (ao vh)) (some w::List.replicate (1 - 1) none) st=.ok (.bl (a||b)) st:=by
  rw[aN,oq h1,ah,kh,oq h2]
  cases a<;>rfl
 rw[kx e];rfl
theorem lA(h1:xb [w] st=.ok (.bl a) st)(h2:mf [w] st=.ok (.bl b) st):zq [w] st=.ok (.bl (a||b)) st:=by
 unfold zq
 rw[fw]
 unfold Lg
 have e:ia (runN (ad (aa 0) af) (ao xb)) (runN (ad (aa 0) af) (ao mf)) (some w::List.replicate (1 - 1) none) st=.ok (.bl (a||b)) st:=by
  rw[aN,oq h1,ah,kh,oq h2]
  cases a<;>rfl
 rw[kx e];rfl
noncomputable def f8:W->Bool
 |.str z=>qg z
 |_=>false
noncomputable def jf:W->Bool
 |.str z=>jq z
 |_=>false
noncomputable def bG:W->Bool
 |.int i=>g6 i
 |_=>false
noncomputable def Yp(w:W):Bool:=f8 w||bG w
noncomputable def kz(w:W):Bool:=Yp w||jf w
theorem Ua(st:S)(h:Th w):rk [w] st=.ok (.bl (f8 w)) st:=by
 cases h with
 |str z hz=>exact iP z st hz
 |int i=>exact zv st (.int i) (by intro i e;cases e)
 |bl b=>exact zv st (.bl b) (by intro i e;cases e)
 |non=>exact zv st .non (by intro i e;cases e)
 |lst b=>exact zv st (.lst b) (by intro i e;cases e)
 |tup b h1 h2=>exact zv st (.tup b h1 h2) (by intro i e;cases e)
 |dct k b=>exact zv st (.dct k b) (by intro i e;cases e)
theorem Ef(st:S)(h:Th w):mf [w] st=.ok (.bl (jf w)) st:=by
 cases h with
 |str z hz=>exact iQ z st hz
 |int i=>exact zw st (.int i) (by intro i e;cases e)
 |bl b=>exact zw st (.bl b) (by intro i e;cases e)
 |non=>exact zw st .non (by intro i e;cases e)
 |lst b=>exact zw st (.lst b) (by intro i e;cases e)
 |tup b h1 h2=>exact zw st (.tup b h1 h2) (by intro i e;cases e)
 |dct k b=>exact zw st (.dct k b) (by intro i e;cases e)
theorem iO(st:S)(h:Th w):vh [w] st=.ok (.bl (bG w)) st:=by
 cases h with
 |str z hz=>exact zi st (.str z hz) (by intro i e;cases e)
 |int i=>exact eW i st
 |bl b=>exact zi st (.bl b) (by intro i e;cases e)
 |non=>exact zi st .non (by intro i e;cases e)
 |lst b=>exact zi st (.lst b) (by intro i e;cases e)
 |tup b h1 h2=>exact zi st (.tup b h1 h2) (by intro i e;cases e)
 |dct k b=>exact zi st (.dct k b) (by intro i e;cases e)
theorem kZ(st:S)(h:Th w):xb [w] st=.ok (.bl (Yp w)) st:=iN (Ua st h) (iO st h)
theorem Tz(st:S)(h:Th w):zq [w] st=.ok (.bl (kz w)) st:=lA (kZ st h) (Ef st h)
theorem F1(ws:List W)(k:Nat):fq ws (some (k:Int)) none=ws.drop k:=by
 unfold fq
 rw[HT.sIx_nat,HT.sIx_none]
 by_cases h:k<=ws.length
 ·rw[Nat.min_eq_left h]
  exact List.take_of_length_le (by rw[List.length_drop];omega)
 ·rw[Nat.min_eq_right (by omega),List.drop_of_length_le (EN _),List.drop_of_length_le (by omega)]
  simp
theorem ml(x:W)(xs:List W):fq (x::xs) (some 1) none=xs:=F1 (x::xs) 1
theorem aO(x:W)(xs:List W):fq (x::xs) (some 1) (some 3)=xs.take 2:=by
 unfold fq
 rw[show(some (1:Int))=some ((1:Nat):Int) from rfl,show(some (3:Int))=some ((3:Nat):Int) from rfl,HT.sIx_nat,HT.sIx_nat,EZ,Nat.min_eq_left (show 1<=xs.length+1 by omega),List.drop_succ_cons,List.drop_zero]
 by_cases h:2<=xs.length
 ·rw[Nat.min_eq_left (by omega)]
 ·rw[Nat.min_eq_right (by omega),List.take_of_length_le (by omega),List.take_of_length_le (by omega)]
theorem Ij(f:W->Bool)(hs:src Γ st=.ok items st)(hl:items.length<=1000)(h:∀x∈items,op [x] st=.ok (.bl (f x)) st) :
  runN (ad (ck false src [] (ac (.bl true)) (runN (ad (aa 0) af) (ao op))) af) ij Γ st=.ok (.bl (items.all f)) st:=by
 have hc:=Mg (src:=src) (cap:=[]) (re:=runN (ad (aa 0) af) (ao op)) (Γ:=Γ) (st:=st) (items:=items) (fun w=>W.bl (f w)) hs (FH hl (by decide)) fun x hx=>oq (h x hx)
 rw[ee,cf,hc,ah,dv,ah,ah]
 show(match lu (items.map fun w=>W.bl (f w)) with|some bs=>R.ok (W.bl (bs.all id)) st|none=>.stuck)=_
 rw[Eo]
 simp
noncomputable def jo:W->Bool
 |.tup (x::xs)=>decide (xs.length<=4)&&(f8 x&&xs.all kz)
 |_=>false
theorem Ww:ba (dl false (aa 0) (ac (W.int 1))) (some (.tup (x::xs))::Γ) st=.ok xs st:=by
 have e:dl false (aa 0) (ac (W.int 1)) (some (.tup (x::xs))::Γ) st=.ok (.tup xs) st:=by
  rw[Mx,dc,ah,df,ah,Mt,Ip,ml]
 unfold ba
 rw[e];rfl
theorem Ki(st:S)(h:Th w):zf [w] st=.ok (.bl (jo w)) st:=by
 cases h with
 | tup ws hl hw =>
  cases ws with
  |nil=>rfl
  | cons x xs =>
   unfold zf
   rw[fw]
   unfold Kf
   have h1:∀Γ:Ga,runN (ad (aa 0) (ad (ac (.ty "tuple")) af)) cb (some (.tup (x::xs))::Γ) st=.ok (.bl true) st:=fun _=>rfl
   have hx:∀y∈xs,Th y:=fun y hy=>hw y (ER _ hy)
   have hn:=Ua st (hw x EK)
   have ha:=Ij (Γ:=some (.tup (x::xs))::[]) kz (Ww (Γ:=[]) (st:=st) (x:=x) (xs:=xs)) (by rw[EZ] at hl;omega) fun y hy=>Tz st (hx y hy)
   have h0:ak (.tup (x::xs)) (.int 0) st=.ok x st:=mj x xs
   have hle:(((x::xs).length:Int)<=1+4) ↔ xs.length<=4:=by rw[EZ];omega
   have hge:(1:Int)<=((x::xs).length:Int):=by rw[EZ];omega
   simp only[Nat.sub_self,rn]
   by_cases h4:xs.length<=4
   ·have d:decide (((x::xs).length:Int)<=1+4)=true:=decide_eq_true (hle.mpr h4)
    simp only[EV,Nat.reduceSub,↓h1,t5,decide_eq_true hge,d,h0,hn,↓ha,Bool.not_true,Bool.false_eq_true,if_true,if_false]
    show _=R.ok (W.bl (decide (xs.length<=4)&&(f8 x&&xs.all kz))) st
    rw[decide_eq_true h4]
    cases f8 x<;>rfl
   ·have d:decide (((x::xs).length:Int)<=1+4)=false:=FR fun z=>h4 (hle.mp z)
    simp only[EV,Nat.reduceSub,↓h1,t5,decide_eq_true hge,d,Bool.not_true,Bool.not_false,Bool.false_eq_true,if_true,if_false]
    show _=R.ok (W.bl (decide (xs.length<=4)&&(f8 x&&xs.all kz))) st
    rw[FR h4];rfl
 |_=>rfl
noncomputable def Fp:W->Str
 |.tup (.str z::_)=>z
 |_ => ""
theorem Gu(st : S)(h:Th w):sy [w] st=.ok (.str (Fp w)) st:=by
  cases h with
  | tup ws hl hw =>
    cases ws with
    |nil=>rfl
    | cons x xs =>
      have hx:=hw x EK
      have h1:∀Γ:Ga,runN (ad (aa 0) (ad (ac (.ty "tuple")) af)) cb (some (.tup (x::xs))::Γ) st=.ok (.bl true) st:=fun _=>rfl
      have h0:ak (.tup (x::xs)) (.int 0) st=.ok x st:=mj x xs
      have hg:decide ((0:Int)<((x::xs).length:Int))=true:=decide_eq_true (by rw[EZ];omega)
      unfold sy
      rw[fw]
      unfold Ke
      simp only[Nat.sub_self,rn]
      cases hx with
      | str z hz =>
        have h2:cb [.str z,.ty "str"] st=.ok (.bl true) st:=rfl
        simp only[EV,Nat.reduceSub,↓h1,hg,h0,h2,if_true]
        rfl
      | int i => have h2:cb [.int i,.ty "str"] st=.ok (.bl false) st:=rfl
                 simp only[EV,Nat.reduceSub,↓h1,hg,h0,h2,if_true,if_false,Bool.false_eq_true];rfl
      | bl i => have h2:cb [.bl i,.ty "str"] st=.ok (.bl false) st:=rfl
                simp only[EV,Nat.reduceSub,↓h1,hg,h0,h2,if_true,if_false,Bool.false_eq_true];rfl
      | non => have h2:cb [.non,.ty "str"] st=.ok (.bl false) st:=rfl
               simp only[EV,Nat.reduceSub,↓h1,hg,h0,h2,if_true,if_false,Bool.false_eq_true];rfl
      | lst i => have h2:cb [.lst i,.ty "str"] st=.ok (.bl false) st:=rfl
                 simp only[EV,Nat.reduceSub,↓h1,hg,h0,h2,if_true,if_false,Bool.false_eq_true];rfl
      | tup i j k => have h2:cb [.tup i,.ty "str"] st=.ok (.bl false) st:=rfl
                     simp only[EV,Nat.reduceSub,↓h1,hg,h0,h2,if_true,if_false,Bool.false_eq_true];rfl
      | dct i j => have h2:cb [.dct i j,.ty "str"] st=.ok (.bl false) st:=rfl
                   simp only[EV,Nat.reduceSub,↓h1,hg,h0,h2,if_true,if_false,Bool.false_eq_true];rfl
  |_=>rfl
def io(z:Str):Bool:=z == "has" || z == "not"
def qo(z:Str):Option Nat:=if z = "less" then some 2 else if z = "same" then some 2 else if z = "plus" then some 3 else none
noncomputable def Nq:List W->Bool
 |[p]=>jo p
 |_=>false
noncomputable def gd:W->Bool
 | .tup (.str z::xs)=>if io z=true then Nq xs
  else(match qo z with
   |some n=>xs.length == n&&xs.all kz
   |none=>false)
 |_=>false
theorem g5(z:Str)(st:S):cn (.str z) pd st=.ok (.bl (io z)) st:=by
 show(match kc (.str z) ((["has", "not"]:List Str).map W.str) with|some r=>R.ok (W.bl r) st|none=>.stuck)=_
 rw[rm]
 show R.ok (W.bl (("has" == z)||(("not" == z)||false))) st=_
 unfold io
 rw[Bool.or_false,Bool.beq_comm (a:=z) (b:="has"),Bool.beq_comm (a:=z) (b:="not")]
theorem Yq(z:Str):gy md ma (.inr z)=(qo z).map fun n=>W.int n:=by
 unfold md ma qo
 simp only[gy,Sum.inr.injEq]
 by_cases h1:z = "less"
 ·subst h1;rfl
 ·rw[FK (fun e=>h1 e.symm),FK h1]
  by_cases h2:z = "same"
  ·subst h2;rfl
  ·rw[FK (fun e=>h2 e.symm),FK h2]
   by_cases h3:z = "plus"
   ·subst h3;rfl
   ·rw[FK (fun e=>h3 e.symm),FK h3];rfl
theorem aH(z:Str)(st:S):nc md ma false (.str z) st=.ok (.bl (qo z).isSome) st:=by
 show R.ok (W.bl ((gy md ma (.inr z)).isSome != false)) st=_
 rw[Yq]
 cases qo z<;>rfl
theorem Z9(z:Str)(st:S)(n:Nat)(h:qo z=some n):Fb md ma (.str z) st=.ok (.int n) st:=by
 show(match gy md ma (.inr z) with|some u=>R.ok u st|none=>.stuck)=_
 rw[Yq,h];rfl
theorem lB(st:S)(h:Th w)(hh:Fp w = ""):zr [w] st=.ok (.bl false) st:=by
 have hw:=Gu st h
 rw[hh] at hw
 unfold zr
 rw[fw]
 unfold Hm
 have p1:cn (.str "") pd st=.ok (.bl false) st:=rfl
 have p2:nc md ma false (.str "") st=.ok (.bl false) st:=rfl
 simp only[EV,Nat.reduceSub,hw,p1,p2,if_false,Bool.false_eq_true]
theorem nR(st:S)(h:Th w):zr [w] st=.ok (.bl (gd w)) st:=by
 by_cases hz:∃z xs,w=.tup (.str z::xs)
 ·obtain⟨z,xs,rfl⟩:=hz
  have hw:=Gu st h
  cases h with
  | tup ws hl hw' =>
   have hx:∀y∈xs,Th y:=fun y hy=>hw' y (ER _ hy)
   have hw2:sy [.tup (.str z::xs)] st=.ok (.str z) st:=hw
   unfold zr
   rw[fw]
   unfold Hm
   cases e:io z with
   | true =>
    have p1:cn (.str z) pd st=.ok (.bl true) st:=by rw[g5,e]
    have hp:gd (.tup (.str z::xs))=Nq xs:=FJ e
    rw[hp]
    by_cases h1:∃p,xs=[p]
    ·obtain⟨p,rfl⟩:=h1
     have i1:ak (.tup [.str z,p]) (.int 1) st=.ok p st:=qj _ _ _
     have l1:((([.str z,p]:List W).length:Int) == 2)=true:=rfl
     simp only[EV,Nat.reduceSub,hw2,p1,if_true,l1,i1,Ki st (hx p EK)]
     rfl
    ·have l1:(((W.str z::xs).length:Int) == 2)=false:=by
      apply beq_false_of_ne
      intro q
      rw[EZ] at q
      match xs,h1,q with
      |[],_,q=>simp at q
      |[p],h1,_=>exact h1 ⟨p,rfl⟩
      |a::b::c,_,q=>rw[EZ,EZ] at q;omega
     simp only[EV,Nat.reduceSub,hw2,p1,if_true,l1,if_false,Bool.false_eq_true]
     match xs,h1 with
     |[],_=>rfl
     |[p],h1=>exact absurd ⟨p,rfl⟩ h1
     |a::b::c,_=>rfl
   | false =>
    have p1:cn (.str z) pd st=.ok (.bl false) st:=by rw[g5,e]
    have hp:gd (.tup (.str z::xs))=(match qo z with|some n=>xs.length == n&&xs.all kz|none=>false):=by
     show(if io z=true then _ else(match qo z with|some n=>xs.length == n&&xs.all kz|none=>false))=_
     rw[e];rfl
    rw[hp]
    cases ec:qo z with
    |none =>
     have p2:nc md ma false (.str z) st=.ok (.bl false) st:=by rw[aH,ec];rfl
     simp only[EV,Nat.reduceSub,hw2,p1,p2,if_false,Bool.false_eq_true]
    | some n =>
     have p2:nc md ma false (.str z) st=.ok (.bl true) st:=by rw[aH,ec];rfl
     have ha:=Ij (Γ:=[some (.tup (.str z::xs)),some (.str z)]) kz (Ww (Γ:=[some (.str z)]) (st:=st) (x:=.str z) (xs:=xs)) (by rw[EZ] at hl;omega) fun y hy=>Tz st (hx y hy)
     have l1:(((W.str z::xs).length:Int) == 1+(n:Int))=(xs.length == n):=by
      rw[EZ]
      rw[Bool.eq_iff_iff]
      simp only[beq_iff_eq]
      omega
     simp only[EV,Nat.reduceSub,hw2,p1,p2,if_false,Bool.false_eq_true,if_true,Z9 z st n ec,l1,↓ha]
     cases xs.length == n<;>rfl
 ·rw[lB st h ?_]
  ·have:gd w=false:=by
    unfold gd
    split
    ·exact absurd ⟨_,_,rfl⟩ hz
    ·rfl
   rw[this]
  ·unfold Fp
   split
   ·exact absurd ⟨_,_,rfl⟩ hz
   ·rfl
noncomputable def jr:W->Bool
 |.tup ws=>decide (1<=ws.length/\ws.length<=6)&&ws.all gd
 |_=>false
theorem Lm(st:S)(h:Th w):zt [w] st=.ok (.bl (jr w)) st:=by
 cases h with
 | tup ws hl hw =>
  have h1:∀Γ:Ga,runN (ad (aa 0) (ad (ac (.ty "tuple")) af)) cb (some (.tup ws)::Γ) st=.ok (.bl true) st:=fun _=>rfl
  have ha:=Ij (Γ:=[some (.tup ws)]) gd (src:=ba (aa 0)) (items:=ws) (st:=st) rfl hl fun y hy=>nR st (hw y hy)
  unfold zt
  rw[fw]
  unfold Lh
  simp only[Nat.sub_self,rn]
  by_cases c1:1<=ws.length
  ·have d1:decide ((1:Int)<=(ws.length:Int))=true:=decide_eq_true (by omega)
   by_cases c2:ws.length<=6
   ·have d2:decide ((ws.length:Int)<=6)=true:=decide_eq_true (by omega)
    simp only[EV,Nat.reduceSub,↓h1,zk,d1,d2,↓ha,Bool.not_true,Bool.false_eq_true,if_true,if_false]
    show _=R.ok (W.bl (decide (1<=ws.length/\ws.length<=6)&&ws.all gd)) st
    rw[decide_eq_true ⟨c1,c2⟩];rfl
   ·have d2:decide ((ws.length:Int)<=6)=false:=FR (by omega)
    simp only[EV,Nat.reduceSub,↓h1,zk,d1,d2,Bool.not_true,Bool.not_false,Bool.false_eq_true,if_true,if_false]
    show _=R.ok (W.bl (decide (1<=ws.length/\ws.length<=6)&&ws.all gd)) st
    rw[FR (fun z=>c2 z.2)];rfl
  ·have d1:decide ((1:Int)<=(ws.length:Int))=false:=FR (by omega)
   simp only[EV,Nat.reduceSub,↓h1,zk,d1,Bool.not_true,Bool.not_false,Bool.false_eq_true,if_true,if_false]
   show _=R.ok (W.bl (decide (1<=ws.length/\ws.length<=6)&&ws.all gd)) st
   rw[FR (fun z=>c1 z.1)];rfl
 |_=>rfl
theorem Kd(p:W->Bool):∀(items acc:List W),(∀x∈items,rt (some x::Γc) st=.ok (.bl (p x)) st)->gc rt (aa 0) Γc items acc st=.ok (acc++items.filter p) st
 |[],acc,_=>by simp[gc]
 | x::xs,acc,h=>by
  have hx:=h x EK
  have ih:=fun acc=>Kd p xs acc fun y hy=>h y (ER _ hy)
  show((rt (some x::Γc) st).calm.bind fun b st1=>match b with
   |.bl true=>(aa 0 (some x::Γc) st1).calm.bind fun y st2=>gc rt (aa 0) Γc xs (acc++[y]) st2
   |.bl false=>gc rt (aa 0) Γc xs acc st1
   |_=>.stuck)=_
  rw[hx,rp,ah]
  cases e:p x with
  |true =>
   show((aa 0 (some x::Γc) st).calm.bind fun y st2=>gc rt (aa 0) Γc xs (acc++[y]) st2)=_
   rw[dc,rp,ah,ih,List.filter_cons_of_pos e]
   simp
  |false =>
   show gc rt (aa 0) Γc xs acc st=_
   rw[ih,List.filter_cons_of_neg (by rw[e];exact EG)]
noncomputable def Ge:W->Option Str
 |.str z=>if jq z=true then some z else none
 |_=>none
noncomputable def bo(ws:List W):List Str:=ws.filterMap Ge
theorem Ks(ws:List W):ws.filter jf=(bo ws).map W.str:=by
 induction ws with
 |nil=>rfl
 | cons w ws ih =>
  unfold bo at ih ⊢
  cases e:jf w with
  | true =>
   cases w with
   |str z =>
    have e':Ge (.str z)=some z:=FJ e
    rw[List.filter_cons_of_pos e,List.filterMap_cons,e',FN,ih]
   |_=>cases e
  | false =>
   have e':Ge w=none:=by
    cases w with
    |str z=>exact FK (by rw[show jq z=false from e];exact EG)
    |_=>rfl
   rw[List.filter_cons_of_neg (by rw[e];exact EG),List.filterMap_cons,e',ih]
theorem zn(h:z∈bo ws):z.length<=8:=by
 obtain⟨w,_,e⟩:=List.mem_filterMap.mp h
 cases w with
 | str y =>
  have e:(if jq y=true then some y else none)=some z:=e
  by_cases hf:jq y=true
  ·rw[FJ hf] at e
   cases e
   unfold jq at hf
   by_cases hs:lr z=true
   ·unfold lr at hs
    by_cases h1:(1:Int)<=(z.length:Int)
    ·rw[decide_eq_true h1,FJ rfl] at hs
     have:=of_decide_eq_true hs
     omega
    ·rw[FR h1] at hs;cases hs
   ·rw[FK hs] at hf;cases hf
  ·rw[FK hf] at e;cases e
 |_=>cases e
theorem vk(ws:List W):(bo ws).length<=ws.length:=List.length_filterMap_le _ _
theorem zj(st:S)(hs:Fk w=some ws)(hl:ws.length<=1000)(hw:∀y∈ws,Th y):tj [w] st=.ok (.lst ((bo ws).map W.str)) st:=by
 unfold tj
 rw[fw]
 unfold Kg
 have e:ck false (ba (aa 0)) [] (runN (ad (aa 0) af) (ao mf)) (aa 0) (some w::List.replicate (1 - 1) none) st=.ok (.lst ((bo ws).map W.str)) st:=by
  unfold ck
  have h1:ba (aa 0) (some w::List.replicate (1 - 1) none) st=.ok ws st:=by
   unfold ba
   rw[dc,ah,hs]
  rw[h1,ah,FJ (FH hl (by decide)),Kd jf ws [] fun x hx=>oq (Ef st (hw x hx)),ah,List.nil_append,Ks]
  exact ky _ (by rw[EQ];exact FA (vk ws) (dk hl))
 rw[kx e];rfl
noncomputable def bz:W->List Str
 | .tup (.str z::xs)=>if io z=true then(match xs with
   |[.tup (_::ts)]=>bo ts
   |_=>[])
  else bo xs
 |_=>[]
noncomputable def ig:W->List Str
 |.tup (.str z::xs)=>if z = "has" then[] else if z = "plus" then bo (xs.take 2) else bz (.tup (.str z::xs))
 |_=>[]
theorem Kz(h:Th w)(hp:gd w=true):∃z xs,w=.tup (.str z::xs)/\z.length<=100/\xs.length<=1000/\(∀y∈xs,Th y)/\((io z=true/\∃n ts,xs=[.tup (n::ts)]/\ts.length<=4/\∀y∈ts,Th y)\/(io z=false/\∃n,qo z=some n/\xs.length=n)):=by
 unfold gd at hp
 split at hp
 ·rename_i z xs
  cases h with
  | tup ws hl hw =>
   have hx:∀y∈xs,Th y:=fun y hy=>hw y (ER _ hy)
   have hz:z.length<=100:=by
    have:=hw (.str z) EK
    cases this;assumption
   refine⟨z,xs,rfl,hz,by rw[EZ] at hl;omega,hx,?_⟩
   cases e:io z with
   | true =>
    rw[e,FJ rfl] at hp
    unfold Nq at hp
    split at hp
    ·rename_i p
     unfold jo at hp
     split at hp
     ·rename_i n ts
      refine .inl ⟨rfl,n,ts,rfl,?_,fun y hy=>?_⟩
      ·simp only[FE,decide_eq_true_eq] at hp;exact hp.1
      ·have:=hx _ EK
       cases this with
       |tup _ _ h3=>exact h3 y (ER _ hy)
     ·cases hp
    ·cases hp
   | false =>
    rw[e,FK EG] at hp
    split at hp
    ·rename_i n hn
     simp only[FE,beq_iff_eq] at hp
     exact .inr ⟨rfl,n,hn,hp.1⟩
    ·cases hp
 ·cases hp
theorem Jw(st:S)(h:Th w)(hp:gd w=true):qy [w] st=.ok (.lst ((bz w).map W.str)) st:=by
 obtain⟨z,xs,rfl,hz,hl,hx,hc⟩:=Kz h hp
 have i0:ak (.tup (.str z::xs)) (.int 0) st=.ok (.str z) st:=mj _ _
 unfold qy
 rw[fw]
 unfold Jx
 simp only[Nat.sub_self,rn]
 rcases hc with⟨e,n,ts,rfl,hts,hth⟩|⟨e,n,hn,hxl⟩
 ·have i1:ak (.tup [.str z,.tup (n::ts)]) (.int 1) st=.ok (.tup (n::ts)) st:=qj _ _ _
  have hw:bz (.tup [.str z,.tup (n::ts)])=bo ts:=by
   show(if io z=true then bo ts else _)=_
   rw[FJ e]
  simp only[EV,Nat.reduceSub,i0,g5,e,if_true,i1,ml,zj (w:=.tup ts) st rfl (by omega) hth,hw]
 ·have hw:bz (.tup (.str z::xs))=bo xs:=by
   show(if io z=true then _ else bo xs)=_
   rw[e];rfl
  simp only[EV,Nat.reduceSub,i0,g5,e,if_false,Bool.false_eq_true,ml,zj (w:=.tup xs) st rfl hl hx,hw]
theorem Rn(st:S)(h:Th w)(hp:gd w=true):q9 [w] st=.ok (.lst ((ig w).map W.str)) st:=by
 have hwo:=Jw st h hp
 obtain⟨z,xs,rfl,hz,hl,hx,hc⟩:=Kz h hp
 have i0:ak (.tup (.str z::xs)) (.int 0) st=.ok (.str z) st:=mj _ _
 unfold q9
 rw[fw]
 unfold Kj
 simp only[Nat.sub_self,rn]
 by_cases h1:z = "has"
 ·have b1:(z == ("has" : Str))=true:=by rw[h1];rfl
  have hw:ig (.tup (.str z::xs))=[]:=FJ h1
  simp only[EV,Nat.reduceSub,i0,b1,if_true,hw]
  rfl
 ·have b1:(z == ("has" : Str))=false:=beq_false_of_ne h1
  by_cases h2:z = "plus"
  ·have b2:(z == ("plus" : Str))=true:=by rw[h2];rfl
   have hw:ig (.tup (.str z::xs))=bo (xs.take 2):=by
    show(if z = "has" then _ else if z = "plus" then bo (xs.take 2) else _)=_
    rw[FK h1,FJ h2]
   have hs:vq false (aa 0) (ac (W.int 1)) (ac (W.int 3)) [some (.tup (.str z::xs))] st=.ok (.tup (xs.take 2)) st:=by
    show R.ok (W.tup (fq (.str z::xs) (some 1) (some 3))) st=_
    rw[aO]
   simp only[EV,Nat.reduceSub,i0,b1,b2,if_false,if_true,Bool.false_eq_true,↓hs,zj (w:=.tup (xs.take 2)) st rfl (by rw[List.length_take];omega) (fun y hy=>hx y (List.mem_of_mem_take hy)),hw]
  ·have b2:(z == ("plus" : Str))=false:=beq_false_of_ne h2
   have hw:ig (.tup (.str z::xs))=bz (.tup (.str z::xs)):=by
    show(if z = "has" then _ else if z = "plus" then _ else bz (.tup (.str z::xs)))=_
    rw[FK h1,FK h2]
   simp only[EV,Nat.reduceSub,i0,b1,b2,if_false,Bool.false_eq_true,hwo,hw]
theorem hZ(h:z∈bz w):z.length<=8:=by
 unfold bz at h
 split at h
 ·split at h
  ·split at h
   ·exact zn h
   ·cases h
  ·exact zn h
 ·cases h
theorem fM(h:z∈ig w):z.length<=8:=by
 unfold ig at h
 split at h
 ·split at h
  ·cases h
  ·split at h
   ·exact zn h
   ·exact hZ h
 ·cases h
def cu(zs bs:List Str):Bool:=zs.all fun z=>bs.any fun b=>b == z
noncomputable def nt:aq:=ai (bg (ae (aa 2) (aa 1) mv) (ai (mw "Unbound" (ad (kj [(ac (W.str "the free word ")),(bb (aa 2) ls),(ac (W.str " is not bound"))] Str.empty) af)) aj) aj) aj
theorem Sy{bs:List Str}(hb:fb st b=some (bs.map W.str))(z:Str):mv (.str z) b st=.ok (.bl (!(bs.any fun a=>a == z))) st:=by
 have e:j2 st (.str z) b=some (bs.any fun a=>a == z):=by
  cases b with
  |lst xs=>show kc (.str z) xs=_;cases hb;exact rm z bs
  |tup xs=>show kc (.str z) xs=_;cases hb;exact rm z bs
  |ref n =>
   show(match MO.items (st.mu n) with|some ys=>kc (.str z) ys|none=>none)=_
   rw[show MO.items (st.mu n)=some (bs.map W.str) from hb];exact rm z bs
  |_=>cases hb
 have e0:ul st (.str z) b=none:=by
  unfold ul
  cases b with
  | ref n =>
   show(match some (Sum.inr z:be),(match st.mu n with|some (.dct ks ws)=>some (ks,ws)|_=>none) with|some k,some (ks,ws)=>some (gy ks ws k).isSome|_,_=>none)=none
   have hb:MO.items (st.mu n)=some (bs.map W.str):=hb
   cases em:st.mu n with
   |none=>rfl
   |some o=>cases o with
    |lst xs=>rfl
    |dct ks ws=>rw[em] at hb;cases hb
  |dct ks ws=>cases hb
  |_=>rfl
 unfold mv
 rw[e0]
 show Hv (.str z) b st=_
 unfold Hv
 rw[e]
theorem vJ(a c z:Str)(w0 b:Option W)(st:S)(ha:a.length<=100)(hc:c.length<=100)(hz:z.length<=100):∃y,kj [ac (W.str a),bb (aa 2) ls,ac (W.str c)] Str.empty [w0,b,some (.str z)] st=.ok (.str y) st:=by
 have n0:Str.empty.length=0:=rfl
 have l1:(Str.empty++a).length<=sizeLine:=by rw[Str.length_append,n0];exact dk (by omega)
 have l2:(Str.empty++a++z).length<=sizeLine:=by rw[Str.length_append,Str.length_append,n0];exact dk (by omega)
 have l3:(Str.empty++a++z++c).length<=sizeLine:=by rw[Str.length_append,Str.length_append,Str.length_append,n0];exact dk (by omega)
 have l4:z.length<=sizeLine:=dk (by omega)
 refine⟨Str.empty++a++z++c,?_⟩
 show(if (Str.empty++a).length<=sizeLine then((if z.length<=sizeLine then R.ok (W.str z) st else .stuck).bind fun w st1=>match w with
  |.str y=>if (Str.empty++a++y).length<=sizeLine then kj [ac (W.str c)] (Str.empty++a++y) [w0,b,some (.str z)] st1 else .stuck
  |_=>.stuck) else .stuck)=_
 rw[FJ l1,FJ l4,ah]
 show(if (Str.empty++a++z).length<=sizeLine then(if (Str.empty++a++z++c).length<=sizeLine then(if (Str.empty++a++z++c).length<=sizeLine then R.ok (W.str (Str.empty++a++z++c)) st else .stuck) else .stuck) else .stuck)=_
 rw[FJ l2,FJ l3,FJ l3]
theorem bound_loop(st:S)(hb:fb st b=some (bs.map W.str)):∀(zs:List Str)(x0:Option W),(∀z∈zs,z.length<=8) ->
  (cu zs bs=true/\∃x1,cy 2 nt (zs.map W.str) [w0,some b,x0] st=.ok (.nx [w0,some b,x1]) st)\/(cu zs bs=false/\cy 2 nt (zs.map W.str) [w0,some b,x0] st=.ex (.str "Unbound") st)
 |[],x0,_=>.inl ⟨rfl,x0,rfl⟩
 | z::zs,x0,h=>by
  have hn:=Sy hb z
  have hz:=h z EK
  have e0:cy 2 nt ((z::zs).map W.str) [w0,some b,x0] st=(nt [w0,some b,some (.str z)] st).bind fun fl st'=>match fl with
   |.nx Γ'=>cy 2 nt (zs.map W.str) Γ' st'
   |.ct Γ'=>cy 2 nt (zs.map W.str) Γ' st'
   |.bk Γ'=>.ok (.nx Γ') st'
   |.rt w=>.ok (.rt w) st':=rfl
  cases e:(bs.any fun a=>a == z) with
  | true =>
   have hb1:nt [w0,some b,some (.str z)] st=.ok (.nx [w0,some b,some (.str z)]) st:=by
    unfold nt
    simp only[EV,Nat.reduceSub,hn,e,Bool.not_true,if_false,Bool.false_eq_true]
   rw[e0,hb1,ah]
   have ea:cu (z::zs) bs=cu zs bs:=by
    unfold cu
    rw[List.all_cons,e,Bool.true_and]
   rw[ea]
   exact bound_loop st hb zs (some (.str z)) fun y hy=>h y (ER _ hy)
  | false =>
   obtain⟨y,hj⟩:=vJ "the free word " " is not bound" z w0 (some b) st (by decide) (by decide) (by omega)
   have hb1:nt [w0,some b,some (.str z)] st=.ex (.str "Unbound") st:=by
    unfold nt
    simp only[EV,Nat.reduceSub,hn,e,Bool.not_false,if_true,↓hj]
   refine .inr ⟨?_,?_⟩
   ·unfold cu
    rw[List.all_cons,e];rfl
   ·rw[e0,hb1];rfl
theorem gD(st:S)(hb:fb st b=some (bs.map W.str))(h:∀z∈zs,z.length<=8):pe [.lst (zs.map W.str),b] st=if cu zs bs=true then .ok .non st else .ex (.str "Unbound") st:=by
 unfold pe
 rw[Ih]
 unfold Gv
 show gu 0 st (ai (ib 2 (ba (aa 0)) nt) aj [some (.lst (zs.map W.str)),some b,none] st)=_
 have hs:ba (aa 0) [some (.lst (zs.map W.str)),some b,none] st=.ok (zs.map W.str) st:=rfl
 rcases bound_loop (w0:=some (.lst (zs.map W.str))) st hb zs none h with⟨e,x1,el⟩|⟨e,el⟩
 ·rw[cj,jj,hs,ah,el,e];rfl
 ·rw[cj,jj,hs,ah,el,e];rfl
noncomputable def iy:List W->List Str->Bool
 |[],_=>true
 |p::ps,bs=>cu (ig p) bs&&iy ps (bs++bz p)
theorem d0(st:S)(a b:MO):(st.new a).put st.nxt b=st.new b:=by
 unfold S.put S.new
 congr 1
 funext m
 by_cases h:m=st.nxt<;>simp[h]
theorem fe(st:S)(a:MO):(st.new a).mu st.nxt=some a:=FJ rfl
theorem ii(st:S)(a:MO):∀n,n<st.nxt->(st.new a).mu n=st.mu n:=fun n h=>FK (EX h)
noncomputable def pq:aq:=ai (fm (runN (ad (runN (ad (aa 2) af) (ao q9)) (ad (aa 1) af)) pe))
 (ai (fm (dw "list" (aa 1) (ad (runN (ad (aa 2) af) (ao qy)) af) xj)) aj)
theorem xf(h:Th w)(hp:gd w=true):(bz w).length<=4:=by
 obtain⟨z,xs,rfl,hz,hl,hx,hc⟩:=Kz h hp
 rcases hc with⟨e,n,ts,rfl,hts,hth⟩|⟨e,n,hn,hxl⟩
 ·have hw:bz (.tup [.str z,.tup (n::ts)])=bo ts:=by
   show(if io z=true then bo ts else _)=_
   rw[FJ e]
  rw[hw];exact FA (vk ts) hts
 ·have hw:bz (.tup (.str z::xs))=bo xs:=by
   show(if io z=true then _ else bo xs)=_
   rw[e];rfl
  have hn3:n<=3:=by
   unfold qo at hn
   repeat' split at hn
   all_goals first|(cases hn;decide)|cases hn
  rw[hw]
  exact FA (vk xs) (by omega)
theorem parts_loop(st:S)(w0:Option W):∀(ps:List W)(bs:List Str)(x0:Option W),(∀p∈ps,Th p/\gd p=true)->bs.length+4*ps.length<=1000 ->
  (iy ps bs=true/\∃(x1:Option W)(cs:List Str),cy 2 pq ps [w0,some (.ref st.nxt),x0] (st.new (.lst (bs.map W.str)))=.ok (.nx [w0,some (.ref st.nxt),x1]) (st.new (.lst (cs.map W.str)))) ∨
  (iy ps bs=false/\∃(cs:List W),cy 2 pq ps [w0,some (.ref st.nxt),x0] (st.new (.lst (bs.map W.str)))=.ex (.str "Unbound") (st.new (.lst cs)))
 |[],bs,x0,_,_=>.inl ⟨rfl,x0,bs,rfl⟩
 | p :: ps,bs,x0,h,hl=>by
  obtain⟨hp1,hp2⟩:=h p EK
  rw[EZ] at hl
  have hw:=xf hp1 hp2
  have e0:cy 2 pq (p::ps) [w0,some (.ref st.nxt),x0] (st.new (.lst (bs.map W.str)))=(pq [w0,some (.ref st.nxt),some p] (st.new (.lst (bs.map W.str)))).bind fun fl st'=>match fl with
   |.nx Γ'=>cy 2 pq ps Γ' st'
   |.ct Γ'=>cy 2 pq ps Γ' st'
   |.bk Γ'=>.ok (.nx Γ') st'
   |.rt w=>.ok (.rt w) st':=rfl
  have hit:fb (st.new (.lst (bs.map W.str))) (.ref st.nxt)=some (bs.map W.str):=by
   show MO.items ((st.new (.lst (bs.map W.str))).mu st.nxt)=_
   rw[fe];rfl
  have hnb:=gD (zs:=ig p) (st.new (.lst (bs.map W.str))) hit fun z hz=>fM hz
  cases e:cu (ig p) bs with
  | true =>
   rw[e,FJ rfl] at hnb
   have hm:dw "list" (aa 1) (ad (runN (ad (aa 2) af) (ao qy)) af) xj [w0,some (.ref st.nxt),some p] (st.new (.lst (bs.map W.str)))=.ok .non (st.new (.lst ((bs++bz p).map W.str))):=by
    unfold dw
    have hk:ng (st.new (.lst (bs.map W.str))) (.ref st.nxt)=some "list":=by
     show MO.kind ((st.new (.lst (bs.map W.str))).mu st.nxt)=_
     rw[fe];rfl
    rw[ip,ah,FJ hk]
    simp only[EV,Nat.reduceSub,Jw _ hp1 hp2]
    show(match (st.new (.lst (bs.map W.str))).mu st.nxt,some ((bz p).map W.str) with
     |some (.lst xs),some zs=>if xs.length+zs.length<=sizeLine then R.ok W.non ((st.new (.lst (bs.map W.str))).put st.nxt (.lst (xs++zs))) else .stuck
     |_,_=>.stuck)=_
    rw[fe]
    show(if (bs.map W.str).length+((bz p).map W.str).length<=sizeLine then R.ok W.non ((st.new (.lst (bs.map W.str))).put st.nxt (.lst (bs.map W.str++(bz p).map W.str))) else .stuck)=_
    rw[FJ (by rw[EQ,EQ];exact dk (by omega)),d0,List.map_append]
   have hb1:pq [w0,some (.ref st.nxt),some p] (st.new (.lst (bs.map W.str)))=.ok (.nx [w0,some (.ref st.nxt),some p]) (st.new (.lst ((bs++bz p).map W.str))):=by
    unfold pq
    simp only[EV,Nat.reduceSub,Rn _ hp1 hp2,hnb,↓hm]
   have eb:iy (p::ps) bs=iy ps (bs++bz p):=by
    show(cu (ig p) bs&&iy ps (bs++bz p))=_
    rw[e,Bool.true_and]
   rw[e0,hb1,ah,eb]
   exact parts_loop st w0 ps (bs++bz p) (some p) (fun q hq=>h q (ER _ hq)) (by rw[ES];omega)
  | false =>
   rw[e,FK EG] at hnb
   have hb1:pq [w0,some (.ref st.nxt),some p] (st.new (.lst (bs.map W.str)))=.ex (.str "Unbound") (st.new (.lst (bs.map W.str))):=by
    unfold pq
    simp only[EV,Nat.reduceSub,Rn _ hp1 hp2,hnb]
   refine .inr ⟨?_,bs.map W.str,?_⟩
   ·show(cu (ig p) bs&&iy ps (bs++bz p))=_
    rw[e];rfl
   ·rw[e0,hb1];rfl
theorem Jt(st:S)(h:∀p∈ps,Th p/\gd p=true)(hl:ps.length<=200):za [.tup ps] st=if iy ps []=true then .ok .non st else .ex (.str "Unbound") st:=by
 unfold za
 rw[d5]
 unfold Js
 show gu 1 st (ai (ax 1 (runN af (ay true))) (ai (ib 2 (ba (aa 0)) pq) aj) [some (.tup ps),none,none] st)=_
 have hn:runN af (ay true) [some (.tup ps),none,none] st=.ok (.ref st.nxt) (st.new (.lst [])):=rfl
 have hs:ba (aa 0) [some (.tup ps),some (.ref st.nxt),none] (st.new (.lst []))=.ok ps (st.new (.lst [])):=rfl
 rw[cj,DX,hn,ah,ah,fj,cj,jj,hs,ah]
 rcases parts_loop st (some (.tup ps)) ps [] none h (by simp;omega) with⟨e,x1,cs,el⟩|⟨e,cs,el⟩
 ·rw[show(st.new (.lst []))=st.new (.lst (([]:List Str).map W.str)) from rfl,el,e]
  show gu 1 st (.ok (.nx _) (st.new (.lst (cs.map W.str))))=_
  rw[vZ,vn (ii st _) rfl];rfl
 ·rw[show(st.new (.lst []))=st.new (.lst (([]:List Str).map W.str)) from rfl,el,e]
  show gu 1 st (.ex (.str "Unbound") (st.new (.lst cs)))=_
  rw[wC,xg (ii st _)];rfl
theorem iK(st:S)(h:Th w):wy [w] st=if jr w=true then(match w with|.tup ps=>if iy ps []=true then .ok w st else .ex (.str "Unbound") st|_=>.stuck) else .ex (.str "BadRule") st:=by
 have hb:=Lm st h
 unfold wy
 rw[d5]
 unfold Kk
 simp only[Nat.sub_self,rn]
 cases e:jr w with
 |false =>
  rw[e] at hb
  simp only[EV,Nat.reduceSub,hb,Bool.not_false,if_true,if_false,Bool.false_eq_true]
 | true =>
  rw[e] at hb
  cases h with
  | tup ps hl hw =>
   have e':=e
   unfold jr at e'
   simp only[FE,decide_eq_true_eq,List.all_eq_true] at e'
   have hn:=Jt st (fun p hp=>⟨hw p hp,e'.2 p hp⟩) (by omega)
   cases eb:iy ps [] with
   |true =>
    rw[eb,FJ rfl] at hn
    simp only[EV,Nat.reduceSub,hb,Bool.not_true,if_false,if_true,Bool.false_eq_true,hn,eb]
   |false =>
    rw[eb,FK EG] at hn
    simp only[EV,Nat.reduceSub,hb,Bool.not_true,if_false,if_true,Bool.false_eq_true,hn,eb]
  |_=>cases e
theorem Lq(P:W->Prop):∀(items acc:List W),(∀x∈items,∃y,P y/\re (some x::Γc) st=.ok y st)->∃ys:List W,ys.length=items.length/\(∀y∈ys,P y)/\gc (ac (.bl true)) re Γc items acc st=.ok (acc++ys) st
 |[],acc,_=>⟨[],rfl,(fun y h=>by cases h),by simp[gc]⟩
 | x::xs,acc,h=>by
  obtain⟨y,hy,e⟩:=h x EK
  obtain⟨ys,h1,h2,h3⟩:=Lq P xs (acc++[y]) fun z hz=>h z (ER _ hz)
  refine⟨y::ys,by rw[EZ,EZ,h1],fun z hz=>?_,?_⟩
  ·rcases List.mem_cons.mp hz with rfl|hz
   ·exact hy
   ·exact h2 z hz
  ·show((re (some x::Γc) st).calm.bind fun y st2=>gc (ac (.bl true)) re Γc xs (acc++[y]) st2)=_
   rw[e,rp,ah,h3]
   simp
theorem Ex(P:W->Prop)(hs:src Γ st=.ok items st)(hl:items.length<=1000)(h:∀x∈items,∃y,P y/\re (some x::fh cap Γ) st=.ok y st) :
  ∃ys:List W,ys.length=items.length/\(∀y∈ys,P y)/\ck false src cap (ac (.bl true)) re Γ st=.ok (.lst ys) st:=by
 obtain⟨ys,h1,h2,h3⟩:=Lq P items [] h
 refine⟨ys,h1,h2,?_⟩
 unfold ck
 rw[hs,ah,FJ (FH hl (by decide)),h3,ah,List.nil_append]
 exact ky _ (by rw[h1];exact dk hl)
theorem x9(h:w∈ju 0 n):∃k:Nat,k<n/\w=.int k:=by
 unfold ju at h
 obtain⟨i,hi,rfl⟩:=List.mem_map.mp h
 exact⟨i,List.mem_range.mp hi,by rw[Int.zero_add]⟩
theorem ph(n:Nat):(ju 0 n).length=n:=by unfold ju;rw[EQ,List.length_range]
def Nj(w:W):Prop:=∃c,lp c/\w=.str ⟨#[c]⟩
theorem Ta:∀(ys:List W),(∀y∈ys,Nj y)->∃cs:List Nat,ys=cs.map (fun c=>W.str ⟨#[c]⟩)/\∀c∈cs,lp c
 |[],_=>⟨[],rfl,fun c h=>by cases h⟩
 |y::ys,h=>by
  obtain⟨c,hc,rfl⟩:=h y EK
  obtain⟨cs,h1,h2⟩:=Ta ys fun z hz=>h z (ER _ hz)
  refine⟨c::cs,by rw[h1];rfl,fun d hd=>?_⟩
  rcases List.mem_cons.mp hd with rfl|hd
  ·exact hc
  ·exact h2 d hd
theorem Tq(zs:List Str):la (zs.map W.str)=some zs:=by
 induction zs with
 |nil=>rfl
 |cons z zs ih=>show(la (zs.map W.str)).map (z::·)=_;rw[ih];rfl
theorem oY(cs:List Nat):(((cs.map fun c=>(⟨#[c]⟩:Str)).map (·.length)).sum)=cs.length:=by
 induction cs with
 |nil=>rfl
 |cons c cs ih=>rw[FN,FN,List.sum_cons,ih,EZ];show 1+_=_;omega
theorem Ug:∀cs:List Nat,(cs.map fun c=>[c]).flatten=cs
 |[]=>rfl
 |c::cs=>by rw[FN,List.flatten_cons,Ug cs];rfl
theorem gF(cs:List Nat)(st:S)(h:cs.length<=1000):xu (.str "") [.lst (cs.map fun c=>W.str ⟨#[c]⟩)] st=.ok (.str ⟨cs.toArray⟩) st:=by
 have e1:la (cs.map fun c=>W.str ⟨#[c]⟩)=some (cs.map fun c=>(⟨#[c]⟩:Str)):=by
  have:=Tq (cs.map fun c=>(⟨#[c]⟩:Str))
  rw[List.map_map] at this
  exact this
 have e2:Txt.join "" (cs.map fun c=>(⟨#[c]⟩:Str))=⟨cs.toArray⟩:=by
  apply F3
  rw[rT,List.map_map]
  show((cs.map fun c=>[c])).flatten=cs.toArray.toList
  rw[List.toList_toArray]
  exact Ug cs
 show(match la (cs.map fun c=>W.str ⟨#[c]⟩) with
  |some (ys:List Str)=>if (("" : Str).length<=16/\(ys.map (fun(y:Str)=>y.length)).sum+ys.length<=1048576) then R.ok (W.str (Txt.join "" ys)) st else .stuck
  |none=>.stuck)=_
 rw[e1]
 show(if (("" : Str).length<=16/\((cs.map fun c=>(⟨#[c]⟩:Str)).map (·.length)).sum+(cs.map fun c=>(⟨#[c]⟩:Str)).length<=1048576) then R.ok (W.str (Txt.join "" (cs.map fun c=>(⟨#[c]⟩:Str)))) st else .stuck)=_
 rw[FJ ⟨by decide,by rw[oY,EQ];omega⟩,e2]
theorem kX(ha:a Γ st=.ok (.str "abcdefghijklmnopqrstuvwxyz") st)(hb:b Γ st=.ok (.int i) st)(h0:0<=i)(h1:i<26):∃w,Nj w/\ae a b ak Γ st=.ok w st:=by
 refine⟨.str ⟨#[97+i.toNat]⟩,⟨_,⟨by omega,by omega⟩,rfl⟩,?_⟩
 rw[cz,ha,ah,hb,ah]
 refine Nb _ i _ (by decide) ?_
 have:=gi (cp "abcdefghijklmnopqrstuvwxyz") i.toNat _ (Zv i.toNat (by omega))
 rwa [show((i.toNat:Nat):Int)=i from by omega] at this
theorem iu(i:Int)(k:Int)(h:0<k):0<=i % k/\i % k<k:=⟨Int.emod_nonneg i (by omega),Int.emod_lt_of_pos i h⟩
theorem pC(h1:1<=z.length)(h2:z.length<=8):lr z=true:=by
 unfold lr
 rw[decide_eq_true (by omega),FJ rfl]
 exact decide_eq_true (by omega)
theorem G9(h:∀c∈cp z,lp c):sm z=true:=by
 unfold sm
 rw[List.all_map,List.all_eq_true]
 intro c hc
 exact pB (h c hc)
theorem Mw(e:cp z=g::r)(hg:Fd g)(hr:∀c∈r,lp c)(hl:r.length<=7):jq z=true/\z.length<=8:=by
 have hz:z.length=r.length+1:=by rw[<-sf,e,EZ]
 refine⟨?_,by omega⟩
 unfold jq
 rw[FJ (pC (by omega) (by omega))]
 have hg':xy z=true:=by
  unfold xy
  have:z.cps.toList=g::r:=e
  rw[this]
  exact rG hg
 rw[FJ hg']
 apply G9
 rw[show(some (1:Int))=some ((1:Nat):Int) from rfl,Vq,e]
 exact hr
def jm(z:Str):Prop:=jq z=true/\z.length<=8
theorem Eg(f:W->Option W)(hf:∀z,f (.str z)=some (.str z)):∀zs:List Str,frzs f (zs.map W.str)=some (zs.map W.str)
 |[]=>rfl
 |z::zs=>by
  show(match f (.str z),frzs f (zs.map W.str) with|some y,some ys=>some (y::ys)|_,_=>none)=_
  rw[hf,Eg f hf zs];rfl
theorem Tw(st:S)(zs:List Str):keep st st (.lst (zs.map W.str))=.ok (.lst (zs.map W.str)) st:=by
 refine vn (fun _ _=>rfl) ?_
 show(frzs (frz st.nxt st.mu 11) (zs.map W.str)).map W.lst=_
 rw[Eg (frz st.nxt st.mu 11) fun _=>rfl];rfl
theorem eU(st:S)(zs:List Str):keep st (st.new (.lst (zs.map W.str))) (.ref st.nxt)=.ok (.lst (zs.map W.str)) st:=by
 refine vn (ii st _) ?_
 show(if st.nxt<st.nxt then _ else(match (st.new (.lst (zs.map W.str))).mu st.nxt with
  |some (.lst xs)=>(frzs (frz st.nxt (st.new (.lst (zs.map W.str))).mu 11) xs).map W.lst
  |some (.dct ks xs)=>(frzs (frz st.nxt (st.new (.lst (zs.map W.str))).mu 11) xs).map (W.dct ks)
  |none=>none))=_
 rw[FK (FF _),fe]
 show(frzs (frz st.nxt (st.new (.lst (zs.map W.str))).mu 11) (zs.map W.str)).map W.lst=_
 rw[Eg (frz st.nxt (st.new (.lst (zs.map W.str))).mu 11) fun _=>rfl];rfl
theorem Ii(ns:List Int)(k:Nat)(st:S):ir [.lst (ns.map W.int),.int k] st=.ok (.int (ns.getD k 0)) st:=by
 unfold ir
 rw[Fe]
 unfold Kn
 rw[cj,Fq,cz,ip,ah,ee,cf,dc,ah,dv,ah,ah,Ya,ah,Zq,ah,kh,EQ]
 by_cases h:(k:Int)<(ns.length:Int)
 ·have hk:k<ns.length:=by omega
  have e:ft (ns.map W.int) (k:Int)=some (.int (ns.getD k 0)):=gi _ _ _ (by rw[EY,EH hk];simp[hk])
  rw[decide_eq_true h,FJ rfl,kx (w:=.int (ns.getD k 0)) (by rw[cz,dc,ah,ip,ah];exact nu _ _ _ e),ah];rfl
 ·have hk:ns.length<=k:=by omega
  rw[FR h,FK EG,xp,ah,fj,kx (w:=.int 0) rfl]
  simp[hk];rfl
noncomputable def Ml:am:=dw "str" (ac (W.str "")) (ad (ck false (ja (ae (ae (aa 0) (ac (W.int 3)) bi) (ac (W.int 8)) bf)) [0,1] (ac (.bl true)) (ae (aa 2) (ae (ae (ae (aa 1) (ac (W.int 52)) bi) (ae (ac (W.int 5)) (aa 0) dj) av) (ac (W.int 26)) bf) ak)) af) xu
theorem sL(c:Int)(Γ:Ga)(st:S):∃cs:List Nat,cs.length<=7/\(∀x∈cs,lp x)/\Ml (some (.int c)::some (.str "abcdefghijklmnopqrstuvwxyz")::Γ) st=.ok (.str ⟨cs.toArray⟩) st:=by
 obtain⟨m0,m1⟩:=iu (c/3) 8 (by decide)
 have hs:ja (ae (ae (aa 0) (ac (W.int 3)) bi) (ac (W.int 8)) bf) (some (.int c)::some (.str "abcdefghijklmnopqrstuvwxyz")::Γ) st=.ok (ju 0 (c/3 % 8).toNat) st:=
  Xu _ _ (by simp only[EV,Nat.reduceSub,show(0:Int)<3 by decide,show(3:Int)<1073741824 by decide,show(0:Int)<8 by decide]) (by omega) (by omega)
 obtain⟨ys,h1,h2,h3⟩:=Ex (cap:=[0,1]) (re:=ae (aa 2) (ae (ae (ae (aa 1) (ac (W.int 52)) bi) (ae (ac (W.int 5)) (aa 0) dj) av) (ac (W.int 26)) bf) ak) Nj hs (by rw[ph];omega) fun x hx=>by
  obtain⟨k,hk,rfl⟩:=x9 hx
  obtain⟨n0,n1⟩:=iu (c/52+5*(k:Int)) 26 (by decide)
  refine kX (i:=(c/52+5*(k:Int)) % 26) rfl ?_ n0 n1
  show ae (ae (ae (aa 1) (ac (W.int 52)) bi) (ae (ac (W.int 5)) (aa 0) dj) av) (ac (W.int 26)) bf [some (.int k),some (.int c),some (.str "abcdefghijklmnopqrstuvwxyz")] st=_
  simp only[EV,Nat.reduceSub,show(0:Int)<52 by decide,show(52:Int)<1073741824 by decide,show(0:Int)<26 by decide,Mz 5 (k:Int) (by decide) (by decide)]
 obtain⟨cs,rfl,h4⟩:=Ta ys h2
 rw[EQ,ph] at h1
 refine⟨cs,by omega,h4,?_⟩
 unfold Ml dw
 rw[df,ah,FJ (show ng st (.str "")=some "str" from rfl),cf,h3,ah,dv,ah,ah]
 exact gF cs st (by omega)
theorem zp(ha:a Γ st=.ok (.str x) st)(hb:b Γ st=.ok (.str y) st)(hl:x.length+y.length<=1000):ae a b av Γ st=.ok (.str (x++y)) st:=by
 rw[cz,ha,ah,hb,ah]
 exact wD x y (dk hl)
theorem Le(ha:a Γ st=.ok (.str x) st)(hb:b Γ st=.ok (.int k) st)(hl:x.length<=1000):dq false a b Γ st=.ok (.str (Txt.slice x none (some k))) st:=by
 rw[Ie,ha,ah,hb,ah]
 exact FJ (dk hl)
theorem mE(ha:a Γ st=.ok (.str x) st)(hb:b Γ st=.ok (.int k) st)(hl:x.length<=1000):dl false a b Γ st=.ok (.str (Txt.slice x (some k) none)) st:=by
 rw[Mx,ha,ah,hb,ah]
 exact FJ (dk hl)
theorem Ft(cs:List Nat):cp ⟨cs.toArray⟩=cs:=by unfold cp;simp
theorem ud(cs:List Nat):(⟨cs.toArray⟩:Str).length=cs.length:=by rw[<-sf,Ft]
theorem rZ(cs:List Nat)(hl:cs.length<=7)(hs:∀x∈cs,lp x)(c:Int)(Γ:Ga)(st:S)(k:Nat)(hk:k<5) :
  ∃z:Str,jm z/\z.length=(((k:Int)+c/24) % 8).toNat+1/\dq false (ae (ac (W.str "N")) (dq false (ae (aa 2) (ac (W.str "abcdefg")) av) (ac (W.int 7))) av) (ae (ac (W.int 1)) (ae (ae (aa 0) (ae (aa 1) (ac (W.int 24)) bi) av) (ac (W.int 8)) bf) av) (some (.int k)::some (.int c)::some (.str ⟨cs.toArray⟩)::Γ) st=.ok (.str z) st:=by
 have e1:=zp (a:=aa 2) (b:=ac (W.str "abcdefg")) (Γ:=some (.int k)::some (.int c)::some (.str ⟨cs.toArray⟩)::Γ) (st:=st) (x:=⟨cs.toArray⟩) (y:="abcdefg") rfl rfl (by rw[ud];show cs.length+7<=1000;omega)
 have le1:((⟨cs.toArray⟩:Str)++("abcdefg" : Str)).length<=14:=by rw[Str.length_append,ud];show cs.length+7<=14;omega
 have e2:=Le (b:=ac (W.int 7)) (k:=7) e1 rfl (by omega)
 have le2:(Txt.slice ((⟨cs.toArray⟩:Str)++("abcdefg" : Str)) none (some 7)).length<=14:=FA (Txt.slice_le _ _ _) le1
 have e3:=zp (a:=ac (W.str "N")) (x:="N") rfl e2 (by show 1+_<=1000;omega)
 have c2:cp (Txt.slice ((⟨cs.toArray⟩:Str)++("abcdefg" : Str)) none (some 7))=(cs++cp "abcdefg").take 7:=by
  rw[show(some (7:Int))=some ((7:Nat):Int) from rfl,Lw,uf,Ft]
 have c3:cp (("N" : Str)++Txt.slice ((⟨cs.toArray⟩:Str)++("abcdefg" : Str)) none (some 7))=78::(cs++cp "abcdefg").take 7:=by
  rw[uf,c2];rfl
 obtain⟨m0,m1⟩:=iu ((k:Int)+c/24) 8 (by decide)
 have e4:ae (ac (W.int 1)) (ae (ae (aa 0) (ae (aa 1) (ac (W.int 24)) bi) av) (ac (W.int 8)) bf) av (some (.int k)::some (.int c)::some (.str ⟨cs.toArray⟩)::Γ) st=.ok (.int (1+((k:Int)+c/24) % 8)) st:=by
  simp only[EV,Nat.reduceSub,show(0:Int)<24 by decide,show(24:Int)<1073741824 by decide,show(0:Int)<8 by decide]
 have e5:=Le e3 e4 (by rw[Str.length_append];show 1+_<=1000;omega)
 have hm:(1+((k:Int)+c/24) % 8)=(((((k:Int)+c/24) % 8).toNat+1:Nat):Int):=by omega
 have c5:cp (Txt.slice (("N" : Str)++Txt.slice ((⟨cs.toArray⟩:Str)++("abcdefg" : Str)) none (some 7)) none (some (1+((k:Int)+c/24) % 8)))=78::(((cs++cp "abcdefg").take 7).take (((k:Int)+c/24) % 8).toNat):=by
  rw[hm,Lw,c3,List.take_succ_cons]
 have sa:∀x∈cp ("abcdefg" : Str),lp x:=by
  intro x hx
  have:x∈[97,98,99,100,101,102,103]:=hx
  simp only[List.mem_cons,List.not_mem_nil,or_false] at this
  unfold lp
  omega
 have l5:=sf (Txt.slice (("N" : Str)++Txt.slice ((⟨cs.toArray⟩:Str)++("abcdefg" : Str)) none (some 7)) none (some (1+((k:Int)+c/24) % 8)))
 rw[c5,EZ,List.length_take,List.length_take,ES,show(cp ("abcdefg" : Str)).length=7 from rfl] at l5
 refine⟨_,?_,by omega,e5⟩
 refine Mw c5 (by unfold Fd;omega) (fun x hx=>?_) (by rw[List.length_take,List.length_take];omega)
 have hx:=List.mem_of_mem_take (List.mem_of_mem_take hx)
 rcases List.mem_append.mp hx with hx|hx
 ·exact hs x hx
 ·exact sa x hx
noncomputable def zx:aq:=ai (ax 6 (ae (aa 1) (ae (ae (ae (aa 0) (ac (W.int 208)) bi) (ae (ac (W.int 7)) (aa 5) dj) av) (ac (W.int 26)) bf) ak))
 (ai (bg (ae (aa 3) (ac (W.int 0)) bw)
  (ai (fm (dw "list" (aa 4) (ad (ae (dw "str" (aa 6) af xm) (aa 2) av) af) kg)) aj)
  (ai (fm (dw "list" (aa 4) (ad (ae (ae (ae (ac (W.str "Q")) (dq false (aa 2) (ae (aa 3) (ac (W.int 1)) na)) av) (aa 6) av) (dl false (aa 2) (aa 3)) av) af) kg)) aj)) aj)
theorem Hj{Γ:Ga}{st:S}{xs:List W}{ro re:am}{w:W}(ho:ro Γ (st.new (.lst xs))=.ok (.ref st.nxt) (st.new (.lst xs)))(he:re Γ (st.new (.lst xs))=.ok w (st.new (.lst xs)))(hl:xs.length<=1000) :
  dw "list" ro (ad re af) kg Γ (st.new (.lst xs))=.ok .non (st.new (.lst (xs++[w]))):=by
 unfold dw
 have hk:ng (st.new (.lst xs)) (.ref st.nxt)=some "list":=by
  show MO.kind ((st.new (.lst xs)).mu st.nxt)=_
  rw[fe];rfl
 rw[ho,ah,FJ hk,cf,he,ah,dv,ah,ah]
 show(match (st.new (.lst xs)).mu st.nxt with
  |some (.lst ys)=>if ys.length<sizeLine then R.ok W.non ((st.new (.lst xs)).put st.nxt (.lst (ys++[w]))) else .stuck
  |_=>.stuck)=_
 rw[fe]
 show(if xs.length<sizeLine then R.ok W.non ((st.new (.lst xs)).put st.nxt (.lst (xs++[w]))) else .stuck)=_
 rw[FJ (FH hl (by decide)),d0]
def wk(cs:List Nat)(at_ m:Nat):List Nat:=if at_=0 then(65+m)::cs else 81::(cs.take (at_ - 1)++[97+m]++cs.drop at_)
theorem nJ(ha:a Γ st=.ok (.str "abcdefghijklmnopqrstuvwxyz") st)(hb:b Γ st=.ok (.int i) st)(h0:0<=i)(h1:i<26):ae a b ak Γ st=.ok (.str ⟨#[97+i.toNat]⟩) st:=by
 rw[cz,ha,ah,hb,ah]
 refine Nb _ i _ (by decide) ?_
 have:=gi (cp "abcdefghijklmnopqrstuvwxyz") i.toNat _ (Zv i.toNat (by omega))
 rwa [show((i.toNat:Nat):Int)=i from by omega] at this
abbrev mK(c:Int)(k:Nat):Nat:=((c/208+7*(k:Int)) % 26).toNat
theorem jM(cs:List Nat)(hl:cs.length<=7)(hs:∀x∈cs,lp x)(c:Int)(at_:Nat)(hat:at_<=cs.length)(st:S)(k:Nat)(hk:k<5)(xs:List W)(hx:xs.length<=1000)(x6:Option W) :
  ∃(z:Str)(y6:Option W),jm z/\cp z=wk cs at_ (mK c k)/\zx [some (.int c),some (.str "abcdefghijklmnopqrstuvwxyz"),some (.str ⟨cs.toArray⟩),some (.int at_),some (.ref st.nxt),some (.int k),x6] (st.new (.lst xs)) =
   .ok (.nx [some (.int c),some (.str "abcdefghijklmnopqrstuvwxyz"),some (.str ⟨cs.toArray⟩),some (.int at_),some (.ref st.nxt),some (.int k),y6]) (st.new (.lst (xs++[.str z]))):=by
 obtain⟨n0,n1⟩:=iu (c/208+7*(k:Int)) 26 (by decide)
 have e6:=nJ (a:=aa 1) (b:=ae (ae (ae (aa 0) (ac (W.int 208)) bi) (ae (ac (W.int 7)) (aa 5) dj) av) (ac (W.int 26)) bf) (Γ:=[some (.int c),some (.str "abcdefghijklmnopqrstuvwxyz"),some (.str ⟨cs.toArray⟩),some (.int at_),some (.ref st.nxt),some (.int k),x6]) (st:=st.new (.lst xs)) (i:=(c/208+7*(k:Int)) % 26) rfl
  (by simp only[EV,Nat.reduceSub,show(0:Int)<208 by decide,show(208:Int)<1073741824 by decide,show(0:Int)<26 by decide,Mz 7 (k:Int) (by decide) (by decide)]) n0 n1
 have hch:lp (97+mK c k):=by unfold lp mK;omega
 have ech:97+mK c k=97+((c/208+7*(k:Int)) % 26).toNat:=rfl
 rw[<-ech] at e6
 generalize eg:mK c k=m at hch e6
 clear ech
 generalize ech:97+m=ch at hch e6
 by_cases h0:at_=0
 ·have b0:((at_:Int) == 0)=true:=by rw[h0];rfl
  have eu:dw "str" (aa 6) af xm [some (.int c),some (.str "abcdefghijklmnopqrstuvwxyz"),some (.str ⟨cs.toArray⟩),some (.int at_),some (.ref st.nxt),some (.int k),some (.str ⟨#[ch]⟩)] (st.new (.lst xs))=.ok (.str ⟨#[ch - 32]⟩) (st.new (.lst xs)):=by
   unfold dw
   rw[aL,ah,FJ (show ng (st.new (.lst xs)) (.str ⟨#[ch]⟩)=some "str" from rfl),dv,ah]
   show(if (⟨#[ch]⟩:Str).length<=5592405 then R.ok (W.str (Txt.upper ⟨#[ch]⟩)) (st.new (.lst xs)) else .stuck)=_
   rw[FJ (show(⟨#[ch]⟩:Str).length<=5592405 from(show 1<=5592405 by decide)),lT hch]
  have ea:=zp (b:=aa 2) (y:=⟨cs.toArray⟩) eu rfl (by have h1:=ud cs;have h2:(⟨#[ch - 32]⟩:Str).length=1:=rfl;omega)
  refine⟨⟨#[ch - 32]⟩++⟨cs.toArray⟩,some (.str ⟨#[ch]⟩),Mw (g:=ch - 32) (r:=cs) (by rw[uf,Ft];rfl) (by unfold Fd;unfold lp at hch;omega) hs hl,?_,?_⟩
  ·unfold wk;rw[FJ h0,uf,Ft,<-ech,show 97+m - 32=65+m by omega];rfl
  have ep:=Hj (ro:=aa 4) (xs:=xs) rfl ea hx
  unfold zx
  simp only[EV,Nat.reduceSub,↓e6,b0,if_true,↓ep]
 ·have b0:((at_:Int) == 0)=false:=beq_false_of_ne (by omega)
  have es1:=Le (a:=aa 2) (b:=ae (aa 3) (ac (W.int 1)) na) (Γ:=[some (.int c),some (.str "abcdefghijklmnopqrstuvwxyz"),some (.str ⟨cs.toArray⟩),some (.int at_),some (.ref st.nxt),some (.int k),some (.str ⟨#[ch]⟩)]) (st:=st.new (.lst xs)) (x:=⟨cs.toArray⟩) (k:=(at_:Int) - 1) rfl (by simp only[EV,Nat.reduceSub]) (by rw[ud];omega)
  have ls1:(Txt.slice (⟨cs.toArray⟩:Str) none (some ((at_:Int) - 1))).length<=7:=FA (Txt.slice_le _ _ _) (by rw[ud];exact hl)
  have ea1:=zp (a:=ac (W.str "Q")) (x:="Q") rfl es1 (by show 1+_<=1000;omega)
  have la1:(("Q" : Str)++Txt.slice (⟨cs.toArray⟩:Str) none (some ((at_:Int) - 1))).length<=8:=by rw[Str.length_append];show 1+_<=8;omega
  have ea2:=zp (b:=aa 6) (y:=⟨#[ch]⟩) ea1 rfl (by show _+1<=1000;omega)
  have la2:((("Q" : Str)++Txt.slice (⟨cs.toArray⟩:Str) none (some ((at_:Int) - 1)))++⟨#[ch]⟩).length<=9:=by rw[Str.length_append];show _+1<=9;omega
  have es2:=mE (a:=aa 2) (b:=aa 3) (Γ:=[some (.int c),some (.str "abcdefghijklmnopqrstuvwxyz"),some (.str ⟨cs.toArray⟩),some (.int at_),some (.ref st.nxt),some (.int k),some (.str ⟨#[ch]⟩)]) (st:=st.new (.lst xs)) (x:=⟨cs.toArray⟩) (k:=(at_:Int)) rfl rfl (by rw[ud];omega)
  have ls2:(Txt.slice (⟨cs.toArray⟩:Str) (some (at_:Int)) none).length<=7:=FA (Txt.slice_le _ _ _) (by rw[ud];exact hl)
  have ea3:=zp ea2 es2 (by omega)
  have hc:cp (((("Q" : Str)++Txt.slice (⟨cs.toArray⟩:Str) none (some ((at_:Int) - 1)))++⟨#[ch]⟩)++Txt.slice (⟨cs.toArray⟩:Str) (some (at_:Int)) none)=81::(cs.take (at_ - 1)++[ch]++cs.drop at_):=by
   rw[uf,uf,uf,show((at_:Int) - 1)=((at_ - 1:Nat):Int) from by omega,Lw,Vq,Ft,F2];rfl
  refine⟨_,some (.str ⟨#[ch]⟩),Mw hc (by unfold Fd;omega) (fun x hx=>?_) ?_,?_,?_⟩
  ·rcases List.mem_append.mp hx with hx|hx
   ·rcases List.mem_append.mp hx with hx|hx
    ·exact hs x (List.mem_of_mem_take hx)
    ·rw[List.mem_singleton.mp hx];exact hch
   ·exact hs x (List.mem_of_mem_drop hx)
  ·rw[ES,ES,List.length_take,List.length_drop,FD];omega
  ·rw[hc];unfold wk;rw[FK h0,ech]
  ·have ep:=Hj (ro:=aa 4) (xs:=xs) rfl ea3 hx
   unfold zx
   simp only[EV,Nat.reduceSub,↓e6,b0,if_false,Bool.false_eq_true,↓ep]
theorem Ss(cs:List Nat)(hl:cs.length<=7)(hs:∀x∈cs,lp x)(c:Int)(at_:Nat)(hat:at_<=cs.length)(st:S):∀(ks:List Nat)(xs:List W)(x5 x6:Option W),(∀k∈ks,k<5)->xs.length+ks.length<=1000 ->
  ∃(zs:List Str)(y5 y6:Option W),(∀z∈zs,jm z)/\zs.map cp=ks.map (fun k=>wk cs at_ (mK c k))/\cy 5 zx (ks.map fun(k:Nat)=>W.int k) [some (.int c),some (.str "abcdefghijklmnopqrstuvwxyz"),some (.str ⟨cs.toArray⟩),some (.int at_),some (.ref st.nxt),x5,x6] (st.new (.lst xs)) =
   .ok (.nx [some (.int c),some (.str "abcdefghijklmnopqrstuvwxyz"),some (.str ⟨cs.toArray⟩),some (.int at_),some (.ref st.nxt),y5,y6]) (st.new (.lst (xs++zs.map W.str)))
 |[],xs,x5,x6,_,_=>⟨[],x5,x6,(fun z h=>by cases h),rfl,by simp[cy]⟩
 | k::ks,xs,x5,x6,hk,hlen=>by
  rw[EZ] at hlen
  obtain⟨z,y6,hz,ez,e⟩:=jM cs hl hs c at_ hat st k (hk k EK) xs (by omega) x6
  obtain⟨zs,z5,z6,h1,h2,h3⟩:=Ss cs hl hs c at_ hat st ks (xs++[.str z]) (some (.int k)) y6 (fun j hj=>hk j (ER _ hj)) (by rw[ES,FD];omega)
  refine⟨z::zs,z5,z6,fun y hy=>?_,by rw[FN,FN,ez,h2],?_⟩
  ·rcases List.mem_cons.mp hy with rfl|hy
   ·exact hz
   ·exact h1 y hy
  ·show((zx [some (.int c),some (.str "abcdefghijklmnopqrstuvwxyz"),some (.str ⟨cs.toArray⟩),some (.int at_),some (.ref st.nxt),some (.int k),x6] (st.new (.lst xs))).bind _)=_
   rw[e,FN]
   rw[List.append_assoc] at h3
   exact h3
theorem Lz(hat:at_<=cs.length)(h:wk cs at_ m=wk cs at_ n):m=n:=by
 unfold wk at h
 by_cases h0:at_=0
 ·rw[FJ h0,FJ h0] at h
  injection h with h _
  omega
 ·rw[FK h0,FK h0] at h
  injection h with _ h
  rw[List.append_assoc,List.append_assoc] at h
  have h:=List.append_cancel_left h
  rw[List.singleton_append,List.singleton_append] at h
  injection h with h _
  omega
structure Five (zs:List Str):Prop where
 len:zs.length=5
 free:∀z∈zs,jm z
 d01:zs[0]?≠zs[1]?
 d02:zs[0]?≠zs[2]?
 d12:zs[1]?≠zs[2]?
theorem vO(f:Str->α)(hl:zs.length=5)(hf:∀z∈zs,jm z)(g:Nat->α)(hg:zs.map f=[g 0,g 1,g 2,g 3,g 4])(h01:g 0≠g 1)(h02:g 0≠g 2)(h12:g 1≠g 2):Five zs:=by
 match zs,hl with
 | [a,b,c,d,e],_ =>
  simp only[FN,List.map_nil,List.cons.injEq,and_true] at hg
  obtain⟨e0,e1,e2,_,_⟩:=hg
  refine⟨rfl,hf,fun h=>?_,fun h=>?_,fun h=>?_⟩
  ·have h:a=b:=by simpa using h
   exact h01 (by rw[<-e0,<-e1,h])
  ·have h:a=c:=by simpa using h
   exact h02 (by rw[<-e0,<-e2,h])
  ·have h:b=c:=by simpa using h
   exact h12 (by rw[<-e1,<-e2,h])
theorem oE(P:Nat->Str->Prop)(hs:src Γ st=.ok (ju 0 5) st)(h:∀k,k<5->∃z,P k z/\re (some (.int (k:Nat))::fh cap Γ) st=.ok (.str z) st) :
  ∃z0 z1 z2 z3 z4,P 0 z0/\P 1 z1/\P 2 z2/\P 3 z3/\P 4 z4/\ck false src cap (ac (.bl true)) re Γ st=.ok (.lst [.str z0,.str z1,.str z2,.str z3,.str z4]) st:=by
 obtain⟨z0,p0,e0⟩:=h 0 (by decide)
 obtain⟨z1,p1,e1⟩:=h 1 (by decide)
 obtain⟨z2,p2,e2⟩:=h 2 (by decide)
 obtain⟨z3,p3,e3⟩:=h 3 (by decide)
 obtain⟨z4,p4,e4⟩:=h 4 (by decide)
 refine⟨z0,z1,z2,z3,z4,p0,p1,p2,p3,p4,?_⟩
 unfold ck
 rw[hs,ah,FJ (show(ju 0 5).length<sizeLine by rw[ph];decide)]
 show((gc (ac (.bl true)) re (fh cap Γ) [.int ((0:Nat):Int),.int ((1:Nat):Int),.int ((2:Nat):Int),.int ((3:Nat):Int),.int ((4:Nat):Int)] [] st).bind _)=_
 have step:∀(x:W)(xs acc:List W)(y:W),re (some x::fh cap Γ) st=.ok y st->gc (ac (.bl true)) re (fh cap Γ) (x::xs) acc st=gc (ac (.bl true)) re (fh cap Γ) xs (acc++[y]) st:=fun x xs acc y e=>by
  show((re (some x::fh cap Γ) st).calm.bind fun y st2=>gc (ac (.bl true)) re (fh cap Γ) xs (acc++[y]) st2)=_
  rw[e,rp,ah]
 rw[step _ _ _ _ e0,step _ _ _ _ e1,step _ _ _ _ e2,step _ _ _ _ e3,step _ _ _ _ e4]
 exact ky [.str z0,.str z1,.str z2,.str z3,.str z4] (show 5<=sizeLine by decide)
theorem eX(c:Int)(st:S):∃zs:List Str,Five zs/\m6 [.int c] st=.ok (.lst (zs.map W.str)) st:=by
 unfold m6
 rw[fw]
 unfold Kb
 rw[show(7 - 1:Nat)=6 from rfl,Xv]
 by_cases h0:c % 3=0
 ·have b0:(c % 3 == 0)=true:=beq_iff_eq.mpr h0
  refine⟨["X", "Y", "Zed", "T", "Result"],⟨rfl,?_,by decide +kernel,by decide +kernel,by decide +kernel⟩,?_⟩
  ·have all:([ "X", "Y", "Zed", "T", "Result"]:List Str).all (fun z=>jq z&&decide (z.length<=8))=true:=by decide +kernel
   intro z hz
   have:=List.all_eq_true.mp all z hz
   simp only[FE,decide_eq_true_eq] at this
   exact this
  ·simp only[EV,Nat.reduceSub,show(0:Int)<3 by decide,b0,if_true]
   exact Tw st ["X", "Y", "Zed", "T", "Result"]
 ·have b0:(c % 3 == 0)=false:=beq_false_of_ne h0
  obtain⟨cs,hl,hs,et⟩:=sL c [none,none,none,none,none] st
  unfold Ml at et
  by_cases h1:c % 3=1
  ·have b1:(c % 3 == 1)=true:=beq_iff_eq.mpr h1
   have hr:ja (ac (W.int 5)) [some (.int c),some (.str "abcdefghijklmnopqrstuvwxyz"),some (.str ⟨cs.toArray⟩),none,none,none,none] st=.ok (ju 0 5) st:=rfl
   obtain⟨z0,z1,z2,z3,z4,⟨f0,l0⟩,⟨f1,l1⟩,⟨f2,l2⟩,⟨f3,l3⟩,⟨f4,l4⟩,hy3⟩:=oE (cap:=[0,2]) (re:=dq false (ae (ac (W.str "N")) (dq false (ae (aa 2) (ac (W.str "abcdefg")) av) (ac (W.int 7))) av) (ae (ac (W.int 1)) (ae (ae (aa 0) (ae (aa 1) (ac (W.int 24)) bi) av) (ac (W.int 8)) bf) av)) (fun k z=>jm z/\z.length=(((k:Int)+c/24) % 8).toNat+1) hr fun k hk=>by
    obtain⟨z,h1,h2,h3⟩:=rZ cs hl hs c [] st k hk
    exact⟨z,⟨h1,h2⟩,h3⟩
   refine⟨[z0,z1,z2,z3,z4],⟨rfl,?_,?_,?_,?_⟩,?_⟩
   ·intro z hz
    simp only[List.mem_cons,List.not_mem_nil,or_false] at hz
    rcases hz with rfl|rfl|rfl|rfl|rfl<;>assumption
   ·intro h
    have h:z0=z1:=by simpa using h
    rw[h] at l0;omega
   ·intro h
    have h:z0=z2:=by simpa using h
    rw[h] at l0;omega
   ·intro h
    have h:z1=z2:=by simpa using h
    rw[h] at l1;omega
   simp only[EV,Nat.reduceSub,show(0:Int)<3 by decide,b0,if_false,Bool.false_eq_true,↓et,b1,if_true,↓hy3]
   exact Tw st [z0,z1,z2,z3,z4]
  ·have b1:(c % 3 == 1)=false:=beq_false_of_ne h1
   obtain⟨m0,m1⟩:=iu (c/24) ((cs.length:Int)+1) (by omega)
   have ha:(c/24) % ((cs.length:Int)+1)=(((c/24) % ((cs.length:Int)+1)).toNat:Int):=by omega
   have hm:(0:Int)<(cs.length:Int)+1:=by omega
   have hlen:gj [.str (⟨cs.toArray⟩:Str)] st=.ok (.int (cs.length:Int)) st:=by
    rw[Xz _ (by rw[ud];exact dk (by omega)),ud]
   obtain⟨zs,y5,y6,hy1,hy2,hy3⟩:=Ss cs hl hs c ((c/24) % ((cs.length:Int)+1)).toNat (by omega) st [0,1,2,3,4] [] none none (by intro k hk;simp at hk;omega) (by decide)
   have hz5:zs.length=5:=by have:=congrArg List.length hy2;rw[EQ,EQ] at this;exact this
   rw[List.nil_append] at hy3
   refine⟨zs,vO cp hz5 hy1 (fun k=>wk cs ((c/24) % ((cs.length:Int)+1)).toNat (mK c k)) hy2 (fun h=>?_) (fun h=>?_) (fun h=>?_),?_⟩
   ·have:=Lz (by omega) h;unfold mK at this;omega
   ·have:=Lz (by omega) h;unfold mK at this;omega
   ·have:=Lz (by omega) h;unfold mK at this;omega
   have hr:∀Γ:Ga,ja (ac (W.int 5)) Γ (st.new (.lst []))=.ok ([0,1,2,3,4].map fun(k:Nat)=>W.int k) (st.new (.lst [])):=fun _=>rfl
   have hn:∀Γ:Ga,runN af (ay true) Γ st=.ok (.ref st.nxt) (st.new (.lst [])):=fun _=>rfl
   unfold zx at hy3
   rw[<-ha] at hy3
   simp only[EV,Nat.reduceSub,show(0:Int)<3 by decide,b0,if_false,Bool.false_eq_true,↓et,b1,show(0:Int)<24 by decide,show(24:Int)<1073741824 by decide,hlen,Na _ _ hm,↓hn,jj,↓hr,↓hy3]
   exact eU st zs
def gk:List Str:=["count", "sum", "least", "most"]
def qi(z:Str):Bool:=gk.any fun a=>a == z
noncomputable def Nr:W->Bool
 |.str z=>qi z
 |_=>false
theorem DQ(z:Str)(st:S):cn (.str z) Gq st=.ok (.bl (qi z)) st:=by
 show(match kc (.str z) (gk.map W.str) with|some r=>R.ok (W.bl r) st|none=>.stuck)=_
 rw[rm];rfl
theorem vF(st:S)(h:Th w):l7 [w] st=.ok (.bl (Nr w)) st:=by
 cases h with
 |str z hz =>
  unfold l7
  rw[fw]
  unfold Jv
  have h1:cb [.str z,.ty "str"] st=.ok (.bl true) st:=rfl
  simp only[EV,Nat.reduceSub,h1,DQ,if_true]
  rfl
 |_=>rfl
noncomputable def uz(w:W)(k:Str):Bool:=if k = "count" then(match w with
 |.str z=>z == ""
 |_=>false) else jf w
theorem nV(st : S)(h:Th w)(k:Str):Gj [w,.str k] st=.ok (.bl (uz w k)) st:=by
  have hf:=Ef st h
  unfold Gj
  rw[Fe]
  unfold Ju uz
  by_cases hk:k = "count"
  · have b : (k == ("count" : Str))=true:=by rw[hk];rfl
    rw[FJ hk]
    cases h with
    | str z hz =>
      have h1:cb [.str z,.ty "str"] st=.ok (.bl true) st:=rfl
      simp only[EV,Nat.reduceSub,b,if_true,h1]
    | int i => have h1:cb [.int i,.ty "str"] st=.ok (.bl false) st:=rfl
               simp only[EV,Nat.reduceSub,b,if_true,h1,if_false,Bool.false_eq_true]
    | bl i => have h1:cb [.bl i,.ty "str"] st=.ok (.bl false) st:=rfl
              simp only[EV,Nat.reduceSub,b,if_true,h1,if_false,Bool.false_eq_true]
    | non => have h1:cb [.non,.ty "str"] st=.ok (.bl false) st:=rfl
             simp only[EV,Nat.reduceSub,b,if_true,h1,if_false,Bool.false_eq_true]
    | lst i => have h1:cb [.lst i,.ty "str"] st=.ok (.bl false) st:=rfl
               simp only[EV,Nat.reduceSub,b,if_true,h1,if_false,Bool.false_eq_true]
    | tup i j k => have h1:cb [.tup i,.ty "str"] st=.ok (.bl false) st:=rfl
                   simp only[EV,Nat.reduceSub,b,if_true,h1,if_false,Bool.false_eq_true]
    | dct i j => have h1:cb [.dct i j,.ty "str"] st=.ok (.bl false) st:=rfl
                 simp only[EV,Nat.reduceSub,b,if_true,h1,if_false,Bool.false_eq_true]
  · have b:(k == ("count" : Str))=false:=beq_false_of_ne hk
    rw[FK hk]
    simp only[EV,Nat.reduceSub,b,if_false,Bool.false_eq_true,hf]
noncomputable def uh:W->Bool
 |.tup ws=>decide (ws.length<=3)&&(ws.all jf&&decide ((SS.onceS (bo ws)).length=ws.length))
 |_=>false
theorem sB(h:ws.all jf=true):ws=(bo ws).map W.str:=by
 rw[<-Ks]
 exact(List.filter_eq_self.mpr fun a ha=>List.all_eq_true.mp h a ha).symm
theorem vG(st:S)(h:Th w):Hf [w] st=.ok (.bl (uh w)) st:=by
 cases h with
 | tup ws hl hw =>
  have h1:∀Γ:Ga,runN (ad (aa 0) (ad (ac (.ty "tuple")) af)) cb (some (.tup ws)::Γ) st=.ok (.bl true) st:=fun _=>rfl
  have ha:=Ij (Γ:=[some (.tup ws)]) jf (src:=ba (aa 0)) (items:=ws) (st:=st) rfl hl fun y hy=>Ef st (hw y hy)
  unfold Hf
  rw[fw]
  unfold Kx
  simp only[Nat.sub_self,rn]
  by_cases c3:ws.length<=3
  ·have d:decide ((3:Int)<(ws.length:Int))=false:=FR (by omega)
   have hk:uh (.tup ws)=(ws.all jf&&decide ((SS.onceS (bo ws)).length=ws.length)):=by
    show(decide (ws.length<=3)&&_)=_
    rw[decide_eq_true c3,Bool.true_and]
   rw[hk]
   cases e:ws.all jf with
   |false =>
    rw[e] at ha
    simp only[EV,Nat.reduceSub,↓h1,zo,d,↓ha,Bool.not_true,Bool.false_eq_true,if_true,if_false]
    rfl
   | true =>
    rw[e] at ha
    have es:la ws=some (bo ws):=by have:=Tq (bo ws);rwa [<-sB e] at this
    have hL:xt (.tup ws) st=.ok (.int (SS.onceS (bo ws)).length) st:=by
     have hf:=vk ws
     show(match la ws with|some zs=>if zs.length<=1000 then R.ok (W.int (SS.onceS zs).length) st else .stuck|none=>.stuck)=_
     rw[es]
     exact FJ (by omega)
    have q:((((SS.onceS (bo ws)).length:Nat):Int) == ((ws.length:Nat):Int))=decide ((SS.onceS (bo ws)).length=ws.length):=by
     rw[Bool.eq_iff_iff,beq_iff_eq,decide_eq_true_iff];omega
    simp only[EV,Nat.reduceSub,↓h1,zo,d,↓ha,hL,q,Bool.not_true,Bool.false_eq_true,if_true,if_false,Bool.true_and]
  ·have d:decide ((3:Int)<(ws.length:Int))=true:=decide_eq_true (by omega)
   have hk:uh (.tup ws)=false:=by
    show(decide (ws.length<=3)&&_)=_
    rw[FR c3];rfl
   rw[hk]
   simp only[EV,Nat.reduceSub,↓h1,zo,d,Bool.not_true,Bool.false_eq_true,if_true,if_false]
 |_=>rfl
noncomputable def yc:List W->Bool
 |[h,b]=>jo h&&jr b
 |_=>false
noncomputable def uc:W->Bool
 |.tup (.str z::xs)=>z == "rule" && yc xs
 |_=>false
noncomputable def so:List W->Bool
 |[h,k,r,v,ks,b]=>(match k with
  |.str kk=>qi kk&&uz v kk
  |_=>false)&&(jo h&&(jf r&&(uh ks&&jr b)))
 |_=>false
noncomputable def vr:W->Bool
 |.tup (.str z::xs)=>z == "gather" && so xs
 |_=>false
theorem Yu(h:xs.length≠2):yc xs=false:=by
 unfold yc
 split
 ·exact absurd rfl h
 ·rfl
theorem Yz(h:xs.length≠6):so xs=false:=by
 unfold so
 split
 ·exact absurd rfl h
 ·rfl
theorem Xj(h:¬∃z xs,w=.tup (.str z::xs)):Fp w = ""/\uc w=false/\vr w=false:=by
 refine⟨?_,?_,?_⟩
 ·unfold Fp
  split
  ·exact absurd ⟨_,_,rfl⟩ h
  ·rfl
 ·unfold uc
  split
  ·exact absurd ⟨_,_,rfl⟩ h
  ·rfl
 ·unfold vr
  split
  ·exact absurd ⟨_,_,rfl⟩ h
  ·rfl
theorem Vt(st:S)(h:Th w):Gk [w] st=.ok (.bl (uc w)) st:=by
 have hw:=Gu st h
 unfold Gk
 rw[fw]
 unfold Jz
 by_cases hz:∃z xs,w=.tup (.str z::xs)
 ·obtain⟨z,xs,rfl⟩:=hz
  have hw:sy [.tup (.str z::xs)] st=.ok (.str z) st:=hw
  have hp:uc (.tup (.str z::xs))=(z == "rule" && yc xs):=rfl
  rw[hp]
  cases e:(z == ("rule" : Str)) with
  |false=>simp only[EV,Nat.reduceSub,hw,e,Bool.false_eq_true,if_false,Bool.false_and]
  | true =>
   by_cases hx:xs.length=2
   ·match xs,hx with
    | [a,b],_ =>
     cases h with
     |tup ws hl hws =>
      have i1:ak (.tup [.str z,a,b]) (.int 1) st=.ok a st:=qj _ _ _
      have i2:ak (.tup [.str z,a,b]) (.int 2) st=.ok b st:=Oe _ _ _ _
      have l1:((([.str z,a,b]:List W).length:Int) == 3)=true:=rfl
      have pa:=Ki st (hws a (by simp))
      have pb:=Lm st (hws b (by simp))
      simp only[EV,Nat.reduceSub,hw,e,l1,i1,i2,pa,pb,if_true,Bool.true_and]
      show _=R.ok (W.bl (jo a&&jr b)) st
      cases jo a<;>rfl
   ·have l1:(((W.str z::xs).length:Int) == 3)=false:=beq_false_of_ne (by rw[EZ];omega)
    simp only[EV,Nat.reduceSub,hw,e,l1,if_true,Bool.false_eq_true,if_false,Bool.true_and,Yu hx]
 ·obtain⟨h1,h2,_⟩:=Xj hz
  rw[h1] at hw
  have e:(("" : Str) == ("rule" : Str))=false:=by decide +kernel
  simp only[EV,Nat.reduceSub,hw,e,Bool.false_eq_true,if_false,h2]
theorem Ue(st:S)(h:Th w):Gy [w] st=.ok (.bl (vr w)) st:=by
 have hw:=Gu st h
 unfold Gy
 rw[fw]
 unfold Kp
 by_cases hz:∃z xs,w=.tup (.str z::xs)
 ·obtain⟨z,xs,rfl⟩:=hz
  have hw:sy [.tup (.str z::xs)] st=.ok (.str z) st:=hw
  have hp:vr (.tup (.str z::xs))=(z == "gather" && so xs):=rfl
  rw[hp]
  cases e:(z == ("gather" : Str)) with
  |false=>simp only[EV,Nat.reduceSub,hw,e,Bool.not_false,if_true,Bool.false_and]
  | true =>
   by_cases hx:xs.length=6
   ·match xs,hx with
    | [a,b,c,d,f,g],_ =>
     cases h with
     | tup ws hl hws =>
      have i1:ak (.tup [.str z,a,b,c,d,f,g]) (.int 1) st=.ok a st:=qj _ _ _
      have i2:ak (.tup [.str z,a,b,c,d,f,g]) (.int 2) st=.ok b st:=Oe _ _ _ _
      have i3:ak (.tup [.str z,a,b,c,d,f,g]) (.int 3) st=.ok c st:=kt _ 3 _ (gi _ 3 _ rfl)
      have i4:ak (.tup [.str z,a,b,c,d,f,g]) (.int 4) st=.ok d st:=kt _ 4 _ (gi _ 4 _ rfl)
      have i5:ak (.tup [.str z,a,b,c,d,f,g]) (.int 5) st=.ok f st:=kt _ 5 _ (gi _ 5 _ rfl)
      have i6:ak (.tup [.str z,a,b,c,d,f,g]) (.int 6) st=.ok g st:=kt _ 6 _ (gi _ 6 _ rfl)
      have l1:((([.str z,a,b,c,d,f,g]:List W).length:Int) == 7)=true:=rfl
      have pa:=Ki st (hws a (by simp))
      have pk:=vF st (hws b (by simp))
      have pr:=Ef st (hws c (by simp))
      have pks:=vG st (hws f (by simp))
      have pb:=Lm st (hws g (by simp))
      by_cases hk:∃kk,b=.str kk
      ·obtain⟨kk,rfl⟩:=hk
       have pv:=nV st (hws d (by simp)) kk
       have pk:l7 [.str kk] st=.ok (.bl (qi kk)) st:=pk
       have hs:so [a,.str kk,c,d,f,g]=((qi kk&&uz d kk)&&(jo a&&(jf c&&(uh f&&jr g)))):=rfl
       rw[hs]
       simp only[EV,Nat.reduceSub,hw,e,l1,i1,i2,i3,i4,i5,i6,pa,pk,pv,pr,pks,pb,if_true,if_false,Bool.not_true,Bool.false_eq_true,Bool.true_and]
       cases qi kk<;>cases uz d kk<;>cases jo a<;>cases jf c<;>cases uh f<;>rfl
      ·have hk0:Nr b=false:=by
        unfold Nr
        split
        ·exact absurd ⟨_,rfl⟩ hk
        ·rfl
       have hs:so [a,b,c,d,f,g]=false:=by
        unfold so
        dsimp only
        split
        ·exact absurd ⟨_,rfl⟩ hk
        ·rfl
       rw[hs]
       rw[hk0] at pk
       simp only[EV,Nat.reduceSub,hw,e,l1,i2,pk,if_true,if_false,Bool.not_true,Bool.not_false,Bool.false_eq_true,Bool.true_and]
   ·have l1:(((W.str z::xs).length:Int) == 7)=false:=beq_false_of_ne (by rw[EZ];omega)
    simp only[EV,Nat.reduceSub,hw,e,l1,if_true,Bool.not_true,Bool.not_false,Bool.false_eq_true,if_false,Bool.true_and,Yz hx]
 ·obtain⟨h1,_,h2⟩:=Xj hz
  rw[h1] at hw
  have e:(("" : Str) == ("gather" : Str))=false:=by decide +kernel
  simp only[EV,Nat.reduceSub,hw,e,Bool.not_false,if_true,h2]
theorem rv(h:Γ[j]?=some (some w))(st:S):aa j Γ st=.ok w st:=by unfold aa;rw[h]
theorem pg(i:Nat)(body:aq)(x:W)(xs:List W)(Γ Γ':Ga)(s s':S)(h:body (Γ.set i (some x)) s=.ok (.nx Γ') s'):cy i body (x::xs) Γ s=cy i body xs Γ' s':=by
 show((body (Γ.set i (some x)) s).bind fun fl st'=>match fl with
  |.nx Γ'=>cy i body xs Γ' st'
  |.ct Γ'=>cy i body xs Γ' st'
  |.bk Γ'=>.ok (.nx Γ') st'
  |.rt w=>.ok (.rt w) st')=_
 rw[h];rfl
theorem Wi(ro ri rv:am)(Γ:Ga)(st:S):ku ro ri rv Γ st=(rv Γ st).bind fun v st1=>(ro Γ st1).bind fun o st2=>(ri Γ st2).bind fun i st3=>(pz o i v st3).bind fun _ st4=>.ok (.nx Γ) st4:=FL rfl rfl
abbrev dW(zs:List Str):MO:=.dct (zs.map Sum.inr) (zs.map fun _=>.bl true)
theorem rF(z:Str)(zs:List Str):uu (Sum.inr z) (zs.map Sum.inr)=zs.any (· == z):=by
 unfold uu
 rw[List.any_map]
 apply List.any_congr rfl
 intro a
 show decide ((Sum.inr a:be)=Sum.inr z)=(a == z)
 rw[Bool.eq_iff_iff,decide_eq_true_iff,beq_iff_eq]
 exact⟨fun h=>Sum.inr.inj h,fun h=>by rw[h]⟩
theorem Tt(k:dy):∀zs:List Str,Fn k (.bl true) (zs.map Sum.inr) (zs.map fun _=>.bl true)=zs.map fun _=>.bl true
 |[]=>rfl
 |z::zs=>by
  show(if (Sum.inr z:be)=k then W.bl true else .bl true)::Fn k (.bl true) (zs.map Sum.inr) (zs.map fun _=>.bl true)=_
  rw[Tt k zs,ite_self];rfl
theorem pM(zs:List Str)(z:Str):ic (zs.map Sum.inr) (zs.map fun _=>.bl true) (Sum.inr z) (.bl true)=((SS.stepS zs z).map Sum.inr,(SS.stepS zs z).map fun _=>.bl true):=by
 unfold ic SS.stepS
 rw[rF]
 by_cases h:zs.any (· == z)=true
 ·rw[FJ h,FJ h,Tt]
 ·rw[FK h,FK h,List.map_append,List.map_append];rfl
theorem pD{st:S}{z:Str}(hl:zs.length<=1000):pz (.ref st.nxt) (.str z) (.bl true) (st.new (dW zs))=.ok () (st.new (dW (SS.stepS zs z))):=by
 show Ez st.nxt (.str z) (.bl true) (st.new (dW zs)) ((st.new (dW zs)).mu st.nxt) (some (Sum.inr z))=_
 rw[fe]
 show(if (zs.map (Sum.inr:Str->be)).length<sizeLine then R.ok () ((st.new (dW zs)).put st.nxt (.dct (ic (zs.map Sum.inr) (zs.map fun _=>.bl true) (Sum.inr z) (.bl true)).1 (ic (zs.map Sum.inr) (zs.map fun _=>.bl true) (Sum.inr z) (.bl true)).2)) else .stuck)=_
 rw[FJ (by rw[EQ];exact FH hl (by decide)),d0,pM]
theorem Ls{st:S}(hi:i≠1):∀(ws:List Str)(Γ:Ga)(zs:List Str),i<Γ.length->Γ[1]?=some (some (.ref st.nxt))->zs.length+ws.length<=1000 ->
  ∃x:Option W,cy i (ai (ku (aa 1) (aa i) (ac (W.bl true))) aj) (ws.map W.str) Γ (st.new (dW zs))=.ok (.nx (Γ.set i x)) (st.new (dW (ws.foldl SS.stepS zs)))
 |[],Γ,zs,h,_,_=>⟨Γ[i],by rw[List.set_getElem_self];rfl⟩
 |w::ws,Γ,zs,h,h1,hl=>by
  rw[EZ] at hl
  have hs:=SS.step_le zs w
  obtain⟨x,e⟩:=Ls hi ws (Γ.set i (some (.str w))) (SS.stepS zs w) (by rw[List.length_set];exact h) (by rw[List.getElem?_set_ne hi];exact h1) (by omega)
  refine⟨x,?_⟩
  rw[List.set_set] at e
  rw[FN,pg (Γ':=Γ.set i (some (.str w))) (s':=st.new (dW (SS.stepS zs w))),e,List.foldl_cons]
  rw[cj,Wi,df,ah,rv (w:=.ref st.nxt) (by rw[List.getElem?_set_ne hi];exact h1),ah,rv (w:=.str w) (by rw[List.getElem?_set_self h]),ah,pD (by omega)]
  rfl
theorem kY(ho:∀m,m<st.nxt->s'.mu m=st.mu m)(zs:List Str):keep st s' (.lst (zs.map W.str))=.ok (.lst (zs.map W.str)) st:=by
 refine vn ho ?_
 show(frzs (frz st.nxt s'.mu 11) (zs.map W.str)).map W.lst=_
 rw[Eg (frz st.nxt s'.mu 11) fun _=>rfl];rfl
noncomputable def bn(ps:List W):List Str:=ps.flatMap bz
theorem Vy(l:List Str)(z:Str):(SS.onceS l).any (fun a=>a == z)=l.any (fun a=>a == z):=by
 have go:∀(l σ:List Str),(l.foldl SS.stepS σ).any (fun a=>a == z)=(σ.any (fun a=>a == z)||l.any (fun a=>a == z)):=by
  intro l
  induction l with
  |nil=>intro σ;simp
  |cons a l ih =>
   intro σ
   rw[List.foldl_cons,ih,SS.step_any,List.any_cons,Bool.or_assoc]
   congr 2
   rw[Bool.eq_iff_iff,decide_eq_true_iff,beq_iff_eq]
   exact eq_comm
 have:=go l []
 unfold SS.onceS
 simpa using this
theorem Ld(zs l:List Str):cu zs (SS.onceS l)=cu zs l:=by
 unfold cu
 apply List.all_congr rfl
 intro z
 exact Vy l z
noncomputable def Ey:aq:=(ai (ib 3 (ba (runN (ad (aa 2) af) (ao qy))) (ai (ku (aa 1) (aa 3) (ac (W.bl true)))
 aj))
 aj)
theorem Wq(st:S)(w0:Option W):∀(ps:List W)(zs:List Str)(x2 x3:Option W),(∀p∈ps,Th p/\gd p=true)->zs.length+4*ps.length<=1000 ->
  ∃y2 y3,cy 2 Ey ps [w0,some (.ref st.nxt),x2,x3] (st.new (dW zs))=.ok (.nx [w0,some (.ref st.nxt),y2,y3]) (st.new (dW ((bn ps).foldl SS.stepS zs)))
 |[],zs,x2,x3,_,_=>⟨x2,x3,rfl⟩
 | p::ps,zs,x2,x3,h,hl=>by
  rw[EZ] at hl
  obtain⟨h1,h2⟩:=h p EK
  have wl:=xf h1 h2
  have fl:=SS.fold_le (bz p) zs
  obtain⟨x,e⟩:=Ls (i:=3) (st:=st) (by decide) (bz p) [w0,some (.ref st.nxt),some p,x3] zs (show 3<4 by decide) rfl (by omega)
  obtain⟨y2,y3,e2⟩:=Wq st w0 ps ((bz p).foldl SS.stepS zs) (some p) x (fun q hq=>h q (ER _ hq)) (by omega)
  refine⟨y2,y3,?_⟩
  have ha:bn (p::ps)=bz p++bn ps:=by unfold bn;rw[List.flatMap_cons]
  rw[ha,List.foldl_append,<-e2]
  refine pg 2 Ey p ps _ _ _ _ ?_
  show Ey [w0,some (.ref st.nxt),some p,x3] (st.new (dW zs))=_
  unfold Ey
  have hs:ba (runN (ad (aa 2) af) (ao qy)) [w0,some (.ref st.nxt),some p,x3] (st.new (dW zs))=.ok ((bz p).map W.str) (st.new (dW zs)):=by
   unfold ba
   simp only[EV,Nat.reduceSub,Jw (st.new (dW zs)) h1 h2]
   rfl
  rw[cj,jj,hs,ah,e]
  rfl
theorem Kt(st:S)(h:∀p∈ps,Th p/\gd p=true)(hl:ps.length<=200):zm [.tup ps] st=.ok (.lst ((SS.onceS (bn ps)).map W.str)) st:=by
 unfold zm
 rw[fw]
 unfold Ku
 rw[show(4 - 1:Nat)=3 from rfl,Xw]
 obtain⟨y2,y3,e⟩:=Wq st (some (.tup ps)) ps [] none none h (by simp;omega)
 have hd:se [some (.tup ps),none,none,none] st=.ok (.ref st.nxt) (st.new (dW [])):=rfl
 have hs:ba (aa 0) [some (.tup ps),some (.ref st.nxt),none,none] (st.new (dW []))=.ok ps (st.new (dW [])):=rfl
 unfold Ey at e
 have hL:∀zs:List Str,zs.length<=1000->jd false [.ref st.nxt] (st.new (dW zs))=.ok (.lst (zs.map W.str)) (st.new (dW zs)):=fun zs hz=>by
  have ed:jk (st.new (dW zs)) (.ref st.nxt)=some (zs.map Sum.inr,zs.map fun _=>.bl true):=by
   show(match (st.new (dW zs)).mu st.nxt with|some (.dct ks ws)=>some (ks,ws)|_=>none)=_
   rw[fe]
  unfold jd
  dsimp only
  rw[ed]
  show ay false ((zs.map Sum.inr).map Fo) (st.new (dW zs))=_
  rw[List.map_map]
  exact ky _ (by rw[EQ];exact dk hz)
 have hb:(SS.onceS (bn ps)).length<=1000:=by
  have h1:=SS.once_le (bn ps)
  have h2:(bn ps).length<=4*ps.length:=by
   clear e hs hd hl h1
   unfold bn
   induction ps with
   |nil=>simp
   |cons p ps ih =>
    rw[List.flatMap_cons,ES,EZ]
    have:=xf (h p EK).1 (h p EK).2
    have:=ih fun q hq=>h q (ER _ hq)
    omega
  omega
 rw[cj,ki,hd,ah,yp,ah,fj,cj,jj,hs,ah,e,ah,fj]
 have hr:runN (ad (aa 1) af) (jd false) [some (.tup ps),some (.ref st.nxt),y2,y3] (st.new (dW ((bn ps).foldl SS.stepS [])))=.ok (.lst ((SS.onceS (bn ps)).map W.str)) (st.new (dW ((bn ps).foldl SS.stepS []))):=by
  rw[ee,cf,ip,ah,dv,ah,ah]
  exact hL (SS.onceS (bn ps)) hb
 rw[kx hr,f6]
 exact kY (ii st _) _
theorem Gz(st:S)(hw:Fk w=some (zs.map W.str))(hb:fb st b=some (bs.map W.str))(h:∀z∈zs,z.length<=8):pe [w,b] st=if cu zs bs=true then .ok .non st else .ex (.str "Unbound") st:=by
 unfold pe
 rw[Ih]
 unfold Gv
 show gu 0 st (ai (ib 2 (ba (aa 0)) nt) aj [some w,some b,none] st)=_
 have hs:ba (aa 0) [some w,some b,none] st=.ok (zs.map W.str) st:=by unfold ba;rw[dc,ah,hw]
 rcases bound_loop (w0:=some w) st hb zs none h with⟨e,x1,el⟩|⟨e,el⟩
 ·rw[cj,jj,hs,ah,el,e];rfl
 ·rw[cj,jj,hs,ah,el,e];rfl
def Jf(o:Option Str)(st:S):R W:=match o with
 |none=>.ok .non st
 |some c=>.ex (.str c) st
noncomputable def xn(ts ps:List W):Option Str:=if iy ps []=true then(if cu (bo ts) (bn ps)=true then none else some "Unbound") else some "Unbound"
theorem eN(st:S)(ht:∀t∈ts,Th t)(hl:ts.length<=1000)(h:∀p∈ps,Th p/\gd p=true)(hp:ps.length<=200):yz [.tup (n::ts),.tup ps] st=Jf (xn ts ps) st:=by
 unfold yz
 rw[Ih]
 unfold Jr xn
 have h1:=Jt st h hp
 have h2:=Kt st h hp
 have h3:=zj (w:=.tup ts) st rfl hl ht
 have h4:=Gz (w:=.lst ((bo ts).map W.str)) (b:=.lst ((SS.onceS (bn ps)).map W.str)) (zs:=bo ts) (bs:=SS.onceS (bn ps)) st rfl rfl fun z hz=>zn hz
 rw[Ld] at h4
 by_cases e1:iy ps []=true
 ·rw[FJ e1] at h1 ⊢
  by_cases e2:cu (bo ts) (bn ps)=true
  ·rw[FJ e2] at h4 ⊢
   simp only[EV,Nat.reduceSub,h1,ml,h3,h2,h4]
   rfl
  ·rw[FK e2] at h4 ⊢
   simp only[EV,Nat.reduceSub,h1,ml,h3,h2,h4]
   rfl
 ·rw[FK e1] at h1 ⊢
  simp only[EV,Nat.reduceSub,h1]
  rfl
noncomputable def xk(ts:List W)(res val:Str)(keys:List Str)(ps:List W):Option Str:=if iy ps []=true then(if (bn ps).any (fun a=>a == res)=true then some "BadRule"
 else if cu (bo [.str val]) (bn ps)=true then(if cu keys (bn ps)=true then(if cu (bo ts) (keys++[res])=true then none else some "Unbound") else some "Unbound") else some "Unbound") else some "Unbound"
theorem Mu{st:S}{bs:List Str}(hb:b=.lst (bs.map W.str))(z:Str):cn (.str z) b st=.ok (.bl (bs.any fun a=>a == z)) st:=by
 subst hb
 show(match kc (.str z) (bs.map W.str) with|some r=>R.ok (W.bl r) st|none=>.stuck)=_
 rw[rm]
theorem vH(a c z:Str)(hΓ:Γ[1]?=some (some (.str z)))(st:S)(ha:a.length<=100)(hc:c.length<=100)(hz:z.length<=100):∃y,kj [ac (W.str a),bb (aa 1) ls,ac (W.str c)] Str.empty Γ st=.ok (.str y) st:=by
 have n0:Str.empty.length=0:=rfl
 have l1:(Str.empty++a).length<=sizeLine:=by rw[Str.length_append,n0];exact dk (by omega)
 have l2:(Str.empty++a++z).length<=sizeLine:=by rw[Str.length_append,Str.length_append,n0];exact dk (by omega)
 have l3:(Str.empty++a++z++c).length<=sizeLine:=by rw[Str.length_append,Str.length_append,Str.length_append,n0];exact dk (by omega)
 have l4:z.length<=sizeLine:=dk (by omega)
 have hr:bb (aa 1) ls Γ st=.ok (.str z) st:=by
  rw[Ig,rv hΓ,ah]
  exact FJ l4
 refine⟨Str.empty++a++z++c,?_⟩
 show(if (Str.empty++a).length<=sizeLine then((bb (aa 1) ls Γ st).bind fun w st1=>match w with
  |.str y=>if (Str.empty++a++y).length<=sizeLine then kj [ac (W.str c)] (Str.empty++a++y) Γ st1 else .stuck
  |_=>.stuck) else .stuck)=_
 rw[FJ l1,hr,ah]
 show(if (Str.empty++a++z).length<=sizeLine then(if (Str.empty++a++z++c).length<=sizeLine then(if (Str.empty++a++z++c).length<=sizeLine then R.ok (W.str (Str.empty++a++z++c)) st else .stuck) else .stuck) else .stuck)=_
 rw[FJ l2,FJ l3,FJ l3]
theorem dQ(st:S)(ht:∀t∈ts,Th t)(hl:ts.length<=1000)(h:∀p∈ps,Th p/\gd p=true)(hp:ps.length<=200)(hr:res.length<=8)(hv:val.length<=100)(hk:∀k∈keys,k.length<=8)(hkl:keys.length<=100) :
  yy [.tup (n::ts),.str res,.str val,.tup (keys.map W.str),.tup ps] st=Jf (xk ts res val keys ps) st:=by
 have e0:yy [.tup (n::ts),.str res,.str val,.tup (keys.map W.str),.tup ps] st=gu 0 st (Gi [some (.tup (n::ts)),some (.str res),some (.str val),some (.tup (keys.map W.str)),some (.tup ps),none] st):=rfl
 rw[e0]
 unfold Gi xk
 have h1:=Jt st h hp
 have h2:=Kt st h hp
 have h3:=zj (w:=.tup ts) st rfl hl ht
 have h3v:=zj (w:=.tup [.str val]) (ws:=[.str val]) st rfl (show 1<=1000 by decide) (fun y hy=>by rw[List.mem_singleton.mp hy];exact .str val hv)
 have hin:=Mu (st:=st) (b:=.lst ((SS.onceS (bn ps)).map W.str)) rfl res
 rw[Vy] at hin
 have h4:=Gz (w:=.lst ((bo [.str val]).map W.str)) (b:=.lst ((SS.onceS (bn ps)).map W.str)) (zs:=bo [.str val]) (bs:=SS.onceS (bn ps)) st rfl rfl fun z hz=>zn hz
 rw[Ld] at h4
 have h5:=Gz (w:=.tup (keys.map W.str)) (b:=.lst ((SS.onceS (bn ps)).map W.str)) (zs:=keys) (bs:=SS.onceS (bn ps)) st rfl rfl hk
 rw[Ld] at h5
 have h6:=Gz (w:=.lst ((bo ts).map W.str)) (b:=.tup ((keys++[res]).map W.str)) (zs:=bo ts) (bs:=keys++[res]) st rfl rfl fun z hz=>zn hz
 have ht1:∀w:W,ap [w] st=.ok (.tup [w]) st:=fun w=>mz [w] (show 1<=sizeLine by decide)
 have hc:av (.tup (keys.map W.str)) (.tup [.str res]) st=.ok (.tup ((keys++[res]).map W.str)) st:=by
  cases keys with
  |nil=>rfl
  |cons k ks =>
   show(if (W.str k::ks.map W.str)≠[]/\(W.str k::ks.map W.str).length + [W.str res].length<=sizeLine then R.ok (W.tup ((W.str k::ks.map W.str)++[W.str res])) st else .stuck)=_
   rw[FJ ⟨by simp,by rw[EZ,EQ,FD];rw[EZ] at hkl;exact dk (by omega)⟩]
   rw[List.map_append];rfl
 by_cases e1:iy ps []=true
 ·rw [FJ e1] at h1 ⊢
  cases e2:(bn ps).any (fun a=>a == res) with
  |true =>
   rw[e2] at hin
   obtain⟨y,hj⟩:=vH "the result " " of a gather stands in its body" res (Γ:=[some (.tup (n::ts)),some (.str res),some (.str val),some (.tup (keys.map W.str)),some (.tup ps),some (.lst ((SS.onceS (bn ps)).map W.str))]) rfl st (by decide) (by decide) (by omega)
   simp only[EV,Nat.reduceSub,h1,h2,hin,if_true,↓hj]
   rfl
  | false =>
   rw[e2] at hin
   rw[FK EG]
   by_cases e3:cu (bo [.str val]) (bn ps)=true
   ·rw[FJ e3] at h4 ⊢
    by_cases e4:cu keys (bn ps)=true
    ·rw[FJ e4] at h5 ⊢
     by_cases e5:cu (bo ts) (keys++[res])=true
     ·rw[FJ e5] at h6 ⊢
      simp only[EV,Nat.reduceSub,h1,h2,hin,if_false,Bool.false_eq_true,ht1,h3v,h4,h5,ml,h3,hc,h6]
      rfl
     ·rw[FK e5] at h6 ⊢
      simp only[EV,Nat.reduceSub,h1,h2,hin,if_false,Bool.false_eq_true,ht1,h3v,h4,h5,ml,h3,hc,h6]
      rfl
    ·rw[FK e4] at h5 ⊢
     simp only[EV,Nat.reduceSub,h1,h2,hin,if_false,Bool.false_eq_true,ht1,h3v,h4,h5]
     rfl
   ·rw[FK e3] at h4 ⊢
    simp only[EV,Nat.reduceSub,h1,h2,hin,if_false,Bool.false_eq_true,ht1,h3v,h4]
    rfl
 ·rw[FK e1] at h1 ⊢
  simp only[EV,Nat.reduceSub,h1]
  rfl
inductive GoodT:W->Prop
 |free (z:Str):jm z->GoodT (.str z)
 |name (z:Str):z∈(["a", "b"]:List Str)->GoodT (.str z)
 |num (i:Int):g6 i=true->GoodT (.int i)
theorem GoodT.th(h:GoodT w):Th w:=by
 cases h with
 |free z hz=>exact .str z (by have:=hz.2;omega)
 |name z hz=>refine .str z ?_;simp only[List.mem_cons,List.not_mem_nil,or_false] at hz;rcases hz with rfl|rfl<;>decide
 |num i hi=>exact .int i
theorem GoodT.term(h:GoodT w):kz w=true:=by
 cases h with
 |free z hz=>show((qg z||false)||jq z)=true;rw[hz.1];simp
 |name z hz =>
  have all:(["a", "b"]:List Str).all (fun z=>qg z)=true:=by decide +kernel
  have:=List.all_eq_true.mp all z hz
  show((qg z||false)||jq z)=true
  rw[this];rfl
 |num i hi=>show((false||g6 i)||false)=true;rw[hi];rfl
structure GPat (n:Str) (ts:List W):Prop where
 nm:qg n=true
 nl:n.length<=8
 tl:ts.length<=4
 tg:∀t∈ts,GoodT t
theorem GPat.ok(h:GPat n ts):Th (.tup (.str n::ts))/\jo (.tup (.str n::ts))=true:=by
 have h1:=h.nl
 have h2:=h.tl
 refine⟨.tup _ (by rw[EZ];omega) fun w hw=>?_,?_⟩
 ·rcases List.mem_cons.mp hw with rfl|hw
  ·exact .str n (by omega)
  ·exact(h.tg w hw).th
 ·show(decide (ts.length<=4)&&(qg n&&ts.all kz))=true
  rw[decide_eq_true h.tl,h.nm,List.all_eq_true.mpr fun t ht=>(h.tg t ht).term];rfl
inductive GPart:W->Prop
 |pat (k n:Str) (ts:List W):k = "has"\/k = "not"->GPat n ts->GPart (.tup [.str k,.tup (.str n::ts)])
 |two (k:Str) (a b:W):k = "less"\/k = "same"->GoodT a->GoodT b->GPart (.tup [.str k,a,b])
 |plus (a b c:W):GoodT a->GoodT b->GoodT c->GPart (.tup [.str "plus",a,b,c])
theorem mh(hl:ws.length<=1000)(h:∀w∈ws,Th w):Th (.tup ws):=.tup ws hl h
theorem GPart.ok(h:GPart p):Th p/\gd p=true:=by
 cases h with
 | pat k n ts hk hp =>
  obtain⟨h1,h2⟩:=hp.ok
  refine⟨mh (show 2<=1000 by decide) fun w hw=>?_,?_⟩
  ·simp only[List.mem_cons,List.not_mem_nil,or_false] at hw
   rcases hw with rfl|rfl
   ·exact .str k (by rcases hk with rfl|rfl<;>decide)
   ·exact h1
  ·rcases hk with rfl|rfl
   ·exact h2
   ·exact h2
 | two k a b hk ha hb =>
  refine⟨mh (show 3<=1000 by decide) fun w hw=>?_,?_⟩
  ·simp only[List.mem_cons,List.not_mem_nil,or_false] at hw
   rcases hw with rfl|rfl|rfl
   ·exact .str k (by rcases hk with rfl|rfl<;>decide)
   ·exact ha.th
   ·exact hb.th
  ·have e:(kz a&&(kz b&&true))=true:=by rw[ha.term,hb.term];rfl
   rcases hk with rfl|rfl
   ·exact e
   ·exact e
 | plus a b c ha hb hc =>
  refine⟨mh (show 4<=1000 by decide) fun w hw=>?_,?_⟩
  ·simp only[List.mem_cons,List.not_mem_nil,or_false] at hw
   rcases hw with rfl|rfl|rfl|rfl
   ·exact .str _ (by decide)
   ·exact ha.th
   ·exact hb.th
   ·exact hc.th
  ·have e:(kz a&&(kz b&&(kz c&&true)))=true:=by rw[ha.term,hb.term,hc.term];rfl
   exact e
structure GPs (ps:List W):Prop where
 l1:1<=ps.length
 l3:ps.length<=3
 g:∀p∈ps,GPart p
theorem GPs.ok(h:GPs ps):Th (.tup ps)/\jr (.tup ps)=true/\∀p∈ps,Th p/\gd p=true:=by
 have h1:=h.l1
 have h3:=h.l3
 refine⟨.tup _ (by omega) fun p hp=>(h.g p hp).ok.1,?_,fun p hp=>(h.g p hp).ok⟩
 show(decide (1<=ps.length/\ps.length<=6)&&ps.all gd)=true
 rw[decide_eq_true ⟨h1,by omega⟩,List.all_eq_true.mpr fun p hp=>(h.g p hp).ok.2];rfl
structure GGat (kk res val:Str) (keys:List Str):Prop where
 kd:qi kk=true
 kl:kk.length<=8
 rs:jm res
 vl:(kk = "count"/\val = "")\/(kk ≠ "count"/\jm val)
 ks:∀k∈keys,jm k
 k3:keys.length<=3
 nd:(SS.onceS keys).length=keys.length
abbrev mx(n:Str)(ts ps:List W):W:=.tup [.str "rule",.tup (.str n::ts),.tup ps]
abbrev je(n:Str)(ts:List W)(kk res val:Str)(keys:List Str)(ps:List W):W:=.tup [.str "gather",.tup (.str n::ts),.str kk,.str res,.str val,.tup (keys.map W.str),.tup ps]
inductive GR:W->Option Str->Prop
 |plain (n:Str) (ts ps:List W):GPat n ts->GPs ps->GR (mx n ts ps) (xn ts ps)
 |gather (n:Str) (ts:List W) (kk res val:Str) (keys:List Str) (ps:List W):GPat n ts->GGat kk res val keys->GPs ps->GR (je n ts kk res val keys ps) (xk ts res val keys ps)
theorem lC(h:∀k∈keys,jm k):bo (keys.map W.str)=keys:=by
 unfold bo
 induction keys with
 |nil=>rfl
 |cons k ks ih =>
  have e:Ge (.str k)=some k:=FJ (h k EK).1
  rw[FN,List.filterMap_cons,e,ih fun z hz=>h z (ER _ hz)]
theorem GGat.val{kk res val:Str}{keys:List Str}(h:GGat kk res val keys):uz (.str val) kk=true/\val.length<=8:=by
 rcases h.vl with⟨rfl,rfl⟩|⟨hk,hv⟩
 ·exact⟨rfl,by decide⟩
 ·refine⟨?_,hv.2⟩
  unfold uz
  rw[FK hk];exact hv.1
theorem GGat.keys{kk res val:Str}{keys:List Str}(h:GGat kk res val keys):uh (.tup (keys.map W.str))=true:=by
 show(decide ((keys.map W.str).length<=3)&&((keys.map W.str).all jf&&decide ((SS.onceS (bo (keys.map W.str))).length=(keys.map W.str).length)))=true
 rw[lC h.ks,EQ,decide_eq_true h.k3,decide_eq_true h.nd,List.all_map,show keys.all (jf ∘ W.str)=true from List.all_eq_true.mpr fun k hk=>(h.ks k hk).1];rfl
theorem GR.th(h:GR w o):Th w:=by
 cases h with
 |plain n ts ps hp hb =>
  refine mh (show 3<=1000 by decide) fun w hw=>?_
  simp only[List.mem_cons,List.not_mem_nil,or_false] at hw
  rcases hw with rfl|rfl|rfl
  ·exact .str _ (by decide)
  ·exact hp.ok.1
  ·exact hb.ok.1
 | gather n ts kk res val keys ps hp hg hb =>
  have h1:=hg.kl
  have h2:=hg.rs.2
  have h3:=hg.val.2
  have h4:=hg.k3
  refine mh (show 7<=1000 by decide) fun w hw=>?_
  simp only[List.mem_cons,List.not_mem_nil,or_false] at hw
  rcases hw with rfl|rfl|rfl|rfl|rfl|rfl|rfl
  ·exact .str _ (by decide)
  ·exact hp.ok.1
  ·exact .str _ (by omega)
  ·exact .str _ (by omega)
  ·exact .str _ (by omega)
  ·refine mh (by rw[EQ];omega) fun w hw=>?_
   obtain⟨k,hk,rfl⟩:=List.mem_map.mp hw
   have:=(hg.ks k hk).2
   exact .str k (by omega)
  ·exact hb.ok.1
theorem pK(st:S)(h:Th w)(h1:uc w=false)(h2:vr w=false):rj [w] st=.ex (.str "BadRule") st:=by
 have p1:=Vt st h
 have p2:=Ue st h
 rw[h1] at p1
 rw[h2] at p2
 unfold rj
 rw[d5]
 unfold Hc
 simp only[EV,Nat.reduceSub,p1,p2,if_false,Bool.false_eq_true]
theorem Xa(st:S)(h:GR w o):rj [w] st=Jf o st:=by
 have p1:=Vt st h.th
 have p2:=Ue st h.th
 unfold rj
 rw[d5]
 unfold Hc
 cases h with
 | plain n ts ps hp hb =>
  obtain⟨_,b2,b3⟩:=hb.ok
  have e1:uc (mx n ts ps)=true:=by
   show(jo (.tup (.str n::ts))&&jr (.tup ps))=true
   rw[hp.ok.2,b2];rfl
  rw[e1] at p1
  have i1:ak (mx n ts ps) (.int 1) st=.ok (.tup (.str n::ts)) st:=qj _ _ _
  have i2:ak (mx n ts ps) (.int 2) st=.ok (.tup ps) st:=Oe _ _ _ _
  have hl:=hb.l3
  have ht:=hp.tl
  have q:=eN (n:=.str n) st (fun t h=>(hp.tg t h).th) (by omega) b3 (by omega)
  cases e:xn ts ps with
  |none =>
   rw[e] at q
   have q:yz [.tup (.str n::ts),.tup ps] st=.ok .non st:=q
   simp only[EV,Nat.reduceSub,p1,i1,i2,q,if_true]
   rfl
  |some c =>
   rw[e] at q
   have q:yz [.tup (.str n::ts),.tup ps] st=.ex (.str c) st:=q
   simp only[EV,Nat.reduceSub,p1,i1,i2,q,if_true]
   rfl
 | gather n ts kk res val keys ps hp hg hb =>
  obtain⟨_,b2,b3⟩:=hb.ok
  have e1:uc (je n ts kk res val keys ps)=false:=rfl
  have e2:vr (je n ts kk res val keys ps)=true:=by
   show((qi kk&&uz (.str val) kk)&&(jo (.tup (.str n::ts))&&(jq res&&(uh (.tup (keys.map W.str))&&jr (.tup ps)))))=true
   rw[hg.kd,hg.val.1,hp.ok.2,hg.rs.1,hg.keys,b2];rfl
  rw[e1] at p1
  rw[e2] at p2
  have i1:ak (je n ts kk res val keys ps) (.int 1) st=.ok (.tup (.str n::ts)) st:=qj _ _ _
  have i3:ak (je n ts kk res val keys ps) (.int 3) st=.ok (.str res) st:=kt _ 3 _ (gi _ 3 _ rfl)
  have i4:ak (je n ts kk res val keys ps) (.int 4) st=.ok (.str val) st:=kt _ 4 _ (gi _ 4 _ rfl)
  have i5:ak (je n ts kk res val keys ps) (.int 5) st=.ok (.tup (keys.map W.str)) st:=kt _ 5 _ (gi _ 5 _ rfl)
  have i6:ak (je n ts kk res val keys ps) (.int 6) st=.ok (.tup ps) st:=kt _ 6 _ (gi _ 6 _ rfl)
  have hl:=hb.l3
  have ht:=hp.tl
  have hv:=hg.val.2
  have hk:=hg.k3
  have q:=dQ (n:=.str n) (res:=res) (val:=val) (keys:=keys) st (fun t h=>(hp.tg t h).th) (by omega) b3 (by omega) hg.rs.2 (by omega) (fun k hk=>(hg.ks k hk).2) (by omega)
  cases e:xk ts res val keys ps with
  |none =>
   rw[e] at q
   have q:yy [.tup (.str n::ts),.str res,.str val,.tup (keys.map W.str),.tup ps] st=.ok .non st:=q
   simp only[EV,Nat.reduceSub,p1,p2,i1,i3,i4,i5,i6,q,if_true,if_false,Bool.false_eq_true]
   rfl
  |some c =>
   rw[e] at q
   have q:yy [.tup (.str n::ts),.str res,.str val,.tup (keys.map W.str),.tup ps] st=.ex (.str c) st:=q
   simp only[EV,Nat.reduceSub,p1,p2,i1,i3,i4,i5,i6,q,if_true,if_false,Bool.false_eq_true]
   rfl
theorem Mn(h:a Γ st=.ok x s'):ai (aw a) aj Γ st=.ok (.rt x) s':=by
 rw[cj,Nt,h];rfl
theorem Ul(f:W->Option W):∀(items acc:List W),(∀x∈items,(f x=none/\rt (some x::Γc) st=.ok (.bl false) st)\/∃y,f x=some y/\rt (some x::Γc) st=.ok (.bl true) st/\re (some x::Γc) st=.ok y st)->gc rt re Γc items acc st=.ok (acc++items.filterMap f) st
 |[],acc,_=>by simp[gc]
 | x::xs,acc,h=>by
  have ih:=fun acc=>Ul f xs acc fun y hy=>h y (ER _ hy)
  show((rt (some x::Γc) st).calm.bind fun b st1=>match b with
   |.bl true=>(re (some x::Γc) st1).calm.bind fun y st2=>gc rt re Γc xs (acc++[y]) st2
   |.bl false=>gc rt re Γc xs acc st1
   |_=>.stuck)=_
  rcases h x EK with⟨e,e1⟩|⟨y,e,e1,e2⟩
  ·rw[e1,rp,ah,List.filterMap_cons,e]
   exact ih acc
  ·rw[e1,rp,ah]
   show((re (some x::Γc) st).calm.bind fun y st2=>gc rt re Γc xs (acc++[y]) st2)=_
   rw[e2,rp,ah,ih,List.filterMap_cons,e,List.append_assoc]
   rfl
noncomputable def ye:W->Option W
 |.tup [.str k,p]=>if io k=true then some p else none
 |_=>none
theorem GPart.pat_of(h:GPart p):(∃k n ts,p=.tup [.str k,.tup (.str n::ts)]/\io k=true/\GPat n ts/\ye p=some (.tup (.str n::ts)))\/(∃k a b r,p=.tup (.str k::a::b::r)/\io k=false/\ye p=none):=by
 cases h with
 |pat k n ts hk hp =>
  have e:io k=true:=by rcases hk with rfl|rfl<;>rfl
  exact .inl ⟨k,n,ts,rfl,e,hp,FJ e⟩
 |two k a b hk ha hb=>exact .inr ⟨k,a,b,[],rfl,by rcases hk with rfl|rfl<;>decide +kernel,rfl⟩
 |plus a b c ha hb hc=>exact .inr ⟨"plus",a,b,[c],rfl,by decide +kernel,rfl⟩
noncomputable def nw:W->Str×Nat
 |.tup (.str n::ts)=>(n,ts.length)
 |_=>("",0)
def yh(w:W):Prop:=∃n ts,w=.tup (.str n::ts)/\GPat n ts
noncomputable def Zu:W->List W
 |.tup [_,_,.tup ps]=>ps
 |.tup [_,_,_,_,_,_,.tup ps]=>ps
 |_=>[]
noncomputable def Zl:W->W
 |.tup (_::h::_)=>h
 |_=>.non
noncomputable def patsR(w:W):List W:=Zl w::(Zu w).filterMap ye
theorem GR.shape(h:GR w o):∃z n ts ms ps,w=.tup (.str z::.tup (.str n::ts)::ms++[.tup ps])/\ms.length<=4/\GPat n ts/\GPs ps/\Zl w=.tup (.str n::ts)/\Zu w=ps:=by
 cases h with
 |plain n ts ps hp hb=>exact⟨_,n,ts,[],ps,rfl,by decide,hp,hb,rfl,rfl⟩
 |gather n ts kk res val keys ps hp hg hb=>exact⟨_,n,ts,[.str kk,.str res,.str val,.tup (keys.map W.str)],ps,rfl,(show 4<=4 by decide),hp,hb,rfl,rfl⟩
theorem GR.pats(h:GR w o):(∀p∈patsR w,yh p)/\(patsR w).length<=4:=by
 obtain⟨z,n,ts,ms,ps,rfl,_,hp,hb,e1,e2⟩:=h.shape
 unfold patsR
 rw[e1,e2]
 refine⟨fun p hp'=>?_,?_⟩
 ·rcases List.mem_cons.mp hp' with rfl|hp'
  ·exact⟨n,ts,rfl,hp⟩
  ·obtain⟨q,hq,e⟩:=List.mem_filterMap.mp hp'
   rcases(hb.g q hq).pat_of with⟨k,m,us,rfl,_,h2,e3⟩|⟨_,_,_,_,_,_,e3⟩
   ·rw[e3] at e;cases e;exact⟨m,us,rfl,h2⟩
   ·rw[e3] at e;cases e
 ·have h1:=List.length_filterMap_le ye ps
  have h2:=hb.l3
  rw[EZ];omega
theorem Ew(st:S)(hl:ms.length<=4):ak (.tup (z::x::ms++[y])) (.int (-1)) st=.ok y st:=by
 refine kt _ (-1) _ ?_
 have:ft (z::x::ms++[y]) (-1)=(z::x::ms++[y])[(z::x::ms).length]?:=by
  unfold ft ly
  rw[FK (by omega),FJ (by simp only[ES,EZ,List.length_nil];omega)]
  show(z::x::ms++[y])[((-1:Int)+((z::x::ms++[y]).length:Nat)).toNat]?=_
  congr 1
  simp only[ES,EZ,List.length_nil];omega
 rw[this,List.getElem?_append_right (EN _),Nat.sub_self];rfl
theorem Fv(Γ:Ga)(st:S):bb (ac (W.int 1)) di Γ st=.ok (.int (-1)) st:=rfl
theorem Vw(h:GR w o)(st:S)(hi:Γ[i]?=some (some w))(ht:∀k:Str,∀Γ,∃r,t Γ st=.ok r st/\cn (.str k) r st=.ok (.bl (io k)) st) :
  ae (runN (ad (ae (aa i) (ac (W.int 1)) ak) af) (ay false)) (ck false (ba (ae (aa i) (bb (ac (W.int 1)) di) ak)) [] (ae (ae (aa 0) (ac (W.int 0)) ak) t cn) (ae (aa 0) (ac (W.int 1)) ak)) av Γ st=.ok (.lst (patsR w)) st:=by
 obtain⟨z,n,ts,ms,ps,rfl,hm,hp,hb,e1,e2⟩:=h.shape
 unfold patsR
 rw[e1,e2]
 have h3:=hb.l3
 have i1:runN (ad (ae (aa i) (ac (W.int 1)) ak) af) (ay false) Γ st=.ok (.lst [.tup (.str n::ts)]) st:=by
  rw[ee,cf,cz,rv hi,ah,df,ah,show ak (.tup (.str z::.tup (.str n::ts)::ms++[.tup ps])) (.int 1) st=.ok (.tup (.str n::ts)) st from qj _ _ _,ah,dv,ah,ah]
  exact ky _ (show 1<=sizeLine by decide)
 have i2:ba (ae (aa i) (bb (ac (W.int 1)) di) ak) Γ st=.ok ps st:=by
  unfold ba
  rw[cz,rv hi,ah,Fv,ah,Ew st hm];rfl
 have i3:ck false (ba (ae (aa i) (bb (ac (W.int 1)) di) ak)) [] (ae (ae (aa 0) (ac (W.int 0)) ak) t cn) (ae (aa 0) (ac (W.int 1)) ak) Γ st=.ok (.lst (ps.filterMap ye)) st:=by
  unfold ck
  rw[i2,ah,FJ (FH h3 (by decide)),Ul ye ps [] fun x hx=>?_,ah,List.nil_append]
  ·exact ky _ (FA (List.length_filterMap_le _ _) (FA h3 (by decide)))
  ·rcases(hb.g x hx).pat_of with⟨k,m,us,rfl,hk,_,e3⟩|⟨k,a,b,r,rfl,hk,e3⟩
   ·obtain⟨r,ht1,ht2⟩:=ht k (some (.tup [.str k,.tup (.str m::us)])::fh [] Γ)
    refine .inr ⟨_,e3,?_,?_⟩
    ·rw[cz,cz,dc,ah,df,ah,mj,ah,ht1,ah,ht2,hk]
    ·rw[cz,dc,ah,df,ah,qj]
   ·obtain⟨r',ht1,ht2⟩:=ht k (some (.tup (.str k::a::b::r))::fh [] Γ)
    refine .inl ⟨e3,?_⟩
    rw[cz,cz,dc,ah,df,ah,mj,ah,ht1,ah,ht2,hk]
 rw[cz,i1,ah,i3,ah]
 have hl:=List.length_filterMap_le ye ps
 exact FJ (dk (by rw[FD];omega))
theorem kK(h:GR w o)(st:S):zd [w] st=.ok (.lst (patsR w)) st:=by
 unfold zd
 rw[fw]
 unfold Kc
 rw[kx (Vw h (t:=ac pd) (i:=0) st rfl fun k Γ=>⟨pd,rfl,g5 k st⟩)];rfl
abbrev aD(A:List (Str×Nat)):MO:=.dct (A.map fun p=>Sum.inr p.1) (A.map fun p=>.int p.2)
theorem Nk(n:Str):∀A:List (Str×Nat),gy (A.map fun p=>(Sum.inr p.1:be)) (A.map fun p=>W.int p.2) (Sum.inr n)=(A.lookup n).map fun k=>W.int k
 |[]=>rfl
 | (m,j)::A=>by
  show(if (Sum.inr m:be)=Sum.inr n then some (W.int j) else gy (A.map fun p=>(Sum.inr p.1:be)) (A.map fun p=>W.int p.2) (Sum.inr n))=_
  rw[List.lookup_cons]
  by_cases h:m=n
  ·subst h
   rw[FJ rfl,beq_self_eq_true];rfl
  ·rw[FK (fun e=>h (Sum.inr.inj e)),beq_false_of_ne (fun e=>h e.symm),Nk n A]
theorem zQ{n:Str}{A:List (Str×Nat)}(h:A.lookup n=none):uu (Sum.inr n) (A.map fun p=>(Sum.inr p.1:be))=false:=by
 unfold uu
 rw[List.any_map,List.any_eq_false]
 intro p hp
 show ¬decide ((Sum.inr p.1:be)=Sum.inr n)=true
 rw[decide_eq_true_iff]
 intro e
 have e:=Sum.inr.inj e
 have:=List.lookup_eq_none_iff.mp h p hp
 rw[e] at this
 simp at this
noncomputable def gq:List (Str×Nat)->List (Str×Nat)->Option (List (Str×Nat))
 |[],A=>some A
 |(n,k)::ps,A=>match A.lookup n with
  |some j=>if j=k then gq ps A else none
  |none=>gq ps (A++[(n,k)])
theorem Hq:∀(a b A:List (Str×Nat)),gq (a++b) A=(gq a A).bind (gq b)
 |[],b,A=>rfl
 | (n,k)::a,b,A=>by
  rw[List.cons_append]
  unfold gq
  cases A.lookup n with
  |some j =>
   dsimp only
   by_cases h:j=k
   ·rw[FJ h,FJ h,Hq a b A]
   ·rw[FK h,FK h];rfl
  |none=>exact Hq a b _
theorem xD(st:S)(A:List (Str×Nat))(n:Str)(k:Nat)(hl:A.length<=1000):qc (.ref st.nxt) [.str n,.int k] (st.new (aD A))=(match A.lookup n with
  |some j=>.ok (.int j) (st.new (aD A))
  |none=>.ok (.int k) (st.new (aD (A++[(n,k)])))):=by
 unfold qc
 dsimp only
 rw[fe]
 show(match gy (A.map fun(p:Str×Nat)=>(Sum.inr p.1:be)) (A.map fun(p:Str×Nat)=>W.int p.2) (Sum.inr n) with
  |some v=>R.ok v (st.new (aD A))
  |none=>if (A.map fun(p:Str×Nat)=>(Sum.inr p.1:be)).length<sizeLine then R.ok (W.int k) ((st.new (aD A)).put st.nxt (.dct (ic (A.map fun(p:Str×Nat)=>(Sum.inr p.1:be)) (A.map fun(p:Str×Nat)=>W.int p.2) (Sum.inr n) (.int k)).1 (ic (A.map fun(p:Str×Nat)=>(Sum.inr p.1:be)) (A.map fun(p:Str×Nat)=>W.int p.2) (Sum.inr n) (.int k)).2)) else .stuck)=_
 rw[Nk]
 cases e:A.lookup n with
 |some j=>rfl
 |none =>
  show(if (A.map fun(p:Str×Nat)=>(Sum.inr p.1:be)).length<sizeLine then _ else _)=_
  rw[FJ (by rw[EQ];exact FH hl (by decide)),d0]
  unfold ic
  rw[FK (by rw[zQ e];exact EG)]
  show R.ok _ (st.new (.dct ((A.map fun(p:Str×Nat)=>(Sum.inr p.1:be))++[Sum.inr n]) ((A.map fun(p:Str×Nat)=>W.int p.2)++[.int k])))=_
  rw[show aD (A++[(n,k)])=.dct ((A.map fun(p:Str×Nat)=>(Sum.inr p.1:be))++[Sum.inr n]) ((A.map fun(p:Str×Nat)=>W.int p.2)++[.int k]) by show MO.dct _ _=_;rw[List.map_append,List.map_append];rfl]
theorem nN(st:S)(ks:List dy)(vs:List W):ng (st.new (.dct ks vs)) (.ref st.nxt)=some "dict":=by
 show MO.kind ((st.new (.dct ks vs)).mu st.nxt)=_
 rw[fe];rfl
theorem Vr{a b c:am}{Γ:Ga}{st:S}{A:List (Str×Nat)}{n:Str}{k:Nat}(hl:A.length<=1000)(ha:a Γ (st.new (aD A))=.ok (.ref st.nxt) (st.new (aD A)))(hb:b Γ (st.new (aD A))=.ok (.str n) (st.new (aD A)))(hc:c Γ (st.new (aD A))=.ok (.int k) (st.new (aD A))) :
  dw "dict" a (ad b (ad c af)) qc Γ (st.new (aD A))=(match A.lookup n with
  |some j=>.ok (.int j) (st.new (aD A))
  |none=>.ok (.int k) (st.new (aD (A++[(n,k)])))):=by
 unfold dw
 rw[ha,ah,FJ (nN st _ _),cf,hb,ah,cf,hc,ah,dv,ah,ah,ah]
 exact xD st A n k hl
noncomputable def qb:aq:=(ai (ax 4 (ae (aa 3) (ac (W.int 0)) ak))
 (ai (ax 5 (ae (runN (ad (aa 3) af) gj) (ac (W.int 1)) na))
 (ai (bg (ae (dw "dict" (aa 1) (ad (aa 4) (ad (aa 5) af)) qc) (aa 5) de)
  (ai (mw "BadWidth" (ad (kj [(ac (W.str "the name ")),(bb (aa 4) ls),(ac (W.str " has two widths"))] Str.empty) af))
 aj)
  aj)
 aj)))
theorem vI(a c z:Str)(i:Nat)(hΓ:Γ[i]?=some (some (.str z)))(st:S)(ha:a.length<=100)(hc:c.length<=100)(hz:z.length<=100):∃y,kj [ac (W.str a),bb (aa i) ls,ac (W.str c)] Str.empty Γ st=.ok (.str y) st:=by
 have n0:Str.empty.length=0:=rfl
 have l1:(Str.empty++a).length<=sizeLine:=by rw[Str.length_append,n0];exact dk (by omega)
 have l2:(Str.empty++a++z).length<=sizeLine:=by rw[Str.length_append,Str.length_append,n0];exact dk (by omega)
 have l3:(Str.empty++a++z++c).length<=sizeLine:=by rw[Str.length_append,Str.length_append,Str.length_append,n0];exact dk (by omega)
 have l4:z.length<=sizeLine:=dk (by omega)
 have hr:bb (aa i) ls Γ st=.ok (.str z) st:=by
  rw[Ig,rv hΓ,ah]
  exact FJ l4
 refine⟨Str.empty++a++z++c,?_⟩
 show(if (Str.empty++a).length<=sizeLine then((bb (aa i) ls Γ st).bind fun w st1=>match w with
  |.str y=>if (Str.empty++a++y).length<=sizeLine then kj [ac (W.str c)] (Str.empty++a++y) Γ st1 else .stuck
  |_=>.stuck) else .stuck)=_
 rw[FJ l1,hr,ah]
 show(if (Str.empty++a++z).length<=sizeLine then(if (Str.empty++a++z++c).length<=sizeLine then(if (Str.empty++a++z++c).length<=sizeLine then R.ok (W.str (Str.empty++a++z++c)) st else .stuck) else .stuck) else .stuck)=_
 rw[FJ l2,FJ l3,FJ l3]
theorem sF{w0 w2 x4 x5:Option W}(st:S)(A:List (Str×Nat)){p:W}(hp:yh p)(hl:A.length<=1000) :
  qb [w0,some (.ref st.nxt),w2,some p,x4,x5] (st.new (aD A))=(match A.lookup (nw p).1 with
   |some j=>if j=(nw p).2 then .ok (.nx [w0,some (.ref st.nxt),w2,some p,some (.str (nw p).1),some (.int (nw p).2)]) (st.new (aD A)) else .ex (.str "BadWidth") (st.new (aD A))
   |none=>.ok (.nx [w0,some (.ref st.nxt),w2,some p,some (.str (nw p).1),some (.int (nw p).2)]) (st.new (aD (A++[nw p])))):=by
 obtain⟨n,ts,rfl,hg⟩:=hp
 have e:nw (.tup (.str n::ts))=(n,ts.length):=rfl
 rw[e]
 unfold qb
 have i0:ak (.tup (.str n::ts)) (.int 0) (st.new (aD A))=.ok (.str n) (st.new (aD A)):=mj _ _
 have il:(((W.str n::ts).length:Nat):Int) - 1=(ts.length:Nat):=by rw[EZ];omega
 have sd:=Vr (a:=aa 1) (b:=aa 4) (c:=aa 5) (Γ:=[w0,some (.ref st.nxt),w2,some (.tup (.str n::ts)),some (.str n),some (.int (ts.length:Nat))]) (st:=st) (A:=A) (n:=n) (k:=ts.length) hl rfl rfl rfl
 cases el:A.lookup n with
 | some j =>
  rw[el] at sd
  dsimp only at sd ⊢
  by_cases hj:j=ts.length
  ·subst hj
   have b:(((ts.length:Nat):Int) == (ts.length:Nat))=true:=beq_self_eq_true _
   rw[FJ rfl]
   simp only[EV,Nat.reduceSub,i0,il,↓sd,b,Bool.not_true,Bool.false_eq_true,if_false]
  ·have b:(((j:Nat):Int) == (ts.length:Nat))=false:=beq_false_of_ne (by omega)
   rw[FK hj]
   have h8:=hg.nl
   obtain⟨y,hj⟩:=vI "the name " " has two widths" n 4 (Γ:=[w0,some (.ref st.nxt),w2,some (.tup (.str n::ts)),some (.str n),some (.int (ts.length:Nat))]) rfl (st.new (aD A)) (by decide) (by decide) (by omega)
   simp only[EV,Nat.reduceSub,i0,il,↓sd,b,Bool.not_false,if_true,↓hj]
 |none =>
  rw[el] at sd
  dsimp only at sd ⊢
  have b:(((ts.length:Nat):Int) == (ts.length:Nat))=true:=beq_self_eq_true _
  simp only[EV,Nat.reduceSub,i0,il,↓sd,b,Bool.not_true,Bool.false_eq_true,if_false]
theorem Wc(i:Nat)(body:aq)(x:W)(xs:List W)(Γ:Ga)(s s':S)(c:W)(h:body (Γ.set i (some x)) s=.ex c s'):cy i body (x::xs) Γ s=.ex c s':=by
 show((body (Γ.set i (some x)) s).bind _)=_
 rw[h];rfl
theorem wd_in(st:S):∀(ps:List W)(A:List (Str×Nat))(x3 x4 x5:Option W),(∀p∈ps,yh p)->A.length+ps.length<=1000 ->
  (∃A' y3 y4 y5,gq (ps.map nw) A=some A'/\A'.length<=A.length+ps.length/\cy 3 qb ps [w0,some (.ref st.nxt),w2,x3,x4,x5] (st.new (aD A))=.ok (.nx [w0,some (.ref st.nxt),w2,y3,y4,y5]) (st.new (aD A')))\/(gq (ps.map nw) A=none/\∃A',cy 3 qb ps [w0,some (.ref st.nxt),w2,x3,x4,x5] (st.new (aD A))=.ex (.str "BadWidth") (st.new (aD A')))
 |[],A,x3,x4,x5,_,_=>.inl ⟨A,x3,x4,x5,rfl,EN _,rfl⟩
 | p::ps,A,x3,x4,x5,h,hl=>by
  rw[EZ] at hl ⊢
  have ht:=sF (w0:=w0) (w2:=w2) (x4:=x4) (x5:=x5) st A (h p EK) (by omega)
  have hq:∀q∈ps,yh q:=fun q hq=>h q (ER _ hq)
  rw[FN]
  have eg:gq (nw p::ps.map nw) A=(match A.lookup (nw p).1 with
   |some j=>if j=(nw p).2 then gq (ps.map nw) A else none
   |none=>gq (ps.map nw) (A++[nw p])):=rfl
  rw[eg]
  cases el:A.lookup (nw p).1 with
  | some j =>
   rw[el] at ht
   dsimp only at ht ⊢
   by_cases hj:j=(nw p).2
   ·rw[FJ hj] at ht ⊢
    rw[pg 3 qb p ps [w0,some (.ref st.nxt),w2,x3,x4,x5] _ _ _ ht]
    rcases wd_in st ps A (some p) (some (.str (nw p).1)) (some (.int (nw p).2)) hq (by omega) with⟨A',y3,y4,y5,e1,e2,e3⟩|⟨e1,A',e2⟩
    ·exact .inl ⟨A',y3,y4,y5,e1,by omega,e3⟩
    ·exact .inr ⟨e1,A',e2⟩
   ·rw[FK hj] at ht ⊢
    exact .inr ⟨rfl,A,Wc 3 qb p ps [w0,some (.ref st.nxt),w2,x3,x4,x5] _ _ _ ht⟩
  | none =>
   rw[el] at ht
   dsimp only at ht ⊢
   rw[pg 3 qb p ps [w0,some (.ref st.nxt),w2,x3,x4,x5] _ _ _ ht]
   rcases wd_in st ps (A++[nw p]) (some p) (some (.str (nw p).1)) (some (.int (nw p).2)) hq (by rw[ES,FD];omega) with⟨A',y3,y4,y5,e1,e2,e3⟩|⟨e1,A',e2⟩
   ·rw[ES,FD] at e2
    exact .inl ⟨A',y3,y4,y5,e1,by omega,e3⟩
   ·exact .inr ⟨e1,A',e2⟩
section
variable {i:Nat} {body:aq} {w x:W} {L:List W} {Γ Γ':Ga} {s s':S} {f k:Nat}
theorem Lb(hw:fg s w=some L)(hx:L[k]?=some x)(h:body (Γ.set i (some x)) s=.ok (.nx Γ') s'):ik i body w (f+1) k Γ s=ik i body w f (k+1) Γ' s':=by
 show(match fg s w with|some ws=>(match ws[k]? with|none=>R.ok (Fl.nx Γ) s|some x=>(body (Γ.set i (some x)) s).bind _)|none=>.stuck)=_
 rw[hw]
 dsimp only
 rw[hx]
 dsimp only
 rw[h];rfl
theorem Li(hw:fg s w=some L)(hx:L[k]?=none):ik i body w (f+1) k Γ s=.ok (.nx Γ) s:=by
 show(match fg s w with|some ws=>(match ws[k]? with|none=>R.ok (Fl.nx Γ) s|some x=>(body (Γ.set i (some x)) s).bind _)|none=>.stuck)=_
 rw[hw]
 dsimp only
 rw[hx]
theorem qW(hw:fg s w=some L)(hx:L[k]?=some x)(h:body (Γ.set i (some x)) s=.ex c s'):ik i body w (f+1) k Γ s=.ex c s':=by
 show(match fg s w with|some ws=>(match ws[k]? with|none=>R.ok (Fl.nx Γ) s|some x=>(body (Γ.set i (some x)) s).bind _)|none=>.stuck)=_
 rw[hw]
 dsimp only
 rw[hx]
 dsimp only
 rw[h];rfl
theorem Wa(hw:fg s w=some L)(hx:L[k]?=some x)(h:body (Γ.set i (some x)) s=.ok (.rt v) s'):ik i body w (f+1) k Γ s=.ok (.rt v) s':=by
 show(match fg s w with|some ws=>(match ws[k]? with|none=>R.ok (Fl.nx Γ) s|some x=>(body (Γ.set i (some x)) s).bind _)|none=>.stuck)=_
 rw[hw]
 dsimp only
 rw[hx]
 dsimp only
 rw[h];rfl
end
theorem j1{α:Type}{R d r:List α}{x:α}(h:R=d++x::r):R[d.length]?=some x:=by
 rw[h,List.getElem?_append_right (EN _),Nat.sub_self];rfl
theorem Oo{α:Type}{R d:List α}(h:R=d++[]):R[d.length]?=none:=by
 rw[h,List.append_nil];exact List.getElem?_eq_none (EN _)
def vf(R:List W):Prop:=∀w∈R,∃o,GR w o
noncomputable def lg(R:List W):List (Str×Nat):=R.flatMap fun w=>(patsR w).map nw
noncomputable def qf:aq:=(ai (ib 3 (ba (runN (ad (aa 2) af) (ao zd))) qb)
 aj)
theorem wd_out{w:W}{R:List W}(st:S)(hw:∀A,fg (st.new (aD A)) w=some R):∀(rest done:List W)(A:List (Str×Nat))(f:Nat)(x2 x3 x4 x5:Option W),R=done++rest->vf rest->A.length+4*rest.length<=1000->rest.length<f ->
  (∃A' y2 y3 y4 y5,gq (lg rest) A=some A'/\ik 2 qf w f done.length [some w,some (.ref st.nxt),x2,x3,x4,x5] (st.new (aD A))=.ok (.nx [some w,some (.ref st.nxt),y2,y3,y4,y5]) (st.new (aD A')))\/(gq (lg rest) A=none/\∃A',ik 2 qf w f done.length [some w,some (.ref st.nxt),x2,x3,x4,x5] (st.new (aD A))=.ex (.str "BadWidth") (st.new (aD A')))
 |[],done,A,f+1,x2,x3,x4,x5,hR,_,_,_=>.inl ⟨A,x2,x3,x4,x5,rfl,Li (hw A) (Oo hR)⟩
 |_,_,_,0,_,_,_,_,_,_,_,h=>by omega
 | r::rest,done,A,f+1,x2,x3,x4,x5,hR,hg,hl,hf=>by
  rw[EZ] at hl hf
  obtain⟨o,ho⟩:=hg r EK
  obtain⟨p1,p2⟩:=ho.pats
  have hs:ba (runN (ad (aa 2) af) (ao zd)) [some w,some (.ref st.nxt),some r,x3,x4,x5] (st.new (aD A))=.ok (patsR r) (st.new (aD A)):=by
   unfold ba
   simp only[EV,Nat.reduceSub,kK ho (st.new (aD A))]
   rfl
  have en:lg (r::rest)=(patsR r).map nw++lg rest:=by unfold lg;rw[List.flatMap_cons]
  rw[en,Hq]
  have hb:∀res,cy 3 qb (patsR r) [some w,some (.ref st.nxt),some r,x3,x4,x5] (st.new (aD A))=res->qf ([some w,some (.ref st.nxt),x2,x3,x4,x5].set 2 (some r)) (st.new (aD A))=res.bind fun fl s=>match fl with
   |.nx Γ=>aj Γ s
   |.ct Γ=>.ok (.ct Γ) s
   |.bk Γ=>.ok (.bk Γ) s
   |.rt v=>.ok (.rt v) s:=fun res e=>by
   show qf [some w,some (.ref st.nxt),some r,x3,x4,x5] (st.new (aD A))=_
   unfold qf
   rw[cj,jj,hs,ah,e]
   cases res with
   |ok fl s=>cases fl<;>rfl
   |ex c s=>rfl
   |stuck=>rfl
  rcases wd_in (w0:=some w) (w2:=some r) st (patsR r) A x3 x4 x5 p1 (by omega) with⟨A',y3,y4,y5,e1,e2,e3⟩|⟨e1,A',e2⟩
  ·have ht:=hb _ e3
   have ht:qf ([some w,some (.ref st.nxt),x2,x3,x4,x5].set 2 (some r)) (st.new (aD A))=.ok (.nx [some w,some (.ref st.nxt),some r,y3,y4,y5]) (st.new (aD A')):=ht
   rw[e1,Lb (hw A) (j1 hR) ht,show done.length+1=(done++[r]).length by simp]
   exact wd_out st hw rest (done++[r]) A' f (some r) y3 y4 y5 (by rw[hR,List.append_assoc];rfl) (fun v hv=>hg v (ER _ hv)) (by omega) (by omega)
  ·have ht:=hb _ e2
   have ht:qf ([some w,some (.ref st.nxt),x2,x3,x4,x5].set 2 (some r)) (st.new (aD A))=.ex (.str "BadWidth") (st.new (aD A')):=ht
   rw[e1]
   exact .inr ⟨rfl,A',qW (hw A) (j1 hR) ht⟩
theorem Uf(f:W->Option W)(hf:∀i,f (.int i)=some (.int i)):∀A:List (Str×Nat),frzs f (A.map fun p=>.int p.2)=some (A.map fun p=>.int p.2)
 |[]=>rfl
 |p::A=>by
  show(match f (.int p.2),frzs f (A.map fun p=>.int p.2) with|some y,some ys=>some (y::ys)|_,_=>none)=_
  rw[hf,Uf f hf A];rfl
abbrev dA(A:List (Str×Nat)):W:=.dct (A.map fun p=>Sum.inr p.1) (A.map fun p=>.int p.2)
theorem Xq(st:S)(A:List (Str×Nat)):keep st (st.new (aD A)) (.ref st.nxt)=.ok (dA A) st:=by
 refine vn (ii st _) ?_
 show(if st.nxt<st.nxt then some (W.ref st.nxt) else(match (st.new (aD A)).mu st.nxt with
  |some (.lst xs)=>(frzs (frz st.nxt (st.new (aD A)).mu 11) xs).map W.lst
  |some (.dct ks xs)=>(frzs (frz st.nxt (st.new (aD A)).mu 11) xs).map (W.dct ks)
  |none=>none))=_
 rw[FK (FF _),fe]
 show(frzs (frz st.nxt (st.new (aD A)).mu 11) (A.map fun p=>.int p.2)).map (W.dct _)=_
 rw[Uf (frz st.nxt (st.new (aD A)).mu 11) fun _=>rfl];rfl
def resW(o:Option (List (Str×Nat)))(st:S):R W:=match o with
 |none=>.ex (.str "BadWidth") st
 |some A=>.ok (dA A) st
theorem Lu{w:W}{R:List W}(st:S)(hw:∀A,fg (st.new (aD A)) w=some R)(hg:vf R)(hl:R.length<=200):nr [w] st=resW (gq (lg R) []) st:=by
 have e0:nr [w] st=gu 1 st (Hb [some w,none,none,none,none,none] st):=rfl
 rw[e0]
 unfold Hb
 have hd:se [some w,none,none,none,none,none] st=.ok (.ref st.nxt) (st.new (aD [])):=rfl
 have hF:∀Γ s,wb 2 (aa 0) qf (some w::Γ) s=ik 2 qf w 4096 0 (some w::Γ) s:=fun _ _=>rfl
 rw[cj,ki,hd,ah,yp,ah,fj,cj]
 rcases wd_out st hw R [] [] 4096 none none none none rfl hg (by simp;omega) (by omega) with⟨A',y2,y3,y4,y5,e1,e2⟩|⟨e1,A',e2⟩
 ·rw[e1]
  have h2:=(hF [some (.ref st.nxt),none,none,none,none] (st.new (aD []))).trans e2
  unfold qf qb at h2
  rw[h2,ah,fj,Mn (ip _ _)]
  exact Xq st A'
 ·rw[e1]
  have h2:=(hF [some (.ref st.nxt),none,none,none,none] (st.new (aD []))).trans e2
  unfold qf qb at h2
  rw[h2,Zr]
  exact xg (ii st _)
theorem gE(h:GoodT w)(st:S):s9 [w] st=.ok (.bl (jf w)) st:=by
 unfold s9
 rw[fw]
 unfold Km
 rw[show(1 - 1:Nat)=0 from rfl,rn]
 cases h with
 | free z hz =>
  have hf:=hz.1
  have h1:runN (ad (aa 0) (ad (ac (.ty "str")) af)) cb [some (.str z)] st=.ok (.bl true) st:=rfl
  have hs:lr z=true:=by
   unfold jq at hf
   by_cases hs:lr z=true
   ·exact hs
   ·rw[FK hs] at hf;cases hf
  have hg:xy z=true:=by
   unfold jq at hf
   rw[FJ hs] at hf
   by_cases hg:xy z=true
   ·exact hg
   ·rw[FK hg] at hf;cases hf
  have h2:=Md (G:=ac (W.str "ABCDEFGHIJKLMNOPQRSTUVWXYZ")) (Γ:=[]) (st:=st) (fun _=>rfl) (by have:=hz.2;omega) hs
  rw[hg] at h2
  have:jf (.str z)=true:=hf
  simp only[EV,Nat.reduceSub,↓h1,↓h2,if_true,this]
 |name z hz =>
  have all:(["a", "b"]:List Str).all (fun z=>lr z&&(!xy z&&(!jq z&&decide (z.length<=100))))=true:=by decide +kernel
  have ha:=List.all_eq_true.mp all z hz
  simp only[FE,Bool.not_eq_true',decide_eq_true_eq] at ha
  obtain⟨hs,hg,hf,hl⟩:=ha
  have h1:runN (ad (aa 0) (ad (ac (.ty "str")) af)) cb [some (.str z)] st=.ok (.bl true) st:=rfl
  have h2:=Md (G:=ac (W.str "ABCDEFGHIJKLMNOPQRSTUVWXYZ")) (Γ:=[]) (st:=st) (fun _=>rfl) hl hs
  rw[hg] at h2
  have:jf (.str z)=false:=hf
  simp only[EV,Nat.reduceSub,↓h1,↓h2,if_true,this]
 |num i hi=>rfl
theorem Hi(st:S)(hs:Fk w=some ws)(hl:ws.length<=1000)(hw:∀y∈ws,GoodT y):kf [w] st=.ok (.lst ((bo ws).map W.str)) st:=by
 unfold kf
 rw[fw]
 unfold Lf
 have e:ck false (ba (aa 0)) [] (runN (ad (aa 0) af) (ao s9)) (aa 0) (some w::List.replicate (1 - 1) none) st=.ok (.lst ((bo ws).map W.str)) st:=by
  unfold ck
  have h1:ba (aa 0) (some w::List.replicate (1 - 1) none) st=.ok ws st:=by
   unfold ba
   rw[dc,ah,hs]
  rw[h1,ah,FJ (FH hl (by decide)),Kd jf ws [] fun x hx=>oq (gE (hw x hx) st),ah,List.nil_append,Ks]
  exact ky _ (by rw[EQ];exact FA (vk ws) (dk hl))
 rw[kx e];rfl
noncomputable def termsP:W->List W
 | .tup (.str z::xs)=>if io z=true then(match xs with
   |[.tup (_::ts)]=>ts
   |_=>[]) else xs
 |_=>[]
theorem Iu(st:S)(h:ts.length<=1000):jd false [.tup ts] st=.ok (.lst ts) st:=ky ts (dk h)
theorem Iw(k:Str)(st:S):cn (.str k) (.tup [.str "has",.str "not"]) st=.ok (.bl (io k)) st:=g5 k st
theorem GPart.terms(h:GPart p):(termsP p).length<=4/\(∀t∈termsP p,GoodT t)/\bo (termsP p)=bz p/\∀st,li [p] st=.ok (.lst (termsP p)) st:=by
 have ht:∀(Γ:Ga)(st:S),runN (ad (ac (W.str "has")) (ad (ac (W.str "not")) af)) ap Γ st=.ok (.tup [.str "has",.str "not"]) st:=fun _ _=>rfl
 cases h with
 |pat k n ts hk hp =>
  have e:io k=true:=by rcases hk with rfl|rfl<;>rfl
  have et:termsP (.tup [.str k,.tup (.str n::ts)])=ts:=FJ e
  have ew:bz (.tup [.str k,.tup (.str n::ts)])=bo ts:=FJ e
  have hl:=hp.tl
  refine⟨by rw[et];omega,by rw[et];exact hp.tg,by rw[et,ew],fun st=>?_⟩
  rw[et]
  unfold li
  rw[fw]
  unfold Ee
  have i0:ak (.tup [.str k,.tup (.str n::ts)]) (.int 0) st=.ok (.str k) st:=mj _ _
  have i1:ak (.tup [.str k,.tup (.str n::ts)]) (.int 1) st=.ok (.tup (.str n::ts)) st:=qj _ _ _
  simp only[EV,Nat.reduceSub,i0,↓ht,Iw,e,if_true,i1,ml,Iu st (show ts.length<=1000 by omega)]
 | two k a b hk ha hb =>
  have e:io k=false:=by rcases hk with rfl|rfl<;>decide +kernel
  have et:termsP (.tup [.str k,a,b])=[a,b]:=FK (by rw[e];exact EG)
  have ew:bz (.tup [.str k,a,b])=bo [a,b]:=FK (by rw[e];exact EG)
  refine⟨by rw[et];exact(show 2<=4 by decide),?_,by rw[et,ew],fun st=>?_⟩
  ·rw[et];intro t ht
   simp only[List.mem_cons,List.not_mem_nil,or_false] at ht
   rcases ht with rfl|rfl<;>assumption
  ·rw[et]
   unfold li
   rw[fw]
   unfold Ee
   have i0:ak (.tup [.str k,a,b]) (.int 0) st=.ok (.str k) st:=mj _ _
   simp only[EV,Nat.reduceSub,i0,↓ht,Iw,e,if_false,Bool.false_eq_true,ml,Iu st (show[a,b].length<=1000 from(show 2<=1000 by decide))]
 | plus a b c ha hb hc =>
  have e:io "plus" = false:=by decide +kernel
  have et:termsP (.tup [.str "plus",a,b,c])=[a,b,c]:=by
   show(if io "plus" = true then[] else[a,b,c])=_
   rw[e];rfl
  have ew:bz (.tup [.str "plus",a,b,c])=bo [a,b,c]:=by
   show(if io "plus" = true then[] else bo [a,b,c])=_
   rw[e];rfl
  refine⟨by rw[et];exact(show 3<=4 by decide),?_,by rw[et,ew],fun st=>?_⟩
  ·rw[et];intro t ht
   simp only[List.mem_cons,List.not_mem_nil,or_false] at ht
   rcases ht with rfl|rfl|rfl<;>assumption
  ·rw[et]
   unfold li
   rw[fw]
   unfold Ee
   have i0:ak (.tup [.str "plus",a,b,c]) (.int 0) st=.ok (.str "plus") st:=mj _ _
   simp only[EV,Nat.reduceSub,i0,↓ht,Iw,e,if_false,Bool.false_eq_true,ml,Iu st (show[a,b,c].length<=1000 from(show 3<=1000 by decide))]
theorem GPart.words(h:GPart p)(st:S)(ha:a Γ st=.ok p st):runN (ad (runN (ad a af) (ao li)) af) (ao kf) Γ st=.ok (.lst ((bz p).map W.str)) st:=by
 obtain⟨h1,h2,h3,h4⟩:=h.terms
 have hw:=Hi (w:=.lst (termsP p)) st rfl (by omega) h2
 rw[h3] at hw
 simp only[EV,Nat.reduceSub,ha,h4,hw]
theorem Yr(z:Str):∀bs:List Str,(gy (bs.map (Sum.inr:Str->be)) (bs.map fun _=>W.bl true) (Sum.inr z)).isSome=bs.any (fun a=>a == z)
 |[]=>rfl
 |b::bs=>by
  show(if (Sum.inr b:be)=Sum.inr z then some (W.bl true) else gy (bs.map (Sum.inr:Str->be)) (bs.map fun _=>W.bl true) (Sum.inr z)).isSome=_
  rw[List.any_cons]
  by_cases h:b=z
  ·subst h;rw[FJ rfl,beq_self_eq_true];rfl
  ·rw[FK (fun e=>h (Sum.inr.inj e)),beq_false_of_ne h,Yr z bs];rfl
theorem DR(st:S)(bs:List Str)(z:Str):cn (.str z) (.ref st.nxt) (st.new (dW bs))=.ok (.bl (bs.any fun a=>a == z)) (st.new (dW bs)):=by
 have ed:jk (st.new (dW bs)) (.ref st.nxt)=some (bs.map Sum.inr,bs.map fun _=>.bl true):=by
  show(match (st.new (dW bs)).mu st.nxt with|some (.dct ks ws)=>some (ks,ws)|_=>none)=_
  rw[fe]
 have e:ul (st.new (dW bs)) (.str z) (.ref st.nxt)=some (bs.any fun a=>a == z):=by
  show(match some (Sum.inr z:be),jk (st.new (dW bs)) (.ref st.nxt) with|some k,some (ks,ws)=>some (gy ks ws k).isSome|_,_=>none)=_
  rw[ed]
  exact congrArg some (Yr z bs)
 unfold cn
 rw[e]
theorem Lc{cap:List Nat}{zs:List Str}{f:Str->Bool}(hs:src Γ st=.ok (zs.map W.str) st)(hl:zs.length<=1000)(h:∀z∈zs,re (some (.str z)::fh cap Γ) st=.ok (.bl (f z)) st) :
  runN (ad (ck false src cap (ac (.bl true)) re) af) ij Γ st=.ok (.bl (zs.all f)) st:=by
 have hc:=Mg (src:=src) (cap:=cap) (re:=re) (Γ:=Γ) (st:=st) (items:=zs.map W.str) (fun w=>match w with|.str z=>W.bl (f z)|w=>w) hs (by rw[EQ];exact FH hl (by decide)) fun x hx=>by
  obtain⟨z,hz,rfl⟩:=List.mem_map.mp hx
  exact h z hz
 rw[ee,cf,hc,ah,dv,ah,ah,List.map_map]
 show(match lu (zs.map fun z=>W.bl (f z)) with|some bs=>R.ok (W.bl (bs.all id)) st|none=>.stuck)=_
 rw[Eo]
 simp
theorem Wh(z:Str):∀(l σ:List Str),(l.foldl SS.stepS σ).any (fun a=>a == z)=(σ.any (fun a=>a == z)||l.any (fun a=>a == z))
 |[],σ=>by simp
 |a::l,σ=>by
  rw[List.foldl_cons,Wh z l,SS.step_any,List.any_cons,Bool.or_assoc]
  congr 2
  rw[Bool.eq_iff_iff,decide_eq_true_iff,beq_iff_eq]
  exact eq_comm
noncomputable def ug:aq:=(ai (ax 3 (runN (ad (runN (ad (aa 2) af) (ao li)) af) (ao kf)))
 (ai (bg (ae (ae (aa 2) (ac (W.int 0)) ak) (ac (W.str "plus")) bw)
  (ai (ax 3 (runN (ad (vq false (aa 2) (ac (W.int 1)) (ac (W.int 3))) af) (ao kf)))
 aj)
  aj)
 (ai (bg (cr (ae (ae (aa 2) (ac (W.int 0)) ak) (ac (W.str "has")) de) (gs (runN (ad (ck false (ba (aa 3)) [1] (ac (.bl true)) (ae (aa 0) (aa 1) cn)) af) ij)))
  (ai (aw (ac (W.str "unbound")))
 aj)
  aj)
 (ai (ib 4 (ba (runN (ad (runN (ad (aa 2) af) (ao li)) af) (ao kf))) (ai (ku (aa 1) (aa 4) (ac (W.bl true)))
 aj))
 aj))))
theorem iZ(h:∀z,bs.any (fun a=>a == z)=cs.any (fun a=>a == z)):cu zs bs=cu zs cs:=by
 unfold cu
 apply List.all_congr rfl
 exact h
theorem GPart.head(h:GPart p):∃z xs,p=.tup (.str z::xs)/\((z = "has"/\ig p=[])\/(z ≠ "has"/\z ≠ "plus"/\ig p=bz p)\/(z = "plus"/\z ≠ "has"/\∃a b c,xs=[a,b,c]/\GoodT a/\GoodT b/\ig p=bo [a,b])):=by
 have n1:("not" : Str) ≠ "has":=by decide +kernel
 have n2:("not" : Str) ≠ "plus":=by decide +kernel
 have n3:("less" : Str) ≠ "has":=by decide +kernel
 have n4:("less" : Str) ≠ "plus":=by decide +kernel
 have n5:("same" : Str) ≠ "has":=by decide +kernel
 have n6:("same" : Str) ≠ "plus":=by decide +kernel
 have n7:("plus" : Str) ≠ "has":=by decide +kernel
 have gen:∀(z:Str)(xs:List W),z ≠ "has"->z ≠ "plus"->ig (.tup (.str z::xs))=bz (.tup (.str z::xs)):=fun z xs h1 h2=>by
  show(if z = "has" then[] else if z = "plus" then _ else bz (.tup (.str z::xs)))=_
  rw[FK h1,FK h2]
 cases h with
 |pat k n ts hk hp =>
  refine⟨k,_,rfl,?_⟩
  rcases hk with rfl|rfl
  ·exact .inl ⟨rfl,rfl⟩
  ·exact .inr (.inl ⟨n1,n2,gen _ _ n1 n2⟩)
 |two k a b hk ha hb =>
  refine⟨k,_,rfl,.inr (.inl ?_)⟩
  rcases hk with rfl|rfl
  ·exact⟨n3,n4,gen _ _ n3 n4⟩
  ·exact⟨n5,n6,gen _ _ n5 n6⟩
 |plus a b c ha hb hc =>
  refine⟨"plus",_,rfl,.inr (.inr ⟨rfl,n7,a,b,c,rfl,ha,hb,?_⟩)⟩
  show(if ("plus" : Str) = "has" then[] else if ("plus" : Str) = "plus" then bo ([a,b,c].take 2) else bz (.tup [.str "plus",a,b,c]))=_
  rw[FK n7,FJ rfl];rfl
theorem bd_turn(st:S)(h:GPart p)(bs:List Str)(hb:bs.length<=900) :
  (cu (ig p) bs=true/\∃y3 y4,ug [w0,some (.ref st.nxt),some p,x3,x4] (st.new (dW bs))=.ok (.nx [w0,some (.ref st.nxt),some p,y3,y4]) (st.new (dW ((bz p).foldl SS.stepS bs))))\/(cu (ig p) bs=false/\ug [w0,some (.ref st.nxt),some p,x3,x4] (st.new (dW bs))=.ok (.rt (.str "unbound")) (st.new (dW bs))):=by
 have wl:=xf h.ok.1 h.ok.2
 have w1:=fun Γ=>h.words (st.new (dW bs)) (a:=aa 2) (Γ:=w0::some (.ref st.nxt)::some p::Γ) (jx _ _ _)
 have sr:∀Γ,ba (runN (ad (runN (ad (aa 2) af) (ao li)) af) (ao kf)) (w0::some (.ref st.nxt)::some p::Γ) (st.new (dW bs))=.ok ((bz p).map W.str) (st.new (dW bs)):=fun Γ=>by
  unfold ba;rw[w1];rfl
 have al:∀(zs:List Str)(y4:Option W),zs.length<=1000->runN (ad (ck false (ba (aa 3)) [1] (ac (.bl true)) (ae (aa 0) (aa 1) cn)) af) ij [w0,some (.ref st.nxt),some p,some (.lst (zs.map W.str)),y4] (st.new (dW bs))=.ok (.bl (cu zs bs)) (st.new (dW bs)):=fun zs y4 hz =>
  Lc (f:=fun z=>bs.any fun a=>a == z) rfl hz fun z _=>by
   show ae (aa 0) (aa 1) cn [some (.str z),some (.ref st.nxt)] (st.new (dW bs))=_
   rw[cz,dc,ah,ip,ah,DR]
 have fin:∀y3:Option W,∃x,cy 4 (ai (ku (aa 1) (aa 4) (ac (W.bl true))) aj) ((bz p).map W.str) [w0,some (.ref st.nxt),some p,y3,x4] (st.new (dW bs))=.ok (.nx [w0,some (.ref st.nxt),some p,y3,x]) (st.new (dW ((bz p).foldl SS.stepS bs))):=fun y3=>by
  obtain⟨x,e⟩:=Ls (i:=4) (st:=st) (by decide) (bz p) [w0,some (.ref st.nxt),some p,y3,x4] bs (show 4<5 by decide) rfl (by omega)
  exact⟨x,e⟩
 unfold ug
 obtain⟨z,xs,ep,hc⟩:=h.head
 have i0:ak p (.int 0) (st.new (dW bs))=.ok (.str z) (st.new (dW bs)):=by rw[ep];exact mj _ _
 rcases hc with⟨rfl,hw⟩|⟨h1,h2,hw⟩|⟨h1,h2,a,b,c,hx,ha,hb',hw⟩
 ·have b1:(("has" : Str) == ("plus" : Str))=false:=by decide +kernel
  have b2:(("has" : Str) == ("has" : Str))=true:=beq_self_eq_true _
  obtain⟨x,e⟩:=fin (some (.lst ((bz p).map W.str)))
  refine .inl ⟨by rw[hw];rfl,some (.lst ((bz p).map W.str)),x,?_⟩
  simp only[EV,Nat.reduceSub,↓w1,i0,b1,b2,if_false,Bool.false_eq_true,Bool.not_true,jj,↓sr,↓e]
 ·have b1:(z == ("plus" : Str))=false:=beq_false_of_ne h2
  have b2:(z == ("has" : Str))=false:=beq_false_of_ne h1
  have ha:=al (bz p) x4 (by omega)
  rw[<-hw] at ha
  obtain⟨x,e⟩:=fin (some (.lst ((bz p).map W.str)))
  cases ea:cu (ig p) bs with
  |true =>
   rw[ea,hw] at ha
   refine .inl ⟨rfl,some (.lst ((bz p).map W.str)),x,?_⟩
   simp only[EV,Nat.reduceSub,↓w1,i0,b1,b2,if_false,if_true,Bool.false_eq_true,Bool.not_true,Bool.not_false,↓ha,jj,↓sr,↓e]
  |false =>
   rw[ea,hw] at ha
   refine .inr ⟨rfl,?_⟩
   simp only[EV,Nat.reduceSub,↓w1,i0,b1,b2,if_false,if_true,Bool.false_eq_true,Bool.not_true,Bool.not_false,↓ha]
 ·have b1:(z == ("plus" : Str))=true:=by rw[h1];exact beq_self_eq_true _
  have b2:(z == ("has" : Str))=false:=beq_false_of_ne h2
  have w2:∀y3 y4,runN (ad (vq false (aa 2) (ac (W.int 1)) (ac (W.int 3))) af) (ao kf) [w0,some (.ref st.nxt),some p,y3,y4] (st.new (dW bs))=.ok (.lst ((ig p).map W.str)) (st.new (dW bs)):=fun y3 y4=>by
   have hs:vq false (aa 2) (ac (W.int 1)) (ac (W.int 3)) [w0,some (.ref st.nxt),some p,y3,y4] (st.new (dW bs))=.ok (.tup [a,b]) (st.new (dW bs)):=by
    rw[ep,hx]
    show R.ok (W.tup (fq (.str z::[a,b,c]) (some 1) (some 3))) (st.new (dW bs))=_
    rw[aO];rfl
   rw[hw]
   simp only[EV,Nat.reduceSub,↓hs,Hi (w:=.tup [a,b]) (ws:=[a,b]) (st.new (dW bs)) rfl (show 2<=1000 by decide) (fun y hy=>by simp only[List.mem_cons,List.not_mem_nil,or_false] at hy;rcases hy with rfl|rfl<;>assumption)]
  have wl2:(ig p).length<=1000:=by rw[hw];exact FA (vk [a,b]) (show 2<=1000 by decide)
  have hA:=al (ig p) x4 wl2
  obtain⟨x,e⟩:=fin (some (.lst ((ig p).map W.str)))
  cases ea:cu (ig p) bs with
  |true =>
   rw[ea] at hA
   refine .inl ⟨rfl,some (.lst ((ig p).map W.str)),x,?_⟩
   simp only[EV,Nat.reduceSub,↓w1,i0,b1,b2,if_false,if_true,Bool.false_eq_true,Bool.not_true,Bool.not_false,↓w2,↓hA,jj,↓sr,↓e]
  |false =>
   rw[ea] at hA
   refine .inr ⟨rfl,?_⟩
   simp only[EV,Nat.reduceSub,↓w1,i0,b1,b2,if_false,if_true,Bool.false_eq_true,Bool.not_true,Bool.not_false,↓w2,↓hA]
theorem Wb(i:Nat)(body:aq)(x:W)(xs:List W)(Γ:Ga)(s s':S)(v:W)(h:body (Γ.set i (some x)) s=.ok (.rt v) s'):cy i body (x::xs) Γ s=.ok (.rt v) s':=by
 show((body (Γ.set i (some x)) s).bind _)=_
 rw[h];rfl
theorem bd_loop(st:S):∀(ps:List W)(zs bs:List Str)(x2 x3 x4:Option W),(∀p∈ps,GPart p)->(∀z,zs.any (fun a=>a == z)=bs.any (fun a=>a == z))->zs.length+4*ps.length<=900 ->
  (iy ps bs=true/\∃cs y2 y3 y4,cy 2 ug ps [w0,some (.ref st.nxt),x2,x3,x4] (st.new (dW zs))=.ok (.nx [w0,some (.ref st.nxt),y2,y3,y4]) (st.new (dW cs)))\/(iy ps bs=false/\∃cs,cy 2 ug ps [w0,some (.ref st.nxt),x2,x3,x4] (st.new (dW zs))=.ok (.rt (.str "unbound")) (st.new (dW cs)))
 |[],zs,bs,x2,x3,x4,_,_,_=>.inl ⟨rfl,zs,x2,x3,x4,rfl⟩
 | p::ps,zs,bs,x2,x3,x4,hg,hz,hl=>by
  rw[EZ] at hl
  have gp:=hg p EK
  have wl:=xf gp.ok.1 gp.ok.2
  have fl:=SS.fold_le (bz p) zs
  have eb:iy (p::ps) bs=(cu (ig p) bs&&iy ps (bs++bz p)):=rfl
  rw[eb,<-iZ hz]
  rcases bd_turn (w0:=w0) (x3:=x3) (x4:=x4) st gp zs (by omega) with⟨e1,y3,y4,e2⟩|⟨e1,e2⟩
  ·rw[e1,Bool.true_and,pg 2 ug p ps [w0,some (.ref st.nxt),x2,x3,x4] _ _ _ e2]
   exact bd_loop st ps ((bz p).foldl SS.stepS zs) (bs++bz p) (some p) y3 y4 (fun q hq=>hg q (ER _ hq)) (fun z=>by rw[Wh,List.any_append,hz]) (by omega)
  ·rw[e1,Bool.false_and]
   exact .inr ⟨rfl,zs,Wb 2 ug p ps [w0,some (.ref st.nxt),x2,x3,x4] _ _ _ e2⟩
theorem mr(ho:∀m,m<st.nxt->s'.mu m=st.mu m)(z:Str):keep st s' (.str z)=.ok (.str z) st:=vn ho rfl
noncomputable def oy(ps:List W):Str:=if iy ps []=true then "" else "unbound"
theorem Qf(st:S)(hg:GPs ps):wx [.tup ps] st=.ok (.str (oy ps)) st:=by
 have e0:wx [.tup ps] st=jv 1 st (Gx [some (.tup ps),none,none,none,none] st):=rfl
 rw[e0]
 unfold Gx oy
 have h3:=hg.l3
 have hd:se [some (.tup ps),none,none,none,none] st=.ok (.ref st.nxt) (st.new (dW [])):=rfl
 have hs:ba (aa 0) [some (.tup ps),some (.ref st.nxt),none,none,none] (st.new (dW []))=.ok ps (st.new (dW [])):=rfl
 rw[cj,ki,hd,ah,yp,ah,fj,cj,jj,hs,ah]
 rcases bd_loop (w0:=some (.tup ps)) st ps [] [] none none none hg.g (fun _=>rfl) (by simp;omega) with⟨e1,cs,y2,y3,y4,e2⟩|⟨e1,cs,e2⟩
 ·unfold ug at e2
  rw[e2,ah,fj,e1,FJ rfl,Mn (df _),f6]
  exact mr (ii st _) ""
 ·unfold ug at e2
  rw[e2,ah,Ib,e1,FK EG,f6]
  exact mr (ii st _) "unbound"
theorem Iv(ha:a Γ s=.ok (.lst xs) s)(hb:b Γ s=.ok (.lst ys) s)(h:xs.length+ys.length<=1000):ae a b av Γ s=.ok (.lst (xs++ys)) s:=by
 rw[cz,ha,ah,hb,ah]
 exact FJ (dk h)
def ou:Option Str->Str
 |none => ""
 |some c=>if c = "BadRule" then "rule" else "unbound"
noncomputable def xq:aq:=(ai (ax 1 (ae (aa 1) (runN (ad (runN (ad (aa 2) af) (ao li)) af) (ao kf)) av))
 aj)
theorem Wr(st:S):∀(ps:List W)(acc:List Str)(x2:Option W),(∀p∈ps,GPart p)->acc.length+4*ps.length<=1000 ->
  ∃y2,cy 2 xq ps [w0,some (.lst (acc.map W.str)),x2,x3,x4,x5] st=.ok (.nx [w0,some (.lst ((acc++bn ps).map W.str)),y2,x3,x4,x5]) st
 |[],acc,x2,_,_=>⟨x2,by unfold bn;simp[cy]⟩
 |p::ps,acc,x2,h,hl=>by
  rw[EZ] at hl
  have gp:=h p EK
  have wl:=xf gp.ok.1 gp.ok.2
  obtain⟨y2,e⟩:=Wr st ps (acc++bz p) (some p) (fun q hq=>h q (ER _ hq)) (by rw[ES];omega)
  refine⟨y2,?_⟩
  have ha:acc++bn (p::ps)=acc++bz p++bn ps:=by unfold bn;rw[List.flatMap_cons,List.append_assoc]
  rw[ha,<-e]
  refine pg 2 xq p ps _ _ _ _ ?_
  show xq [w0,some (.lst (acc.map W.str)),some p,x3,x4,x5] st=_
  have q:=Iv (a:=aa 1) (Γ:=[w0,some (.lst (acc.map W.str)),some p,x3,x4,x5]) (s:=st) (ip _ _) (gp.words st (a:=aa 2) (jx _ _ _)) (by rw[EQ,EQ];omega)
  unfold xq
  rw[cj,ki,q,ah,yp,ah,fj,xp,<-List.map_append]
theorem Ys(h:r Γ st=.ok (.bl b) st):ae (ac (W.str "unbound")) (runN (ad (gs r) af) nb) dj Γ st=.ok (.str (if b=true then "" else "unbound")) st:=by
 rw[cz,df,ah,ee,cf,Zo,h,ah,Xr,ah,dv,ah,ah]
 cases b<;>kernel_rfl
theorem Yf(st:S)(il:ak w (.int (-1)) st=.ok (.tup ps) st)(hb:GPs ps)(rest:aq):∃y2,ai (ax 1 (runN af (ay false))) (ai (ib 2 (ba (ae (aa 0) (bb (ac (W.int 1)) di) ak)) xq) (ai (ax 3 (runN (ad (ae (aa 0) (bb (ac (W.int 1)) di) ak) af) (ao wx))) rest)) [some w,none,none,none,none,none] st
  = rest [some w,some (.lst ((bn ps).map W.str)),y2,some (.str (oy ps)),none,none] st:=by
 have h3:=hb.l3
 obtain⟨y2,e⟩:=Wr (w0:=some w) (x3:=none) (x4:=none) (x5:=none) st ps [] none hb.g (by simp;omega)
 refine⟨y2,?_⟩
 have h1:∀Γ:Ga,runN af (ay false) Γ st=.ok (.lst (([]:List Str).map W.str)) st:=fun _=>rfl
 have hi:∀Γ:Ga,ae (aa 0) (bb (ac (W.int 1)) di) ak (some w::Γ) st=.ok (.tup ps) st:=fun Γ=>by rw[cz,dc,ah,Fv,ah,il]
 have hs:∀Γ:Ga,ba (ae (aa 0) (bb (ac (W.int 1)) di) ak) (some w::Γ) st=.ok ps st:=fun Γ=>by unfold ba;rw[hi];rfl
 have hd:∀Γ:Ga,runN (ad (ae (aa 0) (bb (ac (W.int 1)) di) ak) af) (ao wx) (some w::Γ) st=.ok (.str (oy ps)) st:=fun Γ=>by
  rw[ee,cf,hi,ah,dv,ah,ah,lm,Qf st hb];rfl
 rw[cj,ki,h1,ah,yp,ah,fj,cj,jj,hs,ah,e,ah,fj,cj,ki,hd,ah,Gd,ah,fj,List.nil_append]
theorem Xt{Γ:Ga}{st:S}{ws:List Str}{z:Str}:ae (aa 0) (aa 1) cn (some (.str z)::some (.lst (ws.map W.str))::Γ) st=.ok (.bl (ws.any fun a=>a == z)) st:=by
 rw[cz,dc,ah,ip,ah,Mu rfl]
theorem nX(st:S)(hp:GPat n ts)(hb:GPs ps):tf [mx n ts ps] st=.ok (.str (ou (xn ts ps))) st:=by
 have e0:tf [mx n ts ps] st=jv 1 st (zh [some (mx n ts ps),none,none,none,none,none] st):=rfl
 rw[e0]
 unfold zh
 obtain⟨y2,e⟩:=Yf (w:=mx n ts ps) st (Ew (ms:=[]) st (by decide)) hb _
 unfold xq at e
 rw[e]
 have hl:=hp.tl
 have i0:ak (mx n ts ps) (.int 0) st=.ok (.str "rule") st:=mj _ _
 have i1:ak (mx n ts ps) (.int 1) st=.ok (.tup (.str n::ts)) st:=qj _ _ _
 have hw:=Hi (w:=.tup ts) (ws:=ts) st rfl (by omega) hp.tg
 have ha:=Lc (src:=ba (aa 4)) (cap:=[1]) (re:=ae (aa 0) (aa 1) cn) (Γ:=[some (mx n ts ps),some (.lst ((bn ps).map W.str)),y2,some (.str (oy ps)),some (.lst ((bo ts).map W.str)),none]) (st:=st) (zs:=bo ts) (f:=fun z=>(bn ps).any fun a=>a == z) rfl (FA (vk ts) (by omega)) fun z _=>Xt
 have hm:=Ys ha
 have hA:((bo ts).all fun z=>(bn ps).any fun a=>a == z)=cu (bo ts) (bn ps):=rfl
 rw[hA] at hm
 have br:(("rule" : Str) == ("rule" : Str))=true:=beq_self_eq_true _
 unfold xn oy at *
 by_cases e1:iy ps []=true
 ·rw[FJ e1] at hm ⊢
  rw[FJ e1]
  have b1:(("" : Str) == ("" : Str))=true:=beq_self_eq_true _
  simp only[EV,Nat.reduceSub,b1,Bool.not_true,Bool.false_eq_true,if_false,i0,i1,ml,hw,br,if_true,↓hm]
  by_cases e2:cu (bo ts) (bn ps)=true
  ·rw[FJ e2,FJ e2];exact mr (fun _ _=>rfl) ""
  ·rw[FK e2,FK e2];exact mr (fun _ _=>rfl) "unbound"
 ·rw[FK e1]
  rw[FK e1]
  have b1:(("unbound" : Str) == ("" : Str))=false:=by decide +kernel
  simp only[EV,Nat.reduceSub,b1,Bool.not_false,if_true]
  exact mr (fun _ _=>rfl) "unbound"
theorem Td(f:Str->Bool)(hm:st.mu n=some (.lst all)):∀(zs:List Str)(acc:List W),(∀z∈zs,re (some (.str z)::Γc) st=.ok (.bl (f z)) st)->qa n all re Γc (zs.map W.str) acc st=.ok (acc++zs.map fun z=>W.bl (f z)) st
 |[],acc,_=>by
  show @ite _ (st.mu n=some (.lst all)) (Classical.propDecidable _) (R.ok acc st) .stuck=_
  rw[FJ hm];simp
 |z::zs,acc,h=>by
  show @ite _ (st.mu n=some (.lst all)) (Classical.propDecidable _) ((re (some (.str z)::Γc) st).calm.bind fun y st2=>qa n all re Γc (zs.map W.str) (acc++[y]) st2) .stuck=_
  rw[FJ hm,h z EK,rp,ah,Td f hm zs _ fun y hy=>h y (ER _ hy)]
  simp
theorem wR{cap:List Nat}{n:Nat}{zs:List Str}{f:Str->Bool}(hr:r Γ st=.ok (.ref n) st)(hm:st.mu n=some (.lst (zs.map W.str)))(hl:zs.length<=1000)(h:∀z∈zs,re (some (.str z)::fh cap Γ) st=.ok (.bl (f z)) st) :
  runN (ad (tu false r cap re) af) ij Γ st=.ok (.bl (zs.all f)) st:=by
 have hc:tu false r cap re Γ st=.ok (.lst (zs.map fun z=>W.bl (f z))) st:=by
  unfold tu
  rw[hr,ah]
  dsimp only
  rw[hm]
  dsimp only
  rw[FJ (by rw[EQ];exact FH hl (by decide)),Td f hm zs [] h,ah,List.nil_append]
  exact ky _ (by rw[EQ];exact dk hl)
 rw[ee,cf,hc,ah,dv,ah,ah]
 show(match lu (zs.map fun z=>W.bl (f z)) with|some bs=>R.ok (W.bl (bs.all id)) st|none=>.stuck)=_
 rw[Eo]
 simp
theorem frees_val(h:GGat kk res val keys):(val = ""/\bo [.str val]=[])\/(val ≠ ""/\bo [.str val]=[val]):=by
 rcases h.vl with⟨_,rfl⟩|⟨_,hv⟩
 ·exact .inl ⟨rfl,by decide +kernel⟩
 ·refine .inr ⟨fun e=>?_,?_⟩
  ·rw[e] at hv
   have:=hv.1
   revert this
   decide +kernel
  ·have e:Ge (.str val)=some val:=FJ hv.1
   unfold bo
   rw[List.filterMap_cons,e];rfl
theorem lD(st:S)(hp:GPat n ts)(hg:GGat kk res val keys)(hb:GPs ps):tf [je n ts kk res val keys ps] st=.ok (.str (ou (xk ts res val keys ps))) st:=by
 have e0:tf [je n ts kk res val keys ps] st=jv 1 st (zh [some (je n ts kk res val keys ps),none,none,none,none,none] st):=rfl
 rw[e0]
 unfold zh
 obtain⟨y2,e⟩:=Yf (w:=je n ts kk res val keys ps) st (Ew (ms:=[.str kk,.str res,.str val,.tup (keys.map W.str)]) st (show 4<=4 by decide)) hb _
 unfold xq at e
 rw[e]
 have hl:=hp.tl
 have hk3:=hg.k3
 have i0:∀st,ak (je n ts kk res val keys ps) (.int 0) st=.ok (.str "gather") st:=fun st=>mj _ _
 have i1:∀st,ak (je n ts kk res val keys ps) (.int 1) st=.ok (.tup (.str n::ts)) st:=fun st=>qj _ _ _
 have i3:∀st,ak (je n ts kk res val keys ps) (.int 3) st=.ok (.str res) st:=fun st=>kt _ 3 _ (gi _ 3 _ rfl)
 have i4:∀st,ak (je n ts kk res val keys ps) (.int 4) st=.ok (.str val) st:=fun st=>kt _ 4 _ (gi _ 4 _ rfl)
 have i5:∀st,ak (je n ts kk res val keys ps) (.int 5) st=.ok (.tup (keys.map W.str)) st:=fun st=>kt _ 5 _ (gi _ 5 _ rfl)
 have hw:=Hi (w:=.tup ts) (ws:=ts) st rfl (by omega) hp.tg
 have br:(("gather" : Str) == ("rule" : Str))=false:=by decide +kernel
 have hin:=Mu (st:=st) (b:=.lst ((bn ps).map W.str)) rfl res
 have hL:jd true [.tup (keys.map W.str)] st=.ok (.ref st.nxt) (st.new (.lst (keys.map W.str))):=by
  show mi (keys.map W.str) st=_
  exact FJ (by rw[EQ];exact dk (by omega))
 have fin:∀us:List Str,us.length<=10->∀Γ5,Γ5=[some (je n ts kk res val keys ps),some (.lst ((bn ps).map W.str)),y2,some (.str (oy ps)),some (.lst ((bo ts).map W.str)),some (.ref st.nxt)] ->
   runN (ad (tu false (aa 5) [1] (ae (aa 0) (aa 1) cn)) af) ij Γ5 (st.new (.lst (us.map W.str)))=.ok (.bl (cu us (bn ps))) (st.new (.lst (us.map W.str))) /\
   ae (ac (W.str "unbound")) (runN (ad (gs (runN (ad (ck false (ba (aa 4)) [0] (ac (.bl true)) (ia (ae (aa 0) (ae (aa 1) (ac (W.int 5)) ak) cn) (ae (aa 0) (ae (aa 1) (ac (W.int 3)) ak) bw))) af) ij)) af) nb) dj Γ5 (st.new (.lst (us.map W.str)))=.ok (.str (if cu (bo ts) (keys++[res])=true then "" else "unbound")) (st.new (.lst (us.map W.str))):=fun us hu Γ5 hΓ=>by
  subst hΓ
  refine⟨wR (n:=st.nxt) (zs:=us) (f:=fun z=>(bn ps).any fun a=>a == z) rfl (fe st _) (by omega) fun z _=>Xt,Ys ?_⟩
  refine Lc (zs:=bo ts) (f:=fun z=>(keys++[res]).any fun a=>a == z) rfl (FA (vk ts) (by omega)) fun z _=>?_
  show ia (ae (aa 0) (ae (aa 1) (ac (W.int 5)) ak) cn) (ae (aa 0) (ae (aa 1) (ac (W.int 3)) ak) bw) [some (.str z),some (je n ts kk res val keys ps)] (st.new (.lst (us.map W.str)))=_
  have hT:cn (.str z) (.tup (keys.map W.str)) (st.new (.lst (us.map W.str)))=.ok (.bl (keys.any fun a=>a == z)) (st.new (.lst (us.map W.str))):=by
   show(match kc (.str z) (keys.map W.str) with|some r=>R.ok (W.bl r) (st.new (.lst (us.map W.str)))|none=>.stuck)=_
   rw[rm]
  simp only[EV,Nat.reduceSub,i5,hT,i3]
  rw[List.any_append,List.any_cons,List.any_nil,Bool.or_false,Bool.beq_comm (a:=z) (b:=res)]
  cases keys.any fun a=>a == z<;>rfl
 have hap:kg (.ref st.nxt) [.str val] (st.new (.lst (keys.map W.str)))=.ok .non (st.new (.lst ((keys++[val]).map W.str))):=by
  show(match (st.new (.lst (keys.map W.str))).mu st.nxt with
   |some (.lst ys)=>if ys.length<sizeLine then R.ok W.non ((st.new (.lst (keys.map W.str))).put st.nxt (.lst (ys++[W.str val]))) else .stuck
   |_=>.stuck)=_
  rw[fe]
  show(if (keys.map W.str).length<sizeLine then R.ok W.non ((st.new (.lst (keys.map W.str))).put st.nxt (.lst (keys.map W.str++[W.str val]))) else .stuck)=_
  rw[FJ (by rw[EQ];exact FH hk3 (by decide)),d0,List.map_append];rfl
 have hA2:∀us:List Str,cu (keys++us) (bn ps)=(cu keys (bn ps)&&cu us (bn ps)):=fun us=>by unfold cu;rw[List.all_append]
 unfold xk
 unfold oy at *
 by_cases e1:iy ps []=true
 ·rw [FJ e1] at fin ⊢
  rw[FJ e1]
  have b1:(("" : Str) == ("" : Str))=true:=beq_self_eq_true _
  cases e2:(bn ps).any (fun a=>a == res) with
  |true =>
   rw[e2] at hin
   simp only[EV,Nat.reduceSub,b1,Bool.not_true,Bool.false_eq_true,if_false,i0,i1,i3,ml,hw,br,hin,if_true]
   exact mr (fun _ _=>rfl) "rule"
  | false =>
   rw[e2] at hin
   rw[FK EG]
   have main:∀us:List Str,us.length<=10->cu us (bn ps)=(cu (bo [.str val]) (bn ps)&&cu keys (bn ps)) ->
     jv 1 st (ai (bg (gs (runN (ad (tu false (aa 5) [1] (ae (aa 0) (aa 1) cn)) af) ij)) (ai (aw (ac (W.str "unbound"))) aj) aj)
      (ai (aw (ae (ac (W.str "unbound")) (runN (ad (gs (runN (ad (ck false (ba (aa 4)) [0] (ac (.bl true)) (ia (ae (aa 0) (ae (aa 1) (ac (W.int 5)) ak) cn) (ae (aa 0) (ae (aa 1) (ac (W.int 3)) ak) bw))) af) ij)) af) nb) dj)) aj)
      [some (je n ts kk res val keys ps),some (.lst ((bn ps).map W.str)),y2,some (.str ""),some (.lst ((bo ts).map W.str)),some (.ref st.nxt)] (st.new (.lst (us.map W.str))))=.ok (.str (ou (if cu (bo [.str val]) (bn ps)=true then(if cu keys (bn ps)=true then(if cu (bo ts) (keys++[res])=true then none else some "Unbound") else some "Unbound") else some "Unbound"))) st:=fun us hu hq=>by
    obtain⟨f1,f2⟩:=fin us hu _ rfl
    rw[hq] at f1
    cases c1:cu (bo [.str val]) (bn ps) with
    |false =>
     rw[c1,Bool.false_and] at f1
     simp only[EV,Nat.reduceSub,↓f1,Bool.not_false,if_true,Bool.false_eq_true,if_false]
     exact mr (ii st _) "unbound"
    | true =>
     rw[c1,Bool.true_and] at f1
     cases c2:cu keys (bn ps) with
     |false =>
      rw[c2] at f1
      simp only[EV,Nat.reduceSub,↓f1,Bool.not_false,if_true,Bool.false_eq_true,if_false]
      exact mr (ii st _) "unbound"
     |true =>
      rw[c2] at f1
      simp only[EV,Nat.reduceSub,↓f1,↓f2,Bool.not_true,if_true,Bool.false_eq_true,if_false]
      by_cases e5:cu (bo ts) (keys++[res])=true
      ·rw[FJ e5,FJ e5];exact mr (ii st _) ""
      ·rw[FK e5,FK e5];exact mr (ii st _) "unbound"
   have hk:∀us:List Str,ng (st.new (.lst (us.map W.str))) (.ref st.nxt)=some "list":=fun us=>by
    show MO.kind ((st.new (.lst (us.map W.str))).mu st.nxt)=_
    rw[fe];rfl
   rcases frees_val hg with⟨v0,fv⟩|⟨v0,fv⟩
   ·have bv:(val == ("" : Str))=true:=by rw[v0];exact beq_self_eq_true _
    have m:=main keys (by omega) (by rw[fv];rfl)
    simp only[EV,Nat.reduceSub,b1,Bool.not_true,Bool.false_eq_true,if_false,i0,i1,i3,i4,i5,ml,hw,br,hin,hL,bv]
    exact m
   ·have bv:(val == ("" : Str))=false:=beq_false_of_ne v0
    have m:=main (keys++[val]) (by rw[ES,FD];omega) (by rw[fv,hA2,Bool.and_comm])
    have hM:∀Γ:Ga,dw "list" (aa 5) (ad (ae (aa 0) (ac (W.int 4)) ak) af) kg [some (je n ts kk res val keys ps),some (.lst ((bn ps).map W.str)),y2,some (.str ""),some (.lst ((bo ts).map W.str)),some (.ref st.nxt)] (st.new (.lst (keys.map W.str)))=.ok .non (st.new (.lst ((keys++[val]).map W.str))):=fun _=>by
     unfold dw
     rw[Iy,ah,FJ (hk keys)]
     simp only[EV,Nat.reduceSub,i4,hap]
    have hM:=hM []
    simp only[EV,Nat.reduceSub,b1,Bool.not_true,Bool.not_false,Bool.false_eq_true,if_false,if_true,i0,i1,i3,i4,i5,ml,hw,br,hin,hL,bv,↓hM]
    exact m
 ·rw[FK e1]
  rw[FK e1]
  have b1:(("unbound" : Str) == ("" : Str))=false:=by decide +kernel
  simp only[EV,Nat.reduceSub,b1,Bool.not_false,if_true]
  exact mr (fun _ _=>rfl) "unbound"
theorem E3(h:GR w o)(st:S):tf [w] st=.ok (.str (ou o)) st:=by
 cases h with
 |plain n ts ps hp hb=>exact nX st hp hb
 |gather n ts kk res val keys ps hp hg hb=>exact lD st hp hg hb
inductive Dn:Nat->W->Prop
 |non (n:Nat):Dn n .non
 |bl (n:Nat) (b:Bool):Dn n (.bl b)
 |int (n:Nat) (i:Int):Dn n (.int i)
 |str (n:Nat) (x:Str):Dn n (.str x)
 |tup {n:Nat} {xs:List W}:(∀x∈xs,Dn n x)->Dn (n+1) (.tup xs)
 |lst {n:Nat} {xs:List W}:(∀x∈xs,Dn n x)->Dn (n+1) (.lst xs)
theorem d4:∀{ws:List W},(∀w∈ws,f w=some w)->frzs f ws=some ws
 |[],_=>rfl
 |w::ws,h=>by
  show(match f w,frzs f ws with|some y,some ys=>some (y::ys)|_,_=>none)=_
  rw[h w EK,d4 fun x hx=>h x (ER _ hx)]
theorem Dn.frz(h:Dn n w)(N:Nat)(mu:Nat->Option MO):∀m,n<m->DL.frz N mu m w=some w:=by
 induction h with
 |non n=>intro m hm;cases m with|zero=>omega|succ m=>rfl
 |bl n b=>intro m hm;cases m with|zero=>omega|succ m=>rfl
 |int n i=>intro m hm;cases m with|zero=>omega|succ m=>rfl
 |str n x=>intro m hm;cases m with|zero=>omega|succ m=>rfl
 |@tup n xs _ ih =>
  intro m hm
  cases m with
  |zero=>omega
  |succ m=>show(frzs (DL.frz N mu m) xs).map W.tup=_;rw[d4 fun x hx=>ih x hx m (by omega)];rfl
 |@lst n xs _ ih =>
  intro m hm
  cases m with
  |zero=>omega
  |succ m=>show(frzs (DL.frz N mu m) xs).map W.lst=_;rw[d4 fun x hx=>ih x hx m (by omega)];rfl
theorem Mc:∀{ws:List W},(∀w∈ws,f w w=some true)->fk f ws ws=some true
 |[],_=>by unfold fk;rfl
 |w::ws,h=>by
  unfold fk
  rw[h w EK,Mc fun x hx=>h x (ER _ hx)];rfl
theorem Dn.eq(h:Dn n w):∀m,n<m->ci m w w=some true:=by
 induction h with
 |non n=>intro m hm;cases m with|zero=>omega|succ m=>rfl
 |bl n b=>intro m hm;cases m with|zero=>omega|succ m=>show some (b == b)=_;simp
 |int n i=>intro m hm;cases m with|zero=>omega|succ m=>show some (i == i)=_;simp
 |str n x=>intro m hm;cases m with|zero=>omega|succ m=>show some (x == x)=_;simp
 | @tup n xs _ ih =>
  intro m hm
  cases m with
  |zero=>omega
  |succ m =>
   show(fk (ci m) xs xs).map (fun r=>r&&xs.length == xs.length)=_
   rw[Mc fun x hx=>ih x hx m (by omega)]
   simp
 | @lst n xs _ ih =>
  intro m hm
  cases m with
  |zero=>omega
  |succ m =>
   show(if xs.length=xs.length then fk (ci m) xs xs else some false)=_
   rw[FJ rfl,Mc fun x hx=>ih x hx m (by omega)]
theorem GoodT.dn(h:GoodT w)(n:Nat):Dn n w:=by
 cases h with
 |free z _=>exact .str n z
 |name z _=>exact .str n z
 |num i _=>exact .int n i
theorem GPat.dn(h:GPat m ts)(n:Nat):Dn (n+1) (.tup (.str m::ts)):=.tup fun x hx=>by
 rcases List.mem_cons.mp hx with rfl|hx
 ·exact .str _ _
 ·exact(h.tg x hx).dn n
theorem GPart.dn(h:GPart p)(n:Nat):Dn (n+2) p:=by
 cases h with
 |pat k m ts hk hp =>
  refine .tup fun x hx=>?_
  simp only[List.mem_cons,List.not_mem_nil,or_false] at hx
  rcases hx with rfl|rfl
  ·exact .str _ _
  ·exact hp.dn n
 |two k a b hk ha hb =>
  refine .tup fun x hx=>?_
  simp only[List.mem_cons,List.not_mem_nil,or_false] at hx
  rcases hx with rfl|rfl|rfl
  ·exact .str _ _
  ·exact ha.dn _
  ·exact hb.dn _
 |plus a b c ha hb hc =>
  refine .tup fun x hx=>?_
  simp only[List.mem_cons,List.not_mem_nil,or_false] at hx
  rcases hx with rfl|rfl|rfl|rfl
  ·exact .str _ _
  ·exact ha.dn _
  ·exact hb.dn _
  ·exact hc.dn _
theorem GPs.dn(h:GPs ps)(n:Nat):Dn (n+3) (.tup ps):=.tup fun p hp=>(h.g p hp).dn n
theorem GR.dn(h:GR w o):Dn 4 w:=by
 cases h with
 |plain n ts ps hp hb =>
  refine .tup fun x hx=>?_
  simp only[List.mem_cons,List.not_mem_nil,or_false] at hx
  rcases hx with rfl|rfl|rfl
  ·exact .str _ _
  ·exact hp.dn 2
  ·exact hb.dn 0
 | gather n ts kk res val keys ps hp hg hb =>
  refine .tup fun x hx=>?_
  simp only[List.mem_cons,List.not_mem_nil,or_false] at hx
  rcases hx with rfl|rfl|rfl|rfl|rfl|rfl|rfl
  ·exact .str _ _
  ·exact hp.dn 2
  ·exact .str _ _
  ·exact .str _ _
  ·exact .str _ _
  ·refine .tup fun y hy=>?_
   obtain⟨z,_,rfl⟩:=List.mem_map.mp hy
   exact .str _ _
  ·exact hb.dn 0
inductive Outs:List W->List (Option Str)->Prop
 |nil:Outs [] []
 |cons {w:W} {R:List W} {o:Option Str} {os:List (Option Str)}:(∀st,rj [w] st=Jf o st)->Outs R os->Outs (w::R) (o::os)
inductive GOuts:List W->List (Option Str)->Prop
 |nil:GOuts [] []
 |cons {w:W} {R:List W} {o:Option Str} {os:List (Option Str)}:GR w o->GOuts R os->GOuts (w::R) (o::os)
theorem GOuts.outs:∀{R:List W}{os:List (Option Str)},GOuts R os->Outs R os
 |_,_,.nil=>.nil
 |_,_,.cons h t=>.cons (fun st=>Xa st h) t.outs
theorem GOuts.rs:∀{R:List W}{os:List (Option Str)},GOuts R os->vf R
 |_,_,.nil,w,hw=>by cases hw
 |_,_,.cons h t,w,hw=>by
  rcases List.mem_cons.mp hw with rfl|hw
  ·exact⟨_,h⟩
  ·exact t.rs w hw
theorem GOuts.of:∀{R:List W},vf R->∃os,GOuts R os
 |[],_=>⟨[],.nil⟩
 |w::R,h=>by
  obtain⟨o,ho⟩:=h w EK
  obtain⟨os,t⟩:=GOuts.of (R:=R) fun v hv=>h v (ER _ hv)
  exact⟨o::os,.cons ho t⟩
def first:List (Option Str)->Option Str
 |[]=>none
 |some c::_=>some c
 |none::os=>first os
theorem E4(c:Str):(ou (some c) == ("" : Str))=false:=by
 unfold ou
 dsimp only
 split<;>decide +kernel
noncomputable def wa:aq:=(ai (ax 2 (runN (ad (aa 1) af) (ao tf)))
 (ai (bg (ae (aa 2) (ac (W.str "")) de)
  (ai (aw (aa 2))
 aj)
  aj)
 aj))
theorem wH(h:GR w o)(s:S):wa [w0,some w,x2,x3,x4] s=(match o with
  |none=>.ok (.nx [w0,some w,some (.str ""),x3,x4]) s
  |some c=>.ok (.rt (.str (ou (some c)))) s):=by
 have hd:=E3 h s
 unfold wa
 cases o with
 |none =>
  have b:(("" : Str) == ("" : Str))=true:=beq_self_eq_true _
  have hd:tf [w] s=.ok (.str "") s:=hd
  simp only[EV,Nat.reduceSub,hd,b,Bool.not_true,Bool.false_eq_true,if_false]
 |some c=>simp only[EV,Nat.reduceSub,hd,E4,Bool.not_false,if_true]
theorem du_loop{w:W}{R:List W}{s:S}(hw:fg s w=some R):∀(rest done:List W)(os:List (Option Str))(f:Nat)(x1 x2 x3 x4:Option W),R=done++rest->GOuts rest os->rest.length<f ->
  (∃c,first os=some c/\ik 1 wa w f done.length [some w,x1,x2,x3,x4] s=.ok (.rt (.str (ou (some c)))) s)\/(first os=none/\∃y1 y2,ik 1 wa w f done.length [some w,x1,x2,x3,x4] s=.ok (.nx [some w,y1,y2,x3,x4]) s)
 |_,_,_,0,_,_,_,_,_,_,h=>by omega
 |[],done,_,f+1,x1,x2,x3,x4,hR,.nil,_=>.inr ⟨rfl,x1,x2,Li hw (Oo hR)⟩
 | r::rest,done,_,f+1,x1,x2,x3,x4,hR,.cons (o:=o) (os:=os) ho t,hf=>by
  rw[EZ] at hf
  have ht:=wH (w0:=some w) (x2:=x2) (x3:=x3) (x4:=x4) ho s
  cases o with
  |some c=>exact .inl ⟨c,rfl,Wa hw (j1 hR) ht⟩
  |none =>
   rw[Lb hw (j1 hR) ht,show done.length+1=(done++[r]).length by simp]
   exact du_loop hw rest (done++[r]) os f (some r) (some (.str "")) x3 x4 (by rw[hR,List.append_assoc];rfl) t (by omega)
noncomputable def nz:aq:=(ai (bg (ae (dw "dict" (aa 3) (ad (ae (aa 4) (ac (W.int 0)) ak) (ad (ae (runN (ad (aa 4) af) gj) (ac (W.int 1)) na) af)) qc) (ae (runN (ad (aa 4) af) gj) (ac (W.int 1)) na) de)
  (ai (aw (ac (W.str "width")))
 aj)
  aj)
 aj)
theorem vC(st:S)(A:List (Str×Nat))(hp:yh p)(hl:A.length<=1000) :
  nz [w0,w1,w2,some (.ref st.nxt),some p] (st.new (aD A))=(match A.lookup (nw p).1 with
   |some j=>if j=(nw p).2 then .ok (.nx [w0,w1,w2,some (.ref st.nxt),some p]) (st.new (aD A)) else .ok (.rt (.str "width")) (st.new (aD A))
   |none=>.ok (.nx [w0,w1,w2,some (.ref st.nxt),some p]) (st.new (aD (A++[nw p])))):=by
 obtain⟨n,ts,rfl,hg⟩:=hp
 have e:nw (.tup (.str n::ts))=(n,ts.length):=rfl
 rw[e]
 unfold nz
 have r0:ae (aa 4) (ac (W.int 0)) ak [w0,w1,w2,some (.ref st.nxt),some (.tup (.str n::ts))] (st.new (aD A))=.ok (.str n) (st.new (aD A)):=by rw[cz,Og,ah,df,ah,mj]
 have rl:∀A,ae (runN (ad (aa 4) af) gj) (ac (W.int 1)) na [w0,w1,w2,some (.ref st.nxt),some (.tup (.str n::ts))] (st.new (aD A))=.ok (.int (ts.length:Nat)) (st.new (aD A)):=fun A=>by
  have il:(((W.str n::ts).length:Nat):Int) - 1=(ts.length:Nat):=by rw[EZ];omega
  simp only[EV,Nat.reduceSub,il]
 have sd:=Vr (a:=aa 3) (Γ:=[w0,w1,w2,some (.ref st.nxt),some (.tup (.str n::ts))]) (st:=st) (A:=A) (n:=n) (k:=ts.length) hl rfl r0 (rl A)
 cases el:A.lookup n with
 | some j =>
  rw[el] at sd
  dsimp only at sd ⊢
  by_cases hj:j=ts.length
  ·subst hj
   have b:(((ts.length:Nat):Int) == (ts.length:Nat))=true:=beq_self_eq_true _
   rw[FJ rfl]
   simp only[EV,Nat.reduceSub,↓sd,↓rl,b,Bool.not_true,Bool.false_eq_true,if_false]
  ·have b:(((j:Nat):Int) == (ts.length:Nat))=false:=beq_false_of_ne (by omega)
   rw[FK hj]
   simp only[EV,Nat.reduceSub,↓sd,↓rl,b,Bool.not_false,if_true]
 |none =>
  rw[el] at sd
  dsimp only at sd ⊢
  have b:(((ts.length:Nat):Int) == (ts.length:Nat))=true:=beq_self_eq_true _
  simp only[EV,Nat.reduceSub,↓sd,↓rl,b,Bool.not_true,Bool.false_eq_true,if_false]
theorem lw_in(st:S):∀(ps:List W)(A:List (Str×Nat))(x4:Option W),(∀p∈ps,yh p)->A.length+ps.length<=1000 ->
  (∃A' y4,gq (ps.map nw) A=some A'/\A'.length<=A.length+ps.length/\cy 4 nz ps [w0,w1,w2,some (.ref st.nxt),x4] (st.new (aD A))=.ok (.nx [w0,w1,w2,some (.ref st.nxt),y4]) (st.new (aD A')))\/(gq (ps.map nw) A=none/\∃A',cy 4 nz ps [w0,w1,w2,some (.ref st.nxt),x4] (st.new (aD A))=.ok (.rt (.str "width")) (st.new (aD A')))
 |[],A,x4,_,_=>.inl ⟨A,x4,rfl,EN _,rfl⟩
 | p::ps,A,x4,h,hl=>by
  rw[EZ] at hl ⊢
  have ht:=vC (w0:=w0) (w1:=w1) (w2:=w2) st A (h p EK) (by omega)
  have hq:∀q∈ps,yh q:=fun q hq=>h q (ER _ hq)
  rw[FN]
  have eg:gq (nw p::ps.map nw) A=(match A.lookup (nw p).1 with
   |some j=>if j=(nw p).2 then gq (ps.map nw) A else none
   |none=>gq (ps.map nw) (A++[nw p])):=rfl
  rw[eg]
  cases el:A.lookup (nw p).1 with
  | some j =>
   rw[el] at ht
   dsimp only at ht ⊢
   by_cases hj:j=(nw p).2
   ·rw[FJ hj] at ht ⊢
    rw[pg 4 nz p ps [w0,w1,w2,some (.ref st.nxt),x4] _ _ _ ht]
    rcases lw_in st ps A (some p) hq (by omega) with⟨A',y4,e1,e2,e3⟩|⟨e1,A',e2⟩
    ·exact .inl ⟨A',y4,e1,by omega,e3⟩
    ·exact .inr ⟨e1,A',e2⟩
   ·rw[FK hj] at ht ⊢
    exact .inr ⟨rfl,A,Wb 4 nz p ps [w0,w1,w2,some (.ref st.nxt),x4] _ _ _ ht⟩
  | none =>
   rw[el] at ht
   dsimp only at ht ⊢
   rw[pg 4 nz p ps [w0,w1,w2,some (.ref st.nxt),x4] _ _ _ ht]
   rcases lw_in st ps (A++[nw p]) (some p) hq (by rw[ES,FD];omega) with⟨A',y4,e1,e2,e3⟩|⟨e1,A',e2⟩
   ·rw[ES,FD] at e2
    exact .inl ⟨A',y4,e1,by omega,e3⟩
   ·exact .inr ⟨e1,A',e2⟩
theorem Lv(h:r Γ s=.ok (.lst xs) s):ba r Γ s=.ok xs s:=by
 unfold ba;rw[h];rfl
noncomputable def qh:aq:=(ai (ib 4 (ba (ae (runN (ad (ae (aa 1) (ac (W.int 1)) ak) af) (ay false)) (ck false (ba (ae (aa 1) (bb (ac (W.int 1)) di) ak)) [] (ae (ae (aa 0) (ac (W.int 0)) ak) (runN (ad (ac (W.str "has")) (ad (ac (W.str "not")) af)) ap) cn) (ae (aa 0) (ac (W.int 1)) ak)) av)) nz)
 aj)
theorem lw_out{w:W}{R:List W}{x2:Option W}(st:S)(hw:∀A,fg (st.new (aD A)) w=some R):∀(rest done:List W)(A:List (Str×Nat))(f:Nat)(x1 x4:Option W),R=done++rest->vf rest->A.length+4*rest.length<=1000->rest.length<f ->
  (∃A' y1 y4,gq (lg rest) A=some A'/\ik 1 qh w f done.length [some w,x1,x2,some (.ref st.nxt),x4] (st.new (aD A))=.ok (.nx [some w,y1,x2,some (.ref st.nxt),y4]) (st.new (aD A')))\/(gq (lg rest) A=none/\∃A',ik 1 qh w f done.length [some w,x1,x2,some (.ref st.nxt),x4] (st.new (aD A))=.ok (.rt (.str "width")) (st.new (aD A')))
 |[],done,A,f+1,x1,x4,hR,_,_,_=>.inl ⟨A,x1,x4,rfl,Li (hw A) (Oo hR)⟩
 |_,_,_,0,_,_,_,_,_,h=>by omega
 | r::rest,done,A,f+1,x1,x4,hR,hg,hl,hf=>by
  rw[EZ] at hl hf
  obtain⟨o,ho⟩:=hg r EK
  obtain⟨p1,p2⟩:=ho.pats
  have hs:=Vw ho (t:=runN (ad (ac (W.str "has")) (ad (ac (W.str "not")) af)) ap) (i:=1) (Γ:=[some w,some r,x2,some (.ref st.nxt),x4]) (st.new (aD A)) rfl fun k Γ=>⟨_,rfl,Iw k _⟩
  have en:lg (r::rest)=(patsR r).map nw++lg rest:=by unfold lg;rw[List.flatMap_cons]
  rw[en,Hq]
  have hb:qh ([some w,x1,x2,some (.ref st.nxt),x4].set 1 (some r)) (st.new (aD A))=(cy 4 nz (patsR r) [some w,some r,x2,some (.ref st.nxt),x4] (st.new (aD A))).bind fun fl s=>match fl with
   |.nx Γ=>aj Γ s
   |.ct Γ=>.ok (.ct Γ) s
   |.bk Γ=>.ok (.bk Γ) s
   |.rt v=>.ok (.rt v) s:=by
   show qh [some w,some r,x2,some (.ref st.nxt),x4] (st.new (aD A))=_
   unfold qh
   rw[cj,jj]
   rw[Lv hs,ah]
   cases cy 4 nz (patsR r) [some w,some r,x2,some (.ref st.nxt),x4] (st.new (aD A)) with
   |ok fl s=>cases fl<;>rfl
   |ex c s=>rfl
   |stuck=>rfl
  rcases lw_in (w0:=some w) (w1:=some r) (w2:=x2) st (patsR r) A x4 p1 (by omega) with⟨A',y4,e1,e2,e3⟩|⟨e1,A',e2⟩
  ·rw[e3] at hb
   have ht:qh ([some w,x1,x2,some (.ref st.nxt),x4].set 1 (some r)) (st.new (aD A))=.ok (.nx [some w,some r,x2,some (.ref st.nxt),y4]) (st.new (aD A')):=hb
   rw[e1,Lb (hw A) (j1 hR) ht,show done.length+1=(done++[r]).length by simp]
   exact lw_out st hw rest (done++[r]) A' f (some r) y4 (by rw[hR,List.append_assoc];rfl) (fun v hv=>hg v (ER _ hv)) (by omega) (by omega)
  ·rw[e2] at hb
   have ht:qh ([some w,x1,x2,some (.ref st.nxt),x4].set 1 (some r)) (st.new (aD A))=.ok (.rt (.str "width")) (st.new (aD A')):=hb
   rw[e1]
   exact .inr ⟨rfl,A',Wa (hw A) (j1 hR) ht⟩
noncomputable def jz(os:List (Option Str))(R:List W):W:=match first os with
 |some c=>.str (ou (some c))
 |none=>(match gq (lg R) [] with
  |none=>.str "width"
  |some A=>dA A)
theorem We{w:W}{R:List W}{os:List (Option Str)}(st:S)(h0:fg st w=some R)(hw:∀A,fg (st.new (aD A)) w=some R)(hg:GOuts R os)(hl:R.length<=200):vm [w] st=.ok (jz os R) st:=by
 have e0:vm [w] st=jv 1 st (Hx [some w,none,none,none,none] st):=rfl
 rw[e0]
 unfold Hx jz
 have hF:∀(b:aq) Γ s,wb 1 (aa 0) b (some w::Γ) s=ik 1 b w 4096 0 (some w::Γ) s:=fun _ _ _=>rfl
 rw[cj]
 rcases du_loop h0 R [] os 4096 none none none none rfl hg (by omega) with⟨c,e1,e2⟩|⟨e1,y1,y2,e2⟩
 ·have h2:=(hF wa [none,none,none,none] st).trans e2
  unfold wa at h2
  rw[h2,ah,Ib,f6,e1]
  exact mr (fun _ _=>rfl) _
 ·have h2:=(hF wa [none,none,none,none] st).trans e2
  unfold wa at h2
  rw[h2,ah,fj,e1]
  have hd:se [some w,y1,y2,none,none] st=.ok (.ref st.nxt) (st.new (aD [])):=rfl
  rw[cj,ki,hd,ah,Gd,ah,fj,cj]
  rcases lw_out (x2:=y2) st hw R [] [] 4096 y1 none rfl hg.rs (by simp;omega) (by omega) with⟨A',z1,z4,e3,e4⟩|⟨e3,A',e4⟩
  ·have h4:=(hF qh [y1,y2,some (.ref st.nxt),none] (st.new (aD []))).trans e4
   unfold qh nz at h4
   rw[h4,ah,fj,Mn (wj _ _ _ _),f6,e3]
   exact Xq st A'
  ·have h4:=(hF qh [y1,y2,some (.ref st.nxt),none] (st.new (aD []))).trans e4
   unfold qh nz at h4
   rw[h4,ah,Ib,f6,e3]
   exact mr (ii st _) "width"
noncomputable def qd:aq:=(ai (fm (runN (ad (aa 1) af) rj))
 aj)
theorem nr_loop(s:S):∀{R:List W}{os:List (Option Str)}(x1:Option W),Outs R os ->
  (∃c,first os=some c/\cy 1 qd R [w0,x1] s=.ex (.str c) s)\/(first os=none/\∃y1,cy 1 qd R [w0,x1] s=.ok (.nx [w0,y1]) s)
 |_,_,x1,.nil=>.inr ⟨rfl,x1,rfl⟩
 | r::R,_,x1,.cons (o:=o) (os:=os) h t=>by
  have hr:=h s
  cases o with
  |some c =>
   have hr:rj [r] s=.ex (.str c) s:=hr
   refine .inl ⟨c,rfl,Wc 1 qd r R [w0,x1] s s _ ?_⟩
   show qd [w0,some r] s=_
   unfold qd
   simp only[EV,Nat.reduceSub,hr]
  | none =>
   have hr:rj [r] s=.ok .non s:=hr
   have ht:qd ([w0,x1].set 1 (some r)) s=.ok (.nx [w0,some r]) s:=by
    show qd [w0,some r] s=_
    unfold qd
    simp only[EV,Nat.reduceSub,hr]
   rw[pg 1 qd r R [w0,x1] _ _ _ ht]
   exact nr_loop s (R:=R) (os:=os) (some r) t
theorem iM{st:S}{R:List W}(h:∀w∈R,Dn 4 w):we st (st.new (.lst R)) (.ref st.nxt)=.ok (.ref st.nxt) (st.new (.lst R)):=by
 unfold we
 dsimp only
 rw[FK (FF _),FJ (ii st _),fe]
 have e:yg st.nxt ((st.new (.lst R)).less st.nxt).mu (.lst R)=some (.lst R):=by
  show(frzs (frz st.nxt ((st.new (.lst R)).less st.nxt).mu 12) R).map MO.lst=_
  rw[d4 fun w hw=>(h w hw).frz _ _ 12 (by omega)];rfl
 dsimp only
 rw[e]
theorem Qq{R:List W}{os:List (Option Str)}{c:Str}(st:S)(h:Outs R os)(hl:R.length<=20)(hf:first os=some c):lh [.lst R] st=.ex (.str c) st:=by
 have e0:lh [.lst R] st=gu 2 st (rg [some (.lst R),none] st):=rfl
 rw[e0]
 unfold rg
 have h1:cb [.lst R,.ty "list"] st=.ok (.bl true) st:=rfl
 have d:decide ((20:Int)<(R.length:Int))=false:=FR (by omega)
 have hs:ba (aa 0) [some (.lst R),none] st=.ok R st:=rfl
 rcases nr_loop (w0:=some (.lst R)) st none h with⟨c',e1,e2⟩|⟨e1,_⟩
 ·rw[hf] at e1;cases e1
  unfold qd at e2
  simp only[EV,Nat.reduceSub,h1,wz,d,Bool.not_true,Bool.false_eq_true,if_false,jj,↓hs,↓e2]
  exact xg (fun _ _=>rfl)
 ·rw[hf] at e1;cases e1
theorem Qr{R:List W}{os:List (Option Str)}(st:S)(h:GOuts R os)(hl:R.length<=20)(hf:first os=none):lh [.lst R] st=(match gq (lg R) [] with
  |none=>.ex (.str "BadWidth") st
  |some _=>.ok (.ref st.nxt) (st.new (.lst R))):=by
 have e0:lh [.lst R] st=gu 2 st (rg [some (.lst R),none] st):=rfl
 rw[e0]
 unfold rg
 have h1:cb [.lst R,.ty "list"] st=.ok (.bl true) st:=rfl
 have d:decide ((20:Int)<(R.length:Int))=false:=FR (by omega)
 have hs:ba (aa 0) [some (.lst R),none] st=.ok R st:=rfl
 have hw:=Lu (w:=.lst R) (R:=R) st (fun _=>rfl) h.rs (by omega)
 have hL:jd true [.lst R] st=.ok (.ref st.nxt) (st.new (.lst R)):=by
  show mi R st=_
  exact FJ (dk (by omega))
 rcases nr_loop (w0:=some (.lst R)) st none h.outs with⟨c',e1,e2⟩|⟨e1,y1,e2⟩
 ·rw[hf] at e1;cases e1
 ·unfold qd at e2
  cases ew:gq (lg R) [] with
  |none =>
   rw[ew] at hw
   have hw:nr [.lst R] st=.ex (.str "BadWidth") st:=hw
   simp only[EV,Nat.reduceSub,h1,wz,d,Bool.not_true,Bool.false_eq_true,if_false,jj,↓hs,↓e2,hw]
   exact xg (fun _ _=>rfl)
  |some A =>
   rw[ew] at hw
   have hw:nr [.lst R] st=.ok (dA A) st:=hw
   simp only[EV,Nat.reduceSub,h1,wz,d,Bool.not_true,Bool.false_eq_true,if_false,jj,↓hs,↓e2,hw,hL]
   exact iM fun w hw=>let ⟨_,ho⟩:=h.rs w hw;ho.dn
theorem dD{R:List W}(st:S)(hl:20<R.length):lh [.lst R] st=.ex (.str "TooMany") st:=by
 have e0:lh [.lst R] st=gu 2 st (rg [some (.lst R),none] st):=rfl
 rw[e0]
 unfold rg
 have h1:cb [.lst R,.ty "list"] st=.ok (.bl true) st:=rfl
 have d:decide ((20:Int)<(R.length:Int))=true:=decide_eq_true (by omega)
 simp only[EV,Nat.reduceSub,h1,wz,d,Bool.not_true,Bool.false_eq_true,if_false,if_true]
 exact xg (fun _ _=>rfl)
theorem eO(st:S)(h:cb [w,.ty "list"] st=.ok (.bl false) st):lh [w] st=.ex (.str "BadRule") st:=by
 have e0:lh [w] st=gu 2 st (rg [some w,none] st):=rfl
 rw[e0]
 unfold rg
 simp only[EV,Nat.reduceSub,h,Bool.not_false,if_true]
 exact xg (fun _ _=>rfl)
def nv(c:Str):Str:=if c = "BadRule" then "rule" else if c = "Unbound" then "unbound" else if c = "TooMany" then "many" else "width"
def Cls(c:Str):Prop:=c = "BadRule"\/c = "Unbound"\/c = "TooMany"\/c = "BadWidth"
theorem eS(st:S):me [.exn "BadRule"] st=.ok (.str "rule") st:=by kernel_rfl
theorem eP(st:S):me [.exn "Unbound"] st=.ok (.str "unbound") st:=by kernel_rfl
theorem eQ(st:S):me [.exn "TooMany"] st=.ok (.str "many") st:=by kernel_rfl
theorem dP(st:S):me [.exn "BadWidth"] st=.ok (.str "width") st:=by kernel_rfl
theorem qP(h:Cls c)(st:S):me [.exn c] st=.ok (.str (nv c)) st/\pf.lookup c=some true:=by
 rcases h with rfl|rfl|rfl|rfl
 ·exact⟨eS st,by decide +kernel⟩
 ·exact⟨eP st,by decide +kernel⟩
 ·exact⟨eQ st,by decide +kernel⟩
 ·exact⟨dP st,by decide +kernel⟩
theorem Nl(h:Cls c)(hb:rb [w,none] s=.ex (.str c) s'):ot 2 1 pf rb (ai (aw (runN (ad (aa 1) af) (ao me))) aj) [w,none] s=.ok (.rt (.str (nv c))) s':=by
 obtain⟨h1,h2⟩:=qP h s'
 unfold ot
 rw[hb]
 dsimp only
 rw[h2]
 have hs:(ai (aw (runN (ad (aa 1) af) (ao me))) aj) [none,some (.exn c)] s'=.ok (.rt (.str (nv c))) s':=by simp only[EV,Nat.reduceSub,h1]
 show Iz 1 ((ai (aw (runN (ad (aa 1) af) (ao me))) aj) [none,some (.exn c)] s')=_
 rw[hs];rfl
theorem Ep(st:S)(h:Cls c)(hn:lh [w] st=.ex (.str c) st):ll [w] st=.ok (.str (nv c)) st:=by
 have e0:ll [w] st=gu 0 st (a9 [some w,none] st):=rfl
 rw[e0]
 unfold a9
 have hb:(ai (aw (runN (ad (aa 0) af) lh)) aj) [some w,none] st=.ex (.str c) st:=by simp only[EV,Nat.reduceSub,hn]
 rw[cj,Nl h hb];rfl
theorem sJ(hn:lh [w] st=.ok v s'):ll [w] st=.ok v s':=by
 have e0:ll [w] st=gu 0 st (a9 [some w,none] st):=rfl
 rw[e0]
 unfold a9
 have hb:(ai (aw (runN (ad (aa 0) af) lh)) aj) [some w,none] st=.ok (.rt v) s':=by simp only[EV,Nat.reduceSub,hn]
 have ht:ot 2 1 pf (ai (aw (runN (ad (aa 0) af) lh)) aj) (ai (aw (runN (ad (aa 1) af) (ao me))) aj) [some w,none] st=.ok (.rt v) s':=by unfold ot;rw[hb]
 rw[cj,ht];rfl
theorem oP(st:S)(hn:nr [w] st=.ex (.str "BadWidth") st):zb [w] st=.ok (.str "width") st:=by
 have e0:zb [w] st=gu 0 st (Gm [some w,none] st):=rfl
 rw[e0]
 unfold Gm
 have hb:(ai (fm (runN (ad (aa 0) af) nr)) aj) [some w,none] st=.ex (.str "BadWidth") st:=by simp only[EV,Nat.reduceSub,hn]
 rw[cj,Nl (c:="BadWidth") (.inr (.inr (.inr rfl))) hb]
 rw[show nv "BadWidth" = "width" by decide +kernel];rfl
theorem D5(h:Dn n w)(hn:n<12)(st:S)(hd:uo st w w=none):nk st w w=some true:=by
 unfold nk
 rw[hd]
 dsimp only
 rw[h.eq 12 hn]
theorem gW(st:S)(h:GPs ps):Gp [.tup ps] st=.ok (.str (oy ps)) st:=by
 obtain⟨h1,h2,h3⟩:=h.ok
 have hn:=iK st h1
 rw[FJ h2] at hn
 dsimp only at hn
 have e0:Gp [.tup ps] st=gu 0 st (Gr [some (.tup ps),none] st):=rfl
 rw[e0]
 unfold Gr oy
 rw[cj]
 by_cases e:iy ps []=true
 ·rw[FJ e] at hn ⊢
  have hq:de (.tup ps) (.tup ps) st=.ok (.bl false) st:=by
   unfold de
   rw[D5 (h.dn 0) (by decide) st rfl];rfl
  have hi:nb [.bl false] st=.ok (.int 0) st:=rfl
  have hm:dj (.str "other") (.int 0) st=.ok (.str "") st:=by kernel_rfl
  have hb:(ai (aw (ae (ac (W.str "other")) (runN (ad (ae (runN (ad (aa 0) af) wy) (aa 0) de) af) nb) dj)) aj) [some (.tup ps),none] st=.ok (.rt (.str "")) st:=by simp only[EV,Nat.reduceSub,hn,hq,hi,hm]
  have ht:ot 2 1 pf (ai (aw (ae (ac (W.str "other")) (runN (ad (ae (runN (ad (aa 0) af) wy) (aa 0) de) af) nb) dj)) aj) (ai (aw (runN (ad (aa 1) af) (ao me))) aj) [some (.tup ps),none] st=.ok (.rt (.str "")) st:=by unfold ot;rw[hb]
  rw[ht];rfl
 ·rw[FK e] at hn ⊢
  have hb:(ai (aw (ae (ac (W.str "other")) (runN (ad (ae (runN (ad (aa 0) af) wy) (aa 0) de) af) nb) dj)) aj) [some (.tup ps),none] st=.ex (.str "Unbound") st:=by simp only[EV,Nat.reduceSub,hn]
  rw[Nl (c:="Unbound") (.inr (.inl rfl)) hb,show nv "Unbound" = "unbound" by decide +kernel];rfl
noncomputable def d6:aq:=(ai (bg (ae (aa 3) (aa 1) mv)
  (ai (fm (dw "list" (aa 1) (ad (aa 3) af) kg))
 aj)
  aj)
 aj)
theorem sS(st:S)(zs:List Str)(z:Str)(hl:zs.length<=1000):d6 [w0,some (.ref st.nxt),w2,some (.str z)] (st.new (.lst (zs.map W.str)))=.ok (.nx [w0,some (.ref st.nxt),w2,some (.str z)]) (st.new (.lst ((SS.stepS zs z).map W.str))):=by
 have hn:=Sy (st:=st.new (.lst (zs.map W.str))) (b:=.ref st.nxt) (bs:=zs) (by show MO.items ((st.new (.lst (zs.map W.str))).mu st.nxt)=_;rw[fe];rfl) z
 unfold d6 SS.stepS
 cases e:zs.any (fun a=>a == z) with
 |true =>
  rw[e] at hn
  simp only[EV,Nat.reduceSub,hn,Bool.not_true,Bool.false_eq_true,if_false]
  rw[FJ trivial]
 |false =>
  rw[e] at hn
  have ha:=Hj (ro:=aa 1) (re:=aa 3) (Γ:=[w0,some (.ref st.nxt),w2,some (.str z)]) (st:=st) (xs:=zs.map W.str) (w:=.str z) rfl rfl (by rw[EQ];exact hl)
  simp only[EV,Nat.reduceSub,hn,Bool.not_false,if_true,↓ha]
  rw[FK EG,List.map_append];rfl
theorem Zy(st:S):∀(ws zs:List Str)(x3:Option W),zs.length+ws.length<=1000->∃y3,cy 3 d6 (ws.map W.str) [w0,some (.ref st.nxt),w2,x3] (st.new (.lst (zs.map W.str)))=.ok (.nx [w0,some (.ref st.nxt),w2,y3]) (st.new (.lst ((ws.foldl SS.stepS zs).map W.str)))
 |[],zs,x3,_=>⟨x3,rfl⟩
 |w::ws,zs,x3,hl=>by
  rw[EZ] at hl
  have hs:=SS.step_le zs w
  obtain⟨y3,e⟩:=Zy st ws (SS.stepS zs w) (some (.str w)) (by omega)
  refine⟨y3,?_⟩
  rw[FN,pg 3 d6 (.str w) _ [w0,some (.ref st.nxt),w2,x3] _ _ _ (sS st zs w (by omega)),e,List.foldl_cons]
noncomputable def Fm:aq:=(ai (ib 3 (ba (runN (ad (runN (ad (aa 2) af) (ao li)) af) (ao kf))) d6)
 aj)
theorem Za(st:S):∀(ps:List W)(zs:List Str)(x2 x3:Option W),(∀p∈ps,GPart p)->zs.length+4*ps.length<=1000->∃y2 y3,cy 2 Fm ps [w0,some (.ref st.nxt),x2,x3] (st.new (.lst (zs.map W.str)))=.ok (.nx [w0,some (.ref st.nxt),y2,y3]) (st.new (.lst (((bn ps).foldl SS.stepS zs).map W.str)))
 |[],zs,x2,x3,_,_=>⟨x2,x3,rfl⟩
 |p::ps,zs,x2,x3,h,hl=>by
  rw[EZ] at hl
  have gp:=h p EK
  have wl:=xf gp.ok.1 gp.ok.2
  have fl:=SS.fold_le (bz p) zs
  obtain⟨z3,e⟩:=Zy (w0:=w0) (w2:=some p) st (bz p) zs x3 (by omega)
  obtain⟨y2,y3,e2⟩:=Za (w0:=w0) st ps ((bz p).foldl SS.stepS zs) (some p) z3 (fun q hq=>h q (ER _ hq)) (by omega)
  refine⟨y2,y3,?_⟩
  have ha:bn (p::ps)=bz p++bn ps:=by unfold bn;rw[List.flatMap_cons]
  rw[ha,List.foldl_append,<-e2]
  refine pg 2 Fm p ps [w0,some (.ref st.nxt),x2,x3] _ _ _ ?_
  show Fm [w0,some (.ref st.nxt),some p,x3] _=_
  unfold Fm
  rw[cj,jj,Lv (gp.words _ (a:=aa 2) (jx _ _ _)),ah,e]
  rfl
theorem Wu(zs:List Str):Dn 1 (.lst (zs.map W.str)):=.lst fun x hx=>by
 obtain⟨z,_,rfl⟩:=List.mem_map.mp hx
 exact .str _ _
theorem gX(st:S)(h:GPs ps):ze [.tup ps] st=.ok (.bl true) st:=by
 have h3:=h.l3
 have e0:ze [.tup ps] st=gu 1 st (Gs [some (.tup ps),none,none,none] st):=rfl
 rw[e0]
 unfold Gs
 have hn:∀Γ:Ga,runN af (ay true) Γ st=.ok (.ref st.nxt) (st.new (.lst (([]:List Str).map W.str))):=fun _=>rfl
 obtain⟨y2,y3,e⟩:=Za (w0:=some (.tup ps)) st ps [] none none h.g (by simp;omega)
 have hs:ba (aa 0) [some (.tup ps),some (.ref st.nxt),none,none] (st.new (.lst (([]:List Str).map W.str)))=.ok ps (st.new (.lst (([]:List Str).map W.str))):=rfl
 unfold Fm d6 at e
 generalize es:st.new (.lst (((bn ps).foldl SS.stepS []).map W.str))=s1 at e
 have hwi:=Kt s1 h.ok.2.2 (by omega)
 have hbt:=gW s1 h
 have hbd:=Qf s1 h
 have hq1:bw (.lst ((SS.onceS (bn ps)).map W.str)) (.ref st.nxt) s1=.ok (.bl true) s1:=by
  have hm:s1.mu st.nxt=some (.lst ((SS.onceS (bn ps)).map W.str)):=by rw[<-es];exact fe st _
  have hd:jk s1 (.ref st.nxt)=none:=by
   show(match s1.mu st.nxt with|some (.dct ks ws)=>some (ks,ws)|_=>none)=_
   rw[hm]
  have f1:=(Wu (SS.onceS (bn ps))).frz 0 s1.mu 12 (by decide)
  have f2:DL.frz 0 s1.mu 12 (.ref st.nxt)=some (.lst ((SS.onceS (bn ps)).map W.str)):=by
   show(if st.nxt<0 then some (W.ref st.nxt) else(match s1.mu st.nxt with
    |some (.lst xs)=>(frzs (DL.frz 0 s1.mu 11) xs).map W.lst
    |some (.dct ks xs)=>(frzs (DL.frz 0 s1.mu 11) xs).map (W.dct ks)
    |none=>none))=_
   rw[FK (Nat.not_lt_zero _),hm]
   show(frzs (DL.frz 0 s1.mu 11) ((SS.onceS (bn ps)).map W.str)).map W.lst=_
   rw[Eg (DL.frz 0 s1.mu 11) fun _=>rfl];rfl
  have ed:uo s1 (.lst ((SS.onceS (bn ps)).map W.str)) (.ref st.nxt)=none:=rfl
  have e12:ci 12 (.lst ((SS.onceS (bn ps)).map W.str)) (.ref st.nxt)=none:=rfl
  unfold bw nk
  rw[ed]
  dsimp only
  rw[e12]
  dsimp only
  rw[f1,f2]
  dsimp only
  rw[(Wu (SS.onceS (bn ps))).eq 12 (by decide)]
 have hb:((oy ps) == (oy ps))=true:=beq_self_eq_true _
 have ho:∀m,m<st.nxt->s1.mu m=st.mu m:=by rw[<-es];exact ii st _
 rw[cj,ki,hn,ah,yp,ah,fj,cj,jj,hs,ah,e,ah,fj]
 simp only[EV,Nat.reduceSub,hwi,hq1,hbt,hbd,hb,if_true]
 show keep st s1 (.bl true)=_
 exact vn ho rfl
section
variable {Γ:Ga} {s:S} {a b:am} {i j:Int}
theorem wg(ha:a Γ s=.ok (.int i) s)(hb:b Γ s=.ok (.int j) s):ae a b av Γ s=.ok (.int (i+j)) s:=by rw[cz,ha,ah,hb,ah,Yc]
theorem Io(ha:a Γ s=.ok (.int i) s)(hb:b Γ s=.ok (.int j) s)(h0:-1000000<=i)(h1:i<=1000000):ae a b dj Γ s=.ok (.int (i*j)) s:=by rw[cz,ha,ah,hb,ah,Mz _ _ h0 h1]
theorem Zk(ha:a Γ s=.ok (.int i) s)(hb:b Γ s=.ok (.int j) s)(h0:-1000000<=j)(h1:j<=1000000):ae a b dj Γ s=.ok (.int (i*j)) s:=by rw[cz,ha,ah,hb,ah,wB _ _ h0 h1]
theorem um(ha:a Γ s=.ok (.int i) s)(h0:0<j)(h1:j<1073741824):ae a (ac (W.int j)) bi Γ s=.ok (.int (i/j)) s:=by rw[cz,ha,ah,df,ah,Yb _ _ h0 h1]
theorem wf(ha:a Γ s=.ok (.int i) s)(hb:b Γ s=.ok (.int j) s)(h0:0<j):ae a b bf Γ s=.ok (.int (i % j)) s:=by rw[cz,ha,ah,hb,ah,Na _ _ h0]
theorem lw(ha:a Γ s=.ok (.int i) s)(h0:0<c)(h1:c<1073741824)(h2:0<d):ae (ae a (ac (W.int c)) bi) (ac (W.int d)) bf Γ s=.ok (.int (i/c % d)) s:=wf (um ha h0 h1) (df _) h2
theorem Je(ha:a Γ s=.ok (.int n) s)(h0:-1000<=n)(h1:n<=1000):ja a Γ s=.ok (ju 0 n.toNat) s:=Xu _ _ ha (by omega) (by omega)
end
theorem oa(ha:a Γ st=.ok (.lst ws) st)(hb:b Γ st=.ok (.int i) st)(h0:0<=i)(h1:i<ws.length):∃w∈ws,ae a b ak Γ st=.ok w st:=by
 obtain⟨w,h,hm⟩:=aS ws i h0 h1
 refine⟨w,hm,?_⟩
 rw[cz,ha,ah,hb,ah]
 exact nu ws i w h
structure W5 (z0 z1 z2 z3 z4:Str):Prop where
 f0:jm z0
 f1:jm z1
 f2:jm z2
 f3:jm z3
 f4:jm z4
 d01:z0≠z1
 d02:z0≠z2
 d12:z1≠z2
theorem Five.w5(h:Five zs):∃z0 z1 z2 z3 z4,zs=[z0,z1,z2,z3,z4]/\W5 z0 z1 z2 z3 z4:=by
 obtain⟨hl,hf,h1,h2,h3⟩:=h
 match zs,hl with
 |[a,b,c,d,e],_ =>
  exact⟨a,b,c,d,e,rfl,hf a (by simp),hf b (by simp),hf c (by simp),hf d (by simp),hf e (by simp),fun q=>h1 (by rw[q];rfl),fun q=>h2 (by rw[q];rfl),fun q=>h3 (by rw[q];rfl)⟩
abbrev wl(z0 z1 z2 z3 z4:Str):W:=.lst [.str z0,.str z1,.str z2,.str z3,.str z4]
section
variable {z0 z1 z2 z3 z4:Str}
theorem Su(h:W5 z0 z1 z2 z3 z4)(c:Int)(st:S):∃w,GoodT w/\vg [.int c,wl z0 z1 z2 z3 z4] st=.ok w st:=by
 unfold vg
 rw[Fe]
 unfold Kl
 rw[show(2 - 2:Nat)=0 from rfl,rn]
 obtain⟨m0,m1⟩:=iu (c/4) 3 (by decide)
 obtain⟨l0,l1⟩:=iu (c/4) 4 (by decide)
 by_cases h0:c % 4<2
 ·have d:decide (c % 4<2)=true:=decide_eq_true h0
  have hx:∃w∈[W.str z0,W.str z1,W.str z2],ae (aa 1) (ae (ae (aa 0) (ac (W.int 4)) bi) (ac (W.int 3)) bf) ak [some (.int c),some (wl z0 z1 z2 z3 z4)] st=.ok w st:=by
   obtain⟨w,e,hm⟩:=aS [W.str z0,W.str z1,W.str z2] (c/4 % 3) m0 (by show _<3;exact m1)
   refine⟨w,hm,?_⟩
   rw[cz,ip,ah,lw (dc _) (by decide) (by decide) (by decide),ah]
   refine nu _ _ _ ?_
   have e3:c/4 % 3=0\/c/4 % 3=1\/c/4 % 3=2:=by omega
   rcases e3 with e3|e3|e3<;>(rw[e3] at e ⊢;exact e)
  obtain⟨w,hw,e⟩:=hx
  refine⟨w,?_,?_⟩
  ·simp only[List.mem_cons,List.not_mem_nil,or_false] at hw
   rcases hw with rfl|rfl|rfl
   ·exact .free _ h.f0
   ·exact .free _ h.f1
   ·exact .free _ h.f2
  ·simp only[EV,Nat.reduceSub,show(0:Int)<4 by decide,d,if_true,↓e]
 ·have d:decide (c % 4<2)=false:=FR h0
  have hl:runN (ad (ac (W.int 1)) (ad (ac (W.str "a")) (ad (bb (ac (W.int 5)) di) (ad (ac (W.str "b")) af)))) (ay false) [some (.int c),some (wl z0 z1 z2 z3 z4)] st=.ok (.lst [.int 1,.str "a",.int (-5),.str "b"]) st:=rfl
  obtain⟨w,hw,e⟩:=oa hl (lw (dc _) (by decide) (by decide) (by decide)) l0 (show c/4 % 4<4 by omega)
  refine⟨w,?_,?_⟩
  ·simp only[List.mem_cons,List.not_mem_nil,or_false] at hw
   rcases hw with rfl|rfl|rfl|rfl
   ·exact .num _ (by decide)
   ·exact .name _ (by simp)
   ·exact .num _ (by decide)
   ·exact .name _ (by simp)
  ·simp only[EV,Nat.reduceSub,show(0:Int)<4 by decide,d,if_false,Bool.false_eq_true,↓e]
theorem aF:∀z∈(["road", "town", "rain", "load"]:List Str),qg z=true/\z.length<=8:=by
 have all:(["road", "town", "rain", "load"]:List Str).all (fun z=>qg z&&decide (z.length<=8))=true:=by decide +kernel
 intro z hz
 have:=List.all_eq_true.mp all z hz
 simp only[FE,decide_eq_true_eq] at this
 exact this
theorem Qe(h:W5 z0 z1 z2 z3 z4)(c:Int)(any:Bool)(st:S):∃n ts,GPat n ts/\ww [.int c,.bl any,wl z0 z1 z2 z3 z4] st=.ok (.tup (.str n::ts)) st:=by
 have e0:ww [.int c,.bl any,wl z0 z1 z2 z3 z4] st=jv 0 st (Go [some (.int c),some (.bl any),some (wl z0 z1 z2 z3 z4),none,none,none] st):=rfl
 rw[e0]
 unfold Go
 obtain⟨m0,m1⟩:=iu c 4 (by decide)
 obtain⟨l0,l1⟩:=iu (c/12) 5 (by decide)
 have hl:runN (ad (ac (W.int 2)) (ad (ac (W.int 1)) (ad (ac (W.int 0)) (ad (ac (W.int 3)) af)))) (ay false) [some (.int c),some (.bl any),some (wl z0 z1 z2 z3 z4),some (.int (c % 4)),none,none] st=.ok (.lst [.int 2,.int 1,.int 0,.int 3]) st:=rfl
 obtain⟨w4,hw4,e4⟩:=oa (b:=aa 3) hl rfl m0 (show c % 4<4 by omega)
 have hw4:∃k:Nat,k<=4/\w4=.int k:=by
  simp only[List.mem_cons,List.not_mem_nil,or_false] at hw4
  rcases hw4 with rfl|rfl|rfl|rfl
  ·exact⟨2,by decide,rfl⟩
  ·exact⟨1,by decide,rfl⟩
  ·exact⟨0,by decide,rfl⟩
  ·exact⟨3,by decide,rfl⟩
 obtain⟨k4,hk4,rfl⟩:=hw4
 have rest:∀k:Nat,k<=4->∃n ts,GPat n ts/\jv 0 st ((ai (ax 5 (ck false (ja (aa 4)) [0,2] (ac (.bl true)) (runN (ad (ae (ae (ae (aa 1) (ac (W.int 4)) bi) (ae (ac (W.int 7)) (aa 0) dj) av) (ae (ae (aa 1) (ac (W.int 29)) bi) (aa 0) dj) av) (ad (aa 2) af)) (ao vg))))
   (ai (aw (runN (ad (ae (runN (ad (ae (runN (ad (ac (W.str "road")) (ad (ac (W.str "town")) (ad (ac (W.str "rain")) (ad (ac (W.str "load")) af)))) (ay false)) (aa 3) ak) af) (ay false)) (aa 5) av) af) mt)) aj)) [some (.int c),some (.bl any),some (wl z0 z1 z2 z3 z4),some (.int (c % 4)),some (.int (k:Nat)),none] st)=.ok (.tup (.str n::ts)) st:=fun k hk=>by
  obtain⟨ys,h1,h2,h3⟩:=Ex (cap:=[0,2]) (src:=ja (aa 4)) (re:=runN (ad (ae (ae (ae (aa 1) (ac (W.int 4)) bi) (ae (ac (W.int 7)) (aa 0) dj) av) (ae (ae (aa 1) (ac (W.int 29)) bi) (aa 0) dj) av) (ad (aa 2) af)) (ao vg)) (Γ:=[some (.int c),some (.bl any),some (wl z0 z1 z2 z3 z4),some (.int (c % 4)),some (.int (k:Nat)),none]) (st:=st) GoodT (Je (n:=k) rfl (by omega) (by omega)) (by rw[ph];omega) (fun x hx=>by
   obtain⟨j,hj,rfl⟩:=x9 hx
   have hj:j<4:=by omega
   obtain⟨w,hw,e⟩:=Su h (c/4+7*(j:Int)+c/29*(j:Int)) st
   refine⟨w,hw,?_⟩
   show runN _ _ [some (.int (j:Nat)),some (.int c),some (wl z0 z1 z2 z3 z4)] st=_
   rw[ee,cf,wg (wg (um (ip _ _) (by decide) (by decide)) (Io (df _) (dc _) (by decide) (by decide))) (Zk (um (ip _ _) (by decide) (by decide)) (dc _) (by omega) (by omega)),ah,cf,jx,ah,dv,ah,ah,ah,lm,e]
   rfl)
  rw[ph] at h1
  have hn:runN (ad (ac (W.str "road")) (ad (ac (W.str "town")) (ad (ac (W.str "rain")) (ad (ac (W.str "load")) af)))) (ay false) [some (.int c),some (.bl any),some (wl z0 z1 z2 z3 z4),some (.int (c % 4)),some (.int (k:Nat)),some (.lst ys)] st=.ok (.lst ((["road", "town", "rain", "load"]:List Str).map W.str)) st:=rfl
  obtain⟨wn,hwn,en⟩:=oa (b:=aa 3) hn rfl m0 (show c % 4<4 by omega)
  obtain⟨n,hn',rfl⟩:=List.mem_map.mp hwn
  have hk':ys.length=k:=by rw[h1];omega
  refine⟨n,ys,⟨(aF n hn').1,(aF n hn').2,by omega,h2⟩,?_⟩
  have hadd:=Iv (a:=runN (ad (ae (runN (ad (ac (W.str "road")) (ad (ac (W.str "town")) (ad (ac (W.str "rain")) (ad (ac (W.str "load")) af)))) (ay false)) (aa 3) ak) af) (ay false)) (b:=aa 5) (Γ:=[some (.int c),some (.bl any),some (wl z0 z1 z2 z3 z4),some (.int (c % 4)),some (.int (k:Nat)),some (.lst ys)]) (s:=st) (xs:=[.str n]) (ys:=ys) (by rw[ee,cf,en,ah,dv,ah,ah];exact ky _ (show 1<=sizeLine by decide)) rfl (by rw[FD];omega)
  have ht:mt [.lst ([.str n]++ys)] st=.ok (.tup (.str n::ys)) st:=mz _ (dk (by rw[ES,FD];omega))
  rw[cj,ki,h3,ah,ks5,ah,fj,kx (w:=.tup (.str n::ys)) (by rw[ee,cf,hadd,ah,dv,ah,ah,ht])]
  rfl
 have h3:ae (aa 0) (ac (W.int 4)) bf [some (.int c),some (.bl any),some (wl z0 z1 z2 z3 z4),none,none,none] st=.ok (.int (c % 4)) st:=wf (dc _) (df _) (by decide)
 have hcond:∃b,cr (aa 1) (ae (ae (ae (aa 0) (ac (W.int 4)) bi) (ac (W.int 3)) bf) (ac (W.int 1)) bw) [some (.int c),some (.bl any),some (wl z0 z1 z2 z3 z4),some (.int (c % 4)),some (.int (k4:Nat)),none] st=.ok (.bl b) st:=by
  cases any with
  |false=>exact⟨false,rfl⟩
  |true =>
   refine⟨c/4 % 3 == 1,?_⟩
   have:=lw (a:=aa 0) (c:=4) (d:=3) (Γ:=[some (.int c),some (.bl true),some (wl z0 z1 z2 z3 z4),some (.int (c % 4)),some (.int (k4:Nat)),none]) (s:=st) (dc _) (by decide) (by decide) (by decide)
   simp only[EV,Nat.reduceSub,↓this,if_true]
 obtain⟨b,hb⟩:=hcond
 have h12:ae (ae (aa 0) (ac (W.int 12)) bi) (ac (W.int 5)) bf [some (.int c),some (.bl any),some (wl z0 z1 z2 z3 z4),some (.int (c % 4)),some (.int (k4:Nat)),none] st=.ok (.int (c/12 % 5)) st:=lw (dc _) (by decide) (by decide) (by decide)
 cases b with
 |false =>
  obtain⟨n,ts,hg,e⟩:=rest k4 hk4
  refine⟨n,ts,hg,?_⟩
  rw[cj,ki,h3,ah,Gd,ah,fj,cj,ki,e4,ah,ks4,ah,fj,cj,Fq,hb,ah,kh,FK EG,xp,ah,fj]
  exact e
 |true =>
  obtain⟨n,ts,hg,e⟩:=rest (c/12 % 5).toNat (by omega)
  rw[show(((c/12 % 5).toNat:Nat):Int)=c/12 % 5 by omega] at e
  refine⟨n,ts,hg,?_⟩
  rw[cj,ki,h3,ah,Gd,ah,fj,cj,ki,e4,ah,ks4,ah,fj,cj,Fq,hb,ah,kh,FJ rfl,cj,ki,h12,ah,ks4,ah,fj,xp,ah,fj]
  exact e
theorem kL(h:W5 z0 z1 z2 z3 z4)(c:Int)(any:Bool)(st:S):∃w,GPart w/\r9 [.int c,.bl any,wl z0 z1 z2 z3 z4] st=.ok w st:=by
 have e0:r9 [.int c,.bl any,wl z0 z1 z2 z3 z4] st=jv 0 st (He [some (.int c),some (.bl any),some (wl z0 z1 z2 z3 z4),none] st):=rfl
 rw[e0]
 unfold He
 obtain⟨n,ts,hp,ep⟩:=Qe h (c/7) any st
 have t2:∀a b:W,ap [a,b] st=.ok (.tup [a,b]) st:=fun a b=>mz [a,b] (show 2<=sizeLine by decide)
 have t3:∀a b c:W,ap [a,b,c] st=.ok (.tup [a,b,c]) st:=fun a b c=>mz [a,b,c] (show 3<=sizeLine by decide)
 have t4:∀a b c d:W,ap [a,b,c,d] st=.ok (.tup [a,b,c,d]) st:=fun a b c d=>mz [a,b,c,d] (show 4<=sizeLine by decide)
 by_cases h0:c % 7<4
 ·have d:decide (c % 7<4)=true:=decide_eq_true h0
  refine⟨_,.pat "has" n ts (.inl rfl) hp,?_⟩
  simp only[EV,Nat.reduceSub,show(0:Int)<7 by decide,show(7:Int)<1073741824 by decide,d,if_true,ep,t2]
 ·have d:decide (c % 7<4)=false:=FR h0
  by_cases h1:c % 7=4
  ·have d1:(c % 7 == 4)=true:=beq_iff_eq.mpr h1
   refine⟨_,.pat "not" n ts (.inr rfl) hp,?_⟩
   simp only[EV,Nat.reduceSub,show(0:Int)<7 by decide,show(7:Int)<1073741824 by decide,d,d1,if_true,if_false,Bool.false_eq_true,ep,t2]
  ·have d1:(c % 7 == 4)=false:=beq_false_of_ne h1
   obtain⟨ys,g1,g2,g3⟩:=Ex (cap:=[0,2]) (src:=ja (ac (W.int 3))) (re:=runN (ad (ae (ae (ae (aa 1) (ac (W.int 7)) bi) (ae (ac (W.int 5)) (aa 0) dj) av) (ae (ae (aa 1) (ac (W.int 31)) bi) (aa 0) dj) av) (ad (aa 2) af)) (ao vg)) (Γ:=[some (.int c),some (.bl any),some (wl z0 z1 z2 z3 z4),none]) (st:=st) GoodT (Je (n:=3) rfl (by decide) (by decide)) (by rw[ph];decide) (fun x hx=>by
    obtain⟨j,hj,rfl⟩:=x9 hx
    have hj:j<3:=hj
    obtain⟨w,hw,e⟩:=Su h (c/7+5*(j:Int)+c/31*(j:Int)) st
    refine⟨w,hw,?_⟩
    show runN _ _ [some (.int (j:Nat)),some (.int c),some (wl z0 z1 z2 z3 z4)] st=_
    rw[ee,cf,wg (wg (um (ip _ _) (by decide) (by decide)) (Io (df _) (dc _) (by decide) (by decide))) (Zk (um (ip _ _) (by decide) (by decide)) (dc _) (by omega) (by omega)),ah,cf,jx,ah,dv,ah,ah,ah,lm,e]
    rfl)
   rw[ph] at g1
   match ys,g1,g2,g3 with
   | [a,b,f],_,g2,g3 =>
    have ga:=g2 a (by simp)
    have gb:=g2 b (by simp)
    have gf:=g2 f (by simp)
    have i0:ak (.lst [a,b,f]) (.int 0) st=.ok a st:=nu _ 0 _ (gi _ 0 _ rfl)
    have i1:ak (.lst [a,b,f]) (.int 1) st=.ok b st:=nu _ 1 _ (gi _ 1 _ rfl)
    have i2:ak (.lst [a,b,f]) (.int 2) st=.ok f st:=nu _ 2 _ (gi _ 2 _ rfl)
    by_cases h2:c % 7=5
    ·have d2:(c % 7 == 5)=true:=beq_iff_eq.mpr h2
     refine⟨_,.plus a b f ga gb gf,?_⟩
     simp only[EV,Nat.reduceSub,show(0:Int)<7 by decide,d,d1,d2,if_true,if_false,Bool.false_eq_true,↓g3,i0,i1,i2,t4]
    ·have d2:(c % 7 == 5)=false:=beq_false_of_ne h2
     obtain⟨l0,l1⟩:=iu (c/7) 2 (by decide)
     have hn:runN (ad (ac (W.str "less")) (ad (ac (W.str "same")) af)) (ay false) [some (.int c),some (.bl any),some (wl z0 z1 z2 z3 z4),some (.lst [a,b,f])] st=.ok (.lst ((["less", "same"]:List Str).map W.str)) st:=rfl
     obtain⟨wn,hwn,en⟩:=oa hn (lw (dc _) (by decide) (by decide) (by decide)) l0 (show c/7 % 2<2 by omega)
     obtain⟨k,hk,rfl⟩:=List.mem_map.mp hwn
     refine⟨_,.two k a b (by simpa using hk) ga gb,?_⟩
     simp only[EV,Nat.reduceSub,show(0:Int)<7 by decide,d,d1,d2,if_false,Bool.false_eq_true,↓g3,↓en,i0,i1,t3]
end
theorem Y3(h:a≠b):(SS.onceS [a,b]).length=2:=by
 have e:SS.onceS [a,b]=[a,b]:=by
  show SS.stepS [a] b=_
  unfold SS.stepS
  rw[FK (by simpa using h)];rfl
 rw[e];rfl
theorem Y1(h1:a≠b)(h2:a≠c)(h3:b≠c):(SS.onceS [a,b,c]).length=3:=by
 have e:SS.onceS [a,b,c]=[a,b,c]:=by
  show SS.stepS (SS.stepS [a] b) c=_
  have e1:SS.stepS [a] b=[a,b]:=by
   unfold SS.stepS
   rw[FK (by simpa using h1)];rfl
  rw[e1]
  unfold SS.stepS
  rw[FK (by simp[h2,h3])];rfl
 rw[e];rfl
theorem aK:∀z∈gk,qi z=true/\z.length<=8:=by
 have all:gk.all (fun z=>qi z&&decide (z.length<=8))=true:=by decide +kernel
 intro z hz
 have:=List.all_eq_true.mp all z hz
 simp only[FE,decide_eq_true_eq] at this
 exact this
section
variable {z0 z1 z2 z3 z4:Str}
theorem kD(h:W5 z0 z1 z2 z3 z4)(c:Int)(any:Bool)(st:S):∃w o,GR w o/\r6 [.int c,.bl any,wl z0 z1 z2 z3 z4] st=.ok w st:=by
 have e0:r6 [.int c,.bl any,wl z0 z1 z2 z3 z4] st=jv 0 st (Hd [some (.int c),some (.bl any),some (wl z0 z1 z2 z3 z4),none,none,none,none,none,none] st):=rfl
 rw[e0]
 unfold Hd
 obtain⟨m0,m1⟩:=iu (c/3) 3 (by decide)
 obtain⟨p0,p1⟩:=iu c 5 (by decide)
 obtain⟨ys,g1,g2,g3⟩:=Ex (cap:=[1,0,2]) (src:=ja (ae (ac (W.int 1)) (ae (ae (aa 0) (ac (W.int 3)) bi) (ac (W.int 3)) bf) av)) (re:=runN (ad (ae (ae (aa 2) (ac (W.int 11)) bi) (ae (ae (ac (W.int 10007)) (aa 0) dj) (ae (ac (W.int 1)) (ae (aa 2) (ac (W.int 5)) bf) av) dj) av) (ad (aa 1) (ad (aa 3) af))) (ao r9)) (Γ:=[some (.int c),some (.bl any),some (wl z0 z1 z2 z3 z4),none,none,none,none,none,none]) (st:=st) (items:=ju 0 (1+c/3 % 3).toNat) GPart (Je (wg (df _) (lw (dc _) (by decide) (by decide) (by decide))) (by omega) (by omega)) (by rw[ph];omega) (fun x hx=>by
  obtain⟨j,hj,rfl⟩:=x9 hx
  have hj:j<3:=by omega
  obtain⟨w,hw,e⟩:=kL h (c/11+10007*(j:Int)*(1+c % 5)) any st
  refine⟨w,hw,?_⟩
  show runN _ _ [some (.int (j:Nat)),some (.bl any),some (.int c),some (wl z0 z1 z2 z3 z4)] st=_
  rw[ee,cf,wg (um (jx _ _ _) (by decide) (by decide)) (Io (Io (df _) (dc _) (by decide) (by decide)) (wg (df _) (wf (jx _ _ _) (df _) (by decide))) (by omega) (by omega)),ah,cf,ip,ah,cf,wj,ah,dv,ah,ah,ah,ah,lm,e]
  rfl)
 rw[ph] at g1
 have hb:GPs ys:=⟨by omega,by omega,g2⟩
 obtain⟨n,ts,hp,ep⟩:=Qe h (c/5) any st
 have ht:mt [.lst ys] st=.ok (.tup ys) st:=mz ys (dk (by omega))
 have t3:∀a b d:W,ap [a,b,d] st=.ok (.tup [a,b,d]) st:=fun a b d=>mz [a,b,d] (show 3<=sizeLine by decide)
 have hP:∀Γ:Ga,runN (ad (ae (aa 0) (ac (W.int 5)) bi) (ad (aa 1) (ad (aa 2) af))) (ao ww) (some (.int c)::some (.bl any)::some (wl z0 z1 z2 z3 z4)::Γ) st=.ok (.tup (.str n::ts)) st:=fun Γ=>by
  rw[ee,cf,um (dc _) (by decide) (by decide),ah,cf,ip,ah,cf,jx,ah,dv,ah,ah,ah,ah,lm,ep]
  rfl
 by_cases h0:1<c % 5
 ·have d:decide ((1:Int)<c % 5)=true:=decide_eq_true h0
  refine⟨_,_,.plain n ts ys hp hb,?_⟩
  simp only[EV,Nat.reduceSub,show(0:Int)<5 by decide,↓g3,ht,↓hP,d,if_true,t3]
 ·have d:decide ((1:Int)<c % 5)=false:=FR h0
  obtain⟨k0,k1⟩:=iu (c/4) 4 (by decide)
  obtain⟨v0,v1⟩:=iu (c/16) 2 (by decide)
  obtain⟨q0,q1⟩:=iu (c/32) 5 (by decide)
  obtain⟨r0,r1⟩:=iu (c/160) 3 (by decide)
  have hK:∃kk∈gk,∀a b:Option W,ae (runN (ad (ac (W.str "count")) (ad (ac (W.str "sum")) (ad (ac (W.str "least")) (ad (ac (W.str "most")) af)))) (ay false)) (ae (ae (aa 0) (ac (W.int 4)) bi) (ac (W.int 4)) bf) ak [some (.int c),some (.bl any),some (wl z0 z1 z2 z3 z4),some (.lst ys),some (.tup ys),some (.tup (.str n::ts)),none,none,none] st=.ok (.str kk) st:=by
   have hl:runN (ad (ac (W.str "count")) (ad (ac (W.str "sum")) (ad (ac (W.str "least")) (ad (ac (W.str "most")) af)))) (ay false) [some (.int c),some (.bl any),some (wl z0 z1 z2 z3 z4),some (.lst ys),some (.tup ys),some (.tup (.str n::ts)),none,none,none] st=.ok (.lst (gk.map W.str)) st:=rfl
   obtain⟨w,hw,e⟩:=oa hl (lw (dc _) (by decide) (by decide) (by decide)) k0 (show c/4 % 4<4 by omega)
   obtain⟨kk,hk,rfl⟩:=List.mem_map.mp hw
   exact⟨kk,hk,fun _ _=>e⟩
  obtain⟨kk,hkk,eK⟩:=hK
  have eK:=eK none none
  have hV:∃val:Str,((kk = "count"/\val = "")\/(kk ≠ "count"/\jm val))/\bg (ae (aa 6) (ac (W.str "count")) de) (ai (ax 7 (ae (aa 2) (ae (ae (aa 0) (ac (W.int 16)) bi) (ac (W.int 2)) bf) ak)) aj) aj [some (.int c),some (.bl any),some (wl z0 z1 z2 z3 z4),some (.lst ys),some (.tup ys),some (.tup (.str n::ts)),some (.str kk),some (.str ""),none] st=.ok (.nx [some (.int c),some (.bl any),some (wl z0 z1 z2 z3 z4),some (.lst ys),some (.tup ys),some (.tup (.str n::ts)),some (.str kk),some (.str val),none]) st:=by
   by_cases hc:kk = "count"
   ·have b:(kk == ("count" : Str))=true:=by rw[hc];exact beq_self_eq_true _
    refine⟨"",.inl ⟨hc,rfl⟩,?_⟩
    simp only[EV,Nat.reduceSub,b,Bool.not_true,Bool.false_eq_true,if_false]
   ·have b:(kk == ("count" : Str))=false:=beq_false_of_ne hc
    have hx:∃val:Str,jm val/\ae (aa 2) (ae (ae (aa 0) (ac (W.int 16)) bi) (ac (W.int 2)) bf) ak [some (.int c),some (.bl any),some (wl z0 z1 z2 z3 z4),some (.lst ys),some (.tup ys),some (.tup (.str n::ts)),some (.str kk),some (.str ""),none] st=.ok (.str val) st:=by
     have e2:c/16 % 2=0\/c/16 % 2=1:=by omega
     rcases e2 with e2|e2
     ·refine⟨z0,h.f0,?_⟩
      rw[cz,jx,ah,lw (dc _) (by decide) (by decide) (by decide),ah,e2]
      exact nu _ 0 _ (gi _ 0 _ rfl)
     ·refine⟨z1,h.f1,?_⟩
      rw[cz,jx,ah,lw (dc _) (by decide) (by decide) (by decide),ah,e2]
      exact nu _ 1 _ (gi _ 1 _ rfl)
    obtain⟨val,hv,e⟩:=hx
    refine⟨val,.inr ⟨hc,hv⟩,?_⟩
    simp only[EV,Nat.reduceSub,b,Bool.not_false,if_true,↓e]
  obtain⟨val,hval,eV⟩:=hV
  have i0:∀Γ:Ga,ae (aa 2) (ac (W.int 0)) ak (some (.int c)::some (.bl any)::some (wl z0 z1 z2 z3 z4)::Γ) st=.ok (.str z0) st:=fun Γ=>by
   rw[cz,jx,ah,df,ah];exact nu _ 0 _ (gi _ 0 _ rfl)
  have i1:∀Γ:Ga,ae (aa 2) (ac (W.int 1)) ak (some (.int c)::some (.bl any)::some (wl z0 z1 z2 z3 z4)::Γ) st=.ok (.str z1) st:=fun Γ=>by
   rw[cz,jx,ah,df,ah];exact nu _ 1 _ (gi _ 1 _ rfl)
  have i2:∀Γ:Ga,ae (aa 2) (ac (W.int 2)) ak (some (.int c)::some (.bl any)::some (wl z0 z1 z2 z3 z4)::Γ) st=.ok (.str z2) st:=fun Γ=>by
   rw[cz,jx,ah,df,ah];exact nu _ 2 _ (gi _ 2 _ rfl)
  have i3:∀Γ:Ga,ae (aa 2) (ac (W.int 3)) ak (some (.int c)::some (.bl any)::some (wl z0 z1 z2 z3 z4)::Γ) st=.ok (.str z3) st:=fun Γ=>by
   rw[cz,jx,ah,df,ah];exact nu _ 3 _ (gi _ 3 _ rfl)
  have u0:ap [] st=.ok (.tup []) st:=rfl
  have u1:∀a:W,ap [a] st=.ok (.tup [a]) st:=fun a=>mz [a] (show 1<=sizeLine by decide)
  have u2:∀a b:W,ap [a,b] st=.ok (.tup [a,b]) st:=fun a b=>mz [a,b] (show 2<=sizeLine by decide)
  have hKeys:∃keys:List Str,(∀k∈keys,jm k)/\keys.length<=3/\(SS.onceS keys).length=keys.length/\ae (runN (ad (runN af ap) (ad (runN (ad (ae (aa 2) (ac (W.int 0)) ak) af) ap) (ad (runN (ad (ae (aa 2) (ac (W.int 1)) ak) af) ap) (ad (runN (ad (ae (aa 2) (ac (W.int 0)) ak) (ad (ae (aa 2) (ac (W.int 1)) ak) af)) ap) (ad (runN (ad (ae (aa 2) (ac (W.int 2)) ak) (ad (ae (aa 2) (ac (W.int 0)) ak) (ad (ae (aa 2) (ac (W.int 1)) ak) af))) ap) af))))) (ay false)) (ae (ae (aa 0) (ac (W.int 32)) bi) (ac (W.int 5)) bf) ak [some (.int c),some (.bl any),some (wl z0 z1 z2 z3 z4),some (.lst ys),some (.tup ys),some (.tup (.str n::ts)),some (.str kk),some (.str val),none] st=.ok (.tup (keys.map W.str)) st:=by
   have hl:runN (ad (runN af ap) (ad (runN (ad (ae (aa 2) (ac (W.int 0)) ak) af) ap) (ad (runN (ad (ae (aa 2) (ac (W.int 1)) ak) af) ap) (ad (runN (ad (ae (aa 2) (ac (W.int 0)) ak) (ad (ae (aa 2) (ac (W.int 1)) ak) af)) ap) (ad (runN (ad (ae (aa 2) (ac (W.int 2)) ak) (ad (ae (aa 2) (ac (W.int 0)) ak) (ad (ae (aa 2) (ac (W.int 1)) ak) af))) ap) af))))) (ay false) [some (.int c),some (.bl any),some (wl z0 z1 z2 z3 z4),some (.lst ys),some (.tup ys),some (.tup (.str n::ts)),some (.str kk),some (.str val),none] st=.ok (.lst [.tup [],.tup [.str z0],.tup [.str z1],.tup [.str z0,.str z1],.tup [.str z2,.str z0,.str z1]]) st:=by
    simp only[EV,Nat.reduceSub,↓i0,↓i1,↓i2,u0,u1,u2,t3]
    exact ky _ (show 5<=sizeLine by decide)
   obtain⟨w,hw,e⟩:=oa hl (lw (dc _) (by decide) (by decide) (by decide)) q0 (show c/32 % 5<5 by omega)
   simp only[List.mem_cons,List.not_mem_nil,or_false] at hw
   rcases hw with rfl|rfl|rfl|rfl|rfl
   ·exact⟨[],(fun k hk=>by cases hk),by decide,rfl,e⟩
   ·exact⟨[z0],(fun k hk=>by rw[List.mem_singleton.mp hk];exact h.f0),(show 1<=3 by decide),rfl,e⟩
   ·exact⟨[z1],(fun k hk=>by rw[List.mem_singleton.mp hk];exact h.f1),(show 1<=3 by decide),rfl,e⟩
   ·refine⟨[z0,z1],(fun k hk=>?_),(show 2<=3 by decide),Y3 h.d01,e⟩
    simp only[List.mem_cons,List.not_mem_nil,or_false] at hk
    rcases hk with rfl|rfl
    ·exact h.f0
    ·exact h.f1
   ·refine⟨[z2,z0,z1],(fun k hk=>?_),(show 3<=3 by decide),Y1 h.d02.symm h.d12.symm h.d01,e⟩
    simp only[List.mem_cons,List.not_mem_nil,or_false] at hk
    rcases hk with rfl|rfl|rfl
    ·exact h.f2
    ·exact h.f0
    ·exact h.f1
  obtain⟨keys,hks,hk3,hnd,eKs⟩:=hKeys
  have hR:∃res:Str,jm res/\ae (runN (ad (ae (aa 2) (ac (W.int 3)) ak) (ad (ae (aa 2) (ac (W.int 3)) ak) (ad (ae (aa 2) (ac (W.int 2)) ak) af))) (ay false)) (ae (ae (aa 0) (ac (W.int 160)) bi) (ac (W.int 3)) bf) ak [some (.int c),some (.bl any),some (wl z0 z1 z2 z3 z4),some (.lst ys),some (.tup ys),some (.tup (.str n::ts)),some (.str kk),some (.str val),some (.tup (keys.map W.str))] st=.ok (.str res) st:=by
   have hl:runN (ad (ae (aa 2) (ac (W.int 3)) ak) (ad (ae (aa 2) (ac (W.int 3)) ak) (ad (ae (aa 2) (ac (W.int 2)) ak) af))) (ay false) [some (.int c),some (.bl any),some (wl z0 z1 z2 z3 z4),some (.lst ys),some (.tup ys),some (.tup (.str n::ts)),some (.str kk),some (.str val),some (.tup (keys.map W.str))] st=.ok (.lst [.str z3,.str z3,.str z2]) st:=by
    simp only[EV,Nat.reduceSub,↓i3,↓i2]
    exact ky _ (show 3<=sizeLine by decide)
   obtain⟨w,hw,e⟩:=oa hl (lw (dc _) (by decide) (by decide) (by decide)) r0 (show c/160 % 3<3 by omega)
   simp only[List.mem_cons,List.not_mem_nil,or_false] at hw
   rcases hw with rfl|rfl|rfl
   ·exact⟨z3,h.f3,e⟩
   ·exact⟨z3,h.f3,e⟩
   ·exact⟨z2,h.f2,e⟩
  obtain⟨res,hres,eR⟩:=hR
  have t7:∀a b d f g i j:W,ap [a,b,d,f,g,i,j] st=.ok (.tup [a,b,d,f,g,i,j]) st:=fun a b d f g i j=>mz [a,b,d,f,g,i,j] (show 7<=sizeLine by decide)
  refine⟨_,_,.gather n ts kk res val keys ys hp ⟨(aK kk hkk).1,(aK kk hkk).2,hres,hval,hks,hk3,hnd⟩ hb,?_⟩
  simp only[EV,Nat.reduceSub,show(0:Int)<5 by decide,↓g3,ht,↓hP,d,if_false,Bool.false_eq_true,↓eK,↓eV,↓eKs,↓eR,t7]
theorem rV(P:W->Prop)(hs:src Γ st=.ok items st)(hl:items.length<=1000)(h:∀x∈items,∃y,P y/\re (some x::fh cap Γ) st=.ok y st) :
  ∃ys:List W,ys.length=items.length/\(∀y∈ys,P y)/\ck true src cap (ac (.bl true)) re Γ st=.ok (.ref st.nxt) (st.new (.lst ys)):=by
 obtain⟨ys,h1,h2,h3⟩:=Lq P items [] h
 refine⟨ys,h1,h2,?_⟩
 unfold ck
 rw[hs,ah,FJ (FH hl (by decide)),h3,ah,List.nil_append]
 exact FJ (by rw[h1];exact dk hl)
theorem Ll{st s':S}{n:Nat}{R:List W}(hn:st.nxt<=n)(ho:∀m,m<st.nxt->s'.mu m=st.mu m)(hm:s'.mu n=some (.lst R))(h:∀w∈R,Dn 4 w):we st s' (.ref n)=.ok (.ref st.nxt) (st.new (.lst R)):=by
 unfold we
 dsimp only
 rw[FK (by omega),FJ ho,hm]
 have e:yg st.nxt (s'.less n).mu (.lst R)=some (.lst R):=by
  show(frzs (frz st.nxt (s'.less n).mu 12) R).map MO.lst=_
  rw[d4 fun w hw=>(h w hw).frz _ _ 12 (by omega)];rfl
 dsimp only
 rw[e]
theorem bE(x:α):∀k:Nat,(List.replicate k [x]).flatten=List.replicate k x
 |0=>rfl
 |k+1=>by rw[List.replicate_succ,List.flatten_cons,bE x k,List.replicate_succ];rfl
theorem rS(x:W)(k:Nat):fq (List.replicate (k+1) x) none (some (-1))=List.replicate k x:=by
 unfold fq
 rw[List.length_replicate,HT.sIx_none]
 have e:HT.sIx (k+1) (k+1) (some (-1))=k:=by
  show(if (-1:Int)<0 then((-1:Int)+((k+1:Nat):Int)).toNat else min (-1:Int).toNat (k+1))=k
  rw[FJ (by decide)];omega
 rw[e,List.drop_zero,Nat.sub_zero,List.take_replicate,Nat.min_eq_left (by omega)]
theorem iG(ns:List Int)(m:Nat)(any:Bool)(hm:m<=5\/m=20\/m=21)(st:S):∃R:List W,R.length=m/\vf R/\o6 [.lst (ns.map W.int),.int m,.bl any] st=.ok (.ref st.nxt) (st.new (.lst R)):=by
 have e0:o6 [.lst (ns.map W.int),.int m,.bl any] st=jv 2 st (Gw [some (.lst (ns.map W.int)),some (.int m),some (.bl any),none,none,none] st):=rfl
 rw[e0]
 unfold Gw
 obtain⟨zs,hz,ez⟩:=eX (ns.getD 14 0) st
 obtain⟨z0,z1,z2,z3,z4,rfl,h⟩:=hz.w5
 have ez:m6 [.int (ns.getD 14 0)] st=.ok (wl z0 z1 z2 z3 z4) st:=ez
 have hc14:ir [.lst (ns.map W.int),.int 14] st=.ok (.int (ns.getD 14 0)) st:=Ii ns 14 st
 have dn:∀{R:List W},vf R->∀w∈R,Dn 4 w:=fun hR w hw=>let ⟨_,ho⟩:=hR w hw;ho.dn
 by_cases h5:m<=5
 ·have d:decide ((m:Int)<6)=true:=decide_eq_true (by omega)
  obtain⟨R,g1,g2,g3⟩:=rV (cap:=[2,0,3]) (src:=ja (aa 1)) (re:=runN (ad (runN (ad (aa 2) (ad (ae (ac (W.int 2)) (aa 0) av) af)) (ao ir)) (ad (aa 1) (ad (aa 3) af))) (ao r6)) (Γ:=[some (.lst (ns.map W.int)),some (.int m),some (.bl any),some (wl z0 z1 z2 z3 z4),none,none]) (st:=st) (fun w=>∃o,GR w o) (Je (n:=m) rfl (by omega) (by omega)) (by rw[ph];omega) (fun x hx=>by
   obtain⟨j,hj,rfl⟩:=x9 hx
   obtain⟨w,o,hw,e⟩:=kD h (ns.getD (2+j) 0) any st
   refine⟨w,⟨o,hw⟩,?_⟩
   show runN _ _ [some (.int (j:Nat)),some (.bl any),some (.lst (ns.map W.int)),some (wl z0 z1 z2 z3 z4)] st=_
   have hc:ir [.lst (ns.map W.int),.int (2+(j:Int))] st=.ok (.int (ns.getD (2+j) 0)) st:=by
    have:=Ii ns (2+j) st
    rwa [show(((2+j:Nat):Nat):Int)=2+(j:Int) by omega] at this
   simp only[EV,Nat.reduceSub,hc,e])
  rw[ph] at g1
  refine⟨R,by omega,g2,?_⟩
  simp only[EV,Nat.reduceSub,hc14,ez,d,if_true,↓g3]
  exact Ll (EN _) (ii st _) (fe st _) (dn g2)
 ·have hm':m=20\/m=21:=by omega
  have d:decide ((m:Int)<6)=false:=FR (by omega)
  obtain⟨k,rfl⟩:∃k,m=k+1:=⟨m - 1,by omega⟩
  have hg0:GoodT (.str z0):=.free _ h.f0
  have hT:GPat "town" [.str z0]:=⟨by decide +kernel,by decide,(show 1<=4 by decide),fun t ht=>by rw[List.mem_singleton.mp ht];exact hg0⟩
  have hRd:GPat "road" [.int 1,.str z0]:=⟨by decide +kernel,by decide,(show 2<=4 by decide),fun t ht=>by
   simp only[List.mem_cons,List.not_mem_nil,or_false] at ht
   rcases ht with rfl|rfl
   ·exact .num 1 (by decide)
   ·exact hg0⟩
  have hR1:GPat "road" [.str z0]:=⟨by decide +kernel,by decide,(show 1<=4 by decide),fun t ht=>by rw[List.mem_singleton.mp ht];exact hg0⟩
  generalize er:mx "road" [.int 1,.str z0] [.tup [.str "has",.tup [.str "town",.str z0]]]=r
  have hr:∃o,GR r o:=⟨_,by rw[<-er];exact .plain "road" _ _ hRd ⟨(show 1<=1 by decide),(show 1<=3 by decide),fun p hp=>by rw[List.mem_singleton.mp hp];exact .pat "has" "town" _ (.inl rfl) hT⟩⟩
  generalize eo:mx "town" [.str z0] [.tup [.str "has",.tup [.str "town",.str z0]],.tup [.str "not",.tup [.str "road",.str z0]]]=od
  have ho:∃o,GR od o:=⟨_,by rw[<-eo];exact .plain "town" _ _ hT ⟨(show 1<=2 by decide),(show 2<=3 by decide),fun p hp=>by
   simp only[List.mem_cons,List.not_mem_nil,or_false] at hp
   rcases hp with rfl|rfl
   ·exact .pat "has" "town" _ (.inl rfl) hT
   ·exact .pat "not" "road" _ (.inr rfl) hR1⟩⟩
  have hrep:∀k,vf (List.replicate k r):=fun k w hw=>by rw[(List.mem_replicate.mp hw).2];exact hr
  have hrun:runN (ad (runN (ad (ac (W.str "rule")) (ad (runN (ad (ac (W.str "road")) (ad (ac (W.int 1)) (ad (ae (aa 3) (ac (W.int 0)) ak) af))) ap) (ad (runN (ad (runN (ad (ac (W.str "has")) (ad (runN (ad (ac (W.str "town")) (ad (ae (aa 3) (ac (W.int 0)) ak) af)) ap) af)) ap) af) ap) af))) ap) af) (ay true) [some (.lst (ns.map W.int)),some (.int (k+1:Nat)),some (.bl any),some (wl z0 z1 z2 z3 z4),none,none] st=.ok (.ref st.nxt) (st.new (.lst [r])):=by rw[<-er];rfl
  have hl1:fg (st.new (.lst [r])) (.ref st.nxt)=some [r]:=by
   show MO.items ((st.new (.lst [r])).mu st.nxt)=_
   rw[fe];rfl
  have hmul:xr (.ref st.nxt) (.int (k+1:Nat)) (st.new (.lst [r]))=.ok (.ref (st.nxt+1)) ((st.new (.lst [r])).new (.lst (List.replicate (k+1) r))):=by
   unfold xr
   rw[hl1]
   show(if (-(2 ^ 63)<=((k+1:Nat):Int)/\((k+1:Nat):Int)<2 ^ 63)/\[r].length*((k+1:Nat):Int).toNat<=sizeLine then R.ok (W.ref (st.nxt+1)) ((st.new (.lst [r])).new (.lst (List.replicate ((k+1:Nat):Int).toNat [r]).flatten)) else .stuck)=_
   rw[FJ ⟨⟨by omega,by omega⟩,by rw[FD,Nat.one_mul];exact dk (by omega)⟩,Int.toNat_natCast,bE]
  generalize es1:st.new (.lst [r])=s1 at hrun hmul
  have hn1:s1.nxt=st.nxt+1:=by rw[<-es1];rfl
  have o1:∀j,j<st.nxt->s1.mu j=st.mu j:=by rw[<-es1];exact ii st _
  rw[<-hn1] at hmul
  have run4:=(by
   rw[cz,hrun,ah,ip,ah,hmul]:ae (runN (ad (runN (ad (ac (W.str "rule")) (ad (runN (ad (ac (W.str "road")) (ad (ac (W.int 1)) (ad (ae (aa 3) (ac (W.int 0)) ak) af))) ap) (ad (runN (ad (runN (ad (ac (W.str "has")) (ad (runN (ad (ac (W.str "town")) (ad (ae (aa 3) (ac (W.int 0)) ak) af)) ap) af)) ap) af) ap) af))) ap) af) (ay true)) (aa 1) xr [some (.lst (ns.map W.int)),some (.int (k+1:Nat)),some (.bl any),some (wl z0 z1 z2 z3 z4),none,none] st=.ok (.ref s1.nxt) (s1.new (.lst (List.replicate (k+1) r))))
  generalize es2:s1.new (.lst (List.replicate (k+1) r))=s2 at run4
  have hn2:s2.nxt=s1.nxt+1:=by rw[<-es2];rfl
  have a2:s2.mu s1.nxt=some (.lst (List.replicate (k+1) r)):=by rw[<-es2];exact fe s1 _
  have o2:∀j,j<st.nxt->s2.mu j=st.mu j:=fun j hj=>by rw[<-es2,ii s1 _ j (by omega)];exact o1 j hj
  cases any with
  |false =>
   refine⟨List.replicate (k+1) r,List.length_replicate,hrep _,?_⟩
   simp only[EV,Nat.reduceSub,hc14,ez,d,if_false,Bool.false_eq_true,↓run4]
   exact Ll (by omega) o2 a2 (dn (hrep _))
  | true =>
   have hodd:∀Γ:Ga,runN (ad (runN (ad (ac (W.str "has")) (ad (runN (ad (ac (W.str "town")) (ad (ae (aa 3) (ac (W.int 0)) ak) af)) ap) af)) ap) (ad (runN (ad (ac (W.str "not")) (ad (runN (ad (ac (W.str "road")) (ad (ae (aa 3) (ac (W.int 0)) ak) af)) ap) af)) ap) af)) ap [some (.lst (ns.map W.int)),some (.int (k+1:Nat)),some (.bl true),some (wl z0 z1 z2 z3 z4),some (.ref s1.nxt),none] s2=.ok (.tup [.tup [.str "has",.tup [.str "town",.str z0]],.tup [.str "not",.tup [.str "road",.str z0]]]) s2:=fun _=>rfl
   have hodd:=hodd []
   have hsl:dq true (aa 4) (bb (ac (W.int 1)) di) [some (.lst (ns.map W.int)),some (.int (k+1:Nat)),some (.bl true),some (wl z0 z1 z2 z3 z4),some (.ref s1.nxt),some (.tup [.tup [.str "has",.tup [.str "town",.str z0]],.tup [.str "not",.tup [.str "road",.str z0]]])] s2=.ok (.ref s2.nxt) (s2.new (.lst (List.replicate k r))):=by
    rw[Ie,Og,ah,Fv,ah,Ic]
    show(match fb s2 (.ref s1.nxt) with|some ws=>if true then mi (fq ws none (some (-1))) s2 else oi (fq ws none (some (-1))) s2|none=>.stuck)=_
    have hi:fb s2 (.ref s1.nxt)=some (List.replicate (k+1) r):=by
     show MO.items (s2.mu s1.nxt)=_
     rw[a2];rfl
    rw[hi]
    show mi (fq (List.replicate (k+1) r) none (some (-1))) s2=_
    rw[rS]
    exact FJ (by rw[List.length_replicate];exact dk (by omega))
   generalize es3:s2.new (.lst (List.replicate k r))=s3 at hsl
   have hn3:s3.nxt=s2.nxt+1:=by rw[<-es3];rfl
   have a3:s3.mu s2.nxt=some (.lst (List.replicate k r)):=by rw[<-es3];exact fe s2 _
   have o3:∀j,j<st.nxt->s3.mu j=st.mu j:=fun j hj=>by rw[<-es3,ii s2 _ j (by omega)];exact o2 j hj
   have hol:runN (ad (runN (ad (ac (W.str "rule")) (ad (runN (ad (ac (W.str "town")) (ad (ae (aa 3) (ac (W.int 0)) ak) af)) ap) (ad (aa 5) af))) ap) af) (ay false) [some (.lst (ns.map W.int)),some (.int (k+1:Nat)),some (.bl true),some (wl z0 z1 z2 z3 z4),some (.ref s1.nxt),some (.tup [.tup [.str "has",.tup [.str "town",.str z0]],.tup [.str "not",.tup [.str "road",.str z0]]])] s3=.ok (.lst [od]) s3:=by rw[<-eo];rfl
   have hadd:xw (.ref s2.nxt) (.lst [od]) s3=.ok (.ref s3.nxt) (s3.new (.lst (List.replicate k r++[od]))):=by
    unfold xw
    have hi:fg s3 (.ref s2.nxt)=some (List.replicate k r):=by
     show MO.items (s3.mu s2.nxt)=_
     rw[a3];rfl
    rw[hi]
    show(if (List.replicate k r).length + [od].length<=sizeLine then R.ok (W.ref s3.nxt) (s3.new (.lst (List.replicate k r++[od]))) else .stuck)=_
    exact FJ (by rw[List.length_replicate,FD];exact dk (by omega))
   have run5:=(by
    rw[cz,hsl,ah,hol,ah,hadd]:ae (dq true (aa 4) (bb (ac (W.int 1)) di)) (runN (ad (runN (ad (ac (W.str "rule")) (ad (runN (ad (ac (W.str "town")) (ad (ae (aa 3) (ac (W.int 0)) ak) af)) ap) (ad (aa 5) af))) ap) af) (ay false)) xw [some (.lst (ns.map W.int)),some (.int (k+1:Nat)),some (.bl true),some (wl z0 z1 z2 z3 z4),some (.ref s1.nxt),some (.tup [.tup [.str "has",.tup [.str "town",.str z0]],.tup [.str "not",.tup [.str "road",.str z0]]])] s2=.ok (.ref s3.nxt) (s3.new (.lst (List.replicate k r++[od]))))
   generalize es4:s3.new (.lst (List.replicate k r++[od]))=s4 at run5
   have a4:s4.mu s3.nxt=some (.lst (List.replicate k r++[od])):=by rw[<-es4];exact fe s3 _
   have o4:∀j,j<st.nxt->s4.mu j=st.mu j:=fun j hj=>by rw[<-es4,ii s3 _ j (by omega)];exact o3 j hj
   have hg:vf (List.replicate k r++[od]):=fun w hw=>by
    rcases List.mem_append.mp hw with hw|hw
    ·exact hrep k w hw
    ·rw[List.mem_singleton.mp hw];exact ho
   refine⟨List.replicate k r++[od],by rw[ES,List.length_replicate,FD],hg,?_⟩
   simp only[EV,Nat.reduceSub,hc14,ez,d,if_false,if_true,Bool.false_eq_true,↓run4,↓hodd,↓run5]
   exact Ll (by omega) o4 a4 (dn hg)
end
noncomputable def wt:Nat->W->Bool
 |0,w=>(match w with
  |.non=>true
  |.bl _=>true
  |.int _=>true
  |.str _=>true
  |_=>false)
 |n+1,w=>(match w with
  |.non=>true
  |.bl _=>true
  |.int _=>true
  |.str _=>true
  |.tup xs=>xs.all (wt n)
  |.lst xs=>xs.all (wt n)
  |_=>false)
theorem ue:∀{n:Nat}{w:W},wt n w=true->Dn n w
 |n,.non,_=>.non n
 |n,.bl b,_=>.bl n b
 |n,.int i,_=>.int n i
 |n,.str x,_=>.str n x
 |n+1,.tup xs,h=>.tup fun x hx=>ue (List.all_eq_true.mp (show xs.all (wt n)=true from h) x hx)
 |n+1,.lst xs,h=>.lst fun x hx=>ue (List.all_eq_true.mp (show xs.all (wt n)=true from h) x hx)
 |0,.tup xs,h=>by cases h
 |0,.lst xs,h=>by cases h
 |0,.dct _ _,h=>by cases h
 |0,.ref _,h=>by cases h
 |0,.exn _,h=>by cases h
 |0,.ty _,h=>by cases h
 |_+1,.dct _ _,h=>by cases h
 |_+1,.ref _,h=>by cases h
 |_+1,.exn _,h=>by cases h
 |_+1,.ty _,h=>by cases h
def yo:Nat->W->Bool
 |_,.non=>true
 |_,.bl _=>true
 |_,.int _=>true
 |_,.str z=>decide (z.length<=100)
 |_,.lst _=>true
 |n+1,.tup xs=>decide (xs.length<=1000)&&xs.all (yo n)
 |_,_=>false
theorem vt:∀{n:Nat}{w:W},yo n w=true->Th w
 |_,.non,_=>.non
 |_,.bl b,_=>.bl b
 |_,.int i,_=>.int i
 |_,.str x,h=>.str x (of_decide_eq_true (show decide (x.length<=100)=true by unfold yo at h;exact h))
 |_,.lst xs,_=>.lst xs
 |n+1,.tup xs,h=>by
  have h:(decide (xs.length<=1000)&&xs.all (yo n))=true:=h
  rw[FE] at h
  exact .tup xs (of_decide_eq_true h.1) fun x hx=>vt (List.all_eq_true.mp h.2 x hx)
 |0,.tup xs,h=>by cases h
 |0,.dct _ _,h=>by cases h
 |0,.ref _,h=>by cases h
 |0,.exn _,h=>by cases h
 |0,.ty _,h=>by cases h
 |_+1,.dct _ _,h=>by cases h
 |_+1,.ref _,h=>by cases h
 |_+1,.exn _,h=>by cases h
 |_+1,.ty _,h=>by cases h
structure Bad (w:W):Prop where
 th:Th w
 p:uc w=false
 g:vr w=false
 dn:Dn 5 w
theorem lq(h:(yo 6 w&&(!uc w&&(!vr w&&wt 5 w)))=true):Bad w:=by
 simp only[FE,Bool.not_eq_true'] at h
 exact⟨vt h.1,h.2.1,h.2.2.1,ue h.2.2.2⟩
theorem Dn.up(h:Dn n w):Dn (n+1) w:=by
 induction h with
 |non n=>exact .non _
 |bl n b=>exact .bl _ b
 |int n i=>exact .int _ i
 |str n x=>exact .str _ x
 |tup _ ih=>exact .tup ih
 |lst _ ih=>exact .lst ih
theorem uy(th:Th h)(tb:Th b)(dh:Dn 4 h)(db:Dn 4 b)(hp:(jo h&&jr b)=false):Bad (.tup [.str "rule",h,b]):=by
 refine⟨mh (show 3<=1000 by decide) fun w hw=>?_,?_,?_,.tup fun w hw=>?_⟩
 ·simp only[List.mem_cons,List.not_mem_nil,or_false] at hw
  rcases hw with rfl|rfl|rfl
  ·exact .str _ (by decide)
  ·exact th
  ·exact tb
 ·show(("rule" : Str) == "rule" && (jo h&&jr b))=false
  rw[hp,Bool.and_false]
 ·show(("rule" : Str) == "gather" && so [h,b])=false
  rw[show(("rule" : Str) == "gather")=false by decide +kernel,Bool.false_and]
 ·simp only[List.mem_cons,List.not_mem_nil,or_false] at hw
  rcases hw with rfl|rfl|rfl
  ·exact .str _ _
  ·exact dh
  ·exact db
section
variable {Γ:Ga} {s:S} {a b c d e f:am} {x y z u v w:W}
theorem aW(ha:a Γ s=.ok x s):runN (ad a af) ap Γ s=.ok (.tup [x]) s:=by
 rw[ee,cf,ha,ah,dv,ah,ah];exact mz _ (show 1<=sizeLine by decide)
theorem uq(ha:a Γ s=.ok x s)(hb:b Γ s=.ok y s)(hc:c Γ s=.ok z s):runN (ad a (ad b (ad c af))) ap Γ s=.ok (.tup [x,y,z]) s:=by
 rw[ee,cf,ha,ah,cf,hb,ah,cf,hc,ah,dv,ah,ah,ah,ah];exact mz _ (show 3<=sizeLine by decide)
theorem lis4(ha:a Γ s=.ok x s)(hb:b Γ s=.ok y s)(hc:c Γ s=.ok z s)(hd:d Γ s=.ok u s):runN (ad a (ad b (ad c (ad d af)))) (ay false) Γ s=.ok (.lst [x,y,z,u]) s:=by
 rw[ee,cf,ha,ah,cf,hb,ah,cf,hc,ah,cf,hd,ah,dv,ah,ah,ah,ah,ah];exact ky _ (show 4<=sizeLine by decide)
theorem Fj(ha:a Γ s=.ok (.tup xs) s)(hb:b Γ s=.ok (.tup ys) s)(h:xs.length+ys.length<=1000):ae a b av Γ s=.ok (.tup (xs++ys)) s:=by
 rw[cz,ha,ah,hb,ah]
 cases xs with
 |nil=>rfl
 |cons x xs =>
  show(if (x::xs)≠[]/\(x::xs).length+ys.length<=sizeLine then R.ok (W.tup ((x::xs)++ys)) s else .stuck)=_
  rw[FJ ⟨by simp,dk h⟩]
theorem Oc(ha:a Γ s=.ok (.tup xs) s)(h:xs.length<=1000):runN (ad a af) (jd false) Γ s=.ok (.lst xs) s:=by
 rw[ee,cf,ha,ah,dv,ah,ah,Iu s h]
theorem sh{i:Nat}{rest:aq}(h:r Γ s=.ok x s):ai (ax i r) rest Γ s=rest (Γ.set i (some x)) s:=by
 rw[cj,ki,h,ah];rfl
theorem Yx{k:Nat}(ha:a Γ s=.ok (.tup xs) s)(hb:b Γ s=.ok (.int k) s):dq false a b Γ s=.ok (.tup (xs.take k)) s:=by
 rw[Ie,ha,ah,hb,ah,Ic,Ip]
 congr 2
 unfold fq
 rw[HT.sIx_none,HT.sIx_nat,List.drop_zero,Nat.sub_zero]
 by_cases h:k<=xs.length
 ·rw[Nat.min_eq_left h]
 ·rw[Nat.min_eq_right (by omega),List.take_of_length_le (EN _),List.take_of_length_le (by omega)]
theorem Yw{k:Nat}(ha:a Γ s=.ok (.tup xs) s)(hb:b Γ s=.ok (.int k) s):dl false a b Γ s=.ok (.tup (xs.drop k)) s:=by
 rw[Mx,ha,ah,hb,ah,Mt,Ip]
 congr 2
 unfold fq
 rw[HT.sIx_none,HT.sIx_nat]
 by_cases h:k<=xs.length
 ·rw[Nat.min_eq_left h]
  exact List.take_of_length_le (by rw[List.length_drop];exact EN _)
 ·rw[Nat.min_eq_right (by omega),Nat.sub_self,List.take_zero,List.drop_of_length_le (by omega)]
end
noncomputable def badPs:List W:=[.tup [.str "less",.int 1],.tup [.str "has",.tup [.str "town",.str "x1"]],.tup [.str "not",.int 5],.tup [.str "is",.tup [.str "town",.int 1]],.tup [.str "plus",.int 1,.int 2],.non,.lst [.str "has",.tup [.str "town",.int 1]]]
theorem sA:∀b∈badPs,Th b/\gd b=false/\Dn 2 b:=by
 have all:badPs.all (fun b=>yo 6 b&&(!gd b&&wt 2 b))=true:=by decide +kernel
 intro b hb
 have:=List.all_eq_true.mp all b hb
 simp only[FE,Bool.not_eq_true'] at this
 exact⟨vt this.1,this.2.1,ue this.2.2⟩
theorem GR.shape2(h:GR w o):∃z n ts ms ps,w=.tup (.str z::.tup (.str n::ts)::ms++[.tup ps])/\(ms=[]\/∃a b c d,ms=[a,b,c,d])/\GPat n ts/\GPs ps:=by
 cases h with
 |plain n ts ps hp hb=>exact⟨_,n,ts,[],ps,rfl,.inl rfl,hp,hb⟩
 |gather n ts kk res val keys ps hp hg hb=>exact⟨_,n,ts,[.str kk,.str res,.str val,.tup (keys.map W.str)],ps,rfl,.inr ⟨_,_,_,_,rfl⟩,hp,hb⟩
def Gh(rr:gr)(Γ:Ga)(s:S)(n:Nat):Prop:=∃L,rr Γ s=.ok L s/\L.length=n/\∀x∈L,Bad x
theorem qu:Gh af Γ s 0:=⟨[],rfl,rfl,fun _ h=>by cases h⟩
theorem eb(x:W)(ha:a Γ s=.ok x s)(hx:Bad x)(h:Gh rr Γ s n):Gh (ad a rr) Γ s (n+1):=by
 obtain⟨L,e,l,b⟩:=h
 refine⟨x::L,by rw[cf,ha,ah,e,ah],by rw[EZ,l],fun y hy=>?_⟩
 rcases List.mem_cons.mp hy with rfl|hy
 ·exact hx
 ·exact b y hy
noncomputable def ym(st:S)(r:R Fl):Prop:=∃v,Bad v/\jv 0 st r=.ok v st
section
variable {st:S} {a0 a1 a2 a3 a4 a5 a6 a7:Option W} {rr:gr} {rest:aq} {n m:Nat}
theorem st2a(h:Gh rr [a0,a1,a2,a3,a4,a5,a6,a7] st n)(hn:n<=100)(k:∀L:List W,L.length=n->(∀x∈L,Bad x)->ym st (rest [a0,a1,some (.lst L),a3,a4,a5,a6,a7] st)):ym st (ai (ax 2 (runN rr (ay false))) rest [a0,a1,a2,a3,a4,a5,a6,a7] st):=by
 obtain⟨L,e,l,b⟩:=h
 have hr:runN rr (ay false) [a0,a1,a2,a3,a4,a5,a6,a7] st=.ok (.lst L) st:=by
  rw[ee,e,ah];exact ky L (dk (by omega))
 rw[sh hr]
 exact k L l b
theorem sk(h0:L0.length=m)(b0:∀x∈L0,Bad x)(h:Gh rr [a0,a1,some (.lst L0),a3,a4,a5,a6,a7] st n)(hn:m+n<=100)(k:∀L:List W,L.length=m+n->(∀x∈L,Bad x)->ym st (rest [a0,a1,some (.lst L),a3,a4,a5,a6,a7] st)):ym st (ai (ax 2 (ae (aa 2) (runN rr (ay false)) av)) rest [a0,a1,some (.lst L0),a3,a4,a5,a6,a7] st):=by
 obtain⟨L,e,l,b⟩:=h
 have hr:runN rr (ay false) [a0,a1,some (.lst L0),a3,a4,a5,a6,a7] st=.ok (.lst L) st:=by
  rw[ee,e,ah];exact ky L (dk (by omega))
 rw[sh (Iv (jx _ _ _) hr (by omega))]
 refine k (L0++L) (by rw[ES];omega) fun x hx=>?_
 rcases List.mem_append.mp hx with hx|hx
 ·exact b0 x hx
 ·exact b x hx
theorem j0(x:W)(h:r Γ st=.ok x st)(e:Γ.set i (some x)=Γ')(k:ym st (rest Γ' st)):ym st (ai (ax i r) rest Γ st):=by
 rw[sh h,e];exact k
end
theorem bW(h2:xs.length≠2)(h6:xs.length≠6)(hl:xs.length<=50)(hz:z.length<=100)(ht:∀x∈xs,Th x)(hd:∀x∈xs,Dn 4 x):Bad (.tup (.str z::xs)):=by
 refine⟨mh (by rw[EZ];omega) fun x hx=>?_,?_,?_,.tup fun x hx=>?_⟩
 ·rcases List.mem_cons.mp hx with rfl|hx
  ·exact .str z hz
  ·exact ht x hx
 ·show(z == "rule" && yc xs)=false
  rw[Yu h2,Bool.and_false]
 ·show(z == "gather" && so xs)=false
  rw[Yz h6,Bool.and_false]
 ·rcases List.mem_cons.mp hx with rfl|hx
  ·exact .str _ z
  ·exact hd x hx
theorem badZ{z:Str}(h2:(z == "rule")=false)(h6:(z == "gather")=false)(hl:xs.length<=50)(hz:z.length<=100)(ht:∀x∈xs,Th x)(hd:∀x∈xs,Dn 4 x):Bad (.tup (.str z::xs)):=by
 refine⟨mh (by rw[EZ];omega) fun x hx=>?_,?_,?_,.tup fun x hx=>?_⟩
 ·rcases List.mem_cons.mp hx with rfl|hx
  ·exact .str z hz
  ·exact ht x hx
 ·show(z == "rule" && yc xs)=false
  rw[h2,Bool.false_and]
 ·show(z == "gather" && so xs)=false
  rw[h6,Bool.false_and]
 ·rcases List.mem_cons.mp hx with rfl|hx
  ·exact .str _ z
  ·exact hd x hx
theorem badL(hl:xs.length<=50)(ht:∀x∈xs,Th x)(hd:∀x∈xs,Dn 4 x)(hy:∀x∈ys,Dn 3 x):Bad (.tup (.lst ys::xs)):=by
 refine⟨mh (by rw[EZ];omega) fun x hx=>?_,rfl,rfl,.tup fun x hx=>?_⟩
 ·rcases List.mem_cons.mp hx with rfl|hx
  ·exact .lst ys
  ·exact ht x hx
 ·rcases List.mem_cons.mp hx with rfl|hx
  ·exact .lst hy
  ·exact hd x hx
abbrev sG:W:=.str "gather"
abbrev sH:W:=.tup [.str "town",.str "T"]
abbrev sC:W:=.str "count"
abbrev sT:W:=.str "T"
abbrev sE:W:=.str ""
abbrev sK:W:=.tup []
abbrev sP:W:=.tup [.tup [.str "has",.tup [.str "town",.str "X"]]]
abbrev more:W:=.tup [sG,sH,sC,sT,sE,sK,sP]
theorem badG(hb:jr b=false)(tb:Th b)(db:Dn 4 b):Bad (.tup [sG,sH,sC,sT,sE,sK,b]):=by
 have h0:[sG,sH,sC,sT,sE,sK].all (fun x=>yo 6 x&&wt 4 x)=true:=by decide +kernel
 have h1:∀x∈[sG,sH,sC,sT,sE,sK],Th x/\Dn 4 x:=fun x hx=>by
  have:=List.all_eq_true.mp h0 x hx
  simp only[FE] at this
  exact⟨vt this.1,ue this.2⟩
 have h2:∀x∈[sG,sH,sC,sT,sE,sK,b],Th x/\Dn 4 x:=fun x hx=>by
  rcases List.mem_append.mp (show x∈[sG,sH,sC,sT,sE,sK]++[b] from hx) with hx|hx
  ·exact h1 x hx
  ·rw[List.mem_singleton.mp hx];exact⟨tb,db⟩
 refine⟨mh (show 7<=1000 by decide) fun x hx=>(h2 x hx).1,?_,?_,.tup fun x hx=>(h2 x hx).2⟩
 ·show(("gather" : Str) == "rule" && yc [sH,sC,sT,sE,sK,b])=false
  rw[show(("gather" : Str) == "rule")=false by decide +kernel,Bool.false_and]
 ·show(("gather" : Str) == "gather" && ((qi "count" && uz sE "count")&&(jo sH&&(jf sT&&(uh sK&&jr b)))))=false
  rw[hb];simp only[Bool.and_false]
theorem noB(h:xs.all gd=false\/6<xs.length):jr (.tup xs)=false:=by
 show(decide (1<=xs.length/\xs.length<=6)&&xs.all gd)=false
 rcases h with h|h
 ·rw[h,Bool.and_false]
 ·rw[FR (by omega),Bool.false_and]
theorem lX(h:GR w o)(c:Int)(st:S):∃v,Bad v/\xa [w,.int c] st=.ok v st:=by
 obtain⟨z,n,ts,ms,ps,rfl,hm,hp,hb⟩:=h.shape2
 have hth:=h.th
 have hdn:=h.dn
 have hml:ms.length=0\/ms.length=4:=by
  rcases hm with rfl|⟨_,_,_,_,rfl⟩
  ·exact .inl rfl
  ·exact .inr rfl
 clear h hm
 generalize eh:W.tup (.str n::ts)=hd at *
 have tx:∀x∈W.str z::hd::ms++[.tup ps],Th x:=by cases hth with|tup _ _ h=>exact h
 have dx:∀x∈W.str z::hd::ms++[.tup ps],Dn 3 x:=by cases hdn with|tup h=>exact h
 have tx1:∀x∈hd::ms++[.tup ps],Th x:=fun x hx=>tx x (ER _ hx)
 have dx1:∀x∈hd::ms++[.tup ps],Dn 4 x:=fun x hx=>(dx x (ER _ hx)).up
 have hlen:(hd::ms++[W.tup ps]).length=ms.length+2:=by simp only[ES,EZ,List.length_nil]
 have hz:z.length<=100:=by
  have:=tx (.str z) EK
  cases this with|str _ h=>exact h
 have th:Th hd:=tx1 hd EK
 have dh:Dn 4 hd:=dx1 hd EK
 have mp:W.tup ps∈hd::ms++[.tup ps]:=EJ _ (List.mem_singleton.mpr rfl)
 have tp:Th (.tup ps):=tx1 _ mp
 have dp3:Dn 3 (.tup ps):=dx _ (ER _ mp)
 have dp:Dn 4 (.tup ps):=dx1 _ mp
 have dps:∀p∈ps,Dn 2 p:=by cases dp3 with|tup h=>exact h
 have tps:∀p∈ps,Th p:=by cases tp with|tup _ _ h=>exact h
 have l1:=hb.l1
 have l3:=hb.l3
 have tl:=hp.tl
 unfold xa
 rw[Fe]
 unfold Kv
 have hlast:∀(Γ:Ga),ae (aa 0) (bb (ac (W.int 1)) di) ak (some (.tup (.str z::hd::ms++[.tup ps]))::Γ) st=.ok (.tup ps) st:=fun Γ=>by
  rw[cz,dc,ah,Fv,ah];exact Ew st (by omega)
 have hhd:∀(Γ:Ga),ae (aa 0) (ac (W.int 1)) ak (some (.tup (.str z::hd::ms++[.tup ps]))::Γ) st=.ok hd st:=fun Γ=>by
  rw[cz,dc,ah,df,ah];exact kt _ 1 _ (gi _ 1 _ rfl)
 have htl:∀(Γ:Ga),dl false (aa 0) (ac (W.int 1)) (some (.tup (.str z::hd::ms++[.tup ps]))::Γ) st=.ok (.tup (hd::ms++[.tup ps])) st:=fun Γ=>Yw (k:=1) (dc _) (df _)
 have nl:jr (.lst ps)=false:=rfl
 have n0:jr (.tup [])=false:=rfl
 generalize ew:W.tup (.str z::hd::ms++[.tup ps])=w at *
 show ym st _
 have lt:ps.length<=1000:=by omega
 refine st2a (eb (.lst (.str z::hd::ms++[.tup ps])) (by rw[<-ew];exact Oc (dc _) (by show(hd::ms++[W.tup ps]).length+1<=1000;omega)) ⟨.lst _,rfl,rfl,.lst fun x hx=>(dx x hx).up⟩
  (eb (.tup [.str z,hd]) (by rw[<-ew];exact Yx (k:=2) (dc _) (df _)) (bW (show 1≠2 by decide) (show 1≠6 by decide) (show 1<=50 by decide) hz (fun x hx=>by rw[List.mem_singleton.mp hx];exact th) (fun x hx=>by rw[List.mem_singleton.mp hx];exact dh))
  (eb (.tup (.str "rules" :: (hd::ms++[.tup ps]))) (Fj (xs:=[.str "rules"]) rfl (htl _) (by show 1+_<=1000;omega)) (badZ (by decide +kernel) (by decide +kernel) (by omega) (by decide) tx1 dx1)
  (eb (.tup [.str "rule",hd,.lst ps]) (uq rfl (hhd _) (Oc (hlast _) lt)) (uy th (.lst _) dh (.lst fun p hp=>(dps p hp).up) (by rw[nl,Bool.and_false]))
  (eb (.tup [.str "rule",hd,.tup []]) (uq rfl (hhd _) rfl) (uy th (mh (by decide) fun _ h=>by cases h) dh (.tup fun _ h=>by cases h) (by rw[n0,Bool.and_false]))
  (eb .non rfl (lq (by decide +kernel)) qu)))))) (by decide) fun L1 n1 b1=>?_
 refine j0 more rfl (Γ':=[some w,some (.int c),some (.lst L1),some more,none,none,none,none]) rfl ?_
 refine sk n1 b1 (eb (.tup [sG,sH,.str "counts",sT,sE,sK,sP]) rfl (lq (by decide +kernel))
  (eb (.tup [sG,sH,sC,sT,.str "X",sK,sP]) rfl (lq (by decide +kernel))
  (eb (.tup [sG,sH,sC,sT,sE,.tup [.str "X",.str "X"],sP]) rfl (lq (by decide +kernel)) qu))) (by decide) fun L2 n2 b2=>?_
 refine sk n2 b2 (eb (.tup [sG,sH,sC,.str "t",sE,sK,sP]) rfl (lq (by decide +kernel))
  (eb (.tup [sG,sH,sC,sT,sE,.lst [.str "X"],sP]) rfl (lq (by decide +kernel))
  (eb (.tup [sG,sH,.str "sum",sT,sE,sK,sP]) rfl (lq (by decide +kernel)) qu))) (by decide) fun L3 n3 b3=>?_
 refine sk n3 b3 (eb (.tup [sG,sH,.lst [sC],sT,sE,sK,sP]) rfl (lq (by decide +kernel))
  (eb (.tup [sG,sH,sC,.lst [sT],sE,sK,sP]) rfl (lq (by decide +kernel)) qu)) (by decide) fun L4 n4 b4=>?_
 refine sk n4 b4 (eb (.tup [sG,sH,sC,sT,sE,.tup [.lst [.str "X"]],sP]) rfl (lq (by decide +kernel)) qu) (by decide) fun L5 n5 b5=>?_
 refine sk n5 b5 (eb (.tup [sG,sH,.str "sum",sT,.lst [.str "X"],sK,sP]) rfl (lq (by decide +kernel))
  (eb (.tup (.lst [.str "rule"]::(hd::ms++[.tup ps]))) (Fj (xs:=[.lst [.str "rule"]]) rfl (htl _) (by show 1+_<=1000;omega)) (badL (by omega) tx1 dx1 fun x hx=>by rw[List.mem_singleton.mp hx];exact .str _ _)
  (eb (.tup [.lst [sG],sH,sC,sT,sE,sK,sP]) rfl (lq (by decide +kernel)) qu))) (by decide) fun L6 n6 b6=>?_
 refine j0 (.tup [.tup [.str "has",.tup [.str "load",.str "X",.str "Y",.str "Zed"]],.tup [.str "has",.tup [.str "town",.str "W"]]]) rfl (Γ':=[some w,some (.int c),some (.lst L6),some more,some (.tup [.tup [.str "has",.tup [.str "load",.str "X",.str "Y",.str "Zed"]],.tup [.str "has",.tup [.str "town",.str "W"]]]),none,none,none]) rfl ?_
 refine sk n6 b6 (eb (.tup [sG,sH,sC,sT,sE,.tup [.str "X",.str "Y",.str "Zed",.str "W"],.tup [.tup [.str "has",.tup [.str "load",.str "X",.str "Y",.str "Zed"]],.tup [.str "has",.tup [.str "town",.str "W"]]]]) rfl (lq (by decide +kernel))
  (eb (.tup [.str "rule",.tup [.str "road",.non],.tup ps]) (uq rfl rfl (hlast _)) (uy (vt (n:=3) (by decide +kernel)) tp (ue (by decide +kernel)) dp (by rw[show jo (.tup [.str "road",.non])=false by decide +kernel,Bool.false_and])) qu)) (by decide) fun L7 n7 b7=>?_
 have hl7:(List.replicate 7 ps).flatten.length=7*ps.length:=by simp[List.length_flatten];omega
 have ml7:∀x∈(List.replicate 7 ps).flatten,x∈ps:=fun x hx=>by
  obtain⟨l,hl,hx⟩:=List.mem_flatten.mp hx
  rw[(List.mem_replicate.mp hl).2] at hx;exact hx
 have h7:ae (ae (aa 0) (bb (ac (W.int 1)) di) ak) (ac (W.int 7)) dj [some w,some (.int c),some (.lst L7),some more,some (.tup [.tup [.str "has",.tup [.str "load",.str "X",.str "Y",.str "Zed"]],.tup [.str "has",.tup [.str "town",.str "W"]]]),none,none,none] st=.ok (.tup (List.replicate 7 ps).flatten) st:=by
  rw[cz,hlast,ah,df,ah]
  exact FJ ⟨fun e=>by rw[e] at l1;exact absurd l1 (by decide),by decide,by decide,lt⟩
 refine sk n7 b7 (eb (.tup [.str "rule",.lst (.str n::ts),.tup ps]) (uq rfl (Oc (by rw[hhd,eh]) (by rw[EZ];omega)) (hlast _)) (uy (.lst _) tp (.lst fun x hx=>by
    rw[<-eh] at dh;cases dh with|tup h=>exact h x hx) dp (by rw[show jo (.lst (.str n::ts))=false from rfl,Bool.false_and]))
  (eb (.tup [.str "rule",hd,.tup (List.replicate 7 ps).flatten]) (uq rfl (hhd _) h7) (uy th (mh (by omega) fun x hx=>tps x (ml7 x hx)) dh (.tup fun x hx=>(dps x (ml7 x hx)).up) (by rw[noB (.inr (by omega)),Bool.and_false])) qu)) (by decide) fun L8 n8 b8=>?_
 refine sk n8 b8 (eb (.tup [sG,.tup [.str "Town"],sC,sT,sE,sK,sP]) rfl (lq (by decide +kernel)) qu) (by decide) fun L9 n9 b9=>?_
 generalize efo:W.tup [.tup [.str "has",.tup [.str "load",.str "X",.str "Y",.str "Zed"]],.tup [.str "has",.tup [.str "town",.str "W"]]]=fo
 clear h7
 refine j0 (.lst (badPs.take 6)) rfl (Γ':=[some w,some (.int c),some (.lst L9),some more,some fo,some (.lst (badPs.take 6)),none,none]) rfl ?_
 refine j0 (.lst badPs) (Iv (xs:=badPs.take 6) (ys:=badPs.drop 6) rfl rfl (by decide)) (Γ':=[some w,some (.int c),some (.lst L9),some more,some fo,some (.lst badPs),none,none]) rfl ?_
 obtain⟨q0,q1⟩:=iu (c/28) ((ps.length:Int)+1) (by omega)
 obtain⟨r0,r1⟩:=iu (c/28) 7 (by decide)
 obtain⟨k,hk⟩:∃k:Nat,c/28 % ((ps.length:Int)+1)=(k:Int):=⟨_,(Int.toNat_of_nonneg q0).symm⟩
 have hk1:k<=ps.length:=by omega
 refine j0 (.int k) (by
  rw[<-hk]
  refine wf (um (ip _ _) (by decide) (by decide)) (wg ?_ (df _)) (by omega)
  rw[ee,cf,hlast,ah,dv,ah,ah];exact Xy ps) (Γ':=[some w,some (.int c),some (.lst L9),some more,some fo,some (.lst badPs),some (.int k),none]) rfl ?_
 obtain⟨bp,hbp,ebp⟩:=oa (a:=aa 5) (b:=ae (ae (aa 1) (ac (W.int 28)) bi) (ac (W.int 7)) bf) (Γ:=[some w,some (.int c),some (.lst L9),some more,some fo,some (.lst badPs),some (.int k),none]) (st:=st) (ws:=badPs) rfl (lw (ip _ _) (by decide) (by decide) (by decide)) r0 (show c/28 % 7<7 by omega)
 obtain⟨tb,pb,db⟩:=sA bp hbp
 generalize ebd:ps.take k++[bp]++ps.drop k=bd
 have lbd:bd.length=ps.length+1:=by
  rw[<-ebd];simp only[ES,List.length_take,List.length_drop,FD];omega
 have mbd:∀x∈bd,x∈ps\/x=bp:=fun x hx=>by
  rw[<-ebd] at hx
  rcases List.mem_append.mp hx with hx|hx
  ·rcases List.mem_append.mp hx with hx|hx
   ·exact .inl (List.mem_of_mem_take hx)
   ·exact .inr (List.mem_singleton.mp hx)
  ·exact .inl (List.mem_of_mem_drop hx)
 have nbd:jr (.tup bd)=false:=noB (.inl (by
  rw[<-ebd,List.all_append,List.all_append]
  show((ps.take k).all gd&&(gd bp&&true)&&_)=false
  rw[pb];simp only[Bool.false_and,Bool.and_false]))
 have tbd:Th (.tup bd):=mh (by omega) fun x hx=>by
  rcases mbd x hx with hx|rfl
  ·exact tps x hx
  ·exact tb
 have dbd:Dn 4 (.tup bd):=(Dn.tup fun x hx=>by
  rcases mbd x hx with hx|rfl
  ·exact dps x hx
  ·exact db:Dn 3 _).up
 refine j0 (.tup bd) (by
  rw[<-ebd]
  refine Fj (Fj (Yx (hlast _) rfl) (aW ebp) ?_) (Yw (hlast _) rfl) ?_
  ·simp only[List.length_take,FD];omega
  ·simp only[ES,List.length_take,List.length_drop,FD];omega) (Γ':=[some w,some (.int c),some (.lst L9),some more,some fo,some (.lst badPs),some (.int k),some (.tup bd)]) rfl ?_
 refine sk n9 b9 (eb (.tup [.str "rule",hd,.tup bd]) (uq rfl (hhd _) rfl) (uy th tbd dh dbd (by rw[nbd,Bool.and_false]))
  (eb (.tup [sG,sH,sC,sT,sE,sK,.tup bd]) rfl (badG nbd tbd dbd)
  (eb (.tup [.str "rule",.tup [],.tup ps]) (uq rfl rfl (hlast _)) (uy (vt (n:=3) (by decide +kernel)) tp (ue (by decide +kernel)) dp (by rw[show jo (.tup [])=false by decide +kernel,Bool.false_and]))
  (eb (.tup [.str "rule",.str "road",.tup ps]) (uq rfl rfl (hlast _)) (uy (vt (n:=3) (by decide +kernel)) tp (ue (by decide +kernel)) dp (by rw[show jo (.str "road")=false by decide +kernel,Bool.false_and])) qu)))) (by decide) fun L10 n10 b10=>?_
 refine sk n10 b10 (eb (.tup [.str "rule",.tup [.str "road",.int 1,.int 2,.int 3,.int 4,.int 5],.tup ps]) (uq rfl rfl (hlast _)) (uy (vt (n:=3) (by decide +kernel)) tp (ue (by decide +kernel)) dp (by rw[show jo (.tup [.str "road",.int 1,.int 2,.int 3,.int 4,.int 5])=false by decide +kernel,Bool.false_and]))
  (eb (.tup (.str z::((hd::ms++[.tup ps])++[.tup ps]))) (Fj (xs:=.str z::hd::ms++[.tup ps]) (by rw[ew];rfl) (aW (hlast _)) (by show(hd::ms++[W.tup ps]).length+1+1<=1000;omega)) (bW (by rw[ES,hlen,FD];omega) (by rw[ES,hlen,FD];omega) (by rw[ES,hlen,FD];omega) hz (fun x hx=>by
    rcases List.mem_append.mp hx with hx|hx
    ·exact tx1 x hx
    ·rw[List.mem_singleton.mp hx];exact tp) (fun x hx=>by
    rcases List.mem_append.mp hx with hx|hx
    ·exact dx1 x hx
    ·rw[List.mem_singleton.mp hx];exact dp))
  (eb (.tup [sG,sH,sC,sT,sE,sK,sP,sP]) rfl (lq (by decide +kernel)) qu))) (by decide) fun L11 n11 b11=>?_
 obtain⟨m0,m1⟩:=iu c 30 (by decide)
 obtain⟨v,hv,ev⟩:=oa (a:=aa 2) (b:=ae (aa 1) (ac (W.int 30)) bf) (Γ:=[some w,some (.int c),some (.lst L11),some more,some fo,some (.lst badPs),some (.int k),some (.tup bd)]) (st:=st) (ws:=L11) rfl (wf (ip _ _) (df _) (by decide)) m0 (by omega)
 refine⟨v,b11 v hv,?_⟩
 rw[cj,Nt,ev,ah,ah]
 exact aM st st v
def mk(s:S)(w:W)(R:List W):Prop:=w=.lst R\/∃n,w=.ref n/\s.mu n=some (.lst R)
theorem mk.frz{s:S}{w:W}{R:List W}(h:mk s w R)(hd:∀x∈R,Dn 5 x):DL.frz 0 s.mu 12 w=some (.lst R):=by
 rcases h with rfl|⟨n,rfl,hm⟩
 ·exact(Dn.lst hd).frz 0 s.mu 12 (by decide)
 ·show(if n<0 then some (W.ref n) else(match s.mu n with
   |some (.lst xs)=>(frzs (DL.frz 0 s.mu 11) xs).map W.lst
   |some (.dct ks xs)=>(frzs (DL.frz 0 s.mu 11) xs).map (W.dct ks)
   |none=>none))=_
  rw[FK (Nat.not_lt_zero _),hm]
  show(frzs (DL.frz 0 s.mu 11) R).map W.lst=_
  rw[d4 fun x hx=>(hd x hx).frz 0 s.mu 11 (by decide)];rfl
theorem mk.dct{s:S}{w:W}{R:List W}(h:mk s w R):jk s w=none:=by
 rcases h with rfl|⟨n,rfl,hm⟩
 ·rfl
 ·show(match s.mu n with|some (.dct ks ws)=>some (ks,ws)|_=>none)=_
  rw[hm]
theorem Wk{s:S}{a b:W}{R:List W}(ha:mk s a R)(hb:mk s b R)(hd:∀x∈R,Dn 5 x):nk s a b=some true:=by
 have ed:uo s a b=none:=by
  unfold uo
  rw[ha.dct]
 have key:ci 12 (.lst R) (.lst R)=some true:=(Dn.lst hd).eq 12 (by decide)
 have hx:ci 12 a b=some true\/ci 12 a b=none:=by
  rcases ha with rfl|⟨n,rfl,_⟩
  ·rcases hb with rfl|⟨m,rfl,_⟩
   ·exact .inl key
   ·exact .inr rfl
  ·rcases hb with rfl|⟨m,rfl,_⟩
   ·exact .inr rfl
   ·exact .inr rfl
 unfold nk
 rw[ed]
 dsimp only
 rcases hx with e|e
 ·rw[e]
 ·rw[e]
  dsimp only
  rw[ha.frz hd,hb.frz hd]
  exact key
theorem Sx{s:S}{a b:W}{R:List W}(ha:mk s a R)(hb:mk s b R)(hd:∀x∈R,Dn 5 x):bw a b s=.ok (.bl true) s:=by
 unfold bw;rw[Wk ha hb hd]
theorem La{s:S}{a b:W}{R:List W}(ha:mk s a R)(hb:mk s b R)(hd:∀x∈R,Dn 5 x):de a b s=.ok (.bl false) s:=by
 unfold de;rw[Wk ha hb hd];rfl
def LK(A:List (Str×Nat)):Prop:=∀p∈A,A.lookup p.1=some p.2
theorem Mj:∀{ps A A':List (Str×Nat)},LK A->gq ps A=some A'->LK A'
 |[],A,A',h,e=>by cases e;exact h
 | (n,k)::ps,A,A',h,e=>by
  have e:(match A.lookup n with
   |some j=>if j=k then gq ps A else none
   |none=>gq ps (A++[(n,k)]))=some A':=e
  cases el:A.lookup n with
  |some j =>
   rw[el] at e
   dsimp only at e
   by_cases hj:j=k
   ·rw[FJ hj] at e;exact Mj h e
   ·rw[FK hj] at e;cases e
  | none =>
   rw[el] at e
   refine Mj (A:=A++[(n,k)]) (fun p hp=>?_) e
   rw[List.lookup_append]
   rcases List.mem_append.mp hp with hp|hp
   ·rw[h p hp];rfl
   ·rw[List.mem_singleton.mp hp,el]
    show Option.or none (List.lookup n [(n,k)])=_
    rw[List.lookup_cons,beq_self_eq_true];rfl
theorem Ui{A:List (Str×Nat)}:∀{B:List (Str×Nat)},(∀p∈B,A.lookup p.1=some p.2)->qe (A.map fun(p:Str×Nat)=>(Sum.inr p.1:be)) (A.map fun(p:Str×Nat)=>W.int p.2) (B.map fun(p:Str×Nat)=>(Sum.inr p.1:be)) (B.map fun(p:Str×Nat)=>W.int p.2)=some true
 |[],_=>by unfold qe;rfl
 | p::B,h=>by
  have ih:=Ui (A:=A) (B:=B) fun q hq=>h q (ER _ hq)
  show(match gy (A.map fun(p:Str×Nat)=>(Sum.inr p.1:be)) (A.map fun(p:Str×Nat)=>W.int p.2) (Sum.inr p.1) with
   |none=>some false
   |some w=>(match ci 12 (.int p.2) w,qe (A.map fun(p:Str×Nat)=>(Sum.inr p.1:be)) (A.map fun(p:Str×Nat)=>W.int p.2) (B.map fun(p:Str×Nat)=>(Sum.inr p.1:be)) (B.map fun(p:Str×Nat)=>W.int p.2) with
    |some a,some b=>some (a&&b)
    |_,_=>none))=_
  rw[Nk,h p EK,ih]
  show(match ci 12 (.int p.2) (.int p.2),some true with
    |some a,some b=>some (a&&b)
    |_,_=>none)=_
  rw[(Dn.int 0 (p.2:Int)).eq 12 (by decide)];rfl
theorem Y8(h:LK A)(s:S):de (dA A) (dA A) s=.ok (.bl false) s:=by
 have he:nk s (dA A) (dA A)=some true:=by
  have ed:uo s (dA A) (dA A)=some true:=by
   show(qe (A.map fun(p:Str×Nat)=>(Sum.inr p.1:be)) (A.map fun(p:Str×Nat)=>W.int p.2) (A.map fun(p:Str×Nat)=>(Sum.inr p.1:be)) (A.map fun(p:Str×Nat)=>W.int p.2)).map (fun r=>(A.map fun(p:Str×Nat)=>(Sum.inr p.1:be)).length == (A.map fun(p:Str×Nat)=>(Sum.inr p.1:be)).length&&r)=_
   rw[Ui h,Option.map_some,beq_self_eq_true];rfl
  unfold nk
  rw[ed]
 unfold de;rw[he];rfl
inductive Scn (n0:Nat) (R:List W) (s:S):W->Prop
 |str (d:Str):ll [.lst R] s=.ok (.str d) s->(d = "width"->zb [.ref n0] s=.ok (.str "width") s)->Scn n0 R s (.str d)
 |wid (A:List (Str×Nat)):(∀s',ll [.lst R] s'=.ok (.ref s'.nxt) (s'.new (.lst R)))->(∀s',s'.mu n0=some (.lst R)->n0<s'.nxt->nr [.ref n0] s'=.ok (dA A) s')->LK A->Scn n0 R s (dA A)
noncomputable def Nw:aq:=
 (ai (ax 7 (runN (ad (aa 3) af) (jd false)))
 (ai (ax 8 (runN (ad (aa 7) af) ll))
 (ai (bg (ia (ae (aa 7) (aa 3) de) (ae (runN (ad (ae (runN (ad (runN (ad (aa 3) af) mt) (ad (ac W.non) (ad (ac (W.str "rules")) (ad d7 af)))) (ay false)) (ae (runN (ad (aa 0) (ad (ac (W.int 1)) af)) (ao ir)) (ac (W.int 4)) bf) ak) af) ll) (ac (W.str "rule")) de))
  (ai (aw (ac (W.bl false)))
 aj)
  aj)
 (ai (bg (runN (ad (aa 4) (ad (ac (.ty "str")) af)) cb)
  (ai (aw (cr (runN (ad (aa 8) (ad (ac (.ty "str")) af)) cb) (cr (ae (aa 8) (aa 4) bw) (ia (ae (aa 4) (ac (W.str "width")) de) (ae (runN (ad (aa 3) af) zb) (ac (W.str "width")) bw)))))
 aj)
  aj)
 (ai (bg (ia (gs (runN (ad (aa 8) (ad (ac (.ty "list")) af)) cb)) (ia (ae (aa 8) (aa 3) de) (ae (runN (ad (aa 3) af) nr) (aa 4) de)))
  (ai (aw (ac (W.bl false)))
 aj)
  aj)
 (ai (fm (dw "list" (aa 8) (ad (ac W.non) af) kg))
 (ai (aw (cr (ae (aa 7) (aa 3) bw) (ae (runN (ad (aa 7) af) ll) (aa 3) bw)))
 aj)))))))
theorem oU(s:S)(h:cb [w,.ty "list"] s=.ok (.bl false) s):ll [w] s=.ok (.str "rule") s:=Ep s (c:="BadRule") (.inl rfl) (eO s h)
theorem vM{s:S}{w:W}{R:List W}(h:mk s w R):cb [w,.ty "list"] s=.ok (.bl true) s:=by
 rcases h with rfl|⟨n,rfl,hm⟩
 ·rfl
 ·have hk:ng s (.ref n)=some "list":=by
   show MO.kind (s.mu n)=_
   rw[hm];rfl
  show(if kinds.contains "list" then(match ng s (.ref n) with|some k=>DL.R.ok (W.bl (e9 k "list")) s|none=>.stuck) else .stuck)=_
  rw[FJ (by decide +kernel),hk]
  rfl
theorem oW{ns:List Int}{c m due:W}{x5 x6:Option W}{n0:Nat}{R:List W}(s:S)(hm:s.mu n0=some (.lst R))(hn:n0<s.nxt)(hd:∀x∈R,Dn 5 x)(hl:R.length<=21)(hS:Scn n0 R s due):∃s',Nw [some (.lst (ns.map W.int)),some c,some m,some (.ref n0),some due,x5,x6,none,none] s=.ok (.rt (.bl true)) s':=by
 have hdn:jk s (.ref n0)=none:=mk.dct (R:=R) (.inr ⟨n0,rfl,hm⟩)
 have hli:∀(Γ:Ga),runN (ad (aa 3) af) (jd false) (some (.lst (ns.map W.int))::some c::some m::some (.ref n0)::Γ) s=.ok (.lst R) s:=fun Γ=>by
  rw[ee,cf,wj,ah,dv,ah,ah]
  show(match jk s (.ref n0) with
   |some (ks,_)=>ay false (ks.map Fo) s
   |none=>Im false [.ref n0] s)=_
  rw[hdn]
  show(match MO.items (s.mu n0) with|some xs=>if false then mi xs s else oi xs s|none=>.stuck)=_
  rw[hm]
  exact FJ (dk (by omega))
 obtain⟨q0,q1⟩:=iu (ns.getD 1 0) 4 (by decide)
 have hbad:∀(s':S)(Γ:Ga),s'.mu n0=some (.lst R)->ae (runN (ad (ae (runN (ad (runN (ad (aa 3) af) mt) (ad (ac W.non) (ad (ac (W.str "rules")) (ad d7 af)))) (ay false)) (ae (runN (ad (aa 0) (ad (ac (W.int 1)) af)) (ao ir)) (ac (W.int 4)) bf) ak) af) ll) (ac (W.str "rule")) de (some (.lst (ns.map W.int))::some c::some m::some (.ref n0)::Γ) s'=.ok (.bl false) s':=fun s' Γ hm'=>by
  have ht:runN (ad (aa 3) af) mt (some (.lst (ns.map W.int))::some c::some m::some (.ref n0)::Γ) s'=.ok (.tup R) s':=by
   rw[ee,cf,wj,ah,dv,ah,ah]
   show(match MO.items (s'.mu n0) with|some xs=>ap xs s'|none=>.stuck)=_
   rw[hm']
   exact mz R (dk (by omega))
  have h4:runN (ad (runN (ad (aa 3) af) mt) (ad (ac W.non) (ad (ac (W.str "rules")) (ad d7 af)))) (ay false) (some (.lst (ns.map W.int))::some c::some m::some (.ref n0)::Γ) s'=.ok (.lst [.tup R,.non,.str "rules",.dct [] []]) s':=lis4 ht rfl rfl rfl
  have hc:=Ii ns 1 s'
  have hcell:runN (ad (aa 0) (ad (ac (W.int 1)) af)) (ao ir) (some (.lst (ns.map W.int))::some c::some m::some (.ref n0)::Γ) s'=.ok (.int (ns.getD 1 0)) s':=by
   rw[ee,cf,dc,ah,cf,df,ah,dv,ah,ah,ah,lm]
   rw[show ir [.lst (ns.map W.int),.int 1] s'=.ok (.int (ns.getD 1 0)) s' from hc];rfl
  obtain⟨w,hw,e⟩:=oa h4 (wf hcell (df _) (by decide)) q0 (show ns.getD 1 0 % 4<4 by omega)
  have hi:cb [w,.ty "list"] s'=.ok (.bl false) s':=by
   simp only[List.mem_cons,List.not_mem_nil,or_false] at hw
   rcases hw with rfl|rfl|rfl|rfl<;>rfl
  have b:(("rule" : Str) == "rule")=true:=beq_self_eq_true _
  rw[cz,ee,cf,e,ah,dv,ah,ah,oU s' hi,ah,df,ah,Zp,b];rfl
 unfold Nw
 cases hS with
 | str d ht hw =>
  have hne:de (.lst R) (.ref n0) s=.ok (.bl false) s:=La (.inl rfl) (.inr ⟨n0,rfl,hm⟩) hd
  have hi:cb [.str d,.ty "str"] s=.ok (.bl true) s:=rfl
  have b:(d == d)=true:=beq_self_eq_true _
  refine⟨s,?_⟩
  by_cases ew:d = "width"
  ·have hw:=hw ew
   have b1:(d == ("width" : Str))=true:=by rw[ew];exact beq_self_eq_true _
   have b2:(("width" : Str) == ("width" : Str))=true:=beq_self_eq_true _
   simp only[EV,Nat.reduceSub,↓hli,ht,hne,↓hbad _ _ hm,hi,b,b1,b2,hw,Bool.not_true,Bool.false_eq_true,if_false,if_true]
  ·have b1:(d == ("width" : Str))=false:=beq_false_of_ne ew
   simp only[EV,Nat.reduceSub,↓hli,ht,hne,↓hbad _ _ hm,hi,b,b1,Bool.not_false,Bool.false_eq_true,if_false,if_true]
 | wid A ht hw lk =>
  have ht1:=ht s
  generalize es:s.new (.lst R)=s1 at ht1
  have hm1:s1.mu n0=some (.lst R):=by rw[<-es,ii s _ n0 hn];exact hm
  have hn1:n0<s1.nxt:=by rw[<-es];show n0<s.nxt+1;omega
  have hne:de (.lst R) (.ref n0) s1=.ok (.bl false) s1:=La (.inl rfl) (.inr ⟨n0,rfl,hm1⟩) hd
  have hf:mk s1 (.ref s.nxt) R:=.inr ⟨s.nxt,rfl,by rw[<-es];exact fe s _⟩
  have hi:cb [dA A,.ty "str"] s1=.ok (.bl false) s1:=rfl
  have hi2:=vM hf
  have hne2:de (.ref s.nxt) (.ref n0) s1=.ok (.bl false) s1:=La hf (.inr ⟨n0,rfl,hm1⟩) hd
  have hw1:=hw s1 hm1 hn1
  have hne3:=Y8 lk s1
  have hap:∀Γ:Ga,dw "list" (aa 8) (ad (ac W.non) af) kg [some (.lst (ns.map W.int)),some c,some m,some (.ref n0),some (dA A),x5,x6,some (.lst R),some (.ref s.nxt)] s1=.ok .non (s.new (.lst (R++[.non]))):=fun _=>by
   rw[<-es]
   exact Hj (ro:=aa 8) (re:=ac W.non) rfl rfl (by omega)
  have hap:=hap []
  generalize es2:s.new (.lst (R++[.non]))=s2 at hap
  have hm2:s2.mu n0=some (.lst R):=by rw[<-es2,ii s _ n0 hn];exact hm
  have hn2:n0<s2.nxt:=by rw[<-es2];show n0<s.nxt+1;omega
  have heq:bw (.lst R) (.ref n0) s2=.ok (.bl true) s2:=Sx (.inl rfl) (.inr ⟨n0,rfl,hm2⟩) hd
  have ht2:=ht s2
  have heq2:bw (.ref s2.nxt) (.ref n0) (s2.new (.lst R))=.ok (.bl true) (s2.new (.lst R)):=Sx (.inr ⟨_,rfl,fe s2 _⟩) (.inr ⟨n0,rfl,by rw[ii s2 _ n0 hn2];exact hm2⟩) hd
  refine⟨s2.new (.lst R),?_⟩
  simp only[EV,Nat.reduceSub,↓hli,ht1,hne,↓hbad _ _ hm1,hi,hi2,hne2,hw1,hne3,↓hap,heq,ht2,heq2,Bool.not_true,Bool.false_eq_true,if_false,if_true]
theorem GR.cls{w:W}{c:Str}(h:GR w (some c)):c = "BadRule"\/c = "Unbound":=by
 generalize eo:some c=o at h
 cases h with
 | plain n ts ps hp hb =>
  unfold xn at eo
  split at eo
  ·split at eo
   ·cases eo
   ·cases eo;exact .inr rfl
  ·cases eo;exact .inr rfl
 | gather n ts kk res val keys ps hp hg hb =>
  unfold xk at eo
  split at eo
  ·split at eo
   ·cases eo;exact .inl rfl
   ·split at eo
    ·split at eo
     ·split at eo
      ·cases eo
      ·cases eo;exact .inr rfl
     ·cases eo;exact .inr rfl
    ·cases eo;exact .inr rfl
  ·cases eo;exact .inr rfl
theorem GOuts.cls:∀{R:List W}{os:List (Option Str)}{c:Str},GOuts R os->first os=some c->c = "BadRule"\/c = "Unbound"
 |_,_,_,.nil,e=>by cases e
 |_,_,c,.cons (o:=o) h t,e=>by
  cases o with
  |some d=>cases (show some d=some c from e);exact h.cls
  |none=>exact t.cls e
theorem Lp{c:Str}(h:c = "BadRule"\/c = "Unbound"):ou (some c)=nv c/\Cls c/\nv c ≠ "width":=by
 rcases h with rfl|rfl
 ·exact⟨by decide +kernel,.inl rfl,by decide +kernel⟩
 ·exact⟨by decide +kernel,.inr (.inl rfl),by decide +kernel⟩
theorem GOuts.take:∀{R:List W}{os:List (Option Str)}(k:Nat),GOuts R os->GOuts (R.take k) (os.take k)
 |_,_,0,_=>by rw[List.take_zero,List.take_zero];exact .nil
 |_,_,k+1,.nil=>.nil
 |_,_,k+1,.cons h t=>.cons h (t.take k)
theorem GOuts.spoil:∀{R:List W}{os:List (Option Str)}{k:Nat}{v:W},GOuts R os->k<R.length->Bad v->∃os',Outs (R.set k v) os'/\first os'=some ((first (os.take k)).getD "BadRule")
 |_,_,k,v,.nil,h,_=>absurd h (Nat.not_lt_zero _)
 |_,_,0,v,.cons h t,_,b=>⟨_,.cons (o:=some "BadRule") (fun st=>pK st b.th b.p b.g) t.outs,rfl⟩
 |_,_,k+1,v,.cons (o:=o) h t,hk,b=>by
  obtain⟨os',h1,h2⟩:=t.spoil (k:=k) (Nat.lt_of_succ_lt_succ hk) b
  refine⟨o::os',.cons (fun st=>Xa st h) h1,?_⟩
  cases o with
  |some d=>rfl
  |none=>exact h2
theorem mI{R:List W}{os:List (Option Str)}{n0:Nat}{s:S}(h:GOuts R os)(hl:R.length<=20)(hm:s.mu n0=some (.lst R))(hn:n0<s.nxt):Scn n0 R s (jz os R):=by
 have hlo:∀s':S,s'.mu n0=some (.lst R)->n0<s'.nxt->∀A,fg (s'.new (aD A)) (.ref n0)=some R:=fun s' hm' hn' A=>by
  show MO.items ((s'.new (aD A)).mu n0)=_
  rw[ii s' _ n0 hn',hm'];rfl
 unfold jz
 cases e:first os with
 |some c =>
  obtain⟨h1,h2,h3⟩:=Lp (h.cls e)
  dsimp only
  rw[h1]
  exact .str _ (Ep s h2 (Qq s h.outs hl e)) fun ew=>absurd ew h3
 | none =>
  dsimp only
  cases ew:gq (lg R) [] with
  |none =>
   have hn1:=Qr s h hl e
   rw[ew] at hn1
   have hw:=Lu (w:=.ref n0) s (hlo s hm hn) h.rs (by omega)
   rw[ew] at hw
   have ht:=Ep s (c:="BadWidth") (.inr (.inr (.inr rfl))) hn1
   rw[show nv "BadWidth" = "width" by decide +kernel] at ht
   exact .str _ ht fun _=>oP s hw
  | some A =>
   refine .wid A (fun s'=>?_) (fun s' hm' hn'=>?_) (Mj (fun _ hp=>by cases hp) ew)
   ·have hn1:=Qr s' h hl e
    rw[ew] at hn1
    exact sJ hn1
   ·have hw:=Lu (w:=.ref n0) s' (hlo s' hm' hn') h.rs (by omega)
    rw[ew] at hw
    exact hw
noncomputable def yk(os:List (Option Str)):Str:=match first os with
 |some c=>ou (some c)
 |none => "rule"
theorem jT{R:List W}{os:List (Option Str)}{n0 k:Nat}{v:W}{s:S}(h:GOuts R os)(hl:R.length<=20)(hk:k<R.length)(hv:Bad v):Scn n0 (R.set k v) s (.str (yk (os.take k))):=by
 obtain⟨os',h1,h2⟩:=h.spoil hk hv
 have hc:(first (os.take k)).getD "BadRule" = "BadRule"\/(first (os.take k)).getD "BadRule" = "Unbound":=by
  cases e:first (os.take k) with
  |none=>exact .inl rfl
  |some c=>exact(h.take k).cls e
 have hd:yk (os.take k)=nv ((first (os.take k)).getD "BadRule"):=by
  unfold yk
  cases e:first (os.take k) with
  |none=>exact(show("rule" : Str)=nv "BadRule" by decide +kernel)
  |some c=>exact(Lp ((h.take k).cls e)).1
 obtain⟨_,h4,h5⟩:=Lp hc
 rw[hd]
 exact .str _ (Ep s h4 (Qq s h1 (by rw[List.length_set];exact hl) h2)) fun ew=>absurd ew h5
theorem pI{R:List W}{n0:Nat}{s:S}(hl:20<R.length):Scn n0 R s (.str "many"):=by
 have ht:=Ep s (c:="TooMany") (.inr (.inr (.inl rfl))) (dD s hl)
 rw[show nv "TooMany" = "many" by decide +kernel] at ht
 exact .str _ ht fun ew=>absurd ew (by decide +kernel)
theorem Wn:∀{ys:List W},(∀y∈ys,y=.bl true)->∃bs:List Bool,lu ys=some bs/\bs.all id=true
 |[],_=>⟨[],rfl,rfl⟩
 |y::ys,h=>by
  obtain⟨bs,h1,h2⟩:=Wn (ys:=ys) fun z hz=>h z (ER _ hz)
  have hy:=h y EK
  subst hy
  refine⟨true::bs,?_,by rw[List.all_cons,h2];rfl⟩
  unfold lu
  rw[h1]
  rfl
theorem kO{ys:List W}(s:S)(h:∀y∈ys,y=.bl true):ij [.lst ys] s=.ok (.bl true) s:=by
 obtain⟨bs,h1,h2⟩:=Wn h
 show(match lu ys with|some bs=>R.ok (W.bl (bs.all id)) s|none=>.stuck)=_
 rw[h1,<-h2]
theorem aQ(ns:List Int)(k:Nat)(Γ:Ga)(st:S):runN (ad (aa 0) (ad (ac (W.int k)) af)) (ao ir) (some (.lst (ns.map W.int))::Γ) st=.ok (.int (ns.getD k 0)) st:=by
 rw[ee,cf,dc,ah,cf,df,ah,dv,ah,ah,ah,lm,Ii ns k st];rfl
theorem vB{ns:List Int}{c:Int}(st:S)(Γ:Ga):∃m:Nat,m<=5/\ae (runN (ad (ac (W.int 1)) (ad (ac (W.int 1)) (ad (ac (W.int 2)) (ad (ac (W.int 3)) (ad (ac (W.int 0)) (ad (ac (W.int 5)) af)))))) (ay false)) (ae (aa 1) (ac (W.int 6)) bf) ak (some (.lst (ns.map W.int))::some (.int c)::Γ) st=.ok (.int m) st:=by
 obtain⟨q0,q1⟩:=iu c 6 (by decide)
 have hl:runN (ad (ac (W.int 1)) (ad (ac (W.int 1)) (ad (ac (W.int 2)) (ad (ac (W.int 3)) (ad (ac (W.int 0)) (ad (ac (W.int 5)) af)))))) (ay false) (some (.lst (ns.map W.int))::some (.int c)::Γ) st=.ok (.lst [.int 1,.int 1,.int 2,.int 3,.int 0,.int 5]) st:=rfl
 obtain⟨w,hw,e⟩:=oa hl (wf (ip _ _) (df _) (by decide)) q0 (show c % 6<6 by omega)
 simp only[List.mem_cons,List.not_mem_nil,or_false] at hw
 rcases hw with rfl|rfl|rfl|rfl|rfl|rfl
 ·exact⟨1,by decide,e⟩
 ·exact⟨1,by decide,e⟩
 ·exact⟨2,by decide,e⟩
 ·exact⟨3,by decide,e⟩
 ·exact⟨0,by decide,e⟩
 ·exact⟨5,by decide,e⟩
theorem qV{ns:List Int}{c:Int}(st:S)(Γ:Ga):∃m:Nat,(m=20\/m=21)/\ae (runN (ad (ac (W.int 20)) (ad (ac (W.int 21)) af)) (ay false)) (ae (ae (aa 1) (ac (W.int 108)) bi) (ac (W.int 2)) bf) ak (some (.lst (ns.map W.int))::some (.int c)::Γ) st=.ok (.int m) st:=by
 obtain⟨q0,q1⟩:=iu (c/108) 2 (by decide)
 have hl:runN (ad (ac (W.int 20)) (ad (ac (W.int 21)) af)) (ay false) (some (.lst (ns.map W.int))::some (.int c)::Γ) st=.ok (.lst [.int 20,.int 21]) st:=rfl
 obtain⟨w,hw,e⟩:=oa hl (lw (ip _ _) (by decide) (by decide) (by decide)) q0 (show c/108 % 2<2 by omega)
 simp only[List.mem_cons,List.not_mem_nil,or_false] at hw
 rcases hw with rfl|rfl
 ·exact⟨20,.inl rfl,e⟩
 ·exact⟨21,.inr rfl,e⟩
theorem Y9{ns:List Int}{c:Int}(st:S){x2 x3 x4 x5 x6 x7 x8:Option W}{rest:aq}:∃m:Nat,(m<=5\/m=20\/m=21)/\(ai (ax 2 (ae (runN (ad (ac (W.int 1)) (ad (ac (W.int 1)) (ad (ac (W.int 2)) (ad (ac (W.int 3)) (ad (ac (W.int 0)) (ad (ac (W.int 5)) af)))))) (ay false)) (ae (aa 1) (ac (W.int 6)) bf) ak))
 (ai (bg (ae (ae (ae (aa 1) (ac (W.int 6)) bi) (ac (W.int 9)) bf) (ac (W.int 1)) bw)
  (ai (ax 2 (ae (runN (ad (ac (W.int 20)) (ad (ac (W.int 21)) af)) (ay false)) (ae (ae (aa 1) (ac (W.int 108)) bi) (ac (W.int 2)) bf) ak))
 aj)
  aj) rest)) [some (.lst (ns.map W.int)),some (.int c),x2,x3,x4,x5,x6,x7,x8] st=rest [some (.lst (ns.map W.int)),some (.int c),some (.int m),x3,x4,x5,x6,x7,x8] st:=by
 obtain⟨m,h1,h2⟩:=vB (ns:=ns) (c:=c) st [x2,x3,x4,x5,x6,x7,x8]
 by_cases e:c/6 % 9=1
 ·have b:(c/6 % 9 == (1:Int))=true:=by rw[e];rfl
  obtain⟨m2,h3,h4⟩:=qV (ns:=ns) (c:=c) st [some (.int m),x3,x4,x5,x6,x7,x8]
  refine⟨m2,.inr h3,?_⟩
  rw[sh h2]
  show ai _ rest [some (.lst (ns.map W.int)),some (.int c),some (.int m),x3,x4,x5,x6,x7,x8] st=_
  have hi:∀(a b':aq),bg (ae (ae (ae (aa 1) (ac (W.int 6)) bi) (ac (W.int 9)) bf) (ac (W.int 1)) bw) a b' [some (.lst (ns.map W.int)),some (.int c),some (.int m),x3,x4,x5,x6,x7,x8] st=a [some (.lst (ns.map W.int)),some (.int c),some (.int m),x3,x4,x5,x6,x7,x8] st:=fun a b'=>by
   simp only[EV,Nat.reduceSub,show(0:Int)<6 by decide,show(6:Int)<1073741824 by decide,show(0:Int)<9 by decide,b,if_true]
  rw[cj,hi,sh h4]
  rfl
 ·have b:(c/6 % 9 == (1:Int))=false:=beq_false_of_ne e
  refine⟨m,.inl h1,?_⟩
  rw[sh h2]
  show ai _ rest [some (.lst (ns.map W.int)),some (.int c),some (.int m),x3,x4,x5,x6,x7,x8] st=_
  have hi:∀(a b':aq),bg (ae (ae (ae (aa 1) (ac (W.int 6)) bi) (ac (W.int 9)) bf) (ac (W.int 1)) bw) a b' [some (.lst (ns.map W.int)),some (.int c),some (.int m),x3,x4,x5,x6,x7,x8] st=b' [some (.lst (ns.map W.int)),some (.int c),some (.int m),x3,x4,x5,x6,x7,x8] st:=fun a b'=>by
   simp only[EV,Nat.reduceSub,show(0:Int)<6 by decide,show(6:Int)<1073741824 by decide,show(0:Int)<9 by decide,b,Bool.false_eq_true,if_false]
  rw[cj,hi]
  rfl
abbrev ru2:List W:=[.str "rule",.str "unbound"]
theorem aI(d:Str)(s:S):cn (.str d) (.tup ru2) s=.ok (.bl ((["rule", "unbound"]:List Str).any fun a=>a == d)) s:=by
 show(match kc (.str d) ((["rule", "unbound"]:List Str).map W.str) with|some r=>R.ok (W.bl r) s|none=>.stuck)=_
 rw[rm]
theorem zP(A:List (Str×Nat))(s:S):cn (dA A) (.tup ru2) s=.ok (.bl false) s:=rfl
noncomputable def Ix:aq:=(ai (ax 4 (ac (W.str "rule")))
 (ai (bg (ae (aa 6) (runN (ad (ac (W.str "rule")) (ad (ac (W.str "unbound")) af)) ap) cn)
  (ai (ax 4 (aa 6))
 aj)
  aj)
 aj))
theorem rC{R:List W}{os:List (Option Str)}(h:GOuts R os)(s:S){x0 x1 x2 x3 x4 x5 x7 x8:Option W}:Ix [x0,x1,x2,x3,x4,x5,some (jz os R),x7,x8] s=.ok (.nx [x0,x1,x2,x3,some (.str (yk os)),x5,some (jz os R),x7,x8]) s:=by
 have ht:∀Γ:Ga,runN (ad (ac (W.str "rule")) (ad (ac (W.str "unbound")) af)) ap Γ s=.ok (.tup ru2) s:=fun _=>rfl
 unfold Ix yk jz
 cases e:first os with
 | some c =>
  dsimp only
  have hb:((["rule", "unbound"]:List Str).any fun a=>a == ou (some c))=true:=by
   rcases h.cls e with rfl|rfl<;>decide +kernel
  simp only[EV,Nat.reduceSub,↓ht,aI,hb,if_true]
 | none =>
  dsimp only
  cases ew:gq (lg R) [] with
  |none =>
   have hb:((["rule", "unbound"]:List Str).any fun a=>a == ("width" : Str))=false:=by decide +kernel
   dsimp only
   simp only[EV,Nat.reduceSub,↓ht,aI,hb,Bool.false_eq_true,if_false]
  |some A =>
   dsimp only
   simp only[EV,Nat.reduceSub,↓ht,zP,Bool.false_eq_true,if_false]
theorem pF(st:S){R:List W}{k:Nat}(hk:k<R.length)(v:W):pz (.ref st.nxt) (.int k) v (st.new (.lst R))=.ok () (st.new (.lst (R.set k v))):=by
 show Ez st.nxt (.int k) v (st.new (.lst R)) ((st.new (.lst R)).mu st.nxt) (jy (.int k))=_
 rw[fe]
 show putAt st.nxt k v (st.new (.lst R)) ((st.new (.lst R)).mu st.nxt)=_
 rw[fe]
 show(match ly R.length k with|some j=>DL.R.ok () ((st.new (.lst R)).put st.nxt (.lst (R.set j v)))|none=>.stuck)=_
 have hi:ly R.length (k:Int)=some k:=by
  unfold ly
  rw[FJ (by omega),FJ (by omega)]
  rfl
 rw[hi]
 show DL.R.ok () _=_
 rw[d0]
noncomputable def Il:aq:=(ai (ax 5 (ae (runN (ad (aa 0) (ad (ac (W.int 1)) af)) (ao ir)) (aa 2) bf))
 (ai (ax 6 (runN (ad (dq false (aa 3) (aa 5)) af) (ao vm)))
 (ai (ku (aa 3) (aa 5) (runN (ad (ae (aa 3) (aa 5) ak) (ad (ae (runN (ad (aa 0) (ad (ac (W.int 1)) af)) (ao ir)) (ac (W.int 21)) bi) af)) (ao xa)))
 Ix)))
theorem Yy{st:S}{a b:am}{Γ:Ga}{R:List W}{k:Nat}(ha:a Γ (st.new (.lst R))=.ok (.ref st.nxt) (st.new (.lst R)))(hb:b Γ (st.new (.lst R))=.ok (.int k) (st.new (.lst R)))(hl:R.length<=1000):dq false a b Γ (st.new (.lst R))=.ok (.lst (R.take k)) (st.new (.lst R)):=by
 rw[Ie,ha,ah,hb,ah,Ic]
 show(match fb (st.new (.lst R)) (.ref st.nxt) with|some ws=>if false then mi (fq ws none (some k)) (st.new (.lst R)) else oi (fq ws none (some k)) (st.new (.lst R))|none=>.stuck)=_
 have hi:fb (st.new (.lst R)) (.ref st.nxt)=some R:=by
  show MO.items ((st.new (.lst R)).mu st.nxt)=_
  rw[fe];rfl
 rw[hi]
 show oi (fq R none (some k)) (st.new (.lst R))=_
 have hc:fq R none (some (k:Int))=R.take k:=by
  unfold fq
  rw[HT.sIx_none,HT.sIx_nat,List.drop_zero,Nat.sub_zero]
  by_cases h:k<=R.length
  ·rw[Nat.min_eq_left h]
  ·rw[Nat.min_eq_right (by omega),List.take_of_length_le (EN _),List.take_of_length_le (by omega)]
 rw[hc]
 exact FJ (dk (by rw[List.length_take];omega))
theorem idxR{st:S}{R:List W}{k:Nat}{w:W}(h:R[k]?=some w):ak (.ref st.nxt) (.int k) (st.new (.lst R))=.ok w (st.new (.lst R)):=by
 have hi:=gi R k w h
 have hm:fb (st.new (.lst R)) (.ref st.nxt)=some R:=by
  show MO.items ((st.new (.lst R)).mu st.nxt)=_
  rw[fe];rfl
 have hd:jk (st.new (.lst R)) (.ref st.nxt)=none:=mk.dct (R:=R) (.inr ⟨_,rfl,fe st _⟩)
 have h0:ak (.ref st.nxt) (.int k) (st.new (.lst R))=vw (.ref st.nxt) (.int k) (st.new (.lst R)):=by
  unfold ak
  rw[hd]
 rw[h0]
 show(match fb (st.new (.lst R)) (.ref st.nxt) with
   |some ws=>(match ft ws k with|some w=>DL.R.ok w (st.new (.lst R))|none=>.stuck)
   |none=>.stuck)=_
 rw[hm]
 dsimp only
 rw[hi]
theorem lY{ns:List Int}{c:Int}{m:Nat}{R:List W}{os:List (Option Str)}{x4:Option W}(st:S)(h:GOuts R os)(hm:R.length=m)(h0:0<m)(hl:m<=21):∃(k:Nat)(v:W)(y5 y6:Option W),k<m/\Bad v/\Il [some (.lst (ns.map W.int)),some (.int c),some (.int m),some (.ref st.nxt),x4,none,none,none,none] (st.new (.lst R))=.ok (.nx [some (.lst (ns.map W.int)),some (.int c),some (.int m),some (.ref st.nxt),some (.str (yk (os.take k))),y5,y6,none,none]) (st.new (.lst (R.set k v))):=by
 obtain⟨q0,q1⟩:=iu (ns.getD 1 0) (m:Int) (by omega)
 obtain⟨k,hk⟩:∃k:Nat,ns.getD 1 0 % (m:Int)=(k:Int):=⟨_,(Int.toNat_of_nonneg q0).symm⟩
 have hk1:k<m:=by omega
 have hkR:k<R.length:=by omega
 obtain⟨o,ho⟩:=h.rs R[k] (List.getElem_mem hkR)
 have hg:R[k]?=some R[k]:=EH hkR
 generalize R[k]=w at ho hg
 generalize es:st.new (.lst R)=s
 obtain⟨v,hv,ev⟩:=lX ho (ns.getD 1 0/21) s
 have hc:∀Γ:Ga,runN (ad (aa 0) (ad (ac (W.int 1)) af)) (ao ir) (some (.lst (ns.map W.int))::Γ) s=.ok (.int (ns.getD 1 0)) s:=fun Γ=>aQ ns 1 Γ s
 have h5:∀Γ:Ga,ae (runN (ad (aa 0) (ad (ac (W.int 1)) af)) (ao ir)) (aa 2) bf (some (.lst (ns.map W.int))::some (.int c)::some (.int m)::Γ) s=.ok (.int k) s:=fun Γ=>by
  rw[<-hk];exact wf (hc _) (jx _ _ _) (by omega)
 have hd:=We (w:=.lst (R.take k)) (R:=R.take k) (os:=os.take k) s rfl (fun _=>rfl) (h.take k) (by rw[List.length_take];omega)
 have h6:∀Γ:Ga,runN (ad (dq false (aa 3) (aa 5)) af) (ao vm) (some (.lst (ns.map W.int))::some (.int c)::some (.int m)::some (.ref st.nxt)::x4::some (.int k)::Γ) s=.ok (jz (os.take k) (R.take k)) s:=fun Γ=>by
  have hs:=Yy (st:=st) (a:=aa 3) (b:=aa 5) (Γ:=some (.lst (ns.map W.int))::some (.int c)::some (.int m)::some (.ref st.nxt)::x4::some (.int k)::Γ) (R:=R) (k:=k) rfl rfl (by omega)
  rw[es] at hs
  rw[ee,cf,hs,ah,dv,ah,ah,lm,hd]
  rfl
 have hx:=idxR (st:=st) hg
 rw[es] at hx
 have h7:∀Γ:Ga,runN (ad (ae (aa 3) (aa 5) ak) (ad (ae (runN (ad (aa 0) (ad (ac (W.int 1)) af)) (ao ir)) (ac (W.int 21)) bi) af)) (ao xa) (some (.lst (ns.map W.int))::some (.int c)::some (.int m)::some (.ref st.nxt)::x4::some (.int k)::Γ) s=.ok v s:=fun Γ=>by
  have hxx:ae (aa 3) (aa 5) ak (some (.lst (ns.map W.int))::some (.int c)::some (.int m)::some (.ref st.nxt)::x4::some (.int k)::Γ) s=.ok w s:=by
   rw[cz,wj,ah,Iy,ah,hx]
  rw[ee,cf,hxx,ah,cf,um (hc _) (by decide) (by decide),ah,dv,ah,ah,ah,lm,ev]
  rfl
 have h8:ku (aa 3) (aa 5) (runN (ad (ae (aa 3) (aa 5) ak) (ad (ae (runN (ad (aa 0) (ad (ac (W.int 1)) af)) (ao ir)) (ac (W.int 21)) bi) af)) (ao xa)) [some (.lst (ns.map W.int)),some (.int c),some (.int m),some (.ref st.nxt),x4,some (.int k),some (jz (os.take k) (R.take k)),none,none] s=.ok (.nx [some (.lst (ns.map W.int)),some (.int c),some (.int m),some (.ref st.nxt),x4,some (.int k),some (jz (os.take k) (R.take k)),none,none]) (st.new (.lst (R.set k v))):=by
  rw[Wi,h7,ah,wj,ah,Iy,ah,<-es,pF st hkR v,ah]
 refine⟨k,v,some (.int k),some (jz (os.take k) (R.take k)),hk1,hv,?_⟩
 unfold Il
 rw[sh (h5 _)]
 show ai _ _ [some (.lst (ns.map W.int)),some (.int c),some (.int m),some (.ref st.nxt),x4,some (.int k),none,none,none] s=_
 rw[sh (h6 _)]
 show ai _ _ [some (.lst (ns.map W.int)),some (.int c),some (.int m),some (.ref st.nxt),x4,some (.int k),some (jz (os.take k) (R.take k)),none,none] s=_
 rw[cj,h8,ah,fj]
 exact rC (h.take k) _
theorem law_true(ns:List Int)(_:ns.length<=63):∃st',op_law [.lst (ns.map W.int)] st0=.ok (.bl true) st':=by
 unfold op_law
 rw[d5,show(9:Nat) - 1=8 from rfl,show List.replicate 8 (none:Option W)=[none,none,none,none,none,none,none,none] from rfl]
 generalize st0=st
 unfold Nz
 have h1:=aQ ns 0 [none,none,none,none,none,none,none,none] st
 rw[show(((0:Nat):Int))=0 from rfl] at h1
 rw[sh h1]
 generalize ns.getD 0 0=c
 show ∃st',gu 0 st (ai _ _ [some (.lst (ns.map W.int)),some (.int c),none,none,none,none,none,none,none] st)=.ok (.bl true) st'
 obtain⟨m,hm,e2⟩:=Y9 (ns:=ns) (c:=c) st (x2:=none) (x3:=none) (x4:=none) (x5:=none) (x6:=none) (x7:=none) (x8:=none)
 rw[e2]
 have hm21:m<=21:=by omega
 obtain⟨R,hR,hg,e3⟩:=iG ns m (c/54 % 2 == 1) hm st
 obtain⟨os,ho⟩:=GOuts.of hg
 have h3:runN (ad (aa 0) (ad (aa 2) (ad (ae (ae (ae (aa 1) (ac (W.int 54)) bi) (ac (W.int 2)) bf) (ac (W.int 1)) bw) af))) (ao o6) [some (.lst (ns.map W.int)),some (.int c),some (.int m),none,none,none,none,none,none] st=.ok (.ref st.nxt) (st.new (.lst R)):=by
  have hb:ae (ae (ae (aa 1) (ac (W.int 54)) bi) (ac (W.int 2)) bf) (ac (W.int 1)) bw [some (.lst (ns.map W.int)),some (.int c),some (.int m),none,none,none,none,none,none] st=.ok (.bl (c/54 % 2 == 1)) st:=by
   rw[cz,lw (ip _ _) (by decide) (by decide) (by decide),ah,df,ah,Nv]
  rw[ee,cf,dc,ah,cf,jx,ah,cf,hb,ah,dv,ah,ah,ah,ah,lm,e3]
  rfl
 rw[cj,ki,h3,ah]
 show ∃st',gu 0 st (ai _ _ [some (.lst (ns.map W.int)),some (.int c),some (.int m),some (.ref st.nxt),none,none,none,none,none] (st.new (.lst R)))=.ok (.bl true) st'
 have hsl:=Yy (st:=st) (a:=aa 3) (b:=ac (W.int 5)) (Γ:=[some (.lst (ns.map W.int)),some (.int c),some (.int m),some (.ref st.nxt),none,none,none,none,none]) (R:=R) (k:=5) rfl rfl (by omega)
 obtain⟨ys,y1,y2,y3⟩:=Ex (src:=ba (dq false (aa 3) (ac (W.int 5)))) (cap:=[]) (re:=runN (ad (ae (aa 0) (bb (ac (W.int 1)) di) ak) af) (ao ze)) (Γ:=[some (.lst (ns.map W.int)),some (.int c),some (.int m),some (.ref st.nxt),none,none,none,none,none]) (st:=st.new (.lst R)) (items:=R.take 5) (fun y=>y=.bl true) (Lv hsl) (by rw[List.length_take];omega) fun x hx=>by
  obtain⟨o,hox⟩:=hg x (List.mem_of_mem_take hx)
  obtain⟨z,n,ts,ms,ps,rfl,hml,hp,hb,_,_⟩:=hox.shape
  refine⟨_,rfl,?_⟩
  rw[ee,cf,cz,dc,ah,Fv,ah,Ew _ hml,ah,dv,ah,ah,lm,gX _ hb]
  rfl
 have hall:∀(a b:aq),bg (gs (runN (ad (ck false (ba (dq false (aa 3) (ac (W.int 5)))) [] (ac (.bl true)) (runN (ad (ae (aa 0) (bb (ac (W.int 1)) di) ak) af) (ao ze))) af) ij)) a b [some (.lst (ns.map W.int)),some (.int c),some (.int m),some (.ref st.nxt),none,none,none,none,none] (st.new (.lst R))=b [some (.lst (ns.map W.int)),some (.int c),some (.int m),some (.ref st.nxt),none,none,none,none,none] (st.new (.lst R)):=fun a b=>by
  simp only[EV,Nat.reduceSub,↓y3,kO _ y2,Bool.not_true,Bool.false_eq_true,if_false]
 rw[cj,hall,xp,ah,fj]
 have hmu:=fe st (.lst R)
 have hnx:st.nxt<(st.new (.lst R)).nxt:=Nat.lt_succ_self _
 have hd:=We (w:=.ref st.nxt) (R:=R) (os:=os) (st.new (.lst R)) (by show MO.items ((st.new (.lst R)).mu st.nxt)=_;rw[hmu];rfl) (fun A=>by show MO.items (((st.new (.lst R)).new (aD A)).mu st.nxt)=_;rw[ii _ _ _ hnx,hmu];rfl) ho (by omega)
 have h4:runN (ad (aa 3) af) (ao vm) [some (.lst (ns.map W.int)),some (.int c),some (.int m),some (.ref st.nxt),none,none,none,none,none] (st.new (.lst R))=.ok (jz os R) (st.new (.lst R)):=by
  rw[ee,cf,wj,ah,dv,ah,ah,lm,hd];rfl
 rw[sh h4]
 show ∃st',gu 0 st (ai _ _ [some (.lst (ns.map W.int)),some (.int c),some (.int m),some (.ref st.nxt),some (jz os R),none,none,none,none] (st.new (.lst R)))=.ok (.bl true) st'
 have hsp:∃(R':List W)(due:W)(y5 y6:Option W),R'.length=m/\(∀x∈R',Dn 5 x)/\(m<=20->Scn st.nxt R' (st.new (.lst R')) due)/\bg (cr (ae (ae (ae (aa 1) (ac (W.int 216)) bi) (ac (W.int 4)) bf) (ac (W.int 1)) bw) (ae (aa 2) (ac (W.int 0)) ur)) Il aj [some (.lst (ns.map W.int)),some (.int c),some (.int m),some (.ref st.nxt),some (jz os R),none,none,none,none] (st.new (.lst R))=.ok (.nx [some (.lst (ns.map W.int)),some (.int c),some (.int m),some (.ref st.nxt),some due,y5,y6,none,none]) (st.new (.lst R')):=by
  have hdn:∀x∈R,Dn 5 x:=fun x hx=>by
   obtain⟨_,hox⟩:=hg x hx
   exact hox.dn.up
  have hb:ae (ae (ae (aa 1) (ac (W.int 216)) bi) (ac (W.int 4)) bf) (ac (W.int 1)) bw [some (.lst (ns.map W.int)),some (.int c),some (.int m),some (.ref st.nxt),some (jz os R),none,none,none,none] (st.new (.lst R))=.ok (.bl (c/216 % 4 == 1)) (st.new (.lst R)):=by
   rw[cz,lw (ip _ _) (by decide) (by decide) (by decide),ah,df,ah,Nv]
  by_cases hs:c/216 % 4=1/\0<m
  ·have b1:(c/216 % 4 == (1:Int))=true:=by rw[hs.1];rfl
   have b2:decide ((0:Int)<(m:Int))=true:=decide_eq_true (by omega)
   obtain⟨k,v,y5,y6,hk,hv,e⟩:=lY (ns:=ns) (c:=c) (x4:=some (jz os R)) st ho hR hs.2 hm21
   refine⟨R.set k v,.str (yk (os.take k)),y5,y6,by rw[List.length_set];exact hR,fun x hx=>?_,fun hl=>jT ho (by omega) (by omega) hv,?_⟩
   ·rcases List.mem_or_eq_of_mem_set hx with hx|rfl
    ·exact hdn x hx
    ·exact hv.dn
   ·rw[b1] at hb
    rw[<-e]
    simp only[EV,Nat.reduceSub,↓hb,b2,if_true]
  ·refine⟨R,jz os R,none,none,hR,hdn,fun hl=>mI ho (by omega) hmu hnx,?_⟩
   cases b1:(c/216 % 4 == (1:Int)) with
   |false =>
    rw[b1] at hb
    simp only[EV,Nat.reduceSub,↓hb,Bool.false_eq_true,if_false]
   |true =>
    have e1:c/216 % 4=1:=by simpa using b1
    have b2:decide ((0:Int)<(m:Int))=false:=FR fun h=>hs ⟨e1,by omega⟩
    rw[b1] at hb
    simp only[EV,Nat.reduceSub,↓hb,b2,Bool.false_eq_true,if_true,if_false]
 obtain⟨R',due,y5,y6,hR',hdn,hscn,e5⟩:=hsp
 unfold Il Ix at e5
 rw[cj,e5,ah,fj]
 have hmy:∃due',Scn st.nxt R' (st.new (.lst R')) due'/\bg (ae (aa 2) (ac (W.int 21)) bw) (ai (ax 4 (ac (W.str "many"))) aj) aj [some (.lst (ns.map W.int)),some (.int c),some (.int m),some (.ref st.nxt),some due,y5,y6,none,none] (st.new (.lst R'))=.ok (.nx [some (.lst (ns.map W.int)),some (.int c),some (.int m),some (.ref st.nxt),some due',y5,y6,none,none]) (st.new (.lst R')):=by
  by_cases e:m=21
  ·have b:((m:Int) == (21:Int))=true:=by rw[e];rfl
   refine⟨.str "many",pI (by omega),?_⟩
   simp only[EV,Nat.reduceSub,b,if_true]
  ·have b:((m:Int) == (21:Int))=false:=beq_false_of_ne (by omega)
   refine⟨due,hscn (by omega),?_⟩
   simp only[EV,Nat.reduceSub,b,Bool.false_eq_true,if_false]
 obtain⟨due',hscn',e6⟩:=hmy
 rw[cj,e6,ah,fj]
 obtain⟨s',e7⟩:=oW (ns:=ns) (c:=.int c) (m:=.int m) (x5:=y5) (x6:=y6) (st.new (.lst R')) (fe st _) (Nat.lt_succ_self _) hdn (by omega) hscn'
 unfold Nw at e7
 rw[e7]
 exact⟨s',rfl⟩
end DL.My
open PySem PySem.W PyProof.Rows
namespace PySem.W.Fast
def tw13917209268496090172:=()
def tw9202393430372101198:=()
def tw14837075913798127840:=()
def tw7149602643981362227:=()
def tw6332674571809410037:=()
def tw12779421807360826826:=()
def tw13196758075936541432:=()
def tw10921939115713000607:=()
def tw18247387385745891654:=()
def tw9248281603373776060:=()
def tw3545570381281145695:=()
def tw11787239043500791769:=()
def tw7892633875002759510:=()
def tw13968802505538340633:=()
def tw13381404426710345636:=()
def tw14911052179510291321:=()
def tw15167546150881886210:=()
def tw9211691907257392920:=()
def tw17855205679496445104:=()
def tw3440694045282273870:=()
def tw10936483164993887904:=()
def tw17560362052543039329:=()
def tw793466574497793632:=()
def tw16277091053590875669:=()
def tw3799980039800452273:=()
def tw14244697335260171820:=()
def tw5405909432547177020:=()
def tw914640753133417166:=()
def tw13244981457953299058:=()
def tw10799692091272330478:=()
def tw6891820421925016624:=()
def tw6337128809991526270:=()
def tw8824062200120472887:=()
def tw10845980276743255441:=()
def tw16865907717355647498:=()
def tw5521422486566003245:=()
def tw2879944951361493798:=()
def tw15094271735196543907:=()
def tw13852217396789618491:=()
def tw3279753355224226716:=()
def tw17616700032561367478:=()
def tw15043043001894077309:=()
def tw924408330220857772:=()
def tw204646687479669314:=()
def tw15090030643776395557:=()
def tw12037942821309777459:=()
def tw15276564794070009744:=()
def tw17987137824784975669:=()
def tw15517817870415255137:=()
def tw9288730487860725361:=()
def tw11578485899759144306:=()
def tw17309979167078957681:=()
def tw14645562793301863380:=()
def tw11232103788250645382:=()
def tw4505305886327459791:=()
def tw12886098075634310702:=()
def tw8659867156838148466:=()
def tw13349555755583570323:=()
def tw4205715047178135642:=()
def tw14651268372816890109:=()
def tw9942715529635620291:=()
def tw15039065685574856716:=()
def tw10845598194365294142:=()
def tw6205246569208763363:=()
def tw113261730789375404:=()
def tw13363274596105272922:=()
def tw5012044794318108219:=()
def tw6137323891792028277:=()
def tw9704567772881283857:=()
def tw4996100037189408703:=()
def tw12893855184094271183:=()
def tw17558847394539470603:=()
def tw18163528480125800459:=()
def tw11306706297332567902:=()
def tw12645501021596853845:=()
def tw4893537451642700606:=()
def tw11097226033715087341:=()
def tw7579939142113971427:=()
def tw12703944528935557945:=()
def tw3505690102347833557:=()
def tw6225554758871006334:=()
def tw8416898058592190314:=()
def tw13904171018847667668:=()
def tw1360938040298602688:=()
def tw3104925545256950501:=()
def tw5526130883971501108:=()
def tw6829258337108364253:=()
def tw10591479139024574395:=()
def tw12711804150396113194:=()
def tw15445965625903519195:=()
def tw6802404599753787898:=()
def tw3200138265771882242:=()
def tw12655976045028323589:=()
def tw15748805822179683267:=()
def tw14263339652115286258:=()
def tw12951955598570777315:=()
def tw5241347437345148688:=()
def tw3265077411954793800:=()
def tw10523515587168365652:=()
def tw7572201427164218530:=()
def tw14620654333635942389:=()
def tw16914460372912113215:=()
def tw1987136709553871695:=()
def tw8792546817730499687:=()
def tw3168548828442391191:=()
def tw11544983017210688304:=()
def tw7488771050326505229:=()
def tw11440057559038281313:=()
def tw16679222602241847705:=()
def tw4500970955290217498:=()
def tw3720952535233483844:=()
def tw15202404906839787502:=()
def tw461502152165648797:=()
def tw571002964570465482:=()
def tw5649238220637180687:=()
def tw12964400893470437234:=()
def tw10608888215964613318:=()
def tw1479210739513233541:=()
def tw11053056798484033158:=()
def tw5335964042933892885:=()
def tw526099031757277055:=()
end PySem.W.Fast
set_option maxRecDepth 100000 in
set_option maxHeartbeats 0 in
theorem PySem.Challenge.cw_whyfacts_k03_bound_and_widths_holds : PySem.Challenge.rw_whyfacts_k03_bound_and_widths.Holds := by
 w_on;o_law;k_head;(case hw=>w_witness2)
 k_fill
 refine DL.walkX (b:=true) (l:=PySem.Challenge.rw_whyfacts_k03_bound_and_widths) (op:=DL.My.op_law) (k:=36) (x:="_law_script") rfl rfl ⟨rfl,by decide,by decide⟩ (fun w h Y=>PySem.W.kIn_of Y) DL.My.law_true ?F
 case F =>
  intro w mg fa h KX G hmg
  refine' DL.My.all_mk KX G hmg ?J0 ?J1 ?J2 ?J3 ?J4 ?J5 ?J6 ?J7 ?J8 ?J9 ?K0 ?K1 ?K2 ?K3 ?K4 ?K5 ?K6 ?K7 ?K8 ?K9 ?L0 ?L1 ?L2 ?L3 ?L4 ?L5 ?L6 ?L7 ?L8 ?L9 ?M0 ?M1 ?M2 ?M3 ?M4 ?M5 ?M6 ?M7 ?M8 ?M9 ?N0 ?N1 ?N2 ?N3 ?N4 ?N5 ?N6 ?N7 ?N8 ?N9 ?O0 ?O1 ?O2 ?O3 ?O4 ?O5 ?O6 ?O7 ?O8 ?O9 ?P0 ?P1 ?P2 ?P3 ?P4 ?P5 ?P6 ?P7 ?P8 ?P9 ?Q0 ?Q1 ?Q2 ?Q3 ?Q4 ?Q5 ?Q6 ?Q7 ?Q8 ?Q9 ?R0 ?R1 ?R2 ?R3 ?R4 ?R5 ?R6 ?R7 ?R8 ?R9 ?S0 ?S1 ?S2 ?S3 ?S4 ?S5 ?S6 ?S7 ?S8 ?S9 ?T0 ?T1 ?T2 ?T3 ?T4 ?T5 ?T6 ?T7 ?T8 ?T9 ?U0 ?U1 ?U2 ?U3 ?U4 ?U5 ?U6 ?U7 ?U8 ?U9 ?V0 ?V1 ?V2 ?V3 ?V4 ?V5
  (case J0|J1|J2|J3|J4|J5|J6|J7|J8=>refine' DL.ClsIn.mk' ?a ?b ?c ?d ?e ?f ?g ?h ?i ?j;(case a=>k_is);(case b=>k_exc);(case c|d|e|f|g|h|i|j=>k_is))
  (case J9|K0|K1|K2|K3|K4|K5|K6|K7|K8|K9|L0|L1|L2|L3|L4|L5|L6|L7|L8|L9|M0|M1|M2|M3|M4|M5|M6|M7|M8|M9|N0|N1|N2|N3|N4|N5|N6|N7|N8|N9|O0|O1|O2|O3|O4|O5|O6|O7|O8|O9|P0=>k_is)
  (case P1|P2|P3|P4=>rfl)
  (case P5|P6|P7|P8|P9|Q0|Q1|Q2|Q3|Q4|Q5|Q6=>k_is)
  (case Q7|Q8|Q9|R0|R1|R2|R3|R4|R5|R6|R7|R8|R9|S0|S1|S2|S3|S4|S5|S6|S7|S8|S9|T0|T1|T2|T3|T4|T5|T6|T7|T8|T9|U0|U1|U2|U3|U4|U5|U6|U7|U8|U9|V0|V1|V2|V3|V4|V5=>refine' DL.DIn.mk' ?a ?b ?c ?d;(case a|b|c|d=>k_is))
