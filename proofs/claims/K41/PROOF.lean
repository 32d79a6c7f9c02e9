import PyProof.Rows.All
import Wide.All
import OpenK.AllK
import Wide.FinOn
import PyProof.EqAt
import PyProof.EqKinds
import PyProof.TupleCall
import KE.KStateDown
import Lean
import HandS.Base
import HandS.Call
import HandS.List
import HandS.Comp
import HandS.Ends
import HandS.Dict
import HandS.Iter
import HandS.More
import HandS.Words
import HandS.WordsList
import HandS.WordsDict
import HandS.Exc
import HandS.WordsExc
import HandS.Defaults
import HandS.Head0
import HandS.Head1
import HandS.Head2
import HandS.HeadEnd
import HandS.HeadHook1
import HandS.HeadHook2
import HandS.EndBits
import HandS.Wide
import HandS.IsInst
import HandS.Style
import HandS.Flow
import HandS.SortInts
import HandS.ExcIs
import HandS.Conv
import HandS.Text
import HandS.Walk
import HandS.MakeKwOnly
import HandS.Codes
import HandS.Zip0
import HandS.DictComp
import HandS.DictEq
import HandS.NoneIn
import HandS.Small
import KE.KDictPairs
import KE.GoesEnumKw
import KE.KDictCopyH
import HandS.ExcInit
import HandS.ExcField
import HandS.OwnEq
import HandS.TryOnly
import PySem.Challenge.RW_editionrows_k41_whole_going_together
set_option Elab.async false
set_option linter.all false
set_option maxRecDepth 100000
set_option maxHeartbeats 4000000
/-! What every text of ours begins with: a called def in one word, the head's Hook with one more Bool, the end with the script's bits. -/
namespace Evl2
open PySem PySem.Spec PyProof.Rows L2
/-- a def of the text, with its promise, as a caller takes it -/
structure Callee (P : Program) (w : World) (K : PySem.W.Frag) (mg : Str → Option Value) (base : Heap) (CX : CXT) (k : Nat) (x : Str) (ps : List Str) (dvs : List V) (sp : Sp) : Prop where
  ex : ∃ (fd : FuncData) (ds : List Value), FnOk P w K mg base CX k (He.ga K x) fd ps sp ∧ Binds K fd ps ds ∧ Vals dvs ds
  kp : PySem.W.keepIn K (.ref (He.ga K x)) = true
  g : mg x = some (.ref (He.ga K x))
theorem Callee.up {P : Program} {w : World} {K : PySem.W.Frag} {mg : Str → Option Value} {base : Heap} {CX : CXT} {j k : Nat} {x : Str} {ps : List Str} {dvs : List V} {sp : Sp}
    (C : Callee P w K mg base CX j x ps dvs sp) (h : j ≤ k) : Callee P w K mg base CX k x ps dvs sp := by
  obtain ⟨fd, ds, F, b, v⟩ := C.ex
  exact ⟨⟨fd, ds, F.mono h, b, v⟩, C.kp, C.g⟩
/-- f(e, ..) -/
theorem pcall {X : Cx} {k : Nat} {x : Str} {ps : List Str} {dvs : List V} {sp : Sp} {p pos : Pos} {e : Expr} {es : List Expr} {t : TA} (C : Callee X.prog X.w X.K X.mg X.base CX0 k x ps dvs sp) (hr : Room k X.A) (ha : PA X (e :: es) t) (hg : Gl X x := by rfl)
    (hdb : (x == ("__debug__" : Str)) = false := by decide) (he : starEach (e :: es) X.env = (false, eval e X.env) :: starEach es X.env := by rfl) (hpl : (backTo pos (starEach es X.env)).any (·.1) = false := by rfl) :
    PE X (.Call (.Name x p) (e :: es) [] pos) (tCall sp dvs E0 t) := by
  obtain ⟨fd, ds, F, b, v⟩ := C.ex
  exact pe_call F hr hg C.g C.kp b v pass0 ha hdb he hpl
/-- f() -/
theorem pcall0 {X : Cx} {k : Nat} {x : Str} {ps : List Str} {dvs : List V} {sp : Sp} {p pos : Pos} (C : Callee X.prog X.w X.K X.mg X.base CX0 k x ps dvs sp) (hr : Room k X.A) (hg : Gl X x := by rfl)
    (hdb : (x == ("__debug__" : Str)) = false := by decide) : PE X (.Call (.Name x p) [] [] pos) (tCall sp dvs E0 tNil) := by
  obtain ⟨fd, ds, F, b, v⟩ := C.ex
  exact pe_call0 F hr hg C.g C.kp b v pass0 hdb
/-! ### the head's Hook: the library's facts and one more Bool -/
abbrev AlP : Type := He.AlD × Bool
/-- addresses not yet seen, told by the bits of a number -/
def newA : List Addr → Nat → List Addr → (Nat → List Addr → List Addr) → List Addr
  | [], s, acc, k => k s acc
  | a :: r, s, acc, k => HandSHeadRun.frNat a fun a => match Nat.beq (Nat.land (Nat.shiftRight s a) 1) 1 with
    | true => newA r s acc k
    | false => HandSHeadRun.frNat (Nat.lor s (Nat.shiftLeft 1 a)) fun s => newA r s (a :: acc) k
def refsA (g : Addr → Option Obj) : List Addr → List Addr
  | [] => []
  | a :: r => (match g a with
    | some o => He.refsD o
    | none => []) ++ refsA g r
/-- the addresses reached from the globals in so many steps, each object looked at once -/
def levA (g : Addr → Option Obj) : Nat → Nat → List Addr → List Addr
  | 0, _, fr => fr
  | n + 1, s, fr => newA (refsA g fr) s [] fun s fr' => fr ++ levA g n s fr'
def asW (g : Addr → Option Obj) (n : Nat) : List Addr := levA g n (Nat.shiftLeft 1 mainGlobals) [mainGlobals]
def mapV : List He.DefD → List He.FnW
  | [] => []
  | d :: r => d.val :: mapV r
def obsP (n : Nat) (fa : List He.Fa) (fn : List He.DefD) (ex : PySem.W.Frag → Bool) (g : Addr → Option Obj) : AlP := (He.obsD fa fn (He.frG g (asW g n)), ex (He.frG g (asW g n)))
def valP (fn : List He.DefD) : AlP := ((true, mapV fn), true)
theorem mapV_eq : ∀ fn : List He.DefD, mapV fn = fn.map He.DefD.val
  | [] => rfl
  | d :: r => congrArg (d.val :: ·) (mapV_eq r)
theorem valP_eq (fn : List He.DefD) : valP fn = (He.valD fn, true) := by
  unfold valP He.valD
  rw [mapV_eq]
def hookP (n : Nat) (fa : List He.Fa) (fn : List He.DefD) (ex : PySem.W.Frag → Bool) : PySem.W.Hook where
  α := AlP
  obs := fun s => obsP n fa fn ex s.heap.get?
  val := fun _ => valP fn
  says := fun _ h => ∃ K : PySem.W.Frag, K.In h ∧ (He.SaysD fa fn K ∧ ex K = true)
  of := fun _ _ e => ⟨_, He.frG_in, (congrArg (fun z : AlP => z.1) e).trans (congrArg (fun z : AlP => z.1) (valP_eq fn)), congrArg (fun z : AlP => z.2) e⟩
  keeps := fun _ _ _ ⟨K, hK, c⟩ k => ⟨K, PySem.W.Frag.In.keeps hK k, c⟩
theorem obsP_eq {n : Nat} {fa : List He.Fa} {fn : List He.DefD} {ex : PySem.W.Frag → Bool} {g : Addr → Option Obj} {s : Shared} (h : ∀ a, g a = s.heap.get? a) : obsP n fa fn ex g = (hookP n fa fn ex).obs s := by
  have e : g = s.heap.get? := funext h
  rw [e] <;> rfl
/-- what a law's end wants of its promise at a written part K -/
def LawOk (l : PySem.W.OpenLaw) (w : World) (mg : Str → Option Value) (CX : CXT) (k n : Nat) (x : Str) (fa : Addr) (K : PySem.W.Frag) : Prop :=
  ∃ (fd : FuncData) (sp : Sp), (∀ (s : Shared) (u : Value), BindsTo s fd ⟨[u], []⟩ [(x, u)]) ∧
    (∀ (H : Hp) (a : Addr) (ns : List Int), ns.length ≤ n → (∀ z ∈ ns, Builtin.Int.intBits z ≤ 1048576) → Only H → SqL K H a (ns.map V.int) → sp [.ref a] H (fun v _ => v = .bl true) fun _ _ _ => False) ∧
    ∀ base : Heap, K.In base → base.Ns mainGlobals mg → FnOk l.prog w K mg base CX k fa fd [x] sp
theorem walk_bits {l : PySem.W.OpenLaw} {n k : Nat} {q : Program} {loose : List Str} {XP : (Str → Option Value) → Heap → Prop} {YP : World → Heap → Prop} {d : DefRec} {CX : CXT} {x : Str} (hn : l.most = some n) (hn2 : n ≤ sizeLine) (hdf : d.params.defaults = []) (hr : Room k callerA)
    (F : ∀ (w : World) (mg : Str → Option Value) (fa : Addr) (h : Heap), YP w h → h.Ns mainGlobals mg → mg d.name = some (.ref fa) → ∃ K : PySem.W.Frag, K.In h ∧ LawOk l w mg CX k n x fa K)
    (hCX : ∀ (H : Hp) (s : Shared) (e : Value) (s' : Shared), CX [] H s (fun _ _ _ => False) e s' → False) : PySem.W.WalkO q loose XP YP l.row.toRowW d [] (fun f vs => PySem.call f vs) := by
  refine Att.attach_callB hn hdf fun w s₀ s₁ mg mb fa o pm cd doc a vs ns G Y ho hd hcd hmg hobj hints hlen hbits hg => ?_
  obtain ⟨K, KX, fd, sp, hb, hsp, hF⟩ := F w mg fa _ Y G.T.g hmg
  exact law_call KX G.T.g G.T.b G.T.builtins G.T.nolimit hg hobj hints (Nat.le_trans hlen hn2) hr hF hb (fun H hO hS => hsp H a ns hlen hbits hO hS) fun H e s' => hCX H s₁ e s'
end Evl2
/-! ### more words of ours -/
namespace Evl2
open PySem PySem.Spec PyProof.Rows L2
section
variable {P : Program} {w : World} {K : PySem.W.Frag} {mg : Str → Option Value} {base : Heap}
/-- a method without defaults -/
theorem mkMeth {m q : Str} {params : Arguments} {body : List Stmt} {scope : Scope} {N ps : List Str} {k : Nat} {sp : Sp} {f : Addr} (hF : ∃ fd, FunD K m q params body scope [] [] f fd) (S : FnScope N ps scope)
    (hb : ∀ (kV doc pm : Value) (an : Option Addr) (cdv ct : Value) (us : List Value), us.length = ps.length → bindArgs (PySem.W.fnOf m q params body scope .none kV doc pm an cdv ct) ⟨us, []⟩ = pure (ps.zip us))
    (len : ∀ vs H Q E, sp vs H Q E → vs.length = ps.length)
    (hbody : ∀ (cdv : Value) (A : Around) (outer : List Env) (s : Shared) (H : Hp) (vs : List V) (Q : VK) (E : XK), Room k (A.deeper (envOfC q scope s.heap.objs.size f cdv)) → sp vs H Q E →
      ∃ t, PSs (cxOf CX0 P w K mg base N q scope f cdv A outer s H E).nox body t ∧ t { nx := fun _ H' => Q .non H', rt := Q } (start N vs) H) : ∃ fd, FnOk P w K mg base CX0 (k + 1) f fd ps sp ∧ Binds K fd ps [] := by
  obtain ⟨fd, F⟩ := hF
  refine ⟨fd, F.ok S len fun cdv A outer s H vs Q E hr h => ?_, F.bindsN hb⟩
  obtain ⟨t, h1, h2⟩ := hbody cdv A outer s H vs Q E hr h
  exact ⟨t, h1.nox, h2⟩
/-- a def without defaults, as a callee -/
theorem mkCallee {x y : Str} {params : Arguments} {body : List Stmt} {scope : Scope} {N ps : List Str} {k : Nat} {sp : Sp} (hF : ∃ fd, FunD K y y params body scope [] [] (He.ga K x) fd) (hg : mg x = some (.ref (He.ga K x))) (S : FnScope N ps scope)
    (hb : ∀ (kV doc pm : Value) (an : Option Addr) (cdv ct : Value) (us : List Value), us.length = ps.length → bindArgs (PySem.W.fnOf y y params body scope .none kV doc pm an cdv ct) ⟨us, []⟩ = pure (ps.zip us))
    (len : ∀ vs H Q E, sp vs H Q E → vs.length = ps.length)
    (hbody : ∀ (cdv : Value) (A : Around) (outer : List Env) (s : Shared) (H : Hp) (vs : List V) (Q : VK) (E : XK), Room k (A.deeper (envOfC y scope s.heap.objs.size (He.ga K x) cdv)) → sp vs H Q E →
      ∃ t, PSs (cxOf CX0 P w K mg base N y scope (He.ga K x) cdv A outer s H E).nox body t ∧ t { nx := fun _ H' => Q .non H', rt := Q } (start N vs) H) : Callee P w K mg base CX0 (k + 1) x ps [] sp := by
  obtain ⟨fd, F⟩ := hF
  refine ⟨⟨fd, [], F.ok S len fun cdv A outer s H vs Q E hr h => ?_, F.bindsN hb, .nil⟩, F.kp, hg⟩
  obtain ⟨t, h1, h2⟩ := hbody cdv A outer s H vs Q E hr h
  exact ⟨t, h1.nox, h2⟩
end
theorem s_whenX {t : TT} {tu : TS} {D : Ends} {σ : L2.St} {H : Hp} (P : Hp → Prop) (test : ∀ R : Bool → Hp → Prop, (∀ b H1, P H1 → R b H1) → t σ H R) (body : ∀ H1, P H1 → tu D σ H1) (skip : ∀ H1, P H1 → D.nx σ H1) : tIfS t tu tNext D σ H :=
  test _ fun b H1 p => by
    cases b
    · exact iteF (skip H1 p)
    · exact iteT (body H1 p)
theorem nxt {D : Ends} {σ : L2.St} {H : Hp} (h : D.nx σ H) : tNext D σ H := h
theorem iteD {c A B : Prop} [Decidable c] (hc : ¬ c) (h : B) : if decide c = true then A else B := by
  rw [decide_eq_false hc]
  exact iteF h
theorem iteDT {c A B : Prop} [Decidable c] (hc : c) (h : A) : if decide c = true then A else B := by
  rw [decide_eq_true hc]
  exact iteT h
theorem iteNF {c A B : Prop} [Decidable c] (hc : ¬ c) (h : A) : if (!decide c) = true then A else B := by
  rw [decide_eq_false hc]
  exact iteT h
theorem nes {a b : Str} (h : a ≠ b) : ¬ V.str a = V.str b := fun z => h (V.str.inj z)
theorem nei {a b : Int} (h : a ≠ b) : ¬ V.int a = V.int b := fun z => h (V.int.inj z)
/-- an own error class that is kept -/
def excB (K : PySem.W.Frag) (x : Str) : Bool := PySem.W.keepIn K (.ref (He.ga K x))
/-- what isinstance asks of an own class -/
def insB (K : PySem.W.Frag) (x : Str) : Bool := decide (PySem.W.findIn K (.ref (He.ga K x)) "__class__" = some (some (.builtin "object.__class__"))) && (decide (PySem.W.specialIn K (.builtin "object.__class__") "__get__" = some (some (.builtin "getset_descriptor.__get__"))) &&
  (decide (PySem.W.takesIn K (.builtin "object.__class__") = some true) && decide (PySem.W.mroIn K (He.ga K x) (.type "object") = some true)))
theorem insC_of {K : PySem.W.Frag} {x : Str} (h : insB K x = true) (c : Cls K (He.ga K x)) : C8.InsC K (He.ga K x) := by
  unfold insB at h
  rw [Bool.and_eq_true, Bool.and_eq_true, Bool.and_eq_true] at h
  exact ⟨c, of_decide_eq_true h.1, of_decide_eq_true h.2.1, of_decide_eq_true h.2.2.1, of_decide_eq_true h.2.2.2, if_pos (beq_self_eq_true _)⟩
/-- what != of an own class asks -/
def neB (K : PySem.W.Frag) (x : Str) : Bool := decide (PySem.W.findIn K (.ref (He.ga K x)) "__ne__" = some (some (.builtin "object.__ne__"))) && decide (PySem.W.mroIn K (He.ga K x) (.type "object") = some true)
structure NeC (K : PySem.W.Frag) (C : Addr) : Prop where
  at_ : PySem.W.findIn K (.ref C) "__ne__" = some (some (.builtin "object.__ne__"))
  ob : PySem.W.mroIn K C (.type "object") = some true
theorem neC_of {K : PySem.W.Frag} {x : Str} (h : neB K x = true) : NeC K (He.ga K x) := by
  unfold neB at h
  rw [Bool.and_eq_true] at h
  exact ⟨of_decide_eq_true h.1, of_decide_eq_true h.2⟩
/-- an own error class over ValueError with an own __init__ that keeps its argument under f -/
def oexB (K : PySem.W.Frag) (x f : Str) : Bool := (match K.lookup (He.ga K x) with
  | some ⟨.type "type", _, .cls cd, sl⟩ => (match cd.mro, sl.toList with
    | .ref C' :: bm, [_, _, _, _, some (.builtin n), _] => C' == He.ga K x && (n == "ValueError.__new__" && (!cd.hasDel && (PySem.HandSPX.refsVE bm && cd.hasDict)))
    | _, _ => false)
  | _ => false) && (decide (PySem.W.findIn K (.ref (He.ga K x)) "__setattr__" = some (some (.builtin "object.__setattr__"))) && (decide (PySem.W.subIn K (.ref (He.ga K x)) (.type "BaseException") = some true) && (decide (PySem.W.typeIn K (.ref (He.ga K x)) = some (.type "type")) &&
    (PySem.W.keepIn K (.ref (He.ga K x)) && (xfB K (He.ga K x) && (decide (PySem.W.findIn K (.ref (He.ga K x)) "__init__" = some (some (.ref (He.ma K (He.ga K x) "__init__")))) && (decide (PySem.W.typeIn K (.ref (He.ma K (He.ga K x) "__init__")) = some (.type "function")) &&
    (decide (PySem.W.findIn K (.ref (He.ga K x)) f = some none) && decide (PySem.W.exmOne K (.ref (He.ga K x)) (.ref (He.ga K x)) = some true)))))))))
structure OexF (K : PySem.W.Frag) (x f : Str) : Prop where
  o : OexC K (He.ga K x)
  xf : XfC K (He.ga K x)
  i : PySem.W.findIn K (.ref (He.ga K x)) "__init__" = some (some (.ref (He.ma K (He.ga K x) "__init__")))
  ti : PySem.W.typeIn K (.ref (He.ma K (He.ga K x) "__init__")) = some (.type "function")
  no : PySem.W.findIn K (.ref (He.ga K x)) f = some none
  me : PySem.W.exmOne K (.ref (He.ga K x)) (.ref (He.ga K x)) = some true
theorem oexB_ok {K : PySem.W.Frag} {x f : Str} (h : oexB K x f = true) : OexF K x f := by
  unfold oexB at h
  simp only [Bool.and_eq_true, decide_eq_true_eq] at h
  obtain ⟨h0, h1, h2, h3, h4, h5, h6, h7, h8, h9⟩ := h
  refine ⟨⟨?_, h1, h2, h3, h4⟩, xfB_ok h5, h6, h7, h8, h9⟩
  split at h0
  · rename_i dd cd sl ho
    split at h0
    · rename_i C' bm k0 k1 k2 k3 n k5 hm hs
      simp only [Bool.and_eq_true, beq_iff_eq, Bool.not_eq_true'] at h0
      obtain ⟨hc, hn, hdel, hve, hd⟩ := h0
      obtain ⟨nm, bs, mro, ns, qn, hd', sn, sub, ab, col, del⟩ := cd
      dsimp only at hm hdel hd
      subst hm hdel hd hc hn
      have hsl : sl = #[k0, k1, k2, k3, some (.builtin "ValueError.__new__"), k5] := by
        obtain ⟨l⟩ := sl
        simp only at hs
        rw [hs]
      subst hsl
      exact ⟨_, _, _, _, _, _, _, _, _, _, _, _, _, _, _, ho, hve⟩
    · cases h0
  · cases h0
/-- the empty tuple of the written part -/
def emptyTupB (K : PySem.W.Frag) (a : Addr) : Bool := match K.lookup a with
  | some ⟨.type c, _, .seq its _, _⟩ => decide (c = "tuple") && decide (its.size = 0)
  | _ => false
/-- a pool of draws: a list of two ints -/
def Pl (H : Hp) (a : Addr) : Prop := ∃ z0 z1 : Int, H a = some (.lst [.int z0, .int z1])
/-- all but what stands at a is as it was, at a stands a pool -/
def PlEx (a : Addr) (H H' : Hp) : Prop := (∀ b o, b ≠ a → H b = some o → H' b = some o) ∧ Pl H' a
theorem mod_lo {i j : Int} (h : 0 < j) : 0 ≤ i.fmod j := Int.fmod_nonneg_of_pos i h
theorem mod_hi {i j : Int} (h : 0 < j) : i.fmod j < j := Int.fmod_lt_of_pos i h
/-- values of built-in types: is it an int (no bool)? -/
def isI : V → Bool
  | .int _ => true
  | _ => false
theorem kit_whole {K : PySem.W.Frag} {H : Hp} {x : V} {t : String} (ty : TyX K H x (.type t)) : ∃ a b : Bool, kitB t "int" = some a ∧ kitB t "bool" = some b ∧ (a && !b) = isI x := by
  cases ty with
  | base h => cases h <;> first | exact ⟨true, false, by decide +kernel, by decide +kernel, rfl⟩ | exact ⟨true, true, by decide +kernel, by decide +kernel, rfl⟩ | exact ⟨false, false, by decide +kernel, by decide +kernel, rfl⟩
  | _ => exact ⟨false, false, by decide +kernel, by decide +kernel, rfl⟩
/-! ### heaps -/
theorem same_new {H : Hp} {p : Addr} {o : HO} (h : H p = none) : Same H (upd H p o) := fun a u e => by
  rw [upd_ne (ne_of_none e h)]
  exact e
theorem same_mut {H H' : Hp} {p : Addr} {o : HO} (e : Same H H') (h : H p = none) : Same H (upd H' p o) := fun a u ha => by
  rw [upd_ne (ne_of_none ha h)]
  exact e a u ha
theorem same_tup {K : PySem.W.Frag} {H H' : Hp} {a : Addr} {xs : List V} (e : Same H H') (h : SqT K H a xs) : SqT K H' a xs := by
  rcases h with (h | ⟨o, h⟩) | h
  · exact .inl (.inl (e _ _ h))
  · exact .inl (.inr ⟨o, e _ _ h⟩)
  · exact .inr h
theorem sqL_of {K : PySem.W.Frag} {H : Hp} {a : Addr} {xs : List V} (h : H a = some (.lst xs)) : SqL K H a xs := .inl (.inl h)
theorem sqT_of {K : PySem.W.Frag} {H : Hp} {a : Addr} {xs : List V} (h : H a = some (.tup xs)) : SqT K H a xs := .inl (.inl h)
/-! ### comprehensions that change nothing -/
section
variable {K : PySem.W.Frag} {σ : L2.St} {H : Hp} {tl te : TE} {ta : TA} {tt : TT} {j : Nat} {vs : List Nat} {Q : VK} {xs : List V}
theorem lc_one {f : V → Bool} {v : V → V} {H' : Hp} {D : Addr} {zs : List V} {x : V} (hD : H D = none) (hz : zs.length ≤ 100000) {σ2 : L2.St} (p : Same H H' ∧ H' D = some (.lst zs))
    (ht : ∀ R : Bool → Hp → Prop, (∀ H2, Same H' H2 → R (f x) H2) → tt σ2 H' R) (he : f x = true → ∀ H', Same H H' → ∀ R : VK, (∀ H2, Same H' H2 → R (v x) H2) → te σ2 H' R) {N : Hp → Prop}
    (hN : ∀ H', Same H H' → H' D = some (.lst (zs ++ ([x].filter f).map v)) → N H') :
    tt σ2 H' fun b H3 => if b = true then te σ2 H3 fun y H4 => ∃ acc, H4 D = some (.lst acc) ∧ acc.length < sizeLine ∧ N (upd H4 D (.lst (acc ++ [y]))) else N H3 := by
  refine ht _ fun H3 e3 => ?_
  cases hf : f x with
  | true =>
    refine iteT (he hf H3 (p.1.trans e3) _ fun H4 e4 => ⟨zs, e4 D _ (e3 D _ p.2), Nat.lt_of_le_of_lt hz (by decide), hN _ (same_mut ((p.1.trans e3).trans e4) hD) ?_⟩)
    rw [upd_same, List.filter_cons, if_pos hf]
    rfl
  | false =>
    refine iteF (hN _ (p.1.trans e3) ?_)
    rw [List.filter_cons, if_neg (by rw [hf]; decide)]
    show H3 D = some (.lst (zs ++ []))
    rw [List.append_nil]
    exact e3 D _ p.2
theorem take_one (f : V → Bool) (v : V → V) {i : Nat} {x : V} (h : xs[i]? = some x) : ((xs.take i).filter f).map v ++ ([x].filter f).map v = ((xs.take (i + 1)).filter f).map v := by
  rw [List.take_add_one, h, List.filter_append, List.map_append]
  rfl
theorem take_len (f : V → Bool) (v : V → V) (i : Nat) : (((xs.take i).filter f).map v).length ≤ xs.length := by
  rw [List.length_map]
  refine Nat.le_trans (List.length_filter_le _ _) ?_
  rw [List.length_take]
  exact Nat.min_le_right _ _
theorem tlc_L (f : V → Bool) (v : V → V) (htl : ∀ R : VK, (∀ a H1, Same H H1 → SqL K H1 a xs → R (.ref a) H1) → tl σ H R) (hz : xs.length ≤ 100000) (hw : ∀ x, wipe ((wipe σ vs).set j (some x)) vs = wipe σ vs)
    (ht : ∀ x ∈ xs, ∀ H', Same H H' → ∀ R : Bool → Hp → Prop, (∀ H2, Same H' H2 → R (f x) H2) → tt ((wipe σ vs).set j (some x)) H' R)
    (he : ∀ x ∈ xs, f x = true → ∀ H', Same H H' → ∀ R : VK, (∀ H2, Same H' H2 → R (v x) H2) → te ((wipe σ vs).set j (some x)) H' R)
    (k : ∀ D H', H D = none → Same H H' → H' D = some (.lst ((xs.filter f).map v)) → Q (.ref D) H') : tLc (iList K tl) (gName j) tt te vs σ H Q := by
  refine htl _ fun a H1 e1 hs => ⟨a, rfl, ⟨xs, hs⟩, fun D hD => ?_⟩
  have key : ∀ i x H', xs[i]? = some x → (Same H1 H' ∧ H' D = some (.lst (((xs.take i).filter f).map v))) → gName j x (wipe σ vs) H' fun σ2 H2 => wipe σ2 vs = wipe σ vs ∧ tt σ2 H2 fun b H3 =>
      if b = true then te σ2 H3 fun y H4 => ∃ acc, H4 D = some (.lst acc) ∧ acc.length < sizeLine ∧ (Same H1 (upd H4 D (.lst (acc ++ [y]))) ∧ (upd H4 D (.lst (acc ++ [y]))) D = some (.lst (((xs.take (i + 1)).filter f).map v)))
      else (Same H1 H3 ∧ H3 D = some (.lst (((xs.take (i + 1)).filter f).map v))) := fun i x H' hi p =>
    ⟨hw x, lc_one (N := fun H' => Same H1 H' ∧ H' D = some (.lst (((xs.take (i + 1)).filter f).map v))) (f := f) (v := v) (x := x) hD (Nat.le_trans (take_len f v i) hz) p (ht x (List.mem_of_getElem? hi) H' (e1.trans p.1))
      (fun hf H2 e2 => he x (List.mem_of_getElem? hi) hf H2 (e1.trans e2)) fun H2 s2 d2 => ⟨s2, by rw [d2, take_one f v hi]⟩⟩
  refine lc_list (xs := xs) (fun i H' => Same H1 H' ∧ H' D = some (.lst (((xs.take i).filter f).map v))) ⟨same_new hD, ?_⟩ (fun i H' _ p => p.1.seq hs) key fun H' p => k D H' (e1.free hD) (e1.trans p.1) ?_
  · exact upd_same
  · have q := p.2
    rw [List.take_length] at q
    exact q
theorem tlc_T (f : V → Bool) (v : V → V) (htl : ∀ R : VK, (∀ a H1, Same H H1 → SqT K H1 a xs → R (.ref a) H1) → tl σ H R) (hz : xs.length ≤ 100000) (hw : ∀ x, wipe ((wipe σ vs).set j (some x)) vs = wipe σ vs)
    (ht : ∀ x ∈ xs, ∀ H', Same H H' → ∀ R : Bool → Hp → Prop, (∀ H2, Same H' H2 → R (f x) H2) → tt ((wipe σ vs).set j (some x)) H' R)
    (he : ∀ x ∈ xs, f x = true → ∀ H', Same H H' → ∀ R : VK, (∀ H2, Same H' H2 → R (v x) H2) → te ((wipe σ vs).set j (some x)) H' R)
    (k : ∀ D H', H D = none → Same H H' → H' D = some (.lst ((xs.filter f).map v)) → Q (.ref D) H') : tLc (iTup K tl) (gName j) tt te vs σ H Q := by
  refine htl _ fun a H1 e1 hs => ⟨a, rfl, ⟨xs, hs⟩, fun D hD => ?_⟩
  have key : ∀ i x H', xs[i]? = some x → (Same H1 H' ∧ H' D = some (.lst (((xs.take i).filter f).map v))) → gName j x (wipe σ vs) H' fun σ2 H2 => wipe σ2 vs = wipe σ vs ∧ tt σ2 H2 fun b H3 =>
      if b = true then te σ2 H3 fun y H4 => ∃ acc, H4 D = some (.lst acc) ∧ acc.length < sizeLine ∧ (Same H1 (upd H4 D (.lst (acc ++ [y]))) ∧ (upd H4 D (.lst (acc ++ [y]))) D = some (.lst (((xs.take (i + 1)).filter f).map v)))
      else (Same H1 H3 ∧ H3 D = some (.lst (((xs.take (i + 1)).filter f).map v))) := fun i x H' hi p =>
    ⟨hw x, lc_one (N := fun H' => Same H1 H' ∧ H' D = some (.lst (((xs.take (i + 1)).filter f).map v))) (f := f) (v := v) (x := x) hD (Nat.le_trans (take_len f v i) hz) p (ht x (List.mem_of_getElem? hi) H' (e1.trans p.1))
      (fun hf H2 e2 => he x (List.mem_of_getElem? hi) hf H2 (e1.trans e2)) fun H2 s2 d2 => ⟨s2, by rw [d2, take_one f v hi]⟩⟩
  refine lc_tup (xs := xs) (fun i H' => Same H1 H' ∧ H' D = some (.lst (((xs.take i).filter f).map v))) ⟨same_new hD, ?_⟩ (fun i H' _ p => same_tup p.1 hs) key fun H' p => k D H' (e1.free hD) (e1.trans p.1) ?_
  · exact upd_same
  · have q := p.2
    rw [List.take_length] at q
    exact q
theorem rg_at {n i : Nat} (h : i < n) : ((List.range n).map fun m : Nat => V.int (m : Int))[i]? = some (V.int (i : Int)) := by
  rw [List.getElem?_map, List.getElem?_range h]
  rfl
theorem tlc_R (f : V → Bool) (v : V → V) (n : Int) (hta : ∀ R : List V → Hp → Prop, (∀ H1, Same H H1 → R [.int n] H1) → ta σ H R) (hz : n ≤ 100000) (hw : ∀ x, wipe ((wipe σ vs).set j (some x)) vs = wipe σ vs)
    (ht : ∀ m : Nat, (m : Int) < n → ∀ H', Same H H' → ∀ R : Bool → Hp → Prop, (∀ H2, Same H' H2 → R (f (.int m)) H2) → tt ((wipe σ vs).set j (some (.int m))) H' R)
    (he : ∀ m : Nat, (m : Int) < n → f (.int m) = true → ∀ H', Same H H' → ∀ R : VK, (∀ H2, Same H' H2 → R (v (.int m)) H2) → te ((wipe σ vs).set j (some (.int m))) H' R) (hlo : -100000 ≤ n)
    (k : ∀ D H', H D = none → Same H H' → H' D = some (.lst ((((List.range n.toNat).map fun m : Nat => V.int (m : Int)).filter f).map v)) → Q (.ref D) H') : tLc (iRng1 ta) (gName j) tt te vs σ H Q := by
  refine hta _ fun H1 e1 => ⟨n, rfl, by omega, by omega, fun D hD => ?_⟩
  have key : ∀ i H', i < n.toNat → (Same H1 H' ∧ H' D = some (.lst (((((List.range n.toNat).map fun m : Nat => V.int (m : Int)).take i).filter f).map v))) → gName j (.int ((0 : Int) + (i : Int))) (wipe σ vs) H' fun σ2 H2 => wipe σ2 vs = wipe σ vs ∧ tt σ2 H2 fun b H3 =>
      if b = true then te σ2 H3 fun y H4 => ∃ acc, H4 D = some (.lst acc) ∧ acc.length < sizeLine ∧ (Same H1 (upd H4 D (.lst (acc ++ [y]))) ∧ (upd H4 D (.lst (acc ++ [y]))) D = some (.lst (((((List.range n.toNat).map fun m : Nat => V.int (m : Int)).take (i + 1)).filter f).map v)))
      else (Same H1 H3 ∧ H3 D = some (.lst (((((List.range n.toNat).map fun m : Nat => V.int (m : Int)).take (i + 1)).filter f).map v))) := fun i H' hi p => by
    have e0 : (0 : Int) + (i : Int) = (i : Int) := Int.zero_add _
    rw [e0]
    have hin : (i : Int) < n := by omega
    have hl := take_len (xs := (List.range n.toNat).map fun m : Nat => V.int (m : Int)) f v i
    have hl2 : ((List.range n.toNat).map fun m : Nat => V.int (m : Int)).length = n.toNat := by simp
    exact ⟨hw _, lc_one (N := fun H' => Same H1 H' ∧ H' D = some (.lst (((((List.range n.toNat).map fun m : Nat => V.int (m : Int)).take (i + 1)).filter f).map v))) (f := f) (v := v) (x := .int i) hD (by omega) p (ht i hin H' (e1.trans p.1))
      (fun hf H2 e2 => he i hin hf H2 (e1.trans e2)) fun H2 s2 d2 => ⟨s2, by rw [d2, take_one f v (rg_at hi)]⟩⟩
  refine lc_range (lo := 0) (n := n.toNat) (fun i H' => Same H1 H' ∧ H' D = some (.lst (((((List.range n.toNat).map fun m : Nat => V.int (m : Int)).take i).filter f).map v))) ⟨same_new hD, ?_⟩ key fun H' p => k D H' (e1.free hD) (e1.trans p.1) ?_
  · exact upd_same
  · have q := p.2
    rw [List.take_of_length_le (by simp)] at q
    exact q
end
section
variable {K : PySem.W.Frag} {σ : L2.St} {H : Hp} {te ta : TE} {tt : TT} {U : TS} {D : Ends}
/-- if t: l.append(e), told by the truth of t -/
theorem q_ifapp {l : Addr} {zs : List V} {v : V} (b : Bool) (ht : ∀ R : Bool → Hp → Prop, (∀ H2, Same H H2 → R b H2) → tt σ H R) (hl : H l = some (.lst zs)) (hz : zs.length ≤ 100000) (ha : ∀ (H : Hp) (R : VK), R (.ref l) H → ta σ H R) (he : ∀ (H : Hp) (R : VK), R v H → te σ H R)
    (k : ∀ H', (∀ c o, c ≠ l → H c = some o → H' c = some o) → H' l = some (.lst (zs ++ if b = true then [v] else [])) → U D σ H') : tSeq (tIfS tt (tDrop (tBM K "list" rAppend ta (tCons te tNil))) tNext) U D σ H := by
  refine ht _ fun H2 s2 => ?_
  cases b with
  | true =>
    refine iteT (ha H2 _ ⟨.inl ⟨rfl, _, sqL_of (s2 _ _ hl)⟩, he _ _ ⟨l, _, _, rfl, rfl, s2 _ _ hl, Nat.lt_of_le_of_lt hz (by decide), k _ (fun c o hc e => ?_) upd_same⟩⟩)
    rw [upd_ne hc]
    exact s2 _ _ e
  | false =>
    refine iteF (k H2 (fun c o _ e => s2 _ _ e) ?_)
    show H2 l = some (.lst (zs ++ []))
    rw [List.append_nil]
    exact s2 _ _ hl
end
section
variable {σ : L2.St} {H : Hp} {te : TE} {U : TS} {D : Ends}
/-- x = e, then the rest -/
theorem q_asgX {i : Nat} (h : te σ H fun x H1 => U D (σ.set i (some x)) H1) : tSeq (tAsg te (gName i)) U D σ H := h
/-- x = e, e some int -/
theorem q_asgI {i : Nat} (h : ∀ R : VK, (∀ z : Int, R (.int z) H) → te σ H R) (k : ∀ z : Int, U D (σ.set i (some (.int z))) H) : tSeq (tAsg te (gName i)) U D σ H := h _ k
end
section
variable {K : PySem.W.Frag} {σ : L2.St} {H : Hp} {X : TE} {r : List V → Hp → VK → Prop} {g : TG} {tb U : TS} {D : Ends}
/-- a test by a call of one argument, a for over such a call: the argument first -/
theorem pl_b1 {R : Bool → Hp → Prop} (h : X σ H fun v H1 => r [v] H1 fun x H2 => ∃ c, x = .bl c ∧ R c H2) : tB (tCB r (tCons X tNil)) σ H R := h
theorem pl_r1 {r : List V → Hp → VK → Prop} (h : X σ H fun v H1 => r [v] H1 D.rt) : tRet (tCB r (tCons X tNil)) D σ H := h
theorem pl_forL1 (h : X σ H fun v H1 => r [v] H1 fun x H2 => ∃ a, x = .ref a ∧ (∃ xs, SqL K H2 a xs) ∧ tFor (fun _ H R => R (Itl K a) H) g tb { D with nx := U D } σ H2) : tSeq (tFor (iList K (tCB r (tCons X tNil))) g tb) U D σ H := h
end
/-! ### == of lists of flat values -/
def okV : V → Bool
  | .non => true
  | .bl _ => true
  | .int _ => true
  | .str x => PyData.canLay0 (.str x)
  | _ => false
def dtV : V → PyData
  | .bl b => .bool b
  | .int i => .int i
  | .str x => .str x
  | _ => .none
theorem dp_ok {K : PySem.W.Frag} {H : Hp} : ∀ {x : V}, okV x = true → Dp K H x (dtV x)
  | .non, _ => .non
  | .bl b, _ => .bl b
  | .int i, _ => .int i
  | .str x, _ => .str x
  | .byt _, h => by cases h
  | .flt _, h => by cases h
  | .ref _, h => by cases h
  | .ty _, h => by cases h
theorem dps_ok {K : PySem.W.Frag} {H : Hp} : ∀ {xs : List V}, xs.all okV = true → DpAll K H xs (xs.map dtV)
  | [], _ => .nil
  | x :: r, h => by
    rw [List.all_cons, Bool.and_eq_true] at h
    exact .cons (dp_ok h.1) (dps_ok h.2)
theorem lay_ok : ∀ {x : V}, okV x = true → PyData.canLay0 (dtV x) = true ∧ PyData.depth (dtV x) = 0
  | .non, _ => ⟨rfl, rfl⟩
  | .bl b, _ => ⟨rfl, rfl⟩
  | .int i, _ => ⟨rfl, rfl⟩
  | .str x, h => ⟨h, rfl⟩
  | .byt _, h => by cases h
  | .flt _, h => by cases h
  | .ref _, h => by cases h
  | .ty _, h => by cases h
theorem lays_ok : ∀ {xs : List V}, xs.all okV = true → PyData.canLayAll0 (xs.map dtV) = true ∧ PyData.depthAll (xs.map dtV) = 0
  | [], _ => ⟨rfl, rfl⟩
  | x :: r, h => by
    rw [List.all_cons, Bool.and_eq_true] at h
    obtain ⟨h1, h2⟩ := lay_ok h.1
    obtain ⟨h3, h4⟩ := lays_ok h.2
    constructor
    · show (PyData.canLay0 (dtV x) && PyData.canLayAll0 (r.map dtV)) = true
      rw [h1, h3]
      rfl
    · show max (PyData.depth (dtV x)) (PyData.depthAll (r.map dtV)) = 0
      rw [h2, h4]
      rfl
theorem shaped_ok {xs : List V} (h : xs.all okV = true) : SeqAt.shaped (.list (xs.map dtV)) = true := by
  obtain ⟨h1, h2⟩ := lays_ok h
  unfold SeqAt.shaped
  rw [Bool.and_eq_true]
  refine ⟨h1, decide_eq_true ?_⟩
  show PyData.depthAll (xs.map dtV) + 1 ≤ 64
  rw [h2]
  decide
theorem eqv_ok : ∀ {x : V}, okV x = true → PyData.eqv (dtV x) (dtV x) = true
  | .non, _ => rfl
  | .bl b, _ => by simp [dtV, PyData.eqv]
  | .int i, _ => by simp [dtV, PyData.eqv]
  | .str x, _ => by simp [dtV, PyData.eqv]
  | .byt _, h => by cases h
  | .flt _, h => by cases h
  | .ref _, h => by cases h
  | .ty _, h => by cases h
theorem eqvs_ok : ∀ {xs : List V}, xs.all okV = true → PyData.eqvAll (xs.map dtV) (xs.map dtV) = true
  | [], _ => rfl
  | x :: r, h => by
    rw [List.all_cons, Bool.and_eq_true] at h
    show (PyData.eqv (dtV x) (dtV x) && PyData.eqvAll (r.map dtV) (r.map dtV)) = true
    rw [eqv_ok h.1, eqvs_ok h.2]
    rfl
theorem ne_lists {K : PySem.W.Frag} {H : Hp} {p q : Addr} {xs : List V} {Q : VK} (hp : SqL K H p xs) (hq : SqL K H q xs) (hf : xs.all okV = true) (k : Q (.bl false) H) : rNeD K (.ref p) (.ref q) H Q := by
  refine ⟨.list (xs.map dtV), .list (xs.map dtV), .lst hp (dps_ok hf), .lst hq (dps_ok hf), shaped_ok hf, shaped_ok hf, ?_⟩
  have e : PyData.eqv (.list (xs.map dtV)) (.list (xs.map dtV)) = true := eqvs_ok hf
  rw [e]
  exact k
/-- a value of a built-in type that is no object -/
theorem ty_ok {K : PySem.W.Frag} {H : Hp} : ∀ {x : V}, okV x = true → ∃ t, TyX K H x (.type t)
  | .non, _ => ⟨_, .base .non⟩
  | .bl b, _ => ⟨_, .base (.bl b)⟩
  | .int i, _ => ⟨_, .base (.int i)⟩
  | .str x, _ => ⟨_, .base (.str x)⟩
  | .byt _, h => by cases h
  | .flt _, h => by cases h
  | .ref _, h => by cases h
  | .ty _, h => by cases h
theorem tys_ok {K : PySem.W.Frag} : ∀ {x : V}, okV x = true → ∃ t, ∀ H : Hp, TyX K H x (.type t)
  | .non, _ => ⟨_, fun _ => .base .non⟩
  | .bl b, _ => ⟨_, fun _ => .base (.bl b)⟩
  | .int i, _ => ⟨_, fun _ => .base (.int i)⟩
  | .str x, _ => ⟨_, fun _ => .base (.str x)⟩
  | .byt _, h => by cases h
  | .flt _, h => by cases h
  | .ref _, h => by cases h
  | .ty _, h => by cases h
section
variable {K : PySem.W.Frag} {σ : L2.St} {H : Hp} {tl te : TE} {j : Nat} {vs : List Nat} {Q : VK}
/-- [e for c in a text] -/
theorem tlc_S (v : Nat → V) (z : Str) (htl : ∀ R : VK, R (.str z) H → tl σ H R) (hz : z.cps.size ≤ 100000) (hw : ∀ x, wipe ((wipe σ vs).set j (some x)) vs = wipe σ vs)
    (he : ∀ c ∈ z.cps.toList, ∀ H', Same H H' → ∀ R : VK, (∀ H2, Same H' H2 → R (v c) H2) → te ((wipe σ vs).set j (some (.str ⟨#[c]⟩))) H' R)
    (k : ∀ D H', H D = none → Same H H' → H' D = some (.lst (z.cps.toList.map v)) → Q (.ref D) H') : tLc (iStr tl) (gName j) tYes te vs σ H Q := by
  refine htl _ ⟨z, rfl, fun D hD => ?_⟩
  refine lc_it walk_str (fun i H' => Same H H' ∧ H' D = some (.lst ((z.cps.toList.take i).map v))) ⟨same_new hD, upd_same⟩ (fun _ _ _ _ => trivial) ?_ fun H' p => k D H' hD p.1 ?_
  · rintro i x H' H2 hi p ⟨rfl, c, hc, rfl⟩
    have hc2 : z.cps.toList[i]? = some c := by rw [Array.getElem?_toList]; exact hc
    have hm : c ∈ z.cps.toList := List.mem_of_getElem? hc2
    refine ⟨hw _, he c hm _ p.1 _ fun H3 s3 => ⟨_, s3 _ _ p.2, ?_, same_mut (p.1.trans s3) hD, ?_⟩⟩
    · rw [List.length_map, List.length_take]
      have e : sizeLine = 16777216 := by decide
      omega
    · rw [upd_same, List.take_add_one, hc2, List.map_append]
      rfl
  · have q := p.2
    rw [List.take_of_length_le (by simp)] at q
    exact q
end
/-- None and the ints from 0 to g -/
def valsTo (g : Int) : List V := .non :: rgV 0 (g + 1)
/-- all that is no list is as it was -/
def KeepNL (H H' : Hp) : Prop := ∀ b o, (∀ zs, o ≠ HO.lst zs) → H b = some o → H' b = some o
theorem KeepNL.of {H H' : Hp} (s : Same H H') : KeepNL H H' := fun b o _ e => s b o e
theorem KeepNL.lst {H : Hp} {D : Addr} {zs ys : List V} (h : H D = some (.lst zs)) : KeepNL H (upd H D (.lst ys)) := fun b o n e => by
  rw [upd_ne (fun q => by rw [q, h] at e; exact n zs (Option.some.inj e).symm)]
  exact e
section
variable {K : PySem.W.Frag} {σ : L2.St} {H : Hp} {tl te : TE} {j : Nat} {vs : List Nat} {Q : VK} {xs : List V}
/-- [e for x in xs], e making new objects (no lists among what is told of them) -/
theorem tlc_G (Rl : Nat → V → Hp → Prop) (mono : ∀ i y H H', KeepNL H H' → Rl i y H → Rl i y H') (htl : ∀ R : VK, (∀ a H1, Same H H1 → SqL K H1 a xs → R (.ref a) H1) → tl σ H R) (hz : xs.length ≤ 100000) (hw : ∀ x, wipe ((wipe σ vs).set j (some x)) vs = wipe σ vs)
    (he : ∀ i x, xs[i]? = some x → ∀ H', Same H H' → ∀ R : VK, (∀ y H2, Same H' H2 → Rl i y H2 → R y H2) → te ((wipe σ vs).set j (some x)) H' R)
    (k : ∀ D ys H', H D = none → Same H H' → H' D = some (.lst ys) → ys.length = xs.length → (∀ i y, ys[i]? = some y → Rl i y H') → Q (.ref D) H') : tLc (iList K tl) (gName j) tYes te vs σ H Q := by
  refine htl _ fun a H1 e1 hs => ⟨a, rfl, ⟨xs, hs⟩, fun D hD => ?_⟩
  refine lc_list (xs := xs) (fun i H' => Same H1 H' ∧ ∃ ys, H' D = some (.lst ys) ∧ ys.length = i ∧ ∀ m y, ys[m]? = some y → Rl m y H') ⟨same_new hD, [], upd_same, rfl, fun m y h => by simp at h⟩ (fun i H' _ p => p.1.seq hs) ?_ ?_
  · rintro i x H' hx ⟨s', ys, hys, hl, hr⟩
    have hi : i < xs.length := (List.getElem?_eq_some_iff.mp hx).1
    refine ⟨hw x, he i x hx H' (e1.trans s') _ fun y H2 s2 hy => ⟨ys, s2 _ _ hys, ?_, same_mut (s'.trans s2) hD, ys ++ [y], upd_same, by rw [List.length_append, hl]; rfl, fun m z hm => ?_⟩⟩
    · have e : sizeLine = 16777216 := by decide
      omega
    · have kp : KeepNL H2 (upd H2 D (.lst (ys ++ [y]))) := KeepNL.lst (s2 _ _ hys)
      by_cases hm2 : m < ys.length
      · rw [List.getElem?_append_left hm2] at hm
        exact mono m z _ _ kp (mono m z _ _ (KeepNL.of s2) (hr m z hm))
      · have hm3 : m = ys.length := by
          have h := (List.getElem?_eq_some_iff.mp hm).1
          rw [List.length_append] at h
          have : [y].length = 1 := rfl
          omega
        subst hm3
        rw [List.getElem?_append_right (Nat.le_refl _), Nat.sub_self] at hm
        obtain rfl : y = z := Option.some.inj hm
        rw [hl]
        exact mono i y _ _ kp hy
  · rintro H' ⟨s', ys, hys, hl, hr⟩
    exact k D ys H' (e1.free hD) (e1.trans s') hys hl hr
end
end Evl2
/-! ### own methods called by the language: len(x), v in x, x == y, of instances with a __dict__ -/
namespace Evl2
open PySem PySem.Spec PyProof.Rows L2
section
variable {X : Cx} {CX : CXT} {k : Nat} {f C : Addr} {fd : FuncData} {ps : List Str} {sp : Sp} {E : XK}
/-- an own function called at a place below the running body -/
theorem runA {A : Around} {pins : List (Addr × Obj)} {σ : L2.St} {H : Hp} {s : Shared} {Q : VK} {us : List Value} {vs : List V} (F : FnOk X.prog X.w X.K X.mg X.base CX k f fd ps sp) (hr : Room k A) (e0 : Env0 X.prog X.w X.K X.mg X.base A X.stack s H) (hb : Binds X.K fd ps []) (hx : Passes CX X E)
    (I : Inv X pins σ H s) (r : Vals vs us) (h : sp vs H Q E) : wpAny (model X.prog X.w) A (call (.ref f) us) (EP X pins σ Q) X.xe s := by
  have hl : us.length = ps.length := by rw [← r.length]; exact F.len _ _ _ _ h
  refine wpAny_call (codeAny_mono (F.run A X.stack s H ⟨us, []⟩ us vs Q E hr e0 (by
    have := hb s us I.kIn (by simpa using hl)
    simpa using this) r h) fun r s' hq => ?_)
  cases r with
  | error e => exact hx pins σ H s e s' I hq
  | ok fl =>
    cases fl with
    | ret u => exact I.after hq
    | next => exact False.elim hq
    | brk => exact False.elim hq
    | cont => exact False.elim hq
def rLenOwn (C : Addr) (sp : Sp) (E : XK) : List V → Hp → VK → Prop := fun xs H Q => ∃ a dx fs, xs = [V.ref a] ∧ H a = some (.ins C dx fs) ∧ sp [.ref a] H (fun z H' => ∃ i : Int, z = .int i ∧ (0 ≤ i ∧ i < 2 ^ 63) ∧ Q (.int i) H') E
/-- len(x), x with an own __len__ -/
theorem call_lenOwn (F : FnOk X.prog X.w X.K X.mg X.base CX k f fd ps sp) (hm : Meth X.K C "__len__" f) (hr : Room (k + 1) X.A) (hb : Binds X.K fd ps []) (hx : Passes CX X E) : CallR X (.builtin "len") (rLenOwn C sp E) := by
  intro pins s σ H xs us Q I r h
  obtain ⟨a, dx, fs, rfl, ha, q⟩ := h
  obtain ⟨u, rfl, ru⟩ := r.one
  cases (show u = Value.ref a from ru)
  obtain ⟨mA, J, _⟩ := ins_get I.hok ha
  obtain ⟨od, J, _⟩ := J.look
  obtain ⟨m, hF⟩ := I.fr
  refine PySem.W.len_K hF I.ok.mod.kin J hm.at_ hm.fn ?_
  refine wpAny_mono (runA (us := [.ref a]) (vs := [.ref a]) F hr.in1 I.env0.in1 hb hx I (.cons rfl .nil) q) (fun v s' z => ?_) fun _ _ e => e
  obtain ⟨z', H', I', rz, i, ei, hi, qz⟩ := z
  subst ei
  obtain ⟨t, e⟩ := (show ∃ t, v = Value.int i t from rz)
  cases e
  exact ⟨hi, .int i, H', I'.tok _, ⟨_, rfl⟩, qz⟩
def rInOwn (C : Addr) (sp : Sp) (E : XK) : R2 := fun x y H Q => ∃ a dx fs, y = .ref a ∧ H a = some (.ins C dx fs) ∧ sp [y, x] H (fun z H' => ∃ b, z = .bl b ∧ Q (.bl b) H') E
/-- v in x, x with an own __contains__ that answers a Bool -/
theorem op_inOwn (F : FnOk X.prog X.w X.K X.mg X.base CX k f fd ps sp) (hm : Meth X.K C "__contains__" f) (hr : Room k X.A) (hb : Binds X.K fd ps []) (hx : Passes CX X E) : OpR X (compareOp .In) (rInOwn C sp E) := by
  intro pins s σ H x y v u Q I rx ry h
  obtain ⟨a, dx, fs, rfl, ha, q⟩ := h
  cases (show u = Value.ref a from ry)
  obtain ⟨mA, J, _⟩ := ins_get I.hok ha
  obtain ⟨od, J, _⟩ := J.look
  obtain ⟨m, hF⟩ := I.fr
  refine PySem.W.in_K hF I.ok.mod.kin J hm.at_ hm.fn ?_
  refine wpAny_mono (runA (us := [.ref a, v]) (vs := [.ref a, x]) F hr I.env0 hb hx I (.cons rfl (.cons rx .nil)) q) (fun r s' z => ?_) fun _ _ e => e
  obtain ⟨z', H', I', rz, b, eb, qz⟩ := z
  subst eb
  cases (show r = Value.bool b from rz)
  exact wpAny_truthy_bool ⟨.bl b, H', I', rfl, qz⟩
def rEqOwn (C : Addr) (sp : Sp) (E : XK) : R2 := fun x y H Q => ∃ a dx fs b dy gs, x = .ref a ∧ y = .ref b ∧ H a = some (.ins C dx fs) ∧ H b = some (.ins C dy gs) ∧ sp [x, y] H (fun z H' => ∃ c, z = .bl c ∧ Q (.bl c) H') E
/-- x == y, both of a class with an own __eq__ that answers a Bool -/
theorem op_eqOwn (F : FnOk X.prog X.w X.K X.mg X.base CX k f fd ps sp) (hm : Meth X.K C "__eq__" f) (hr : Room k X.A) (hb : Binds X.K fd ps []) (hx : Passes CX X E) : OpR X (compareOp .Eq) (rEqOwn C sp E) := by
  intro pins s σ H x y v u Q I rx ry h
  obtain ⟨a, dx, fs, b, dy, gs, rfl, rfl, ha, hb', q⟩ := h
  cases (show v = Value.ref a from rx)
  cases (show u = Value.ref b from ry)
  obtain ⟨mA, J, _⟩ := ins_get I.hok ha
  obtain ⟨od, J, _⟩ := J.look
  obtain ⟨mB, J', _⟩ := ins_get I.hok hb'
  obtain ⟨od', J', _⟩ := J'.look
  obtain ⟨m, hF⟩ := I.fr
  show wpAny (model X.prog X.w) X.A (richCompare .Eq (.ref a) (.ref b)) (EP X pins σ Q) X.xe s
  refine PySem.W.cmp_K (op := .Eq) (tb := .ref C) hr.units0 hF I.ok.mod.kin J J'.type (by simp [PySem.W.notFirst]) hm.at_ hm.fn ?_
  refine wpAny_mono (runA (us := [.ref a, .ref b]) (vs := [.ref a, .ref b]) F hr I.env0 hb hx I (.cons rfl (.cons rfl .nil)) q) (fun r s' z => ?_) fun _ _ e => e
  obtain ⟨z', H', I', rz, c, ec, qz⟩ := z
  subst ec
  cases (show r = Value.bool c from rz)
  exact ⟨.bl c, H', I', rfl, qz⟩
end
end Evl2
/-! ### comprehensions over enumerate -/
namespace Evl2
open PySem PySem.Spec PyProof.Rows L2
section
variable {K : PySem.W.Frag} {σ : L2.St} {H : Hp} {ta : TA} {te : TE} {j1 j2 : Nat} {vs : List Nat} {Q : VK} {xs : List V}
/-- [e for i, x in enumerate(xs)], e making new objects (no lists among what is told of them) -/
theorem tlc_GE (Rl : Nat → V → Hp → Prop) (mono : ∀ i y H H', KeepNL H H' → Rl i y H → Rl i y H') (hta : ∀ R : List V → Hp → Prop, (∀ a H1, Same H H1 → SqL K H1 a xs → R [.ref a] H1) → ta σ H R) (hz : xs.length ≤ 100000) (hw : ∀ x y, wipe (((wipe σ vs).set j1 (some x)).set j2 (some y)) vs = wipe σ vs)
    (he : ∀ i x, xs[i]? = some x → ∀ H', Same H H' → ∀ R : VK, (∀ y H2, Same H' H2 → Rl i y H2 → R y H2) → te (((wipe σ vs).set j1 (some (.int (i : Nat)))).set j2 (some x)) H' R)
    (k : ∀ D ys H', H D = none → Same H H' → H' D = some (.lst ys) → ys.length = xs.length → (∀ i y, ys[i]? = some y → Rl i y H') → Q (.ref D) H') : tLc (iEnum K ta) (gTup K 2 (gCons (gName j1) (gCons (gName j2) gNil))) tYes te vs σ H Q := by
  refine hta _ fun a H1 e1 hs => ⟨a, xs, rfl, hs, fun D hD => ?_⟩
  refine lc_it walk_enum (fun i H' => Same H1 H' ∧ ∃ ys, H' D = some (.lst ys) ∧ ys.length = i ∧ ∀ m y, ys[m]? = some y → Rl m y H') ⟨same_new hD, [], upd_same, rfl, fun m y h => by simp at h⟩ (fun i H' _ p => p.1.seq hs) ?_ ?_
  · rintro i v H2 H3 hi ⟨s', ys, hys, hl, hr⟩ ⟨T, x', y', rfl, nT, rfl, ex, ey⟩
    obtain rfl := Option.some.inj ex
    have ey : xs[i]? = some y' := ey
    have st : Same H2 (upd H2 T (.tup [.int (i : Nat), y'])) := same_new nT
    refine ⟨T, _, rfl, sqT_of upd_same, rfl, _, _, rfl, _, _, rfl, rfl, hw _ _, he i y' ey _ (e1.trans (s'.trans st)) _ fun y H4 s2 hy => ⟨ys, s2 _ _ (st _ _ hys), ?_, same_mut (s'.trans (st.trans s2)) hD, ys ++ [y], upd_same, by rw [List.length_append, hl]; rfl, fun m z hm => ?_⟩⟩
    · have e : sizeLine = 16777216 := by decide
      omega
    · have kp : KeepNL H4 (upd H4 D (.lst (ys ++ [y]))) := KeepNL.lst (s2 _ _ (st _ _ hys))
      by_cases hm2 : m < ys.length
      · rw [List.getElem?_append_left hm2] at hm
        exact mono m z _ _ kp (mono m z _ _ (KeepNL.of (st.trans s2)) (hr m z hm))
      · have hm3 : m = ys.length := by
          have h := (List.getElem?_eq_some_iff.mp hm).1
          rw [List.length_append] at h
          have : [y].length = 1 := rfl
          omega
        subst hm3
        rw [List.getElem?_append_right (Nat.le_refl _), Nat.sub_self] at hm
        obtain rfl : y = z := Option.some.inj hm
        rw [hl]
        exact mono i y _ _ kp hy
  · rintro H' ⟨s', ys, hys, hl, hr⟩
    exact k D ys H' (e1.free hD) (e1.trans s') hys hl hr
end
end Evl2

namespace ER
open PySem PySem.Spec PyProof.Rows L2 Evl2
def top (i : Nat) : Stmt := PySem.Challenge.pw_editionrows_k41_whole_going_together.main.body.getD i (.Pass ⟨0, 0, 0, 0⟩)
abbrev s__wall : Stmt := top 0
theorem sc__wall : FnScope ["k"] ["k"] (defScope s__wall) := ⟨rfl, rfl, rfl, by decide +kernel, rfl, by decide +kernel, by decide +kernel⟩
def d__wall : He.DefD := ⟨("_wall", none), "_wall", "_wall", defArgs s__wall, defBody s__wall, defScope s__wall, [], []⟩
abbrev s_BadColumn___init__ : Stmt := inClass (top 3) 0
theorem sc_BadColumn___init__ : FnScope ["self", "index"] ["self", "index"] (defScope s_BadColumn___init__) := ⟨rfl, rfl, rfl, by decide +kernel, rfl, by decide +kernel, by decide +kernel⟩
def d_BadColumn___init__ : He.DefD := ⟨("BadColumn", some "__init__"), "__init__", "BadColumn.__init__", defArgs s_BadColumn___init__, defBody s_BadColumn___init__, defScope s_BadColumn___init__, [], []⟩
abbrev s_BadPart___init__ : Stmt := inClass (top 4) 0
theorem sc_BadPart___init__ : FnScope ["self", "part"] ["self", "part"] (defScope s_BadPart___init__) := ⟨rfl, rfl, rfl, by decide +kernel, rfl, by decide +kernel, by decide +kernel⟩
def d_BadPart___init__ : He.DefD := ⟨("BadPart", some "__init__"), "__init__", "BadPart.__init__", defArgs s_BadPart___init__, defBody s_BadPart___init__, defScope s_BadPart___init__, [], []⟩
abbrev s_BadChange___init__ : Stmt := inClass (top 5) 0
theorem sc_BadChange___init__ : FnScope ["self", "index"] ["self", "index"] (defScope s_BadChange___init__) := ⟨rfl, rfl, rfl, by decide +kernel, rfl, by decide +kernel, by decide +kernel⟩
def d_BadChange___init__ : He.DefD := ⟨("BadChange", some "__init__"), "__init__", "BadChange.__init__", defArgs s_BadChange___init__, defBody s_BadChange___init__, defScope s_BadChange___init__, [], []⟩
abbrev s_BadEdition___init__ : Stmt := inClass (top 6) 0
theorem sc_BadEdition___init__ : FnScope ["self", "edition"] ["self", "edition"] (defScope s_BadEdition___init__) := ⟨rfl, rfl, rfl, by decide +kernel, rfl, by decide +kernel, by decide +kernel⟩
def d_BadEdition___init__ : He.DefD := ⟨("BadEdition", some "__init__"), "__init__", "BadEdition.__init__", defArgs s_BadEdition___init__, defBody s_BadEdition___init__, defScope s_BadEdition___init__, [], []⟩
abbrev s_BadValue___init__ : Stmt := inClass (top 7) 0
theorem sc_BadValue___init__ : FnScope ["self", "name"] ["self", "name"] (defScope s_BadValue___init__) := ⟨rfl, rfl, rfl, by decide +kernel, rfl, by decide +kernel, by decide +kernel⟩
def d_BadValue___init__ : He.DefD := ⟨("BadValue", some "__init__"), "__init__", "BadValue.__init__", defArgs s_BadValue___init__, defBody s_BadValue___init__, defScope s_BadValue___init__, [], []⟩
abbrev s_UnknownName___init__ : Stmt := inClass (top 8) 0
theorem sc_UnknownName___init__ : FnScope ["self", "name"] ["self", "name"] (defScope s_UnknownName___init__) := ⟨rfl, rfl, rfl, by decide +kernel, rfl, by decide +kernel, by decide +kernel⟩
def d_UnknownName___init__ : He.DefD := ⟨("UnknownName", some "__init__"), "__init__", "UnknownName.__init__", defArgs s_UnknownName___init__, defBody s_UnknownName___init__, defScope s_UnknownName___init__, [], []⟩
abbrev s_TooMany___init__ : Stmt := inClass (top 9) 0
theorem sc_TooMany___init__ : FnScope ["self", "limit"] ["self", "limit"] (defScope s_TooMany___init__) := ⟨rfl, rfl, rfl, by decide +kernel, rfl, by decide +kernel, by decide +kernel⟩
def d_TooMany___init__ : He.DefD := ⟨("TooMany", some "__init__"), "__init__", "TooMany.__init__", defArgs s_TooMany___init__, defBody s_TooMany___init__, defScope s_TooMany___init__, [], []⟩
abbrev s_is_whole : Stmt := top 15
theorem sc_is_whole : FnScope ["value"] ["value"] (defScope s_is_whole) := ⟨rfl, rfl, rfl, by decide +kernel, rfl, by decide +kernel, by decide +kernel⟩
def d_is_whole : He.DefD := ⟨("is_whole", none), "is_whole", "is_whole", defArgs s_is_whole, defBody s_is_whole, defScope s_is_whole, [], []⟩
abbrev s_is_list : Stmt := top 16
theorem sc_is_list : FnScope ["value"] ["value"] (defScope s_is_list) := ⟨rfl, rfl, rfl, by decide +kernel, rfl, by decide +kernel, by decide +kernel⟩
def d_is_list : He.DefD := ⟨("is_list", none), "is_list", "is_list", defArgs s_is_list, defBody s_is_list, defScope s_is_list, [], []⟩
abbrev s_is_word : Stmt := top 17
theorem sc_is_word : FnScope ["value", "words"] ["value", "words"] (defScope s_is_word) := ⟨rfl, rfl, rfl, by decide +kernel, rfl, by decide +kernel, by decide +kernel⟩
def d_is_word : He.DefD := ⟨("is_word", none), "is_word", "is_word", defArgs s_is_word, defBody s_is_word, defScope s_is_word, [], []⟩
abbrev s_is_name : Stmt := top 18
theorem sc_is_name : FnScope ["value", "letter"] ["value"] (defScope s_is_name) := ⟨rfl, rfl, rfl, by decide +kernel, rfl, by decide +kernel, by decide +kernel⟩
def d_is_name : He.DefD := ⟨("is_name", none), "is_name", "is_name", defArgs s_is_name, defBody s_is_name, defScope s_is_name, [], []⟩
abbrev s_is_greatest : Stmt := top 19
theorem sc_is_greatest : FnScope ["value"] ["value"] (defScope s_is_greatest) := ⟨rfl, rfl, rfl, by decide +kernel, rfl, by decide +kernel, by decide +kernel⟩
def d_is_greatest : He.DefD := ⟨("is_greatest", none), "is_greatest", "is_greatest", defArgs s_is_greatest, defBody s_is_greatest, defScope s_is_greatest, [], []⟩
abbrev s_is_value : Stmt := top 20
theorem sc_is_value : FnScope ["value"] ["value"] (defScope s_is_value) := ⟨rfl, rfl, rfl, by decide +kernel, rfl, by decide +kernel, by decide +kernel⟩
def d_is_value : He.DefD := ⟨("is_value", none), "is_value", "is_value", defArgs s_is_value, defBody s_is_value, defScope s_is_value, [], []⟩
abbrev s_is_within : Stmt := top 21
theorem sc_is_within : FnScope ["value", "greatest"] ["value", "greatest"] (defScope s_is_within) := ⟨rfl, rfl, rfl, by decide +kernel, rfl, by decide +kernel, by decide +kernel⟩
def d_is_within : He.DefD := ⟨("is_within", none), "is_within", "is_within", defArgs s_is_within, defBody s_is_within, defScope s_is_within, [], []⟩
abbrev s_is_missing : Stmt := top 22
theorem sc_is_missing : FnScope ["value"] ["value"] (defScope s_is_missing) := ⟨rfl, rfl, rfl, by decide +kernel, rfl, by decide +kernel, by decide +kernel⟩
def d_is_missing : He.DefD := ⟨("is_missing", none), "is_missing", "is_missing", defArgs s_is_missing, defBody s_is_missing, defScope s_is_missing, [], []⟩
abbrev s_values_to : Stmt := top 23
theorem sc_values_to : FnScope ["greatest"] ["greatest"] (defScope s_values_to) := ⟨rfl, rfl, rfl, by decide +kernel, rfl, by decide +kernel, by decide +kernel⟩
def d_values_to : He.DefD := ⟨("values_to", none), "values_to", "values_to", defArgs s_values_to, defBody s_values_to, defScope s_values_to, [], []⟩
abbrev s_in_order : Stmt := top 24
theorem sc_in_order : FnScope ["values", "found", "number", "value"] ["values"] (defScope s_in_order) := ⟨rfl, rfl, rfl, by decide +kernel, rfl, by decide +kernel, by decide +kernel⟩
def d_in_order : He.DefD := ⟨("in_order", none), "in_order", "in_order", defArgs s_in_order, defBody s_in_order, defScope s_in_order, [], []⟩
abbrev s_Column___init__ : Stmt := inClass (top 27) 0
theorem sc_Column___init__ : FnScope ["self", "name", "greatest", "default", "number"] ["self", "name", "greatest", "default", "number"] (defScope s_Column___init__) := ⟨rfl, rfl, rfl, by decide +kernel, rfl, by decide +kernel, by decide +kernel⟩
def d_Column___init__ : He.DefD := ⟨("Column", some "__init__"), "__init__", "Column.__init__", defArgs s_Column___init__, defBody s_Column___init__, defScope s_Column___init__, [.non], [("number", (.int 0))]⟩
abbrev s_Column___eq__ : Stmt := inClass (top 27) 1
theorem sc_Column___eq__ : FnScope ["self", "other"] ["self", "other"] (defScope s_Column___eq__) := ⟨rfl, rfl, rfl, by decide +kernel, rfl, by decide +kernel, by decide +kernel⟩
def d_Column___eq__ : He.DefD := ⟨("Column", some "__eq__"), "__eq__", "Column.__eq__", defArgs s_Column___eq__, defBody s_Column___eq__, defScope s_Column___eq__, [], []⟩
abbrev s_Column___contains__ : Stmt := inClass (top 27) 2
theorem sc_Column___contains__ : FnScope ["self", "x"] ["self", "x"] (defScope s_Column___contains__) := ⟨rfl, rfl, rfl, by decide +kernel, rfl, by decide +kernel, by decide +kernel⟩
def d_Column___contains__ : He.DefD := ⟨("Column", some "__contains__"), "__contains__", "Column.__contains__", defArgs s_Column___contains__, defBody s_Column___contains__, defScope s_Column___contains__, [], []⟩
abbrev s_Column_all_values : Stmt := inClass (top 27) 3
theorem sc_Column_all_values : FnScope ["self"] ["self"] (defScope s_Column_all_values) := ⟨rfl, rfl, rfl, by decide +kernel, rfl, by decide +kernel, by decide +kernel⟩
def d_Column_all_values : He.DefD := ⟨("Column", some "all_values"), "all_values", "Column.all_values", defArgs s_Column_all_values, defBody s_Column_all_values, defScope s_Column_all_values, [], []⟩
abbrev s_Column_changed : Stmt := inClass (top 27) 4
theorem sc_Column_changed : FnScope ["self", "part", "value", "parts"] ["self", "part", "value"] (defScope s_Column_changed) := ⟨rfl, rfl, rfl, by decide +kernel, rfl, by decide +kernel, by decide +kernel⟩
def d_Column_changed : He.DefD := ⟨("Column", some "changed"), "changed", "Column.changed", defArgs s_Column_changed, defBody s_Column_changed, defScope s_Column_changed, [], []⟩
abbrev s_column_named : Stmt := top 28
theorem sc_column_named : FnScope ["columns", "name", "column"] ["columns", "name"] (defScope s_column_named) := ⟨rfl, rfl, rfl, by decide +kernel, rfl, by decide +kernel, by decide +kernel⟩
def d_column_named : He.DefD := ⟨("column_named", none), "column_named", "column_named", defArgs s_column_named, defBody s_column_named, defScope s_column_named, [], []⟩
abbrev s_column_numbered : Stmt := top 29
theorem sc_column_numbered : FnScope ["columns", "number", "column"] ["columns", "number"] (defScope s_column_numbered) := ⟨rfl, rfl, rfl, by decide +kernel, rfl, by decide +kernel, by decide +kernel⟩
def d_column_numbered : He.DefD := ⟨("column_numbered", none), "column_numbered", "column_numbered", defArgs s_column_numbered, defBody s_column_numbered, defScope s_column_numbered, [], []⟩
abbrev s_is_change : Stmt := top 33
theorem sc_is_change : FnScope ["value"] ["value"] (defScope s_is_change) := ⟨rfl, rfl, rfl, by decide +kernel, rfl, by decide +kernel, by decide +kernel⟩
def d_is_change : He.DefD := ⟨("is_change", none), "is_change", "is_change", defArgs s_is_change, defBody s_is_change, defScope s_is_change, [], []⟩
abbrev s_has_parts : Stmt := top 34
theorem sc_has_parts : FnScope ["kind", "parts"] ["kind", "parts"] (defScope s_has_parts) := ⟨rfl, rfl, rfl, by decide +kernel, rfl, by decide +kernel, by decide +kernel⟩
def d_has_parts : He.DefD := ⟨("has_parts", none), "has_parts", "has_parts", defArgs s_has_parts, defBody s_has_parts, defScope s_has_parts, [], []⟩
abbrev s_is_single_part : Stmt := top 35
theorem sc_is_single_part : FnScope ["kind", "part"] ["kind", "part"] (defScope s_is_single_part) := ⟨rfl, rfl, rfl, by decide +kernel, rfl, by decide +kernel, by decide +kernel⟩
def d_is_single_part : He.DefD := ⟨("is_single_part", none), "is_single_part", "is_single_part", defArgs s_is_single_part, defBody s_is_single_part, defScope s_is_single_part, [], []⟩
abbrev s_is_way : Stmt := top 36
theorem sc_is_way : FnScope ["value"] ["value"] (defScope s_is_way) := ⟨rfl, rfl, rfl, by decide +kernel, rfl, by decide +kernel, by decide +kernel⟩
def d_is_way : He.DefD := ⟨("is_way", none), "is_way", "is_way", defArgs s_is_way, defBody s_is_way, defScope s_is_way, [], []⟩
abbrev s_kind_of : Stmt := top 37
theorem sc_kind_of : FnScope ["change"] ["change"] (defScope s_kind_of) := ⟨rfl, rfl, rfl, by decide +kernel, rfl, by decide +kernel, by decide +kernel⟩
def d_kind_of : He.DefD := ⟨("kind_of", none), "kind_of", "kind_of", defArgs s_kind_of, defBody s_kind_of, defScope s_kind_of, [], []⟩
abbrev s_hindrance : Stmt := top 38
theorem sc_hindrance : FnScope ["columns", "change", "kind", "column"] ["columns", "change"] (defScope s_hindrance) := ⟨rfl, rfl, rfl, by decide +kernel, rfl, by decide +kernel, by decide +kernel⟩
def d_hindrance : He.DefD := ⟨("hindrance", none), "hindrance", "hindrance", defArgs s_hindrance, defBody s_hindrance, defScope s_hindrance, [], []⟩
abbrev s_add_hindrance : Stmt := top 39
theorem sc_add_hindrance : FnScope ["columns", "namesake", "change"] ["columns", "namesake", "change"] (defScope s_add_hindrance) := ⟨rfl, rfl, rfl, by decide +kernel, rfl, by decide +kernel, by decide +kernel⟩
def d_add_hindrance : He.DefD := ⟨("add_hindrance", none), "add_hindrance", "add_hindrance", defArgs s_add_hindrance, defBody s_add_hindrance, defScope s_add_hindrance, [], []⟩
abbrev s_columns_behind : Stmt := top 40
theorem sc_columns_behind : FnScope ["columns", "change", "number", "kind", "name", "column"] ["columns", "change", "number"] (defScope s_columns_behind) := ⟨rfl, rfl, rfl, by decide +kernel, rfl, by decide +kernel, by decide +kernel⟩
def d_columns_behind : He.DefD := ⟨("columns_behind", none), "columns_behind", "columns_behind", defArgs s_columns_behind, defBody s_columns_behind, defScope s_columns_behind, [], []⟩
abbrev s_changed_column : Stmt := top 41
theorem sc_changed_column : FnScope ["column", "change", "kind", "default"] ["column", "change"] (defScope s_changed_column) := ⟨rfl, rfl, rfl, by decide +kernel, rfl, by decide +kernel, by decide +kernel⟩
def d_changed_column : He.DefD := ⟨("changed_column", none), "changed_column", "changed_column", defArgs s_changed_column, defBody s_changed_column, defScope s_changed_column, [], []⟩
abbrev s_changed_value : Stmt := top 42
theorem sc_changed_value : FnScope ["column", "change", "value"] ["column", "change", "value"] (defScope s_changed_value) := ⟨rfl, rfl, rfl, by decide +kernel, rfl, by decide +kernel, by decide +kernel⟩
def d_changed_value : He.DefD := ⟨("changed_value", none), "changed_value", "changed_value", defArgs s_changed_value, defBody s_changed_value, defScope s_changed_value, [], []⟩
abbrev s_value_above : Stmt := top 43
theorem sc_value_above : FnScope ["change"] ["change"] (defScope s_value_above) := ⟨rfl, rfl, rfl, by decide +kernel, rfl, by decide +kernel, by decide +kernel⟩
def d_value_above : He.DefD := ⟨("value_above", none), "value_above", "value_above", defArgs s_value_above, defBody s_value_above, defScope s_value_above, [], []⟩
abbrev s_is_edition : Stmt := top 46
theorem sc_is_edition : FnScope ["history", "value"] ["history", "value"] (defScope s_is_edition) := ⟨rfl, rfl, rfl, by decide +kernel, rfl, by decide +kernel, by decide +kernel⟩
def d_is_edition : He.DefD := ⟨("is_edition", none), "is_edition", "is_edition", defArgs s_is_edition, defBody s_is_edition, defScope s_is_edition, [], []⟩
abbrev s_edition_of : Stmt := top 47
theorem sc_edition_of : FnScope ["history", "edition"] ["history", "edition"] (defScope s_edition_of) := ⟨rfl, rfl, rfl, by decide +kernel, rfl, by decide +kernel, by decide +kernel⟩
def d_edition_of : He.DefD := ⟨("edition_of", none), "edition_of", "edition_of", defArgs s_edition_of, defBody s_edition_of, defScope s_edition_of, [], []⟩
abbrev s_numbered_columns : Stmt := top 48
theorem sc_numbered_columns : FnScope ["columns", "names", "index", "column"] ["columns"] (defScope s_numbered_columns) := ⟨rfl, rfl, rfl, by decide +kernel, rfl, by decide +kernel, by decide +kernel⟩
def d_numbered_columns : He.DefD := ⟨("numbered_columns", none), "numbered_columns", "numbered_columns", defArgs s_numbered_columns, defBody s_numbered_columns, defScope s_numbered_columns, [], []⟩
abbrev s_columns_of_editions : Stmt := top 49
theorem sc_columns_of_editions : FnScope ["first", "changes", "editions", "number", "index", "change", "columns"] ["first", "changes"] (defScope s_columns_of_editions) := ⟨rfl, rfl, rfl, by decide +kernel, rfl, by decide +kernel, by decide +kernel⟩
def d_columns_of_editions : He.DefD := ⟨("columns_of_editions", none), "columns_of_editions", "columns_of_editions", defArgs s_columns_of_editions, defBody s_columns_of_editions, defScope s_columns_of_editions, [], []⟩
abbrev s_births : Stmt := top 50
theorem sc_births : FnScope ["editions", "born", "edition", "columns", "column"] ["editions"] (defScope s_births) := ⟨rfl, rfl, rfl, by decide +kernel, rfl, by decide +kernel, by decide +kernel⟩
def d_births : He.DefD := ⟨("births", none), "births", "births", defArgs s_births, defBody s_births, defScope s_births, [], []⟩
abbrev s_drops : Stmt := top 51
theorem sc_drops : FnScope ["editions", "many", "dropped", "edition", "column"] ["editions", "many"] (defScope s_drops) := ⟨rfl, rfl, rfl, by decide +kernel, rfl, by decide +kernel, by decide +kernel⟩
def d_drops : He.DefD := ⟨("drops", none), "drops", "drops", defArgs s_drops, defBody s_drops, defScope s_drops, [], []⟩
abbrev s_History___init__ : Stmt := inClass (top 52) 0
theorem sc_History___init__ : FnScope ["self", "columns", "changes"] ["self", "columns", "changes"] (defScope s_History___init__) := ⟨rfl, rfl, rfl, by decide +kernel, rfl, by decide +kernel, by decide +kernel⟩
def d_History___init__ : He.DefD := ⟨("History", some "__init__"), "__init__", "History.__init__", defArgs s_History___init__, defBody s_History___init__, defScope s_History___init__, [(.adr (He.dflAt ("History", some "__init__") 0))], []⟩
abbrev s_History___eq__ : Stmt := inClass (top 52) 1
theorem sc_History___eq__ : FnScope ["self", "other"] ["self", "other"] (defScope s_History___eq__) := ⟨rfl, rfl, rfl, by decide +kernel, rfl, by decide +kernel, by decide +kernel⟩
def d_History___eq__ : He.DefD := ⟨("History", some "__eq__"), "__eq__", "History.__eq__", defArgs s_History___eq__, defBody s_History___eq__, defScope s_History___eq__, [], []⟩
abbrev s_History___len__ : Stmt := inClass (top 52) 2
theorem sc_History___len__ : FnScope ["self"] ["self"] (defScope s_History___len__) := ⟨rfl, rfl, rfl, by decide +kernel, rfl, by decide +kernel, by decide +kernel⟩
def d_History___len__ : He.DefD := ⟨("History", some "__len__"), "__len__", "History.__len__", defArgs s_History___len__, defBody s_History___len__, defScope s_History___len__, [], []⟩
abbrev s_History___getitem__ : Stmt := inClass (top 52) 3
theorem sc_History___getitem__ : FnScope ["self", "at"] ["self", "at"] (defScope s_History___getitem__) := ⟨rfl, rfl, rfl, by decide +kernel, rfl, by decide +kernel, by decide +kernel⟩
def d_History___getitem__ : He.DefD := ⟨("History", some "__getitem__"), "__getitem__", "History.__getitem__", defArgs s_History___getitem__, defBody s_History___getitem__, defScope s_History___getitem__, [], []⟩
abbrev s_History___iter__ : Stmt := inClass (top 52) 4
theorem sc_History___iter__ : FnScope ["self"] ["self"] (defScope s_History___iter__) := ⟨rfl, rfl, rfl, by decide +kernel, rfl, by decide +kernel, by decide +kernel⟩
def d_History___iter__ : He.DefD := ⟨("History", some "__iter__"), "__iter__", "History.__iter__", defArgs s_History___iter__, defBody s_History___iter__, defScope s_History___iter__, [], []⟩
abbrev s_History_first_columns : Stmt := inClass (top 52) 5
theorem sc_History_first_columns : FnScope ["self"] ["self"] (defScope s_History_first_columns) := ⟨rfl, rfl, rfl, by decide +kernel, rfl, by decide +kernel, by decide +kernel⟩
def d_History_first_columns : He.DefD := ⟨("History", some "first_columns"), "first_columns", "History.first_columns", defArgs s_History_first_columns, defBody s_History_first_columns, defScope s_History_first_columns, [], []⟩
abbrev s_History_columns : Stmt := inClass (top 52) 6
theorem sc_History_columns : FnScope ["self", "edition"] ["self", "edition"] (defScope s_History_columns) := ⟨rfl, rfl, rfl, by decide +kernel, rfl, by decide +kernel, by decide +kernel⟩
def d_History_columns : He.DefD := ⟨("History", some "columns"), "columns", "History.columns", defArgs s_History_columns, defBody s_History_columns, defScope s_History_columns, [.non], []⟩
abbrev s_History_changes_told : Stmt := inClass (top 52) 7
theorem sc_History_changes_told : FnScope ["self"] ["self"] (defScope s_History_changes_told) := ⟨rfl, rfl, rfl, by decide +kernel, rfl, by decide +kernel, by decide +kernel⟩
def d_History_changes_told : He.DefD := ⟨("History", some "changes_told"), "changes_told", "History.changes_told", defArgs s_History_changes_told, defBody s_History_changes_told, defScope s_History_changes_told, [], []⟩
abbrev s_History_column : Stmt := inClass (top 52) 8
theorem sc_History_column : FnScope ["self", "name", "edition", "found"] ["self", "name", "edition"] (defScope s_History_column) := ⟨rfl, rfl, rfl, by decide +kernel, rfl, by decide +kernel, by decide +kernel⟩
def d_History_column : He.DefD := ⟨("History", some "column"), "column", "History.column", defArgs s_History_column, defBody s_History_column, defScope s_History_column, [], [("edition", .non)]⟩
abbrev s_History_by_number : Stmt := inClass (top 52) 9
theorem sc_History_by_number : FnScope ["self", "number", "edition"] ["self", "number", "edition"] (defScope s_History_by_number) := ⟨rfl, rfl, rfl, by decide +kernel, rfl, by decide +kernel, by decide +kernel⟩
def d_History_by_number : He.DefD := ⟨("History", some "by_number"), "by_number", "History.by_number", defArgs s_History_by_number, defBody s_History_by_number, defScope s_History_by_number, [], [("edition", .non)]⟩
abbrev s_History_numbers : Stmt := inClass (top 52) 10
theorem sc_History_numbers : FnScope ["self"] ["self"] (defScope s_History_numbers) := ⟨rfl, rfl, rfl, by decide +kernel, rfl, by decide +kernel, by decide +kernel⟩
def d_History_numbers : He.DefD := ⟨("History", some "numbers"), "numbers", "History.numbers", defArgs s_History_numbers, defBody s_History_numbers, defScope s_History_numbers, [], []⟩
abbrev s_History_born : Stmt := inClass (top 52) 11
theorem sc_History_born : FnScope ["self", "number"] ["self", "number"] (defScope s_History_born) := ⟨rfl, rfl, rfl, by decide +kernel, rfl, by decide +kernel, by decide +kernel⟩
def d_History_born : He.DefD := ⟨("History", some "born"), "born", "History.born", defArgs s_History_born, defBody s_History_born, defScope s_History_born, [], []⟩
abbrev s_History_dropped : Stmt := inClass (top 52) 12
theorem sc_History_dropped : FnScope ["self", "number"] ["self", "number"] (defScope s_History_dropped) := ⟨rfl, rfl, rfl, by decide +kernel, rfl, by decide +kernel, by decide +kernel⟩
def d_History_dropped : He.DefD := ⟨("History", some "dropped"), "dropped", "History.dropped", defArgs s_History_dropped, defBody s_History_dropped, defScope s_History_dropped, [], []⟩
abbrev s_History_then : Stmt := inClass (top 52) 13
theorem sc_History_then : FnScope ["self", "change"] ["self", "change"] (defScope s_History_then) := ⟨rfl, rfl, rfl, by decide +kernel, rfl, by decide +kernel, by decide +kernel⟩
def d_History_then : He.DefD := ⟨("History", some "then"), "then", "History.then", defArgs s_History_then, defBody s_History_then, defScope s_History_then, [], []⟩
abbrev s_History_back : Stmt := inClass (top 52) 14
theorem sc_History_back : FnScope ["self"] ["self"] (defScope s_History_back) := ⟨rfl, rfl, rfl, by decide +kernel, rfl, by decide +kernel, by decide +kernel⟩
def d_History_back : He.DefD := ⟨("History", some "back"), "back", "History.back", defArgs s_History_back, defBody s_History_back, defScope s_History_back, [], []⟩
abbrev s_History_up_to : Stmt := inClass (top 52) 15
theorem sc_History_up_to : FnScope ["self", "edition"] ["self", "edition"] (defScope s_History_up_to) := ⟨rfl, rfl, rfl, by decide +kernel, rfl, by decide +kernel, by decide +kernel⟩
def d_History_up_to : He.DefD := ⟨("History", some "up_to"), "up_to", "History.up_to", defArgs s_History_up_to, defBody s_History_up_to, defScope s_History_up_to, [], []⟩
abbrev s_History_behind : Stmt := inClass (top 52) 16
theorem sc_History_behind : FnScope ["self", "edition"] ["self", "edition"] (defScope s_History_behind) := ⟨rfl, rfl, rfl, by decide +kernel, rfl, by decide +kernel, by decide +kernel⟩
def d_History_behind : He.DefD := ⟨("History", some "behind"), "behind", "History.behind", defArgs s_History_behind, defBody s_History_behind, defScope s_History_behind, [], []⟩
abbrev s_is_given : Stmt := top 53
theorem sc_is_given : FnScope ["history", "value"] ["history", "value"] (defScope s_is_given) := ⟨rfl, rfl, rfl, by decide +kernel, rfl, by decide +kernel, by decide +kernel⟩
def d_is_given : He.DefD := ⟨("is_given", none), "is_given", "is_given", defArgs s_is_given, defBody s_is_given, defScope s_is_given, [], []⟩
abbrev s_is_argument : Stmt := top 55
theorem sc_is_argument : FnScope ["value"] ["value"] (defScope s_is_argument) := ⟨rfl, rfl, rfl, by decide +kernel, rfl, by decide +kernel, by decide +kernel⟩
def d_is_argument : He.DefD := ⟨("is_argument", none), "is_argument", "is_argument", defArgs s_is_argument, defBody s_is_argument, defScope s_is_argument, [], []⟩
abbrev s_Map___init__ : Stmt := inClass (top 56) 0
theorem sc_Map___init__ : FnScope ["self", "pairs", "argument", "value"] ["self", "pairs"] (defScope s_Map___init__) := ⟨rfl, rfl, rfl, by decide +kernel, rfl, by decide +kernel, by decide +kernel⟩
def d_Map___init__ : He.DefD := ⟨("Map", some "__init__"), "__init__", "Map.__init__", defArgs s_Map___init__, defBody s_Map___init__, defScope s_Map___init__, [], []⟩
abbrev s_Map___call__ : Stmt := inClass (top 56) 1
theorem sc_Map___call__ : FnScope ["self", "argument"] ["self", "argument"] (defScope s_Map___call__) := ⟨rfl, rfl, rfl, by decide +kernel, rfl, by decide +kernel, by decide +kernel⟩
def d_Map___call__ : He.DefD := ⟨("Map", some "__call__"), "__call__", "Map.__call__", defArgs s_Map___call__, defBody s_Map___call__, defScope s_Map___call__, [], []⟩
abbrev s_Map___getitem__ : Stmt := inClass (top 56) 2
theorem sc_Map___getitem__ : FnScope ["self", "at"] ["self", "at"] (defScope s_Map___getitem__) := ⟨rfl, rfl, rfl, by decide +kernel, rfl, by decide +kernel, by decide +kernel⟩
def d_Map___getitem__ : He.DefD := ⟨("Map", some "__getitem__"), "__getitem__", "Map.__getitem__", defArgs s_Map___getitem__, defBody s_Map___getitem__, defScope s_Map___getitem__, [], []⟩
abbrev s_Map___contains__ : Stmt := inClass (top 56) 3
theorem sc_Map___contains__ : FnScope ["self", "x"] ["self", "x"] (defScope s_Map___contains__) := ⟨rfl, rfl, rfl, by decide +kernel, rfl, by decide +kernel, by decide +kernel⟩
def d_Map___contains__ : He.DefD := ⟨("Map", some "__contains__"), "__contains__", "Map.__contains__", defArgs s_Map___contains__, defBody s_Map___contains__, defScope s_Map___contains__, [], []⟩
abbrev s_Map___len__ : Stmt := inClass (top 56) 4
theorem sc_Map___len__ : FnScope ["self"] ["self"] (defScope s_Map___len__) := ⟨rfl, rfl, rfl, by decide +kernel, rfl, by decide +kernel, by decide +kernel⟩
def d_Map___len__ : He.DefD := ⟨("Map", some "__len__"), "__len__", "Map.__len__", defArgs s_Map___len__, defBody s_Map___len__, defScope s_Map___len__, [], []⟩
abbrev s_Map___iter__ : Stmt := inClass (top 56) 5
theorem sc_Map___iter__ : FnScope ["self"] ["self"] (defScope s_Map___iter__) := ⟨rfl, rfl, rfl, by decide +kernel, rfl, by decide +kernel, by decide +kernel⟩
def d_Map___iter__ : He.DefD := ⟨("Map", some "__iter__"), "__iter__", "Map.__iter__", defArgs s_Map___iter__, defBody s_Map___iter__, defScope s_Map___iter__, [], []⟩
abbrev s_Map___eq__ : Stmt := inClass (top 56) 6
theorem sc_Map___eq__ : FnScope ["self", "other"] ["self", "other"] (defScope s_Map___eq__) := ⟨rfl, rfl, rfl, by decide +kernel, rfl, by decide +kernel, by decide +kernel⟩
def d_Map___eq__ : He.DefD := ⟨("Map", some "__eq__"), "__eq__", "Map.__eq__", defArgs s_Map___eq__, defBody s_Map___eq__, defScope s_Map___eq__, [], []⟩
abbrev s_Map___le__ : Stmt := inClass (top 56) 7
theorem sc_Map___le__ : FnScope ["self", "other", "argument", "value"] ["self", "other"] (defScope s_Map___le__) := ⟨rfl, rfl, rfl, by decide +kernel, rfl, by decide +kernel, by decide +kernel⟩
def d_Map___le__ : He.DefD := ⟨("Map", some "__le__"), "__le__", "Map.__le__", defArgs s_Map___le__, defBody s_Map___le__, defScope s_Map___le__, [], []⟩
abbrev s_Map___or__ : Stmt := inClass (top 56) 8
theorem sc_Map___or__ : FnScope ["self", "other"] ["self", "other"] (defScope s_Map___or__) := ⟨rfl, rfl, rfl, by decide +kernel, rfl, by decide +kernel, by decide +kernel⟩
def d_Map___or__ : He.DefD := ⟨("Map", some "__or__"), "__or__", "Map.__or__", defArgs s_Map___or__, defBody s_Map___or__, defScope s_Map___or__, [], []⟩
abbrev s_Map__led : Stmt := inClass (top 56) 9
theorem sc_Map__led : FnScope ["self", "argument"] ["self", "argument"] (defScope s_Map__led) := ⟨rfl, rfl, rfl, by decide +kernel, rfl, by decide +kernel, by decide +kernel⟩
def d_Map__led : He.DefD := ⟨("Map", some "_led"), "_led", "Map._led", defArgs s_Map__led, defBody s_Map__led, defScope s_Map__led, [], []⟩
abbrev s_Map_arguments : Stmt := inClass (top 56) 10
theorem sc_Map_arguments : FnScope ["self"] ["self"] (defScope s_Map_arguments) := ⟨rfl, rfl, rfl, by decide +kernel, rfl, by decide +kernel, by decide +kernel⟩
def d_Map_arguments : He.DefD := ⟨("Map", some "arguments"), "arguments", "Map.arguments", defArgs s_Map_arguments, defBody s_Map_arguments, defScope s_Map_arguments, [], []⟩
abbrev s_Map_agrees : Stmt := inClass (top 56) 11
theorem sc_Map_agrees : FnScope ["self", "other", "argument", "value"] ["self", "other"] (defScope s_Map_agrees) := ⟨rfl, rfl, rfl, by decide +kernel, rfl, by decide +kernel, by decide +kernel⟩
def d_Map_agrees : He.DefD := ⟨("Map", some "agrees"), "agrees", "Map.agrees", defArgs s_Map_agrees, defBody s_Map_agrees, defScope s_Map_agrees, [], []⟩
abbrev s_Map_then : Stmt := inClass (top 56) 12
theorem sc_Map_then : FnScope ["self", "other"] ["self", "other"] (defScope s_Map_then) := ⟨rfl, rfl, rfl, by decide +kernel, rfl, by decide +kernel, by decide +kernel⟩
def d_Map_then : He.DefD := ⟨("Map", some "then"), "then", "Map.then", defArgs s_Map_then, defBody s_Map_then, defScope s_Map_then, [], []⟩
abbrev s_changes_of : Stmt := top 57
theorem sc_changes_of : FnScope ["history", "number", "edition", "found", "at", "change", "column"] ["history", "number", "edition"] (defScope s_changes_of) := ⟨rfl, rfl, rfl, by decide +kernel, rfl, by decide +kernel, by decide +kernel⟩
def d_changes_of : He.DefD := ⟨("changes_of", none), "changes_of", "changes_of", defArgs s_changes_of, defBody s_changes_of, defScope s_changes_of, [], []⟩
abbrev s_led_value : Stmt := top 58
theorem sc_led_value : FnScope ["steps", "value", "led", "column", "change"] ["steps", "value"] (defScope s_led_value) := ⟨rfl, rfl, rfl, by decide +kernel, rfl, by decide +kernel, by decide +kernel⟩
def d_led_value : He.DefD := ⟨("led_value", none), "led_value", "led_value", defArgs s_led_value, defBody s_led_value, defScope s_led_value, [], []⟩
abbrev s_led_pairs : Stmt := top 59
theorem sc_led_pairs : FnScope ["history", "number", "edition", "born", "starts", "steps", "value", "pairs", "argument", "led"] ["history", "number", "edition"] (defScope s_led_pairs) := ⟨rfl, rfl, rfl, by decide +kernel, rfl, by decide +kernel, by decide +kernel⟩
def d_led_pairs : He.DefD := ⟨("led_pairs", none), "led_pairs", "led_pairs", defArgs s_led_pairs, defBody s_led_pairs, defScope s_led_pairs, [], []⟩
abbrev s_is_dead : Stmt := top 60
theorem sc_is_dead : FnScope ["history", "edition", "at", "later", "number"] ["history", "edition"] (defScope s_is_dead) := ⟨rfl, rfl, rfl, by decide +kernel, rfl, by decide +kernel, by decide +kernel⟩
def d_is_dead : He.DefD := ⟨("is_dead", none), "is_dead", "is_dead", defArgs s_is_dead, defBody s_is_dead, defScope s_is_dead, [], []⟩
abbrev s_map_of : Stmt := top 61
theorem sc_map_of : FnScope ["history", "edition", "number", "at"] ["history", "edition", "number"] (defScope s_map_of) := ⟨rfl, rfl, rfl, by decide +kernel, rfl, by decide +kernel, by decide +kernel⟩
def d_map_of : He.DefD := ⟨("map_of", none), "map_of", "map_of", defArgs s_map_of, defBody s_map_of, defScope s_map_of, [], []⟩
abbrev s_maps_of : Stmt := top 62
theorem sc_maps_of : FnScope ["history", "edition", "at", "column"] ["history", "edition"] (defScope s_maps_of) := ⟨rfl, rfl, rfl, by decide +kernel, rfl, by decide +kernel, by decide +kernel⟩
def d_maps_of : He.DefD := ⟨("maps_of", none), "maps_of", "maps_of", defArgs s_maps_of, defBody s_maps_of, defScope s_maps_of, [], []⟩
abbrev s_check_edition : Stmt := top 64
theorem sc_check_edition : FnScope ["history", "edition"] ["history", "edition"] (defScope s_check_edition) := ⟨rfl, rfl, rfl, by decide +kernel, rfl, by decide +kernel, by decide +kernel⟩
def d_check_edition : He.DefD := ⟨("check_edition", none), "check_edition", "check_edition", defArgs s_check_edition, defBody s_check_edition, defScope s_check_edition, [], []⟩
abbrev s_check_editions : Stmt := top 65
theorem sc_check_editions : FnScope ["history", "editions", "edition"] ["history", "editions"] (defScope s_check_editions) := ⟨rfl, rfl, rfl, by decide +kernel, rfl, by decide +kernel, by decide +kernel⟩
def d_check_editions : He.DefD := ⟨("check_editions", none), "check_editions", "check_editions", defArgs s_check_editions, defBody s_check_editions, defScope s_check_editions, [], []⟩
abbrev s_differing_arguments : Stmt := top 66
theorem sc_differing_arguments : FnScope ["one", "other", "argument"] ["one", "other"] (defScope s_differing_arguments) := ⟨rfl, rfl, rfl, by decide +kernel, rfl, by decide +kernel, by decide +kernel⟩
def d_differing_arguments : He.DefD := ⟨("differing_arguments", none), "differing_arguments", "differing_arguments", defArgs s_differing_arguments, defBody s_differing_arguments, defScope s_differing_arguments, [], []⟩
abbrev s_parting_argument : Stmt := top 67
theorem sc_parting_argument : FnScope ["history", "one", "other", "others", "number", "found", "differing"] ["history", "one", "other"] (defScope s_parting_argument) := ⟨rfl, rfl, rfl, by decide +kernel, rfl, by decide +kernel, by decide +kernel⟩
def d_parting_argument : He.DefD := ⟨("parting_argument", none), "parting_argument", "parting_argument", defArgs s_parting_argument, defBody s_parting_argument, defScope s_parting_argument, [], []⟩
abbrev s_go_together : Stmt := top 68
theorem sc_go_together : FnScope ["history", "one", "other"] ["history", "one", "other"] (defScope s_go_together) := ⟨rfl, rfl, rfl, by decide +kernel, rfl, by decide +kernel, by decide +kernel⟩
def d_go_together : He.DefD := ⟨("go_together", none), "go_together", "go_together", defArgs s_go_together, defBody s_go_together, defScope s_go_together, [], []⟩
abbrev s__law_pool : Stmt := top 70
theorem sc__law_pool : FnScope ["_law_script", "_law_k", "_law_cell", "_law_size", "_law_mixed"] ["_law_script", "_law_k"] (defScope s__law_pool) := ⟨rfl, rfl, rfl, by decide +kernel, rfl, by decide +kernel, by decide +kernel⟩
def d__law_pool : He.DefD := ⟨("_law_pool", none), "_law_pool", "_law_pool", defArgs s__law_pool, defBody s__law_pool, defScope s__law_pool, [], []⟩
abbrev s__law_draw : Stmt := top 71
theorem sc__law_draw : FnScope ["_law_pool_here", "_law_many", "_law_found"] ["_law_pool_here", "_law_many"] (defScope s__law_draw) := ⟨rfl, rfl, rfl, by decide +kernel, rfl, by decide +kernel, by decide +kernel⟩
def d__law_draw : He.DefD := ⟨("_law_draw", none), "_law_draw", "_law_draw", defArgs s__law_draw, defBody s__law_draw, defScope s__law_draw, [], []⟩
abbrev s__law_pick : Stmt := top 72
theorem sc__law_pick : FnScope ["_law_pool_here", "_law_row"] ["_law_pool_here", "_law_row"] (defScope s__law_pick) := ⟨rfl, rfl, rfl, by decide +kernel, rfl, by decide +kernel, by decide +kernel⟩
def d__law_pick : He.DefD := ⟨("_law_pick", none), "_law_pick", "_law_pick", defArgs s__law_pick, defBody s__law_pick, defScope s__law_pick, [], []⟩
abbrev s__law_names : Stmt := top 73
theorem sc__law_names : FnScope ["_law_pool_here", "_law_count", "_law_signs", "_law_origin", "_law_step", "_law_ends", "_law_head", "_law_tail", "_law_k"] ["_law_pool_here", "_law_count"] (defScope s__law_names) := ⟨rfl, rfl, rfl, by decide +kernel, rfl, by decide +kernel, by decide +kernel⟩
def d__law_names : He.DefD := ⟨("_law_names", none), "_law_names", "_law_names", defArgs s__law_names, defBody s__law_names, defScope s__law_names, [], []⟩
abbrev s__law_columns : Stmt := top 74
theorem sc__law_columns : FnScope ["_law_pool_here", "_law_most", "_law_top", "_law_words", "_law_found", "_law_at", "_law_g"] ["_law_pool_here", "_law_most", "_law_top"] (defScope s__law_columns) := ⟨rfl, rfl, rfl, by decide +kernel, rfl, by decide +kernel, by decide +kernel⟩
def d__law_columns : He.DefD := ⟨("_law_columns", none), "_law_columns", "_law_columns", defArgs s__law_columns, defBody s__law_columns, defScope s__law_columns, [], []⟩
abbrev s__law_some : Stmt := top 75
theorem sc__law_some : FnScope ["_law_pool_here", "_law_g", "_law_place"] ["_law_pool_here", "_law_g"] (defScope s__law_some) := ⟨rfl, rfl, rfl, by decide +kernel, rfl, by decide +kernel, by decide +kernel⟩
def d__law_some : He.DefD := ⟨("_law_some", none), "_law_some", "_law_some", defArgs s__law_some, defBody s__law_some, defScope s__law_some, [], []⟩
abbrev s__law_fits : Stmt := top 76
theorem sc__law_fits : FnScope ["_law_value", "_law_g"] ["_law_value", "_law_g"] (defScope s__law_fits) := ⟨rfl, rfl, rfl, by decide +kernel, rfl, by decide +kernel, by decide +kernel⟩
def d__law_fits : He.DefD := ⟨("_law_fits", none), "_law_fits", "_law_fits", defArgs s__law_fits, defBody s__law_fits, defScope s__law_fits, [], []⟩
abbrev s__law_column : Stmt := top 77
theorem sc__law_column : FnScope ["_law_cols", "_law_name", "_law_found", "_law_col"] ["_law_cols", "_law_name"] (defScope s__law_column) := ⟨rfl, rfl, rfl, by decide +kernel, rfl, by decide +kernel, by decide +kernel⟩
def d__law_column : He.DefD := ⟨("_law_column", none), "_law_column", "_law_column", defArgs s__law_column, defBody s__law_column, defScope s__law_column, [], []⟩
abbrev s__law_narrow : Stmt := top 78
theorem sc__law_narrow : FnScope ["_law_value", "_law_g", "_law_way"] ["_law_value", "_law_g", "_law_way"] (defScope s__law_narrow) := ⟨rfl, rfl, rfl, by decide +kernel, rfl, by decide +kernel, by decide +kernel⟩
def d__law_narrow : He.DefD := ⟨("_law_narrow", none), "_law_narrow", "_law_narrow", defArgs s__law_narrow, defBody s__law_narrow, defScope s__law_narrow, [], []⟩
abbrev s__law_col_after : Stmt := top 79
theorem sc__law_col_after : FnScope ["_law_col", "_law_change_here", "_law_found"] ["_law_col", "_law_change_here"] (defScope s__law_col_after) := ⟨rfl, rfl, rfl, by decide +kernel, rfl, by decide +kernel, by decide +kernel⟩
def d__law_col_after : He.DefD := ⟨("_law_col_after", none), "_law_col_after", "_law_col_after", defArgs s__law_col_after, defBody s__law_col_after, defScope s__law_col_after, [], []⟩
abbrev s__law_sheet_after : Stmt := top 80
theorem sc__law_sheet_after : FnScope ["_law_cols", "_law_change_here", "_law_count", "_law_found", "_law_col"] ["_law_cols", "_law_change_here", "_law_count"] (defScope s__law_sheet_after) := ⟨rfl, rfl, rfl, by decide +kernel, rfl, by decide +kernel, by decide +kernel⟩
def d__law_sheet_after : He.DefD := ⟨("_law_sheet_after", none), "_law_sheet_after", "_law_sheet_after", defArgs s__law_sheet_after, defBody s__law_sheet_after, defScope s__law_sheet_after, [], []⟩
abbrev s__law_change : Stmt := top 81
theorem sc__law_change : FnScope ["_law_pool_here", "_law_cols", "_law_words", "_law_top", "_law_kind", "_law_col", "_law_g", "_law_free", "_law_way", "_law_word"] ["_law_pool_here", "_law_cols", "_law_words", "_law_top"] (defScope s__law_change) := ⟨rfl, rfl, rfl, by decide +kernel, rfl, by decide +kernel, by decide +kernel⟩
def d__law_change : He.DefD := ⟨("_law_change", none), "_law_change", "_law_change", defArgs s__law_change, defBody s__law_change, defScope s__law_change, [], []⟩
abbrev s__law_history : Stmt := top 82
theorem sc__law_history : FnScope ["_law_pool_here", "_law_most", "_law_top", "_law_many", "_law_cols", "_law_words", "_law_h", "_law_turn"] ["_law_pool_here", "_law_most", "_law_top", "_law_many"] (defScope s__law_history) := ⟨rfl, rfl, rfl, by decide +kernel, rfl, by decide +kernel, by decide +kernel⟩
def d__law_history : He.DefD := ⟨("_law_history", none), "_law_history", "_law_history", defArgs s__law_history, defBody s__law_history, defScope s__law_history, [], []⟩
abbrev s__law_longer : Stmt := top 83
theorem sc__law_longer : FnScope ["_law_h", "_law_change_here", "_law_found"] ["_law_h", "_law_change_here"] (defScope s__law_longer) := ⟨rfl, rfl, rfl, by decide +kernel, rfl, by decide +kernel, by decide +kernel⟩
def d__law_longer : He.DefD := ⟨("_law_longer", none), "_law_longer", "_law_longer", defArgs s__law_longer, defBody s__law_longer, defScope s__law_longer, [], []⟩
abbrev s__law_made_column : Stmt := top 84
theorem sc__law_made_column : FnScope ["_law_col"] ["_law_col"] (defScope s__law_made_column) := ⟨rfl, rfl, rfl, by decide +kernel, rfl, by decide +kernel, by decide +kernel⟩
def d__law_made_column : He.DefD := ⟨("_law_made_column", none), "_law_made_column", "_law_made_column", defArgs s__law_made_column, defBody s__law_made_column, defScope s__law_made_column, [], []⟩
abbrev s__law_made : Stmt := top 85
theorem sc__law_made : FnScope ["_law_h", "_law_col"] ["_law_h"] (defScope s__law_made) := ⟨rfl, rfl, rfl, by decide +kernel, rfl, by decide +kernel, by decide +kernel⟩
def d__law_made : He.DefD := ⟨("_law_made", none), "_law_made", "_law_made", defArgs s__law_made, defBody s__law_made, defScope s__law_made, [], []⟩
abbrev s__law_rank : Stmt := top 86
theorem sc__law_rank : FnScope ["_law_value"] ["_law_value"] (defScope s__law_rank) := ⟨rfl, rfl, rfl, by decide +kernel, rfl, by decide +kernel, by decide +kernel⟩
def d__law_rank : He.DefD := ⟨("_law_rank", none), "_law_rank", "_law_rank", defArgs s__law_rank, defBody s__law_rank, defScope s__law_rank, [], []⟩
abbrev s__law_ordered : Stmt := top 87
theorem sc__law_ordered : FnScope ["_law_values", "_law_known", "_law_place", "_law_value"] ["_law_values"] (defScope s__law_ordered) := ⟨rfl, rfl, rfl, by decide +kernel, rfl, by decide +kernel, by decide +kernel⟩
def d__law_ordered : He.DefD := ⟨("_law_ordered", none), "_law_ordered", "_law_ordered", defArgs s__law_ordered, defBody s__law_ordered, defScope s__law_ordered, [], []⟩
abbrev s__law_numbers : Stmt := top 88
theorem sc__law_numbers : FnScope ["_law_h", "_law_col"] ["_law_h"] (defScope s__law_numbers) := ⟨rfl, rfl, rfl, by decide +kernel, rfl, by decide +kernel, by decide +kernel⟩
def d__law_numbers : He.DefD := ⟨("_law_numbers", none), "_law_numbers", "_law_numbers", defArgs s__law_numbers, defBody s__law_numbers, defScope s__law_numbers, [], []⟩
abbrev s__law_col_n : Stmt := top 89
theorem sc__law_col_n : FnScope ["_law_h", "_law_at", "_law_n", "_law_found", "_law_col"] ["_law_h", "_law_at", "_law_n"] (defScope s__law_col_n) := ⟨rfl, rfl, rfl, by decide +kernel, rfl, by decide +kernel, by decide +kernel⟩
def d__law_col_n : He.DefD := ⟨("_law_col_n", none), "_law_col_n", "_law_col_n", defArgs s__law_col_n, defBody s__law_col_n, defScope s__law_col_n, [], []⟩
abbrev s__law_pass : Stmt := top 90
theorem sc__law_pass : FnScope ["_law_h", "_law_n", "_law_at", "_law_value", "_law_turn", "_law_col", "_law_change_here"] ["_law_h", "_law_n", "_law_at", "_law_value"] (defScope s__law_pass) := ⟨rfl, rfl, rfl, by decide +kernel, rfl, by decide +kernel, by decide +kernel⟩
def d__law_pass : He.DefD := ⟨("_law_pass", none), "_law_pass", "_law_pass", defArgs s__law_pass, defBody s__law_pass, defScope s__law_pass, [], []⟩
abbrev s__law_born : Stmt := top 91
theorem sc__law_born : FnScope ["_law_h", "_law_n", "_law_at"] ["_law_h", "_law_n"] (defScope s__law_born) := ⟨rfl, rfl, rfl, by decide +kernel, rfl, by decide +kernel, by decide +kernel⟩
def d__law_born : He.DefD := ⟨("_law_born", none), "_law_born", "_law_born", defArgs s__law_born, defBody s__law_born, defScope s__law_born, [], []⟩
abbrev s__law_missing_value : Stmt := top 92
theorem sc__law_missing_value : FnScope ["_law_h", "_law_n", "_law_at"] ["_law_h", "_law_n"] (defScope s__law_missing_value) := ⟨rfl, rfl, rfl, by decide +kernel, rfl, by decide +kernel, by decide +kernel⟩
def d__law_missing_value : He.DefD := ⟨("_law_missing_value", none), "_law_missing_value", "_law_missing_value", defArgs s__law_missing_value, defBody s__law_missing_value, defScope s__law_missing_value, [], []⟩
abbrev s__law_map_of : Stmt := top 93
theorem sc__law_map_of : FnScope ["_law_h", "_law_edition", "_law_n", "_law_value", "_law_found", "_law_col", "_law_later"] ["_law_h", "_law_edition", "_law_n"] (defScope s__law_map_of) := ⟨rfl, rfl, rfl, by decide +kernel, rfl, by decide +kernel, by decide +kernel⟩
def d__law_map_of : He.DefD := ⟨("_law_map_of", none), "_law_map_of", "_law_map_of", defArgs s__law_map_of, defBody s__law_map_of, defScope s__law_map_of, [], []⟩
abbrev s__law_dead : Stmt := top 94
theorem sc__law_dead : FnScope ["_law_h", "_law_edition", "_law_n"] ["_law_h", "_law_edition"] (defScope s__law_dead) := ⟨rfl, rfl, rfl, by decide +kernel, rfl, by decide +kernel, by decide +kernel⟩
def d__law_dead : He.DefD := ⟨("_law_dead", none), "_law_dead", "_law_dead", defArgs s__law_dead, defBody s__law_dead, defScope s__law_dead, [], []⟩
abbrev s__law_maps : Stmt := top 95
theorem sc__law_maps : FnScope ["_law_h", "_law_edition", "_law_n"] ["_law_h", "_law_edition"] (defScope s__law_maps) := ⟨rfl, rfl, rfl, by decide +kernel, rfl, by decide +kernel, by decide +kernel⟩
def d__law_maps : He.DefD := ⟨("_law_maps", none), "_law_maps", "_law_maps", defArgs s__law_maps, defBody s__law_maps, defScope s__law_maps, [], []⟩
abbrev s__law_parting : Stmt := top 96
theorem sc__law_parting : FnScope ["_law_mine", "_law_theirs", "_law_n", "_law_argument", "_law_one"] ["_law_mine", "_law_theirs"] (defScope s__law_parting) := ⟨rfl, rfl, rfl, by decide +kernel, rfl, by decide +kernel, by decide +kernel⟩
def d__law_parting : He.DefD := ⟨("_law_parting", none), "_law_parting", "_law_parting", defArgs s__law_parting, defBody s__law_parting, defScope s__law_parting, [], []⟩
abbrev s__law_tables : Stmt := top 97
theorem sc__law_tables : FnScope ["_law_h", "_law_at"] ["_law_h"] (defScope s__law_tables) := ⟨rfl, rfl, rfl, by decide +kernel, rfl, by decide +kernel, by decide +kernel⟩
def d__law_tables : He.DefD := ⟨("_law_tables", none), "_law_tables", "_law_tables", defArgs s__law_tables, defBody s__law_tables, defScope s__law_tables, [], []⟩
abbrev s__law_refused : Stmt := top 98
theorem sc__law_refused : FnScope ["_law_way", "_law_history_here", "_law_one", "_law_other", "_law_told", "e"] ["_law_way", "_law_history_here", "_law_one", "_law_other"] (defScope s__law_refused) := ⟨rfl, rfl, rfl, by decide +kernel, rfl, by decide +kernel, by decide +kernel⟩
def d__law_refused : He.DefD := ⟨("_law_refused", none), "_law_refused", "_law_refused", defArgs s__law_refused, defBody s__law_refused, defScope s__law_refused, [], []⟩
abbrev s_law : Stmt := top 99
theorem sc_law : FnScope ["_law_script", "_law_k", "_law_pool_here", "_law_h", "_law_history_here", "_law_tables_here", "_law_one", "_law_other", "_law_dead_here", "_law_part", "_law_odd", "_law_way"] ["_law_script"] (defScope s_law) := ⟨rfl, rfl, rfl, by decide +kernel, rfl, by decide +kernel, by decide +kernel⟩
def d_law : He.DefD := ⟨("law", none), "law", "law", defArgs s_law, defBody s_law, defScope s_law, [], []⟩
def fn0 : List He.DefD := [d_BadEdition___init__, d_is_whole, d_is_list, d_is_word, d_is_name, d_is_greatest, d_is_value, d_is_within, d_is_missing, d_values_to, d_in_order, d_Column___init__, d_Column___eq__, d_Column___contains__, d_Column_all_values, d_Column_changed, d_column_named, d_column_numbered, d_is_change, d_has_parts, d_is_single_part, d_is_way, d_kind_of, d_hindrance, d_add_hindrance, d_columns_behind, d_changed_column, d_changed_value, d_value_above, d_is_edition, d_edition_of, d_numbered_columns, d_columns_of_editions, d_births, d_drops, d_History___init__, d_History___len__, d_History___getitem__, d_History_columns, d_History_column, d_History_by_number, d_History_numbers, d_History_born, d_History_dropped, d_History_behind, d_is_given, d_is_argument, d_Map___init__, d_Map___call__, d_Map___contains__, d_Map___len__, d_Map___eq__, d_Map__led, d_Map_arguments, d_changes_of, d_led_value, d_led_pairs, d_is_dead, d_map_of, d_maps_of, d_check_edition, d_check_editions, d_differing_arguments, d_parting_argument, d_go_together, d__law_pool, d__law_draw, d__law_pick, d__law_names, d__law_columns, d__law_some, d__law_fits, d__law_column, d__law_narrow, d__law_col_after, d__law_sheet_after, d__law_change, d__law_history, d__law_longer, d__law_made_column, d__law_made, d__law_rank, d__law_ordered, d__law_numbers, d__law_col_n, d__law_pass, d__law_born, d__law_missing_value, d__law_map_of, d__law_dead, d__law_maps, d__law_parting, d__law_tables, d__law_refused, d_law]
def fa0 : List He.Fa := [.glo "is_whole", .glo "is_list", .glo "is_word", .glo "is_name", .glo "is_greatest", .glo "is_value", .glo "is_within", .glo "is_missing", .glo "values_to", .glo "in_order", .glo "column_named", .glo "column_numbered", .glo "is_change", .glo "has_parts", .glo "is_single_part", .glo "is_way", .glo "kind_of", .glo "hindrance", .glo "add_hindrance", .glo "columns_behind", .glo "changed_column", .glo "changed_value", .glo "value_above", .glo "is_edition", .glo "edition_of", .glo "numbered_columns", .glo "columns_of_editions", .glo "births", .glo "drops", .glo "is_given", .glo "is_argument", .glo "changes_of", .glo "led_value", .glo "led_pairs", .glo "is_dead", .glo "map_of", .glo "maps_of", .glo "check_edition", .glo "check_editions", .glo "differing_arguments", .glo "parting_argument", .glo "go_together", .glo "_law_pool", .glo "_law_draw", .glo "_law_pick", .glo "_law_names", .glo "_law_columns", .glo "_law_some", .glo "_law_fits", .glo "_law_column", .glo "_law_narrow", .glo "_law_col_after", .glo "_law_sheet_after", .glo "_law_change", .glo "_law_history", .glo "_law_longer", .glo "_law_made_column", .glo "_law_made", .glo "_law_rank", .glo "_law_ordered", .glo "_law_numbers", .glo "_law_col_n", .glo "_law_pass", .glo "_law_born", .glo "_law_missing_value", .glo "_law_map_of", .glo "_law_dead", .glo "_law_maps", .glo "_law_parting", .glo "_law_tables", .glo "_law_refused", .glo "law", .glo "BadEdition", .glo "Column", .cls "Column", .mkr "Column", .noat "Column" "name", .noat "Column" "greatest", .noat "Column" "default", .noat "Column" "number", .meth "Column" "all_values", .meth "Column" "changed", .glo "History", .cls "History", .mkr "History", .noat "History" "_editions", .noat "History" "_changes", .noat "History" "_births", .noat "History" "_drops", .meth "History" "__len__", .meth "History" "columns", .meth "History" "by_number", .meth "History" "numbers", .meth "History" "born", .meth "History" "behind", .glo "Map", .cls "Map", .mkr "Map", .noat "Map" "_pairs", .meth "Map" "__call__", .meth "Map" "__contains__", .meth "Map" "_led", .meth "Map" "arguments", .str "MISSING" "missing", .str "LETTERS" "abcdefghijklmnopqrstuvwxyz", .int "LONGEST_NAME" 8, .int "MOST_GREATEST" 99, .glo "PARTS", .glo "WAYS", .int "MOST_COLUMNS" 6, .int "MOST_CHANGES" 40, .free "isinstance", .free "int", .free "bool", .free "list", .free "tuple", .free "str", .free "all", .free "len", .free "range", .free "any", .free "sorted", .free "enumerate", .free "dict", .free "abs", .free "sum", .free "repr", .free "max", .free "min"]
def fnl : List He.DefD := fn0
def fal : List He.Fa := fa0
def exl (K : PySem.W.Frag) : Bool := [He.tupB K "PARTS" [(.str "name"), (.str "greatest"), (.str "default"), (.str "number")], He.tupB K "WAYS" [(.str "cut"), (.str "none"), (.str "refuse")], oexB K "BadEdition" "edition", insB K "Column", insB K "Map", PySem.W.fnIn K (He.ma K (He.ga K "Map") "__call__")].all id
structure Tx (K : PySem.W.Frag) (mg : Str → Option Value) : Prop where
  c : He.SaysD fal fnl K
  e : exl K = true
  h : ∃ h : Heap, K.In h ∧ h.Ns mainGlobals mg
section
variable {K : PySem.W.Frag} {mg : Str → Option Value}
theorem mg_is_whole (T : Tx K mg) : mg "is_whole" = some (.ref (He.ga K "is_whole")) := by
  obtain ⟨h, X, G⟩ := T.h
  exact He.glo_ok X G (T.c.fact 0 rfl)
theorem mg_is_list (T : Tx K mg) : mg "is_list" = some (.ref (He.ga K "is_list")) := by
  obtain ⟨h, X, G⟩ := T.h
  exact He.glo_ok X G (T.c.fact 1 rfl)
theorem mg_is_word (T : Tx K mg) : mg "is_word" = some (.ref (He.ga K "is_word")) := by
  obtain ⟨h, X, G⟩ := T.h
  exact He.glo_ok X G (T.c.fact 2 rfl)
theorem mg_is_name (T : Tx K mg) : mg "is_name" = some (.ref (He.ga K "is_name")) := by
  obtain ⟨h, X, G⟩ := T.h
  exact He.glo_ok X G (T.c.fact 3 rfl)
theorem mg_is_greatest (T : Tx K mg) : mg "is_greatest" = some (.ref (He.ga K "is_greatest")) := by
  obtain ⟨h, X, G⟩ := T.h
  exact He.glo_ok X G (T.c.fact 4 rfl)
theorem mg_is_value (T : Tx K mg) : mg "is_value" = some (.ref (He.ga K "is_value")) := by
  obtain ⟨h, X, G⟩ := T.h
  exact He.glo_ok X G (T.c.fact 5 rfl)
theorem mg_is_within (T : Tx K mg) : mg "is_within" = some (.ref (He.ga K "is_within")) := by
  obtain ⟨h, X, G⟩ := T.h
  exact He.glo_ok X G (T.c.fact 6 rfl)
theorem mg_is_missing (T : Tx K mg) : mg "is_missing" = some (.ref (He.ga K "is_missing")) := by
  obtain ⟨h, X, G⟩ := T.h
  exact He.glo_ok X G (T.c.fact 7 rfl)
theorem mg_values_to (T : Tx K mg) : mg "values_to" = some (.ref (He.ga K "values_to")) := by
  obtain ⟨h, X, G⟩ := T.h
  exact He.glo_ok X G (T.c.fact 8 rfl)
theorem mg_in_order (T : Tx K mg) : mg "in_order" = some (.ref (He.ga K "in_order")) := by
  obtain ⟨h, X, G⟩ := T.h
  exact He.glo_ok X G (T.c.fact 9 rfl)
theorem mg_column_named (T : Tx K mg) : mg "column_named" = some (.ref (He.ga K "column_named")) := by
  obtain ⟨h, X, G⟩ := T.h
  exact He.glo_ok X G (T.c.fact 10 rfl)
theorem mg_column_numbered (T : Tx K mg) : mg "column_numbered" = some (.ref (He.ga K "column_numbered")) := by
  obtain ⟨h, X, G⟩ := T.h
  exact He.glo_ok X G (T.c.fact 11 rfl)
theorem mg_is_change (T : Tx K mg) : mg "is_change" = some (.ref (He.ga K "is_change")) := by
  obtain ⟨h, X, G⟩ := T.h
  exact He.glo_ok X G (T.c.fact 12 rfl)
theorem mg_has_parts (T : Tx K mg) : mg "has_parts" = some (.ref (He.ga K "has_parts")) := by
  obtain ⟨h, X, G⟩ := T.h
  exact He.glo_ok X G (T.c.fact 13 rfl)
theorem mg_is_single_part (T : Tx K mg) : mg "is_single_part" = some (.ref (He.ga K "is_single_part")) := by
  obtain ⟨h, X, G⟩ := T.h
  exact He.glo_ok X G (T.c.fact 14 rfl)
theorem mg_is_way (T : Tx K mg) : mg "is_way" = some (.ref (He.ga K "is_way")) := by
  obtain ⟨h, X, G⟩ := T.h
  exact He.glo_ok X G (T.c.fact 15 rfl)
theorem mg_kind_of (T : Tx K mg) : mg "kind_of" = some (.ref (He.ga K "kind_of")) := by
  obtain ⟨h, X, G⟩ := T.h
  exact He.glo_ok X G (T.c.fact 16 rfl)
theorem mg_hindrance (T : Tx K mg) : mg "hindrance" = some (.ref (He.ga K "hindrance")) := by
  obtain ⟨h, X, G⟩ := T.h
  exact He.glo_ok X G (T.c.fact 17 rfl)
theorem mg_add_hindrance (T : Tx K mg) : mg "add_hindrance" = some (.ref (He.ga K "add_hindrance")) := by
  obtain ⟨h, X, G⟩ := T.h
  exact He.glo_ok X G (T.c.fact 18 rfl)
theorem mg_columns_behind (T : Tx K mg) : mg "columns_behind" = some (.ref (He.ga K "columns_behind")) := by
  obtain ⟨h, X, G⟩ := T.h
  exact He.glo_ok X G (T.c.fact 19 rfl)
theorem mg_changed_column (T : Tx K mg) : mg "changed_column" = some (.ref (He.ga K "changed_column")) := by
  obtain ⟨h, X, G⟩ := T.h
  exact He.glo_ok X G (T.c.fact 20 rfl)
theorem mg_changed_value (T : Tx K mg) : mg "changed_value" = some (.ref (He.ga K "changed_value")) := by
  obtain ⟨h, X, G⟩ := T.h
  exact He.glo_ok X G (T.c.fact 21 rfl)
theorem mg_value_above (T : Tx K mg) : mg "value_above" = some (.ref (He.ga K "value_above")) := by
  obtain ⟨h, X, G⟩ := T.h
  exact He.glo_ok X G (T.c.fact 22 rfl)
theorem mg_is_edition (T : Tx K mg) : mg "is_edition" = some (.ref (He.ga K "is_edition")) := by
  obtain ⟨h, X, G⟩ := T.h
  exact He.glo_ok X G (T.c.fact 23 rfl)
theorem mg_edition_of (T : Tx K mg) : mg "edition_of" = some (.ref (He.ga K "edition_of")) := by
  obtain ⟨h, X, G⟩ := T.h
  exact He.glo_ok X G (T.c.fact 24 rfl)
theorem mg_numbered_columns (T : Tx K mg) : mg "numbered_columns" = some (.ref (He.ga K "numbered_columns")) := by
  obtain ⟨h, X, G⟩ := T.h
  exact He.glo_ok X G (T.c.fact 25 rfl)
theorem mg_columns_of_editions (T : Tx K mg) : mg "columns_of_editions" = some (.ref (He.ga K "columns_of_editions")) := by
  obtain ⟨h, X, G⟩ := T.h
  exact He.glo_ok X G (T.c.fact 26 rfl)
theorem mg_births (T : Tx K mg) : mg "births" = some (.ref (He.ga K "births")) := by
  obtain ⟨h, X, G⟩ := T.h
  exact He.glo_ok X G (T.c.fact 27 rfl)
theorem mg_drops (T : Tx K mg) : mg "drops" = some (.ref (He.ga K "drops")) := by
  obtain ⟨h, X, G⟩ := T.h
  exact He.glo_ok X G (T.c.fact 28 rfl)
theorem mg_is_given (T : Tx K mg) : mg "is_given" = some (.ref (He.ga K "is_given")) := by
  obtain ⟨h, X, G⟩ := T.h
  exact He.glo_ok X G (T.c.fact 29 rfl)
theorem mg_is_argument (T : Tx K mg) : mg "is_argument" = some (.ref (He.ga K "is_argument")) := by
  obtain ⟨h, X, G⟩ := T.h
  exact He.glo_ok X G (T.c.fact 30 rfl)
theorem mg_changes_of (T : Tx K mg) : mg "changes_of" = some (.ref (He.ga K "changes_of")) := by
  obtain ⟨h, X, G⟩ := T.h
  exact He.glo_ok X G (T.c.fact 31 rfl)
theorem mg_led_value (T : Tx K mg) : mg "led_value" = some (.ref (He.ga K "led_value")) := by
  obtain ⟨h, X, G⟩ := T.h
  exact He.glo_ok X G (T.c.fact 32 rfl)
theorem mg_led_pairs (T : Tx K mg) : mg "led_pairs" = some (.ref (He.ga K "led_pairs")) := by
  obtain ⟨h, X, G⟩ := T.h
  exact He.glo_ok X G (T.c.fact 33 rfl)
theorem mg_is_dead (T : Tx K mg) : mg "is_dead" = some (.ref (He.ga K "is_dead")) := by
  obtain ⟨h, X, G⟩ := T.h
  exact He.glo_ok X G (T.c.fact 34 rfl)
theorem mg_map_of (T : Tx K mg) : mg "map_of" = some (.ref (He.ga K "map_of")) := by
  obtain ⟨h, X, G⟩ := T.h
  exact He.glo_ok X G (T.c.fact 35 rfl)
theorem mg_maps_of (T : Tx K mg) : mg "maps_of" = some (.ref (He.ga K "maps_of")) := by
  obtain ⟨h, X, G⟩ := T.h
  exact He.glo_ok X G (T.c.fact 36 rfl)
theorem mg_check_edition (T : Tx K mg) : mg "check_edition" = some (.ref (He.ga K "check_edition")) := by
  obtain ⟨h, X, G⟩ := T.h
  exact He.glo_ok X G (T.c.fact 37 rfl)
theorem mg_check_editions (T : Tx K mg) : mg "check_editions" = some (.ref (He.ga K "check_editions")) := by
  obtain ⟨h, X, G⟩ := T.h
  exact He.glo_ok X G (T.c.fact 38 rfl)
theorem mg_differing_arguments (T : Tx K mg) : mg "differing_arguments" = some (.ref (He.ga K "differing_arguments")) := by
  obtain ⟨h, X, G⟩ := T.h
  exact He.glo_ok X G (T.c.fact 39 rfl)
theorem mg_parting_argument (T : Tx K mg) : mg "parting_argument" = some (.ref (He.ga K "parting_argument")) := by
  obtain ⟨h, X, G⟩ := T.h
  exact He.glo_ok X G (T.c.fact 40 rfl)
theorem mg_go_together (T : Tx K mg) : mg "go_together" = some (.ref (He.ga K "go_together")) := by
  obtain ⟨h, X, G⟩ := T.h
  exact He.glo_ok X G (T.c.fact 41 rfl)
theorem mg__law_pool (T : Tx K mg) : mg "_law_pool" = some (.ref (He.ga K "_law_pool")) := by
  obtain ⟨h, X, G⟩ := T.h
  exact He.glo_ok X G (T.c.fact 42 rfl)
theorem mg__law_draw (T : Tx K mg) : mg "_law_draw" = some (.ref (He.ga K "_law_draw")) := by
  obtain ⟨h, X, G⟩ := T.h
  exact He.glo_ok X G (T.c.fact 43 rfl)
theorem mg__law_pick (T : Tx K mg) : mg "_law_pick" = some (.ref (He.ga K "_law_pick")) := by
  obtain ⟨h, X, G⟩ := T.h
  exact He.glo_ok X G (T.c.fact 44 rfl)
theorem mg__law_names (T : Tx K mg) : mg "_law_names" = some (.ref (He.ga K "_law_names")) := by
  obtain ⟨h, X, G⟩ := T.h
  exact He.glo_ok X G (T.c.fact 45 rfl)
theorem mg__law_columns (T : Tx K mg) : mg "_law_columns" = some (.ref (He.ga K "_law_columns")) := by
  obtain ⟨h, X, G⟩ := T.h
  exact He.glo_ok X G (T.c.fact 46 rfl)
theorem mg__law_some (T : Tx K mg) : mg "_law_some" = some (.ref (He.ga K "_law_some")) := by
  obtain ⟨h, X, G⟩ := T.h
  exact He.glo_ok X G (T.c.fact 47 rfl)
theorem mg__law_fits (T : Tx K mg) : mg "_law_fits" = some (.ref (He.ga K "_law_fits")) := by
  obtain ⟨h, X, G⟩ := T.h
  exact He.glo_ok X G (T.c.fact 48 rfl)
theorem mg__law_column (T : Tx K mg) : mg "_law_column" = some (.ref (He.ga K "_law_column")) := by
  obtain ⟨h, X, G⟩ := T.h
  exact He.glo_ok X G (T.c.fact 49 rfl)
theorem mg__law_narrow (T : Tx K mg) : mg "_law_narrow" = some (.ref (He.ga K "_law_narrow")) := by
  obtain ⟨h, X, G⟩ := T.h
  exact He.glo_ok X G (T.c.fact 50 rfl)
theorem mg__law_col_after (T : Tx K mg) : mg "_law_col_after" = some (.ref (He.ga K "_law_col_after")) := by
  obtain ⟨h, X, G⟩ := T.h
  exact He.glo_ok X G (T.c.fact 51 rfl)
theorem mg__law_sheet_after (T : Tx K mg) : mg "_law_sheet_after" = some (.ref (He.ga K "_law_sheet_after")) := by
  obtain ⟨h, X, G⟩ := T.h
  exact He.glo_ok X G (T.c.fact 52 rfl)
theorem mg__law_change (T : Tx K mg) : mg "_law_change" = some (.ref (He.ga K "_law_change")) := by
  obtain ⟨h, X, G⟩ := T.h
  exact He.glo_ok X G (T.c.fact 53 rfl)
theorem mg__law_history (T : Tx K mg) : mg "_law_history" = some (.ref (He.ga K "_law_history")) := by
  obtain ⟨h, X, G⟩ := T.h
  exact He.glo_ok X G (T.c.fact 54 rfl)
theorem mg__law_longer (T : Tx K mg) : mg "_law_longer" = some (.ref (He.ga K "_law_longer")) := by
  obtain ⟨h, X, G⟩ := T.h
  exact He.glo_ok X G (T.c.fact 55 rfl)
theorem mg__law_made_column (T : Tx K mg) : mg "_law_made_column" = some (.ref (He.ga K "_law_made_column")) := by
  obtain ⟨h, X, G⟩ := T.h
  exact He.glo_ok X G (T.c.fact 56 rfl)
theorem mg__law_made (T : Tx K mg) : mg "_law_made" = some (.ref (He.ga K "_law_made")) := by
  obtain ⟨h, X, G⟩ := T.h
  exact He.glo_ok X G (T.c.fact 57 rfl)
theorem mg__law_rank (T : Tx K mg) : mg "_law_rank" = some (.ref (He.ga K "_law_rank")) := by
  obtain ⟨h, X, G⟩ := T.h
  exact He.glo_ok X G (T.c.fact 58 rfl)
theorem mg__law_ordered (T : Tx K mg) : mg "_law_ordered" = some (.ref (He.ga K "_law_ordered")) := by
  obtain ⟨h, X, G⟩ := T.h
  exact He.glo_ok X G (T.c.fact 59 rfl)
theorem mg__law_numbers (T : Tx K mg) : mg "_law_numbers" = some (.ref (He.ga K "_law_numbers")) := by
  obtain ⟨h, X, G⟩ := T.h
  exact He.glo_ok X G (T.c.fact 60 rfl)
theorem mg__law_col_n (T : Tx K mg) : mg "_law_col_n" = some (.ref (He.ga K "_law_col_n")) := by
  obtain ⟨h, X, G⟩ := T.h
  exact He.glo_ok X G (T.c.fact 61 rfl)
theorem mg__law_pass (T : Tx K mg) : mg "_law_pass" = some (.ref (He.ga K "_law_pass")) := by
  obtain ⟨h, X, G⟩ := T.h
  exact He.glo_ok X G (T.c.fact 62 rfl)
theorem mg__law_born (T : Tx K mg) : mg "_law_born" = some (.ref (He.ga K "_law_born")) := by
  obtain ⟨h, X, G⟩ := T.h
  exact He.glo_ok X G (T.c.fact 63 rfl)
theorem mg__law_missing_value (T : Tx K mg) : mg "_law_missing_value" = some (.ref (He.ga K "_law_missing_value")) := by
  obtain ⟨h, X, G⟩ := T.h
  exact He.glo_ok X G (T.c.fact 64 rfl)
theorem mg__law_map_of (T : Tx K mg) : mg "_law_map_of" = some (.ref (He.ga K "_law_map_of")) := by
  obtain ⟨h, X, G⟩ := T.h
  exact He.glo_ok X G (T.c.fact 65 rfl)
theorem mg__law_dead (T : Tx K mg) : mg "_law_dead" = some (.ref (He.ga K "_law_dead")) := by
  obtain ⟨h, X, G⟩ := T.h
  exact He.glo_ok X G (T.c.fact 66 rfl)
theorem mg__law_maps (T : Tx K mg) : mg "_law_maps" = some (.ref (He.ga K "_law_maps")) := by
  obtain ⟨h, X, G⟩ := T.h
  exact He.glo_ok X G (T.c.fact 67 rfl)
theorem mg__law_parting (T : Tx K mg) : mg "_law_parting" = some (.ref (He.ga K "_law_parting")) := by
  obtain ⟨h, X, G⟩ := T.h
  exact He.glo_ok X G (T.c.fact 68 rfl)
theorem mg__law_tables (T : Tx K mg) : mg "_law_tables" = some (.ref (He.ga K "_law_tables")) := by
  obtain ⟨h, X, G⟩ := T.h
  exact He.glo_ok X G (T.c.fact 69 rfl)
theorem mg__law_refused (T : Tx K mg) : mg "_law_refused" = some (.ref (He.ga K "_law_refused")) := by
  obtain ⟨h, X, G⟩ := T.h
  exact He.glo_ok X G (T.c.fact 70 rfl)
theorem mg_law (T : Tx K mg) : mg "law" = some (.ref (He.ga K "law")) := by
  obtain ⟨h, X, G⟩ := T.h
  exact He.glo_ok X G (T.c.fact 71 rfl)
theorem mg_BadEdition (T : Tx K mg) : mg "BadEdition" = some (.ref (He.ga K "BadEdition")) := by
  obtain ⟨h, X, G⟩ := T.h
  exact He.glo_ok X G (T.c.fact 72 rfl)
theorem mg_Column (T : Tx K mg) : mg "Column" = some (.ref (He.ga K "Column")) := by
  obtain ⟨h, X, G⟩ := T.h
  exact He.glo_ok X G (T.c.fact 73 rfl)
theorem cl_Column (T : Tx K mg) : Cls K (He.ga K "Column") := He.cls_ok (T.c.fact 74 rfl)
theorem mk_Column (T : Tx K mg) : Mk K (He.ga K "Column") (He.ma K (He.ga K "Column") "__init__") := He.mkr_ok (T.c.fact 75 rfl)
theorem na_Column_name (T : Tx K mg) : NoAttr K (He.ga K "Column") "name" := He.noat_ok (T.c.fact 76 rfl)
theorem na_Column_greatest (T : Tx K mg) : NoAttr K (He.ga K "Column") "greatest" := He.noat_ok (T.c.fact 77 rfl)
theorem na_Column_default (T : Tx K mg) : NoAttr K (He.ga K "Column") "default" := He.noat_ok (T.c.fact 78 rfl)
theorem na_Column_number (T : Tx K mg) : NoAttr K (He.ga K "Column") "number" := He.noat_ok (T.c.fact 79 rfl)
theorem me_Column_all_values (T : Tx K mg) : Meth K (He.ga K "Column") "all_values" (He.ma K (He.ga K "Column") "all_values") := He.meth_ok (T.c.fact 80 rfl)
theorem me_Column_changed (T : Tx K mg) : Meth K (He.ga K "Column") "changed" (He.ma K (He.ga K "Column") "changed") := He.meth_ok (T.c.fact 81 rfl)
theorem mg_History (T : Tx K mg) : mg "History" = some (.ref (He.ga K "History")) := by
  obtain ⟨h, X, G⟩ := T.h
  exact He.glo_ok X G (T.c.fact 82 rfl)
theorem cl_History (T : Tx K mg) : Cls K (He.ga K "History") := He.cls_ok (T.c.fact 83 rfl)
theorem mk_History (T : Tx K mg) : Mk K (He.ga K "History") (He.ma K (He.ga K "History") "__init__") := He.mkr_ok (T.c.fact 84 rfl)
theorem na_History__editions (T : Tx K mg) : NoAttr K (He.ga K "History") "_editions" := He.noat_ok (T.c.fact 85 rfl)
theorem na_History__changes (T : Tx K mg) : NoAttr K (He.ga K "History") "_changes" := He.noat_ok (T.c.fact 86 rfl)
theorem na_History__births (T : Tx K mg) : NoAttr K (He.ga K "History") "_births" := He.noat_ok (T.c.fact 87 rfl)
theorem na_History__drops (T : Tx K mg) : NoAttr K (He.ga K "History") "_drops" := He.noat_ok (T.c.fact 88 rfl)
theorem me_History___len__ (T : Tx K mg) : Meth K (He.ga K "History") "__len__" (He.ma K (He.ga K "History") "__len__") := He.meth_ok (T.c.fact 89 rfl)
theorem me_History_columns (T : Tx K mg) : Meth K (He.ga K "History") "columns" (He.ma K (He.ga K "History") "columns") := He.meth_ok (T.c.fact 90 rfl)
theorem me_History_by_number (T : Tx K mg) : Meth K (He.ga K "History") "by_number" (He.ma K (He.ga K "History") "by_number") := He.meth_ok (T.c.fact 91 rfl)
theorem me_History_numbers (T : Tx K mg) : Meth K (He.ga K "History") "numbers" (He.ma K (He.ga K "History") "numbers") := He.meth_ok (T.c.fact 92 rfl)
theorem me_History_born (T : Tx K mg) : Meth K (He.ga K "History") "born" (He.ma K (He.ga K "History") "born") := He.meth_ok (T.c.fact 93 rfl)
theorem me_History_behind (T : Tx K mg) : Meth K (He.ga K "History") "behind" (He.ma K (He.ga K "History") "behind") := He.meth_ok (T.c.fact 94 rfl)
theorem mg_Map (T : Tx K mg) : mg "Map" = some (.ref (He.ga K "Map")) := by
  obtain ⟨h, X, G⟩ := T.h
  exact He.glo_ok X G (T.c.fact 95 rfl)
theorem cl_Map (T : Tx K mg) : Cls K (He.ga K "Map") := He.cls_ok (T.c.fact 96 rfl)
theorem mk_Map (T : Tx K mg) : Mk K (He.ga K "Map") (He.ma K (He.ga K "Map") "__init__") := He.mkr_ok (T.c.fact 97 rfl)
theorem na_Map__pairs (T : Tx K mg) : NoAttr K (He.ga K "Map") "_pairs" := He.noat_ok (T.c.fact 98 rfl)
theorem me_Map___call__ (T : Tx K mg) : Meth K (He.ga K "Map") "__call__" (He.ma K (He.ga K "Map") "__call__") := He.meth_ok (T.c.fact 99 rfl)
theorem me_Map___contains__ (T : Tx K mg) : Meth K (He.ga K "Map") "__contains__" (He.ma K (He.ga K "Map") "__contains__") := He.meth_ok (T.c.fact 100 rfl)
theorem me_Map__led (T : Tx K mg) : Meth K (He.ga K "Map") "_led" (He.ma K (He.ga K "Map") "_led") := He.meth_ok (T.c.fact 101 rfl)
theorem me_Map_arguments (T : Tx K mg) : Meth K (He.ga K "Map") "arguments" (He.ma K (He.ga K "Map") "arguments") := He.meth_ok (T.c.fact 102 rfl)
theorem ms_MISSING (T : Tx K mg) : ∃ t, mg "MISSING" = some (.str "missing" t) := by
  obtain ⟨h, X, G⟩ := T.h
  exact He.str_ok X G (T.c.fact 103 rfl)
theorem ms_LETTERS (T : Tx K mg) : ∃ t, mg "LETTERS" = some (.str "abcdefghijklmnopqrstuvwxyz" t) := by
  obtain ⟨h, X, G⟩ := T.h
  exact He.str_ok X G (T.c.fact 104 rfl)
theorem mi_LONGEST_NAME (T : Tx K mg) : ∃ t, mg "LONGEST_NAME" = some (.int 8 t) := by
  obtain ⟨h, X, G⟩ := T.h
  exact He.int_ok X G (T.c.fact 105 rfl)
theorem mi_MOST_GREATEST (T : Tx K mg) : ∃ t, mg "MOST_GREATEST" = some (.int 99 t) := by
  obtain ⟨h, X, G⟩ := T.h
  exact He.int_ok X G (T.c.fact 106 rfl)
theorem mg_PARTS (T : Tx K mg) : mg "PARTS" = some (.ref (He.ga K "PARTS")) := by
  obtain ⟨h, X, G⟩ := T.h
  exact He.glo_ok X G (T.c.fact 107 rfl)
theorem mg_WAYS (T : Tx K mg) : mg "WAYS" = some (.ref (He.ga K "WAYS")) := by
  obtain ⟨h, X, G⟩ := T.h
  exact He.glo_ok X G (T.c.fact 108 rfl)
theorem mi_MOST_COLUMNS (T : Tx K mg) : ∃ t, mg "MOST_COLUMNS" = some (.int 6 t) := by
  obtain ⟨h, X, G⟩ := T.h
  exact He.int_ok X G (T.c.fact 109 rfl)
theorem mi_MOST_CHANGES (T : Tx K mg) : ∃ t, mg "MOST_CHANGES" = some (.int 40 t) := by
  obtain ⟨h, X, G⟩ := T.h
  exact He.int_ok X G (T.c.fact 110 rfl)
theorem fr_isinstance (T : Tx K mg) : mg "isinstance" = none := by
  obtain ⟨h, X, G⟩ := T.h
  exact He.free_ok X G (T.c.fact 111 rfl)
theorem fr_int (T : Tx K mg) : mg "int" = none := by
  obtain ⟨h, X, G⟩ := T.h
  exact He.free_ok X G (T.c.fact 112 rfl)
theorem fr_bool (T : Tx K mg) : mg "bool" = none := by
  obtain ⟨h, X, G⟩ := T.h
  exact He.free_ok X G (T.c.fact 113 rfl)
theorem fr_list (T : Tx K mg) : mg "list" = none := by
  obtain ⟨h, X, G⟩ := T.h
  exact He.free_ok X G (T.c.fact 114 rfl)
theorem fr_tuple (T : Tx K mg) : mg "tuple" = none := by
  obtain ⟨h, X, G⟩ := T.h
  exact He.free_ok X G (T.c.fact 115 rfl)
theorem fr_str (T : Tx K mg) : mg "str" = none := by
  obtain ⟨h, X, G⟩ := T.h
  exact He.free_ok X G (T.c.fact 116 rfl)
theorem fr_all (T : Tx K mg) : mg "all" = none := by
  obtain ⟨h, X, G⟩ := T.h
  exact He.free_ok X G (T.c.fact 117 rfl)
theorem fr_len (T : Tx K mg) : mg "len" = none := by
  obtain ⟨h, X, G⟩ := T.h
  exact He.free_ok X G (T.c.fact 118 rfl)
theorem fr_range (T : Tx K mg) : mg "range" = none := by
  obtain ⟨h, X, G⟩ := T.h
  exact He.free_ok X G (T.c.fact 119 rfl)
theorem fr_any (T : Tx K mg) : mg "any" = none := by
  obtain ⟨h, X, G⟩ := T.h
  exact He.free_ok X G (T.c.fact 120 rfl)
theorem fr_sorted (T : Tx K mg) : mg "sorted" = none := by
  obtain ⟨h, X, G⟩ := T.h
  exact He.free_ok X G (T.c.fact 121 rfl)
theorem fr_enumerate (T : Tx K mg) : mg "enumerate" = none := by
  obtain ⟨h, X, G⟩ := T.h
  exact He.free_ok X G (T.c.fact 122 rfl)
theorem fr_dict (T : Tx K mg) : mg "dict" = none := by
  obtain ⟨h, X, G⟩ := T.h
  exact He.free_ok X G (T.c.fact 123 rfl)
theorem fr_abs (T : Tx K mg) : mg "abs" = none := by
  obtain ⟨h, X, G⟩ := T.h
  exact He.free_ok X G (T.c.fact 124 rfl)
theorem fr_sum (T : Tx K mg) : mg "sum" = none := by
  obtain ⟨h, X, G⟩ := T.h
  exact He.free_ok X G (T.c.fact 125 rfl)
theorem fr_repr (T : Tx K mg) : mg "repr" = none := by
  obtain ⟨h, X, G⟩ := T.h
  exact He.free_ok X G (T.c.fact 126 rfl)
theorem fr_max (T : Tx K mg) : mg "max" = none := by
  obtain ⟨h, X, G⟩ := T.h
  exact He.free_ok X G (T.c.fact 127 rfl)
theorem fr_min (T : Tx K mg) : mg "min" = none := by
  obtain ⟨h, X, G⟩ := T.h
  exact He.free_ok X G (T.c.fact 128 rfl)
theorem fd_BadEdition___init__ (T : Tx K mg) : ∃ fd, FunD K "__init__" "BadEdition.__init__" (defArgs s_BadEdition___init__) (defBody s_BadEdition___init__) (defScope s_BadEdition___init__) (d_BadEdition___init__.dvs K) (d_BadEdition___init__.kws K) (He.ma K (He.ga K "BadEdition") "__init__") fd := T.c.def_ 0 (d := d_BadEdition___init__) rfl
theorem fd_is_whole (T : Tx K mg) : ∃ fd, FunD K "is_whole" "is_whole" (defArgs s_is_whole) (defBody s_is_whole) (defScope s_is_whole) (d_is_whole.dvs K) (d_is_whole.kws K) (He.ga K "is_whole") fd := T.c.def_ 1 (d := d_is_whole) rfl
theorem fd_is_list (T : Tx K mg) : ∃ fd, FunD K "is_list" "is_list" (defArgs s_is_list) (defBody s_is_list) (defScope s_is_list) (d_is_list.dvs K) (d_is_list.kws K) (He.ga K "is_list") fd := T.c.def_ 2 (d := d_is_list) rfl
theorem fd_is_word (T : Tx K mg) : ∃ fd, FunD K "is_word" "is_word" (defArgs s_is_word) (defBody s_is_word) (defScope s_is_word) (d_is_word.dvs K) (d_is_word.kws K) (He.ga K "is_word") fd := T.c.def_ 3 (d := d_is_word) rfl
theorem fd_is_name (T : Tx K mg) : ∃ fd, FunD K "is_name" "is_name" (defArgs s_is_name) (defBody s_is_name) (defScope s_is_name) (d_is_name.dvs K) (d_is_name.kws K) (He.ga K "is_name") fd := T.c.def_ 4 (d := d_is_name) rfl
theorem fd_is_greatest (T : Tx K mg) : ∃ fd, FunD K "is_greatest" "is_greatest" (defArgs s_is_greatest) (defBody s_is_greatest) (defScope s_is_greatest) (d_is_greatest.dvs K) (d_is_greatest.kws K) (He.ga K "is_greatest") fd := T.c.def_ 5 (d := d_is_greatest) rfl
theorem fd_is_value (T : Tx K mg) : ∃ fd, FunD K "is_value" "is_value" (defArgs s_is_value) (defBody s_is_value) (defScope s_is_value) (d_is_value.dvs K) (d_is_value.kws K) (He.ga K "is_value") fd := T.c.def_ 6 (d := d_is_value) rfl
theorem fd_is_within (T : Tx K mg) : ∃ fd, FunD K "is_within" "is_within" (defArgs s_is_within) (defBody s_is_within) (defScope s_is_within) (d_is_within.dvs K) (d_is_within.kws K) (He.ga K "is_within") fd := T.c.def_ 7 (d := d_is_within) rfl
theorem fd_is_missing (T : Tx K mg) : ∃ fd, FunD K "is_missing" "is_missing" (defArgs s_is_missing) (defBody s_is_missing) (defScope s_is_missing) (d_is_missing.dvs K) (d_is_missing.kws K) (He.ga K "is_missing") fd := T.c.def_ 8 (d := d_is_missing) rfl
theorem fd_values_to (T : Tx K mg) : ∃ fd, FunD K "values_to" "values_to" (defArgs s_values_to) (defBody s_values_to) (defScope s_values_to) (d_values_to.dvs K) (d_values_to.kws K) (He.ga K "values_to") fd := T.c.def_ 9 (d := d_values_to) rfl
theorem fd_in_order (T : Tx K mg) : ∃ fd, FunD K "in_order" "in_order" (defArgs s_in_order) (defBody s_in_order) (defScope s_in_order) (d_in_order.dvs K) (d_in_order.kws K) (He.ga K "in_order") fd := T.c.def_ 10 (d := d_in_order) rfl
theorem fd_Column___init__ (T : Tx K mg) : ∃ fd, FunD K "__init__" "Column.__init__" (defArgs s_Column___init__) (defBody s_Column___init__) (defScope s_Column___init__) (d_Column___init__.dvs K) (d_Column___init__.kws K) (He.ma K (He.ga K "Column") "__init__") fd := T.c.def_ 11 (d := d_Column___init__) rfl
theorem fd_Column___eq__ (T : Tx K mg) : ∃ fd, FunD K "__eq__" "Column.__eq__" (defArgs s_Column___eq__) (defBody s_Column___eq__) (defScope s_Column___eq__) (d_Column___eq__.dvs K) (d_Column___eq__.kws K) (He.ma K (He.ga K "Column") "__eq__") fd := T.c.def_ 12 (d := d_Column___eq__) rfl
theorem fd_Column___contains__ (T : Tx K mg) : ∃ fd, FunD K "__contains__" "Column.__contains__" (defArgs s_Column___contains__) (defBody s_Column___contains__) (defScope s_Column___contains__) (d_Column___contains__.dvs K) (d_Column___contains__.kws K) (He.ma K (He.ga K "Column") "__contains__") fd := T.c.def_ 13 (d := d_Column___contains__) rfl
theorem fd_Column_all_values (T : Tx K mg) : ∃ fd, FunD K "all_values" "Column.all_values" (defArgs s_Column_all_values) (defBody s_Column_all_values) (defScope s_Column_all_values) (d_Column_all_values.dvs K) (d_Column_all_values.kws K) (He.ma K (He.ga K "Column") "all_values") fd := T.c.def_ 14 (d := d_Column_all_values) rfl
theorem fd_Column_changed (T : Tx K mg) : ∃ fd, FunD K "changed" "Column.changed" (defArgs s_Column_changed) (defBody s_Column_changed) (defScope s_Column_changed) (d_Column_changed.dvs K) (d_Column_changed.kws K) (He.ma K (He.ga K "Column") "changed") fd := T.c.def_ 15 (d := d_Column_changed) rfl
theorem fd_column_named (T : Tx K mg) : ∃ fd, FunD K "column_named" "column_named" (defArgs s_column_named) (defBody s_column_named) (defScope s_column_named) (d_column_named.dvs K) (d_column_named.kws K) (He.ga K "column_named") fd := T.c.def_ 16 (d := d_column_named) rfl
theorem fd_column_numbered (T : Tx K mg) : ∃ fd, FunD K "column_numbered" "column_numbered" (defArgs s_column_numbered) (defBody s_column_numbered) (defScope s_column_numbered) (d_column_numbered.dvs K) (d_column_numbered.kws K) (He.ga K "column_numbered") fd := T.c.def_ 17 (d := d_column_numbered) rfl
theorem fd_is_change (T : Tx K mg) : ∃ fd, FunD K "is_change" "is_change" (defArgs s_is_change) (defBody s_is_change) (defScope s_is_change) (d_is_change.dvs K) (d_is_change.kws K) (He.ga K "is_change") fd := T.c.def_ 18 (d := d_is_change) rfl
theorem fd_has_parts (T : Tx K mg) : ∃ fd, FunD K "has_parts" "has_parts" (defArgs s_has_parts) (defBody s_has_parts) (defScope s_has_parts) (d_has_parts.dvs K) (d_has_parts.kws K) (He.ga K "has_parts") fd := T.c.def_ 19 (d := d_has_parts) rfl
theorem fd_is_single_part (T : Tx K mg) : ∃ fd, FunD K "is_single_part" "is_single_part" (defArgs s_is_single_part) (defBody s_is_single_part) (defScope s_is_single_part) (d_is_single_part.dvs K) (d_is_single_part.kws K) (He.ga K "is_single_part") fd := T.c.def_ 20 (d := d_is_single_part) rfl
theorem fd_is_way (T : Tx K mg) : ∃ fd, FunD K "is_way" "is_way" (defArgs s_is_way) (defBody s_is_way) (defScope s_is_way) (d_is_way.dvs K) (d_is_way.kws K) (He.ga K "is_way") fd := T.c.def_ 21 (d := d_is_way) rfl
theorem fd_kind_of (T : Tx K mg) : ∃ fd, FunD K "kind_of" "kind_of" (defArgs s_kind_of) (defBody s_kind_of) (defScope s_kind_of) (d_kind_of.dvs K) (d_kind_of.kws K) (He.ga K "kind_of") fd := T.c.def_ 22 (d := d_kind_of) rfl
theorem fd_hindrance (T : Tx K mg) : ∃ fd, FunD K "hindrance" "hindrance" (defArgs s_hindrance) (defBody s_hindrance) (defScope s_hindrance) (d_hindrance.dvs K) (d_hindrance.kws K) (He.ga K "hindrance") fd := T.c.def_ 23 (d := d_hindrance) rfl
theorem fd_add_hindrance (T : Tx K mg) : ∃ fd, FunD K "add_hindrance" "add_hindrance" (defArgs s_add_hindrance) (defBody s_add_hindrance) (defScope s_add_hindrance) (d_add_hindrance.dvs K) (d_add_hindrance.kws K) (He.ga K "add_hindrance") fd := T.c.def_ 24 (d := d_add_hindrance) rfl
theorem fd_columns_behind (T : Tx K mg) : ∃ fd, FunD K "columns_behind" "columns_behind" (defArgs s_columns_behind) (defBody s_columns_behind) (defScope s_columns_behind) (d_columns_behind.dvs K) (d_columns_behind.kws K) (He.ga K "columns_behind") fd := T.c.def_ 25 (d := d_columns_behind) rfl
theorem fd_changed_column (T : Tx K mg) : ∃ fd, FunD K "changed_column" "changed_column" (defArgs s_changed_column) (defBody s_changed_column) (defScope s_changed_column) (d_changed_column.dvs K) (d_changed_column.kws K) (He.ga K "changed_column") fd := T.c.def_ 26 (d := d_changed_column) rfl
theorem fd_changed_value (T : Tx K mg) : ∃ fd, FunD K "changed_value" "changed_value" (defArgs s_changed_value) (defBody s_changed_value) (defScope s_changed_value) (d_changed_value.dvs K) (d_changed_value.kws K) (He.ga K "changed_value") fd := T.c.def_ 27 (d := d_changed_value) rfl
theorem fd_value_above (T : Tx K mg) : ∃ fd, FunD K "value_above" "value_above" (defArgs s_value_above) (defBody s_value_above) (defScope s_value_above) (d_value_above.dvs K) (d_value_above.kws K) (He.ga K "value_above") fd := T.c.def_ 28 (d := d_value_above) rfl
theorem fd_is_edition (T : Tx K mg) : ∃ fd, FunD K "is_edition" "is_edition" (defArgs s_is_edition) (defBody s_is_edition) (defScope s_is_edition) (d_is_edition.dvs K) (d_is_edition.kws K) (He.ga K "is_edition") fd := T.c.def_ 29 (d := d_is_edition) rfl
theorem fd_edition_of (T : Tx K mg) : ∃ fd, FunD K "edition_of" "edition_of" (defArgs s_edition_of) (defBody s_edition_of) (defScope s_edition_of) (d_edition_of.dvs K) (d_edition_of.kws K) (He.ga K "edition_of") fd := T.c.def_ 30 (d := d_edition_of) rfl
theorem fd_numbered_columns (T : Tx K mg) : ∃ fd, FunD K "numbered_columns" "numbered_columns" (defArgs s_numbered_columns) (defBody s_numbered_columns) (defScope s_numbered_columns) (d_numbered_columns.dvs K) (d_numbered_columns.kws K) (He.ga K "numbered_columns") fd := T.c.def_ 31 (d := d_numbered_columns) rfl
theorem fd_columns_of_editions (T : Tx K mg) : ∃ fd, FunD K "columns_of_editions" "columns_of_editions" (defArgs s_columns_of_editions) (defBody s_columns_of_editions) (defScope s_columns_of_editions) (d_columns_of_editions.dvs K) (d_columns_of_editions.kws K) (He.ga K "columns_of_editions") fd := T.c.def_ 32 (d := d_columns_of_editions) rfl
theorem fd_births (T : Tx K mg) : ∃ fd, FunD K "births" "births" (defArgs s_births) (defBody s_births) (defScope s_births) (d_births.dvs K) (d_births.kws K) (He.ga K "births") fd := T.c.def_ 33 (d := d_births) rfl
theorem fd_drops (T : Tx K mg) : ∃ fd, FunD K "drops" "drops" (defArgs s_drops) (defBody s_drops) (defScope s_drops) (d_drops.dvs K) (d_drops.kws K) (He.ga K "drops") fd := T.c.def_ 34 (d := d_drops) rfl
theorem fd_History___init__ (T : Tx K mg) : ∃ fd, FunD K "__init__" "History.__init__" (defArgs s_History___init__) (defBody s_History___init__) (defScope s_History___init__) (d_History___init__.dvs K) (d_History___init__.kws K) (He.ma K (He.ga K "History") "__init__") fd := T.c.def_ 35 (d := d_History___init__) rfl
theorem fd_History___len__ (T : Tx K mg) : ∃ fd, FunD K "__len__" "History.__len__" (defArgs s_History___len__) (defBody s_History___len__) (defScope s_History___len__) (d_History___len__.dvs K) (d_History___len__.kws K) (He.ma K (He.ga K "History") "__len__") fd := T.c.def_ 36 (d := d_History___len__) rfl
theorem fd_History___getitem__ (T : Tx K mg) : ∃ fd, FunD K "__getitem__" "History.__getitem__" (defArgs s_History___getitem__) (defBody s_History___getitem__) (defScope s_History___getitem__) (d_History___getitem__.dvs K) (d_History___getitem__.kws K) (He.ma K (He.ga K "History") "__getitem__") fd := T.c.def_ 37 (d := d_History___getitem__) rfl
theorem fd_History_columns (T : Tx K mg) : ∃ fd, FunD K "columns" "History.columns" (defArgs s_History_columns) (defBody s_History_columns) (defScope s_History_columns) (d_History_columns.dvs K) (d_History_columns.kws K) (He.ma K (He.ga K "History") "columns") fd := T.c.def_ 38 (d := d_History_columns) rfl
theorem fd_History_column (T : Tx K mg) : ∃ fd, FunD K "column" "History.column" (defArgs s_History_column) (defBody s_History_column) (defScope s_History_column) (d_History_column.dvs K) (d_History_column.kws K) (He.ma K (He.ga K "History") "column") fd := T.c.def_ 39 (d := d_History_column) rfl
theorem fd_History_by_number (T : Tx K mg) : ∃ fd, FunD K "by_number" "History.by_number" (defArgs s_History_by_number) (defBody s_History_by_number) (defScope s_History_by_number) (d_History_by_number.dvs K) (d_History_by_number.kws K) (He.ma K (He.ga K "History") "by_number") fd := T.c.def_ 40 (d := d_History_by_number) rfl
theorem fd_History_numbers (T : Tx K mg) : ∃ fd, FunD K "numbers" "History.numbers" (defArgs s_History_numbers) (defBody s_History_numbers) (defScope s_History_numbers) (d_History_numbers.dvs K) (d_History_numbers.kws K) (He.ma K (He.ga K "History") "numbers") fd := T.c.def_ 41 (d := d_History_numbers) rfl
theorem fd_History_born (T : Tx K mg) : ∃ fd, FunD K "born" "History.born" (defArgs s_History_born) (defBody s_History_born) (defScope s_History_born) (d_History_born.dvs K) (d_History_born.kws K) (He.ma K (He.ga K "History") "born") fd := T.c.def_ 42 (d := d_History_born) rfl
theorem fd_History_dropped (T : Tx K mg) : ∃ fd, FunD K "dropped" "History.dropped" (defArgs s_History_dropped) (defBody s_History_dropped) (defScope s_History_dropped) (d_History_dropped.dvs K) (d_History_dropped.kws K) (He.ma K (He.ga K "History") "dropped") fd := T.c.def_ 43 (d := d_History_dropped) rfl
theorem fd_History_behind (T : Tx K mg) : ∃ fd, FunD K "behind" "History.behind" (defArgs s_History_behind) (defBody s_History_behind) (defScope s_History_behind) (d_History_behind.dvs K) (d_History_behind.kws K) (He.ma K (He.ga K "History") "behind") fd := T.c.def_ 44 (d := d_History_behind) rfl
theorem fd_is_given (T : Tx K mg) : ∃ fd, FunD K "is_given" "is_given" (defArgs s_is_given) (defBody s_is_given) (defScope s_is_given) (d_is_given.dvs K) (d_is_given.kws K) (He.ga K "is_given") fd := T.c.def_ 45 (d := d_is_given) rfl
theorem fd_is_argument (T : Tx K mg) : ∃ fd, FunD K "is_argument" "is_argument" (defArgs s_is_argument) (defBody s_is_argument) (defScope s_is_argument) (d_is_argument.dvs K) (d_is_argument.kws K) (He.ga K "is_argument") fd := T.c.def_ 46 (d := d_is_argument) rfl
theorem fd_Map___init__ (T : Tx K mg) : ∃ fd, FunD K "__init__" "Map.__init__" (defArgs s_Map___init__) (defBody s_Map___init__) (defScope s_Map___init__) (d_Map___init__.dvs K) (d_Map___init__.kws K) (He.ma K (He.ga K "Map") "__init__") fd := T.c.def_ 47 (d := d_Map___init__) rfl
theorem fd_Map___call__ (T : Tx K mg) : ∃ fd, FunD K "__call__" "Map.__call__" (defArgs s_Map___call__) (defBody s_Map___call__) (defScope s_Map___call__) (d_Map___call__.dvs K) (d_Map___call__.kws K) (He.ma K (He.ga K "Map") "__call__") fd := T.c.def_ 48 (d := d_Map___call__) rfl
theorem fd_Map___contains__ (T : Tx K mg) : ∃ fd, FunD K "__contains__" "Map.__contains__" (defArgs s_Map___contains__) (defBody s_Map___contains__) (defScope s_Map___contains__) (d_Map___contains__.dvs K) (d_Map___contains__.kws K) (He.ma K (He.ga K "Map") "__contains__") fd := T.c.def_ 49 (d := d_Map___contains__) rfl
theorem fd_Map___len__ (T : Tx K mg) : ∃ fd, FunD K "__len__" "Map.__len__" (defArgs s_Map___len__) (defBody s_Map___len__) (defScope s_Map___len__) (d_Map___len__.dvs K) (d_Map___len__.kws K) (He.ma K (He.ga K "Map") "__len__") fd := T.c.def_ 50 (d := d_Map___len__) rfl
theorem fd_Map___eq__ (T : Tx K mg) : ∃ fd, FunD K "__eq__" "Map.__eq__" (defArgs s_Map___eq__) (defBody s_Map___eq__) (defScope s_Map___eq__) (d_Map___eq__.dvs K) (d_Map___eq__.kws K) (He.ma K (He.ga K "Map") "__eq__") fd := T.c.def_ 51 (d := d_Map___eq__) rfl
theorem fd_Map__led (T : Tx K mg) : ∃ fd, FunD K "_led" "Map._led" (defArgs s_Map__led) (defBody s_Map__led) (defScope s_Map__led) (d_Map__led.dvs K) (d_Map__led.kws K) (He.ma K (He.ga K "Map") "_led") fd := T.c.def_ 52 (d := d_Map__led) rfl
theorem fd_Map_arguments (T : Tx K mg) : ∃ fd, FunD K "arguments" "Map.arguments" (defArgs s_Map_arguments) (defBody s_Map_arguments) (defScope s_Map_arguments) (d_Map_arguments.dvs K) (d_Map_arguments.kws K) (He.ma K (He.ga K "Map") "arguments") fd := T.c.def_ 53 (d := d_Map_arguments) rfl
theorem fd_changes_of (T : Tx K mg) : ∃ fd, FunD K "changes_of" "changes_of" (defArgs s_changes_of) (defBody s_changes_of) (defScope s_changes_of) (d_changes_of.dvs K) (d_changes_of.kws K) (He.ga K "changes_of") fd := T.c.def_ 54 (d := d_changes_of) rfl
theorem fd_led_value (T : Tx K mg) : ∃ fd, FunD K "led_value" "led_value" (defArgs s_led_value) (defBody s_led_value) (defScope s_led_value) (d_led_value.dvs K) (d_led_value.kws K) (He.ga K "led_value") fd := T.c.def_ 55 (d := d_led_value) rfl
theorem fd_led_pairs (T : Tx K mg) : ∃ fd, FunD K "led_pairs" "led_pairs" (defArgs s_led_pairs) (defBody s_led_pairs) (defScope s_led_pairs) (d_led_pairs.dvs K) (d_led_pairs.kws K) (He.ga K "led_pairs") fd := T.c.def_ 56 (d := d_led_pairs) rfl
theorem fd_is_dead (T : Tx K mg) : ∃ fd, FunD K "is_dead" "is_dead" (defArgs s_is_dead) (defBody s_is_dead) (defScope s_is_dead) (d_is_dead.dvs K) (d_is_dead.kws K) (He.ga K "is_dead") fd := T.c.def_ 57 (d := d_is_dead) rfl
theorem fd_map_of (T : Tx K mg) : ∃ fd, FunD K "map_of" "map_of" (defArgs s_map_of) (defBody s_map_of) (defScope s_map_of) (d_map_of.dvs K) (d_map_of.kws K) (He.ga K "map_of") fd := T.c.def_ 58 (d := d_map_of) rfl
theorem fd_maps_of (T : Tx K mg) : ∃ fd, FunD K "maps_of" "maps_of" (defArgs s_maps_of) (defBody s_maps_of) (defScope s_maps_of) (d_maps_of.dvs K) (d_maps_of.kws K) (He.ga K "maps_of") fd := T.c.def_ 59 (d := d_maps_of) rfl
theorem fd_check_edition (T : Tx K mg) : ∃ fd, FunD K "check_edition" "check_edition" (defArgs s_check_edition) (defBody s_check_edition) (defScope s_check_edition) (d_check_edition.dvs K) (d_check_edition.kws K) (He.ga K "check_edition") fd := T.c.def_ 60 (d := d_check_edition) rfl
theorem fd_check_editions (T : Tx K mg) : ∃ fd, FunD K "check_editions" "check_editions" (defArgs s_check_editions) (defBody s_check_editions) (defScope s_check_editions) (d_check_editions.dvs K) (d_check_editions.kws K) (He.ga K "check_editions") fd := T.c.def_ 61 (d := d_check_editions) rfl
theorem fd_differing_arguments (T : Tx K mg) : ∃ fd, FunD K "differing_arguments" "differing_arguments" (defArgs s_differing_arguments) (defBody s_differing_arguments) (defScope s_differing_arguments) (d_differing_arguments.dvs K) (d_differing_arguments.kws K) (He.ga K "differing_arguments") fd := T.c.def_ 62 (d := d_differing_arguments) rfl
theorem fd_parting_argument (T : Tx K mg) : ∃ fd, FunD K "parting_argument" "parting_argument" (defArgs s_parting_argument) (defBody s_parting_argument) (defScope s_parting_argument) (d_parting_argument.dvs K) (d_parting_argument.kws K) (He.ga K "parting_argument") fd := T.c.def_ 63 (d := d_parting_argument) rfl
theorem fd_go_together (T : Tx K mg) : ∃ fd, FunD K "go_together" "go_together" (defArgs s_go_together) (defBody s_go_together) (defScope s_go_together) (d_go_together.dvs K) (d_go_together.kws K) (He.ga K "go_together") fd := T.c.def_ 64 (d := d_go_together) rfl
theorem fd__law_pool (T : Tx K mg) : ∃ fd, FunD K "_law_pool" "_law_pool" (defArgs s__law_pool) (defBody s__law_pool) (defScope s__law_pool) (d__law_pool.dvs K) (d__law_pool.kws K) (He.ga K "_law_pool") fd := T.c.def_ 65 (d := d__law_pool) rfl
theorem fd__law_draw (T : Tx K mg) : ∃ fd, FunD K "_law_draw" "_law_draw" (defArgs s__law_draw) (defBody s__law_draw) (defScope s__law_draw) (d__law_draw.dvs K) (d__law_draw.kws K) (He.ga K "_law_draw") fd := T.c.def_ 66 (d := d__law_draw) rfl
theorem fd__law_pick (T : Tx K mg) : ∃ fd, FunD K "_law_pick" "_law_pick" (defArgs s__law_pick) (defBody s__law_pick) (defScope s__law_pick) (d__law_pick.dvs K) (d__law_pick.kws K) (He.ga K "_law_pick") fd := T.c.def_ 67 (d := d__law_pick) rfl
theorem fd__law_names (T : Tx K mg) : ∃ fd, FunD K "_law_names" "_law_names" (defArgs s__law_names) (defBody s__law_names) (defScope s__law_names) (d__law_names.dvs K) (d__law_names.kws K) (He.ga K "_law_names") fd := T.c.def_ 68 (d := d__law_names) rfl
theorem fd__law_columns (T : Tx K mg) : ∃ fd, FunD K "_law_columns" "_law_columns" (defArgs s__law_columns) (defBody s__law_columns) (defScope s__law_columns) (d__law_columns.dvs K) (d__law_columns.kws K) (He.ga K "_law_columns") fd := T.c.def_ 69 (d := d__law_columns) rfl
theorem fd__law_some (T : Tx K mg) : ∃ fd, FunD K "_law_some" "_law_some" (defArgs s__law_some) (defBody s__law_some) (defScope s__law_some) (d__law_some.dvs K) (d__law_some.kws K) (He.ga K "_law_some") fd := T.c.def_ 70 (d := d__law_some) rfl
theorem fd__law_fits (T : Tx K mg) : ∃ fd, FunD K "_law_fits" "_law_fits" (defArgs s__law_fits) (defBody s__law_fits) (defScope s__law_fits) (d__law_fits.dvs K) (d__law_fits.kws K) (He.ga K "_law_fits") fd := T.c.def_ 71 (d := d__law_fits) rfl
theorem fd__law_column (T : Tx K mg) : ∃ fd, FunD K "_law_column" "_law_column" (defArgs s__law_column) (defBody s__law_column) (defScope s__law_column) (d__law_column.dvs K) (d__law_column.kws K) (He.ga K "_law_column") fd := T.c.def_ 72 (d := d__law_column) rfl
theorem fd__law_narrow (T : Tx K mg) : ∃ fd, FunD K "_law_narrow" "_law_narrow" (defArgs s__law_narrow) (defBody s__law_narrow) (defScope s__law_narrow) (d__law_narrow.dvs K) (d__law_narrow.kws K) (He.ga K "_law_narrow") fd := T.c.def_ 73 (d := d__law_narrow) rfl
theorem fd__law_col_after (T : Tx K mg) : ∃ fd, FunD K "_law_col_after" "_law_col_after" (defArgs s__law_col_after) (defBody s__law_col_after) (defScope s__law_col_after) (d__law_col_after.dvs K) (d__law_col_after.kws K) (He.ga K "_law_col_after") fd := T.c.def_ 74 (d := d__law_col_after) rfl
theorem fd__law_sheet_after (T : Tx K mg) : ∃ fd, FunD K "_law_sheet_after" "_law_sheet_after" (defArgs s__law_sheet_after) (defBody s__law_sheet_after) (defScope s__law_sheet_after) (d__law_sheet_after.dvs K) (d__law_sheet_after.kws K) (He.ga K "_law_sheet_after") fd := T.c.def_ 75 (d := d__law_sheet_after) rfl
theorem fd__law_change (T : Tx K mg) : ∃ fd, FunD K "_law_change" "_law_change" (defArgs s__law_change) (defBody s__law_change) (defScope s__law_change) (d__law_change.dvs K) (d__law_change.kws K) (He.ga K "_law_change") fd := T.c.def_ 76 (d := d__law_change) rfl
theorem fd__law_history (T : Tx K mg) : ∃ fd, FunD K "_law_history" "_law_history" (defArgs s__law_history) (defBody s__law_history) (defScope s__law_history) (d__law_history.dvs K) (d__law_history.kws K) (He.ga K "_law_history") fd := T.c.def_ 77 (d := d__law_history) rfl
theorem fd__law_longer (T : Tx K mg) : ∃ fd, FunD K "_law_longer" "_law_longer" (defArgs s__law_longer) (defBody s__law_longer) (defScope s__law_longer) (d__law_longer.dvs K) (d__law_longer.kws K) (He.ga K "_law_longer") fd := T.c.def_ 78 (d := d__law_longer) rfl
theorem fd__law_made_column (T : Tx K mg) : ∃ fd, FunD K "_law_made_column" "_law_made_column" (defArgs s__law_made_column) (defBody s__law_made_column) (defScope s__law_made_column) (d__law_made_column.dvs K) (d__law_made_column.kws K) (He.ga K "_law_made_column") fd := T.c.def_ 79 (d := d__law_made_column) rfl
theorem fd__law_made (T : Tx K mg) : ∃ fd, FunD K "_law_made" "_law_made" (defArgs s__law_made) (defBody s__law_made) (defScope s__law_made) (d__law_made.dvs K) (d__law_made.kws K) (He.ga K "_law_made") fd := T.c.def_ 80 (d := d__law_made) rfl
theorem fd__law_rank (T : Tx K mg) : ∃ fd, FunD K "_law_rank" "_law_rank" (defArgs s__law_rank) (defBody s__law_rank) (defScope s__law_rank) (d__law_rank.dvs K) (d__law_rank.kws K) (He.ga K "_law_rank") fd := T.c.def_ 81 (d := d__law_rank) rfl
theorem fd__law_ordered (T : Tx K mg) : ∃ fd, FunD K "_law_ordered" "_law_ordered" (defArgs s__law_ordered) (defBody s__law_ordered) (defScope s__law_ordered) (d__law_ordered.dvs K) (d__law_ordered.kws K) (He.ga K "_law_ordered") fd := T.c.def_ 82 (d := d__law_ordered) rfl
theorem fd__law_numbers (T : Tx K mg) : ∃ fd, FunD K "_law_numbers" "_law_numbers" (defArgs s__law_numbers) (defBody s__law_numbers) (defScope s__law_numbers) (d__law_numbers.dvs K) (d__law_numbers.kws K) (He.ga K "_law_numbers") fd := T.c.def_ 83 (d := d__law_numbers) rfl
theorem fd__law_col_n (T : Tx K mg) : ∃ fd, FunD K "_law_col_n" "_law_col_n" (defArgs s__law_col_n) (defBody s__law_col_n) (defScope s__law_col_n) (d__law_col_n.dvs K) (d__law_col_n.kws K) (He.ga K "_law_col_n") fd := T.c.def_ 84 (d := d__law_col_n) rfl
theorem fd__law_pass (T : Tx K mg) : ∃ fd, FunD K "_law_pass" "_law_pass" (defArgs s__law_pass) (defBody s__law_pass) (defScope s__law_pass) (d__law_pass.dvs K) (d__law_pass.kws K) (He.ga K "_law_pass") fd := T.c.def_ 85 (d := d__law_pass) rfl
theorem fd__law_born (T : Tx K mg) : ∃ fd, FunD K "_law_born" "_law_born" (defArgs s__law_born) (defBody s__law_born) (defScope s__law_born) (d__law_born.dvs K) (d__law_born.kws K) (He.ga K "_law_born") fd := T.c.def_ 86 (d := d__law_born) rfl
theorem fd__law_missing_value (T : Tx K mg) : ∃ fd, FunD K "_law_missing_value" "_law_missing_value" (defArgs s__law_missing_value) (defBody s__law_missing_value) (defScope s__law_missing_value) (d__law_missing_value.dvs K) (d__law_missing_value.kws K) (He.ga K "_law_missing_value") fd := T.c.def_ 87 (d := d__law_missing_value) rfl
theorem fd__law_map_of (T : Tx K mg) : ∃ fd, FunD K "_law_map_of" "_law_map_of" (defArgs s__law_map_of) (defBody s__law_map_of) (defScope s__law_map_of) (d__law_map_of.dvs K) (d__law_map_of.kws K) (He.ga K "_law_map_of") fd := T.c.def_ 88 (d := d__law_map_of) rfl
theorem fd__law_dead (T : Tx K mg) : ∃ fd, FunD K "_law_dead" "_law_dead" (defArgs s__law_dead) (defBody s__law_dead) (defScope s__law_dead) (d__law_dead.dvs K) (d__law_dead.kws K) (He.ga K "_law_dead") fd := T.c.def_ 89 (d := d__law_dead) rfl
theorem fd__law_maps (T : Tx K mg) : ∃ fd, FunD K "_law_maps" "_law_maps" (defArgs s__law_maps) (defBody s__law_maps) (defScope s__law_maps) (d__law_maps.dvs K) (d__law_maps.kws K) (He.ga K "_law_maps") fd := T.c.def_ 90 (d := d__law_maps) rfl
theorem fd__law_parting (T : Tx K mg) : ∃ fd, FunD K "_law_parting" "_law_parting" (defArgs s__law_parting) (defBody s__law_parting) (defScope s__law_parting) (d__law_parting.dvs K) (d__law_parting.kws K) (He.ga K "_law_parting") fd := T.c.def_ 91 (d := d__law_parting) rfl
theorem fd__law_tables (T : Tx K mg) : ∃ fd, FunD K "_law_tables" "_law_tables" (defArgs s__law_tables) (defBody s__law_tables) (defScope s__law_tables) (d__law_tables.dvs K) (d__law_tables.kws K) (He.ga K "_law_tables") fd := T.c.def_ 92 (d := d__law_tables) rfl
theorem fd__law_refused (T : Tx K mg) : ∃ fd, FunD K "_law_refused" "_law_refused" (defArgs s__law_refused) (defBody s__law_refused) (defScope s__law_refused) (d__law_refused.dvs K) (d__law_refused.kws K) (He.ga K "_law_refused") fd := T.c.def_ 93 (d := d__law_refused) rfl
theorem fd_law (T : Tx K mg) : ∃ fd, FunD K "law" "law" (defArgs s_law) (defBody s_law) (defScope s_law) (d_law.dvs K) (d_law.kws K) (He.ga K "law") fd := T.c.def_ 94 (d := d_law) rfl
theorem ex_PARTS (T : Tx K mg) : He.tupB K "PARTS" [(.str "name"), (.str "greatest"), (.str "default"), (.str "number")] = true := List.all_eq_true.mp T.e _ (List.mem_of_getElem? (i := 0) rfl)
theorem ex_WAYS (T : Tx K mg) : He.tupB K "WAYS" [(.str "cut"), (.str "none"), (.str "refuse")] = true := List.all_eq_true.mp T.e _ (List.mem_of_getElem? (i := 1) rfl)
theorem ex_BadEdition_x (T : Tx K mg) : oexB K "BadEdition" "edition" = true := List.all_eq_true.mp T.e _ (List.mem_of_getElem? (i := 2) rfl)
theorem ex_Column (T : Tx K mg) : insB K "Column" = true := List.all_eq_true.mp T.e _ (List.mem_of_getElem? (i := 3) rfl)
theorem ex_Map (T : Tx K mg) : insB K "Map" = true := List.all_eq_true.mp T.e _ (List.mem_of_getElem? (i := 4) rfl)
theorem ex_Map_fnc (T : Tx K mg) : PySem.W.fnIn K (He.ma K (He.ga K "Map") "__call__") = true := List.all_eq_true.mp T.e _ (List.mem_of_getElem? (i := 5) rfl)
end
/-! ### the head and the end -/
abbrev RowR : PySem.W.OpenRow := PySem.W.OpenLaw.row PySem.Challenge.rw_editionrows_k41_whole_going_together
abbrev hkR : PySem.W.Hook := hookP 5 fal fnl exl
def obR (s : PySem.W.SharedT) : AlP := obsP 5 fal fnl exl (HandSHeadRun.getT s)
theorem obR_eq (s : PySem.W.SharedT) : obR s = hkR.obs s.abs := obsP_eq (HandSHeadRun.getT_eq s)
abbrev looseR : List PySem.Str := ((["_wall", "TableError", "BadColumn", "BadPart", "BadChange", "BadEdition", "BadValue", "UnknownName", "TooMany", "MISSING", "LETTERS", "LONGEST_NAME", "MOST_GREATEST", "is_whole", "is_list", "is_word", "is_name", "is_greatest", "is_value", "is_within", "is_missing", "values_to", "in_order", "PARTS", "Column"] : List PySem.Str) ++ (["column_named", "column_numbered", "WAYS", "MOST_COLUMNS", "is_change", "has_parts", "is_single_part", "is_way", "kind_of", "hindrance", "add_hindrance", "columns_behind", "changed_column", "changed_value", "value_above", "MOST_CHANGES", "is_edition", "edition_of", "numbered_columns", "columns_of_editions", "births", "drops", "History", "is_given", "is_argument"] : List PySem.Str) ++ (["Map", "changes_of", "led_value", "led_pairs", "is_dead", "map_of", "maps_of", "check_edition", "check_editions", "differing_arguments", "parting_argument", "go_together", "_law_pool", "_law_draw", "_law_pick", "_law_names", "_law_columns", "_law_some", "_law_fits", "_law_column", "_law_narrow", "_law_col_after", "_law_sheet_after", "_law_change", "_law_history"] : List PySem.Str) ++ (["_law_longer", "_law_made_column", "_law_made", "_law_rank", "_law_ordered", "_law_numbers", "_law_col_n", "_law_pass", "_law_born", "_law_missing_value", "_law_map_of", "_law_dead", "_law_maps", "_law_parting", "_law_tables", "_law_refused"] : List PySem.Str))
theorem runL (w : World) : ∀ os : PySem.OsState, (HandSHeadRun.endF (HandSHeadRun.stepQ (HandSHeadRun.denQ HandSHeadRun.tabQ) RowR.prog w) 9000 RowR.prog w os).map (fun s => (HandSHeadRun.looksF RowR.prog (PySem.W.boot_heap w.params) s.abs, HandSHeadRun.seenQ (PySem.W.view RowR.prog [99]) looseR (PySem.importedModules RowR.prog.main.body) (fun s => PySem.W.xlAt (PySem.W.view RowR.prog [99]) [] s && PySem.W.recOk RowR.toRowW.records s) s.abs)) = some (true, PySem.W.openGood (PySem.W.view RowR.prog [99]) looseR) := by
  intro os
  kernel_rfl
theorem runO0 (w : World) : ∀ os : PySem.OsState, (HandSHeadRun.endF (HandSHeadRun.stepQ (HandSHeadRun.denQ HandSHeadRun.tabQ) RowR.prog w) 9000 RowR.prog w os).map (fun s => obsP 5 fa0 fn0 exl (HandSHeadRun.getT s)) = some (valP fn0) := by
  intro os
  kernel_rfl
theorem obs_two {n : Nat} {fa fb : List He.Fa} {fn gn : List He.DefD} {ex ey : PySem.W.Frag → Bool} {g : Addr → Option Obj} (h1 : obsP n fa fn ex g = valP fn) (h2 : obsP n fb gn ey g = valP gn) : obsP n (fa ++ fb) (fn ++ gn) ex g = valP (fn ++ gn) := by
  have a1 : ((fa.all fun f => f.ok (He.frG g (asW g n))) && fn.all fun d => d.ok (He.frG g (asW g n))) = true := congrArg (fun z : AlP => z.1.1) h1
  have a2 : fn.map (fun d => He.fnW (He.frG g (asW g n)) d.at_) = fn.map He.DefD.val := (congrArg (fun z : AlP => z.1.2) h1).trans (mapV_eq fn)
  have a3 : ex (He.frG g (asW g n)) = true := congrArg (fun z : AlP => z.2) h1
  have b1 : ((fb.all fun f => f.ok (He.frG g (asW g n))) && gn.all fun d => d.ok (He.frG g (asW g n))) = true := congrArg (fun z : AlP => z.1.1) h2
  have b2 : gn.map (fun d => He.fnW (He.frG g (asW g n)) d.at_) = gn.map He.DefD.val := (congrArg (fun z : AlP => z.1.2) h2).trans (mapV_eq gn)
  rw [valP_eq]
  rw [Bool.and_eq_true] at a1 b1
  show ((((fa ++ fb).all fun f => f.ok (He.frG g (asW g n))) && (fn ++ gn).all fun d => d.ok (He.frG g (asW g n)), (fn ++ gn).map fun d => He.fnW (He.frG g (asW g n)) d.at_), ex (He.frG g (asW g n))) = ((true, (fn ++ gn).map He.DefD.val), true)
  rw [List.all_append, List.all_append, a1.1, a1.2, b1.1, b1.2, List.map_append, a2, b2, List.map_append, a3]
  rfl
theorem join_run {S A B C : Type} {o : Option S} {f : S → A} {g : S → B} {h : S → C} {a : A} {b : B} {c : C} (e1 : o.map (fun s => (f s, g s)) = some (a, b)) (e2 : o.map h = some c) : o.map (fun s => (f s, g s, h s)) = some (a, b, c) := by
  cases o with
  | none => cases e1
  | some s =>
    have l : (f s, g s) = (a, b) := Option.some.inj e1
    have l1 : f s = a := congrArg Prod.fst l
    have l2 : g s = b := congrArg Prod.snd l
    have r : h s = c := Option.some.inj e2
    show some (f s, g s, h s) = some (a, b, c)
    rw [l1, l2, r]
theorem join_obs {n : Nat} {fa fb : List He.Fa} {fn gn : List He.DefD} {ex ey : PySem.W.Frag → Bool} {o : Option PySem.W.SharedT} (e1 : o.map (fun s => obsP n fa fn ex (HandSHeadRun.getT s)) = some (valP fn)) (e2 : o.map (fun s => obsP n fb gn ey (HandSHeadRun.getT s)) = some (valP gn)) :
    o.map (fun s => obsP n (fa ++ fb) (fn ++ gn) ex (HandSHeadRun.getT s)) = some (valP (fn ++ gn)) := by
  cases o with
  | none => cases e1
  | some s => exact congrArg some (obs_two (Option.some.inj e1) (Option.some.inj e2))
theorem runR (w : World) : HandSHeadRun.RunEq RowR (PySem.W.view RowR.prog [99]) hkR obR 9000 looseR w := fun os => join_run (runL w os) (runO0 w os)
section
variable {P : Program} {w : World} {K : PySem.W.Frag} {mg : Str → Option Value} {base : Heap}
/-! is_whole -/
def sp_is_whole (K : PySem.W.Frag) : Sp := fun vs H Q _ => ∃ (x : V) (t : String), vs = [x] ∧ TyX K H x (.type t) ∧ Q (.bl (isI x)) H
theorem ok_is_whole (T : Tx K mg) : Callee P w K mg base CX0 1 "is_whole" ["value"] [] (sp_is_whole K) := by
  refine mkCallee (fd_is_whole T) (mg_is_whole T) sc_is_whole (fun _ _ _ _ _ _ us hl => match us, hl with | [_], _ => rfl) (fun vs H Q E h => ?_) (fun cdv A outer s H vs Q E hr h => ?_)
  · obtain ⟨x, t, rfl, _⟩ := h
    rfl
  · obtain ⟨x, t, rfl, ty, k⟩ := h
    obtain ⟨ba, bb, e1, e2, e3⟩ := kit_whole ty
    refine ⟨_, pss_one (ps_ret (pe_and (pe_callB call_isi (by rfl) (fr_isinstance T) (by decide +kernel) (pa_cons (pv 0) (pa_cons (pe_bltn (v := .ty "int") (by rfl) (fr_int T) (by decide +kernel) rfl) pa_nil)))
      (pe_one (pe_not (pe_callB call_isi (by rfl) (fr_isinstance T) (by decide +kernel) (pa_cons (pv 0) (pa_cons (pe_bltn (v := .ty "bool") (by rfl) (fr_bool T) (by decide +kernel) rfl) pa_nil))))))), ?_⟩
    refine ⟨x, rfl, x, .ty "int", _, _, ba, rfl, .ty "int", ty, kit_ty e1, ba, rfl, ?_⟩
    cases ba with
    | false =>
      refine iteF ?_
      rw [← e3] at k
      exact k
    | true =>
      refine iteT ⟨x, rfl, x, .ty "bool", _, _, bb, rfl, .ty "bool", ty, kit_ty e2, bb, rfl, ?_⟩
      rw [← e3] at k
      exact k
/-! is_list, of a list or a tuple -/
theorem sqL_ty {K : PySem.W.Frag} {H : Hp} {a : Addr} {xs : List V} (h : SqL K H a xs) : TyX K H (.ref a) (.type "list") := by
  rcases h with (h | ⟨o, h⟩) | ⟨o, its, n, h, hc, _⟩
  · exact .base (.lst h)
  · exact .base (.frz h)
  · exact .kList h hc
def sp_is_list (K : PySem.W.Frag) : Sp := fun vs H Q _ => ∃ (a : Addr) (xs : List V), vs = [.ref a] ∧ SqL K H a xs ∧ ∀ H', Same H H' → Q (.bl true) H'
theorem ok_is_list (T : Tx K mg) : Callee P w K mg base CX0 1 "is_list" ["value"] [] (sp_is_list K) := by
  refine mkCallee (fd_is_list T) (mg_is_list T) sc_is_list (fun _ _ _ _ _ _ us hl => match us, hl with | [_], _ => rfl) (fun vs H Q E h => ?_) (fun cdv A outer s H vs Q E hr h => ?_)
  · obtain ⟨a, xs, rfl, _⟩ := h
    rfl
  · obtain ⟨a, xs, rfl, hx, k⟩ := h
    refine ⟨_, pss_one (ps_ret (pe_callB call_isiT (by rfl) (fr_isinstance T) (by decide +kernel) (pa_cons (pv 0) (pa_cons (pe_tup (pa_cons (pe_bltn (v := .ty "list") (by rfl) (fr_list T) (by decide +kernel) rfl) (pa_cons (pe_bltn (v := .ty "tuple") (by rfl) (fr_tuple T) (by decide +kernel) rfl) pa_nil))) pa_nil)))), ?_⟩
    refine ⟨_, rfl, (by show 2 ≤ sizeLine; decide), fun t nt => ?_⟩
    have s := same_new (o := .tup [.ty "list", .ty "tuple"]) nt
    exact ⟨.ref a, t, _, _, _, true, rfl, upd_same, .cons (.ty "list") (.cons (.ty "tuple") .nil), sqL_ty (s.seq hx), kitAny_cons (b := true) (kit_ty (by decide +kernel)) (fun z => by cases z) (fun _ => rfl), k _ s⟩
/-! is_word, of any value and a tuple of words -/
def wordV (x : V) (xs : List V) : Bool := match x with
  | .str z => inV (.str z) xs
  | _ => false
theorem kit_strW {K : PySem.W.Frag} {H : Hp} {x : V} {t : String} (ty : TyX K H x (.type t)) : ∃ a : Bool, kitB t "str" = some a ∧ ((a = true ∧ ∃ z, x = .str z) ∨ (a = false ∧ ∀ xs, wordV x xs = false)) := by
  cases ty with
  | base h =>
    cases h with
    | str z => exact ⟨true, by decide +kernel, .inl ⟨rfl, z, rfl⟩⟩
    | _ => exact ⟨false, by decide +kernel, .inr ⟨rfl, fun _ => rfl⟩⟩
  | _ => exact ⟨false, by decide +kernel, .inr ⟨rfl, fun _ => rfl⟩⟩
def sp_is_word (K : PySem.W.Frag) : Sp := fun vs H Q _ => ∃ (x : V) (t : String) (p : Addr) (xs : List V), vs = [x, .ref p] ∧ TyX K H x (.type t) ∧ SqT K H p xs ∧ xs.all flatV = true ∧ Q (.bl (wordV x xs)) H
theorem ok_is_word (T : Tx K mg) : Callee P w K mg base CX0 1 "is_word" ["value", "words"] [] (sp_is_word K) := by
  refine mkCallee (fd_is_word T) (mg_is_word T) sc_is_word (fun _ _ _ _ _ _ us hl => match us, hl with | [_, _], _ => rfl) (fun vs H Q E h => ?_) (fun cdv A outer s H vs Q E hr h => ?_)
  · obtain ⟨x, t, p, xs, rfl, _⟩ := h
    rfl
  · obtain ⟨x, t, p, xs, rfl, ty, hp, hf, k⟩ := h
    obtain ⟨a, e1, e2⟩ := kit_strW ty
    refine ⟨_, pss_one (ps_ret (pe_and (pe_callB call_isi (by rfl) (fr_isinstance T) (by decide +kernel) (pa_cons (pv 0) (pa_cons (pe_bltn (v := .ty "str") (by rfl) (fr_str T) (by decide +kernel) rfl) pa_nil)))
      (pe_one (pe_cmpR op_in_seq (pv 0) (pv 1) (by rfl))))), ?_⟩
    refine ⟨x, rfl, x, .ty "str", _, _, a, rfl, .ty "str", ty, kit_ty e1, a, rfl, ?_⟩
    rcases e2 with ⟨rfl, z, rfl⟩ | ⟨rfl, e⟩
    · exact iteT ⟨_, rfl, _, rfl, p, xs, rfl, .inr hp, rfl, hf, k⟩
    · rw [e xs] at k
      exact k
/-! is_name -/
def letters : Str := "abcdefghijklmnopqrstuvwxyz"
def isNm : V → Bool
  | .str n => decide (1 ≤ n.length) && (decide (n.length ≤ 8) && n.cps.toList.all fun c => decide (c ∈ letters.cps.toList))
  | _ => false
def sp_is_name (K : PySem.W.Frag) : Sp := fun vs H Q _ => ∃ (x : V) (t : String), vs = [x] ∧ TyX K H x (.type t) ∧ (∀ n, x = .str n → n.length ≤ 1000) ∧ ∀ H', Same H H' → Q (.bl (isNm x)) H'
theorem kit_str2 {K : PySem.W.Frag} {H : Hp} {x : V} {t : String} (ty : TyX K H x (.type t)) : ∃ a : Bool, kitB t "str" = some a ∧ ((a = true ∧ ∃ z, x = .str z) ∨ (a = false ∧ ∀ z, x ≠ .str z)) := by
  cases ty with
  | base h =>
    cases h with
    | str z => exact ⟨true, by decide +kernel, .inl ⟨rfl, z, rfl⟩⟩
    | _ => exact ⟨false, by decide +kernel, .inr ⟨rfl, fun z h => by cases h⟩⟩
  | _ => exact ⟨false, by decide +kernel, .inr ⟨rfl, fun z h => by cases h⟩⟩
theorem ok_is_name (T : Tx K mg) : Callee P w K mg base CX0 1 "is_name" ["value"] [] (sp_is_name K) := by
  refine mkCallee (fd_is_name T) (mg_is_name T) sc_is_name (fun _ _ _ _ _ _ us hl => match us, hl with | [_], _ => rfl) (fun vs H Q E h => ?_) (fun cdv A outer s H vs Q E hr h => ?_)
  · obtain ⟨x, t, rfl, _⟩ := h
    rfl
  · obtain ⟨x, t, rfl, ty, hlen, k⟩ := h
    obtain ⟨tk, gL⟩ := ms_LETTERS T
    obtain ⟨tk2, gN⟩ := mi_LONGEST_NAME T
    obtain ⟨a, e1, e2⟩ := kit_str2 ty
    have nd := sc_is_name.nd
    refine ⟨_, pss_cons (ps_if (PW.pt (pw_or (pt_not (pt_val (pe_callB call_isi (by rfl) (fr_isinstance T) (by decide +kernel) (pa_cons (pv 0) (pa_cons (pe_bltn (v := .ty "str") (by rfl) (fr_str T) (by decide +kernel) rfl) pa_nil)))))
        (pw_or1 (pt_not (pt_chain op_le op_le pe_int (pe_callB call_len_str (by rfl) (fr_len T) PySem.boot_len (pa_cons (pv 0) pa_nil)) (pe_glob (v := .int 8) (by rfl) gN ⟨_, rfl⟩)))))) (pss_one (ps_ret pe_bl)) pss_nil)
      (pss_one (ps_ret (pe_callB (cr_all rfl) (by rfl) (fr_all T) (by decide +kernel) (pa_cons (pe_lc (own := [("letter", 1)]) (g := gName 1) (tt := tYes) rfl nd (pi_str (pv 0)) (blkOk_by (N := ["value", "letter"]) (sc := defScope s_is_name) (by decide +kernel))
        (fun _ _ _ _ _ => pg_name (i := 1) nd rfl (Or.inl rfl)) (fun _ _ _ _ _ => pts_nil) (fun _ _ _ _ _ => pe_cmpR op_in_sign (pv 1) (pe_glob (v := .str letters) (by rfl) gL ⟨_, rfl⟩) (by rfl))) pa_nil)))), ?_⟩
    refine ⟨x, rfl, x, .ty "str", _, _, a, rfl, .ty "str", ty, kit_ty e1, _, rfl, ?_⟩
    rcases e2 with ⟨rfl, z, rfl⟩ | ⟨rfl, hz⟩
    · have hl := hlen z rfl
      refine iteF ⟨_, rfl, z, rfl, Nat.le_trans hl (by decide), _, _, rfl, rfl, decide ((1 : Int) ≤ (z.length : Int)), rfl, ?_⟩
      have e0 : isNm (.str z) = (decide ((1 : Int) ≤ (z.length : Int)) && (decide ((z.length : Int) ≤ 8) && z.cps.toList.all fun c => decide (c ∈ letters.cps.toList))) := by
        have a1 : decide (1 ≤ z.length) = decide ((1 : Int) ≤ (z.length : Int)) := by
          rw [decide_eq_decide]
          omega
        have a2 : decide (z.length ≤ 8) = decide ((z.length : Int) ≤ 8) := by
          rw [decide_eq_decide]
          omega
        show (decide (1 ≤ z.length) && (decide (z.length ≤ 8) && _)) = _
        rw [a1, a2]
      cases h1 : decide ((1 : Int) ≤ (z.length : Int)) with
      | false =>
        have e9 : isNm (.str z) = false := by
          rw [e0, h1]
          rfl
        rw [e9] at k
        exact iteF ⟨false, rfl, iteT (k H (Same.refl _))⟩
      | true =>
        refine iteT ⟨_, _, rfl, rfl, decide ((z.length : Int) ≤ 8), rfl, ?_⟩
        rw [h1] at e0
        cases h2 : decide ((z.length : Int) ≤ 8) with
        | false =>
          have e9 : isNm (.str z) = false := by
            rw [e0, h2]
            rfl
          rw [e9] at k
          exact iteT (k H (Same.refl _))
        | true =>
          rw [h2, Bool.true_and, Bool.true_and] at e0
          rw [e0] at k
          refine iteF (nxt ?_)
          dsimp only
          refine pl_r1 (tlc_S (fun c => .bl (decide (c ∈ letters.cps.toList))) z ?_ ?_ ?_ ?_ ?_)
          · exact fun R r => ⟨_, rfl, r⟩
          · exact Nat.le_trans hl (by decide)
          · exact fun x => rfl
          · exact fun c hc H' s' R r => ⟨_, rfl, c, letters, rfl, rfl, r H' (Same.refl _)⟩
          · intro D H' hD sD hD2
            refine ⟨D, z.cps.toList.map fun c => decide (c ∈ letters.cps.toList), rfl, sqL_of (by rw [List.map_map]; exact hD2), ?_⟩
            rw [List.all_map]
            exact k H' sD
    · have e0 : isNm x = false := by
        cases x with
        | str z => exact absurd rfl (hz z)
        | _ => rfl
      rw [e0] at k
      exact k H (Same.refl _)
/-! is_greatest -/
def isGr : V → Bool
  | .int i => decide (1 ≤ i) && decide (i ≤ 99)
  | _ => false
def sp_is_greatest (K : PySem.W.Frag) : Sp := fun vs H Q _ => ∃ (x : V) (t : String), vs = [x] ∧ TyX K H x (.type t) ∧ Q (.bl (isGr x)) H
theorem ok_is_greatest (T : Tx K mg) : Callee P w K mg base CX0 2 "is_greatest" ["value"] [] (sp_is_greatest K) := by
  have C1 := ok_is_whole (P := P) (w := w) (base := base) T
  refine mkCallee (fd_is_greatest T) (mg_is_greatest T) sc_is_greatest (fun _ _ _ _ _ _ us hl => match us, hl with | [_], _ => rfl) (fun vs H Q E h => ?_) (fun cdv A outer s H vs Q E hr h => ?_)
  · obtain ⟨x, t, rfl, _⟩ := h
    rfl
  · obtain ⟨x, t, rfl, ty, k⟩ := h
    obtain ⟨tk, gM⟩ := mi_MOST_GREATEST T
    refine ⟨_, pss_one (ps_ret (pe_and (pcall C1 hr (pa_cons (pv 0) pa_nil)) (pe_one (pe_chain op_le op_le pe_int (pv 0) (pe_glob (v := .int 99) (by rfl) gM ⟨_, rfl⟩))))), ?_⟩
    refine ⟨x, rfl, x, t, rfl, ty, _, rfl, ?_⟩
    cases x with
    | int i =>
      refine iteT ⟨_, rfl, _, _, rfl, rfl, _, rfl, ?_⟩
      have e : isGr (.int i) = (decide (1 ≤ i) && decide (i ≤ 99)) := rfl
      rw [e] at k
      cases h1 : decide (1 ≤ i) with
      | false =>
        rw [h1] at k
        exact k
      | true =>
        rw [h1] at k
        exact ⟨_, _, rfl, rfl, k⟩
    | _ => exact iteF k
/-! is_value -/
def isVal : V → Bool
  | .non => true
  | .int i => decide (0 ≤ i)
  | _ => false
def sp_is_value (K : PySem.W.Frag) : Sp := fun vs H Q _ => ∃ (x : V) (t : String), vs = [x] ∧ TyX K H x (.type t) ∧ Q (.bl (isVal x)) H
theorem ok_is_value (T : Tx K mg) : Callee P w K mg base CX0 2 "is_value" ["value"] [] (sp_is_value K) := by
  have C1 := ok_is_whole (P := P) (w := w) (base := base) T
  refine mkCallee (fd_is_value T) (mg_is_value T) sc_is_value (fun _ _ _ _ _ _ us hl => match us, hl with | [_], _ => rfl) (fun vs H Q E h => ?_) (fun cdv A outer s H vs Q E hr h => ?_)
  · obtain ⟨x, t, rfl, _⟩ := h
    rfl
  · obtain ⟨x, t, rfl, ty, k⟩ := h
    refine ⟨_, pss_one (ps_ret (pe_or (pe_cmpR op_isN (pv 0) pe_non (nomark _)) (pe_one (pe_and (pcall C1 hr (pa_cons (pv 0) pa_nil)) (pe_one (pe_cmpR op_ge (pv 0) pe_int (nomark _))))))), ?_⟩
    refine ⟨x, rfl, rfl, _, rfl, ?_⟩
    by_cases hx : x = .non
    · subst hx
      exact k
    · rw [decide_eq_false hx]
      refine iteF ⟨x, rfl, x, t, rfl, ty, _, rfl, ?_⟩
      cases x with
      | int i => exact ⟨_, rfl, _, _, rfl, rfl, k⟩
      | non => exact absurd rfl hx
      | _ => exact k
/-! is_within -/
def isIn (g : Int) : V → Bool
  | .non => true
  | .int i => decide (0 ≤ i) && decide (i ≤ g)
  | _ => false
def sp_is_within (K : PySem.W.Frag) : Sp := fun vs H Q _ => ∃ (x : V) (g : Int) (t : String), vs = [x, .int g] ∧ TyX K H x (.type t) ∧ Q (.bl (isIn g x)) H
theorem ok_is_within (T : Tx K mg) : Callee P w K mg base CX0 3 "is_within" ["value", "greatest"] [] (sp_is_within K) := by
  have C1 := ok_is_value (P := P) (w := w) (base := base) T
  refine mkCallee (fd_is_within T) (mg_is_within T) sc_is_within (fun _ _ _ _ _ _ us hl => match us, hl with | [_, _], _ => rfl) (fun vs H Q E h => ?_) (fun cdv A outer s H vs Q E hr h => ?_)
  · obtain ⟨x, g, t, rfl, _⟩ := h
    rfl
  · obtain ⟨x, g, t, rfl, ty, k⟩ := h
    refine ⟨_, pss_one (ps_ret (pe_and (pcall C1 hr (pa_cons (pv 0) pa_nil)) (pe_one (pe_or (pe_cmpR op_isN (pv 0) pe_non (nomark _)) (pe_one (pe_cmpR op_le (pv 0) (pv 1) (nomark _))))))), ?_⟩
    refine ⟨x, rfl, x, t, rfl, ty, _, rfl, ?_⟩
    cases x with
    | non => exact ⟨_, rfl, rfl, _, rfl, k⟩
    | int i =>
      by_cases hi : 0 ≤ i
      · have e : isVal (.int i) = true := decide_eq_true hi
        rw [e]
        refine ⟨_, rfl, rfl, _, rfl, ?_⟩
        refine ⟨_, rfl, _, rfl, _, _, rfl, rfl, ?_⟩
        have e2 : isIn g (.int i) = decide (i ≤ g) := by
          show (decide (0 ≤ i) && decide (i ≤ g)) = _
          rw [decide_eq_true hi, Bool.true_and]
        rw [e2] at k
        exact k
      · have e : isVal (.int i) = false := decide_eq_false hi
        rw [e]
        have e2 : isIn g (.int i) = false := by
          show (decide (0 ≤ i) && decide (i ≤ g)) = _
          rw [decide_eq_false hi, Bool.false_and]
        rw [e2] at k
        exact k
    | _ => exact k
/-! is_missing -/
def isMis : V → Bool
  | .str z => decide (z = "missing")
  | _ => false
theorem word_mis (x : V) : wordV x [.str "missing"] = isMis x := by
  cases x with
  | str z =>
    show (("missing" : Str) == z || false) = decide (z = "missing")
    rw [Bool.or_false]
    by_cases h : z = "missing"
    · rw [h, decide_eq_true rfl]
      exact beq_self_eq_true _
    · rw [decide_eq_false h]
      exact beq_eq_false_iff_ne.mpr (fun e => h e.symm)
  | _ => rfl
def sp_is_missing (K : PySem.W.Frag) : Sp := fun vs H Q _ => ∃ (x : V) (t : String), vs = [x] ∧ TyX K H x (.type t) ∧ (∀ H', Same H H' → TyX K H' x (.type t)) ∧ ∀ H', Same H H' → Q (.bl (isMis x)) H'
theorem ok_is_missing (T : Tx K mg) : Callee P w K mg base CX0 2 "is_missing" ["value"] [] (sp_is_missing K) := by
  have C1 := ok_is_word (P := P) (w := w) (base := base) T
  refine mkCallee (fd_is_missing T) (mg_is_missing T) sc_is_missing (fun _ _ _ _ _ _ us hl => match us, hl with | [_], _ => rfl) (fun vs H Q E h => ?_) (fun cdv A outer s H vs Q E hr h => ?_)
  · obtain ⟨x, t, rfl, _⟩ := h
    rfl
  · obtain ⟨x, t, rfl, ty, tm, k⟩ := h
    obtain ⟨tk, gM⟩ := ms_MISSING T
    refine ⟨_, pss_one (ps_ret (pcall C1 hr (pa_cons (pv 0) (pa_cons (pe_tup (pa_cons (pe_glob (v := .str "missing") (by rfl) gM ⟨_, rfl⟩) pa_nil)) pa_nil)))), ?_⟩
    refine ⟨_, rfl, by decide, fun p np => ⟨x, t, p, _, rfl, tm _ (same_new np), sqT_of upd_same, rfl, ?_⟩⟩
    rw [word_mis]
    exact k _ (same_new np)
/-! values_to -/
def sp_values_to : Sp := fun vs H Q _ => ∃ g : Int, vs = [.int g] ∧ 0 ≤ g ∧ g ≤ 1000000 ∧ ∀ p H', H p = none → Same H H' → H' p = some (.lst (valsTo g)) → Q (.ref p) H'
theorem ok_values_to (T : Tx K mg) : Callee P w K mg base CX0 1 "values_to" ["greatest"] [] sp_values_to := by
  refine mkCallee (fd_values_to T) (mg_values_to T) sc_values_to (fun _ _ _ _ _ _ us hl => match us, hl with | [_], _ => rfl) (fun vs H Q E h => ?_) (fun cdv A outer s H vs Q E hr h => ?_)
  · obtain ⟨g, rfl, _⟩ := h
    rfl
  · obtain ⟨g, rfl, h0, h1, k⟩ := h
    refine ⟨_, pss_one (ps_ret (pe_op op_cat (pe_lst (pa_cons pe_non pa_nil)) (pe_listRg rfl (by rfl) (fr_list T) (prg_1 (by rfl) (fr_range T) (pe_op op_add (pv 0) pe_int))))), ?_⟩
    refine ⟨by decide, fun l hl => ?_⟩
    refine ⟨_, rfl, _, _, rfl, rfl, _, rfl, .of_le (by omega) (by omega) (by omega) (by omega), fun q hq => ?_⟩
    have nq : l ≠ q := ne_of_none upd_same hq
    refine ⟨l, q, _, _, rfl, rfl, (by rw [upd_ne nq]; exact upd_same), upd_same, ?_, fun p hp => ?_⟩
    · rw [rgV_length]
      have : sizeLine = 16777216 := by decide
      rw [this]
      show 1 + (g + 1 - 0).toNat ≤ _
      omega
    · have s1 : Same H (upd (upd H l (.lst [.non])) q (.lst (rgV 0 (g + 1)))) := (same_new hl).trans (same_new hq)
      exact k p _ (s1.free hp) (s1.trans (same_new hp)) upd_same
/-! Column.__init__, where its parts fit -/
def colFs (n : Str) (g : Int) (d : V) (k : Int) : List (Str × V) := [("name", .str n), ("greatest", .int g), ("default", d), ("number", .int k)]
theorem colFs_eq (n : Str) (g : Int) (d : V) (k : Int) : putF "number" (.int k) (putF "default" d (putF "greatest" (.int g) (putF "name" (.str n) []))) = colFs n g d k := by
  have h1 : ¬ (("name" : Str) = "greatest") := by decide +kernel
  have h2 : ¬ (("name" : Str) = "default") := by decide +kernel
  have h3 : ¬ (("greatest" : Str) = "default") := by decide +kernel
  have h4 : ¬ (("name" : Str) = "number") := by decide +kernel
  have h5 : ¬ (("greatest" : Str) = "number") := by decide +kernel
  have h6 : ¬ (("default" : Str) = "number") := by decide +kernel
  simp only [putF, if_neg h1, if_neg h2, if_neg h3, if_neg h4, if_neg h5, if_neg h6]
  rfl
theorem put2 (n : Str) (g : Int) : putF "greatest" (.int g) (putF "name" (.str n) []) = ([("name", .str n), ("greatest", .int g)] : List (Str × V)) := by
  have h1 : ¬ (("name" : Str) = "greatest") := by decide +kernel
  simp only [putF, if_neg h1]
theorem put3 (n : Str) (g : Int) (d : V) : putF "default" d (putF "greatest" (.int g) (putF "name" (.str n) [])) = ([("name", .str n), ("greatest", .int g), ("default", d)] : List (Str × V)) := by
  have h2 : ¬ (("name" : Str) = "default") := by decide +kernel
  have h3 : ¬ (("greatest" : Str) = "default") := by decide +kernel
  rw [put2]
  simp only [putF, if_neg h2, if_neg h3]
theorem colFs_name {n : Str} {g : Int} {d : V} {k : Int} : (colFs n g d k).lookup ("name" : Str) = some (.str n) := by
  unfold colFs
  simp [List.lookup]
theorem colFs_greatest {n : Str} {g : Int} {d : V} {k : Int} : (colFs n g d k).lookup ("greatest" : Str) = some (.int g) := by
  have h1 : (("greatest" : Str) == "name") = false := by decide +kernel
  unfold colFs
  simp [List.lookup, h1]
theorem colFs_default {n : Str} {g : Int} {d : V} {k : Int} : (colFs n g d k).lookup ("default" : Str) = some d := by
  have h1 : (("default" : Str) == "name") = false := by decide +kernel
  have h2 : (("default" : Str) == "greatest") = false := by decide +kernel
  unfold colFs
  simp [List.lookup, h1, h2]
theorem colFs_number {n : Str} {g : Int} {d : V} {k : Int} : (colFs n g d k).lookup ("number" : Str) = some (.int k) := by
  have h1 : (("number" : Str) == "name") = false := by decide +kernel
  have h2 : (("number" : Str) == "greatest") = false := by decide +kernel
  have h3 : (("number" : Str) == "default") = false := by decide +kernel
  unfold colFs
  simp [List.lookup, h1, h2, h3]
/-- a Column stands at c -/
def ColAt (K : PySem.W.Frag) (H : Hp) (c : Addr) (n : Str) (g : Int) (d : V) (k : Int) : Prop := ∃ dx, H c = some (.ins (He.ga K "Column") dx (colFs n g d k))
def sp_Col_init (K : PySem.W.Frag) : Sp := fun vs H Q _ => ∃ (c dx : Addr) (n : Str) (g k : Int) (d : V), vs = [.ref c, .str n, .int g, d, .int k] ∧ H c = some (.ins (He.ga K "Column") dx []) ∧ isNm (.str n) = true ∧ isGr (.int g) = true ∧ isIn g d = true ∧ 0 ≤ k ∧
  ∀ H', ColAt K H' c n g d k → (∀ b o, b ≠ c → H b = some o → H' b = some o) → Q .non H'
theorem nm_len {n : Str} (h : isNm (.str n) = true) : n.length ≤ 1000 := by
  have h' : (decide (1 ≤ n.length) && (decide (n.length ≤ 8) && _)) = true := h
  rw [Bool.and_eq_true, Bool.and_eq_true] at h'
  have := of_decide_eq_true h'.2.1
  omega
theorem ok_Col_init (T : Tx K mg) : ∃ fd, FnOk P w K mg base CX0 4 (He.ma K (He.ga K "Column") "__init__") fd ["self", "name", "greatest", "default", "number"] (sp_Col_init K) ∧
    FunD K "__init__" "Column.__init__" (defArgs s_Column___init__) (defBody s_Column___init__) (defScope s_Column___init__) (d_Column___init__.dvs K) (d_Column___init__.kws K) (He.ma K (He.ga K "Column") "__init__") fd := by
  have C1 := (ok_is_name (P := P) (w := w) (base := base) T).up (show 1 ≤ 3 by decide)
  have C2 := (ok_is_greatest (P := P) (w := w) (base := base) T).up (show 2 ≤ 3 by decide)
  have C3 := ok_is_within (P := P) (w := w) (base := base) T
  have C4 := (ok_is_whole (P := P) (w := w) (base := base) T).up (show 1 ≤ 3 by decide)
  obtain ⟨fd, F⟩ := fd_Column___init__ T
  refine ⟨fd, F.ok (CX := CX0) sc_Column___init__ (fun vs H Q E h => ?_) (fun cdv A outer s H vs Q E hr h => ?_), F⟩
  · obtain ⟨c, dx, n, g, k, d, rfl, _⟩ := h
    rfl
  suffices hh : ∃ t, PSs (cxOf CX0 P w K mg base ["self", "name", "greatest", "default", "number"] "Column.__init__" (defScope s_Column___init__) (He.ma K (He.ga K "Column") "__init__") cdv A outer s H E).nox (defBody s_Column___init__) t ∧
      t { nx := fun _ H' => Q .non H', rt := Q } (start ["self", "name", "greatest", "default", "number"] vs) H by
    obtain ⟨t, h1, h2⟩ := hh
    exact ⟨t, h1.nox, h2⟩
  obtain ⟨c, dx, n, g, k, d, rfl, hc, hn, hg, hd, hk, kk⟩ := h
  have cl := cl_Column T
  refine ⟨_, pss_cons (ps_if (pt_not (pt_val (pcall C1 hr (pa_cons (pv 1) pa_nil)))) (pss_one ps_never) pss_nil)
    (pss_cons (ps_if (pt_not (pt_val (pcall C2 hr (pa_cons (pv 2) pa_nil)))) (pss_one ps_never) pss_nil)
    (pss_cons (ps_if (pt_not (pt_val (pcall C3 hr (pa_cons (pv 3) (pa_cons (pv 2) pa_nil))))) (pss_one ps_never) pss_nil)
    (pss_cons (ps_if (PW.pt (pw_or (pt_not (pt_val (pcall C4 hr (pa_cons (pv 4) pa_nil)))) (pw_or1 (pt_cmpR op_lt (pv 4) pe_int (nomark _))))) (pss_one ps_never) pss_nil)
    (pss_cons (ps_fld (pv 0) (pv 1) rfl) (pss_cons (ps_fld (pv 0) (pv 2) rfl) (pss_cons (ps_fld (pv 0) (pv 3) rfl) (pss_one (ps_fld (pv 0) (pv 4) rfl)))))))), ?_⟩
  have td : ∃ t, ∀ H : Hp, TyX K H d (.type t) := by
    cases d with
    | non => exact ⟨_, fun _ => .base .non⟩
    | int i => exact ⟨_, fun _ => .base (.int i)⟩
    | _ => cases hd
  obtain ⟨t, td⟩ := td
  refine ⟨_, rfl, .str n, _, rfl, .base (.str n), fun m e => by cases e; exact nm_len hn, fun H1 s1 => ⟨_, rfl, ?_⟩⟩
  rw [hn]
  refine iteF ⟨_, rfl, .int g, _, rfl, .base (.int g), _, rfl, ?_⟩
  rw [hg]
  refine iteF ⟨_, rfl, _, rfl, d, g, _, rfl, td _, _, rfl, ?_⟩
  rw [hd]
  refine iteF ⟨_, rfl, .int k, _, rfl, .base (.int k), _, rfl, iteF ⟨_, rfl, _, _, rfl, rfl, _, rfl, ?_⟩⟩
  rw [decide_eq_false (show ¬ k < 0 by omega)]
  refine iteF ?_
  have hc1 := s1 _ _ hc
  refine ⟨_, rfl, _, rfl, c, _, dx, _, rfl, hc1, cl, na_Column_name T, (by show 0 < 1000; decide), ?_⟩
  refine ⟨_, rfl, _, rfl, c, _, dx, _, rfl, upd_same, cl, na_Column_greatest T, (by show 1 < 1000; decide), ?_⟩
  refine ⟨_, rfl, _, rfl, c, _, dx, _, rfl, upd_same, cl, na_Column_default T, (by rw [put2]; show 2 < 1000; decide), ?_⟩
  refine ⟨_, rfl, _, rfl, c, _, dx, _, rfl, upd_same, cl, na_Column_number T, (by rw [put3]; show 3 < 1000; decide), ?_⟩
  refine kk _ ⟨dx, ?_⟩ fun b o hb e => by rw [upd_ne hb, upd_ne hb, upd_ne hb, upd_ne hb]; exact s1 _ _ e
  rw [upd_same, colFs_eq]
/-- Column(name, greatest, default) -/
theorem binds_Col3 (T : Tx K mg) {fd : FuncData} (F : FunD K "__init__" "Column.__init__" (defArgs s_Column___init__) (defBody s_Column___init__) (defScope s_Column___init__) (d_Column___init__.dvs K) (d_Column___init__.kws K) (He.ma K (He.ga K "Column") "__init__") fd) :
    ∃ ds, Vals [V.int 0] ds ∧ Binds K fd ["self", "name", "greatest", "default", "number"] ds := by
  have h := F.binds (ps := ["self", "name", "greatest", "default", "number"]) 4 1 (by intro z; cases z) rfl (fun TT D doc pm an cdv ct us its ks h1 h2 h3 => ?_) (by intro z; cases z)
  · exact h
  · match us, h1, its, h2, ks, h3 with
    | [u0, u1, u2, u3], _, [i0], _, [k0], _ => exact ⟨_, rfl, _, _, _, _, _, _, rfl, rfl, rfl⟩
/-! Column.changed, where the part fits -/
def put (part : Str) (v : V) (n : V) (g : V) (d : V) (k : V) : List (Key × V) := putK ([(Sum.inr "name", n), (Sum.inr "greatest", g), (Sum.inr "default", d), (Sum.inr "number", k)] : List (Key × V)) (Sum.inr part) v
/-- what stands under the four names behind it -/
structure Four (part : Str) (v n g d k n' g' d' k' : V) : Prop where
  part_ : part = "name" ∨ part = "greatest" ∨ part = "default" ∨ part = "number"
  eq : (n', g', d', k') = (if part = "name" then (v, g, d, k) else if part = "greatest" then (n, v, d, k) else if part = "default" then (n, g, v, k) else (n, g, d, v))
theorem merge4 (x y z u : V) : mergeK [] [(Sum.inr "name", x), (Sum.inr "greatest", y), (Sum.inr "default", z), (Sum.inr "number", u)] = ([(Sum.inr "name", x), (Sum.inr "greatest", y), (Sum.inr "default", z), (Sum.inr "number", u)] : List (Key × V)) := by
  have h1 : ¬ ((Sum.inr "name" : Key) = (Sum.inr "greatest" : Key)) := by decide +kernel
  have h2 : ¬ ((Sum.inr "name" : Key) = (Sum.inr "default" : Key)) := by decide +kernel
  have h3 : ¬ ((Sum.inr "name" : Key) = (Sum.inr "number" : Key)) := by decide +kernel
  have h4 : ¬ ((Sum.inr "greatest" : Key) = (Sum.inr "default" : Key)) := by decide +kernel
  have h5 : ¬ ((Sum.inr "greatest" : Key) = (Sum.inr "number" : Key)) := by decide +kernel
  have h6 : ¬ ((Sum.inr "default" : Key) = (Sum.inr "number" : Key)) := by decide +kernel
  simp [mergeK, putK, h1, h2, h3, h4, h5, h6]
theorem put_get {part : Str} {v n g d k n' g' d' k' : V} (f : Four part v n g d k n' g' d' k') : valV (put part v n g d k) (Sum.inr "name") = some n' ∧ valV (put part v n g d k) (Sum.inr "greatest") = some g' ∧ valV (put part v n g d k) (Sum.inr "default") = some d' ∧ valV (put part v n g d k) (Sum.inr "number") = some k' := by
  have h1 : ¬ ((Sum.inr "name" : Key) = (Sum.inr "greatest" : Key)) := by decide +kernel
  have h2 : ¬ ((Sum.inr "name" : Key) = (Sum.inr "default" : Key)) := by decide +kernel
  have h3 : ¬ ((Sum.inr "name" : Key) = (Sum.inr "number" : Key)) := by decide +kernel
  have h4 : ¬ ((Sum.inr "greatest" : Key) = (Sum.inr "default" : Key)) := by decide +kernel
  have h5 : ¬ ((Sum.inr "greatest" : Key) = (Sum.inr "number" : Key)) := by decide +kernel
  have h6 : ¬ ((Sum.inr "default" : Key) = (Sum.inr "number" : Key)) := by decide +kernel
  have k1 : ¬ ((Sum.inr "greatest" : Key) = (Sum.inr "name" : Key)) := by decide +kernel
  have k2 : ¬ ((Sum.inr "default" : Key) = (Sum.inr "name" : Key)) := by decide +kernel
  have k3 : ¬ ((Sum.inr "number" : Key) = (Sum.inr "name" : Key)) := by decide +kernel
  have k4 : ¬ ((Sum.inr "default" : Key) = (Sum.inr "greatest" : Key)) := by decide +kernel
  have k5 : ¬ ((Sum.inr "number" : Key) = (Sum.inr "greatest" : Key)) := by decide +kernel
  have k6 : ¬ ((Sum.inr "number" : Key) = (Sum.inr "default" : Key)) := by decide +kernel
  have g1 : ¬ (("greatest" : Str) = "name") := by decide +kernel
  have g2 : ¬ (("default" : Str) = "name") := by decide +kernel
  have g3 : ¬ (("default" : Str) = "greatest") := by decide +kernel
  have g4 : ¬ (("number" : Str) = "name") := by decide +kernel
  have g5 : ¬ (("number" : Str) = "greatest") := by decide +kernel
  have g6 : ¬ (("number" : Str) = "default") := by decide +kernel
  have e := f.eq
  rcases f.part_ with rfl | rfl | rfl | rfl
  · rw [if_pos rfl] at e
    cases e
    simp [put, putK, valV, h1, h2, h3, h4, h5, h6, k1, k2, k3, k4, k5, k6]
  · rw [if_neg g1, if_pos rfl] at e
    cases e
    simp [put, putK, valV, h1, h2, h3, h4, h5, h6, k1, k2, k3, k4, k5, k6]
  · rw [if_neg g2, if_neg g3, if_pos rfl] at e
    cases e
    simp [put, putK, valV, h1, h2, h3, h4, h5, h6, k1, k2, k3, k4, k5, k6]
  · rw [if_neg g4, if_neg g5, if_neg g6] at e
    cases e
    simp [put, putK, valV, h1, h2, h3, h4, h5, h6, k1, k2, k3, k4, k5, k6]
/-- Column(name, greatest, default, number=..) -/
theorem kbinds_Col (T : Tx K mg) {fd : FuncData} (F : FunD K "__init__" "Column.__init__" (defArgs s_Column___init__) (defBody s_Column___init__) (defScope s_Column___init__) (d_Column___init__.dvs K) (d_Column___init__.kws K) (He.ma K (He.ga K "Column") "__init__") fd) :
    ∃ its mv : List Value, KBn K fd ["self", "name", "greatest", "default", "number"] 4 ["number"] (fun us ws => us ++ ws) (fun vs zs => vs ++ zs) := by
  have h := F.kbinds (ps := ["self", "name", "greatest", "default", "number"]) 4 ["number"] [] (fun us its mv ws => us ++ ws) (by intro z; cases z) (by intro z; cases z) (by intro q hq; cases hq) (fun r1 _ _ r4 => r1.append r4) (fun TT D doc pm an cdv ct us its mv ws h1 h2 h3 h4 => ?_)
  · exact h
  · match us, h1, its, h2, mv, h3, ws, h4 with
    | [u0, u1, u2, u3], _, [i0], _, [], _, [w0], _ => exact ⟨_, rfl, rfl⟩
def sp_changed (K : PySem.W.Frag) : Sp := fun vs H Q _ => ∃ (c : Addr) (part n n' : Str) (g k g' k' : Int) (d d' v : V), vs = [.ref c, .str part, v] ∧ ColAt K H c n g d k ∧ Four part v (.str n) (.int g) d (.int k) (.str n') (.int g') d' (.int k') ∧
  isNm (.str n') = true ∧ isGr (.int g') = true ∧ isIn g' d' = true ∧ 0 ≤ k' ∧ ∀ (a : Addr) (H' : Hp), H a = none → Same H H' → ColAt K H' a n' g' d' k' → Q (.ref a) H'
theorem ok_changed (T : Tx K mg) : ∃ fd, FnOk P w K mg base CX0 6 (He.ma K (He.ga K "Column") "changed") fd ["self", "part", "value"] (sp_changed K) ∧ Binds K fd ["self", "part", "value"] [] := by
  obtain ⟨fdI, GI, FI⟩ := ok_Col_init (P := P) (w := w) (base := base) T
  obtain ⟨_, _, kb⟩ := kbinds_Col T FI
  obtain ⟨fd, F⟩ := fd_Column_changed T
  have cl := cl_Column T
  refine ⟨fd, F.ok (CX := CX0) sc_Column_changed (fun vs H Q E h => ?_) (fun cdv A outer s H vs Q E hr h => ?_), F.bindsN fun _ _ _ _ _ _ us hl => match us, hl with | [_, _, _], _ => rfl⟩
  · obtain ⟨c, part, n, n', g, k, g', k', d, d', v, rfl, _⟩ := h
    rfl
  suffices hh : ∃ t, PSs (cxOf CX0 P w K mg base ["self", "part", "value", "parts"] "Column.changed" (defScope s_Column_changed) (He.ma K (He.ga K "Column") "changed") cdv A outer s H E).nox (defBody s_Column_changed) t ∧
      t { nx := fun _ H' => Q .non H', rt := Q } (start ["self", "part", "value", "parts"] vs) H by
    obtain ⟨t, h1, h2⟩ := hh
    exact ⟨t, h1.nox, h2⟩
  obtain ⟨c, part, n, n', g, k, g', k', d, d', v, rfl, ⟨dx, hc⟩, f4, hn, hg, hd, hk, kk⟩ := h
  have nd := sc_Column_changed.nd
  have hu := hu_of hr
  have CW := (ok_is_word (P := P) (w := w) (base := base) T).up (show 1 ≤ 5 by decide)
  refine ⟨_, pss_cons (ps_if (pt_not (pt_val (pcall CW hr (pa_cons (pv 1) (pa_cons (pe_glob (v := .ref (He.ga K "PARTS")) (by rfl) (mg_PARTS T) rfl) pa_nil))))) (pss_one ps_never) pss_nil)
    (pss_cons (ps_set (i := 3) nd rfl (Or.inl rfl) (pe_disp (pps_cons pe_str (pe_fld (pv 0) rfl) (pps_cons pe_str (pe_fld (pv 0) rfl) (pps_cons pe_str (pe_fld (pv 0) rfl) (pps_cons pe_str (pe_fld (pv 0) rfl) pps_nil)))) (by rfl) (by rfl) (fun z => by cases z) (by decide)))
    (pss_cons (ps_dput hu (pv 3) (pv 1) (pv 2) rfl)
    (pss_one (ps_ret (pe_makeK (mk_Column T) GI hr (by rfl) (mg_Column T) kb pass0 (pa_cons (pe_dget hu (pv 3) pe_str (fun _ _ => rfl)) (pa_cons (pe_dget hu (pv 3) pe_str (fun _ _ => rfl)) (pa_cons (pe_dget hu (pv 3) pe_str (fun _ _ => rfl)) pa_nil)))
      (pk_cons (pe_dget hu (pv 3) pe_str (fun _ _ => rfl)) pk_nil)))))), ?_⟩
  have hP : SqT K H (He.ga K "PARTS") [.str "name", .str "greatest", .str "default", .str "number"] := He.tupB_ok (ex_PARTS T) H
  have hin : wordV (.str part) [.str "name", .str "greatest", .str "default", .str "number"] = true := by
    rcases f4.part_ with rfl | rfl | rfl | rfl <;> decide +kernel
  refine ⟨_, rfl, .str part, _, _, _, rfl, .base (.str part), hP, rfl, _, rfl, ?_⟩
  rw [hin]
  refine iteF (nxt ?_)
  refine fun p np => ?_
  have hc1 : ∀ o, upd H p o c = some (.ins (He.ga K "Column") dx (colFs n g d k)) := fun o => same_new np _ _ hc
  refine ⟨_, rfl, c, _, dx, _, _, rfl, hc1 _, cl, na_Column_name T, colFs_name, _, rfl, c, _, dx, _, _, rfl, hc1 _, cl, na_Column_greatest T, colFs_greatest, _, rfl, c, _, dx, _, _, rfl, hc1 _, cl, na_Column_default T, colFs_default,
    _, rfl, c, _, dx, _, _, rfl, hc1 _, cl, na_Column_number T, colFs_number, upd_same, [(Sum.inr "name", .str n), (Sum.inr "greatest", .int g), (Sum.inr "default", d), (Sum.inr "number", .int k)], rfl, (by show 4 ≤ 15; decide), ?_⟩
  rw [upd_upd, merge4]
  refine ⟨_, rfl, _, rfl, _, rfl, p, _, rfl, DPut.k (k := Sum.inr part) upd_same (by show 4 < sizeLine; decide), ?_⟩
  rw [upd_upd]
  obtain ⟨q1, q2, q3, q4⟩ := put_get f4
  have hp : upd H p (.dK (put part v (.str n) (.int g) d (.int k))) p = some (.dK (put part v (.str n) (.int g) d (.int k))) := upd_same
  have s1 : Same H (upd H p (.dK (put part v (.str n) (.int g) d (.int k)))) := same_new np
  have g1 : DGet (upd H p (.dK (put part v (.str n) (.int g) d (.int k)))) p (.str "name") (some (.str n')) := by
    rw [← q1]
    exact DGet.k (k := Sum.inr "name") hp
  have g2 : DGet (upd H p (.dK (put part v (.str n) (.int g) d (.int k)))) p (.str "greatest") (some (.int g')) := by
    rw [← q2]
    exact DGet.k (k := Sum.inr "greatest") hp
  have g3 : DGet (upd H p (.dK (put part v (.str n) (.int g) d (.int k)))) p (.str "default") (some d') := by
    rw [← q3]
    exact DGet.k (k := Sum.inr "default") hp
  have g4 : DGet (upd H p (.dK (put part v (.str n) (.int g) d (.int k)))) p (.str "number") (some (.int k')) := by
    rw [← q4]
    exact DGet.k (k := Sum.inr "number") hp
  refine ⟨_, rfl, p, _, rfl, g1, _, rfl, p, _, rfl, g2, _, rfl, p, _, rfl, g3, _, rfl, p, _, rfl, g4, rfl, rfl, fun x dx2 nx ndx ndc => ?_⟩
  refine ⟨x, dx2, n', g', k', d', rfl, upd_same, hn, hg, hd, hk, fun H4 hc4 k4 => ⟨rfl, ?_⟩⟩
  exact kk x H4 (s1.free nx) (fun b o e => k4 b o (ne_of_none (s1 _ _ e) nx) (by rw [upd_ne (ne_of_none (s1 _ _ e) nx), upd_ne (ne_of_none (s1 _ _ e) ndx)]; exact s1 _ _ e)) hc4
/-! in_order -/
/-- the told order: MISSING, None, the ints in ns -/
structure InOrd (xs ys : List V) (ns : List Int) : Prop where
  eq : ys = (if xs.any isMis = true then [V.str "missing"] else []) ++ (if xs.any (fun x => decide (x = V.non)) = true then [V.non] else []) ++ ns.map V.int
  up : ns.Pairwise (· < ·)
  mem : ∀ n : Int, n ∈ ns ↔ V.int n ∈ xs
def sp_in_order (K : PySem.W.Frag) : Sp := fun vs H Q _ => ∃ (a : Addr) (xs : List V), vs = [.ref a] ∧ (SqL K H a xs ∨ SqT K H a xs) ∧ xs.length ≤ 1000 ∧ (∀ x ∈ xs, ∃ t, ∀ H', Same H H' → TyX K H' x (.type t)) ∧
  ∀ (p : Addr) (H' : Hp) (ys : List V) (ns : List Int), H p = none → Same H H' → InOrd xs ys ns → H' p = some (.lst ys) → Q (.ref p) H'
/-- the last of the ints so far -/
theorem last_ix (pre : List V) (ms : List Int) (n : Int) : atI (pre ++ (ms ++ [n]).map V.int) (-1) = some (V.int n) := by
  rw [List.map_append, ← List.append_assoc]
  exact atI_last _ _
theorem any_map {xs : List V} (f : V → Bool) : ((xs.filter fun _ => true).map fun x => V.bl (f x)) = (xs.map f).map V.bl := by
  rw [List.filter_eq_self.mpr (fun _ _ => rfl), List.map_map]
  rfl
theorem any_id {xs : List V} (f : V → Bool) : (xs.map f).any id = xs.any f := by
  rw [List.any_map]
  rfl
theorem flt_ints : ∀ xs : List V, ∃ ms : List Int, (xs.filter isI).map (fun x => x) = ms.map V.int ∧ ∀ n : Int, n ∈ ms ↔ V.int n ∈ xs
  | [] => ⟨[], rfl, fun n => by simp⟩
  | x :: r => by
    obtain ⟨ms, e, m⟩ := flt_ints r
    rw [List.map_id'] at e
    cases x with
    | int i =>
      refine ⟨i :: ms, ?_, fun n => ?_⟩
      · rw [List.map_id', List.filter_cons_of_pos (by rfl), e]
        rfl
      · rw [List.mem_cons, List.mem_cons, m]
        constructor
        · rintro (h | h)
          · exact .inl (by rw [h])
          · exact .inr h
        · rintro (h | h)
          · exact .inl (V.int.inj h)
          · exact .inr h
    | _ =>
      refine ⟨ms, ?_, fun n => ?_⟩
      · rw [List.map_id', List.filter_cons_of_neg (by intro z; cases z), e]
      · rw [List.mem_cons, m]
        constructor
        · exact .inr
        · rintro (h | h)
          · cases h
          · exact h
/-- a walk over what the first name holds, within a comprehension -/
def LcW (wi : TI) (a : Addr) (H : Hp) (xs : List V) : Prop := ∀ (σ : L2.St) (j : Nat) (tt : TT) (te : TE) (vs : List Nat) (f : V → Bool) (v : V → V) (Q : VK) (H0 : Hp), σ[0]? = some (some (.ref a)) → Same H H0 → (∀ x, wipe ((wipe σ vs).set j (some x)) vs = wipe σ vs) →
  (∀ x ∈ xs, ∀ H', Same H0 H' → ∀ R : Bool → Hp → Prop, (∀ H2, Same H' H2 → R (f x) H2) → tt ((wipe σ vs).set j (some x)) H' R) → (∀ x ∈ xs, f x = true → ∀ H', Same H0 H' → ∀ R : VK, (∀ H2, Same H' H2 → R (v x) H2) → te ((wipe σ vs).set j (some x)) H' R) →
  (∀ D H', H0 D = none → Same H0 H' → H' D = some (.lst ((xs.filter f).map v)) → Q (.ref D) H') → tLc wi (gName j) tt te vs σ H0 Q
theorem lcw_L {a : Addr} {H : Hp} {xs : List V} (h : SqL K H a xs) (hz : xs.length ≤ 1000) : LcW (iList K (tVar 0)) a H xs := fun σ j tt te vs f v Q H0 e s hw ht he k =>
  tlc_L f v (fun R r => ⟨_, e, r a H0 (Same.refl _) (s.seq h)⟩) (by omega) hw ht he k
theorem lcw_T {a : Addr} {H : Hp} {xs : List V} (h : SqT K H a xs) (hz : xs.length ≤ 1000) : LcW (iTup K (tVar 0)) a H xs := fun σ j tt te vs f v Q H0 e s hw ht he k =>
  tlc_T f v (fun R r => ⟨_, e, r a H0 (Same.refl _) (same_tup s h)⟩) (by omega) hw ht he k
/-- what the loop over the sorted ints has made: the different ones of the first i -/
structure Ded (ks : List Int) (i : Nat) (ns : List Int) : Prop where
  up : ns.Pairwise (· < ·)
  mem : ∀ n : Int, n ∈ ns ↔ n ∈ ks.take i
  len : ns.length ≤ i
theorem ded_turn {ks ns : List Int} {i : Nat} {n : Int} (hs : ks.Pairwise (· ≤ ·)) (d : Ded ks i ns) (hi : ks[i]? = some n) (h : ns = [] ∨ ∃ ms l, ns = ms ++ [l] ∧ l ≠ n) : Ded ks (i + 1) (ns ++ [n]) := by
  have hlt : i < ks.length := (List.getElem?_eq_some_iff.mp hi).1
  have le : ∀ m ∈ ks.take i, m ≤ n := fun m hm => by
    obtain ⟨q, hq, e⟩ := List.mem_iff_getElem.mp hm
    have hq2 : q < i := by
      rw [List.length_take] at hq
      omega
    have e2 : ks[q]'(by omega) = m := by
      rw [← e, List.getElem_take]
    have e3 : ks[i] = n := (List.getElem?_eq_some_iff.mp hi).2
    rw [← e2, ← e3]
    exact List.pairwise_iff_getElem.mp hs q i (by omega) hlt hq2
  refine ⟨?_, fun m => ?_, ?_⟩
  · rw [List.pairwise_append]
    refine ⟨d.up, List.pairwise_singleton _ _, fun m hm k hk => ?_⟩
    rw [List.mem_singleton] at hk
    subst hk
    have l1 := le m ((d.mem m).mp hm)
    rcases h with h | ⟨ms, l, e, ne⟩
    · subst h
      cases hm
    · subst e
      have l2 := le l ((d.mem l).mp (by simp))
      rcases List.mem_append.mp hm with h | h
      · have l3 := (List.pairwise_append.mp d.up).2.2 m h l (by simp)
        omega
      · rw [List.mem_singleton] at h
        subst h
        omega
  · rw [List.mem_append, d.mem, List.mem_singleton, List.take_add_one, hi, List.mem_append]
    simp
  · rw [List.length_append]
    have := d.len
    show _ + 1 ≤ _
    omega
theorem ded_same {ks ms : List Int} {i : Nat} {n : Int} (d : Ded ks i (ms ++ [n])) (hi : ks[i]? = some n) : Ded ks (i + 1) (ms ++ [n]) := by
  refine ⟨d.up, fun m => ?_, Nat.le_succ_of_le d.len⟩
  rw [d.mem, List.take_add_one, hi, List.mem_append]
  constructor
  · exact .inl
  · rintro (h | h)
    · exact h
    · have e : m = n := by simpa using h
      rw [e]
      exact (d.mem n).mp (by simp)
theorem inOrd_of {xs : List V} {ks ms ns : List Int} (hp : ks.Perm ms) (hm : ∀ n : Int, n ∈ ms ↔ V.int n ∈ xs) (d : Ded ks ks.length ns) :
    InOrd xs ((if xs.any isMis = true then [V.str "missing"] else []) ++ (if xs.any (fun x => decide (x = V.non)) = true then [V.non] else []) ++ ns.map V.int) ns := by
  refine ⟨rfl, d.up, fun n => ?_⟩
  rw [d.mem, List.take_length, hp.mem_iff, hm]
theorem body_in_order (T : Tx K mg) {wi : TI} {a : Addr} {xs : List V} {H : Hp} {Q : VK} {E : XK} {cdv : Value} {A : Around} {outer : List Env} {s : Shared} (hr : Room 2 (A.deeper (envOfC "in_order" (defScope s_in_order) s.heap.objs.size (He.ga K "in_order") cdv)))
    (pi : ∀ {tg : Expr} {pos : Pos}, PI (cxOf CX0 P w K mg base ["values", "found", "number", "value"] "in_order" (defScope s_in_order) (He.ga K "in_order") cdv A outer s H E).nox tg (.Name "values" pos) wi) (lw : LcW wi a H xs) (hz : xs.length ≤ 1000)
    (ty : ∀ x ∈ xs, ∃ t, ∀ H', Same H H' → TyX K H' x (.type t)) (kk : ∀ (p : Addr) (H' : Hp) (ys : List V) (ns : List Int), H p = none → Same H H' → InOrd xs ys ns → H' p = some (.lst ys) → Q (.ref p) H') :
    ∃ t, PSs (cxOf CX0 P w K mg base ["values", "found", "number", "value"] "in_order" (defScope s_in_order) (He.ga K "in_order") cdv A outer s H E).nox (defBody s_in_order) t ∧ t { nx := fun _ H' => Q .non H', rt := Q } (start ["values", "found", "number", "value"] [.ref a]) H := by
  have C1 := ok_is_missing (P := P) (w := w) (base := base) T
  have C2 := (ok_is_whole (P := P) (w := w) (base := base) T).up (show 1 ≤ 2 by decide)
  have gi : mg "int" = none := fr_int T
  have gl : mg "len" = none := fr_len T
  have ga : mg "any" = none := fr_any T
  obtain ⟨tk, gM⟩ := ms_MISSING T
  refine ⟨_, pss_cons (ps_set (i := 1) sc_in_order.nd rfl (Or.inl rfl) (pe_lst pa_nil))
    (pss_cons (ps_if (pt_val (pe_callB (cr_any rfl) (by rfl) ga (by decide +kernel) (pa_cons (pe_lc (own := [("value", 3)]) (g := gName 3) (tt := tYes) rfl sc_in_order.nd pi (blkOk_by (N := ["values", "found", "number", "value"]) (sc := defScope s_in_order) (by decide +kernel))
        (fun _ _ _ _ _ => pg_name (i := 3) sc_in_order.nd rfl (Or.inl rfl)) (fun _ _ _ _ _ => pts_nil) (fun _ _ _ _ _ => pcall C1 hr (pa_cons (pv 3) pa_nil))) pa_nil)))
      (pss_one (ps_expr (pe_bm PySem.F.plainAttrs_list PySem.F.slot_list_append PySem.F.type_list_append mt_append (pv 1) (pa_cons (pe_glob (v := .str "missing") (by rfl) gM ⟨_, rfl⟩) pa_nil)))) pss_nil)
    (pss_cons (ps_if (pt_val (pe_callB (cr_any rfl) (by rfl) ga (by decide +kernel) (pa_cons (pe_lc (own := [("value", 3)]) (g := gName 3) (tt := tYes) rfl sc_in_order.nd pi (blkOk_by (N := ["values", "found", "number", "value"]) (sc := defScope s_in_order) (by decide +kernel))
        (fun _ _ _ _ _ => pg_name (i := 3) sc_in_order.nd rfl (Or.inl rfl)) (fun _ _ _ _ _ => pts_nil) (fun _ _ _ _ _ => pe_cmpR op_isN (pv 3) pe_non (nomark _))) pa_nil)))
      (pss_one (ps_expr (pe_bm PySem.F.plainAttrs_list PySem.F.slot_list_append PySem.F.type_list_append mt_append (pv 1) (pa_cons pe_non pa_nil)))) pss_nil)
    (pss_cons (ps_for PassesOwn.never rfl (pi_list (pe_callB cr_sortedI (by rfl) (fr_sorted T) (by decide +kernel) (pa_cons (pe_lc (own := [("value", 3)]) (g := gName 3) rfl sc_in_order.nd pi (blkOk_by (N := ["values", "found", "number", "value"]) (sc := defScope s_in_order) (by decide +kernel))
        (fun _ _ _ _ _ => pg_name (i := 3) sc_in_order.nd rfl (Or.inl rfl)) (fun _ _ _ _ _ => pts_one (pt_val (pcall C2 hr (pa_cons (pv 3) pa_nil)))) (fun _ _ _ _ _ => pe_callTy call_int1 (by rfl) gi (by decide +kernel) (pa_cons (pv 3) pa_nil))) pa_nil))) (pg_name (i := 2) sc_in_order.nd rfl (Or.inl rfl))
      (pss_one (ps_if (PW.pt (pw_or (pt_cmpR op_eq (pe_callB call_len_seq (by rfl) gl PySem.boot_len (pa_cons (pv 1) pa_nil)) pe_int (nomark _)) (pw_or1 (pt_cmpR op_ne (pe_ix ix_list (pv 1) (pe_un un_neg pe_int) (fun _ _ => rfl)) (pv 2) (nomark _)))))
        (pss_one (ps_expr (pe_bm PySem.F.plainAttrs_list PySem.F.slot_list_append PySem.F.type_list_append mt_append (pv 1) (pa_cons (pv 2) pa_nil)))) pss_nil)))
    (pss_one (ps_ret (pv 1)))))), ?_⟩
  refine q_asgX ⟨by decide, fun l hl => ?_⟩
  have hw : ∀ x, wipe ((wipe [some (.ref a), some (.ref l), none, none] [3]).set 3 (some x)) [3] = wipe [some (.ref a), some (.ref l), none, none] [3] := fun x => rfl
  have s0 : Same H (upd H l (.lst [])) := same_new hl
  -- the two texts ahead
  refine q_ifapp (l := l) (zs := []) (v := .str "missing") (xs.any isMis) ?ht1 ?hl1 ?hz1 ?ha1 ?he1 ?k1
  case hl1 => exact upd_same
  case hz1 => decide
  case ha1 => exact fun H R h => ⟨_, rfl, h⟩
  case he1 => exact fun H R h => h
  case ht1 =>
    intro R r
    refine pl_b1 (lw _ 3 _ _ [3] (fun _ => true) (fun x => V.bl (isMis x)) _ _ rfl s0 hw ?_ ?_ ?_)
    · exact fun x hx H' s' R r => r H' (Same.refl _)
    · intro x hx hf H' s' R r
      obtain ⟨t, tx⟩ := ty x hx
      exact ⟨x, rfl, x, t, rfl, tx _ (s0.trans s'), fun H2 s2 => tx _ ((s0.trans s').trans s2), fun H2 s2 => r H2 s2⟩
    · intro D' H' hD sD hD2
      rw [any_map] at hD2
      refine ⟨D', _, rfl, sqL_of hD2, _, rfl, ?_⟩
      rw [any_id]
      exact r H' sD
  intro H1 k1 h1
  have s1 : Same H H1 := fun b o e => k1 b o (ne_of_none e hl) (s0 b o e)
  refine q_ifapp (l := l) (zs := [] ++ if xs.any isMis = true then [V.str "missing"] else []) (v := .non) (xs.any fun x => decide (x = V.non)) ?ht2 ?hl2 ?hz2 ?ha2 ?he2 ?k2
  case hl2 => exact h1
  case hz2 =>
    rw [List.nil_append]
    split <;> decide
  case ha2 => exact fun H R h => ⟨_, rfl, h⟩
  case he2 => exact fun H R h => h
  case ht2 =>
    intro R r
    refine pl_b1 (lw _ 3 _ _ [3] (fun _ => true) (fun x => V.bl (decide (x = V.non))) _ _ rfl s1 hw ?_ ?_ ?_)
    · exact fun x hx H' s' R r => r H' (Same.refl _)
    · exact fun x hx hf H' s' R r => ⟨x, rfl, rfl, r H' (Same.refl _)⟩
    · intro D' H' hD sD hD2
      rw [any_map] at hD2
      refine ⟨D', _, rfl, sqL_of hD2, _, rfl, ?_⟩
      rw [any_id]
      exact r H' sD
  intro H2 k2 h2
  have s2 : Same H H2 := fun b o e => k2 b o (ne_of_none e hl) (s1 b o e)
  rw [List.nil_append] at h2
  generalize e1 : xs.any isMis = b1 at h2
  generalize e2 : (xs.any fun x => decide (x = V.non)) = b2 at h2
  obtain ⟨ms, fe, fm⟩ := flt_ints xs
  refine pl_forL1 (lw _ 3 _ _ [3] isI (fun x => x) _ H2 rfl s2 hw ?_ ?_ ?_)
  · intro x hx H' s' R r
    obtain ⟨t, tx⟩ := ty x hx
    exact ⟨x, rfl, x, t, rfl, tx _ (s2.trans s'), _, rfl, r H' (Same.refl _)⟩
  · intro x hx hf H' s' R r
    cases x with
    | int i => exact ⟨_, rfl, .inl ⟨i, rfl, r H' (Same.refl _)⟩⟩
    | _ => cases hf
  · intro D H' hD sD hD2
    rw [fe] at hD2
    refine ⟨D, ms, rfl, sqL_of hD2, fun ks p hp hup hnp => ⟨p, rfl, ⟨_, sqL_of upd_same⟩, ?_⟩⟩
    have sp : Same H2 (upd H' p (.lst (ks.map V.int))) := sD.trans (same_new hnp)
    have npl : l ≠ p := ne_of_none (sD _ _ h2) hnp
    refine for_list (xs := ks.map V.int) (fun i σ H3 => ∃ (ns : List Int) (y : Option V), σ = [some (.ref a), some (.ref l), y, none] ∧ (∀ b o, b ≠ l → H b = some o → H3 b = some o) ∧ H3 p = some (.lst (ks.map V.int)) ∧ Ded ks i ns ∧
      H3 l = some (.lst ((if b1 = true then [V.str "missing"] else []) ++ (if b2 = true then [V.non] else []) ++ ns.map V.int))) ⟨[], none, rfl, fun b o hb e => sp _ _ (s2 _ _ e), upd_same, ⟨.nil, fun n => by simp, Nat.le_refl _⟩, ?_⟩ ?_ ?_ ?_
    · rw [List.map_nil, List.append_nil]
      exact sp _ _ h2
    · rintro i σ H3 _ ⟨ns, y, rfl, k3, hp3, d3, h3⟩
      exact sqL_of hp3
    · rintro i x σ H3 hx ⟨ns, y, rfl, k3, hp3, d3, h3⟩
      rw [List.getElem?_map] at hx
      cases hk : ks[i]? with
      | none =>
        rw [hk] at hx
        cases hx
      | some n =>
        rw [hk] at hx
        obtain rfl : V.int n = x := Option.some.inj hx
        have hil : i < ks.length := (List.getElem?_eq_some_iff.mp hk).1
        have hkl : ks.length ≤ 1000 := by
          have e := hp.length_eq
          have f := congrArg List.length fe
          rw [List.length_map, List.length_map] at f
          have g := List.length_filter_le isI xs
          omega
        have put : ∀ ns' : List Int, Ded ks (i + 1) ns' → ns' = ns ++ [n] → ∃ (ns : List Int) (y : Option V), [some (V.ref a), some (.ref l), some (.int n), none] = [some (.ref a), some (.ref l), y, none] ∧
            (∀ b o, b ≠ l → H b = some o → (upd H3 l (.lst ((if b1 = true then [V.str "missing"] else []) ++ (if b2 = true then [V.non] else []) ++ (ns').map V.int))) b = some o) ∧
            (upd H3 l (.lst ((if b1 = true then [V.str "missing"] else []) ++ (if b2 = true then [V.non] else []) ++ (ns').map V.int))) p = some (.lst (ks.map V.int)) ∧ Ded ks (i + 1) ns ∧
            (upd H3 l (.lst ((if b1 = true then [V.str "missing"] else []) ++ (if b2 = true then [V.non] else []) ++ (ns').map V.int))) l = some (.lst ((if b1 = true then [V.str "missing"] else []) ++ (if b2 = true then [V.non] else []) ++ ns.map V.int)) := fun ns' d' e' =>
          ⟨ns', some (.int n), rfl, fun b o hb e => by rw [upd_ne hb]; exact k3 b o hb e, by rw [upd_ne npl.symm]; exact hp3, d', upd_same⟩
        have hsz : ((if b1 = true then [V.str "missing"] else []) ++ (if b2 = true then [V.non] else []) ++ ns.map V.int).length < sizeLine := by
          have e : sizeLine = 16777216 := by decide
          rw [e, List.length_append, List.length_append, List.length_map]
          have := d3.len
          have q1 : (if b1 = true then [V.str "missing"] else []).length ≤ 1 := by split <;> decide
          have q2 : (if b2 = true then [V.non] else []).length ≤ 1 := by split <;> decide
          omega
        have app : ∀ ns' : List Int, ns' = ns ++ [n] → (if b1 = true then [V.str "missing"] else []) ++ (if b2 = true then [V.non] else []) ++ ns.map V.int ++ [V.int n] = (if b1 = true then [V.str "missing"] else []) ++ (if b2 = true then [V.non] else []) ++ ns'.map V.int := fun ns' e' => by
          rw [e', List.map_append, ← List.append_assoc]
          rfl
        refine ⟨_, rfl, l, _, rfl, .inl (sqL_of h3), rfl, _, rfl, ?_⟩
        by_cases hb : V.int ((((if b1 = true then [V.str "missing"] else []) ++ (if b2 = true then [V.non] else []) ++ ns.map V.int).length : Nat) : Int) = V.int 0
        · rw [decide_eq_true hb]
          refine iteT (iteT ⟨_, rfl, .inl ⟨rfl, _, sqL_of h3⟩, _, rfl, l, _, _, rfl, rfl, h3, hsz, ?_⟩)
          have ns0 : ns = [] := by
            have hb2 := V.int.inj hb
            cases ns with
            | nil => rfl
            | cons n0 r0 =>
              rw [List.length_append, List.length_map, List.length_cons] at hb2
              omega
          have d' := ded_turn hup d3 hk (.inl ns0)
          rw [app _ rfl]
          exact put _ d' rfl
        · rw [decide_eq_false hb]
          refine iteF ?_
          have nb := hb
          rcases List.eq_nil_or_concat ns with ns0 | ⟨ns1, n1, ns0⟩
          · -- nothing but the texts ahead: the last of them is no int
            subst ns0
            have hx2 : ∃ z pre, (if b1 = true then [V.str "missing"] else []) ++ (if b2 = true then [V.non] else []) ++ ([] : List Int).map V.int = pre ++ [z] ∧ scal z (.int n) = true ∧ z ≠ .int n := by
              cases b2 with
              | true => exact ⟨.non, if b1 = true then [V.str "missing"] else [], by rw [List.map_nil, List.append_nil]; rfl, rfl, fun z => by cases z⟩
              | false =>
                cases b1 with
                | true => exact ⟨.str "missing", [], rfl, rfl, fun z => by cases z⟩
                | false => exact absurd rfl nb
            obtain ⟨z, pre, ez, sz, nz⟩ := hx2
            refine ⟨_, rfl, _, rfl, l, _, _, z, rfl, rfl, sqL_of h3, (by rw [ez]; exact atI_last _ _), _, rfl, sz, _, rfl, ?_⟩
            rw [decide_eq_false nz]
            refine iteT ⟨_, rfl, .inl ⟨rfl, _, sqL_of h3⟩, _, rfl, l, _, _, rfl, rfl, h3, hsz, ?_⟩
            have d' := ded_turn hup d3 hk (.inl rfl)
            rw [app _ rfl]
            exact put _ d' rfl
          · rw [List.concat_eq_append] at ns0
            subst ns0
            refine ⟨_, rfl, _, rfl, l, _, _, .int n1, rfl, rfl, sqL_of h3, last_ix _ _ _, _, rfl, rfl, _, rfl, ?_⟩
            by_cases hn : n1 = n
            · subst hn
              rw [decide_eq_true rfl]
              refine iteF ⟨_, some (.int n1), rfl, k3, hp3, ded_same d3 hk, h3⟩
            · rw [decide_eq_false (fun z => hn (V.int.inj z))]
              refine iteT ⟨_, rfl, .inl ⟨rfl, _, sqL_of h3⟩, _, rfl, l, _, _, rfl, rfl, h3, hsz, ?_⟩
              have d' := ded_turn hup d3 hk (.inr ⟨ns1, n1, rfl, hn⟩)
              rw [app _ rfl]
              exact put _ d' rfl
    · rintro σ H3 ⟨ns, y, rfl, k3, hp3, d3, h3⟩
      rw [List.length_map] at d3
      have iO := inOrd_of (xs := xs) hp fm d3
      rw [e1, e2] at iO
      exact ⟨_, rfl, kk l H3 _ ns hl (fun b o e => k3 b o (ne_of_none e hl) e) iO h3⟩

theorem ok_in_order (T : Tx K mg) : Callee P w K mg base CX0 3 "in_order" ["values"] [] (sp_in_order K) := by
  refine mkCallee (fd_in_order T) (mg_in_order T) sc_in_order (fun _ _ _ _ _ _ us hl => match us, hl with | [_], _ => rfl) (fun vs H Q E h => ?_) (fun cdv A outer s H vs Q E hr h => ?_)
  · obtain ⟨a, xs, rfl, _⟩ := h
    rfl
  · obtain ⟨a, xs, rfl, hs, hz, ty, k⟩ := h
    rcases hs with hs | hs
    · exact body_in_order T hr (fun {tg pos} => pi_list (pv 0)) (lcw_L hs hz) hz ty k
    · exact body_in_order T hr (fun {tg pos} => pi_tup (pv 0)) (lcw_T hs hz) hz ty k
/-! column_named; the columns of a list, as data -/
structure Col where
  name : Str
  top : Int
  dflt : V
  num : Int
/-- the columns at the addresses as -/
inductive Cols (K : PySem.W.Frag) (H : Hp) : List Addr → List Col → Prop
  | nil : Cols K H [] []
  | cons {a : Addr} {as : List Addr} {c : Col} {cs : List Col} : ColAt K H a c.name c.top c.dflt c.num → Cols K H as cs → Cols K H (a :: as) (c :: cs)
theorem ColAt.keep {K : PySem.W.Frag} {H H' : Hp} {a : Addr} {n : Str} {g k : Int} {d : V} (s : Same H H') (h : ColAt K H a n g d k) : ColAt K H' a n g d k := h.imp fun _ e => s _ _ e
theorem Cols.keep {K : PySem.W.Frag} {H H' : Hp} (s : Same H H') : ∀ {as : List Addr} {cs : List Col}, Cols K H as cs → Cols K H' as cs
  | _, _, .nil => .nil
  | _, _, .cons h t => .cons (h.keep s) (t.keep s)
theorem Cols.len {K : PySem.W.Frag} {H : Hp} : ∀ {as : List Addr} {cs : List Col}, Cols K H as cs → as.length = cs.length
  | _, _, .nil => rfl
  | _, _, .cons _ t => congrArg Nat.succ t.len
theorem Cols.at_ {K : PySem.W.Frag} {H : Hp} : ∀ {as : List Addr} {cs : List Col} {i : Nat} {a : Addr}, Cols K H as cs → as[i]? = some a → ∃ c, cs[i]? = some c ∧ ColAt K H a c.name c.top c.dflt c.num
  | _, _, _, _, .nil, e => by simp at e
  | _, _, 0, _, .cons h t, e => by
    simp at e
    subst e
    exact ⟨_, rfl, h⟩
  | _, _, i + 1, a, .cons h t, e => by
    obtain ⟨c, h1, h2⟩ := Cols.at_ (i := i) (a := a) t (by simpa using e)
    exact ⟨c, by simpa using h1, h2⟩
def isN (n : Str) (c : Col) : Bool := decide (c.name = n)
/-- what column_named gives: None, or the first of its name -/
def Named (as : List Addr) (cs : List Col) (n : Str) (v : V) : Prop := (v = .non ∧ cs.find? (isN n) = none) ∨ ∃ (i : Nat) (a : Addr) (c : Col), v = .ref a ∧ as[i]? = some a ∧ cs[i]? = some c ∧ cs.find? (isN n) = some c
def sp_column_named (K : PySem.W.Frag) : Sp := fun vs H Q _ => ∃ (l : Addr) (as : List Addr) (cs : List Col) (n : Str), vs = [.ref l, .str n] ∧ (SqL K H l (as.map V.ref) ∨ SqT K H l (as.map V.ref)) ∧ Cols K H as cs ∧ ∀ v, Named as cs n v → Q v H
theorem find_pre {cs : List Col} {i : Nat} {c : Col} {n : Str} (h : cs[i]? = some c) (hp : (cs.take i).find? (isN n) = none) : (cs.take (i + 1)).find? (isN n) = if isN n c = true then some c else none := by
  rw [List.take_add_one, h, List.find?_append, hp]
  show (Option.none).or _ = _
  rw [Option.none_or]
  show (match isN n c with | true => some c | false => none) = _
  cases isN n c <;> rfl
theorem find_take {cs : List Col} {i : Nat} {c : Col} {n : Str} (h : cs[i]? = some c) (hp : (cs.take i).find? (isN n) = none) (hc : isN n c = true) : cs.find? (isN n) = some c := by
  have e : cs = cs.take (i + 1) ++ cs.drop (i + 1) := (List.take_append_drop _ _).symm
  rw [e, List.find?_append, find_pre h hp, if_pos hc]
  rfl
theorem ok_column_named (T : Tx K mg) : Callee P w K mg base CX0 1 "column_named" ["columns", "name"] [] (sp_column_named K) := by
  refine mkCallee (fd_column_named T) (mg_column_named T) sc_column_named (fun _ _ _ _ _ _ us hl => match us, hl with | [_, _], _ => rfl) (fun vs H Q E h => ?_) (fun cdv A outer s H vs Q E hr h => ?_)
  · obtain ⟨l, as, cs, n, rfl, _⟩ := h
    rfl
  · obtain ⟨l, as, cs, n, rfl, hl, hc, k⟩ := h
    have nd := sc_column_named.nd
    have turn : ∀ (i : Nat) (x : V) (y : Option V), (as.map V.ref)[i]? = some x → (cs.take i).find? (isN n) = none → ∃ (a : Addr) (c : Col) (dx : Addr), x = .ref a ∧ as[i]? = some a ∧ cs[i]? = some c ∧ H a = some (.ins (He.ga K "Column") dx (colFs c.name c.top c.dflt c.num)) := fun i x y hx hp => by
      rw [List.getElem?_map] at hx
      cases ha : as[i]? with
      | none =>
        rw [ha] at hx
        cases hx
      | some a =>
        rw [ha] at hx
        obtain ⟨c, h1, dx, h2⟩ := hc.at_ ha
        exact ⟨a, c, dx, (Option.some.inj hx).symm, rfl, h1, h2⟩
    have fin : (cs.take as.length).find? (isN n) = none → Q .non H := fun h => by
      rw [hc.len, List.take_length] at h
      exact k _ (.inl ⟨rfl, h⟩)
    rcases hl with hl | hl
    · refine ⟨_, pss_cons (ps_if (pt_not (pt_val (pe_callB call_isi (by rfl) (fr_isinstance T) (by decide +kernel) (pa_cons (pv 1) (pa_cons (pe_bltn (v := .ty "str") (by rfl) (fr_str T) (by decide +kernel) rfl) pa_nil))))) (pss_one (ps_ret pe_non)) pss_nil)
        (pss_cons (ps_for PassesOwn.never rfl (pi_list (pv 0)) (pg_name (i := 2) nd rfl (Or.inl rfl)) (pss_one (ps_if (pt_cmpR op_eq (pe_fld (pv 2) rfl) (pv 1) (nomark _)) (pss_one (ps_ret (pv 2))) pss_nil))) (pss_one (ps_ret pe_non))), ?_⟩
      refine ⟨_, rfl, .str n, .ty "str", _, _, true, rfl, .ty "str", .base (.str n), kit_ty (by decide +kernel), _, rfl, iteF ⟨_, rfl, l, rfl, ⟨_, hl⟩, ?_⟩⟩
      refine for_list (xs := as.map V.ref) (fun i σ H' => H' = H ∧ (cs.take i).find? (isN n) = none ∧ ∃ y, σ = [some (.ref l), some (.str n), y]) ⟨rfl, rfl, _, rfl⟩ (fun i σ H' _ h => by rw [h.1]; exact hl) ?_ ?_
      · rintro i x σ H' hx ⟨rfl, hp, y, rfl⟩
        obtain ⟨a, c, dx, rfl, ha, hci, hat⟩ := turn i x y hx hp
        refine ⟨_, rfl, a, _, dx, _, _, rfl, hat, cl_Column T, na_Column_name T, colFs_name, _, rfl, rfl, _, rfl, ?_⟩
        by_cases e : c.name = n
        · rw [decide_eq_true (show V.str c.name = V.str n by rw [e])]
          exact iteT ⟨_, rfl, k _ (.inr ⟨i, a, c, rfl, ha, hci, find_take hci hp (decide_eq_true e)⟩)⟩
        · rw [decide_eq_false (fun z => e (V.str.inj z))]
          exact iteF ⟨rfl, by rw [find_pre hci hp, if_neg (by rw [show isN n c = false from decide_eq_false e]; decide)], _, rfl⟩
      · rintro σ H' ⟨rfl, hp, y, rfl⟩
        rw [List.length_map] at hp
        exact fin hp
    · refine ⟨_, pss_cons (ps_if (pt_not (pt_val (pe_callB call_isi (by rfl) (fr_isinstance T) (by decide +kernel) (pa_cons (pv 1) (pa_cons (pe_bltn (v := .ty "str") (by rfl) (fr_str T) (by decide +kernel) rfl) pa_nil))))) (pss_one (ps_ret pe_non)) pss_nil)
        (pss_cons (ps_for PassesOwn.never rfl (pi_tup (pv 0)) (pg_name (i := 2) nd rfl (Or.inl rfl)) (pss_one (ps_if (pt_cmpR op_eq (pe_fld (pv 2) rfl) (pv 1) (nomark _)) (pss_one (ps_ret (pv 2))) pss_nil))) (pss_one (ps_ret pe_non))), ?_⟩
      refine ⟨_, rfl, .str n, .ty "str", _, _, true, rfl, .ty "str", .base (.str n), kit_ty (by decide +kernel), _, rfl, iteF ⟨_, rfl, l, rfl, ⟨_, hl⟩, ?_⟩⟩
      refine for_tup (xs := as.map V.ref) (fun i σ H' => H' = H ∧ (cs.take i).find? (isN n) = none ∧ ∃ y, σ = [some (.ref l), some (.str n), y]) ⟨rfl, rfl, _, rfl⟩ (fun i σ H' _ h => by rw [h.1]; exact hl) ?_ ?_
      · rintro i x σ H' hx ⟨rfl, hp, y, rfl⟩
        obtain ⟨a, c, dx, rfl, ha, hci, hat⟩ := turn i x y hx hp
        refine ⟨_, rfl, a, _, dx, _, _, rfl, hat, cl_Column T, na_Column_name T, colFs_name, _, rfl, rfl, _, rfl, ?_⟩
        by_cases e : c.name = n
        · rw [decide_eq_true (show V.str c.name = V.str n by rw [e])]
          exact iteT ⟨_, rfl, k _ (.inr ⟨i, a, c, rfl, ha, hci, find_take hci hp (decide_eq_true e)⟩)⟩
        · rw [decide_eq_false (fun z => e (V.str.inj z))]
          exact iteF ⟨rfl, by rw [find_pre hci hp, if_neg (by rw [show isN n c = false from decide_eq_false e]; decide)], _, rfl⟩
      · rintro σ H' ⟨rfl, hp, y, rfl⟩
        rw [List.length_map] at hp
        exact fin hp
/-! the changes as data -/
inductive Ch where
  | add (n : Str) (g : Int) (d : V)
  | drop (n : Str)
  | rename (n m : Str)
  | dflt (n : Str) (v : V)
  | great (n : Str) (g : Int) (way : Str)
  | fill (n : Str) (i : Int)
def Ch.toV : Ch → List V
  | .add n g d => [.str "add", .str n, .int g, d]
  | .drop n => [.str "drop", .str n]
  | .rename n m => [.str "rename", .str n, .str m]
  | .dflt n v => [.str "default", .str n, v]
  | .great n g way => [.str "greatest", .str n, .int g, .str way]
  | .fill n i => [.str "fill", .str n, .int i]
def isWy (z : Str) : Bool := decide (z = "cut") || (decide (z = "none") || decide (z = "refuse"))
/-- a change by its form -/
def Ch.fits : Ch → Bool
  | .add n g d => isNm (.str n) && (isGr (.int g) && isVal d)
  | .drop n => isNm (.str n)
  | .rename n m => isNm (.str n) && isNm (.str m)
  | .dflt n v => isNm (.str n) && isVal v
  | .great n g way => isNm (.str n) && (isGr (.int g) && isWy way)
  | .fill n i => isNm (.str n) && decide (0 ≤ i)
def Ch.name : Ch → Str
  | .add n _ _ => n
  | .drop n => n
  | .rename n _ => n
  | .dflt n _ => n
  | .great n _ _ => n
  | .fill n _ => n
def Ch.kind : Ch → Str
  | .add _ _ _ => "add"
  | .drop _ => "drop"
  | .rename _ _ => "rename"
  | .dflt _ _ => "default"
  | .great _ _ _ => "greatest"
  | .fill _ _ => "fill"
theorem Ch.at0 (c : Ch) : atI c.toV 0 = some (.str c.kind) := by cases c <;> rfl
theorem Ch.at1 (c : Ch) : atI c.toV 1 = some (.str c.name) := by cases c <;> rfl
/-! is_way -/
def sp_is_way : Sp := fun vs H Q _ => ∃ z : Str, vs = [.str z] ∧ isWy z = true ∧ Q (.bl true) H
theorem ok_is_way (T : Tx K mg) : Callee P w K mg base CX0 2 "is_way" ["value"] [] sp_is_way := by
  have C1 := ok_is_word (P := P) (w := w) (base := base) T
  refine mkCallee (fd_is_way T) (mg_is_way T) sc_is_way (fun _ _ _ _ _ _ us hl => match us, hl with | [_], _ => rfl) (fun vs H Q E h => ?_) (fun cdv A outer s H vs Q E hr h => ?_)
  · obtain ⟨z, rfl, _⟩ := h
    rfl
  · obtain ⟨z, rfl, hz, k⟩ := h
    refine ⟨_, pss_one (ps_ret (pcall C1 hr (pa_cons (pv 0) (pa_cons (pe_glob (v := .ref (He.ga K "WAYS")) (by rfl) (mg_WAYS T) rfl) pa_nil)))), ?_⟩
    have hw : SqT K H (He.ga K "WAYS") [.str "cut", .str "none", .str "refuse"] := He.tupB_ok (ex_WAYS T) H
    refine ⟨_, rfl, .str z, _, _, _, rfl, .base (.str z), hw, rfl, ?_⟩
    have e : wordV (.str z) [.str "cut", .str "none", .str "refuse"] = true := by
      have h' : (decide (z = "cut") || (decide (z = "none") || decide (z = "refuse"))) = true := hz
      show (("cut" : Str) == z || (("none" : Str) == z || (("refuse" : Str) == z || false))) = true
      rw [Bool.or_eq_true, Bool.or_eq_true, decide_eq_true_iff, decide_eq_true_iff, decide_eq_true_iff] at h'
      rcases h' with rfl | rfl | rfl <;> simp
    rw [e]
    exact k
/-! is_single_part, at what fits -/
def sp_is_single_part : Sp := fun vs H Q _ => ∃ (kd : Str) (x : V), vs = [.str kd, x] ∧ ((kd = "rename" ∧ isNm x = true) ∨ (kd = "default" ∧ isVal x = true) ∨ (kd = "fill" ∧ ∃ i, x = .int i ∧ 0 ≤ i)) ∧ ∀ H', Same H H' → Q (.bl true) H'
theorem ok_is_single_part (T : Tx K mg) : Callee P w K mg base CX0 3 "is_single_part" ["kind", "part"] [] sp_is_single_part := by
  have C1 := (ok_is_name (P := P) (w := w) (base := base) T).up (show 1 ≤ 2 by decide)
  have C2 := ok_is_value (P := P) (w := w) (base := base) T
  have C3 := (ok_is_whole (P := P) (w := w) (base := base) T).up (show 1 ≤ 2 by decide)
  refine mkCallee (fd_is_single_part T) (mg_is_single_part T) sc_is_single_part (fun _ _ _ _ _ _ us hl => match us, hl with | [_, _], _ => rfl) (fun vs H Q E h => ?_) (fun cdv A outer s H vs Q E hr h => ?_)
  · obtain ⟨kd, x, rfl, _⟩ := h
    rfl
  · obtain ⟨kd, x, rfl, hx, k⟩ := h
    refine ⟨_, pss_cons (ps_if (pt_cmpR op_eq (pv 0) pe_str (nomark _)) (pss_one (ps_ret (pcall C1 hr (pa_cons (pv 1) pa_nil)))) pss_nil)
      (pss_cons (ps_if (pt_cmpR op_eq (pv 0) pe_str (nomark _)) (pss_one (ps_ret (pcall C2 hr (pa_cons (pv 1) pa_nil)))) pss_nil)
      (pss_one (ps_ret (pe_and (pcall C3 hr (pa_cons (pv 1) pa_nil)) (pe_one (pe_cmpR op_ge (pv 1) pe_int (nomark _))))))), ?_⟩
    refine ⟨_, rfl, rfl, _, rfl, ?_⟩
    rcases hx with ⟨rfl, hx⟩ | ⟨rfl, hx⟩ | ⟨rfl, i, rfl, hi⟩
    · rw [decide_eq_true rfl]
      cases x with
      | str z => exact iteT ⟨_, rfl, .str z, _, rfl, .base (.str z), fun m e => by cases e; exact nm_len hx, fun H' s' => by rw [hx]; exact k H' s'⟩
      | _ => cases hx
    · rw [decide_eq_false (by decide +kernel)]
      refine iteF ⟨_, rfl, rfl, _, rfl, ?_⟩
      rw [decide_eq_true rfl]
      cases x with
      | non => exact iteT ⟨_, rfl, .non, _, rfl, .base .non, k H (Same.refl _)⟩
      | int i => exact iteT ⟨_, rfl, .int i, _, rfl, .base (.int i), by rw [hx]; exact k H (Same.refl _)⟩
      | _ => cases hx
    · rw [decide_eq_false (by decide +kernel)]
      refine iteF ⟨_, rfl, rfl, _, rfl, ?_⟩
      rw [decide_eq_false (by decide +kernel)]
      refine iteF ⟨_, rfl, .int i, _, rfl, .base (.int i), _, rfl, iteT ⟨_, rfl, _, _, rfl, rfl, ?_⟩⟩
      show Q (.bl (decide (0 ≤ i))) H
      rw [decide_eq_true hi]
      exact k H (Same.refl _)
/-! has_parts, at what fits: the parts behind the first name -/
def sp_has_parts (K : PySem.W.Frag) : Sp := fun vs H Q _ => ∃ (t : Addr) (c : Ch), vs = [.str c.kind, .ref t] ∧ SqT K H t (c.toV.drop 2) ∧ c.fits = true ∧ ∀ H', Same H H' → Q (.bl true) H'
theorem ok_has_parts (T : Tx K mg) : Callee P w K mg base CX0 4 "has_parts" ["kind", "parts"] [] (sp_has_parts K) := by
  have C1 := ok_is_single_part (P := P) (w := w) (base := base) T
  have C2 := (ok_is_greatest (P := P) (w := w) (base := base) T).up (show 2 ≤ 3 by decide)
  have C3 := (ok_is_value (P := P) (w := w) (base := base) T).up (show 2 ≤ 3 by decide)
  have C4 := (ok_is_way (P := P) (w := w) (base := base) T).up (show 2 ≤ 3 by decide)
  refine mkCallee (fd_has_parts T) (mg_has_parts T) sc_has_parts (fun _ _ _ _ _ _ us hl => match us, hl with | [_, _], _ => rfl) (fun vs H Q E h => ?_) (fun cdv A outer s H vs Q E hr h => ?_)
  · obtain ⟨t, c, rfl, _⟩ := h
    rfl
  · obtain ⟨t, c, rfl, ht, hf, k⟩ := h
    have gl : mg "len" = none := fr_len T
    refine ⟨_, pss_cons (ps_if (pt_cmpR op_eq (pv 0) pe_str (nomark _)) (pss_one (ps_ret (pe_cmpR op_eq (pe_callB call_len (by rfl) gl PySem.boot_len (pa_cons (pv 1) pa_nil)) pe_int (nomark _)))) pss_nil)
      (pss_cons (ps_if (pt_cmpR op_in_seq (pv 0) (pe_tup (pa_cons pe_str (pa_cons pe_str (pa_cons pe_str pa_nil)))) (by rfl)) (pss_one (ps_ret (pe_and (pe_cmpR op_eq (pe_callB call_len (by rfl) gl PySem.boot_len (pa_cons (pv 1) pa_nil)) pe_int (nomark _))
          (pe_one (pcall C1 hr (pa_cons (pv 0) (pa_cons (pe_ix ix_tup (pv 1) pe_int (fun _ _ => rfl)) pa_nil))))))) pss_nil)
      (pss_cons (ps_if (pt_cmpR op_eq (pv 0) pe_str (nomark _)) (pss_one (ps_ret (pe_and (pe_cmpR op_eq (pe_callB call_len (by rfl) gl PySem.boot_len (pa_cons (pv 1) pa_nil)) pe_int (nomark _))
          (pe_and (pcall C2 hr (pa_cons (pe_ix ix_tup (pv 1) pe_int (fun _ _ => rfl)) pa_nil)) (pe_one (pcall C3 hr (pa_cons (pe_ix ix_tup (pv 1) pe_int (fun _ _ => rfl)) pa_nil))))))) pss_nil)
      (pss_cons (ps_if (pt_cmpR op_eq (pv 0) pe_str (nomark _)) (pss_one (ps_ret (pe_and (pe_cmpR op_eq (pe_callB call_len (by rfl) gl PySem.boot_len (pa_cons (pv 1) pa_nil)) pe_int (nomark _))
          (pe_and (pcall C2 hr (pa_cons (pe_ix ix_tup (pv 1) pe_int (fun _ _ => rfl)) pa_nil)) (pe_one (pcall C4 hr (pa_cons (pe_ix ix_tup (pv 1) pe_int (fun _ _ => rfl)) pa_nil))))))) pss_nil)
      (pss_one (ps_ret pe_bl))))), ?_⟩
    cases c with
    | drop n =>
      refine ⟨_, rfl, rfl, _, rfl, iteT ⟨_, rfl, _, 0, rfl, .inr ⟨_, ht, rfl⟩, rfl, ?_⟩⟩
      exact k H (Same.refl _)
    | rename n m =>
      have hf' : (isNm (.str n) && isNm (.str m)) = true := hf
      rw [Bool.and_eq_true] at hf'
      refine ⟨_, rfl, rfl, _, rfl, ?_⟩
      refine iteD (nes (show ("rename" : Str) ≠ "drop" by decide +kernel)) ⟨_, rfl, (by show 3 ≤ sizeLine; decide), fun t2 nt2 => ⟨t2, _, rfl, .inr (sqT_of upd_same), rfl, rfl, _, rfl, iteT ?_⟩⟩
      have s2 := same_new (o := .tup [V.str "rename", .str "default", .str "fill"]) nt2
      refine ⟨_, rfl, _, 1, rfl, .inr ⟨_, same_tup s2 ht, rfl⟩, rfl, _, rfl, iteT ⟨_, rfl, _, rfl, t, _, 0, _, rfl, rfl, same_tup s2 ht, rfl, _, _, rfl, .inl ⟨rfl, hf'.2⟩, fun H' s' => k H' (s2.trans s')⟩⟩
    | dflt n v =>
      have hf' : (isNm (.str n) && isVal v) = true := hf
      rw [Bool.and_eq_true] at hf'
      refine ⟨_, rfl, rfl, _, rfl, ?_⟩
      refine iteD (nes (show ("default" : Str) ≠ "drop" by decide +kernel)) ⟨_, rfl, (by show 3 ≤ sizeLine; decide), fun t2 nt2 => ⟨t2, _, rfl, .inr (sqT_of upd_same), rfl, rfl, _, rfl, iteT ?_⟩⟩
      have s2 := same_new (o := .tup [V.str "rename", .str "default", .str "fill"]) nt2
      refine ⟨_, rfl, _, 1, rfl, .inr ⟨_, same_tup s2 ht, rfl⟩, rfl, _, rfl, iteT ⟨_, rfl, _, rfl, t, _, 0, _, rfl, rfl, same_tup s2 ht, rfl, _, _, rfl, .inr (.inl ⟨rfl, hf'.2⟩), fun H' s' => k H' (s2.trans s')⟩⟩
    | fill n i =>
      have hf' : (isNm (.str n) && decide (0 ≤ i)) = true := hf
      rw [Bool.and_eq_true] at hf'
      refine ⟨_, rfl, rfl, _, rfl, ?_⟩
      refine iteD (nes (show ("fill" : Str) ≠ "drop" by decide +kernel)) ⟨_, rfl, (by show 3 ≤ sizeLine; decide), fun t2 nt2 => ⟨t2, _, rfl, .inr (sqT_of upd_same), rfl, rfl, _, rfl, iteT ?_⟩⟩
      have s2 := same_new (o := .tup [V.str "rename", .str "default", .str "fill"]) nt2
      refine ⟨_, rfl, _, 1, rfl, .inr ⟨_, same_tup s2 ht, rfl⟩, rfl, _, rfl, iteT ⟨_, rfl, _, rfl, t, _, 0, _, rfl, rfl, same_tup s2 ht, rfl, _, _, rfl, .inr (.inr ⟨rfl, i, rfl, of_decide_eq_true hf'.2⟩), fun H' s' => k H' (s2.trans s')⟩⟩
    | add n g d =>
      have hf' : (isNm (.str n) && (isGr (.int g) && isVal d)) = true := hf
      rw [Bool.and_eq_true, Bool.and_eq_true] at hf'
      refine ⟨_, rfl, rfl, _, rfl, ?_⟩
      refine iteD (nes (show ("add" : Str) ≠ "drop" by decide +kernel)) ⟨_, rfl, (by show 3 ≤ sizeLine; decide), fun t2 nt2 => ⟨t2, _, rfl, .inr (sqT_of upd_same), rfl, rfl, _, rfl, iteF ?_⟩⟩
      have s2 := same_new (o := .tup [V.str "rename", .str "default", .str "fill"]) nt2
      refine ⟨_, rfl, rfl, _, rfl, iteT ⟨_, rfl, _, 2, rfl, .inr ⟨_, same_tup s2 ht, rfl⟩, rfl, _, rfl, iteT ⟨_, rfl, t, _, 0, _, rfl, rfl, same_tup s2 ht, rfl, .int g, _, rfl, .base (.int g), _, rfl, ?_⟩⟩⟩
      rw [hf'.2.1]
      have td : ∃ ty, TyX K (upd H t2 (.tup [V.str "rename", .str "default", .str "fill"])) d (.type ty) := by
        cases d with
        | non => exact ⟨_, .base .non⟩
        | int i => exact ⟨_, .base (.int i)⟩
        | _ => cases hf'.2.2
      obtain ⟨ty, td⟩ := td
      refine iteT ⟨_, rfl, t, _, 1, _, rfl, rfl, same_tup s2 ht, rfl, d, ty, rfl, td, ?_⟩
      rw [hf'.2.2]
      exact k _ s2
    | great n g way =>
      have hf' : (isNm (.str n) && (isGr (.int g) && isWy way)) = true := hf
      rw [Bool.and_eq_true, Bool.and_eq_true] at hf'
      refine ⟨_, rfl, rfl, _, rfl, ?_⟩
      refine iteD (nes (show ("greatest" : Str) ≠ "drop" by decide +kernel)) ⟨_, rfl, (by show 3 ≤ sizeLine; decide), fun t2 nt2 => ⟨t2, _, rfl, .inr (sqT_of upd_same), rfl, rfl, _, rfl, iteF ?_⟩⟩
      have s2 := same_new (o := .tup [V.str "rename", .str "default", .str "fill"]) nt2
      refine ⟨_, rfl, rfl, _, rfl, ?_⟩
      refine iteD (nes (show ("greatest" : Str) ≠ "add" by decide +kernel)) ⟨_, rfl, rfl, _, rfl, iteT ⟨_, rfl, _, 2, rfl, .inr ⟨_, same_tup s2 ht, rfl⟩, rfl, _, rfl, iteT ⟨_, rfl, t, _, 0, _, rfl, rfl, same_tup s2 ht, rfl, .int g, _, rfl, .base (.int g), _, rfl, ?_⟩⟩⟩
      rw [hf'.2.1]
      exact iteT ⟨_, rfl, t, _, 1, _, rfl, rfl, same_tup s2 ht, rfl, way, rfl, hf'.2.2, k _ s2⟩
/-! is_change, at what fits -/
/-- a change stands at t -/
def ChAt (K : PySem.W.Frag) (H : Hp) (t : Addr) (c : Ch) : Prop := SqT K H t c.toV
theorem ChAt.keep {K : PySem.W.Frag} {H H' : Hp} {t : Addr} {c : Ch} (s : Same H H') (h : ChAt K H t c) : ChAt K H' t c := same_tup s h
theorem Ch.nm {c : Ch} (h : c.fits = true) : isNm (.str c.name) = true := by
  cases c <;> first | exact h | exact (Bool.and_eq_true_iff.mp h).1
theorem Ch.len (c : Ch) : 2 ≤ c.toV.length := by cases c <;> simp [Ch.toV]
theorem sqT_tup {K : PySem.W.Frag} {H : Hp} {a : Addr} {xs : List V} (h : SqT K H a xs) : TyX K H (.ref a) (.type "tuple") := by
  rcases h with (h | ⟨o, h⟩) | ⟨o, its, n, h, hc, _⟩
  · exact .base (.tup h)
  · exact .fTuple h
  · exact .kTuple h hc
def sp_is_change (K : PySem.W.Frag) : Sp := fun vs H Q _ => ∃ (t : Addr) (c : Ch), vs = [.ref t] ∧ ChAt K H t c ∧ c.fits = true ∧ ∀ H', Same H H' → Q (.bl true) H'
theorem six2 {n : Nat} (h : 2 ≤ n) : HT.sIx n 0 (some 2) = 2 := by
  have e := HT.sIx_nat n 0 2
  have e2 : ((2 : Nat) : Int) = 2 := rfl
  rw [e2] at e
  rw [e]
  omega
theorem cut2 (c : Ch) : cutV c.toV (some 2) none = c.toV.drop 2 := by
  have h := c.len
  unfold cutV
  rw [six2 h, HT.sIx_none]
  exact List.take_of_length_le (by rw [List.length_drop]; exact Nat.le_refl _)
theorem ok_is_change (T : Tx K mg) : Callee P w K mg base CX0 5 "is_change" ["value"] [] (sp_is_change K) := by
  have C1 := (ok_is_name (P := P) (w := w) (base := base) T).up (show 1 ≤ 4 by decide)
  have C2 := ok_has_parts (P := P) (w := w) (base := base) T
  refine mkCallee (fd_is_change T) (mg_is_change T) sc_is_change (fun _ _ _ _ _ _ us hl => match us, hl with | [_], _ => rfl) (fun vs H Q E h => ?_) (fun cdv A outer s H vs Q E hr h => ?_)
  · obtain ⟨t, c, rfl, _⟩ := h
    rfl
  · obtain ⟨t, c, rfl, ht, hf, k⟩ := h
    refine ⟨_, pss_cons (ps_if (PW.pt (pw_or (pt_not (pt_val (pe_callB call_isi (by rfl) (fr_isinstance T) (by decide +kernel) (pa_cons (pv 0) (pa_cons (pe_bltn (v := .ty "tuple") (by rfl) (fr_tuple T) (by decide +kernel) rfl) pa_nil)))))
        (pw_or1 (pt_cmpR op_lt (pe_callB call_len (by rfl) (fr_len T) PySem.boot_len (pa_cons (pv 0) pa_nil)) pe_int (nomark _))))) (pss_one (ps_ret pe_bl)) pss_nil)
      (pss_one (ps_ret (pe_and (pe_callB call_isi (by rfl) (fr_isinstance T) (by decide +kernel) (pa_cons (pe_ix ix_tup (pv 0) pe_int (fun _ _ => rfl)) (pa_cons (pe_bltn (v := .ty "str") (by rfl) (fr_str T) (by decide +kernel) rfl) pa_nil)))
        (pe_and (pcall C1 hr (pa_cons (pe_ix ix_tup (pv 0) pe_int (fun _ _ => rfl)) pa_nil)) (pe_one (pcall C2 hr (pa_cons (pe_ix ix_tup (pv 0) pe_int (fun _ _ => rfl)) (pa_cons (pe_slice sl_tup (pv 0) (po_some pe_int) po_none) pa_nil)))))))), ?_⟩
    have hl := c.len
    refine ⟨_, rfl, .ref t, .ty "tuple", _, _, true, rfl, .ty "tuple", sqT_tup ht, kit_ty (by decide +kernel), _, rfl, iteF ⟨_, rfl, _, c.toV.length, rfl, .inr ⟨_, ht, rfl⟩, _, _, rfl, rfl, _, rfl, iteD (by omega) ?_⟩⟩
    refine ⟨_, rfl, t, _, 0, _, rfl, rfl, ht, c.at0, .str c.kind, .ty "str", _, _, true, rfl, .ty "str", .base (.str _), kit_ty (by decide +kernel), _, rfl, iteT ?_⟩
    have hn := Ch.nm hf
    refine ⟨_, rfl, t, _, 1, _, rfl, rfl, ht, c.at1, .str c.name, _, rfl, .base (.str _), fun n e => by cases e; exact nm_len hn, fun H1 s1 => ⟨_, rfl, ?_⟩⟩
    rw [hn]
    refine iteT ⟨_, rfl, t, _, 0, _, rfl, rfl, same_tup s1 ht, c.at0, _, rfl, 2, rfl, t, _, rfl, same_tup s1 ht, fun z => by rw [six2 hl] at z; exact absurd z.1 (by decide), fun p np => ?_⟩
    rw [cut2]
    exact ⟨p, c, rfl, sqT_of upd_same, hf, fun H' s' => k H' ((s1.trans (same_new np)).trans s')⟩
/-! value_above -/
/-- what a value above becomes -/
def abv (g : Int) (way : Str) : V := if way = "cut" then .int g else if way = "none" then .non else .str "missing"
def sp_value_above (K : PySem.W.Frag) : Sp := fun vs H Q _ => ∃ (t : Addr) (n way : Str) (g : Int), vs = [.ref t] ∧ ChAt K H t (.great n g way) ∧ Q (abv g way) H
theorem ok_value_above (T : Tx K mg) : Callee P w K mg base CX0 1 "value_above" ["change"] [] (sp_value_above K) := by
  refine mkCallee (fd_value_above T) (mg_value_above T) sc_value_above (fun _ _ _ _ _ _ us hl => match us, hl with | [_], _ => rfl) (fun vs H Q E h => ?_) (fun cdv A outer s H vs Q E hr h => ?_)
  · obtain ⟨t, n, way, g, rfl, _⟩ := h
    rfl
  · obtain ⟨t, n, way, g, rfl, ht, k⟩ := h
    obtain ⟨tk, gM⟩ := ms_MISSING T
    refine ⟨_, pss_cons (ps_if (pt_cmpR op_eq (pe_ix ix_tup (pv 0) pe_int (fun _ _ => rfl)) pe_str (nomark _)) (pss_one (ps_ret (pe_ix ix_tup (pv 0) pe_int (fun _ _ => rfl)))) pss_nil)
      (pss_cons (ps_if (pt_cmpR op_eq (pe_ix ix_tup (pv 0) pe_int (fun _ _ => rfl)) pe_str (nomark _)) (pss_one (ps_ret pe_non)) pss_nil) (pss_one (ps_ret (pe_glob (v := .str "missing") (by rfl) gM ⟨_, rfl⟩)))), ?_⟩
    have i3 : atI (Ch.great n g way).toV 3 = some (.str way) := rfl
    have i2 : atI (Ch.great n g way).toV 2 = some (.int g) := rfl
    refine ⟨_, rfl, t, _, 3, _, rfl, rfl, ht, i3, rfl, _, rfl, ?_⟩
    unfold abv at k
    by_cases h1 : way = "cut"
    · rw [if_pos h1] at k
      subst h1
      exact iteDT rfl ⟨_, rfl, t, _, 2, _, rfl, rfl, ht, i2, k⟩
    · rw [if_neg h1] at k
      refine iteD (nes h1) ⟨_, rfl, t, _, 3, _, rfl, rfl, ht, i3, rfl, _, rfl, ?_⟩
      by_cases h2 : way = "none"
      · rw [if_pos h2] at k
        subst h2
        exact iteDT rfl k
      · rw [if_neg h2] at k
        exact iteD (nes h2) k
/-! changed_value -/
/-- what a value of a column of this name becomes -/
def chgV (n : Str) (c : Ch) (v : V) : V := if c.name = n then (match c, v with
  | .fill _ i, .non => .int i
  | .great _ g way, .int j => if g < j then abv g way else .int j
  | _, v => v) else v
/-- None or an int -/
def valOk : V → Bool
  | .non => true
  | .int _ => true
  | _ => false
def sp_changed_value (K : PySem.W.Frag) : Sp := fun vs H Q _ => ∃ (a t : Addr) (n : Str) (g k : Int) (d v : V) (c : Ch), vs = [.ref a, .ref t, v] ∧ ColAt K H a n g d k ∧ ChAt K H t c ∧ valOk v = true ∧ Q (chgV n c v) H
theorem ok_changed_value (T : Tx K mg) : Callee P w K mg base CX0 2 "changed_value" ["column", "change", "value"] [] (sp_changed_value K) := by
  have C1 := ok_value_above (P := P) (w := w) (base := base) T
  refine mkCallee (fd_changed_value T) (mg_changed_value T) sc_changed_value (fun _ _ _ _ _ _ us hl => match us, hl with | [_, _, _], _ => rfl) (fun vs H Q E h => ?_) (fun cdv A outer s H vs Q E hr h => ?_)
  · obtain ⟨a, t, n, g, k, d, v, c, rfl, _⟩ := h
    rfl
  · obtain ⟨a, t, n, g, k, d, v, c, rfl, ⟨dx, ha⟩, ht, hv, kk⟩ := h
    refine ⟨_, pss_cons (ps_if (pt_cmpR op_ne (pe_ix ix_tup (pv 1) pe_int (fun _ _ => rfl)) (pe_fld (pv 0) rfl) (nomark _)) (pss_one (ps_ret (pv 2))) pss_nil)
      (pss_cons (ps_if (PW.pt (pw_and (pt_cmpR op_eq (pe_ix ix_tup (pv 1) pe_int (fun _ _ => rfl)) pe_str (nomark _)) (pw_and1 (pt_cmpR op_isN (pv 2) pe_non (nomark _))))) (pss_one (ps_ret (pe_ix ix_tup (pv 1) pe_int (fun _ _ => rfl)))) pss_nil)
      (pss_cons (ps_if (PW.pt (pw_and (pt_cmpR op_eq (pe_ix ix_tup (pv 1) pe_int (fun _ _ => rfl)) pe_str (nomark _)) (pw_and (pt_cmpR op_notN (pv 2) pe_non (nomark _)) (pw_and1 (pt_cmpR op_gt (pv 2) (pe_ix ix_tup (pv 1) pe_int (fun _ _ => rfl)) (nomark _))))))
        (pss_one (ps_ret (pcall C1 hr (pa_cons (pv 1) pa_nil)))) pss_nil)
      (pss_one (ps_ret (pv 2))))), ?_⟩
    refine ⟨_, rfl, t, _, 1, _, rfl, rfl, ht, c.at1, _, rfl, a, _, dx, _, _, rfl, ha, cl_Column T, na_Column_name T, colFs_name, rfl, _, rfl, ?_⟩
    unfold chgV at kk
    by_cases hn : c.name = n
    · rw [if_pos hn] at kk
      refine iteNS (by rw [hn]) ?_
      cases c with
      | add n2 g2 d2 =>
        refine ⟨_, rfl, t, _, 0, _, rfl, rfl, ht, rfl, rfl, _, rfl, iteD (nes (show ("add" : Str) ≠ "fill" by decide +kernel)) (iteF ?_)⟩
        exact ⟨_, rfl, t, _, 0, _, rfl, rfl, ht, rfl, rfl, _, rfl, iteD (nes (show ("add" : Str) ≠ "greatest" by decide +kernel)) (iteF ⟨_, rfl, kk⟩)⟩
      | drop n2 =>
        refine ⟨_, rfl, t, _, 0, _, rfl, rfl, ht, rfl, rfl, _, rfl, iteD (nes (show ("drop" : Str) ≠ "fill" by decide +kernel)) (iteF ?_)⟩
        exact ⟨_, rfl, t, _, 0, _, rfl, rfl, ht, rfl, rfl, _, rfl, iteD (nes (show ("drop" : Str) ≠ "greatest" by decide +kernel)) (iteF ⟨_, rfl, kk⟩)⟩
      | rename n2 m2 =>
        refine ⟨_, rfl, t, _, 0, _, rfl, rfl, ht, rfl, rfl, _, rfl, iteD (nes (show ("rename" : Str) ≠ "fill" by decide +kernel)) (iteF ?_)⟩
        exact ⟨_, rfl, t, _, 0, _, rfl, rfl, ht, rfl, rfl, _, rfl, iteD (nes (show ("rename" : Str) ≠ "greatest" by decide +kernel)) (iteF ⟨_, rfl, kk⟩)⟩
      | dflt n2 v2 =>
        refine ⟨_, rfl, t, _, 0, _, rfl, rfl, ht, rfl, rfl, _, rfl, iteD (nes (show ("default" : Str) ≠ "fill" by decide +kernel)) (iteF ?_)⟩
        exact ⟨_, rfl, t, _, 0, _, rfl, rfl, ht, rfl, rfl, _, rfl, iteD (nes (show ("default" : Str) ≠ "greatest" by decide +kernel)) (iteF ⟨_, rfl, kk⟩)⟩
      | fill n2 i =>
        refine ⟨_, rfl, t, _, 0, _, rfl, rfl, ht, rfl, rfl, _, rfl, iteDT rfl ⟨_, rfl, rfl, _, rfl, ?_⟩⟩
        cases v with
        | non => exact iteDT rfl ⟨_, rfl, t, _, 2, _, rfl, rfl, ht, rfl, kk⟩
        | int j =>
          refine iteD (by intro z; cases z) ?_
          exact ⟨_, rfl, t, _, 0, _, rfl, rfl, ht, rfl, rfl, _, rfl, iteD (nes (show ("fill" : Str) ≠ "greatest" by decide +kernel)) (iteF ⟨_, rfl, kk⟩)⟩
        | _ => cases hv
      | great n2 g2 way =>
        refine ⟨_, rfl, t, _, 0, _, rfl, rfl, ht, rfl, rfl, _, rfl, iteD (nes (show ("greatest" : Str) ≠ "fill" by decide +kernel)) (iteF ?_)⟩
        refine ⟨_, rfl, t, _, 0, _, rfl, rfl, ht, rfl, rfl, _, rfl, iteDT rfl ⟨_, rfl, rfl, _, rfl, ?_⟩⟩
        cases v with
        | non => exact iteNS rfl (iteF ⟨_, rfl, kk⟩)
        | int j =>
          refine iteNF (by intro z; cases z) ⟨_, rfl, _, rfl, t, _, 2, _, rfl, rfl, ht, rfl, _, _, rfl, rfl, _, rfl, ?_⟩
          by_cases hj : g2 < j
          · refine iteDT hj ⟨_, rfl, t, n2, way, g2, rfl, ht, ?_⟩
            have e : (if g2 < j then abv g2 way else V.int j) = abv g2 way := if_pos hj
            rw [← e]
            exact kk
          · refine iteD hj ⟨_, rfl, ?_⟩
            have e : (if g2 < j then abv g2 way else V.int j) = V.int j := if_neg hj
            rw [← e]
            exact kk
        | _ => cases hv
    · rw [if_neg hn] at kk
      exact iteNF (nes hn) ⟨_, rfl, kk⟩
/-! changed_column -/
def ColA (K : PySem.W.Frag) (H : Hp) (a : Addr) (c : Col) : Prop := ColAt K H a c.name c.top c.dflt c.num
theorem ColA.keep {K : PySem.W.Frag} {H H' : Hp} {a : Addr} {c : Col} (s : Same H H') (h : ColA K H a c) : ColA K H' a c := h.imp fun _ e => s _ _ e
theorem ColA.keepNL {K : PySem.W.Frag} {H H' : Hp} {a : Addr} {c : Col} (s : KeepNL H H') (h : ColA K H a c) : ColA K H' a c := h.imp fun _ e => s _ _ (fun _ z => by cases z) e
/-- a column's parts fit -/
structure ColOk (c : Col) : Prop where
  nm : isNm (.str c.name) = true
  gr : isGr (.int c.top) = true
  df : isIn c.top c.dflt = true
  nu : 0 ≤ c.num
/-- what a change of a column that does not drop it makes of it -/
def chgC (c : Col) (ch : Ch) : Col := match ch with
  | .rename _ m => { c with name := m }
  | .dflt _ v => { c with dflt := v }
  | .great n g way => { c with top := g, dflt := chgV c.name (.great n g way) c.dflt }
  | _ => c
theorem isIn_ok {g : Int} {v : V} (h : isIn g v = true) : valOk v = true := by
  cases v with
  | non => rfl
  | int _ => rfl
  | _ => cases h
def sp_changed_column (K : PySem.W.Frag) : Sp := fun vs H Q _ => ∃ (a t : Addr) (c : Col) (ch : Ch), vs = [.ref a, .ref t] ∧ ColA K H a c ∧ ChAt K H t ch ∧ ColOk c ∧ ColOk (chgC c ch) ∧ ∀ (a' : Addr) (H' : Hp), Same H H' → ColA K H' a' (chgC c ch) → Q (.ref a') H'
theorem ok_changed_column (T : Tx K mg) : Callee P w K mg base CX0 7 "changed_column" ["column", "change"] [] (sp_changed_column K) := by
  obtain ⟨fdC, GC, bC⟩ := ok_changed (P := P) (w := w) (base := base) T
  obtain ⟨fdI, GI, FI⟩ := ok_Col_init (P := P) (w := w) (base := base) T
  obtain ⟨_, _, kb⟩ := kbinds_Col T FI
  have C1 := (ok_changed_value (P := P) (w := w) (base := base) T).up (show 2 ≤ 6 by decide)
  have cl := cl_Column T
  refine mkCallee (fd_changed_column T) (mg_changed_column T) sc_changed_column (fun _ _ _ _ _ _ us hl => match us, hl with | [_, _], _ => rfl) (fun vs H Q E h => ?_) (fun cdv A outer s H vs Q E hr h => ?_)
  · obtain ⟨a, t, c, ch, rfl, _⟩ := h
    rfl
  · obtain ⟨a, t, c, ch, rfl, ⟨dx, ha⟩, ht, ok1, ok2, k⟩ := h
    have nd := sc_changed_column.nd
    have lk : (colFs c.name c.top c.dflt c.num).lookup ("changed" : Str) = none := by
      have g1 : (("changed" : Str) == "name") = false := by decide +kernel
      have g2 : (("changed" : Str) == "greatest") = false := by decide +kernel
      have g3 : (("changed" : Str) == "default") = false := by decide +kernel
      have g4 : (("changed" : Str) == "number") = false := by decide +kernel
      unfold colFs
      simp [List.lookup, g1, g2, g3, g4]
    refine ⟨_, pss_cons (ps_set (i := 2) nd rfl (Or.inl rfl) (pe_ix ix_tup (pv 1) pe_int (fun _ _ => rfl)))
      (pss_cons (ps_if (pt_cmpR op_eq (pv 2) pe_str (nomark _)) (pss_one (ps_ret (pe_meth (pv 0) cl (me_Column_changed T) GC hr bC .nil pass0 (pa_cons pe_str (pa_cons (pe_ix ix_tup (pv 1) pe_int (fun _ _ => rfl)) pa_nil))))) pss_nil)
      (pss_cons (ps_if (pt_cmpR op_eq (pv 2) pe_str (nomark _)) (pss_one (ps_ret (pe_meth (pv 0) cl (me_Column_changed T) GC hr bC .nil pass0 (pa_cons pe_str (pa_cons (pe_ix ix_tup (pv 1) pe_int (fun _ _ => rfl)) pa_nil))))) pss_nil)
      (pss_cons (ps_if (pt_cmpR op_eq (pv 2) pe_str (nomark _)) (pss_cons (ps_set (i := 3) nd rfl (Or.inl rfl) (pcall C1 hr (pa_cons (pv 0) (pa_cons (pv 1) (pa_cons (pe_fld (pv 0) rfl) pa_nil)))))
          (pss_one (ps_ret (pe_makeK (mk_Column T) GI (hr.mono (by decide)) (by rfl) (mg_Column T) kb pass0 (pa_cons (pe_fld (pv 0) rfl) (pa_cons (pe_ix ix_tup (pv 1) pe_int (fun _ _ => rfl)) (pa_cons (pv 3) pa_nil))) (pk_cons (pe_fld (pv 0) rfl) pk_nil))))) pss_nil)
      (pss_one (ps_ret (pv 0)))))), ?_⟩
    refine ⟨_, rfl, t, _, 0, _, rfl, rfl, ht, ch.at0, _, rfl, rfl, _, rfl, ?_⟩
    have dv := isIn_ok ok1.df
    cases ch with
    | add n g d =>
      refine iteD (nes (show ("add" : Str) ≠ "rename" by decide +kernel)) ⟨_, rfl, rfl, _, rfl, iteD (nes (show ("add" : Str) ≠ "default" by decide +kernel)) ⟨_, rfl, rfl, _, rfl, iteD (nes (show ("add" : Str) ≠ "greatest" by decide +kernel)) ⟨_, rfl, k a H (Same.refl _) ⟨dx, ha⟩⟩⟩⟩
    | drop n =>
      refine iteD (nes (show ("drop" : Str) ≠ "rename" by decide +kernel)) ⟨_, rfl, rfl, _, rfl, iteD (nes (show ("drop" : Str) ≠ "default" by decide +kernel)) ⟨_, rfl, rfl, _, rfl, iteD (nes (show ("drop" : Str) ≠ "greatest" by decide +kernel)) ⟨_, rfl, k a H (Same.refl _) ⟨dx, ha⟩⟩⟩⟩
    | fill n i =>
      refine iteD (nes (show ("fill" : Str) ≠ "rename" by decide +kernel)) ⟨_, rfl, rfl, _, rfl, iteD (nes (show ("fill" : Str) ≠ "default" by decide +kernel)) ⟨_, rfl, rfl, _, rfl, iteD (nes (show ("fill" : Str) ≠ "greatest" by decide +kernel)) ⟨_, rfl, k a H (Same.refl _) ⟨dx, ha⟩⟩⟩⟩
    | rename n m =>
      have i2 : atI (Ch.rename n m).toV 2 = some (.str m) := rfl
      refine iteDT rfl ⟨_, rfl, a, dx, _, rfl, ha, lk, _, rfl, t, _, 2, _, rfl, rfl, ht, i2, a, "name", c.name, m, c.top, c.num, c.top, c.num, c.dflt, c.dflt, .str m, rfl, ⟨dx, ha⟩, ⟨.inl rfl, by rw [if_pos rfl]⟩, ok2.nm, ok2.gr, ok2.df, ok2.nu, fun a' H' _ s' h' => k a' H' s' h'⟩
    | dflt n v =>
      have i2 : atI (Ch.dflt n v).toV 2 = some v := rfl
      refine iteD (nes (show ("default" : Str) ≠ "rename" by decide +kernel)) ⟨_, rfl, rfl, _, rfl, iteDT rfl ⟨_, rfl, a, dx, _, rfl, ha, lk, _, rfl, t, _, 2, _, rfl, rfl, ht, i2, a, "default", c.name, c.name, c.top, c.num, c.top, c.num, c.dflt, v, v, rfl, ⟨dx, ha⟩,
        ⟨.inr (.inr (.inl rfl)), by rw [if_neg (show ¬ ("default" : Str) = "name" by decide +kernel), if_neg (show ¬ ("default" : Str) = "greatest" by decide +kernel), if_pos rfl]⟩, ok2.nm, ok2.gr, ok2.df, ok2.nu, fun a' H' _ s' h' => k a' H' s' h'⟩⟩
    | great n g way =>
      have i2 : atI (Ch.great n g way).toV 2 = some (.int g) := rfl
      refine iteD (nes (show ("greatest" : Str) ≠ "rename" by decide +kernel)) ⟨_, rfl, rfl, _, rfl, iteD (nes (show ("greatest" : Str) ≠ "default" by decide +kernel)) ⟨_, rfl, rfl, _, rfl, iteDT rfl ?_⟩⟩
      refine ⟨_, rfl, _, rfl, _, rfl, a, _, dx, _, _, rfl, ha, cl, na_Column_default T, colFs_default, a, t, c.name, c.top, c.num, c.dflt, c.dflt, .great n g way, rfl, ⟨dx, ha⟩, ht, dv, ?_⟩
      refine ⟨_, rfl, a, _, dx, _, _, rfl, ha, cl, na_Column_name T, colFs_name, _, rfl, t, _, 2, _, rfl, rfl, ht, i2, _, rfl, _, rfl, a, _, dx, _, _, rfl, ha, cl, na_Column_number T, colFs_number, rfl, rfl, fun x dx2 nx ndx ndc => ?_⟩
      refine ⟨x, dx2, c.name, g, c.num, chgV c.name (.great n g way) c.dflt, rfl, upd_same, ok2.nm, ok2.gr, ok2.df, ok2.nu, fun H4 hc4 k4 => ⟨rfl, ?_⟩⟩
      exact k x H4 (fun b o e => k4 b o (ne_of_none e nx) (by rw [upd_ne (ne_of_none e nx), upd_ne (ne_of_none e ndx)]; exact e)) hc4
/-! values compared -/
theorem val_scal2 {v u : V} (h : isVal v = true) (g : isVal u = true) : scal v u = true := by
  cases v with
  | non => cases u with
    | non => rfl
    | int _ => rfl
    | _ => cases g
  | int _ => cases u with
    | non => rfl
    | int _ => rfl
    | _ => cases g
  | _ => cases h
theorem val_scal {v : V} (h : isVal v = true) : scal v v = true := by
  cases v with
  | non => rfl
  | int _ => rfl
  | _ => cases h
theorem in_val {g : Int} {v : V} (h : isIn g v = true) : isVal v = true := by
  cases v with
  | non => rfl
  | int i =>
    have h : (decide (0 ≤ i) && decide (i ≤ g)) = true := h
    exact (Bool.and_eq_true_iff.mp h).1
  | _ => cases h
theorem in_valOk {g : Int} {v : V} (h : isIn g v = true) : valOk v = true := by
  cases v with
  | non => rfl
  | int _ => rfl
  | _ => cases h

/-! column == column -/
def colEq (c d : Col) : Bool := decide (c.name = d.name) && (decide (c.top = d.top) && (decide (c.dflt = d.dflt) && decide (c.num = d.num)))
theorem colEq_self (c : Col) : colEq c c = true := by
  unfold colEq
  rw [decide_eq_true rfl, decide_eq_true rfl, decide_eq_true rfl, decide_eq_true rfl]
  rfl
def sp_Col_eq (K : PySem.W.Frag) : Sp := fun vs H Q _ => ∃ (a b : Addr) (c d : Col), vs = [.ref a, .ref b] ∧ ColA K H a c ∧ ColA K H b d ∧ isVal c.dflt = true ∧ isVal d.dflt = true ∧ Q (.bl (colEq c d)) H
theorem ok_Col_eq (T : Tx K mg) : ∃ fd, FnOk P w K mg base CX0 1 (He.ma K (He.ga K "Column") "__eq__") fd ["self", "other"] (sp_Col_eq K) ∧ Binds K fd ["self", "other"] [] := by
  have ic := insC_of (ex_Column T) (cl_Column T)
  have cl := cl_Column T
  refine mkMeth (fd_Column___eq__ T) sc_Column___eq__ (fun _ _ _ _ _ _ us hl => match us, hl with | [_, _], _ => rfl) (fun vs H Q E h => ?_) (fun cdv A outer s H vs Q E hr h => ?_)
  · obtain ⟨a, b, c, d, rfl, _⟩ := h
    rfl
  obtain ⟨a, b, c, d, rfl, ⟨dx, h1⟩, ⟨dy, h2⟩, v1, v2, k⟩ := h
  refine ⟨_, pss_one (ps_ret (pe_and (pe_callB (C8.call_isC ic) (by rfl) (fr_isinstance T) (by decide +kernel) (pa_cons (pv 1) (pa_cons (pe_glob (v := .ref (He.ga K "Column")) (by rfl) (mg_Column T) rfl) pa_nil)))
    (pe_and (pe_cmpR op_eq (pe_fld (pv 0) rfl) (pe_fld (pv 1) rfl) (nomark _)) (pe_and (pe_cmpR op_eq (pe_fld (pv 0) rfl) (pe_fld (pv 1) rfl) (nomark _)) (pe_and (pe_cmpR op_eq (pe_fld (pv 0) rfl) (pe_fld (pv 1) rfl) (nomark _)) (pe_one (pe_cmpR op_eq (pe_fld (pv 0) rfl) (pe_fld (pv 1) rfl) (nomark _)))))))), ?_⟩
  have dI : ∀ i j : Int, decide (V.int i = V.int j) = decide (i = j) := fun i j => by
    rw [Bool.eq_iff_iff, decide_eq_true_iff, decide_eq_true_iff]
    exact ⟨V.int.inj, congrArg _⟩
  have dS : ∀ i j : Str, decide (V.str i = V.str j) = decide (i = j) := fun i j => by
    rw [Bool.eq_iff_iff, decide_eq_true_iff, decide_eq_true_iff]
    exact ⟨V.str.inj, congrArg _⟩
  unfold colEq at k
  refine ⟨_, rfl, b, dy, _, rfl, h2, _, rfl, iteT ?_⟩
  refine ⟨_, rfl, a, _, dx, _, _, rfl, h1, cl, na_Column_name T, colFs_name, _, rfl, b, _, dy, _, _, rfl, h2, cl, na_Column_name T, colFs_name, rfl, _, rfl, ?_⟩
  rw [dS]
  cases e1 : decide (c.name = d.name) with
  | false =>
    rw [e1] at k
    exact iteF k
  | true =>
    rw [e1, Bool.true_and] at k
    refine iteT ⟨_, rfl, a, _, dx, _, _, rfl, h1, cl, na_Column_greatest T, colFs_greatest, _, rfl, b, _, dy, _, _, rfl, h2, cl, na_Column_greatest T, colFs_greatest, rfl, _, rfl, ?_⟩
    rw [dI]
    cases e2 : decide (c.top = d.top) with
    | false =>
      rw [e2] at k
      exact iteF k
    | true =>
      rw [e2, Bool.true_and] at k
      refine iteT ⟨_, rfl, a, _, dx, _, _, rfl, h1, cl, na_Column_default T, colFs_default, _, rfl, b, _, dy, _, _, rfl, h2, cl, na_Column_default T, colFs_default, val_scal2 v1 v2, _, rfl, ?_⟩
      cases e3 : decide (c.dflt = d.dflt) with
      | false =>
        rw [e3] at k
        exact iteF k
      | true =>
        rw [e3, Bool.true_and] at k
        refine iteT ⟨_, rfl, a, _, dx, _, _, rfl, h1, cl, na_Column_number T, colFs_number, _, rfl, b, _, dy, _, _, rfl, h2, cl, na_Column_number T, colFs_number, rfl, ?_⟩
        rw [dI]
        exact k
/-! Column.__contains__ -/
def sp_contains (K : PySem.W.Frag) : Sp := fun vs H Q _ => ∃ (c : Addr) (n : Str) (g k : Int) (d x : V) (t : String), vs = [.ref c, x] ∧ ColAt K H c n g d k ∧ TyX K H x (.type t) ∧ Q (.bl (isIn g x)) H
theorem ok_contains (T : Tx K mg) : ∃ fd, FnOk P w K mg base CX0 4 (He.ma K (He.ga K "Column") "__contains__") fd ["self", "x"] (sp_contains K) ∧ Binds K fd ["self", "x"] [] := by
  have C1 := ok_is_within (P := P) (w := w) (base := base) T
  obtain ⟨fd, F⟩ := fd_Column___contains__ T
  refine ⟨fd, F.ok (CX := CX0) sc_Column___contains__ (fun vs H Q E h => ?_) (fun cdv A outer s H vs Q E hr h => ?_), F.bindsN fun _ _ _ _ _ _ us hl => match us, hl with | [_, _], _ => rfl⟩
  · obtain ⟨c, n, g, k, d, x, t, rfl, _⟩ := h
    rfl
  suffices hh : ∃ t, PSs (cxOf CX0 P w K mg base ["self", "x"] "Column.__contains__" (defScope s_Column___contains__) (He.ma K (He.ga K "Column") "__contains__") cdv A outer s H E).nox (defBody s_Column___contains__) t ∧
      t { nx := fun _ H' => Q .non H', rt := Q } (start ["self", "x"] vs) H by
    obtain ⟨t, h1, h2⟩ := hh
    exact ⟨t, h1.nox, h2⟩
  obtain ⟨c, n, g, k, d, x, t, rfl, ⟨dx, hc⟩, ty, kk⟩ := h
  refine ⟨_, pss_one (ps_ret (pcall C1 hr (pa_cons (pv 1) (pa_cons (pe_fld (pv 0) rfl) pa_nil)))), ?_⟩
  exact ⟨_, rfl, _, rfl, c, _, dx, _, _, rfl, hc, cl_Column T, na_Column_greatest T, colFs_greatest, x, g, t, rfl, ty, kk⟩
/-! Column.all_values -/
def sp_all_values (K : PySem.W.Frag) : Sp := fun vs H Q _ => ∃ (c : Addr) (n : Str) (g k : Int) (d : V), vs = [.ref c] ∧ ColAt K H c n g d k ∧ 0 ≤ g ∧ g ≤ 1000 ∧ ∀ p H', H p = none → Same H H' → H' p = some (.lst (valsTo g)) → Q (.ref p) H'
theorem ok_all_values (T : Tx K mg) : ∃ fd, FnOk P w K mg base CX0 2 (He.ma K (He.ga K "Column") "all_values") fd ["self"] (sp_all_values K) ∧ Binds K fd ["self"] [] := by
  have C1 := ok_values_to (P := P) (w := w) (base := base) T
  obtain ⟨fd, F⟩ := fd_Column_all_values T
  refine ⟨fd, F.ok (CX := CX0) sc_Column_all_values (fun vs H Q E h => ?_) (fun cdv A outer s H vs Q E hr h => ?_), F.bindsN fun _ _ _ _ _ _ us hl => match us, hl with | [_], _ => rfl⟩
  · obtain ⟨c, n, g, k, d, rfl, _⟩ := h
    rfl
  suffices hh : ∃ t, PSs (cxOf CX0 P w K mg base ["self"] "Column.all_values" (defScope s_Column_all_values) (He.ma K (He.ga K "Column") "all_values") cdv A outer s H E).nox (defBody s_Column_all_values) t ∧
      t { nx := fun _ H' => Q .non H', rt := Q } (start ["self"] vs) H by
    obtain ⟨t, h1, h2⟩ := hh
    exact ⟨t, h1.nox, h2⟩
  obtain ⟨c, n, g, k, d, rfl, ⟨dx, hc⟩, h0, h1, kk⟩ := h
  refine ⟨_, pss_one (ps_ret (pcall C1 hr (pa_cons (pe_fld (pv 0) rfl) pa_nil))), ?_⟩
  exact ⟨_, rfl, c, _, dx, _, _, rfl, hc, cl_Column T, na_Column_greatest T, colFs_greatest, g, rfl, h0, by omega, kk⟩
/-! column_numbered, of an int -/
def isK (n : Int) (c : Col) : Bool := decide (c.num = n)
def Numbered (as : List Addr) (cs : List Col) (n : Int) (v : V) : Prop := (v = .non ∧ cs.find? (isK n) = none) ∨ ∃ (i : Nat) (a : Addr) (c : Col), v = .ref a ∧ as[i]? = some a ∧ cs[i]? = some c ∧ cs.find? (isK n) = some c
def sp_column_numbered (K : PySem.W.Frag) : Sp := fun vs H Q _ => ∃ (l : Addr) (as : List Addr) (cs : List Col) (n : Int), vs = [.ref l, .int n] ∧ SqL K H l (as.map V.ref) ∧ Cols K H as cs ∧ ∀ v, Numbered as cs n v → Q v H
theorem findk_pre {cs : List Col} {i : Nat} {c : Col} {n : Int} (h : cs[i]? = some c) (hp : (cs.take i).find? (isK n) = none) : (cs.take (i + 1)).find? (isK n) = if isK n c = true then some c else none := by
  rw [List.take_add_one, h, List.find?_append, hp]
  show (Option.none).or _ = _
  rw [Option.none_or]
  show (match isK n c with | true => some c | false => none) = _
  cases isK n c <;> rfl
theorem findk_take {cs : List Col} {i : Nat} {c : Col} {n : Int} (h : cs[i]? = some c) (hp : (cs.take i).find? (isK n) = none) (hc : isK n c = true) : cs.find? (isK n) = some c := by
  have e : cs = cs.take (i + 1) ++ cs.drop (i + 1) := (List.take_append_drop _ _).symm
  rw [e, List.find?_append, findk_pre h hp, if_pos hc]
  rfl
theorem ok_column_numbered (T : Tx K mg) : Callee P w K mg base CX0 2 "column_numbered" ["columns", "number"] [] (sp_column_numbered K) := by
  have C1 := ok_is_whole (P := P) (w := w) (base := base) T
  refine mkCallee (fd_column_numbered T) (mg_column_numbered T) sc_column_numbered (fun _ _ _ _ _ _ us hl => match us, hl with | [_, _], _ => rfl) (fun vs H Q E h => ?_) (fun cdv A outer s H vs Q E hr h => ?_)
  · obtain ⟨l, as, cs, n, rfl, _⟩ := h
    rfl
  · obtain ⟨l, as, cs, n, rfl, hl, hc, k⟩ := h
    have nd := sc_column_numbered.nd
    refine ⟨_, pss_cons (ps_if (pt_not (pt_val (pcall C1 hr (pa_cons (pv 1) pa_nil)))) (pss_one (ps_ret pe_non)) pss_nil)
        (pss_cons (ps_for PassesOwn.never rfl (pi_list (pv 0)) (pg_name (i := 2) nd rfl (Or.inl rfl)) (pss_one (ps_if (pt_cmpR op_eq (pe_fld (pv 2) rfl) (pv 1) (nomark _)) (pss_one (ps_ret (pv 2))) pss_nil))) (pss_one (ps_ret pe_non))), ?_⟩
    refine ⟨_, rfl, .int n, _, rfl, .base (.int n), _, rfl, iteF ⟨_, rfl, l, rfl, ⟨_, hl⟩, ?_⟩⟩
    refine for_list (xs := as.map V.ref) (fun i σ H' => H' = H ∧ (cs.take i).find? (isK n) = none ∧ ∃ y, σ = [some (.ref l), some (.int n), y]) ⟨rfl, rfl, _, rfl⟩ (fun i σ H' _ h => by rw [h.1]; exact hl) ?_ ?_
    · rintro i x σ H' hx ⟨rfl, hp, y, rfl⟩
      rw [List.getElem?_map] at hx
      cases ha : as[i]? with
      | none =>
        rw [ha] at hx
        cases hx
      | some a =>
        rw [ha] at hx
        obtain rfl := Option.some.inj hx
        obtain ⟨c, hci, dx, hat⟩ := hc.at_ ha
        refine ⟨_, rfl, a, _, dx, _, _, rfl, hat, cl_Column T, na_Column_number T, colFs_number, _, rfl, rfl, _, rfl, ?_⟩
        by_cases e : c.num = n
        · rw [decide_eq_true (show V.int c.num = V.int n by rw [e])]
          exact iteT ⟨_, rfl, k _ (.inr ⟨i, a, c, rfl, ha, hci, findk_take hci hp (decide_eq_true e)⟩)⟩
        · rw [decide_eq_false (fun z => e (V.int.inj z))]
          exact iteF ⟨rfl, by rw [findk_pre hci hp, if_neg (by rw [show isK n c = false from decide_eq_false e]; decide)], _, rfl⟩
    · rintro σ H' ⟨rfl, hp, y, rfl⟩
      rw [List.length_map, hc.len, List.take_length] at hp
      exact k _ (.inl ⟨rfl, hp⟩)
/-! kind_of -/
def sp_kind_of (K : PySem.W.Frag) : Sp := fun vs H Q _ => ∃ (t : Addr) (c : Ch), vs = [.ref t] ∧ ChAt K H t c ∧ Q (.str c.kind) H
theorem ok_kind_of (T : Tx K mg) : Callee P w K mg base CX0 1 "kind_of" ["change"] [] (sp_kind_of K) := by
  refine mkCallee (fd_kind_of T) (mg_kind_of T) sc_kind_of (fun _ _ _ _ _ _ us hl => match us, hl with | [_], _ => rfl) (fun vs H Q E h => ?_) (fun cdv A outer s H vs Q E hr h => ?_)
  · obtain ⟨t, c, rfl, _⟩ := h
    rfl
  · obtain ⟨t, c, rfl, ht, k⟩ := h
    exact ⟨_, pss_one (ps_ret (pe_ix ix_tup (pv 0) pe_int (fun _ _ => rfl))), _, rfl, t, _, 0, _, rfl, rfl, ht, c.at0, k⟩
/-! add_hindrance -/
def addHind (cs : List Col) (n : Str) (g : Int) (d : V) : V := if (cs.find? (isN n)).isSome = true then .str "alive" else if 6 ≤ cs.length then .str "many" else if isIn g d = true then .non else .str "above"
def sp_add_hindrance (K : PySem.W.Frag) : Sp := fun vs H Q _ => ∃ (l t : Addr) (as : List Addr) (cs : List Col) (x : V) (n : Str) (g : Int) (d : V), vs = [.ref l, x, .ref t] ∧ (SqL K H l (as.map V.ref) ∨ SqT K H l (as.map V.ref)) ∧ Cols K H as cs ∧ Named as cs n x ∧ ChAt K H t (.add n g d) ∧ isVal d = true ∧ Q (addHind cs n g d) H
theorem ok_add_hindrance (T : Tx K mg) : Callee P w K mg base CX0 4 "add_hindrance" ["columns", "namesake", "change"] [] (sp_add_hindrance K) := by
  have C1 := ok_is_within (P := P) (w := w) (base := base) T
  refine mkCallee (fd_add_hindrance T) (mg_add_hindrance T) sc_add_hindrance (fun _ _ _ _ _ _ us hl => match us, hl with | [_, _, _], _ => rfl) (fun vs H Q E h => ?_) (fun cdv A outer s H vs Q E hr h => ?_)
  · obtain ⟨l, t, as, cs, x, n, g, d, rfl, _⟩ := h
    rfl
  · obtain ⟨l, t, as, cs, x, n, g, d, rfl, hl, hc, hx, ht, hd, k⟩ := h
    obtain ⟨tk, gM⟩ := mi_MOST_COLUMNS T
    refine ⟨_, pss_cons (ps_if (pt_cmpR op_notN (pv 1) pe_non (nomark _)) (pss_one (ps_ret pe_str)) pss_nil)
      (pss_cons (ps_if (pt_cmpR op_ge (pe_callB call_len (by rfl) (fr_len T) PySem.boot_len (pa_cons (pv 0) pa_nil)) (pe_glob (v := .int 6) (by rfl) gM ⟨_, rfl⟩) (nomark _)) (pss_one (ps_ret pe_str)) pss_nil)
      (pss_cons (ps_if (pt_not (pt_val (pcall C1 hr (pa_cons (pe_ix ix_tup (pv 2) pe_int (fun _ _ => rfl)) (pa_cons (pe_ix ix_tup (pv 2) pe_int (fun _ _ => rfl)) pa_nil))))) (pss_one (ps_ret pe_str)) pss_nil)
      (pss_one (ps_ret pe_non)))), ?_⟩
    unfold addHind at k
    refine ⟨_, rfl, rfl, _, rfl, ?_⟩
    rcases hx with ⟨rfl, hf⟩ | ⟨i, a, c, rfl, _, _, hf⟩
    · rw [hf] at k
      rw [if_neg (show ¬ (Option.isSome (none : Option Col)) = true by decide)] at k
      refine iteNS rfl ?_
      have hlen : LenV K (.ref l) H cs.length := by
        rcases hl with hl | hl
        · exact .inl ⟨_, hl, by rw [List.length_map]; exact hc.len.symm⟩
        · exact .inr ⟨_, hl, by rw [List.length_map]; exact hc.len.symm⟩
      refine ⟨_, rfl, _, cs.length, rfl, hlen, _, _, rfl, rfl, _, rfl, ?_⟩
      by_cases h6 : 6 ≤ cs.length
      · rw [if_pos h6] at k
        exact iteDT (by omega) k
      · rw [if_neg h6] at k
        have td : ∃ ty, TyX K H d (.type ty) := by
          cases d with
          | non => exact ⟨_, .base .non⟩
          | int i => exact ⟨_, .base (.int i)⟩
          | _ => cases hd
        obtain ⟨ty, td⟩ := td
        refine iteD (by omega) ⟨_, rfl, t, _, 3, _, rfl, rfl, ht, rfl, _, rfl, t, _, 2, _, rfl, rfl, ht, rfl, d, g, ty, rfl, td, _, rfl, ?_⟩
        cases hi : isIn g d with
        | true =>
          rw [hi, if_pos rfl] at k
          exact iteF k
        | false =>
          rw [hi, if_neg (by decide)] at k
          exact iteT k
    · rw [hf] at k
      rw [if_pos (show (Option.isSome (some c)) = true from rfl)] at k
      exact iteNF (by intro z; cases z) k
/-! hindrance -/
/-- the word by which a change cannot be done, or None -/
def hindV (cs : List Col) (c : Ch) : V := match c with
  | .add n g d => addHind cs n g d
  | .drop n => match cs.find? (isN n) with
    | none => .str "unknown"
    | some _ => if cs.length = 1 then .str "only" else .non
  | .rename n m => match cs.find? (isN n) with
    | none => .str "unknown"
    | some _ => if (cs.find? (isN m)).isSome = true then .str "alive" else .non
  | .dflt n v => match cs.find? (isN n) with
    | none => .str "unknown"
    | some e => if isIn e.top v = true then .non else .str "above"
  | .great n g way => match cs.find? (isN n) with
    | none => .str "unknown"
    | some e => if chgV e.name (.great n g way) e.dflt = .str "missing" then .str "default" else .non
  | .fill n i => match cs.find? (isN n) with
    | none => .str "unknown"
    | some e => if isIn e.top (.int i) = true then .non else .str "above"
def sp_hindrance (K : PySem.W.Frag) : Sp := fun vs H Q _ => ∃ (l t : Addr) (as : List Addr) (cs : List Col) (c : Ch), vs = [.ref l, .ref t] ∧ (SqL K H l (as.map V.ref) ∨ SqT K H l (as.map V.ref)) ∧ Cols K H as cs ∧ (∀ e ∈ cs, valOk e.dflt = true) ∧ ChAt K H t c ∧ c.fits = true ∧ ∀ H', Same H H' → Q (hindV cs c) H'
theorem chg_scal {n : Str} {c : Ch} {v : V} (h : valOk v = true) : scal (chgV n c v) (.str "missing") = true := by
  unfold chgV
  split
  · cases c <;> cases v <;> first | cases h | rfl | skip
    all_goals (simp only [abv]; repeat (first | rfl | split))
  · cases v <;> first | rfl | cases h
theorem ok_hindrance (T : Tx K mg) : Callee P w K mg base CX0 5 "hindrance" ["columns", "change"] [] (sp_hindrance K) := by
  have C1 := (ok_column_named (P := P) (w := w) (base := base) T).up (show 1 ≤ 4 by decide)
  have C2 := ok_add_hindrance (P := P) (w := w) (base := base) T
  have C3 := (ok_is_within (P := P) (w := w) (base := base) T).up (show 3 ≤ 4 by decide)
  have C4 := (ok_changed_value (P := P) (w := w) (base := base) T).up (show 2 ≤ 4 by decide)
  refine mkCallee (fd_hindrance T) (mg_hindrance T) sc_hindrance (fun _ _ _ _ _ _ us hl => match us, hl with | [_, _], _ => rfl) (fun vs H Q E h => ?_) (fun cdv A outer s H vs Q E hr h => ?_)
  · obtain ⟨l, t, as, cs, c, rfl, _⟩ := h
    rfl
  · obtain ⟨l, t, as, cs, c, rfl, hl, hc, hd, ht, hf, k⟩ := h
    obtain ⟨tk, gM⟩ := ms_MISSING T
    have nd := sc_hindrance.nd
    refine ⟨_, pss_cons (ps_set (i := 2) nd rfl (Or.inl rfl) (pe_ix ix_tup (pv 1) pe_int (fun _ _ => rfl)))
      (pss_cons (ps_set (i := 3) nd rfl (Or.inl rfl) (pcall C1 hr (pa_cons (pv 0) (pa_cons (pe_ix ix_tup (pv 1) pe_int (fun _ _ => rfl)) pa_nil))))
      (pss_cons (ps_if (pt_cmpR op_eq (pv 2) pe_str (nomark _)) (pss_one (ps_ret (pcall C2 hr (pa_cons (pv 0) (pa_cons (pv 3) (pa_cons (pv 1) pa_nil)))))) pss_nil)
      (pss_cons (ps_if (pt_cmpR op_isN (pv 3) pe_non (nomark _)) (pss_one (ps_ret pe_str)) pss_nil)
      (pss_cons (ps_if (PW.pt (pw_and (pt_cmpR op_eq (pv 2) pe_str (nomark _)) (pw_and1 (pt_cmpR op_notN (pcall C1 hr (pa_cons (pv 0) (pa_cons (pe_ix ix_tup (pv 1) pe_int (fun _ _ => rfl)) pa_nil))) pe_non (nomark _))))) (pss_one (ps_ret pe_str)) pss_nil)
      (pss_cons (ps_if (PW.pt (pw_and (pt_cmpR op_eq (pv 2) pe_str (nomark _)) (pw_and1 (pt_cmpR op_eq (pe_callB call_len (by rfl) (fr_len T) PySem.boot_len (pa_cons (pv 0) pa_nil)) pe_int (nomark _))))) (pss_one (ps_ret pe_str)) pss_nil)
      (pss_cons (ps_if (PW.pt (pw_and (pt_cmpR op_in_seq (pv 2) (pe_tup (pa_cons pe_str (pa_cons pe_str pa_nil))) (by rfl)) (pw_and1 (pt_not (pt_val (pcall C3 hr (pa_cons (pe_ix ix_tup (pv 1) pe_int (fun _ _ => rfl)) (pa_cons (pe_fld (pv 3) rfl) pa_nil))))))))
        (pss_one (ps_ret pe_str)) pss_nil)
      (pss_cons (ps_if (PW.pt (pw_and (pt_cmpR op_eq (pv 2) pe_str (nomark _)) (pw_and1 (pt_cmpR op_eq (pcall C4 hr (pa_cons (pv 3) (pa_cons (pv 1) (pa_cons (pe_fld (pv 3) rfl) pa_nil)))) (pe_glob (v := .str "missing") (by rfl) gM ⟨_, rfl⟩) (nomark _))))) (pss_one (ps_ret pe_str)) pss_nil)
      (pss_one (ps_ret pe_non))))))))), ?_⟩
    have hlen : ∀ H', Same H H' → LenV K (.ref l) H' cs.length := fun H' s' => by
      rcases hl with hl | hl
      · exact .inl ⟨_, s'.seq hl, by rw [List.length_map]; exact hc.len.symm⟩
      · exact .inr ⟨_, same_tup s' hl, by rw [List.length_map]; exact hc.len.symm⟩
    refine ⟨_, rfl, t, _, 0, _, rfl, rfl, ht, c.at0, ?_⟩
    refine ⟨_, rfl, _, rfl, t, _, 1, _, rfl, rfl, ht, c.at1, l, as, cs, c.name, rfl, hl, hc, fun x hx => ?_⟩
    have kn : ∀ v, hindV cs c = v → ∀ H', Same H H' → Q v H' := fun v e H' s' => by
      rw [← e]
      exact k H' s'
    have nn : ∀ a, ¬ V.ref a = V.non := fun a z => by cases z
    cases c with
    | add n g d =>
      have hf' : (isNm (.str n) && (isGr (.int g) && isVal d)) = true := hf
      rw [Bool.and_eq_true, Bool.and_eq_true] at hf'
      exact ⟨_, rfl, rfl, _, rfl, iteDT rfl ⟨_, rfl, _, rfl, _, rfl, l, t, as, cs, x, n, g, d, rfl, hl, hc, hx, ht, hf'.2.2, kn _ rfl H (Same.refl _)⟩⟩
    | drop n =>
      refine ⟨_, rfl, rfl, _, rfl, iteD (nes (show ("drop" : Str) ≠ "add" by decide +kernel)) ⟨_, rfl, rfl, _, rfl, ?_⟩⟩
      rcases hx with ⟨rfl, hx⟩ | ⟨i, a, e, rfl, hia, hie, hx⟩
      · have hx' : cs.find? (isN n) = none := hx
        exact iteDT rfl (kn _ (by simp only [hindV, hx']) H (Same.refl _))
      have hx' : cs.find? (isN n) = some e := hx
      refine iteD (nn a) ⟨_, rfl, rfl, _, rfl, iteD (nes (show ("drop" : Str) ≠ "rename" by decide +kernel)) (iteF ⟨_, rfl, rfl, _, rfl, iteDT rfl ⟨_, rfl, _, cs.length, rfl, hlen _ (Same.refl _), rfl, _, rfl, ?_⟩⟩)⟩
      by_cases h1 : cs.length = 1
      · exact iteDT (by rw [h1]; rfl) (kn _ (by simp only [hindV, hx']; rw [if_pos h1]) H (Same.refl _))
      · refine iteD (nei (by omega)) ?_
        exact ⟨_, rfl, (by show 2 ≤ sizeLine; decide), fun t2 nt2 => ⟨t2, _, rfl, .inr (sqT_of upd_same), rfl, rfl, _, rfl, iteF (iteF ⟨_, rfl, rfl, _, rfl, iteD (nes (show ("drop" : Str) ≠ "greatest" by decide +kernel)) (iteF (kn _ (by simp only [hindV, hx']; rw [if_neg h1]) _ (same_new nt2)))⟩)⟩⟩
    | rename n m =>
      refine ⟨_, rfl, rfl, _, rfl, iteD (nes (show ("rename" : Str) ≠ "add" by decide +kernel)) ⟨_, rfl, rfl, _, rfl, ?_⟩⟩
      rcases hx with ⟨rfl, hx⟩ | ⟨i, a, e, rfl, hia, hie, hx⟩
      · have hx' : cs.find? (isN n) = none := hx
        exact iteDT rfl (kn _ (by simp only [hindV, hx']) H (Same.refl _))
      have hx' : cs.find? (isN n) = some e := hx
      have i2 : atI (Ch.rename n m).toV 2 = some (.str m) := rfl
      refine iteD (nn a) ⟨_, rfl, rfl, _, rfl, iteDT rfl ⟨_, rfl, _, rfl, t, _, 2, _, rfl, rfl, ht, i2, l, as, cs, m, rfl, hl, hc, fun y hy => ⟨rfl, _, rfl, ?_⟩⟩⟩
      rcases hy with ⟨rfl, hy⟩ | ⟨i', a', e', rfl, _, _, hy⟩
      · refine iteNS rfl ⟨_, rfl, rfl, _, rfl, iteD (nes (show ("rename" : Str) ≠ "drop" by decide +kernel)) (iteF ?_)⟩
        exact ⟨_, rfl, (by show 2 ≤ sizeLine; decide), fun t2 nt2 => ⟨t2, _, rfl, .inr (sqT_of upd_same), rfl, rfl, _, rfl, iteF (iteF ⟨_, rfl, rfl, _, rfl, iteD (nes (show ("rename" : Str) ≠ "greatest" by decide +kernel)) (iteF (kn _ (by simp only [hindV, hx', hy]; rfl) _ (same_new nt2)))⟩)⟩⟩
      · exact iteNF (nn _) (kn _ (by simp only [hindV, hx', hy]; rfl) H (Same.refl _))
    | dflt n v =>
      refine ⟨_, rfl, rfl, _, rfl, iteD (nes (show ("default" : Str) ≠ "add" by decide +kernel)) ⟨_, rfl, rfl, _, rfl, ?_⟩⟩
      rcases hx with ⟨rfl, hx⟩ | ⟨i, a, e, rfl, hia, hie, hx⟩
      · have hx' : cs.find? (isN n) = none := hx
        exact iteDT rfl (kn _ (by simp only [hindV, hx']) H (Same.refl _))
      have hx' : cs.find? (isN n) = some e := hx
      obtain ⟨e2, he2, dx, hat⟩ := hc.at_ hia
      obtain rfl : e = e2 := Option.some.inj (hie.symm.trans he2)
      have i2 : atI (Ch.dflt n v).toV 2 = some v := rfl
      refine iteD (nn a) ⟨_, rfl, rfl, _, rfl, iteD (nes (show ("default" : Str) ≠ "rename" by decide +kernel)) (iteF ⟨_, rfl, rfl, _, rfl, iteD (nes (show ("default" : Str) ≠ "drop" by decide +kernel)) (iteF ⟨_, rfl, (by show 2 ≤ sizeLine; decide), fun t2 nt2 => ⟨t2, _, rfl, .inr (sqT_of upd_same), rfl, rfl, _, rfl, iteT ?_⟩⟩)⟩)⟩
      have s2 := same_new (o := .tup [V.str "default", .str "fill"]) nt2
      have tv : ∃ ty, ∀ H : Hp, TyX K H v (.type ty) := by
        have hv : (isNm (.str n) && isVal v) = true := hf
        rw [Bool.and_eq_true] at hv
        cases v with
        | non => exact ⟨_, fun _ => .base .non⟩
        | int i => exact ⟨_, fun _ => .base (.int i)⟩
        | _ => cases hv.2
      obtain ⟨ty, tv⟩ := tv
      refine ⟨_, rfl, t, _, 2, _, rfl, rfl, same_tup s2 ht, i2, _, rfl, a, _, dx, _, _, rfl, s2 _ _ hat, cl_Column T, na_Column_greatest T, colFs_greatest, v, e.top, ty, rfl, tv _, _, rfl, ?_⟩
      cases hi : isIn e.top v with
      | true => exact iteF (nxt ⟨_, rfl, rfl, _, rfl, iteD (nes (show ("default" : Str) ≠ "greatest" by decide +kernel)) (iteF (nxt (kn _ (by simp only [hindV, hx']; rw [if_pos hi]) _ s2)))⟩)
      | false => exact iteT (kn _ (by simp only [hindV, hx']; rw [if_neg (by rw [hi]; decide)]) _ s2)
    | fill n v =>
      refine ⟨_, rfl, rfl, _, rfl, iteD (nes (show ("fill" : Str) ≠ "add" by decide +kernel)) ⟨_, rfl, rfl, _, rfl, ?_⟩⟩
      rcases hx with ⟨rfl, hx⟩ | ⟨i, a, e, rfl, hia, hie, hx⟩
      · have hx' : cs.find? (isN n) = none := hx
        exact iteDT rfl (kn _ (by simp only [hindV, hx']) H (Same.refl _))
      have hx' : cs.find? (isN n) = some e := hx
      obtain ⟨e2, he2, dx, hat⟩ := hc.at_ hia
      obtain rfl : e = e2 := Option.some.inj (hie.symm.trans he2)
      have i2 : atI (Ch.fill n v).toV 2 = some (.int v) := rfl
      refine iteD (nn a) ⟨_, rfl, rfl, _, rfl, iteD (nes (show ("fill" : Str) ≠ "rename" by decide +kernel)) (iteF ⟨_, rfl, rfl, _, rfl, iteD (nes (show ("fill" : Str) ≠ "drop" by decide +kernel)) (iteF ⟨_, rfl, (by show 2 ≤ sizeLine; decide), fun t2 nt2 => ⟨t2, _, rfl, .inr (sqT_of upd_same), rfl, rfl, _, rfl, iteT ?_⟩⟩)⟩)⟩
      have s2 := same_new (o := .tup [V.str "default", .str "fill"]) nt2
      have tv : ∃ ty, ∀ H : Hp, TyX K H (.int v) (.type ty) := ⟨_, fun _ => .base (.int v)⟩
      obtain ⟨ty, tv⟩ := tv
      refine ⟨_, rfl, t, _, 2, _, rfl, rfl, same_tup s2 ht, i2, _, rfl, a, _, dx, _, _, rfl, s2 _ _ hat, cl_Column T, na_Column_greatest T, colFs_greatest, (.int v), e.top, ty, rfl, tv _, _, rfl, ?_⟩
      cases hi : isIn e.top (.int v) with
      | true => exact iteF (nxt ⟨_, rfl, rfl, _, rfl, iteD (nes (show ("fill" : Str) ≠ "greatest" by decide +kernel)) (iteF (nxt (kn _ (by simp only [hindV, hx']; rw [if_pos hi]) _ s2)))⟩)
      | false => exact iteT (kn _ (by simp only [hindV, hx']; rw [if_neg (by rw [hi]; decide)]) _ s2)
    | great n g way =>
      refine ⟨_, rfl, rfl, _, rfl, iteD (nes (show ("greatest" : Str) ≠ "add" by decide +kernel)) ⟨_, rfl, rfl, _, rfl, ?_⟩⟩
      rcases hx with ⟨rfl, hx⟩ | ⟨i, a, e, rfl, hia, hie, hx⟩
      · have hx' : cs.find? (isN n) = none := hx
        exact iteDT rfl (kn _ (by simp only [hindV, hx']) H (Same.refl _))
      have hx' : cs.find? (isN n) = some e := hx
      obtain ⟨e2, he2, dx, hat⟩ := hc.at_ hia
      obtain rfl : e = e2 := Option.some.inj (hie.symm.trans he2)
      have hde := hd e (List.mem_of_getElem? hie)
      refine iteD (nn a) ⟨_, rfl, rfl, _, rfl, iteD (nes (show ("greatest" : Str) ≠ "rename" by decide +kernel)) (iteF ⟨_, rfl, rfl, _, rfl, iteD (nes (show ("greatest" : Str) ≠ "drop" by decide +kernel)) (iteF ⟨_, rfl, (by show 2 ≤ sizeLine; decide), fun t2 nt2 => ⟨t2, _, rfl, .inr (sqT_of upd_same), rfl, rfl, _, rfl, iteF (iteF ?_)⟩⟩)⟩)⟩
      have s2 := same_new (o := .tup [V.str "default", .str "fill"]) nt2
      refine ⟨_, rfl, rfl, _, rfl, iteDT rfl ⟨_, rfl, _, rfl, _, rfl, a, _, dx, _, _, rfl, s2 _ _ hat, cl_Column T, na_Column_default T, colFs_default, a, t, e.name, e.top, e.num, e.dflt, e.dflt, .great n g way, rfl, ⟨dx, s2 _ _ hat⟩, same_tup s2 ht, hde, chg_scal hde, _, rfl, ?_⟩⟩
      by_cases hm : chgV e.name (.great n g way) e.dflt = .str "missing"
      · exact iteDT hm (kn _ (by simp only [hindV, hx']; rw [if_pos hm]) _ s2)
      · exact iteD hm (nxt (kn _ (by simp only [hindV, hx']; rw [if_neg hm]) _ s2))
/-! columns_behind -/
/-- the columns behind a change -/
def behind (cs : List Col) (ch : Ch) (num : Int) : List Col := match ch with
  | .add n g d => cs ++ [⟨n, g, d, num⟩]
  | .drop n => cs.filter fun c => !decide (c.name = n)
  | ch => cs.map fun c => if c.name = ch.name then chgC c ch else c
theorem Cols.all {K : PySem.W.Frag} {H : Hp} : ∀ {as : List Addr} {cs : List Col}, as.length = cs.length → (∀ (i : Nat) (a : Addr) (c : Col), as[i]? = some a → cs[i]? = some c → ColA K H a c) → Cols K H as cs
  | [], [], _, _ => .nil
  | [], _ :: _, h, _ => by cases h
  | _ :: _, [], h, _ => by cases h
  | a :: as, c :: cs, h, f => .cons (f 0 a c rfl rfl) (Cols.all (Nat.succ.inj h) fun i a' c' h1 h2 => f (i + 1) a' c' (by simpa using h1) (by simpa using h2))
theorem Cols.two {K : PySem.W.Frag} {H : Hp} {as : List Addr} {cs : List Col} {i : Nat} {a : Addr} {c : Col} (h : Cols K H as cs) (h1 : as[i]? = some a) (h2 : cs[i]? = some c) : ColA K H a c := by
  obtain ⟨c', e, q⟩ := h.at_ h1
  obtain rfl : c = c' := Option.some.inj (h2.symm.trans e)
  exact q
theorem Cols.app {K : PySem.W.Frag} {H : Hp} : ∀ {as bs : List Addr} {cs ds : List Col}, Cols K H as cs → Cols K H bs ds → Cols K H (as ++ bs) (cs ++ ds)
  | _, _, _, _, .nil, h => h
  | _, _, _, _, .cons h t, q => .cons h (t.app q)
/-- the addresses whose columns pass -/
def keepA (f : Col → Bool) : List Addr → List Col → List Addr
  | a :: as, c :: cs => if f c = true then a :: keepA f as cs else keepA f as cs
  | _, _ => []
theorem Cols.filter {K : PySem.W.Frag} {H : Hp} (f : Col → Bool) : ∀ {as : List Addr} {cs : List Col}, Cols K H as cs → Cols K H (keepA f as cs) (cs.filter f)
  | _, _, .nil => .nil
  | _, _, .cons (c := c) h t => by
    have ih := t.filter f
    unfold keepA
    rw [List.filter_cons]
    split
    · exact .cons h ih
    · exact ih
def sp_columns_behind (K : PySem.W.Frag) : Sp := fun vs H Q _ => ∃ (l t : Addr) (as : List Addr) (cs : List Col) (ch : Ch) (num : Int), vs = [.ref l, .ref t, .int num] ∧ SqL K H l (as.map V.ref) ∧ Cols K H as cs ∧ ChAt K H t ch ∧ as.length ≤ 1000 ∧ 0 ≤ num ∧
  (∀ c ∈ cs, ColOk c) ∧ (∀ c ∈ behind cs ch num, ColOk c) ∧ ∀ (l' : Addr) (as' : List Addr) (H' : Hp), H l' = none → Same H H' → H' l' = some (.lst (as'.map V.ref)) → Cols K H' as' (behind cs ch num) → Q (.ref l') H'
/-- the addresses among what a comprehension over the columns keeps -/
theorem keep_map {K : PySem.W.Frag} {H : Hp} (f : Col → Bool) (g : V → Bool) : ∀ {as : List Addr} {cs : List Col}, Cols K H as cs → (∀ a c, ColA K H a c → a ∈ as → g (.ref a) = f c) → ((as.map V.ref).filter g).map (fun x => x) = (keepA f as cs).map V.ref
  | _, _, .nil, _ => rfl
  | _, _, .cons (a := a) (c := c) h t, q => by
    have ih := keep_map f g t fun a' c' h' hm => q a' c' h' (List.mem_cons_of_mem _ hm)
    have e := q a c h List.mem_cons_self
    rw [List.map_id'] at ih ⊢
    unfold keepA
    rw [List.map_cons, List.filter_cons, e]
    split
    · rw [List.map_cons, ih]
    · exact ih
open Classical in
noncomputable def drF (K : PySem.W.Frag) (H : Hp) (n : Str) (x : V) : Bool := decide (∃ a c, x = .ref a ∧ ColA K H a c ∧ ¬ c.name = n)
theorem ColA.name_ {K : PySem.W.Frag} {H : Hp} {a : Addr} {c c' : Col} (h : ColA K H a c) (h' : ColA K H a c') : c.name = c'.name := by
  obtain ⟨dx, h⟩ := h
  obtain ⟨dx', h'⟩ := h'
  rw [h] at h'
  have e := (HO.ins.inj (Option.some.inj h')).2.2
  unfold colFs at e
  exact V.str.inj (congrArg Prod.snd (List.cons.inj e).1)
open Classical in
theorem drF_eq {K : PySem.W.Frag} {H : Hp} {n : Str} {a : Addr} {c : Col} (h : ColA K H a c) : drF K H n (.ref a) = !decide (c.name = n) := by
  unfold drF
  by_cases e : c.name = n
  · rw [decide_eq_true e, decide_eq_false]
    · rfl
    · rintro ⟨a', c', e', h', ne⟩
      cases e'
      exact ne ((h'.name_ h).trans e)
  · rw [decide_eq_false e, decide_eq_true]
    · rfl
    · exact ⟨a, c, rfl, h, e⟩
theorem Cols.of_vs {K : PySem.W.Frag} {H : Hp} : ∀ {ys : List V} {cs : List Col}, ys.length = cs.length → (∀ (i : Nat) (y : V), ys[i]? = some y → ∃ a c, y = .ref a ∧ cs[i]? = some c ∧ ColA K H a c) → ∃ as, ys = as.map V.ref ∧ Cols K H as cs
  | [], [], _, _ => ⟨[], rfl, .nil⟩
  | [], _ :: _, h, _ => by cases h
  | _ :: _, [], h, _ => by cases h
  | y :: ys, c :: cs, h, f => by
    obtain ⟨a, c', rfl, e, hc⟩ := f 0 y rfl
    obtain rfl : c = c' := Option.some.inj e
    obtain ⟨as, rfl, ht⟩ := Cols.of_vs (ys := ys) (cs := cs) (Nat.succ.inj h) fun i y' h1 => f (i + 1) y' (by simpa using h1)
    exact ⟨a :: as, rfl, .cons hc ht⟩
theorem ok_columns_behind (T : Tx K mg) : Callee P w K mg base CX0 8 "columns_behind" ["columns", "change", "number"] [] (sp_columns_behind K) := by
  have C1 := ok_changed_column (P := P) (w := w) (base := base) T
  obtain ⟨fdI, GI, FI⟩ := ok_Col_init (P := P) (w := w) (base := base) T
  obtain ⟨_, _, kb⟩ := kbinds_Col T FI
  have cl := cl_Column T
  refine mkCallee (fd_columns_behind T) (mg_columns_behind T) sc_columns_behind (fun _ _ _ _ _ _ us hl => match us, hl with | [_, _, _], _ => rfl) (fun vs H Q E h => ?_) (fun cdv A outer s H vs Q E hr h => ?_)
  · obtain ⟨l, t, as, cs, ch, num, rfl, _⟩ := h
    rfl
  · obtain ⟨l, t, as, cs, ch, num, rfl, hl, hc, ht, hlen, hnum, okc, okb, k⟩ := h
    have nd := sc_columns_behind.nd
    refine ⟨_, pss_cons (ps_set (i := 3) nd rfl (Or.inl rfl) (pe_ix ix_tup (pv 1) pe_int (fun _ _ => rfl)))
      (pss_cons (ps_set (i := 4) nd rfl (Or.inr rfl) (pe_ix ix_tup (pv 1) pe_int (fun _ _ => rfl)))
      (pss_cons (ps_if (pt_cmpR op_eq (pv 3) pe_str (nomark _)) (pss_one (ps_ret (pe_op op_cat (pe_callTy call_list_of (by rfl) (fr_list T) (by decide +kernel) (pa_cons (pv 0) pa_nil))
          (pe_lst (pa_cons (pe_makeK (mk_Column T) GI (hr.mono (by decide)) (by rfl) (mg_Column T) kb pass0 (pa_cons (pv 4) (pa_cons (pe_ix ix_tup (pv 1) pe_int (fun _ _ => rfl)) (pa_cons (pe_ix ix_tup (pv 1) pe_int (fun _ _ => rfl)) pa_nil))) (pk_cons (pv 2) pk_nil)) pa_nil))))) pss_nil)
      (pss_cons (ps_if (pt_cmpR op_eq (pv 3) pe_str (nomark _)) (pss_one (ps_ret (pe_lc (own := [("column", 5)]) (g := gName 5) (tt := tTest (tOp rNe (tFld K (tVar 5) "name") (tVar 4))) (te := tVar 5) rfl nd (pi_list (pv 0)) (blkOk_by (N := ["columns", "change", "number", "kind", "name", "column"]) (sc := defScope s_columns_behind) (by decide +kernel))
          (fun _ _ _ _ _ => pg_name (i := 5) nd rfl (Or.inl rfl)) (fun _ _ _ _ _ => pts_one (pt_cmpR op_ne (pe_fld (pv 5) rfl) (pv 4) (nomark _))) (fun _ _ _ _ _ => pv 5)))) pss_nil)
      (pss_one (ps_ret (pe_lc (own := [("column", 5)]) (g := gName 5) (tt := tYes) (te := tIf (tTest (tOp rEq (tFld K (tVar 5) "name") (tVar 4))) (tCall (sp_changed_column K) [] E0 (tCons (tVar 5) (tCons (tVar 1) tNil))) (tVar 5)) rfl nd (pi_list (pv 0)) (blkOk_by (N := ["columns", "change", "number", "kind", "name", "column"]) (sc := defScope s_columns_behind) (by decide +kernel))
          (fun _ _ _ _ _ => pg_name (i := 5) nd rfl (Or.inl rfl)) (fun _ _ _ _ _ => pts_nil) (fun _ _ _ _ _ => pe_ifExp (pt_cmpR op_eq (pe_fld (pv 5) rfl) (pv 4) (nomark _)) (pcall C1 hr (pa_cons (pv 5) (pa_cons (pv 1) pa_nil))) (pv 5)))))))), ?_⟩
    refine ⟨_, rfl, t, _, 0, _, rfl, rfl, ht, ch.at0, ?_⟩
    refine ⟨_, rfl, t, _, 1, _, rfl, rfl, ht, ch.at1, ?_⟩
    refine ⟨_, rfl, rfl, _, rfl, ?_⟩
    have other : ∀ ch' : Ch, ch' = ch → behind cs ch' num = cs.map (fun c => if c.name = ch'.name then chgC c ch' else c) → tRet (tLc (iList K (tVar 0)) (gName 5) tYes (tIf (tTest (tOp rEq (tFld K (tVar 5) "name") (tVar 4))) (tCall (sp_changed_column K) [] E0 (tCons (tVar 5) (tCons (tVar 1) tNil))) (tVar 5)) (List.map (fun x => x.2) [(("column" : Str), 5)]))
        { nx := fun _ H' => Q V.non H', rt := Q } [some (.ref l), some (.ref t), some (.int num), some (.str ch'.kind), some (.str ch'.name), none] H := fun ch' e0 e1 => by
      subst e0
      refine tlc_G (fun i y H' => ∃ a c, y = .ref a ∧ (behind cs ch' num)[i]? = some c ∧ ColA K H' a c) (fun i y H1 H2 s2 ⟨a, c, h1, h2, h3⟩ => ⟨a, c, h1, h2, h3.keepNL s2⟩) (fun R h => ⟨_, rfl, h l H (Same.refl _) hl⟩) (by rw [List.length_map]; omega) (fun _ => rfl) ?_ ?_
      · intro i x hx H1 s1 R hR
        rw [List.getElem?_map] at hx
        cases ha : as[i]? with
        | none =>
          rw [ha] at hx
          cases hx
        | some a =>
          rw [ha] at hx
          obtain rfl := Option.some.inj hx
          obtain ⟨c, hci, dx, hat⟩ := hc.at_ ha
          have hb : (behind cs ch' num)[i]? = some (if c.name = ch'.name then chgC c ch' else c) := by rw [e1, List.getElem?_map, hci]; rfl
          refine ⟨_, rfl, a, _, dx, _, _, rfl, s1 _ _ hat, cl, na_Column_name T, colFs_name, _, rfl, rfl, _, rfl, ?_⟩
          by_cases e : c.name = ch'.name
          · rw [if_pos e] at hb
            rw [decide_eq_true (show V.str c.name = V.str ch'.name by rw [e])]
            exact iteT ⟨_, rfl, _, rfl, a, t, c, ch', rfl, ⟨dx, s1 _ _ hat⟩, ht.keep s1, okc _ (List.mem_of_getElem? hci), okb _ (List.mem_of_getElem? hb), fun a' H2 s2 h2 => hR _ _ s2 ⟨a', _, rfl, hb, h2⟩⟩
          · rw [if_neg e] at hb
            rw [decide_eq_false (fun z => e (V.str.inj z))]
            exact iteF ⟨_, rfl, hR _ _ (Same.refl _) ⟨a, _, rfl, hb, dx, s1 _ _ hat⟩⟩
      · intro D ys H' nD s' hD hlen' hy
        obtain ⟨as', rfl, hcs⟩ := Cols.of_vs (by rw [hlen', List.length_map, hc.len, e1, List.length_map]) hy
        exact k D as' H' nD s' hD hcs
    cases ch with
    | add n g d =>
      have i2 : atI (Ch.add n g d).toV 2 = some (.int g) := rfl
      have i3 : atI (Ch.add n g d).toV 3 = some d := rfl
      have okn : ColOk ⟨n, g, d, num⟩ := okb _ (List.mem_append_right _ (List.mem_singleton.mpr rfl))
      refine iteDT rfl ⟨_, rfl, l, _, rfl, .inl hl, fun p np => ?_⟩
      have s1 : Same H (upd H p (.lst (as.map V.ref))) := same_new np
      have hp : upd H p (.lst (as.map V.ref)) p = some (.lst (as.map V.ref)) := upd_same
      generalize upd H p (.lst (as.map V.ref)) = H1 at s1 hp ⊢
      refine ⟨_, rfl, _, rfl, t, _, 2, _, rfl, rfl, ht.keep s1, i2, _, rfl, t, _, 3, _, rfl, rfl, ht.keep s1, i3, _, rfl, rfl, rfl, fun x dx2 nx ndx ndc => ?_⟩
      refine ⟨x, dx2, n, g, num, d, rfl, upd_same, okn.nm, okn.gr, okn.df, okn.nu, fun H4 hc4 k4 => ⟨rfl, ?_⟩⟩
      have s4 : Same H1 H4 := fun b o e => k4 b o (ne_of_none e nx) (by rw [upd_ne (ne_of_none e nx), upd_ne (ne_of_none e ndx)]; exact e)
      refine ⟨by show 1 ≤ sizeLine; decide, fun q nq => ⟨p, q, as.map V.ref, [.ref x], rfl, rfl, ?_, upd_same, ?_, fun l' nl' => ?_⟩⟩
      · exact same_new nq _ _ (s4 _ _ hp)
      · rw [List.length_map]
        exact Nat.le_trans (Nat.add_le_add_right hlen 1) (by decide)
      · have s5 : Same H (upd (upd H4 q (.lst [.ref x])) l' (.lst (as.map V.ref ++ [.ref x]))) := s1.trans (s4.trans ((same_new nq).trans (same_new nl')))
        refine k l' (as ++ [x]) _ ?_ s5 (by rw [List.map_append]; exact upd_same) ((hc.keep s5).app (.cons (ColAt.keep ((same_new nq).trans (same_new nl')) hc4) .nil))
        cases h0 : H l' with
        | none => rfl
        | some o => exact absurd ((s1.trans (s4.trans (same_new nq))) _ _ h0) (by rw [nl']; intro z; cases z)
    | drop n =>
      refine iteD (nes (show ("drop" : Str) ≠ "add" by decide +kernel)) ⟨_, rfl, rfl, _, rfl, iteDT rfl ?_⟩
      refine tlc_L (drF K H n) (fun x => x) (fun R h => ⟨_, rfl, h l H (Same.refl _) hl⟩) (by rw [List.length_map]; omega) (fun _ => rfl) ?_ (fun x _ _ H1 _ R h => ⟨_, rfl, h H1 (Same.refl _)⟩) ?_
      · intro x hx H1 s1 R hR
        obtain ⟨a, ha, rfl⟩ := List.mem_map.mp hx
        obtain ⟨i, hi⟩ := List.mem_iff_getElem?.mp ha
        obtain ⟨c, hc1, dx, hat⟩ := hc.at_ hi
        rw [drF_eq (c := c) ⟨dx, hat⟩] at hR
        have e : decide (V.str c.name = V.str n) = decide (c.name = n) := by
          by_cases e : c.name = n
          · rw [decide_eq_true e, decide_eq_true (by rw [e])]
          · rw [decide_eq_false e, decide_eq_false (fun z => e (V.str.inj z))]
        rw [← e] at hR
        exact ⟨_, rfl, a, _, dx, _, _, rfl, s1 _ _ hat, cl, na_Column_name T, colFs_name, _, rfl, rfl, _, rfl, hR _ (Same.refl _)⟩
      · intro D H' nD s' hD
        rw [keep_map (fun c => !decide (c.name = n)) (drF K H n) hc fun a c h _ => drF_eq h] at hD
        exact k D _ H' nD s' hD ((hc.keep s').filter _)
    | rename n m =>
      exact iteD (nes (show ("rename" : Str) ≠ "add" by decide +kernel)) ⟨_, rfl, rfl, _, rfl, iteD (nes (show ("rename" : Str) ≠ "drop" by decide +kernel)) (other _ rfl rfl)⟩
    | great n g way =>
      exact iteD (nes (show ("greatest" : Str) ≠ "add" by decide +kernel)) ⟨_, rfl, rfl, _, rfl, iteD (nes (show ("greatest" : Str) ≠ "drop" by decide +kernel)) (other _ rfl rfl)⟩
    | dflt n v =>
      exact iteD (nes (show ("default" : Str) ≠ "add" by decide +kernel)) ⟨_, rfl, rfl, _, rfl, iteD (nes (show ("default" : Str) ≠ "drop" by decide +kernel)) (other _ rfl rfl)⟩
    | fill n v =>
      exact iteD (nes (show ("fill" : Str) ≠ "add" by decide +kernel)) ⟨_, rfl, rfl, _, rfl, iteD (nes (show ("fill" : Str) ≠ "drop" by decide +kernel)) (other _ rfl rfl)⟩
/-! births -/
/-- the lists at the addresses es hold the columns eds -/
inductive Eds (K : PySem.W.Frag) (H : Hp) : List Addr → List (List Col) → Prop
  | nil : Eds K H [] []
  | cons {e : Addr} {es : List Addr} {cs : List Col} {eds : List (List Col)} (as : List Addr) : H e = some (.lst (as.map V.ref)) → Cols K H as cs → Eds K H es eds → Eds K H (e :: es) (cs :: eds)
theorem Eds.keep {K : PySem.W.Frag} {H H' : Hp} (s : Same H H') : ∀ {es : List Addr} {eds : List (List Col)}, Eds K H es eds → Eds K H' es eds
  | _, _, .nil => .nil
  | _, _, .cons as h c t => .cons as (s _ _ h) (c.keep s) (t.keep s)
theorem Eds.len {K : PySem.W.Frag} {H : Hp} : ∀ {es : List Addr} {eds : List (List Col)}, Eds K H es eds → es.length = eds.length
  | _, _, .nil => rfl
  | _, _, .cons _ _ _ t => congrArg Nat.succ t.len
theorem Eds.at_ {K : PySem.W.Frag} {H : Hp} : ∀ {es : List Addr} {eds : List (List Col)} {i : Nat} {e : Addr}, Eds K H es eds → es[i]? = some e → ∃ cs as, eds[i]? = some cs ∧ H e = some (.lst (as.map V.ref)) ∧ Cols K H as cs
  | _, _, _, _, .nil, e => by simp at e
  | _, _, 0, _, .cons as h c t, e => by
    simp at e
    subst e
    exact ⟨_, as, rfl, h, c⟩
  | _, _, i + 1, a, .cons as h c t, e => by
    obtain ⟨cs, as', h1, h2⟩ := Eds.at_ (i := i) (e := a) t (by simpa using e)
    exact ⟨cs, as', by simpa using h1, h2⟩
theorem Eds.snoc {K : PySem.W.Frag} {H : Hp} {e : Addr} {as : List Addr} {cs : List Col} (h : H e = some (.lst (as.map V.ref))) (c : Cols K H as cs) : ∀ {es : List Addr} {eds : List (List Col)}, Eds K H es eds → Eds K H (es ++ [e]) (eds ++ [cs])
  | _, _, .nil => .cons as h c .nil
  | _, _, .cons as' h' c' t => .cons as' h' c' (t.snoc h c)
/-- one column more: its edition is told where its number is the next one -/
def bornStep (i : Nat) (b : List Int) (c : Col) : List Int := if c.num = b.length then b ++ [(i : Int)] else b
theorem bornStep_pos {i : Nat} {b : List Int} {c : Col} (h : c.num = b.length) : bornStep i b c = b ++ [(i : Int)] := if_pos h
theorem bornStep_neg {i : Nat} {b : List Int} {c : Col} (h : ¬ c.num = b.length) : bornStep i b c = b := if_neg h
def bornTo (eds : List (List Col)) : Nat → List Int
  | 0 => []
  | i + 1 => (eds.getD i []).foldl (bornStep i) (bornTo eds i)
def bornOf (eds : List (List Col)) : List Int := bornTo eds eds.length
theorem bornStep_len (i : Nat) : ∀ (cs : List Col) (b : List Int), (cs.foldl (bornStep i) b).length ≤ b.length + cs.length
  | [], b => Nat.le_refl _
  | c :: cs, b => by
    refine Nat.le_trans (bornStep_len i cs _) ?_
    have : (bornStep i b c).length ≤ b.length + 1 := by
      unfold bornStep
      split
      · rw [List.length_append]; exact Nat.le_refl _
      · exact Nat.le_succ _
    rw [List.length_cons]
    omega
theorem bornTo_len {eds : List (List Col)} (h : ∀ cs ∈ eds, cs.length ≤ 1000) : ∀ i, (bornTo eds i).length ≤ 1000 * i
  | 0 => Nat.le_refl _
  | i + 1 => by
    have h1 := bornTo_len h i
    have h2 := bornStep_len i (eds.getD i []) (bornTo eds i)
    have h3 : (eds.getD i []).length ≤ 1000 := by
      rw [List.getD_eq_getElem?_getD]
      cases e : eds[i]? with
      | none => exact Nat.zero_le _
      | some cs => exact h cs (List.mem_of_getElem? e)
    show ((eds.getD i []).foldl (bornStep i) (bornTo eds i)).length ≤ _
    omega
def sp_births (K : PySem.W.Frag) : Sp := fun vs H Q _ => ∃ (l : Addr) (es : List Addr) (eds : List (List Col)), vs = [.ref l] ∧ H l = some (.lst (es.map V.ref)) ∧ Eds K H es eds ∧ eds.length ≤ 50 ∧ (∀ cs ∈ eds, cs.length ≤ 1000) ∧
  ∀ (p : Addr) (H' : Hp), H p = none → Same H H' → H' p = some (.lst ((bornOf eds).map V.int)) → Q (.ref p) H'
theorem ok_births (T : Tx K mg) : Callee P w K mg base CX0 1 "births" ["editions"] [] (sp_births K) := by
  refine mkCallee (fd_births T) (mg_births T) sc_births (fun _ _ _ _ _ _ us hl => match us, hl with | [_], _ => rfl) (fun vs H Q E h => ?_) (fun cdv A outer s H vs Q E hr h => ?_)
  · obtain ⟨l, es, eds, rfl, _⟩ := h
    rfl
  · obtain ⟨l, es, eds, rfl, hl, he, h50, hw, k⟩ := h
    have nd := sc_births.nd
    refine ⟨_, pss_cons (ps_set (i := 1) nd rfl (Or.inl rfl) (pe_lst pa_nil))
      (pss_cons (ps_for PassesOwn.never rfl (pi_enum (by rfl) (fr_enumerate T) (pa_cons (pv 0) pa_nil)) (pg_tup rfl (pgs_cons (pg_name (i := 2) nd rfl (Or.inl rfl)) (pgs_cons (pg_name (i := 3) nd rfl (Or.inl rfl)) pgs_nil)))
        (pss_one (ps_for PassesOwn.never rfl (pi_list (pv 3)) (pg_name (i := 4) nd rfl (Or.inl rfl)) (pss_one (ps_if (pt_cmpR op_eq (pe_fld (pv 4) rfl) (pe_callB call_len_seq (by rfl) (fr_len T) PySem.boot_len (pa_cons (pv 1) pa_nil)) (nomark _))
          (pss_one (ps_expr (pe_bm PySem.F.plainAttrs_list PySem.F.slot_list_append PySem.F.type_list_append mt_append (pv 1) (pa_cons (pv 2) pa_nil)))) pss_nil))))) (pss_one (ps_ret (pv 1)))), ?_⟩
    refine ⟨Nat.zero_le _, fun b nb => ⟨_, rfl, l, es.map V.ref, rfl, sqL_of (same_new nb _ _ hl), ?_⟩⟩
    have s0 : Same H (upd H b (.lst [])) := same_new nb
    refine for_it walk_enum (fun i σ H' => Same H H' ∧ H' b = some (.lst ((bornTo eds i).map V.int)) ∧ ∃ x y z, σ = [some (.ref l), some (.ref b), x, y, z]) ⟨s0, upd_same, _, _, _, rfl⟩ (fun i σ H' _ h => sqL_of (h.1 _ _ hl)) ?_ ?_
    · rintro i v σ H1 H2 hi ⟨s1, hb, x, y, z, rfl⟩ ⟨T1, x', y', rfl, nT, rfl, ex, ey⟩
      obtain rfl := Option.some.inj ex
      have ey : (es.map V.ref)[i]? = some y' := ey
      rw [List.getElem?_map] at ey
      cases hes : es[i]? with
      | none =>
        rw [hes] at ey
        cases ey
      | some e =>
        rw [hes] at ey
        obtain rfl := Option.some.inj ey
        obtain ⟨cs, as, hcs, hea, hc⟩ := he.at_ hes
        have hi50 : i < eds.length := (List.getElem?_eq_some_iff.mp hcs).1
        have hgd : eds.getD i [] = cs := by rw [List.getD_eq_getElem?_getD, hcs]; rfl
        have s2 : Same H (upd H1 T1 (.tup [.int (i : Nat), .ref e])) := s1.trans (same_new nT)
        have hb2 : upd H1 T1 (.tup [.int (i : Nat), .ref e]) b = some (.lst ((bornTo eds i).map V.int)) := same_new nT _ _ hb
        refine ⟨T1, _, rfl, sqT_of upd_same, rfl, _, _, rfl, _, _, rfl, rfl, ?_⟩
        generalize upd H1 T1 (.tup [.int (i : Nat), .ref e]) = H2 at s2 hb2 ⊢
        refine ⟨_, rfl, e, rfl, ⟨_, sqL_of (s2 _ _ hea)⟩, ?_⟩
        refine for_list (xs := as.map V.ref) (fun j σ H' => Same H H' ∧ H' b = some (.lst (((cs.take j).foldl (bornStep i) (bornTo eds i)).map V.int)) ∧ ∃ z, σ = [some (.ref l), some (.ref b), some (.int (i : Nat)), some (.ref e), z]) ⟨s2, hb2, _, rfl⟩ (fun j σ H' _ h => sqL_of (h.1 _ _ hea)) ?_ ?_
        · rintro j x σ H3 hx ⟨s3, hb3, z, rfl⟩
          rw [List.getElem?_map] at hx
          cases ha : as[j]? with
          | none =>
            rw [ha] at hx
            cases hx
          | some a =>
            rw [ha] at hx
            obtain rfl := Option.some.inj hx
            obtain ⟨c, hci, dx, hat⟩ := hc.at_ ha
            have et : cs.take (j + 1) = cs.take j ++ [c] := by rw [List.take_add_one, hci]; rfl
            have bl : ((cs.take j).foldl (bornStep i) (bornTo eds i)).length ≤ 100000 := by
              have h1 := bornTo_len hw i
              have h2 := bornStep_len i (cs.take j) (bornTo eds i)
              have h3 : (cs.take j).length ≤ 1000 := Nat.le_trans (List.length_take_le' _ _) (hw cs (List.mem_of_getElem? hcs))
              omega
            refine ⟨_, rfl, a, _, dx, _, _, rfl, s3 _ _ hat, cl_Column T, na_Column_number T, colFs_number, _, rfl, b, _, rfl, .inl (sqL_of hb3), rfl, _, rfl, ?_⟩
            rw [List.length_map]
            by_cases e2 : c.num = (((cs.take j).foldl (bornStep i) (bornTo eds i)).length : Int)
            · rw [decide_eq_true (show V.int c.num = V.int _ by rw [e2])]
              refine iteT ⟨_, rfl, .inl ⟨rfl, _, sqL_of hb3⟩, _, rfl, b, _, _, rfl, rfl, hb3, ?_, same_mut s3 nb, ?_, _, rfl⟩
              · rw [List.length_map]
                exact Nat.lt_of_le_of_lt bl (by decide)
              · rw [upd_same, et, List.foldl_append, List.foldl_cons, List.foldl_nil]
                rw [bornStep_pos e2, List.map_append]
                rfl
            · rw [decide_eq_false (fun z => e2 (V.int.inj z))]
              refine iteF ⟨s3, ?_, _, rfl⟩
              rw [hb3, et, List.foldl_append, List.foldl_cons, List.foldl_nil]
              rw [bornStep_neg e2]
        · rintro σ H3 ⟨s3, hb3, z, rfl⟩
          refine ⟨s3, ?_, _, _, _, rfl⟩
          rw [List.length_map, hc.len, List.take_length] at hb3
          rw [hb3]
          show _ = some (HO.lst (((eds.getD i []).foldl (bornStep i) (bornTo eds i)).map V.int))
          rw [hgd]
    · rintro σ H1 ⟨s1, hb, x, y, z, rfl⟩
      rw [List.length_map, he.len] at hb
      exact ⟨_, rfl, k b H1 nb s1 hb⟩
theorem inV_new {ns : List Str} {n : Str} (h : n ∉ ns) : inV (.str n) (ns.map V.str) = false := by
  unfold inV
  rw [List.any_eq_false]
  intro y hy
  obtain ⟨m, hm, rfl⟩ := List.mem_map.mp hy
  intro e
  exact h ((of_decide_eq_true (show decide (m = n) = true from e)) ▸ hm)

/-! numbered_columns, where all is well -/
def numb (cs : List Col) : List Col := cs.mapIdx fun i c => { c with num := (i : Nat) }
theorem colFs_changed {n : Str} {g : Int} {d : V} {k : Int} : (colFs n g d k).lookup ("changed" : Str) = none := by
  have g1 : (("changed" : Str) == "name") = false := by decide +kernel
  have g2 : (("changed" : Str) == "greatest") = false := by decide +kernel
  have g3 : (("changed" : Str) == "default") = false := by decide +kernel
  have g4 : (("changed" : Str) == "number") = false := by decide +kernel
  unfold colFs
  simp [List.lookup, g1, g2, g3, g4]
theorem flat_strs (ns : List Str) : (ns.map V.str).all flatV = true := by
  rw [List.all_eq_true]
  intro y hy
  obtain ⟨m, _, rfl⟩ := List.mem_map.mp hy
  rfl
def sp_numbered (K : PySem.W.Frag) : Sp := fun vs H Q _ => ∃ (l : Addr) (as : List Addr) (cs : List Col), vs = [.ref l] ∧ H l = some (.lst (as.map V.ref)) ∧ Cols K H as cs ∧ 1 ≤ cs.length ∧ cs.length ≤ 6 ∧ (cs.map (·.name)).Nodup ∧ (∀ c ∈ cs, ColOk c) ∧
  ∀ (l' : Addr) (as' : List Addr) (H' : Hp), H l' = none → Same H H' → H' l' = some (.lst (as'.map V.ref)) → Cols K H' as' (numb cs) → Q (.ref l') H'
theorem ok_numbered_columns (T : Tx K mg) : Callee P w K mg base CX0 7 "numbered_columns" ["columns"] [] (sp_numbered K) := by
  have C1 := (ok_is_list (P := P) (w := w) (base := base) T).up (show 1 ≤ 6 by decide)
  obtain ⟨fdC, GC, bC⟩ := ok_changed (P := P) (w := w) (base := base) T
  have cl := cl_Column T
  obtain ⟨tM, eM⟩ := mi_MOST_COLUMNS T
  refine mkCallee (fd_numbered_columns T) (mg_numbered_columns T) sc_numbered_columns (fun _ _ _ _ _ _ us hl => match us, hl with | [_], _ => rfl) (fun vs H Q E h => ?_) (fun cdv A outer s H vs Q E hr h => ?_)
  · obtain ⟨l, as, cs, rfl, _⟩ := h
    rfl
  · obtain ⟨l, as, cs, rfl, hl, hc, h1, h6, hnd, hok, k⟩ := h
    have nd := sc_numbered_columns.nd
    refine ⟨_, pss_cons (ps_if (PW.pt (pw_or (pt_not (pt_val (pcall C1 hr (pa_cons (pv 0) pa_nil)))) (pw_or1 (pt_cmpR op_eq (pe_callB call_len_seq (by rfl) (fr_len T) PySem.boot_len (pa_cons (pv 0) pa_nil)) pe_int (nomark _))))) (pss_one ps_never) pss_nil)
      (pss_cons (ps_set (i := 1) nd rfl (Or.inl rfl) (pe_lst pa_nil))
      (pss_cons (ps_for PassesOwn.never rfl (pi_enum (by rfl) (fr_enumerate T) (pa_cons (pv 0) pa_nil)) (pg_tup rfl (pgs_cons (pg_name (i := 2) nd rfl (Or.inl rfl)) (pgs_cons (pg_name (i := 3) nd rfl (Or.inl rfl)) pgs_nil)))
        (pss_cons (ps_if (PW.pt (pw_or (pt_not (pt_val (pe_callB (C8.call_isC (insC_of (ex_Column T) cl)) (by rfl) (fr_isinstance T) (by decide +kernel) (pa_cons (pv 3) (pa_cons (pe_glob (v := .ref (He.ga K "Column")) (by rfl) (mg_Column T) rfl) pa_nil))))) (pw_or1 (pt_cmpR op_in_seq (pe_fld (pv 3) rfl) (pv 1) (by rfl))))) (pss_one ps_never) pss_nil)
        (pss_one (ps_expr (pe_bm PySem.F.plainAttrs_list PySem.F.slot_list_append PySem.F.type_list_append mt_append (pv 1) (pa_cons (pe_fld (pv 3) rfl) pa_nil))))))
      (pss_cons (ps_if (pt_cmpR op_gt (pe_callB call_len_seq (by rfl) (fr_len T) PySem.boot_len (pa_cons (pv 0) pa_nil)) (pe_glob (v := .int 6) (by rfl) eM ⟨_, rfl⟩) (nomark _)) (pss_one ps_never) pss_nil)
      (pss_one (ps_ret (pe_lc (own := [("index", 2), ("column", 3)]) (g := gTup K 2 (gCons (gName 2) (gCons (gName 3) gNil))) (tt := tYes) (te := tMeth (He.ga K "Column") "changed" (sp_changed K) [] E0 (tVar 3) (tCons (tC (.str "number")) (tCons (tVar 2) tNil))) rfl nd (pi_enum (by rfl) (fr_enumerate T) (pa_cons (pv 0) pa_nil)) (blkOk_by (N := ["columns", "names", "index", "column"]) (sc := defScope s_numbered_columns) (by decide +kernel))
          (fun _ _ _ _ _ => pg_tup rfl (pgs_cons (pg_name (i := 2) nd rfl (Or.inl rfl)) (pgs_cons (pg_name (i := 3) nd rfl (Or.inl rfl)) pgs_nil))) (fun _ _ _ _ _ => pts_nil) (fun _ _ _ _ _ => pe_meth (pv 3) cl (me_Column_changed T) GC hr bC .nil pass0 (pa_cons pe_str (pa_cons (pv 2) pa_nil))))))))), ?_⟩
    refine ⟨_, rfl, l, _, rfl, sqL_of hl, fun H1 s1 => ⟨_, rfl, iteF ⟨_, rfl, l, _, rfl, .inl (sqL_of (s1 _ _ hl)), rfl, _, rfl, ?_⟩⟩⟩
    rw [List.length_map, hc.len, decide_eq_false (fun z => by have := V.int.inj z; omega)]
    refine iteF ⟨Nat.zero_le _, fun p np => ?_⟩
    have hp0 : H p = none := s1.free np
    have s2 : Same H (upd H1 p (.lst [])) := s1.trans (same_new np)
    have hp2 : upd H1 p (.lst []) p = some (.lst (((cs.map (·.name)).take 0).map V.str)) := upd_same
    generalize upd H1 p (.lst []) = H2 at s2 hp2 ⊢
    refine ⟨_, rfl, l, as.map V.ref, rfl, sqL_of (s2 _ _ hl), ?_⟩
    refine for_it walk_enum (fun i σ H' => Same H H' ∧ H' p = some (.lst (((cs.map (·.name)).take i).map V.str)) ∧ ∃ x y, σ = [some (.ref l), some (.ref p), x, y]) ⟨s2, hp2, _, _, rfl⟩ (fun i σ H' _ h => sqL_of (h.1 _ _ hl)) ?_ ?_
    · rintro i v σ H3 H4 hi ⟨s3, hp3, x, y, rfl⟩ ⟨T1, x', y', rfl, nT, rfl, ex, ey⟩
      obtain rfl := Option.some.inj ex
      have ey : (as.map V.ref)[i]? = some y' := ey
      rw [List.getElem?_map] at ey
      cases ha : as[i]? with
      | none =>
        rw [ha] at ey
        cases ey
      | some a =>
        rw [ha] at ey
        obtain rfl := Option.some.inj ey
        obtain ⟨c, hci, dx, hat⟩ := hc.at_ ha
        have s4 : Same H (upd H3 T1 (.tup [.int (i : Nat), .ref a])) := s3.trans (same_new nT)
        have hp4 : upd H3 T1 (.tup [.int (i : Nat), .ref a]) p = some (.lst (((cs.map (·.name)).take i).map V.str)) := same_new nT _ _ hp3
        refine ⟨T1, _, rfl, sqT_of upd_same, rfl, _, _, rfl, _, _, rfl, rfl, ?_⟩
        generalize upd H3 T1 (.tup [.int (i : Nat), .ref a]) = H4 at s4 hp4 ⊢
        have hni : (cs.map (·.name))[i]? = some c.name := by rw [List.getElem?_map, hci]; rfl
        have et : (cs.map (·.name)).take (i + 1) = (cs.map (·.name)).take i ++ [c.name] := by rw [List.take_add_one, hni]; rfl
        have hfresh : c.name ∉ (cs.map (·.name)).take i := fun hm => by
          have hnd2 : ((cs.map (·.name)).take (i + 1)).Nodup := hnd.sublist (List.take_sublist _ _)
          rw [et, List.nodup_append] at hnd2
          exact hnd2.2.2 _ hm _ (List.mem_singleton.mpr rfl) rfl
        refine ⟨_, rfl, a, dx, _, rfl, s4 _ _ hat, _, rfl, iteF ⟨_, rfl, a, _, dx, _, _, rfl, s4 _ _ hat, cl, na_Column_name T, colFs_name, _, rfl, p, _, rfl, .inl (sqL_of hp4), rfl, flat_strs _, _, rfl, ?_⟩⟩
        rw [show (if false = true then !inV (V.str c.name) (((cs.map (·.name)).take i).map V.str) else inV (V.str c.name) (((cs.map (·.name)).take i).map V.str)) = false from inV_new hfresh]
        refine iteF ⟨_, rfl, .inl ⟨rfl, _, sqL_of hp4⟩, _, rfl, a, _, dx, _, _, rfl, s4 _ _ hat, cl, na_Column_name T, colFs_name, p, _, _, rfl, rfl, hp4, ?_, same_mut s4 hp0, ?_, _, _, rfl⟩
        · rw [List.length_map]
          refine Nat.lt_of_le_of_lt (List.length_take_le' _ _) ?_
          rw [List.length_map]
          exact Nat.lt_of_le_of_lt h6 (by decide)
        · rw [upd_same, et, List.map_append]
          rfl
    · rintro σ H3 ⟨s3, hp3, x, y, rfl⟩
      refine ⟨_, rfl, l, _, rfl, .inl (sqL_of (s3 _ _ hl)), _, _, rfl, rfl, _, rfl, ?_⟩
      rw [List.length_map, hc.len, decide_eq_false (by omega)]
      refine iteF ?_
      show tLc (iEnum K (tCons (tVar 0) tNil)) (gTup K 2 (gCons (gName 2) (gCons (gName 3) gNil))) tYes (tMeth (He.ga K "Column") "changed" (sp_changed K) [] E0 (tVar 3) (tCons (tC (.str "number")) (tCons (tVar 2) tNil))) [2, 3] [some (.ref l), some (.ref p), x, y] H3 Q
      refine tlc_GE (K := K) (xs := as.map V.ref) (j1 := 2) (j2 := 3) (vs := [2, 3]) (Q := Q) (H := H3) (fun i y H' => ∃ a c, y = .ref a ∧ (numb cs)[i]? = some c ∧ ColA K H' a c) (fun i y H1 H2 s2 ⟨a, c, h1, h2, h3⟩ => ⟨a, c, h1, h2, h3.keepNL s2⟩) (fun R h => ⟨_, rfl, h l H3 (Same.refl _) (sqL_of (s3 _ _ hl))⟩) (by rw [List.length_map, hc.len]; omega) (fun _ _ => rfl) ?_ ?_
      · intro i x hx H4 s4 R hR
        rw [List.getElem?_map] at hx
        cases ha : as[i]? with
        | none =>
          rw [ha] at hx
          cases hx
        | some a =>
          rw [ha] at hx
          obtain rfl := Option.some.inj hx
          obtain ⟨c, hci, dx, hat⟩ := hc.at_ ha
          have ha4 := s4 _ _ (s3 _ _ hat)
          have ok := hok c (List.mem_of_getElem? hci)
          have hb : (numb cs)[i]? = some { c with num := (i : Nat) } := by
            unfold numb
            rw [List.getElem?_mapIdx, hci]
            rfl
          refine ⟨_, rfl, a, dx, _, rfl, ha4, colFs_changed, _, rfl, a, "number", c.name, c.name, c.top, c.num, c.top, (i : Nat), c.dflt, c.dflt, .int (i : Nat), rfl, ⟨dx, ha4⟩, ⟨.inr (.inr (.inr rfl)), ?_⟩, ok.nm, ok.gr, ok.df, by omega, fun a' H' _ s' h' => hR _ _ s' ⟨a', _, rfl, hb, h'⟩⟩
          rw [if_neg (show ¬ ("number" : Str) = "name" by decide +kernel), if_neg (show ¬ ("number" : Str) = "greatest" by decide +kernel), if_neg (show ¬ ("number" : Str) = "default" by decide +kernel)]
      · intro D ys H' nD s' hD hlen' hy
        obtain ⟨as', rfl, hcs⟩ := Cols.of_vs (by rw [hlen', List.length_map, hc.len]; unfold numb; rw [List.length_mapIdx]) hy
        exact k D as' H' (s3.free nD) (s3.trans s') hD hcs
/-! columns of an edition; what stays right behind a change -/
structure Good (cs : List Col) (n : Int) : Prop where
  ok : ∀ c ∈ cs, ColOk c ∧ c.num < n
  one : 1 ≤ cs.length
  six : cs.length ≤ 6
  names : (cs.map (·.name)).Nodup
  nn : 0 ≤ n
def numThen (ch : Ch) (n : Int) : Int := match ch with
  | .add _ _ _ => n + 1
  | _ => n
theorem kind_add {ch : Ch} {n : Int} (h : ch.kind = "add") : numThen ch n = n + 1 := by
  cases ch with
  | add _ _ _ => rfl
  | drop _ => exact absurd (show ("drop" : Str) = "add" from h) (by decide +kernel)
  | rename _ _ => exact absurd (show ("rename" : Str) = "add" from h) (by decide +kernel)
  | dflt _ _ => exact absurd (show ("default" : Str) = "add" from h) (by decide +kernel)
  | great _ _ _ => exact absurd (show ("greatest" : Str) = "add" from h) (by decide +kernel)
  | fill _ _ => exact absurd (show ("fill" : Str) = "add" from h) (by decide +kernel)
theorem kind_noadd {ch : Ch} {n : Int} (h : ¬ ch.kind = "add") : numThen ch n = n := by
  cases ch with
  | add _ _ _ => exact absurd rfl h
  | _ => rfl
theorem find_uniq {n : Str} : ∀ {cs : List Col} {c : Col}, (cs.map (·.name)).Nodup → c ∈ cs → c.name = n → cs.find? (isN n) = some c
  | [], _, _, h, _ => by cases h
  | e :: cs, c, nd, h, hn => by
    rw [List.map_cons, List.nodup_cons] at nd
    rw [List.find?_cons]
    rcases List.mem_cons.mp h with rfl | h
    · rw [show isN n c = true from decide_eq_true hn]
    · have ne : ¬ e.name = n := fun z => nd.1 (List.mem_map.mpr ⟨c, h, hn.trans z.symm⟩)
      rw [show isN n e = false from decide_eq_false ne]
      exact find_uniq nd.2 h hn
theorem find_no {n : Str} {cs : List Col} (h : cs.find? (isN n) = none) : n ∉ cs.map (·.name) := fun hm => by
  obtain ⟨c, hc, e⟩ := List.mem_map.mp hm
  exact List.find?_eq_none.mp h c hc (decide_eq_true e)
theorem filter_same {n : Str} {cs : List Col} (h : n ∉ cs.map (·.name)) : cs.filter (fun c => !decide (c.name = n)) = cs := by
  rw [List.filter_eq_self]
  intro c hc
  rw [decide_eq_false (fun z => h (List.mem_map.mpr ⟨c, hc, z⟩))]
  rfl
theorem drop_len {n : Str} : ∀ {cs : List Col}, (cs.map (·.name)).Nodup → cs.length ≤ (cs.filter (fun c => !decide (c.name = n))).length + 1
  | [], _ => Nat.zero_le _
  | e :: cs, nd => by
    rw [List.map_cons, List.nodup_cons] at nd
    rw [List.filter_cons]
    by_cases h : e.name = n
    · rw [if_neg (by rw [decide_eq_true h]; decide), filter_same (by rw [← h]; exact nd.1)]
      exact Nat.le_refl _
    · rw [if_pos (by rw [decide_eq_false h]; rfl), List.length_cons, List.length_cons]
      have := drop_len (n := n) nd.2
      omega
theorem names_map {cs : List Col} {f : Col → Col} (nd : (cs.map (·.name)).Nodup) (h : ∀ a ∈ cs, ∀ b ∈ cs, ¬ a.name = b.name → ¬ (f a).name = (f b).name) : ((cs.map f).map (·.name)).Nodup := by
  rw [List.map_map]
  unfold List.Nodup at *
  rw [List.pairwise_map] at *
  exact nd.imp_of_mem fun ha hb e => h _ ha _ hb e
theorem names_same {cs : List Col} {f : Col → Col} (nd : (cs.map (·.name)).Nodup) (h : ∀ a ∈ cs, (f a).name = a.name) : ((cs.map f).map (·.name)).Nodup := names_map nd fun a ha b hb e => by rw [h a ha, h b hb]; exact e
theorem chgV_in {c : Col} {n : Str} {g : Int} {way : Str} (hn : c.name = n) (hg : isGr (.int g) = true) (hd : isIn c.top c.dflt = true) (h : ¬ chgV c.name (.great n g way) c.dflt = .str "missing") : isIn g (chgV c.name (.great n g way) c.dflt) = true := by
  have h1 : 1 ≤ g := by
    have := Bool.and_eq_true_iff.mp hg
    exact of_decide_eq_true this.1
  have hi : ∀ j : Int, 0 ≤ j → j ≤ g → isIn g (.int j) = true := fun j a b => by
    show (decide (0 ≤ j) && decide (j ≤ g)) = true
    rw [decide_eq_true a, decide_eq_true b]
    rfl
  unfold chgV at h ⊢
  rw [if_pos (show (Ch.great n g way).name = c.name from hn.symm)] at h ⊢
  cases e : c.dflt with
  | non => rfl
  | int j =>
    rw [e] at h hd
    have h0 : 0 ≤ j := of_decide_eq_true (Bool.and_eq_true_iff.mp hd).1
    show isIn g (if g < j then abv g way else .int j) = true
    have h : ¬ (if g < j then abv g way else .int j) = V.str "missing" := h
    by_cases q : g < j
    · rw [if_pos q] at h ⊢
      unfold abv at h ⊢
      split
      · exact hi g (by omega) (Int.le_refl g)
      · rename_i q1
        rw [if_neg q1] at h
        split
        · rfl
        · rename_i q2
          rw [if_neg q2] at h
          exact absurd rfl h
    · rw [if_neg q]
      exact hi j h0 (by omega)
  | _ => rw [e] at hd; cases hd
theorem Good.map {cs : List Col} {n : Int} (g : Good cs n) {f : Col → Col} (h1 : ∀ c ∈ cs, ColOk (f c) ∧ (f c).num = c.num) (h2 : ∀ a ∈ cs, ∀ b ∈ cs, ¬ a.name = b.name → ¬ (f a).name = (f b).name) : Good (cs.map f) n where
  ok := fun c hc => by
    obtain ⟨e, he, rfl⟩ := List.mem_map.mp hc
    exact ⟨(h1 e he).1, by rw [(h1 e he).2]; exact (g.ok e he).2⟩
  one := by rw [List.length_map]; exact g.one
  six := by rw [List.length_map]; exact g.six
  names := names_map g.names h2
  nn := g.nn
theorem Good.step {cs : List Col} {n : Int} {ch : Ch} (g : Good cs n) (f : ch.fits = true) (h : hindV cs ch = .non) : Good (behind cs ch n) (numThen ch n) := by
  cases ch with
  | add nm gr d =>
    have h : addHind cs nm gr d = .non := h
    unfold addHind at h
    have f : (isNm (.str nm) && (isGr (.int gr) && isVal d)) = true := f
    rw [Bool.and_eq_true, Bool.and_eq_true] at f
    split at h
    · cases h
    rename_i h1
    split at h
    · cases h
    rename_i h2
    split at h
    · rename_i h3
      have hno : nm ∉ cs.map (·.name) := find_no (Option.not_isSome_iff_eq_none.mp h1)
      refine ⟨fun c hc => ?_, ?_, ?_, ?_, by have := g.nn; show 0 ≤ n + 1; omega⟩
      · rcases List.mem_append.mp hc with hc | hc
        · exact ⟨(g.ok c hc).1, by have := (g.ok c hc).2; show c.num < n + 1; omega⟩
        · cases List.mem_singleton.mp hc
          exact ⟨⟨f.1, f.2.1, h3, g.nn⟩, by show n < n + 1; omega⟩
      · rw [show behind cs (.add nm gr d) n = cs ++ [⟨nm, gr, d, n⟩] from rfl, List.length_append]
        exact Nat.le_add_left _ _
      · rw [show behind cs (.add nm gr d) n = cs ++ [⟨nm, gr, d, n⟩] from rfl, List.length_append]
        show cs.length + 1 ≤ 6
        omega
      · rw [show behind cs (.add nm gr d) n = cs ++ [⟨nm, gr, d, n⟩] from rfl, List.map_append, List.nodup_append]
        refine ⟨g.names, by simp, fun a ha b hb => ?_⟩
        cases List.mem_singleton.mp hb
        intro z
        have z : a = nm := z
        exact hno (by rw [← z]; exact ha)
    · cases h
  | drop nm =>
    have h : (match cs.find? (isN nm) with
      | none => V.str "unknown"
      | some _ => if cs.length = 1 then .str "only" else .non) = .non := h
    have h1 : ¬ cs.length = 1 := fun z => by
      split at h
      · cases h
      · rw [if_pos z] at h
        cases h
    refine ⟨fun c hc => g.ok c (List.mem_filter.mp hc).1, ?_, ?_, ?_, g.nn⟩
    · have := drop_len (n := nm) g.names
      have := g.one
      show 1 ≤ (cs.filter fun c => !decide (c.name = nm)).length
      omega
    · exact Nat.le_trans (List.length_filter_le _ _) g.six
    · exact g.names.sublist (List.filter_sublist.map _)
  | rename nm m =>
    have h : (match cs.find? (isN nm) with
      | none => V.str "unknown"
      | some _ => if (cs.find? (isN m)).isSome = true then .str "alive" else .non) = .non := h
    have f : (isNm (.str nm) && isNm (.str m)) = true := f
    rw [Bool.and_eq_true] at f
    have hno : m ∉ cs.map (·.name) := by
      refine find_no (Option.not_isSome_iff_eq_none.mp fun z => ?_)
      split at h
      · cases h
      · rw [if_pos z] at h
        cases h
    refine g.map (fun c hc => ?_) fun a ha b hb e => ?_
    · by_cases q : c.name = nm
      · rw [if_pos (show c.name = (Ch.rename nm m).name from q)]
        exact ⟨⟨f.2, (g.ok c hc).1.gr, (g.ok c hc).1.df, (g.ok c hc).1.nu⟩, rfl⟩
      · rw [if_neg (show ¬ c.name = (Ch.rename nm m).name from q)]
        exact ⟨(g.ok c hc).1, rfl⟩
    · have ia : ¬ a.name = m := fun z => hno (List.mem_map.mpr ⟨a, ha, z⟩)
      have ib : ¬ b.name = m := fun z => hno (List.mem_map.mpr ⟨b, hb, z⟩)
      show ¬ (if a.name = nm then { a with name := m } else a : Col).name = (if b.name = nm then { b with name := m } else b : Col).name
      by_cases qa : a.name = nm
      · rw [if_pos qa]
        by_cases qb : b.name = nm
        · exact absurd (qa.trans qb.symm) e
        · rw [if_neg qb]
          exact fun z => ib z.symm
      · rw [if_neg qa]
        by_cases qb : b.name = nm
        · rw [if_pos qb]
          exact ia
        · rw [if_neg qb]
          exact e
  | dflt nm v =>
    have h : (match cs.find? (isN nm) with
      | none => V.str "unknown"
      | some e => if isIn e.top v = true then .non else .str "above") = .non := h
    refine g.map (fun c hc => ?_) fun a ha b hb e => ?_
    · by_cases q : c.name = nm
      · rw [if_pos (show c.name = (Ch.dflt nm v).name from q)]
        rw [find_uniq g.names hc q] at h
        refine ⟨⟨(g.ok c hc).1.nm, (g.ok c hc).1.gr, ?_, (g.ok c hc).1.nu⟩, rfl⟩
        have h : (if isIn c.top v = true then V.non else .str "above") = .non := h
        split at h
        · assumption
        · cases h
      · rw [if_neg (show ¬ c.name = (Ch.dflt nm v).name from q)]
        exact ⟨(g.ok c hc).1, rfl⟩
    · show ¬ (if a.name = nm then { a with dflt := v } else a : Col).name = (if b.name = nm then { b with dflt := v } else b : Col).name
      have q : ∀ c : Col, (if c.name = nm then { c with dflt := v } else c : Col).name = c.name := fun c => by split <;> rfl
      rw [q, q]
      exact e
  | great nm gr way =>
    have h : (match cs.find? (isN nm) with
      | none => V.str "unknown"
      | some e => if chgV e.name (.great nm gr way) e.dflt = V.str "missing" then .str "default" else .non) = .non := h
    have f : (isNm (.str nm) && (isGr (.int gr) && isWy way)) = true := f
    rw [Bool.and_eq_true, Bool.and_eq_true] at f
    refine g.map (fun c hc => ?_) fun a ha b hb e => ?_
    · by_cases q : c.name = nm
      · rw [if_pos (show c.name = (Ch.great nm gr way).name from q)]
        rw [find_uniq g.names hc q] at h
        have h : (if chgV c.name (.great nm gr way) c.dflt = V.str "missing" then V.str "default" else .non) = .non := h
        refine ⟨⟨(g.ok c hc).1.nm, f.2.1, chgV_in q f.2.1 (g.ok c hc).1.df fun z => ?_, (g.ok c hc).1.nu⟩, rfl⟩
        rw [if_pos (show chgV c.name (.great nm gr way) c.dflt = V.str "missing" from z)] at h
        cases h
      · rw [if_neg (show ¬ c.name = (Ch.great nm gr way).name from q)]
        exact ⟨(g.ok c hc).1, rfl⟩
    · show ¬ (if a.name = nm then { a with top := gr, dflt := chgV a.name (.great nm gr way) a.dflt } else a : Col).name = (if b.name = nm then { b with top := gr, dflt := chgV b.name (.great nm gr way) b.dflt } else b : Col).name
      have q : ∀ c : Col, (if c.name = nm then { c with top := gr, dflt := chgV c.name (.great nm gr way) c.dflt } else c : Col).name = c.name := fun c => by split <;> rfl
      rw [q, q]
      exact e
  | fill nm i =>
    have q : ∀ c : Col, (if c.name = (Ch.fill nm i).name then chgC c (.fill nm i) else c : Col) = c := fun c => by split <;> rfl
    refine g.map (fun c hc => ?_) fun a ha b hb e => ?_
    · rw [q]
      exact ⟨(g.ok c hc).1, rfl⟩
    · rw [q, q]
      exact e

/-! columns_of_editions, where all is well; what stays right from change to change -/
/-- columns and the next number, behind changes -/
def stepC (p : List Col × Int) (ch : Ch) : List Col × Int := (behind p.1 ch p.2, numThen ch p.2)
def atC (cs : List Col) (chs : List Ch) : List Col × Int := chs.foldl stepC (cs, (cs.length : Int))
/-- the columns of the first so many editions -/
def edsTo (cs : List Col) (chs : List Ch) (n : Nat) : List (List Col) := (List.range n).map fun i => (atC cs (chs.take i)).1
theorem atC_snoc {cs : List Col} {chs : List Ch} {i : Nat} {ch : Ch} (h : chs[i]? = some ch) : atC cs (chs.take (i + 1)) = stepC (atC cs (chs.take i)) ch := by
  unfold atC
  rw [List.take_add_one, h, List.foldl_append]
  rfl
theorem edsTo_succ {cs : List Col} {chs : List Ch} {n : Nat} : edsTo cs chs (n + 1) = edsTo cs chs n ++ [(atC cs (chs.take n)).1] := by
  unfold edsTo
  rw [List.range_succ, List.map_append]
  rfl
/-- each change can be done -/
def Fits (cs : List Col) (chs : List Ch) : Prop := ∀ i ch, chs[i]? = some ch → ch.fits = true ∧ hindV (atC cs (chs.take i)).1 ch = .non
theorem Fits.good {cs : List Col} {chs : List Ch} (g : Good cs cs.length) (f : Fits cs chs) : ∀ i, i ≤ chs.length → Good (atC cs (chs.take i)).1 (atC cs (chs.take i)).2
  | 0, _ => g
  | i + 1, h => by
    have e : chs[i]? = some chs[i] := List.getElem?_eq_getElem (by omega)
    have ih := f.good g i (by omega)
    rw [atC_snoc e]
    exact ih.step (f i _ e).1 (f i _ e).2
/-- the changes at the addresses -/
inductive Chs (K : PySem.W.Frag) (H : Hp) : List Addr → List Ch → Prop
  | nil : Chs K H [] []
  | cons {a : Addr} {as : List Addr} {c : Ch} {cs : List Ch} : ChAt K H a c → Chs K H as cs → Chs K H (a :: as) (c :: cs)
theorem Chs.keep {K : PySem.W.Frag} {H H' : Hp} (s : Same H H') : ∀ {as : List Addr} {cs : List Ch}, Chs K H as cs → Chs K H' as cs
  | _, _, .nil => .nil
  | _, _, .cons h t => .cons (h.keep s) (t.keep s)
theorem Chs.len {K : PySem.W.Frag} {H : Hp} : ∀ {as : List Addr} {cs : List Ch}, Chs K H as cs → as.length = cs.length
  | _, _, .nil => rfl
  | _, _, .cons _ t => congrArg Nat.succ t.len
theorem Chs.at_ {K : PySem.W.Frag} {H : Hp} : ∀ {as : List Addr} {cs : List Ch} {i : Nat} {a : Addr}, Chs K H as cs → as[i]? = some a → ∃ c, cs[i]? = some c ∧ ChAt K H a c
  | _, _, _, _, .nil, e => by simp at e
  | _, _, 0, _, .cons h t, e => by
    simp at e
    subst e
    exact ⟨_, rfl, h⟩
  | _, _, i + 1, a, .cons h t, e => by
    obtain ⟨c, h1, h2⟩ := Chs.at_ (i := i) (a := a) t (by simpa using e)
    exact ⟨c, by simpa using h1, h2⟩
def sp_coe (K : PySem.W.Frag) : Sp := fun vs H Q _ => ∃ (l t : Addr) (as ts : List Addr) (cs : List Col) (chs : List Ch), vs = [.ref l, .ref t] ∧ H l = some (.lst (as.map V.ref)) ∧ Cols K H as cs ∧ H t = some (.lst (ts.map V.ref)) ∧ Chs K H ts chs ∧ Good cs cs.length ∧ Fits cs chs ∧ chs.length ≤ 40 ∧
  ∀ (l' : Addr) (es : List Addr) (H' : Hp), H l' = none → Same H H' → H' l' = some (.lst (es.map V.ref)) → Eds K H' es (edsTo cs chs (chs.length + 1)) → Q (.ref l') H'
theorem Eds.mut {K : PySem.W.Frag} {H : Hp} {p : Addr} {o : HO} {xs : List V} (hp : H p = some (.lst xs)) : ∀ {es : List Addr} {eds : List (List Col)}, Eds K H es eds → (∀ e ∈ es, e ≠ p) → Eds K (upd H p o) es eds
  | _, _, .nil, _ => .nil
  | _, _, .cons (e := e) as h c t, hne => by
    refine .cons as (by rw [upd_ne (hne e List.mem_cons_self)]; exact h) (Cols.all c.len fun i a c' h1 h2 => ?_) (t.mut hp fun e' he => hne e' (List.mem_cons_of_mem _ he))
    obtain ⟨dx, q⟩ := c.two h1 h2
    exact ⟨dx, by rw [upd_ne (fun z => by rw [z, hp] at q; cases q)]; exact q⟩
theorem ok_columns_of_editions (T : Tx K mg) : Callee P w K mg base CX0 9 "columns_of_editions" ["first", "changes"] [] (sp_coe K) := by
  have C1 := (ok_is_list (P := P) (w := w) (base := base) T).up (show 1 ≤ 8 by decide)
  have C2 := (ok_is_change (P := P) (w := w) (base := base) T).up (show 5 ≤ 8 by decide)
  have C3 := (ok_hindrance (P := P) (w := w) (base := base) T).up (show 5 ≤ 8 by decide)
  have C4 := ok_columns_behind (P := P) (w := w) (base := base) T
  have C5 := (ok_kind_of (P := P) (w := w) (base := base) T).up (show 1 ≤ 8 by decide)
  obtain ⟨tM, eM⟩ := mi_MOST_CHANGES T
  refine mkCallee (fd_columns_of_editions T) (mg_columns_of_editions T) sc_columns_of_editions (fun _ _ _ _ _ _ us hl => match us, hl with | [_, _], _ => rfl) (fun vs H Q E h => ?_) (fun cdv A outer s H vs Q E hr h => ?_)
  · obtain ⟨l, t, as, ts, cs, chs, rfl, _⟩ := h
    rfl
  · obtain ⟨l, t, as, ts, cs, chs, rfl, hl, hc, ht, hch, hgood, hfit, h40, k⟩ := h
    have nd := sc_columns_of_editions.nd
    refine ⟨_, pss_cons (ps_if (pt_not (pt_val (pcall C1 hr (pa_cons (pv 1) pa_nil)))) (pss_one ps_never) pss_nil)
      (pss_cons (ps_set (i := 2) nd rfl (Or.inl rfl) (pe_lst (pa_cons (pv 0) pa_nil)))
      (pss_cons (ps_set (i := 3) nd rfl (Or.inl rfl) (pe_callB call_len_seq (by rfl) (fr_len T) PySem.boot_len (pa_cons (pv 0) pa_nil)))
      (pss_cons (ps_for PassesOwn.never rfl (pi_enum (by rfl) (fr_enumerate T) (pa_cons (pv 1) pa_nil)) (pg_tup rfl (pgs_cons (pg_name (i := 4) nd rfl (Or.inl rfl)) (pgs_cons (pg_name (i := 5) nd rfl (Or.inl rfl)) pgs_nil)))
        (pss_cons (ps_set (i := 6) nd rfl (Or.inl rfl) (pe_ix ix_list (pv 2) (pe_un un_neg pe_int) (fun _ _ => rfl)))
        (pss_cons (ps_if (PW.pt (pw_or (pt_not (pt_val (pcall C2 hr (pa_cons (pv 5) pa_nil)))) (pw_or1 (pt_cmpR op_notN (pcall C3 hr (pa_cons (pv 6) (pa_cons (pv 5) pa_nil))) pe_non (nomark _))))) (pss_one ps_never) pss_nil)
        (pss_cons (ps_expr (pe_bm PySem.F.plainAttrs_list PySem.F.slot_list_append PySem.F.type_list_append mt_append (pv 2) (pa_cons (pcall C4 hr (pa_cons (pv 6) (pa_cons (pv 5) (pa_cons (pv 3) pa_nil)))) pa_nil)))
        (pss_one (ps_if (pt_cmpR op_eq (pcall C5 hr (pa_cons (pv 5) pa_nil)) pe_str (nomark _)) (pss_one (ps_aug (i := 3) nd rfl (Or.inl rfl) pe_int ip_add)) pss_nil))))))
      (pss_cons (ps_if (pt_cmpR op_gt (pe_callB call_len_seq (by rfl) (fr_len T) PySem.boot_len (pa_cons (pv 1) pa_nil)) (pe_glob (v := .int 40) (by rfl) eM ⟨_, rfl⟩) (nomark _)) (pss_one ps_never) pss_nil)
      (pss_one (ps_ret (pv 2))))))), ?_⟩
    refine ⟨_, rfl, t, _, rfl, sqL_of ht, fun H1 s1 => ⟨_, rfl, iteF ⟨_, rfl, by show 1 ≤ sizeLine; decide, fun p np => ?_⟩⟩⟩
    have hp0 : H p = none := s1.free np
    have s2 : Same H (upd H1 p (.lst [.ref l])) := s1.trans (same_new np)
    have hp2 : upd H1 p (.lst [.ref l]) p = some (.lst ([l].map V.ref)) := upd_same
    generalize upd H1 p (.lst [.ref l]) = H2 at s2 hp2 ⊢
    have lp : l ≠ p := fun z => by rw [z, hp0] at hl; cases hl
    refine ⟨_, rfl, l, _, rfl, .inl (sqL_of (s2 _ _ hl)), ?_⟩
    rw [List.length_map, hc.len]
    refine ⟨_, rfl, t, ts.map V.ref, rfl, sqL_of (s2 _ _ ht), ?_⟩
    refine for_it walk_enum (fun i σ H' => Same H H' ∧ (∃ es, es.length = i + 1 ∧ H' p = some (.lst (es.map V.ref)) ∧ Eds K H' es (edsTo cs chs (i + 1)) ∧ ∀ e ∈ es, e ≠ p) ∧ ∃ x y z, σ = [some (.ref l), some (.ref t), some (.ref p), some (.int (atC cs (chs.take i)).2), x, y, z])
      ⟨s2, ⟨[l], rfl, hp2, .cons as (s2 _ _ hl) (hc.keep s2) .nil, fun e he => by rw [List.mem_singleton.mp he]; exact lp⟩, _, _, _, rfl⟩ (fun i σ H' _ h => sqL_of (h.1 _ _ ht)) ?_ ?_
    · rintro i v σ H3 H4 hi ⟨s3, ⟨es, hes, hp3, hE, hne⟩, x, y, z, rfl⟩ ⟨T1, x', y', rfl, nT, rfl, ex, ey⟩
      obtain rfl := Option.some.inj ex
      have ey : (ts.map V.ref)[i]? = some y' := ey
      rw [List.getElem?_map] at ey
      cases ha : ts[i]? with
      | none =>
        rw [ha] at ey
        cases ey
      | some a =>
        rw [ha] at ey
        obtain rfl := Option.some.inj ey
        obtain ⟨ch, hci, hat⟩ := hch.at_ ha
        have hi2 : i < chs.length := (List.getElem?_eq_some_iff.mp hci).1
        have gd := hfit.good hgood i (Nat.le_of_lt hi2)
        obtain ⟨fit, hind⟩ := hfit i ch hci
        have gd2 := gd.step fit hind
        have s4 : Same H (upd H3 T1 (.tup [.int (i : Nat), .ref a])) := s3.trans (same_new nT)
        have hp4 : upd H3 T1 (.tup [.int (i : Nat), .ref a]) p = some (.lst (es.map V.ref)) := same_new nT _ _ hp3
        have hE4 : Eds K (upd H3 T1 (.tup [.int (i : Nat), .ref a])) es (edsTo cs chs (i + 1)) := hE.keep (same_new nT)
        refine ⟨T1, _, rfl, sqT_of upd_same, rfl, _, _, rfl, _, _, rfl, rfl, ?_⟩
        generalize upd H3 T1 (.tup [.int (i : Nat), .ref a]) = H4 at s4 hp4 hE4 ⊢
        have hlast : es[i]? = some es[i] := List.getElem?_eq_getElem (by omega)
        obtain ⟨cs1, as1, hcs1, hea, hc1⟩ := hE4.at_ hlast
        have ecs : cs1 = (atC cs (chs.take i)).1 := by
          rw [edsTo_succ, List.getElem?_append_right (by unfold edsTo; rw [List.length_map, List.length_range]; exact Nat.le_refl _)] at hcs1
          unfold edsTo at hcs1
          rw [List.length_map, List.length_range, Nat.sub_self] at hcs1
          exact (Option.some.inj hcs1).symm
        subst ecs
        have am1 : atI (es.map V.ref) (-1) = some (.ref es[i]) := by
          unfold atI ixN
          rw [if_neg (by omega), if_pos (by rw [List.length_map]; omega), List.length_map, show ((-1 : Int) + (es.length : Nat)).toNat = i by omega]
          show (es.map V.ref)[i]? = _
          rw [List.getElem?_map, hlast]
          rfl
        refine ⟨_, rfl, 1, rfl, p, _, -1, _, rfl, rfl, sqL_of hp4, am1, ?_⟩
        refine ⟨_, rfl, a, ch, rfl, hat.keep s4, fit, fun H5 s5 => ⟨_, rfl, iteF ⟨_, rfl, _, rfl, es[i], a, as1, _, ch, rfl, .inl (sqL_of (s5 _ _ hea)), hc1.keep s5, fun e he => isIn_ok (gd.ok e he).1.df, (hat.keep s4).keep s5, fit, fun H6 s6 => ?_⟩⟩⟩
        rw [hind]
        refine ⟨rfl, _, rfl, iteF ?_⟩
        have s46 := s5.trans s6
        have s06 : Same H H6 := s4.trans s46
        have hp6 := s46 _ _ hp4
        have hE6 := hE4.keep s46
        have len1 : as1.length ≤ 1000 := by rw [hc1.len]; have := gd.six; omega
        refine ⟨_, rfl, .inl ⟨rfl, _, sqL_of hp6⟩, _, rfl, _, rfl, _, rfl, es[i], a, as1, _, ch, _, rfl, sqL_of (s46 _ _ hea), hc1.keep s46, hat.keep s06, len1, gd.nn, fun c hcm => (gd.ok c hcm).1, fun c hcm => (gd2.ok c hcm).1, fun e' as' H7 n7 s7 he7 hc7 => ?_⟩
        have hp7 := s7 _ _ hp6
        have e7p : e' ≠ p := fun z => by rw [z, hp6] at n7; cases n7
        refine ⟨p, _, _, rfl, rfl, hp7, ?_, ?_⟩
        · rw [List.length_map, hes]
          exact Nat.lt_of_le_of_lt (show i + 1 ≤ 1000 by omega) (by decide)
        have s8 : Same H (upd H7 p (.lst (es.map V.ref ++ [.ref e']))) := same_mut (s06.trans s7) hp0
        have hE8 : Eds K (upd H7 p (.lst (es.map V.ref ++ [.ref e']))) (es ++ [e']) (edsTo cs chs (i + 1 + 1)) := by
          rw [edsTo_succ, atC_snoc hci]
          refine Eds.mut hp7 (Eds.snoc he7 hc7 (hE6.keep s7)) fun e he => ?_
          rcases List.mem_append.mp he with he | he
          · exact hne e he
          · rw [List.mem_singleton.mp he]
            exact e7p
        have hp8 : upd H7 p (.lst (es.map V.ref ++ [.ref e'])) p = some (.lst ((es ++ [e']).map V.ref)) := by rw [upd_same, List.map_append]; rfl
        generalize upd H7 p (.lst (es.map V.ref ++ [.ref e'])) = H8 at s8 hE8 hp8 ⊢
        have hne8 : ∀ e ∈ es ++ [e'], e ≠ p := fun e he => by
          rcases List.mem_append.mp he with he | he
          · exact hne e he
          · rw [List.mem_singleton.mp he]
            exact e7p
        have hl8 : (es ++ [e']).length = i + 1 + 1 := by rw [List.length_append, hes]; rfl
        have e2 : (atC cs (chs.take (i + 1))).2 = numThen ch (atC cs (chs.take i)).2 := by rw [atC_snoc hci]; rfl
        refine ⟨_, rfl, a, ch, rfl, hat.keep s8, rfl, _, rfl, ?_⟩
        by_cases ea : ch.kind = "add"
        · rw [decide_eq_true (show V.str ch.kind = V.str "add" by rw [ea])]
          refine iteT ⟨_, rfl, _, _, rfl, rfl, s8, ⟨_, hl8, hp8, hE8, hne8⟩, some (.int (i : Nat)), some (.ref a), some (.ref es[i]), ?_⟩
          rw [e2, show numThen ch (atC cs (chs.take i)).2 = (atC cs (chs.take i)).2 + 1 from kind_add ea]
          rfl
        · rw [decide_eq_false (fun z => ea (V.str.inj z))]
          refine iteF ⟨s8, ⟨_, hl8, hp8, hE8, hne8⟩, some (.int (i : Nat)), some (.ref a), some (.ref es[i]), ?_⟩
          rw [e2, show numThen ch (atC cs (chs.take i)).2 = (atC cs (chs.take i)).2 from kind_noadd ea]
          rfl
    · rintro σ H3 ⟨s3, ⟨es, hes, hp3, hE, hne⟩, x, y, z, rfl⟩
      refine ⟨_, rfl, t, _, rfl, .inl (sqL_of (s3 _ _ ht)), _, _, rfl, rfl, _, rfl, ?_⟩
      rw [List.length_map, hch.len, decide_eq_false (by omega)]
      rw [List.length_map, hch.len] at hE
      exact iteF ⟨_, rfl, k p es H3 hp0 s3 hp3 hE⟩
theorem ixN_ok {n : Nat} {i : Int} (h : 0 ≤ i) (h2 : i < n) : ixN n i = some i.toNat := by
  unfold ixN
  rw [if_pos h, if_pos h2]

/-! drops -/
def gone (next : List Col) (c : Col) : Bool := (next.find? (isK c.num)).isNone
def dropStep (next : List Col) (i : Nat) (d : List V) (c : Col) : List V := if gone next c = true then d.set c.num.toNat (.int (i : Nat)) else d
def dropTo (eds : List (List Col)) (m : Nat) : Nat → List V
  | 0 => List.replicate m .non
  | i + 1 => (eds.getD i []).foldl (dropStep (eds.getD (i + 1) []) (i + 1)) (dropTo eds m i)
def dropOf (eds : List (List Col)) (m : Nat) : List V := dropTo eds m (eds.length - 1)
theorem dropStep_len (next : List Col) (i : Nat) : ∀ (cs : List Col) (d : List V), (cs.foldl (dropStep next i) d).length = d.length
  | [], d => rfl
  | c :: cs, d => by
    refine (dropStep_len next i cs _).trans ?_
    unfold dropStep
    split
    · exact List.length_set
    · rfl
theorem dropTo_len (eds : List (List Col)) (m : Nat) : ∀ i, (dropTo eds m i).length = m
  | 0 => List.length_replicate
  | i + 1 => (dropStep_len _ _ _ _).trans (dropTo_len eds m i)
theorem flat_rep : ∀ n : Nat, (List.replicate n [V.non]).flatten = List.replicate n V.non
  | 0 => rfl
  | n + 1 => by
    rw [List.replicate_succ, List.flatten_cons, flat_rep n]
    rfl
def sp_drops (K : PySem.W.Frag) : Sp := fun vs H Q _ => ∃ (l : Addr) (es : List Addr) (eds : List (List Col)) (m : Nat), vs = [.ref l, .int (m : Nat)] ∧ H l = some (.lst (es.map V.ref)) ∧ Eds K H es eds ∧ 1 ≤ eds.length ∧ eds.length ≤ 50 ∧ m ≤ 100000 ∧ (∀ cs ∈ eds, ∀ c ∈ cs, 0 ≤ c.num ∧ c.num < m) ∧
  ∀ (p : Addr) (H' : Hp), H p = none → Same H H' → H' p = some (.lst (dropOf eds m)) → Q (.ref p) H'
theorem ok_drops (T : Tx K mg) : Callee P w K mg base CX0 3 "drops" ["editions", "many"] [] (sp_drops K) := by
  have C1 := ok_column_numbered (P := P) (w := w) (base := base) T
  refine mkCallee (fd_drops T) (mg_drops T) sc_drops (fun _ _ _ _ _ _ us hl => match us, hl with | [_, _], _ => rfl) (fun vs H Q E h => ?_) (fun cdv A outer s H vs Q E hr h => ?_)
  · obtain ⟨l, es, eds, m, rfl, _⟩ := h
    rfl
  · obtain ⟨l, es, eds, m, rfl, hl, he, h1, h50, hm, hn, k⟩ := h
    have nd := sc_drops.nd
    refine ⟨_, pss_cons (ps_set (i := 2) nd rfl (Or.inl rfl) (pe_op op_rep (pe_lst (pa_cons pe_non pa_nil)) (pv 1)))
      (pss_cons (ps_for PassesOwn.never rfl (pi_range2 (by rfl) (fr_range T) (pa_cons pe_int (pa_cons (pe_callB call_len_seq (by rfl) (fr_len T) PySem.boot_len (pa_cons (pv 0) pa_nil)) pa_nil))) (pg_name (i := 3) nd rfl (Or.inl rfl))
        (pss_one (ps_for PassesOwn.never rfl (pi_list (pe_ix ix_list (pv 0) (pe_op op_sub (pv 3) pe_int) (fun _ _ => rfl))) (pg_name (i := 4) nd rfl (Or.inl rfl))
          (pss_one (ps_if (pt_cmpR op_isN (pcall C1 hr (pa_cons (pe_ix ix_list (pv 0) (pv 3) (fun _ _ => rfl)) (pa_cons (pe_fld (pv 4) rfl) pa_nil))) pe_non (nomark _))
            (pss_one (ps_asg (pv 3) (pg_sub (pv 2) (pe_fld (pv 4) rfl) set_list))) pss_nil))))) (pss_one (ps_ret (pv 2)))), ?_⟩
    have m0 : Eds K H es eds := he
    have lenE := he.len
    refine ⟨by show 1 ≤ sizeLine; decide, fun q nq => ⟨_, rfl, q, (m : Nat), [.non], rfl, rfl, upd_same, by omega, by omega, ?_, fun d nd' => ?_⟩⟩
    · rw [Int.toNat_natCast]
      exact Nat.le_trans (by show 1 * m ≤ 100000; omega) (by decide)
    rw [Int.toNat_natCast, flat_rep]
    have hd0 : H d = none := (same_new nq).free nd'
    have s0 : Same H (upd (upd H q (.lst [.non])) d (.lst (List.replicate m .non))) := (same_new nq).trans (same_new nd')
    have hd : upd (upd H q (.lst [.non])) d (.lst (List.replicate m .non)) d = some (.lst (dropTo eds m 0)) := upd_same
    generalize upd (upd H q (.lst [.non])) d (.lst (List.replicate m .non)) = H1 at s0 hd ⊢
    refine ⟨_, rfl, l, _, rfl, .inl (sqL_of (s0 _ _ hl)), 1, _, rfl, ?_, ?_⟩
    · rw [List.length_map]
      omega
    rw [List.length_map, lenE]
    refine for_range (fun i σ H' => Same H H' ∧ H' d = some (.lst (dropTo eds m i)) ∧ ∃ x y, σ = [some (.ref l), some (.int (m : Nat)), some (.ref d), x, y]) ⟨s0, hd, _, _, rfl⟩ ?_ ?_
    · rintro i σ H1 hi ⟨s1, hd1, x, y, rfl⟩
      have hi1 : i < es.length := by omega
      have hi2 : i + 1 < es.length := by omega
      obtain ⟨cs, as, hcs, hea, hc⟩ := he.at_ (List.getElem?_eq_getElem hi1)
      obtain ⟨cs2, as2, hcs2, hea2, hc2⟩ := he.at_ (List.getElem?_eq_getElem hi2)
      have hgd : eds.getD i [] = cs := by rw [List.getD_eq_getElem?_getD, hcs]; rfl
      have hgd2 : eds.getD (i + 1) [] = cs2 := by rw [List.getD_eq_getElem?_getD, hcs2]; rfl
      have a1 : atI (es.map V.ref) (1 + (i : Int) - 1) = some (.ref es[i]) := by
        unfold atI
        rw [ixN_ok (by omega) (by rw [List.length_map]; omega), show (1 + (i : Int) - 1).toNat = i by omega]
        show (es.map V.ref)[i]? = _
        rw [List.getElem?_map, List.getElem?_eq_getElem hi1]
        rfl
      have a2 : atI (es.map V.ref) (1 + (i : Int)) = some (.ref es[i + 1]) := by
        unfold atI
        rw [ixN_ok (by omega) (by rw [List.length_map]; omega), show (1 + (i : Int)).toNat = i + 1 by omega]
        show (es.map V.ref)[i + 1]? = _
        rw [List.getElem?_map, List.getElem?_eq_getElem hi2]
        rfl
      refine ⟨_, rfl, _, rfl, 1 + (i : Int), 1, rfl, rfl, l, _, 1 + (i : Int) - 1, _, rfl, rfl, sqL_of (s1 _ _ hl), a1, es[i], rfl, ⟨_, sqL_of (s1 _ _ hea)⟩, ?_⟩
      refine for_list (xs := as.map V.ref) (fun j σ H' => Same H H' ∧ H' d = some (.lst ((cs.take j).foldl (dropStep cs2 (i + 1)) (dropTo eds m i))) ∧ ∃ y, σ = [some (.ref l), some (.int (m : Nat)), some (.ref d), some (.int (1 + (i : Int))), y]) ⟨s1, hd1, _, rfl⟩ (fun j σ H' _ h => sqL_of (h.1 _ _ hea)) ?_ ?_
      · rintro j x σ H3 hx ⟨s3, hd3, z, rfl⟩
        rw [List.getElem?_map] at hx
        cases ha : as[j]? with
        | none =>
          rw [ha] at hx
          cases hx
        | some a =>
          rw [ha] at hx
          obtain rfl := Option.some.inj hx
          obtain ⟨c, hci, dx, hat⟩ := hc.at_ ha
          have et : cs.take (j + 1) = cs.take j ++ [c] := by rw [List.take_add_one, hci]; rfl
          have cn := hn cs (List.mem_of_getElem? hcs) c (List.mem_of_getElem? hci)
          refine ⟨_, rfl, _, rfl, l, _, 1 + (i : Int), _, rfl, rfl, sqL_of (s3 _ _ hl), a2, _, rfl, a, _, dx, _, _, rfl, s3 _ _ hat, cl_Column T, na_Column_number T, colFs_number, es[i + 1], as2, cs2, c.num, rfl, sqL_of (s3 _ _ hea2), hc2.keep s3, fun v hv => ?_⟩
          refine ⟨rfl, _, rfl, ?_⟩
          have eg : decide (v = V.non) = gone cs2 c := by
            unfold gone
            rcases hv with ⟨rfl, e⟩ | ⟨i', a', c', rfl, _, _, e⟩
            · rw [e]; rfl
            · rw [e]; rfl
          rw [eg]
          cases hg : gone cs2 c with
          | true =>
            refine iteT ⟨_, rfl, _, rfl, _, rfl, a, _, dx, _, _, rfl, s3 _ _ hat, cl_Column T, na_Column_number T, colFs_number, d, _, c.num, c.num.toNat, rfl, rfl, hd3, ixN_ok cn.1 ?_, same_mut s3 hd0, ?_, _, rfl⟩
            · rw [dropStep_len, dropTo_len]
              exact cn.2
            · rw [upd_same, et, List.foldl_append, List.foldl_cons, List.foldl_nil]
              show _ = some (HO.lst (if gone cs2 c = true then _ else _))
              rw [if_pos hg, show (1 + (i : Int)) = ((i + 1 : Nat) : Int) by omega]
          | false =>
            refine iteF ⟨s3, ?_, _, rfl⟩
            rw [hd3, et, List.foldl_append, List.foldl_cons, List.foldl_nil]
            show _ = some (HO.lst (if gone cs2 c = true then _ else _))
            rw [if_neg (by rw [hg]; decide)]
      · rintro σ H3 ⟨s3, hd3, z, rfl⟩
        refine ⟨s3, ?_, _, _, rfl⟩
        rw [List.length_map, hc.len, List.take_length] at hd3
        rw [hd3]
        show _ = some (HO.lst ((eds.getD i []).foldl (dropStep (eds.getD (i + 1) []) (i + 1)) (dropTo eds m i)))
        rw [hgd, hgd2]
    · rintro σ H1 ⟨s1, hd1, x, y, rfl⟩
      have e : (((eds.length : Nat) : Int) - 1).toNat = eds.length - 1 := by omega
      rw [e] at hd1
      exact ⟨_, rfl, k d H1 hd0 s1 hd1⟩
/-! History.__init__, of lists where all is well; what stands in a History -/
def histFs (e c b d : Addr) : List (Str × V) := [("_editions", .ref e), ("_changes", .ref c), ("_births", .ref b), ("_drops", .ref d)]
theorem hist_put2 (e c : Addr) : putF "_changes" (.ref c) (putF "_editions" (.ref e) []) = ([("_editions", .ref e), ("_changes", .ref c)] : List (Str × V)) := by
  have h1 : ¬ (("_editions" : Str) = "_changes") := by decide +kernel
  simp only [putF, if_neg h1]
theorem hist_put3 (e c b : Addr) : putF "_births" (.ref b) (putF "_changes" (.ref c) (putF "_editions" (.ref e) [])) = ([("_editions", .ref e), ("_changes", .ref c), ("_births", .ref b)] : List (Str × V)) := by
  have h1 : ¬ (("_editions" : Str) = "_births") := by decide +kernel
  have h2 : ¬ (("_changes" : Str) = "_births") := by decide +kernel
  rw [hist_put2]
  simp only [putF, if_neg h1, if_neg h2]
theorem hist_put4 (e c b d : Addr) : putF "_drops" (.ref d) (putF "_births" (.ref b) (putF "_changes" (.ref c) (putF "_editions" (.ref e) []))) = histFs e c b d := by
  have h1 : ¬ (("_editions" : Str) = "_drops") := by decide +kernel
  have h2 : ¬ (("_changes" : Str) = "_drops") := by decide +kernel
  have h3 : ¬ (("_births" : Str) = "_drops") := by decide +kernel
  rw [hist_put3]
  simp only [putF, if_neg h1, if_neg h2, if_neg h3]
  rfl
theorem histFs_editions {e c b d : Addr} : (histFs e c b d).lookup ("_editions" : Str) = some (.ref e) := by
  unfold histFs
  simp [List.lookup]
theorem histFs_changes {e c b d : Addr} : (histFs e c b d).lookup ("_changes" : Str) = some (.ref c) := by
  have h1 : (("_changes" : Str) == "_editions") = false := by decide +kernel
  unfold histFs
  simp [List.lookup, h1]
theorem histFs_births {e c b d : Addr} : (histFs e c b d).lookup ("_births" : Str) = some (.ref b) := by
  have h1 : (("_births" : Str) == "_editions") = false := by decide +kernel
  have h2 : (("_births" : Str) == "_changes") = false := by decide +kernel
  unfold histFs
  simp [List.lookup, h1, h2]
theorem histFs_drops {e c b d : Addr} : (histFs e c b d).lookup ("_drops" : Str) = some (.ref d) := by
  have h1 : (("_drops" : Str) == "_editions") = false := by decide +kernel
  have h2 : (("_drops" : Str) == "_changes") = false := by decide +kernel
  have h3 : (("_drops" : Str) == "_births") = false := by decide +kernel
  unfold histFs
  simp [List.lookup, h1, h2, h3]
/-- the numbers of a beginning are those of the places -/
def Placed (cs : List Col) : Prop := ∀ (i : Nat) (c : Col), cs[i]? = some c → c.num = ((i : Nat) : Int)
theorem bornSame {i : Nat} : ∀ {cs : List Col} {b : List Int}, (∀ c ∈ cs, c.num < b.length) → cs.foldl (bornStep i) b = b
  | [], _, _ => rfl
  | c :: cs, b, h => by
    rw [List.foldl_cons, bornStep_neg (by have := h c List.mem_cons_self; omega)]
    exact bornSame fun c' hc => h c' (List.mem_cons_of_mem _ hc)
theorem bornAll {i : Nat} : ∀ {cs : List Col} {b : List Int}, (∀ j c, cs[j]? = some c → c.num = ((b.length + j : Nat) : Int)) → (cs.foldl (bornStep i) b).length = b.length + cs.length
  | [], _, _ => rfl
  | c :: cs, b, h => by
    have h0 : c.num = b.length := by have := h 0 c rfl; simpa using this
    have ht : ∀ j c', cs[j]? = some c' → c'.num = (((b ++ [(i : Int)]).length + j : Nat) : Int) := fun j c' hc => by
      have := h (j + 1) c' (by simpa using hc)
      rw [List.length_append]
      show c'.num = ((b.length + 1 + j : Nat) : Int)
      omega
    have ih := bornAll (i := i) ht
    have e1 : (b ++ [(i : Int)]).length = b.length + 1 := by rw [List.length_append]; rfl
    rw [List.foldl_cons, bornStep_pos h0, ih, e1, List.length_cons]
    omega
theorem edsTo_get {cs : List Col} {chs : List Ch} {n i : Nat} (h : i < n) : (edsTo cs chs n)[i]? = some (atC cs (chs.take i)).1 := by
  unfold edsTo
  rw [List.getElem?_map, List.getElem?_range h]
  rfl
theorem edsTo_len {cs : List Col} {chs : List Ch} {n : Nat} : (edsTo cs chs n).length = n := by
  unfold edsTo
  rw [List.length_map, List.length_range]
theorem born_step {cs : List Col} {n : Int} {ch : Ch} {i : Nat} {b : List Int} (g : Good cs n) (g2 : Good (behind cs ch n) (numThen ch n)) (hb : (b.length : Int) = n) : (((behind cs ch n).foldl (bornStep i) b).length : Int) = numThen ch n := by
  by_cases k : ch.kind = "add"
  · rw [kind_add k]
    cases ch with
    | add nm gr d =>
      have hs : cs.foldl (bornStep i) b = b := bornSame fun c hc => by rw [hb]; exact (g.ok c hc).2
      rw [show behind cs (.add nm gr d) n = cs ++ [⟨nm, gr, d, n⟩] from rfl, List.foldl_append, hs, List.foldl_cons, List.foldl_nil, bornStep_pos (show n = _ from hb.symm), List.length_append]
      show ((b.length + 1 : Nat) : Int) = _
      omega
    | drop _ => exact absurd (show ("drop" : Str) = "add" from k) (by decide +kernel)
    | rename _ _ => exact absurd (show ("rename" : Str) = "add" from k) (by decide +kernel)
    | dflt _ _ => exact absurd (show ("default" : Str) = "add" from k) (by decide +kernel)
    | great _ _ _ => exact absurd (show ("greatest" : Str) = "add" from k) (by decide +kernel)
    | fill _ _ => exact absurd (show ("fill" : Str) = "add" from k) (by decide +kernel)
  · rw [kind_noadd k] at g2 ⊢
    have hs : (behind cs ch n).foldl (bornStep i) b = b := bornSame fun c hc => by rw [hb]; exact (g2.ok c hc).2
    rw [hs]
    exact hb
theorem born_zero {cs : List Col} {chs : List Ch} (pl : Placed cs) : ((bornTo (edsTo cs chs (chs.length + 1)) 1).length : Int) = (cs.length : Int) := by
  show (((List.getD (edsTo cs chs (chs.length + 1)) 0 []).foldl (bornStep 0) []).length : Int) = (cs.length : Int)
  rw [List.getD_eq_getElem?_getD, edsTo_get (by omega)]
  show ((cs.foldl (bornStep 0) []).length : Int) = _
  have ha := bornAll (i := 0) (cs := cs) (b := []) fun j c hc => by rw [pl j c hc]; simp
  rw [ha]
  simp
theorem Fits.born {cs : List Col} {chs : List Ch} (pl : Placed cs) (g : Good cs cs.length) (f : Fits cs chs) (i : Nat) (h : i ≤ chs.length) : ((bornTo (edsTo cs chs (chs.length + 1)) (i + 1)).length : Int) = (atC cs (chs.take i)).2 := by
  induction i with
  | zero => exact born_zero pl
  | succ i ih =>
    have ih := ih (by omega)
    obtain ⟨ch, e⟩ : ∃ ch, chs[i]? = some ch := ⟨_, List.getElem?_eq_getElem (by omega)⟩
    have gd := f.good g i (by omega)
    have gd2 := gd.step (f i _ e).1 (f i _ e).2
    have eb : bornTo (edsTo cs chs (chs.length + 1)) (i + 1 + 1) = (behind (atC cs (chs.take i)).1 ch (atC cs (chs.take i)).2).foldl (bornStep (i + 1)) (bornTo (edsTo cs chs (chs.length + 1)) (i + 1)) := by
      show (List.getD (edsTo cs chs (chs.length + 1)) (i + 1) []).foldl (bornStep (i + 1)) _ = _
      rw [List.getD_eq_getElem?_getD, edsTo_get (by omega), atC_snoc e]
      rfl
    rw [atC_snoc e, eb]
    exact born_step gd gd2 ih
theorem grow1 {cs : List Col} {chs : List Ch} (j : Nat) : (atC cs (chs.take j)).2 ≤ (atC cs (chs.take (j + 1))).2 := by
  cases hj : chs[j]? with
  | none =>
    have : chs.take (j + 1) = chs.take j := by rw [List.take_add_one, hj]; simp
    rw [this]
    exact Int.le_refl _
  | some ch =>
    rw [atC_snoc hj]
    show _ ≤ numThen ch (atC cs (chs.take j)).2
    by_cases k : ch.kind = "add"
    · rw [kind_add k]
      omega
    · rw [kind_noadd k]
      exact Int.le_refl _
theorem grows {cs : List Col} {chs : List Ch} {i j : Nat} (h : i ≤ j) : (atC cs (chs.take i)).2 ≤ (atC cs (chs.take j)).2 := by
  induction j with
  | zero =>
    obtain rfl : i = 0 := by omega
    exact Int.le_refl _
  | succ j ih =>
    by_cases e : i = j + 1
    · rw [e]
      exact Int.le_refl _
    · exact Int.le_trans (ih (by omega)) (grow1 j)
/-- a History stands at h: its first columns (numbered) and its changes -/
def bornH (cs : List Col) (chs : List Ch) : List Int := bornOf (edsTo cs chs (chs.length + 1))
def HistAt (K : PySem.W.Frag) (H : Hp) (h : Addr) (cs : List Col) (chs : List Ch) : Prop := ∃ (dx e c b d : Addr) (es ts : List Addr), H h = some (.ins (He.ga K "History") dx (histFs e c b d)) ∧ H e = some (.lst (es.map V.ref)) ∧ Eds K H es (edsTo cs chs (chs.length + 1)) ∧ H c = some (.lst (ts.map V.ref)) ∧ Chs K H ts chs ∧
  H b = some (.lst ((bornH cs chs).map V.int)) ∧ H d = some (.lst (dropOf (edsTo cs chs (chs.length + 1)) (bornH cs chs).length))
theorem HistAt.keep {K : PySem.W.Frag} {H H' : Hp} {h : Addr} {cs : List Col} {chs : List Ch} (s : Same H H') (q : HistAt K H h cs chs) : HistAt K H' h cs chs := by
  obtain ⟨dx, e, c, b, d, es, ts, h1, h2, h3, h4, h5, h6, h7⟩ := q
  exact ⟨dx, e, c, b, d, es, ts, s _ _ h1, s _ _ h2, h3.keep s, s _ _ h4, h5.keep s, s _ _ h6, s _ _ h7⟩
/-- a History whose lists of births and drops were not there at H0 -/
def HistN (K : PySem.W.Frag) (H0 H : Hp) (h : Addr) (cs : List Col) (chs : List Ch) : Prop := ∃ (dx e c b d : Addr) (es ts : List Addr), (H h = some (.ins (He.ga K "History") dx (histFs e c b d)) ∧ H e = some (.lst (es.map V.ref)) ∧ Eds K H es (edsTo cs chs (chs.length + 1)) ∧ H c = some (.lst (ts.map V.ref)) ∧ Chs K H ts chs ∧
  H b = some (.lst ((bornH cs chs).map V.int)) ∧ H d = some (.lst (dropOf (edsTo cs chs (chs.length + 1)) (bornH cs chs).length))) ∧ H0 b = none ∧ H0 d = none
theorem HistN.at_ {K : PySem.W.Frag} {H0 H : Hp} {h : Addr} {cs : List Col} {chs : List Ch} (q : HistN K H0 H h cs chs) : HistAt K H h cs chs := by
  obtain ⟨dx, e, c, b, d, es, ts, q, _⟩ := q
  exact ⟨dx, e, c, b, d, es, ts, q⟩
/-- what may be a History: columns numbered by places, changes that can be done -/
structure HistOk (cs : List Col) (chs : List Ch) : Prop where
  pl : Placed cs
  g : Good cs cs.length
  f : Fits cs chs
  few : chs.length ≤ 40
theorem HistOk.born {cs : List Col} {chs : List Ch} (o : HistOk cs chs) : ((bornH cs chs).length : Int) = (atC cs chs).2 := by
  have := o.f.born o.pl o.g chs.length (Nat.le_refl _)
  rw [List.take_length] at this
  unfold bornH bornOf
  rw [edsTo_len]
  exact this
theorem HistOk.nums {cs : List Col} {chs : List Ch} (o : HistOk cs chs) : ∀ cs' ∈ edsTo cs chs (chs.length + 1), ∀ c ∈ cs', 0 ≤ c.num ∧ c.num < (bornH cs chs).length := by
  intro cs' hc' c hc
  obtain ⟨i, hi, rfl⟩ := List.mem_map.mp hc'
  have hi' : i ≤ chs.length := by have := List.mem_range.mp hi; omega
  have gd := o.f.good o.g i hi'
  have := (gd.ok c hc).2
  have e := grows (cs := cs) (chs := chs) hi'
  rw [List.take_length] at e
  rw [o.born]
  exact ⟨(gd.ok c hc).1.nu, by omega⟩
theorem HistOk.few6 {cs : List Col} {chs : List Ch} (o : HistOk cs chs) : ∀ cs' ∈ edsTo cs chs (chs.length + 1), cs'.length ≤ 1000 := by
  intro cs' hc'
  obtain ⟨i, hi, rfl⟩ := List.mem_map.mp hc'
  have hi' : i ≤ chs.length := by have := List.mem_range.mp hi; omega
  have := (o.f.good o.g i hi').six
  omega
theorem placed_numb (cs : List Col) : Placed (numb cs) := by
  intro i c h
  unfold numb at h
  rw [List.getElem?_mapIdx, Option.map_eq_some_iff] at h
  obtain ⟨c', _, e⟩ := h
  rw [← e]
def sp_Hist_init (K : PySem.W.Frag) : Sp := fun vs H Q _ => ∃ (h dx l t : Addr) (as ts : List Addr) (cs : List Col) (chs : List Ch), vs = [.ref h, .ref l, .ref t] ∧ H h = some (.ins (He.ga K "History") dx []) ∧ H l = some (.lst (as.map V.ref)) ∧ Cols K H as cs ∧ H t = some (.lst (ts.map V.ref)) ∧ Chs K H ts chs ∧
  (∀ c ∈ cs, ColOk c) ∧ HistOk (numb cs) chs ∧ ∀ (H' : Hp), HistN K H H' h (numb cs) chs → (∀ (b : Addr) (o : HO), b ≠ h → H b = some o → H' b = some o) → Q .non H'
theorem numb_names (cs : List Col) : (numb cs).map (·.name) = cs.map (·.name) := by
  unfold numb
  refine List.ext_getElem? fun i => ?_
  rw [List.getElem?_map, List.getElem?_mapIdx, List.getElem?_map]
  cases cs[i]? <;> rfl
theorem numb_len (cs : List Col) : (numb cs).length = cs.length := by unfold numb; rw [List.length_mapIdx]
/-- all but what stands at h is as it was -/
def Up (h : Addr) (H H' : Hp) : Prop := ∀ b o, b ≠ h → H b = some o → H' b = some o
theorem Cols.up {K : PySem.W.Frag} {H H' : Hp} {h C dx : Addr} {fs : List (Str × V)} (u : Up h H H') (hh : H h = some (.ins C dx fs)) (nf : fs.lookup ("name" : Str) = none) : ∀ {as : List Addr} {cs : List Col}, Cols K H as cs → Cols K H' as cs
  | _, _, .nil => .nil
  | _, _, .cons (a := a) (c := c) q t => .cons (by
      obtain ⟨dy, q⟩ := q
      refine ⟨dy, u _ _ (fun z => ?_) q⟩
      rw [z, hh] at q
      have e := (HO.ins.inj (Option.some.inj q)).2.2
      rw [e, colFs_name] at nf
      cases nf) (t.up u hh nf)
theorem Eds.up {K : PySem.W.Frag} {H H' : Hp} {h C dx : Addr} {fs : List (Str × V)} (u : Up h H H') (hh : H h = some (.ins C dx fs)) (nf : fs.lookup ("name" : Str) = none) : ∀ {es : List Addr} {eds : List (List Col)}, Eds K H es eds → Eds K H' es eds
  | _, _, .nil => .nil
  | _, _, .cons as q c t => .cons as (u _ _ (fun z => by rw [z, hh] at q; cases q) q) (c.up u hh nf) (t.up u hh nf)
theorem Chs.up {K : PySem.W.Frag} {H H' : Hp} {h C dx : Addr} {fs : List (Str × V)} (u : Up h H H') (hh : H h = some (.ins C dx fs)) : ∀ {as : List Addr} {cs : List Ch}, Chs K H as cs → Chs K H' as cs
  | _, _, .nil => .nil
  | _, _, .cons q t => .cons (by
      rcases q with (q | ⟨o, q⟩) | q
      · exact .inl (.inl (u _ _ (fun z => by rw [z, hh] at q; cases q) q))
      · exact .inl (.inr ⟨o, u _ _ (fun z => by rw [z, hh] at q; cases q) q⟩)
      · exact .inr q) (t.up u hh)
theorem lk_e2 {e c : Addr} : ([("_editions", .ref e), ("_changes", .ref c)] : List (Str × V)).lookup ("_editions" : Str) = some (.ref e) := by simp [List.lookup]
theorem lk_e3 {e c b : Addr} : ([("_editions", .ref e), ("_changes", .ref c), ("_births", .ref b)] : List (Str × V)).lookup ("_editions" : Str) = some (.ref e) := by simp [List.lookup]
theorem lk_b3 {e c b : Addr} : ([("_editions", .ref e), ("_changes", .ref c), ("_births", .ref b)] : List (Str × V)).lookup ("_births" : Str) = some (.ref b) := by
  have h1 : (("_births" : Str) == "_editions") = false := by decide +kernel
  have h2 : (("_births" : Str) == "_changes") = false := by decide +kernel
  simp [List.lookup, h1, h2]
theorem ok_Hist_init (T : Tx K mg) : ∃ fd, FnOk P w K mg base CX0 11 (He.ma K (He.ga K "History") "__init__") fd ["self", "columns", "changes"] (sp_Hist_init K) ∧
    FunD K "__init__" "History.__init__" (defArgs s_History___init__) (defBody s_History___init__) (defScope s_History___init__) (d_History___init__.dvs K) (d_History___init__.kws K) (He.ma K (He.ga K "History") "__init__") fd := by
  have C1 := (ok_numbered_columns (P := P) (w := w) (base := base) T).up (show 7 ≤ 10 by decide)
  have C2 := (ok_columns_of_editions (P := P) (w := w) (base := base) T).up (show 9 ≤ 10 by decide)
  have C3 := (ok_births (P := P) (w := w) (base := base) T).up (show 1 ≤ 10 by decide)
  have C4 := (ok_drops (P := P) (w := w) (base := base) T).up (show 3 ≤ 10 by decide)
  obtain ⟨fd, F⟩ := fd_History___init__ T
  refine ⟨fd, F.ok (CX := CX0) sc_History___init__ (fun vs H Q E h => ?_) (fun cdv A outer s H vs Q E hr h => ?_), F⟩
  · obtain ⟨h, dx, l, t, as, ts, cs, chs, rfl, _⟩ := h
    rfl
  suffices hh : ∃ t, PSs (cxOf CX0 P w K mg base ["self", "columns", "changes"] "History.__init__" (defScope s_History___init__) (He.ma K (He.ga K "History") "__init__") cdv A outer s H E).nox (defBody s_History___init__) t ∧
      t { nx := fun _ H' => Q .non H', rt := Q } (start ["self", "columns", "changes"] vs) H by
    obtain ⟨t, h1, h2⟩ := hh
    exact ⟨t, h1.nox, h2⟩
  obtain ⟨h, dx, l, t, as, ts, cs, chs, rfl, hh, hl, hc, ht, hch, hok, ho, k⟩ := h
  have cl := cl_History T
  refine ⟨_, pss_cons (ps_fld (pv 0) (pcall C2 hr (pa_cons (pcall C1 hr (pa_cons (pv 1) pa_nil)) (pa_cons (pv 2) pa_nil))) rfl)
    (pss_cons (ps_fld (pv 0) (pe_callTy call_list_of (by rfl) (fr_list T) (by decide +kernel) (pa_cons (pv 2) pa_nil)) rfl)
    (pss_cons (ps_fld (pv 0) (pcall C3 hr (pa_cons (pe_fld (pv 0) rfl) pa_nil)) rfl)
    (pss_one (ps_fld (pv 0) (pcall C4 hr (pa_cons (pe_fld (pv 0) rfl) (pa_cons (pe_callB call_len_seq (by rfl) (fr_len T) PySem.boot_len (pa_cons (pe_fld (pv 0) rfl) pa_nil)) pa_nil))) rfl)))), ?_⟩
  have one : 1 ≤ cs.length := by have := ho.g.one; rw [numb_len] at this; exact this
  have six : cs.length ≤ 6 := by have := ho.g.six; rw [numb_len] at this; exact this
  have nms : (cs.map (·.name)).Nodup := by have := ho.g.names; rw [numb_names] at this; exact this
  refine ⟨_, rfl, l, as, cs, rfl, hl, hc, one, six, nms, hok, fun l1 as1 H1 n1 s1 h1 c1 => ⟨_, rfl, l1, t, as1, ts, numb cs, chs, rfl, h1, c1, s1 _ _ ht, hch.keep s1, ho.g, ho.f, ho.few, fun e es H2 n2 s2 he hE => ?_⟩⟩
  have s02 := s1.trans s2
  have hh2 := s02 _ _ hh
  have lk : ([] : List (Str × V)).lookup ("name" : Str) = none := rfl
  have th : t ≠ h := fun z => by rw [z, hh] at ht; cases ht
  have eh : e ≠ h := fun z => by rw [z, hh2] at he; cases he
  refine ⟨_, rfl, h, _, dx, _, rfl, hh2, cl, na_History__editions T, (by show 0 < 1000; decide), ?_⟩
  have u3 : Up h H2 (upd H2 h (.ins (He.ga K "History") dx [("_editions", .ref e)])) := fun b o nb q => by rw [upd_ne nb]; exact q
  have hh3 : upd H2 h (.ins (He.ga K "History") dx [("_editions", .ref e)]) h = some (.ins (He.ga K "History") dx [("_editions", .ref e)]) := upd_same
  show tSeq _ _ _ _ (upd H2 h (.ins (He.ga K "History") dx [("_editions", .ref e)]))
  generalize upd H2 h (.ins (He.ga K "History") dx [("_editions", .ref e)]) = H3 at u3 hh3 ⊢
  have ht3 : H3 t = some (.lst (ts.map V.ref)) := u3 _ _ th (s02 _ _ ht)
  refine ⟨_, rfl, t, _, rfl, .inl (sqL_of ht3), fun c nc => ?_⟩
  have hc4 : upd H3 c (.lst (ts.map V.ref)) c = some (.lst (ts.map V.ref)) := upd_same
  have u4 : Up h H2 (upd H3 c (.lst (ts.map V.ref))) := fun b o nb q => same_new nc _ _ (u3 b o nb q)
  have hh4 : upd H3 c (.lst (ts.map V.ref)) h = some (.ins (He.ga K "History") dx [("_editions", .ref e)]) := same_new nc _ _ hh3
  have ch : c ≠ h := fun z => by rw [z, hh3] at nc; cases nc
  generalize upd H3 c (.lst (ts.map V.ref)) = H4 at u4 hh4 hc4 ⊢
  refine ⟨_, rfl, h, _, dx, _, rfl, hh4, cl, na_History__changes T, (by show 1 < 1000; decide), ?_⟩
  rw [show putF ("_changes" : Str) (.ref c) [("_editions", .ref e)] = ([("_editions", .ref e), ("_changes", .ref c)] : List (Str × V)) from hist_put2 e c]
  have u5 : Up h H2 (upd H4 h (.ins (He.ga K "History") dx [("_editions", .ref e), ("_changes", .ref c)])) := fun b o nb q => by rw [upd_ne nb]; exact u4 b o nb q
  have hh5 : upd H4 h (.ins (He.ga K "History") dx [("_editions", .ref e), ("_changes", .ref c)]) h = some (.ins (He.ga K "History") dx [("_editions", .ref e), ("_changes", .ref c)]) := upd_same
  have hc5 : upd H4 h (.ins (He.ga K "History") dx [("_editions", .ref e), ("_changes", .ref c)]) c = some (.lst (ts.map V.ref)) := by rw [upd_ne ch]; exact hc4
  generalize upd H4 h (.ins (He.ga K "History") dx [("_editions", .ref e), ("_changes", .ref c)]) = H5 at u5 hh5 hc5 ⊢
  have hE5 : Eds K H5 es (edsTo (numb cs) chs (chs.length + 1)) := hE.up u5 hh2 lk
  have he5 := u5 _ _ eh he
  refine ⟨_, rfl, h, _, dx, _, _, rfl, hh5, cl, na_History__editions T, lk_e2, e, es, _, rfl, he5, hE5, by rw [edsTo_len]; have := ho.few; omega, ho.few6, fun b H6 n6 s6 hb6 => ?_⟩
  have u6 : Up h H2 H6 := fun b o nb q => s6 _ _ (u5 b o nb q)
  have hh6 := s6 _ _ hh5
  have hc6 := s6 _ _ hc5
  have bh : b ≠ h := fun z => by rw [z, hh5] at n6; cases n6
  refine ⟨_, rfl, h, _, dx, _, rfl, hh6, cl, na_History__births T, (by show 2 < 1000; decide), ?_⟩
  rw [show putF ("_births" : Str) (.ref b) [("_editions", .ref e), ("_changes", .ref c)] = ([("_editions", .ref e), ("_changes", .ref c), ("_births", .ref b)] : List (Str × V)) by rw [← hist_put2 e c]; exact hist_put3 e c b]
  have u7 : Up h H2 (upd H6 h (.ins (He.ga K "History") dx [("_editions", .ref e), ("_changes", .ref c), ("_births", .ref b)])) := fun b o nb q => by rw [upd_ne nb]; exact u6 b o nb q
  have hh7 : upd H6 h (.ins (He.ga K "History") dx [("_editions", .ref e), ("_changes", .ref c), ("_births", .ref b)]) h = some (.ins (He.ga K "History") dx [("_editions", .ref e), ("_changes", .ref c), ("_births", .ref b)]) := upd_same
  have hc7 : upd H6 h (.ins (He.ga K "History") dx [("_editions", .ref e), ("_changes", .ref c), ("_births", .ref b)]) c = some (.lst (ts.map V.ref)) := by rw [upd_ne ch]; exact hc6
  have hb7 : upd H6 h (.ins (He.ga K "History") dx [("_editions", .ref e), ("_changes", .ref c), ("_births", .ref b)]) b = some (.lst ((bornH (numb cs) chs).map V.int)) := by rw [upd_ne bh]; exact hb6
  generalize upd H6 h (.ins (He.ga K "History") dx [("_editions", .ref e), ("_changes", .ref c), ("_births", .ref b)]) = H7 at u7 hh7 hc7 hb7 ⊢
  have hE7 : Eds K H7 es (edsTo (numb cs) chs (chs.length + 1)) := hE.up u7 hh2 lk
  have he7 := u7 _ _ eh he
  have bl : (bornH (numb cs) chs).length ≤ 100000 := by
    have h1 := bornTo_len ho.few6 (edsTo (numb cs) chs (chs.length + 1)).length
    have h2 : (edsTo (numb cs) chs (chs.length + 1)).length ≤ 41 := by rw [edsTo_len]; have := ho.few; omega
    show (bornTo (edsTo (numb cs) chs (chs.length + 1)) _).length ≤ _
    omega
  refine ⟨_, rfl, h, _, dx, _, _, rfl, hh7, cl, na_History__editions T, lk_e3, _, rfl, h, _, dx, _, _, rfl, hh7, cl, na_History__births T, lk_b3, b, _, rfl, .inl (sqL_of hb7), e, es, _, (bornH (numb cs) chs).length, by rw [List.length_map]; rfl, he7, hE7, by rw [edsTo_len]; omega, by rw [edsTo_len]; have := ho.few; omega, bl, ho.nums, fun d H8 n8 s8 hd8 => ?_⟩
  have u8 : Up h H2 H8 := fun b o nb q => s8 _ _ (u7 b o nb q)
  have hh8 := s8 _ _ hh7
  have hc8 := s8 _ _ hc7
  have hb8 := s8 _ _ hb7
  have dh : d ≠ h := fun z => by rw [z, hh7] at n8; cases n8
  refine ⟨_, rfl, h, _, dx, _, rfl, hh8, cl, na_History__drops T, (by show 3 < 1000; decide), ?_⟩
  rw [show putF ("_drops" : Str) (.ref d) [("_editions", .ref e), ("_changes", .ref c), ("_births", .ref b)] = histFs e c b d by rw [← hist_put3 e c b]; exact hist_put4 e c b d]
  have u9 : Up h H2 (upd H8 h (.ins (He.ga K "History") dx (histFs e c b d))) := fun b o nb q => by rw [upd_ne nb]; exact u8 b o nb q
  have fb : H b = none := by
    cases hb0 : H b with
    | none => rfl
    | some o =>
      rw [u5 _ _ bh (s02 _ _ hb0)] at n6
      cases n6
  have fd0 : H d = none := by
    cases hd0 : H d with
    | none => rfl
    | some o =>
      rw [u7 _ _ dh (s02 _ _ hd0)] at n8
      cases n8
  refine k _ ⟨dx, e, c, b, d, es, ts, ⟨upd_same, u9 _ _ eh he, hE.up u9 hh2 lk, by rw [upd_ne ch]; exact hc8, (hch.keep s02).up u9 hh2, by rw [upd_ne bh]; exact hb8, by rw [upd_ne dh]; exact hd8⟩, fb, fd0⟩ fun b' o nb' q => u9 _ _ nb' (s02 _ _ q)
/-! len(history) -/
theorem histNo {K : PySem.W.Frag} {H : Hp} {h : Addr} {cs : List Col} {chs : List Ch} (q : HistAt K H h cs chs) : ∃ dx fs, H h = some (.ins (He.ga K "History") dx fs) := by
  obtain ⟨dx, e, c, b, d, _, _, q, _⟩ := q
  exact ⟨dx, _, q⟩
def sp_Hist_len (K : PySem.W.Frag) : Sp := fun vs H Q _ => ∃ (h : Addr) (cs : List Col) (chs : List Ch), vs = [.ref h] ∧ HistAt K H h cs chs ∧ Q (.int (chs.length : Nat)) H
theorem ok_Hist_len (T : Tx K mg) : ∃ fd, FnOk P w K mg base CX0 1 (He.ma K (He.ga K "History") "__len__") fd ["self"] (sp_Hist_len K) ∧ Binds K fd ["self"] [] := by
  obtain ⟨fd, F⟩ := fd_History___len__ T
  refine ⟨fd, F.ok (CX := CX0) sc_History___len__ (fun vs H Q E h => ?_) (fun cdv A outer s H vs Q E hr h => ?_), F.bindsN fun _ _ _ _ _ _ us hl => match us, hl with | [_], _ => rfl⟩
  · obtain ⟨h, cs, chs, rfl, _⟩ := h
    rfl
  suffices hh : ∃ t, PSs (cxOf CX0 P w K mg base ["self"] "History.__len__" (defScope s_History___len__) (He.ma K (He.ga K "History") "__len__") cdv A outer s H E).nox (defBody s_History___len__) t ∧
      t { nx := fun _ H' => Q .non H', rt := Q } (start ["self"] vs) H by
    obtain ⟨t, h1, h2⟩ := hh
    exact ⟨t, h1.nox, h2⟩
  obtain ⟨h, cs, chs, rfl, ⟨dx, e, c, b, d, es, ts, hh, he, hE, hc, hC, hb, hd⟩, k⟩ := h
  refine ⟨_, pss_one (ps_ret (pe_callB call_len_seq (by rfl) (fr_len T) PySem.boot_len (pa_cons (pe_fld (pv 0) rfl) pa_nil))), ?_⟩
  refine ⟨_, rfl, h, _, dx, _, _, rfl, hh, cl_History T, na_History__changes T, histFs_changes, c, _, rfl, .inl (sqL_of hc), ?_⟩
  rw [List.length_map, hC.len]
  exact k
/-! is_edition -/
def isEd (n : Nat) : V → Bool
  | .int i => decide (0 ≤ i) && decide (i ≤ (n : Nat))
  | _ => false
def sp_is_edition (K : PySem.W.Frag) : Sp := fun vs H Q _ => ∃ (h : Addr) (cs : List Col) (chs : List Ch) (x : V) (t : String), vs = [.ref h, x] ∧ HistAt K H h cs chs ∧ chs.length ≤ 1000 ∧ TyX K H x (.type t) ∧ Q (.bl (isEd chs.length x)) H
theorem ok_is_edition (T : Tx K mg) : Callee P w K mg base CX0 3 "is_edition" ["history", "value"] [] (sp_is_edition K) := by
  have C1 := (ok_is_whole (P := P) (w := w) (base := base) T).up (show 1 ≤ 2 by decide)
  obtain ⟨fdL, FL, bL⟩ := ok_Hist_len (P := P) (w := w) (base := base) T
  refine mkCallee (fd_is_edition T) (mg_is_edition T) sc_is_edition (fun _ _ _ _ _ _ us hl => match us, hl with | [_, _], _ => rfl) (fun vs H Q E h => ?_) (fun cdv A outer s H vs Q E hr h => ?_)
  · obtain ⟨h, cs, chs, x, t, rfl, _⟩ := h
    rfl
  · obtain ⟨h, cs, chs, x, t, rfl, hh, few, ty, k⟩ := h
    obtain ⟨dx, fs, hi⟩ := histNo hh
    refine ⟨_, pss_one (ps_ret (pe_and (pcall C1 hr (pa_cons (pv 1) pa_nil)) (pe_one (pe_chain op_le op_le pe_int (pv 1) (pe_callB (call_lenOwn FL (me_History___len__ T) hr bL pass0) (by rfl) (fr_len T) PySem.boot_len (pa_cons (pv 0) pa_nil)))))), ?_⟩
    refine ⟨_, rfl, x, t, rfl, ty, _, rfl, ?_⟩
    cases x with
    | int i =>
      refine iteT ⟨_, rfl, _, _, rfl, rfl, _, rfl, ?_⟩
      have e : isEd chs.length (.int i) = (decide (0 ≤ i) && decide (i ≤ (chs.length : Nat))) := rfl
      rw [e] at k
      cases h1 : decide (0 ≤ i) with
      | false =>
        rw [h1] at k
        exact k
      | true =>
        rw [h1] at k
        exact ⟨_, rfl, h, dx, fs, rfl, hi, h, cs, chs, rfl, hh, _, rfl, ⟨by omega, by omega⟩, _, _, rfl, rfl, k⟩
    | _ => exact iteF k
/-! edition_of, of what is an edition, or None -/
def edOf (n : Nat) : V → Int
  | .int i => i
  | _ => n
def sp_edition_of (K : PySem.W.Frag) : Sp := fun vs H Q _ => ∃ (h : Addr) (cs : List Col) (chs : List Ch) (x : V), vs = [.ref h, x] ∧ HistAt K H h cs chs ∧ chs.length ≤ 1000 ∧ (x = .non ∨ isEd chs.length x = true) ∧ Q (.int (edOf chs.length x)) H
theorem ok_edition_of (T : Tx K mg) : Callee P w K mg base CX0 4 "edition_of" ["history", "edition"] [] (sp_edition_of K) := by
  have C1 := ok_is_edition (P := P) (w := w) (base := base) T
  obtain ⟨fdL, FL, bL⟩ := ok_Hist_len (P := P) (w := w) (base := base) T
  refine mkCallee (fd_edition_of T) (mg_edition_of T) sc_edition_of (fun _ _ _ _ _ _ us hl => match us, hl with | [_, _], _ => rfl) (fun vs H Q E h => ?_) (fun cdv A outer s H vs Q E hr h => ?_)
  · obtain ⟨h, cs, chs, x, rfl, _⟩ := h
    rfl
  · obtain ⟨h, cs, chs, x, rfl, hh, few, hx, k⟩ := h
    obtain ⟨dx, fs, hi⟩ := histNo hh
    refine ⟨_, pss_cons (ps_if (pt_cmpR op_isN (pv 1) pe_non (nomark _)) (pss_one (ps_ret (pe_callB (call_lenOwn FL (me_History___len__ T) (hr.mono (by decide)) bL pass0) (by rfl) (fr_len T) PySem.boot_len (pa_cons (pv 0) pa_nil)))) pss_nil)
      (pss_cons (ps_if (pt_not (pt_val (pcall C1 hr (pa_cons (pv 0) (pa_cons (pv 1) pa_nil))))) (pss_one ps_never) pss_nil) (pss_one (ps_ret (pv 1)))), ?_⟩
    rcases hx with rfl | hx
    · exact ⟨_, rfl, rfl, _, rfl, iteDT rfl ⟨_, rfl, h, dx, fs, rfl, hi, h, cs, chs, rfl, hh, _, rfl, ⟨by omega, by omega⟩, k⟩⟩
    · cases x with
      | int i =>
        refine ⟨_, rfl, rfl, _, rfl, iteD (fun z => by cases z) ⟨_, rfl, _, rfl, h, cs, chs, .int i, _, rfl, hh, few, .base (.int i), _, rfl, ?_⟩⟩
        rw [hx]
        exact iteF ⟨_, rfl, k⟩
      | _ => cases hx
/-! x[i] of an instance with an own __getitem__ -/
section
variable {X : Cx} {CX : CXT} {k : Nat} {f C : Addr} {fd : FuncData} {ps : List Str} {sp : Sp} {E : XK}
def rIxOwn (C : Addr) (sp : Sp) (E : XK) : R2 := fun x y H Q => ∃ (a dx : Addr) (fs : List (Str × V)), x = .ref a ∧ H a = some (.ins C dx fs) ∧ sp [x, y] H Q E
theorem pe_ixOwn {a b : Expr} {pos : Pos} {ta tb : TE} (F : FnOk X.prog X.w X.K X.mg X.base CX k f fd ps sp) (hm : Meth X.K C "__getitem__" f) (hf : PySem.W.fnIn X.K f = true) (hr : Room (k + 1) X.A) (hb : Binds X.K fd ps []) (hx : Passes CX X E) (ha : PE X a ta) (hb2 : PE X b tb)
    (hl : ∀ (x : Addr) (i : Value), subscripted b true (.ref x) i = runValue (.builtin "lifetime.subscript" ⟨[.ref x, i], []⟩)) : PE X (.Subscript a b pos) (tOp (rIxOwn C sp E) ta tb) := by
  refine ⟨fun pins s σ H Q I h => ?_⟩
  refine Subscript_ (binT ha hb2 I h fun v u s2 x y H2 I2 rx ry q => ?_)
  obtain ⟨c, dx, fs, ex, hc, q⟩ := q
  subst ex
  cases (show v = Value.ref c from rx)
  obtain ⟨mA, J, _⟩ := ins_get I2.hok hc
  obtain ⟨od, J, _⟩ := J.look
  obtain ⟨m, hF⟩ := I2.fr
  exact PySem.W.sub_K hF I2.ok.mod.kin J hm.at_ hf hm.fn (runA (us := [.ref c, u]) (vs := [.ref c, y]) F hr.in1 I2.env0.in1 hb hx I2 (.cons rfl (.cons ry .nil)) q) (hl c u)
end

/-! history[i], of an index of a change -/
theorem lref_getAt {as : List Addr} {j : Nat} {a : Addr} (h : as[j]? = some a) : atI (as.map V.ref) ((j : Nat) : Int) = some (.ref a) := by
  have hj := (List.getElem?_eq_some_iff.mp h).1
  unfold atI
  rw [ixN_ok (by omega) (by rw [List.length_map]; omega)]
  show (as.map V.ref)[j]? = _
  rw [List.getElem?_map, h]
  rfl
def sp_Hist_get (K : PySem.W.Frag) : Sp := fun vs H Q _ => ∃ (h : Addr) (cs : List Col) (chs : List Ch) (i : Nat), vs = [.ref h, .int (i : Nat)] ∧ HistAt K H h cs chs ∧ i < chs.length ∧ ∀ (t : Addr) (ch : Ch), chs[i]? = some ch → ChAt K H t ch → Q (.ref t) H
theorem ok_Hist_get (T : Tx K mg) : ∃ fd, FnOk P w K mg base CX0 2 (He.ma K (He.ga K "History") "__getitem__") fd ["self", "at"] (sp_Hist_get K) ∧ Binds K fd ["self", "at"] [] := by
  have C1 := ok_is_whole (P := P) (w := w) (base := base) T
  obtain ⟨fd, F⟩ := fd_History___getitem__ T
  refine ⟨fd, F.ok (CX := CX0) sc_History___getitem__ (fun vs H Q E h => ?_) (fun cdv A outer s H vs Q E hr h => ?_), F.bindsN fun _ _ _ _ _ _ us hl => match us, hl with | [_, _], _ => rfl⟩
  · obtain ⟨h, cs, chs, i, rfl, _⟩ := h
    rfl
  suffices hh : ∃ t, PSs (cxOf CX0 P w K mg base ["self", "at"] "History.__getitem__" (defScope s_History___getitem__) (He.ma K (He.ga K "History") "__getitem__") cdv A outer s H E).nox (defBody s_History___getitem__) t ∧
      t { nx := fun _ H' => Q .non H', rt := Q } (start ["self", "at"] vs) H by
    obtain ⟨t, h1, h2⟩ := hh
    exact ⟨t, h1.nox, h2⟩
  obtain ⟨h, cs, chs, i, rfl, ⟨dx, e, c, b, d, es, ts, hh, he, hE, hc, hC, hb, hd⟩, hi, k⟩ := h
  have cl := cl_History T
  refine ⟨_, pss_cons (ps_if (PW.pt (pw_or (pt_not (pt_val (pcall C1 hr (pa_cons (pv 1) pa_nil)))) (pw_or1 (pt_not (pt_chain op_le op_lt pe_int (pv 1) (pe_callB call_len (by rfl) (fr_len T) PySem.boot_len (pa_cons (pe_fld (pv 0) rfl) pa_nil))))))) (pss_one ps_never) pss_nil)
    (pss_one (ps_ret (pe_ix ix_list (pe_fld (pv 0) rfl) (pv 1) (fun _ _ => rfl)))), ?_⟩
  have hti : i < ts.length := by rw [hC.len]; exact hi
  obtain ⟨ch, hch, hat⟩ := hC.at_ (List.getElem?_eq_getElem hti)
  refine ⟨_, rfl, .int (i : Nat), _, rfl, .base (.int _), _, rfl, iteF ?_⟩
  refine ⟨_, rfl, _, _, rfl, rfl, _, rfl, ?_⟩
  rw [decide_eq_true (show (0 : Int) ≤ ((i : Nat) : Int) by omega)]
  refine iteT ⟨_, rfl, h, _, dx, _, _, rfl, hh, cl, na_History__changes T, histFs_changes, _, chs.length, rfl, .inl ⟨_, sqL_of hc, by rw [List.length_map, hC.len]⟩, _, _, rfl, rfl, _, rfl, ?_⟩
  rw [decide_eq_true (show ((i : Nat) : Int) < ((chs.length : Nat) : Int) by omega)]
  refine iteF (nxt ⟨_, rfl, h, _, dx, _, _, rfl, hh, cl, na_History__changes T, histFs_changes, _, rfl, c, _, ((i : Nat) : Int), _, rfl, rfl, sqL_of hc, lref_getAt (List.getElem?_eq_getElem hti), k _ ch hch hat⟩)
/-! history.columns(edition) -/
theorem isEd_ix {n : Nat} {x : V} (h : x = .non ∨ isEd n x = true) : 0 ≤ edOf n x ∧ edOf n x ≤ (n : Nat) := by
  rcases h with rfl | h
  · exact ⟨by show (0 : Int) ≤ (n : Nat); omega, Int.le_refl _⟩
  · cases x with
    | int i =>
      have h : (decide (0 ≤ i) && decide (i ≤ (n : Nat))) = true := h
      rw [Bool.and_eq_true] at h
      exact ⟨of_decide_eq_true h.1, of_decide_eq_true h.2⟩
    | _ => cases h
def colsAt (cs : List Col) (chs : List Ch) (x : V) : List Col := (atC cs (chs.take (edOf chs.length x).toNat)).1
def sp_Hist_columns (K : PySem.W.Frag) : Sp := fun vs H Q _ => ∃ (h : Addr) (cs : List Col) (chs : List Ch) (x : V), vs = [.ref h, x] ∧ HistAt K H h cs chs ∧ chs.length ≤ 1000 ∧ (x = .non ∨ isEd chs.length x = true) ∧
  ∀ (l : Addr) (as : List Addr) (H' : Hp), H l = none → Same H H' → H' l = some (.lst (as.map V.ref)) → Cols K H' as (colsAt cs chs x) → Q (.ref l) H'
theorem ok_Hist_columns (T : Tx K mg) : ∃ fd, FnOk P w K mg base CX0 5 (He.ma K (He.ga K "History") "columns") fd ["self", "edition"] (sp_Hist_columns K) ∧ Binds K fd ["self", "edition"] [] ∧ ∃ ds, Vals [V.non] ds ∧ Binds K fd ["self", "edition"] ds := by
  have C1 := ok_edition_of (P := P) (w := w) (base := base) T
  obtain ⟨fd, F⟩ := fd_History_columns T
  refine ⟨fd, F.ok (CX := CX0) sc_History_columns (fun vs H Q E h => ?_) (fun cdv A outer s H vs Q E hr h => ?_), ?_, ?_⟩
  · obtain ⟨h, cs, chs, x, rfl, _⟩ := h
    rfl
  · suffices hh : ∃ t, PSs (cxOf CX0 P w K mg base ["self", "edition"] "History.columns" (defScope s_History_columns) (He.ma K (He.ga K "History") "columns") cdv A outer s H E).nox (defBody s_History_columns) t ∧
        t { nx := fun _ H' => Q .non H', rt := Q } (start ["self", "edition"] vs) H by
      obtain ⟨t, h1, h2⟩ := hh
      exact ⟨t, h1.nox, h2⟩
    obtain ⟨h, cs, chs, x, rfl, hq, few, hx, k⟩ := h
    obtain ⟨dx, e, c, b, d, es, ts, hh, he, hE, hc, hC, hb, hd⟩ := id hq
    have bd := isEd_ix hx
    have hlen : es.length = chs.length + 1 := by rw [hE.len, edsTo_len]
    have hi : (edOf chs.length x).toNat < es.length := by omega
    obtain ⟨cs1, as1, hcs1, hea, hc1⟩ := hE.at_ (List.getElem?_eq_getElem hi)
    rw [edsTo_get (by omega)] at hcs1
    obtain rfl := Option.some.inj hcs1
    refine ⟨_, pss_one (ps_ret (pe_callTy call_list_of (by rfl) (fr_list T) (by decide +kernel) (pa_cons (pe_ix ix_list (pe_fld (pv 0) rfl) (pcall C1 hr (pa_cons (pv 0) (pa_cons (pv 1) pa_nil))) (fun _ _ => rfl)) pa_nil))), ?_⟩
    refine ⟨_, rfl, h, _, dx, _, _, rfl, hh, cl_History T, na_History__editions T, histFs_editions, _, rfl, _, rfl, h, cs, chs, x, rfl, hq, few, hx, e, es.map V.ref, edOf chs.length x, .ref es[(edOf chs.length x).toNat], rfl, rfl, sqL_of he, ?_, _, _, rfl, .inl (sqL_of hea), fun l nl => ?_⟩
    · unfold atI
      rw [ixN_ok bd.1 (by rw [List.length_map]; omega)]
      show (es.map V.ref)[(edOf chs.length x).toNat]? = _
      rw [List.getElem?_map, List.getElem?_eq_getElem hi]
      rfl
    · exact k l as1 _ nl (same_new nl) upd_same (hc1.keep (same_new nl))
  · have h := F.binds1 (ps := ["self", "edition"]) 2 1 (by intro z; cases z) rfl (fun TT kV doc pm an cdv ct us its h1 h2 => ?_)
    · obtain ⟨ds, v, b⟩ := h
      cases ds with
      | nil => exact b
      | cons _ _ => cases v
    · match us, h1, its, h2 with
      | [u0, u1], _, [i0], _ => exact ⟨_, rfl, rfl⟩
  · exact F.binds1 (ps := ["self", "edition"]) 1 0 (by intro z; cases z) rfl (fun TT kV doc pm an cdv ct us its h1 h2 => by
      match us, h1, its, h2 with
      | [u0], _, [i0], _ => exact ⟨_, rfl, rfl⟩)
/-! History.column, of a name that is there -/
def sp_Hist_column (K : PySem.W.Frag) : Sp := fun vs H Q _ => ∃ (h : Addr) (cs : List Col) (chs : List Ch) (x : V) (c : Col), vs = [.ref h, .str c.name, x] ∧ HistAt K H h cs chs ∧ chs.length ≤ 1000 ∧ (x = .non ∨ isEd chs.length x = true) ∧ c ∈ colsAt cs chs x ∧ ((colsAt cs chs x).map (·.name)).Nodup ∧
  ∀ a, ColA K H a c → Q (.ref a) H
theorem ok_Hist_column (T : Tx K mg) : ∃ fd, FnOk P w K mg base CX0 5 (He.ma K (He.ga K "History") "column") fd ["self", "name", "edition"] (sp_Hist_column K) ∧ (∃ g, KBn K fd ["self", "name", "edition"] 2 ["edition"] g (fun vs zs => vs ++ zs)) ∧ ∃ ds, Vals [V.non] ds ∧ Binds K fd ["self", "name", "edition"] ds := by
  have C1 := ok_edition_of (P := P) (w := w) (base := base) T
  have C2 := (ok_column_named (P := P) (w := w) (base := base) T).up (show 1 ≤ 4 by decide)
  obtain ⟨fd, F⟩ := fd_History_column T
  refine ⟨fd, F.ok (CX := CX0) sc_History_column (fun vs H Q E h => ?_) (fun cdv A outer s H vs Q E hr h => ?_), ?_, ?_⟩
  · obtain ⟨h, cs, chs, x, c, rfl, _⟩ := h
    rfl
  · suffices hh : ∃ t, PSs (cxOf CX0 P w K mg base ["self", "name", "edition", "found"] "History.column" (defScope s_History_column) (He.ma K (He.ga K "History") "column") cdv A outer s H E).nox (defBody s_History_column) t ∧
        t { nx := fun _ H' => Q .non H', rt := Q } (start ["self", "name", "edition", "found"] vs) H by
      obtain ⟨t, h1, h2⟩ := hh
      exact ⟨t, h1.nox, h2⟩
    obtain ⟨h, cs, chs, x, c0, rfl, hq, few, hx, hcm, hnd, k⟩ := h
    have nd := sc_History_column.nd
    obtain ⟨dx, e, c, b, d, es, ts, hh, he, hE, hc, hC, hb, hd⟩ := id hq
    have bd := isEd_ix hx
    have hlen : es.length = chs.length + 1 := by rw [hE.len, edsTo_len]
    have hi : (edOf chs.length x).toNat < es.length := by omega
    obtain ⟨cs1, as1, hcs1, hea, hc1⟩ := hE.at_ (List.getElem?_eq_getElem hi)
    rw [edsTo_get (by omega)] at hcs1
    obtain rfl := Option.some.inj hcs1
    refine ⟨_, (pss_cons (ps_set (i := 3) nd rfl (Or.inl rfl) (pcall C2 hr (pa_cons (pe_ix ix_list (pe_fld (pv 0) rfl) (pcall C1 hr (pa_cons (pv 0) (pa_cons (pv 2) pa_nil))) (fun _ _ => rfl)) (pa_cons (pv 1) pa_nil))))
        (pss_cons (ps_if (pt_cmpR op_isN (pv 3) pe_non (nomark _)) (pss_one ps_never) pss_nil)
        (pss_one (ps_ret (pv 3))))), ?_⟩
    have ha0 : atI (es.map V.ref) (edOf chs.length x) = some (.ref es[(edOf chs.length x).toNat]) := by
      unfold atI
      rw [ixN_ok bd.1 (by rw [List.length_map]; omega)]
      show (es.map V.ref)[(edOf chs.length x).toNat]? = _
      rw [List.getElem?_map, List.getElem?_eq_getElem hi]
      rfl
    have hfu := find_uniq (cs := colsAt cs chs x) hnd hcm rfl
    refine q_asgX ⟨_, rfl, h, _, dx, _, _, rfl, hh, cl_History T, na_History__editions T, histFs_editions, _, rfl, _, rfl, h, cs, chs, x, rfl, hq, few, hx, e, es.map V.ref, edOf chs.length x, .ref es[(edOf chs.length x).toNat], rfl, rfl, sqL_of he, ha0, _, rfl, _, as1, colsAt cs chs x, c0.name, rfl, .inl (sqL_of hea), hc1, fun v hv => ?_⟩
    rcases hv with ⟨_, hno⟩ | ⟨j, a, c', rfl, ha, hcj, hfi⟩
    · rw [hfu] at hno
      cases hno
    obtain rfl : c0 = c' := Option.some.inj (hfu.symm.trans hfi)
    obtain ⟨c', q1, q2⟩ := hc1.at_ ha
    obtain rfl : c0 = c' := Option.some.inj (hcj.symm.trans q1)
    refine ⟨_, rfl, rfl, _, rfl, iteD (fun z => by cases z) (nxt ⟨_, rfl, k a q2⟩)⟩
  · have h := F.kbinds0 (ps := ["self", "name", "edition"]) 2 ["edition"] [] (fun us mv ws => us ++ ws) (by intro z; cases z) (by intro q hq; cases hq) (fun r1 _ r4 => r1.append r4) (fun D doc pm an cdv ct us mv ws h1 h2 h3 => ?_)
    · obtain ⟨mv, h⟩ := h
      exact ⟨_, h⟩
    · match us, h1, mv, h2, ws, h3 with
      | [u0, u1], _, [], _, [w0], _ => exact rfl
  · exact F.binds0 (ps := ["self", "name", "edition"]) 2 (by intro z; cases z) rfl (fun D doc pm an cdv ct us ks h1 h2 => by
      match us, h1, ks, h2 with
      | [u0, u1], _, [i0], _ => exact ⟨_, _, _, _, _, _, rfl, rfl, rfl⟩)
/-! heaps: all but one place; lists and dicts apart -/
/-- all but what stands at p is as it was -/
def But (p : Addr) (H H' : Hp) : Prop := ∀ b o, b ≠ p → H b = some o → H' b = some o
theorem But.refl (p : Addr) (H : Hp) : But p H H := fun _ _ _ e => e
theorem But.trans {p : Addr} {H H1 H2 : Hp} (a : But p H H1) (b : But p H1 H2) : But p H H2 := fun c o h e => b c o h (a c o h e)
theorem But.of {p : Addr} {H H' : Hp} (s : Same H H') : But p H H' := fun b o _ e => s b o e
theorem But.mut {p : Addr} {H : Hp} {o : HO} : But p H (upd H p o) := fun b u h e => by
  rw [upd_ne h]
  exact e
/-- nothing that stood ahead of p is touched -/
theorem But.same {p : Addr} {H0 H H' : Hp} (b : But p H H') (s : Same H0 H) (n : H0 p = none) : Same H0 H' := fun c o e => b c o (ne_of_none e n) (s c o e)
theorem npool0 {H : Hp} {p l : Addr} {o : HO} (h : H p = some o) (n : H l = none) : l ≠ p := fun e => by
  rw [e, h] at n
  cases n
theorem KeepNL.ofBut {H H' : Hp} {p : Addr} {zs : List V} (h : H p = some (.lst zs)) (b : But p H H') : KeepNL H H' := fun c o n e => b c o (fun q => by rw [q, h] at e; exact n zs (Option.some.inj e).symm) e
/-- all that is neither a list nor a dict is as it was -/
def KeepT (H H' : Hp) : Prop := ∀ b o, (∀ zs, o ≠ HO.lst zs) → (∀ kvs, o ≠ HO.dK kvs) → H b = some o → H' b = some o
theorem KeepT.of {H H' : Hp} (s : Same H H') : KeepT H H' := fun b o _ _ e => s b o e
theorem KeepT.trans {H H1 H2 : Hp} (a : KeepT H H1) (b : KeepT H1 H2) : KeepT H H2 := fun c o n m e => b c o n m (a c o n m e)
theorem KeepT.lst {H : Hp} {D : Addr} {zs : List V} {o : HO} (h : H D = some (.lst zs)) : KeepT H (upd H D o) := fun b o' n _ e => by
  rw [upd_ne (fun q => by rw [q, h] at e; exact n zs (Option.some.inj e).symm)]
  exact e
theorem KeepT.dct {H : Hp} {D : Addr} {kvs : List (Key × V)} {o : HO} (h : H D = some (.dK kvs)) : KeepT H (upd H D o) := fun b o' _ n e => by
  rw [upd_ne (fun q => by rw [q, h] at e; exact n kvs (Option.some.inj e).symm)]
  exact e
theorem KeepT.but {H H' : Hp} {p : Addr} {zs : List V} (h : H p = some (.lst zs)) (b : But p H H') : KeepT H H' := fun c o n _ e => b c o (fun q => by rw [q, h] at e; exact n zs (Option.some.inj e).symm) e
theorem sqT_keepT {K : PySem.W.Frag} {H H' : Hp} {a : Addr} {xs : List V} (s : KeepT H H') (h : SqT K H a xs) : SqT K H' a xs := by
  rcases h with (h | ⟨o, h⟩) | h
  · exact .inl (.inl (s _ _ (fun _ z => by cases z) (fun _ z => by cases z) h))
  · exact .inl (.inr ⟨o, s _ _ (fun _ z => by cases z) (fun _ z => by cases z) h⟩)
  · exact .inr h
theorem sqT_keepNL {K : PySem.W.Frag} {H H' : Hp} {a : Addr} {xs : List V} (s : KeepNL H H') (h : SqT K H a xs) : SqT K H' a xs := by
  rcases h with (h | ⟨o, h⟩) | h
  · exact .inl (.inl (s _ _ (fun _ z => by cases z) h))
  · exact .inl (.inr ⟨o, s _ _ (fun _ z => by cases z) h⟩)
  · exact .inr h
theorem pl_e1 {σ : L2.St} {H : Hp} {X : TE} {r : List V → Hp → VK → Prop} {Q : VK} (h : X σ H fun v H1 => r [v] H1 Q) : tCB r (tCons X tNil) σ H Q := h
theorem pl_op {σ : L2.St} {H : Hp} {ta tb : TE} {r : V → V → Hp → VK → Prop} {Q : VK} (h : ta σ H fun x H1 => tb σ H1 fun y H2 => r x y H2 Q) : tOp r ta tb σ H Q := h
theorem at_zero {xs : List V} {v : V} (h : xs[0]? = some v) : atI xs 0 = some v := by
  have hj := (List.getElem?_eq_some_iff.mp h).1
  unfold atI
  rw [ixN_ok (by omega) (by omega)]
  exact h
theorem refs_no {as : List Addr} {a b : Int} : ¬ as.map V.ref = [.int a, .int b] := fun e => by
  cases as with
  | nil => cases e
  | cons x xs => cases (List.cons.inj e).1
theorem lref_at {as : List Addr} {j : Nat} {a : Addr} (h : as[j]? = some a) : atI (as.map V.ref) ((j : Nat) : Int) = some (.ref a) := by
  have hj := (List.getElem?_eq_some_iff.mp h).1
  unfold atI
  rw [ixN_ok (by omega) (by rw [List.length_map]; omega)]
  show (as.map V.ref)[j]? = _
  rw [List.getElem?_map, h]
  rfl

/-! Histories that stay, histories that go on -/
theorem numb_placed {cs : List Col} (p : Placed cs) : numb cs = cs := by
  unfold numb
  refine List.ext_getElem? fun i => ?_
  rw [List.getElem?_mapIdx]
  cases e : cs[i]? with
  | none => rfl
  | some c =>
    have := p i c e
    cases c
    simp only at this
    subst this
    rfl
theorem Cols.keepNL {K : PySem.W.Frag} {H H' : Hp} (s : KeepNL H H') : ∀ {as : List Addr} {cs : List Col}, Cols K H as cs → Cols K H' as cs
  | _, _, .nil => .nil
  | _, _, .cons h t => .cons (by
      obtain ⟨dx, q⟩ := h
      exact ⟨dx, s _ _ (fun _ z => by cases z) q⟩) (t.keepNL s)
theorem Chs.keepNL {K : PySem.W.Frag} {H H' : Hp} (s : KeepNL H H') : ∀ {as : List Addr} {cs : List Ch}, Chs K H as cs → Chs K H' as cs
  | _, _, .nil => .nil
  | _, _, .cons h t => .cons (by
      rcases h with (q | ⟨o, q⟩) | q
      · exact .inl (.inl (s _ _ (fun _ z => by cases z) q))
      · exact .inl (.inr ⟨o, s _ _ (fun _ z => by cases z) q⟩)
      · exact .inr q) (t.keepNL s)
theorem Eds.keepP {K : PySem.W.Frag} {H H' : Hp} {p : Addr} {y0 y1 : Int} (hp : H p = some (.lst [.int y0, .int y1])) (bt : But p H H') : ∀ {es : List Addr} {eds : List (List Col)}, Eds K H es eds → Eds K H' es eds
  | _, _, .nil => .nil
  | _, _, .cons as h c t => .cons as (bt _ _ (fun e => by rw [e, hp] at h; exact refs_no (HO.lst.inj (Option.some.inj h)).symm) h) (c.keepNL (KeepNL.ofBut hp bt)) (t.keepP hp bt)
/-- draws leave a History alone that was made behind the pool -/
theorem HistN.but {K : PySem.W.Frag} {H0 H H' : Hp} {h p : Addr} {cs : List Col} {chs : List Ch} {o : HO} {y0 y1 : Int} (q : HistN K H0 H h cs chs) (h0 : H0 p = some o) (hp : H p = some (.lst [.int y0, .int y1])) (bt : But p H H') : HistN K H0 H' h cs chs := by
  obtain ⟨dx, e, c, b, d, es, ts, ⟨q1, q2, q3, q4, q5, q6, q7⟩, qb, qd⟩ := q
  have kn := KeepNL.ofBut hp bt
  refine ⟨dx, e, c, b, d, es, ts, ⟨kn _ _ (fun _ z => by cases z) q1, bt _ _ (fun z => ?_) q2, q3.keepP hp bt, bt _ _ (fun z => ?_) q4, q5.keepNL kn, bt _ _ (fun z => ?_) q6, bt _ _ (fun z => ?_) q7⟩, qb, qd⟩
  · rw [z, hp] at q2
    exact refs_no (HO.lst.inj (Option.some.inj q2)).symm
  · rw [z, hp] at q4
    exact refs_no (HO.lst.inj (Option.some.inj q4)).symm
  · rw [z, h0] at qb
    cases qb
  · rw [z, h0] at qd
    cases qd
theorem Chs.keepT {K : PySem.W.Frag} {H H' : Hp} (s : KeepT H H') : ∀ {as : List Addr} {cs : List Ch}, Chs K H as cs → Chs K H' as cs
  | _, _, .nil => .nil
  | _, _, .cons h t => .cons (sqT_keepT s h) (t.keepT s)
theorem Chs.app {K : PySem.W.Frag} {H : Hp} : ∀ {as bs : List Addr} {cs ds : List Ch}, Chs K H as cs → Chs K H bs ds → Chs K H (as ++ bs) (cs ++ ds)
  | _, _, _, _, .nil, h => h
  | _, _, _, _, .cons h t, q => .cons h (t.app q)
theorem edsTo_app {cs : List Col} {chs : List Ch} {ch : Ch} : edsTo cs (chs ++ [ch]) ((chs ++ [ch]).length + 1) = edsTo cs chs (chs.length + 1) ++ [behind (atC cs chs).1 ch (atC cs chs).2] := by
  have e : (chs ++ [ch]).length = chs.length + 1 := by rw [List.length_append]; rfl
  rw [e, edsTo_succ]
  refine congr (congrArg _ ?_) ?_
  · unfold edsTo
    refine List.map_congr_left fun i hi => ?_
    rw [List.mem_range] at hi
    rw [List.take_append_of_le_length (by omega)]
  · rw [List.take_of_length_le (by omega)]
    show [(List.foldl stepC (cs, (cs.length : Int)) (chs ++ [ch])).1] = _
    rw [List.foldl_append]
    rfl
theorem atC_app {cs : List Col} {chs : List Ch} {ch : Ch} : (atC cs (chs ++ [ch])).2 = numThen ch (atC cs chs).2 := by
  show (List.foldl stepC (cs, (cs.length : Int)) (chs ++ [ch])).2 = _
  rw [List.foldl_append]
  rfl
theorem Fits.app {cs : List Col} {chs : List Ch} {ch : Ch} (f : Fits cs chs) (h1 : ch.fits = true) (h2 : hindV (atC cs chs).1 ch = .non) : Fits cs (chs ++ [ch]) := by
  intro i c hc
  by_cases hi : i < chs.length
  · rw [List.getElem?_append_left hi] at hc
    rw [List.take_append_of_le_length (by omega)]
    exact f i c hc
  · have e : i = chs.length := by
      have := (List.getElem?_eq_some_iff.mp hc).1
      rw [List.length_append] at this
      have q : [ch].length = 1 := rfl
      omega
    subst e
    rw [List.getElem?_append_right (Nat.le_refl _), Nat.sub_self] at hc
    obtain rfl := Option.some.inj hc
    rw [List.take_append_of_le_length (Nat.le_refl _), List.take_length]
    exact ⟨h1, h2⟩
def Asc (cs : List Col) : Prop := (cs.map (·.num)).Pairwise (· < ·)
theorem sorted_eq : ∀ {xs ys : List Int}, ys.Perm xs → ys.Pairwise (· ≤ ·) → xs.Pairwise (· < ·) → ys = xs
  | [], ys, p, _, _ => p.eq_nil
  | x :: xs, [], p, _, _ => by have := p.length_eq; simp at this
  | x :: xs, y :: ys, p, s, a => by
    rw [List.pairwise_cons] at s a
    have h1 : y ∈ x :: xs := p.mem_iff.mp List.mem_cons_self
    have h2 : x ∈ y :: ys := p.mem_iff.mpr List.mem_cons_self
    have l1 : y ≤ x := by
      rcases List.mem_cons.mp h2 with e | h
      · omega
      · exact s.1 x h
    have l2 : x ≤ y := by
      rcases List.mem_cons.mp h1 with e | h
      · omega
      · have := a.1 y h
        omega
    obtain rfl : y = x := by omega
    rw [sorted_eq p.cons_inv s.2 a.2]
theorem asc_first {cs : List Col} (p : Placed cs) : Asc cs := by
  unfold Asc
  rw [List.pairwise_map, List.pairwise_iff_getElem]
  intro i j hi hj hij
  have h1 := p i cs[i] (List.getElem?_eq_getElem hi)
  have h2 := p j cs[j] (List.getElem?_eq_getElem hj)
  omega
theorem asc_map {cs : List Col} {f : Col → Col} (a : Asc cs) (h : ∀ c ∈ cs, (f c).num = c.num) : Asc (cs.map f) := by
  have e : (cs.map f).map (·.num) = cs.map (·.num) := by
    rw [List.map_map]
    exact List.map_congr_left h
  unfold Asc
  rw [e]
  exact a
theorem asc_step {cs : List Col} {n : Int} {ch : Ch} (g : Good cs n) (a : Asc cs) : Asc (behind cs ch n) := by
  have hc : ∀ c : Col, (chgC c ch).num = c.num := fun c => by cases ch <;> rfl
  have hm : ∀ c ∈ cs, (if c.name = ch.name then chgC c ch else c).num = c.num := fun c _ => by
    split
    · exact hc c
    · rfl
  cases ch with
  | add nm gr d =>
    have a' : (cs.map (·.num)).Pairwise (· < ·) := a
    show ((cs ++ [(⟨nm, gr, d, n⟩ : Col)]).map (·.num)).Pairwise (· < ·)
    rw [List.map_append, List.pairwise_append]
    refine ⟨a', by simp, fun x hx y hy => ?_⟩
    obtain ⟨c, hc1, rfl⟩ := List.mem_map.mp hx
    rw [List.map_cons, List.map_nil, List.mem_singleton] at hy
    rw [hy]
    exact (g.ok c hc1).2
  | drop nm =>
    have a' : (cs.map (·.num)).Pairwise (· < ·) := a
    exact a'.sublist (List.filter_sublist.map _)
  | rename _ _ => exact asc_map a hm
  | dflt _ _ => exact asc_map a hm
  | great _ _ _ => exact asc_map a hm
  | fill _ _ => exact asc_map a hm
theorem asc_at {cs : List Col} {chs : List Ch} (o : HistOk cs chs) : ∀ i, i ≤ chs.length → Asc (atC cs (chs.take i)).1
  | 0, _ => asc_first o.pl
  | i + 1, h => by
    have e : chs[i]? = some chs[i] := List.getElem?_eq_getElem (by omega)
    rw [atC_snoc e]
    exact asc_step (o.f.good o.g i (by omega)) (asc_at o i (by omega))
theorem atC_le {cs : List Col} {chs : List Ch} : ∀ i, i ≤ chs.length → (atC cs (chs.take i)).2 ≤ (cs.length : Int) + i
  | 0, _ => by show (cs.length : Int) ≤ _; omega
  | i + 1, h => by
    have e : chs[i]? = some chs[i] := List.getElem?_eq_getElem (by omega)
    have ih := atC_le (cs := cs) (chs := chs) i (by omega)
    rw [atC_snoc e]
    show numThen chs[i] (atC cs (chs.take i)).2 ≤ _
    by_cases k : chs[i].kind = "add"
    · rw [kind_add k]
      omega
    · rw [kind_noadd k]
      omega

/-! numbers that ascend are unlike -/
theorem asc_lt {cm : List Col} (a : Asc cm) {i j : Nat} {c d : Col} (hi : cm[i]? = some c) (hj : cm[j]? = some d) (h : i < j) : c.num < d.num := by
  unfold Asc at a
  rw [List.pairwise_iff_getElem] at a
  obtain ⟨li, e1⟩ := List.getElem?_eq_some_iff.mp hi
  obtain ⟨lj, e2⟩ := List.getElem?_eq_some_iff.mp hj
  have := a i j (by rw [List.length_map]; exact li) (by rw [List.length_map]; exact lj) h
  rw [List.getElem_map, List.getElem_map, e1, e2] at this
  exact this
theorem asc_uniq {cm : List Col} (a : Asc cm) {i j : Nat} {c d : Col} (hi : cm[i]? = some c) (hj : cm[j]? = some d) (h : c.num = d.num) : i = j := by
  rcases Nat.lt_trichotomy i j with q | q | q
  · have := asc_lt a hi hj q
    omega
  · exact q
  · have := asc_lt a hj hi q
    omega

/-! rows of the columns -/
theorem any_no {κ : Type} [DecidableEq κ] {acc : List (κ × V)} {k : κ} (h : k ∉ acc.map (·.1)) : (acc.any fun kv => decide (kv.1 = k)) = false := by
  rw [Bool.eq_false_iff]
  intro q
  rw [List.any_eq_true] at q
  obtain ⟨kv, hm, e⟩ := q
  exact h (List.mem_map.mpr ⟨kv, hm, of_decide_eq_true e⟩)
theorem merge_new : ∀ (kvs acc : List (Key × V)), ((acc ++ kvs).map (·.1)).Nodup → mergeK acc kvs = acc ++ kvs
  | [], acc, _ => by rw [List.append_nil]; rfl
  | kv :: kvs, acc, nd => by
    have h1 : kv.1 ∉ acc.map (·.1) := fun hm => by
      rw [List.map_append, List.nodup_append] at nd
      exact nd.2.2 _ hm _ (List.mem_map.mpr ⟨kv, List.mem_cons_self, rfl⟩) rfl
    have e : putK acc kv.1 kv.2 = acc ++ [kv] := by
      unfold putK
      rw [any_no h1, if_neg (by decide)]
    show mergeK (putK acc kv.1 kv.2) kvs = _
    rw [e, merge_new kvs (acc ++ [kv]) (by rw [List.append_assoc]; exact nd), List.append_assoc]
    rfl
theorem paired_of {R : Addr → Key × V → Prop} : ∀ {ts : List Addr} {kvs : List (Key × V)}, ts.length = kvs.length → (∀ (j : Nat) t kv, ts[j]? = some t → kvs[j]? = some kv → R t kv) → Paired R ts kvs
  | [], [], _, _ => .nil
  | [], _ :: _, h, _ => by cases h
  | _ :: _, [], h, _ => by cases h
  | t :: ts, kv :: kvs, h, f => .cons (f 0 t kv rfl rfl) (paired_of (Nat.succ.inj h) fun j t' kv' h1 h2 => f (j + 1) t' kv' (by simpa using h1) (by simpa using h2))
/-- a law's row of the columns cs -/
def RowD (cs : List Col) (kvs : List (Key × V)) : Prop := kvs.length = cs.length ∧ ∀ (j : Nat) (c : Col), cs[j]? = some c → ∃ v, kvs[j]? = some (Sum.inr c.name, v) ∧ isIn c.top v = true
theorem RowD.keys {cs : List Col} {kvs : List (Key × V)} (r : RowD cs kvs) : kvs.map (·.1) = (cs.map (·.name)).map Sum.inr := by
  refine List.ext_getElem? fun j => ?_
  rw [List.getElem?_map, List.getElem?_map, List.getElem?_map]
  cases e : cs[j]? with
  | none =>
    have : kvs[j]? = none := List.getElem?_eq_none (by have := List.getElem?_eq_none_iff.mp e; rw [r.1]; exact this)
    rw [this]
    rfl
  | some c =>
    obtain ⟨v, h1, _⟩ := r.2 j c e
    rw [h1]
    rfl
theorem nodup_inr {ns : List Str} (h : ns.Nodup) : (ns.map (Sum.inr : Str → Key)).Nodup := by
  unfold List.Nodup at *
  rw [List.pairwise_map]
  exact h.imp fun e q => e (Sum.inr.inj q)
theorem valV_at {k : Key} {v : V} : ∀ {kvs : List (Key × V)} {j : Nat}, (kvs.map (·.1)).Nodup → kvs[j]? = some (k, v) → valV kvs k = some v
  | [], _, _, h => by simp at h
  | kv :: kvs, 0, _, h => by
    obtain rfl : kv = (k, v) := by simpa using h
    exact valV_pos rfl
  | kv :: kvs, j + 1, nd, h => by
    rw [List.map_cons, List.nodup_cons] at nd
    have h' : kvs[j]? = some (k, v) := by simpa using h
    rw [valV_neg (fun e => nd.1 (List.mem_map.mpr ⟨(k, v), List.mem_of_getElem? h', e.symm⟩))]
    exact valV_at nd.2 h'

/-! the row behind a change, as data -/
/-! changed_row, of a row of the columns and a change that can be done to them -/
/-- what a column gives to the row behind -/
def stepR (ch : Ch) (c : Col) (v : V) (acc : List (Key × V)) : List (Key × V) := match ch with
  | .drop n => if c.name = n then acc else putK acc (Sum.inr c.name) v
  | .rename n m => if c.name = n then putK acc (Sum.inr m) v else putK acc (Sum.inr c.name) v
  | _ => putK acc (Sum.inr c.name) v
/-- the row behind, column by column; none where a value is barred -/
def rowGo (ch : Ch) : List Col → List V → List (Key × V) → Option (List (Key × V))
  | c :: cs, v :: vs, acc => if isMis (chgV c.name ch v) = true then none else rowGo ch cs vs (stepR ch c (chgV c.name ch v) acc)
  | _, _, acc => some acc
def endR (ch : Ch) (acc : List (Key × V)) : List (Key × V) := match ch with
  | .add n _ d => putK acc (Sum.inr n) d
  | _ => acc
def rowThen (cs : List Col) (ch : Ch) (kvs : List (Key × V)) : Option (List (Key × V)) := (rowGo ch cs (kvs.map (·.2)) []).map (endR ch)
/-! the row behind is a row of the columns behind -/
inductive RowP : List Col → List (Key × V) → Prop
  | nil : RowP [] []
  | cons {c : Col} {cs : List Col} {v : V} {kvs : List (Key × V)} : isIn c.top v = true → RowP cs kvs → RowP (c :: cs) ((Sum.inr c.name, v) :: kvs)
theorem RowP.of : ∀ {cs : List Col} {kvs : List (Key × V)}, RowD cs kvs → RowP cs kvs
  | [], [], _ => .nil
  | [], _ :: _, r => by cases r.1
  | _ :: _, [], r => by cases r.1
  | c :: cs, kv :: kvs, r => by
    obtain ⟨v, h1, h2⟩ := r.2 0 c rfl
    obtain rfl : kv = (Sum.inr c.name, v) := Option.some.inj h1
    exact .cons h2 (RowP.of ⟨Nat.succ.inj r.1, fun j c' hc => by
      obtain ⟨v', h3, h4⟩ := r.2 (j + 1) c' (by simpa using hc)
      exact ⟨v', by simpa using h3, h4⟩⟩)
theorem RowP.row : ∀ {cs : List Col} {kvs : List (Key × V)}, RowP cs kvs → RowD cs kvs
  | _, _, .nil => ⟨rfl, fun j c h => by simp at h⟩
  | _, _, .cons (v := v) h t => by
    have ih := t.row
    refine ⟨congrArg Nat.succ ih.1, fun j c' hc => ?_⟩
    cases j with
    | zero =>
      obtain rfl := Option.some.inj hc
      exact ⟨v, rfl, h⟩
    | succ j =>
      obtain ⟨v', h1, h2⟩ := ih.2 j c' (by simpa using hc)
      exact ⟨v', by simpa using h1, h2⟩
theorem RowP.app : ∀ {cs ds : List Col} {kvs lvs : List (Key × V)}, RowP cs kvs → RowP ds lvs → RowP (cs ++ ds) (kvs ++ lvs)
  | _, _, _, _, .nil, h => h
  | _, _, _, _, .cons h t, q => .cons h (t.app q)
/-- what becomes of one column -/
def colR (ch : Ch) (c : Col) : List Col := match ch with
  | .add _ _ _ => [c]
  | .drop n => if c.name = n then [] else [c]
  | ch => [if c.name = ch.name then chgC c ch else c]
def newR (ch : Ch) (num : Int) : List Col := match ch with
  | .add n g d => [⟨n, g, d, num⟩]
  | _ => []
theorem flat_one {f : Col → Col} : ∀ cs : List Col, cs.flatMap (fun c => [f c]) = cs.map f
  | [] => rfl
  | c :: cs => by rw [List.flatMap_cons, flat_one cs]; rfl
theorem flat_drop {n : Str} : ∀ cs : List Col, cs.flatMap (fun c => if c.name = n then [] else [c]) = cs.filter (fun c => !decide (c.name = n))
  | [] => rfl
  | c :: cs => by
    rw [List.flatMap_cons, flat_drop cs, List.filter_cons]
    by_cases h : c.name = n
    · rw [if_pos h, if_neg (by rw [decide_eq_true h]; decide)]
      rfl
    · rw [if_neg h, if_pos (by rw [decide_eq_false h]; rfl)]
      rfl
theorem behind_flat (cs : List Col) (ch : Ch) (num : Int) : behind cs ch num = cs.flatMap (colR ch) ++ newR ch num := by
  cases ch with
  | add n g d =>
    show cs ++ _ = cs.flatMap (fun c => [c]) ++ _
    rw [flat_one (f := fun c => c), List.map_id']
    rfl
  | drop n =>
    show cs.filter _ = cs.flatMap (fun c => if c.name = n then [] else [c]) ++ []
    rw [flat_drop, List.append_nil]
  | rename n m => exact (by show cs.map _ = cs.flatMap (fun c => [_]) ++ []; rw [flat_one, List.append_nil])
  | dflt n v => exact (by show cs.map _ = cs.flatMap (fun c => [_]) ++ []; rw [flat_one, List.append_nil])
  | great n g way => exact (by show cs.map _ = cs.flatMap (fun c => [_]) ++ []; rw [flat_one, List.append_nil])
  | fill n i => exact (by show cs.map _ = cs.flatMap (fun c => [_]) ++ []; rw [flat_one, List.append_nil])
def giveR (ch : Ch) (c : Col) (w : V) : List (Key × V) := (colR ch c).map fun c' => (Sum.inr c'.name, w)
theorem step_give (ch : Ch) (c : Col) (w : V) (acc : List (Key × V)) : stepR ch c w acc = mergeK acc (giveR ch c w) := by
  cases ch with
  | add n g d => rfl
  | drop n =>
    show (if c.name = n then acc else putK acc (Sum.inr c.name) w) = mergeK acc ((if c.name = n then [] else [c]).map _)
    by_cases h : c.name = n
    · rw [if_pos h, if_pos h]
      rfl
    · rw [if_neg h, if_neg h]
      rfl
  | rename n m =>
    show (if c.name = n then putK acc (Sum.inr m) w else putK acc (Sum.inr c.name) w) = mergeK acc ([if c.name = n then ({ c with name := m } : Col) else c].map _)
    by_cases h : c.name = n
    · rw [if_pos h, if_pos h]
      rfl
    · rw [if_neg h, if_neg h]
      rfl
  | dflt n v =>
    show putK acc (Sum.inr c.name) w = mergeK acc ([if c.name = n then chgC c (.dflt n v) else c].map _)
    by_cases h : c.name = n
    · rw [if_pos h]
      rfl
    · rw [if_neg h]
      rfl
  | great n g way =>
    show putK acc (Sum.inr c.name) w = mergeK acc ([if c.name = n then chgC c (.great n g way) else c].map _)
    by_cases h : c.name = n
    · rw [if_pos h]
      rfl
    · rw [if_neg h]
      rfl
  | fill n i =>
    show putK acc (Sum.inr c.name) w = mergeK acc ([if c.name = n then chgC c (.fill n i) else c].map _)
    by_cases h : c.name = n
    · rw [if_pos h]
      rfl
    · rw [if_neg h]
      rfl
theorem give_row {ch : Ch} {c : Col} {w : V} : ∀ {ds : List Col}, (∀ c' ∈ ds, isIn c'.top w = true) → RowP ds (ds.map fun c' => (Sum.inr c'.name, w))
  | [], _ => .nil
  | d :: ds, h => .cons (h d List.mem_cons_self) (give_row (ch := ch) (c := c) fun c' hc => h c' (List.mem_cons_of_mem _ hc))
theorem go_row {ch : Ch} : ∀ {cs : List Col} {kvs : List (Key × V)}, RowP cs kvs → (∀ c ∈ cs, ∀ v, isIn c.top v = true → isMis (chgV c.name ch v) = false → ∀ c' ∈ colR ch c, isIn c'.top (chgV c.name ch v) = true) →
    ∀ acc acc', rowGo ch cs (kvs.map (·.2)) acc = some acc' → ∃ more, RowP (cs.flatMap (colR ch)) more ∧ acc' = mergeK acc more
  | _, _, .nil, _, acc, acc', h => ⟨[], .nil, (Option.some.inj h).symm⟩
  | _, _, .cons (c := c) (cs := cs) (v := v) (kvs := kvs) hv t, k, acc, acc', h => by
    have h : (if isMis (chgV c.name ch v) = true then none else rowGo ch cs (kvs.map (·.2)) (stepR ch c (chgV c.name ch v) acc)) = some acc' := h
    cases hm : isMis (chgV c.name ch v) with
    | true =>
      rw [hm, if_pos rfl] at h
      cases h
    | false =>
      rw [hm, if_neg (by decide)] at h
      obtain ⟨more, h1, h2⟩ := go_row t (fun c' hc => k c' (List.mem_cons_of_mem _ hc)) _ _ h
      refine ⟨giveR ch c (chgV c.name ch v) ++ more, ?_, ?_⟩
      · rw [List.flatMap_cons]
        exact (give_row (ch := ch) (c := c) (k c List.mem_cons_self v hv hm)).app h1
      · rw [h2, step_give]
        show List.foldl _ (List.foldl _ acc _) more = List.foldl _ acc _
        rw [List.foldl_append]
theorem chg_in {cs : List Col} {ch : Ch} {c : Col} {v : V} (nms : (cs.map (·.name)).Nodup) (f : ch.fits = true) (hz : hindV cs ch = .non) (hc : c ∈ cs) (h : isIn c.top v = true) (m : isMis (chgV c.name ch v) = false) : ∀ c' ∈ colR ch c, isIn c'.top (chgV c.name ch v) = true := by
  have whole : ∀ {j g : Int}, isIn g (.int j) = true ↔ 0 ≤ j ∧ j ≤ g := fun {j g} => by
    show (decide (0 ≤ j) && decide (j ≤ g)) = true ↔ _
    rw [Bool.and_eq_true, decide_eq_true_iff, decide_eq_true_iff]
  intro c' hc'
  by_cases hn : c.name = ch.name
  · have hfind : cs.find? (isN ch.name) = some c := find_uniq nms hc hn
    unfold chgV at m ⊢
    rw [if_pos hn.symm] at m ⊢
    cases ch with
    | add n g d =>
      rw [List.mem_singleton.mp hc']
      exact h
    | drop n =>
      have : c' ∈ (if c.name = n then [] else [c]) := hc'
      rw [if_pos (show c.name = n from hn)] at this
      cases this
    | rename n k =>
      have e : c' = (if c.name = (Ch.rename n k).name then chgC c (.rename n k) else c) := List.mem_singleton.mp hc'
      rw [if_pos hn] at e
      rw [e]
      exact h
    | dflt n x =>
      have e : c' = (if c.name = (Ch.dflt n x).name then chgC c (.dflt n x) else c) := List.mem_singleton.mp hc'
      rw [if_pos hn] at e
      rw [e]
      exact h
    | great n g way =>
      have e : c' = (if c.name = (Ch.great n g way).name then chgC c (.great n g way) else c) := List.mem_singleton.mp hc'
      rw [if_pos hn] at e
      rw [e]
      have f : (isNm (.str n) && (isGr (.int g) && isWy way)) = true := f
      rw [Bool.and_eq_true, Bool.and_eq_true] at f
      have hg : 1 ≤ g := of_decide_eq_true (Bool.and_eq_true_iff.mp f.2.1).1
      show isIn g _ = true
      cases v with
      | non => rfl
      | int j =>
        have hj := whole.mp h
        have m : isMis (if g < j then abv g way else .int j) = false := m
        show isIn g (if g < j then abv g way else .int j) = true
        by_cases q : g < j
        · rw [if_pos q] at m ⊢
          unfold abv at m ⊢
          split
          · exact whole.mpr ⟨by omega, Int.le_refl _⟩
          · rename_i q1
            rw [if_neg q1] at m
            split
            · rfl
            · rename_i q2
              rw [if_neg q2] at m
              exact absurd m (by decide +kernel)
        · rw [if_neg q]
          exact whole.mpr ⟨hj.1, by omega⟩
      | _ => cases h
    | fill n i =>
      have e : c' = (if c.name = (Ch.fill n i).name then chgC c (.fill n i) else c) := List.mem_singleton.mp hc'
      rw [if_pos hn] at e
      rw [e]
      have hf : cs.find? (isN n) = some c := hfind
      have hz : hindV cs (.fill n i) = .non := hz
      simp only [hindV, hf] at hz
      show isIn c.top _ = true
      cases v with
      | non =>
        show isIn c.top (.int i) = true
        by_cases q : isIn c.top (.int i) = true
        · exact q
        · rw [if_neg q] at hz
          cases hz
      | int j => exact h
      | _ => cases h
  · unfold chgV
    rw [if_neg (fun e => hn e.symm)]
    have e : c' = c := by
      cases ch with
      | add n g d => exact List.mem_singleton.mp hc'
      | drop n =>
        have : c' ∈ (if c.name = n then [] else [c]) := hc'
        rw [if_neg (show ¬ c.name = n from hn)] at this
        exact List.mem_singleton.mp this
      | rename n k =>
        have e : c' = (if c.name = (Ch.rename n k).name then chgC c (.rename n k) else c) := List.mem_singleton.mp hc'
        rw [if_neg hn] at e
        exact e
      | dflt n x =>
        have e : c' = (if c.name = (Ch.dflt n x).name then chgC c (.dflt n x) else c) := List.mem_singleton.mp hc'
        rw [if_neg hn] at e
        exact e
      | great n g way =>
        have e : c' = (if c.name = (Ch.great n g way).name then chgC c (.great n g way) else c) := List.mem_singleton.mp hc'
        rw [if_neg hn] at e
        exact e
      | fill n i =>
        have e : c' = (if c.name = (Ch.fill n i).name then chgC c (.fill n i) else c) := List.mem_singleton.mp hc'
        rw [if_neg hn] at e
        exact e
    rw [e]
    exact h
def lastR (ch : Ch) : List (Key × V) := match ch with
  | .add n _ d => [(Sum.inr n, d)]
  | _ => []
/-- a row that a change does not bar is a row of the columns behind -/
theorem rowThen_row {cs : List Col} {ch : Ch} {num : Int} {kvs kvs' : List (Key × V)} (g : Good cs num) (f : ch.fits = true) (hz : hindV cs ch = .non) (r : RowD cs kvs) (h : rowThen cs ch kvs = some kvs') : RowD (behind cs ch num) kvs' := by
  unfold rowThen at h
  cases e : rowGo ch cs (kvs.map (·.2)) [] with
  | none =>
    rw [e] at h
    cases h
  | some acc =>
    rw [e] at h
    obtain rfl := Option.some.inj h
    obtain ⟨more, h1, rfl⟩ := go_row (RowP.of r) (fun c hc v hv hm => chg_in g.names f hz hc hv hm) [] acc e
    have h2 : RowP (behind cs ch num) (more ++ lastR ch) := by
      rw [behind_flat]
      refine h1.app ?_
      cases ch with
      | add n gr d =>
        refine .cons ?_ .nil
        have hz : addHind cs n gr d = .non := hz
        unfold addHind at hz
        split at hz
        · cases hz
        · split at hz
          · cases hz
          · split at hz
            · assumption
            · cases hz
      | _ => exact .nil
    have e2 : endR ch (mergeK [] more) = mergeK [] (more ++ lastR ch) := by
      cases ch with
      | add n gr d =>
        show putK (mergeK [] more) (Sum.inr n) d = List.foldl _ [] (more ++ [(Sum.inr n, d)])
        rw [List.foldl_append]
        rfl
      | _ => exact (by show mergeK [] more = mergeK [] (more ++ []); rw [List.append_nil])
    show RowD _ (endR ch (mergeK [] more))
    rw [e2]
    have e3 := merge_new (more ++ lastR ch) [] (by rw [List.nil_append, h2.row.keys]; exact nodup_inr (g.step f hz).names)
    rw [List.nil_append] at e3
    rw [e3]
    exact h2.row
theorem ty_chg {K : PySem.W.Frag} {n : Str} {ch : Ch} {v : V} (h : valOk v = true) : ∃ t, ∀ H : Hp, TyX K H (chgV n ch v) (.type t) := by
  have hs := chg_scal (n := n) (c := ch) h
  cases e : chgV n ch v with
  | non => exact ⟨_, fun _ => .base .non⟩
  | int i => exact ⟨_, fun _ => .base (.int i)⟩
  | str z => exact ⟨_, fun _ => .base (.str z)⟩
  | bl b => exact ⟨_, fun _ => .base (.bl b)⟩
  | flt x => exact ⟨_, fun _ => .base (.flt x)⟩
  | byt b => exact ⟨_, fun _ => .byt b⟩
  | ref a => rw [e] at hs; cases hs
  | ty t => rw [e] at hs; cases hs
theorem step_len (ch : Ch) (c : Col) (v : V) (acc : List (Key × V)) : (stepR ch c v acc).length ≤ acc.length + 1 := by
  have h : ∀ k : Key, (putK acc k v).length ≤ acc.length + 1 := fun k => by
    unfold putK
    split
    · rw [List.length_map]
      omega
    · rw [List.length_append]
      exact Nat.le_refl _
  unfold stepR
  repeat (first | exact h _ | exact Nat.le_succ _ | split)
theorem go_at {ch : Ch} {cs : List Col} {vs : List V} {i : Nat} {c : Col} {v : V} {acc : List (Key × V)} (hc : cs[i]? = some c) (hv : vs[i]? = some v) : rowGo ch (cs.drop i) (vs.drop i) acc = if isMis (chgV c.name ch v) = true then none else rowGo ch (cs.drop (i + 1)) (vs.drop (i + 1)) (stepR ch c (chgV c.name ch v) acc) := by
  obtain ⟨hi, e1⟩ := List.getElem?_eq_some_iff.mp hc
  obtain ⟨hj, e2⟩ := List.getElem?_eq_some_iff.mp hv
  rw [List.drop_eq_getElem_cons hi, List.drop_eq_getElem_cons hj, e1, e2]
  rfl

/-- values of the columns, by their numbers -/
def FitE (cs : List Col) (es : List (Int × V)) : Prop := es.length = cs.length ∧ ∀ (j : Nat) (c : Col), cs[j]? = some c → ∃ v, es[j]? = some (c.num, v) ∧ isIn c.top v = true

/-! a row followed, as data -/
/-! trail: a stored row, edition by edition -/
/-- what a plain table has that was written so -/
def rowE (cs : List Col) (es : List (Int × V)) : List (Key × V) := cs.mapIdx fun j c => (Sum.inr c.name, match es[j]? with
  | some e => e.2
  | none => V.non)
theorem rowE_len {cs : List Col} {es : List (Int × V)} : (rowE cs es).length = cs.length := List.length_mapIdx
theorem rowE_at {cs : List Col} {es : List (Int × V)} (f : FitE cs es) {j : Nat} {c : Col} (h : cs[j]? = some c) : ∃ v, (rowE cs es)[j]? = some (Sum.inr c.name, v) ∧ es[j]? = some (c.num, v) ∧ isIn c.top v = true := by
  obtain ⟨v, h1, h2⟩ := f.2 j c h
  refine ⟨v, ?_, h1, h2⟩
  unfold rowE
  rw [List.getElem?_mapIdx, h]
  show some (Sum.inr c.name, match es[j]? with | some e => e.2 | none => V.non) = _
  rw [h1]
theorem rowE_row {cs : List Col} {es : List (Int × V)} (f : FitE cs es) : RowD cs (rowE cs es) := ⟨rowE_len, fun j c h => by
  obtain ⟨v, h1, _, h2⟩ := rowE_at f h
  exact ⟨v, h1, h2⟩⟩
/-- the row behind j changes more, if nothing bars it -/
def folTo (cs : List Col) (chs : List Ch) (i : Nat) (kvs : List (Key × V)) : Nat → Option (List (Key × V))
  | 0 => some kvs
  | j + 1 => match folTo cs chs i kvs j, chs[i + j]? with
    | some r, some ch => rowThen (atC cs (chs.take (i + j))).1 ch r
    | _, _ => none
theorem folTo_succ {cs : List Col} {chs : List Ch} {i j : Nat} {kvs r : List (Key × V)} {ch : Ch} (h1 : folTo cs chs i kvs j = some r) (h2 : chs[i + j]? = some ch) : folTo cs chs i kvs (j + 1) = rowThen (atC cs (chs.take (i + j))).1 ch r := by
  show (match folTo cs chs i kvs j, chs[i + j]? with
    | some r, some ch => rowThen (atC cs (chs.take (i + j))).1 ch r
    | _, _ => none) = _
  rw [h1, h2]
theorem folTo_row {cs : List Col} {chs : List Ch} {i : Nat} {kvs : List (Key × V)} (o : HistOk cs chs) (r0 : RowD (atC cs (chs.take i)).1 kvs) : ∀ j, i + j ≤ chs.length → ∀ r, folTo cs chs i kvs j = some r → RowD (atC cs (chs.take (i + j))).1 r
  | 0, _, r, e => by
    obtain rfl := Option.some.inj e
    exact r0
  | j + 1, h, r, e => by
    cases h1 : folTo cs chs i kvs j with
    | none =>
      have : folTo cs chs i kvs (j + 1) = none := by
        show (match folTo cs chs i kvs j, chs[i + j]? with
          | some r, some ch => rowThen (atC cs (chs.take (i + j))).1 ch r
          | _, _ => none) = _
        rw [h1]
      rw [this] at e
      cases e
    | some r1 =>
      have h2 : chs[i + j]? = some chs[i + j] := List.getElem?_eq_getElem (by omega)
      rw [folTo_succ h1 h2] at e
      obtain ⟨ft, hz⟩ := o.f (i + j) _ h2
      have := rowThen_row (o.f.good o.g (i + j) (by omega)) ft hz (folTo_row o r0 j (by omega) r1 h1) e
      rw [show i + (j + 1) = i + j + 1 from rfl, atC_snoc h2]
      exact this
/-- the rows stand at the addresses, one behind the other -/
def Fol (cs : List Col) (chs : List Ch) (i : Nat) (kvs : List (Key × V)) (H : Hp) (ds : List Addr) : Prop := ∀ (t : Nat) (d : Addr), ds[t]? = some d → ∃ r, folTo cs chs i kvs t = some r ∧ H d = some (.dK r)
theorem Fol.keep {cs : List Col} {chs : List Ch} {i : Nat} {kvs : List (Key × V)} {H H' : Hp} {ds : List Addr} (s : Same H H') (f : Fol cs chs i kvs H ds) : Fol cs chs i kvs H' ds := fun t d h => by
  obtain ⟨r, h1, h2⟩ := f t d h
  exact ⟨r, h1, s _ _ h2⟩

/-! rows that are put together of two, number by number -/
/-- the last part of a change -/
def lastV : Ch → V
  | .add _ _ d => d
  | .drop n => .str n
  | .rename _ m => .str m
  | .dflt _ v => v
  | .great _ _ way => .str way
  | .fill _ i => .int i
theorem last_at (ch : Ch) : atI ch.toV (-1) = some (lastV ch) := by cases ch <;> rfl
theorem last_scal {ch : Ch} (f : ch.fits = true) : scal (lastV ch) (.str "refuse") = true := by
  cases ch with
  | add n g d =>
    have h : isVal d = true := (Bool.and_eq_true_iff.mp (Bool.and_eq_true_iff.mp f).2).2
    cases d with
    | non => rfl
    | int _ => rfl
    | _ => cases h
  | dflt n d =>
    have h : isVal d = true := (Bool.and_eq_true_iff.mp f).2
    cases d with
    | non => rfl
    | int _ => rfl
    | _ => cases h
  | _ => rfl
def noRef (ch : Ch) : Bool := !decide (lastV ch = .str "refuse")
theorem noRef_free {ch : Ch} {n : Str} {g : Int} {v : V} (f : ch.fits = true) (nr : noRef ch = true) (h : isIn g v = true) : isMis (chgV n ch v) = false := by
  have hv : isMis v = false := by
    cases v with
    | str _ => cases h
    | _ => rfl
  unfold chgV
  split
  · cases ch with
    | great m g' way =>
      cases v with
      | int j =>
        show isMis (if g' < j then abv g' way else .int j) = false
        split
        · have nr : (!decide (V.str way = .str "refuse")) = true := nr
          have hw : isWy way = true := (Bool.and_eq_true_iff.mp (Bool.and_eq_true_iff.mp f).2).2
          unfold abv
          split
          · rfl
          · split
            · rfl
            · rename_i h1 h2
              exfalso
              unfold isWy at hw
              rw [decide_eq_false h1, decide_eq_false h2, Bool.false_or, Bool.false_or] at hw
              rw [of_decide_eq_true hw, decide_eq_true rfl] at nr
              cases nr
        · rfl
      | non => rfl
      | _ => cases h
    | fill m i =>
      cases v with
      | non => rfl
      | int _ => rfl
      | _ => cases h
    | _ => exact hv
  · exact hv
/-- what the columns give to the row behind -/
def giveL (ch : Ch) : List Col → List V → List (Key × V)
  | c :: cs, v :: vs => giveR ch c (chgV c.name ch v) ++ giveL ch cs vs
  | _, _ => []
theorem go_give {ch : Ch} : ∀ {cs : List Col} {vs : List V} {acc acc' : List (Key × V)}, rowGo ch cs vs acc = some acc' → acc' = mergeK acc (giveL ch cs vs)
  | c :: cs, v :: vs, acc, acc', h => by
    have h : (if isMis (chgV c.name ch v) = true then none else rowGo ch cs vs (stepR ch c (chgV c.name ch v) acc)) = some acc' := h
    cases hm : isMis (chgV c.name ch v) with
    | true =>
      rw [hm, if_pos rfl] at h
      cases h
    | false =>
      rw [hm, if_neg (by decide)] at h
      rw [go_give h, step_give]
      show List.foldl _ (List.foldl _ acc _) _ = List.foldl _ acc (giveR ch c (chgV c.name ch v) ++ giveL ch cs vs)
      rw [List.foldl_append]
  | [], vs, acc, acc', h => by
    have h : some acc = some acc' := by cases vs <;> exact h
    exact (Option.some.inj h).symm
  | _ :: _, [], acc, acc', h => (Option.some.inj (show some acc = some acc' from h)).symm
theorem go_free {ch : Ch} : ∀ {cs : List Col} {vs : List V} {acc : List (Key × V)}, (∀ (i : Nat) c v, cs[i]? = some c → vs[i]? = some v → isMis (chgV c.name ch v) = false) → ∃ acc', rowGo ch cs vs acc = some acc'
  | c :: cs, v :: vs, acc, h => by
    obtain ⟨acc', q⟩ := go_free (ch := ch) (cs := cs) (vs := vs) (acc := stepR ch c (chgV c.name ch v) acc) fun i c' v' h1 h2 => h (i + 1) c' v' (by simpa using h1) (by simpa using h2)
    refine ⟨acc', ?_⟩
    show (if isMis (chgV c.name ch v) = true then none else rowGo ch cs vs (stepR ch c (chgV c.name ch v) acc)) = some acc'
    rw [h 0 c v rfl rfl, if_neg (by decide)]
    exact q
  | [], vs, acc, _ => ⟨acc, by cases vs <;> rfl⟩
  | _ :: _, [], acc, _ => ⟨acc, rfl⟩
theorem give_keys {ch : Ch} : ∀ {cs : List Col} {vs : List V}, vs.length = cs.length → (giveL ch cs vs).map (·.1) = (cs.flatMap (colR ch)).map fun c => (Sum.inr c.name : Key)
  | [], [], _ => rfl
  | [], _ :: _, h => by cases h
  | _ :: _, [], h => by cases h
  | c :: cs, v :: vs, h => by
    show (giveR ch c (chgV c.name ch v) ++ giveL ch cs vs).map (·.1) = _
    rw [List.map_append, give_keys (Nat.succ.inj h), List.flatMap_cons, List.map_append]
    congr 1
    unfold giveR
    rw [List.map_map]
    rfl
theorem rowThen_give {cs : List Col} {ch : Ch} {num : Int} {kvs kvs' : List (Key × V)} (g : Good cs num) (f : ch.fits = true) (hz : hindV cs ch = .non) (r : RowD cs kvs) (h : rowThen cs ch kvs = some kvs') : kvs' = giveL ch cs (kvs.map (·.2)) ++ lastR ch := by
  unfold rowThen at h
  cases e : rowGo ch cs (kvs.map (·.2)) [] with
  | none =>
    rw [e] at h
    cases h
  | some acc =>
    rw [e] at h
    obtain rfl := Option.some.inj h
    have e1 := go_give e
    subst e1
    have e2 : endR ch (mergeK [] (giveL ch cs (kvs.map (·.2)))) = mergeK [] (giveL ch cs (kvs.map (·.2)) ++ lastR ch) := by
      cases ch with
      | add n gr d =>
        show putK (mergeK [] _) (Sum.inr n) d = List.foldl _ [] (_ ++ [(Sum.inr n, d)])
        rw [List.foldl_append]
        rfl
      | _ => exact (by show mergeK [] _ = mergeK [] (_ ++ []); rw [List.append_nil])
    rw [e2]
    have hk : (giveL ch cs (kvs.map (·.2)) ++ lastR ch).map (·.1) = ((behind cs ch num).map (·.name)).map (Sum.inr : Str → Key) := by
      rw [List.map_append, give_keys (by rw [List.length_map, r.1]), behind_flat, List.map_append, List.map_append, List.map_map]
      congr 1
      cases ch <;> rfl
    have e3 := merge_new (giveL ch cs (kvs.map (·.2)) ++ lastR ch) [] (by rw [List.nil_append, hk]; exact nodup_inr (g.step f hz).names)
    rw [List.nil_append] at e3
    exact e3
/-- which of two rows a number is of; none: a number of neither -/
def MixO (pick : Int → Option Bool) (n : Int) (v1 v2 vm : V) : Prop := match pick n with
  | none => v2 = v1 ∧ vm = v1
  | some false => vm = v1
  | some true => vm = v2
theorem MixO.map {pick : Int → Option Bool} {n : Int} {v1 v2 vm : V} (f : V → V) (h : MixO pick n v1 v2 vm) : MixO pick n (f v1) (f v2) (f vm) := by
  unfold MixO at h ⊢
  cases e : pick n with
  | none =>
    rw [e] at h
    exact ⟨congrArg f h.1, congrArg f h.2⟩
  | some b =>
    rw [e] at h
    cases b
    · exact congrArg f h
    · exact congrArg f h
inductive MixV (pick : Int → Option Bool) : List Col → List (Key × V) → List (Key × V) → List (Key × V) → Prop
  | nil : MixV pick [] [] [] []
  | cons {c : Col} {cs : List Col} {r1 r2 rm : List (Key × V)} {v1 v2 vm : V} : MixO pick c.num v1 v2 vm → MixV pick cs r1 r2 rm → MixV pick (c :: cs) ((Sum.inr c.name, v1) :: r1) ((Sum.inr c.name, v2) :: r2) ((Sum.inr c.name, vm) :: rm)
theorem MixV.app {pick : Int → Option Bool} : ∀ {cs ds : List Col} {r1 r2 rm s1 s2 sm : List (Key × V)}, MixV pick cs r1 r2 rm → MixV pick ds s1 s2 sm → MixV pick (cs ++ ds) (r1 ++ s1) (r2 ++ s2) (rm ++ sm)
  | _, _, _, _, _, _, _, _, .nil, h => h
  | _, _, _, _, _, _, _, _, .cons h t, q => .cons h (t.app q)
theorem mix_same {pick : Int → Option Bool} {n : Int} {w1 w2 wm : V} (h : MixO pick n w1 w2 wm) : ∀ {ds : List Col}, (∀ c ∈ ds, c.num = n) → MixV pick ds (ds.map fun c => (Sum.inr c.name, w1)) (ds.map fun c => (Sum.inr c.name, w2)) (ds.map fun c => (Sum.inr c.name, wm))
  | [], _ => .nil
  | d :: ds, k => .cons (by rw [k d List.mem_cons_self]; exact h) (mix_same h fun c hc => k c (List.mem_cons_of_mem _ hc))
theorem colR_num {ch : Ch} {c : Col} : ∀ c' ∈ colR ch c, c'.num = c.num := by
  intro c' h
  have one : ∀ d : Col, d.num = c.num → c' ∈ [d] → c'.num = c.num := fun d e q => by rw [List.mem_singleton.mp q]; exact e
  have hn : ∀ c2 : Ch, (if c.name = c2.name then chgC c c2 else c).num = c.num := fun c2 => by
    split
    · cases c2 <;> rfl
    · rfl
  cases ch with
  | add n g d => exact one c rfl h
  | drop n =>
    have h : c' ∈ (if c.name = n then [] else [c]) := h
    split at h
    · cases h
    · exact one c rfl h
  | rename n m => exact one _ (hn _) h
  | dflt n v => exact one _ (hn _) h
  | great n g way => exact one _ (hn _) h
  | fill n i => exact one _ (hn _) h
theorem mix_give {pick : Int → Option Bool} {ch : Ch} : ∀ {cs : List Col} {r1 r2 rm : List (Key × V)}, MixV pick cs r1 r2 rm → MixV pick (cs.flatMap (colR ch)) (giveL ch cs (r1.map (·.2))) (giveL ch cs (r2.map (·.2))) (giveL ch cs (rm.map (·.2)))
  | _, _, _, _, .nil => .nil
  | _, _, _, _, .cons (c := c) h t => by
    rw [List.flatMap_cons]
    exact (mix_same (h.map (chgV c.name ch)) colR_num).app (mix_give t)
theorem mix_step {pick : Int → Option Bool} {cs : List Col} {ch : Ch} {num : Int} {r1 r2 rm s1 s2 sm : List (Key × V)} (g : Good cs num) (f : ch.fits = true) (hz : hindV cs ch = .non) (d1 : RowD cs r1) (d2 : RowD cs r2) (dm : RowD cs rm) (new : pick num = none) (M : MixV pick cs r1 r2 rm)
    (h1 : rowThen cs ch r1 = some s1) (h2 : rowThen cs ch r2 = some s2) (hm : rowThen cs ch rm = some sm) : MixV pick (behind cs ch num) s1 s2 sm := by
  rw [rowThen_give g f hz d1 h1, rowThen_give g f hz d2 h2, rowThen_give g f hz dm hm, behind_flat]
  refine (mix_give M).app ?_
  cases ch with
  | add n gr d =>
    refine .cons ?_ .nil
    show MixO pick num d d d
    unfold MixO
    rw [new]
    exact ⟨rfl, rfl⟩
  | _ => exact .nil
theorem MixV.at_ {pick : Int → Option Bool} : ∀ {cs : List Col} {r1 r2 rm : List (Key × V)} {j : Nat} {c : Col}, MixV pick cs r1 r2 rm → cs[j]? = some c → ∃ v1 v2 vm, r1[j]? = some (Sum.inr c.name, v1) ∧ r2[j]? = some (Sum.inr c.name, v2) ∧ rm[j]? = some (Sum.inr c.name, vm) ∧ MixO pick c.num v1 v2 vm
  | _, _, _, _, _, _, .nil, h => by simp at h
  | _, _, _, _, 0, c, .cons h t, e => by
    obtain rfl := Option.some.inj e
    exact ⟨_, _, _, rfl, rfl, rfl, h⟩
  | _, _, _, _, j + 1, c, .cons h t, e => by
    obtain ⟨v1, v2, vm, h1, h2, h3, h4⟩ := MixV.at_ (j := j) t (by simpa using e)
    exact ⟨v1, v2, vm, by simpa using h1, by simpa using h2, by simpa using h3, h4⟩
theorem MixV.of {pick : Int → Option Bool} : ∀ {cs : List Col} {r1 r2 rm : List (Key × V)}, r1.length = cs.length → r2.length = cs.length → rm.length = cs.length →
    (∀ (j : Nat) (c : Col), cs[j]? = some c → ∃ v1 v2 vm, r1[j]? = some (Sum.inr c.name, v1) ∧ r2[j]? = some (Sum.inr c.name, v2) ∧ rm[j]? = some (Sum.inr c.name, vm) ∧ MixO pick c.num v1 v2 vm) → MixV pick cs r1 r2 rm
  | [], [], [], [], _, _, _, _ => .nil
  | [], _ :: _, _, _, h, _, _, _ => by cases h
  | [], [], _ :: _, _, _, h, _, _ => by cases h
  | [], [], [], _ :: _, _, _, h, _ => by cases h
  | _ :: _, [], _, _, h, _, _, _ => by cases h
  | _ :: _, _ :: _, [], _, _, h, _, _ => by cases h
  | _ :: _, _ :: _, _ :: _, [], _, _, h, _ => by cases h
  | c :: cs, a :: r1, b :: r2, m :: rm, l1, l2, l3, f => by
    obtain ⟨v1, v2, vm, h1, h2, h3, h4⟩ := f 0 c rfl
    obtain rfl := Option.some.inj h1
    obtain rfl := Option.some.inj h2
    obtain rfl := Option.some.inj h3
    exact .cons h4 (MixV.of (Nat.succ.inj l1) (Nat.succ.inj l2) (Nat.succ.inj l3) fun j c' hc => by
      obtain ⟨w1, w2, wm, k1, k2, k3, k4⟩ := f (j + 1) c' (by simpa using hc)
      exact ⟨w1, w2, wm, by simpa using k1, by simpa using k2, by simpa using k3, k4⟩)
theorem atC_up {cs : List Col} {chs : List Ch} {i : Nat} : ∀ t, i + t ≤ chs.length → (atC cs (chs.take i)).2 ≤ (atC cs (chs.take (i + t))).2
  | 0, _ => Int.le_refl _
  | t + 1, h => by
    have e : chs[i + t]? = some chs[i + t] := List.getElem?_eq_getElem (by omega)
    have ih := atC_up (cs := cs) (chs := chs) (i := i) t (by omega)
    rw [show i + (t + 1) = i + t + 1 from rfl, atC_snoc e]
    show _ ≤ numThen chs[i + t] (atC cs (chs.take (i + t))).2
    by_cases k : chs[i + t].kind = "add"
    · rw [kind_add k]
      omega
    · rw [kind_noadd k]
      exact ih
/-- three rows followed: none is barred, and the third stays put together of the two -/
theorem mix_fol {cs : List Col} {chs : List Ch} {i : Nat} {k1 k2 km : List (Key × V)} {pick : Int → Option Bool} (o : HistOk cs chs) (nr : ∀ ch ∈ chs, noRef ch = true) (d1 : RowD (atC cs (chs.take i)).1 k1) (d2 : RowD (atC cs (chs.take i)).1 k2) (dm : RowD (atC cs (chs.take i)).1 km)
    (M : MixV pick (atC cs (chs.take i)).1 k1 k2 km) (new : ∀ n, (atC cs (chs.take i)).2 ≤ n → pick n = none) : ∀ t, i + t ≤ chs.length → ∃ r1 r2 rm, folTo cs chs i k1 t = some r1 ∧ folTo cs chs i k2 t = some r2 ∧ folTo cs chs i km t = some rm ∧ MixV pick (atC cs (chs.take (i + t))).1 r1 r2 rm
  | 0, _ => ⟨k1, k2, km, rfl, rfl, rfl, M⟩
  | t + 1, h => by
    obtain ⟨r1, r2, rm, e1, e2, em, M'⟩ := mix_fol o nr d1 d2 dm M new t (by omega)
    have hc : chs[i + t]? = some chs[i + t] := List.getElem?_eq_getElem (by omega)
    obtain ⟨ft, hz⟩ := o.f (i + t) _ hc
    have g := o.f.good o.g (i + t) (by omega)
    have q1 := folTo_row o d1 t (by omega) r1 e1
    have q2 := folTo_row o d2 t (by omega) r2 e2
    have qm := folTo_row o dm t (by omega) rm em
    have free : ∀ r, RowD (atC cs (chs.take (i + t))).1 r → ∃ s, rowThen (atC cs (chs.take (i + t))).1 chs[i + t] r = some s := fun r q => by
      obtain ⟨acc, e⟩ := go_free (ch := chs[i + t]) (cs := (atC cs (chs.take (i + t))).1) (vs := r.map (·.2)) (acc := []) fun j c v h1 h2 => by
        obtain ⟨v', h3, h4⟩ := q.2 j c h1
        rw [List.getElem?_map, h3] at h2
        obtain rfl : v' = v := Option.some.inj h2
        exact noRef_free ft (nr _ (List.mem_of_getElem? hc)) h4
      exact ⟨_, by unfold rowThen; rw [e]; rfl⟩
    obtain ⟨s1, f1⟩ := free r1 q1
    obtain ⟨s2, f2⟩ := free r2 q2
    obtain ⟨sm, fm⟩ := free rm qm
    refine ⟨s1, s2, sm, by rw [folTo_succ e1 hc]; exact f1, by rw [folTo_succ e2 hc]; exact f2, by rw [folTo_succ em hc]; exact fm, ?_⟩
    rw [show i + (t + 1) = i + t + 1 from rfl, atC_snoc hc]
    exact mix_step g ft hz q1 q2 qm (new _ (atC_up t (by omega))) M' f1 f2 fm

/-! columns by their numbers, through the editions; what becomes of a value under a number -/
abbrev colsE (cs : List Col) (chs : List Ch) (i : Nat) : List Col := (atC cs (chs.take i)).1
abbrev numE (cs : List Col) (chs : List Ch) (i : Nat) : Int := (atC cs (chs.take i)).2
/-- the column with the number n at an edition -/
abbrev colE (cs : List Col) (chs : List Ch) (i : Nat) (n : Int) : Option Col := (colsE cs chs i).find? (isK n)
theorem findK_mem {cs : List Col} {n : Int} {c : Col} (h : cs.find? (isK n) = some c) : c ∈ cs ∧ c.num = n := by
  have h2 := List.find?_some h
  exact ⟨List.mem_of_find?_eq_some h, of_decide_eq_true (show decide (c.num = n) = true from h2)⟩
theorem findK_none {cs : List Col} {n : Int} (h : cs.find? (isK n) = none) : ∀ c ∈ cs, c.num ≠ n := fun c hc e => by
  have := List.find?_eq_none.mp h c hc
  exact this (decide_eq_true e)
theorem asc_find {cs : List Col} {c : Col} (a : Asc cs) (hc : c ∈ cs) : cs.find? (isK c.num) = some c := by
  cases h : cs.find? (isK c.num) with
  | none => exact absurd rfl (findK_none h c hc)
  | some d =>
    obtain ⟨h1, h2⟩ := findK_mem h
    obtain ⟨i, hi⟩ := List.mem_iff_getElem?.mp hc
    obtain ⟨j, hj⟩ := List.mem_iff_getElem?.mp h1
    obtain rfl := asc_uniq a hj hi h2
    rw [← hj, hi]
theorem mem_behind {cs : List Col} {ch : Ch} {num : Int} {c' : Col} : c' ∈ behind cs ch num ↔ (∃ c ∈ cs, c' ∈ colR ch c) ∨ c' ∈ newR ch num := by
  rw [behind_flat, List.mem_append, List.mem_flatMap]
theorem newR_num {ch : Ch} {num : Int} {c : Col} (h : c ∈ newR ch num) : c.num = num := by
  cases ch with
  | add n g d =>
    rw [List.mem_singleton.mp h]
  | _ => cases h
section
variable {cs : List Col} {chs : List Ch}
theorem colsE_succ {i : Nat} {ch : Ch} (h : chs[i]? = some ch) : colsE cs chs (i + 1) = behind (colsE cs chs i) ch (numE cs chs i) := by
  show (atC cs (chs.take (i + 1))).1 = _
  rw [atC_snoc h]
  rfl
theorem numE_succ {i : Nat} {ch : Ch} (h : chs[i]? = some ch) : numE cs chs (i + 1) = numThen ch (numE cs chs i) := by
  show (atC cs (chs.take (i + 1))).2 = _
  rw [atC_snoc h]
  rfl
theorem numE_mono {i j : Nat} (h : i ≤ j) : numE cs chs i ≤ numE cs chs j := grows h
/-- an elder number there behind a change was there ahead of it -/
theorem there_ahead {i : Nat} {n : Int} {c' : Col} (o : HistOk cs chs) {ch : Ch} (hc : chs[i]? = some ch) (h : colE cs chs (i + 1) n = some c') (hn : n < numE cs chs i) : ∃ c, colE cs chs i n = some c ∧ c' ∈ colR ch c := by
  obtain ⟨h1, h2⟩ := findK_mem h
  have h1 : c' ∈ behind (colsE cs chs i) ch (numE cs chs i) := by rw [← colsE_succ hc]; exact h1
  rcases mem_behind.mp h1 with ⟨c, h3, h4⟩ | h3
  · have e := colR_num c' h4
    refine ⟨c, ?_, h4⟩
    have hil := (List.getElem?_eq_some_iff.mp hc).1
    have := asc_find (asc_at o i (by omega)) h3
    rw [← e, h2] at this
    exact this
  · have := newR_num h3
    omega
theorem gone_on {i : Nat} {n : Int} (o : HistOk cs chs) {ch : Ch} (hc : chs[i]? = some ch) (h : colE cs chs i n = none) (hn : n < numE cs chs i) : colE cs chs (i + 1) n = none := by
  cases e : colE cs chs (i + 1) n with
  | none => rfl
  | some c' =>
    obtain ⟨c, h1, _⟩ := there_ahead o hc e hn
    rw [h] at h1
    cases h1
theorem gone_stays {i : Nat} {n : Int} (o : HistOk cs chs) (h : colE cs chs i n = none) (hn : n < numE cs chs i) : ∀ k, i + k ≤ chs.length → colE cs chs (i + k) n = none
  | 0, _ => h
  | k + 1, hk => by
    have hc : chs[i + k]? = some chs[i + k] := List.getElem?_eq_getElem (by omega)
    exact gone_on o hc (gone_stays o h hn k (by omega)) (Int.lt_of_lt_of_le hn (numE_mono (Nat.le_add_right i k)))
/-- one step of a value under a number -/
def stepN (cl : List Col) (ch : Ch) (n : Int) (v : V) : V := if isMis v = true then v else match cl.find? (isK n) with
  | some c => chgV c.name ch v
  | none => v
/-- what a value under a number becomes by the changes behind an edition, so many of them; MISSING where it is barred -/
def ledT (cs : List Col) (chs : List Ch) (n : Int) (s : Nat) (v : V) : Nat → V
  | 0 => v
  | k + 1 => match chs[s + k]? with
    | some ch => stepN (colsE cs chs (s + k)) ch n (ledT cs chs n s v k)
    | none => ledT cs chs n s v k
theorem ledT_succ {n : Int} {s k : Nat} {v : V} {ch : Ch} (h : chs[s + k]? = some ch) : ledT cs chs n s v (k + 1) = stepN (colsE cs chs (s + k)) ch n (ledT cs chs n s v k) := by
  show (match chs[s + k]? with
    | some ch => stepN (colsE cs chs (s + k)) ch n (ledT cs chs n s v k)
    | none => ledT cs chs n s v k) = _
  rw [h]
theorem stepN_mis {cl : List Col} {ch : Ch} {n : Int} {v : V} (h : isMis v = true) : stepN cl ch n v = v := if_pos h
theorem ledT_mis {n : Int} {s k : Nat} {v : V} (h : isMis (ledT cs chs n s v k) = true) : ∀ j, ledT cs chs n s v (k + j) = ledT cs chs n s v k
  | 0 => rfl
  | j + 1 => by
    show (match chs[s + (k + j)]? with
      | some ch => stepN (colsE cs chs (s + (k + j))) ch n (ledT cs chs n s v (k + j))
      | none => ledT cs chs n s v (k + j)) = _
    rw [ledT_mis h j]
    split
    · exact stepN_mis h
    · rfl
theorem ledT_gone {n : Int} {s k : Nat} {v : V} (o : HistOk cs chs) (h : colE cs chs (s + k) n = none) (hn : n < numE cs chs (s + k)) : ∀ j, s + k + j ≤ chs.length → ledT cs chs n s v (k + j) = ledT cs chs n s v k
  | 0, _ => rfl
  | j + 1, hj => by
    have hc : chs[s + (k + j)]? = some chs[s + (k + j)] := List.getElem?_eq_getElem (by omega)
    rw [show k + (j + 1) = (k + j) + 1 from rfl, ledT_succ hc, ledT_gone o h hn j (by omega)]
    have g := gone_stays o h hn j (by omega)
    rw [Nat.add_assoc] at g
    unfold stepN
    split
    · rfl
    · have g : (colsE cs chs (s + (k + j))).find? (isK n) = none := g
      rw [g]
theorem chg_val {n : Str} {ch : Ch} {v : V} (f : ch.fits = true) (h : isVal v = true) (hm : isMis (chgV n ch v) = false) : isVal (chgV n ch v) = true := by
  unfold chgV at hm ⊢
  split at hm
  · rename_i hn
    rw [if_pos hn]
    cases ch with
    | fill m i =>
      have f : (isNm (.str m) && decide (0 ≤ i)) = true := f
      cases v with
      | non => exact (Bool.and_eq_true_iff.mp f).2
      | _ => exact h
    | great m g way =>
      cases v with
      | int j =>
        have f : (isNm (.str m) && (isGr (.int g) && isWy way)) = true := f
        have hg := (Bool.and_eq_true_iff.mp (Bool.and_eq_true_iff.mp f).2).1
        have hg : (decide (1 ≤ g) && decide (g ≤ 99)) = true := hg
        have hg1 := of_decide_eq_true (Bool.and_eq_true_iff.mp hg).1
        show isVal (if g < j then abv g way else .int j) = true
        have hm : isMis (if g < j then abv g way else .int j) = false := hm
        split at hm
        · rename_i hj
          rw [if_pos hj]
          unfold abv at hm ⊢
          split at hm
          · rename_i hw
            rw [if_pos hw]
            exact decide_eq_true (by omega)
          · rename_i hw
            rw [if_neg hw]
            split at hm
            · rename_i hw2
              rw [if_pos hw2]
              rfl
            · rename_i hw2
              exact absurd hm (by decide)
        · rename_i hj
          rw [if_neg hj]
          exact h
      | _ => exact h
    | _ => exact h
  · rename_i hn
    rw [if_neg hn]
    exact h
theorem isVal_mis {v : V} (h : isVal v = true) : isMis v = false := by
  cases v with
  | str _ => cases h
  | _ => rfl
theorem isVal_ok {v : V} (h : isVal v = true) : valOk v = true := by
  cases v with
  | non => rfl
  | int _ => rfl
  | _ => cases h
theorem isVal_in {t : Int} {v : V} (h : isIn t v = true) : isVal v = true := by
  cases v with
  | non => rfl
  | int i => exact (Bool.and_eq_true_iff.mp (show (decide (0 ≤ i) && decide (i ≤ t)) = true from h)).1
  | _ => cases h
theorem stepN_val {cl : List Col} {ch : Ch} {n : Int} {v : V} (f : ch.fits = true) (h : isVal v = true) (hm : isMis (stepN cl ch n v) = false) : isVal (stepN cl ch n v) = true := by
  unfold stepN at hm ⊢
  rw [if_neg (by rw [isVal_mis h]; decide)] at hm ⊢
  cases e : cl.find? (isK n) with
  | none => exact h
  | some c =>
    rw [e] at hm
    exact chg_val f h hm
theorem ledT_mono {n : Int} {s k : Nat} {v : V} (h : isMis (ledT cs chs n s v (k + 1)) = false) : isMis (ledT cs chs n s v k) = false := by
  cases e : isMis (ledT cs chs n s v k) with
  | false => rfl
  | true =>
    rw [ledT_mis e 1, e] at h
    cases h
theorem ledT_val {n : Int} {s : Nat} {v : V} (o : HistOk cs chs) (h : isVal v = true) : ∀ k, isMis (ledT cs chs n s v k) = false → isVal (ledT cs chs n s v k) = true
  | 0, _ => h
  | k + 1, hm => by
    have ih := ledT_val o h k (ledT_mono hm)
    cases e : chs[s + k]? with
    | none =>
      have : ledT cs chs n s v (k + 1) = ledT cs chs n s v k := by
        show (match chs[s + k]? with
          | some ch => stepN (colsE cs chs (s + k)) ch n (ledT cs chs n s v k)
          | none => ledT cs chs n s v k) = _
        rw [e]
      rw [this]
      exact ih
    | some ch =>
      rw [ledT_succ e] at hm ⊢
      exact stepN_val (o.f _ _ e).1 ih hm
end

/-! a History as the receiver of a method; whole numbers of values -/
theorem histFs_no {e c b d : Addr} {m : Str} (h1 : (m == "_editions") = false) (h2 : (m == "_changes") = false) (h3 : (m == "_births") = false) (h4 : (m == "_drops") = false) : (histFs e c b d).lookup m = none := by
  unfold histFs
  simp [List.lookup, h1, h2, h3, h4]
theorem histM {K : PySem.W.Frag} {H : Hp} {h : Addr} {cs : List Col} {chs : List Ch} (q : HistAt K H h cs chs) : ∃ dx fs, H h = some (.ins (He.ga K "History") dx fs) ∧ fs.lookup ("columns" : Str) = none := by
  obtain ⟨dx, e, c, b, d, es, ts, hh, _⟩ := q
  exact ⟨dx, _, hh, histFs_no (by decide +kernel) (by decide +kernel) (by decide +kernel) (by decide +kernel)⟩
theorem histMx (m : Str) (d : ((m == "_editions") || ((m == "_changes") || ((m == "_births") || (m == "_drops")))) = false) {K : PySem.W.Frag} {H : Hp} {h : Addr} {cs : List Col} {chs : List Ch} (q : HistAt K H h cs chs) : ∃ dx fs, H h = some (.ins (He.ga K "History") dx fs) ∧ fs.lookup m = none := by
  obtain ⟨dx, e, c, b, d', es, ts, hh, _⟩ := q
  rw [Bool.or_eq_false_iff, Bool.or_eq_false_iff, Bool.or_eq_false_iff] at d
  exact ⟨dx, _, hh, histFs_no d.1 d.2.1 d.2.2.1 d.2.2.2⟩
theorem isEd_nat' {n m : Nat} (h : m ≤ n) : isEd n (.int (m : Nat)) = true := by
  show (decide ((0 : Int) ≤ (m : Nat)) && decide (((m : Nat) : Int) ≤ (n : Nat))) = true
  rw [decide_eq_true (by omega), decide_eq_true (by omega)]
  rfl
theorem ix_int {xs : List V} {n : Int} {v : V} (h0 : 0 ≤ n) (h : xs[n.toNat]? = some v) : atI xs n = some v := by
  have hl := (List.getElem?_eq_some_iff.mp h).1
  unfold atI
  rw [ixN_ok h0 (by omega)]
  exact h

/-! history.by_number(number, edition=..) -/
def sp_Hist_by_number (K : PySem.W.Frag) : Sp := fun vs H Q _ => ∃ (h : Addr) (cs : List Col) (chs : List Ch) (n : Int) (x : V), vs = [.ref h, .int n, x] ∧ HistAt K H h cs chs ∧ chs.length ≤ 1000 ∧ (x = .non ∨ isEd chs.length x = true) ∧
  ((colsAt cs chs x).find? (isK n) = none → Q .non H) ∧ ∀ a c, (colsAt cs chs x).find? (isK n) = some c → ColA K H a c → Q (.ref a) H
theorem ok_Hist_by_number (T : Tx K mg) : ∃ fd, FnOk P w K mg base CX0 5 (He.ma K (He.ga K "History") "by_number") fd ["self", "number", "edition"] (sp_Hist_by_number K) ∧ (∃ g, KBn K fd ["self", "number", "edition"] 2 ["edition"] g (fun vs zs => vs ++ zs)) ∧ ∃ ds, Vals [V.non] ds ∧ Binds K fd ["self", "number", "edition"] ds := by
  have C1 := ok_edition_of (P := P) (w := w) (base := base) T
  have C2 := (ok_column_numbered (P := P) (w := w) (base := base) T).up (show 2 ≤ 4 by decide)
  obtain ⟨fd, F⟩ := fd_History_by_number T
  refine ⟨fd, F.ok (CX := CX0) sc_History_by_number (fun vs H Q E h => ?_) (fun cdv A outer s H vs Q E hr h => ?_), ?_, ?_⟩
  · obtain ⟨h, cs, chs, n, x, rfl, _⟩ := h
    rfl
  · suffices hh : ∃ t, PSs (cxOf CX0 P w K mg base ["self", "number", "edition"] "History.by_number" (defScope s_History_by_number) (He.ma K (He.ga K "History") "by_number") cdv A outer s H E).nox (defBody s_History_by_number) t ∧
        t { nx := fun _ H' => Q .non H', rt := Q } (start ["self", "number", "edition"] vs) H by
      obtain ⟨t, h1, h2⟩ := hh
      exact ⟨t, h1.nox, h2⟩
    obtain ⟨h, cs, chs, n, x, rfl, hq, few, hx, kn, ky⟩ := h
    obtain ⟨dx, e, c, b, d, es, ts, hh, he, hE, hc, hC, hb, hd⟩ := id hq
    have bd := isEd_ix hx
    have hlen : es.length = chs.length + 1 := by rw [hE.len, edsTo_len]
    have hi : (edOf chs.length x).toNat < es.length := by omega
    obtain ⟨cs1, as1, hcs1, hea, hc1⟩ := hE.at_ (List.getElem?_eq_getElem hi)
    rw [edsTo_get (by omega)] at hcs1
    obtain rfl := Option.some.inj hcs1
    refine ⟨_, (pss_one (ps_ret (pcall C2 hr (pa_cons (pe_ix ix_list (pe_fld (pv 0) rfl) (pcall C1 hr (pa_cons (pv 0) (pa_cons (pv 2) pa_nil))) (fun _ _ => rfl)) (pa_cons (pv 1) pa_nil))))), ?_⟩
    refine ⟨_, rfl, h, _, dx, _, _, rfl, hh, cl_History T, na_History__editions T, histFs_editions, _, rfl, _, rfl, h, cs, chs, x, rfl, hq, few, hx, e, es.map V.ref, edOf chs.length x, .ref es[(edOf chs.length x).toNat], rfl, rfl, sqL_of he, ix_int bd.1 (by rw [List.getElem?_map, List.getElem?_eq_getElem hi]; rfl), _, rfl, _, as1, colsAt cs chs x, n, rfl, sqL_of hea, hc1, fun v hv => ?_⟩
    rcases hv with ⟨rfl, hno⟩ | ⟨j, a, c', rfl, ha, hcj, hfi⟩
    · exact kn hno
    · obtain ⟨c', q1, q2⟩ := hc1.at_ ha
      obtain rfl := Option.some.inj (hcj.symm.trans q1)
      exact ky a _ hfi q2
  · have h := F.kbinds0 (ps := ["self", "number", "edition"]) 2 ["edition"] [] (fun us mv ws => us ++ ws) (by intro z; cases z) (by intro q hq; cases hq) (fun r1 _ r4 => r1.append r4) (fun D doc pm an cdv ct us mv ws h1 h2 h3 => ?_)
    · obtain ⟨mv, h⟩ := h
      exact ⟨_, h⟩
    · match us, h1, mv, h2, ws, h3 with
      | [u0, u1], _, [], _, [w0], _ => exact rfl
  · exact F.binds0 (ps := ["self", "number", "edition"]) 2 (by intro z; cases z) rfl (fun D doc pm an cdv ct us ks h1 h2 => by
      match us, h1, ks, h2 with
      | [u0, u1], _, [i0], _ => exact ⟨_, _, _, _, _, _, rfl, rfl, rfl⟩)
/-! history.numbers() -/
def sp_Hist_numbers (K : PySem.W.Frag) : Sp := fun vs H Q _ => ∃ (h : Addr) (cs : List Col) (chs : List Ch), vs = [.ref h] ∧ HistAt K H h cs chs ∧ HistOk cs chs ∧ Q (.int (atC cs chs).2) H
theorem ok_Hist_numbers (T : Tx K mg) : ∃ fd, FnOk P w K mg base CX0 1 (He.ma K (He.ga K "History") "numbers") fd ["self"] (sp_Hist_numbers K) ∧ Binds K fd ["self"] [] := by
  refine mkMeth (fd_History_numbers T) sc_History_numbers (fun _ _ _ _ _ _ us hl => match us, hl with | [_], _ => rfl) (fun vs H Q E h => ?_) (fun cdv A outer s H vs Q E hr h => ?_)
  · obtain ⟨h, cs, chs, rfl, _⟩ := h
    rfl
  obtain ⟨h, cs, chs, rfl, ⟨dx, e, c, b, d, es, ts, hh, he, hE, hc, hC, hb, hd⟩, o, k⟩ := h
  refine ⟨_, pss_one (ps_ret (pe_callB call_len_seq (by rfl) (fr_len T) PySem.boot_len (pa_cons (pe_fld (pv 0) rfl) pa_nil))), ?_⟩
  refine ⟨_, rfl, h, _, dx, _, _, rfl, hh, cl_History T, na_History__births T, histFs_births, b, _, rfl, .inl (sqL_of hb), ?_⟩
  rw [List.length_map, o.born]
  exact k
/-! is_given, of a whole number -/
def sp_is_given (K : PySem.W.Frag) : Sp := fun vs H Q _ => ∃ (h : Addr) (cs : List Col) (chs : List Ch) (n : Int), vs = [.ref h, .int n] ∧ HistAt K H h cs chs ∧ HistOk cs chs ∧ Q (.bl (decide (0 ≤ n) && decide (n < (atC cs chs).2))) H
theorem ok_is_given (T : Tx K mg) : Callee P w K mg base CX0 2 "is_given" ["history", "value"] [] (sp_is_given K) := by
  have C1 := ok_is_whole (P := P) (w := w) (base := base) T
  obtain ⟨fdN, FN, bN⟩ := ok_Hist_numbers (P := P) (w := w) (base := base) T
  refine mkCallee (fd_is_given T) (mg_is_given T) sc_is_given (fun _ _ _ _ _ _ us hl => match us, hl with | [_, _], _ => rfl) (fun vs H Q E h => ?_) (fun cdv A outer s H vs Q E hr h => ?_)
  · obtain ⟨h, cs, chs, n, rfl, _⟩ := h
    rfl
  · obtain ⟨h, cs, chs, n, rfl, hh, o, k⟩ := h
    obtain ⟨dx, fs, hi, no⟩ := histMx "numbers" (by decide +kernel) hh
    refine ⟨_, pss_one (ps_ret (pe_and (pcall C1 hr (pa_cons (pv 1) pa_nil)) (pe_one (pe_chain op_le op_lt pe_int (pv 1) (pe_meth0 (pv 0) (cl_History T) (me_History_numbers T) FN hr bN .nil pass0))))), ?_⟩
    refine ⟨_, rfl, .int n, "int", rfl, .base (.int n), _, rfl, iteT ⟨_, rfl, _, _, rfl, rfl, _, rfl, ?_⟩⟩
    cases h1 : decide (0 ≤ n) with
    | false =>
      rw [h1] at k
      exact k
    | true =>
      rw [h1] at k
      exact ⟨_, rfl, h, dx, fs, rfl, hi, no, h, cs, chs, rfl, hh, o, _, _, rfl, rfl, k⟩
/-! births and drops: what the lists of a History tell -/
section
variable {cs : List Col} {chs : List Ch}
theorem bornStep_mem (i : Nat) : ∀ (cs : List Col) (b : List Int) (x : Int), x ∈ cs.foldl (bornStep i) b → x ∈ b ∨ x = (i : Int)
  | [], b, x, h => .inl h
  | c :: cs, b, x, h => by
    rcases bornStep_mem i cs _ x h with h | h
    · unfold bornStep at h
      split at h
      · rcases List.mem_append.mp h with h | h
        · exact .inl h
        · exact .inr (List.mem_singleton.mp h)
      · exact .inl h
    · exact .inr h
/-- the edition at which a number is first there -/
def BornIs (cs : List Col) (chs : List Ch) (n : Int) (b : Nat) : Prop := n < numE cs chs b ∧ ∀ i, i < b → numE cs chs i ≤ n
theorem BornIs.uniq {n : Int} {b b' : Nat} (h : BornIs cs chs n b) (h' : BornIs cs chs n b') : b = b' := by
  rcases Nat.lt_trichotomy b b' with q | q | q
  · have := h'.2 b q
    have := h.1
    omega
  · exact q
  · have := h.2 b' q
    have := h'.1
    omega
theorem born_to (o : HistOk cs chs) : ∀ i, i ≤ chs.length → ∀ n : Int, 0 ≤ n → n < numE cs chs i → ∃ b : Nat, (bornTo (edsTo cs chs (chs.length + 1)) (i + 1))[n.toNat]? = some ((b : Nat) : Int) ∧ b ≤ i ∧ BornIs cs chs n b
  | 0, _, n, h0, h1 => by
    have hl := o.f.born o.pl o.g 0 (Nat.zero_le _)
    have hn : n.toNat < (bornTo (edsTo cs chs (chs.length + 1)) (0 + 1)).length := by
      have h1 : n < (atC cs (chs.take 0)).2 := h1
      omega
    have hg := List.getElem?_eq_getElem hn
    have hm := List.mem_of_getElem? hg
    have e0 : bornTo (edsTo cs chs (chs.length + 1)) (0 + 1) = (List.getD (edsTo cs chs (chs.length + 1)) 0 []).foldl (bornStep 0) [] := rfl
    have hz : (bornTo (edsTo cs chs (chs.length + 1)) (0 + 1))[n.toNat] = ((0 : Nat) : Int) := by
      rcases bornStep_mem 0 _ [] _ (by rw [← e0]; exact hm) with h | h
      · cases h
      · exact h
    rw [hz] at hg
    exact ⟨0, hg, Nat.le_refl _, h1, fun i hi => by omega⟩
  | i + 1, hi, n, h0, h1 => by
    obtain ⟨ch, e⟩ : ∃ ch, chs[i]? = some ch := ⟨_, List.getElem?_eq_getElem (by omega)⟩
    have gd := o.f.good o.g i (by omega)
    have gd2 := gd.step (o.f i _ e).1 (o.f i _ e).2
    have hl : ((bornTo (edsTo cs chs (chs.length + 1)) (i + 1)).length : Int) = numE cs chs i := o.f.born o.pl o.g i (by omega)
    have eb : bornTo (edsTo cs chs (chs.length + 1)) (i + 1 + 1) = (behind (atC cs (chs.take i)).1 ch (atC cs (chs.take i)).2).foldl (bornStep (i + 1)) (bornTo (edsTo cs chs (chs.length + 1)) (i + 1)) := by
      show (List.getD (edsTo cs chs (chs.length + 1)) (i + 1) []).foldl (bornStep (i + 1)) _ = _
      rw [List.getD_eq_getElem?_getD, edsTo_get (by omega), atC_snoc e]
      rfl
    rw [numE_succ e] at h1
    by_cases hn : n < numE cs chs i
    · obtain ⟨b, h2, h3, h4⟩ := born_to o i (by omega) n h0 hn
      refine ⟨b, ?_, by omega, h4⟩
      have hlt := (List.getElem?_eq_some_iff.mp h2).1
      rw [eb]
      -- what was told stays
      have pre : ∀ (cl : List Col) (bb : List Int), n.toNat < bb.length → (cl.foldl (bornStep (i + 1)) bb)[n.toNat]? = bb[n.toNat]? := fun cl => by
        induction cl with
        | nil => exact fun bb _ => rfl
        | cons c cl ih =>
          intro bb hb
          show (cl.foldl (bornStep (i + 1)) (bornStep (i + 1) bb c))[n.toNat]? = _
          by_cases q : c.num = bb.length
          · rw [bornStep_pos q, ih _ (by rw [List.length_append]; omega), List.getElem?_append_left hb]
          · rw [bornStep_neg q]
            exact ih bb hb
      rw [pre _ _ hlt]
      exact h2
    · -- the number is new
      have ka : ch.kind = "add" := by
        cases hk : decide (ch.kind = "add") with
        | true => exact of_decide_eq_true hk
        | false =>
          rw [kind_noadd (of_decide_eq_false hk)] at h1
          exact absurd h1 hn
      rw [kind_add ka] at h1
      have en : n = numE cs chs i := by omega
      cases ch with
      | add nm gr d =>
        have hs : (atC cs (chs.take i)).1.foldl (bornStep (i + 1)) (bornTo (edsTo cs chs (chs.length + 1)) (i + 1)) = bornTo (edsTo cs chs (chs.length + 1)) (i + 1) := bornSame fun c hc => by rw [hl]; exact (gd.ok c hc).2
        rw [show behind (atC cs (chs.take i)).1 (.add nm gr d) (atC cs (chs.take i)).2 = (atC cs (chs.take i)).1 ++ [⟨nm, gr, d, (atC cs (chs.take i)).2⟩] from rfl, List.foldl_append, hs, List.foldl_cons, List.foldl_nil, bornStep_pos (show (atC cs (chs.take i)).2 = _ from hl.symm)] at eb
        refine ⟨i + 1, ?_, Nat.le_refl _, ?_, fun j hj => ?_⟩
        · have hl' : n.toNat = (bornTo (edsTo cs chs (chs.length + 1)) (i + 1)).length := by omega
          rw [eb, hl', List.getElem?_append_right (Nat.le_refl _), Nat.sub_self]
          rfl
        · rw [numE_succ e]
          show n < numE cs chs i + 1
          omega
        · rw [en]
          exact numE_mono (by omega)
      | drop _ => exact absurd (show ("drop" : Str) = "add" from ka) (by decide +kernel)
      | rename _ _ => exact absurd (show ("rename" : Str) = "add" from ka) (by decide +kernel)
      | dflt _ _ => exact absurd (show ("default" : Str) = "add" from ka) (by decide +kernel)
      | great _ _ _ => exact absurd (show ("greatest" : Str) = "add" from ka) (by decide +kernel)
      | fill _ _ => exact absurd (show ("fill" : Str) = "add" from ka) (by decide +kernel)
theorem numE_all : numE cs chs chs.length = (atC cs chs).2 := by
  show (atC cs (chs.take chs.length)).2 = _
  rw [List.take_length]
theorem born_at (o : HistOk cs chs) {n : Int} (h0 : 0 ≤ n) (h1 : n < (atC cs chs).2) : ∃ b : Nat, (bornH cs chs)[n.toNat]? = some ((b : Nat) : Int) ∧ b ≤ chs.length ∧ BornIs cs chs n b := by
  obtain ⟨b, h2, h3, h4⟩ := born_to o chs.length (Nat.le_refl _) n h0 (by rw [numE_all]; exact h1)
  refine ⟨b, ?_, h3, h4⟩
  unfold bornH bornOf
  rw [edsTo_len]
  exact h2
/-- a number is there at its birth -/
theorem born_there (o : HistOk cs chs) {n : Int} {b : Nat} (h0 : 0 ≤ n) (hb : b ≤ chs.length) (h : BornIs cs chs n b) : ∃ c, colE cs chs b n = some c := by
  cases b with
  | zero =>
    have h1 : n < (cs.length : Int) := h.1
    have hlt : n.toNat < cs.length := by omega
    have hg : cs[n.toNat]? = some (cs[n.toNat]'hlt) := List.getElem?_eq_getElem hlt
    have hp := o.pl _ _ hg
    refine ⟨cs[n.toNat]'hlt, ?_⟩
    have := asc_find (asc_at o 0 (Nat.zero_le _)) (List.mem_of_getElem? hg)
    rw [hp, show ((n.toNat : Nat) : Int) = n by omega] at this
    exact this
  | succ i =>
    obtain ⟨ch, e⟩ : ∃ ch, chs[i]? = some ch := ⟨_, List.getElem?_eq_getElem (by omega)⟩
    have h1 := h.1
    have h2 := h.2 i (Nat.lt_succ_self i)
    rw [numE_succ e] at h1
    cases ch with
    | add nm gr d =>
      have h1 : n < numE cs chs i + 1 := h1
      have en : n = numE cs chs i := by omega
      refine ⟨⟨nm, gr, d, numE cs chs i⟩, ?_⟩
      have hm : (⟨nm, gr, d, numE cs chs i⟩ : Col) ∈ colsE cs chs (i + 1) := by
        rw [colsE_succ e]
        exact List.mem_append_right _ (List.mem_singleton.mpr rfl)
      have := asc_find (asc_at o (i + 1) hb) hm
      show (colsE cs chs (i + 1)).find? (isK n) = _
      rw [en]
      exact this
    | _ => exact absurd h1 (by show ¬ n < numE cs chs i; omega)
/-- what stands in the list of drops for the number n behind so many editions -/
def DropIs (cs : List Col) (chs : List Ch) (n : Int) (i : Nat) (v : V) : Prop := (v = .non ∧ ∀ j, j < i → ¬ (∃ c, colE cs chs j n = some c) ∨ ∃ c, colE cs chs (j + 1) n = some c) ∨
  ∃ d : Nat, v = .int (d : Nat) ∧ 1 ≤ d ∧ d ≤ i ∧ (∃ c, colE cs chs (d - 1) n = some c) ∧ colE cs chs d n = none
theorem dropFold {next : List Col} {i : Nat} {n : Int} (h0 : 0 ≤ n) : ∀ (cl : List Col) (d : List V), (∀ c ∈ cl, 0 ≤ c.num) → n.toNat < d.length → (cl.foldl (dropStep next i) d)[n.toNat]? = if (∃ c ∈ cl, c.num = n) ∧ next.find? (isK n) = none then some (.int (i : Nat)) else d[n.toNat]?
  | [], d, _, _ => by
    rw [if_neg]
    · rfl
    · rintro ⟨⟨c, h, _⟩, _⟩
      cases h
  | c :: cl, d, hp, hl => by
    show (cl.foldl (dropStep next i) (dropStep next i d c))[n.toNat]? = _
    have hl2 : n.toNat < (dropStep next i d c).length := by
      unfold dropStep
      split
      · rw [List.length_set]; exact hl
      · exact hl
    rw [dropFold h0 cl _ (fun c' hc' => hp c' (List.mem_cons_of_mem _ hc')) hl2]
    have hc0 := hp c List.mem_cons_self
    by_cases h1 : (∃ c ∈ cl, c.num = n) ∧ next.find? (isK n) = none
    · rw [if_pos h1, if_pos ⟨by obtain ⟨⟨c', h2, h3⟩, _⟩ := h1; exact ⟨c', List.mem_cons_of_mem _ h2, h3⟩, h1.2⟩]
    · rw [if_neg h1]
      by_cases h2 : c.num = n
      · by_cases h3 : next.find? (isK n) = none
        · rw [if_pos ⟨⟨c, List.mem_cons_self, h2⟩, h3⟩]
          have hg : gone next c = true := by
            unfold gone
            rw [h2, h3]
            rfl
          unfold dropStep
          rw [if_pos hg, h2, List.getElem?_set_self hl]
        · rw [if_neg fun q => h3 q.2]
          have hg : ¬ gone next c = true := by
            unfold gone
            rw [h2]
            intro q
            exact h3 (Option.isNone_iff_eq_none.mp q)
          unfold dropStep
          rw [if_neg hg]
      · have : ¬ ((∃ c' ∈ c :: cl, c'.num = n) ∧ next.find? (isK n) = none) := by
          rintro ⟨⟨c', h3, h4⟩, h5⟩
          rcases List.mem_cons.mp h3 with rfl | h3
          · exact h2 h4
          · exact h1 ⟨⟨c', h3, h4⟩, h5⟩
        rw [if_neg this]
        unfold dropStep
        split
        · rw [List.getElem?_set_ne (by omega)]
        · rfl
theorem drop_to (o : HistOk cs chs) {n : Int} {m : Nat} (h0 : 0 ≤ n) (hm : n.toNat < m) : ∀ i, i ≤ chs.length → ∃ v, (dropTo (edsTo cs chs (chs.length + 1)) m i)[n.toNat]? = some v ∧ DropIs cs chs n i v
  | 0, _ => ⟨.non, by show (List.replicate m V.non)[n.toNat]? = _; rw [List.getElem?_replicate, if_pos hm], .inl ⟨rfl, fun j hj => by omega⟩⟩
  | i + 1, hi => by
    obtain ⟨v, h1, h2⟩ := drop_to o h0 hm i (by omega)
    have e : dropTo (edsTo cs chs (chs.length + 1)) m (i + 1) = (colsE cs chs i).foldl (dropStep (colsE cs chs (i + 1)) (i + 1)) (dropTo (edsTo cs chs (chs.length + 1)) m i) := by
      show (List.getD (edsTo cs chs (chs.length + 1)) i []).foldl (dropStep (List.getD (edsTo cs chs (chs.length + 1)) (i + 1) []) (i + 1)) _ = _
      rw [List.getD_eq_getElem?_getD, List.getD_eq_getElem?_getD, edsTo_get (by omega), edsTo_get (by omega)]
      rfl
    have gd := o.f.good o.g i (by omega)
    have f := dropFold (next := colsE cs chs (i + 1)) (i := i + 1) h0 (colsE cs chs i) (dropTo (edsTo cs chs (chs.length + 1)) m i) (fun c hc => (gd.ok c hc).1.nu) (by rw [dropTo_len]; exact hm)
    rw [e, f]
    split
    · rename_i q
      obtain ⟨⟨c, h3, h4⟩, h5⟩ := q
      refine ⟨_, rfl, .inr ⟨i + 1, rfl, by omega, Nat.le_refl _, ⟨c, ?_⟩, h5⟩⟩
      have := asc_find (asc_at o i (by omega)) h3
      rw [h4] at this
      exact this
    · rename_i q
      refine ⟨v, h1, ?_⟩
      rcases h2 with ⟨h3, h4⟩ | ⟨d, h3, h4, h5, h6⟩
      · refine .inl ⟨h3, fun j hj => ?_⟩
        by_cases hji : j < i
        · exact h4 j hji
        · obtain rfl : j = i := by omega
          cases hc : colE cs chs (j + 1) n with
          | some c => exact .inr ⟨c, rfl⟩
          | none =>
            refine .inl fun ⟨c, hc'⟩ => ?_
            obtain ⟨k1, k2⟩ := findK_mem hc'
            exact q ⟨⟨c, k1, k2⟩, hc⟩
      · exact .inr ⟨d, h3, h4, by omega, h6⟩
theorem drop_at (o : HistOk cs chs) {n : Int} (h0 : 0 ≤ n) (h1 : n < (atC cs chs).2) : ∃ v, (dropOf (edsTo cs chs (chs.length + 1)) (bornH cs chs).length)[n.toNat]? = some v ∧ DropIs cs chs n chs.length v := by
  have := o.born
  obtain ⟨v, h2, h3⟩ := drop_to o (m := (bornH cs chs).length) h0 (by omega) chs.length (Nat.le_refl _)
  refine ⟨v, ?_, h3⟩
  unfold dropOf
  rw [edsTo_len]
  exact h2
/-- the column with the number was dropped not behind an edition -/
def goneB (cs : List Col) (chs : List Ch) (n : Int) (e : Nat) : Bool := decide (n < numE cs chs e) && (colE cs chs e n).isNone
theorem DropIs.gone {n : Int} {v : V} (o : HistOk cs chs) (h0 : 0 ≤ n) (h1 : n < (atC cs chs).2) (h : DropIs cs chs n chs.length v) {e : Nat} (he : e ≤ chs.length) : goneB cs chs n e = match v with
    | .int d => decide (d ≤ (e : Nat))
    | _ => false := by
  obtain ⟨b, _, hb1, hb2⟩ := born_at o h0 h1
  rcases h with ⟨rfl, h2⟩ | ⟨d, rfl, h3, h4, h5, h6⟩
  · show goneB cs chs n e = false
    unfold goneB
    by_cases hn : n < numE cs chs e
    · have hbe : b ≤ e := by
        rcases Nat.lt_or_ge e b with q | q
        · have := hb2.2 e q
          omega
        · exact q
      have up : ∀ k, b + k ≤ chs.length → ∃ c, colE cs chs (b + k) n = some c := fun k => by
        induction k with
        | zero => exact fun _ => born_there o h0 hb1 hb2
        | succ k ih =>
          intro hk
          rcases h2 (b + k) (by omega) with q | q
          · exact absurd (ih (by omega)) q
          · exact q
      obtain ⟨c, hc⟩ := up (e - b) (by omega)
      rw [show b + (e - b) = e by omega] at hc
      rw [hc]
      exact Bool.and_false _
    · rw [decide_eq_false hn]
      rfl
  · show goneB cs chs n e = decide (((d : Nat) : Int) ≤ (e : Nat))
    obtain ⟨c, hc⟩ := h5
    have hn1 : n < numE cs chs (d - 1) := by
      obtain ⟨k1, k2⟩ := findK_mem hc
      have := ((o.f.good o.g (d - 1) (by omega)).ok c k1).2
      rw [← k2]
      exact this
    unfold goneB
    by_cases hde : d ≤ e
    · have hn : n < numE cs chs e := Int.lt_of_lt_of_le hn1 (numE_mono (by omega))
      have hg := gone_stays o h6 (Int.lt_of_lt_of_le hn1 (numE_mono (by omega))) (e - d) (by omega)
      rw [show d + (e - d) = e by omega] at hg
      rw [decide_eq_true hn, hg, decide_eq_true (by omega)]
      rfl
    · rw [decide_eq_false (by omega : ¬ ((d : Nat) : Int) ≤ (e : Nat))]
      by_cases hn : n < numE cs chs e
      · cases hg : colE cs chs e n with
        | some c => exact Bool.and_false _
        | none =>
          have hg2 := gone_stays o hg hn (d - 1 - e) (by omega)
          rw [show e + (d - 1 - e) = d - 1 by omega, hc] at hg2
          cases hg2
      · rw [decide_eq_false hn]
        rfl
end

/-! stored rows as data -/
/-- pairs of a number and a value, at the addresses -/
inductive Ents (K : PySem.W.Frag) (H : Hp) : List Addr → List (Int × V) → Prop
  | nil : Ents K H [] []
  | cons {a : Addr} {as : List Addr} {e : Int × V} {es : List (Int × V)} : SqT K H a [.int e.1, e.2] → Ents K H as es → Ents K H (a :: as) (e :: es)
theorem Ents.keep {K : PySem.W.Frag} {H H' : Hp} (s : Same H H') : ∀ {as : List Addr} {es : List (Int × V)}, Ents K H as es → Ents K H' as es
  | _, _, .nil => .nil
  | _, _, .cons h t => .cons (same_tup s h) (t.keep s)
theorem Ents.len {K : PySem.W.Frag} {H : Hp} : ∀ {as : List Addr} {es : List (Int × V)}, Ents K H as es → as.length = es.length
  | _, _, .nil => rfl
  | _, _, .cons _ t => congrArg Nat.succ t.len
theorem Ents.at_ {K : PySem.W.Frag} {H : Hp} : ∀ {as : List Addr} {es : List (Int × V)} {i : Nat} {a : Addr}, Ents K H as es → as[i]? = some a → ∃ e, es[i]? = some e ∧ SqT K H a [.int e.1, e.2]
  | _, _, _, _, .nil, e => by simp at e
  | _, _, 0, _, .cons h t, e => by
    simp at e
    subst e
    exact ⟨_, rfl, h⟩
  | _, _, i + 1, a, .cons h t, e => by
    obtain ⟨c, h1, h2⟩ := Ents.at_ (i := i) (a := a) t (by simpa using e)
    exact ⟨c, by simpa using h1, h2⟩
/-- a stored row stands at r -/
def StAt (K : PySem.W.Frag) (H : Hp) (r : Addr) (at_ : Int) (es : List (Int × V)) : Prop := ∃ (q : Addr) (as : List Addr), SqT K H r [.int at_, .ref q] ∧ SqT K H q (as.map V.ref) ∧ Ents K H as es
theorem StAt.keep {K : PySem.W.Frag} {H H' : Hp} {r : Addr} {e : Int} {es : List (Int × V)} (s : Same H H') (h : StAt K H r e es) : StAt K H' r e es := by
  obtain ⟨q, as, h1, h2, h3⟩ := h
  exact ⟨q, as, same_tup s h1, same_tup s h2, h3.keep s⟩
def isE (n : Int) (e : Int × V) : Bool := decide (e.1 = n)
def stV (es : List (Int × V)) (n : Int) : V := match es.find? (isE n) with
  | some e => e.2
  | none => .str "missing"

/-! rows put together, column by column -/
theorem put_new {acc : List (Key × V)} {k : Key} {v : V} (h : k ∉ acc.map (·.1)) : putK acc k v = acc ++ [(k, v)] := by
  unfold putK
  rw [any_no h, if_neg (by decide)]
theorem RowD.nil : RowD [] [] := ⟨rfl, fun j c h => by simp at h⟩
theorem RowD.more {cs : List Col} {kvs : List (Key × V)} {i : Nat} {c : Col} {v : V} (r : RowD (cs.take i) kvs) (hc : cs[i]? = some c) (nd : (cs.map (·.name)).Nodup) (hv : isIn c.top v = true) : putK kvs (Sum.inr c.name) v = kvs ++ [(Sum.inr c.name, v)] ∧ RowD (cs.take (i + 1)) (kvs ++ [(Sum.inr c.name, v)]) := by
  have hil := (List.getElem?_eq_some_iff.mp hc).1
  have hkl : kvs.length = i := by
    rw [r.1, List.length_take]
    omega
  have e : cs.take (i + 1) = cs.take i ++ [c] := by
    rw [List.take_add_one, hc]
    rfl
  refine ⟨put_new ?_, ?_, ?_⟩
  · rw [r.keys]
    intro hm
    obtain ⟨n, hn, q⟩ := List.mem_map.mp hm
    obtain rfl := Sum.inr.inj q
    have nd2 : ((cs.take (i + 1)).map (·.name)).Nodup := by
      rw [List.map_take]
      exact nd.sublist (List.take_sublist _ _)
    rw [e, List.map_append, List.nodup_append] at nd2
    exact nd2.2.2 _ hn _ (List.mem_singleton.mpr rfl) rfl
  · rw [List.length_append, hkl, e, List.length_append, List.length_take]
    show i + 1 = _ + 1
    omega
  · intro j c' hj
    rw [e] at hj
    by_cases hl : j < i
    · rw [List.getElem?_append_left (by rw [List.length_take]; omega)] at hj
      obtain ⟨v', h1, h2⟩ := r.2 j c' hj
      exact ⟨v', by rw [List.getElem?_append_left (by omega)]; exact h1, h2⟩
    · have hle := (List.getElem?_eq_some_iff.mp hj).1
      rw [List.length_append, List.length_take] at hle
      have hle : j < min i cs.length + 1 := hle
      obtain rfl : j = i := by omega
      rw [List.getElem?_append_right (by rw [List.length_take]; omega), List.length_take] at hj
      rw [show j - min j cs.length = 0 by omega] at hj
      obtain rfl := Option.some.inj hj
      exact ⟨v, by rw [List.getElem?_append_right (by omega), hkl, Nat.sub_self]; rfl, hv⟩
theorem gr_of {c : Col} (h : ColOk c) : 1 ≤ c.top ∧ c.top ≤ 99 := by
  have q : (decide (1 ≤ c.top) && decide (c.top ≤ 99)) = true := h.gr
  rw [Bool.and_eq_true] at q
  exact ⟨of_decide_eq_true q.1, of_decide_eq_true q.2⟩

/-! a row of the columns, by a value for each -/
def rowF (f : Col → V) (cs : List Col) : List (Key × V) := cs.map fun c => (Sum.inr c.name, f c)
theorem rowF_at {f : Col → V} {cs : List Col} {j : Nat} {c : Col} (h : cs[j]? = some c) : (rowF f cs)[j]? = some (Sum.inr c.name, f c) := by
  unfold rowF
  rw [List.getElem?_map, h]
  rfl
theorem rowF_len {f : Col → V} {cs : List Col} : (rowF f cs).length = cs.length := List.length_map ..
theorem rowF_keys {f : Col → V} {cs : List Col} : (rowF f cs).map (·.1) = (cs.map (·.name)).map Sum.inr := by
  unfold rowF
  rw [List.map_map, List.map_map]
  rfl
theorem rowF_take {f : Col → V} {cs : List Col} {j : Nat} {c : Col} (nd : (cs.map (·.name)).Nodup) (h : cs[j]? = some c) : putK (rowF f (cs.take j)) (Sum.inr c.name) (f c) = rowF f (cs.take (j + 1)) := by
  have e : cs.take (j + 1) = cs.take j ++ [c] := by
    rw [List.take_add_one, h]
    rfl
  have e2 : rowF f (cs.take (j + 1)) = rowF f (cs.take j) ++ [(Sum.inr c.name, f c)] := by
    rw [e]
    unfold rowF
    rw [List.map_append]
    rfl
  rw [e2, put_new]
  rw [rowF_keys]
  intro hm
  obtain ⟨n, hn, q⟩ := List.mem_map.mp hm
  obtain rfl := Sum.inr.inj q
  have nd2 : ((cs.take (j + 1)).map (·.name)).Nodup := by
    rw [List.map_take]
    exact nd.sublist (List.take_sublist _ _)
  rw [e, List.map_append, List.nodup_append] at nd2
  exact nd2.2.2 _ hn _ (List.mem_singleton.mpr rfl) rfl

/-! stored rows that stand with their tuple known -/
def entsOf (cs : List Col) (kvs : List (Key × V)) : List (Int × V) := cs.mapIdx fun j c => (c.num, match kvs[j]? with
  | some kv => kv.2
  | none => .non)
theorem entsOf_len {cs : List Col} {kvs : List (Key × V)} : (entsOf cs kvs).length = cs.length := List.length_mapIdx
theorem entsOf_at {cs : List Col} {kvs : List (Key × V)} (r : RowD cs kvs) {j : Nat} {c : Col} (h : cs[j]? = some c) : ∃ v, (entsOf cs kvs)[j]? = some (c.num, v) ∧ kvs[j]? = some (Sum.inr c.name, v) ∧ isIn c.top v = true := by
  obtain ⟨v, h1, h2⟩ := r.2 j c h
  refine ⟨v, ?_, h1, h2⟩
  unfold entsOf
  rw [List.getElem?_mapIdx, h]
  show some (c.num, match kvs[j]? with | some kv => kv.2 | none => V.non) = _
  rw [h1]
theorem RowD.fit {cs : List Col} {kvs : List (Key × V)} (r : RowD cs kvs) : FitE cs (entsOf cs kvs) := ⟨entsOf_len, fun j c h => by
  obtain ⟨v, h1, _, h2⟩ := entsOf_at r h
  exact ⟨v, h1, h2⟩⟩
theorem Ents.of_vs {K : PySem.W.Frag} {H : Hp} : ∀ {ys : List V} {es : List (Int × V)}, ys.length = es.length → (∀ (i : Nat) (y : V), ys[i]? = some y → ∃ t e, y = .ref t ∧ es[i]? = some e ∧ SqT K H t [.int e.1, e.2]) → ∃ as, ys = as.map V.ref ∧ Ents K H as es
  | [], [], _, _ => ⟨[], rfl, .nil⟩
  | [], _ :: _, h, _ => by cases h
  | _ :: _, [], h, _ => by cases h
  | y :: ys, e :: es, h, f => by
    obtain ⟨t, e', rfl, q, ht⟩ := f 0 y rfl
    obtain rfl : e = e' := Option.some.inj q
    obtain ⟨as, rfl, hh⟩ := Ents.of_vs (ys := ys) (es := es) (Nat.succ.inj h) fun i y' h1 => f (i + 1) y' (by simpa using h1)
    exact ⟨t :: as, rfl, .cons ht hh⟩
def keyE (e : Int × V) : Key × V := (Sum.inl e.1, e.2)
theorem keyE_nodup {cs : List Col} {kvs : List (Key × V)} (a : Asc cs) : (((entsOf cs kvs).map keyE).map (·.1)).Nodup := by
  have e : ((entsOf cs kvs).map keyE).map (·.1) = (cs.map (·.num)).map (Sum.inl : Int → Key) := by
    rw [List.map_map, List.map_map]
    refine List.ext_getElem? fun j => ?_
    rw [List.getElem?_map, List.getElem?_map]
    unfold entsOf
    rw [List.getElem?_mapIdx]
    cases cs[j]? <;> rfl
  rw [e]
  unfold List.Nodup
  rw [List.pairwise_map]
  exact List.Pairwise.imp (fun h q => by have := Sum.inl.inj q; omega) a
/-- a stored row at r, its inner tuple's object known -/
def StF (K : PySem.W.Frag) (H : Hp) (r : Addr) (ed : Int) (es : List (Int × V)) : Prop := ∃ (q : Addr) (as : List Addr) (o : Obj), SqT K H r [.int ed, .ref q] ∧ H q = some (.frz o (.tup (as.map V.ref))) ∧ o.dict = none ∧ Ents K H as es
theorem StF.st {K : PySem.W.Frag} {H : Hp} {r : Addr} {ed : Int} {es : List (Int × V)} (h : StF K H r ed es) : StAt K H r ed es := by
  obtain ⟨q, as, o, h1, h2, _, h4⟩ := h
  exact ⟨q, as, h1, .inl (.inr ⟨o, h2⟩), h4⟩
theorem StF.keep {K : PySem.W.Frag} {H H' : Hp} {r : Addr} {ed : Int} {es : List (Int × V)} (s : Same H H') (h : StF K H r ed es) : StF K H' r ed es := by
  obtain ⟨q, as, o, h1, h2, h3, h4⟩ := h
  exact ⟨q, as, o, same_tup s h1, s _ _ h2, h3, h4.keep s⟩
theorem ty_in {K : PySem.W.Frag} {g : Int} {v : V} (h : isIn g v = true) : ∃ t, ∀ H : Hp, TyX K H v (.type t) := by
  cases v with
  | non => exact ⟨_, fun _ => .base .non⟩
  | int i => exact ⟨_, fun _ => .base (.int i)⟩
  | _ => cases h
theorem cols_few {cs : List Col} {chs : List Ch} (o : HistOk cs chs) (u : V) : (colsAt cs chs u).length ≤ 1000 := by
  unfold colsAt
  by_cases h : (edOf chs.length u).toNat ≤ chs.length
  · have := (o.f.good o.g _ h).six
    omega
  · have e : chs.take (edOf chs.length u).toNat = chs.take chs.length := by rw [List.take_of_length_le (by omega), List.take_length]
    rw [e]
    have := (o.f.good o.g chs.length (Nat.le_refl _)).six
    omega
/-- the law's stored row is one -/
theorem scal_refl {g : Int} {v : V} (h : isIn g v = true) : scal v v = true := by
  cases v with
  | non => rfl
  | int i => rfl
  | _ => cases h
/-- what is stored under a number, as a law looks it up -/
theorem stV_head (es : List (Int × V)) (n : Int) : (((es.filter (isE n)).map (·.2)) ++ [V.str "missing"])[0]? = some (stV es n) := by
  have e : (es.filter (isE n))[0]? = es.find? (isE n) := by rw [← List.head?_eq_getElem?, List.head?_filter]
  unfold stV
  cases hf : es.filter (isE n) with
  | nil =>
    rw [hf] at e
    rw [← e]
    rfl
  | cons x xs =>
    rw [hf] at e
    rw [← e]
    rfl
theorem scal_st {cs : List Col} {es : List (Int × V)} (f : FitE cs es) (n : Int) : scal (stV es n) (stV es n) = true := by
  unfold stV
  cases hf : es.find? (isE n) with
  | none => rfl
  | some e =>
    obtain ⟨j, hj⟩ := List.mem_iff_getElem?.mp (List.mem_of_find?_eq_some hf)
    have hjl := (List.getElem?_eq_some_iff.mp hj).1
    obtain ⟨v, h1, h2⟩ := f.2 j (cs[j]'(by rw [← f.1]; exact hjl)) (List.getElem?_eq_getElem _)
    obtain rfl := Option.some.inj (h1.symm.trans hj)
    exact scal_refl h2
theorem Ents.keepT {K : PySem.W.Frag} {H H' : Hp} (s : KeepT H H') : ∀ {as : List Addr} {es : List (Int × V)}, Ents K H as es → Ents K H' as es
  | _, _, .nil => .nil
  | _, _, .cons h t => .cons (sqT_keepT s h) (t.keepT s)
theorem StF.keepT {K : PySem.W.Frag} {H H' : Hp} {r : Addr} {ed : Int} {es : List (Int × V)} (s : KeepT H H') (h : StF K H r ed es) : StF K H' r ed es := by
  obtain ⟨q, as, o, h1, h2, h3, h4⟩ := h
  exact ⟨q, as, o, sqT_keepT s h1, s _ _ (fun _ z => by cases z) (fun _ z => by cases z) h2, h3, h4.keepT s⟩
theorem Ents.of_at {K : PySem.W.Frag} {H : Hp} : ∀ {as : List Addr} {es : List (Int × V)}, as.length = es.length → (∀ (i : Nat) a e, as[i]? = some a → es[i]? = some e → SqT K H a [.int e.1, e.2]) → Ents K H as es
  | [], [], _, _ => .nil
  | [], _ :: _, h, _ => by cases h
  | _ :: _, [], h, _ => by cases h
  | a :: as, e :: es, h, f => .cons (f 0 a e rfl rfl) (Ents.of_at (Nat.succ.inj h) fun i a' e' h1 h2 => f (i + 1) a' e' (by simpa using h1) (by simpa using h2))

/-! stored rows that stand; what is barred stays so -/
theorem folTo_none {cs : List Col} {chs : List Ch} {i : Nat} {kvs : List (Key × V)} {m : Nat} (h : folTo cs chs i kvs m = none) : ∀ k, folTo cs chs i kvs (m + k) = none
  | 0 => h
  | k + 1 => by
    show (match folTo cs chs i kvs (m + k), chs[i + (m + k)]? with
      | some r, some ch => rowThen (atC cs (chs.take (i + (m + k)))).1 ch r
      | _, _ => none) = _
    rw [folTo_none h k]
theorem folTo_le {cs : List Col} {chs : List Ch} {i : Nat} {kvs : List (Key × V)} {m n : Nat} (h : folTo cs chs i kvs m = none) (hmn : m ≤ n) : folTo cs chs i kvs n = none := by
  have := folTo_none h (n - m)
  rwa [show m + (n - m) = n by omega] at this
/-- a stored row of edition i stands at r -/
structure RowAt (K : PySem.W.Frag) (H : Hp) (cs : List Col) (chs : List Ch) (r : Addr) (i : Nat) (es : List (Int × V)) : Prop where
  sf : StF K H r (i : Nat) es
  fit : FitE (atC cs (chs.take i)).1 es
  le : i ≤ chs.length
theorem RowAt.st {K : PySem.W.Frag} {H : Hp} {cs : List Col} {chs : List Ch} {r : Addr} {i : Nat} {es : List (Int × V)} (h : RowAt K H cs chs r i es) : StAt K H r (i : Nat) es := h.sf.st
theorem RowAt.keep {K : PySem.W.Frag} {H H' : Hp} {cs : List Col} {chs : List Ch} {r : Addr} {i : Nat} {es : List (Int × V)} (s : Same H H') (h : RowAt K H cs chs r i es) : RowAt K H' cs chs r i es := ⟨h.sf.keep s, h.fit, h.le⟩

/-! a row followed, number by number -/
section
variable {cs : List Col} {chs : List Ch}
def bornN (cs : List Col) (chs : List Ch) (n : Int) : Nat := match (bornH cs chs)[n.toNat]? with
  | some b => b.toNat
  | none => 0
theorem bornN_spec (o : HistOk cs chs) {n : Int} (h0 : 0 ≤ n) (h1 : n < (atC cs chs).2) : (bornH cs chs)[n.toNat]? = some ((bornN cs chs n : Nat) : Int) ∧ bornN cs chs n ≤ chs.length ∧ BornIs cs chs n (bornN cs chs n) := by
  obtain ⟨b, h2, h3, h4⟩ := born_at o h0 h1
  have e : bornN cs chs n = b := by
    unfold bornN
    rw [h2]
    exact Int.toNat_natCast b
  rw [e]
  exact ⟨h2, h3, h4⟩
/-- the default with which a number was there first -/
def dfltB (cs : List Col) (chs : List Ch) (n : Int) : V := match colE cs chs (bornN cs chs n) n with
  | some c => c.dflt
  | none => .non
/-- what a row of the edition i has under the number n behind t changes -/
def valAt (cs : List Col) (chs : List Ch) (i : Nat) (es : List (Int × V)) (n : Int) (t : Nat) : V := if n < numE cs chs i then ledT cs chs n i (stV es n) t else ledT cs chs n (bornN cs chs n) (dfltB cs chs n) (i + t - bornN cs chs n)
theorem born_le (o : HistOk cs chs) {n : Int} {e : Nat} (h0 : 0 ≤ n) (he : e ≤ chs.length) (h : n < numE cs chs e) : bornN cs chs n ≤ e := by
  have h1 : n < (atC cs chs).2 := by rw [← numE_all]; exact Int.lt_of_lt_of_le h (numE_mono he)
  obtain ⟨_, _, h2⟩ := bornN_spec o h0 h1
  rcases Nat.lt_or_ge e (bornN cs chs n) with q | q
  · have := h2.2 e q
    omega
  · exact q
theorem valAt_succ (o : HistOk cs chs) {i t : Nat} {es : List (Int × V)} {n : Int} {ch : Ch} (h0 : 0 ≤ n) (hc : chs[i + t]? = some ch) (hn : n < numE cs chs (i + t)) : valAt cs chs i es n (t + 1) = stepN (colsE cs chs (i + t)) ch n (valAt cs chs i es n t) := by
  have hil := (List.getElem?_eq_some_iff.mp hc).1
  unfold valAt
  split
  · exact ledT_succ hc
  · have hb := born_le o h0 (by omega) hn
    have e : bornN cs chs n + (i + t - bornN cs chs n) = i + t := by omega
    rw [show i + (t + 1) - bornN cs chs n = (i + t - bornN cs chs n) + 1 by omega, ledT_succ (by rw [e]; exact hc), e]
theorem go_barred {ch : Ch} : ∀ {cs : List Col} {vs : List V} {acc : List (Key × V)} {i : Nat} {c : Col} {v : V}, cs[i]? = some c → vs[i]? = some v → isMis (chgV c.name ch v) = true → rowGo ch cs vs acc = none
  | [], _, _, _, _, _, h, _, _ => by simp at h
  | _ :: _, [], _, _, _, _, _, h, _ => by simp at h
  | c :: cs, v :: vs, acc, i, c', v', h1, h2, h3 => by
    show (if isMis (chgV c.name ch v) = true then none else rowGo ch cs vs (stepR ch c (chgV c.name ch v) acc)) = none
    cases hm : isMis (chgV c.name ch v) with
    | true => rw [if_pos rfl]
    | false =>
      rw [if_neg (by decide)]
      match i, h1, h2 with
      | 0, h1, h2 =>
        obtain rfl := Option.some.inj h1
        obtain rfl := Option.some.inj h2
        rw [hm] at h3
        cases h3
      | i + 1, h1, h2 => exact go_barred (i := i) (by simpa using h1) (by simpa using h2) h3
theorem give_rowF {ch : Ch} {f f' : Col → V} : ∀ {cs : List Col}, (∀ c ∈ cs, ∀ c' ∈ colR ch c, f' c' = chgV c.name ch (f c)) → giveL ch cs (cs.map f) = rowF f' (cs.flatMap (colR ch))
  | [], _ => rfl
  | c :: cs, h => by
    show giveR ch c (chgV c.name ch (f c)) ++ giveL ch cs (cs.map f) = _
    rw [give_rowF fun d hd => h d (List.mem_cons_of_mem _ hd), List.flatMap_cons]
    unfold rowF giveR
    rw [List.map_append]
    congr 1
    exact List.map_congr_left fun c' hc' => by rw [h c List.mem_cons_self c' hc']
/-- the number n is one that the row of the edition i speaks of -/
def Rel (cs : List Col) (chs : List Ch) (i : Nat) (n : Int) (t : Nat) : Prop := 0 ≤ n ∧ n < numE cs chs (i + t) ∧ (numE cs chs i ≤ n ∨ ∃ c, colE cs chs i n = some c)
theorem st_fit {cl : List Col} {es : List (Int × V)} (f : FitE cl es) (a : Asc cl) {j : Nat} {c : Col} (h : cl[j]? = some c) : ∃ v, es[j]? = some (c.num, v) ∧ stV es c.num = v ∧ isIn c.top v = true := by
  obtain ⟨v, h1, h2⟩ := f.2 j c h
  refine ⟨v, h1, ?_, h2⟩
  unfold stV
  cases e : es.find? (isE c.num) with
  | none =>
    have := List.find?_eq_none.mp e _ (List.mem_of_getElem? h1)
    exact absurd (decide_eq_true rfl) this
  | some p =>
    have h3 := List.find?_some e
    have h3 : p.1 = c.num := of_decide_eq_true h3
    obtain ⟨k, hk⟩ := List.mem_iff_getElem?.mp (List.mem_of_find?_eq_some e)
    have hkl := (List.getElem?_eq_some_iff.mp hk).1
    rw [f.1] at hkl
    obtain ⟨v', h4, _⟩ := f.2 k _ (List.getElem?_eq_getElem hkl)
    have e1 := Option.some.inj (hk.symm.trans h4)
    have e2 : cl[k].num = c.num := by rw [← h3, e1]
    obtain rfl := asc_uniq a (List.getElem?_eq_getElem hkl) h e2
    have e3 := Option.some.inj (hk.symm.trans h1)
    rw [e3]
theorem rowE_led (o : HistOk cs chs) {i : Nat} {es : List (Int × V)} (hi : i ≤ chs.length) (f : FitE (colsE cs chs i) es) : rowE (colsE cs chs i) es = rowF (fun c => valAt cs chs i es c.num 0) (colsE cs chs i) := by
  have a := asc_at o i hi
  have g := o.f.good o.g i hi
  refine List.ext_getElem? fun j => ?_
  cases hc : (colsE cs chs i)[j]? with
  | none =>
    have hl := List.getElem?_eq_none_iff.mp hc
    rw [List.getElem?_eq_none (by rw [rowE_len]; exact hl), List.getElem?_eq_none (by rw [rowF_len]; exact hl)]
  | some c =>
    obtain ⟨v, h1, h2, _⟩ := rowE_at f hc
    obtain ⟨v', h3, h4, _⟩ := st_fit f a hc
    rw [h1, rowF_at hc]
    have hn := (g.ok c (List.mem_of_getElem? hc)).2
    obtain rfl : v = v' := congrArg Prod.snd (Option.some.inj (h2.symm.trans h3))
    unfold valAt
    rw [if_pos hn, ← h4]
    rfl
theorem row_led (o : HistOk cs chs) {i : Nat} {es : List (Int × V)} (hi : i ≤ chs.length) (f : FitE (colsE cs chs i) es) : ∀ t, i + t ≤ chs.length →
    (folTo cs chs i (rowE (colsE cs chs i) es) t = some (rowF (fun c => valAt cs chs i es c.num t) (colsE cs chs (i + t))) ∧ ∀ n, Rel cs chs i n t → isMis (valAt cs chs i es n t) = false) ∨
    (folTo cs chs i (rowE (colsE cs chs i) es) t = none ∧ ∃ n, Rel cs chs i n t ∧ isMis (valAt cs chs i es n t) = true)
  | 0, _ => by
    have a := asc_at o i hi
    refine .inl ⟨congrArg some (rowE_led o hi f), fun n hn => ?_⟩
    obtain ⟨h0, h1, h2⟩ := hn
    have h1 : n < numE cs chs i := h1
    rcases h2 with h2 | ⟨c, hc⟩
    · omega
    · obtain ⟨k1, k2⟩ := findK_mem hc
      obtain ⟨j, hj⟩ := List.mem_iff_getElem?.mp k1
      obtain ⟨v, _, h4, h5⟩ := st_fit f a hj
      have e : valAt cs chs i es n 0 = v := by
        unfold valAt
        rw [if_pos h1, ← h4, k2]
        rfl
      rw [e]
      exact isVal_mis (isVal_in h5)
  | t + 1, ht => by
    have hc : chs[i + t]? = some chs[i + t] := List.getElem?_eq_getElem (by omega)
    generalize chs[i + t] = ch at hc
    obtain ⟨ft, hz⟩ := o.f (i + t) _ hc
    have g := o.f.good o.g (i + t) (by omega)
    have hmono : numE cs chs (i + t) ≤ numE cs chs (i + (t + 1)) := numE_mono (by omega)
    rcases row_led o hi f t (by omega) with ⟨h1, h2⟩ | ⟨h1, n, h2, h3⟩
    · have hrow := folTo_row o (rowE_row f) t (by omega) _ h1
      have hfs := folTo_succ h1 hc
      rw [hfs]
      have relc : ∀ c ∈ colsE cs chs (i + t), Rel cs chs i c.num t := fun c hcm => by
        refine ⟨(g.ok c hcm).1.nu, (g.ok c hcm).2, ?_⟩
        rcases Int.lt_or_le c.num (numE cs chs i) with q | q
        · refine .inr ?_
          cases e : colE cs chs i c.num with
          | some d => exact ⟨d, rfl⟩
          | none =>
            have := gone_stays o e q t (by omega)
            have h9 : colE cs chs (i + t) c.num = some c := asc_find (asc_at o (i + t) (by omega)) hcm
            rw [h9] at this
            cases this
        · exact .inl q
      have hmap : (rowF (fun c => valAt cs chs i es c.num t) (colsE cs chs (i + t))).map (·.2) = (colsE cs chs (i + t)).map (fun c => valAt cs chs i es c.num t) := by
        unfold rowF
        rw [List.map_map]
        rfl
      have stepc : ∀ c ∈ colsE cs chs (i + t), valAt cs chs i es c.num (t + 1) = chgV c.name ch (valAt cs chs i es c.num t) := fun c hcm => by
        obtain ⟨r0, r1, r2⟩ := relc c hcm
        rw [valAt_succ o r0 hc r1]
        unfold stepN
        rw [if_neg (by rw [h2 _ (relc c hcm)]; decide)]
        have h9 : (colsE cs chs (i + t)).find? (isK c.num) = some c := asc_find (asc_at o (i + t) (by omega)) hcm
        rw [h9]
      by_cases hb : ∃ c ∈ colsE cs chs (i + t), isMis (chgV c.name ch (valAt cs chs i es c.num t)) = true
      · obtain ⟨c, hcm, hm⟩ := hb
        refine .inr ⟨?_, c.num, ?_, by rw [stepc c hcm]; exact hm⟩
        · unfold rowThen
          obtain ⟨j, hj⟩ := List.mem_iff_getElem?.mp hcm
          rw [hmap, go_barred (i := j) (c := c) (v := valAt cs chs i es c.num t) hj (by rw [List.getElem?_map, hj]; rfl) hm]
          rfl
        · obtain ⟨r0, r1, r2⟩ := relc c hcm
          exact ⟨r0, by omega, r2⟩
      · have free : ∀ c ∈ colsE cs chs (i + t), isMis (chgV c.name ch (valAt cs chs i es c.num t)) = false := fun c hcm => by
          cases hm : isMis (chgV c.name ch (valAt cs chs i es c.num t)) with
          | false => rfl
          | true => exact absurd ⟨c, hcm, hm⟩ hb
        obtain ⟨acc, hgo⟩ := go_free (ch := ch) (cs := colsE cs chs (i + t)) (vs := (colsE cs chs (i + t)).map (fun c => valAt cs chs i es c.num t)) (acc := []) fun j c v q1 q2 => by
          rw [List.getElem?_map, q1] at q2
          obtain rfl := Option.some.inj q2
          exact free c (List.mem_of_getElem? q1)
        have hthen : rowThen (colsE cs chs (i + t)) ch (rowF (fun c => valAt cs chs i es c.num t) (colsE cs chs (i + t))) = some (endR ch acc) := by
          unfold rowThen
          rw [hmap, hgo]
          rfl
        have hgive := rowThen_give g ft hz hrow hthen
        -- a new number
        have newv : ∀ c ∈ newR ch (numE cs chs (i + t)), lastR ch = [(Sum.inr c.name, c.dflt)] ∧ valAt cs chs i es c.num (t + 1) = c.dflt ∧ isVal c.dflt = true := fun c hcn => by
          cases ch with
          | add nm gr d =>
            have e := List.mem_singleton.mp hcn
            subst e
            have f2 : isVal d = true := (Bool.and_eq_true_iff.mp (Bool.and_eq_true_iff.mp (show (isNm (.str nm) && (isGr (.int gr) && isVal d)) = true from ft)).2).2
            refine ⟨rfl, ?_, f2⟩
            show valAt cs chs i es (numE cs chs (i + t)) (t + 1) = d
            have hn0 := g.nn
            have hin : ¬ numE cs chs (i + t) < numE cs chs i := by
              have := numE_mono (cs := cs) (chs := chs) (show i ≤ i + t by omega)
              omega
            have e1 : numE cs chs (i + t + 1) = numE cs chs (i + t) + 1 := numE_succ hc
            have bi : BornIs cs chs (numE cs chs (i + t)) (i + t + 1) := ⟨by omega, fun j hj => numE_mono (by omega)⟩
            have hall : numE cs chs (i + t) < (atC cs chs).2 := by
              have := numE_mono (cs := cs) (chs := chs) (show i + t + 1 ≤ chs.length by omega)
              rw [numE_all] at this
              omega
            have eb : bornN cs chs (numE cs chs (i + t)) = i + t + 1 := (bornN_spec o hn0 hall).2.2.uniq bi
            have hm : (⟨nm, gr, d, numE cs chs (i + t)⟩ : Col) ∈ colsE cs chs (i + t + 1) := by
              rw [colsE_succ hc]
              exact List.mem_append_right _ (List.mem_singleton.mpr rfl)
            have hf : colE cs chs (i + t + 1) (numE cs chs (i + t)) = some ⟨nm, gr, d, numE cs chs (i + t)⟩ := asc_find (asc_at o (i + t + 1) (by omega)) hm
            unfold valAt
            rw [if_neg hin, eb, show i + (t + 1) - (i + t + 1) = 0 by omega]
            show dfltB cs chs (numE cs chs (i + t)) = d
            unfold dfltB
            rw [eb, hf]
          | _ => cases hcn
        refine .inl ⟨?_, fun n hn => ?_⟩
        · rw [hthen, hgive, hmap, show i + (t + 1) = i + t + 1 from rfl, colsE_succ hc, behind_flat]
          congr 1
          rw [give_rowF (f' := fun c => valAt cs chs i es c.num (t + 1)) fun c hcm c' hc' => by
            show valAt cs chs i es c'.num (t + 1) = _
            rw [colR_num c' hc']
            exact stepc c hcm]
          unfold rowF
          rw [List.map_append]
          congr 1
          cases hk : newR ch (numE cs chs (i + t)) with
          | nil =>
            cases ch with
            | add _ _ _ => cases hk
            | _ => rfl
          | cons c r =>
            have hmem : c ∈ newR ch (numE cs chs (i + t)) := by rw [hk]; exact List.mem_cons_self
            obtain ⟨k1, k2, _⟩ := newv c hmem
            have hr : r = [] := by
              cases ch with
              | add _ _ _ => exact (List.cons.inj hk).2.symm
              | _ => cases hk
            rw [hr, k1]
            show [(Sum.inr c.name, c.dflt)] = [(Sum.inr c.name, valAt cs chs i es c.num (t + 1))]
            rw [k2]
        · obtain ⟨r0, r1, r2⟩ := hn
          rcases Int.lt_or_le n (numE cs chs (i + t)) with q | q
          · have hrel : Rel cs chs i n t := ⟨r0, q, r2⟩
            have hm := h2 n hrel
            rw [valAt_succ o r0 hc q]
            unfold stepN
            rw [if_neg (by rw [hm]; decide)]
            cases e : (colsE cs chs (i + t)).find? (isK n) with
            | none => exact hm
            | some c =>
              obtain ⟨k1, k2⟩ := findK_mem e
              have := free c k1
              rw [k2] at this
              exact this
          · have e1 : numE cs chs (i + (t + 1)) = numThen ch (numE cs chs (i + t)) := numE_succ hc
            rw [e1] at r1
            cases ch with
            | add nm gr d =>
              have r1 : n < numE cs chs (i + t) + 1 := r1
              obtain ⟨_, k2, k3⟩ := newv ⟨nm, gr, d, numE cs chs (i + t)⟩ (List.mem_singleton.mpr rfl)
              have en : n = numE cs chs (i + t) := by omega
              rw [en, k2]
              exact isVal_mis k3
            | _ =>
              have r1 : n < numE cs chs (i + t) := r1
              omega
    · obtain ⟨r0, r1, r2⟩ := h2
      refine .inr ⟨folTo_none h1 1, n, ⟨r0, by omega, r2⟩, ?_⟩
      rw [valAt_succ o r0 hc r1, stepN_mis h3]
      exact h3
end

/-! history.born(number) -/
def sp_Hist_born (K : PySem.W.Frag) : Sp := fun vs H Q _ => ∃ (h : Addr) (cs : List Col) (chs : List Ch) (n : Int), vs = [.ref h, .int n] ∧ HistAt K H h cs chs ∧ HistOk cs chs ∧ 0 ≤ n ∧ n < (atC cs chs).2 ∧ Q (.int (bornN cs chs n : Nat)) H
theorem ok_Hist_born (T : Tx K mg) : ∃ fd, FnOk P w K mg base CX0 3 (He.ma K (He.ga K "History") "born") fd ["self", "number"] (sp_Hist_born K) ∧ Binds K fd ["self", "number"] [] := by
  have C1 := ok_is_given (P := P) (w := w) (base := base) T
  refine mkMeth (fd_History_born T) sc_History_born (fun _ _ _ _ _ _ us hl => match us, hl with | [_, _], _ => rfl) (fun vs H Q E h => ?_) (fun cdv A outer s H vs Q E hr h => ?_)
  · obtain ⟨h, cs, chs, n, rfl, _⟩ := h
    rfl
  obtain ⟨h, cs, chs, n, rfl, hq, o, h0, h1, k⟩ := h
  obtain ⟨dx, e, c, b, d, es, ts, hh, he, hE, hc, hC, hb, hd⟩ := id hq
  obtain ⟨hb1, hb2, hb3⟩ := bornN_spec o h0 h1
  refine ⟨_, (pss_cons (ps_if (pt_not (pt_val (pcall C1 hr (pa_cons (pv 0) (pa_cons (pv 1) pa_nil))))) (pss_one ps_never) pss_nil)
        (pss_one (ps_ret (pe_ix ix_list (pe_fld (pv 0) rfl) (pv 1) (fun _ _ => rfl))))), ?_⟩
  refine ⟨_, rfl, _, rfl, h, cs, chs, n, rfl, hq, o, _, rfl, ?_⟩
  rw [decide_eq_true h0, decide_eq_true h1]
  refine iteF (nxt ⟨_, rfl, h, _, dx, _, _, rfl, hh, cl_History T, na_History__births T, histFs_births, _, rfl, b, _, n, _, rfl, rfl, sqL_of hb, ix_int h0 (by rw [List.getElem?_map, hb1]; rfl), k⟩)
/-! history.dropped(number) -/
def sp_Hist_dropped (K : PySem.W.Frag) : Sp := fun vs H Q _ => ∃ (h : Addr) (cs : List Col) (chs : List Ch) (n : Int), vs = [.ref h, .int n] ∧ HistAt K H h cs chs ∧ HistOk cs chs ∧ 0 ≤ n ∧ n < (atC cs chs).2 ∧ ∀ v, DropIs cs chs n chs.length v → Q v H
theorem ok_Hist_dropped (T : Tx K mg) : ∃ fd, FnOk P w K mg base CX0 3 (He.ma K (He.ga K "History") "dropped") fd ["self", "number"] (sp_Hist_dropped K) ∧ Binds K fd ["self", "number"] [] := by
  have C1 := ok_is_given (P := P) (w := w) (base := base) T
  refine mkMeth (fd_History_dropped T) sc_History_dropped (fun _ _ _ _ _ _ us hl => match us, hl with | [_, _], _ => rfl) (fun vs H Q E h => ?_) (fun cdv A outer s H vs Q E hr h => ?_)
  · obtain ⟨h, cs, chs, n, rfl, _⟩ := h
    rfl
  obtain ⟨h, cs, chs, n, rfl, hq, o, h0, h1, k⟩ := h
  obtain ⟨dx, e, c, b, d, es, ts, hh, he, hE, hc, hC, hb, hd⟩ := id hq
  obtain ⟨v, hv1, hv2⟩ := drop_at o h0 h1
  refine ⟨_, (pss_cons (ps_if (pt_not (pt_val (pcall C1 hr (pa_cons (pv 0) (pa_cons (pv 1) pa_nil))))) (pss_one ps_never) pss_nil)
        (pss_one (ps_ret (pe_ix ix_list (pe_fld (pv 0) rfl) (pv 1) (fun _ _ => rfl))))), ?_⟩
  refine ⟨_, rfl, _, rfl, h, cs, chs, n, rfl, hq, o, _, rfl, ?_⟩
  rw [decide_eq_true h0, decide_eq_true h1]
  refine iteF (nxt ⟨_, rfl, h, _, dx, _, _, rfl, hh, cl_History T, na_History__drops T, histFs_drops, _, rfl, d, _, n, v, rfl, rfl, sqL_of hd, ix_int h0 hv1, k v hv2⟩)
/-! history.behind(edition) -/
theorem cutV_from {xs : List V} {m : Nat} (h : m ≤ xs.length) : cutV xs (some (m : Nat)) none = xs.drop m := by
  have e : HT.sIx xs.length 0 (some ((m : Nat) : Int)) = m := by
    unfold HT.sIx
    simp
    split <;> omega
  unfold cutV
  rw [e]
  have e2 : HT.sIx xs.length xs.length none = xs.length := rfl
  rw [e2]
  exact List.take_of_length_le (by rw [List.length_drop]; exact Nat.le_refl _)
theorem Chs.drop {K : PySem.W.Frag} {H : Hp} : ∀ {as : List Addr} {cs : List Ch} (m : Nat), Chs K H as cs → Chs K H (as.drop m) (cs.drop m)
  | _, _, 0, h => h
  | _, _, _ + 1, .nil => .nil
  | _, _, m + 1, .cons _ t => t.drop m
def sp_Hist_behind (K : PySem.W.Frag) : Sp := fun vs H Q _ => ∃ (h : Addr) (cs : List Col) (chs : List Ch) (m : Nat), vs = [.ref h, .int (m : Nat)] ∧ HistAt K H h cs chs ∧ chs.length ≤ 1000 ∧ m ≤ chs.length ∧
  ∀ (l : Addr) (ts : List Addr) (H' : Hp), H l = none → Same H H' → H' l = some (.lst (ts.map V.ref)) → Chs K H' ts (chs.drop m) → Q (.ref l) H'
theorem ok_Hist_behind (T : Tx K mg) : ∃ fd, FnOk P w K mg base CX0 4 (He.ma K (He.ga K "History") "behind") fd ["self", "edition"] (sp_Hist_behind K) ∧ Binds K fd ["self", "edition"] [] := by
  have C1 := ok_is_edition (P := P) (w := w) (base := base) T
  refine mkMeth (fd_History_behind T) sc_History_behind (fun _ _ _ _ _ _ us hl => match us, hl with | [_, _], _ => rfl) (fun vs H Q E h => ?_) (fun cdv A outer s H vs Q E hr h => ?_)
  · obtain ⟨h, cs, chs, m, rfl, _⟩ := h
    rfl
  obtain ⟨h, cs, chs, m, rfl, hq, few, hm, k⟩ := h
  obtain ⟨dx, e, c, b, d, es, ts, hh, he, hE, hc, hC, hb, hd⟩ := id hq
  refine ⟨_, (pss_cons (ps_if (pt_not (pt_val (pcall C1 hr (pa_cons (pv 0) (pa_cons (pv 1) pa_nil))))) (pss_one ps_never) pss_nil)
        (pss_one (ps_ret (pe_slice sl_list (pe_fld (pv 0) rfl) (po_some (pv 1)) po_none)))), ?_⟩
  refine ⟨_, rfl, _, rfl, h, cs, chs, _, _, rfl, hq, few, .base (.int _), _, rfl, ?_⟩
  rw [isEd_nat' hm]
  refine iteF (nxt ⟨_, rfl, h, _, dx, _, _, rfl, hh, cl_History T, na_History__changes T, histFs_changes, _, rfl, _, rfl, c, _, rfl, sqL_of hc, fun l nl => ?_⟩)
  have hl := hC.len
  rw [cutV_from (by rw [List.length_map]; omega), ← List.map_drop]
  exact k l (ts.drop m) _ nl (same_new nl) upd_same ((hC.drop m).keep (same_new nl))
/-! enumerate(xs, start = k) -/
theorem callWith_typeKw {M : Model} {A : Around} {E : Value → Shared → Prop} {s : Shared} {pos : Pos} {T : String} {first : List Value} {args : List (Bool × Sem Value)} {keywords : List (Option Str × Sem Value)} {Q : Value → Shared → Prop}
    (hplain : args.any (·.1) = false) (hkw : keywords.any (·.1.isNone) = false)
    (h : wpAny M A (evalArgs (.type T) true args keywords) (fun a s₁ => wpAny M A (call (.type T) (first ++ a.pos) a.kw) Q E s₁) E s) :
    wpAny M A (callWith pos (.type T) first args keywords) Q E s := by
  unfold callWith
  refine wpAny_bind (wpAny_holding (wpAny_mono h (fun a s₁ h₁ => wpAny_bind (wpAny_standAt ?_)) fun _ _ x => x))
  simp only [hplain, hkw, Bool.or_false]
  refine wpAny_bind (wpAny_pure ?_)
  exact wpAny_bind (wpAny_mono h₁ (fun r s₂ hr => wpAny_bind (wpAny_holding (wpAny_point (wpAny_pure hr)))) fun _ _ x => x)
/-- the list at a as it stands at each turn, each item in a new pair, counted from k on -/
def Ites (K : PySem.W.Frag) (a : Addr) (k : Int) : It :=
  ⟨fun i H => ∃ (xs : List V) (x : V), SqL K H a xs ∧ xs[i]? = some x, fun i H v H' => ∃ T x, v = .ref T ∧ H T = none ∧ H' = upd H T (.tup [.int (k + (i : Nat)), x]) ∧ ∀ xs, SqL K H a xs → xs[i]? = some x, fun i H => ∃ xs : List V, SqL K H a xs ∧ xs.length = i⟩
theorem turn_enumS {P : Program} {w : World} {K : PySem.W.Frag} {elts : List Expr} {kk : Nat} {tpos : Pos} (a e it : Addr) (k : Int) :
    Turn P w K (.Tuple elts kk tpos) (Ites K a k) [e, it] e (fun i h => (∃ old, IsEnum h e it (k + ((i : Nat) : Int)) old) ∧ h.IsListIter it a i ∧ e ≠ it) where
  mem := by simp
  obj := fun i h st b hb => by
    obtain ⟨⟨old, he⟩, ⟨o, ho, hc, hd⟩, _⟩ := st
    have e' : b = e ∨ b = it := by simpa using hb
    rcases e' with z | z
    · rw [z]; exact ⟨_, he, fun v q => nomatch q⟩
    · rw [z]; exact ⟨o, ho, fun v q => by rw [hd] at q; cases q⟩
  keep := fun i h h' st kp => let ⟨⟨old, he⟩, hi, hne⟩ := st; ⟨⟨old, kp e (by simp) _ he⟩, hi.at fun o q => kp it (by simp) o q, hne⟩
  item := by
    intro X hP hw hK hc i pins s σ H E I hf st hg
    subst hP hw hK
    obtain ⟨⟨old, he⟩, hit, hne⟩ := st
    obtain ⟨xs, x, hq, hx⟩ := hg
    obtain ⟨its, rv, p, hz⟩ := I.list hq
    obtain ⟨u, hu, ru⟩ := rv.get hx
    have hel : e < s.heap.objs.size := Heap.lt_size he
    have hil : it < s.heap.objs.size := by obtain ⟨_, q, _⟩ := hit; exact Heap.lt_size q
    have apart : ∀ b o, s.heap.get? b = some o → (∀ q : Value, o.cls = q → q ≠ .type "list") → b ≠ a := fun b o h1 h2 z => by
      obtain ⟨o1, q1, q2, _⟩ := p.isList
      rw [← z, h1] at q1
      exact h2 _ rfl (by rw [Option.some.inj q1]; exact q2)
    have hea : e ≠ a := apart e _ he fun q e1 e2 => by rw [← e1] at e2; exact absurd (Value.type.inj e2) (by decide)
    have hai : it ≠ a := by
      obtain ⟨o, q1, q2, q3⟩ := hit
      exact apart it o q1 fun q e1 e2 => by rw [← e1, q2] at e2; exact absurd (Value.type.inj e2) (by decide)
    have hsz : i < its.toArray.size := (Array.getElem?_eq_some_iff.mp (show its.toArray[i]? = some u by simpa using hu)).1
    refine wpAny_pyNext_enum_itemC (c := k + (i : Nat)) (Draws.list (A := X.A.in1) (I.ok.hd hc) it a hai.symm its.toArray) he ⟨hit, p.isList⟩ hsz hne (by simp [hne, hea]) fun x' h' tk hx' ho ⟨hit', _⟩ hT hsz hk => ?_
    obtain rfl : u = x' := Option.some.inj ((show its.toArray[i]? = some u by simpa using hu).symm.trans hx')
    refine ⟨_, rfl, wpAny_letOwnedTupleGo_enum (s := { s with heap := h', toks := tk + 1 }) ho fun h'' he' sb => ?_⟩
    have hT2 : h''.get? s.heap.objs.size = some { cls := .type "tuple", data := .seq #[.int (k + (i : Nat)) tk, u] } := (sb.2 _ (Nat.ne_of_gt hel)).trans hT
    have new : ObjOk X.prog X.w (upd H s.heap.objs.size (.tup [.int (k + (i : Nat)), x])) h'' s.heap.objs.size (.tup [.int (k + (i : Nat)), x]) :=
      ⟨by show 2 ≤ sizeLine; decide, [.int (k + (i : Nat)) tk, u], .cons ⟨_, rfl⟩ (.cons ru .nil), ⟨_, hT2, rfl, _, rfl⟩⟩
    have I1 : Inv X pins σ (upd H s.heap.objs.size (.tup [.int (k + (i : Nat)), x])) { s with heap := h'', toks := tk + 1 } :=
      I.turnedNew (ch := [e, it]) (fun b ob hb q => (sb.2 b (fun z => hb (by simp [z]))).trans (hk b ob (fun z => hb (by simp [z])) (fun z => hb (by simp [z])) q)) hf (Nat.le_refl _) new
    refine ⟨.ref s.heap.objs.size, _, I1, rfl, ⟨_, x, rfl, I.hok.fresh (Nat.le_refl _), rfl, fun ys hy => by rw [I.list_inj hy hq]; exact hx⟩, ⟨⟨u, ?_⟩, hit'.at fun o q => (sb.2 it (Ne.symm hne)).trans q, hne⟩, fun b hb => ?_⟩
    · have e1 : k + ((i + 1 : Nat) : Int) = k + (i : Int) + 1 := by omega
      rw [e1]; exact he'
    · have hb' : b < s.heap.objs.size := by
        have e' : b = e ∨ b = it := by simpa using hb
        rcases e' with z | z
        · rw [z]; exact hel
        · rw [z]; exact hil
      rw [upd_ne (Nat.ne_of_lt hb')]
      exact (hf b hb).1
  done := by
    intro X hP hw hK hc i pins s σ H E I hf st hg
    subst hP hw hK
    obtain ⟨⟨old, he⟩, hit, hne⟩ := st
    obtain ⟨xs, hq, hx⟩ := hg
    obtain ⟨its, rv, p, hz⟩ := I.list hq
    obtain ⟨f0, f1, f2, f3, f4, f5⟩ := hf it (by simp)
    have hl := rv.length
    have hai : it ≠ a := by
      obtain ⟨o, q1, q2, q3⟩ := hit
      obtain ⟨o1, r1, r2, _⟩ := p.isList
      intro z
      rw [z, r1] at q1
      rw [← Option.some.inj q1, r2] at q2
      exact absurd (Value.type.inj q2) (by decide)
    have hn : its.toArray.size = i := by simp; omega
    exact wpAny_pyNext_enum_endD (Draws.list (A := X.A.in1) (I.ok.hd hc) it a hai.symm its.toArray) he ⟨by rw [hn]; exact hit, p.isList⟩ fun h' eb => ⟨rfl, I.turned (t' := s.toks) (fun b o hb q => eb b o hb q) f0 f1 f3 f4 f5⟩
  self := fun A i s Q E st h => let ⟨⟨_, he⟩, _⟩ := st; wpAny_pyIter_enum he h
def iEnumS (K : PySem.W.Frag) (ta tk : TA) : TI := fun σ H R => ta σ H fun vs H1 => tk σ H1 fun zs H2 => ∃ a xs k, vs = [.ref a] ∧ zs = [.int k] ∧ (-(2 ^ 63) ≤ k ∧ k < 2 ^ 63) ∧ SqL K H2 a xs ∧ R (Ites K a k) H2
theorem pi_enumS {X : Cx} {e : Expr} {ta tk : TA} {p pos tpos : Pos} {elts : List Expr} {kk : Nat} {kws : List Keyword} (hg : Gl X "enumerate") (hm : X.mg "enumerate" = none) (ha : PA X [e] ta) (hkw : PK X kws tk)
    (hall : (backToKw pos (keywordEach kws X.env)).all (·.1.isSome) = true := by rfl) (hks : (backToKw pos (keywordEach kws X.env)).filterMap (·.1) = [Str.ofString "start"] := by rfl)
    (hpl : (backTo pos (starEach [e] X.env)).any (·.1) = false := by rfl) (hpk : (backToKw pos (keywordEach kws X.env)).any (·.1.isNone) = false := by rfl) (hs : starEach [e] X.env = (false, eval e X.env) :: starEach [] X.env := by rfl) :
    PI X (.Tuple elts kk tpos) (.Call (.Name "enumerate" p) [e] kws pos) (iEnumS X.K ta tk) := by
  refine ⟨fun pins s σ H R I h => ?_⟩
  refine wpAny_Call_Name_kw (ld_blt I hg hm boot_enumerate ?_)
  refine callWith_typeKw (first := []) hpl hpk (evalArgs_kw2 hall (thn (ha.run pos pins s σ H _ I h) fun us s1 ⟨vs, H1, I1, r1, q1⟩ => thn (hkw.run pos pins s1 σ H1 _ I1 q1) fun ws s2 ⟨zs, H2, I2, r2, q2⟩ => ?_) hs)
  obtain ⟨a, xs, k, ex, ez, hk0, hq, q⟩ := q2
  subst ex
  subst ez
  obtain ⟨u, rfl, ru⟩ := r1.one
  obtain ⟨z, rfl, rz⟩ := r2.one
  cases ru
  obtain ⟨t, rfl⟩ := (show ∃ t, z = Value.int k t from rz)
  rw [hks]
  obtain ⟨its, rv, p', hz⟩ := I2.list hq
  refine enum_begins_start (begins_list a _) p'.isList hk0.1 hk0.2 fun h' he hit hsz hkp => wpAny_pyIter_enum he ?_
  have I3 : Inv X pins σ H2 { s2 with heap := h' } := I2.kept (t' := s2.toks) hkp
  refine ⟨s2.heap.objs.size + 1, [s2.heap.objs.size + 1, s2.heap.objs.size], _, _, H2, rfl, I3, turn_enumS a (s2.heap.objs.size + 1) s2.heap.objs.size k, ⟨⟨.none, by rw [show k + ((0 : Nat) : Int) = k by omega]; exact he⟩, ⟨_, hit, rfl, rfl⟩, Nat.succ_ne_self _⟩, fun b hb => ?_, q⟩
  have e' : b = s2.heap.objs.size + 1 ∨ b = s2.heap.objs.size := by simpa using hb
  have hle : s2.heap.objs.size ≤ b := by
    rcases e' with z | z
    · rw [z]; exact Nat.le_add_right _ _
    · rw [z]; exact Nat.le_refl _
  exact I2.fpOk hle (I2.hok.fresh hle)
theorem walk_enumS {K : PySem.W.Frag} {a : Addr} {xs : List V} {k : Int} : Walk (Ites K a k) xs.length (fun H => SqL K H a xs) (YPair (fun i => some (.int (k + (i : Nat)))) (fun i => xs[i]?)) := by
  refine ⟨fun i _ hi q => ⟨xs, xs[i], q, by simp [hi]⟩, fun _ q => ⟨xs, q, rfl⟩, fun i H v H' _ q y => ?_⟩
  obtain ⟨T, x, h1, h2, h3, h4⟩ := y
  exact ⟨T, .int (k + (i : Nat)), x, h1, h2, h3, rfl, h4 xs q⟩

/-! o.m(e, .., k = v, ..): a method called with keywords -/
def tMethN (C : Addr) (m : Str) (n k : Nat) (sp : Sp) (gV : List V → List V → List V) (E : XK) (ta : TE) (t tk : TA) : TE := fun σ H Q => ta σ H fun x H1 => ∃ a dx fs, x = .ref a ∧ H1 a = some (.ins C dx fs) ∧ fs.lookup m = none ∧
  t σ H1 fun vs H2 => tk σ H2 fun zs H3 => vs.length + 1 = n ∧ zs.length = k ∧ sp (gV (.ref a :: vs) zs) H3 Q E
section
variable {X : Cx} {CX : CXT} {k n : Nat} {f C : Addr} {fd : FuncData} {ps ks : List Str} {sp : Sp} {E : XK} {m : Str} {apos pos : Pos} {o e : Expr} {es : List Expr} {kws : List Keyword} {ta : TE} {t tk : TA} {g : List Value → List Value → List Value} {gV : List V → List V → List V}
theorem pe_methN {pl : Sem Bool} (he : PE X o ta) (c : Cls X.K C) (hm : Meth X.K C m f) (F : FnOk X.prog X.w X.K X.mg X.base CX k f fd ps sp) (hr : Room k X.A) (hb : KBn X.K fd ps n ks g gV) (hx : Passes CX X E) (ha : PA X (e :: es) t) (hkw : PK X kws tk)
    (hall : (backToKw pos (keywordEach kws X.env)).all (·.1.isSome) = true := by rfl) (hks : (backToKw pos (keywordEach kws X.env)).filterMap (·.1) = ks := by rfl)
    (hst : starEach (e :: es) X.env = (false, eval e X.env) :: starEach es X.env := by rfl)
    (hpl : ((backTo pos (starEach (e :: es) X.env)).any (·.1) || (backToKw pos (keywordEach kws X.env)).any (·.1.isNone)) = false := by rfl)
    (ht : eval (.Call (.Attribute o m apos) (e :: es) kws pos) X.env = (do
      let ov ← eval o X.env
      standAt apos.atName
      let (f, first) ← holding [ov] (getMethod ov m pl)
      callWith pos f first (backTo pos (starEach (e :: es) X.env)) (backToKw pos (keywordEach kws X.env))) := by rfl) :
    PE X (.Call (.Attribute o m apos) (e :: es) kws pos) (tMethN C m n ks.length sp gV E ta t tk) := by
  refine ⟨fun pins s σ H Q I h => ?_⟩
  refine PySem.W.methodCall_KW (pl := pl) (thn (he.run pins s σ H _ I h) fun u s1 ⟨x, H1, I1, rx, a, dx, fs, ex, ea, l, q⟩ => ?_) ht
  subst ex
  obtain rfl : u = Value.ref a := rx
  refine getmeth_ok I1 ea c hm l ?_
  refine PySem.W.callWith_KW (first := [.ref a]) (h₀ := X.base) I.ok.mod.kin hm.kp hall (thn (ha.run pos pins s1 σ H1 _ I1 q) fun us s2 ⟨vs, H2, I2, r, q2⟩ => ?_) hpl hst
  refine thn (hkw.run pos pins s2 σ H2 _ I2 q2) fun ws s3 ⟨zs, H3, I3, rz, l1, l2, q3⟩ => ⟨I3.kIn, ?_⟩
  rw [hks]
  exact run_fnN (us := .ref a :: us) (vs := .ref a :: vs) F hr hb hx I3 (.cons rfl r) rz l1 l2 q3
end

/-! changes_of: the changes of a column behind an edition, while it is there -/
/-- the steps of the number n from the edition s on, by so many changes -/
def stepsK (cs : List Col) (chs : List Ch) (n : Int) (s : Nat) : Nat → List (Col × Ch)
  | 0 => []
  | k + 1 => stepsK cs chs n s k ++ match colE cs chs (s + k) n, chs[s + k]? with
    | some c, some ch => if ch.name = c.name then [(c, ch)] else []
    | _, _ => []
/-- pairs of a Column and its change, at the addresses -/
def PairsAt (K : PySem.W.Frag) (H : Hp) (ps : List Addr) (xs : List (Col × Ch)) : Prop := ps.length = xs.length ∧ ∀ (j : Nat) (p : Addr) (x : Col × Ch), ps[j]? = some p → xs[j]? = some x → ∃ a t : Addr, SqT K H p [.ref a, .ref t] ∧ ColA K H a x.1 ∧ ChAt K H t x.2
theorem PairsAt.keep {K : PySem.W.Frag} {H H' : Hp} {ps : List Addr} {xs : List (Col × Ch)} (s : Same H H') (h : PairsAt K H ps xs) : PairsAt K H' ps xs := ⟨h.1, fun j p x h1 h2 => by
  obtain ⟨a, t, q1, ⟨dx, q2⟩, q3⟩ := h.2 j p x h1 h2
  exact ⟨a, t, same_tup s q1, ⟨dx, s _ _ q2⟩, same_tup s q3⟩⟩
theorem PairsAt.keepL {K : PySem.W.Frag} {H H' : Hp} {ps : List Addr} {xs : List (Col × Ch)} (s : KeepNL H H') (h : PairsAt K H ps xs) : PairsAt K H' ps xs := ⟨h.1, fun j p x h1 h2 => by
  obtain ⟨a, t, q1, ⟨dx, q2⟩, q3⟩ := h.2 j p x h1 h2
  exact ⟨a, t, sqT_keepNL s q1, ⟨dx, s _ _ (fun _ z => by cases z) q2⟩, sqT_keepNL s q3⟩⟩
theorem PairsAt.snoc {K : PySem.W.Frag} {H : Hp} {ps : List Addr} {xs : List (Col × Ch)} {p a t : Addr} {c : Col} {ch : Ch} (h : PairsAt K H ps xs) (h1 : SqT K H p [.ref a, .ref t]) (h2 : ColA K H a c) (h3 : ChAt K H t ch) : PairsAt K H (ps ++ [p]) (xs ++ [(c, ch)]) := by
  refine ⟨by rw [List.length_append, List.length_append, h.1]; rfl, fun j q x e1 e2 => ?_⟩
  by_cases hj : j < ps.length
  · rw [List.getElem?_append_left hj] at e1
    rw [List.getElem?_append_left (by rw [← h.1]; exact hj)] at e2
    exact h.2 j q x e1 e2
  · have hl := (List.getElem?_eq_some_iff.mp e1).1
    rw [List.length_append] at hl
    have hl : j < ps.length + 1 := hl
    have hl2 := h.1
    obtain rfl : j = ps.length := by omega
    rw [List.getElem?_append_right (Nat.le_refl _), Nat.sub_self] at e1
    rw [List.getElem?_append_right (by omega), hl2, Nat.sub_self] at e2
    obtain rfl := Option.some.inj e1
    obtain rfl := Option.some.inj e2
    exact ⟨a, t, h1, h2, h3⟩
theorem stepsK_gone {cs : List Col} {chs : List Ch} (o : HistOk cs chs) {n : Int} {s k : Nat} (h : colE cs chs (s + k) n = none) (hn : n < numE cs chs (s + k)) : ∀ j, s + k + j ≤ chs.length → stepsK cs chs n s (k + j) = stepsK cs chs n s k
  | 0, _ => rfl
  | j + 1, hj => by
    show stepsK cs chs n s (k + j) ++ (match colE cs chs (s + (k + j)) n, chs[s + (k + j)]? with
      | some c, some ch => if ch.name = c.name then [(c, ch)] else []
      | _, _ => []) = _
    have g := gone_stays o h hn j (by omega)
    rw [Nat.add_assoc] at g
    rw [g, stepsK_gone o h hn j (by omega)]
    exact List.append_nil _
theorem stepsK_succ {cs : List Col} {chs : List Ch} {n : Int} {s k : Nat} {c : Col} {ch : Ch} (h : colE cs chs (s + k) n = some c) (h2 : chs[s + k]? = some ch) : stepsK cs chs n s (k + 1) = stepsK cs chs n s k ++ (if ch.name = c.name then [(c, ch)] else []) := by
  show stepsK cs chs n s k ++ (match colE cs chs (s + k) n, chs[s + k]? with
    | some c, some ch => if ch.name = c.name then [(c, ch)] else []
    | _, _ => []) = _
  rw [h, h2]
theorem stepsK_len {cs : List Col} {chs : List Ch} {n : Int} {s : Nat} : ∀ k, (stepsK cs chs n s k).length ≤ k
  | 0 => Nat.le_refl _
  | k + 1 => by
    show (stepsK cs chs n s k ++ _).length ≤ _
    rw [List.length_append]
    have := stepsK_len (cs := cs) (chs := chs) (n := n) (s := s) k
    split
    · split
      · show _ + 1 ≤ _
        omega
      · show _ + 0 ≤ _
        omega
    · show _ + 0 ≤ _
      omega
def sp_changes_of (K : PySem.W.Frag) : Sp := fun vs H Q _ => ∃ (h : Addr) (cs : List Col) (chs : List Ch) (n : Int) (m : Nat), vs = [.ref h, .int n, .int (m : Nat)] ∧ HistAt K H h cs chs ∧ HistOk cs chs ∧ m ≤ chs.length ∧ n < numE cs chs m ∧
  ∀ (l : Addr) (ps : List Addr) (H' : Hp), H l = none → Same H H' → H' l = some (.lst (ps.map V.ref)) → PairsAt K H' ps (stepsK cs chs n m (chs.length - m)) → Q (.ref l) H'
theorem ok_changes_of (T : Tx K mg) : Callee P w K mg base CX0 6 "changes_of" ["history", "number", "edition"] [] (sp_changes_of K) := by
  obtain ⟨fdB, FB, bB⟩ := ok_Hist_behind (P := P) (w := w) (base := base) T
  obtain ⟨fdN, FN, ⟨gN, kbN⟩, _⟩ := ok_Hist_by_number (P := P) (w := w) (base := base) T
  have cl := cl_History T
  have clc := cl_Column T
  refine mkCallee (fd_changes_of T) (mg_changes_of T) sc_changes_of (fun _ _ _ _ _ _ us hl => match us, hl with | [_, _, _], _ => rfl) (fun vs H Q E h => ?_) (fun cdv A outer s H vs Q E hr h => ?_)
  · obtain ⟨h, cs, chs, n, m, rfl, _⟩ := h
    rfl
  · obtain ⟨h, cs, chs, n, m, rfl, hh, o, hm, hn, k⟩ := h
    have nd := sc_changes_of.nd
    have hr4 : Room 4 _ := hr.mono (by decide)
    have hr5 : Room 5 _ := hr.mono (by decide)
    have few := o.few
    have hz : sizeLine = 16777216 := by decide
    refine ⟨_, (pss_cons (ps_set (i := 3) nd rfl (Or.inl rfl) (pe_lst pa_nil))
        (pss_cons (ps_for PassesOwn.never rfl (pi_enumS (by rfl) (fr_enumerate T) (pa_cons (pe_meth (pv 0) cl (me_History_behind T) FB hr4 bB .nil pass0 (pa_cons (pv 2) pa_nil)) pa_nil) (pk_cons (pv 2) pk_nil)) (pg_tup rfl (pgs_cons (pg_name (i := 4) nd rfl (Or.inl rfl)) (pgs_cons (pg_name (i := 5) nd rfl (Or.inl rfl)) pgs_nil))) (pss_cons (ps_set (i := 6) nd rfl (Or.inl rfl) (pe_methN (pv 0) cl (me_History_by_number T) FN hr5 kbN pass0 (pa_cons (pv 1) pa_nil) (pk_cons (pv 4) pk_nil)))
        (pss_cons (ps_if (pt_cmpR op_isN (pv 6) pe_non (nomark _)) (pss_one (ps_ret (pv 3))) pss_nil)
        (pss_one (ps_if (pt_cmpR op_eq (pe_ix ix_tup (pv 5) pe_int (fun _ _ => rfl)) (pe_fld (pv 6) rfl) (nomark _)) (pss_one (ps_expr (pe_bm PySem.F.plainAttrs_list PySem.F.slot_list_append PySem.F.type_list_append mt_append (pv 3) (pa_cons (pe_tup (pa_cons (pv 6) (pa_cons (pv 5) pa_nil))) pa_nil)))) pss_nil)))))
        (pss_one (ps_ret (pv 3))))), ?_⟩
    refine q_asgX ⟨by decide, fun f nf => ?_⟩
    have s0 : Same H (upd H f (.lst [])) := same_new nf
    have hf0 : upd H f (.lst []) f = some (.lst []) := upd_same
    generalize upd H f (.lst []) = H0 at s0 hf0 ⊢
    have hh0 := hh.keep s0
    obtain ⟨dx, fs, hi, no⟩ := histMx "behind" (by decide +kernel) hh0
    dsimp only
    refine ⟨_, rfl, h, dx, fs, rfl, hi, no, _, rfl, h, cs, chs, m, rfl, hh0, by omega, hm, fun l ts H1 nl s1 hl hts => ?_⟩
    refine ⟨_, rfl, l, ts.map V.ref, (m : Nat), rfl, rfl, ⟨by omega, by omega⟩, sqL_of hl, ?_⟩
    have s01 := s0.trans s1
    have hf1 := s1 _ _ hf0
    have nlf : l ≠ f := fun z => by rw [z, hf0] at nl; cases nl
    have tl : ts.length = chs.length - m := by rw [hts.len, List.length_drop]
    refine for_it (walk_enumS (xs := ts.map V.ref)) (fun i σ H' => ∃ (ps : List Addr) (x4 x5 x6 : Option V), σ = [some (.ref h), some (.int n), some (.int (m : Nat)), some (.ref f), x4, x5, x6] ∧ But f H1 H' ∧ H' f = some (.lst (ps.map V.ref)) ∧ PairsAt K H' ps (stepsK cs chs n m i)) ⟨[], none, none, none, rfl, But.refl _ _, hf1, ⟨rfl, fun j p x e => by simp at e⟩⟩ (fun i σ H' _ q => ?_) ?_ ?_
    · obtain ⟨_, _, _, _, _, b, _⟩ := q
      exact sqL_of (b _ _ nlf hl)
    · rintro i x σ H' H'' hi' ⟨ps, x4, x5, x6, rfl, b, hf, hp⟩ ⟨T1, x, y, rfl, nT, rfl, ex, ey⟩
      obtain rfl := Option.some.inj ex
      have ey : (ts.map V.ref)[i]? = some y := ey
      rw [List.getElem?_map] at ey
      have st : Same H' (upd H' T1 (.tup [.int ((m : Nat) + (i : Nat)), y])) := same_new nT
      have t2 : upd H' T1 (.tup [.int ((m : Nat) + (i : Nat)), y]) T1 = some (.tup [.int ((m : Nat) + (i : Nat)), y]) := upd_same
      have b2 := b.trans (But.of st)
      have hf2 := st _ _ hf
      have hp2 := hp.keep st
      generalize upd H' T1 (.tup [.int ((m : Nat) + (i : Nat)), y]) = H2 at t2 b2 hf2 hp2 ⊢
      cases ht : ts[i]? with
      | none =>
        rw [ht] at ey
        cases ey
      | some t =>
        rw [ht] at ey
        obtain rfl := Option.some.inj ey
        rw [List.length_map] at hi'
        obtain ⟨ch, hch, hca⟩ := hts.at_ ht
        rw [List.getElem?_drop] at hch
        have knl := KeepNL.ofBut hf1 b2
        have hca2 : ChAt K H2 t ch := sqT_keepNL knl hca
        have s02 : Same H H2 := But.same (b := b2) s01 nf
        have hh2 := hh.keep s02
        obtain ⟨dx2, fs2, hi2, no2⟩ := histMx "by_number" (by decide +kernel) hh2
        refine ⟨T1, _, rfl, sqT_of t2, rfl, _, _, rfl, _, _, rfl, rfl, ?_⟩
        dsimp only
        have em : ((m : Nat) : Int) + ((i : Nat) : Int) = ((m + i : Nat) : Int) := by omega
        rw [em]
        have hmi : m + i ≤ chs.length := by omega
        have hn2 : n < numE cs chs (m + i) := Int.lt_of_lt_of_le hn (numE_mono (by omega))
        refine q_asgX ⟨_, rfl, h, dx2, fs2, rfl, hi2, no2, _, rfl, _, rfl, rfl, rfl, h, cs, chs, n, .int ((m + i : Nat) : Int), rfl, hh2, by omega, .inr (isEd_nat' hmi), fun hno => ?_, fun a c hc hca' => ?_⟩
        · dsimp only
          have hno : colE cs chs (m + i) n = none := hno
          refine ⟨_, rfl, rfl, _, rfl, iteDT rfl ⟨_, rfl, k f ps H2 nf s02 hf2 ?_⟩⟩
          have := stepsK_gone o hno hn2 (chs.length - m - i) (by omega)
          rw [show i + (chs.length - m - i) = chs.length - m by omega] at this
          rw [this]
          exact hp2
        · dsimp only
          have hc : colE cs chs (m + i) n = some c := hc
          have hst := stepsK_succ hc hch
          obtain ⟨dxa, hat⟩ := hca'
          refine ⟨_, rfl, rfl, _, rfl, iteD (fun z => by cases z) (nxt ?_)⟩
          refine ⟨_, rfl, t, _, 1, .str ch.name, rfl, rfl, hca2, (by cases ch <;> rfl), _, rfl, a, _, dxa, _, _, rfl, hat, clc, na_Column_name T, colFs_name, rfl, _, rfl, ?_⟩
          by_cases he : ch.name = c.name
          · rw [if_pos he] at hst
            rw [he, decide_eq_true rfl]
            refine iteT ⟨_, rfl, .inl ⟨rfl, _, sqL_of hf2⟩, _, rfl, _, rfl, by show 2 ≤ sizeLine; decide, fun q nq => ?_⟩
            have sq : Same H2 (upd H2 q (.tup [.ref a, .ref t])) := same_new nq
            have hq3 : upd H2 q (.tup [.ref a, .ref t]) q = some (.tup [.ref a, .ref t]) := upd_same
            have hf3 := sq _ _ hf2
            have b3 := b2.trans (But.of sq)
            have hp3 := hp2.keep sq
            have hat3 := sq _ _ hat
            have hca3 : ChAt K (upd H2 q (.tup [.ref a, .ref t])) t ch := same_tup sq hca2
            generalize upd H2 q (.tup [.ref a, .ref t]) = H3 at hq3 hf3 b3 hp3 hat3 hca3 ⊢
            have kl : KeepNL H3 (upd H3 f (.lst (ps.map V.ref ++ [.ref q]))) := KeepNL.lst hf3
            have hpl := hp.1
            have hsl := stepsK_len (cs := cs) (chs := chs) (n := n) (s := m) i
            refine ⟨f, _, _, rfl, rfl, hf3, by rw [List.length_map]; omega, ?_⟩
            refine ⟨ps ++ [q], _, _, _, rfl, b3.trans But.mut, by rw [upd_same, List.map_append]; rfl, ?_⟩
            rw [hst]
            refine (hp3.keepL kl).snoc (sqT_keepNL kl (sqT_of hq3)) ⟨dxa, kl _ _ (fun _ z => by cases z) hat3⟩ (sqT_keepNL kl hca3)
          · rw [if_neg he, List.append_nil] at hst
            rw [decide_eq_false (nes he)]
            refine iteF (nxt ⟨ps, _, _, _, rfl, b2, hf2, by rw [hst]; exact hp2⟩)
    rintro σ H2 ⟨ps, x4, x5, x6, rfl, b, hf, hp⟩
    rw [List.length_map, tl] at hp
    exact ⟨_, rfl, k f ps H2 nf (But.same b s01 nf) hf hp⟩
/-! a value led through the changes of its column -/
def ledF (xs : List (Col × Ch)) (v : V) : V := xs.foldl (fun w x => if isMis w = true then w else chgV x.1.name x.2 w) v
theorem ledF_app {xs ys : List (Col × Ch)} {v : V} : ledF (xs ++ ys) v = ledF ys (ledF xs v) := List.foldl_append ..
theorem ledF_mis : ∀ {xs : List (Col × Ch)} {v : V}, isMis v = true → ledF xs v = v
  | [], _, _ => rfl
  | x :: xs, v, h => by
    show ledF xs (if isMis v = true then v else chgV x.1.name x.2 v) = v
    rw [if_pos h]
    exact ledF_mis h
theorem ledF_take {xs : List (Col × Ch)} {v : V} {i : Nat} {x : Col × Ch} (h : xs[i]? = some x) (hm : isMis (ledF (xs.take i) v) = false) : ledF (xs.take (i + 1)) v = chgV x.1.name x.2 (ledF (xs.take i) v) := by
  rw [List.take_add_one, h, ledF_app]
  show (if isMis (ledF (xs.take i) v) = true then ledF (xs.take i) v else chgV x.1.name x.2 (ledF (xs.take i) v)) = _
  rw [if_neg (by rw [hm]; decide)]
theorem ledF_stop {xs : List (Col × Ch)} {v : V} {i : Nat} (hm : isMis (ledF (xs.take i) v) = true) : ledF xs v = ledF (xs.take i) v := by
  have e : ledF (xs.take i ++ xs.drop i) v = ledF (xs.drop i) (ledF (xs.take i) v) := ledF_app
  rw [List.take_append_drop] at e
  rw [e, ledF_mis hm]
theorem mis_str {v : V} (h : isMis v = true) : v = .str "missing" := by
  cases v with
  | str z => rw [of_decide_eq_true (show decide (z = "missing") = true from h)]
  | _ => cases h
theorem val_ty {v : V} (h : isMis v = true ∨ isVal v = true) : ∃ t, ∀ (K : PySem.W.Frag) (H : Hp), TyX K H v (.type t) := by
  rcases h with h | h
  · rw [mis_str h]
    exact ⟨_, fun _ _ => .base (.str _)⟩
  · cases v with
    | non => exact ⟨_, fun _ _ => .base .non⟩
    | int i => exact ⟨_, fun _ _ => .base (.int i)⟩
    | _ => cases h
theorem chg_or {n : Str} {ch : Ch} {v : V} (f : ch.fits = true) (h : isVal v = true) : isMis (chgV n ch v) = true ∨ isVal (chgV n ch v) = true := by
  cases e : isMis (chgV n ch v) with
  | true => exact .inl rfl
  | false => exact .inr (chg_val f h e)
theorem chg_other {n : Str} {ch : Ch} {v : V} (h : ¬ ch.name = n) : chgV n ch v = v := if_neg h
section
variable {cs : List Col} {chs : List Ch}
theorem ledF_steps {n : Int} {s : Nat} {v : V} : ∀ k, s + k ≤ chs.length → ledF (stepsK cs chs n s k) v = ledT cs chs n s v k
  | 0, _ => rfl
  | k + 1, hk => by
    have hc : chs[s + k]? = some chs[s + k] := List.getElem?_eq_getElem (by omega)
    generalize chs[s + k] = ch at hc
    rw [ledT_succ hc, ← ledF_steps k (by omega)]
    generalize hw : ledF (stepsK cs chs n s k) v = w'
    cases hcol : colE cs chs (s + k) n with
    | none =>
      have e : stepsK cs chs n s (k + 1) = stepsK cs chs n s k := by
        show stepsK cs chs n s k ++ (match colE cs chs (s + k) n, chs[s + k]? with
          | some c, some ch => if ch.name = c.name then [(c, ch)] else []
          | _, _ => []) = _
        rw [hcol]
        exact List.append_nil _
      rw [e, hw]
      unfold stepN
      have hcol : (colsE cs chs (s + k)).find? (isK n) = none := hcol
      rw [hcol]
      split <;> rfl
    | some c =>
      rw [stepsK_succ hcol hc, ledF_app, hw]
      unfold stepN
      have hcol : (colsE cs chs (s + k)).find? (isK n) = some c := hcol
      rw [hcol]
      by_cases hn : ch.name = c.name
      · rw [if_pos hn]
        rfl
      · rw [if_neg hn]
        show w' = if isMis w' = true then w' else chgV c.name ch w'
        rw [chg_other hn]
        split <;> rfl
theorem stepsK_fits (o : HistOk cs chs) {n : Int} {s : Nat} : ∀ k, ∀ x ∈ stepsK cs chs n s k, x.2.fits = true
  | 0, x, h => by cases h
  | k + 1, x, h => by
    have h : x ∈ stepsK cs chs n s k ++ (match colE cs chs (s + k) n, chs[s + k]? with
      | some c, some ch => if ch.name = c.name then [(c, ch)] else []
      | _, _ => []) := h
    rcases List.mem_append.mp h with h | h
    · exact stepsK_fits o k x h
    · split at h
      · rename_i c ch e1 e2
        split at h
        · rw [List.mem_singleton.mp h]
          exact (o.f _ _ e2).1
        · cases h
      · cases h
end

/-! is_argument, of what is one -/
def sp_is_argument (K : PySem.W.Frag) : Sp := fun vs H Q _ => ∃ x : V, vs = [x] ∧ (isVal x = true ∨ isMis x = true) ∧ ∀ H', Same H H' → Q (.bl true) H'
theorem ok_is_argument (T : Tx K mg) : Callee P w K mg base CX0 3 "is_argument" ["value"] [] (sp_is_argument K) := by
  have C1 := ok_is_value (P := P) (w := w) (base := base) T
  have C2 := ok_is_missing (P := P) (w := w) (base := base) T
  refine mkCallee (fd_is_argument T) (mg_is_argument T) sc_is_argument (fun _ _ _ _ _ _ us hl => match us, hl with | [_], _ => rfl) (fun vs H Q E h => ?_) (fun cdv A outer s H vs Q E hr h => ?_)
  · obtain ⟨x, rfl, _⟩ := h
    rfl
  · obtain ⟨x, rfl, hx, k⟩ := h
    obtain ⟨ty, hty⟩ := val_ty hx.symm
    refine ⟨_, pss_one (ps_ret (pe_or (pcall C1 hr (pa_cons (pv 0) pa_nil)) (pe_one (pcall C2 hr (pa_cons (pv 0) pa_nil))))), ?_⟩
    refine ⟨x, rfl, x, ty, rfl, hty _ _, _, rfl, ?_⟩
    cases e : isVal x with
    | true => exact k H (Same.refl _)
    | false =>
      have hm : isMis x = true := by
        rcases hx with h | h
        · rw [h] at e
          cases e
        · exact h
      refine iteF ⟨x, rfl, x, ty, rfl, hty _ _, fun _ _ => hty _ _, fun H1 s1 => ?_⟩
      rw [hm]
      exact k H1 s1
/-! dicts whose keys are None, ints and texts -/
abbrev OKey := Option Key
def oV : OKey → V
  | none => .non
  | some k => kV k
def okIs : OKey → Value → Bool
  | none, .none => true
  | some k, v => keyIs k v
  | _, _ => false
def leafO : OKey → Leaf
  | none => .none
  | some (.inl i) => .num i
  | some (.inr x) => .text x
theorem leafO_inj {a b : OKey} (h : leafO a = leafO b) : a = b := by
  rcases a with _ | (i | x) <;> rcases b with _ | (j | y) <;> first | rfl | (cases h; rfl) | cases h
theorem okIs_leaf {k : OKey} {v : Value} (h : okIs k v = true) : Leaf.isOf (leafO k) v = true := by
  rcases k with _ | (i | x)
  · cases v <;> first | rfl | cases h
  · obtain ⟨t, e⟩ := Value.isInt_shape (k := i) (v := v) h
    subst e
    exact decide_eq_true rfl
  · exact h
theorem decide_leafO {a b : OKey} : decide (leafO a = leafO b) = decide (a = b) := by
  by_cases h : a = b
  · rw [decide_eq_true h, decide_eq_true (congrArg leafO h)]
  · rw [decide_eq_false h, decide_eq_false fun q => h (leafO_inj q)]
def optKind (prog : Program) (w : World) : PySem.KeyKind prog w OKey where
  is := okIs
  hash := fun k => (leafO k).key.hash w
  inj := fun v a b ha hb => leafO_inj ((leafKind prog w).inj v _ _ (okIs_leaf ha) (okIs_leaf hb))
  byValue := fun _ _ h => Leaf.byValue (okIs_leaf h)
  pyHash := fun hv h => pyHash_leaf (okIs_leaf hv) h
  eqBool := fun hu hv h => eqAt_leaf (okIs_leaf hu) (okIs_leaf hv) _ _ _ _ (by rw [decide_leafO]; exact h)
  «strs» := fun k x t v h => by
    rcases k with _ | k
    · cases h
    · exact (mixKind prog w).strs k x t v h
theorem oV_is {P : Program} {w : World} {k : OKey} {u : Value} (r : RelV (oV k) u) : (optKind P w).is k u = true := by
  rcases k with _ | k
  · obtain rfl : u = Value.none := r
    rfl
  · exact kV_is (P := P) (w := w) r
theorem rel_oV {k : OKey} {u : Value} (h : okIs k u = true) : RelV (oV k) u := by
  rcases k with _ | k
  · cases u with
    | none => exact rfl
    | _ => cases h
  · exact relV_key h
theorem hash_some {P : Program} {w : World} (k : Key) : (optKind P w).hash (some k) = (mixKind P w).hash k := by
  rcases k with i | x
  · rfl
  · rfl
/-- the dict at a, with these keys and values -/
def optO (P : Program) (w : World) (a : Addr) (kvs : List (OKey × V)) : HO := .ext fun h => kvs.length ≤ sizeLine ∧ (a == sysModules) = false ∧ ∃ vs, KV kvs vs ∧ h.DictOf (optKind P w) a vs
theorem dictOf_same {P : Program} {w : World} {κ : Type} [DecidableEq κ] {knd : PySem.KeyKind P w κ} {h h' : Heap} {a : Addr} {vs : List (κ × Value)} (d : h.DictOf knd a vs) (k : ∀ o, h.get? a = some o → h'.get? a = some o) : h'.DictOf knd a vs :=
  let ⟨o, es, ep, e, r⟩ := d
  ⟨o, es, ep, k o e, r⟩
theorem optO_ok {P : Program} {w : World} {H : Hp} {h : Heap} {a : Addr} {kvs : List (OKey × V)} {vs : List (OKey × Value)} (z : kvs.length ≤ sizeLine) (hd : (a == sysModules) = false) (rel : KV kvs vs) (dd : h.DictOf (optKind P w) a vs) : ObjOk P w H h a (optO P w a kvs) :=
  ⟨⟨z, hd, vs, rel, dd⟩, let ⟨o, _, _, e, _⟩ := dd; ⟨o, e⟩, fun _ _ ⟨z', hd', vs', rel', dd'⟩ k => ⟨z', hd', vs', rel', dictOf_same dd' k⟩⟩
/-- it stands, perhaps locked -/
def RdO (P : Program) (w : World) (H : Hp) (a : Addr) (kvs : List (OKey × V)) : Prop := Rd H a (optO P w a kvs)
theorem optO_rd {P : Program} {w : World} {H : Hp} {h : Heap} {a : Addr} {kvs : List (OKey × V)} (ok : HOk P w H h) (e : Rd H a (optO P w a kvs)) : kvs.length ≤ sizeLine ∧ (a == sysModules) = false ∧ ∃ vs, KV kvs vs ∧ h.DictOf (optKind P w) a vs := by
  have x : ObjOk P w H h a (optO P w a kvs) := e.ok ok
  exact x.1
theorem optO_frz {P : Program} {w : World} {H : Hp} {h : Heap} {a : Addr} {o : Obj} {kvs : List (OKey × V)} (ok : HOk P w H h) (e : H a = some (.frz o (optO P w a kvs))) :
    (a == sysModules) = false ∧ h.get? a = some o ∧ o.ExactDict ∧ ∃ (es : Array DictEntry) (ep : Nat) (vs : List (OKey × Value)), o.data = .dict es ep ∧ es.size = kvs.length ∧ KV kvs vs ∧ h.DictAt (optKind P w) a vs ep := by
  obtain ⟨hg, ⟨z, hs, vs, kv, o', es, ep, ho, hx, hdt, r⟩, _⟩ := ok a _ e
  rw [hg] at ho
  cases ho
  refine ⟨hs, hg, hx, es, ep, vs, hdt, ?_, kv, o, es, hg, hx, hdt, r⟩
  have l1 := r.2.1.length
  have l2 : kvs.length = vs.length := Paired.length kv
  rw [Array.length_toList] at l1
  omega
section
variable {X : Cx}
theorem optO_write {pins : List (Addr × Obj)} {σ : L2.St} {H : Hp} {s : Shared} {a : Addr} {kvs kvs' : List (OKey × V)} {vs' : List (OKey × Value)} {h' : Heap} (I : Inv X pins σ H s) (e : H a = some (optO X.prog X.w a kvs)) (hd : (a == sysModules) = false) (z : kvs'.length ≤ sizeLine) (rel : KV kvs' vs')
    (dd : h'.DictOf (optKind X.prog X.w) a vs') (hs : Heap.SameBut a s.heap h') (t : Nat) : Inv X pins σ (upd H a (optO X.prog X.w a kvs')) { s with heap := h', toks := t } :=
  d_write I (by rw [e]; exact True.intro) hs (let ⟨q, _, _, hq, _⟩ := dd; ⟨q, hq⟩) (optO_ok z hd rel dd)
/-- an expression whose value is a dict of ints and texts, taken as one with None among its keys -/
def tAsO (P : Program) (w : World) (t : TE) : TE := fun σ H Q => t σ H fun x H1 => ∃ a kvs, x = .ref a ∧ H1 a = some (.dK kvs) ∧ Q x (upd H1 a (optO P w a (kvs.map fun kv => (some kv.1, kv.2))))
theorem asO_pairs {P : Program} {w : World} {es : List DictEntry} {vs : List (Key × Value)} (h : Pairs (mixKind P w) es vs) : Pairs (optKind P w) es (vs.map fun kv => (some kv.1, kv.2)) := by
  induction h with
  | nil => exact .nil
  | cons r q t ih => exact .cons r q ih
theorem asO_kv {kvs : List (Key × V)} {vs : List (Key × Value)} (h : KV kvs vs) : KV (kvs.map fun kv => ((some kv.1 : OKey), kv.2)) (vs.map fun kv => ((some kv.1 : OKey), kv.2)) := by
  unfold KV at h ⊢
  induction h with
  | nil => exact .nil
  | cons r t ih => exact .cons ⟨congrArg some r.1, r.2⟩ ih
theorem pe_asO {e : Expr} {t : TE} (he : PE X e t) : PE X e (tAsO X.prog X.w t) := by
  refine ⟨fun pins s σ H Q I h => ?_⟩
  refine thn (he.run pins s σ H _ I h) fun u s1 ⟨x, H1, I1, rx, a, kvs, ex, ea, q⟩ => ?_
  obtain ⟨z, hd, vs, rel, o, es, ep, ho, hx, hdt, hk, hp, hn⟩ := dk_of I1.hok ea
  have dd : s1.heap.DictOf (optKind X.prog X.w) a (vs.map fun kv => (some kv.1, kv.2)) := by
    refine ⟨o, es, ep, ho, hx, hdt, fun e hm => ?_, asO_pairs hp, ?_⟩
    · obtain ⟨k, h1, h2⟩ := hk e hm
      exact ⟨some k, h1, by rw [hash_some]; exact h2⟩
    · rw [List.map_map]
      have : (vs.map ((fun kv : OKey × Value => kv.1) ∘ fun kv => ((some kv.1 : OKey), kv.2))) = (vs.map (·.1)).map some := by rw [List.map_map]; rfl
      rw [this]
      unfold List.Nodup at hn ⊢
      rw [List.pairwise_map]
      exact List.Pairwise.imp (fun h q => h (Option.some.inj q)) hn
  refine ⟨x, _, ?_, rx, q⟩
  exact d_write (h' := s1.heap) (t' := s1.toks) I1 (by rw [ea]; exact True.intro) (Heap.SameBut.refl ..) ⟨o, ho⟩ (optO_ok (by rw [List.length_map]; exact z) hd (asO_kv rel) dd)
/-- d[y] -/
def tDGetO (P : Program) (w : World) (td ty : TE) : TE := fun σ H Q => td σ H fun x H1 => ty σ H1 fun y H2 => ∃ a kvs k v, x = .ref a ∧ Rd H2 a (optO P w a kvs) ∧ y = oV k ∧ valV kvs k = some v ∧ Q v H2
theorem pe_dgetO {o i : Expr} {pos : Pos} {td ty : TE} (ho : PE X o td) (hi : PE X i ty) (hs : NoSl i) : PE X (.Subscript o i pos) (tDGetO X.prog X.w td ty) := by
  refine ⟨fun pins s σ H Q I h => ?_⟩
  refine subD_of PySem.F.slot_dict_getitem.lookup hs (thn (ho.run pins s σ H _ I h) fun u s1 ⟨x, H1, I1, rx, q1⟩ => thn (hi.run pins s1 σ H1 _ I1 q1) fun iv s2 ⟨y, H2, I2, ry, a, kvs, k, v, ex, g, ey, hv, q2⟩ => ?_)
  subst ex ey
  cases rx
  obtain ⟨_, _, vs, rel, dd⟩ := optO_rd I2.hok g
  obtain ⟨w', hw, rw'⟩ := RelO.some_of (v := v) (o := valueAt vs k) (by rw [← hv]; exact rel.val k)
  exact ⟨dd.typeIs, wpAny_getItem_of (oV_is ry) dd.mapOf hw ⟨v, H2, I2.tok _, rw', q2⟩⟩
/-- y in d, y not in d -/
def tDInO (P : Program) (w : World) (ty td : TE) : TE := fun σ H Q => ty σ H fun y H1 => td σ H1 fun x H2 => ∃ a kvs k, x = .ref a ∧ Rd H2 a (optO P w a kvs) ∧ y = oV k ∧ Q (.bl (valV kvs k).isSome) H2
def tDNotInO (P : Program) (w : World) (ty td : TE) : TE := fun σ H Q => ty σ H fun y H1 => td σ H1 fun x H2 => ∃ a kvs k, x = .ref a ∧ Rd H2 a (optO P w a kvs) ∧ y = oV k ∧ Q (.bl (!(valV kvs k).isSome)) H2
theorem pc_dinO {o i : Expr} {td ty : TE} (hi : PE X i ty) (ho : PE X o td) : PC X .In i o (tDInO X.prog X.w ty td) := by
  refine ⟨fun pins s σ H Q I h => ?_⟩
  refine thn (hi.run pins s σ H _ I h) fun iv s1 ⟨y, H1, I1, ry, q1⟩ => thn (ho.run pins s1 σ H1 _ I1 q1) fun u s2 ⟨x, H2, I2, rx, a, kvs, k, ex, g, ey, q2⟩ => ?_
  subst ex ey
  cases rx
  obtain ⟨_, hd, vs, rel, dd⟩ := optO_rd I2.hok g
  refine wpAny_in_of (oV_is ry) hd dd.mapOf ?_
  rw [← (rel.val k).isSome_eq]
  exact ⟨.bl _, H2, I2.tok _, rfl, q2⟩
theorem pc_dnotinO {o i : Expr} {td ty : TE} (hi : PE X i ty) (ho : PE X o td) : PC X .NotIn i o (tDNotInO X.prog X.w ty td) := by
  refine ⟨fun pins s σ H Q I h => ?_⟩
  refine thn (hi.run pins s σ H _ I h) fun iv s1 ⟨y, H1, I1, ry, q1⟩ => thn (ho.run pins s1 σ H1 _ I1 q1) fun u s2 ⟨x, H2, I2, rx, a, kvs, k, ex, g, ey, q2⟩ => ?_
  subst ex ey
  cases rx
  obtain ⟨_, hd, vs, rel, dd⟩ := optO_rd I2.hok g
  refine wpAny_notIn_of (oV_is ry) hd dd.mapOf ?_
  rw [← (rel.val k).isSome_eq]
  exact ⟨.bl _, H2, I2.tok _, rfl, q2⟩
/-- d[y] = v -/
def sDPutO (P : Program) (w : World) (td ty tv : TE) : TS := fun D σ H => tv σ H fun v H1 => td σ H1 fun x H2 => ty σ H2 fun y H3 => ∃ a kvs k, x = .ref a ∧ H3 a = some (optO P w a kvs) ∧ y = oV k ∧ kvs.length < sizeLine ∧ D.nx σ (upd H3 a (optO P w a (putK kvs k v)))
theorem ps_dputO {o i value : Expr} {pos pos' : Pos} {td ty tv : TE} (ho : PE X o td) (hi : PE X i ty) (hv : PE X value tv) (hs : swapsWith value (some (.Subscript o i pos')) pos.line X.env = pure false) :
    PS X (.Assign [.Subscript o i pos'] value pos) (sDPutO X.prog X.w td ty tv) := by
  refine ⟨fun pins s σ H D I h => ?_⟩
  refine wpAny_Assign_Subscript (thn (hv.run pins s σ H _ I h) fun r s1 ⟨v, H1, I1, rv, q1⟩ => thn (ho.run pins s1 σ H1 _ I1 q1) fun u s2 ⟨x, H2, I2, rx, q2⟩ => thn (hi.run pins s2 σ H2 _ I2 q2) fun iv s3 ⟨y, H3, I3, ry, a, kvs, k, ex, g, ey, hl, q3⟩ => ?_) hs
  subst ex ey
  cases rx
  obtain ⟨z, hd, vs, rel, dd⟩ := optO_rd I3.hok (.inl g)
  refine wpAny_setItem_pairs (hsz := by rw [← rel.length]; exact z) (oV_is ry) dd fun h' dd' hsb => ⟨σ, _, optO_write I3 g hd ?_ (rel.put k rv) dd' hsb _, q3⟩
  have := length_putK kvs k v
  omega
/-- len(d) -/
theorem call_lenO : CallR X (.builtin "len") (fun xs H Q => ∃ a kvs, xs = [V.ref a] ∧ Rd H a (optO X.prog X.w a kvs) ∧ Q (.int kvs.length) H) := by
  intro pins s σ H xs us Q I r h
  obtain ⟨a, kvs, rfl, ha, q⟩ := h
  obtain ⟨u, rfl, ru⟩ := vals1 r
  cases ru
  obtain ⟨z, hd, vs, rel, dd⟩ := optO_rd I.hok ha
  refine call_len_dict hd dd (by rw [← rel.length]; rw [sizeLine_eq] at z; omega) ?_
  rw [← rel.length]
  exact ⟨.int kvs.length, H, I.tok _, ⟨_, rfl⟩, q⟩
/-- dict(d) -/
theorem call_dictO : CallR X (.type "dict") (fun xs H Q => ∃ (a : Addr) (kvs : List (OKey × V)), xs = [.ref a] ∧ Rd H a (optO X.prog X.w a kvs) ∧ ∀ p, H p = none → Q (.ref p) (upd H p (optO X.prog X.w p kvs))) := by
  intro pins s σ H xs us Q I r q
  obtain ⟨a, kvs, rfl, hd, q⟩ := q
  obtain ⟨u, rfl, ru⟩ := vals1 r
  cases ru
  obtain ⟨z, lo, vs, rel, dd⟩ := optO_rd I.hok hd
  refine kt_call_dict lo dd (by rw [← rel.length]; exact z) fun h' d' hs => ?_
  have hm : (s.heap.objs.size == sysModules) = false := beq_eq_false_iff_ne.mpr (Nat.ne_of_gt I.big)
  exact ⟨.ref s.heap.objs.size, upd H s.heap.objs.size (optO X.prog X.w s.heap.objs.size kvs), I.laid (t' := s.toks) (fun b u e => (hs.2 b (Nat.ne_of_lt (Heap.lt_size e))).trans (Heap.get?_push_of_some _ e)) (Nat.le_refl _) (optO_ok z hm rel d'), rfl, q _ (I.hok.fresh (Nat.le_refl _))⟩
theorem keys_ats {vs : List (OKey × Value)} : ∀ {acc : List Value}, acc.length = vs.length → (∀ (j : Nat) (v : Value), acc[j]? = some v → ∃ (k : OKey) (x : Value), vs[j]? = some (k, x) ∧ okIs k v = true) → Vals (vs.map fun p => oV p.1) acc := by
  induction vs with
  | nil =>
    intro acc h _
    cases acc with
    | nil => exact .nil
    | cons _ _ => cases h
  | cons p vs ih =>
    intro acc h f
    cases acc with
    | nil => cases h
    | cons v acc =>
      obtain ⟨k, x, e1, e2⟩ := f 0 v rfl
      obtain rfl := Option.some.inj e1
      exact .cons (rel_oV e2) (ih (Nat.succ.inj h) fun j v' e => f (j + 1) v' e)
/-- list(d): its keys -/
theorem call_listO (hcalm : X.calm = true) : CallR X (.type "list") (fun xs H Q => ∃ (a : Addr) (kvs : List (OKey × V)), xs = [.ref a] ∧ Rd H a (optO X.prog X.w a kvs) ∧ ∀ p, H p = none → Q (.ref p) (upd H p (.lst (kvs.map fun kv => oV kv.1)))) := by
  intro pins s σ H xs us Q I r q
  obtain ⟨a, kvs, rfl, hd, q⟩ := q
  obtain ⟨u, rfl, ru⟩ := vals1 r
  cases ru
  obtain ⟨z, lo, vs, rel, dd⟩ := optO_rd I.hok hd
  obtain ⟨ep, hat⟩ := dd.dictAt
  have ek : (kvs.map fun kv => oV kv.1) = vs.map fun p => oV p.1 := by
    have e := congrArg (List.map oV) rel.keys
    rw [List.map_map, List.map_map] at e
    exact e
  refine PySem.W.kdl_call (PySem.W.kdl_dict (knd := optKind X.prog X.w) (kvs := vs) (ep := ep) lo) (I.ok.hd hcalm) hat (by rw [← rel.length]; exact z) fun h' tk acc c' hk hD hacc => ?_
  have hv : Vals (vs.map fun p => oV p.1) acc.toList := keys_ats (by rw [Array.length_toList]; exact hacc.1) fun j v e => hacc.2 j v (by rw [← Array.getElem?_toList]; exact e)
  refine ⟨.ref s.heap.objs.size, upd H s.heap.objs.size (.lst (kvs.map fun kv => oV kv.1)), I.laid (t' := tk) hk (Nat.le_refl _) ⟨by rw [List.length_map]; exact z, acc.toList, c', by rw [ek]; exact hv, by rw [Array.toArray_toList]; exact hD⟩, rfl, q _ (I.hok.fresh (Nat.le_refl _))⟩
end

/-! dicts with None among their keys, walked: by keys, by items; made by a comprehension; compared -/
/-- the keys of the locked dict at d -/
def Itko (P : Program) (w : World) (d : Addr) (o : Obj) (kvs : List (OKey × V)) : It :=
  ⟨fun i H => H d = some (.frz o (optO P w d kvs)) ∧ i < kvs.length, fun i H x H' => H' = H ∧ ∃ k v, kvs[i]? = some (k, v) ∧ x = oV k, fun i H => H d = some (.frz o (optO P w d kvs)) ∧ kvs.length ≤ i⟩
/-- its items, each a new pair -/
def Itio (P : Program) (w : World) (d : Addr) (o : Obj) (kvs : List (OKey × V)) : It :=
  ⟨fun i H => H d = some (.frz o (optO P w d kvs)) ∧ i < kvs.length, fun i H x H' => ∃ T k v, kvs[i]? = some (k, v) ∧ x = .ref T ∧ H T = none ∧ H' = upd H T (.tup [oV k, v]), fun i H => H d = some (.frz o (optO P w d kvs)) ∧ kvs.length ≤ i⟩
section
variable {P : Program} {w : World} {K : PySem.W.Frag} {tg : Expr} {d : Addr} {o : Obj} {es : Array DictEntry} {ep : Nat}
theorem turn_keysO {kvs : List (OKey × V)} (it : Addr) (hod : o.data = .dict es ep) : Turn P w K tg (Itko P w d o kvs) [it] it (fun i h => h.IsKeyIter it d i kvs.length ep) where
  mem := by simp
  obj := fun i h st b hb => by
    obtain ⟨oi, e, c, dd⟩ := st
    rw [show b = it by simpa using hb]
    exact ⟨oi, e, fun v z => by rw [dd] at z; cases z⟩
  keep := fun i h h' st k => st.at fun oi e => k it (by simp) oi e
  item := by
    intro X hP hw hK hc i pins s σ H E I hf st hg
    subst hP hw hK
    obtain ⟨hd, hi⟩ := hg
    obtain ⟨f0, f1, f2, f3, f4, f5⟩ := hf it (by simp)
    obtain ⟨_, _, _, es', ep', vs, hdt, _, kv, hm⟩ := optO_frz I.hok hd
    obtain ⟨rfl, rfl⟩ := dict_ep hod hdt
    have hkv := List.getElem?_eq_getElem hi
    obtain ⟨u, hu, _⟩ := kv_get kv (k := kvs[i].1) (v := kvs[i].2) hkv
    rw [show kvs.length = vs.length from Paired.length kv] at st
    refine wpAny_pyNext_dict_item st hm hu fun key h' hkey st' sb => ?_
    have I1 : Inv X pins σ H { s with heap := h' } := I.turned (t' := s.toks) (fun b ob hb e => (sb.2 b hb).trans e) f0 f1 f3 f4 f5
    obtain ⟨oi, e, c, dd⟩ := id st'
    refine ⟨key, rfl, go_of (s := { s with heap := h' }) e c dd (by decide) ⟨oV kvs[i].1, H, I1, rel_oV (show okIs kvs[i].1 key = true from hkey), ⟨rfl, _, _, hkv, rfl⟩, ?_, fun b hb => (hf b hb).1⟩⟩
    show h'.IsKeyIter it d (i + 1) kvs.length _
    rw [show kvs.length = vs.length from Paired.length kv]
    exact st'
  done := by
    intro X hP hw hK hc i pins s σ H E I hf st hg
    subst hP hw hK
    obtain ⟨f0, f1, f2, f3, f4, f5⟩ := hf it (by simp)
    obtain ⟨_, hgd, _, es', ep', vs, hdt, hsz, _, _⟩ := optO_frz I.hok hg.1
    obtain ⟨rfl, rfl⟩ := dict_ep hod hdt
    exact next_key_end (I.ok.hd hc) st hgd hdt hsz hg.2 fun h' eb => ⟨rfl, I.turned (t' := s.toks) (fun b ob hb e => eb b ob hb e) f0 f1 f3 f4 f5⟩
  self := fun A i s Q E st h => wpAny_pyIter_keyiter st h
theorem turn_itemsO {kvs : List (OKey × V)} {elts : List Expr} {kk : Nat} {tpos : Pos} (it : Addr) (hod : o.data = .dict es ep) :
    Turn P w K (.Tuple elts kk tpos) (Itio P w d o kvs) [it] it (fun i h => ∃ ok ov, IsItemIter h it d i kvs.length ep ok ov) where
  mem := by simp
  obj := fun i h st b hb => by
    obtain ⟨ok, ov, e⟩ := st
    rw [show b = it by simpa using hb]
    exact ⟨_, e, fun v z => nomatch z⟩
  keep := fun i h h' st k => let ⟨ok, ov, e⟩ := st; ⟨ok, ov, k it (by simp) _ e⟩
  item := by
    intro X hP hw hK hc i pins s σ H E I hf st hg
    subst hP hw hK
    obtain ⟨hd, hi⟩ := hg
    obtain ⟨_, _, _, es', ep', vs, hdt, _, kv, hm⟩ := optO_frz I.hok hd
    obtain ⟨rfl, rfl⟩ := dict_ep hod hdt
    have hkv := List.getElem?_eq_getElem hi
    obtain ⟨u, hu, ru⟩ := kv_get kv (k := kvs[i].1) (v := kvs[i].2) hkv
    obtain ⟨ok, ov, he⟩ := st
    rw [show kvs.length = vs.length from Paired.length kv] at he
    have hlt : it < s.heap.objs.size := Heap.lt_size he
    refine wpAny_pyNext_items_item he hm hu fun key h' hkey ho hT hz hk => ?_
    refine ⟨_, rfl, wpAny_letOwnedTupleGo_items (s := { s with heap := h' }) ho fun h'' he' sb => ?_⟩
    have hT2 : h''.get? s.heap.objs.size = some { cls := .type "tuple", data := .seq #[key, u] } := (sb.2 _ (Nat.ne_of_gt hlt)).trans hT
    have new : ObjOk X.prog X.w (upd H s.heap.objs.size (.tup [oV kvs[i].1, kvs[i].2])) h'' s.heap.objs.size (.tup [oV kvs[i].1, kvs[i].2]) :=
      ⟨by show 2 ≤ sizeLine; decide, [key, u], .cons (rel_oV (show okIs kvs[i].1 key = true from hkey)) (.cons ru .nil), ⟨_, hT2, rfl, _, rfl⟩⟩
    have I1 : Inv X pins σ (upd H s.heap.objs.size (.tup [oV kvs[i].1, kvs[i].2])) { s with heap := h'' } :=
      I.turnedNew (t' := s.toks) (ch := [it]) (fun b ob hb e => (sb.2 b (by simpa using hb)).trans (hk b ob (by simpa using hb) e)) hf (Nat.le_refl _) new
    refine ⟨.ref s.heap.objs.size, _, I1, rfl, ⟨_, _, _, hkv, rfl, I.hok.fresh (Nat.le_refl _), rfl⟩, ⟨key, u, ?_⟩, fun b hb => ?_⟩
    · rw [show kvs.length = vs.length from Paired.length kv]; exact he'
    · rw [show b = it by simpa using hb, upd_ne (Nat.ne_of_lt hlt)]
      exact (hf it (by simp)).1
  done := by
    intro X hP hw hK hc i pins s σ H E I hf st hg
    subst hP hw hK
    obtain ⟨f0, f1, f2, f3, f4, f5⟩ := hf it (by simp)
    obtain ⟨_, _, _, es', ep', vs, hdt, _, kv, hm⟩ := optO_frz I.hok hg.1
    obtain ⟨rfl, rfl⟩ := dict_ep hod hdt
    obtain ⟨ok, ov, he⟩ := st
    have hl : kvs.length = vs.length := Paired.length kv
    have hle := hg.2
    rw [hl] at he
    exact wpAny_pyNext_items_end (I.ok.hd hc) he hm (List.getElem?_eq_none (by omega)) fun h' eb => ⟨rfl, I.turned (t' := s.toks) (fun b ob hb e => eb b ob hb e) f0 f1 f3 f4 f5⟩
  self := fun A i s Q E st h => let ⟨_, _, e⟩ := st; PySem.W.kcp_self e h
def iKeysO (P : Program) (w : World) (td : TE) : TI := fun σ H R => td σ H fun x H1 => ∃ d o kvs, x = .ref d ∧ H1 d = some (.frz o (optO P w d kvs)) ∧ R (Itko P w d o kvs) H1
def iItemsO (P : Program) (w : World) (td : TE) : TI := fun σ H R => td σ H fun x H1 => ∃ d o kvs, x = .ref d ∧ H1 d = some (.frz o (optO P w d kvs)) ∧ R (Itio P w d o kvs) H1
end
section
variable {X : Cx} {tg e : Expr} {td : TE} {apos cpos : Pos}
theorem pi_keysO (he : PE X e td) : PI X tg e (iKeysO X.prog X.w td) := by
  refine ⟨fun pins s σ H R I h => ?_⟩
  refine thn (he.run pins s σ H _ I h) fun u s1 ⟨x, H1, I1, rx, d, o, kvs, ex, hd, q⟩ => ?_
  subst ex
  cases rx
  obtain ⟨hs, hgd, hx, es, ep, vs, hdt, hsz, kv, hm⟩ := optO_frz I1.hok hd
  refine iter_keys hs hgd hx hdt (pi_one (tk := s1.toks) I1 _ (turn_keysO _ hdt) ⟨_, Heap.get?_push_size _ rfl, rfl, ?_⟩ q)
  rw [hsz] <;> rfl
theorem pi_itemsO {elts : List Expr} {kk : Nat} {tpos : Pos} (he : PE X e td) (hbase : attributeBase e "items" X.env (eval e X.env) = eval e X.env := by rfl) (hline : (apos.endLine == cpos.line) = true := by rfl) :
    PI X (.Tuple elts kk tpos) (.Call (.Attribute e "items" apos) [] [] cpos) (iItemsO X.prog X.w td) := by
  refine ⟨fun pins s σ H R I h => ?_⟩
  refine wpAny_Call_method (T := "dict") (id := "dict.items") hbase rfl hline F.plainAttrs_dict F.slot_dict_items F.type_dict_items (thn (he.run pins s σ H _ I h) fun u s1 ⟨x, H1, I1, rx, d, o, kvs, ex, hd, q⟩ => ?_)
  subst ex
  cases rx
  obtain ⟨hs, hgd, hx, es, ep, vs, hdt, hsz, kv, hm⟩ := optO_frz I1.hok hd
  refine ⟨hm.dictOf.typeIs, hm.dictOf.mapOf.noDict, ?_⟩
  have I2 : Inv X pins σ H1 { s1 with heap := s1.heap.push { cls := .type "dict_items", data := .fields #[.ref d] } } := I1.kept (t' := s1.toks) fun b ob q => Heap.get?_push_of_some _ q
  have fin : wpAny (model X.prog X.w) X.A (pyIter (.ref s1.heap.objs.size)) (PIE X pins σ (.Tuple elts kk tpos) R) X.xe { s1 with heap := s1.heap.push { cls := .type "dict_items", data := .fields #[.ref d] } } := by
    refine wpAny_pyIter_items (d := d) (knd := optKind X.prog X.w) ⟨_, Heap.get?_push_size _ rfl, rfl, rfl⟩ (hm.push _) (pi_one (tk := s1.toks) I2 _ (turn_itemsO _ hdt) ⟨.none, .none, ?_⟩ q)
    rw [show kvs.length = vs.length from Paired.length kv]
    exact Heap.get?_push_size _ rfl
  show wpAny _ _ (callWith cpos (.builtin "dict.items") [.ref d] [] []) _ X.xe s1
  exact method_meetsIn F.slot_dict_items F.entry_dict_items rfl (PySem.evalArgs_none ⟨rfl, hm.dictOf.typeIs, F.args_dict_items_1 _, _, meets_dict_items (optKind X.prog X.w) d hs, ⟨vs, hm.dictOf⟩, fin⟩)
end
section
variable {P : Program} {w : World} {d : Addr} {o : Obj} {kvs : List (OKey × V)}
theorem walk_keysO : Walk (Itko P w d o kvs) kvs.length (fun H => H d = some (.frz o (optO P w d kvs))) (fun i H x H' => H' = H ∧ ∃ k v, kvs[i]? = some (k, v) ∧ x = oV k) :=
  ⟨fun i H hi h => ⟨h, hi⟩, fun H h => ⟨h, Nat.le_refl _⟩, fun i H x H' _ _ y => y⟩
theorem walk_itemsO : Walk (Itio P w d o kvs) kvs.length (fun H => H d = some (.frz o (optO P w d kvs))) (YPair (fun i => kvs[i]?.map fun kv => oV kv.1) (fun i => kvs[i]?.map Prod.snd)) := by
  refine ⟨fun i H hi h => ⟨h, hi⟩, fun H h => ⟨h, Nat.le_refl _⟩, fun i H x H' _ _ y => ?_⟩
  obtain ⟨T, k, v, h1, h2, h3, h4⟩ := y
  exact ⟨T, oV k, v, h2, h3, h4, by show kvs[i]?.map _ = _; rw [h1]; rfl, by show kvs[i]?.map _ = _; rw [h1]; rfl⟩
end

/-! == of dicts with None among their keys; isinstance(x, dict) of one -/
section
variable {X : Cx}
def rEqO (P : Program) (w : World) : R2 := fun x y H Q => ∃ a b ks ls, x = .ref a ∧ y = .ref b ∧ Rd H a (optO P w a ks) ∧ Rd H b (optO P w b ls) ∧ ks.length = ls.length ∧ (∀ p ∈ ks, valV ls p.1 = some p.2 ∧ flatB p.2 = true) ∧ Q (.bl true) H
theorem op_eqO (hu : X.A.units < cLine) : OpR X (compareOp .Eq) (rEqO X.prog X.w) := by
  intro pins s σ H x y v u Q I rx ry h
  obtain ⟨a, b, ks, ls, rfl, rfl, ea, eb, hlen, hp, q⟩ := h
  obtain rfl : v = Value.ref a := rx
  obtain rfl : u = Value.ref b := ry
  obtain ⟨_, ya, va, ra, da⟩ := optO_rd I.hok ea
  obtain ⟨_, yb, vb, rb, db⟩ := optO_rd I.hok eb
  have hl : va.length = vb.length := by rw [← ra.length, ← rb.length]; exact hlen
  exact PySem.W.keq_eq (knd := optKind X.prog X.w) (r := true) ya yb da db hu (fun _ => hits_all rb ra hp) (fin_bl I q (by simp [hl]))
/-- isinstance(x, dict) -/
theorem call_isDO : CallR X (.builtin "isinstance") (fun xs H Q => ∃ (a : Addr) (kvs : List (OKey × V)), xs = [.ref a, .ty "dict"] ∧ Rd H a (optO X.prog X.w a kvs) ∧ Q (.bl true) H) := by
  intro pins s σ H xs us Q I r h
  obtain ⟨a, kvs, rfl, ea, q⟩ := h
  obtain ⟨u, w', rfl, ru, rw'⟩ := vals2 r
  cases ru
  cases rw'
  obtain ⟨_, _, _, _, o, _, _, ho, hx, _⟩ := optO_rd I.hok ea
  exact PySem.W.kia_one PySem.W.kitx_dict I.kIn ⟨o, ho, hx.1⟩ (b := true) (kit_ty (by decide +kernel)) (fun z => nomatch z) fun tk => ⟨.bl true, H, I.tok tk, rfl, q⟩
end

/-! Map.__init__, of right pairs -/
def mapFs (d : Addr) : List (Str × V) := [("_pairs", .ref d)]
theorem mapFs_pairs {d : Addr} : (mapFs d).lookup ("_pairs" : Str) = some (.ref d) := by
  unfold mapFs
  simp [List.lookup]
theorem mapFs_no {d : Addr} {m : Str} (h : (m == "_pairs") = false) : (mapFs d).lookup m = none := by
  unfold mapFs
  rw [List.lookup_cons, h]
  rfl
/-- a Map stands at m -/
def MapAt (P : Program) (w : World) (K : PySem.W.Frag) (H : Hp) (m : Addr) (kvs : List (OKey × V)) : Prop := ∃ dx d, H m = some (.ins (He.ga K "Map") dx (mapFs d)) ∧ H d = some (optO P w d kvs)
theorem MapAt.keep {P : Program} {w : World} {K : PySem.W.Frag} {H H' : Hp} {m : Addr} {kvs : List (OKey × V)} (s : Same H H') (q : MapAt P w K H m kvs) : MapAt P w K H' m kvs := by
  obtain ⟨dx, d, h1, h2⟩ := q
  exact ⟨dx, d, s _ _ h1, s _ _ h2⟩
def sp_Map_init (P : Program) (w : World) (K : PySem.W.Frag) : Sp := fun vs H Q _ => ∃ (m dx p : Addr) (kvs : List (OKey × V)), vs = [.ref m, .ref p] ∧ H m = some (.ins (He.ga K "Map") dx []) ∧ H p = some (optO P w p kvs) ∧ (∀ kv ∈ kvs, (isVal (oV kv.1) = true ∨ isMis (oV kv.1) = true) ∧ isVal kv.2 = true) ∧
  ∀ (d : Addr) (H' : Hp), H d = none → H' m = some (.ins (He.ga K "Map") dx (mapFs d)) → H' d = some (optO P w d kvs) → (∀ b o, b ≠ m → H b = some o → H' b = some o) → Q .non H'
theorem ok_Map_init (T : Tx K mg) : ∃ fd, FnOk P w K mg base CX0 4 (He.ma K (He.ga K "Map") "__init__") fd ["self", "pairs"] (sp_Map_init P w K) ∧ Binds K fd ["self", "pairs"] [] := by
  have C1 := ok_is_argument (P := P) (w := w) (base := base) T
  have C2 := (ok_is_value (P := P) (w := w) (base := base) T).up (show 2 ≤ 3 by decide)
  refine mkMeth (fd_Map___init__ T) sc_Map___init__ (fun _ _ _ _ _ _ us hl => match us, hl with | [_, _], _ => rfl) (fun vs H Q E h => ?_) (fun cdv A outer s H vs Q E hr h => ?_)
  · obtain ⟨m, dx, p, kvs, rfl, _⟩ := h
    rfl
  obtain ⟨m, dx, p, kvs, rfl, hm, hp, hv, k⟩ := h
  have nd := sc_Map___init__.nd
  refine ⟨_, (pss_cons (ps_if (pt_not (pt_val (pe_callB call_isDO (by rfl) (fr_isinstance T) (by decide +kernel) (pa_cons (pv 1) (pa_cons (pe_bltn (v := .ty "dict") (by rfl) (fr_dict T) (by decide +kernel) rfl) pa_nil))))) (pss_one ps_never) pss_nil)
        (pss_cons (ps_lock (ps_for PassesOwn.never rfl (pi_itemsO (pv 1)) (pg_tup rfl (pgs_cons (pg_name (i := 2) nd rfl (Or.inl rfl)) (pgs_cons (pg_name (i := 3) nd rfl (Or.inl rfl)) pgs_nil))) (pss_one (ps_if (PW.pt (pw_or (pt_not (pt_val (pcall C1 hr (pa_cons (pv 2) pa_nil)))) (pw_or1 (pt_not (pt_val (pcall C2 hr (pa_cons (pv 3) pa_nil))))))) (pss_one ps_never) pss_nil))))
        (pss_one (ps_fld (pv 0) (pe_callTy call_dictO (by rfl) (fr_dict T) (by decide +kernel) (pa_cons (pv 1) pa_nil)) rfl)))), ?_⟩
  have npm : p ≠ m := fun z => by rw [z, hm] at hp; cases hp
  refine ⟨_, rfl, p, kvs, rfl, .inl hp, _, rfl, iteF (nxt ?_)⟩
  dsimp only
  refine ⟨p, _, hp, by first | trivial | exact True.intro | decide, fun od => ?_⟩
  have hf : upd H p (.frz od (optO P w p kvs)) p = some (.frz od (optO P w p kvs)) := upd_same
  refine ⟨_, rfl, p, od, _, rfl, hf, ?_⟩
  refine for_it walk_itemsO (fun i σ H' => (∃ x2 x3 : Option V, σ = [some (.ref m), some (.ref p), x2, x3]) ∧ But p H H' ∧ H' p = some (.frz od (optO P w p kvs))) ⟨⟨none, none, rfl⟩, But.mut, hf⟩ (fun i σ H' _ q => q.2.2) ?_ ?_
  · rintro i x σ H' H'' hi ⟨⟨y2, y3, rfl⟩, b, hfs⟩ ⟨T1, x, y, rfl, nT, rfl, ex, ey⟩
    have hkv := List.getElem?_eq_getElem hi
    generalize kvs[i] = kv at hkv
    have ex : (kvs[i]?.map fun kv => oV kv.1) = some x := ex
    have ey : (kvs[i]?.map Prod.snd) = some y := ey
    rw [hkv] at ex ey
    obtain rfl := Option.some.inj ex
    obtain rfl := Option.some.inj ey
    obtain ⟨v1, v2⟩ := hv kv (List.mem_of_getElem? hkv)
    have st1 : Same H' (upd H' T1 (.tup [oV kv.1, kv.2])) := same_new nT
    have t2 : upd H' T1 (.tup [oV kv.1, kv.2]) T1 = some (.tup [oV kv.1, kv.2]) := upd_same
    have b2 := b.trans (But.of st1)
    have hfs2 := st1 _ _ hfs
    generalize upd H' T1 (.tup [oV kv.1, kv.2]) = H3 at t2 b2 hfs2 ⊢
    refine ⟨T1, _, rfl, sqT_of t2, rfl, _, _, rfl, _, _, rfl, rfl, ?_⟩
    dsimp only
    obtain ⟨ty, hty⟩ := val_ty (v := kv.2) (.inr v2)
    refine ⟨_, rfl, oV kv.1, rfl, v1, fun H4 s4 => ⟨_, rfl, ?_⟩⟩
    refine iteF ⟨_, rfl, kv.2, ty, rfl, hty _ _, _, rfl, ?_⟩
    rw [v2]
    exact iteF (nxt ⟨⟨_, _, rfl⟩, b2.trans (But.of s4), s4 _ _ hfs2⟩)
  · rintro σ H' ⟨⟨y2, y3, rfl⟩, b, hfs⟩
    refine ⟨hfs, ?_⟩
    have hp' : upd H' p (optO P w p kvs) p = some (optO P w p kvs) := upd_same
    have s1 : Same H (upd H' p (optO P w p kvs)) := fun b' o e => by
      by_cases q : b' = p
      · rw [q, upd_same, ← hp, ← q, e]
      · rw [upd_ne q]
        exact b _ _ q e
    generalize upd H' p (optO P w p kvs) = H2 at hp' s1 ⊢
    refine ⟨_, rfl, p, kvs, rfl, .inl hp', fun d nd' => ?_⟩
    have nmd : m ≠ d := fun z => by rw [z] at hm; rw [s1 _ _ hm] at nd'; cases nd'
    refine ⟨_, rfl, m, _, dx, _, rfl, by rw [upd_ne nmd]; exact s1 _ _ hm, cl_Map T, na_Map__pairs T, (by show 0 < 1000; decide), ?_⟩
    refine k d _ (s1.free nd') (by rw [upd_same]; rfl) ?_ (fun b' o hb e => ?_)
    · rw [upd_ne nmd.symm, upd_same]
      rfl
    · rw [upd_ne hb, upd_ne (ne_of_none (s1 _ _ e) nd')]
      exact s1 _ _ e
/-! map(argument), of one of its arguments -/
def sp_Map_led (P : Program) (w : World) (K : PySem.W.Frag) : Sp := fun vs H Q _ => ∃ (m : Addr) (kvs : List (OKey × V)) (k : OKey) (v : V), vs = [.ref m, oV k] ∧ MapAt P w K H m kvs ∧ (isVal (oV k) = true ∨ isMis (oV k) = true) ∧ valV kvs k = some v ∧ ∀ H', Same H H' → Q v H'
theorem ok_Map_led (T : Tx K mg) : ∃ fd, FnOk P w K mg base CX0 4 (He.ma K (He.ga K "Map") "_led") fd ["self", "argument"] (sp_Map_led P w K) ∧ Binds K fd ["self", "argument"] [] := by
  have C1 := ok_is_argument (P := P) (w := w) (base := base) T
  refine mkMeth (fd_Map__led T) sc_Map__led (fun _ _ _ _ _ _ us hl => match us, hl with | [_, _], _ => rfl) (fun vs H Q E h => ?_) (fun cdv A outer s H vs Q E hr h => ?_)
  · obtain ⟨m, kvs, k, v, rfl, _⟩ := h
    rfl
  obtain ⟨m, kvs, k, v, rfl, hm, hk, hv, kk⟩ := h
  refine ⟨_, (pss_cons (ps_if (PW.pt (pw_or (pt_not (pt_val (pcall C1 hr (pa_cons (pv 1) pa_nil)))) (pw_or1 (pt_cmp (pc_dnotinO (pv 1) (pe_fld (pv 0) rfl)) (by rfl))))) (pss_one ps_never) pss_nil)
        (pss_one (ps_ret (pe_dgetO (pe_fld (pv 0) rfl) (pv 1) (fun _ _ => rfl))))), ?_⟩
  refine ⟨_, rfl, oV k, rfl, hk, fun H1 s1 => ⟨_, rfl, iteF ?_⟩⟩
  obtain ⟨dx, d, h1, h2⟩ := hm.keep s1
  refine ⟨_, rfl, _, rfl, m, _, dx, _, _, rfl, h1, cl_Map T, na_Map__pairs T, mapFs_pairs, d, kvs, k, rfl, .inl h2, rfl, _, rfl, ?_⟩
  rw [hv]
  refine iteF (nxt ?_)
  exact ⟨_, rfl, m, _, dx, _, _, rfl, h1, cl_Map T, na_Map__pairs T, mapFs_pairs, _, rfl, d, kvs, k, v, rfl, .inl h2, rfl, hv, kk H1 s1⟩
theorem ok_Map_call (T : Tx K mg) : ∃ fd, FnOk P w K mg base CX0 5 (He.ma K (He.ga K "Map") "__call__") fd ["self", "argument"] (sp_Map_led P w K) ∧ Binds K fd ["self", "argument"] [] := by
  obtain ⟨fdL, FL, bL⟩ := ok_Map_led (P := P) (w := w) (base := base) T
  refine mkMeth (fd_Map___call__ T) sc_Map___call__ (fun _ _ _ _ _ _ us hl => match us, hl with | [_, _], _ => rfl) (fun vs H Q E h => ?_) (fun cdv A outer s H vs Q E hr h => ?_)
  · obtain ⟨m, kvs, k, v, rfl, _⟩ := h
    rfl
  obtain ⟨m, kvs, k, v, rfl, hm, hk, hv, kk⟩ := h
  refine ⟨_, pss_one (ps_ret (pe_meth (pv 0) (cl_Map T) (me_Map__led T) FL hr bL .nil pass0 (pa_cons (pv 1) pa_nil))), ?_⟩
  obtain ⟨dx, d, h1, h2⟩ := id hm
  exact ⟨_, rfl, m, dx, _, rfl, h1, mapFs_no (by decide +kernel), _, rfl, m, kvs, k, v, rfl, hm, hk, hv, kk⟩
/-! the arguments of an edition, and where they lead -/
theorem colFs_no_all {n : Str} {g k : Int} {d : V} : (colFs n g d k).lookup ("all_values" : Str) = none := by
  have g1 : (("all_values" : Str) == "name") = false := by decide +kernel
  have g2 : (("all_values" : Str) == "greatest") = false := by decide +kernel
  have g3 : (("all_values" : Str) == "default") = false := by decide +kernel
  have g4 : (("all_values" : Str) == "number") = false := by decide +kernel
  unfold colFs
  simp [List.lookup, g1, g2, g3, g4]
/-- a value as a key -/
def keyO : V → OKey
  | .int i => some (.inl i)
  | .str x => some (.inr x)
  | _ => none
theorem oV_keyO {v : V} (h : isVal v = true ∨ isMis v = true) : oV (keyO v) = v := by
  cases v with
  | non => rfl
  | int _ => rfl
  | str _ => rfl
  | _ => rcases h with h | h <;> cases h
section
variable (cs : List Col) (chs : List Ch)
/-- where the arguments of the edition m begin: at their edition, or at the birth -/
def startE (n : Int) (m : Nat) : Nat := if n < numE cs chs m then m else bornN cs chs n
def startsV (n : Int) (m : Nat) : List (OKey × V) := if n < numE cs chs m then (match colE cs chs m n with
    | some c => (valsTo c.top).map fun v => (keyO v, v)
    | none => []) else [(some (.inr "missing"), dfltB cs chs n)]
def ledEnd (n : Int) (s : Nat) (v : V) : V := ledT cs chs n s v (chs.length - s)
def keepP (n : Int) (s : Nat) (kv : OKey × V) : Option (OKey × V) := if isMis (ledEnd cs chs n s kv.2) = true then none else some (kv.1, ledEnd cs chs n s kv.2)
def pairsE (n : Int) (m : Nat) : List (OKey × V) := (startsV cs chs n m).filterMap (keepP cs chs n (startE cs chs n m))
end
theorem valsTo_val {t : Int} {v : V} (h : v ∈ valsTo t) : isVal v = true := by
  rcases List.mem_cons.mp h with rfl | h
  · rfl
  · unfold rgV at h
    obtain ⟨i, _, e⟩ := List.mem_map.mp h
    rw [← e]
    exact decide_eq_true (show (0 : Int) ≤ 0 + (i : Nat) by omega)
theorem valsTo_nodup (t : Int) : ((valsTo t).map keyO).Nodup := by
  unfold valsTo rgV
  rw [List.map_cons, List.nodup_cons, List.map_map]
  refine ⟨fun h => ?_, ?_⟩
  · obtain ⟨i, _, e⟩ := List.mem_map.mp h
    cases e
  · unfold List.Nodup
    rw [List.pairwise_map]
    have nr : (List.range (t + 1 - 0).toNat).Nodup := List.nodup_range
    refine List.Pairwise.imp ?_ nr
    intro a b h q
    refine h ?_
    have q : (some (Sum.inl (0 + ((a : Nat) : Int))) : OKey) = some (Sum.inl (0 + ((b : Nat) : Int))) := q
    have := Sum.inl.inj (Option.some.inj q)
    omega
section
variable {cs : List Col} {chs : List Ch}
theorem startsV_nodup {n : Int} {m : Nat} : ((startsV cs chs n m).map (·.1)).Nodup := by
  unfold startsV
  split
  · split
    · rename_i c _
      rw [List.map_map]
      exact valsTo_nodup c.top
    · exact List.nodup_nil
  · exact List.nodup_cons.mpr ⟨by simp, List.nodup_nil⟩
theorem startsV_key {n : Int} {m : Nat} {kv : OKey × V} (h : kv ∈ startsV cs chs n m) : isVal (oV kv.1) = true ∨ isMis (oV kv.1) = true := by
  unfold startsV at h
  split at h
  · split at h
    · obtain ⟨v, hv, rfl⟩ := List.mem_map.mp h
      have := valsTo_val hv
      rw [oV_keyO (.inl this)]
      exact .inl this
    · cases h
  · rw [List.mem_singleton.mp h]
    exact .inr rfl
theorem keepP_key {n : Int} {s : Nat} {kv kv' : OKey × V} (h : keepP cs chs n s kv = some kv') : kv'.1 = kv.1 := by
  unfold keepP at h
  split at h
  · cases h
  · rw [← Option.some.inj h]
theorem filterMap_keys {n : Int} {s : Nat} : ∀ {kvs : List (OKey × V)} {k : OKey}, k ∈ (kvs.filterMap (keepP cs chs n s)).map (·.1) → k ∈ kvs.map (·.1) := fun {kvs k} h => by
  obtain ⟨kv', h1, rfl⟩ := List.mem_map.mp h
  obtain ⟨kv, h2, h3⟩ := List.mem_filterMap.mp h1
  exact List.mem_map.mpr ⟨kv, h2, (keepP_key h3).symm⟩
theorem valO_none {k : OKey} : ∀ {kvs : List (OKey × V)}, k ∉ kvs.map (·.1) → valV kvs k = none
  | [], _ => rfl
  | kv :: kvs, h => by
    rw [List.map_cons, List.mem_cons, not_or] at h
    rw [valV_neg fun e => h.1 e.symm]
    exact valO_none h.2
theorem keep_take {n : Int} {s : Nat} {kvs : List (OKey × V)} {i : Nat} {kv : OKey × V} (h : kvs[i]? = some kv) (nd : (kvs.map (·.1)).Nodup) (hm : isMis (ledEnd cs chs n s kv.2) = false) :
    putK ((kvs.take i).filterMap (keepP cs chs n s)) kv.1 (ledEnd cs chs n s kv.2) = (kvs.take (i + 1)).filterMap (keepP cs chs n s) := by
  have hno : kv.1 ∉ (kvs.take i).map (·.1) := fun hm => by
    obtain ⟨kv', h1, h2⟩ := List.mem_map.mp hm
    obtain ⟨j, hj⟩ := List.mem_iff_getElem?.mp h1
    rw [List.getElem?_take] at hj
    split at hj
    · rename_i hji
      obtain ⟨l1, e1⟩ := List.getElem?_eq_some_iff.mp hj
      obtain ⟨l2, e2⟩ := List.getElem?_eq_some_iff.mp h
      have := List.pairwise_iff_getElem.mp nd j i (by rw [List.length_map]; exact l1) (by rw [List.length_map]; exact l2) hji
      rw [List.getElem_map, List.getElem_map, e1, e2] at this
      exact this h2
    · cases hj
  rw [putK_new _ (valO_none fun q => hno (filterMap_keys q)), List.take_add_one, h, List.filterMap_append]
  congr 1
  show [_] = List.filterMap _ [kv]
  rw [List.filterMap_cons]
  have : keepP cs chs n s kv = some (kv.1, ledEnd cs chs n s kv.2) := by
    unfold keepP
    rw [if_neg (by rw [hm]; decide)]
  rw [this]
  rfl
theorem keep_skip {n : Int} {s : Nat} {kvs : List (OKey × V)} {i : Nat} {kv : OKey × V} (h : kvs[i]? = some kv) (hm : isMis (ledEnd cs chs n s kv.2) = true) : (kvs.take (i + 1)).filterMap (keepP cs chs n s) = (kvs.take i).filterMap (keepP cs chs n s) := by
  rw [List.take_add_one, h, List.filterMap_append]
  have : keepP cs chs n s kv = none := by
    unfold keepP
    rw [if_pos hm]
  show _ ++ List.filterMap _ [kv] = _
  rw [List.filterMap_cons, this]
  exact List.append_nil _
theorem startsV_len {n : Int} {m : Nat} (o : HistOk cs chs) (hm : m ≤ chs.length) : (startsV cs chs n m).length ≤ 101 := by
  unfold startsV
  split
  · split
    · rename_i c hc
      obtain ⟨h1, _⟩ := findK_mem hc
      have := (gr_of ((o.f.good o.g m hm).ok c h1).1).2
      rw [List.length_map]
      unfold valsTo
      rw [List.length_cons, rgV_length]
      omega
    · exact Nat.zero_le _
  · show 1 ≤ 101
    decide
theorem dfltB_val (o : HistOk cs chs) {n : Int} (h0 : 0 ≤ n) (h1 : n < (atC cs chs).2) : isVal (dfltB cs chs n) = true := by
  obtain ⟨_, h2, h3⟩ := bornN_spec o h0 h1
  obtain ⟨c, hc⟩ := born_there o h0 h2 h3
  unfold dfltB
  rw [hc]
  exact isVal_in ((o.f.good o.g _ h2).ok c (findK_mem hc).1).1.df
theorem startsV_val (o : HistOk cs chs) {n : Int} {m : Nat} (h0 : 0 ≤ n) (h1 : n < (atC cs chs).2) {kv : OKey × V} (h : kv ∈ startsV cs chs n m) : isVal kv.2 = true := by
  unfold startsV at h
  split at h
  · split at h
    · obtain ⟨v, hv, rfl⟩ := List.mem_map.mp h
      exact valsTo_val hv
    · cases h
  · rw [List.mem_singleton.mp h]
    exact dfltB_val o h0 h1
theorem born_iff (o : HistOk cs chs) {n : Int} {m : Nat} (h0 : 0 ≤ n) (h1 : n < (atC cs chs).2) (hm : m ≤ chs.length) : (m : Int) < (bornN cs chs n : Nat) ↔ ¬ n < numE cs chs m := by
  obtain ⟨_, h2, h3⟩ := bornN_spec o h0 h1
  constructor
  · intro h q
    have := born_le o h0 hm q
    omega
  · intro h
    rcases Nat.lt_or_ge m (bornN cs chs n) with q | q
    · omega
    · have e : numE cs chs (bornN cs chs n) ≤ numE cs chs m := numE_mono q
      have := h3.1
      omega
end

/-! argument in map -/
def sp_Map_in (P : Program) (w : World) (K : PySem.W.Frag) : Sp := fun vs H Q _ => ∃ (m : Addr) (kvs : List (OKey × V)) (v : V), vs = [.ref m, v] ∧ MapAt P w K H m kvs ∧ (isVal v = true ∨ isMis v = true) ∧ ∀ H', Same H H' → Q (.bl (valV kvs (keyO v)).isSome) H'
theorem ok_Map_in (T : Tx K mg) : ∃ fd, FnOk P w K mg base CX0 4 (He.ma K (He.ga K "Map") "__contains__") fd ["self", "x"] (sp_Map_in P w K) ∧ Binds K fd ["self", "x"] [] := by
  have C1 := ok_is_argument (P := P) (w := w) (base := base) T
  refine mkMeth (fd_Map___contains__ T) sc_Map___contains__ (fun _ _ _ _ _ _ us hl => match us, hl with | [_, _], _ => rfl) (fun vs H Q E h => ?_) (fun cdv A outer s H vs Q E hr h => ?_)
  · obtain ⟨m, kvs, v, rfl, _⟩ := h
    rfl
  obtain ⟨m, kvs, v, rfl, hm, hv, k⟩ := h
  refine ⟨_, pss_one (ps_ret (pe_and (pcall C1 hr (pa_cons (pv 1) pa_nil)) (pe_one (pe_cmp (pc_dinO (pv 1) (pe_fld (pv 0) rfl)) (by rfl))))), ?_⟩
  refine ⟨_, rfl, v, rfl, hv, fun H1 s1 => ⟨_, rfl, iteT ?_⟩⟩
  obtain ⟨dx, d, h1, h2⟩ := hm.keep s1
  exact ⟨_, rfl, _, rfl, m, _, dx, _, _, rfl, h1, cl_Map T, na_Map__pairs T, mapFs_pairs, d, kvs, keyO v, rfl, .inl h2, (oV_keyO hv).symm, k H1 s1⟩
/-! len(map) -/
def sp_Map_len (P : Program) (w : World) (K : PySem.W.Frag) : Sp := fun vs H Q _ => ∃ (m : Addr) (kvs : List (OKey × V)), vs = [.ref m] ∧ MapAt P w K H m kvs ∧ Q (.int kvs.length) H
theorem ok_Map_len (T : Tx K mg) : ∃ fd, FnOk P w K mg base CX0 1 (He.ma K (He.ga K "Map") "__len__") fd ["self"] (sp_Map_len P w K) ∧ Binds K fd ["self"] [] := by
  refine mkMeth (fd_Map___len__ T) sc_Map___len__ (fun _ _ _ _ _ _ us hl => match us, hl with | [_], _ => rfl) (fun vs H Q E h => ?_) (fun cdv A outer s H vs Q E hr h => ?_)
  · obtain ⟨m, kvs, rfl, _⟩ := h
    rfl
  obtain ⟨m, kvs, rfl, ⟨dx, d, h1, h2⟩, k⟩ := h
  exact ⟨_, pss_one (ps_ret (pe_callB call_lenO (by rfl) (fr_len T) PySem.boot_len (pa_cons (pe_fld (pv 0) rfl) pa_nil))), _, rfl, m, _, dx, _, _, rfl, h1, cl_Map T, na_Map__pairs T, mapFs_pairs, d, kvs, rfl, .inl h2, k⟩
/-! what a column can hold from an edition on -/
def argsE (cs : List Col) (chs : List Ch) (n : Int) (m : Nat) : List V := (pairsE cs chs n m).map fun kv => oV kv.1

/-! dead editions -/
/-- no row of the edition m can be there -/
def deadB (cs : List Col) (chs : List Ch) (m : Nat) : Bool := (List.range (atC cs chs).2.toNat).any fun j => !decide (((j : Nat) : Int) < numE cs chs m) && (pairsE cs chs (j : Nat) m).isEmpty
theorem later_gone {cs : List Col} {chs : List Ch} {n : Int} {m : Nat} (h : ¬ n < numE cs chs m) : goneB cs chs n m = false := by
  unfold goneB
  rw [decide_eq_false h]
  rfl

/-! arguments: of a column that is there, of one that comes later; rows barred by them -/
section
variable {cs : List Col} {chs : List Ch}
theorem args_there {n : Int} {m : Nat} {c : Col} (hn : n < numE cs chs m) (hc : colE cs chs m n = some c) : argsE cs chs n m = (valsTo c.top).filter fun v => !isMis (ledEnd cs chs n m v) := by
  have hss : startsV cs chs n m = (valsTo c.top).map fun v => (keyO v, v) := by
    unfold startsV
    rw [if_pos hn, hc]
  have hse : startE cs chs n m = m := if_pos hn
  unfold argsE pairsE
  rw [hss, hse]
  have : ∀ l : List V, (∀ v ∈ l, isVal v = true) → ((l.map fun v => (keyO v, v)).filterMap (keepP cs chs n m)).map (fun kv => oV kv.1) = l.filter fun v => !isMis (ledEnd cs chs n m v) := fun l => by
    induction l with
    | nil => exact fun _ => rfl
    | cons v l ih =>
      intro h
      have hv := h v List.mem_cons_self
      rw [List.map_cons, List.filterMap_cons, List.filter_cons]
      cases e : isMis (ledEnd cs chs n m v) with
      | true =>
        have hk : keepP cs chs n m (keyO v, v) = none := if_pos e
        rw [hk, if_neg (by decide)]
        exact ih fun x hx => h x (List.mem_cons_of_mem _ hx)
      | false =>
        have hk : keepP cs chs n m (keyO v, v) = some (keyO v, ledEnd cs chs n m v) := if_neg (by rw [show ((keyO v, v) : OKey × V).2 = v from rfl, e]; decide)
        rw [hk]
        show oV (keyO v) :: _ = v :: _
        rw [oV_keyO (.inl hv), ← ih fun x hx => h x (List.mem_cons_of_mem _ hx)]
  exact this _ fun v hv => valsTo_val hv
theorem args_later {n : Int} {m : Nat} (hn : ¬ n < numE cs chs m) : argsE cs chs n m = if isMis (ledEnd cs chs n (bornN cs chs n) (dfltB cs chs n)) = true then [] else [.str "missing"] := by
  have hss : startsV cs chs n m = [(some (.inr "missing"), dfltB cs chs n)] := if_neg hn
  have hse : startE cs chs n m = bornN cs chs n := if_neg hn
  unfold argsE pairsE
  rw [hss, hse, List.filterMap_cons]
  cases e : isMis (ledEnd cs chs n (bornN cs chs n) (dfltB cs chs n)) with
  | true =>
    have hk : keepP cs chs n (bornN cs chs n) (some (.inr "missing"), dfltB cs chs n) = none := if_pos e
    rw [hk, if_pos rfl]
    rfl
  | false =>
    have hk : keepP cs chs n (bornN cs chs n) (some (.inr "missing"), dfltB cs chs n) = some (some (.inr "missing"), ledEnd cs chs n (bornN cs chs n) (dfltB cs chs n)) := if_neg (by rw [show ((some (Sum.inr "missing"), dfltB cs chs n) : OKey × V).2 = dfltB cs chs n from rfl, e]; decide)
    rw [hk, if_neg (by decide)]
    rfl
theorem pairs_args {n : Int} {m : Nat} : (pairsE cs chs n m).isEmpty = (argsE cs chs n m).isEmpty := by
  unfold argsE
  cases pairsE cs chs n m <;> rfl
theorem args_flat {n : Int} {m : Nat} : (argsE cs chs n m).all flatV = true := by
  unfold argsE
  rw [List.all_map, List.all_eq_true]
  intro kv hkv
  obtain ⟨kv0, h1, h2⟩ := List.mem_filterMap.mp hkv
  rw [show (flatV ∘ fun kv : OKey × V => oV kv.1) kv = flatV (oV kv.1) from rfl, keepP_key h2]
  rcases kv0.1 with _ | (i | x) <;> rfl
theorem args_ok {n : Int} {m : Nat} : (argsE cs chs n m).all okV = true := by
  unfold argsE
  rw [List.all_map, List.all_eq_true]
  intro kv hkv
  obtain ⟨kv0, h1, h2⟩ := List.mem_filterMap.mp hkv
  rw [show (okV ∘ fun kv : OKey × V => oV kv.1) kv = okV (oV kv.1) from rfl, keepP_key h2]
  rcases startsV_key h1 with h | h
  · cases hx : oV kv0.1 with
    | non => rfl
    | int _ => rfl
    | _ => rw [hx] at h; cases h
  · rw [mis_str h]
    decide +kernel
theorem args_len {n : Int} {m : Nat} (o : HistOk cs chs) (hm : m ≤ chs.length) : (argsE cs chs n m).length ≤ 101 := by
  unfold argsE pairsE
  rw [List.length_map]
  exact Nat.le_trans (List.length_filterMap_le _ _) (startsV_len o hm)
theorem inV_of {v : V} {xs : List V} (hv : isVal v = true ∨ isMis v = true) (hx : ∀ x ∈ xs, isVal x = true ∨ isMis x = true) : inV v xs = true ↔ v ∈ xs := by
  unfold inV
  rw [List.any_eq_true]
  have two : ∀ x, (isVal x = true ∨ isMis x = true) → (x = .non ∨ (∃ i, x = .int i) ∨ x = .str "missing") := fun x h => by
    rcases h with h | h
    · cases x with
      | non => exact .inl rfl
      | int i => exact .inr (.inl ⟨i, rfl⟩)
      | _ => cases h
    · exact .inr (.inr (mis_str h))
  constructor
  · rintro ⟨x, h1, h2⟩
    have hx1 := two x (hx x h1)
    rcases two v hv with rfl | ⟨i, rfl⟩ | rfl <;> rcases hx1 with rfl | ⟨j, rfl⟩ | rfl
    · exact h1
    · cases h2
    · cases h2
    · cases h2
    · rw [← eq_of_beq (show (j == i) = true from h2)]
      exact h1
    · cases h2
    · cases h2
    · cases h2
    · exact h1
  · intro h
    refine ⟨v, h, ?_⟩
    rcases two v hv with rfl | ⟨i, rfl⟩ | rfl
    · rfl
    · exact beq_self_eq_true i
    · decide +kernel
theorem args_two {n : Int} {m : Nat} : ∀ x ∈ argsE cs chs n m, isVal x = true ∨ isMis x = true := fun x hx => by
  unfold argsE at hx
  obtain ⟨kv, h1, rfl⟩ := List.mem_map.mp hx
  obtain ⟨kv0, h2, h3⟩ := List.mem_filterMap.mp h1
  rw [keepP_key h3]
  exact startsV_key h2
theorem born_one (o : HistOk cs chs) {n : Int} {e : Nat} (h0 : 0 ≤ n) (h1 : n < (atC cs chs).2) (he : e ≤ chs.length) : (decide (((bornN cs chs n : Nat) : Int) < (e : Nat)) && (colE cs chs e n).isNone) = goneB cs chs n e := by
  unfold goneB
  obtain ⟨_, h2, h3⟩ := bornN_spec o h0 h1
  cases hc : colE cs chs e n with
  | some c => simp
  | none =>
    by_cases hn : n < numE cs chs e
    · have hb := born_le o h0 he hn
      have : bornN cs chs n ≠ e := fun z => by
        obtain ⟨c, hc'⟩ := born_there o h0 h2 h3
        rw [z, hc] at hc'
        cases hc'
      rw [decide_eq_true hn, decide_eq_true (by omega)]
    · have : ¬ ((bornN cs chs n : Nat) : Int) < (e : Nat) := fun z => hn (Int.lt_of_lt_of_le h3.1 (numE_mono (by omega)))
      rw [decide_eq_false hn, decide_eq_false this]
/-- the value under the number is one of its arguments, just if it is not barred -/
theorem arg_in (o : HistOk cs chs) {i : Nat} {es : List (Int × V)} (hi : i ≤ chs.length) (f : FitE (colsE cs chs i) es) {n : Int} (h0 : 0 ≤ n) (h1 : n < (atC cs chs).2) (hg : goneB cs chs n i = false) :
    inV (stV es n) (argsE cs chs n i) = !isMis (valAt cs chs i es n (chs.length - i)) := by
  have a := asc_at o i hi
  have hst : isVal (stV es n) = true ∨ isMis (stV es n) = true := by
    unfold stV
    cases e : es.find? (isE n) with
    | none => exact .inr rfl
    | some p =>
      obtain ⟨k, hk⟩ := List.mem_iff_getElem?.mp (List.mem_of_find?_eq_some e)
      have hkl := (List.getElem?_eq_some_iff.mp hk).1
      rw [f.1] at hkl
      obtain ⟨v', h4, h5⟩ := f.2 k _ (List.getElem?_eq_getElem hkl)
      have e1 := Option.some.inj (hk.symm.trans h4)
      refine .inl ?_
      show isVal p.2 = true
      rw [show p.2 = v' by rw [e1]]
      exact isVal_in h5
  rw [Bool.eq_iff_iff, inV_of hst args_two]
  by_cases hn : n < numE cs chs i
  · obtain ⟨c, hc⟩ : ∃ c, colE cs chs i n = some c := by
      cases e : colE cs chs i n with
      | some c => exact ⟨c, rfl⟩
      | none =>
        unfold goneB at hg
        rw [decide_eq_true hn, e] at hg
        cases hg
    obtain ⟨k1, k2⟩ := findK_mem hc
    obtain ⟨j, hj⟩ := List.mem_iff_getElem?.mp k1
    obtain ⟨v, _, h4, h5⟩ := st_fit f a hj
    rw [k2] at h4
    rw [args_there hn hc, List.mem_filter]
    have hv : stV es n ∈ valsTo c.top := by
      rw [h4]
      cases v with
      | non => exact List.mem_cons_self
      | int u =>
        have h5 : (decide (0 ≤ u) && decide (u ≤ c.top)) = true := h5
        rw [Bool.and_eq_true] at h5
        have g0 := of_decide_eq_true h5.1
        have g1 := of_decide_eq_true h5.2
        refine List.mem_cons_of_mem _ (List.mem_map.mpr ⟨u.toNat, List.mem_range.mpr (by omega), ?_⟩)
        rw [show (0 : Int) + (u.toNat : Nat) = u by omega]
      | _ => cases h5
    have e : valAt cs chs i es n (chs.length - i) = ledEnd cs chs n i (stV es n) := if_pos hn
    rw [e]
    exact ⟨fun q => q.2, fun q => ⟨hv, q⟩⟩
  · have hb : i ≤ bornN cs chs n := by
      have := (born_iff o h0 h1 hi).mpr hn
      omega
    obtain ⟨_, hb2, _⟩ := bornN_spec o h0 h1
    have hs : stV es n = .str "missing" := by
      unfold stV
      cases e : es.find? (isE n) with
      | none => rfl
      | some p =>
        have h3 := List.find?_some e
        have h3 : p.1 = n := of_decide_eq_true h3
        obtain ⟨k, hk⟩ := List.mem_iff_getElem?.mp (List.mem_of_find?_eq_some e)
        have hkl := (List.getElem?_eq_some_iff.mp hk).1
        rw [f.1] at hkl
        obtain ⟨v', h4, _⟩ := f.2 k _ (List.getElem?_eq_getElem hkl)
        have e1 := Option.some.inj (hk.symm.trans h4)
        have := ((o.f.good o.g i hi).ok _ (List.getElem_mem hkl)).2
        rw [e1] at h3
        have h3 : (colsE cs chs i)[k].num = n := h3
        exact absurd (show n < numE cs chs i by rw [← h3]; exact this) hn
    have e : valAt cs chs i es n (chs.length - i) = ledEnd cs chs n (bornN cs chs n) (dfltB cs chs n) := by
      unfold valAt ledEnd
      rw [if_neg hn, show i + (chs.length - i) - bornN cs chs n = chs.length - bornN cs chs n by omega]
    rw [e, args_later hn, hs]
    cases hm : isMis (ledEnd cs chs n (bornN cs chs n) (dfltB cs chs n)) with
    | true => simp
    | false => simp
/-- a row is barred just if a value of it, or a missing one, is -/
def barV (cs : List Col) (chs : List Ch) (i : Nat) (es : List (Int × V)) : Bool := (List.range (atC cs chs).2.toNat).any fun j => !goneB cs chs (j : Nat) i && !inV (stV es (j : Nat)) (argsE cs chs (j : Nat) i)
theorem fol_bar (o : HistOk cs chs) {i : Nat} {es : List (Int × V)} (hi : i ≤ chs.length) (f : FitE (colsE cs chs i) es) : barV cs chs i es = (folTo cs chs i (rowE (colsE cs chs i) es) (chs.length - i)).isNone := by
  have hN : ∀ n : Int, numE cs chs (i + (chs.length - i)) = (atC cs chs).2 := fun _ => by rw [show i + (chs.length - i) = chs.length by omega, numE_all]
  have rel : ∀ n : Int, 0 ≤ n → n < (atC cs chs).2 → goneB cs chs n i = false → Rel cs chs i n (chs.length - i) := fun n h0 h1 hg => by
    refine ⟨h0, by rw [hN n]; exact h1, ?_⟩
    rcases Int.lt_or_le n (numE cs chs i) with q | q
    · refine .inr ?_
      cases e : colE cs chs i n with
      | some c => exact ⟨c, rfl⟩
      | none =>
        unfold goneB at hg
        rw [decide_eq_true q, e] at hg
        cases hg
    · exact .inl q
  rcases row_led o hi f (chs.length - i) (by omega) with ⟨h1, h2⟩ | ⟨h1, n, ⟨r0, r1, r2⟩, h3⟩
  · rw [h1]
    show barV cs chs i es = false
    rw [Bool.eq_false_iff]
    intro hb
    unfold barV at hb
    rw [List.any_eq_true] at hb
    obtain ⟨j, hj, hb⟩ := hb
    rw [List.mem_range] at hj
    rw [Bool.and_eq_true, Bool.not_eq_true', Bool.not_eq_true'] at hb
    have hr := rel (j : Nat) (by omega) (by omega) hb.1
    have := arg_in o hi f (n := (j : Nat)) (by omega) (by omega) hb.1
    rw [hb.2, h2 _ hr] at this
    cases this
  · rw [h1]
    show barV cs chs i es = true
    unfold barV
    rw [List.any_eq_true]
    rw [hN n] at r1
    have hg : goneB cs chs n i = false := by
      unfold goneB
      rcases r2 with q | ⟨c, hc⟩
      · rw [decide_eq_false (by omega)]
        rfl
      · rw [hc]
        exact Bool.and_false _
    refine ⟨n.toNat, List.mem_range.mpr (by omega), ?_⟩
    rw [show ((n.toNat : Nat) : Int) = n by omega, Bool.and_eq_true, Bool.not_eq_true', Bool.not_eq_true']
    refine ⟨hg, ?_⟩
    rw [arg_in o hi f r0 r1 hg, h3]
    rfl
theorem dead_bar (o : HistOk cs chs) {i : Nat} {es : List (Int × V)} (hi : i ≤ chs.length) (f : FitE (colsE cs chs i) es) (h : deadB cs chs i = true) : folTo cs chs i (rowE (colsE cs chs i) es) (chs.length - i) = none := by
  have hb : barV cs chs i es = true := by
    unfold deadB at h
    unfold barV
    rw [List.any_eq_true] at h ⊢
    obtain ⟨j, hj, h2⟩ := h
    rw [Bool.and_eq_true, Bool.not_eq_true'] at h2
    have hn := of_decide_eq_false h2.1
    refine ⟨j, hj, ?_⟩
    have he : argsE cs chs (j : Nat) i = [] := by
      have := h2.2
      rw [pairs_args] at this
      exact List.isEmpty_iff.mp this
    rw [later_gone hn, he]
    rfl
  rw [fol_bar o hi f] at hb
  exact Option.isNone_iff_eq_none.mp hb
end
theorem barV_hit {cs : List Col} {chs : List Ch} {i : Nat} {es : List (Int × V)} {j : Nat} (hj : ((j : Nat) : Int) < (atC cs chs).2) (h1 : goneB cs chs (j : Nat) i = false) (h2 : inV (stV es (j : Nat)) (argsE cs chs (j : Nat) i) = false) : barV cs chs i es = true := by
  unfold barV
  rw [List.any_eq_true]
  exact ⟨j, List.mem_range.mpr (by omega), by rw [h1, h2]; rfl⟩
theorem barV_none {cs : List Col} {chs : List Ch} {i : Nat} {es : List (Int × V)} (h : ∀ j : Nat, j < (atC cs chs).2.toNat → goneB cs chs (j : Nat) i = true ∨ inV (stV es (j : Nat)) (argsE cs chs (j : Nat) i) = true) : barV cs chs i es = false := by
  rw [Bool.eq_false_iff]
  intro q
  unfold barV at q
  rw [List.any_eq_true] at q
  obtain ⟨j, hj, q⟩ := q
  rw [List.mem_range] at hj
  rw [Bool.and_eq_true, Bool.not_eq_true', Bool.not_eq_true'] at q
  rcases h j hj with e | e
  · rw [q.1] at e
    cases e
  · rw [q.2] at e
    cases e

/-! values to a greatest -/
theorem valsTo_in {g : Int} {v : V} (h : v ∈ valsTo g) : isIn g v = true := by
  unfold valsTo at h
  rcases List.mem_cons.mp h with rfl | h
  · rfl
  · unfold rgV at h
    obtain ⟨i, hi, rfl⟩ := List.mem_map.mp h
    rw [List.mem_range] at hi
    show (decide ((0 : Int) ≤ 0 + (i : Int)) && decide ((0 : Int) + (i : Int) ≤ g)) = true
    rw [Bool.and_eq_true]
    exact ⟨decide_eq_true (by omega), decide_eq_true (by omega)⟩
theorem in_vals {g : Int} {v : V} (h : isIn g v = true) : v ∈ valsTo g := by
  cases v with
  | non => exact List.mem_cons_self
  | int u =>
    have h : (decide (0 ≤ u) && decide (u ≤ g)) = true := h
    rw [Bool.and_eq_true] at h
    have g0 := of_decide_eq_true h.1
    have g1 := of_decide_eq_true h.2
    refine List.mem_cons_of_mem _ (List.mem_map.mpr ⟨u.toNat, List.mem_range.mpr (by omega), ?_⟩)
    rw [show (0 : Int) + (u.toNat : Nat) = u by omega]
  | _ => cases h

/-! _law_fits, _law_narrow -/
def fitV (g : Int) : V → Bool
  | .int i => decide (i ≤ g)
  | _ => true
def sp_fits : Sp := fun vs H Q _ => ∃ (v : V) (g : Int), vs = [v, .int g] ∧ valOk v = true ∧ Q (.bl (fitV g v)) H
theorem ok_fits (T : Tx K mg) : Callee P w K mg base CX0 1 "_law_fits" ["_law_value", "_law_g"] [] sp_fits := by
  refine mkCallee (fd__law_fits T) (mg__law_fits T) sc__law_fits (fun _ _ _ _ _ _ us hl => match us, hl with | [_, _], _ => rfl) (fun vs H Q E h => ?_) (fun cdv A outer s H vs Q E hr h => ?_)
  · obtain ⟨v, g, rfl, _⟩ := h
    rfl
  · obtain ⟨v, g, rfl, hv, k⟩ := h
    refine ⟨_, pss_one (ps_ret (pe_or (pe_cmpR op_isN (pv 0) pe_non (nomark _)) (pe_one (pe_cmpR op_le (pv 0) (pv 1) (nomark _))))), ?_⟩
    cases v with
    | non => exact ⟨_, rfl, rfl, _, rfl, k⟩
    | int i => exact ⟨_, rfl, rfl, _, rfl, _, rfl, _, rfl, _, _, rfl, rfl, k⟩
    | _ => cases hv
/-! what an elder edition reads of a stored row -/
def elderR (cs : List Col) (es : List (Int × V)) : List (Key × V) := cs.map fun c => (Sum.inr c.name, stV es c.num)
def elderOk (cs : List Col) (es : List (Int × V)) : Bool := cs.all fun c => isIn c.top (stV es c.num)
theorem elderR_at {cs : List Col} {es : List (Int × V)} {j : Nat} {c : Col} (h : cs[j]? = some c) : (elderR cs es)[j]? = some (Sum.inr c.name, stV es c.num) := by
  unfold elderR
  rw [List.getElem?_map, h]
  rfl
theorem elderR_keys {cs : List Col} {es : List (Int × V)} : (elderR cs es).map (·.1) = (cs.map (·.name)).map Sum.inr := by
  unfold elderR
  rw [List.map_map, List.map_map]
  rfl
theorem elderR_take {cs : List Col} {es : List (Int × V)} {j : Nat} {c : Col} (nd : (cs.map (·.name)).Nodup) (h : cs[j]? = some c) : putK (elderR (cs.take j) es) (Sum.inr c.name) (stV es c.num) = elderR (cs.take (j + 1)) es := by
  have e : cs.take (j + 1) = cs.take j ++ [c] := by
    rw [List.take_add_one, h]
    rfl
  have e2 : elderR (cs.take (j + 1)) es = elderR (cs.take j) es ++ [(Sum.inr c.name, stV es c.num)] := by
    rw [e]
    unfold elderR
    rw [List.map_append]
    rfl
  rw [e2, put_new]
  rw [elderR_keys]
  intro hm
  obtain ⟨n, hn, q⟩ := List.mem_map.mp hm
  obtain rfl := Sum.inr.inj q
  have nd2 : ((cs.take (j + 1)).map (·.name)).Nodup := by
    rw [List.map_take]
    exact nd.sublist (List.take_sublist _ _)
  rw [e, List.map_append, List.nodup_append] at nd2
  exact nd2.2.2 _ hn _ (List.mem_singleton.mpr rfl) rfl
theorem elder_false {cs : List Col} {es : List (Int × V)} {j : Nat} {c : Col} (h : cs[j]? = some c) (hn : isIn c.top (stV es c.num) = false) : elderOk cs es = false := by
  rw [Bool.eq_false_iff]
  intro q
  have := List.all_eq_true.mp q c (List.mem_of_getElem? h)
  rw [hn] at this
  cases this
theorem st_val (n : Int) : ∀ es : List (Int × V), valV (es.map keyE) (Sum.inl n) = (es.find? (isE n)).map (·.2)
  | [] => rfl
  | e :: es => by
    rw [List.map_cons, List.find?_cons]
    by_cases h : e.1 = n
    · rw [valV_pos (by rw [← h]; rfl), show isE n e = true from decide_eq_true h]
      rfl
    · rw [valV_neg (fun z => h (Sum.inl.inj (show (Sum.inl e.1 : Key) = Sum.inl n from z))), st_val n es, show isE n e = false from decide_eq_false h]
theorem st_some {es : List (Int × V)} {n : Int} {v : V} (h : valV (es.map keyE) (Sum.inl n) = some v) : stV es n = v := by
  rw [st_val] at h
  unfold stV
  cases hf : es.find? (isE n) with
  | none => rw [hf] at h; cases h
  | some e =>
    rw [hf] at h
    exact Option.some.inj h
theorem st_none {es : List (Int × V)} {n : Int} (h : valV (es.map keyE) (Sum.inl n) = none) : stV es n = .str "missing" := by
  rw [st_val] at h
  unfold stV
  cases hf : es.find? (isE n) with
  | none => rfl
  | some e =>
    rw [hf] at h
    cases h
/-- what stands in a stored row is a value -/
theorem fit_val {cs : List Col} {es : List (Int × V)} (f : FitE cs es) {n : Int} {v : V} (h : valV (es.map keyE) (Sum.inl n) = some v) : isVal v = true := by
  rw [st_val] at h
  cases hf : es.find? (isE n) with
  | none => rw [hf] at h; cases h
  | some e =>
    rw [hf] at h
    obtain rfl := Option.some.inj h
    obtain ⟨j, hj⟩ := List.mem_iff_getElem?.mp (List.mem_of_find?_eq_some hf)
    have hjl := (List.getElem?_eq_some_iff.mp hj).1
    obtain ⟨v, h1, h2⟩ := f.2 j (cs[j]'(by rw [← f.1]; exact hjl)) (List.getElem?_eq_getElem _)
    obtain rfl := Option.some.inj (h1.symm.trans hj)
    exact in_val h2
theorem fit_in {g : Int} {v : V} (h : isVal v = true) : isIn g v = fitV g v := by
  cases v with
  | non => rfl
  | int i =>
    have h : decide (0 ≤ i) = true := h
    show (decide (0 ≤ i) && decide (i ≤ g)) = decide (i ≤ g)
    rw [h]
    rfl
  | _ => cases h
theorem val_ok {v : V} (h : isVal v = true) : valOk v = true := by
  cases v with
  | non => rfl
  | int _ => rfl
  | _ => cases h

/-! members of a dict's items; columns by their names -/
theorem valV_mem {k : Key} {v : V} : ∀ {kvs : List (Key × V)}, valV kvs k = some v → (k, v) ∈ kvs
  | [], h => by cases h
  | kv :: kvs, h => by
    by_cases e : kv.1 = k
    · rw [valV_pos e] at h
      obtain rfl := Option.some.inj h
      rw [← e]
      exact List.mem_cons_self
    · rw [valV_neg e] at h
      exact List.mem_cons_of_mem _ (valV_mem h)
theorem name_uniq {cs : List Col} {c c' : Col} (nd : (cs.map (·.name)).Nodup) (h : c ∈ cs) (h' : c' ∈ cs) (e : c'.name = c.name) : c' = c := by
  have h1 := find_uniq nd h rfl
  have h2 := find_uniq nd h' e
  exact Option.some.inj (h2.symm.trans h1)

/-! a row of zeros but for what is told; what a reader can read of the rows of an edition -/
/-- the row of zeros, but for the values told by their numbers -/
def zeroE (cl : List Col) (kvs : List (Key × V)) : List (Int × V) := cl.map fun c => (c.num, (valV kvs (Sum.inl c.num)).getD (.int 0))
theorem zeroE_at {cl : List Col} {kvs : List (Key × V)} {j : Nat} {c : Col} (h : cl[j]? = some c) : (zeroE cl kvs)[j]? = some (c.num, (valV kvs (Sum.inl c.num)).getD (.int 0)) := by
  unfold zeroE
  rw [List.getElem?_map, h]
  rfl
theorem zeroE_len {cl : List Col} {kvs : List (Key × V)} : (zeroE cl kvs).length = cl.length := List.length_map ..
theorem chg_zero {n : Str} {ch : Ch} (f : ch.fits = true) : chgV n ch (.int 0) = .int 0 := by
  unfold chgV
  split
  · cases ch with
    | great m g way =>
      have f : (isNm (.str m) && (isGr (.int g) && isWy way)) = true := f
      have hg := (Bool.and_eq_true_iff.mp (Bool.and_eq_true_iff.mp f).2).1
      have hg : (decide (1 ≤ g) && decide (g ≤ 99)) = true := hg
      have hg1 := of_decide_eq_true (Bool.and_eq_true_iff.mp hg).1
      show (if g < 0 then abv g way else V.int 0) = V.int 0
      rw [if_neg (by omega)]
    | _ => rfl
  · rfl
theorem stepN_zero {cl : List Col} {ch : Ch} {n : Int} (f : ch.fits = true) : stepN cl ch n (.int 0) = .int 0 := by
  unfold stepN
  rw [if_neg (by decide)]
  cases cl.find? (isK n) with
  | none => rfl
  | some c => exact chg_zero f
/-- what an edition's rows hold of a number: nothing, where no column has it -/
theorem st_miss {cl : List Col} {es : List (Int × V)} (f : FitE cl es) {n : Int} (h : cl.find? (isK n) = none) : stV es n = .str "missing" := by
  unfold stV
  cases e : es.find? (isE n) with
  | none => rfl
  | some p =>
    have h3 := List.find?_some e
    have h3 : p.1 = n := of_decide_eq_true h3
    obtain ⟨k, hk⟩ := List.mem_iff_getElem?.mp (List.mem_of_find?_eq_some e)
    have hkl := (List.getElem?_eq_some_iff.mp hk).1
    rw [f.1] at hkl
    obtain ⟨v', h4, _⟩ := f.2 k _ (List.getElem?_eq_getElem hkl)
    have e1 := Option.some.inj (hk.symm.trans h4)
    rw [e1] at h3
    exact absurd h3 (findK_none h _ (List.getElem_mem hkl))
theorem stV_two {cl : List Col} {es : List (Int × V)} (f : FitE cl es) (n : Int) : isVal (stV es n) = true ∨ isMis (stV es n) = true := by
  unfold stV
  cases e : es.find? (isE n) with
  | none => exact .inr rfl
  | some p =>
    obtain ⟨k, hk⟩ := List.mem_iff_getElem?.mp (List.mem_of_find?_eq_some e)
    have hkl := (List.getElem?_eq_some_iff.mp hk).1
    rw [f.1] at hkl
    obtain ⟨v', h4, h5⟩ := f.2 k _ (List.getElem?_eq_getElem hkl)
    have e1 := Option.some.inj (hk.symm.trans h4)
    refine .inl ?_
    show isVal p.2 = true
    rw [e1]
    exact isVal_in h5
section
variable {cs : List Col} {chs : List Ch}
theorem ledT_zero (o : HistOk cs chs) {n : Int} {s : Nat} : ∀ k, ledT cs chs n s (.int 0) k = .int 0
  | 0 => rfl
  | k + 1 => by
    show (match chs[s + k]? with
      | some ch => stepN (colsE cs chs (s + k)) ch n (ledT cs chs n s (.int 0) k)
      | none => ledT cs chs n s (.int 0) k) = _
    rw [ledT_zero o k]
    cases e : chs[s + k]? with
    | none => rfl
    | some ch => exact stepN_zero (o.f _ _ e).1
theorem zero_arg (o : HistOk cs chs) {n : Int} {m : Nat} {c : Col} (hn : n < numE cs chs m) (hc : colE cs chs m n = some c) (h0 : 0 ≤ c.top) : V.int 0 ∈ argsE cs chs n m := by
  rw [args_there hn hc, List.mem_filter]
  refine ⟨List.mem_cons_of_mem _ (List.mem_map.mpr ⟨0, List.mem_range.mpr (by omega), rfl⟩), ?_⟩
  have : ledEnd cs chs n m (.int 0) = .int 0 := ledT_zero o _
  rw [this]
  rfl
theorem args_fit {n : Int} {m : Nat} {c : Col} {v : V} (hn : n < numE cs chs m) (hc : colE cs chs m n = some c) (h : v ∈ argsE cs chs n m) : isIn c.top v = true := by
  rw [args_there hn hc, List.mem_filter] at h
  exact valsTo_in h.1
/-- the row of zeros can be there, unless the edition is dead; so with one value that is an argument -/
theorem zero_alive (o : HistOk cs chs) {m : Nat} (hm : m ≤ chs.length) (hd : deadB cs chs m = false) {kvs : List (Key × V)} (hk : ∀ c ∈ colsE cs chs m, ∀ v, valV kvs (Sum.inl c.num) = some v → v ∈ argsE cs chs c.num m) :
    FitE (colsE cs chs m) (zeroE (colsE cs chs m) kvs) ∧ (folTo cs chs m (rowE (colsE cs chs m) (zeroE (colsE cs chs m) kvs)) (chs.length - m)).isSome = true := by
  have g := o.f.good o.g m hm
  have a := asc_at o m hm
  have hv : ∀ c ∈ colsE cs chs m, (valV kvs (Sum.inl c.num)).getD (.int 0) ∈ argsE cs chs c.num m := fun c hc => by
    cases e : valV kvs (Sum.inl c.num) with
    | none => exact zero_arg o (g.ok c hc).2 (asc_find a hc) (by have := (gr_of (g.ok c hc).1).1; omega)
    | some v => exact hk c hc v e
  have fit : FitE (colsE cs chs m) (zeroE (colsE cs chs m) kvs) := ⟨zeroE_len, fun j c h => ⟨_, zeroE_at h, args_fit (g.ok c (List.mem_of_getElem? h)).2 (asc_find a (List.mem_of_getElem? h)) (hv c (List.mem_of_getElem? h))⟩⟩
  refine ⟨fit, ?_⟩
  have hb : barV cs chs m (zeroE (colsE cs chs m) kvs) = false := by
    refine barV_none fun j hj => ?_
    have hN0 := (o.f.good o.g chs.length (Nat.le_refl _)).nn
    rw [List.take_length] at hN0
    cases hg : goneB cs chs (j : Nat) m with
    | true => exact .inl rfl
    | false =>
      refine .inr ?_
      by_cases hn : ((j : Nat) : Int) < numE cs chs m
      · obtain ⟨c, hc⟩ : ∃ c, colE cs chs m (j : Nat) = some c := by
          cases e : colE cs chs m (j : Nat) with
          | some c => exact ⟨c, rfl⟩
          | none =>
            unfold goneB at hg
            rw [decide_eq_true hn, e] at hg
            cases hg
        obtain ⟨k1, k2⟩ := findK_mem hc
        obtain ⟨q, hq⟩ := List.mem_iff_getElem?.mp k1
        obtain ⟨v, h4, h5, h6⟩ := st_fit fit a hq
        have e1 := Option.some.inj ((zeroE_at (kvs := kvs) hq).symm.trans h4)
        have e2 : (valV kvs (Sum.inl c.num)).getD (.int 0) = v := (Prod.mk.inj e1).2
        rw [← k2, h5, ← e2, inV_of (.inl (by rw [e2]; exact isVal_in h6)) args_two]
        exact hv c k1
      · have hb : m ≤ bornN cs chs (j : Nat) := by
          have := (born_iff o (by omega : (0 : Int) ≤ (j : Nat)) (by omega) hm).mpr hn
          omega
        rw [arg_in o hm fit (by omega) (by omega) hg]
        have e : valAt cs chs m (zeroE (colsE cs chs m) kvs) (j : Nat) (chs.length - m) = ledEnd cs chs (j : Nat) (bornN cs chs (j : Nat)) (dfltB cs chs (j : Nat)) := by
          have hb2 := (bornN_spec o (by omega : (0 : Int) ≤ (j : Nat)) (by omega)).2.1
          unfold valAt ledEnd
          rw [if_neg hn, show m + (chs.length - m) - bornN cs chs (j : Nat) = chs.length - bornN cs chs (j : Nat) by omega]
        rw [e]
        cases hm2 : isMis (ledEnd cs chs (j : Nat) (bornN cs chs (j : Nat)) (dfltB cs chs (j : Nat))) with
        | false => rfl
        | true =>
          have : deadB cs chs m = true := by
            unfold deadB
            rw [List.any_eq_true]
            refine ⟨j, List.mem_range.mpr hj, ?_⟩
            rw [pairs_args, args_later hn, hm2, decide_eq_false hn]
            rfl
          rw [hd] at this
          cases this
  rw [fol_bar o hm fit] at hb
  cases e : folTo cs chs m (rowE (colsE cs chs m) (zeroE (colsE cs chs m) kvs)) (chs.length - m) with
  | some _ => rfl
  | none =>
    rw [e] at hb
    cases hb
/-- a reader can read all rows of an edition that can be there -/
def canB (cs : List Col) (chs : List Ch) (m e : Nat) : Bool := deadB cs chs e || (colsE cs chs m).all fun c => (colE cs chs e c.num).isSome && (argsE cs chs c.num e).all fun v => isIn c.top v
theorem can_all (o : HistOk cs chs) {m e : Nat} (hm : m ≤ chs.length) (he : e ≤ chs.length) (hc : canB cs chs m e = true) {es : List (Int × V)} (f : FitE (colsE cs chs e) es) (al : (folTo cs chs e (rowE (colsE cs chs e) es) (chs.length - e)).isSome = true) : elderOk (colsE cs chs m) es = true := by
  unfold canB at hc
  rw [Bool.or_eq_true] at hc
  rcases hc with hc | hc
  · rw [dead_bar o he f hc] at al
    cases al
  · unfold elderOk
    rw [List.all_eq_true]
    intro c hcm
    have h1 := List.all_eq_true.mp hc c hcm
    obtain ⟨h2, h3⟩ := Bool.and_eq_true_iff.mp h1
    have g := o.f.good o.g m hm
    obtain ⟨c1, c2⟩ := g.ok c hcm
    have hN : c.num < (atC cs chs).2 := by
      have := numE_mono (cs := cs) (chs := chs) hm
      rw [numE_all] at this
      exact Int.lt_of_lt_of_le c2 this
    have hg : goneB cs chs c.num e = false := by
      unfold goneB
      obtain ⟨c', h4⟩ := Option.isSome_iff_exists.mp h2
      rw [h4]
      exact Bool.and_false _
    have hb : barV cs chs e es = false := by
      rw [fol_bar o he f]
      obtain ⟨k, hk⟩ := Option.isSome_iff_exists.mp al
      rw [hk]
      rfl
    have h0 := c1.nu
    have hin : inV (stV es c.num) (argsE cs chs c.num e) = true := by
      cases hq : inV (stV es c.num) (argsE cs chs c.num e) with
      | true => rfl
      | false =>
        have hcn : ((c.num.toNat : Nat) : Int) = c.num := by omega
        have := barV_hit (cs := cs) (chs := chs) (i := e) (es := es) (j := c.num.toNat) (by omega) (by rw [hcn]; exact hg) (by rw [hcn]; exact hq)
        rw [hb] at this
        cases this
    have hst : isVal (stV es c.num) = true := by
      obtain ⟨c', h4⟩ := Option.isSome_iff_exists.mp h2
      obtain ⟨k1, k2⟩ := findK_mem h4
      obtain ⟨q, hq⟩ := List.mem_iff_getElem?.mp k1
      obtain ⟨v, _, h5, h6⟩ := st_fit f (asc_at o e he) hq
      rw [← k2, h5]
      exact isVal_in h6
    rw [inV_of (.inl hst) args_two] at hin
    exact List.all_eq_true.mp h3 _ hin
/-- a column of the reader without its number in the edition -/
theorem unread_col {m e : Nat} {c : Col} {es : List (Int × V)} (f : FitE (colsE cs chs e) es) (hc : c ∈ colsE cs chs m) (hn : colE cs chs e c.num = none) : elderOk (colsE cs chs m) es = false := by
  obtain ⟨j, hj⟩ := List.mem_iff_getElem?.mp hc
  exact elder_false hj (by rw [st_miss f hn]; rfl)
/-- a value that does not fit the reader's column -/
theorem unread_val (o : HistOk cs chs) {m e : Nat} (he : e ≤ chs.length) {c c' : Col} {v : V} (hc : c ∈ colsE cs chs m) (hn : colE cs chs e c.num = some c') (hv : isIn c.top v = false)
    (f : FitE (colsE cs chs e) (zeroE (colsE cs chs e) [(Sum.inl c.num, v)])) : elderOk (colsE cs chs m) (zeroE (colsE cs chs e) [(Sum.inl c.num, v)]) = false := by
  obtain ⟨j, hj⟩ := List.mem_iff_getElem?.mp hc
  obtain ⟨k1, k2⟩ := findK_mem hn
  obtain ⟨q, hq⟩ := List.mem_iff_getElem?.mp k1
  obtain ⟨v', h4, h5, _⟩ := st_fit f (asc_at o e he) hq
  have e1 := Option.some.inj ((zeroE_at (kvs := [(Sum.inl c.num, v)]) hq).symm.trans h4)
  have e2 := (Prod.mk.inj e1).2
  rw [k2] at e2 h5
  have e3 : (valV [((Sum.inl c.num : Key), v)] (Sum.inl c.num)).getD (.int 0) = v := by
    rw [valV_pos rfl]
    rfl
  exact elder_false hj (by rw [h5, ← e2, e3]; exact hv)
/-- a reader that cannot read an edition: a row of it that can be there shows it -/
theorem can_not (o : HistOk cs chs) {m e : Nat} (he : e ≤ chs.length) (hc : canB cs chs m e = false) : ∃ es, FitE (colsE cs chs e) es ∧ (folTo cs chs e (rowE (colsE cs chs e) es) (chs.length - e)).isSome = true ∧ elderOk (colsE cs chs m) es = false := by
  unfold canB at hc
  rw [Bool.or_eq_false_iff] at hc
  obtain ⟨hd, hc⟩ := hc
  obtain ⟨c, hcm, hc⟩ := List.all_eq_false.mp hc
  cases hn : colE cs chs e c.num with
  | none =>
    obtain ⟨fit, al⟩ := zero_alive (kvs := []) o he hd (fun c hc v hv => by cases hv)
    exact ⟨_, fit, al, unread_col fit hcm hn⟩
  | some c' =>
    rw [hn] at hc
    have hc : ¬ ((argsE cs chs c.num e).all fun v => isIn c.top v) = true := hc
    rw [Bool.not_eq_true] at hc
    obtain ⟨v, hvm, hv⟩ := List.all_eq_false.mp hc
    rw [Bool.not_eq_true] at hv
    obtain ⟨fit, al⟩ := zero_alive (kvs := [(Sum.inl c.num, v)]) o he hd (fun c'' hc'' v' hv' => by
      have e1 := List.mem_singleton.mp (valV_mem hv')
      have e2 := (Prod.mk.inj e1).1
      have e2 := Sum.inl.inj e2
      rw [e2, (Prod.mk.inj e1).2]
      exact hvm)
    exact ⟨_, fit, al, unread_val o he hcm hn hv fit⟩
end

/-! what a row's value finds among the pairs of its column -/
section
variable {cs : List Col} {chs : List Ch}
theorem keep_sub {n : Int} {s : Nat} : ∀ kvs : List (OKey × V), ((kvs.filterMap (keepP cs chs n s)).map (·.1)).Sublist (kvs.map (·.1))
  | [] => List.Sublist.refl _
  | kv :: kvs => by
    rw [List.filterMap_cons, List.map_cons]
    cases e : keepP cs chs n s kv with
    | none => exact (keep_sub kvs).cons _
    | some kv' =>
      show List.Sublist (kv'.1 :: _) _
      rw [keepP_key e]
      exact (keep_sub kvs).cons₂ _
theorem valO_at {k : OKey} {v : V} : ∀ {kvs : List (OKey × V)} {j : Nat}, (kvs.map (·.1)).Nodup → kvs[j]? = some (k, v) → valV kvs k = some v
  | [], _, _, h => by simp at h
  | kv :: kvs, 0, _, h => by
    rw [Option.some.inj (show some kv = some (k, v) from h), valV_pos rfl]
  | kv :: kvs, j + 1, nd, h => by
    rw [List.map_cons, List.nodup_cons] at nd
    have h : kvs[j]? = some (k, v) := h
    have hk : kv.1 ≠ k := fun e => nd.1 (by rw [e]; exact List.mem_map.mpr ⟨(k, v), List.mem_of_getElem? h, rfl⟩)
    rw [valV_neg hk]
    exact valO_at nd.2 h
theorem pairs_nodup {n : Int} {m : Nat} : ((pairsE cs chs n m).map (·.1)).Nodup := startsV_nodup.sublist (keep_sub _)
theorem pairs_get (o : HistOk cs chs) {i : Nat} {es : List (Int × V)} (hi : i ≤ chs.length) (f : FitE (colsE cs chs i) es) {n : Int} (h0 : 0 ≤ n) (h1 : n < (atC cs chs).2) (hg : goneB cs chs n i = false) :
    valV (pairsE cs chs n i) (keyO (stV es n)) = if isMis (valAt cs chs i es n (chs.length - i)) = true then none else some (valAt cs chs i es n (chs.length - i)) := by
  have two := stV_two f n
  have ai := arg_in o hi f h0 h1 hg
  cases hm : isMis (valAt cs chs i es n (chs.length - i)) with
  | true =>
    rw [if_pos rfl]
    rw [hm] at ai
    refine valO_none fun z => ?_
    obtain ⟨kv, k1, k2⟩ := List.mem_map.mp z
    have : stV es n ∈ argsE cs chs n i := List.mem_map.mpr ⟨kv, k1, by rw [k2]; exact oV_keyO two⟩
    rw [(inV_of two args_two).mpr this] at ai
    cases ai
  | false =>
    rw [if_neg (by decide)]
    rw [hm] at ai
    obtain ⟨kv, k1, k2⟩ := List.mem_map.mp ((inV_of two args_two).mp ai)
    obtain ⟨kv0, k3, k4⟩ := List.mem_filterMap.mp k1
    have e4 : kv = (kv0.1, ledEnd cs chs n (startE cs chs n i) kv0.2) := by
      unfold keepP at k4
      split at k4
      · cases k4
      · exact (Option.some.inj k4).symm
    have fin : kv = (keyO (stV es n), valAt cs chs i es n (chs.length - i)) := by
      by_cases hn : n < numE cs chs i
      · have hss : ∃ u, isVal u = true ∧ kv0 = (keyO u, u) := by
          unfold startsV at k3
          rw [if_pos hn] at k3
          split at k3
          · obtain ⟨u, hu, rfl⟩ := List.mem_map.mp k3
            exact ⟨u, valsTo_val hu, rfl⟩
          · cases k3
        obtain ⟨u, hu, rfl⟩ := hss
        rw [e4] at k2
        have k2 : oV (keyO u) = stV es n := k2
        rw [oV_keyO (.inl hu)] at k2
        have hse : startE cs chs n i = i := if_pos hn
        have e : valAt cs chs i es n (chs.length - i) = ledEnd cs chs n i (stV es n) := if_pos hn
        rw [e4, e, hse, k2]
      · have hss : kv0 = (some (.inr "missing"), dfltB cs chs n) := by
          unfold startsV at k3
          rw [if_neg hn] at k3
          exact List.mem_singleton.mp k3
        have hse : startE cs chs n i = bornN cs chs n := if_neg hn
        have hb : i ≤ bornN cs chs n := by
          have := (born_iff o h0 h1 hi).mpr hn
          omega
        have hb2 := (bornN_spec o h0 h1).2.1
        have e : valAt cs chs i es n (chs.length - i) = ledEnd cs chs n (bornN cs chs n) (dfltB cs chs n) := by
          unfold valAt ledEnd
          rw [if_neg hn, show i + (chs.length - i) - bornN cs chs n = chs.length - bornN cs chs n by omega]
        have k5 : stV es n = .str "missing" := by
          rw [← k2, e4, hss]
          rfl
        rw [e4, e, hse, hss, k5]
        rfl
    rw [fin] at k1
    obtain ⟨j, hj⟩ := List.mem_iff_getElem?.mp k1
    exact valO_at pairs_nodup hj
end

/-! map == map, of maps with the same pairs -/
def sp_Map_eq (P : Program) (w : World) (K : PySem.W.Frag) : Sp := fun vs H Q _ => ∃ (m n : Addr) (kvs : List (OKey × V)), vs = [.ref m, .ref n] ∧ MapAt P w K H m kvs ∧ MapAt P w K H n kvs ∧ (kvs.map (·.1)).Nodup ∧ (∀ kv ∈ kvs, flatB kv.2 = true) ∧ Q (.bl true) H
theorem ok_Map_eq (T : Tx K mg) : ∃ fd, FnOk P w K mg base CX0 1 (He.ma K (He.ga K "Map") "__eq__") fd ["self", "other"] (sp_Map_eq P w K) ∧ Binds K fd ["self", "other"] [] := by
  have ic := insC_of (ex_Map T) (cl_Map T)
  refine mkMeth (fd_Map___eq__ T) sc_Map___eq__ (fun _ _ _ _ _ _ us hl => match us, hl with | [_, _], _ => rfl) (fun vs H Q E h => ?_) (fun cdv A outer s H vs Q E hr h => ?_)
  · obtain ⟨m, n, kvs, rfl, _⟩ := h
    rfl
  obtain ⟨m, n, kvs, rfl, ⟨dx, d, h1, h2⟩, ⟨dy, e, g1, g2⟩, nd, fl, k⟩ := h
  refine ⟨_, pss_one (ps_ret (pe_and (pe_callB (C8.call_isC ic) (by rfl) (fr_isinstance T) (by decide +kernel) (pa_cons (pv 1) (pa_cons (pe_glob (v := .ref (He.ga K "Map")) (by rfl) (mg_Map T) rfl) pa_nil))) (pe_one (pe_cmpR (op_eqO hr.units0) (pe_fld (pv 0) rfl) (pe_fld (pv 1) rfl) (by rfl))))), ?_⟩
  refine ⟨_, rfl, n, dy, _, rfl, g1, _, rfl, iteT ?_⟩
  refine ⟨_, rfl, m, _, dx, _, _, rfl, h1, cl_Map T, na_Map__pairs T, mapFs_pairs, _, rfl, n, _, dy, _, _, rfl, g1, cl_Map T, na_Map__pairs T, mapFs_pairs, d, e, kvs, kvs, rfl, rfl, .inl h2, .inl g2, rfl, fun p hp => ⟨?_, fl p hp⟩, k⟩
  obtain ⟨j, hj⟩ := List.mem_iff_getElem?.mp hp
  exact valO_at nd hj
/-! map.arguments() -/
def sp_Map_arguments (P : Program) (w : World) (K : PySem.W.Frag) : Sp := fun vs H Q _ => ∃ (m : Addr) (kvs : List (OKey × V)), vs = [.ref m] ∧ MapAt P w K H m kvs ∧ kvs.length ≤ 1000 ∧ (∀ kv ∈ kvs, isVal (oV kv.1) = true ∨ isMis (oV kv.1) = true) ∧
  ∀ (p : Addr) (H' : Hp) (ys : List V) (ns : List Int), H p = none → Same H H' → InOrd (kvs.map fun kv => oV kv.1) ys ns → H' p = some (.lst ys) → Q (.ref p) H'
theorem ok_Map_arguments (T : Tx K mg) : ∃ fd, FnOk P w K mg base CX0 4 (He.ma K (He.ga K "Map") "arguments") fd ["self"] (sp_Map_arguments P w K) ∧ Binds K fd ["self"] [] := by
  have C1 := ok_in_order (P := P) (w := w) (base := base) T
  refine mkMeth (fd_Map_arguments T) sc_Map_arguments (fun _ _ _ _ _ _ us hl => match us, hl with | [_], _ => rfl) (fun vs H Q E h => ?_) (fun cdv A outer s H vs Q E hr h => ?_)
  · obtain ⟨m, kvs, rfl, _⟩ := h
    rfl
  obtain ⟨m, kvs, rfl, ⟨dx, d, h1, h2⟩, hl, hk, k⟩ := h
  refine ⟨_, pss_one (ps_ret (pcall C1 hr (pa_cons (pe_callTy (call_listO rfl) (by rfl) (fr_list T) (by decide +kernel) (pa_cons (pe_fld (pv 0) rfl) pa_nil)) pa_nil))), ?_⟩
  refine ⟨_, rfl, m, _, dx, _, _, rfl, h1, cl_Map T, na_Map__pairs T, mapFs_pairs, d, kvs, rfl, .inl h2, fun p np => ?_⟩
  refine ⟨p, _, rfl, .inl (sqL_of upd_same), by rw [List.length_map]; exact hl, fun x hx => ?_, fun q H' ys ns nq s1 io hq => ?_⟩
  · obtain ⟨kv, hkv, rfl⟩ := List.mem_map.mp hx
    obtain ⟨ty, hty⟩ := val_ty (hk kv hkv).symm
    exact ⟨ty, fun H' _ => hty _ _⟩
  · exact k q H' ys ns ((same_new np).free nq) ((same_new np).trans s1) io hq
/-! led_value -/
def sp_led_value (K : PySem.W.Frag) : Sp := fun vs H Q _ => ∃ (l : Addr) (ps : List Addr) (xs : List (Col × Ch)) (v : V), vs = [.ref l, v] ∧ H l = some (.lst (ps.map V.ref)) ∧ PairsAt K H ps xs ∧ isVal v = true ∧ (∀ x ∈ xs, x.2.fits = true) ∧ ∀ H', Same H H' → Q (ledF xs v) H'
theorem ok_led_value (T : Tx K mg) : Callee P w K mg base CX0 4 "led_value" ["steps", "value"] [] (sp_led_value K) := by
  have C1 := (ok_changed_value (P := P) (w := w) (base := base) T).up (show 2 ≤ 3 by decide)
  have C2 := (ok_is_missing (P := P) (w := w) (base := base) T).up (show _ ≤ 3 by decide)
  refine mkCallee (fd_led_value T) (mg_led_value T) sc_led_value (fun _ _ _ _ _ _ us hl => match us, hl with | [_, _], _ => rfl) (fun vs H Q E h => ?_) (fun cdv A outer s H vs Q E hr h => ?_)
  · obtain ⟨l, ps, xs, v, rfl, _⟩ := h
    rfl
  · obtain ⟨l, ps, xs, v, rfl, hl, hp, hv, hf, k⟩ := h
    have nd := sc_led_value.nd
    obtain ⟨t0, m0⟩ := ms_MISSING T
    refine ⟨_, (pss_cons (ps_set (i := 2) nd rfl (Or.inl rfl) (pv 1))
        (pss_cons (ps_for PassesOwn.never rfl (pi_list (pv 0)) (pg_tup rfl (pgs_cons (pg_name (i := 3) nd rfl (Or.inl rfl)) (pgs_cons (pg_name (i := 4) nd rfl (Or.inl rfl)) pgs_nil))) (pss_cons (ps_set (i := 2) nd rfl (Or.inl rfl) (pcall C1 hr (pa_cons (pv 3) (pa_cons (pv 4) (pa_cons (pv 2) pa_nil)))))
        (pss_one (ps_if (pt_val (pcall C2 hr (pa_cons (pv 2) pa_nil))) (pss_one (ps_ret (pe_glob (v := .str "missing") rfl m0 ⟨t0, rfl⟩))) pss_nil))))
        (pss_one (ps_ret (pv 2))))), ?_⟩
    refine q_asgX ⟨_, rfl, ?_⟩
    refine ⟨_, rfl, l, rfl, ⟨_, sqL_of hl⟩, ?_⟩
    refine for_list (xs := ps.map V.ref) (fun i σ H' => Same H H' ∧ (∃ x3 x4 : Option V, σ = [some (.ref l), some v, some (ledF (xs.take i) v), x3, x4]) ∧ isVal (ledF (xs.take i) v) = true) ⟨Same.refl _, ⟨none, none, rfl⟩, hv⟩ (fun i σ H' _ q => sqL_of (q.1 _ _ hl)) ?_ ?_
    · rintro i x σ H' hx ⟨s', ⟨x3, x4, rfl⟩, hi⟩
      rw [List.getElem?_map] at hx
      cases ha : ps[i]? with
      | none =>
        rw [ha] at hx
        cases hx
      | some p =>
        rw [ha] at hx
        obtain rfl := Option.some.inj hx
        have hil := (List.getElem?_eq_some_iff.mp ha).1
        have hpl := hp.1
        have hxi : xs[i]? = some (xs[i]'(by omega)) := List.getElem?_eq_getElem _
        generalize xs[i]'(by omega) = y at hxi
        obtain ⟨a, t, q1, ⟨dx, q2⟩, q3⟩ := (hp.keep s').2 i p y ha hxi
        have fy := hf y (List.mem_of_getElem? hxi)
        have hm := isVal_mis hi
        have htk := ledF_take hxi hm
        obtain ⟨ty, hty⟩ := val_ty (chg_or (n := y.1.name) fy hi)
        refine ⟨p, _, rfl, q1, rfl, _, _, rfl, _, _, rfl, rfl, ?_⟩
        dsimp only
        refine q_asgX ⟨_, rfl, _, rfl, _, rfl, a, t, y.1.name, y.1.top, y.1.num, y.1.dflt, _, y.2, rfl, ⟨dx, q2⟩, q3, isVal_ok hi, ?_⟩
        dsimp only
        refine ⟨_, rfl, _, ty, rfl, hty _ _, fun _ _ => hty _ _, fun H2 s2 => ?_⟩
        have s02 := s'.trans s2
        refine ⟨_, rfl, ?_⟩
        cases hmis : isMis (chgV y.1.name y.2 (ledF (xs.take i) v)) with
        | true =>
          refine iteT ?_
          have e := ledF_stop (v := v) (xs := xs) (i := i + 1) (by rw [htk]; exact hmis)
          have k2 := k H2 s02
          rw [e, htk, mis_str hmis] at k2
          exact k2
        | false =>
          refine iteF (nxt ⟨s02, ⟨_, _, by rw [htk]; rfl⟩, ?_⟩)
          rw [htk]
          exact chg_val fy hi hmis
    rintro σ H' ⟨s', ⟨x3, x4, rfl⟩, hi⟩
    rw [List.length_map, List.take_of_length_le (by rw [hp.1]; exact Nat.le_refl _)]
    exact ⟨_, rfl, k H' s'⟩
/-! a dict comprehension with None among its keys -/
theorem optO_empty {P : Program} {w : World} {H : Hp} (h : Heap) (hb : sysModules < h.objs.size) : ObjOk P w H (h.push { cls := .type "dict", data := .dict #[] }) h.objs.size (optO P w h.objs.size []) :=
  optO_ok (vs := []) (Nat.zero_le _) (beq_eq_false_iff_ne.mpr (Ne.symm (Nat.ne_of_lt hb))) .nil (Heap.DictOf.new h)
theorem o_dictSet {X : Cx} {pins : List (Addr × Obj)} {σ : L2.St} {H : Hp} {s : Shared} {E : Value → Shared → Prop} {D : Addr} {kvs : List (OKey × V)} {k : OKey} {v : V} {u r : Value} {Q : Unit → Shared → Prop} (I : Inv X pins σ H s) (hD : H D = some (optO X.prog X.w D kvs)) (hz : kvs.length < sizeLine)
    (ry : RelV (oV k) u) (rv : RelV v r) (h : ∀ s', Inv X pins σ (upd H D (optO X.prog X.w D (putK kvs k v))) s' → Q () s') : wpAny (model X.prog X.w) X.A (dictSet D u r) Q E s := by
  obtain ⟨z, hd, vs, rel, dd⟩ := optO_rd I.hok (.inl hD)
  refine wpAny_dictSet_pairs (hsz := by rw [← rel.length]; exact z) (oV_is ry) dd fun h' dd' hs => h _ (optO_write I hD hd ?_ (rel.put k rv) dd' hs _)
  have := length_putK kvs k v
  omega
section
variable {X : Cx}
def tDcO (P : Program) (w : World) (wi : TI) (g : TG) (tt : TT) (tk tv : TE) (vs : List Nat) : TE := fun σ H Q => wi σ H fun J H1 => ∀ D, H1 D = none → ∃ W : Nat → Nat → Hp → Prop, (∃ m, W 0 m (upd H1 D (optO P w D []))) ∧ ∀ i m H, W i m H →
  (J.stop i H ∧ Q (.ref D) H) ∨ (J.go i H ∧ ∃ Nx : Hp → Prop, (∀ H', Nx H' → ∃ m', m' < m ∧ W (i + 1) m' H') ∧ ∀ x H', J.yld i H x H' → g x (wipe σ vs) H' fun σ2 H2 => wipe σ2 vs = wipe σ vs ∧ tt σ2 H2 fun b H3 =>
    if b = true then tk σ2 H3 fun y H4 => tv σ2 H4 fun z H5 => ∃ kvs k, y = oV k ∧ H5 D = some (optO P w D kvs) ∧ kvs.length < sizeLine ∧ Nx (upd H5 D (optO P w D (putK kvs k z))) else Nx H3)
theorem dc_coreO {pins : List (Addr × Obj)} {s : Shared} {σ : L2.St} {H : Hp} {Q : VK} {kx vx tg iter : Expr} {ifs : List Expr} {scope : Scope} {own : List (Str × Nat)} {pos pos' : Pos} {wi : TI} {g : TG} {tt : TT} {tk tv : TE} {use : Option (Value → Sem Unit)} {Qf : Value → Shared → Prop}
    (hc : X.calm = true) (hN : X.N.Nodup) (I : Inv X pins σ H s) (hi : PI X tg iter wi) (ok : BlkOk X.N X.env.scope scope own)
    (hg : ∀ (s : Shared) (H : Hp) (C : Addr) (cl : List (Str × Addr)) (fp : List Addr), PG (X.blk s H scope (compEnvC scope cl C X.env) fp) tg g) (ht : ∀ (s : Shared) (H : Hp) (C : Addr) (cl : List (Str × Addr)) (fp : List Addr), PTs (X.blk s H scope (compEnvC scope cl C X.env) fp) ifs tt)
    (hk : ∀ (s : Shared) (H : Hp) (C : Addr) (cl : List (Str × Addr)) (fp : List Addr), PE (X.blk s H scope (compEnvC scope cl C X.env) fp) kx tk)
    (he : ∀ (s : Shared) (H : Hp) (C : Addr) (cl : List (Str × Addr)) (fp : List Addr), PE (X.blk s H scope (compEnvC scope cl C X.env) fp) vx tv) (hs : ∀ x, foldedSetIterable iter X.env x = pure x)
    (h : tDcO X.prog X.w wi g tt tk tv (own.map (·.2)) σ H Q)
    (hRR : ∀ D C s' m H', Inv X pins σ H' s' → Q (.ref D) H' → s'.heap.Ns C m → FpOk X pins H' C → compPost (model X.prog X.w) X.A X.xe use Qf (.ref D) C (.ok .next) s') :
    wpAny (model X.prog X.w) X.A (comprehension (.DictComp kx vx [⟨tg, iter, ifs, 0⟩] scope pos) scope X.env pos' newDict false (eval iter X.env) use) Qf X.xe s := by
  have hfree : ∀ y ∈ scope.names, y.2 = .free → ∃ c, X.env.cells.lookup y.1 = some c := fun y hy e => by
    rcases ok.free y hy e with k | k
    · exact I.ok.has _ (.inl k)
    · exact I.ok.has _ (.inr k)
  refine wpAny_comprehension_free (use := use) rfl hs (closure_ok hfree) ok.kind (fun y hy e => by rw [ok.uniq y hy, e])
    (thn (hi.run pins s σ H _ I h) fun xv s1 hx => thn hx fun itv s2 h2 => ?_)
  obtain ⟨it, fp, tn, J, H2, e, I2, T, st2, f2, q⟩ := h2
  subst e
  refine wpAny_newObj_type (newEnv_comp ?_)
  generalize hD : s2.heap.objs.size = D
  have hDn : H2 D = none := I2.hok.fresh (Nat.le_of_eq hD)
  obtain ⟨W, ⟨m0, w0⟩, turn⟩ := q D hDn
  generalize hs3 : ({ s2 with heap := s2.heap.push { cls := .type "dict", data := .dict #[] } } : Shared) = s3
  have I3 : Inv X pins σ (upd H2 D (optO X.prog X.w D [])) s3 := by
    rw [← hs3]
    refine I2.laid (t' := s2.toks) (fun b o e => Heap.get?_push_of_some _ e) (Nat.le_of_eq hD) ?_
    rw [← hD]
    exact optO_empty s2.heap I2.big
  have h3 : s3.heap = s2.heap.push { cls := .type "dict", data := .dict #[] } := by rw [← hs3]
  have sz : ∀ b ∈ fp, b < s2.heap.objs.size := fun b hb => by
    obtain ⟨o, e, _⟩ := T.obj _ _ st2 b hb
    exact Heap.lt_size e
  have f3 : ∀ b ∈ fp, FpOk X pins (upd H2 D (optO X.prog X.w D [])) b ∧ b < s3.heap.objs.size := fun b hb => by
    have hlt := sz b hb
    refine ⟨⟨?_, (f2 b hb).2⟩, by rw [h3, Heap.size_push]; exact Nat.lt_succ_of_lt hlt⟩
    rw [upd_ne (by rw [← hD]; exact Nat.ne_of_lt hlt)]
    exact (f2 b hb).1
  have st3 : tn 0 s3.heap := T.keep _ _ _ st2 fun b _ o e => by rw [h3]; exact Heap.get?_push_of_some _ e
  have I4 := block_start I3 ok hN f3
  have pg := hg s3 (upd H2 D (optO X.prog X.w D [])) s3.heap.objs.size (cellsFrom (s3.heap.objs.size + 1) scope.names (cloFrom X.env.cells scope.names [])) fp
  have pt := ht s3 (upd H2 D (optO X.prog X.w D [])) s3.heap.objs.size (cellsFrom (s3.heap.objs.size + 1) scope.names (cloFrom X.env.cells scope.names [])) fp
  have pk := hk s3 (upd H2 D (optO X.prog X.w D [])) s3.heap.objs.size (cellsFrom (s3.heap.objs.size + 1) scope.names (cloFrom X.env.cells scope.names [])) fp
  have pe := he s3 (upd H2 D (optO X.prog X.w D [])) s3.heap.objs.size (cellsFrom (s3.heap.objs.size + 1) scope.names (cloFrom X.env.cells scope.names [])) fp
  show codeAny _ _ (.compStart (.DictComp kx vx [⟨tg, iter, ifs, 0⟩] scope pos) 0 (.ref it) (.ref D) (compEnvC scope (cellsFrom (s3.heap.objs.size + 1) scope.names (cloFrom X.env.cells scope.names [])) s3.heap.objs.size X.env)) (compPost (model X.prog X.w) X.A X.xe use Qf (.ref D) s3.heap.objs.size) { s3 with heap := pushCells (s3.heap.push { cls := .type "dict", data := .dict #[] }) scope.names }
  have nfp : ∀ b ∈ fp, (upd H2 D (optO X.prog X.w D [])) b = none := fun b hb => (f3 b hb).1.1
  generalize hce : compEnvC scope (cellsFrom (s3.heap.objs.size + 1) scope.names (cloFrom X.env.cells scope.names [])) s3.heap.objs.size X.env = ce at I4 pg pt pk pe ⊢
  have cL : ce.locals = s3.heap.objs.size := by subst hce; rfl
  generalize hH3 : upd H2 D (optO X.prog X.w D []) = H3 at I3 I4 pg pt pk pe w0 nfp f3
  generalize hs4 : ({ s3 with heap := pushCells (s3.heap.push { cls := .type "dict", data := .dict #[] }) scope.names } : Shared) = s4 at I4 ⊢
  have st4 : tn 0 s4.heap := T.keep _ _ _ st3 fun b _ o e => by rw [← hs4]; exact pushCells_keeps _ _ _ _ (Heap.get?_push_of_some _ e)
  have stat : ∀ {σ' : L2.St} {H' : Hp} {s' : Shared}, Inv (X.blk s3 H3 scope ce fp) [] σ' H' s' → (∀ b ∈ fp, H' b = none) → ∀ b ∈ fp, FpOk (X.blk s3 H3 scope ce fp) [] H' b := fun {σ' H' s'} I' hn b hb =>
    ⟨hn b hb, (I'.ok.exf b hb).1, I'.ok.exfs b hb, .inl hb, fun x c e => (I'.ok.exf b hb).2 x c e, fun p hp => absurd (show p ∈ ([] : List (Addr × Obj)) ++ [] from hp) (by simp)⟩
  have loop : codeAny (model X.prog X.w) X.A (.compLoop (.DictComp kx vx [⟨tg, iter, ifs, 0⟩] scope pos) 0 (.ref it) (.ref D) ce) (compPost (model X.prog X.w) X.A X.xe use Qf (.ref D) s3.heap.objs.size) s4 := by
    refine compLoop_anyD (fun n s' => ∃ i H', Inv (X.blk s3 H3 scope ce fp) [] (wipe σ (own.map (·.2))) H' s' ∧ tn i s'.heap ∧ (∀ b ∈ fp, H' b = none) ∧ W i n H') ?_ m0 ⟨0, H3, I4, st4, nfp, w0⟩
    rintro n s5 ⟨i, H5, I5, st5, n5, w5⟩
    rcases turn i n H5 w5 with ⟨stop, qq⟩ | ⟨go, Nx, hNx, step⟩
    · have td := T.done (X.blk s3 H3 scope ce fp) rfl rfl rfl hc i [] s5 _ H5 (fun _ _ => False) I5 (stat I5 n5) st5 stop
      refine thnF td fun r s6 ⟨hr, I6⟩ => ?_
      subst hr
      have I7 : Inv X pins σ H5 s6 := I3.call' (ch := fp) I6.os I6.base I6.hok I6.bare fun b hb => ⟨(f3 b hb).1.2.2.2.1, (f3 b hb).1.2.1, (f3 b hb).1.2.2.2.2.1, (f3 b hb).1.2.2.2.2.2⟩
      have nC : H5 s3.heap.objs.size = none := by
        have z : H5 ce.locals = none := I6.free
        rw [cL] at z
        exact z
      obtain ⟨m, hn, _⟩ := I6.loc
      have hn : s6.heap.Ns ce.locals m := hn
      rw [cL] at hn
      exact hRR D s3.heap.objs.size s6 m H5 I7 qq hn (I3.fpOk (Nat.le_refl _) nC)
    · have ti := T.item (X.blk s3 H3 scope ce fp) rfl rfl rfl hc i [] s5 _ H5 (fun _ _ => False) I5 (stat I5 n5) st5 go
      refine thnF ti fun r s6 ⟨u, hr, h6⟩ => ?_
      subst hr
      refine thnF h6 fun _ s7 ⟨x, H7, I7, r7, y7, st7, n7⟩ => ?_
      have I7' := I7.pinned (stat I7 n7) (T.obj _ _ st7)
      refine thnF (pg.run _ s7 _ H7 x u _ I7' r7 (step x H7 y7)) fun _ s8 ⟨σ8, H8, I8, hw8, q8⟩ => ?_
      refine thnF (pt.run _ s8 σ8 H8 _ I8 q8) fun b s9 ⟨H9, I9, q9⟩ => ?_
      have fin : ∀ {s' : Shared} {H' : Hp}, Inv (X.blk s3 H3 scope ce fp) ([] ++ pinsAt fp s7.heap) σ8 H' s' → Nx H' → ∃ m, m < n ∧ ∃ i H', Inv (X.blk s3 H3 scope ce fp) [] (wipe σ (own.map (·.2))) H' s' ∧ tn i s'.heap ∧ (∀ b ∈ fp, H' b = none) ∧ W i m H' := fun {s' H'} I' nx => by
        obtain ⟨m', hm, w'⟩ := hNx H' nx
        have pin' : ∀ b ∈ fp, ∀ o, s7.heap.get? b = some o → s'.heap.get? b = some o ∧ H' b = none := fun b hb o e =>
          let z := I'.pin (b, o) (List.mem_append_right _ (List.mem_append_right _ (mem_pinsAt hb e)))
          ⟨z.1, z.2.1⟩
        have hl : (wipe σ (own.map (·.2))).length = σ8.length := by rw [← hw8, wipe_length]
        refine ⟨m', hm, i + 1, H', (I'.unpinned (pins := [])).weak hl (fun j v e => ?_), T.keep _ _ _ st7 fun b hb o e => (pin' b hb o e).1, fun b hb => ?_, w'⟩
        · rw [← hw8] at e
          exact (wipe_some e).1
        · obtain ⟨o, e, _⟩ := T.obj _ _ st7 b hb
          exact (pin' b hb o e).2
      cases b with
      | false =>
        simp only [Bool.false_eq_true, if_false] at q9 ⊢
        exact fin I9 q9
      | true =>
        simp only [if_true] at q9 ⊢
        refine thnF (pk.run _ s9 σ8 H9 _ I9 q9) fun z s10 ⟨yk, H10, I10, r10, q10⟩ => ?_
        refine thnF (pe.run _ s10 σ8 H10 _ I10 q10) fun z2 s11 ⟨yv, H11, I11, r11, kvs, k, ek, hD11, hz11, nx⟩ => ?_
        subst ek
        exact o_dictSet (X := X.blk s3 H3 scope ce fp) I11 hD11 hz11 r10 r11 fun s12 I12 => fin I12 nx
  exact codeAny_compStart_dict loop (T.self X.A 0 _ _ _ st4 loop)
theorem pe_dcO {kx vx tg iter : Expr} {ifs : List Expr} {scope : Scope} {own : List (Str × Nat)} {pos : Pos} {wi : TI} {g : TG} {tt : TT} {tk tv : TE} (hc : X.calm = true) (hN : X.N.Nodup) (hi : PI X tg iter wi) (ok : BlkOk X.N X.env.scope scope own)
    (hg : ∀ (s : Shared) (H : Hp) (C : Addr) (cl : List (Str × Addr)) (fp : List Addr), PG (X.blk s H scope (compEnvC scope cl C X.env) fp) tg g) (ht : ∀ (s : Shared) (H : Hp) (C : Addr) (cl : List (Str × Addr)) (fp : List Addr), PTs (X.blk s H scope (compEnvC scope cl C X.env) fp) ifs tt)
    (hk : ∀ (s : Shared) (H : Hp) (C : Addr) (cl : List (Str × Addr)) (fp : List Addr), PE (X.blk s H scope (compEnvC scope cl C X.env) fp) kx tk)
    (he : ∀ (s : Shared) (H : Hp) (C : Addr) (cl : List (Str × Addr)) (fp : List Addr), PE (X.blk s H scope (compEnvC scope cl C X.env) fp) vx tv) (hs : ∀ x, foldedSetIterable iter X.env x = pure x := by intro _; rfl) :
    PE X (.DictComp kx vx [⟨tg, iter, ifs, 0⟩] scope pos) (tDcO X.prog X.w wi g tt tk tv (own.map (·.2))) := by
  refine ⟨fun pins s σ H Q I h => ?_⟩
  rw [arm_eval_DictComp]
  refine dc_coreO hc hN I hi ok hg ht hk he hs h fun D C s' m H' I' q hn f => ⟨m, hn, fun h'' sb => ?_⟩
  obtain ⟨f0, f1, f2, f3, f4, f5⟩ := f
  exact ⟨.ref D, H', I'.turned (t' := s'.toks) (fun b o hb e => (sb.2 b hb).trans e) f0 f1 f3 f4 f5, rfl, q⟩
theorem ps_setDcO {i : Nat} {y : Str} {py : Pos} {kx vx tg iter : Expr} {ifs : List Expr} {scope : Scope} {own : List (Str × Nat)} {pos spos : Pos} {wi : TI} {g : TG} {tt : TT} {tk tv : TE} (hc : X.calm = true) (hN : X.N.Nodup) (hy : X.N[i]? = some y) (hyl : X.env.scope.names.lookup y = some .local)
    (hsw : swapsWith (.DictComp kx vx [⟨tg, iter, ifs, 0⟩] scope pos) (some (.Name y py)) spos.line X.env = pure true) (hi : PI X tg iter wi) (ok : BlkOk X.N X.env.scope scope own)
    (hg : ∀ (s : Shared) (H : Hp) (C : Addr) (cl : List (Str × Addr)) (fp : List Addr), PG (X.blk s H scope (compEnvC scope cl C X.env) fp) tg g) (ht : ∀ (s : Shared) (H : Hp) (C : Addr) (cl : List (Str × Addr)) (fp : List Addr), PTs (X.blk s H scope (compEnvC scope cl C X.env) fp) ifs tt)
    (hk : ∀ (s : Shared) (H : Hp) (C : Addr) (cl : List (Str × Addr)) (fp : List Addr), PE (X.blk s H scope (compEnvC scope cl C X.env) fp) kx tk)
    (he : ∀ (s : Shared) (H : Hp) (C : Addr) (cl : List (Str × Addr)) (fp : List Addr), PE (X.blk s H scope (compEnvC scope cl C X.env) fp) vx tv) (hs : ∀ x, foldedSetIterable iter X.env x = pure x := by intro _; rfl) :
    PS X (.Assign [.Name y py] (.DictComp kx vx [⟨tg, iter, ifs, 0⟩] scope pos) spos) (tAsg (tDcO X.prog X.w wi g tt tk tv (own.map (·.2))) (gName i)) := by
  refine ⟨fun pins s σ H D I h => ?_⟩
  rw [exec_Assign_Name_used _ _ _ _ hsw]
  refine wpAny_bind (wpAny_standAt (wpAny_bind ?_))
  show wpAny _ X.A (do let _ ← comprehension (.DictComp kx vx [⟨tg, iter, ifs, 0⟩] scope pos) scope X.env (firstIterPos [⟨tg, iter, ifs, 0⟩] pos) newDict false (eval iter X.env) (some (assign (.Name y py) X.env))) _ _ s
  have h : tDcO X.prog X.w wi g tt tk tv (own.map (·.2)) σ H (fun x H1 => gName i x σ H1 D.nx) := h
  refine wpAny_bind (thn (dc_coreO (Qf := fun _ s' => SP X pins D .next s') hc hN I hi ok hg ht hk he hs h fun L C s' m H' I' q hn f => ?_) fun _ s' hq => wpAny_pure (wpAny_pure hq))
  show wpAny _ _ (assign (.Name y py) X.env (.ref L)) _ _ _
  refine wpAny_assign_Name (store_ok2 (v := V.ref L) I' hN hy (.inl hyl) rfl (fun s2 I2 ⟨a, sb, ha⟩ => ?_) (.inr hyl))
  obtain ⟨f0, f1, f2, f3, f4, f5⟩ := f
  have haC : C ≠ a := by
    rcases ha with z | z
    · rw [z]; exact f1
    · exact fun e => f4 y a z e.symm
  refine ⟨m, hn.sameBut sb haC, fun h3 sb3 => ?_⟩
  exact ⟨_, H', I2.turned (t' := s2.toks) (fun b o hb e => (sb3.2 b hb).trans e) f0 f1 f3 f4 f5, q⟩
end
theorem dc_itO {P : Program} {w : World} {J : It} {n : Nat} {G : Hp → Prop} {Y : Nat → Hp → V → Hp → Prop} (wk : Walk J n G Y) {g : TG} {tt : TT} {tk tv : TE} {vs : List Nat} {σ : L2.St} {H1 : Hp} {D : Addr} {Qd : Hp → Prop} (Pv : Nat → Hp → Prop) (h0 : Pv 0 (upd H1 D (optO P w D []))) (hG : ∀ i H, i ≤ n → Pv i H → G H)
    (hs : ∀ i x H H', i < n → Pv i H → Y i H x H' → g x (wipe σ vs) H' fun σ2 H2 => wipe σ2 vs = wipe σ vs ∧ tt σ2 H2 fun b H3 =>
      if b = true then tk σ2 H3 fun y H4 => tv σ2 H4 fun z H5 => ∃ kvs k, y = oV k ∧ H5 D = some (optO P w D kvs) ∧ kvs.length < sizeLine ∧ Pv (i + 1) (upd H5 D (optO P w D (putK kvs k z))) else Pv (i + 1) H3) (hd : ∀ H, Pv n H → Qd H) :
    ∃ W : Nat → Nat → Hp → Prop, (∃ m, W 0 m (upd H1 D (optO P w D []))) ∧ ∀ i m H, W i m H →
      (J.stop i H ∧ Qd H) ∨ (J.go i H ∧ ∃ Nx : Hp → Prop, (∀ H', Nx H' → ∃ m', m' < m ∧ W (i + 1) m' H') ∧ ∀ x H', J.yld i H x H' → g x (wipe σ vs) H' fun σ2 H2 => wipe σ2 vs = wipe σ vs ∧ tt σ2 H2 fun b H3 =>
        if b = true then tk σ2 H3 fun y H4 => tv σ2 H4 fun z H5 => ∃ kvs k, y = oV k ∧ H5 D = some (optO P w D kvs) ∧ kvs.length < sizeLine ∧ Nx (upd H5 D (optO P w D (putK kvs k z))) else Nx H3) := by
  refine ⟨fun i m H => m = n - i ∧ i ≤ n ∧ Pv i H, ⟨n, by simp, Nat.zero_le _, h0⟩, ?_⟩
  rintro i m H ⟨rfl, hi, p⟩
  have q := hG i H hi p
  by_cases hlt : i < n
  · exact .inr ⟨wk.goes i H hlt q, Pv (i + 1), fun H' p' => ⟨n - (i + 1), by omega, rfl, hlt, p'⟩, fun x H' y => hs i x H H' hlt p (wk.yields i H x H' hlt q y)⟩
  · have e : i = n := by omega
    subst e
    exact .inl ⟨wk.stops H q, hd H p⟩

/-! a block, then the rest: what holds between them is named -/
theorem s_seq {t U : TS} {D : Ends} {σ : L2.St} {H : Hp} (P : L2.St → Hp → Prop) (k : ∀ σ' H', P σ' H' → U D σ' H') (h : (∀ σ' H', P σ' H' → U D σ' H') → tSeq t U D σ H) : tSeq t U D σ H := h k
theorem pl_rop {σ : L2.St} {H : Hp} {D : Ends} {ta tb : TE} {r : V → V → Hp → VK → Prop} (h : ta σ H fun x H1 => tb σ H1 fun y H2 => r x y H2 D.rt) : tRet (tOp r ta tb) D σ H := h
theorem pl_ifb {σ : L2.St} {H : Hp} {D : Ends} {X : TE} {r : List V → Hp → VK → Prop} {t u U : TS} (h : X σ H fun v H1 => r [v] H1 fun z H2 => ∃ b, z = .bl b ∧ (if b = true then t { D with nx := U D } σ H2 else u { D with nx := U D } σ H2)) : tSeq (tIfS (tB (tCB r (tCons X tNil))) t u) U D σ H := h

/-! a dict comprehension over anything that is walked -/
theorem tyY {σ : L2.St} {H : Hp} {f g : Hp → Prop} (h : f H) : tYes σ H (fun b H3 => if b = true then f H3 else g H3) := h
theorem dc_it {J : It} {n : Nat} {G : Hp → Prop} {Y : Nat → Hp → V → Hp → Prop} (w : Walk J n G Y) {g : TG} {tt : TT} {tk tv : TE} {vs : List Nat} {σ : L2.St} {H1 : Hp} {D : Addr} {Qd : Hp → Prop} (Pv : Nat → Hp → Prop) (h0 : Pv 0 (upd H1 D (.dK []))) (hG : ∀ i H, i ≤ n → Pv i H → G H)
    (hs : ∀ i x H H', i < n → Pv i H → Y i H x H' → g x (wipe σ vs) H' fun σ2 H2 => wipe σ2 vs = wipe σ vs ∧ tt σ2 H2 fun b H3 =>
      if b = true then tk σ2 H3 fun y H4 => tv σ2 H4 fun z H5 => ∃ kvs k, y = kV k ∧ H5 D = some (.dK kvs) ∧ kvs.length < sizeLine ∧ Pv (i + 1) (upd H5 D (.dK (putK kvs k z))) else Pv (i + 1) H3) (hd : ∀ H, Pv n H → Qd H) :
    ∃ W : Nat → Nat → Hp → Prop, (∃ m, W 0 m (upd H1 D (.dK []))) ∧ ∀ i m H, W i m H →
      (J.stop i H ∧ Qd H) ∨ (J.go i H ∧ ∃ Nx : Hp → Prop, (∀ H', Nx H' → ∃ m', m' < m ∧ W (i + 1) m' H') ∧ ∀ x H', J.yld i H x H' → g x (wipe σ vs) H' fun σ2 H2 => wipe σ2 vs = wipe σ vs ∧ tt σ2 H2 fun b H3 =>
        if b = true then tk σ2 H3 fun y H4 => tv σ2 H4 fun z H5 => ∃ kvs k, y = kV k ∧ H5 D = some (.dK kvs) ∧ kvs.length < sizeLine ∧ Nx (upd H5 D (.dK (putK kvs k z))) else Nx H3) := by
  refine ⟨fun i m H => m = n - i ∧ i ≤ n ∧ Pv i H, ⟨n, by simp, Nat.zero_le _, h0⟩, ?_⟩
  rintro i m H ⟨rfl, hi, p⟩
  have q := hG i H hi p
  by_cases hlt : i < n
  · exact .inr ⟨w.goes i H hlt q, Pv (i + 1), fun H' p' => ⟨n - (i + 1), by omega, rfl, hlt, p'⟩, fun x H' y => hs i x H H' hlt p (w.yields i H x H' hlt q y)⟩
  · have e : i = n := by omega
    subst e
    exact .inl ⟨w.stops H q, hd H p⟩
section
variable {X : Cx}
/-- name = {..} on one line, the name a local -/
theorem ps_setDc {i : Nat} {y : Str} {py : Pos} {kx vx tg iter : Expr} {ifs : List Expr} {scope : Scope} {own : List (Str × Nat)} {pos spos : Pos} {wi : TI} {g : TG} {tt : TT} {tk tv : TE} (hc : X.calm = true) (hN : X.N.Nodup) (hy : X.N[i]? = some y) (hyl : X.env.scope.names.lookup y = some .local)
    (hsw : swapsWith (.DictComp kx vx [⟨tg, iter, ifs, 0⟩] scope pos) (some (.Name y py)) spos.line X.env = pure true) (hi : PI X tg iter wi) (ok : BlkOk X.N X.env.scope scope own)
    (hg : ∀ (s : Shared) (H : Hp) (C : Addr) (cl : List (Str × Addr)) (fp : List Addr), PG (X.blk s H scope (compEnvC scope cl C X.env) fp) tg g) (ht : ∀ (s : Shared) (H : Hp) (C : Addr) (cl : List (Str × Addr)) (fp : List Addr), PTs (X.blk s H scope (compEnvC scope cl C X.env) fp) ifs tt)
    (hk : ∀ (s : Shared) (H : Hp) (C : Addr) (cl : List (Str × Addr)) (fp : List Addr), PE (X.blk s H scope (compEnvC scope cl C X.env) fp) kx tk)
    (he : ∀ (s : Shared) (H : Hp) (C : Addr) (cl : List (Str × Addr)) (fp : List Addr), PE (X.blk s H scope (compEnvC scope cl C X.env) fp) vx tv) (hs : ∀ x, foldedSetIterable iter X.env x = pure x := by intro _; rfl) :
    PS X (.Assign [.Name y py] (.DictComp kx vx [⟨tg, iter, ifs, 0⟩] scope pos) spos) (tAsg (tDc wi g tt tk tv (own.map (·.2))) (gName i)) := by
  refine ⟨fun pins s σ H D I h => ?_⟩
  rw [exec_Assign_Name_used _ _ _ _ hsw]
  refine wpAny_bind (wpAny_standAt (wpAny_bind ?_))
  show wpAny _ X.A (do let _ ← comprehension (.DictComp kx vx [⟨tg, iter, ifs, 0⟩] scope pos) scope X.env (firstIterPos [⟨tg, iter, ifs, 0⟩] pos) newDict false (eval iter X.env) (some (assign (.Name y py) X.env))) _ _ s
  have h : tDc wi g tt tk tv (own.map (·.2)) σ H (fun x H1 => gName i x σ H1 D.nx) := h
  refine wpAny_bind (thn (dc_core (Qf := fun _ s' => SP X pins D .next s') hc hN I hi ok hg ht hk he hs h fun L C s' m H' I' q hn f => ?_) fun _ s' hq => wpAny_pure (wpAny_pure hq))
  show wpAny _ _ (assign (.Name y py) X.env (.ref L)) _ _ _
  refine wpAny_assign_Name (store_ok2 (v := V.ref L) I' hN hy (.inl hyl) rfl (fun s2 I2 ⟨a, sb, ha⟩ => ?_) (.inr hyl))
  obtain ⟨f0, f1, f2, f3, f4, f5⟩ := f
  have haC : C ≠ a := by
    rcases ha with z | z
    · rw [z]; exact f1
    · exact fun e => f4 y a z e.symm
  refine ⟨m, hn.sameBut sb haC, fun h3 sb3 => ?_⟩
  exact ⟨_, H', I2.turned (t' := s2.toks) (fun b o hb e => (sb3.2 b hb).trans e) f0 f1 f3 f4 f5, q⟩
theorem sw_trueD {kx vx : Expr} {gs : List Comprehension} {scope : Scope} {pos py : Pos} {y : Str} {l : Nat} {env : Env} (hk : env.scope.kind = .function) (hy : env.scope.names.lookup y = some .local) (hl : (py.line == pos.line) = true)
    (ha : (scope.names.any fun (n, k) => n == y && (k == .local || k == .cell)) = false) : swapsWith (.DictComp kx vx gs scope pos) (some (.Name y py)) l env = pure true := by
  have ky : env.kindOf y = some .local := hy
  have hb : env.blockKind = .function := by unfold Env.blockKind; rw [hk]; rfl
  unfold swapsWith
  simp only [hb, ky, ha, Expr.pos, hl]
  rfl
end

/-! new objects in a list, by their addresses; the last of a list -/
theorem refs_of {R : Nat → Addr → Prop} : ∀ {ys : List V} (k : Nat), (∀ i y, ys[i]? = some y → ∃ t, y = .ref t ∧ R (k + i) t) → ∃ ts : List Addr, ys = ts.map V.ref ∧ ∀ i t, ts[i]? = some t → R (k + i) t
  | [], _, _ => ⟨[], rfl, fun i t h => by simp at h⟩
  | y :: ys, k, h => by
    obtain ⟨t, e, r⟩ := h 0 y rfl
    obtain ⟨ts, e2, r2⟩ := refs_of (ys := ys) (R := R) (k + 1) fun i z hz => by
      obtain ⟨t', q1, q2⟩ := h (i + 1) z (by simpa using hz)
      exact ⟨t', q1, by rw [show k + 1 + i = k + (i + 1) by omega]; exact q2⟩
    refine ⟨t :: ts, by rw [e, e2]; rfl, fun i u hu => ?_⟩
    match i, hu with
    | 0, hu =>
      obtain rfl := Option.some.inj hu
      exact r
    | i + 1, hu =>
      have := r2 i u (by simpa using hu)
      rw [show k + 1 + i = k + (i + 1) by omega] at this
      exact this
theorem refs_of0 {R : Nat → Addr → Prop} {ys : List V} (h : ∀ i y, ys[i]? = some y → ∃ t, y = .ref t ∧ R i t) : ∃ ts : List Addr, ys = ts.map V.ref ∧ ∀ i t, ts[i]? = some t → R i t := by
  obtain ⟨ts, e, r⟩ := refs_of (R := R) (ys := ys) 0 fun i y hy => by rw [Nat.zero_add]; exact h i y hy
  exact ⟨ts, e, fun i t ht => by have := r i t ht; rwa [Nat.zero_add] at this⟩
theorem lref_last {as : List Addr} {n : Nat} {a : Addr} (hl : as.length = n + 1) (h : as[n]? = some a) : atI (as.map V.ref) (-1) = some (.ref a) := by
  unfold atI ixN
  rw [if_neg (by omega), if_pos (by rw [List.length_map]; omega), List.length_map, show ((-1 : Int) + (as.length : Nat)).toNat = n by omega]
  show (as.map V.ref)[n]? = _
  rw [List.getElem?_map, h]
  rfl
theorem q_asg1 {te : TE} {i : Nat} {D : Ends} {σ : L2.St} {H : Hp} (h : te σ H fun x H1 => D.nx (σ.set i (some x)) H1) : tAsg te (gName i) D σ H := h

/-! led_pairs -/
def sp_led_pairs (K : PySem.W.Frag) (P : Program) (w : World) : Sp := fun vs H Q _ => ∃ (h : Addr) (cs : List Col) (chs : List Ch) (n : Int) (m : Nat), vs = [.ref h, .int n, .int (m : Nat)] ∧ HistAt K H h cs chs ∧ HistOk cs chs ∧ 0 ≤ n ∧ n < (atC cs chs).2 ∧ m ≤ chs.length ∧ goneB cs chs n m = false ∧
  ∀ (d : Addr) (H' : Hp), H d = none → Same H H' → H' d = some (optO P w d (pairsE cs chs n m)) → Q (.ref d) H'
theorem ok_led_pairs (T : Tx K mg) : Callee P w K mg base CX0 7 "led_pairs" ["history", "number", "edition"] [] (sp_led_pairs K P w) := by
  obtain ⟨fdB, FB, bB⟩ := ok_Hist_born (P := P) (w := w) (base := base) T
  obtain ⟨fdN, FN, ⟨gN, kbN⟩, _⟩ := ok_Hist_by_number (P := P) (w := w) (base := base) T
  obtain ⟨fdA, FA, bA⟩ := ok_all_values (P := P) (w := w) (base := base) T
  have Cc := ok_changes_of (P := P) (w := w) (base := base) T
  have Cl := (ok_led_value (P := P) (w := w) (base := base) T).up (show 4 ≤ 6 by decide)
  have Cm := (ok_is_missing (P := P) (w := w) (base := base) T).up (show _ ≤ 6 by decide)
  have cl := cl_History T
  have clc := cl_Column T
  refine mkCallee (fd_led_pairs T) (mg_led_pairs T) sc_led_pairs (fun _ _ _ _ _ _ us hl => match us, hl with | [_, _, _], _ => rfl) (fun vs H Q E h => ?_) (fun cdv A outer s H vs Q E hr h => ?_)
  · obtain ⟨h, cs, chs, n, m, rfl, _⟩ := h
    rfl
  · obtain ⟨h, cs, chs, n, m, rfl, hh, o, h0, h1, hm, hg, k⟩ := h
    have nd := sc_led_pairs.nd
    have hr2 : Room 2 _ := hr.mono (by decide)
    have hr3 : Room 3 _ := hr.mono (by decide)
    have hr5 : Room 5 _ := hr.mono (by decide)
    obtain ⟨t0, m0⟩ := ms_MISSING T
    have few := o.few
    refine ⟨_, (pss_cons (ps_set (i := 3) nd rfl (Or.inl rfl) (pe_meth (pv 0) cl (me_History_born T) FB hr3 bB .nil pass0 (pa_cons (pv 1) pa_nil)))
        (pss_cons (ps_if (pt_cmpR op_gt (pv 3) (pv 2) (nomark _)) (pss_cons (ps_set (i := 4) nd rfl (Or.inl rfl) (pe_asO (pe_disp (pps_cons (pe_glob (v := .str "missing") rfl m0 ⟨t0, rfl⟩) (pe_fld (pe_methN (pv 0) cl (me_History_by_number T) FN hr5 kbN pass0 (pa_cons (pv 1) pa_nil) (pk_cons (pv 3) pk_nil)) rfl) pps_nil) (by rfl) (by rfl) (fun z => by cases z) (by decide))))
        (pss_one (ps_set (i := 5) nd rfl (Or.inl rfl) (pcall Cc hr (pa_cons (pv 0) (pa_cons (pv 1) (pa_cons (pv 3) pa_nil)))))))
        (pss_cons (ps_setDcO (i := 4) (own := [("value", 6)]) (g := gName 6) (tt := tYes) (tk := tVar 6) (tv := tVar 6) rfl nd rfl rfl (sw_trueD rfl rfl rfl (by decide +kernel)) (pi_list (pe_meth0 (pe_methN (pv 0) cl (me_History_by_number T) FN hr5 kbN pass0 (pa_cons (pv 1) pa_nil) (pk_cons (pv 2) pk_nil)) clc (me_Column_all_values T) FA hr2 bA .nil pass0)) (blkOk_by (N := ["history", "number", "edition", "born", "starts", "steps", "value", "pairs", "argument", "led"]) (sc := defScope s_led_pairs) (by decide +kernel))
          (fun _ _ _ _ _ => pg_name (i := 6) nd rfl (Or.inl rfl)) (fun _ _ _ _ _ => pts_nil) (fun _ _ _ _ _ => pv 6) (fun _ _ _ _ _ => pv 6))
        (pss_one (ps_set (i := 5) nd rfl (Or.inl rfl) (pcall Cc hr (pa_cons (pv 0) (pa_cons (pv 1) (pa_cons (pv 2) pa_nil))))))))
        (pss_cons (ps_set (i := 7) nd rfl (Or.inl rfl) (pe_asO pe_dnewK))
        (pss_cons (ps_lock (ps_for PassesOwn.never rfl (pi_itemsO (pv 4)) (pg_tup rfl (pgs_cons (pg_name (i := 8) nd rfl (Or.inl rfl)) (pgs_cons (pg_name (i := 6) nd rfl (Or.inl rfl)) pgs_nil))) (pss_cons (ps_set (i := 9) nd rfl (Or.inl rfl) (pcall Cl hr (pa_cons (pv 5) (pa_cons (pv 6) pa_nil))))
        (pss_one (ps_if (pt_not (pt_val (pcall Cm hr (pa_cons (pv 9) pa_nil)))) (pss_one (ps_dputO (pv 7) (pv 8) (pv 9) rfl)) pss_nil)))))
        (pss_one (ps_ret (pv 7))))))), ?_⟩
    have hz : sizeLine = 16777216 := by decide
    obtain ⟨hb1, hb2, hb3⟩ := bornN_spec o h0 h1
    obtain ⟨dx, fs, hi, no⟩ := histMx "born" (by decide +kernel) hh
    obtain ⟨dx2, fs2, hi2, no2⟩ := histMx "by_number" (by decide +kernel) hh
    refine q_asgX ⟨_, rfl, h, dx, fs, rfl, hi, no, _, rfl, h, cs, chs, n, rfl, hh, o, h0, h1, ?_⟩
    dsimp only
    refine s_seq (fun σ' H' => ∃ (st l : Addr) (ps : List Addr) (x6 : Option V), σ' = [some (.ref h), some (.int n), some (.int (m : Nat)), some (.int (bornN cs chs n : Nat)), some (.ref st), some (.ref l), x6, none, none, none] ∧ H st = none ∧ Same H H' ∧ H' st = some (optO P w st (startsV cs chs n m)) ∧ H' l = some (.lst (ps.map V.ref)) ∧
      PairsAt K H' ps (stepsK cs chs n (startE cs chs n m) (chs.length - startE cs chs n m))) ?_ fun kk => ?_
    · rintro σ' H1 ⟨st, l, ps, x6, rfl, nst, s1, hst, hl, hp⟩
      refine q_asgX fun pd npd => ⟨pd, [], rfl, upd_same, ?_⟩
      have s2 : Same H1 (upd (upd H1 pd (.dK [])) pd (optO P w pd [])) := fun b u e => by
        have hb := ne_of_none e npd
        rw [upd_ne hb, upd_ne hb]
        exact e
      have hpd : upd (upd H1 pd (.dK [])) pd (optO P w pd []) pd = some (optO P w pd []) := upd_same
      show tSeq _ _ _ _ (upd (upd H1 pd (.dK [])) pd (optO P w pd []))
      generalize upd (upd H1 pd (.dK [])) pd (optO P w pd []) = H2 at s2 hpd ⊢
      have s02 := s1.trans s2
      have hst2 := s2 _ _ hst
      have hl2 := s2 _ _ hl
      have hp2 := hp.keep s2
      have npd0 : H pd = none := s1.free npd
      have nps : pd ≠ st := fun z => by rw [z, hst] at npd; cases npd
      refine ⟨st, _, hst2, by first | trivial | exact True.intro | decide, fun od => ?_⟩
      have hf : upd H2 st (.frz od (optO P w st (startsV cs chs n m))) st = some (.frz od (optO P w st (startsV cs chs n m))) := upd_same
      refine ⟨_, rfl, st, od, _, rfl, hf, ?_⟩
      have bf : But st H2 (upd H2 st (.frz od (optO P w st (startsV cs chs n m)))) := But.mut
      have nls : l ≠ st := fun z => by rw [z, hst] at hl; cases hl
      have two : ∀ {H'}, (∀ b u, b ≠ st → b ≠ pd → H2 b = some u → H' b = some u) → PairsAt K H' ps (stepsK cs chs n (startE cs chs n m) (chs.length - startE cs chs n m)) := fun {H'} q => ⟨hp2.1, fun j p x e1 e2 => by
        obtain ⟨a, t, r1, ⟨dxa, r2⟩, r3⟩ := hp2.2 j p x e1 e2
        have ne : ∀ {b u}, H2 b = some u → (∀ φ, u ≠ HO.ext φ) → H' b = some u := fun {b u} e nx => q b u (fun z => by rw [z, hst2] at e; exact nx _ (Option.some.inj e).symm) (fun z => by rw [z, hpd] at e; exact nx _ (Option.some.inj e).symm) e
        have tup : ∀ {b xs}, SqT K H2 b xs → SqT K H' b xs := fun {b xs} e => by
          rcases e with (e | ⟨o', e⟩) | e
          · exact .inl (.inl (ne e (fun _ z => by cases z)))
          · exact .inl (.inr ⟨o', ne e (fun _ z => by cases z)⟩)
          · exact .inr e
        exact ⟨a, t, tup r1, ⟨dxa, ne r2 (fun _ z => by cases z)⟩, tup r3⟩⟩
      refine for_it walk_itemsO (fun i σ H' => (∃ x6 x8 x9 : Option V, σ = [some (.ref h), some (.int n), some (.int (m : Nat)), some (.int (bornN cs chs n : Nat)), some (.ref st), some (.ref l), x6, some (.ref pd), x8, x9]) ∧ (∀ b u, b ≠ st → b ≠ pd → H2 b = some u → H' b = some u) ∧ H' st = some (.frz od (optO P w st (startsV cs chs n m))) ∧
          H' pd = some (optO P w pd (((startsV cs chs n m).take i).filterMap (keepP cs chs n (startE cs chs n m))))) ⟨⟨x6, none, none, rfl⟩, fun b u hb _ e => bf _ _ hb e, hf, by rw [upd_ne nps]; exact hpd⟩ (fun i σ H' _ q => q.2.2.1) ?_ ?_
      · rintro i x σ H' H'' hi ⟨⟨y6, y8, y9, rfl⟩, b, hfs, hps⟩ ⟨T1, x, y, rfl, nT, rfl, ex, ey⟩
        have hkv := List.getElem?_eq_getElem hi
        generalize (startsV cs chs n m)[i] = kv at hkv
        have ex : ((startsV cs chs n m)[i]?.map fun kv => oV kv.1) = some x := ex
        have ey : ((startsV cs chs n m)[i]?.map Prod.snd) = some y := ey
        rw [hkv] at ex ey
        obtain rfl := Option.some.inj ex
        obtain rfl := Option.some.inj ey
        have hkm := List.mem_of_getElem? hkv
        have hv : isVal kv.2 = true := startsV_val o h0 h1 hkm
        have st1 : Same H' (upd H' T1 (.tup [oV kv.1, kv.2])) := same_new nT
        have t2 : upd H' T1 (.tup [oV kv.1, kv.2]) T1 = some (.tup [oV kv.1, kv.2]) := upd_same
        have b2 : ∀ b u, b ≠ st → b ≠ pd → H2 b = some u → upd H' T1 (.tup [oV kv.1, kv.2]) b = some u := fun b' u q1 q2 e => st1 _ _ (b b' u q1 q2 e)
        have hfs2 := st1 _ _ hfs
        have hps2 := st1 _ _ hps
        generalize upd H' T1 (.tup [oV kv.1, kv.2]) = H3 at t2 b2 hfs2 hps2 ⊢
        refine ⟨T1, _, rfl, sqT_of t2, rfl, _, _, rfl, _, _, rfl, rfl, ?_⟩
        dsimp only
        have npl : l ≠ pd := fun z => by rw [z, hpd] at hl2; cases hl2
        refine q_asgX ⟨_, rfl, _, rfl, l, ps, _, _, rfl, b2 _ _ nls npl hl2, two b2, hv, stepsK_fits o _, fun H4 s4 => ?_⟩
        have hse : startE cs chs n m ≤ chs.length := by unfold startE; split <;> omega
        rw [ledF_steps _ (by omega)]
        have hled : ledT cs chs n (startE cs chs n m) kv.2 (chs.length - startE cs chs n m) = ledEnd cs chs n (startE cs chs n m) kv.2 := rfl
        rw [hled]
        have b4 : ∀ b u, b ≠ st → b ≠ pd → H2 b = some u → H4 b = some u := fun b' u q1 q2 e => s4 _ _ (b2 b' u q1 q2 e)
        have hor : isMis (ledEnd cs chs n (startE cs chs n m) kv.2) = true ∨ isVal (ledEnd cs chs n (startE cs chs n m) kv.2) = true := by
          cases e : isMis (ledEnd cs chs n (startE cs chs n m) kv.2) with
          | true => exact .inl rfl
          | false => exact .inr (ledT_val o hv _ e)
        obtain ⟨ty, hty⟩ := val_ty hor
        dsimp only
        refine ⟨_, rfl, _, ty, rfl, hty _ _, fun _ _ => hty _ _, fun H5 s5 => ?_⟩
        have b5 : ∀ b u, b ≠ st → b ≠ pd → H2 b = some u → H5 b = some u := fun b' u q1 q2 e => s5 _ _ (b4 b' u q1 q2 e)
        have hfs5 := s5 _ _ (s4 _ _ hfs2)
        have hps5 := s5 _ _ (s4 _ _ hps2)
        refine ⟨_, rfl, ?_⟩
        cases hmis : isMis (ledEnd cs chs n (startE cs chs n m) kv.2) with
        | true => exact iteF (nxt ⟨⟨_, _, _, rfl⟩, b5, hfs5, by rw [keep_skip hkv hmis]; exact hps5⟩)
        | false =>
          have hln := startsV_len (n := n) o hm
          refine iteT ⟨_, rfl, _, rfl, _, rfl, pd, _, kv.1, rfl, hps5, rfl, ?_, ⟨_, _, _, rfl⟩, fun b' u q1 q2 e => ?_, ?_, ?_⟩
          · have := List.length_filterMap_le (keepP cs chs n (startE cs chs n m)) ((startsV cs chs n m).take i)
            rw [List.length_take] at this
            omega
          · rw [upd_ne q2]
            exact b5 b' u q1 q2 e
          · rw [upd_ne nps.symm]
            exact hfs5
          · rw [upd_same, keep_take hkv startsV_nodup hmis]
            rfl
      · rintro σ H' ⟨⟨y6, y8, y9, rfl⟩, b, hfs, hps⟩
        rw [List.take_length] at hps
        refine ⟨hfs, _, rfl, ?_⟩
        refine k pd _ npd0 (fun b' u e => ?_) ?_
        · by_cases hb : b' = st
          · rw [hb, nst] at e
            cases e
          · rw [upd_ne hb]
            exact b b' u hb (ne_of_none e npd0) (s02 _ _ e)
        · rw [upd_ne nps]
          exact hps
    · refine ⟨_, rfl, _, rfl, _, _, rfl, rfl, _, rfl, ?_⟩
      by_cases hn : n < numE cs chs m
      · rw [decide_eq_false (by rw [born_iff o h0 h1 hm]; exact fun q => q hn)]
        obtain ⟨c, hc⟩ : ∃ c, colE cs chs m n = some c := by
          cases e : colE cs chs m n with
          | some c => exact ⟨c, rfl⟩
          | none =>
            unfold goneB at hg
            rw [decide_eq_true hn, e] at hg
            cases hg
        have hss : startsV cs chs n m = (valsTo c.top).map fun v => (keyO v, v) := by
          unfold startsV
          rw [if_pos hn, hc]
        have hse : startE cs chs n m = m := if_pos hn
        obtain ⟨t1, t9⟩ := gr_of ((o.f.good o.g m hm).ok c (findK_mem hc).1).1
        refine iteF ?_
        refine q_asgX ⟨_, rfl, h, dx2, fs2, rfl, hi2, no2, _, rfl, _, rfl, rfl, rfl, h, cs, chs, n, .int (m : Nat), rfl, hh, by omega, .inr (isEd_nat' hm), fun hno => ?_, fun a c' hc' hca => ?_⟩
        · have hno : colE cs chs m n = none := hno
          rw [hc] at hno
          cases hno
        · obtain rfl : c = c' := Option.some.inj (hc.symm.trans hc')
          obtain ⟨dxa, hat⟩ := hca
          refine ⟨a, dxa, _, rfl, hat, colFs_no_all, a, c.name, c.top, c.num, c.dflt, rfl, ⟨dxa, hat⟩, by omega, by omega, fun p H1 np s1 hp1 => ⟨p, rfl, ⟨_, sqL_of hp1⟩, fun D nD => ?_⟩⟩
          refine dc_itO (walk_list (xs := valsTo c.top)) (fun j H' => Same H1 H' ∧ H' D = some (optO P w D (((valsTo c.top).take j).map fun v => (keyO v, v)))) ⟨same_new nD, upd_same⟩ (fun j H' _ q => sqL_of (q.1 _ _ hp1)) ?_ ?_
          · rintro j x H3 H4 hj ⟨s3, hD⟩ ⟨rfl, hx⟩
            have hv := valsTo_val (List.mem_of_getElem? hx)
            refine ⟨rfl, tyY ⟨_, rfl, _, rfl, _, keyO x, (oV_keyO (.inl hv)).symm, hD, ?_, same_mut s3 nD, ?_⟩⟩
            · rw [List.length_map, List.length_take]
              have : (valsTo c.top).length ≤ 101 := by unfold valsTo; rw [List.length_cons, rgV_length]; omega
              omega
            · rw [upd_same, List.take_add_one, hx, List.map_append, putK_new]
              · rfl
              · refine valO_none fun hm => ?_
                have ndv := valsTo_nodup c.top
                rw [List.map_map] at hm
                obtain ⟨v', q1, q2⟩ := List.mem_map.mp hm
                obtain ⟨j', hj'⟩ := List.mem_iff_getElem?.mp q1
                rw [List.getElem?_take] at hj'
                split at hj'
                · rename_i hjj
                  obtain ⟨l1, e1⟩ := List.getElem?_eq_some_iff.mp hj'
                  obtain ⟨l2, e2⟩ := List.getElem?_eq_some_iff.mp hx
                  have := List.pairwise_iff_getElem.mp ndv j' j (by rw [List.length_map]; exact l1) (by rw [List.length_map]; exact l2) hjj
                  rw [List.getElem_map, List.getElem_map, e1, e2] at this
                  exact this q2
                · cases hj'
          · rintro H3 ⟨s3, hD⟩
            rw [List.take_length, ← hss] at hD
            have s03 := s1.trans s3
            dsimp only
            refine q_asg1 ⟨_, rfl, _, rfl, _, rfl, h, cs, chs, n, m, rfl, hh.keep s03, o, hm, hn, fun l ps H4 nl s4 hl hps => ?_⟩
            refine kk _ _ ⟨D, l, ps, _, rfl, s1.free nD, s03.trans s4, s4 _ _ hD, hl, by rw [hse]; exact hps⟩
      · rw [decide_eq_true ((born_iff o h0 h1 hm).mpr hn)]
        obtain ⟨c, hc⟩ := born_there o h0 hb2 hb3
        have hdf : dfltB cs chs n = c.dflt := by
          unfold dfltB
          rw [hc]
        have hss : startsV cs chs n m = [(some (.inr "missing"), c.dflt)] := by
          unfold startsV
          rw [if_neg hn, hdf]
        have hse : startE cs chs n m = bornN cs chs n := if_neg hn
        refine iteT ?_
        refine q_asgX fun p np => ?_
        have s1 : Same H (upd H p (.dK [])) := same_new np
        have hh1 := hh.keep s1
        obtain ⟨dx3, fs3, hi3, no3⟩ := histMx "by_number" (by decide +kernel) hh1
        refine ⟨_, rfl, h, dx3, fs3, rfl, hi3, no3, _, rfl, _, rfl, rfl, rfl, h, cs, chs, n, .int (bornN cs chs n : Nat), rfl, hh1, by omega, .inr (isEd_nat' hb2), fun hno => ?_, fun a c' hc' hca => ?_⟩
        · have hno : colE cs chs (bornN cs chs n) n = none := hno
          rw [hc] at hno
          cases hno
        · obtain rfl : c = c' := Option.some.inj (hc.symm.trans hc')
          obtain ⟨dxa, hat⟩ := hca
          refine ⟨a, _, dxa, _, _, rfl, hat, clc, na_Column_default T, colFs_default, upd_same, [(.inr "missing", c.dflt)], rfl, by show 1 ≤ 15; decide, p, _, rfl, upd_same, ?_⟩
          have hD : upd (upd (upd H p (.dK [])) p (.dK (mergeK [] [(.inr "missing", c.dflt)]))) p (optO P w p ((mergeK [] [((.inr "missing" : Key), c.dflt)]).map fun kv => (some kv.1, kv.2))) p = some (optO P w p (startsV cs chs n m)) := by
            rw [upd_same, hss]
            rfl
          have s3 : Same H (upd (upd (upd H p (.dK [])) p (.dK (mergeK [] [(.inr "missing", c.dflt)]))) p (optO P w p ((mergeK [] [((.inr "missing" : Key), c.dflt)]).map fun kv => (some kv.1, kv.2)))) := fun b u e => by
            have hb := ne_of_none e np
            rw [upd_ne hb, upd_ne hb, upd_ne hb]
            exact e
          show tAsg _ _ _ _ (upd (upd (upd H p (.dK [])) p (.dK (mergeK [] [(.inr "missing", c.dflt)]))) p (optO P w p ((mergeK [] [((.inr "missing" : Key), c.dflt)]).map fun kv => (some kv.1, kv.2))))
          generalize upd (upd (upd H p (.dK [])) p (.dK (mergeK [] [(.inr "missing", c.dflt)]))) p (optO P w p ((mergeK [] [((.inr "missing" : Key), c.dflt)]).map fun kv => (some kv.1, kv.2))) = H3 at hD s3 ⊢
          dsimp only
          refine q_asg1 ⟨_, rfl, _, rfl, _, rfl, h, cs, chs, n, bornN cs chs n, rfl, hh.keep s3, o, hb2, hb3.1, fun l ps H4 nl s4 hl hps => ?_⟩
          refine kk _ _ ⟨p, l, ps, _, rfl, np, s3.trans s4, s4 _ _ hD, hl, by rw [hse]; exact hps⟩
/-! is_dead -/
def sp_is_dead (K : PySem.W.Frag) : Sp := fun vs H Q _ => ∃ (h : Addr) (cs : List Col) (chs : List Ch) (m : Nat), vs = [.ref h, .int (m : Nat)] ∧ HistAt K H h cs chs ∧ HistOk cs chs ∧ m ≤ chs.length ∧ ∀ H', Same H H' → Q (.bl (deadB cs chs m)) H'
theorem ok_is_dead (T : Tx K mg) : Callee P w K mg base CX0 8 "is_dead" ["history", "edition"] [] (sp_is_dead K) := by
  have C1 := (ok_edition_of (P := P) (w := w) (base := base) T).up (show 4 ≤ 7 by decide)
  have C3 := ok_led_pairs (P := P) (w := w) (base := base) T
  obtain ⟨fdN, FN, bN⟩ := ok_Hist_numbers (P := P) (w := w) (base := base) T
  obtain ⟨fdB, FB, bB⟩ := ok_Hist_born (P := P) (w := w) (base := base) T
  have cl := cl_History T
  refine mkCallee (fd_is_dead T) (mg_is_dead T) sc_is_dead (fun _ _ _ _ _ _ us hl => match us, hl with | [_, _], _ => rfl) (fun vs H Q E h => ?_) (fun cdv A outer s H vs Q E hr h => ?_)
  · obtain ⟨h, cs, chs, m, rfl, _⟩ := h
    rfl
  · obtain ⟨h, cs, chs, m, rfl, hh, o, hm, k⟩ := h
    have nd := sc_is_dead.nd
    have few := o.few
    have hr1 : Room 1 _ := hr.mono (by decide)
    have hr3 : Room 3 _ := hr.mono (by decide)
    refine ⟨_, (pss_cons (ps_set (i := 2) nd rfl (Or.inr rfl) (pcall C1 hr (pa_cons (pv 0) (pa_cons (pv 1) pa_nil))))
        (pss_cons (ps_setLc (i := 3) (own := [("number", 4)]) (g := gName 4) (tt := tTest (tOp (rI0 fun i j => .bl (decide (j < i))) (tMeth (He.ga K "History") "born" (sp_Hist_born K) [] E0 (tVar 0) (tCons (tVar 4) tNil)) (tVar 2))) (te := tVar 4) rfl nd rfl rfl (by rfl) (pi_range1 (by rfl) (fr_range T) (pa_cons (pe_meth0 (pv 0) cl (me_History_numbers T) FN hr1 bN .nil pass0) pa_nil)) (blkOk_by (N := ["history", "edition", "at", "later", "number"]) (sc := defScope s_is_dead) (by decide +kernel)) (fun _ _ _ _ _ => (pg_name (i := 4) nd rfl (Or.inl rfl))) (fun _ _ _ _ _ => pts_one (pt_cmpR op_gt (pe_meth (pv 0) cl (me_History_born T) FB hr3 bB .nil pass0 (pa_cons (pv 4) pa_nil)) (pv 2) (nomark _))) (fun _ _ _ _ _ => (pv 4)))
        (pss_one (ps_ret (pe_callB (cr_any rfl) (by rfl) (fr_any T) (by decide +kernel) (pa_cons (pe_lc (own := [("number", 4)]) (g := gName 4) (tt := tYes) (te := tOp rEq (tCB (fun xs H Q => ∃ a kvs, xs = [V.ref a] ∧ Rd H a (optO P w a kvs) ∧ Q (.int kvs.length) H) (tCons (tCall (sp_led_pairs K P w) [] E0 (tCons (tVar 0) (tCons (tVar 4) (tCons (tVar 2) tNil)))) tNil)) (tC (.int 0))) rfl nd (pi_list (pv 3)) (blkOk_by (N := ["history", "edition", "at", "later", "number"]) (sc := defScope s_is_dead) (by decide +kernel)) (fun _ _ _ _ _ => (pg_name (i := 4) nd rfl (Or.inl rfl))) (fun _ _ _ _ _ => pts_nil)
          (fun _ _ _ _ _ => pe_cmpR op_eq (pe_callB call_lenO (by rfl) (fr_len T) PySem.boot_len (pa_cons (pcall C3 hr (pa_cons (pv 0) (pa_cons (pv 4) (pa_cons (pv 2) pa_nil)))) pa_nil)) pe_int (nomark _))) pa_nil)))))), ?_⟩
    refine q_asgX ⟨_, rfl, _, rfl, h, cs, chs, .int (m : Nat), rfl, hh, by omega, .inr (isEd_nat' hm), ?_⟩
    dsimp only
    have hN0 := (o.f.good o.g chs.length (Nat.le_refl _)).nn
    rw [List.take_length] at hN0
    have hN1 : (atC cs chs).2 ≤ 100 := by
      have := atC_le (cs := cs) (chs := chs) chs.length (Nat.le_refl _)
      rw [List.take_length] at this
      have := o.g.six
      omega
    have mkH : ∀ {H'}, Same H H' → ∃ dx fs dx' fs', H' h = some (.ins (He.ga K "History") dx fs) ∧ fs.lookup ("born" : Str) = none ∧ H' h = some (.ins (He.ga K "History") dx' fs') ∧ fs'.lookup ("numbers" : Str) = none := fun {H'} s' => by
      obtain ⟨dx, fs, a1, a2⟩ := histMx "born" (by decide +kernel) (hh.keep s')
      obtain ⟨dx', fs', a3, a4⟩ := histMx "numbers" (by decide +kernel) (hh.keep s')
      exact ⟨dx, fs, dx', fs', a1, a2, a3, a4⟩
    refine q_asgX ?_
    refine tlc_R (fun v => match v with | .int j => !decide (j < numE cs chs m) | _ => false) id (atC cs chs).2 (fun R hR => ?_) (by omega) (fun _ => rfl) ?_ (fun j hj hf H' s' R hR => ⟨_, rfl, hR H' (Same.refl _)⟩) (by omega) ?_
    · obtain ⟨_, _, dx', fs', _, _, a3, a4⟩ := mkH (Same.refl H)
      exact ⟨_, rfl, h, dx', fs', rfl, a3, a4, h, cs, chs, rfl, hh, o, hR H (Same.refl _)⟩
    · intro j hj H' s' R hR
      obtain ⟨dx, fs, _, _, a1, a2, _, _⟩ := mkH s'
      refine ⟨_, rfl, h, dx, fs, rfl, a1, a2, _, rfl, h, cs, chs, _, rfl, hh.keep s', o, by omega, hj, _, rfl, _, _, rfl, rfl, _, rfl, ?_⟩
      have e : decide (((m : Nat) : Int) < (bornN cs chs (j : Nat) : Nat)) = !decide (((j : Nat) : Int) < numE cs chs m) := by
        have := born_iff o (by omega : (0 : Int) ≤ (j : Nat)) hj hm
        by_cases q : ((j : Nat) : Int) < numE cs chs m
        · rw [decide_eq_true q, decide_eq_false (fun z => (this.mp z) q)]
          rfl
        · rw [decide_eq_false q, decide_eq_true (this.mpr q)]
          rfl
      show R (decide (((m : Nat) : Int) < (bornN cs chs (j : Nat) : Nat))) H'
      rw [e]
      exact hR H' (Same.refl _)
    intro D H1 nD s1 hD
    refine pl_r1 ?_
    generalize hL : (((List.range (atC cs chs).2.toNat).map fun m : Nat => V.int (m : Int)).filter fun v => match v with | .int j => !decide (j < numE cs chs m) | _ => false).map id = L at hD
    have hLm : ∀ x ∈ L, ∃ j : Nat, x = .int (j : Nat) ∧ ((j : Nat) : Int) < (atC cs chs).2 ∧ ¬ ((j : Nat) : Int) < numE cs chs m := fun x hx => by
      rw [← hL, List.map_id] at hx
      obtain ⟨q1, q2⟩ := List.mem_filter.mp hx
      obtain ⟨j, q3, rfl⟩ := List.mem_map.mp q1
      rw [List.mem_range] at q3
      have q2 : (!decide (((j : Nat) : Int) < numE cs chs m)) = true := q2
      rw [Bool.not_eq_true'] at q2
      exact ⟨j, rfl, by omega, of_decide_eq_false q2⟩
    have hLl : L.length ≤ 1000 := by
      rw [← hL, List.map_id]
      have := List.length_filter_le (fun v : V => match v with | .int j => !decide (j < numE cs chs m) | _ => false) ((List.range (atC cs chs).2.toNat).map fun m : Nat => V.int (m : Int))
      rw [List.length_map, List.length_range] at this
      omega
    refine tlc_L (K := K) (xs := L) (fun _ => true) (fun v => match v with | .int j => .bl (pairsE cs chs j m).isEmpty | _ => .bl false) (fun R hR => ⟨_, rfl, hR D H1 (Same.refl _) (sqL_of hD)⟩) (by omega) (fun _ => rfl) (fun x _ H' _ R hR => hR H' (Same.refl _)) ?_ ?_
    · intro x hx _ H' s' R hR
      obtain ⟨j, rfl, hj, hj2⟩ := hLm x hx
      refine ⟨_, rfl, _, rfl, _, rfl, h, cs, chs, (j : Nat), m, rfl, (hh.keep s1).keep s', o, by omega, hj, hm, later_gone hj2, fun d H2 nd2 s2 hd => ⟨d, _, rfl, .inl hd, rfl, ?_⟩⟩
      have e : V.bl (decide (V.int ((pairsE cs chs (j : Nat) m).length : Nat) = V.int 0)) = .bl (pairsE cs chs (j : Nat) m).isEmpty := by
        cases pairsE cs chs (j : Nat) m with
        | nil => rfl
        | cons a r =>
          rw [decide_eq_false (nei (by rw [List.length_cons]; omega))]
          rfl
      rw [e]
      exact hR H2 s2
    · intro D2 H2 nD2 s2 hD2
      have e : (L.filter fun _ => true).map (fun v => match v with | .int j => V.bl (pairsE cs chs j m).isEmpty | _ => .bl false) = (L.map fun v => match v with | .int j => (pairsE cs chs j m).isEmpty | _ => false).map V.bl := by
        rw [List.filter_eq_self.mpr (fun _ _ => rfl), List.map_map]
        refine List.map_congr_left fun x hx => ?_
        obtain ⟨j, rfl, _⟩ := hLm x hx
        rfl
      rw [e] at hD2
      refine ⟨D2, _, rfl, sqL_of hD2, ?_⟩
      have e2 : ((L.map fun v => match v with | .int j => (pairsE cs chs j m).isEmpty | _ => false).any id) = deadB cs chs m := by
        rw [List.any_map, ← hL, List.map_id, Bool.eq_iff_iff, List.any_eq_true]
        unfold deadB
        rw [List.any_eq_true]
        constructor
        · rintro ⟨x, q1, q2⟩
          obtain ⟨q3, q4⟩ := List.mem_filter.mp q1
          obtain ⟨j, q5, rfl⟩ := List.mem_map.mp q3
          exact ⟨j, q5, Bool.and_eq_true_iff.mpr ⟨q4, q2⟩⟩
        · rintro ⟨j, q1, q2⟩
          obtain ⟨q3, q4⟩ := Bool.and_eq_true_iff.mp q2
          exact ⟨.int (j : Nat), List.mem_filter.mpr ⟨List.mem_map.mpr ⟨j, q1, rfl⟩, q3⟩, q4⟩
      rw [e2]
      exact k H2 (s1.trans s2)
-- needs: +PAIRG +ARGS
/-! the pairs of a map: what stands in them -/
section
variable {cs : List Col} {chs : List Ch}
theorem col_now (o : HistOk cs chs) {c : Col} (hc : c ∈ colsE cs chs chs.length) {m : Nat} (hm : m ≤ chs.length) : 0 ≤ c.num ∧ c.num < (atC cs chs).2 ∧ goneB cs chs c.num m = false ∧ colE cs chs chs.length c.num = some c := by
  have g := o.f.good o.g chs.length (Nat.le_refl _)
  have asc := asc_at o chs.length (Nat.le_refl _)
  obtain ⟨c1, c2⟩ := g.ok c hc
  have c2 : c.num < numE cs chs chs.length := c2
  rw [numE_all] at c2
  have hcl : colE cs chs chs.length c.num = some c := asc_find asc hc
  refine ⟨c1.nu, c2, ?_, hcl⟩
  cases q : goneB cs chs c.num m with
  | false => rfl
  | true =>
    unfold goneB at q
    obtain ⟨q1, q2⟩ := Bool.and_eq_true_iff.mp q
    have := gone_stays o (Option.isNone_iff_eq_none.mp q2) (of_decide_eq_true q1) (chs.length - m) (by omega)
    rw [show m + (chs.length - m) = chs.length by omega, hcl] at this
    cases this
theorem pairs_form {n : Int} {m : Nat} {kv : OKey × V} (h : kv ∈ pairsE cs chs n m) : isMis kv.2 = false ∧
    ((n < numE cs chs m ∧ isVal (oV kv.1) = true ∧ kv.2 = ledEnd cs chs n m (oV kv.1)) ∨ (¬ n < numE cs chs m ∧ kv.1 = some (.inr "missing") ∧ kv.2 = ledEnd cs chs n (bornN cs chs n) (dfltB cs chs n))) := by
  obtain ⟨kv0, k3, k4⟩ := List.mem_filterMap.mp h
  unfold keepP at k4
  split at k4
  · cases k4
  · rename_i hmis
    obtain rfl := Option.some.inj k4
    refine ⟨by simpa using hmis, ?_⟩
    by_cases hn : n < numE cs chs m
    · refine .inl ⟨hn, ?_⟩
      unfold startsV at k3
      rw [if_pos hn] at k3
      split at k3
      · obtain ⟨u, hu, rfl⟩ := List.mem_map.mp k3
        have hv := valsTo_val hu
        have e : oV (keyO u) = u := oV_keyO (.inl hv)
        have hse : startE cs chs n m = m := if_pos hn
        refine ⟨?_, ?_⟩
        · show isVal (oV (keyO u)) = true
          rw [e]
          exact hv
        · show ledEnd cs chs n (startE cs chs n m) u = ledEnd cs chs n m (oV (keyO u))
          rw [e, hse]
      · cases k3
    · refine .inr ⟨hn, ?_⟩
      unfold startsV at k3
      rw [if_neg hn] at k3
      obtain rfl := List.mem_singleton.mp k3
      have hse : startE cs chs n m = bornN cs chs n := if_neg hn
      refine ⟨rfl, ?_⟩
      show ledEnd cs chs n (startE cs chs n m) (dfltB cs chs n) = _
      rw [hse]
theorem pairs_right (o : HistOk cs chs) {n : Int} {m : Nat} (h0 : 0 ≤ n) (h1 : n < (atC cs chs).2) {kv : OKey × V} (h : kv ∈ pairsE cs chs n m) : (isVal (oV kv.1) = true ∨ isMis (oV kv.1) = true) ∧ isVal kv.2 = true := by
  obtain ⟨q, q1⟩ := pairs_form h
  have val : ∀ {s : Nat} {v : V}, isVal v = true → kv.2 = ledEnd cs chs n s v → isVal kv.2 = true := fun {s v} hv e => by
    rw [e] at q ⊢
    exact ledT_val o hv _ q
  rcases q1 with ⟨_, q2, q3⟩ | ⟨_, q2, q3⟩
  · exact ⟨.inl q2, val q2 q3⟩
  · exact ⟨.inr (by rw [q2]; rfl), val (dfltB_val o h0 h1) q3⟩
theorem pairs_len (o : HistOk cs chs) {n : Int} {m : Nat} (hm : m ≤ chs.length) : (pairsE cs chs n m).length ≤ 101 :=
  Nat.le_trans (List.length_filterMap_le _ _) (startsV_len o hm)
theorem val_flat {v : V} (h : isVal v = true) : flatB v = true := by
  cases v with
  | non => rfl
  | int _ => rfl
  | _ => cases h
end

/-! map_of -/
def sp_map_of (P : Program) (w : World) (K : PySem.W.Frag) : Sp := fun vs H Q _ => ∃ (h : Addr) (cs : List Col) (chs : List Ch) (c : Col) (m : Nat), vs = [.ref h, .int (m : Nat), .int c.num] ∧ HistAt K H h cs chs ∧ HistOk cs chs ∧ m ≤ chs.length ∧ c ∈ colsE cs chs chs.length ∧
  ∀ (a : Addr) (H' : Hp), H a = none → Same H H' → MapAt P w K H' a (pairsE cs chs c.num m) → Q (.ref a) H'
theorem ok_map_of (T : Tx K mg) : Callee P w K mg base CX0 8 "map_of" ["history", "edition", "number"] [] (sp_map_of P w K) := by
  have C1 := (ok_edition_of (P := P) (w := w) (base := base) T).up (show 4 ≤ 7 by decide)
  have C3 := ok_led_pairs (P := P) (w := w) (base := base) T
  obtain ⟨fdN, FN, _, ⟨dsN, vN, bN⟩⟩ := ok_Hist_by_number (P := P) (w := w) (base := base) T
  obtain ⟨fdM, FM, bM⟩ := ok_Map_init (P := P) (w := w) (base := base) T
  refine mkCallee (fd_map_of T) (mg_map_of T) sc_map_of (fun _ _ _ _ _ _ us hl => match us, hl with | [_, _, _], _ => rfl) (fun vs H Q E h => ?_) (fun cdv A outer s H vs Q E hr h => ?_)
  · obtain ⟨h, cs, chs, c, m, rfl, _⟩ := h
    rfl
  · obtain ⟨h, cs, chs, c, m, rfl, hh, o, hm, hc, k⟩ := h
    have nd := sc_map_of.nd
    have few := o.few
    obtain ⟨h0, h1, hg, hcl⟩ := col_now o hc hm
    have hr5 : Room 5 _ := hr.mono (by decide)
    refine ⟨_, (pss_cons (ps_set (i := 3) nd rfl (Or.inl rfl) (pcall C1 hr (pa_cons (pv 0) (pa_cons (pv 1) pa_nil))))
        (pss_cons (ps_if (pt_cmpR op_isN (pe_meth (pv 0) (cl_History T) (me_History_by_number T) FN hr5 bN vN pass0 (pa_cons (pv 2) pa_nil)) pe_non (nomark _)) (pss_one ps_never) pss_nil)
        (pss_one (ps_ret (pe_make (mk_Map T) FM hr5 (by rfl) (mg_Map T) bM .nil pass0 (pa_cons (pcall C3 hr (pa_cons (pv 0) (pa_cons (pv 2) (pa_cons (pv 3) pa_nil)))) pa_nil)))))), ?_⟩
    refine q_asgX ⟨_, rfl, _, rfl, h, cs, chs, .int (m : Nat), rfl, hh, by omega, .inr (isEd_nat' hm), ?_⟩
    obtain ⟨dx, fs, hi, no⟩ := histMx "by_number" (by decide +kernel) hh
    dsimp only
    refine ⟨_, rfl, h, dx, fs, rfl, hi, no, _, rfl, h, cs, chs, c.num, .non, rfl, hh, by omega, .inl rfl, fun hno => ?_, fun a c' hc' hca => ?_⟩
    · have hno : colE cs chs chs.length c.num = none := hno
      rw [hcl] at hno
      cases hno
    · refine ⟨rfl, _, rfl, iteD (fun z => by cases z) (nxt ?_)⟩
      dsimp only
      refine ⟨_, rfl, _, rfl, _, rfl, h, cs, chs, c.num, m, rfl, hh, o, h0, h1, hm, hg, fun d H1 nd1 s1 hd => ?_⟩
      intro x dx nx ndx ne
      have s2 : Same H1 (upd (upd H1 dx (.own x)) x (.ins (He.ga K "Map") dx [])) := (same_new ndx).trans (same_new (by rw [upd_ne ne.symm]; exact nx))
      have hx2 : upd (upd H1 dx (.own x)) x (.ins (He.ga K "Map") dx []) x = some (.ins (He.ga K "Map") dx []) := upd_same
      refine ⟨x, dx, d, pairsE cs chs c.num m, rfl, hx2, s2 _ _ hd, fun kv hkv => pairs_right o h0 h1 hkv, fun d' H' _ g1 g2 g3 => ⟨rfl, ?_⟩⟩
      refine k x H' (s1.free nx) (fun b u e => ?_) ⟨dx, d', g1, g2⟩
      have e1 := s1 _ _ e
      exact g3 b u (ne_of_none e1 nx) (s2 _ _ e1)
/-! maps_of -/
theorem valK_none {k : Key} : ∀ {kvs : List (Key × V)}, k ∉ kvs.map (·.1) → valV kvs k = none
  | [], _ => rfl
  | kv :: kvs, h => by
    rw [List.map_cons, List.mem_cons, not_or] at h
    rw [valV_neg (fun e => h.1 e.symm)]
    exact valK_none h.2
def mapsD : List Col → List Addr → List (Key × V)
  | c :: cs, a :: as => (Sum.inl c.num, V.ref a) :: mapsD cs as
  | _, _ => []
theorem mapsD_len : ∀ {cs : List Col} {as : List Addr}, as.length = cs.length → (mapsD cs as).length = cs.length
  | [], [], _ => rfl
  | c :: cs, a :: as, h => congrArg (· + 1) (mapsD_len (Nat.succ.inj h))
theorem mapsD_app : ∀ {cs : List Col} {as : List Addr} {c : Col} {a : Addr}, as.length = cs.length → mapsD (cs ++ [c]) (as ++ [a]) = mapsD cs as ++ [(Sum.inl c.num, V.ref a)]
  | [], [], _, _, _ => rfl
  | c' :: cs, a' :: as, c, a, h => congrArg ((Sum.inl c'.num, V.ref a') :: ·) (mapsD_app (Nat.succ.inj h))
theorem mapsD_keys : ∀ {cs : List Col} {as : List Addr}, as.length = cs.length → (mapsD cs as).map (·.1) = cs.map fun c => (Sum.inl c.num : Key)
  | [], [], _ => rfl
  | c :: cs, a :: as, h => congrArg ((Sum.inl c.num : Key) :: ·) (mapsD_keys (Nat.succ.inj h))
theorem mapsD_get : ∀ {cs : List Col} {as : List Addr} {j : Nat} {c : Col} {a : Addr}, (cs.map (·.num)).Nodup → cs[j]? = some c → as[j]? = some a → valV (mapsD cs as) (Sum.inl c.num) = some (V.ref a)
  | [], _, j, _, _, _, h, _ => by simp at h
  | _ :: _, [], j, _, _, _, _, h => by simp at h
  | c' :: cs, a' :: as, 0, c, a, _, h1, h2 => by
    obtain rfl := Option.some.inj (show some c' = some c from h1)
    obtain rfl := Option.some.inj (show some a' = some a from h2)
    exact valV_pos rfl
  | c' :: cs, a' :: as, j + 1, c, a, nd, h1, h2 => by
    have h1 : cs[j]? = some c := h1
    have h2 : as[j]? = some a := h2
    rw [List.map_cons, List.nodup_cons] at nd
    have ne : (Sum.inl c'.num : Key) ≠ Sum.inl c.num := fun e => nd.1 (by rw [Sum.inl.inj e]; exact List.mem_map.mpr ⟨c, List.mem_of_getElem? h1, rfl⟩)
    show valV ((Sum.inl c'.num, V.ref a') :: mapsD cs as) _ = _
    rw [valV_neg ne]
    exact mapsD_get nd.2 h1 h2
def sp_maps_of (P : Program) (w : World) (K : PySem.W.Frag) : Sp := fun vs H Q _ => ∃ (h : Addr) (cs : List Col) (chs : List Ch) (m : Nat), vs = [.ref h, .int (m : Nat)] ∧ HistAt K H h cs chs ∧ HistOk cs chs ∧ m ≤ chs.length ∧
  ∀ (d : Addr) (as : List Addr) (H' : Hp), H d = none → Same H H' → H' d = some (.dK (mapsD (colsE cs chs chs.length) as)) → as.length = (colsE cs chs chs.length).length →
    (∀ (j : Nat) (c : Col) (a : Addr), (colsE cs chs chs.length)[j]? = some c → as[j]? = some a → MapAt P w K H' a (pairsE cs chs c.num m)) → Q (.ref d) H'
theorem MapAt.mut {P : Program} {w : World} {K : PySem.W.Frag} {H : Hp} {a D : Addr} {kvs : List (OKey × V)} {ks ls : List (Key × V)} (hD : H D = some (.dK ks)) (q : MapAt P w K H a kvs) : MapAt P w K (upd H D (.dK ls)) a kvs := by
  obtain ⟨dx, d, h1, h2⟩ := q
  refine ⟨dx, d, by rw [upd_ne (fun z => by rw [z, hD] at h1; cases h1)]; exact h1, by rw [upd_ne (fun z => by rw [z, hD] at h2; cases h2)]; exact h2⟩
theorem ok_maps_of (T : Tx K mg) : Callee P w K mg base CX0 9 "maps_of" ["history", "edition"] [] (sp_maps_of P w K) := by
  have C1 := (ok_edition_of (P := P) (w := w) (base := base) T).up (show 4 ≤ 8 by decide)
  have C2 := ok_map_of (P := P) (w := w) (base := base) T
  obtain ⟨fdC, FC, _, ⟨dsC, vC, bC⟩⟩ := ok_Hist_columns (P := P) (w := w) (base := base) T
  have clc := cl_Column T
  refine mkCallee (fd_maps_of T) (mg_maps_of T) sc_maps_of (fun _ _ _ _ _ _ us hl => match us, hl with | [_, _], _ => rfl) (fun vs H Q E h => ?_) (fun cdv A outer s H vs Q E hr h => ?_)
  · obtain ⟨h, cs, chs, m, rfl, _⟩ := h
    rfl
  · obtain ⟨h, cs, chs, m, rfl, hh, o, hm, k⟩ := h
    have nd := sc_maps_of.nd
    have few := o.few
    have hz : sizeLine = 16777216 := by decide
    have hr5 : Room 5 _ := hr.mono (by decide)
    refine ⟨_, (pss_cons (ps_set (i := 2) nd rfl (Or.inr rfl) (pcall C1 hr (pa_cons (pv 0) (pa_cons (pv 1) pa_nil))))
        (pss_one (ps_ret (pe_dc (own := [("column", 3)]) (g := gName 3) (tt := tYes) (tk := tFld K (tVar 3) "number") (tv := tCall (sp_map_of P w K) [] E0 (tCons (tVar 0) (tCons (tVar 2) (tCons (tFld K (tVar 3) "number") tNil)))) rfl nd (pi_list (pe_meth0 (pv 0) (cl_History T) (me_History_columns T) FC hr5 bC vC pass0)) (blkOk_by (N := ["history", "edition", "at", "column"]) (sc := defScope s_maps_of) (by decide +kernel))
          (fun _ _ _ _ _ => pg_name (i := 3) nd rfl (Or.inl rfl)) (fun _ _ _ _ _ => pts_nil) (fun _ _ _ _ _ => pe_fld (pv 3) rfl) (fun _ _ _ _ _ => pcall C2 hr (pa_cons (pv 0) (pa_cons (pv 2) (pa_cons (pe_fld (pv 3) rfl) pa_nil)))))))), ?_⟩
    refine q_asgX ⟨_, rfl, _, rfl, h, cs, chs, .int (m : Nat), rfl, hh, by omega, .inr (isEd_nat' hm), ?_⟩
    obtain ⟨dx, fs, hi, no⟩ := histM hh
    have hcol : colsAt cs chs .non = colsE cs chs chs.length := rfl
    have g := o.f.good o.g chs.length (Nat.le_refl _)
    have asc := asc_at o chs.length (Nat.le_refl _)
    have g6 : (colsE cs chs chs.length).length ≤ 6 := g.six
    dsimp only
    refine ⟨_, rfl, h, dx, fs, rfl, hi, no, h, cs, chs, .non, rfl, hh, by omega, .inl rfl, fun lc ac H4 nlc s4 hlc hcc => ⟨lc, rfl, ⟨_, sqL_of hlc⟩, fun D nD => ?_⟩⟩
    rw [hcol] at hcc
    have hal := hcc.len
    refine dc_it (walk_list (xs := ac.map V.ref)) (fun j H5 => Same H4 H5 ∧ ∃ as : List Addr, as.length = j ∧ H5 D = some (.dK (mapsD ((colsE cs chs chs.length).take j) as)) ∧ ∀ (i : Nat) (c : Col) (a : Addr), (colsE cs chs chs.length)[i]? = some c → as[i]? = some a → MapAt P w K H5 a (pairsE cs chs c.num m)) ⟨same_new nD, [], rfl, upd_same, fun i c a _ h => by simp at h⟩ (fun j H5 _ p => sqL_of (p.1 _ _ hlc)) ?_ ?_
    · rintro j x H5 H6 hj ⟨s5, as, ha1, hD, hma⟩ ⟨rfl, hx⟩
      rw [List.getElem?_map] at hx
      cases ha : ac[j]? with
      | none =>
        rw [ha] at hx
        cases hx
      | some a =>
        rw [ha] at hx
        obtain rfl := Option.some.inj hx
        obtain ⟨c, hcj, dxc, hat0⟩ := hcc.at_ ha
        have hat := s5 _ _ hat0
        have hil2 := (List.getElem?_eq_some_iff.mp hcj).1
        have hcm := List.mem_of_getElem? hcj
        refine ⟨rfl, ?_⟩
        refine tyY ?_
        refine ⟨_, rfl, _, _, dxc, _, _, rfl, hat, clc, na_Column_number T, colFs_number, _, rfl, _, rfl, _, rfl, _, _, dxc, _, _, rfl, hat, clc, na_Column_number T, colFs_number, h, cs, chs, c, m, rfl, hh.keep (s4.trans s5), o, hm, hcm, fun a' H7 na s7 hma' => ?_⟩
        refine ⟨_, Sum.inl c.num, rfl, s7 _ _ hD, ?_, same_mut (s5.trans s7) nD, as ++ [a'], by rw [List.length_append, ha1]; rfl, ?_, fun i c' a'' h1 h2 => ?_⟩
        · rw [mapsD_len (by rw [List.length_take]; omega), List.length_take]
          omega
        · have hlt : as.length = ((colsE cs chs chs.length).take j).length := by rw [List.length_take]; omega
          rw [upd_same, List.take_add_one, hcj]
          refine congrArg (fun z => some (HO.dK z)) ?_
          have hno : (Sum.inl c.num : Key) ∉ (mapsD ((colsE cs chs chs.length).take j) as).map (·.1) := fun hm' => by
            rw [mapsD_keys hlt] at hm'
            obtain ⟨c', q1, q2⟩ := List.mem_map.mp hm'
            obtain ⟨j', hj'⟩ := List.mem_iff_getElem?.mp q1
            rw [List.getElem?_take] at hj'
            split at hj'
            · rename_i hjj
              have e := asc_lt asc hj' hcj hjj
              have := Sum.inl.inj q2
              omega
            · cases hj'
          rw [show (some c).toList = [c] from rfl, mapsD_app hlt, putK_new _ (valK_none hno)]
        · refine MapAt.mut (s7 _ _ hD) ?_
          by_cases q : i < as.length
          · rw [List.getElem?_append_left q] at h2
            exact (hma i c' a'' h1 h2).keep s7
          · have : i = as.length := by
              have := (List.getElem?_eq_some_iff.mp h2).1
              rw [List.length_append] at this
              have e1 : [a'].length = 1 := rfl
              omega
            subst this
            rw [List.getElem?_append_right (Nat.le_refl _), Nat.sub_self] at h2
            obtain rfl : a' = a'' := Option.some.inj h2
            rw [ha1, hcj] at h1
            obtain rfl := Option.some.inj h1
            exact hma'
    · rintro H5 ⟨s5, as, ha1, hD, hma⟩
      rw [List.length_map] at ha1 hD
      rw [List.take_of_length_le (by rw [hal]; exact Nat.le_refl _)] at hD
      exact k D as H5 (s4.free nD) (s4.trans s5) hD (by rw [ha1, hal]) hma
/-! check_edition, of an edition of the history -/
def sp_check_edition (K : PySem.W.Frag) : Sp := fun vs H Q _ => ∃ (h : Addr) (cs : List Col) (chs : List Ch) (x : V) (t : String), vs = [.ref h, x] ∧ HistAt K H h cs chs ∧ chs.length ≤ 1000 ∧ TyX K H x (.type t) ∧ isEd chs.length x = true ∧ Q .non H
theorem ok_check_edition (T : Tx K mg) : Callee P w K mg base CX0 4 "check_edition" ["history", "edition"] [] (sp_check_edition K) := by
  have C1 := ok_is_edition (P := P) (w := w) (base := base) T
  refine mkCallee (fd_check_edition T) (mg_check_edition T) sc_check_edition (fun _ _ _ _ _ _ us hl => match us, hl with | [_, _], _ => rfl) (fun vs H Q E h => ?_) (fun cdv A outer s H vs Q E hr h => ?_)
  · obtain ⟨h, cs, chs, x, t, rfl, _⟩ := h
    rfl
  · obtain ⟨h, cs, chs, x, t, rfl, hh, few, tx, he, k⟩ := h
    refine ⟨_, pss_one (ps_if (pt_not (pt_val (pcall C1 hr (pa_cons (pv 0) (pa_cons (pv 1) pa_nil))))) (pss_one ps_never) pss_nil), ?_⟩
    refine ⟨_, rfl, _, rfl, h, cs, chs, x, t, rfl, hh, few, tx, _, rfl, ?_⟩
    rw [he]
    exact iteF k
/-! check_editions, of editions of the history -/
def natV (m : Nat) : V := .int (m : Int)
def sp_check_editions (K : PySem.W.Frag) : Sp := fun vs H Q _ => ∃ (h l : Addr) (cs : List Col) (chs : List Ch) (ms : List Nat), vs = [.ref h, .ref l] ∧ HistAt K H h cs chs ∧ HistOk cs chs ∧ (∀ m ∈ ms, m ≤ chs.length) ∧ H l = some (.lst (ms.map natV)) ∧ ∀ H', Same H H' → Q .non H'
theorem ok_check_editions (T : Tx K mg) : Callee P w K mg base CX0 5 "check_editions" ["history", "editions"] [] (sp_check_editions K) := by
  have C1 := (ok_is_list (P := P) (w := w) (base := base) T).up (show 1 ≤ 4 by decide)
  have C2 := ok_check_edition (P := P) (w := w) (base := base) T
  refine mkCallee (fd_check_editions T) (mg_check_editions T) sc_check_editions (fun _ _ _ _ _ _ us hl => match us, hl with | [_, _], _ => rfl) (fun vs H Q E h => ?_) (fun cdv A outer s H vs Q E hr h => ?_)
  · obtain ⟨h, l, cs, chs, ms, rfl, _⟩ := h
    rfl
  · obtain ⟨h, l, cs, chs, ms, rfl, hh, o, hm, hl, k⟩ := h
    have nd := sc_check_editions.nd
    have few := o.few
    refine ⟨_, (pss_cons (ps_if (pt_not (pt_val (pcall C1 hr (pa_cons (pv 1) pa_nil)))) (pss_one ps_never) pss_nil)
        (pss_one (ps_for PassesOwn.never rfl (pi_list (pv 1)) (pg_name (i := 2) nd rfl (Or.inl rfl)) (pss_one (ps_expr (pcall C2 hr (pa_cons (pv 0) (pa_cons (pv 2) pa_nil)))))))), ?_⟩
    refine ⟨_, rfl, l, _, rfl, sqL_of hl, fun H1 s1 => ⟨_, rfl, iteF (nxt ?_)⟩⟩
    dsimp only
    refine ⟨_, rfl, l, rfl, ⟨_, sqL_of (s1 _ _ hl)⟩, ?_⟩
    refine for_list (xs := ms.map natV) (fun i σ H' => Same H H' ∧ ∃ x2 : Option V, σ = [some (.ref h), some (.ref l), x2]) ⟨s1, none, rfl⟩ (fun i σ H' _ q => sqL_of (q.1 _ _ hl)) ?_ ?_
    · rintro i x σ H' hx ⟨s', x2, rfl⟩
      rw [List.getElem?_map, Option.map_eq_some_iff] at hx
      obtain ⟨m, hx, rfl⟩ := hx
      have hm := hm m (List.mem_of_getElem? hx)
      obtain ⟨t, ht⟩ := ty_ok (K := K) (H := H') (x := .int (m : Nat)) rfl
      exact ⟨_, rfl, _, rfl, h, cs, chs, _, t, rfl, hh.keep s', by omega, ht, isEd_nat' hm, s', _, rfl⟩
    rintro σ H' ⟨s', x2, rfl⟩
    exact k H' s'
-- needs: +MAPP +ARGS +LEDP +LOOKP
/-! where the maps of two editions part -/
/-- an argument that leads elsewhere in the other map -/
def partB (ks ls : List (OKey × V)) (v : V) : Bool := match valV ls (keyO v) with
  | some y => decide (valV ks (keyO v) ≠ some y)
  | none => false
section
variable (cs : List Col) (chs : List Ch)
def diffE (n : Int) (m m' : Nat) : List V := (argsE cs chs n m).filter (partB (pairsE cs chs n m) (pairsE cs chs n m'))
/-- the first number and argument on which they differ -/
def partF (m m' : Nat) : List Col → Option (Int × V)
  | [] => none
  | c :: r => match diffE cs chs c.num m m' with
    | v :: _ => some (c.num, v)
    | [] => partF m m' r
def partE (m m' : Nat) : Option (Int × V) := if (deadB cs chs m || deadB cs chs m') = true then none else partF cs chs m m' (colsE cs chs chs.length)
end
section
variable {cs : List Col} {chs : List Ch} {m m' : Nat}
theorem partF_nil {c : Col} {r : List Col} (h : diffE cs chs c.num m m' = []) : partF cs chs m m' (c :: r) = partF cs chs m m' r := by
  show (match diffE cs chs c.num m m' with
    | v :: _ => some (c.num, v)
    | [] => partF cs chs m m' r) = _
  rw [h]
theorem partF_cons {c : Col} {r : List Col} {v : V} {q : List V} (h : diffE cs chs c.num m m' = v :: q) : partF cs chs m m' (c :: r) = some (c.num, v) := by
  show (match diffE cs chs c.num m m' with
    | v :: _ => some (c.num, v)
    | [] => partF cs chs m m' r) = _
  rw [h]
theorem diffE_len (o : HistOk cs chs) {n : Int} (hm : m ≤ chs.length) : (diffE cs chs n m m').length ≤ 101 := Nat.le_trans (List.length_filter_le _ _) (args_len o hm)
theorem partF_two {n : Int} {v : V} : ∀ {l : List Col}, partF cs chs m m' l = some (n, v) → (isVal v = true ∨ isMis v = true) ∧ ∃ c ∈ l, c.num = n
  | [], h => by cases h
  | c :: r, h => by
    cases e : diffE cs chs c.num m m' with
    | nil =>
      rw [partF_nil e] at h
      obtain ⟨h1, c', h2, h3⟩ := partF_two h
      exact ⟨h1, c', List.mem_cons_of_mem _ h2, h3⟩
    | cons v' q =>
      rw [partF_cons e] at h
      obtain ⟨rfl, rfl⟩ := Prod.mk.inj (Option.some.inj h)
      have : v' ∈ diffE cs chs c.num m m' := by rw [e]; exact List.mem_cons_self
      exact ⟨args_two _ (List.mem_filter.mp this).1, c, List.mem_cons_self, rfl⟩
end
/-- what a parting is told as: None, or a new tuple -/
def PartV (H : Hp) (x : V) : Option (Int × V) → Prop
  | none => x = .non
  | some (n, v) => ∃ p : Addr, x = .ref p ∧ H p = some (.tup [.int n, v])
theorem PartV.keep {H H' : Hp} {x : V} {r : Option (Int × V)} (s : Same H H') (h : PartV H x r) : PartV H' x r := by
  cases r with
  | none => exact h
  | some r =>
    obtain ⟨p, h1, h2⟩ := h
    exact ⟨p, h1, s _ _ h2⟩
theorem MapAt.mutF {P : Program} {w : World} {K : PySem.W.Frag} {H : Hp} {a D : Addr} {kvs : List (OKey × V)} {ks : List (Key × V)} {u : HO} (hD : H D = some (.dK ks)) (q : MapAt P w K H a kvs) : MapAt P w K (upd H D u) a kvs := by
  obtain ⟨dx, d, h1, h2⟩ := q
  exact ⟨dx, d, by rw [upd_ne (fun z => by rw [z, hD] at h1; cases h1)]; exact h1, by rw [upd_ne (fun z => by rw [z, hD] at h2; cases h2)]; exact h2⟩

/-! f(e), f a local name that holds an instance with an own __call__ -/
def tCallI (i : Nat) (C : Addr) (sp : Sp) (E : XK) (t : TA) : TE := fun σ H Q => ∃ a dx fs, σ[i]? = some (some (.ref a)) ∧ H a = some (.ins C dx fs) ∧ t σ H fun vs H1 => H1 a = some (.ins C dx fs) ∧ sp (.ref a :: vs) H1 Q E
theorem ci_with {M : Model} {A : Around} {E : Value → Shared → Prop} {s : Shared} {pos : Pos} {x : Addr} {first : List Value} {Q : Value → Shared → Prop} {args : List (Bool × Sem Value)} (hpl : args.any (·.1) = false)
    (h : wpAny M A (evalArgs (.ref x) true args []) (fun a s1 => (∃ o, s1.heap.get? x = some o ∧ o.data = .plain) ∧ wpAny M A (call (.ref x) (first ++ a.pos) a.kw) Q E s1) E s) : wpAny M A (callWith pos (.ref x) first args []) Q E s := by
  unfold callWith
  refine wpAny_bind (wpAny_holding (wpAny_mono h (fun a s1 ⟨⟨o, ho, hd⟩, hc⟩ => wpAny_bind (wpAny_standAt ?_)) fun _ _ z => z))
  have L : PySem.W.Looks M s1.heap (keeperOf (.ref x)) .caller := by
    refine (PySem.W.Looks.ld (part := none) ho).andThen ?_
    simp only [hd]
    exact .now
  simp only [hpl, List.any_nil, Bool.or_self]
  refine wpAny_bind (L.here (wpAny_bind (wpAny_mono (wpAny_operateT hc) (fun r s2 hr => wpAny_bind (wpAny_holding (wpAny_point (wpAny_pure hr)))) fun _ _ z => z)))
section
variable {X : Cx} {CX : CXT} {k i : Nat} {f C : Addr} {fd : FuncData} {ps : List Str} {sp : Sp} {E : XK} {x : Str} {p pos : Pos} {e : Expr} {es : List Expr} {t : TA}
theorem pe_callI (F : FnOk X.prog X.w X.K X.mg X.base CX k f fd ps sp) (hm : Meth X.K C "__call__" f) (hf : PySem.W.fnIn X.K f = true) (hr : Room k X.A) (hN : X.N[i]? = some x) (hv : Vis X.env.scope x) (hb : Binds X.K fd ps []) (hx : Passes CX X E) (ha : PA X (e :: es) t)
    (hdb : (x == ("__debug__" : Str)) = false := by decide) (hcd : (x == ("__classdict__" : Str)) = false := by decide)
    (he : starEach (e :: es) X.env = (false, eval e X.env) :: starEach es X.env := by rfl) (hpl : (backTo pos (starEach es X.env)).any (·.1) = false := by rfl) : PE X (.Call (.Name x p) (e :: es) [] pos) (tCallI i C sp E t) := by
  refine ⟨fun pins s σ H Q I h => ?_⟩
  obtain ⟨a, dx, fs, hs, hc, ht⟩ := h
  refine wpAny_Call_Name_kw (thn ((pe_var (pos := p) hN hv hdb hcd).run pins s σ H (fun v H1 => v = .ref a ∧ H1 = H) I ⟨.ref a, hs, rfl, rfl⟩) fun u s1 ⟨v, H1, I1, r1, q1⟩ => ?_)
  obtain ⟨rfl, rfl⟩ := q1
  cases r1
  have run : wpAny (model X.prog X.w) X.A (spliced (backTo pos (starEach (e :: es) X.env))) (fun vs s' => (∃ o, s'.heap.get? a = some o ∧ o.data = .plain) ∧ wpAny (model X.prog X.w) X.A (call (.ref a) ([] ++ vs) []) (EP X pins σ Q) X.xe s') X.xe s1 := by
    refine thn (ha.run pos pins s1 σ _ _ I1 ht) fun us s2 ⟨vs, H2, I2, r, hc2, q⟩ => ?_
    obtain ⟨mA, J, _⟩ := ins_get I2.hok hc2
    obtain ⟨od, J, _⟩ := J.look
    refine ⟨⟨_, J.at_, rfl⟩, ?_⟩
    have r2 : Vals (.ref a :: vs) (.ref a :: us) := .cons rfl r
    have hl : (Value.ref a :: us).length = ps.length := by rw [← r2.length]; exact F.len _ _ _ _ q
    refine wpAny_call (PySem.W.kco_code I2.kIn J rfl hm.at_ hm.fn hf (codeAny_mono (F.run X.A X.stack s2 H2 ⟨.ref a :: us, []⟩ (.ref a :: us) (.ref a :: vs) Q E hr I2.env0 (by
      have := hb s2 (.ref a :: us) I2.kIn (by simpa using hl)
      simpa using this) r2 q) fun r s' hq => ?_))
    cases r with
    | error e => exact hx pins σ H2 s2 e s' I2 hq
    | ok fl =>
      cases fl with
      | ret u => exact I2.after hq
      | next => exact False.elim hq
      | brk => exact False.elim hq
      | cont => exact False.elim hq
  rw [he] at run ⊢
  exact ci_with hpl (PySem.Calls.evalArgs_plain run)
end

/-! a comprehension over a call's new list: the call first, then the walk over what it gave -/
theorem tlc_at {K : PySem.W.Frag} {tl te : TE} {g : TG} {tt : TT} {vs : List Nat} {σ : L2.St} {H : Hp} {Q : VK} (h : tl σ H fun x H1 => tLc (iList K fun _ H' R => R x H') g tt te vs σ H1 Q) : tLc (iList K tl) g tt te vs σ H Q := h
theorem pl_rlc {wi : TI} {te : TE} {g : TG} {tt : TT} {vs : List Nat} {σ : L2.St} {H : Hp} {D : Ends} (h : tLc wi g tt te vs σ H D.rt) : tRet (tLc wi g tt te vs) D σ H := h
theorem rg2_at {lo n i : Nat} (h : i < n) : ((List.range n).map fun m : Nat => V.int ((lo : Nat) + (m : Nat)))[i]? = some (V.int ((lo : Nat) + (i : Nat))) := by
  rw [List.getElem?_map, List.getElem?_range h]
  rfl
section
variable {σ : L2.St} {H : Hp} {te : TE} {ta : TA} {tt : TT} {j : Nat} {vs : List Nat} {Q : VK}
theorem tlc_R2 (f : V → Bool) (v : V → V) (lo n : Nat) (hta : ∀ R : List V → Hp → Prop, (∀ H1, Same H H1 → R [.int (lo : Nat), .int ((lo : Nat) + (n : Nat))] H1) → ta σ H R) (hz : lo + n ≤ 100000) (hw : ∀ x, wipe ((wipe σ vs).set j (some x)) vs = wipe σ vs)
    (ht : ∀ m : Nat, m < n → ∀ H', Same H H' → ∀ R : Bool → Hp → Prop, (∀ H2, Same H' H2 → R (f (.int ((lo : Nat) + (m : Nat)))) H2) → tt ((wipe σ vs).set j (some (.int ((lo : Nat) + (m : Nat))))) H' R)
    (he : ∀ m : Nat, m < n → f (.int ((lo : Nat) + (m : Nat))) = true → ∀ H', Same H H' → ∀ R : VK, (∀ H2, Same H' H2 → R (v (.int ((lo : Nat) + (m : Nat)))) H2) → te ((wipe σ vs).set j (some (.int ((lo : Nat) + (m : Nat))))) H' R)
    (k : ∀ D H', H D = none → Same H H' → H' D = some (.lst ((((List.range n).map fun m : Nat => V.int ((lo : Nat) + (m : Nat))).filter f).map v)) → Q (.ref D) H') : tLc (iRng2 ta) (gName j) tt te vs σ H Q := by
  refine hta _ fun H1 e1 => ⟨(lo : Nat), (lo : Nat) + (n : Nat), rfl, ⟨by omega, by omega, by omega, by omega⟩, ?_⟩
  rw [show ((((lo : Nat) : Int) + ((n : Nat) : Int)) - ((lo : Nat) : Int)).toNat = n by omega]
  intro D hD
  have key : ∀ i H', i < n → (Same H1 H' ∧ H' D = some (.lst (((((List.range n).map fun m : Nat => V.int ((lo : Nat) + (m : Nat))).take i).filter f).map v))) → gName j (.int (((lo : Nat) : Int) + (i : Int))) (wipe σ vs) H' fun σ2 H2 => wipe σ2 vs = wipe σ vs ∧ tt σ2 H2 fun b H3 =>
      if b = true then te σ2 H3 fun y H4 => ∃ acc, H4 D = some (.lst acc) ∧ acc.length < sizeLine ∧ (Same H1 (upd H4 D (.lst (acc ++ [y]))) ∧ (upd H4 D (.lst (acc ++ [y]))) D = some (.lst (((((List.range n).map fun m : Nat => V.int ((lo : Nat) + (m : Nat))).take (i + 1)).filter f).map v)))
      else (Same H1 H3 ∧ H3 D = some (.lst (((((List.range n).map fun m : Nat => V.int ((lo : Nat) + (m : Nat))).take (i + 1)).filter f).map v))) := fun i H' hi p => by
    have hin : i < n := hi
    have hl := take_len (xs := (List.range n).map fun m : Nat => V.int ((lo : Nat) + (m : Nat))) f v i
    have hl2 : ((List.range n).map fun m : Nat => V.int ((lo : Nat) + (m : Nat))).length = n := by simp
    exact ⟨hw _, lc_one (N := fun H' => Same H1 H' ∧ H' D = some (.lst (((((List.range n).map fun m : Nat => V.int ((lo : Nat) + (m : Nat))).take (i + 1)).filter f).map v))) (f := f) (v := v) (x := .int ((lo : Nat) + (i : Nat))) hD (by omega) p (ht i hin H' (e1.trans p.1))
      (fun hf H2 e2 => he i hin hf H2 (e1.trans e2)) fun H2 s2 d2 => ⟨s2, by rw [d2, take_one f v (rg2_at hi)]⟩⟩
  refine lc_range (lo := (lo : Nat)) (n := n) (fun i H' => Same H1 H' ∧ H' D = some (.lst (((((List.range n).map fun m : Nat => V.int ((lo : Nat) + (m : Nat))).take i).filter f).map v))) ⟨same_new hD, ?_⟩ key fun H' p => k D H' (e1.free hD) (e1.trans p.1) ?_
  · exact upd_same
  · have q := p.2
    rw [List.take_of_length_le (by simp)] at q
    exact q
end

/-! _law_rank: MISSING, None, then the ints -/
def rankV : V → Int
  | .int i => i
  | .non => -1
  | _ => -2
def sp_rank53 (K : PySem.W.Frag) : Sp := fun vs H Q _ => ∃ v : V, vs = [v] ∧ (isVal v = true ∨ isMis v = true) ∧ Q (.int (rankV v)) H
theorem ok_rankL (T : Tx K mg) : Callee P w K mg base CX0 1 "_law_rank" ["_law_value"] [] (sp_rank53 K) := by
  refine mkCallee (fd__law_rank T) (mg__law_rank T) sc__law_rank (fun _ _ _ _ _ _ us hl => match us, hl with | [_], _ => rfl) (fun vs H Q E h => ?_) (fun cdv A outer s H vs Q E hr h => ?_)
  · obtain ⟨v, rfl, _⟩ := h
    rfl
  · obtain ⟨v, rfl, hv, k⟩ := h
    refine ⟨_, (pss_cons (ps_if (pt_cmpR op_eq (pv 0) pe_str (nomark _)) (pss_one (ps_ret (pe_op op_sub pe_int pe_int))) pss_nil)
        (pss_one (ps_ret (pe_ifExp (pt_cmpR op_isN (pv 0) pe_non (nomark _)) (pe_op op_sub pe_int pe_int) (pv 0))))), ?_⟩
    rcases hv with hv | hv
    · cases v with
      | non => exact ⟨_, rfl, rfl, _, rfl, iteD (fun z => by cases z) (nxt ⟨_, rfl, rfl, _, rfl, iteDT rfl ⟨_, _, rfl, rfl, k⟩⟩)⟩
      | int i => exact ⟨_, rfl, rfl, _, rfl, iteD (fun z => by cases z) (nxt ⟨_, rfl, rfl, _, rfl, iteD (fun z => by cases z) ⟨_, rfl, k⟩⟩)⟩
      | _ => cases hv
    · obtain rfl := mis_str hv
      exact ⟨_, rfl, rfl, _, rfl, iteDT rfl ⟨_, _, rfl, rfl, k⟩⟩
/-! what in_order tells is in the order of the ranks, and has the same values -/
theorem inord_rank {xs ys : List V} {ns : List Int} (h : InOrd xs ys ns) (two : ∀ x ∈ xs, isVal x = true ∨ isMis x = true) : (∀ v, v ∈ xs ↔ v ∈ ys) ∧ (ys.map rankV).Pairwise (· < ·) := by
  have pos : ∀ n ∈ ns, 0 ≤ n := fun n hn => by
    rcases two _ ((h.mem n).mp hn) with q | q
    · exact of_decide_eq_true (show decide (0 ≤ n) = true from q)
    · cases q
  have nonI : xs.any (fun x => decide (x = V.non)) = true ↔ V.non ∈ xs := by
    rw [List.any_eq_true]
    exact ⟨fun ⟨x, h1, h2⟩ => by rw [← of_decide_eq_true h2]; exact h1, fun q => ⟨_, q, decide_eq_true rfl⟩⟩
  have misI : xs.any isMis = true ↔ V.str "missing" ∈ xs := by
    rw [List.any_eq_true]
    refine ⟨fun ⟨x, h1, h2⟩ => ?_, fun q => ⟨_, q, rfl⟩⟩
    have : x = .str "missing" := by
      cases x with
      | str z =>
        have h2 : decide (z = "missing") = true := h2
        rw [of_decide_eq_true h2]
      | _ => cases h2
    rw [← this]
    exact h1
  constructor
  · intro v
    rw [h.eq, List.mem_append, List.mem_append]
    constructor
    · intro hv
      rcases two v hv with q | q
      · cases v with
        | non =>
          refine .inl (.inr ?_)
          rw [if_pos (nonI.mpr hv)]
          exact List.mem_singleton.mpr rfl
        | int n => exact .inr (List.mem_map.mpr ⟨n, (h.mem n).mpr hv, rfl⟩)
        | _ => cases q
      · cases v with
        | str z =>
          have q : decide (z = "missing") = true := q
          have e := of_decide_eq_true q
          subst e
          refine .inl (.inl ?_)
          rw [if_pos (misI.mpr hv)]
          exact List.mem_singleton.mpr rfl
        | _ => cases q
    · rintro ((q | q) | q)
      · split at q
        · rename_i c
          rw [List.mem_singleton.mp q]
          exact misI.mp c
        · cases q
      · split at q
        · rename_i c
          rw [List.mem_singleton.mp q]
          exact nonI.mp c
        · cases q
      · obtain ⟨n, hn, rfl⟩ := List.mem_map.mp q
        exact (h.mem n).mp hn
  · have lo : ∀ x ∈ ns.map V.int, 0 ≤ rankV x := fun x hx => by
      obtain ⟨n, hn, rfl⟩ := List.mem_map.mp hx
      exact pos n hn
    have up : ((ns.map V.int).map rankV).Pairwise (· < ·) := by
      rw [List.map_map]
      have : (ns.map (rankV ∘ V.int)) = ns := by
        conv => rhs; rw [← List.map_id ns]
        rfl
      rw [this]
      exact h.up
    rw [h.eq, List.pairwise_map]
    rw [List.pairwise_map] at up
    refine List.pairwise_append.mpr ⟨List.pairwise_append.mpr ⟨?_, ?_, ?_⟩, up, ?_⟩
    · split
      · exact List.pairwise_singleton _ _
      · exact .nil
    · split
      · exact List.pairwise_singleton _ _
      · exact .nil
    · intro a ha b hb
      split at ha
      · split at hb
        · rw [List.mem_singleton.mp ha, List.mem_singleton.mp hb]
          decide
        · cases hb
      · cases ha
    · intro a ha b hb
      have := lo b hb
      rcases List.mem_append.mp ha with q | q
      · split at q
        · rw [List.mem_singleton.mp q]
          show (-2 : Int) < _
          omega
        · cases q
      · split at q
        · rw [List.mem_singleton.mp q]
          show (-1 : Int) < _
          omega
        · cases q

/-! arguments in their order; those that rows show -/
section
variable {cs : List Col} {chs : List Ch}
theorem vals_asc (g : Int) : ((valsTo g).map rankV).Pairwise (· < ·) := by
  unfold valsTo rgV
  rw [List.map_cons, List.map_map, List.pairwise_cons]
  constructor
  · intro r hr
    obtain ⟨i, _, rfl⟩ := List.mem_map.mp hr
    show (-1 : Int) < 0 + (i : Nat)
    omega
  · rw [List.pairwise_map]
    exact List.Pairwise.imp (fun {i j} h => by
      show (0 : Int) + (i : Nat) < 0 + (j : Nat)
      omega) List.pairwise_lt_range
theorem args_asc {n : Int} {m : Nat} (hg : goneB cs chs n m = false) : ((argsE cs chs n m).map rankV).Pairwise (· < ·) := by
  by_cases hn : n < numE cs chs m
  · cases hc : colE cs chs m n with
    | none =>
      unfold goneB at hg
      rw [decide_eq_true hn, hc] at hg
      cases hg
    | some c =>
      rw [args_there hn hc]
      exact (vals_asc c.top).sublist (List.Sublist.map _ List.filter_sublist)
  · rw [args_later hn]
    split
    · exact List.Pairwise.nil
    · exact List.pairwise_singleton _ _
/-- the values that the rows show that can be there -/
theorem args_rows (o : HistOk cs chs) {n : Int} {m : Nat} (hm : m ≤ chs.length) (h0 : 0 ≤ n) (h1 : n < (atC cs chs).2) (hg : goneB cs chs n m = false) (v : V) :
    (∃ es, FitE (colsE cs chs m) es ∧ (folTo cs chs m (rowE (colsE cs chs m) es) (chs.length - m)).isSome = true ∧ v = stV es n) ↔ v ∈ (if deadB cs chs m = true then [] else argsE cs chs n m) := by
  cases hd : deadB cs chs m with
  | true =>
    rw [if_pos rfl]
    constructor
    · rintro ⟨es, f, al, _⟩
      rw [dead_bar o hm f hd] at al
      cases al
    · intro h
      cases h
  | false =>
    rw [if_neg (by decide)]
    constructor
    · rintro ⟨es, f, al, rfl⟩
      have hb : barV cs chs m es = false := by
        rw [fol_bar o hm f]
        obtain ⟨k, hk⟩ := Option.isSome_iff_exists.mp al
        rw [hk]
        rfl
      have hin : inV (stV es n) (argsE cs chs n m) = true := by
        cases hq : inV (stV es n) (argsE cs chs n m) with
        | true => rfl
        | false =>
          have hcn : ((n.toNat : Nat) : Int) = n := by omega
          have := barV_hit (cs := cs) (chs := chs) (i := m) (es := es) (j := n.toNat) (by omega) (by rw [hcn]; exact hg) (by rw [hcn]; exact hq)
          rw [hb] at this
          cases this
      exact (inV_of (stV_two f n) args_two).mp hin
    · intro hv
      by_cases hn : n < numE cs chs m
      · cases hc : colE cs chs m n with
        | none =>
          unfold goneB at hg
          rw [decide_eq_true hn, hc] at hg
          cases hg
        | some c =>
          obtain ⟨k1, k2⟩ := findK_mem hc
          obtain ⟨fit, al⟩ := zero_alive (kvs := [(Sum.inl n, v)]) o hm hd (fun c'' hc'' v' hv' => by
            have e1 := List.mem_singleton.mp (valV_mem hv')
            have e2 := (Prod.mk.inj e1).1
            have e2 := Sum.inl.inj e2
            rw [e2, (Prod.mk.inj e1).2]
            exact hv)
          refine ⟨_, fit, al, ?_⟩
          obtain ⟨q, hq⟩ := List.mem_iff_getElem?.mp k1
          obtain ⟨v', h4, h5, _⟩ := st_fit fit (asc_at o m hm) hq
          have e1 := Option.some.inj ((zeroE_at (kvs := [(Sum.inl n, v)]) hq).symm.trans h4)
          have e2 := (Prod.mk.inj e1).2
          rw [k2] at e2 h5
          have e3 : (valV [((Sum.inl n : Key), v)] (Sum.inl n)).getD (.int 0) = v := by
            rw [valV_pos rfl]
            rfl
          rw [h5, ← e2, e3]
      · obtain ⟨fit, al⟩ := zero_alive (kvs := []) o hm hd (fun c hc v hv => by cases hv)
        refine ⟨_, fit, al, ?_⟩
        have hno : colE cs chs m n = none := by
          cases e : colE cs chs m n with
          | none => rfl
          | some c =>
            obtain ⟨k1, k2⟩ := findK_mem e
            have := ((o.f.good o.g m hm).ok c k1).2
            rw [k2] at this
            exact absurd this hn
        rw [st_miss fit hno]
        rw [args_later hn] at hv
        split at hv
        · cases hv
        · exact List.mem_singleton.mp hv
end

-- needs: +SEQ +LATE +MAPP +INOR +ARGO _law_rank in_order hindrance
/-! looks: the arguments whose value lies above; whether rows must be looked at -/
section
variable (cs : List Col) (chs : List Ch)
def overB (n : Int) (m : Nat) (g : Int) (x : V) : Bool := match valV (pairsE cs chs n m) (keyO x) with
  | some v => !isIn g v
  | none => false
def aboveE (n : Int) (m : Nat) (g : Int) : List V := (argsE cs chs n m).filter (overB cs chs n m g)
end
def edV (m : Nat) : V := .int (m : Int)
theorem inV_ed {ms : List Nat} {m : Nat} (h : m ∉ ms) : inV (edV m) (ms.map edV) = false := by
  unfold inV
  rw [List.any_eq_false]
  intro y hy
  obtain ⟨j, hj, rfl⟩ := List.mem_map.mp hy
  intro e
  have e : (((j : Nat) : Int) == ((m : Nat) : Int)) = true := e
  have e := beq_iff_eq.mp e
  exact h ((show j = m by omega) ▸ hj)
theorem ed_flat (ms : List Nat) : (ms.map edV).all flatV = true := by
  rw [List.all_map, List.all_eq_true]
  intro _ _
  rfl
def needsB (cl : List Col) (c : Ch) : Bool := match c with
  | .great n g way => match cl.find? (isN n) with
    | none => false
    | some e => decide (way = "refuse") && (decide (g < e.top) && isIn g e.dflt)
  | _ => false
theorem asc_ext {f : V → Int} : ∀ {xs ys : List V}, (xs.map f).Pairwise (· < ·) → (ys.map f).Pairwise (· < ·) → (∀ v, v ∈ xs ↔ v ∈ ys) → xs = ys
  | [], [], _, _, _ => rfl
  | [], y :: ys, _, _, h => absurd ((h y).mpr List.mem_cons_self) (by simp)
  | x :: xs, [], _, _, h => absurd ((h x).mp List.mem_cons_self) (by simp)
  | x :: xs, y :: ys, hx, hy, h => by
    rw [List.map_cons, List.pairwise_cons] at hx hy
    have e : x = y := by
      rcases List.mem_cons.mp ((h x).mp List.mem_cons_self) with q | q
      · exact q
      · rcases List.mem_cons.mp ((h y).mpr List.mem_cons_self) with r | r
        · exact r.symm
        · have h1 := hy.1 _ (List.mem_map_of_mem q)
          have h2 := hx.1 _ (List.mem_map_of_mem r)
          omega
    subst e
    rw [asc_ext hx.2 hy.2 fun v => ?_]
    constructor
    · intro q
      rcases List.mem_cons.mp ((h v).mp (List.mem_cons_of_mem _ q)) with r | r
      · subst r
        have := hx.1 _ (List.mem_map_of_mem q)
        omega
      · exact r
    · intro q
      rcases List.mem_cons.mp ((h v).mpr (List.mem_cons_of_mem _ q)) with r | r
      · subst r
        have := hy.1 _ (List.mem_map_of_mem q)
        omega
      · exact r
section
variable {cs : List Col} {chs : List Ch} {n : Int} {m : Nat}
theorem ord_args (hg : goneB cs chs n m = false) {ys : List V} {ns : List Int} (io : InOrd (argsE cs chs n m) ys ns) : ys = argsE cs chs n m := by
  obtain ⟨a, b⟩ := inord_rank io args_two
  exact (asc_ext (args_asc hg) b a).symm
theorem arg_get {x : V} (hx : x ∈ argsE cs chs n m) : ∃ v, valV (pairsE cs chs n m) (keyO x) = some v ∧ (keyO x, v) ∈ pairsE cs chs n m := by
  obtain ⟨kv, hkv, rfl⟩ := List.mem_map.mp hx
  obtain ⟨j, hj⟩ := List.mem_iff_getElem?.mp hkv
  have e : keyO (oV kv.1) = kv.1 := by
    rcases kv with ⟨k, v⟩
    rcases k with _ | (_ | _) <;> rfl
  rw [e]
  exact ⟨kv.2, valO_at pairs_nodup hj, hkv⟩
theorem over_of {g : Int} {x v : V} (h : valV (pairsE cs chs n m) (keyO x) = some v) : overB cs chs n m g x = !isIn g v := by
  unfold overB
  rw [h]
end
def narI (c : Ch) : Int := match c with
  | .great _ g _ => g
  | _ => 0
def namI (cl : List Col) (c : Ch) : Int := match cl.find? (isN c.name) with
  | some e => e.num
  | none => 0
section
variable (cs : List Col) (chs : List Ch) (c : Ch)
def aboveC (m : Nat) : List V := aboveE cs chs (namI (colsE cs chs chs.length) c) m (narI c)
def allB (m : Nat) : Bool := decide ((aboveC cs chs c m).length = (pairsE cs chs (namI (colsE cs chs chs.length) c) m).length)
def someB (m : Nat) : Bool := decide (0 < (aboveC cs chs c m).length)
def looksV (ms : List Nat) : Str := if hindV (colsE cs chs chs.length) c = .non then (if needsB (colsE cs chs chs.length) c = true then (if ms.any (allB cs chs c) = true then "refused" else if ms.any (someB cs chs c) = true then "look" else "let") else "let") else "refused"
def barsO (ms : List Nat) : Option (Nat × V) := if needsB (colsE cs chs chs.length) c = true then (ms.find? (someB cs chs c)).map fun m => (m, (aboveC cs chs c m).headD .non) else none
end
theorem needs_form {cl : List Col} {c : Ch} (h : needsB cl c = true) : ∃ e g, c = .great e.name g "refuse" ∧ e ∈ cl ∧ cl.find? (isN e.name) = some e ∧ namI cl c = e.num ∧ narI c = g := by
  cases c with
  | great n g way =>
    have h : (match cl.find? (isN n) with | none => false | some e => decide (way = "refuse") && (decide (g < e.top) && isIn g e.dflt)) = true := h
    cases hf : cl.find? (isN n) with
    | none =>
      rw [hf] at h
      cases h
    | some e =>
      rw [hf] at h
      have hw : way = "refuse" := of_decide_eq_true (Bool.and_eq_true_iff.mp h).1
      have hn0 := List.find?_some hf
      have hn : e.name = n := of_decide_eq_true hn0
      subst hw hn
      refine ⟨e, g, rfl, List.mem_of_find?_eq_some hf, hf, ?_, rfl⟩
      show (match cl.find? (isN e.name) with | some e => e.num | none => 0) = e.num
      rw [hf]
  | _ => cases h
theorem any_idm {α : Type} (f : α → Bool) (l : List α) : (l.map f).any id = l.any f := by
  rw [List.any_map]
  rfl
theorem find_hit {α : Type} {p : α → Bool} : ∀ {l : List α} {i : Nat} {x : α}, l[i]? = some x → (l.take i).find? p = none → p x = true → l.find? p = some x
  | [], _, _, h, _, _ => by cases h
  | y :: l, 0, x, h, _, hp => by
    obtain rfl : y = x := Option.some.inj h
    rw [List.find?_cons, hp]
  | y :: l, i + 1, x, h, hn, hp => by
    rw [List.take_succ_cons, List.find?_cons] at hn
    rw [List.find?_cons]
    cases hy : p y with
    | true =>
      rw [hy] at hn
      cases hn
    | false =>
      rw [hy] at hn
      exact find_hit (show l[i]? = some x from h) hn hp
theorem needs_hind {cl : List Col} {c : Ch} (h : needsB cl c = true) : hindV cl c = .non := by
  cases c with
  | great n g way =>
    have h : (match cl.find? (isN n) with | none => false | some e => decide (way = "refuse") && (decide (g < e.top) && isIn g e.dflt)) = true := h
    show (match cl.find? (isN n) with
      | none => V.str "unknown"
      | some e => if chgV e.name (.great n g way) e.dflt = V.str "missing" then V.str "default" else .non) = .non
    cases hf : cl.find? (isN n) with
    | none =>
      rw [hf] at h
      cases h
    | some e =>
      rw [hf] at h
      have hi : isIn g e.dflt = true := (Bool.and_eq_true_iff.mp (Bool.and_eq_true_iff.mp h).2).2
      have hn := List.find?_some hf
      have hn : e.name = n := of_decide_eq_true hn
      refine if_neg fun z => ?_
      unfold chgV at z
      rw [if_pos (show (Ch.great n g way).name = e.name from hn.symm)] at z
      cases hd : e.dflt with
      | non => rw [hd] at z; cases z
      | int j =>
        rw [hd] at z hi
        have hi : (decide (0 ≤ j) && decide (j ≤ g)) = true := hi
        have := of_decide_eq_true (Bool.and_eq_true_iff.mp hi).2
        have z : (if g < j then abv g way else .int j) = V.str "missing" := z
        rw [if_neg (by omega)] at z
        cases z
      | _ => rw [hd] at hi; cases hi
  | _ => cases h

-- needs: +MAPP
/-! late writers: what a column is read as that a late writer leaves untold -/
section
variable (cs : List Col) (chs : List Ch) (m : Nat)
def missB (n : Int) : V := match colE cs chs m n with
  | some c => c.dflt
  | none => .str "missing"
def unlikeB (c : Col) : Bool := match valV (pairsE cs chs c.num m) (keyO (missB cs chs m c.num)) with
  | some v => !decide (v = c.dflt)
  | none => false
def rightB : Bool := deadB cs chs m || (colsE cs chs chs.length).all fun c => !unlikeB cs chs m c
end
theorem missB_two {cs : List Col} {chs : List Ch} (o : HistOk cs chs) {m : Nat} (hm : m ≤ chs.length) (n : Int) : isVal (missB cs chs m n) = true ∨ isMis (missB cs chs m n) = true := by
  unfold missB
  split
  · rename_i c hc
    obtain ⟨k1, k2⟩ := findK_mem hc
    exact .inl (in_val ((o.f.good o.g m hm).ok c k1).1.df)
  · exact .inr rfl
theorem valO_mem {k : OKey} {v : V} : ∀ {kvs : List (OKey × V)}, valV kvs k = some v → (k, v) ∈ kvs
  | [], h => by cases h
  | kv :: kvs, h => by
    by_cases e : kv.1 = k
    · rw [valV_pos e] at h
      have : kv = (k, v) := by
        rw [← e, ← Option.some.inj h]
      rw [this]
      exact List.mem_cons_self
    · rw [valV_neg e] at h
      exact List.mem_cons_of_mem _ (valO_mem h)
theorem now_val {cs : List Col} {chs : List Ch} (o : HistOk cs chs) {c : Col} (hc : c ∈ colsE cs chs chs.length) : isVal c.dflt = true := in_val ((o.f.good o.g chs.length (Nat.le_refl _)).ok c hc).1.df

/-! differing_arguments, of the maps of a column from two editions -/
def sp_differing (P : Program) (w : World) (K : PySem.W.Frag) : Sp := fun vs H Q _ => ∃ (a b : Addr) (cs : List Col) (chs : List Ch) (c : Col) (m m' : Nat), vs = [.ref a, .ref b] ∧ MapAt P w K H a (pairsE cs chs c.num m) ∧ MapAt P w K H b (pairsE cs chs c.num m') ∧ HistOk cs chs ∧ m ≤ chs.length ∧ m' ≤ chs.length ∧ c ∈ colsE cs chs chs.length ∧
  ∀ (p : Addr) (H' : Hp), H p = none → Same H H' → H' p = some (.lst (diffE cs chs c.num m m')) → Q (.ref p) H'
theorem ok_differing (T : Tx K mg) : Callee P w K mg base CX0 6 "differing_arguments" ["one", "other"] [] (sp_differing P w K) := by
  obtain ⟨fdA, FA, bA⟩ := ok_Map_arguments (P := P) (w := w) (base := base) T
  obtain ⟨fdL, FL, bL⟩ := ok_Map_call (P := P) (w := w) (base := base) T
  obtain ⟨fdI, FI, bI⟩ := ok_Map_in (P := P) (w := w) (base := base) T
  refine mkCallee (fd_differing_arguments T) (mg_differing_arguments T) sc_differing_arguments (fun _ _ _ _ _ _ us hl => match us, hl with | [_, _], _ => rfl) (fun vs H Q E h => ?_) (fun cdv A outer s H vs Q E hr h => ?_)
  · obtain ⟨a, b, cs, chs, c, m, m', rfl, _⟩ := h
    rfl
  · obtain ⟨a, b, cs, chs, c, m, m', rfl, ha, hb, o, hm, hm', hc, k⟩ := h
    have nd := sc_differing_arguments.nd
    have few := o.few
    have hr4 : Room 4 _ := hr.mono (by decide)
    obtain ⟨h0, h1, hg, hcl⟩ := col_now o hc hm
    obtain ⟨_, _, hg', _⟩ := col_now o hc hm'
    refine ⟨_, (pss_one (ps_ret (pe_lc (own := [("argument", 2)]) (g := gName 2) (tt := tAnd (tTest (tOp (rInOwn (He.ga K "Map") (sp_Map_in P w K) E0) (tVar 2) (tVar 1))) (tTest (tOp rNe (tCallI 0 (He.ga K "Map") (sp_Map_led P w K) E0 (tCons (tVar 2) tNil)) (tCallI 1 (He.ga K "Map") (sp_Map_led P w K) E0 (tCons (tVar 2) tNil))))) (te := tVar 2) rfl nd (pi_list (pe_meth0 (pv 0) (cl_Map T) (me_Map_arguments T) FA hr4 bA .nil pass0)) (blkOk_by (N := ["one", "other", "argument"]) (sc := defScope s_differing_arguments) (by decide +kernel)) (fun _ _ _ _ _ => (pg_name (i := 2) nd rfl (Or.inl rfl)))
      (fun _ _ _ _ _ => pts_one (PW.pt (pw_and (pt_cmpR (op_inOwn FI (me_Map___contains__ T) hr4 bI pass0) (pv 2) (pv 1) (by rfl)) (pw_and1 (pt_cmpR op_ne (pe_callI (i := 0) FL (me_Map___call__ T) (ex_Map_fnc T) hr rfl (by first | exact Or.inl rfl | exact Or.inr (Or.inl rfl) | exact Or.inr (Or.inr rfl)) bL pass0 (pa_cons (pv 2) pa_nil)) (pe_callI (i := 1) FL (me_Map___call__ T) (ex_Map_fnc T) hr rfl (by first | exact Or.inl rfl | exact Or.inr (Or.inl rfl) | exact Or.inr (Or.inr rfl)) bL pass0 (pa_cons (pv 2) pa_nil)) (nomark _)))))) (fun _ _ _ _ _ => (pv 2))))), ?_⟩
    obtain ⟨da, ea, a1, a2⟩ := id ha
    obtain ⟨db, eb, b1, b2⟩ := id hb
    have hplen := pairs_len o (n := c.num) hm
    refine pl_rlc ?_
    refine tlc_L (K := K) (xs := argsE cs chs c.num m) (partB (pairsE cs chs c.num m) (pairsE cs chs c.num m')) id (fun R hR => ?_) (by unfold argsE; rw [List.length_map]; omega) (fun _ => rfl) ?_ (fun x _ _ H' _ R hR => ⟨_, rfl, hR H' (Same.refl _)⟩) ?_
    · refine ⟨_, rfl, a, da, _, rfl, a1, mapFs_no (by decide +kernel), a, pairsE cs chs c.num m, rfl, ha, by omega, fun kv hkv => (pairs_right o h0 h1 hkv).1, fun p H8 ys ns np s8 io hp => ?_⟩
      have e := ord_args hg io
      subst e
      exact hR p H8 s8 (sqL_of hp)
    · intro x hx H' s' R hR
      have two := args_two x hx
      obtain ⟨v, hv, hkv⟩ := arg_get hx
      have hvv := (pairs_right o h0 h1 hkv).2
      refine ⟨_, rfl, _, rfl, b, db, _, rfl, s' _ _ b1, b, _, x, rfl, hb.keep s', two, fun H2 s2 => ⟨_, rfl, _, rfl, ?_⟩⟩
      have s2' := s'.trans s2
      have eB : partB (pairsE cs chs c.num m) (pairsE cs chs c.num m') x = match valV (pairsE cs chs c.num m') (keyO x) with
        | some y => decide (valV (pairsE cs chs c.num m) (keyO x) ≠ some y)
        | none => false := rfl
      cases hv' : valV (pairsE cs chs c.num m') (keyO x) with
      | none =>
        rw [hv'] at eB
        have := hR H2 s2
        rw [eB] at this
        exact iteF this
      | some u =>
        rw [hv', hv] at eB
        have hu2 : isVal u = true := by
          have hmem : (keyO x, u) ∈ pairsE cs chs c.num m' := valO_mem hv'
          exact (pairs_right o h0 h1 hmem).2
        refine iteT ⟨a, da, _, rfl, s2' _ _ a1, _, rfl, s2' _ _ a1, a, _, keyO x, v, by rw [oV_keyO two], ha.keep s2', by rw [oV_keyO two]; exact two, hv, fun H3 s3 => ?_⟩
        have s3' := s2'.trans s3
        refine ⟨b, db, _, rfl, s3' _ _ b1, _, rfl, s3' _ _ b1, b, _, keyO x, u, by rw [oV_keyO two], hb.keep s3', by rw [oV_keyO two]; exact two, hv', fun H4 s4 => ?_⟩
        refine ⟨val_scal2 hvv hu2, _, rfl, ?_⟩
        have := hR H4 ((s2.trans s3).trans s4)
        rw [eB] at this
        have ee : (!decide (v = u)) = decide (some v ≠ some u) := by
          by_cases q : v = u
          · subst q
            simp
          · simp [q]
        rw [ee]
        exact this
    · intro D H' nD s' hD
      rw [List.map_id] at hD
      exact k D H' nD s' hD
/-! own errors that keep one argument: made, raised -/
/-- what such an __init__ does -/
def sp_keep1 (K : PySem.W.Frag) (x f : Str) : Sp := fun vs H Q _ => ∃ (a : Addr) (v : V), vs = [.ref a, v] ∧ H a = some (exo a (He.ga K x) none) ∧
  ∀ dx, H dx = none → dx ≠ a → Q .non (upd (upd H dx (exd dx [(f, v)])) a (exo a (He.ga K x) (some dx)))
/-- raise C(e) -/
def tRaise1 (K : PySem.W.Frag) (x f : Str) (W : WX) (te : TE) : TS := fun _ σ H => te σ H fun v H1 => ∀ d, H1 d = none → W (.ref (He.ga K x)) (some d) σ (upd H1 d (.xd [(f, v)]))
section
variable {X : Cx}
/-- an expression's reading, weakened -/
theorem pe_mono {e : Expr} {te : TE} (he : PE X e te) : PE X e (fun σ H Q => ∃ R : VK, te σ H R ∧ ∀ v H1, R v H1 → Q v H1) := by
  refine ⟨fun pins s σ H Q I h => ?_⟩
  obtain ⟨R, h1, h2⟩ := h
  exact thn (he.run pins s σ H _ I h1) fun u s1 ⟨x, H1, I1, rx, q⟩ => ⟨x, H1, I1, rx, h2 x H1 q⟩
theorem ps_raise1 {x f : Str} {W : WX} {e : Expr} {te : TE} {k : Nat} {fd : FuncData} {ps : List Str} {p pos pos2 : Pos} (hc : X.calm = true) (tk : Takes X W) (T : OexF X.K x f) (F1 : FnOk X.prog X.w X.K X.mg X.base CX0 k (He.ma X.K (He.ga X.K x) "__init__") fd ps (sp_keep1 X.K x f)) (hr : Room (k + 1) X.A) (hb : Binds X.K fd ps [])
    (hm : X.mg x = some (.ref (He.ga X.K x))) (he : PE X e te) (hg : Gl X x := by rfl) (hdb : (x == ("__debug__" : Str)) = false := by decide) (hst : starEach (e :: []) X.env = (false, eval e X.env) :: starEach [] X.env := by rfl) (hpl : (backTo pos (starEach [] X.env)).any (·.1) = false := by rfl) :
    PS X (.Raise (some (.Call (.Name x p) [e] [] pos)) none pos2) (tRaise1 X.K x f W te) := by
  refine ⟨fun pins s σ H D I h => ?_⟩
  have F2 : FnOk X.prog X.w X.K X.mg X.base CX0 k (He.ma X.K (He.ga X.K x) "__init__") fd ps (sp_keep1 X.K x f) := F1
  refine (ps_raise hc tk (pmk_oex T.o T.i T.ti F2 hr hb .nil (fun _ _ _ _ _ _ _ z => z.elim) hg hm (pa_cons (hs := hst) (pe_mono he) pa_nil) hdb hst hpl)).run pins s σ H D I ?_
  refine ⟨_, h, fun v H1 q => ⟨by show 1 ≤ 1000; decide, fun a ha => ⟨a, v, rfl, upd_same, fun dx ndx ne => ⟨rfl, dx, [(f, v)], upd_same, ?_, ?_, ?_⟩⟩⟩⟩
  · rw [upd_ne ne, upd_same]
  · rw [upd_ne ne] at ndx
    exact ndx
  · rw [upd_ne ne] at ndx
    have e1 : upd (del (upd (upd (upd H1 a (exo a (He.ga X.K x) none)) dx (exd dx [(f, v)])) a (exo a (He.ga X.K x) (some dx))) a) dx (.xd [(f, v)]) = upd H1 dx (.xd [(f, v)]) := by
      funext b
      by_cases hb : b = dx
      · rw [hb, upd_same, upd_same]
      · rw [upd_ne hb, upd_ne hb]
        by_cases hq : b = a
        · rw [hq, del_same, ha]
        · rw [del_ne hq, upd_ne hq, upd_ne hb, upd_ne hq]
    rw [e1]
    exact q dx ndx
end
theorem takesE {X : Cx} {E : XK} (hs : X.stack = X.env :: X.outer) (hf : X.env.frame = some X.env.locals) (hex : X.ex = []) {E₁ : Value → Shared → Prop}
    (hx : X.xe = fun e s' => wpAny (model X.prog X.w) X.A (leaving X.env e) (fun _ s'' => L2.CX X.prog X.w X.outer X.H_0 X.s_0 E e s'') E₁ s') : Takes X (fun cls d _ H => E cls d H) := takes_of hs hf hex hx
/-- what a called def lets out, this one lets out -/
theorem passE {X : Cx} {E : XK} (tk : Takes X (fun cls d _ H' => E cls d H')) : Passes (L2.CX X.prog X.w) X E := fun pins σ H s e s' I c => passAt tk σ pins H s e s' I c

theorem ok_BadEdition_init (T : Tx K mg) : ∃ fd, FnOk P w K mg base CX0 1 (He.ma K (He.ga K "BadEdition") "__init__") fd ["self", "edition"] (sp_keep1 K "BadEdition" "edition") ∧ Binds K fd ["self", "edition"] [] := by
  have ox := oexB_ok (ex_BadEdition_x T)
  refine mkMeth (fd_BadEdition___init__ T) sc_BadEdition___init__ (fun _ _ _ _ _ _ us hl => match us, hl with | [_, _], _ => rfl) (fun vs H Q E h => ?_) (fun cdv A outer s H vs Q E hr h => ?_)
  · obtain ⟨a, v, rfl, _⟩ := h
    rfl
  obtain ⟨a, v, rfl, ha, k⟩ := h
  exact ⟨_, pss_one (ps_ost (pv 0) (pv 1)), _, rfl, _, rfl, a, _, rfl, ox.o, ox.no, .inl ⟨ha, fun dx nd ne => k dx nd ne⟩⟩
-- needs: +RAISE
/-! a def that may raise: taken where nothing is to be raised; called where what it raises goes on -/
theorem FnOk.calm {k : Nat} {f : Addr} {fd : FuncData} {ps : List Str} {sp sp0 : Sp} (F : FnOk P w K mg base (L2.CX P w) k f fd ps sp) (h : ∀ vs H Q E, sp0 vs H Q E → sp vs H Q fun _ _ _ => False) : FnOk P w K mg base CX0 k f fd ps sp0 := by
  refine ⟨fun vs H Q E q => F.len vs H Q _ (h vs H Q E q), fun A outer s H args us vs Q E hr he hb hv q => ?_⟩
  refine codeAny_mono (F.run A outer s H args us vs Q _ hr he hb hv (h vs H Q E q)) fun r s' z => ?_
  cases r with
  | ok f => cases f <;> exact z
  | error e =>
    obtain ⟨_, _, _, _, _, _, _, _, _, _, _, _, q⟩ := z
    exact q.elim
theorem Callee.calm {k : Nat} {x : Str} {ps : List Str} {dvs : List V} {sp sp0 : Sp} (C : Callee P w K mg base (L2.CX P w) k x ps dvs sp) (h : ∀ vs H Q E, sp0 vs H Q E → sp vs H Q fun _ _ _ => False) : Callee P w K mg base CX0 k x ps dvs sp0 := by
  obtain ⟨fd, ds, F, b, v⟩ := C.ex
  exact ⟨⟨fd, ds, FnOk.calm F h, b, v⟩, C.kp, C.g⟩
/-- f(e, ..), f may raise -/
theorem pcallX {X : Cx} {E : XK} {k : Nat} {x : Str} {ps : List Str} {dvs : List V} {sp : Sp} {p pos : Pos} {e : Expr} {es : List Expr} {t : TA} (C : Callee X.prog X.w X.K X.mg X.base (L2.CX X.prog X.w) k x ps dvs sp) (hr : Room k X.A) (tk : Takes X (fun cls d _ H' => E cls d H')) (ha : PA X (e :: es) t) (hg : Gl X x := by rfl)
    (hdb : (x == ("__debug__" : Str)) = false := by decide) (he : starEach (e :: es) X.env = (false, eval e X.env) :: starEach es X.env := by rfl) (hpl : (backTo pos (starEach es X.env)).any (·.1) = false := by rfl) :
    PE X (.Call (.Name x p) (e :: es) [] pos) (tCall sp dvs E t) := by
  obtain ⟨fd, ds, F, b, v⟩ := C.ex
  exact pe_call F hr hg C.g C.kp b v (passE tk) ha hdb he hpl

-- needs: +CALM is_edition is_list BadEdition.__init__ check_editions
/-! check_edition, check_editions: of anything; BadEdition with the first that is none -/
def sp_check_editionX (K : PySem.W.Frag) : Sp := fun vs H Q E => ∃ (h : Addr) (cs : List Col) (chs : List Ch) (x : V) (t : String), vs = [.ref h, x] ∧ HistAt K H h cs chs ∧ chs.length ≤ 1000 ∧ TyX K H x (.type t) ∧
  (isEd chs.length x = true → Q .non H) ∧ (isEd chs.length x = false → ∀ (d : Addr) (H' : Hp), Same H H' → H' d = some (.xd [("edition", x)]) → E (.ref (He.ga K "BadEdition")) (some d) H')
theorem ok_check_editionX (T : Tx K mg) : Callee P w K mg base (L2.CX P w) 4 "check_edition" ["history", "edition"] [] (sp_check_editionX K) := by
  have C1 := ok_is_edition (P := P) (w := w) (base := base) T
  obtain ⟨fdE, FE, bE⟩ := ok_BadEdition_init (P := P) (w := w) (base := base) T
  have ox := oexB_ok (ex_BadEdition_x T)
  obtain ⟨fd, F⟩ := fd_check_edition T
  have b : Binds K fd ["history", "edition"] [] := F.bindsN (fun _ _ _ _ _ _ us hl => match us, hl with | [_, _], _ => rfl)
  refine ⟨⟨fd, [], F.ok (CX := L2.CX P w) sc_check_edition (fun vs H Q E h => ?_) (fun cdv A outer s H vs Q E hr h => ?_), b, .nil⟩, F.kp, mg_check_edition T⟩
  · obtain ⟨h, cs, chs, x, t, rfl, _⟩ := h
    rfl
  · obtain ⟨h, cs, chs, x, t, rfl, hh, few, tx, kq, ke⟩ := h
    have hr2 : Room 2 _ := hr.mono (by decide)
    refine ⟨_, pss_one (ps_if (pt_not (pt_val (pcall C1 hr (pa_cons (pv 0) (pa_cons (pv 1) pa_nil))))) (pss_one (ps_raise1 (f := "edition") rfl (takes_of rfl rfl rfl rfl) ox FE hr2 bE (mg_BadEdition T) (pv 1))) pss_nil), ?_⟩
    refine ⟨_, rfl, _, rfl, h, cs, chs, x, t, rfl, hh, few, tx, _, rfl, ?_⟩
    cases hx : isEd chs.length x with
    | true => exact iteF (kq hx)
    | false => exact iteT ⟨_, rfl, fun d nd' => ke hx d _ (same_new nd') upd_same⟩
def sp_check_editionsX (K : PySem.W.Frag) : Sp := fun vs H Q E => ∃ (h l : Addr) (cs : List Col) (chs : List Ch) (xs : List V), vs = [.ref h, .ref l] ∧ HistAt K H h cs chs ∧ chs.length ≤ 1000 ∧ xs.all okV = true ∧ H l = some (.lst xs) ∧
  (xs.find? (fun x => !isEd chs.length x) = none → ∀ H', Same H H' → Q .non H') ∧ (∀ x, xs.find? (fun x => !isEd chs.length x) = some x → ∀ (d : Addr) (H' : Hp), Same H H' → H' d = some (.xd [("edition", x)]) → E (.ref (He.ga K "BadEdition")) (some d) H')
theorem find_takeE {f : V → Bool} {xs : List V} {i : Nat} {x : V} (hx : xs[i]? = some x) (h : (xs.take i).find? f = none) : (f x = true → xs.find? f = some x) ∧ (f x = false → (xs.take (i + 1)).find? f = none) := by
  have e : xs = xs.take i ++ (x :: xs.drop (i + 1)) := by
    obtain ⟨hi, hv⟩ := List.getElem?_eq_some_iff.mp hx
    rw [← hv, ← List.drop_eq_getElem_cons hi, List.take_append_drop]
  constructor
  · intro q
    rw [e, List.find?_append, h, Option.none_or, List.find?_cons, q]
  · intro q
    rw [List.take_add_one, hx, List.find?_append, h, Option.none_or]
    show List.find? f [x] = none
    rw [List.find?_cons, q]
    rfl
theorem ok_check_editionsX (T : Tx K mg) : Callee P w K mg base (L2.CX P w) 5 "check_editions" ["history", "editions"] [] (sp_check_editionsX K) := by
  have C1 := (ok_is_list (P := P) (w := w) (base := base) T).up (show 1 ≤ 4 by decide)
  have C2 := ok_check_editionX (P := P) (w := w) (base := base) T
  obtain ⟨fd, F⟩ := fd_check_editions T
  have b : Binds K fd ["history", "editions"] [] := F.bindsN (fun _ _ _ _ _ _ us hl => match us, hl with | [_, _], _ => rfl)
  refine ⟨⟨fd, [], F.ok (CX := L2.CX P w) sc_check_editions (fun vs H Q E h => ?_) (fun cdv A outer s H vs Q E hr h => ?_), b, .nil⟩, F.kp, mg_check_editions T⟩
  · obtain ⟨h, l, cs, chs, xs, rfl, _⟩ := h
    rfl
  · obtain ⟨h, l, cs, chs, xs, rfl, hh, few, hok, hl, kq, ke⟩ := h
    have nd := sc_check_editions.nd
    refine ⟨_, (pss_cons (ps_if (pt_not (pt_val (pcall C1 hr (pa_cons (pv 1) pa_nil)))) (pss_one ps_never) pss_nil)
        (pss_one (ps_for (passes_of rfl) rfl (pi_list (pv 1)) (pg_name (i := 2) nd rfl (Or.inl rfl)) (pss_one (ps_expr (pcallX (E := E) C2 hr (takes_of rfl rfl rfl rfl) (pa_cons (pv 0) (pa_cons (pv 2) pa_nil)))))))), ?_⟩
    refine ⟨_, rfl, l, _, rfl, sqL_of hl, fun H1 s1 => ⟨_, rfl, iteF (nxt ?_)⟩⟩
    dsimp only
    refine ⟨_, rfl, l, rfl, ⟨_, sqL_of (s1 _ _ hl)⟩, ?_⟩
    refine for_list (xs := xs) (fun i σ H' => Same H H' ∧ (∃ x2 : Option V, σ = [some (.ref h), some (.ref l), x2]) ∧ (xs.take i).find? (fun x => !isEd chs.length x) = none) ⟨s1, ⟨none, rfl⟩, rfl⟩ (fun i σ H' _ q => sqL_of (q.1 _ _ hl)) ?_ ?_
    · rintro i x σ H' hx ⟨s', ⟨x2, rfl⟩, hf⟩
      obtain ⟨t, ht⟩ := tys_ok (K := K) (List.all_eq_true.mp hok x (List.mem_of_getElem? hx))
      obtain ⟨f1, f2⟩ := find_takeE hx hf
      refine ⟨_, rfl, _, rfl, h, cs, chs, x, t, rfl, hh.keep s', few, ht H', fun hx1 => ⟨s', ⟨_, rfl⟩, f2 (by rw [hx1]; rfl)⟩, fun hx0 d H2 s2 hd => ke x (f1 (by rw [hx0]; rfl)) d H2 (s'.trans s2) hd⟩
    rintro σ H' ⟨s', ⟨x2, rfl⟩, hf⟩
    rw [List.take_length] at hf
    exact kq hf H' s'

/-! an expression's new dict, from then on known to its object (for walks over it) -/
def tFrz (t : TE) : TE := fun σ H Q => t σ H fun x H1 => ∃ d u, x = .ref d ∧ H1 d = some u ∧ Mut (some u) ∧ ∀ od, Q x (upd H1 d (.frz od u))
theorem pe_frz {X : Cx} {e : Expr} {t : TE} (he : PE X e t) : PE X e (tFrz t) := by
  refine ⟨fun pins s σ H Q I h => ?_⟩
  refine thn (he.run pins s σ H _ I h) fun v s1 q => ?_
  obtain ⟨x, H1, I1, rx, d, u, ex, hd, mu, k⟩ := q
  obtain ⟨od, I2⟩ := I1.lock hd mu
  exact ⟨x, _, I2, rx, k od⟩

/-! parting_argument: of anything; BadEdition with the first that is none -/
theorem mapsD_at : ∀ {cs : List Col} {as : List Addr} {j : Nat} {c : Col} {a : Addr}, cs[j]? = some c → as[j]? = some a → (mapsD cs as)[j]? = some (Sum.inl c.num, V.ref a)
  | [], _, j, _, _, h, _ => by simp at h
  | _ :: _, [], j, _, _, _, h => by simp at h
  | c' :: cs, a' :: as, 0, c, a, h1, h2 => by
    obtain rfl := Option.some.inj (show some c' = some c from h1)
    obtain rfl := Option.some.inj (show some a' = some a from h2)
    rfl
  | c' :: cs, a' :: as, j + 1, c, a, h1, h2 => mapsD_at (cs := cs) (as := as) h1 h2
def sp_parting (K : PySem.W.Frag) : Sp := fun vs H Q E => ∃ (h : Addr) (cs : List Col) (chs : List Ch) (x y : V), vs = [.ref h, x, y] ∧ HistAt K H h cs chs ∧ HistOk cs chs ∧ okV x = true ∧ okV y = true ∧
  (∀ m m' : Nat, x = .int (m : Nat) → y = .int (m' : Nat) → m ≤ chs.length → m' ≤ chs.length → ∀ (v : V) (H' : Hp), Same H H' → PartV H' v (partE cs chs m m') → Q v H') ∧
  ((∃ m m' : Nat, x = .int (m : Nat) ∧ y = .int (m' : Nat) ∧ m ≤ chs.length ∧ m' ≤ chs.length) ∨ ∃ z, [x, y].find? (fun x => !isEd chs.length x) = some z ∧ ∀ (d : Addr) (H' : Hp), Same H H' → H' d = some (.xd [("edition", z)]) → E (.ref (He.ga K "BadEdition")) (some d) H')
theorem ok_parting (T : Tx K mg) : Callee P w K mg base (L2.CX P w) 10 "parting_argument" ["history", "one", "other"] [] (sp_parting K) := by
  have C1 := ok_check_editionsX (P := P) (w := w) (base := base) T
  have C2 := (ok_is_dead (P := P) (w := w) (base := base) T).up (show 8 ≤ 9 by decide)
  have C3 := ok_maps_of (P := P) (w := w) (base := base) T
  have C4 := (ok_differing (P := P) (w := w) (base := base) T).up (show 6 ≤ 9 by decide)
  obtain ⟨fd, F⟩ := fd_parting_argument T
  have b : Binds K fd ["history", "one", "other"] [] := F.bindsN (fun _ _ _ _ _ _ us hl => match us, hl with | [_, _, _], _ => rfl)
  refine ⟨⟨fd, [], F.ok (CX := L2.CX P w) sc_parting_argument (fun vs H Q E h => ?_) (fun cdv A outer s H vs Q E hr h => ?_), b, .nil⟩, F.kp, mg_parting_argument T⟩
  · obtain ⟨h, cs, chs, x, y, rfl, _⟩ := h
    rfl
  · obtain ⟨h, cs, chs, x, y, rfl, hh, o, ox, oy, kq, ke⟩ := h
    have nd := sc_parting_argument.nd
    have hu := hu_of hr
    have few := o.few
    have hr5 : Room 5 _ := hr.mono (by decide)
    have g := o.f.good o.g chs.length (Nat.le_refl _)
    have asc := asc_at o chs.length (Nat.le_refl _)
    have g6 : (colsE cs chs chs.length).length ≤ 6 := g.six
    have nds : ((colsE cs chs chs.length).map (·.num)).Nodup := by
      unfold List.Nodup
      exact List.Pairwise.imp (fun {a b} q z => by rw [z] at q; omega) asc
    refine ⟨_, (pss_cons (ps_expr (pcallX (E := E) C1 hr5 (takes_of rfl rfl rfl rfl) (pa_cons (pv 0) (pa_cons (pe_lst (pa_cons (pv 1) (pa_cons (pv 2) pa_nil))) pa_nil))))
        (pss_cons (ps_if (PW.pt (pw_or (pt_val (pcall C2 hr (pa_cons (pv 0) (pa_cons (pv 1) pa_nil)))) (pw_or1 (pt_val (pcall C2 hr (pa_cons (pv 0) (pa_cons (pv 2) pa_nil))))))) (pss_one (ps_ret pe_non)) pss_nil)
        (pss_cons (ps_set (i := 3) nd rfl (Or.inl rfl) (pcall C3 hr (pa_cons (pv 0) (pa_cons (pv 2) pa_nil))))
        (pss_cons (ps_for (passes_of rfl) rfl (pi_items (pe_frz (pcall C3 hr (pa_cons (pv 0) (pa_cons (pv 1) pa_nil))))) (pg_tup rfl (pgs_cons (pg_name (i := 4) nd rfl (Or.inl rfl)) (pgs_cons (pg_name (i := 5) nd rfl (Or.inl rfl)) pgs_nil))) (pss_cons (ps_set (i := 6) nd rfl (Or.inl rfl) (pcall C4 hr (pa_cons (pv 5) (pa_cons (pe_dget hu (pv 3) (pv 4) (fun _ _ => rfl)) pa_nil))))
          (pss_one (ps_if (pt_cmpR op_gt (pe_callB call_len (by rfl) (fr_len T) PySem.boot_len (pa_cons (pv 6) pa_nil)) pe_int (nomark _)) (pss_one (ps_ret (pe_tup (pa_cons (pv 4) (pa_cons (pe_ix ix_list (pv 6) pe_int (fun _ _ => rfl)) pa_nil))))) pss_nil))))
        (pss_one (ps_ret pe_non)))))), ?_⟩
    refine ⟨_, rfl, _, rfl, _, rfl, by show 2 ≤ sizeLine; decide, fun l nl => ?_⟩
    have sl : Same H (upd H l (.lst [x, y])) := same_new nl
    refine ⟨h, l, cs, chs, [x, y], rfl, hh.keep sl, by omega, by simp [ox, oy], upd_same, fun hnone H1 s1 => ?_, fun z hz d H1 s1 hd => ?_⟩
    · have s01 := sl.trans s1
      rcases ke with ⟨m, m', rfl, rfl, hm, hm'⟩ | ⟨z, hz, _⟩
      rotate_left
      · rw [hnone] at hz
        cases hz
      have kq := kq m m' rfl rfl hm hm'
      dsimp only
      refine ⟨_, rfl, _, rfl, h, cs, chs, m, rfl, hh.keep s01, o, hm, fun H2 s2 => ⟨_, rfl, ?_⟩⟩
      have s02 := s01.trans s2
      cases hd1 : deadB cs chs m with
      | true =>
        refine iteT (iteT (kq _ H2 s02 ?_))
        show PartV H2 .non (partE cs chs m m')
        unfold partE
        rw [hd1, Bool.true_or, if_pos rfl]
        rfl
      | false =>
        refine iteF ⟨_, rfl, _, rfl, h, cs, chs, m', rfl, hh.keep s02, o, hm', fun H3 s3 => ⟨_, rfl, ?_⟩⟩
        have s03 := s02.trans s3
        cases hd2 : deadB cs chs m' with
        | true =>
          refine iteT (kq _ H3 s03 ?_)
          show PartV H3 .non (partE cs chs m m')
          unfold partE
          rw [hd2, Bool.or_true, if_pos rfl]
          rfl
        | false =>
          have eP : partE cs chs m m' = partF cs chs m m' (colsE cs chs chs.length) := by
            unfold partE
            rw [hd1, hd2]
            exact if_neg (by decide)
          rw [eP] at kq
          refine iteF (nxt ?_)
          dsimp only
          refine q_asgX ⟨_, rfl, _, rfl, h, cs, chs, m', rfl, hh.keep s03, o, hm', fun D' as' H4 nD' s4 hD' hl' hma' => ?_⟩
          have s04 := s03.trans s4
          dsimp only
          refine ⟨_, rfl, _, rfl, h, cs, chs, m, rfl, hh.keep s04, o, hm, fun D as H5 nD s5 hD hl hma => ⟨D, _, rfl, hD, by first | trivial | exact True.intro | decide, fun od => ?_⟩⟩
          have s05 := s04.trans s5
          have nD0 : H D = none := s04.free nD
          have sF : Same H4 (upd H5 D (.frz od (.dK (mapsD (colsE cs chs chs.length) as)))) := same_mut s5 nD
          have s0F := s04.trans sF
          have hF : upd H5 D (.frz od (.dK (mapsD (colsE cs chs chs.length) as))) D = some (.frz od (.dK (mapsD (colsE cs chs chs.length) as))) := upd_same
          have hmaF : ∀ (j : Nat) (c : Col) (a : Addr), (colsE cs chs chs.length)[j]? = some c → as[j]? = some a → MapAt P w K (upd H5 D (.frz od (.dK (mapsD (colsE cs chs chs.length) as)))) a (pairsE cs chs c.num m) := fun j c a q1 q2 => MapAt.mutF hD (hma j c a q1 q2)
          refine ⟨D, od, _, rfl, hF, ?_⟩
          have hlk : (mapsD (colsE cs chs chs.length) as).length = (colsE cs chs chs.length).length := mapsD_len hl
          generalize upd H5 D (.frz od (.dK (mapsD (colsE cs chs chs.length) as))) = HF at sF s0F hF hmaF ⊢
          refine for_it walk_items (fun i σ H' => (∃ x4 x5 x6 : Option V, σ = [some (.ref h), some (.int (m : Nat)), some (.int (m' : Nat)), some (.ref D'), x4, x5, x6]) ∧ Same HF H' ∧ partF cs chs m m' ((colsE cs chs chs.length).drop i) = partF cs chs m m' (colsE cs chs chs.length)) ⟨⟨none, none, none, rfl⟩, Same.refl _, rfl⟩ (fun i σ H' _ q => q.2.1 _ _ hF) ?_ ?_
          · rintro i x σ H6 H7 hi ⟨⟨x4, x5, x6, rfl⟩, s6, hp⟩ ⟨T1, kx, vx, rfl, nT, rfl, ex, ey⟩
            have hi2 : i < (colsE cs chs chs.length).length := by rw [← hlk]; exact hi
            have hcj := List.getElem?_eq_getElem hi2
            have haj := List.getElem?_eq_getElem (l := as) (i := i) (by rw [hl]; exact hi2)
            generalize (colsE cs chs chs.length)[i] = c at hcj
            generalize as[i] = a at haj
            have hkv := mapsD_at hcj haj
            have ex : ((mapsD (colsE cs chs chs.length) as)[i]?.map fun kv => kV kv.1) = some kx := ex
            have ey : ((mapsD (colsE cs chs chs.length) as)[i]?.map fun kv => kv.2) = some vx := ey
            rw [hkv] at ex ey
            obtain rfl := Option.some.inj ex
            obtain rfl := Option.some.inj ey
            have hcm := List.mem_of_getElem? hcj
            have st : Same H6 (upd H6 T1 (.tup [kV (Sum.inl c.num), .ref a])) := same_new nT
            have t2 : upd H6 T1 (.tup [kV (Sum.inl c.num), .ref a]) T1 = some (.tup [kV (Sum.inl c.num), .ref a]) := upd_same
            generalize upd H6 T1 (.tup [kV (Sum.inl c.num), .ref a]) = H8 at st t2 ⊢
            have sF8 := s6.trans st
            refine ⟨T1, _, rfl, sqT_of t2, rfl, _, _, rfl, _, _, rfl, rfl, ?_⟩
            dsimp only
            have haj' := List.getElem?_eq_getElem (l := as') (i := i) (by rw [hl']; exact hi2)
            generalize as'[i] = a' at haj'
            have hg' : DGet H8 D' (.int c.num) (some (.ref a')) := by
              rw [← mapsD_get nds hcj haj']
              exact DGet.k (k := Sum.inl c.num) (sF8 _ _ (sF _ _ hD'))
            refine q_asgX ⟨_, rfl, _, rfl, _, rfl, D', _, rfl, hg', a, a', cs, chs, c, m, m', rfl, (hmaF i c a hcj haj).keep sF8, (hma' i c a' hcj haj').keep (sF.trans sF8), o, hm, hm', hcm, fun p H9 np s9 hp9 => ?_⟩
            have sF9 := sF8.trans s9
            have e1 : (colsE cs chs chs.length).drop i = c :: (colsE cs chs chs.length).drop (i + 1) := by
              obtain ⟨q1, q2⟩ := List.getElem?_eq_some_iff.mp hcj
              rw [List.drop_eq_getElem_cons q1, q2]
            rw [e1] at hp
            dsimp only
            refine ⟨_, rfl, _, _, rfl, .inl ⟨_, sqL_of hp9, rfl⟩, _, _, rfl, rfl, _, rfl, ?_⟩
            cases hde : diffE cs chs c.num m m' with
            | nil =>
              rw [partF_nil hde] at hp
              exact iteD (by simp) (nxt ⟨⟨_, _, _, rfl⟩, sF9, hp⟩)
            | cons v q =>
              rw [hde] at hp9
              rw [partF_cons hde] at hp
              have hlen : (v :: q).length ≤ 101 := by
                rw [← hde]
                exact diffE_len o hm
              refine iteDT (by simp) ⟨_, rfl, _, rfl, p, _, 0, _, rfl, rfl, sqL_of hp9, atI_nat (by rfl), by show 2 ≤ sizeLine; decide, fun t nt => ?_⟩
              refine kq _ _ ((s0F.trans sF9).trans (same_new nt)) ?_
              rw [← hp]
              exact ⟨t, rfl, upd_same⟩
          · rintro σ H6 ⟨⟨x4, x5, x6, rfl⟩, s6, hp⟩
            refine kq _ _ (s0F.trans s6) ?_
            rw [← hp, hlk, List.drop_length]
            rfl
    · rcases ke with ⟨m, m', rfl, rfl, hm, hm'⟩ | ⟨z', hz', ke⟩
      · rw [List.find?_cons, isEd_nat' hm, List.find?_cons, isEd_nat' hm'] at hz
        cases hz
      · rw [hz] at hz'
        obtain rfl := Option.some.inj hz'
        exact ke d H1 (sl.trans s1) hd
/-! go_together -/
def sp_together (K : PySem.W.Frag) : Sp := fun vs H Q E => ∃ (h : Addr) (cs : List Col) (chs : List Ch) (x y : V), vs = [.ref h, x, y] ∧ HistAt K H h cs chs ∧ HistOk cs chs ∧ okV x = true ∧ okV y = true ∧
  (∀ m m' : Nat, x = .int (m : Nat) → y = .int (m' : Nat) → m ≤ chs.length → m' ≤ chs.length → ∀ (H' : Hp), Same H H' → Q (.bl ((partE cs chs m m').isNone && (!deadB cs chs m && !deadB cs chs m'))) H') ∧
  ((∃ m m' : Nat, x = .int (m : Nat) ∧ y = .int (m' : Nat) ∧ m ≤ chs.length ∧ m' ≤ chs.length) ∨ ∃ z, [x, y].find? (fun x => !isEd chs.length x) = some z ∧ ∀ (d : Addr) (H' : Hp), Same H H' → H' d = some (.xd [("edition", z)]) → E (.ref (He.ga K "BadEdition")) (some d) H')
theorem ok_together (T : Tx K mg) : Callee P w K mg base (L2.CX P w) 11 "go_together" ["history", "one", "other"] [] (sp_together K) := by
  have C1 := ok_parting (P := P) (w := w) (base := base) T
  have C2 := (ok_is_dead (P := P) (w := w) (base := base) T).up (show 8 ≤ 10 by decide)
  obtain ⟨fd, F⟩ := fd_go_together T
  have b : Binds K fd ["history", "one", "other"] [] := F.bindsN (fun _ _ _ _ _ _ us hl => match us, hl with | [_, _, _], _ => rfl)
  refine ⟨⟨fd, [], F.ok (CX := L2.CX P w) sc_go_together (fun vs H Q E h => ?_) (fun cdv A outer s H vs Q E hr h => ?_), b, .nil⟩, F.kp, mg_go_together T⟩
  · obtain ⟨h, cs, chs, x, y, rfl, _⟩ := h
    rfl
  · obtain ⟨h, cs, chs, x, y, rfl, hh, o, ox, oy, kq, ke⟩ := h
    refine ⟨_, (pss_cons (ps_if (pt_cmpR op_notN (pcallX (E := E) C1 hr (takes_of rfl rfl rfl rfl) (pa_cons (pv 0) (pa_cons (pv 1) (pa_cons (pv 2) pa_nil)))) pe_non (nomark _)) (pss_one (ps_ret pe_bl)) pss_nil)
        (pss_one (ps_ret (pe_and (pe_not (pcall C2 hr (pa_cons (pv 0) (pa_cons (pv 1) pa_nil)))) (pe_one (pe_not (pcall C2 hr (pa_cons (pv 0) (pa_cons (pv 2) pa_nil))))))))), ?_⟩
    refine ⟨_, rfl, _, rfl, _, rfl, h, cs, chs, x, y, rfl, hh, o, ox, oy, fun m m' ex ey hm hm' v H1 s1 hv => ?_, ke⟩
    have kz := kq m m' ex ey hm hm'
    clear kq
    subst ex ey
    refine ⟨rfl, _, rfl, ?_⟩
    cases hp : partE cs chs m m' with
    | some r =>
      rw [hp] at hv kz
      obtain ⟨p, rfl, _⟩ := hv
      exact iteNF (fun z => by cases z) (kz H1 s1)
    | none =>
      rw [hp] at hv kz
      obtain rfl : v = .non := hv
      refine iteNS rfl (nxt ?_)
      refine ⟨_, rfl, _, rfl, h, cs, chs, m, rfl, hh.keep s1, o, hm, fun H2 s2 => ⟨_, rfl, _, rfl, ?_⟩⟩
      have s02 := s1.trans s2
      cases hd1 : deadB cs chs m with
      | true =>
        rw [hd1] at kz
        exact iteF (kz H2 s02)
      | false =>
        rw [hd1] at kz
        exact iteT ⟨_, rfl, _, rfl, h, cs, chs, m', rfl, hh.keep s02, o, hm', fun H3 s3 => ⟨_, rfl, kz H3 (s02.trans s3)⟩⟩
/-! _law_pool -/
def sp_pool (K : PySem.W.Frag) : Sp := fun vs H Q _ => ∃ (a : Addr) (ns : List Int) (k : Int), vs = [.ref a, .int k] ∧ SqL K H a (ns.map V.int) ∧ 0 ≤ k ∧ k ≤ 1000 ∧
  ∀ (p : Addr) (H' : Hp) (z0 z1 : Int), H p = none → Same H H' → H' p = some (.lst [.int z0, .int z1]) → Q (.ref p) H'
theorem ok_pool (T : Tx K mg) : Callee P w K mg base CX0 1 "_law_pool" ["_law_script", "_law_k"] [] (sp_pool K) := by
  refine mkCallee (fd__law_pool T) (mg__law_pool T) sc__law_pool (fun _ _ _ _ _ _ us hl => match us, hl with | [_, _], _ => rfl) (fun vs H Q E h => ?_) (fun cdv A outer s H vs Q E hr h => ?_)
  · obtain ⟨a, ns, k, rfl, _⟩ := h
    rfl
  · obtain ⟨a, ns, k, rfl, hs, k0, k1, kk⟩ := h
    have nd := sc__law_pool.nd
    have gi : mg "int" = none := fr_int T
    refine ⟨_, pss_cons (ps_set (i := 2) nd rfl (Or.inl rfl) (pe_ifExp (pt_cmpR op_lt (pv 1) (pe_callB call_len (by rfl) (fr_len T) PySem.boot_len (pa_cons (pv 0) pa_nil)) (nomark _)) (pe_ix ix_list (pv 0) (pv 1) (fun _ _ => rfl))
        (pe_op op_add (pe_op op_mul pe_int (pe_callB (cr_sum rfl) (by rfl) (fr_sum T) (by decide +kernel) (pa_cons (pe_slice sl_list (pv 0) po_none (po_some pe_int)) pa_nil))) (pv 1))))
      (pss_cons (ps_set (i := 3) nd rfl (Or.inl rfl) (pe_callB call_abs (by rfl) (fr_abs T) (by decide +kernel) (pa_cons (pv 2) pa_nil)))
      (pss_cons (ps_set (i := 4) nd rfl (Or.inl rfl) (pe_op op_add (pe_op op_add (pe_op op_add (pe_op op_modN (pe_callTy call_int1 (by rfl) gi (by decide +kernel) (pa_cons (pv 3) pa_nil)) pe_int) (pe_op op_mul (pe_op op_mul pe_int (pv 1)) (pv 1))) (pe_op op_mul pe_int (pv 1))) pe_int))
      (pss_cons (ps_set (i := 4) nd rfl (Or.inl rfl) (pe_op op_modN (pe_callTy call_int1 (by rfl) gi (by decide +kernel) (pa_cons (pe_op op_mul (pv 4) pe_int) pa_nil)) pe_int))
      (pss_one (ps_ret (pe_lst (pa_cons (pe_op op_mul (pv 3) (pe_callTy call_int1 (by rfl) gi (by decide +kernel) (pa_cons (pe_cmpR op_ge (pv 3) (pe_op op_pow pe_int pe_int) (nomark _)) pa_nil)))
        (pa_cons (pe_op op_modN (pe_callTy call_int1 (by rfl) gi (by decide +kernel) (pa_cons (pe_op op_mul (pv 4) (pv 4)) pa_nil)) pe_int) pa_nil)))))))), ?_⟩
    refine s_seq (fun σ' H' => ∃ z : Int, σ' = [some (.ref a), some (.int k), some (.int z), none, none] ∧ Same H H') ?_ ?_
    · rintro σ' H' ⟨z, rfl, s'⟩
      refine q_asgX ⟨_, rfl, z, rfl, ?_⟩
      generalize (if z < 0 then -z else z) = n
      refine q_asgX ⟨_, rfl, .inl ⟨_, rfl, _, _, rfl, rfl, (show (2147483629 : Int) ≠ 0 by decide), _, rfl, _, _, rfl, rfl, .inl ⟨by decide, by decide⟩, _, rfl, _, _, rfl, rfl, .inr ⟨by omega, by omega⟩, _, _, rfl, rfl, _, rfl, _, _, rfl, rfl, .inl ⟨by decide, by decide⟩, _, _, rfl, rfl, _, _, rfl, rfl, ?_⟩⟩
      refine q_asgX ⟨_, rfl, _, _, rfl, rfl, .inr ⟨by decide, by decide⟩, .inl ⟨_, rfl, _, _, rfl, rfl, (show (2147483647 : Int) ≠ 0 by decide), ?_⟩⟩
      have m0 := mod_lo (i := (n.fmod 2147483629 + 7919 * k * k + 31 * k + 17) * 48271) (j := 2147483647) (by decide)
      have m1 := mod_hi (i := (n.fmod 2147483629 + 7919 * k * k + 31 * k + 17) * 48271) (j := 2147483647) (by decide)
      refine ⟨_, rfl, _, rfl, _, _, rfl, rfl, ⟨by decide, by decide, by decide⟩, _, _, rfl, rfl, .inr ⟨_, rfl, _, _, rfl, rfl, ?_, _, rfl, _, rfl, _, _, rfl, rfl, .inl ⟨by omega, by omega⟩, .inl ⟨_, rfl, _, _, rfl, rfl, (show (2147483629 : Int) ≠ 0 by decide), (by show 2 ≤ sizeLine; decide), fun p hp => ?_⟩⟩⟩
      · refine .inr ?_
        split
        · exact ⟨by decide, by decide⟩
        · exact ⟨by decide, by decide⟩
      · exact kk p _ _ _ (s'.free hp) (s'.trans (same_new hp)) upd_same
    · intro next
      refine q_asgX ⟨_, rfl, _, rfl, _, (ns.map V.int).length, rfl, .inl ⟨_, hs, rfl⟩, _, _, rfl, rfl, _, rfl, ?_⟩
      by_cases hk : k < ((ns.map V.int).length : Int)
      · rw [decide_eq_true hk]
        obtain ⟨j, rfl⟩ : ∃ j : Nat, k = (j : Int) := ⟨k.toNat, by omega⟩
        have hj : j < ns.length := by
          rw [List.length_map] at hk
          omega
        have hx : (ns.map V.int)[j]? = some (V.int ns[j]) := by
          rw [List.getElem?_map, List.getElem?_eq_getElem hj]
          rfl
        exact iteT ⟨_, rfl, _, rfl, a, _, _, _, rfl, rfl, hs, at_of (j := j) rfl hx, next _ _ ⟨_, rfl, Same.refl _⟩⟩
      · rw [decide_eq_false hk]
        refine iteF ⟨_, rfl, 63, rfl, a, _, rfl, hs, fun q nq => ⟨q, (cutV (ns.map V.int) none (some 63)).map (fun v => match v with | .int i => i | _ => 0), rfl, sqL_of ?_, _, _, rfl, rfl, .inl ⟨by decide, by decide⟩, _, rfl, _, _, rfl, rfl, next _ _ ⟨_, rfl, same_new nq⟩⟩⟩
        rw [upd_same]
        congr 2
        unfold cutV
        rw [← List.map_drop, ← List.map_take, List.map_map, List.map_map]
        rfl
/-! _law_draw -/
def sp_draw : Sp := fun vs H Q _ => ∃ (a : Addr) (z0 z1 m : Int), vs = [.ref a, .int m] ∧ H a = some (.lst [.int z0, .int z1]) ∧ 0 < m ∧ m < 1073741824 ∧
  ∀ r y0 y1 : Int, 0 ≤ r → r < m → Q (.int r) (upd H a (.lst [.int y0, .int y1]))
theorem ok_draw (T : Tx K mg) : Callee P w K mg base CX0 1 "_law_draw" ["_law_pool_here", "_law_many"] [] sp_draw := by
  refine mkCallee (fd__law_draw T) (mg__law_draw T) sc__law_draw (fun _ _ _ _ _ _ us hl => match us, hl with | [_, _], _ => rfl) (fun vs H Q E h => ?_) (fun cdv A outer s H vs Q E hr h => ?_)
  · obtain ⟨a, z0, z1, m, rfl, _⟩ := h
    rfl
  · obtain ⟨a, z0, z1, m, rfl, ha, hm, hm2, k⟩ := h
    have gi : mg "int" = none := fr_int T
    refine ⟨_, pss_cons (ps_if (pt_cmpR op_gt (pe_ix ix_list (pv 0) pe_int (fun _ _ => rfl)) pe_int (nomark _))
        (pss_cons (ps_set (i := 2) sc__law_draw.nd rfl (Or.inl rfl) (pe_op op_modN (pe_callTy call_int1 (by rfl) gi (by decide +kernel) (pa_cons (pe_ix ix_list (pv 0) pe_int (fun _ _ => rfl)) pa_nil)) (pv 1)))
        (pss_cons (ps_asg (pe_op op_fdivN (pe_ix ix_list (pv 0) pe_int (fun _ _ => rfl)) (pv 1)) (pg_sub (pv 0) pe_int set_list))
        (pss_one (ps_ret (pv 2))))) pss_nil)
      (pss_cons (ps_asg (pe_op op_modN (pe_callTy call_int1 (by rfl) gi (by decide +kernel) (pa_cons (pe_op op_add (pe_op op_mul (pe_ix ix_list (pv 0) pe_int (fun _ _ => rfl)) pe_int) pe_int) pa_nil)) pe_int) (pg_sub (pv 0) pe_int set_list))
      (pss_one (ps_ret (pe_op op_modN (pe_callTy call_int1 (by rfl) gi (by decide +kernel) (pa_cons (pe_op op_fdivN (pe_op op_modN (pe_callTy call_int1 (by rfl) gi (by decide +kernel)
        (pa_cons (pe_op op_mul (pe_ix ix_list (pv 0) pe_int (fun _ _ => rfl)) (pe_ix ix_list (pv 0) pe_int (fun _ _ => rfl))) pa_nil)) pe_int) pe_int) pa_nil)) (pv 1))))), ?_⟩
    have i0 : atI [V.int z0, V.int z1] 0 = some (V.int z0) := rfl
    have i1 : atI [V.int z0, V.int z1] 1 = some (V.int z1) := rfl
    refine ⟨_, rfl, a, _, _, _, rfl, rfl, sqL_of ha, i0, _, _, rfl, rfl, _, rfl, ?_⟩
    by_cases hz : 0 < z0
    · rw [decide_eq_true hz]
      refine iteT ⟨_, rfl, a, _, _, _, rfl, rfl, sqL_of ha, i0, .inl ⟨_, rfl, _, rfl, _, _, rfl, rfl, (by omega), ?_⟩⟩
      refine ⟨_, rfl, a, _, _, _, rfl, rfl, sqL_of ha, i0, _, rfl, _, _, rfl, rfl, ⟨by omega, by omega⟩, _, rfl, a, _, 0, 0, rfl, rfl, ha, rfl, ?_⟩
      exact ⟨_, rfl, k _ _ _ (mod_lo hm) (mod_hi hm)⟩
    · rw [decide_eq_false hz]
      refine iteF ?_
      refine ⟨_, rfl, a, _, _, _, rfl, rfl, sqL_of ha, i1, _, _, rfl, rfl, .inr ⟨by decide, by decide⟩, _, _, rfl, rfl, .inl ⟨_, rfl, _, _, rfl, rfl, (show (2147483647 : Int) ≠ 0 by decide), ?_⟩⟩
      refine ⟨_, rfl, a, _, 1, 1, rfl, rfl, ha, rfl, ?_⟩
      have hy0 : 0 ≤ (z1 * 48271 + 11).fmod 2147483647 := mod_lo (by decide)
      have hy1 : (z1 * 48271 + 11).fmod 2147483647 < 2147483647 := mod_hi (by decide)
      have u1 : upd H a (.lst ([V.int z0, V.int z1].set 1 (.int ((z1 * 48271 + 11).fmod 2147483647)))) a = some (.lst [.int z0, .int ((z1 * 48271 + 11).fmod 2147483647)]) := upd_same
      have j1 : atI [V.int z0, V.int ((z1 * 48271 + 11).fmod 2147483647)] 1 = some (V.int ((z1 * 48271 + 11).fmod 2147483647)) := rfl
      refine ⟨_, rfl, a, _, _, _, rfl, rfl, sqL_of u1, j1, _, rfl, a, _, _, _, rfl, rfl, sqL_of u1, j1, _, _, rfl, rfl, .inl ⟨by omega, by omega⟩, .inl ⟨_, rfl, _, _, rfl, rfl, (show (2147483629 : Int) ≠ 0 by decide), _, _, rfl, rfl, ⟨by decide, by decide⟩, .inl ⟨_, rfl, _, rfl, _, _, rfl, rfl, (by omega), ?_⟩⟩⟩
      exact k _ _ _ (mod_lo hm) (mod_hi hm)
/-! _law_pick -/
def sp_pick : Sp := fun vs H Q _ => ∃ (a b : Addr) (z0 z1 : Int) (xs : List V), vs = [.ref a, .ref b] ∧ H a = some (.lst [.int z0, .int z1]) ∧ H b = some (.lst xs) ∧ b ≠ a ∧ 0 < xs.length ∧ xs.length < 1000000 ∧
  ∀ (x : V) (y0 y1 : Int), x ∈ xs → Q x (upd H a (.lst [.int y0, .int y1]))
theorem ok_pick (T : Tx K mg) : Callee P w K mg base CX0 2 "_law_pick" ["_law_pool_here", "_law_row"] [] sp_pick := by
  have C1 := ok_draw (P := P) (w := w) (base := base) T
  refine mkCallee (fd__law_pick T) (mg__law_pick T) sc__law_pick (fun _ _ _ _ _ _ us hl => match us, hl with | [_, _], _ => rfl) (fun vs H Q E h => ?_) (fun cdv A outer s H vs Q E hr h => ?_)
  · obtain ⟨a, b, z0, z1, xs, rfl, _⟩ := h
    rfl
  · obtain ⟨a, b, z0, z1, xs, rfl, ha, hb, nb, h0, h1, k⟩ := h
    have gl : mg "len" = none := fr_len T
    refine ⟨_, pss_one (ps_ret (pe_ix ix_list (pv 1) (pcall C1 hr (pa_cons (pv 0) (pa_cons (pe_callB call_len_seq (by rfl) gl PySem.boot_len (pa_cons (pv 1) pa_nil)) pa_nil))) (fun _ _ => rfl))), ?_⟩
    refine ⟨_, rfl, _, rfl, _, rfl, b, xs, rfl, .inl (sqL_of hb), a, z0, z1, _, rfl, ha, (by omega), (by omega), fun r y0 y1 hr0 hr1 => ?_⟩
    obtain ⟨j, rfl⟩ : ∃ j : Nat, r = (j : Int) := ⟨r.toNat, by omega⟩
    have hj : j < xs.length := by omega
    refine ⟨b, xs, _, xs[j], rfl, rfl, sqL_of (by rw [upd_ne nb]; exact hb), at_of (j := j) rfl (List.getElem?_eq_getElem hj), ?_⟩
    exact k _ _ _ (List.getElem_mem hj)
/-! _law_names: nine names -/
def signsL : Str := "abcdefghijklmnopqrstuvwxyz"
def endsL : List (Str × Str) := [("", ""), ("", "q"), ("ab", ""), ("abcdefg", ""), ("", "abcdefg")]
def sgnL (i : Nat) : Nat := signsL.cps.toList.getD i 0
def wordL (e : Str × Str) (i : Nat) : Str := e.1 ++ ⟨#[sgnL i]⟩ ++ e.2
theorem sgnL_at {i : Nat} (h : i < 26) : signsL.cps.toList[i]? = some (sgnL i) := by
  have e : ∀ i ∈ List.range 26, signsL.cps.toList[i]? = some (sgnL i) := by decide +kernel
  exact e i (List.mem_range.mpr h)
theorem wordL_nm {e : Str × Str} {i : Nat} (he : e ∈ endsL) (h : i < 26) : isNm (.str (wordL e i)) = true := by
  have q : ∀ e ∈ endsL, ∀ i ∈ List.range 26, isNm (.str (wordL e i)) = true := by decide +kernel
  exact q e he i (List.mem_range.mpr h)
theorem wordL_inj {e : Str × Str} {i j : Nat} (he : e ∈ endsL) (h : i < 26) (h2 : j < 26) (hw : wordL e i = wordL e j) : i = j := by
  have q : ∀ e ∈ endsL, ∀ i ∈ List.range 26, ∀ j ∈ List.range 26, wordL e i = wordL e j → i = j := by decide +kernel
  exact q e he i (List.mem_range.mpr h) j (List.mem_range.mpr h2) hw
theorem endsL_len {e : Str × Str} (he : e ∈ endsL) : e.1.length ≤ 8 ∧ e.2.length ≤ 8 := by
  have q : ∀ e ∈ endsL, e.1.length ≤ 8 ∧ e.2.length ≤ 8 := by decide +kernel
  exact q e he
theorem stepL_nodup {o r : Nat} (h : o < 26) (h2 : r < 6) : ((List.range 9).map fun k => (o + (1 + 2 * r) * k) % 26).Nodup := by
  have q : ∀ o ∈ List.range 26, ∀ r ∈ List.range 6, ((List.range 9).map fun k => (o + (1 + 2 * r) * k) % 26).Nodup := by decide +kernel
  exact q o (List.mem_range.mpr h) r (List.mem_range.mpr h2)
def namesL (e : Str × Str) (o r : Nat) : List Str := (List.range 9).map fun k => wordL e ((o + (1 + 2 * r) * k) % 26)
theorem namesL_len {e : Str × Str} {o r : Nat} : (namesL e o r).length = 9 := by simp [namesL]
theorem namesL_nm {e : Str × Str} {o r : Nat} (he : e ∈ endsL) {n : Str} (h : n ∈ namesL e o r) : isNm (.str n) = true := by
  obtain ⟨k, _, rfl⟩ := List.mem_map.mp h
  exact wordL_nm he (Nat.mod_lt _ (by decide))
theorem namesL_nodup {e : Str × Str} {o r : Nat} (he : e ∈ endsL) (h : o < 26) (h2 : r < 6) : (namesL e o r).Nodup := by
  have q := stepL_nodup h h2
  have e1 : namesL e o r = ((List.range 9).map fun k => (o + (1 + 2 * r) * k) % 26).map (wordL e) := by
    rw [List.map_map]
    rfl
  rw [e1]
  refine List.pairwise_map.mpr (List.Pairwise.imp_of_mem (fun {i j} hi hj hij hw => ?_) q)
  obtain ⟨a, _, rfl⟩ := List.mem_map.mp hi
  obtain ⟨b, _, rfl⟩ := List.mem_map.mp hj
  exact hij (wordL_inj he (Nat.mod_lt _ (by decide)) (Nat.mod_lt _ (by decide)) hw)
def sp_names (K : PySem.W.Frag) : Sp := fun vs H Q _ => ∃ (p : Addr) (z0 z1 : Int), vs = [.ref p, .int 9] ∧ H p = some (.lst [.int z0, .int z1]) ∧
  ∀ (l : Addr) (ws : List Str) (y0 y1 : Int) (H' : Hp), But p H H' → H' p = some (.lst [.int y0, .int y1]) → H' l = some (.lst (ws.map V.str)) → ws.length = 9 → ws.Nodup → (∀ n ∈ ws, isNm (.str n) = true) → Q (.ref l) H'
theorem ok_names (T : Tx K mg) : Callee P w K mg base CX0 3 "_law_names" ["_law_pool_here", "_law_count"] [] (sp_names K) := by
  have Cp := ok_pick (P := P) (w := w) (base := base) T
  have Cd := (ok_draw (P := P) (w := w) (base := base) T).up (show 1 ≤ 2 by decide)
  refine mkCallee (fd__law_names T) (mg__law_names T) sc__law_names (fun _ _ _ _ _ _ us hl => match us, hl with | [_, _], _ => rfl) (fun vs H Q E h => ?_) (fun cdv A outer s H vs Q E hr h => ?_)
  · obtain ⟨p, z0, z1, rfl, _⟩ := h
    rfl
  · obtain ⟨p, z0, z1, rfl, hp, k⟩ := h
    have nd := sc__law_names.nd
    refine ⟨_, (pss_cons (ps_set (i := 2) nd rfl (Or.inr rfl) pe_str)
        (pss_cons (ps_asg (pe_tup (pa_cons (pcall Cd hr (pa_cons (pv 0) (pa_cons pe_int pa_nil))) (pa_cons (pe_op op_add pe_int (pe_op op_mul pe_int (pcall Cd hr (pa_cons (pv 0) (pa_cons pe_int pa_nil))))) pa_nil))) (pg_tup rfl (pgs_cons (pg_name (i := 3) nd rfl (Or.inr rfl)) (pgs_cons (pg_name (i := 4) nd rfl (Or.inr rfl)) pgs_nil))))
        (pss_cons (ps_set (i := 5) nd rfl (Or.inl rfl) (pe_lst (pa_cons (pe_tup (pa_cons pe_str (pa_cons pe_str pa_nil))) (pa_cons (pe_tup (pa_cons pe_str (pa_cons pe_str pa_nil))) (pa_cons (pe_tup (pa_cons pe_str (pa_cons pe_str pa_nil))) (pa_cons (pe_tup (pa_cons pe_str (pa_cons pe_str pa_nil))) (pa_cons (pe_tup (pa_cons pe_str (pa_cons pe_str pa_nil))) pa_nil)))))))
        (pss_cons (ps_asg (pcall Cp hr (pa_cons (pv 0) (pa_cons (pv 5) pa_nil))) (pg_tup rfl (pgs_cons (pg_name (i := 6) nd rfl (Or.inr rfl)) (pgs_cons (pg_name (i := 7) nd rfl (Or.inr rfl)) pgs_nil))))
        (pss_one (ps_ret (pe_lc (own := [("_law_k", 8)]) (g := gName 8) (tt := tYes) (te := tOp (fun x y H Q => ∃ i j, x = .str i ∧ y = .str j ∧ i.length + j.length ≤ sizeLine ∧ Q (.str (i ++ j)) H) (tOp (fun x y H Q => ∃ i j, x = .str i ∧ y = .str j ∧ i.length + j.length ≤ sizeLine ∧ Q (.str (i ++ j)) H) (tVar 6) (tOp rIxS (tVar 2) (tOp (rI (fun _ j => 0 < j) fun i j => .int (i % j)) (tCB (fun xs H Q => (∃ i, xs = [.int i] ∧ Q (.int i) H) ∨ ∃ k, xs = [.bl k] ∧ Q (.int (if k then 1 else 0)) H) (tCons (tOp (rI0 fun i j => .int (i + j)) (tVar 3) (tOp (rI CMul fun i j => .int (i * j)) (tVar 4) (tVar 8))) tNil)) (tC (.int 26))))) (tVar 7)) rfl nd (pi_range1 (by rfl) (fr_range T) (pa_cons (pv 1) pa_nil)) (blkOk_by (N := ["_law_pool_here", "_law_count", "_law_signs", "_law_origin", "_law_step", "_law_ends", "_law_head", "_law_tail", "_law_k"]) (sc := defScope s__law_names) (by decide +kernel)) (fun _ _ _ _ _ => (pg_name (i := 8) nd rfl (Or.inl rfl))) (fun _ _ _ _ _ => pts_nil) (fun _ _ _ _ _ => (pe_op op_add_str (pe_op op_add_str (pv 6) (pe_ix ix_str (pv 2) (pe_op op_mod (pe_callTy call_int1 (by rfl) (fr_int T) (by decide +kernel) (pa_cons (pe_op op_add (pv 3) (pe_op op_mul (pv 4) (pv 8))) pa_nil)) pe_int) (fun _ _ => rfl))) (pv 7)))))))))), ?_⟩
    refine q_asgX ?_
    refine ⟨_, rfl, p, z0, z1, 26, rfl, hp, by decide, by decide, fun o u0 u1 o0 o1 => ⟨_, rfl, p, u0, u1, 6, rfl, upd_same, by decide, by decide, fun r y0 y1 r0 r1 => ?_⟩⟩
    rw [upd_upd]
    obtain ⟨o, rfl⟩ : ∃ j : Nat, o = (j : Int) := ⟨o.toNat, by omega⟩
    obtain ⟨r, rfl⟩ : ∃ j : Nat, r = (j : Int) := ⟨r.toNat, by omega⟩
    have b1 : But p H (upd H p (.lst [.int y0, .int y1])) := But.mut
    have p1 : upd H p (.lst [.int y0, .int y1]) p = some (.lst [.int y0, .int y1]) := upd_same
    generalize upd H p (.lst [.int y0, .int y1]) = H1 at b1 p1 ⊢
    refine ⟨_, _, rfl, rfl, .inl ⟨by decide, by decide⟩, _, _, rfl, rfl, by show 2 ≤ sizeLine; decide, fun t nt => ?_⟩
    have s1 : Same H1 (upd H1 t (.tup [.int (o : Int), .int (1 + 2 * (r : Int))])) := same_new nt
    have b2 := b1.trans (But.of s1)
    have p2 := s1 _ _ p1
    refine ⟨t, _, rfl, sqT_of upd_same, rfl, _, _, rfl, _, _, rfl, rfl, ?_⟩
    dsimp only
    refine q_asgX ?_
    generalize upd H1 t (.tup [.int (o : Int), .int (1 + 2 * (r : Int))]) = H2 at b2 p2 ⊢
    clear s1 b1 p1 nt
    refine ⟨by show 2 ≤ sizeLine; decide, fun t0 n0 => ⟨by show 2 ≤ sizeLine; decide, fun t1 n1 => ⟨by show 2 ≤ sizeLine; decide, fun t2 n2 => ⟨by show 2 ≤ sizeLine; decide, fun t3 n3 => ⟨by show 2 ≤ sizeLine; decide, fun t4 n4 => ⟨by show 5 ≤ sizeLine; decide, fun l nl => ?_⟩⟩⟩⟩⟩⟩
    have sA : Same H2 (upd (upd (upd (upd (upd (upd H2 t0 (.tup [.str "", .str ""])) t1 (.tup [.str "", .str "q"])) t2 (.tup [.str "ab", .str ""])) t3 (.tup [.str "abcdefg", .str ""])) t4 (.tup [.str "", .str "abcdefg"])) l (.lst [.ref t0, .ref t1, .ref t2, .ref t3, .ref t4])) :=
      (((((same_new n0).trans (same_new n1)).trans (same_new n2)).trans (same_new n3)).trans (same_new n4)).trans (same_new nl)
    have a4 := same_new (o := .lst [.ref t0, .ref t1, .ref t2, .ref t3, .ref t4]) nl _ _ upd_same
    have a3 := same_new (o := .lst [.ref t0, .ref t1, .ref t2, .ref t3, .ref t4]) nl _ _ (same_new n4 _ _ upd_same)
    have a2 := same_new (o := .lst [.ref t0, .ref t1, .ref t2, .ref t3, .ref t4]) nl _ _ (same_new n4 _ _ (same_new n3 _ _ upd_same))
    have a1 := same_new (o := .lst [.ref t0, .ref t1, .ref t2, .ref t3, .ref t4]) nl _ _ (same_new n4 _ _ (same_new n3 _ _ (same_new n2 _ _ upd_same)))
    have a0 := same_new (o := .lst [.ref t0, .ref t1, .ref t2, .ref t3, .ref t4]) nl _ _ (same_new n4 _ _ (same_new n3 _ _ (same_new n2 _ _ (same_new n1 _ _ upd_same))))
    have pA := sA _ _ p2
    have lA : upd (upd (upd (upd (upd (upd H2 t0 (.tup [.str "", .str ""])) t1 (.tup [.str "", .str "q"])) t2 (.tup [.str "ab", .str ""])) t3 (.tup [.str "abcdefg", .str ""])) t4 (.tup [.str "", .str "abcdefg"])) l (.lst [.ref t0, .ref t1, .ref t2, .ref t3, .ref t4]) l = some (.lst [.ref t0, .ref t1, .ref t2, .ref t3, .ref t4]) := upd_same
    generalize upd (upd (upd (upd (upd (upd H2 t0 (.tup [.str "", .str ""])) t1 (.tup [.str "", .str "q"])) t2 (.tup [.str "ab", .str ""])) t3 (.tup [.str "abcdefg", .str ""])) t4 (.tup [.str "", .str "abcdefg"])) l (.lst [.ref t0, .ref t1, .ref t2, .ref t3, .ref t4]) = H3 at sA a0 a1 a2 a3 a4 pA lA ⊢
    have nlp : l ≠ p := fun e => by
      rw [e, pA] at lA
      cases lA
    dsimp only
    refine ⟨_, rfl, _, rfl, p, l, y0, y1, _, rfl, pA, lA, nlp, by show 0 < 5; decide, by show 5 < 1000000; decide, fun x w0 w1 hx => ?_⟩
    obtain ⟨tt, e, rfl, he, ht⟩ : ∃ (tt : Addr) (e : Str × Str), x = .ref tt ∧ e ∈ endsL ∧ H3 tt = some (.tup [.str e.1, .str e.2]) := by
      simp only [List.mem_cons, List.not_mem_nil, or_false] at hx
      rcases hx with h | h | h | h | h
      · exact ⟨t0, ("", ""), h, by decide +kernel, a0⟩
      · exact ⟨t1, ("", "q"), h, by decide +kernel, a1⟩
      · exact ⟨t2, ("ab", ""), h, by decide +kernel, a2⟩
      · exact ⟨t3, ("abcdefg", ""), h, by decide +kernel, a3⟩
      · exact ⟨t4, ("", "abcdefg"), h, by decide +kernel, a4⟩
    have b3 := (b2.trans (But.of sA)).trans (But.mut (H := H3) (p := p) (o := .lst [.int w0, .int w1]))
    have ntp : tt ≠ p := fun z => by
      rw [z, pA] at ht
      cases ht
    have ht' : upd H3 p (.lst [.int w0, .int w1]) tt = some (.tup [.str e.1, .str e.2]) := by rw [upd_ne ntp]; exact ht
    have p3 : upd H3 p (.lst [.int w0, .int w1]) p = some (.lst [.int w0, .int w1]) := upd_same
    generalize upd H3 p (.lst [.int w0, .int w1]) = H4 at b3 ht' p3 ⊢
    refine ⟨tt, _, rfl, sqT_of ht', rfl, _, _, rfl, _, _, rfl, rfl, ?_⟩
    dsimp only
    obtain ⟨l1, l2⟩ := endsL_len he
    refine tlc_R (fun _ => true) (fun x => match x with | .int k => .str (wordL e ((o + (1 + 2 * r) * k.toNat) % 26)) | _ => .non) 9 (fun R h => ⟨_, rfl, h H4 (Same.refl _)⟩) (by decide) (fun _ => rfl) (fun m hm H' _ R h => h H' (Same.refl _)) (fun m hm _ H' _ R h => ?_) (by decide) fun D H' nD s' hD => ?_
    · have hi : ((o : Int) + (1 + 2 * (r : Int)) * (m : Int)) % 26 = (((o + (1 + 2 * r) * m) % 26 : Nat) : Int) := by push_cast; rfl
      have hlt : (o + (1 + 2 * r) * m) % 26 < 26 := Nat.mod_lt _ (by decide)
      have hsl : sizeLine = 16777216 := by decide
      refine ⟨_, rfl, _, rfl, _, rfl, _, rfl, _, rfl, _, _, rfl, rfl, .inr ⟨by omega, by omega⟩, _, _, rfl, rfl, .inl ⟨_, rfl, _, _, rfl, rfl, (show (0 : Int) < 26 by decide), signsL, _, sgnL ((o + (1 + 2 * r) * m) % 26), rfl, rfl, by decide, by rw [hi]; exact atI_nat (sgnL_at hlt), _, _, rfl, rfl, ?_, _, rfl, _, _, rfl, rfl, ?_, h H' (Same.refl _)⟩⟩
      · show e.1.length + 1 ≤ sizeLine
        omega
      · show (e.1.cps ++ #[_]).size + e.2.length ≤ sizeLine
        rw [Array.size_append]
        show (e.1.length + 1) + _ ≤ _
        omega
    · have hw : ((((List.range (9 : Int).toNat).map fun m : Nat => V.int (m : Int)).filter fun _ => true).map fun x => match x with | .int k => V.str (wordL e ((o + (1 + 2 * r) * k.toNat) % 26)) | _ => .non) = (namesL e o r).map V.str := by
        rw [List.filter_eq_self.mpr (fun _ _ => rfl), List.map_map, namesL, List.map_map]
        rfl
      rw [hw] at hD
      have pD := s' _ _ p3
      exact k D (namesL e o r) w0 w1 H' (b3.trans (But.of s')) pD hD namesL_len (namesL_nodup he (by omega) (by omega)) fun n hn => namesL_nm he hn
/-! _law_some: a drawn value up to a greatest one -/
def sp_some (K : PySem.W.Frag) : Sp := fun vs H Q _ => ∃ (p : Addr) (z0 z1 g : Int), vs = [.ref p, .int g] ∧ H p = some (.lst [.int z0, .int z1]) ∧ 0 ≤ g ∧ g ≤ 1000 ∧ ∀ (v : V) (y0 y1 : Int) (H' : Hp), isIn g v = true → But p H H' → H' p = some (.lst [.int y0, .int y1]) → Q v H'
theorem ok_some (T : Tx K mg) : Callee P w K mg base CX0 2 "_law_some" ["_law_pool_here", "_law_g"] [] (sp_some K) := by
  have Cd := ok_draw (P := P) (w := w) (base := base) T
  refine mkCallee (fd__law_some T) (mg__law_some T) sc__law_some (fun _ _ _ _ _ _ us hl => match us, hl with | [_, _], _ => rfl) (fun vs H Q E h => ?_) (fun cdv A outer s H vs Q E hr h => ?_)
  · obtain ⟨p, z0, z1, g, rfl, _⟩ := h
    rfl
  · obtain ⟨p, z0, z1, g, rfl, hp, g0, g1, k⟩ := h
    have nd := sc__law_some.nd
    refine ⟨_, (pss_cons (ps_set (i := 2) nd rfl (Or.inl rfl) (pcall Cd hr (pa_cons (pv 0) (pa_cons (pe_op op_add (pv 1) pe_int) pa_nil))))
        (pss_one (ps_ret (pe_ifExp (pt_cmpR op_eq (pv 2) pe_int (nomark _)) pe_non (pe_op op_sub (pv 2) pe_int))))), ?_⟩
    refine q_asgX ⟨_, rfl, _, rfl, _, _, rfl, rfl, p, z0, z1, _, rfl, hp, by omega, by omega, fun r y0 y1 r0 r1 => ?_⟩
    refine ⟨_, rfl, rfl, _, rfl, ?_⟩
    by_cases hz : r = 0
    · exact iteDT (by rw [hz]) (k .non y0 y1 _ rfl But.mut upd_same)
    · refine iteD (nei hz) ⟨_, rfl, _, _, rfl, rfl, k _ y0 y1 _ ?_ But.mut upd_same⟩
      show (decide (0 ≤ r - 1) && decide (r - 1 ≤ g)) = true
      rw [decide_eq_true (by omega), decide_eq_true (by omega)]
      rfl
/-! the columns of the second set of laws: dicts -/
def colB (c : Col) : List (Key × V) := [(Sum.inr "name", .str c.name), (Sum.inr "g", .int c.top), (Sum.inr "d", c.dflt), (Sum.inr "n", .int c.num)]
theorem colB_vals (c : Col) : valV (colB c) (Sum.inr "name") = some (.str c.name) ∧ valV (colB c) (Sum.inr "g") = some (.int c.top) ∧ valV (colB c) (Sum.inr "d") = some c.dflt ∧ valV (colB c) (Sum.inr "n") = some (.int c.num) := by
  have h1 : ¬ ((Sum.inr "name" : Key) = (Sum.inr "g" : Key)) := by decide +kernel
  have h2 : ¬ ((Sum.inr "name" : Key) = (Sum.inr "d" : Key)) := by decide +kernel
  have h3 : ¬ ((Sum.inr "name" : Key) = (Sum.inr "n" : Key)) := by decide +kernel
  have h4 : ¬ ((Sum.inr "g" : Key) = (Sum.inr "d" : Key)) := by decide +kernel
  have h5 : ¬ ((Sum.inr "g" : Key) = (Sum.inr "n" : Key)) := by decide +kernel
  have h6 : ¬ ((Sum.inr "d" : Key) = (Sum.inr "n" : Key)) := by decide +kernel
  unfold colB
  refine ⟨valV_pos rfl, ?_, ?_, ?_⟩
  · simp [valV, h1]
  · simp [valV, h2, h4]
  · simp [valV, h3, h5, h6]
section
variable {H : Hp} {a : Addr} {c : Col}
theorem bc_name (h : H a = some (.dK (colB c))) : DGet H a (.str "name") (some (.str c.name)) := by
  rw [← (colB_vals c).1]; exact DGet.k (k := Sum.inr "name") h
theorem bc_g (h : H a = some (.dK (colB c))) : DGet H a (.str "g") (some (.int c.top)) := by
  rw [← (colB_vals c).2.1]; exact DGet.k (k := Sum.inr "g") h
theorem bc_d (h : H a = some (.dK (colB c))) : DGet H a (.str "d") (some c.dflt) := by
  rw [← (colB_vals c).2.2.1]; exact DGet.k (k := Sum.inr "d") h
theorem bc_n (h : H a = some (.dK (colB c))) : DGet H a (.str "n") (some (.int c.num)) := by
  rw [← (colB_vals c).2.2.2]; exact DGet.k (k := Sum.inr "n") h
end
theorem colB_put (c : Col) : (∀ s : Str, putK (colB c) (Sum.inr "name") (.str s) = colB { c with name := s }) ∧ (∀ i : Int, putK (colB c) (Sum.inr "g") (.int i) = colB { c with top := i }) ∧ (∀ v : V, putK (colB c) (Sum.inr "d") v = colB { c with dflt := v }) := by
  have h1 : ¬ ((Sum.inr "name" : Key) = (Sum.inr "g" : Key)) := by decide +kernel
  have h2 : ¬ ((Sum.inr "name" : Key) = (Sum.inr "d" : Key)) := by decide +kernel
  have h3 : ¬ ((Sum.inr "name" : Key) = (Sum.inr "n" : Key)) := by decide +kernel
  have h4 : ¬ ((Sum.inr "g" : Key) = (Sum.inr "d" : Key)) := by decide +kernel
  have h5 : ¬ ((Sum.inr "g" : Key) = (Sum.inr "n" : Key)) := by decide +kernel
  have h6 : ¬ ((Sum.inr "d" : Key) = (Sum.inr "n" : Key)) := by decide +kernel
  have k1 : ¬ ((Sum.inr "g" : Key) = (Sum.inr "name" : Key)) := fun e => h1 e.symm
  have k2 : ¬ ((Sum.inr "d" : Key) = (Sum.inr "name" : Key)) := fun e => h2 e.symm
  have k3 : ¬ ((Sum.inr "n" : Key) = (Sum.inr "name" : Key)) := fun e => h3 e.symm
  have k4 : ¬ ((Sum.inr "d" : Key) = (Sum.inr "g" : Key)) := fun e => h4 e.symm
  have k5 : ¬ ((Sum.inr "n" : Key) = (Sum.inr "g" : Key)) := fun e => h5 e.symm
  have k6 : ¬ ((Sum.inr "n" : Key) = (Sum.inr "d" : Key)) := fun e => h6 e.symm
  refine ⟨fun s => ?_, fun i => ?_, fun v => ?_⟩
  · simp [colB, putK, k1, k2, k3]
  · simp [colB, putK, h1, k4, k5]
  · simp [colB, putK, h2, h4, k6]
theorem colB_merge {n : Str} {g k : Int} {d : V} : mergeK [] [(Sum.inr "name", .str n), (Sum.inr "g", .int g), (Sum.inr "d", d), (Sum.inr "n", .int k)] = colB ⟨n, g, d, k⟩ := by
  have h1 : ¬ ((Sum.inr "name" : Key) = (Sum.inr "g" : Key)) := by decide +kernel
  have h2 : ¬ ((Sum.inr "name" : Key) = (Sum.inr "d" : Key)) := by decide +kernel
  have h3 : ¬ ((Sum.inr "name" : Key) = (Sum.inr "n" : Key)) := by decide +kernel
  have h4 : ¬ ((Sum.inr "g" : Key) = (Sum.inr "d" : Key)) := by decide +kernel
  have h5 : ¬ ((Sum.inr "g" : Key) = (Sum.inr "n" : Key)) := by decide +kernel
  have h6 : ¬ ((Sum.inr "d" : Key) = (Sum.inr "n" : Key)) := by decide +kernel
  simp [mergeK, putK, colB, h1, h2, h3, h4, h5, h6]
inductive BCols (H : Hp) : List Addr → List Col → Prop
  | nil : BCols H [] []
  | cons {a : Addr} {as : List Addr} {c : Col} {cs : List Col} : H a = some (.dK (colB c)) → BCols H as cs → BCols H (a :: as) (c :: cs)
theorem BCols.keepN {H H' : Hp} (s : KeepNL H H') : ∀ {as : List Addr} {cs : List Col}, BCols H as cs → BCols H' as cs
  | _, _, .nil => .nil
  | _, _, .cons h t => .cons (s _ _ (fun _ z => by cases z) h) (t.keepN s)
theorem BCols.keep {H H' : Hp} (s : Same H H') {as : List Addr} {cs : List Col} (h : BCols H as cs) : BCols H' as cs := h.keepN (KeepNL.of s)
theorem BCols.len {H : Hp} : ∀ {as : List Addr} {cs : List Col}, BCols H as cs → as.length = cs.length
  | _, _, .nil => rfl
  | _, _, .cons _ t => congrArg Nat.succ t.len
theorem BCols.at_ {H : Hp} : ∀ {as : List Addr} {cs : List Col} {i : Nat} {a : Addr}, BCols H as cs → as[i]? = some a → ∃ c, cs[i]? = some c ∧ H a = some (.dK (colB c))
  | _, _, _, _, .nil, e => by simp at e
  | _, _, 0, _, .cons h t, e => by
    simp at e
    subst e
    exact ⟨_, rfl, h⟩
  | _, _, i + 1, a, .cons h t, e => by
    obtain ⟨c, h1, h2⟩ := BCols.at_ (i := i) (a := a) t (by simpa using e)
    exact ⟨c, by simpa using h1, h2⟩
theorem BCols.app {H : Hp} : ∀ {as bs : List Addr} {cs ds : List Col}, BCols H as cs → BCols H bs ds → BCols H (as ++ bs) (cs ++ ds)
  | _, _, _, _, .nil, h => h
  | _, _, _, _, .cons h t, q => .cons h (t.app q)
theorem BCols.of_vs {H : Hp} : ∀ {ys : List V} {cs : List Col}, ys.length = cs.length → (∀ (i : Nat) (y : V), ys[i]? = some y → ∃ a c, y = .ref a ∧ cs[i]? = some c ∧ H a = some (.dK (colB c))) → ∃ as, ys = as.map V.ref ∧ BCols H as cs
  | [], [], _, _ => ⟨[], rfl, .nil⟩
  | [], _ :: _, h, _ => by cases h
  | _ :: _, [], h, _ => by cases h
  | y :: ys, c :: cs, h, f => by
    obtain ⟨a, c', rfl, q, ha⟩ := f 0 y rfl
    obtain rfl := Option.some.inj q
    obtain ⟨as, rfl, hh⟩ := BCols.of_vs (ys := ys) (cs := cs) (Nat.succ.inj h) fun i y' h1 => f (i + 1) y' (by simpa using h1)
    exact ⟨a :: as, rfl, .cons ha hh⟩

/-! the history of the second set of laws: a dict that is made anew at each change -/
def bhDict (sh ch : Addr) (n : Int) (wd : Addr) : List (Key × V) := [(Sum.inr "sheets", .ref sh), (Sum.inr "changes", .ref ch), (Sum.inr "given", .int n), (Sum.inr "words", .ref wd)]
theorem bh_vals (sh ch : Addr) (n : Int) (wd : Addr) : valV (bhDict sh ch n wd) (Sum.inr "sheets") = some (.ref sh) ∧ valV (bhDict sh ch n wd) (Sum.inr "changes") = some (.ref ch) ∧ valV (bhDict sh ch n wd) (Sum.inr "given") = some (.int n) ∧ valV (bhDict sh ch n wd) (Sum.inr "words") = some (.ref wd) := by
  have h1 : ¬ ((Sum.inr "sheets" : Key) = (Sum.inr "changes" : Key)) := by decide +kernel
  have h2 : ¬ ((Sum.inr "sheets" : Key) = (Sum.inr "given" : Key)) := by decide +kernel
  have h3 : ¬ ((Sum.inr "sheets" : Key) = (Sum.inr "words" : Key)) := by decide +kernel
  have h4 : ¬ ((Sum.inr "changes" : Key) = (Sum.inr "given" : Key)) := by decide +kernel
  have h5 : ¬ ((Sum.inr "changes" : Key) = (Sum.inr "words" : Key)) := by decide +kernel
  have h6 : ¬ ((Sum.inr "given" : Key) = (Sum.inr "words" : Key)) := by decide +kernel
  unfold bhDict
  refine ⟨valV_pos rfl, ?_, ?_, ?_⟩
  · simp [valV, h1]
  · simp [valV, h2, h4]
  · simp [valV, h3, h5, h6]
section
variable {H : Hp} {h sh ch wd : Addr} {n : Int}
theorem bh_sheets (q : H h = some (.dK (bhDict sh ch n wd))) : DGet H h (.str "sheets") (some (.ref sh)) := by
  rw [← (bh_vals sh ch n wd).1]; exact DGet.k (k := Sum.inr "sheets") q
theorem bh_changes (q : H h = some (.dK (bhDict sh ch n wd))) : DGet H h (.str "changes") (some (.ref ch)) := by
  rw [← (bh_vals sh ch n wd).2.1]; exact DGet.k (k := Sum.inr "changes") q
theorem bh_given (q : H h = some (.dK (bhDict sh ch n wd))) : DGet H h (.str "given") (some (.int n)) := by
  rw [← (bh_vals sh ch n wd).2.2.1]; exact DGet.k (k := Sum.inr "given") q
end
theorem bh_put (sh ch : Addr) (n : Int) (wd : Addr) : (∀ s : Addr, putK (bhDict sh ch n wd) (Sum.inr "sheets") (.ref s) = bhDict s ch n wd) ∧ (∀ s : Addr, putK (bhDict sh ch n wd) (Sum.inr "changes") (.ref s) = bhDict sh s n wd) ∧ (∀ i : Int, putK (bhDict sh ch n wd) (Sum.inr "given") (.int i) = bhDict sh ch i wd) := by
  have h1 : ¬ ((Sum.inr "sheets" : Key) = (Sum.inr "changes" : Key)) := by decide +kernel
  have h2 : ¬ ((Sum.inr "sheets" : Key) = (Sum.inr "given" : Key)) := by decide +kernel
  have h4 : ¬ ((Sum.inr "changes" : Key) = (Sum.inr "given" : Key)) := by decide +kernel
  have k1 : ¬ ((Sum.inr "changes" : Key) = (Sum.inr "sheets" : Key)) := fun e => h1 e.symm
  have k2 : ¬ ((Sum.inr "given" : Key) = (Sum.inr "sheets" : Key)) := fun e => h2 e.symm
  have k3 : ¬ ((Sum.inr "words" : Key) = (Sum.inr "sheets" : Key)) := by decide +kernel
  have k4 : ¬ ((Sum.inr "given" : Key) = (Sum.inr "changes" : Key)) := fun e => h4 e.symm
  have k5 : ¬ ((Sum.inr "words" : Key) = (Sum.inr "changes" : Key)) := by decide +kernel
  have k6 : ¬ ((Sum.inr "words" : Key) = (Sum.inr "given" : Key)) := by decide +kernel
  refine ⟨fun s => ?_, fun s => ?_, fun i => ?_⟩
  · simp [bhDict, putK, k1, k2, k3]
  · simp [bhDict, putK, h1, k4, k5]
  · simp [bhDict, putK, h2, h4, k6]
theorem bh_merge {sh ch : Addr} {n : Int} {wd : Addr} : mergeK [] [(Sum.inr "sheets", .ref sh), (Sum.inr "changes", .ref ch), (Sum.inr "given", .int n), (Sum.inr "words", .ref wd)] = bhDict sh ch n wd := by
  have h1 : ¬ ((Sum.inr "sheets" : Key) = (Sum.inr "changes" : Key)) := by decide +kernel
  have h2 : ¬ ((Sum.inr "sheets" : Key) = (Sum.inr "given" : Key)) := by decide +kernel
  have h3 : ¬ ((Sum.inr "sheets" : Key) = (Sum.inr "words" : Key)) := by decide +kernel
  have h4 : ¬ ((Sum.inr "changes" : Key) = (Sum.inr "given" : Key)) := by decide +kernel
  have h5 : ¬ ((Sum.inr "changes" : Key) = (Sum.inr "words" : Key)) := by decide +kernel
  have h6 : ¬ ((Sum.inr "given" : Key) = (Sum.inr "words" : Key)) := by decide +kernel
  simp [mergeK, putK, bhDict, h1, h2, h3, h4, h5, h6]
/-- the sheets, by their places -/
def BSh (H : Hp) (es : List Addr) (eds : List (List Col)) : Prop := es.length = eds.length ∧ ∀ (i : Nat) (e : Addr) (cs : List Col), es[i]? = some e → eds[i]? = some cs → ∃ as : List Addr, H e = some (.lst (as.map V.ref)) ∧ BCols H as cs
def BhAt (K : PySem.W.Frag) (H : Hp) (h : Addr) (cs : List Col) (chs : List Ch) (ws : List Str) : Prop := ∃ (sh ch wd : Addr) (es ts : List Addr), H h = some (.dK (bhDict sh ch (atC cs chs).2 wd)) ∧ H sh = some (.lst (es.map V.ref)) ∧ BSh H es (edsTo cs chs (chs.length + 1)) ∧ H ch = some (.lst (ts.map V.ref)) ∧ Chs K H ts chs ∧ H wd = some (.lst (ws.map V.str))
theorem BSh.keep {H H' : Hp} {es : List Addr} {eds : List (List Col)} (s : Same H H') (q : BSh H es eds) : BSh H' es eds := ⟨q.1, fun i e cs h1 h2 => by
  obtain ⟨as, h3, h4⟩ := q.2 i e cs h1 h2
  exact ⟨as, s _ _ h3, h4.keep s⟩⟩
theorem BhAt.keep {K : PySem.W.Frag} {H H' : Hp} {h : Addr} {cs : List Col} {chs : List Ch} {ws : List Str} (s : Same H H') (q : BhAt K H h cs chs ws) : BhAt K H' h cs chs ws := by
  obtain ⟨sh, ch, wd, es, ts, h1, h2, h3, h4, h5, h6⟩ := q
  exact ⟨sh, ch, wd, es, ts, s _ _ h1, s _ _ h2, h3.keep s, s _ _ h4, h5.keep s, s _ _ h6⟩
theorem strs_no {ws : List Str} {a b : Int} : ¬ ws.map V.str = [.int a, .int b] := fun e => by
  cases ws with
  | nil => cases e
  | cons x xs => cases (List.cons.inj e).1
theorem BhAt.but {K : PySem.W.Frag} {H H' : Hp} {h p : Addr} {cs : List Col} {chs : List Ch} {ws : List Str} {y0 y1 : Int} (q : BhAt K H h cs chs ws) (hp : H p = some (.lst [.int y0, .int y1])) (bt : But p H H') : BhAt K H' h cs chs ws := by
  obtain ⟨sh, ch, wd, es, ts, h1, h2, h3, h4, h5, h6⟩ := q
  have kn := KeepNL.ofBut hp bt
  have no : ∀ {a : Addr} {as : List Addr}, H a = some (.lst (as.map V.ref)) → H' a = some (.lst (as.map V.ref)) := fun {a as} e => bt _ _ (fun z => by
    rw [z, hp] at e
    exact refs_no (HO.lst.inj (Option.some.inj e)).symm) e
  refine ⟨sh, ch, wd, es, ts, kn _ _ (fun _ z => by cases z) h1, no h2, ⟨h3.1, fun i e c k1 k2 => ?_⟩, no h4, h5.keepNL kn, bt _ _ (fun z => ?_) h6⟩
  · obtain ⟨as, k3, k4⟩ := h3.2 i e c k1 k2
    exact ⟨as, no k3, k4.keepN kn⟩
  · rw [z, hp] at h6
    exact strs_no (HO.lst.inj (Option.some.inj h6)).symm
/-- a sheet, looked up -/
theorem BhAt.sheet {K : PySem.W.Frag} {H : Hp} {h : Addr} {cs : List Col} {chs : List Ch} {ws : List Str} (q : BhAt K H h cs chs ws) {m : Nat} (hm : m ≤ chs.length) : ∃ (sh : Addr) (es : List Addr) (e : Addr) (as : List Addr), DGet H h (.str "sheets") (some (.ref sh)) ∧ H sh = some (.lst (es.map V.ref)) ∧ es.length = chs.length + 1 ∧
    es[m]? = some e ∧ H e = some (.lst (as.map V.ref)) ∧ BCols H as (atC cs (chs.take m)).1 := by
  obtain ⟨sh, ch, wd, es, ts, h1, h2, h3, h4, h5, h6⟩ := q
  have hl : es.length = chs.length + 1 := by rw [h3.1, edsTo_len]
  have hem : es[m]? = some (es[m]'(by omega)) := List.getElem?_eq_getElem (by omega)
  obtain ⟨as, hea, hec⟩ := h3.2 m _ _ hem (edsTo_get (by omega))
  exact ⟨sh, es, _, as, bh_sheets h1, h2, hl, hem, hea, hec⟩
/-- the last of a list, by -1 -/
theorem at_last {as : List Addr} {n : Nat} {e : Addr} (hl : as.length = n + 1) (h : as[n]? = some e) : atI (as.map V.ref) (-1) = some (.ref e) := by
  unfold atI ixN
  rw [if_neg (by omega), if_pos (by rw [List.length_map]; omega), List.length_map, show ((-1 : Int) + (as.length : Nat)).toNat = n by omega]
  show (as.map V.ref)[n]? = _
  rw [List.getElem?_map, h]
  rfl
/-- a sheet, and the history's own dict -/
theorem BhAt.sheetR {K : PySem.W.Frag} {H : Hp} {h : Addr} {cs : List Col} {chs : List Ch} {ws : List Str} (q : BhAt K H h cs chs ws) {m : Nat} (hm : m ≤ chs.length) : ∃ (sh ca wd : Addr) (n : Int) (es : List Addr) (e : Addr) (as : List Addr), H h = some (.dK (bhDict sh ca n wd)) ∧ H sh = some (.lst (es.map V.ref)) ∧ es.length = chs.length + 1 ∧
    es[m]? = some e ∧ H e = some (.lst (as.map V.ref)) ∧ BCols H as (atC cs (chs.take m)).1 := by
  obtain ⟨sh, ch, wd, es, ts, h1, h2, h3, h4, h5, h6⟩ := q
  have hl : es.length = chs.length + 1 := by rw [h3.1, edsTo_len]
  have hem : es[m]? = some (es[m]'(by omega)) := List.getElem?_eq_getElem (by omega)
  obtain ⟨as, hea, hec⟩ := h3.2 m _ _ hem (edsTo_get (by omega))
  exact ⟨sh, ch, wd, _, es, _, as, h1, h2, hl, hem, hea, hec⟩
/-- a change, looked up -/
theorem BhAt.change {K : PySem.W.Frag} {H : Hp} {h : Addr} {cs : List Col} {chs : List Ch} {ws : List Str} (q : BhAt K H h cs chs ws) {m : Nat} {ch : Ch} (hm : chs[m]? = some ch) : ∃ (ca : Addr) (ts : List Addr) (t : Addr), DGet H h (.str "changes") (some (.ref ca)) ∧ H ca = some (.lst (ts.map V.ref)) ∧ ts.length = chs.length ∧ ts[m]? = some t ∧ ChAt K H t ch := by
  obtain ⟨sh, ca, wd, es, ts, h1, h2, h3, h4, h5, h6⟩ := q
  have hl : ts.length = chs.length := h5.len
  have hml := (List.getElem?_eq_some_iff.mp hm).1
  have ht : ts[m]? = some (ts[m]'(by omega)) := List.getElem?_eq_getElem (by omega)
  obtain ⟨c, e1, e2⟩ := h5.at_ ht
  obtain rfl := Option.some.inj (hm.symm.trans e1)
  exact ⟨ca, ts, _, bh_changes h1, h4, hl, ht, e2⟩

/-! _law_columns: the first columns, and the words -/
theorem BCols.but {H H' : Hp} {p : Addr} {y0 y1 : Int} (hp : H p = some (.lst [.int y0, .int y1])) (bt : But p H H') {as : List Addr} {cs : List Col} (h : BCols H as cs) : BCols H' as cs := h.keepN (KeepNL.ofBut hp bt)
theorem refsL_but {H H' : Hp} {p a : Addr} {as : List Addr} {y0 y1 : Int} (hp : H p = some (.lst [.int y0, .int y1])) (bt : But p H H') (h : H a = some (.lst (as.map V.ref))) : H' a = some (.lst (as.map V.ref)) := bt _ _ (fun z => by
  rw [z, hp] at h
  exact refs_no (HO.lst.inj (Option.some.inj h)).symm) h
theorem strsL_but {H H' : Hp} {p a : Addr} {ws : List Str} {y0 y1 : Int} (hp : H p = some (.lst [.int y0, .int y1])) (bt : But p H H') (h : H a = some (.lst (ws.map V.str))) : H' a = some (.lst (ws.map V.str)) := bt _ _ (fun z => by
  rw [z, hp] at h
  exact strs_no (HO.lst.inj (Option.some.inj h)).symm) h
/-- what the words are -/
structure WordsOk (ws : List Str) : Prop where
  len : ws.length = 9
  nd : ws.Nodup
  nm : ∀ n ∈ ws, isNm (.str n) = true
/-- the columns drawn so far -/
structure ColsI (ws : List Str) (cs : List Col) (i : Nat) : Prop where
  len : cs.length = i
  nms : cs.map (·.name) = ws.take i
  pl : Placed cs
  ok : ∀ c ∈ cs, ColOk c
theorem ColsI.good {ws : List Str} {cs : List Col} {i : Nat} (h : ColsI ws cs i) (w : WordsOk ws) (h1 : 1 ≤ i) (h6 : i ≤ 6) : Good cs cs.length := by
  refine ⟨fun c hc => ⟨h.ok c hc, ?_⟩, by rw [h.len]; exact h1, by rw [h.len]; exact h6, ?_, by omega⟩
  · obtain ⟨j, hj⟩ := List.mem_iff_getElem?.mp hc
    have := h.pl j c hj
    have := (List.getElem?_eq_some_iff.mp hj).1
    omega
  · rw [h.nms]
    exact w.nd.sublist (List.take_sublist _ _)
theorem ColsI.more {ws : List Str} {cs : List Col} {i : Nat} (h : ColsI ws cs i) {n : Str} {g : Int} {d : V} (hn : ws[i]? = some n) (ok : ColOk ⟨n, g, d, i⟩) : ColsI ws (cs ++ [⟨n, g, d, i⟩]) (i + 1) := by
  refine ⟨?_, ?_, ?_, ?_⟩
  · rw [List.length_append, h.len]
    rfl
  · rw [List.map_append, h.nms, List.take_add_one, hn]
    rfl
  · intro j c hj
    by_cases hl : j < cs.length
    · rw [List.getElem?_append_left hl] at hj
      exact h.pl j c hj
    · rw [List.getElem?_append_right (by omega)] at hj
      have e : j - cs.length = 0 := by
        have := (List.getElem?_eq_some_iff.mp hj).1
        have z : [(⟨n, g, d, i⟩ : Col)].length = 1 := rfl
        omega
      rw [e] at hj
      obtain rfl := Option.some.inj hj
      show (i : Int) = j
      have := h.len
      omega
  · intro c hc
    rcases List.mem_append.mp hc with hc | hc
    · exact h.ok c hc
    · rw [List.mem_singleton] at hc
      rw [hc]
      exact ok
def sp_columnsL (K : PySem.W.Frag) : Sp := fun vs H Q _ => ∃ (p : Addr) (z0 z1 m top : Int), vs = [.ref p, .int m, .int top] ∧ H p = some (.lst [.int z0, .int z1]) ∧ 1 ≤ m ∧ m ≤ 6 ∧ 1 ≤ top ∧ top ≤ 99 ∧
  ∀ (r l wd : Addr) (as : List Addr) (cs : List Col) (ws : List Str) (y0 y1 : Int) (H' : Hp), But p H H' → H' p = some (.lst [.int y0, .int y1]) → H' r = some (.lst [.ref l, .ref wd]) → H' l = some (.lst (as.map V.ref)) → BCols H' as cs → H' wd = some (.lst (ws.map V.str)) → WordsOk ws → Placed cs → Good cs cs.length → ((cs.length : Int) ≤ m ∧ ∀ c ∈ cs, c.top ≤ top) → Q (.ref r) H'
theorem ok_columnsL (T : Tx K mg) : Callee P w K mg base CX0 4 "_law_columns" ["_law_pool_here", "_law_most", "_law_top"] [] (sp_columnsL K) := by
  have Cn := ok_names (P := P) (w := w) (base := base) T
  have Cd := (ok_draw (P := P) (w := w) (base := base) T).up (show 1 ≤ 3 by decide)
  have Cs := (ok_some (P := P) (w := w) (base := base) T).up (show 2 ≤ 3 by decide)
  refine mkCallee (fd__law_columns T) (mg__law_columns T) sc__law_columns (fun _ _ _ _ _ _ us hl => match us, hl with | [_, _, _], _ => rfl) (fun vs H Q E h => ?_) (fun cdv A outer s H vs Q E hr h => ?_)
  · obtain ⟨p, z0, z1, m, top, rfl, _⟩ := h
    rfl
  · obtain ⟨p, z0, z1, m, top, rfl, hp, m1, m6, t1, t9, k⟩ := h
    have nd := sc__law_columns.nd
    refine ⟨_, (pss_cons (ps_par (i := 3) (j := 4) rfl nd rfl rfl (by decide) rfl rfl (pa_cons (pcall Cn hr (pa_cons (pv 0) (pa_cons pe_int pa_nil))) (pa_cons (pe_lst pa_nil) pa_nil)) (by rfl))
        (pss_cons (ps_for PassesOwn.never rfl (pi_range1 (by rfl) (fr_range T) (pa_cons (pe_op op_add pe_int (pcall Cd hr (pa_cons (pv 0) (pa_cons (pv 1) pa_nil)))) pa_nil)) (pg_name (i := 5) nd rfl (Or.inl rfl)) (pss_cons (ps_set (i := 6) nd rfl (Or.inl rfl) (pe_op op_add pe_int (pcall Cd hr (pa_cons (pv 0) (pa_cons (pv 2) pa_nil)))))
        (pss_one (ps_set (i := 4) nd rfl (Or.inl rfl) (pe_op op_cat (pv 4) (pe_lst (pa_cons (pe_disp (pps_cons pe_str (pe_ix ix_list (pv 3) (pv 5) (fun _ _ => rfl)) (pps_cons pe_str (pv 6) (pps_cons pe_str (pcall Cs hr (pa_cons (pv 0) (pa_cons (pv 6) pa_nil))) (pps_cons pe_str (pv 5) pps_nil)))) (by rfl) (by rfl) (fun z => by cases z) (by decide)) pa_nil)))))))
        (pss_one (ps_ret (pe_lst (pa_cons (pv 4) (pa_cons (pv 3) pa_nil))))))), ?_⟩
    have hsl : sizeLine = 16777216 := by decide
    refine ⟨_, rfl, p, z0, z1, rfl, hp, fun wd ws y0 y1 H1 b1 p1 w1 wl wn wm => ⟨by show 0 ≤ sizeLine; decide, fun l nl => ⟨_, _, rfl, ?_⟩⟩⟩
    have W : WordsOk ws := ⟨wl, wn, wm⟩
    dsimp only
    have s1 : Same H1 (upd H1 l (.lst [])) := same_new nl
    have b2 := b1.trans (But.of s1)
    have p2 := s1 _ _ p1
    have w2 := s1 _ _ w1
    have l2 : upd H1 l (.lst []) l = some (.lst []) := upd_same
    generalize upd H1 l (.lst []) = H2 at b2 p2 w2 l2 ⊢
    refine ⟨_, rfl, _, rfl, p, y0, y1, m, rfl, p2, by omega, by omega, fun r u0 u1 r0 r1 => ⟨_, _, rfl, rfl, ?_⟩⟩
    refine ⟨_, rfl, by omega, by omega, ?_⟩
    have b3 := b2.trans (But.mut (H := H2) (p := p) (o := .lst [.int u0, .int u1]))
    have bt : But p H2 (upd H2 p (.lst [.int u0, .int u1])) := But.mut
    have p3 : upd H2 p (.lst [.int u0, .int u1]) p = some (.lst [.int u0, .int u1]) := upd_same
    refine for_range (lo := 0) (n := (1 + r).toNat) (fun i σ H' => ∃ (l : Addr) (as : List Addr) (cs : List Col) (y0 y1 : Int) (x5 x6 : Option V), σ = [some (.ref p), some (.int m), some (.int top), some (.ref wd), some (.ref l), x5, x6] ∧ But p H H' ∧ H' p = some (.lst [.int y0, .int y1]) ∧ H' wd = some (.lst (ws.map V.str)) ∧
      H' l = some (.lst (as.map V.ref)) ∧ BCols H' as cs ∧ ColsI ws cs i ∧ ∀ c ∈ cs, c.top ≤ top) ⟨l, [], [], u0, u1, none, none, rfl, b3, p3, strsL_but p2 bt w2, refsL_but (as := []) p2 bt l2, .nil, ⟨rfl, rfl, fun i c h => by simp at h, fun c h => by simp at h⟩, fun c h => by simp at h⟩ ?_ ?_
    · rintro i σ H' hi ⟨l, as, cs, y0, y1, x5, x6, rfl, b, hp', hw', hl', hc', I, up⟩
      have hi9 : i < 9 := by omega
      refine ⟨_, rfl, _, rfl, p, y0, y1, top, rfl, hp', by omega, by omega, fun g v0 v1 g0 g1 => ⟨_, _, rfl, rfl, ?_⟩⟩
      have bt4 : But p H' (upd H' p (.lst [.int v0, .int v1])) := But.mut
      have b4 := b.trans bt4
      have p4 : upd H' p (.lst [.int v0, .int v1]) p = some (.lst [.int v0, .int v1]) := upd_same
      have w4 := strsL_but hp' bt4 hw'
      have l4 := refsL_but hp' bt4 hl'
      have c4 := hc'.but hp' bt4
      generalize upd H' p (.lst [.int v0, .int v1]) = H4 at b4 p4 w4 l4 c4 ⊢
      obtain ⟨n, hn⟩ : ∃ n, ws[i]? = some n := ⟨_, List.getElem?_eq_getElem (by rw [wl]; exact hi9)⟩
      refine ⟨_, rfl, fun q nq => ⟨_, rfl, _, rfl, wd, _, _, .str n, rfl, by rw [Int.zero_add], sqL_of (same_new nq _ _ w4), ?_, ?_⟩⟩
      · refine atI_nat ?_
        rw [List.getElem?_map, hn]
        rfl
      have sq : Same H4 (upd H4 q (.dK [])) := same_new nq
      have p5 := sq _ _ p4
      have q5 : upd H4 q (.dK []) q = some (.dK []) := upd_same
      have nqp : q ≠ p := npool0 p4 nq
      generalize upd H4 q (.dK []) = H5 at sq p5 q5 ⊢
      refine ⟨_, rfl, _, rfl, _, rfl, p, v0, v1, 1 + g, rfl, p5, by omega, by omega, fun v x0 x1 H6 hv b6 p6 => ⟨_, rfl, b6 _ _ nqp q5, [(Sum.inr "name", .str n), (Sum.inr "g", .int (1 + g)), (Sum.inr "d", v), (Sum.inr "n", .int (0 + (i : Int)))], rfl, by show 4 ≤ 15; decide, ?_⟩⟩
      rw [colB_merge, Int.zero_add]
      have b47 : But p H4 (upd H6 q (.dK (colB ⟨n, 1 + g, v, i⟩))) := fun b o hb e => by
        rw [upd_ne (ne_of_none e nq)]
        exact b6 _ _ hb (sq _ _ e)
      have w7 := strsL_but p4 b47 w4
      have l7 := refsL_but p4 b47 l4
      have c7 := c4.but p4 b47
      have b7 := b4.trans b47
      have p7 : upd H6 q (.dK (colB ⟨n, 1 + g, v, i⟩)) p = some (.lst [.int x0, .int x1]) := by
        rw [upd_ne nqp.symm]
        exact p6
      have q7 : upd H6 q (.dK (colB ⟨n, 1 + g, v, i⟩)) q = some (.dK (colB ⟨n, 1 + g, v, i⟩)) := upd_same
      generalize upd H6 q (.dK (colB ⟨n, 1 + g, v, i⟩)) = H7 at b7 p7 w7 l7 c7 q7 ⊢
      clear b47 p6 b6 q5 p5 sq p4 w4 l4 c4
      refine ⟨by show 1 ≤ sizeLine; decide, fun u nu => ⟨l, u, _, _, rfl, rfl, same_new nu _ _ l7, upd_same, ?_, fun l8 nl8 => ?_⟩⟩
      · have := I.len
        rw [List.length_map, c7.len]
        show _ + 1 ≤ _
        omega
      have s8 : Same H7 (upd (upd H7 u (.lst [.ref q])) l8 (.lst (as.map V.ref ++ [.ref q]))) := (same_new nu).trans (same_new nl8)
      refine ⟨l8, as ++ [q], cs ++ [⟨n, 1 + g, v, i⟩], x0, x1, _, _, rfl, b7.trans (But.of s8), s8 _ _ p7, s8 _ _ w7, ?_, (c7.keep s8).app (.cons (s8 _ _ q7) .nil), I.more hn ⟨wm n (List.mem_of_getElem? hn), ?_, hv, by show (0 : Int) ≤ i; omega⟩, fun c2 hc2 => ?_⟩
      · rw [upd_same, List.map_append]
        rfl
      · show (decide (1 ≤ 1 + g) && decide (1 + g ≤ 99)) = true
        rw [decide_eq_true (by omega), decide_eq_true (by omega)]
        rfl
      · rcases List.mem_append.mp hc2 with hc2 | hc2
        · exact up c2 hc2
        · rw [List.mem_singleton.mp hc2]
          show 1 + g ≤ top
          omega
    · rintro σ H' ⟨l, as, cs, y0, y1, x5, x6, rfl, b, hp', hw', hl', hc', I, up⟩
      refine ⟨_, rfl, _, rfl, by show 2 ≤ sizeLine; decide, fun t nt => ?_⟩
      have sn : Same H' (upd H' t (.lst [.ref l, .ref wd])) := same_new nt
      exact k t l wd as cs ws y0 y1 _ (b.trans (But.of sn)) (sn _ _ hp') upd_same (sn _ _ hl') (hc'.keep sn) (sn _ _ hw') W I.pl (I.good W (by omega) (by omega)) ⟨by rw [I.len]; omega, up⟩
/-! xs != [], xs == [], whatever the items are -/
section
variable {X : Cx}
def rNeE (K : PySem.W.Frag) : R2 := fun x y H Q => ∃ (a b : Addr) (xs : List V), x = .ref a ∧ y = .ref b ∧ SqL K H a xs ∧ SqL K H b [] ∧ Q (.bl (!xs.isEmpty)) H
theorem op_neE (hu : X.A.units + 64 < cLine) : OpR X (compareOp .NotEq) (rNeE X.K) := by
  intro pins s σ H x y v u Q I rx ry h
  obtain ⟨a, b, xs, rfl, rfl, ha, hb, q⟩ := h
  cases rx
  cases ry
  obtain ⟨its, r, pl, hz⟩ := I.list ha
  obtain ⟨jts, r2, pl2, hz2⟩ := I.list hb
  cases r2
  cases xs with
  | nil =>
    cases r
    exact op_neD hu pins s σ H (.ref a) (.ref b) (.ref a) (.ref b) Q I rfl rfl ⟨.list [], .list [], .lst ha .nil, .lst hb .nil, rfl, rfl, q⟩
  | cons z zs =>
    cases r with
    | cons rz rzs =>
      show wpAny (model X.prog X.w) X.A (richCompare .NotEq (.ref a) (.ref b)) (EP X pins σ Q) X.xe s
      exact SeqAt.RcNeAt.lists_lengths pl.isList pl2.isList (by simp) (by omega) _ _ _ _ ⟨.bl true, H, I, rfl, q⟩
end

/-! _law_column: whether a name is taken -/
def sp_lcolumn (K : PySem.W.Frag) : Sp := fun vs H Q _ => ∃ (l : Addr) (as : List Addr) (cs : List Col) (n : Str), vs = [.ref l, .str n] ∧ SqL K H l (as.map V.ref) ∧ BCols H as cs ∧ as.length ≤ 1000 ∧ ∀ (v : V) (H' : Hp), Same H H' → (v = .non ↔ n ∉ cs.map (·.name)) → Q v H'
theorem ok_lcolumn (T : Tx K mg) : Callee P w K mg base CX0 1 "_law_column" ["_law_cols", "_law_name"] [] (sp_lcolumn K) := by
  refine mkCallee (fd__law_column T) (mg__law_column T) sc__law_column (fun _ _ _ _ _ _ us hl => match us, hl with | [_, _], _ => rfl) (fun vs H Q E h => ?_) (fun cdv A outer s H vs Q E hr h => ?_)
  · obtain ⟨l, as, cs, n, rfl, _⟩ := h
    rfl
  · obtain ⟨l, as, cs, n, rfl, hl, hc, hlen, k⟩ := h
    have nd := sc__law_column.nd
    have hu := hu_of hr
    refine ⟨_, (pss_cons (ps_setLc (i := 2) (own := [("_law_col", 3)]) (g := gName 3) (tt := tTest (tOp rEq (tDGet (tVar 3) (tC (.str "name"))) (tVar 1))) (te := tVar 3) rfl nd rfl rfl (by rfl) (pi_list (pv 0)) (blkOk_by (N := ["_law_cols", "_law_name", "_law_found", "_law_col"]) (sc := defScope s__law_column) (by decide +kernel)) (fun _ _ _ _ _ => (pg_name (i := 3) nd rfl (Or.inl rfl))) (fun _ _ _ _ _ => pts_one (pt_cmpR op_eq (pe_dget hu (pv 3) pe_str (fun _ _ => rfl)) (pv 1) (nomark _))) (fun _ _ _ _ _ => (pv 3)))
        (pss_one (ps_ret (pe_ifExp (pt_cmpR (op_neE hr.units) (pv 2) (pe_lst pa_nil) (nomark _)) (pe_ix ix_list (pv 2) pe_int (fun _ _ => rfl)) pe_non)))), ?_⟩
    refine q_asgX ?_
    refine ⟨_, rfl, l, rfl, ⟨_, hl⟩, fun D nD => ?_⟩
    refine lc_list (xs := as.map V.ref) (fun j H' => Same H H' ∧ ∃ bs : List Addr, H' D = some (.lst (bs.map V.ref)) ∧ bs.length ≤ j ∧ (bs = [] ↔ n ∉ (cs.take j).map (·.name))) ⟨same_new nD, [], upd_same, Nat.le_refl _, by simp⟩ (fun j H' _ q => q.1.seq hl) ?_ ?_
    · rintro j x H' hx ⟨s', bs, hD, hb, hbn⟩
      rw [List.getElem?_map] at hx
      cases ha : as[j]? with
      | none =>
        rw [ha] at hx
        cases hx
      | some a =>
        rw [ha] at hx
        obtain rfl := Option.some.inj hx
        obtain ⟨c, hcj, hat⟩ := hc.at_ ha
        have ht : (cs.take (j + 1)).map (·.name) = (cs.take j).map (·.name) ++ [c.name] := by
          rw [List.take_add_one, hcj, List.map_append]
          rfl
        have hjl := (List.getElem?_eq_some_iff.mp ha).1
        refine ⟨rfl, _, rfl, a, _, rfl, bc_name (s' _ _ hat), _, rfl, rfl, _, rfl, ?_⟩
        by_cases hn : c.name = n
        · refine iteDT (by rw [hn]) ⟨_, rfl, bs.map V.ref, hD, ?_, same_mut s' nD, bs ++ [a], ?_, ?_, ?_⟩
          · have e : sizeLine = 16777216 := by decide
            rw [List.length_map]
            omega
          · rw [upd_same, List.map_append]
            rfl
          · rw [List.length_append]
            show bs.length + 1 ≤ j + 1
            omega
          · rw [ht, hn]
            simp
        · refine iteD (nes hn) ⟨s', bs, hD, by omega, ?_⟩
          rw [ht, hbn]
          simp only [List.mem_append, List.mem_singleton, not_or]
          exact ⟨fun h => ⟨h, fun e => hn e.symm⟩, fun h => h.1⟩
    rintro H1 ⟨s1, bs, hD, hb, hbn⟩
    rw [List.length_map, List.take_of_length_le (by rw [hc.len]; exact Nat.le_refl _)] at hbn
    refine ⟨_, rfl, by show 0 ≤ sizeLine; decide, fun Z nZ => ⟨D, Z, bs.map V.ref, rfl, rfl, sqL_of (same_new nZ _ _ hD), sqL_of upd_same, _, rfl, ?_⟩⟩
    cases bs with
    | nil => exact iteF (k .non _ (s1.trans (same_new nZ)) ⟨fun _ => hbn.mp rfl, fun _ => rfl⟩)
    | cons b bs =>
      refine iteT ⟨_, rfl, D, _, 0, .ref b, rfl, rfl, sqL_of (same_new nZ _ _ hD), at_zero rfl, k (.ref b) _ (s1.trans (same_new nZ)) ⟨(fun h => by cases h), fun h => ?_⟩⟩
      exact absurd (hbn.mpr h) (by intro z; cases z)
def narV (g : Int) (way : Str) (v : V) : V := if fitV g v = true then v else if way = "cut" then .int g else if way = "none" then .non else .str "barred"
def narD (g : Int) : List (Key × V) := [(Sum.inr "cut", .int g), (Sum.inr "none", .non), (Sum.inr "refuse", .str "barred")]
theorem narD_vals (g : Int) : mergeK [] (narD g) = narD g ∧ valV (narD g) (Sum.inr "cut") = some (.int g) ∧ valV (narD g) (Sum.inr "none") = some .non ∧ valV (narD g) (Sum.inr "refuse") = some (.str "barred") := by
  have h1 : ¬ ((Sum.inr "cut" : Key) = (Sum.inr "none" : Key)) := by decide +kernel
  have h2 : ¬ ((Sum.inr "cut" : Key) = (Sum.inr "refuse" : Key)) := by decide +kernel
  have h3 : ¬ ((Sum.inr "none" : Key) = (Sum.inr "refuse" : Key)) := by decide +kernel
  unfold narD
  refine ⟨by simp [mergeK, putK, h1, h2, h3], valV_pos rfl, by simp [valV, h1], by simp [valV, h2, h3]⟩
def sp_narrow : Sp := fun vs H Q _ => ∃ (v : V) (g : Int) (way : Str), vs = [v, .int g, .str way] ∧ valOk v = true ∧ isWy way = true ∧ ∀ H', Same H H' → Q (narV g way v) H'
theorem ok_narrow (T : Tx K mg) : Callee P w K mg base CX0 2 "_law_narrow" ["_law_value", "_law_g", "_law_way"] [] sp_narrow := by
  have C1 := ok_fits (P := P) (w := w) (base := base) T
  refine mkCallee (fd__law_narrow T) (mg__law_narrow T) sc__law_narrow (fun _ _ _ _ _ _ us hl => match us, hl with | [_, _, _], _ => rfl) (fun vs H Q E h => ?_) (fun cdv A outer s H vs Q E hr h => ?_)
  · obtain ⟨v, g, way, rfl, _⟩ := h
    rfl
  · obtain ⟨v, g, way, rfl, hv, hw, k⟩ := h
    have hu := hu_of hr
    refine ⟨_, (pss_cons (ps_if (pt_val (pcall C1 hr (pa_cons (pv 0) (pa_cons (pv 1) pa_nil)))) (pss_one (ps_ret (pv 0))) pss_nil)
        (pss_one (ps_ret (pe_dget hu (pe_disp (pps_cons pe_str (pv 1) (pps_cons pe_str pe_non (pps_cons pe_str pe_str pps_nil))) (by rfl) (by rfl) (fun z => by cases z) (by decide)) (pv 2) (fun _ _ => rfl))))), ?_⟩
    refine ⟨_, rfl, _, rfl, v, g, rfl, hv, _, rfl, ?_⟩
    unfold narV at k
    cases hf : fitV g v with
    | true =>
      rw [hf, if_pos rfl] at k
      exact iteT ⟨_, rfl, k H (Same.refl _)⟩
    | false =>
      rw [hf, if_neg (by decide)] at k
      refine iteF (nxt fun q nq => ⟨_, rfl, upd_same, narD g, rfl, (by show 3 ≤ 15; decide), ?_⟩)
      obtain ⟨m0, m1, m2, m3⟩ := narD_vals g
      rw [m0, upd_upd]
      have hg : DGet (upd H q (.dK (narD g))) q (kV (Sum.inr way)) (valV (narD g) (Sum.inr way)) := DGet.k upd_same
      unfold isWy at hw
      rw [Bool.or_eq_true, Bool.or_eq_true, decide_eq_true_iff, decide_eq_true_iff, decide_eq_true_iff] at hw
      have n1 : ¬ (("none" : Str) = "cut") := by decide +kernel
      have n2 : ¬ (("refuse" : Str) = "cut") := by decide +kernel
      have n3 : ¬ (("refuse" : Str) = "none") := by decide +kernel
      rcases hw with rfl | rfl | rfl
      · rw [if_pos rfl] at k
        rw [m1] at hg
        exact ⟨_, rfl, q, _, rfl, hg, k _ (same_new nq)⟩
      · rw [if_neg n1, if_pos rfl] at k
        rw [m2] at hg
        exact ⟨_, rfl, q, _, rfl, hg, k _ (same_new nq)⟩
      · rw [if_neg n2, if_neg n3] at k
        rw [m3] at hg
        exact ⟨_, rfl, q, _, rfl, hg, k _ (same_new nq)⟩
/-! _law_col_after: a column behind a change that can be done -/
/-- a change that can be done leaves no default barred -/
theorem nar_chg {g : Int} {way : Str} {v : V} {n : Str} (hv : valOk v = true) (hm : isMis (chgV n (.great n g way) v) = false) : narV g way v = chgV n (.great n g way) v := by
  unfold chgV at hm ⊢
  rw [if_pos (show (Ch.great n g way).name = n from rfl)] at hm ⊢
  unfold narV
  cases v with
  | non => rfl
  | int j =>
    show (if decide (j ≤ g) = true then V.int j else _) = (if g < j then abv g way else .int j)
    have hm : isMis (if g < j then abv g way else .int j) = false := hm
    by_cases q : g < j
    · rw [if_neg (by rw [decide_eq_false (by omega)]; decide), if_pos q]
      rw [if_pos q] at hm
      unfold abv at hm ⊢
      split
      · rfl
      · rename_i q1
        rw [if_neg q1] at hm
        split
        · rfl
        · rename_i q2
          rw [if_neg q2] at hm
          exact absurd hm (by decide +kernel)
    · rw [if_pos (decide_eq_true (by omega)), if_neg q]
  | _ => cases hv
def colA (c : Col) (ch : Ch) : Col := if c.name = ch.name then chgC c ch else c
theorem colA_no {c : Col} {ch : Ch} (h : ¬ c.name = ch.name) : colA c ch = c := if_neg h
theorem colA_yes {c : Col} {ch : Ch} (h : c.name = ch.name) : colA c ch = chgC c ch := if_pos h
def sp_col_after (K : PySem.W.Frag) : Sp := fun vs H Q _ => ∃ (a t : Addr) (c : Col) (ch : Ch), vs = [.ref a, .ref t] ∧ H a = some (.dK (colB c)) ∧ ChAt K H t ch ∧ ch.fits = true ∧ valOk c.dflt = true ∧ (∀ g way, ch = .great c.name g way → isMis (chgV c.name ch c.dflt) = false) ∧
  ∀ (a' : Addr) (H' : Hp), H a' = none → Same H H' → H' a' = some (.dK (colB (colA c ch))) → Q (.ref a') H'
theorem ok_col_after (T : Tx K mg) : Callee P w K mg base CX0 3 "_law_col_after" ["_law_col", "_law_change_here"] [] (sp_col_after K) := by
  have Cn := ok_narrow (P := P) (w := w) (base := base) T
  refine mkCallee (fd__law_col_after T) (mg__law_col_after T) sc__law_col_after (fun _ _ _ _ _ _ us hl => match us, hl with | [_, _], _ => rfl) (fun vs H Q E h => ?_) (fun cdv A outer s H vs Q E hr h => ?_)
  · obtain ⟨a, t, c, ch, rfl, _⟩ := h
    rfl
  · obtain ⟨a, t, c, ch, rfl, ha, ht, hf, hv, hm, k⟩ := h
    have nd := sc__law_col_after.nd
    have hu := hu_of hr
    refine ⟨_, (pss_cons (ps_set (i := 2) nd rfl (Or.inl rfl) (pe_callTy call_dictD (by rfl) (fr_dict T) (by decide +kernel) (pa_cons (pv 0) pa_nil)))
        (pss_cons (ps_if (pt_cmpR op_ne (pe_ix ix_tup (pv 1) pe_int (fun _ _ => rfl)) (pe_dget hu (pv 0) pe_str (fun _ _ => rfl)) (nomark _)) (pss_one (ps_ret (pv 2))) pss_nil)
        (pss_cons (ps_if (pt_cmpR op_eq (pe_ix ix_tup (pv 1) pe_int (fun _ _ => rfl)) pe_str (nomark _)) (pss_one (ps_dput hu (pv 2) pe_str (pe_ix ix_tup (pv 1) pe_int (fun _ _ => rfl)) rfl)) pss_nil)
        (pss_cons (ps_if (pt_cmpR op_eq (pe_ix ix_tup (pv 1) pe_int (fun _ _ => rfl)) pe_str (nomark _)) (pss_one (ps_dput hu (pv 2) pe_str (pe_ix ix_tup (pv 1) pe_int (fun _ _ => rfl)) rfl)) pss_nil)
        (pss_cons (ps_if (pt_cmpR op_eq (pe_ix ix_tup (pv 1) pe_int (fun _ _ => rfl)) pe_str (nomark _)) (pss_one (ps_asg (pe_tup (pa_cons (pe_ix ix_tup (pv 1) pe_int (fun _ _ => rfl)) (pa_cons (pcall Cn hr (pa_cons (pe_dget hu (pv 0) pe_str (fun _ _ => rfl)) (pa_cons (pe_ix ix_tup (pv 1) pe_int (fun _ _ => rfl)) (pa_cons (pe_ix ix_tup (pv 1) pe_int (fun _ _ => rfl)) pa_nil)))) pa_nil))) (pg_tup rfl (pgs_cons (pg_sub (pv 2) pe_str (set_dict hu)) (pgs_cons (pg_sub (pv 2) pe_str (set_dict hu)) pgs_nil))))) pss_nil)
        (pss_one (ps_ret (pv 2)))))))), ?_⟩
    have hu4 : (4 : Nat) < sizeLine := by decide
    refine q_asgX ⟨_, rfl, a, _, rfl, .inl ha, fun q nq => ?_⟩
    have s1 : Same H (upd H q (.dK (colB c))) := same_new nq
    have hq1 : upd H q (.dK (colB c)) q = some (.dK (colB c)) := upd_same
    have ha1 := s1 _ _ ha
    have ht1 := ht.keep s1
    generalize hH1 : upd H q (.dK (colB c)) = H1 at s1 hq1 ha1 ht1
    have fin : ∀ (H2 : Hp) (o : HO), Same H1 H2 → o = .dK (colB (colA c ch)) → Same H (upd H2 q o) ∧ upd H2 q o q = some (.dK (colB (colA c ch))) := fun H2 o s2 e => ⟨same_mut (s1.trans s2) nq, by rw [upd_same, e]⟩
    refine ⟨_, rfl, t, _, 1, _, rfl, rfl, ht1, ch.at1, _, rfl, a, _, rfl, bc_name ha1, rfl, _, rfl, ?_⟩
    by_cases hn : c.name = ch.name
    · refine iteNS (by rw [hn]) (nxt ?_)
      rw [colA_yes hn] at k fin
      cases ch with
      | add n g d =>
        refine ⟨_, rfl, t, _, 0, _, rfl, rfl, ht1, rfl, rfl, _, rfl, iteD (nes (show ("add" : Str) ≠ "rename" by decide +kernel)) (nxt ?_)⟩
        refine ⟨_, rfl, t, _, 0, _, rfl, rfl, ht1, rfl, rfl, _, rfl, iteD (nes (show ("add" : Str) ≠ "default" by decide +kernel)) (nxt ?_)⟩
        refine ⟨_, rfl, t, _, 0, _, rfl, rfl, ht1, rfl, rfl, _, rfl, iteD (nes (show ("add" : Str) ≠ "greatest" by decide +kernel)) (nxt ?_)⟩
        exact ⟨_, rfl, k q H1 nq s1 hq1⟩
      | drop n =>
        refine ⟨_, rfl, t, _, 0, _, rfl, rfl, ht1, rfl, rfl, _, rfl, iteD (nes (show ("drop" : Str) ≠ "rename" by decide +kernel)) (nxt ?_)⟩
        refine ⟨_, rfl, t, _, 0, _, rfl, rfl, ht1, rfl, rfl, _, rfl, iteD (nes (show ("drop" : Str) ≠ "default" by decide +kernel)) (nxt ?_)⟩
        refine ⟨_, rfl, t, _, 0, _, rfl, rfl, ht1, rfl, rfl, _, rfl, iteD (nes (show ("drop" : Str) ≠ "greatest" by decide +kernel)) (nxt ?_)⟩
        exact ⟨_, rfl, k q H1 nq s1 hq1⟩
      | rename n m =>
        refine ⟨_, rfl, t, _, 0, _, rfl, rfl, ht1, rfl, rfl, _, rfl, iteDT rfl ⟨_, rfl, t, _, 2, _, rfl, rfl, ht1, rfl, _, rfl, q, _, rfl, DPut.k (k := Sum.inr "name") hq1 hu4, ?_⟩⟩
        rw [(colB_put c).1 m]
        obtain ⟨f1, f2⟩ := fin H1 _ (Same.refl _) rfl
        have ht2 := ht.keep f1
        refine ⟨_, rfl, t, _, 0, _, rfl, rfl, ht2, rfl, rfl, _, rfl, iteD (nes (show ("rename" : Str) ≠ "default" by decide +kernel)) (nxt ?_)⟩
        refine ⟨_, rfl, t, _, 0, _, rfl, rfl, ht2, rfl, rfl, _, rfl, iteD (nes (show ("rename" : Str) ≠ "greatest" by decide +kernel)) (nxt ?_)⟩
        exact ⟨_, rfl, k q _ nq f1 f2⟩
      | dflt n v =>
        refine ⟨_, rfl, t, _, 0, _, rfl, rfl, ht1, rfl, rfl, _, rfl, iteD (nes (show ("default" : Str) ≠ "rename" by decide +kernel)) (nxt ?_)⟩
        refine ⟨_, rfl, t, _, 0, _, rfl, rfl, ht1, rfl, rfl, _, rfl, iteDT rfl ⟨_, rfl, t, _, 2, _, rfl, rfl, ht1, rfl, _, rfl, q, _, rfl, DPut.k (k := Sum.inr "d") hq1 hu4, ?_⟩⟩
        rw [(colB_put c).2.2 v]
        obtain ⟨f1, f2⟩ := fin H1 _ (Same.refl _) rfl
        have ht2 := ht.keep f1
        refine ⟨_, rfl, t, _, 0, _, rfl, rfl, ht2, rfl, rfl, _, rfl, iteD (nes (show ("default" : Str) ≠ "greatest" by decide +kernel)) (nxt ?_)⟩
        exact ⟨_, rfl, k q _ nq f1 f2⟩
      | great n g way =>
        have hw : isWy way = true := (Bool.and_eq_true_iff.mp (Bool.and_eq_true_iff.mp hf).2).2
        have hn' : c.name = n := hn
        subst hn'
        refine ⟨_, rfl, t, _, 0, _, rfl, rfl, ht1, rfl, rfl, _, rfl, iteD (nes (show ("greatest" : Str) ≠ "rename" by decide +kernel)) (nxt ?_)⟩
        refine ⟨_, rfl, t, _, 0, _, rfl, rfl, ht1, rfl, rfl, _, rfl, iteD (nes (show ("greatest" : Str) ≠ "default" by decide +kernel)) (nxt ?_)⟩
        refine ⟨_, rfl, t, _, 0, _, rfl, rfl, ht1, rfl, rfl, _, rfl, iteDT rfl ?_⟩
        refine ⟨_, rfl, t, _, 2, _, rfl, rfl, ht1, rfl, _, rfl, a, _, rfl, bc_d ha1, _, rfl, t, _, 2, _, rfl, rfl, ht1, rfl, _, rfl, t, _, 3, _, rfl, rfl, ht1, rfl, _, g, way, rfl, hv, hw, fun H2 s2 => ⟨by show 2 ≤ sizeLine; decide, fun T1 nT1 => ?_⟩⟩
        rw [nar_chg hv (hm g way rfl)]
        have s3 := s2.trans (same_new (o := .tup [.int g, chgV c.name (.great c.name g way) c.dflt]) nT1)
        have hq3 := s3 _ _ hq1
        refine ⟨T1, _, rfl, sqT_of upd_same, rfl, _, _, rfl, _, rfl, q, _, rfl, DPut.k (k := Sum.inr "g") hq3 hu4, ?_⟩
        rw [(colB_put c).2.1 g]
        refine ⟨_, _, rfl, _, rfl, q, _, rfl, DPut.k (k := Sum.inr "d") upd_same hu4, rfl, ?_⟩
        rw [(colB_put _).2.2 _, upd_upd]
        obtain ⟨f1, f2⟩ := fin _ _ s3 rfl
        exact ⟨_, rfl, k q _ nq f1 f2⟩
      | fill n i =>
        refine ⟨_, rfl, t, _, 0, _, rfl, rfl, ht1, rfl, rfl, _, rfl, iteD (nes (show ("fill" : Str) ≠ "rename" by decide +kernel)) (nxt ?_)⟩
        refine ⟨_, rfl, t, _, 0, _, rfl, rfl, ht1, rfl, rfl, _, rfl, iteD (nes (show ("fill" : Str) ≠ "default" by decide +kernel)) (nxt ?_)⟩
        refine ⟨_, rfl, t, _, 0, _, rfl, rfl, ht1, rfl, rfl, _, rfl, iteD (nes (show ("fill" : Str) ≠ "greatest" by decide +kernel)) (nxt ?_)⟩
        exact ⟨_, rfl, k q H1 nq s1 hq1⟩
    · rw [colA_no hn] at k
      exact iteNF (nes (fun e => hn e.symm)) ⟨_, rfl, k q H1 nq s1 hq1⟩
/-! _law_sheet_after: the columns behind a change that can be done -/
theorem hind_free {cs : List Col} {n : Str} {g : Int} {d : V} (h : hindV cs (.add n g d) = .non) : ∀ c ∈ cs, c.name ≠ n := by
  have h : addHind cs n g d = .non := h
  unfold addHind at h
  split at h
  · cases h
  · rename_i q
    intro c hc e
    refine q ?_
    rw [List.find?_isSome]
    exact ⟨c, hc, decide_eq_true e⟩
theorem hind_great {cs : List Col} {c : Col} {g : Int} {way : Str} (nd : (cs.map (·.name)).Nodup) (hc : c ∈ cs) (h : hindV cs (.great c.name g way) = .non) : isMis (chgV c.name (.great c.name g way) c.dflt) = false := by
  have hf := find_uniq nd hc rfl
  have h : (match cs.find? (isN c.name) with
    | none => V.str "unknown"
    | some e => if chgV e.name (.great c.name g way) e.dflt = V.str "missing" then V.str "default" else V.non) = V.non := h
  rw [hf] at h
  have h : (if chgV c.name (.great c.name g way) c.dflt = V.str "missing" then V.str "default" else V.non) = V.non := h
  split at h
  · cases h
  · rename_i q
    cases e : chgV c.name (.great c.name g way) c.dflt with
    | str z =>
      show decide (z = "missing") = false
      rw [e] at q
      exact decide_eq_false (fun z2 => q (by rw [z2]))
    | _ => rfl
/-- a column that stays -/
theorem colR_stays {cs : List Col} {ch : Ch} {c : Col} (hc : c ∈ cs) (hz : hindV cs ch = .non) (h : ch.kind = "drop" → c.name ≠ ch.name) : colR ch c = [colA c ch] := by
  cases ch with
  | add n g d =>
    rw [colA_no (hind_free hz c hc)]
    rfl
  | drop n =>
    have hn : c.name ≠ n := h rfl
    rw [colA_no hn]
    exact if_neg hn
  | _ => rfl
theorem colR_goes {n : Str} {c : Col} (h : c.name = n) : colR (.drop n) c = [] := if_pos h
def sp_sheet_after (K : PySem.W.Frag) : Sp := fun vs H Q _ => ∃ (l t : Addr) (as : List Addr) (cs : List Col) (ch : Ch) (num : Int), vs = [.ref l, .ref t, .int num] ∧ SqL K H l (as.map V.ref) ∧ BCols H as cs ∧ ChAt K H t ch ∧ Good cs num ∧ ch.fits = true ∧ hindV cs ch = .non ∧
  ∀ (l' : Addr) (as' : List Addr) (H' : Hp), H l' = none → Same H H' → H' l' = some (.lst (as'.map V.ref)) → BCols H' as' (behind cs ch num) → Q (.ref l') H'
theorem ok_sheet_after (T : Tx K mg) : Callee P w K mg base CX0 4 "_law_sheet_after" ["_law_cols", "_law_change_here", "_law_count"] [] (sp_sheet_after K) := by
  have Ca := ok_col_after (P := P) (w := w) (base := base) T
  refine mkCallee (fd__law_sheet_after T) (mg__law_sheet_after T) sc__law_sheet_after (fun _ _ _ _ _ _ us hl => match us, hl with | [_, _, _], _ => rfl) (fun vs H Q E h => ?_) (fun cdv A outer s H vs Q E hr h => ?_)
  · obtain ⟨l, t, as, cs, ch, num, rfl, _⟩ := h
    rfl
  · obtain ⟨l, t, as, cs, ch, num, rfl, hl, hc, ht, g, hf, hz, k⟩ := h
    have nd := sc__law_sheet_after.nd
    have hu := hu_of hr
    refine ⟨_, (pss_cons (ps_setLc (i := 3) (own := [("_law_col", 4)]) (g := gName 4) (tt := tOr (tTest (tOp rNe (tOp (rIxT K) (tVar 1) (tC (.int 0))) (tC (.str "drop")))) (tTest (tOp rNe (tDGet (tVar 4) (tC (.str "name"))) (tOp (rIxT K) (tVar 1) (tC (.int 1)))))) (te := tCall (sp_col_after K) [] E0 (tCons (tVar 4) (tCons (tVar 1) tNil))) rfl nd rfl rfl (by rfl) (pi_list (pv 0)) (blkOk_by (N := ["_law_cols", "_law_change_here", "_law_count", "_law_found", "_law_col"]) (sc := defScope s__law_sheet_after) (by decide +kernel)) (fun _ _ _ _ _ => (pg_name (i := 4) nd rfl (Or.inl rfl))) (fun _ _ _ _ _ => pts_one (PW.pt (pw_or (pt_cmpR op_ne (pe_ix ix_tup (pv 1) pe_int (fun _ _ => rfl)) pe_str (nomark _)) (pw_or1 (pt_cmpR op_ne (pe_dget hu (pv 4) pe_str (fun _ _ => rfl)) (pe_ix ix_tup (pv 1) pe_int (fun _ _ => rfl)) (nomark _)))))) (fun _ _ _ _ _ => (pcall Ca hr (pa_cons (pv 4) (pa_cons (pv 1) pa_nil)))))
        (pss_cons (ps_if (pt_cmpR op_eq (pe_ix ix_tup (pv 1) pe_int (fun _ _ => rfl)) pe_str (nomark _)) (pss_one (ps_set (i := 3) nd rfl (Or.inl rfl) (pe_op op_cat (pv 3) (pe_lst (pa_cons (pe_disp (pps_cons pe_str (pe_ix ix_tup (pv 1) pe_int (fun _ _ => rfl)) (pps_cons pe_str (pe_ix ix_tup (pv 1) pe_int (fun _ _ => rfl)) (pps_cons pe_str (pe_ix ix_tup (pv 1) pe_int (fun _ _ => rfl)) (pps_cons pe_str (pv 2) pps_nil)))) (by rfl) (by rfl) (fun z => by cases z) (by decide)) pa_nil))))) pss_nil)
        (pss_one (ps_ret (pv 3))))), ?_⟩
    have hal : as.length ≤ 6 := by rw [hc.len]; exact g.six
    refine q_asgX ?_
    refine ⟨_, rfl, l, rfl, ⟨_, hl⟩, fun D nD => ?_⟩
    refine lc_list (xs := as.map V.ref) (fun j H' => Same H H' ∧ ∃ bs : List Addr, H' D = some (.lst (bs.map V.ref)) ∧ bs.length ≤ j ∧ BCols H' bs ((cs.take j).flatMap (colR ch))) ⟨same_new nD, [], upd_same, Nat.le_refl _, .nil⟩ (fun j H' _ q => q.1.seq hl) ?_ ?_
    · rintro j x H' hx ⟨s', bs, hD, hb, hbs⟩
      rw [List.getElem?_map] at hx
      cases ha : as[j]? with
      | none =>
        rw [ha] at hx
        cases hx
      | some a =>
        rw [ha] at hx
        obtain rfl := Option.some.inj hx
        obtain ⟨c, hcj, hat⟩ := hc.at_ ha
        have hcm := List.mem_of_getElem? hcj
        have hjl := (List.getElem?_eq_some_iff.mp ha).1
        have hte : (cs.take (j + 1)).flatMap (colR ch) = (cs.take j).flatMap (colR ch) ++ colR ch c := by
          rw [List.take_add_one, hcj, List.flatMap_append]
          congr 1
          show List.flatMap (colR ch) [c] = _
          rw [List.flatMap_cons, List.flatMap_nil, List.append_nil]
        have hat' := s' _ _ hat
        have ht' := ht.keep s'
        have stay : (ch.kind = "drop" → c.name ≠ ch.name) → tCall (sp_col_after K) [] E0 (tCons (tVar 4) (tCons (tVar 1) tNil)) [some (.ref l), some (.ref t), some (.int num), none, some (.ref a)] H' fun y H4 => ∃ acc, H4 D = some (.lst acc) ∧ acc.length < sizeLine ∧ (Same H (upd H4 D (.lst (acc ++ [y]))) ∧ ∃ bs : List Addr, upd H4 D (.lst (acc ++ [y])) D = some (.lst (bs.map V.ref)) ∧ bs.length ≤ j + 1 ∧ BCols (upd H4 D (.lst (acc ++ [y]))) bs ((cs.take (j + 1)).flatMap (colR ch))) := fun hst => by
          refine ⟨_, rfl, _, rfl, a, t, c, ch, rfl, hat', ht', hf, ?_, fun gg way e => ?_, fun a' H2 na s2 ha' => ?_⟩
          · have := (g.ok c hcm).1.df
            cases hd : c.dflt with
            | non => rfl
            | int _ => rfl
            | _ => rw [hd] at this; cases this
          · rw [e] at hz ⊢
            exact hind_great g.names hcm hz
          · have hD2 := s2 _ _ hD
            have kn := KeepNL.lst hD2 (ys := bs.map V.ref ++ [.ref a'])
            refine ⟨bs.map V.ref, hD2, ?_, same_mut (s'.trans s2) nD, bs ++ [a'], ?_, ?_, ?_⟩
            · have e : sizeLine = 16777216 := by decide
              rw [List.length_map]
              omega
            · rw [upd_same, List.map_append]
              rfl
            · rw [List.length_append]
              show bs.length + 1 ≤ j + 1
              omega
            · rw [hte, colR_stays hcm hz hst]
              exact ((hbs.keep s2).keepN kn).app (.cons (kn _ _ (fun _ z => by cases z) ha') .nil)
        refine ⟨rfl, _, rfl, t, _, 0, _, rfl, rfl, ht', ch.at0, rfl, _, rfl, ?_⟩
        by_cases hk : ch.kind = "drop"
        · refine iteNS (by rw [hk]) ⟨_, rfl, a, _, rfl, bc_name hat', _, rfl, t, _, 1, _, rfl, rfl, ht', ch.at1, rfl, _, rfl, ?_⟩
          by_cases hn : c.name = ch.name
          · refine iteNS (by rw [hn]) ⟨s', bs, hD, by omega, ?_⟩
            cases ch with
            | drop n =>
              have hn : c.name = n := hn
              rw [hte, colR_goes hn, List.append_nil]
              exact hbs
            | add _ _ _ => exact absurd (show ("add" : Str) = "drop" from hk) (by decide +kernel)
            | rename _ _ => exact absurd (show ("rename" : Str) = "drop" from hk) (by decide +kernel)
            | dflt _ _ => exact absurd (show ("default" : Str) = "drop" from hk) (by decide +kernel)
            | great _ _ _ => exact absurd (show ("greatest" : Str) = "drop" from hk) (by decide +kernel)
            | fill _ _ => exact absurd (show ("fill" : Str) = "drop" from hk) (by decide +kernel)
          · exact iteNF (nes hn) (stay fun _ => hn)
        · exact iteNF (nes hk) (stay fun e => absurd e hk)
    rintro H1 ⟨s1, bs, hD, hb, hbs⟩
    rw [List.length_map] at hb
    rw [List.length_map, List.take_of_length_le (by rw [hc.len]; exact Nat.le_refl _)] at hbs
    have ht1 := ht.keep s1
    refine ⟨_, rfl, t, _, 0, _, rfl, rfl, ht1, ch.at0, rfl, _, rfl, ?_⟩
    by_cases hk : ch.kind = "add"
    · cases ch with
      | add n gr d =>
        refine iteDT rfl ?_
        refine ⟨_, rfl, fun q nq => ⟨_, rfl, t, _, 1, _, rfl, rfl, same_tup (same_new nq) ht1, rfl, _, rfl, t, _, 2, _, rfl, rfl, same_tup (same_new nq) ht1, rfl, _, rfl, t, _, 3, _, rfl, rfl, same_tup (same_new nq) ht1, rfl, _, rfl, upd_same, [(Sum.inr "name", .str n), (Sum.inr "g", .int gr), (Sum.inr "d", d), (Sum.inr "n", .int num)], rfl, (by show 4 ≤ 15; decide), ?_⟩⟩
        rw [colB_merge, upd_upd]
        refine ⟨by show 1 ≤ sizeLine; decide, fun u nu => ⟨D, u, _, _, rfl, rfl, same_new nu _ _ (same_new nq _ _ hD), upd_same, ?_, fun l2 nl2 => ?_⟩⟩
        · have e : sizeLine = 16777216 := by decide
          rw [List.length_map]
          show _ + 1 ≤ _
          omega
        · have s2 : Same H1 (upd (upd (upd H1 q (.dK (colB ⟨n, gr, d, num⟩))) u (.lst [.ref q])) l2 (.lst (bs.map V.ref ++ [.ref q]))) := ((same_new nq).trans (same_new nu)).trans (same_new nl2)
          have hq : upd (upd (upd H1 q (.dK (colB ⟨n, gr, d, num⟩))) u (.lst [.ref q])) l2 (.lst (bs.map V.ref ++ [.ref q])) q = some (.dK (colB ⟨n, gr, d, num⟩)) := (same_new nl2) _ _ ((same_new nu) _ _ upd_same)
          refine ⟨_, rfl, k l2 (bs ++ [q]) _ ?_ (s1.trans s2) ?_ ?_⟩
          · exact s1.free ((same_new nq).free ((same_new nu).free nl2))
          · rw [upd_same, List.map_append]
            rfl
          · rw [behind_flat]
            exact (hbs.keep s2).app (.cons hq .nil)
      | drop _ => exact absurd (show ("drop" : Str) = "add" from hk) (by decide +kernel)
      | rename _ _ => exact absurd (show ("rename" : Str) = "add" from hk) (by decide +kernel)
      | dflt _ _ => exact absurd (show ("default" : Str) = "add" from hk) (by decide +kernel)
      | great _ _ _ => exact absurd (show ("greatest" : Str) = "add" from hk) (by decide +kernel)
      | fill _ _ => exact absurd (show ("fill" : Str) = "add" from hk) (by decide +kernel)
    · refine iteD (nes hk) (nxt ⟨_, rfl, k D bs H1 nD s1 hD ?_⟩)
      rw [behind_flat]
      cases ch with
      | add _ _ _ => exact absurd rfl hk
      | _ => exact (by show BCols H1 bs (_ ++ []); rw [List.append_nil]; exact hbs)
/-! greatest values bounded: of the first columns and of the changes, so of all columns -/
def Ch.upTo (top : Int) : Ch → Prop
  | .add _ g _ => g ≤ top
  | .great _ g _ => g ≤ top
  | _ => True
def UpTo (top : Int) (cs : List Col) (chs : List Ch) : Prop := (∀ c ∈ cs, c.top ≤ top) ∧ ∀ ch ∈ chs, ch.upTo top
theorem UpTo.mono {a b : Int} {cs : List Col} {chs : List Ch} (h : a ≤ b) (u : UpTo a cs chs) : UpTo b cs chs := ⟨fun c hc => Int.le_trans (u.1 c hc) h, fun ch hc => by
  have := u.2 ch hc
  cases ch with
  | add _ g _ => exact Int.le_trans this h
  | great _ g _ => exact Int.le_trans this h
  | _ => exact True.intro⟩

/-! _law_change: a drawn change that can be done -/
section
variable {cs : List Col} {c : Col} {n : Str} {g : Int} {d : V}
theorem hz_add (hf : n ∉ cs.map (·.name)) (hl : cs.length < 6) (hd : isIn g d = true) : hindV cs (.add n g d) = .non := by
  show addHind cs n g d = .non
  unfold addHind
  have e : cs.find? (isN n) = none := by
    rw [List.find?_eq_none]
    intro x hx hn
    exact hf (List.mem_map.mpr ⟨x, hx, of_decide_eq_true hn⟩)
  rw [e, if_neg (by decide), if_neg (by omega), if_pos hd]
theorem hz_drop (nd : (cs.map (·.name)).Nodup) (hc : c ∈ cs) (hl : 1 < cs.length) : hindV cs (.drop c.name) = .non := by
  show (match cs.find? (isN c.name) with
    | none => V.str "unknown"
    | some _ => if cs.length = 1 then .str "only" else .non) = .non
  rw [find_uniq nd hc rfl]
  exact if_neg (by omega)
theorem hz_rename (nd : (cs.map (·.name)).Nodup) (hc : c ∈ cs) (hf : n ∉ cs.map (·.name)) : hindV cs (.rename c.name n) = .non := by
  show (match cs.find? (isN c.name) with
    | none => V.str "unknown"
    | some _ => if (cs.find? (isN n)).isSome = true then V.str "alive" else .non) = .non
  rw [find_uniq nd hc rfl]
  have e : cs.find? (isN n) = none := by
    rw [List.find?_eq_none]
    intro x hx hn
    exact hf (List.mem_map.mpr ⟨x, hx, of_decide_eq_true hn⟩)
  show (if (cs.find? (isN n)).isSome = true then V.str "alive" else .non) = .non
  rw [e]
  rfl
theorem hz_dflt (nd : (cs.map (·.name)).Nodup) (hc : c ∈ cs) (hd : isIn c.top d = true) : hindV cs (.dflt c.name d) = .non := by
  show (match cs.find? (isN c.name) with
    | none => V.str "unknown"
    | some e => if isIn e.top d = true then V.non else .str "above") = .non
  rw [find_uniq nd hc rfl]
  exact if_pos hd
theorem hz_fill {i : Int} (nd : (cs.map (·.name)).Nodup) (hc : c ∈ cs) (hd : isIn c.top (.int i) = true) : hindV cs (.fill c.name i) = .non := by
  show (match cs.find? (isN c.name) with
    | none => V.str "unknown"
    | some e => if isIn e.top (.int i) = true then V.non else .str "above") = .non
  rw [find_uniq nd hc rfl]
  exact if_pos hd
theorem hz_great {way : Str} (nd : (cs.map (·.name)).Nodup) (hc : c ∈ cs) (hv : isIn c.top c.dflt = true) (hw : way = "cut" ∨ way = "none" ∨ fitV g c.dflt = true) : hindV cs (.great c.name g way) = .non := by
  show (match cs.find? (isN c.name) with
    | none => V.str "unknown"
    | some e => if chgV e.name (.great c.name g way) e.dflt = V.str "missing" then V.str "default" else .non) = .non
  rw [find_uniq nd hc rfl]
  refine if_neg fun e => ?_
  unfold chgV at e
  rw [if_pos (show (Ch.great c.name g way).name = c.name from rfl)] at e
  cases hd : c.dflt with
  | non => rw [hd] at e; cases e
  | int j =>
    rw [hd] at e hw
    have e : (if g < j then abv g way else .int j) = V.str "missing" := e
    split at e
    · rename_i q
      unfold abv at e
      rcases hw with rfl | rfl | hw
      · rw [if_pos rfl] at e
        cases e
      · rw [if_neg (by decide +kernel), if_pos rfl] at e
        cases e
      · have hw : decide (j ≤ g) = true := hw
        have := of_decide_eq_true hw
        omega
    · cases e
  | _ => rw [hd] at hv; cases hv
end
/-- two lists of names: one that does not fit into the other has a name of its own -/
theorem free_name {ws ns : List Str} (nd : ws.Nodup) (h : ns.length < ws.length) : ws.filter (fun w => decide (w ∉ ns)) ≠ [] := fun e => by
  have q : ws ⊆ ns := fun w hw => by
    have := List.filter_eq_nil_iff.mp e w hw
    simpa using this
  have := nd.length_le_of_subset q
  omega
def isFree (cs : List Col) : V → Bool
  | .str n => decide (n ∉ cs.map (·.name))
  | _ => false
theorem free_map {cs : List Col} {ws : List Str} : ((ws.map V.str).filter (isFree cs)).map (fun v => v) = (ws.filter fun w => decide (w ∉ cs.map (·.name))).map V.str := by
  rw [List.map_id', List.filter_map]
  rfl
def sp_changeL (K : PySem.W.Frag) : Sp := fun vs H Q _ => ∃ (p lc wd : Addr) (as : List Addr) (cs : List Col) (ws : List Str) (z0 z1 top num : Int), vs = [.ref p, .ref lc, .ref wd, .int top] ∧ H p = some (.lst [.int z0, .int z1]) ∧ H lc = some (.lst (as.map V.ref)) ∧ BCols H as cs ∧ H wd = some (.lst (ws.map V.str)) ∧ WordsOk ws ∧ Good cs num ∧ 1 ≤ top ∧ top ≤ 99 ∧
  ∀ (t : Addr) (ch : Ch) (y0 y1 : Int) (H' : Hp), ch.upTo top → ch.fits = true → hindV cs ch = .non → But p H H' → H' p = some (.lst [.int y0, .int y1]) → ChAt K H' t ch → Q (.ref t) H'
theorem ok_changeL (T : Tx K mg) : Callee P w K mg base CX0 3 "_law_change" ["_law_pool_here", "_law_cols", "_law_words", "_law_top"] [] (sp_changeL K) := by
  have Cp := ok_pick (P := P) (w := w) (base := base) T
  have Cd := (ok_draw (P := P) (w := w) (base := base) T).up (show 1 ≤ 2 by decide)
  have Cc := (ok_lcolumn (P := P) (w := w) (base := base) T).up (show 1 ≤ 2 by decide)
  have Cf := (ok_fits (P := P) (w := w) (base := base) T).up (show 1 ≤ 2 by decide)
  have Cs := ok_some (P := P) (w := w) (base := base) T
  refine mkCallee (fd__law_change T) (mg__law_change T) sc__law_change (fun _ _ _ _ _ _ us hl => match us, hl with | [_, _, _, _], _ => rfl) (fun vs H Q E h => ?_) (fun cdv A outer s H vs Q E hr h => ?_)
  · obtain ⟨p, lc, wd, as, cs, ws, z0, z1, top, num, rfl, _⟩ := h
    rfl
  · obtain ⟨p, lc, wd, as, cs, ws, z0, z1, top, num, rfl, hp, hl, hc, hw, W, G, t1, t9, k⟩ := h
    have nd := sc__law_change.nd
    have hu := hu_of hr
    refine ⟨_, (pss_cons (ps_set (i := 4) nd rfl (Or.inl rfl) (pcall Cp hr (pa_cons (pv 0) (pa_cons (pe_lst (pa_cons pe_str (pa_cons pe_str (pa_cons pe_str (pa_cons pe_str (pa_cons pe_str (pa_cons pe_str (pa_cons pe_str (pa_cons pe_str (pa_cons pe_str pa_nil)))))))))) pa_nil))))
        (pss_cons (ps_par (i := 5) (j := 6) rfl nd rfl rfl (by decide) rfl rfl (pa_cons (pcall Cp hr (pa_cons (pv 0) (pa_cons (pv 1) pa_nil))) (pa_cons (pe_op op_add pe_int (pcall Cd hr (pa_cons (pv 0) (pa_cons (pv 3) pa_nil)))) pa_nil)) (by rfl))
        (pss_cons (ps_setLc (i := 7) (own := [("_law_word", 9)]) (g := gName 9) (tt := tTest (tOp (fun x y H Q => y = .non ∧ Q (.bl (decide (x = .non))) H) (tCall (sp_lcolumn K) [] E0 (tCons (tVar 1) (tCons (tVar 9) tNil))) (tC .non))) (te := tVar 9) rfl nd rfl rfl (by rfl) (pi_list (pv 2)) (blkOk_by (N := ["_law_pool_here", "_law_cols", "_law_words", "_law_top", "_law_kind", "_law_col", "_law_g", "_law_free", "_law_way", "_law_word"]) (sc := defScope s__law_change) (by decide +kernel)) (fun _ _ _ _ _ => (pg_name (i := 9) nd rfl (Or.inl rfl))) (fun _ _ _ _ _ => pts_one (pt_cmpR op_isN (pcall Cc hr (pa_cons (pv 1) (pa_cons (pv 9) pa_nil))) pe_non (nomark _))) (fun _ _ _ _ _ => (pv 9)))
        (pss_cons (ps_if (PW.pt (pw_and (pt_cmpR op_eq (pv 4) pe_str (nomark _)) (pw_and1 (pt_cmpR op_lt (pe_callB call_len (by rfl) (fr_len T) PySem.boot_len (pa_cons (pv 1) pa_nil)) pe_int (nomark _))))) (pss_one (ps_ret (pe_tup (pa_cons pe_str (pa_cons (pcall Cp hr (pa_cons (pv 0) (pa_cons (pv 7) pa_nil))) (pa_cons (pv 6) (pa_cons (pcall Cs hr (pa_cons (pv 0) (pa_cons (pv 6) pa_nil))) pa_nil))))))) pss_nil)
        (pss_cons (ps_if (PW.pt (pw_and (pt_cmpR op_eq (pv 4) pe_str (nomark _)) (pw_and1 (pt_cmpR op_gt (pe_callB call_len (by rfl) (fr_len T) PySem.boot_len (pa_cons (pv 1) pa_nil)) pe_int (nomark _))))) (pss_one (ps_ret (pe_tup (pa_cons pe_str (pa_cons (pe_dget hu (pv 5) pe_str (fun _ _ => rfl)) pa_nil))))) pss_nil)
        (pss_cons (ps_if (pt_cmpR op_eq (pv 4) pe_str (nomark _)) (pss_one (ps_ret (pe_tup (pa_cons pe_str (pa_cons (pe_dget hu (pv 5) pe_str (fun _ _ => rfl)) (pa_cons (pcall Cp hr (pa_cons (pv 0) (pa_cons (pv 7) pa_nil))) pa_nil)))))) pss_nil)
        (pss_cons (ps_if (pt_cmpR op_eq (pv 4) pe_str (nomark _)) (pss_one (ps_ret (pe_tup (pa_cons pe_str (pa_cons (pe_dget hu (pv 5) pe_str (fun _ _ => rfl)) (pa_cons (pcall Cs hr (pa_cons (pv 0) (pa_cons (pe_dget hu (pv 5) pe_str (fun _ _ => rfl)) pa_nil))) pa_nil)))))) pss_nil)
        (pss_cons (ps_if (pt_cmpR op_eq (pv 4) pe_str (nomark _)) (pss_one (ps_ret (pe_tup (pa_cons pe_str (pa_cons (pe_dget hu (pv 5) pe_str (fun _ _ => rfl)) (pa_cons (pcall Cd hr (pa_cons (pv 0) (pa_cons (pe_op op_add (pe_dget hu (pv 5) pe_str (fun _ _ => rfl)) pe_int) pa_nil))) pa_nil)))))) pss_nil)
        (pss_cons (ps_set (i := 8) nd rfl (Or.inl rfl) (pcall Cp hr (pa_cons (pv 0) (pa_cons (pe_lst (pa_cons pe_str (pa_cons pe_str (pa_cons pe_str pa_nil)))) pa_nil))))
        (pss_cons (ps_if (PW.pt (pw_and (pt_cmpR op_eq (pv 8) pe_str (nomark _)) (pw_and1 (pt_not (pt_val (pcall Cf hr (pa_cons (pe_dget hu (pv 5) pe_str (fun _ _ => rfl)) (pa_cons (pv 6) pa_nil)))))))) (pss_one (ps_ret (pe_tup (pa_cons pe_str (pa_cons (pe_dget hu (pv 5) pe_str (fun _ _ => rfl)) (pa_cons (pv 6) (pa_cons pe_str pa_nil))))))) pss_nil)
        (pss_one (ps_ret (pe_tup (pa_cons pe_str (pa_cons (pe_dget hu (pv 5) pe_str (fun _ _ => rfl)) (pa_cons (pv 6) (pa_cons (pv 8) pa_nil))))))))))))))))), ?_⟩
    -- the kind
    refine q_asgX ⟨_, rfl, (by show 9 ≤ sizeLine; decide), fun l nl => ?_⟩
    refine ⟨p, l, z0, z1, _, rfl, same_new nl _ _ hp, upd_same, npool0 hp nl, (by show 0 < 9; decide), (by show 9 < 1000000; decide), fun x y0 y1 hx => ?_⟩
    have b1 : But p H (upd (upd H l (.lst [.str "add", .str "drop", .str "rename", .str "default", .str "greatest", .str "greatest", .str "greatest", .str "fill", .str "fill"])) p (.lst [.int y0, .int y1])) := (But.of (same_new nl)).trans But.mut
    have p1 : upd (upd H l (.lst [.str "add", .str "drop", .str "rename", .str "default", .str "greatest", .str "greatest", .str "greatest", .str "fill", .str "fill"])) p (.lst [.int y0, .int y1]) p = some (.lst [.int y0, .int y1]) := upd_same
    generalize upd (upd H l (.lst [.str "add", .str "drop", .str "rename", .str "default", .str "greatest", .str "greatest", .str "greatest", .str "fill", .str "fill"])) p (.lst [.int y0, .int y1]) = H1 at b1 p1
    have hx' : x = .str "add" ∨ x = .str "drop" ∨ x = .str "rename" ∨ x = .str "default" ∨ x = .str "greatest" ∨ x = .str "fill" := by
      simp only [List.mem_cons, List.not_mem_nil, or_false] at hx
      rcases hx with h | h | h | h | h | h | h | h | h <;> simp [h]
    clear hx
    have l1 := refsL_but hp b1 hl
    have c1 := hc.but hp b1
    have w1 := strsL_but hp b1 hw
    dsimp only
    have nlp : lc ≠ p := fun e => by
      rw [e, p1] at l1
      exact refs_no (HO.lst.inj (Option.some.inj l1)).symm
    have G1 := G.one
    have G6 := G.six
    have cl := c1.len
    -- the column and the greatest
    refine ⟨_, rfl, _, rfl, p, lc, y0, y1, _, rfl, p1, l1, nlp, by rw [List.length_map]; omega, by rw [List.length_map]; omega, fun xc v0 v1 hxc => ⟨_, rfl, _, rfl, p, v0, v1, top, rfl, upd_same, by omega, by omega, fun g u0 u1 g0 g1 => ⟨_, _, rfl, rfl, _, _, rfl, ?_⟩⟩⟩
    rw [upd_upd]
    have bb : But p H1 (upd H1 p (.lst [.int u0, .int u1])) := But.mut
    have b2 := b1.trans bb
    have p2 : upd H1 p (.lst [.int u0, .int u1]) p = some (.lst [.int u0, .int u1]) := upd_same
    have l2 := refsL_but p1 bb l1
    have c2 := c1.but p1 bb
    have w2 := strsL_but p1 bb w1
    generalize upd H1 p (.lst [.int u0, .int u1]) = H2 at b2 p2 l2 c2 w2 ⊢
    clear bb p1 l1 c1 w1 b1
    obtain ⟨a, ha, rfl⟩ := List.mem_map.mp hxc
    obtain ⟨j, hj⟩ := List.mem_iff_getElem?.mp ha
    obtain ⟨c, hcj, hca⟩ := c2.at_ hj
    have hcm := List.mem_of_getElem? hcj
    have okc := (G.ok c hcm).1
    dsimp only
    -- the free words
    refine q_asgX (tlc_L (xs := ws.map V.str) (isFree cs) (fun v => v) (fun R h => ⟨_, rfl, h wd H2 (Same.refl _) (sqL_of w2)⟩) (by rw [List.length_map, W.len]; decide) (fun _ => rfl) (fun x hx H' s' R h => ?_) (fun x hx _ H' s' R h => ⟨_, rfl, h H' (Same.refl _)⟩) fun D H3 nD s3 hD => ?_)
    · obtain ⟨n, hn, rfl⟩ := List.mem_map.mp hx
      refine ⟨_, rfl, _, rfl, lc, as, cs, n, rfl, sqL_of (s' _ _ l2), c2.keep s', by omega, fun v H4 s4 hv => ⟨rfl, _, rfl, ?_⟩⟩
      have e : decide (v = V.non) = isFree cs (.str n) := decide_eq_decide.mpr hv
      rw [e]
      exact h H4 s4
    have p3 := s3 _ _ p2
    have l3 := s3 _ _ l2
    have w3 := s3 _ _ w2
    have c3 := c2.keep s3
    have a3 := s3 _ _ hca
    have b3 := b2.trans (But.of s3)
    rw [free_map] at hD
    have hfr : (ws.filter fun w => decide (w ∉ cs.map (·.name))) ≠ [] := free_name W.nd (by rw [List.length_map, W.len]; omega)
    have hfm : ∀ n ∈ ws.filter (fun w => decide (w ∉ cs.map (·.name))), isNm (.str n) = true ∧ n ∉ cs.map (·.name) := fun n hn => by
      obtain ⟨h1, h2⟩ := List.mem_filter.mp hn
      exact ⟨W.nm n h1, of_decide_eq_true h2⟩
    have hfw : (ws.filter fun w => decide (w ∉ cs.map (·.name))).length ≤ 9 := by
      rw [← W.len]
      exact List.length_filter_le _ _
    generalize (ws.filter fun w => decide (w ∉ cs.map (·.name))) = fs at hD hfr hfm hfw
    have nDp : D ≠ p := npool0 p2 nD
    have hfl : 0 < (fs.map V.str).length := by
      rw [List.length_map]
      exact List.length_pos_iff.mpr hfr
    have hfl2 : (fs.map V.str).length < 1000000 := by
      rw [List.length_map]
      omega
    clear s3 c2 w2 l2 hca p2 b2 nD
    obtain ⟨z, rfl, hz⟩ : ∃ z : Str, x = .str z ∧ (z = "add" ∨ z = "drop" ∨ z = "rename" ∨ z = "default" ∨ z = "greatest" ∨ z = "fill") := by
      rcases hx' with h | h | h | h | h | h <;> exact ⟨_, h, by simp⟩
    clear hx'
    have vn : isNm (.str c.name) = true := okc.nm
    have hdv : valOk c.dflt = true := by
      have := okc.df
      cases hd : c.dflt with
      | non => rfl
      | int _ => rfl
      | _ => rw [hd] at this; cases this
    -- add
    refine s_seq (fun σ' H' => σ' = [some (.ref p), some (.ref lc), some (.ref wd), some (.int top), some (.str z), some (.ref a), some (.int (1 + g)), some (.ref D), none, none] ∧ H' = H3) ?_ ?_
    rotate_left
    · intro kk
      by_cases hk : z = "add"
      · refine ⟨_, rfl, rfl, _, rfl, iteDT (by rw [hk]) ⟨_, rfl, _, as.length, rfl, .inl ⟨_, sqL_of l3, by rw [List.length_map]⟩, _, _, rfl, rfl, _, rfl, ?_⟩⟩
        by_cases h4 : (as.length : Int) < 4
        · rw [decide_eq_true h4]
          refine iteT ⟨_, rfl, _, rfl, p, D, u0, u1, _, rfl, p3, hD, nDp, hfl, hfl2, fun xn v0 v1 hxn => ⟨_, rfl, _, rfl, _, rfl, p, v0, v1, 1 + g, rfl, upd_same, by omega, by omega, fun v q0 q1 H5 hv b5 p5 => ⟨(by show 4 ≤ sizeLine; decide), fun t nt => ?_⟩⟩⟩
          obtain ⟨n, hn, rfl⟩ := List.mem_map.mp hxn
          refine k t (.add n (1 + g) v) q0 q1 _ (by show 1 + g ≤ top; omega) ?_ (hz_add (hfm n hn).2 (by omega) hv) (((b3.trans But.mut).trans b5).trans (But.of (same_new nt))) (same_new nt _ _ p5) (sqT_of upd_same)
          show (isNm (.str n) && ((decide (1 ≤ 1 + g) && decide (1 + g ≤ 99)) && isVal v)) = true
          rw [(hfm n hn).1, in_val hv, decide_eq_true (by omega), decide_eq_true (by omega)]
          rfl
        · rw [decide_eq_false h4]
          exact iteF (kk _ _ ⟨rfl, rfl⟩)
      · exact ⟨_, rfl, rfl, _, rfl, iteD (nes hk) (iteF (kk _ _ ⟨rfl, rfl⟩))⟩
    intro σ' H' ⟨e1, e2⟩
    rw [e1, e2]
    clear e1 e2
    have gr : 1 ≤ c.top ∧ c.top ≤ 99 := by
      have q : (decide (1 ≤ c.top) && decide (c.top ≤ 99)) = true := okc.gr
      rw [Bool.and_eq_true] at q
      exact ⟨of_decide_eq_true q.1, of_decide_eq_true q.2⟩
    have gr1 := gr.1
    have gr2 := gr.2
    have nap : a ≠ p := fun e => by
      rw [e, p3] at a3
      cases a3
    -- drop
    refine s_seq (fun σ' H' => σ' = [some (.ref p), some (.ref lc), some (.ref wd), some (.int top), some (.str z), some (.ref a), some (.int (1 + g)), some (.ref D), none, none] ∧ H' = H3) ?_ ?_
    rotate_left
    · intro kk
      by_cases hk : z = "drop"
      · refine ⟨_, rfl, rfl, _, rfl, iteDT (by rw [hk]) ⟨_, rfl, _, as.length, rfl, .inl ⟨_, sqL_of l3, by rw [List.length_map]⟩, _, _, rfl, rfl, _, rfl, ?_⟩⟩
        by_cases h1 : (1 : Int) < as.length
        · rw [decide_eq_true h1]
          refine iteT ⟨_, rfl, a, _, rfl, bc_name a3, (by show 2 ≤ sizeLine; decide), fun t nt => ?_⟩
          exact k t (.drop c.name) u0 u1 _ True.intro vn (hz_drop G.names hcm (by omega)) (b3.trans (But.of (same_new nt))) (same_new nt _ _ p3) (sqT_of upd_same)
        · rw [decide_eq_false h1]
          exact iteF (kk _ _ ⟨rfl, rfl⟩)
      · exact ⟨_, rfl, rfl, _, rfl, iteD (nes hk) (iteF (kk _ _ ⟨rfl, rfl⟩))⟩
    intro σ' H' ⟨e1, e2⟩
    rw [e1, e2]
    clear e1 e2
    -- rename
    by_cases hk : z = "rename"
    · refine ⟨_, rfl, rfl, _, rfl, iteDT (by rw [hk]) ⟨_, rfl, a, _, rfl, bc_name a3, _, rfl, _, rfl, p, D, u0, u1, _, rfl, p3, hD, nDp, hfl, hfl2, fun xn v0 v1 hxn => ⟨(by show 3 ≤ sizeLine; decide), fun t nt => ?_⟩⟩⟩
      obtain ⟨n, hn, rfl⟩ := List.mem_map.mp hxn
      refine k t (.rename c.name n) v0 v1 _ True.intro ?_ (hz_rename G.names hcm (hfm n hn).2) ((b3.trans But.mut).trans (But.of (same_new nt))) (same_new nt _ _ upd_same) (sqT_of upd_same)
      show (isNm (.str c.name) && isNm (.str n)) = true
      rw [vn, (hfm n hn).1]
      rfl
    refine ⟨_, rfl, rfl, _, rfl, iteD (nes hk) (nxt ?_)⟩
    -- default
    by_cases hk2 : z = "default"
    · refine ⟨_, rfl, rfl, _, rfl, iteDT (by rw [hk2]) ⟨_, rfl, a, _, rfl, bc_name a3, _, rfl, _, rfl, a, _, rfl, bc_g a3, p, u0, u1, c.top, rfl, p3, by omega, by omega, fun v q0 q1 H5 hv b5 p5 => ⟨(by show 3 ≤ sizeLine; decide), fun t nt => ?_⟩⟩⟩
      refine k t (.dflt c.name v) q0 q1 _ True.intro ?_ (hz_dflt G.names hcm hv) ((b3.trans b5).trans (But.of (same_new nt))) (same_new nt _ _ p5) (sqT_of upd_same)
      show (isNm (.str c.name) && isVal v) = true
      rw [vn, in_val hv]
      rfl
    refine ⟨_, rfl, rfl, _, rfl, iteD (nes hk2) (nxt ?_)⟩
    -- fill
    by_cases hk3 : z = "fill"
    · refine ⟨_, rfl, rfl, _, rfl, iteDT (by rw [hk3]) ⟨_, rfl, a, _, rfl, bc_name a3, _, rfl, _, rfl, a, _, rfl, bc_g a3, _, _, rfl, rfl, p, u0, u1, _, rfl, p3, by omega, by omega, fun r q0 q1 r0 r1 => ⟨(by show 3 ≤ sizeLine; decide), fun t nt => ?_⟩⟩⟩
      refine k t (.fill c.name r) q0 q1 _ True.intro ?_ (hz_fill G.names hcm ?_) ((b3.trans But.mut).trans (But.of (same_new nt))) (same_new nt _ _ upd_same) (sqT_of upd_same)
      · show (isNm (.str c.name) && decide (0 ≤ r)) = true
        rw [vn, decide_eq_true r0]
        rfl
      · show (decide (0 ≤ r) && decide (r ≤ c.top)) = true
        rw [decide_eq_true r0, decide_eq_true (by omega)]
        rfl
    refine ⟨_, rfl, rfl, _, rfl, iteD (nes hk3) (nxt ?_)⟩
    -- greatest
    dsimp only
    refine q_asgX ⟨_, rfl, (by show 3 ≤ sizeLine; decide), fun l2 nl2 => ⟨p, l2, u0, u1, _, rfl, same_new nl2 _ _ p3, upd_same, npool0 p3 nl2, (by show 0 < 3; decide), (by show 3 < 1000000; decide), fun xw q0 q1 hxw => ?_⟩⟩
    have bb : But p H3 (upd (upd H3 l2 (.lst [.str "cut", .str "none", .str "refuse"])) p (.lst [.int q0, .int q1])) := (But.of (same_new nl2)).trans But.mut
    have p4 : upd (upd H3 l2 (.lst [.str "cut", .str "none", .str "refuse"])) p (.lst [.int q0, .int q1]) p = some (.lst [.int q0, .int q1]) := upd_same
    have a4 := bb _ _ nap a3
    have b4 := b3.trans bb
    generalize upd (upd H3 l2 (.lst [.str "cut", .str "none", .str "refuse"])) p (.lst [.int q0, .int q1]) = H4 at b4 p4 a4 ⊢
    clear bb
    obtain ⟨wy, rfl, hwy⟩ : ∃ wy : Str, xw = .str wy ∧ (wy = "cut" ∨ wy = "none" ∨ wy = "refuse") := by
      simp only [List.mem_cons, List.not_mem_nil, or_false] at hxw
      rcases hxw with h | h | h <;> exact ⟨_, h, by simp⟩
    have hgr : ∀ (t : Addr) (way : Str), isWy way = true → (way = "cut" ∨ way = "none" ∨ fitV (1 + g) c.dflt = true) → H4 t = none → Q (.ref t) (upd H4 t (.tup [.str "greatest", .str c.name, .int (1 + g), .str way])) := fun t way hw hv nt => by
      refine k t (.great c.name (1 + g) way) q0 q1 _ (by show 1 + g ≤ top; omega) ?_ (hz_great G.names hcm okc.df hv) (b4.trans (But.of (same_new nt))) (same_new nt _ _ p4) (sqT_of upd_same)
      show (isNm (.str c.name) && ((decide (1 ≤ 1 + g) && decide (1 + g ≤ 99)) && isWy way)) = true
      rw [vn, hw, decide_eq_true (by omega), decide_eq_true (by omega)]
      rfl
    have hwi : isWy wy = true := by
      rcases hwy with rfl | rfl | rfl <;> decide +kernel
    dsimp only
    refine s_seq (fun σ' H' => (wy = "cut" ∨ wy = "none" ∨ fitV (1 + g) c.dflt = true) ∧ σ' = [some (.ref p), some (.ref lc), some (.ref wd), some (.int top), some (.str z), some (.ref a), some (.int (1 + g)), some (.ref D), some (.str wy), none] ∧ H' = H4) ?_ ?_
    rotate_left
    · intro kk
      by_cases hr2 : wy = "refuse"
      · refine ⟨_, rfl, rfl, _, rfl, iteDT (by rw [hr2]) ⟨_, rfl, a, _, rfl, bc_d a4, _, rfl, c.dflt, 1 + g, rfl, hdv, _, rfl, ?_⟩⟩
        cases hfv : fitV (1 + g) c.dflt with
        | true => exact iteF (kk _ _ ⟨.inr (.inr hfv), rfl, rfl⟩)
        | false =>
          refine iteT ⟨_, rfl, a, _, rfl, bc_name a4, _, rfl, (by show 4 ≤ sizeLine; decide), fun t nt => ?_⟩
          exact hgr t "cut" (by decide +kernel) (.inl rfl) nt
      · refine ⟨_, rfl, rfl, _, rfl, iteD (nes hr2) (iteF (kk _ _ ⟨?_, rfl, rfl⟩))⟩
        rcases hwy with h | h | h
        · exact .inl h
        · exact .inr (.inl h)
        · exact absurd h hr2
    intro σ' H' ⟨hv, e1, e2⟩
    rw [e1, e2]
    refine ⟨_, rfl, a, _, rfl, bc_name a4, _, rfl, _, rfl, (by show 4 ≤ sizeLine; decide), fun t nt => ?_⟩
    exact hgr t wy hwi hv nt
/-! _law_longer: the history with one change more -/
def sp_longer (K : PySem.W.Frag) : Sp := fun vs H Q _ => ∃ (h t : Addr) (cs : List Col) (chs : List Ch) (ws : List Str) (ch : Ch), vs = [.ref h, .ref t] ∧ BhAt K H h cs chs ws ∧ ChAt K H t ch ∧ Good (atC cs chs).1 (atC cs chs).2 ∧ ch.fits = true ∧ hindV (atC cs chs).1 ch = .non ∧ chs.length ≤ 1000 ∧
  ∀ (h' : Addr) (H' : Hp), H h' = none → Same H H' → BhAt K H' h' cs (chs ++ [ch]) ws → Q (.ref h') H'
theorem ok_longer (T : Tx K mg) : Callee P w K mg base CX0 5 "_law_longer" ["_law_h", "_law_change_here"] [] (sp_longer K) := by
  have Cs := ok_sheet_after (P := P) (w := w) (base := base) T
  refine mkCallee (fd__law_longer T) (mg__law_longer T) sc__law_longer (fun _ _ _ _ _ _ us hl => match us, hl with | [_, _], _ => rfl) (fun vs H Q E h => ?_) (fun cdv A outer s H vs Q E hr h => ?_)
  · obtain ⟨h, t, cs, chs, ws, ch, rfl, _⟩ := h
    rfl
  · obtain ⟨h, t, cs, chs, ws, ch, rfl, hh, ht, g, hf, hz, few, k⟩ := h
    have nd := sc__law_longer.nd
    have hu := hu_of hr
    refine ⟨_, (pss_cons (ps_set (i := 2) nd rfl (Or.inl rfl) (pe_callTy call_dictD (by rfl) (fr_dict T) (by decide +kernel) (pa_cons (pv 0) pa_nil)))
        (pss_cons (ps_dput hu (pv 2) pe_str (pe_op op_cat (pe_dget hu (pv 0) pe_str (fun _ _ => rfl)) (pe_lst (pa_cons (pcall Cs hr (pa_cons (pe_ix ix_list (pe_dget hu (pv 0) pe_str (fun _ _ => rfl)) (pe_un un_neg pe_int) (fun _ _ => rfl)) (pa_cons (pv 1) (pa_cons (pe_dget hu (pv 0) pe_str (fun _ _ => rfl)) pa_nil)))) pa_nil))) rfl)
        (pss_cons (ps_dput hu (pv 2) pe_str (pe_op op_cat (pe_dget hu (pv 0) pe_str (fun _ _ => rfl)) (pe_lst (pa_cons (pv 1) pa_nil))) rfl)
        (pss_cons (ps_dput hu (pv 2) pe_str (pe_op op_add (pe_dget hu (pv 0) pe_str (fun _ _ => rfl)) (pe_callTy call_int1 (by rfl) (fr_int T) (by decide +kernel) (pa_cons (pe_cmpR op_eq (pe_ix ix_tup (pv 1) pe_int (fun _ _ => rfl)) pe_str (nomark _)) pa_nil))) rfl)
        (pss_one (ps_ret (pv 2))))))), ?_⟩
    have hsl : sizeLine = 16777216 := by decide
    obtain ⟨sh, cg, wd, es, ts, h1, h2, h3, h4, h5, h6⟩ := id hh
    have hel : es.length = chs.length + 1 := by rw [h3.1, edsTo_len]
    have htl : ts.length = chs.length := h5.len
    have hem : es[chs.length]? = some (es[chs.length]'(by omega)) := List.getElem?_eq_getElem (by omega)
    obtain ⟨as, hea, hec⟩ := h3.2 _ _ _ hem (edsTo_get (by omega))
    rw [List.take_length] at hec
    refine q_asgX ⟨_, rfl, h, _, rfl, .inl h1, fun q nq => ?_⟩
    have s1 : Same H (upd H q (.dK (bhDict sh cg (atC cs chs).2 wd))) := same_new nq
    have hq1 : upd H q (.dK (bhDict sh cg (atC cs chs).2 wd)) q = some (.dK (bhDict sh cg (atC cs chs).2 wd)) := upd_same
    generalize upd H q (.dK (bhDict sh cg (atC cs chs).2 wd)) = H1 at s1 hq1 ⊢
    refine ⟨_, rfl, h, _, rfl, bh_sheets (s1 _ _ h1), _, rfl, h, _, rfl, bh_sheets (s1 _ _ h1), 1, rfl, sh, _, -1, _, rfl, rfl, sqL_of (s1 _ _ h2), at_last hel hem, _, rfl, _, rfl, h, _, rfl, bh_given (s1 _ _ h1), _, t, as, (atC cs chs).1, ch, (atC cs chs).2, rfl, sqL_of (s1 _ _ hea), hec.keep s1, ht.keep s1, g, hf, hz, fun l al H2 nl s2 hl hal => ⟨by show 1 ≤ sizeLine; decide, fun u nu => ?_⟩⟩
    have s12 := s1.trans s2
    have s3 : Same H2 (upd H2 u (.lst [.ref l])) := same_new nu
    refine ⟨sh, u, _, _, rfl, rfl, s3 _ _ (s12 _ _ h2), upd_same, ?_, fun p1 np1 => ?_⟩
    · rw [List.length_map]
      show es.length + 1 ≤ _
      omega
    have s4 : Same H (upd (upd H2 u (.lst [.ref l])) p1 (.lst (es.map V.ref ++ [.ref l]))) := (s12.trans s3).trans (same_new np1)
    have hq4 : upd (upd H2 u (.lst [.ref l])) p1 (.lst (es.map V.ref ++ [.ref l])) q = some (.dK (bhDict sh cg (atC cs chs).2 wd)) := (same_new np1) _ _ (s3 _ _ (s2 _ _ hq1))
    have hp1 : upd (upd H2 u (.lst [.ref l])) p1 (.lst (es.map V.ref ++ [.ref l])) p1 = some (.lst ((es ++ [l]).map V.ref)) := by rw [upd_same, List.map_append]; rfl
    have hl4 : upd (upd H2 u (.lst [.ref l])) p1 (.lst (es.map V.ref ++ [.ref l])) l = some (.lst (al.map V.ref)) := (same_new np1) _ _ (s3 _ _ hl)
    have hal4 : BCols (upd (upd H2 u (.lst [.ref l])) p1 (.lst (es.map V.ref ++ [.ref l]))) al (behind (atC cs chs).1 ch (atC cs chs).2) := (hal.keep s3).keep (same_new np1)
    generalize upd (upd H2 u (.lst [.ref l])) p1 (.lst (es.map V.ref ++ [.ref l])) = H4 at s4 hq4 hp1 hl4 hal4 ⊢
    refine ⟨_, rfl, q, _, rfl, DPut.k (k := Sum.inr "sheets") hq4 (by show 4 < sizeLine; decide), ?_⟩
    rw [(bh_put sh cg _ wd).1 p1]
    -- behind the sheets
    have nq0 : ∀ b o, H b = some o → b ≠ q := fun b o e => ne_of_none e nq
    have n1q : p1 ≠ q := fun z => by rw [z, hq4] at hp1; cases hp1
    have nlq : l ≠ q := fun z => by rw [z, hq4] at hl4; cases hl4
    have S5 : Same H (upd H4 q (.dK (bhDict p1 cg (atC cs chs).2 wd))) := same_mut s4 nq
    have kt5 : KeepT H4 (upd H4 q (.dK (bhDict p1 cg (atC cs chs).2 wd))) := KeepT.dct hq4
    have hp5 : upd H4 q (.dK (bhDict p1 cg (atC cs chs).2 wd)) p1 = some (.lst ((es ++ [l]).map V.ref)) := by rw [upd_ne n1q]; exact hp1
    have hl5 : upd H4 q (.dK (bhDict p1 cg (atC cs chs).2 wd)) l = some (.lst (al.map V.ref)) := by rw [upd_ne nlq]; exact hl4
    have hal5 : BCols (upd H4 q (.dK (bhDict p1 cg (atC cs chs).2 wd))) al (behind (atC cs chs).1 ch (atC cs chs).2) := by
      have : ∀ {as : List Addr} {ds : List Col}, BCols H4 as ds → BCols (upd H4 q (.dK (bhDict p1 cg (atC cs chs).2 wd))) as ds := by
        intro as ds b
        induction b with
        | nil => exact .nil
        | @cons a' as' c' cs' ha hb ih =>
          refine .cons ?_ ih
          rw [upd_ne (fun z => by
            rw [z, hq4] at ha
            have e := congrArg (fun o : HO => match o with | .dK kvs => valV kvs (Sum.inr "name") | _ => none) (Option.some.inj ha)
            have e1 : valV (bhDict sh cg (atC cs chs).2 wd) (Sum.inr "name") = valV (colB c') (Sum.inr "name") := e
            rw [(colB_vals c').1] at e1
            have z1 : ¬ ((Sum.inr "sheets" : Key) = (Sum.inr "name" : Key)) := by decide +kernel
            have z2 : ¬ ((Sum.inr "changes" : Key) = (Sum.inr "name" : Key)) := by decide +kernel
            have z3 : ¬ ((Sum.inr "given" : Key) = (Sum.inr "name" : Key)) := by decide +kernel
            have z4 : ¬ ((Sum.inr "words" : Key) = (Sum.inr "name" : Key)) := by decide +kernel
            simp [bhDict, valV, z1, z2, z3, z4] at e1)]
          exact ha
      exact this hal4
    have hq5 : upd H4 q (.dK (bhDict p1 cg (atC cs chs).2 wd)) q = some (.dK (bhDict p1 cg (atC cs chs).2 wd)) := upd_same
    generalize upd H4 q (.dK (bhDict p1 cg (atC cs chs).2 wd)) = H5 at S5 kt5 hp5 hl5 hal5 hq5 ⊢
    refine ⟨_, rfl, h, _, rfl, bh_changes (S5 _ _ h1), _, rfl, by show 1 ≤ sizeLine; decide, fun u2 nu2 => ?_⟩
    refine ⟨cg, u2, _, _, rfl, rfl, (same_new nu2) _ _ (S5 _ _ h4), upd_same, ?_, fun p2 np2 => ?_⟩
    · rw [List.length_map]
      show ts.length + 1 ≤ _
      omega
    have s6 : Same H5 (upd (upd H5 u2 (.lst [.ref t])) p2 (.lst (ts.map V.ref ++ [.ref t]))) := (same_new nu2).trans (same_new np2)
    have hp2 : upd (upd H5 u2 (.lst [.ref t])) p2 (.lst (ts.map V.ref ++ [.ref t])) p2 = some (.lst ((ts ++ [t]).map V.ref)) := by rw [upd_same, List.map_append]; rfl
    generalize upd (upd H5 u2 (.lst [.ref t])) p2 (.lst (ts.map V.ref ++ [.ref t])) = H6 at s6 hp2 ⊢
    have hq6 := s6 _ _ hq5
    refine ⟨_, rfl, q, _, rfl, DPut.k (k := Sum.inr "changes") hq6 (by show 4 < sizeLine; decide), ?_⟩
    rw [(bh_put p1 cg _ wd).2.1 p2]
    have S7 : Same H (upd H6 q (.dK (bhDict p1 p2 (atC cs chs).2 wd))) := same_mut (S5.trans s6) nq
    refine ⟨_, rfl, h, _, rfl, bh_given (S7 _ _ h1), _, rfl, t, _, 0, _, rfl, rfl, ht.keep S7, ch.at0, rfl, .inr ⟨_, rfl, _, _, rfl, rfl, _, rfl, q, _, rfl, DPut.k (k := Sum.inr "given") upd_same (by show 4 < sizeLine; decide), ?_⟩⟩
    rw [(bh_put p1 p2 _ wd).2.2, upd_upd]
    have hv : (atC cs chs).2 + (if decide (V.str ch.kind = V.str "add") = true then 1 else 0) = (atC cs (chs ++ [ch])).2 := by
      rw [atC_app]
      by_cases hk : ch.kind = "add"
      · rw [if_pos (decide_eq_true (by rw [hk])), kind_add hk]
      · rw [if_neg (by rw [decide_eq_false (nes hk)]; decide), kind_noadd hk, Int.add_zero]
    rw [hv]
    have S8 : Same H (upd H6 q (.dK (bhDict p1 p2 (atC cs (chs ++ [ch])).2 wd))) := same_mut (S5.trans s6) nq
    have up : ∀ {b : Addr} {zs : List V}, H6 b = some (.lst zs) → upd H6 q (.dK (bhDict p1 p2 (atC cs (chs ++ [ch])).2 wd)) b = some (.lst zs) := fun {b zs} e => by
      rw [upd_ne (fun z => by rw [z, hq6] at e; cases e)]
      exact e
    refine ⟨_, rfl, k q _ nq S8 ⟨p1, p2, wd, es ++ [l], ts ++ [t], upd_same, up (s6 _ _ hp5), ?_, up hp2, ?_, S8 _ _ h6⟩⟩
    · rw [edsTo_app]
      refine ⟨by rw [List.length_append, List.length_append, h3.1]; rfl, fun i e ci hi hci => ?_⟩
      by_cases hil : i < es.length
      · rw [List.getElem?_append_left hil] at hi
        rw [List.getElem?_append_left (by rw [← h3.1]; exact hil)] at hci
        obtain ⟨as', k1, k2⟩ := h3.2 i e ci hi hci
        exact ⟨as', S8 _ _ k1, k2.keep S8⟩
      · have hie : i = es.length := by
          have h := (List.getElem?_eq_some_iff.mp hi).1
          rw [List.length_append] at h
          have : [l].length = 1 := rfl
          omega
        subst hie
        rw [List.getElem?_append_right (Nat.le_refl _), Nat.sub_self] at hi
        obtain rfl := Option.some.inj hi
        rw [List.getElem?_append_right (by rw [h3.1]; exact Nat.le_refl _), h3.1, Nat.sub_self] at hci
        obtain rfl := Option.some.inj hci
        refine ⟨al, up (s6 _ _ hl5), ?_⟩
        have b6 := hal5.keep s6
        have : ∀ {as : List Addr} {ds : List Col}, BCols H6 as ds → BCols (upd H6 q (.dK (bhDict p1 p2 (atC cs (chs ++ [ch])).2 wd))) as ds := by
          intro as ds b
          induction b with
          | nil => exact .nil
          | @cons a' as' c' cs' ha hb ih =>
            refine .cons ?_ ih
            rw [upd_ne (fun z => by
              rw [z, hq6] at ha
              have e := congrArg (fun o : HO => match o with | .dK kvs => valV kvs (Sum.inr "name") | _ => none) (Option.some.inj ha)
              have e1 : valV (bhDict p1 cg (atC cs chs).2 wd) (Sum.inr "name") = valV (colB c') (Sum.inr "name") := e
              rw [(colB_vals c').1] at e1
              have z1 : ¬ ((Sum.inr "sheets" : Key) = (Sum.inr "name" : Key)) := by decide +kernel
              have z2 : ¬ ((Sum.inr "changes" : Key) = (Sum.inr "name" : Key)) := by decide +kernel
              have z3 : ¬ ((Sum.inr "given" : Key) = (Sum.inr "name" : Key)) := by decide +kernel
              have z4 : ¬ ((Sum.inr "words" : Key) = (Sum.inr "name" : Key)) := by decide +kernel
              simp [bhDict, valV, z1, z2, z3, z4] at e1)]
            exact ha
        exact this b6
    · exact (h5.keep S8).app (.cons (ht.keep S8) .nil)
/-! _law_history of the second set: drawn, each change one that can be done -/
def sp_historyL (K : PySem.W.Frag) : Sp := fun vs H Q _ => ∃ (p : Addr) (z0 z1 m top many : Int), vs = [.ref p, .int m, .int top, .int many] ∧ H p = some (.lst [.int z0, .int z1]) ∧ 1 ≤ m ∧ m ≤ 6 ∧ 1 ≤ top ∧ top ≤ 99 ∧ 0 ≤ many ∧ many ≤ 40 ∧
  ∀ (h : Addr) (cs : List Col) (chs : List Ch) (ws : List Str) (y0 y1 : Int) (H' : Hp), But p H H' → H' p = some (.lst [.int y0, .int y1]) → BhAt K H' h cs chs ws → WordsOk ws → HistOk cs chs → (chs.length : Int) ≤ many → ((cs.length : Int) ≤ m ∧ UpTo top cs chs) → Q (.ref h) H'
theorem ok_historyL (T : Tx K mg) : Callee P w K mg base CX0 6 "_law_history" ["_law_pool_here", "_law_most", "_law_top", "_law_many"] [] (sp_historyL K) := by
  have Ccs := (ok_columnsL (P := P) (w := w) (base := base) T).up (show 4 ≤ 5 by decide)
  have Cd := (ok_draw (P := P) (w := w) (base := base) T).up (show 1 ≤ 5 by decide)
  have Cc := (ok_changeL (P := P) (w := w) (base := base) T).up (show 3 ≤ 5 by decide)
  have Cl := ok_longer (P := P) (w := w) (base := base) T
  refine mkCallee (fd__law_history T) (mg__law_history T) sc__law_history (fun _ _ _ _ _ _ us hl => match us, hl with | [_, _, _, _], _ => rfl) (fun vs H Q E h => ?_) (fun cdv A outer s H vs Q E hr h => ?_)
  · obtain ⟨p, z0, z1, m, top, many, rfl, _⟩ := h
    rfl
  · obtain ⟨p, z0, z1, m, top, many, rfl, hp, m1, m6, t1, t9, n0, n4, k⟩ := h
    have nd := sc__law_history.nd
    have hu := hu_of hr
    refine ⟨_, (pss_cons (ps_asg (pcall Ccs hr (pa_cons (pv 0) (pa_cons (pv 1) (pa_cons (pv 2) pa_nil)))) (pg_lst rfl (pgs_cons (pg_name (i := 4) nd rfl (Or.inl rfl)) (pgs_cons (pg_name (i := 5) nd rfl (Or.inl rfl)) pgs_nil))))
        (pss_cons (ps_set (i := 6) nd rfl (Or.inl rfl) (pe_disp (pps_cons pe_str (pe_lst (pa_cons (pv 4) pa_nil)) (pps_cons pe_str (pe_lst pa_nil) (pps_cons pe_str (pe_callB call_len (by rfl) (fr_len T) PySem.boot_len (pa_cons (pv 4) pa_nil)) (pps_cons pe_str (pv 5) pps_nil)))) (by rfl) (by rfl) (fun z => by cases z) (by decide)))
        (pss_cons (ps_for PassesOwn.never rfl (pi_range1 (by rfl) (fr_range T) (pa_cons (pcall Cd hr (pa_cons (pv 0) (pa_cons (pe_op op_add (pv 3) pe_int) pa_nil))) pa_nil)) (pg_name (i := 7) nd rfl (Or.inl rfl)) (pss_one (ps_set (i := 6) nd rfl (Or.inl rfl) (pcall Cl hr (pa_cons (pv 6) (pa_cons (pcall Cc hr (pa_cons (pv 0) (pa_cons (pe_ix ix_list (pe_dget hu (pv 6) pe_str (fun _ _ => rfl)) (pe_un un_neg pe_int) (fun _ _ => rfl)) (pa_cons (pv 5) (pa_cons (pv 2) pa_nil))))) pa_nil))))))
        (pss_one (ps_ret (pv 6)))))), ?_⟩
    have hsl : sizeLine = 16777216 := by decide
    refine ⟨_, rfl, _, rfl, _, rfl, p, z0, z1, m, top, rfl, hp, m1, m6, t1, t9, fun r l wd as cs ws y0 y1 H1 b1 p1 r1 l1 c1 w1 W pl G lm => ⟨r, _, rfl, sqL_of r1, rfl, _, _, rfl, _, _, rfl, rfl, ?_⟩⟩
    dsimp only
    refine q_asgX fun q nq => ?_
    have G1 := G.one
    have G6 := G.six
    have cl := c1.len
    have sq : Same H1 (upd H1 q (.dK [])) := same_new nq
    have q1 : upd H1 q (.dK []) q = some (.dK []) := upd_same
    generalize upd H1 q (.dK []) = H2 at sq q1 ⊢
    refine ⟨_, rfl, by show 1 ≤ sizeLine; decide, fun sh nsh => ⟨by show 0 ≤ sizeLine; decide, fun ca nca => ?_⟩⟩
    have s2 : Same H2 (upd (upd H2 sh (.lst [.ref l])) ca (.lst [])) := (same_new nsh).trans (same_new nca)
    have sh2 : upd (upd H2 sh (.lst [.ref l])) ca (.lst []) sh = some (.lst [.ref l]) := same_new nca _ _ upd_same
    have ca2 : upd (upd H2 sh (.lst [.ref l])) ca (.lst []) ca = some (.lst []) := upd_same
    have s12 := sq.trans s2
    refine ⟨_, rfl, _, as.length, rfl, .inl ⟨_, sqL_of (s12 _ _ l1), by rw [List.length_map]⟩, _, rfl, s2 _ _ q1, [(Sum.inr "sheets", .ref sh), (Sum.inr "changes", .ref ca), (Sum.inr "given", .int (as.length : Nat)), (Sum.inr "words", .ref wd)], rfl, by show 4 ≤ 15; decide, ?_⟩
    rw [bh_merge]
    have b13 : But p H1 (upd (upd (upd H2 sh (.lst [.ref l])) ca (.lst [])) q (.dK (bhDict sh ca as.length wd))) := fun b o hb e => by
      rw [upd_ne (ne_of_none e nq)]
      exact s12 _ _ e
    have qp : q ≠ p := npool0 p1 nq
    have p3 : upd (upd (upd H2 sh (.lst [.ref l])) ca (.lst [])) q (.dK (bhDict sh ca as.length wd)) p = some (.lst [.int y0, .int y1]) := by
      rw [upd_ne qp.symm]
      exact s12 _ _ p1
    have nsq : sh ≠ q := fun e => by rw [e, q1] at nsh; cases nsh
    have ncq : ca ≠ q := fun e => by
      rw [e, (same_new (o := .lst [.ref l]) nsh) _ _ q1] at nca
      cases nca
    have hB : BhAt K (upd (upd (upd H2 sh (.lst [.ref l])) ca (.lst [])) q (.dK (bhDict sh ca as.length wd))) q cs [] ws := by
      refine ⟨sh, ca, wd, [l], [], ?_, ?_, ⟨rfl, fun i e c h1 h2 => ?_⟩, ?_, .nil, ?_⟩
      · rw [upd_same, cl]
        rfl
      · rw [upd_ne nsq]
        exact sh2
      · cases i with
        | zero =>
          obtain rfl : l = e := Option.some.inj h1
          obtain rfl : cs = c := Option.some.inj h2
          exact ⟨as, refsL_but p1 b13 l1, c1.but p1 b13⟩
        | succ i => simp at h1
      · rw [upd_ne ncq]
        exact ca2
      · exact strsL_but p1 b13 w1
    have w3 := strsL_but p1 b13 w1
    have b3 := b1.trans b13
    generalize upd (upd (upd H2 sh (.lst [.ref l])) ca (.lst [])) q (.dK (bhDict sh ca as.length wd)) = H3 at b3 p3 w3 hB ⊢
    clear b13 s12 sq q1 sh2 ca2 s2 nsh nca r1 l1 c1 w1 p1 b1 nq
    dsimp only
    refine ⟨_, rfl, _, rfl, _, _, rfl, rfl, p, y0, y1, _, rfl, p3, by omega, by omega, fun r u0 u1 r0 r1 => ⟨r, rfl, by omega, by omega, ?_⟩⟩
    have bm : But p H3 (upd H3 p (.lst [.int u0, .int u1])) := But.mut
    refine for_range (lo := 0) (n := r.toNat) (fun i σ H' => ∃ (h : Addr) (chs : List Ch) (y0 y1 : Int) (x7 : Option V), σ = [some (.ref p), some (.int m), some (.int top), some (.int many), some (.ref l), some (.ref wd), some (.ref h), x7] ∧ But p H H' ∧ H' p = some (.lst [.int y0, .int y1]) ∧ H' wd = some (.lst (ws.map V.str)) ∧
      BhAt K H' h cs chs ws ∧ Fits cs chs ∧ chs.length ≤ i ∧ ∀ ch ∈ chs, ch.upTo top) ⟨q, [], u0, u1, none, rfl, b3.trans bm, upd_same, strsL_but p3 bm w3, hB.but p3 bm, (fun i ch hc => by simp at hc), Nat.le_refl _, fun ch hc => by simp at hc⟩ ?_ ?_
    · rintro i σ H' hi ⟨h, chs, y0, y1, x7, rfl, b, hp', hw', hh, f, hlen, up⟩
      have g := f.good G chs.length (Nat.le_refl _)
      rw [List.take_length] at g
      obtain ⟨sh, es, e, as, e1, e2, e3, e4, e5, e6⟩ := hh.sheet (m := chs.length) (Nat.le_refl _)
      rw [List.take_length] at e6
      refine ⟨_, rfl, _, rfl, _, rfl, h, _, rfl, e1, 1, rfl, sh, _, -1, _, rfl, rfl, sqL_of e2, at_last e3 e4, _, rfl, _, rfl, p, e, wd, as, (atC cs chs).1, ws, y0, y1, top, (atC cs chs).2, rfl, hp', e5, e6, hw', W, g, t1, t9, fun t ch v0 v1 H4 hup hf hz b4 p4 ht => ?_⟩
      refine ⟨h, t, cs, chs, ws, ch, rfl, hh.but hp' b4, ht, g, hf, hz, by omega, fun h' H5 nh s5 hh' => ?_⟩
      exact ⟨h', chs ++ [ch], v0, v1, _, rfl, (b.trans b4).trans (But.of s5), s5 _ _ p4, s5 _ _ (strsL_but hp' b4 hw'), hh', f.app hf hz, by rw [List.length_append]; show chs.length + 1 ≤ i + 1; omega, fun c2 hc2 => by
        rcases List.mem_append.mp hc2 with hc2 | hc2
        · exact up c2 hc2
        · rw [List.mem_singleton.mp hc2]
          exact hup⟩
    · rintro σ H' ⟨h, chs, y0, y1, x7, rfl, b, hp', hw', hh, f, hlen, up⟩
      exact ⟨_, rfl, k h cs chs ws y0 y1 H' b hp' hh W ⟨pl, G, f, by omega⟩ (by omega) ⟨lm.1, lm.2, up⟩⟩
/-! _law_made_column: the Column that a drawn one tells -/
def sp_madeC (K : PySem.W.Frag) : Sp := fun vs H Q _ => ∃ (a : Addr) (c : Col), vs = [.ref a] ∧ H a = some (.dK (colB c)) ∧ ColOk c ∧ ∀ (x : Addr) (H' : Hp), H x = none → Same H H' → ColA K H' x c → Q (.ref x) H'
theorem ok_madeC (T : Tx K mg) : Callee P w K mg base CX0 6 "_law_made_column" ["_law_col"] [] (sp_madeC K) := by
  obtain ⟨fdI, GI, FI⟩ := ok_Col_init (P := P) (w := w) (base := base) T
  obtain ⟨_, _, kb⟩ := kbinds_Col T FI
  refine mkCallee (fd__law_made_column T) (mg__law_made_column T) sc__law_made_column (fun _ _ _ _ _ _ us hl => match us, hl with | [_], _ => rfl) (fun vs H Q E h => ?_) (fun cdv A outer s H vs Q E hr h => ?_)
  · obtain ⟨a, c, rfl, _⟩ := h
    rfl
  · obtain ⟨a, c, rfl, ha, ok, k⟩ := h
    have hu := hu_of hr
    refine ⟨_, pss_one (ps_ret (pe_makeK (mk_Column T) GI hr (by rfl) (mg_Column T) kb pass0 (pa_cons (pe_dget hu (pv 0) pe_str (fun _ _ => rfl)) (pa_cons (pe_dget hu (pv 0) pe_str (fun _ _ => rfl)) (pa_cons (pe_dget hu (pv 0) pe_str (fun _ _ => rfl)) pa_nil))) (pk_cons (pe_dget hu (pv 0) pe_str (fun _ _ => rfl)) pk_nil))), ?_⟩
    refine ⟨_, rfl, a, _, rfl, bc_name ha, _, rfl, a, _, rfl, bc_g ha, _, rfl, a, _, rfl, bc_d ha, _, rfl, a, _, rfl, bc_n ha, rfl, rfl, fun x dx2 nx ndx ndc => ?_⟩
    refine ⟨x, dx2, c.name, c.top, c.num, c.dflt, rfl, upd_same, ok.nm, ok.gr, ok.df, ok.nu, fun H4 hc4 k4 => ⟨rfl, ?_⟩⟩
    exact k x H4 nx (fun b o e => k4 b o (ne_of_none e nx) (by rw [upd_ne (ne_of_none e nx), upd_ne (ne_of_none e ndx)]; exact e)) hc4
/-! _law_made: the History that a drawn one tells -/
/-- return C(a, ..): the first argument first -/
theorem q_make1 {C : Addr} {sp : Sp} {dvs : List V} {E : XK} {ta : TE} {ts : TA} {D : Ends} {σ : L2.St} {H : Hp} (h : ta σ H fun v H1 => ts σ H1 fun vs H2 => ∀ x dx, H2 x = none → H2 dx = none → dx ≠ x →
    sp (.ref x :: ((v :: vs) ++ dvs)) (upd (upd H2 dx (.own x)) x (.ins C dx [])) (fun v H3 => v = .non ∧ D.rt (.ref x) H3) E) : tRet (tMake C sp dvs E (tCons ta ts)) D σ H := h
def sp_madeL (K : PySem.W.Frag) : Sp := fun vs H Q _ => ∃ (h : Addr) (cs : List Col) (chs : List Ch) (ws : List Str), vs = [.ref h] ∧ BhAt K H h cs chs ws ∧ HistOk cs chs ∧ ∀ (h' : Addr) (H' : Hp), H h' = none → Same H H' → HistN K H H' h' cs chs → Q (.ref h') H'
theorem ok_madeL (T : Tx K mg) : Callee P w K mg base CX0 13 "_law_made" ["_law_h"] [] (sp_madeL K) := by
  have C1 := (ok_madeC (P := P) (w := w) (base := base) T).up (show 6 ≤ 12 by decide)
  obtain ⟨fdI, GI, FI⟩ := ok_Hist_init (P := P) (w := w) (base := base) T
  have bI : Binds K fdI ["self", "columns", "changes"] [] := by
    have h := FI.binds1 (ps := ["self", "columns", "changes"]) 3 1 (by intro z; cases z) rfl (fun TT kV doc pm an cdv ct us its h1 h2 => ?_)
    · obtain ⟨ds, v, b⟩ := h
      cases ds with
      | nil => exact b
      | cons _ _ => cases v
    · match us, h1, its, h2 with
      | [u0, u1, u2], _, [i0], _ => exact ⟨_, rfl, rfl⟩
  refine mkCallee (fd__law_made T) (mg__law_made T) sc__law_made (fun _ _ _ _ _ _ us hl => match us, hl with | [_], _ => rfl) (fun vs H Q E h => ?_) (fun cdv A outer s H vs Q E hr h => ?_)
  · obtain ⟨h, cs, chs, ws, rfl, _⟩ := h
    rfl
  · obtain ⟨h, cs, chs, ws, rfl, hh, ok, k⟩ := h
    have nd := sc__law_made.nd
    have hu := hu_of hr
    refine ⟨_, pss_one (ps_ret (pe_make (mk_History T) GI hr (by rfl) (mg_History T) bI .nil pass0 (pa_cons (pe_lc (own := [("_law_col", 1)]) (g := gName 1) (tt := tYes) (te := tCall (sp_madeC K) [] E0 (tCons (tVar 1) tNil)) rfl nd (pi_list (pe_ix ix_list (pe_dget hu (pv 0) pe_str (fun _ _ => rfl)) pe_int (fun _ _ => rfl))) (blkOk_by (N := ["_law_h", "_law_col"]) (sc := defScope s__law_made) (by decide +kernel)) (fun _ _ _ _ _ => (pg_name (i := 1) nd rfl (Or.inl rfl))) (fun _ _ _ _ _ => pts_nil) (fun _ _ _ _ _ => (pcall C1 hr (pa_cons (pv 1) pa_nil)))) (pa_cons (pe_callTy call_list_of (by rfl) (fr_list T) (by decide +kernel) (pa_cons (pe_dget hu (pv 0) pe_str (fun _ _ => rfl)) pa_nil)) pa_nil)))), ?_⟩
    obtain ⟨sh, es, e, as, e1, e2, e3, e4, e5, e6⟩ := hh.sheet (m := 0) (Nat.zero_le _)
    rw [List.take_zero] at e6
    have e6 : BCols H as cs := e6
    obtain ⟨sh', ca, wd, es', ts, g1, g2, g3, g4, g5, g6⟩ := id hh
    have six := ok.g.six
    have hal := e6.len
    refine q_make1 ?_
    refine tlc_G (K := K) (xs := as.map V.ref) (fun i y H' => ∃ a c, y = .ref a ∧ cs[i]? = some c ∧ ColA K H' a c) (fun i y H1 H2 s2 ⟨a, c, h1, h2, h3⟩ => ⟨a, c, h1, h2, h3.keepNL s2⟩) (fun R q => ⟨_, rfl, h, _, rfl, e1, sh, _, 0, _, rfl, rfl, sqL_of e2, lref_at (j := 0) e4, q e H (Same.refl _) (sqL_of e5)⟩) (by rw [List.length_map]; omega) (fun _ => rfl) ?_ ?_
    · intro i x hx H1 s1 R hR
      rw [List.getElem?_map] at hx
      cases ha : as[i]? with
      | none =>
        rw [ha] at hx
        cases hx
      | some a =>
        rw [ha] at hx
        obtain rfl := Option.some.inj hx
        obtain ⟨c, hci, hat⟩ := e6.at_ ha
        refine ⟨_, rfl, a, c, rfl, s1 _ _ hat, (ok.g.ok c (List.mem_of_getElem? hci)).1, fun x H4 nx s4 hx4 => ?_⟩
        exact hR _ _ s4 ⟨x, c, rfl, hci, hx4⟩
    · intro D ys H' nD s' hD hlen' hy
      obtain ⟨as', rfl, hcs⟩ := Cols.of_vs (by rw [hlen', List.length_map, hal]) hy
      refine ⟨_, rfl, h, _, rfl, bh_changes (s' _ _ g1), ca, _, rfl, .inl (sqL_of (s' _ _ g4)), fun t nt => ?_⟩
      have st : Same H' (upd H' t (.lst (ts.map V.ref))) := same_new nt
      have s2 := s'.trans st
      have t2 : upd H' t (.lst (ts.map V.ref)) t = some (.lst (ts.map V.ref)) := upd_same
      have D2 := st _ _ hD
      have c2 := hcs.keep st
      generalize upd H' t (.lst (ts.map V.ref)) = H2 at st s2 t2 D2 c2 ⊢
      refine fun x dx nx ndx ndc => ?_
      have s3 : Same H2 (upd (upd H2 dx (.own x)) x (.ins (He.ga K "History") dx [])) := fun b o e => by
        rw [upd_ne (ne_of_none e nx), upd_ne (ne_of_none e ndx)]
        exact e
      refine ⟨x, dx, D, t, as', ts, cs, chs, rfl, upd_same, s3 _ _ D2, c2.keep s3, s3 _ _ t2, (g5.keep s2).keep s3, fun c hcm => (ok.g.ok c hcm).1, by rw [numb_placed ok.pl]; exact ok, fun H' hA kp => ⟨rfl, ?_⟩⟩
      rw [numb_placed ok.pl] at hA
      obtain ⟨dx', e', c', b', d', es', ts', hA, hb', hd'⟩ := hA
      exact k x H' (s2.free nx) (fun b o e => kp b o (ne_of_none (s2 _ _ e) nx) (s3 _ _ (s2 _ _ e))) ⟨dx', e', c', b', d', es', ts', hA, (s2.trans s3).free hb', (s2.trans s3).free hd'⟩
/-! values in their order: MISSING, None, the ints -/
def rankKV (v : V) : Key × V := (Sum.inl (rankV v), v)
theorem rank_inj {v w : V} (hv : isVal v = true ∨ isMis v = true) (hw : isVal w = true ∨ isMis w = true) (h : rankV v = rankV w) : v = w := by
  have two : ∀ x : V, (isVal x = true ∨ isMis x = true) → (x = .non ∨ (∃ i, x = .int i ∧ 0 ≤ i) ∨ x = .str "missing") := fun x h => by
    rcases h with h | h
    · cases x with
      | non => exact .inl rfl
      | int i => exact .inr (.inl ⟨i, rfl, of_decide_eq_true h⟩)
      | _ => cases h
    · exact .inr (.inr (mis_str h))
  rcases two v hv with rfl | ⟨i, rfl, hi⟩ | rfl <;> rcases two w hw with rfl | ⟨j, rfl, hj⟩ | rfl
  · rfl
  · have h : (-1 : Int) = j := h
    omega
  · have h : (-1 : Int) = -2 := h
    omega
  · have h : i = (-1 : Int) := h
    omega
  · have h : i = j := h
    rw [h]
  · have h : i = (-2 : Int) := h
    omega
  · have h : (-2 : Int) = -1 := h
    omega
  · have h : (-2 : Int) = j := h
    omega
  · rfl
theorem put_same {kvs : List (Key × V)} {k : Key} {v : V} (h : ∀ kv ∈ kvs, kv.1 = k → kv.2 = v) (hm : k ∈ kvs.map (·.1)) : putK kvs k v = kvs := by
  unfold putK
  rw [if_pos]
  · have : kvs.map (fun kv => if kv.1 = k then (kv.1, v) else kv) = kvs.map id := List.map_congr_left fun kv hkv => by
      split
      · rename_i e
        show (kv.1, v) = kv
        rw [← h kv hkv e]
      · rfl
    rw [this, List.map_id]
  · rw [List.any_eq_true]
    obtain ⟨kv, h1, h2⟩ := List.mem_map.mp hm
    exact ⟨kv, h1, decide_eq_true h2⟩
theorem merge_rank : ∀ {xs L : List V}, (∀ v ∈ xs, isVal v = true ∨ isMis v = true) → (∀ v ∈ L, isVal v = true ∨ isMis v = true) → L.Nodup → ∃ L' : List V, mergeK (L.map rankKV) (xs.map rankKV) = L'.map rankKV ∧ L'.Nodup ∧ ∀ v, v ∈ L' ↔ v ∈ L ∨ v ∈ xs
  | [], L, _, _, nd => ⟨L, rfl, nd, fun v => by simp⟩
  | x :: xs, L, hx, hL, nd => by
    have hx0 := hx x List.mem_cons_self
    have hxs := fun v h => hx v (List.mem_cons_of_mem _ h)
    by_cases hm : x ∈ L
    · have e : putK (L.map rankKV) (Sum.inl (rankV x)) x = L.map rankKV := put_same (fun kv hkv e => by
        obtain ⟨w, h1, rfl⟩ := List.mem_map.mp hkv
        exact rank_inj (hL w h1) hx0 (Sum.inl.inj e)) (List.mem_map.mpr ⟨rankKV x, List.mem_map.mpr ⟨x, hm, rfl⟩, rfl⟩)
      obtain ⟨L', h1, h2, h3⟩ := merge_rank (xs := xs) (L := L) hxs hL nd
      refine ⟨L', ?_, h2, fun v => ?_⟩
      · show mergeK (putK (L.map rankKV) (Sum.inl (rankV x)) x) (xs.map rankKV) = _
        rw [e]
        exact h1
      · rw [h3, List.mem_cons]
        constructor
        · rintro (z | z)
          · exact .inl z
          · exact .inr (.inr z)
        · rintro (z | z | z)
          · exact .inl z
          · rw [z]
            exact .inl hm
          · exact .inr z
    · have e : putK (L.map rankKV) (Sum.inl (rankV x)) x = (L ++ [x]).map rankKV := by
        rw [put_new, List.map_append]
        · rfl
        · intro z
          obtain ⟨kv, h1, h2⟩ := List.mem_map.mp z
          obtain ⟨w, h3, rfl⟩ := List.mem_map.mp h1
          rw [← rank_inj (hL w h3) hx0 (Sum.inl.inj h2)] at hm
          exact hm h3
      have hL' : ∀ v ∈ L ++ [x], isVal v = true ∨ isMis v = true := fun v h => by
        rcases List.mem_append.mp h with h | h
        · exact hL v h
        · rw [List.mem_singleton.mp h]
          exact hx0
      have nd' : (L ++ [x]).Nodup := by
        rw [List.nodup_append]
        refine ⟨nd, List.pairwise_singleton _ _, fun a ha b hb => ?_⟩
        rw [List.mem_singleton.mp hb]
        exact fun z => hm (z ▸ ha)
      obtain ⟨L', h1, h2, h3⟩ := merge_rank (xs := xs) (L := L ++ [x]) hxs hL' nd'
      refine ⟨L', ?_, h2, fun v => ?_⟩
      · show mergeK (putK (L.map rankKV) (Sum.inl (rankV x)) x) (xs.map rankKV) = _
        rw [e]
        exact h1
      · simp only [h3, List.mem_append, List.mem_cons, List.not_mem_nil, or_false, or_assoc]
theorem rank_nodup {L : List V} (hL : ∀ v ∈ L, isVal v = true ∨ isMis v = true) (nd : L.Nodup) : (L.map rankV).Nodup := by
  unfold List.Nodup
  rw [List.pairwise_map]
  exact List.Pairwise.imp_of_mem (fun ha hb h e => h (rank_inj (hL _ ha) (hL _ hb) e)) nd
theorem keys_rank {L : List V} (hL : ∀ v ∈ L, isVal v = true ∨ isMis v = true) (nd : L.Nodup) : ((L.map rankKV).map (·.1)).Nodup := by
  rw [List.map_map]
  unfold List.Nodup
  rw [List.pairwise_map]
  exact List.Pairwise.imp_of_mem (fun ha hb h e => h (rank_inj (hL _ ha) (hL _ hb) (Sum.inl.inj e))) nd
theorem rank_perm {L ys : List V} (hL : ∀ v ∈ L, isVal v = true ∨ isMis v = true) (nd : L.Nodup) (asc : (ys.map rankV).Pairwise (· < ·)) (h : ∀ v, v ∈ L ↔ v ∈ ys) : (L.map rankV).Perm (ys.map rankV) := by
  refine (List.perm_ext_iff_of_nodup (rank_nodup hL nd) ?_).mpr fun r => ?_
  · exact List.Pairwise.imp (fun h e => by omega) asc
  · rw [List.mem_map, List.mem_map]
    constructor
    · rintro ⟨v, h1, h2⟩
      exact ⟨v, (h v).mp h1, h2⟩
    · rintro ⟨v, h1, h2⟩
      exact ⟨v, (h v).mpr h1, h2⟩

/-! _law_ordered: values in their order, each once -/
def sp_ordered53 (K : PySem.W.Frag) : Sp := fun vs H Q _ => ∃ (l : Addr) (xs ys : List V), vs = [.ref l] ∧ SqL K H l xs ∧ xs.length ≤ 100000 ∧ (∀ v ∈ xs, isVal v = true ∨ isMis v = true) ∧ (∀ v, v ∈ xs ↔ v ∈ ys) ∧ (ys.map rankV).Pairwise (· < ·) ∧
  ∀ (r : Addr) (H' : Hp), H r = none → Same H H' → H' r = some (.lst ys) → Q (.ref r) H'
theorem ok_orderedL (T : Tx K mg) : Callee P w K mg base CX0 2 "_law_ordered" ["_law_values"] [] (sp_ordered53 K) := by
  have C1 := ok_rankL (P := P) (w := w) (base := base) T
  refine mkCallee (fd__law_ordered T) (mg__law_ordered T) sc__law_ordered (fun _ _ _ _ _ _ us hl => match us, hl with | [_], _ => rfl) (fun vs H Q E h => ?_) (fun cdv A outer s H vs Q E hr h => ?_)
  · obtain ⟨l, xs, ys, rfl, _⟩ := h
    rfl
  · obtain ⟨l, xs, ys, rfl, hl, hlen, hx, hm, hasc, k⟩ := h
    have nd := sc__law_ordered.nd
    have hu := hu_of hr
    have gi : mg "int" = none := fr_int T
    have hsl : sizeLine = 16777216 := by decide
    refine ⟨_, (pss_cons (ps_set (i := 1) nd rfl (Or.inr rfl) (pe_callTy (call_dictP rfl) (by rfl) (fr_dict T) (by decide +kernel) (pa_cons (pe_lc (own := [("_law_value", 3)]) (g := gName 3) (tt := tYes) (te := tTup (tCons (tCall (sp_rank53 K) [] E0 (tCons (tVar 3) tNil)) (tCons (tVar 3) tNil))) rfl nd (pi_list (pv 0)) (blkOk_by (N := ["_law_values", "_law_known", "_law_place", "_law_value"]) (sc := defScope s__law_ordered) (by decide +kernel)) (fun _ _ _ _ _ => (pg_name (i := 3) nd rfl (Or.inl rfl))) (fun _ _ _ _ _ => pts_nil) (fun _ _ _ _ _ => (pe_tup (pa_cons (pcall C1 hr (pa_cons (pv 3) pa_nil)) (pa_cons (pv 3) pa_nil))))) pa_nil)))
        (pss_one (ps_ret (pe_lc (own := [("_law_place", 2)]) (g := gName 2) (tt := tYes) (te := tDGet (tVar 1) (tVar 2)) rfl nd (pi_list (pe_callB cr_sortedI (by rfl) (fr_sorted T) (by decide +kernel) (pa_cons (pe_lock (pe_lc (own := [("_law_place", 2)]) (g := gName 2) (tt := tYes) rfl nd (pi_keys (pv 1)) (blkOk_by (N := ["_law_values", "_law_known", "_law_place", "_law_value"]) (sc := defScope s__law_ordered) (by decide +kernel))
            (fun _ _ _ _ _ => pg_name (i := 2) nd rfl (Or.inl rfl)) (fun _ _ _ _ _ => pts_nil) (fun _ _ _ _ _ => pe_callTy call_int1 (by rfl) gi (by decide +kernel) (pa_cons (pv 2) pa_nil)))) pa_nil))) (blkOk_by (N := ["_law_values", "_law_known", "_law_place", "_law_value"]) (sc := defScope s__law_ordered) (by decide +kernel)) (fun _ _ _ _ _ => (pg_name (i := 2) nd rfl (Or.inl rfl))) (fun _ _ _ _ _ => pts_nil) (fun _ _ _ _ _ => (pe_dget hu (pv 1) (pv 2) (fun _ _ => rfl))))))), ?_⟩
    refine q_asgX ?_
    refine pl_e1 ?_
    refine tlc_G (K := K) (xs := xs) (fun i y H' => ∃ t e, y = .ref t ∧ (xs.map fun v => (rankV v, v))[i]? = some e ∧ SqT K H' t [.int e.1, e.2]) (fun i y H1 H2 s2 ⟨t, e, h1, h2, h3⟩ => ⟨t, e, h1, h2, sqT_keepNL s2 h3⟩) (fun R h => ⟨_, rfl, h l H (Same.refl _) hl⟩) hlen (fun _ => rfl) ?_ ?_
    · intro i x hx' H3 s3 R hR
      refine ⟨_, rfl, x, rfl, hx x (List.mem_of_getElem? hx'), _, rfl, by show 2 ≤ sizeLine; decide, fun t nt => hR _ _ (same_new nt) ⟨t, (rankV x, x), rfl, by rw [List.getElem?_map, hx']; rfl, sqT_of upd_same⟩⟩
    intro D ys' H2 nD s2 hD hlen2 hy2
    obtain ⟨ts, rfl, hts⟩ := Ents.of_vs (by rw [hlen2, List.length_map]) hy2
    obtain ⟨L, eL, ndL, memL⟩ := merge_rank (xs := xs) (L := []) hx (fun v h => by cases h) List.nodup_nil
    have memL : ∀ v, v ∈ L ↔ v ∈ xs := fun v => by rw [memL]; simp
    have hLr : ∀ v ∈ L, isVal v = true ∨ isMis v = true := fun v h => hx v ((memL v).mp h)
    have permL := rank_perm hLr ndL hasc (fun v => (memL v).trans (hm v))
    have lenL : L.length = ys.length := by
      have := permL.length_eq
      rw [List.length_map, List.length_map] at this
      exact this
    have eM : mergeK [] ((xs.map fun v => (rankV v, v)).map keyE) = L.map rankKV := by
      rw [List.map_map]
      exact eL
    refine ⟨D, ts, (xs.map fun v => (rankV v, v)).map keyE, rfl, sqL_of hD, paired_of (by rw [List.length_map, hts.len]) (fun j t kv h5 h6 => ?_), fun kd nk => ?_⟩
    · obtain ⟨e', h7, h8⟩ := hts.at_ h5
      rw [List.getElem?_map, h7] at h6
      obtain rfl := Option.some.inj h6
      exact h8
    rw [eM]
    have s3 : Same H2 (upd H2 kd (.dK (L.map rankKV))) := same_new nk
    have hk3 : upd H2 kd (.dK (L.map rankKV)) kd = some (.dK (L.map rankKV)) := upd_same
    have nk0 : H kd = none := s2.free nk
    generalize upd H2 kd (.dK (L.map rankKV)) = H3 at s3 hk3 ⊢
    have s03 := s2.trans s3
    have lenL2 : L.length ≤ 100000 := by
      have h1 := length_mergeK (xs.map rankKV) (([] : List V).map rankKV)
      rw [eL, List.length_map, List.length_map, List.length_map, List.length_nil] at h1
      omega
    dsimp only
    refine pl_rlc ?_
    refine tlc_G (K := K) (xs := (ys.map rankV).map V.int) (fun i y H' => ys[i]? = some y) (fun i y H1 H2 _ q => q) (fun R h => ?_) (by rw [List.length_map, List.length_map, ← lenL]; exact lenL2) (fun _ => rfl) ?_ ?_
    · refine pl_e1 ?_
      refine ⟨kd, .dK (L.map rankKV), hk3, by first | trivial | exact True.intro | decide, fun od => ?_⟩
      have hf : upd H3 kd (.frz od (.dK (L.map rankKV))) kd = some (.frz od (.dK (L.map rankKV))) := upd_same
      refine ⟨_, rfl, kd, od, rfl, .inl ⟨_, hf, fun E nE => ?_⟩⟩
      have nEo : kd ≠ E := ne_of_none hf nE
      refine lc_it walk_keys (fun i H' => (∀ b u, b ≠ kd → H3 b = some u → H' b = some u) ∧ H' kd = some (.frz od (.dK (L.map rankKV))) ∧ H' E = some (.lst (((L.map rankV).take i).map V.int))) ⟨fun b u hb e => ?_, ?_, upd_same⟩ (fun i H' _ q => q.2.1) ?_ ?_
      · have : upd H3 kd (.frz od (.dK (L.map rankKV))) b = some u := by rw [upd_ne hb]; exact e
        exact same_new nE _ _ this
      · rw [upd_ne nEo]
        exact hf
      · rintro i x H' H'' hi ⟨q1, q2, q3⟩ ⟨rfl, kk, v, hk, rfl⟩
        rw [List.getElem?_map] at hk
        cases he : L[i]? with
        | none =>
          rw [he] at hk
          cases hk
        | some e =>
          rw [he] at hk
          have hk' := Option.some.inj hk
          have ek : kk = Sum.inl (rankV e) := (congrArg Prod.fst hk').symm
          subst ek
          refine ⟨rfl, _, rfl, .inl ⟨rankV e, rfl, _, q3, ?_, fun b u hb eb => ?_, ?_, ?_⟩⟩
          · rw [List.length_map, List.length_take, List.length_map]
            omega
          · by_cases hbE : b = E
            · subst hbE
              have nE : upd H3 kd (.frz od (.dK (L.map rankKV))) b = none := nE
              rw [upd_ne hb] at nE
              rw [nE] at eb
              cases eb
            · rw [upd_ne hbE]
              exact q1 b u hb eb
          · rw [upd_ne nEo]
            exact q2
          · rw [upd_same, List.take_add_one, List.getElem?_map, he, List.map_append]
            rfl
      · rintro H' ⟨q1, q2, q3⟩
        rw [List.length_map, List.take_of_length_le (by rw [List.length_map]; exact Nat.le_refl _)] at q3
        refine ⟨q2, E, L.map rankV, rfl, sqL_of ?_, fun ns' q perm pw nq => ?_⟩
        · rw [upd_ne nEo.symm]
          exact q3
        · rw [sorted_eq (perm.trans permL) pw hasc]
          refine h q _ (fun b u eb => same_new nq _ _ ?_) (sqL_of upd_same)
          by_cases hbo : b = kd
          · subst hbo
            rw [upd_same, ← hk3]
            exact eb
          · rw [upd_ne hbo]
            exact q1 b u hbo eb
    · intro i x hx' H4 s4 R hR
      rw [List.getElem?_map, List.getElem?_map] at hx'
      cases hyi : ys[i]? with
      | none =>
        rw [hyi] at hx'
        cases hx'
      | some v =>
        rw [hyi] at hx'
        obtain rfl := Option.some.inj hx'
        have hvL : v ∈ L := (memL v).mpr ((hm v).mpr (List.mem_of_getElem? hyi))
        obtain ⟨j, hj⟩ := List.mem_iff_getElem?.mp hvL
        have hg : DGet H4 kd (.int (rankV v)) (some v) := by
          rw [← valV_at (k := Sum.inl (rankV v)) (j := j) (keys_rank hLr ndL) (by rw [List.getElem?_map, hj]; rfl)]
          exact DGet.k (k := Sum.inl (rankV v)) (s4 _ _ hk3)
        exact ⟨_, rfl, _, rfl, kd, _, rfl, hg, hR _ _ (Same.refl _) hyi⟩
    intro D3 ys3 H4 nD3 s4 hD3 hlen3 hy3
    have e3 : ys3 = ys := by
      refine List.ext_getElem? fun i => ?_
      cases e : ys3[i]? with
      | none =>
        have h1 := List.getElem?_eq_none_iff.mp e
        rw [hlen3, List.length_map, List.length_map] at h1
        rw [List.getElem?_eq_none h1]
      | some y => exact (hy3 i y e).symm
    rw [e3] at hD3
    exact k D3 H4 (s03.free nD3) (s03.trans s4) hD3
/-! _law_numbers: the numbers of the last edition, ascending -/
def sp_numbersL (K : PySem.W.Frag) : Sp := fun vs H Q _ => ∃ (h : Addr) (cs : List Col) (chs : List Ch) (ws : List Str), vs = [.ref h] ∧ BhAt K H h cs chs ws ∧ HistOk cs chs ∧
  ∀ (l : Addr) (H' : Hp), H l = none → Same H H' → H' l = some (.lst ((colsE cs chs chs.length).map fun c => V.int c.num)) → Q (.ref l) H'
theorem ok_numbersL (T : Tx K mg) : Callee P w K mg base CX0 1 "_law_numbers" ["_law_h"] [] (sp_numbersL K) := by
  refine mkCallee (fd__law_numbers T) (mg__law_numbers T) sc__law_numbers (fun _ _ _ _ _ _ us hl => match us, hl with | [_], _ => rfl) (fun vs H Q E h => ?_) (fun cdv A outer s H vs Q E hr h => ?_)
  · obtain ⟨h, cs, chs, ws, rfl, _⟩ := h
    rfl
  · obtain ⟨h, cs, chs, ws, rfl, hh, o, k⟩ := h
    have nd := sc__law_numbers.nd
    have hu := hu_of hr
    have few := o.few
    refine ⟨_, (pss_one (ps_ret (pe_callB cr_sortedI (by rfl) (fr_sorted T) (by decide +kernel) (pa_cons (pe_lc (own := [("_law_col", 1)]) (g := gName 1) (tt := tYes) rfl nd (pi_list (pe_ix ix_list (pe_dget hu (pv 0) pe_str (fun _ _ => rfl)) (pe_un un_neg pe_int) (fun _ _ => rfl))) (blkOk_by (N := ["_law_h", "_law_col"]) (sc := defScope s__law_numbers) (by decide +kernel)) (fun _ _ _ _ _ => (pg_name (i := 1) nd rfl (Or.inl rfl))) (fun _ _ _ _ _ => pts_nil) (fun _ _ _ _ _ => pe_callTy call_int1 (by rfl) (fr_int T) (by decide +kernel) (pa_cons (pe_dget hu (pv 1) pe_str (fun _ _ => rfl)) pa_nil))) pa_nil)))), ?_⟩
    obtain ⟨sh, es, e, as, e1, e2, e3, e4, e5, hc⟩ := hh.sheet (m := chs.length) (Nat.le_refl _)
    have g := o.f.good o.g chs.length (Nat.le_refl _)
    have hasc := asc_at o chs.length (Nat.le_refl _)
    have g6 : (colsE cs chs chs.length).length ≤ 6 := g.six
    generalize hcl : colsE cs chs chs.length = cl at k g6
    have hc : BCols H as cl := hcl ▸ hc
    have hasc : Asc cl := hcl ▸ hasc
    refine pl_r1 ?_
    refine tlc_G (K := K) (xs := as.map V.ref) (fun i y H' => ∃ c, cl[i]? = some c ∧ y = .int c.num) (fun i y H1 H2 _ q => q) (fun R hR => ⟨_, rfl, h, _, rfl, e1, 1, rfl, sh, _, -1, _, rfl, rfl, sqL_of e2, at_last e3 e4, hR e H (Same.refl _) (sqL_of e5)⟩) (by rw [List.length_map, hc.len]; omega) (fun _ => rfl) ?_ ?_
    · intro i x hx H3 s3 R hR
      rw [List.getElem?_map] at hx
      cases ha : as[i]? with
      | none =>
        rw [ha] at hx
        cases hx
      | some a =>
      rw [ha] at hx
      obtain rfl := Option.some.inj hx
      obtain ⟨c, hci, hat⟩ := hc.at_ ha
      exact ⟨_, rfl, a, _, rfl, bc_n (s3 _ _ hat), .inl ⟨_, rfl, hR _ _ (Same.refl _) ⟨c, hci, rfl⟩⟩⟩
    intro D ys H2 nD s2 hD hlen hy
    have eys : ys = (cl.map (·.num)).map V.int := by
      refine List.ext_getElem? fun i => ?_
      cases e : ys[i]? with
      | none =>
        have h1 := List.getElem?_eq_none_iff.mp e
        rw [List.getElem?_eq_none]
        rw [List.length_map, List.length_map, ← hc.len]
        rw [hlen, List.length_map] at h1
        exact h1
      | some y =>
        obtain ⟨c, h1, h2⟩ := hy i y e
        rw [List.getElem?_map, List.getElem?_map, h1, h2]
        rfl
    rw [eys] at hD
    refine ⟨D, cl.map (·.num), rfl, sqL_of hD, fun ns' q perm pw nq => ?_⟩
    rw [sorted_eq perm pw hasc]
    refine k q _ (s2.free nq) (s2.trans (same_new nq)) ?_
    rw [upd_same, List.map_map]
    rfl
/-! _law_col_n: the column with a number at an edition, or None -/
def sp_col_n (K : PySem.W.Frag) : Sp := fun vs H Q _ => ∃ (h : Addr) (cs : List Col) (chs : List Ch) (ws : List Str) (i : Nat) (n : Int), vs = [.ref h, .int (i : Nat), .int n] ∧ BhAt K H h cs chs ws ∧ HistOk cs chs ∧ i ≤ chs.length ∧
  (∀ H', Same H H' → colE cs chs i n = none → Q .non H') ∧ ∀ (a : Addr) (c : Col) (H' : Hp), Same H H' → colE cs chs i n = some c → H' a = some (.dK (colB c)) → Q (.ref a) H'
theorem ok_col_n (T : Tx K mg) : Callee P w K mg base CX0 1 "_law_col_n" ["_law_h", "_law_at", "_law_n"] [] (sp_col_n K) := by
  refine mkCallee (fd__law_col_n T) (mg__law_col_n T) sc__law_col_n (fun _ _ _ _ _ _ us hl => match us, hl with | [_, _, _], _ => rfl) (fun vs H Q E h => ?_) (fun cdv A outer s H vs Q E hr h => ?_)
  · obtain ⟨h, cs0, chs, ws, i, n, rfl, _⟩ := h
    rfl
  · obtain ⟨h, cs0, chs, ws, i, n, rfl, hh, o, hi, kn, ky⟩ := h
    have nd := sc__law_col_n.nd
    have hu := hu_of hr
    refine ⟨_, (pss_cons (ps_setLc (i := 3) (own := [("_law_col", 4)]) (g := gName 4) (tt := tTest (tOp rEq (tDGet (tVar 4) (tC (.str "n"))) (tVar 2))) (te := tVar 4) rfl nd rfl rfl (by rfl) (pi_list (pe_ix ix_list (pe_dget hu (pv 0) pe_str (fun _ _ => rfl)) (pv 1) (fun _ _ => rfl))) (blkOk_by (N := ["_law_h", "_law_at", "_law_n", "_law_found", "_law_col"]) (sc := defScope s__law_col_n) (by decide +kernel)) (fun _ _ _ _ _ => (pg_name (i := 4) nd rfl (Or.inl rfl))) (fun _ _ _ _ _ => pts_one (pt_cmpR op_eq (pe_dget hu (pv 4) pe_str (fun _ _ => rfl)) (pv 2) (nomark _))) (fun _ _ _ _ _ => (pv 4)))
        (pss_one (ps_ret (pe_ifExp (pt_cmpR (op_neE hr.units) (pv 3) (pe_lst pa_nil) (nomark _)) (pe_ix ix_list (pv 3) pe_int (fun _ _ => rfl)) pe_non)))), ?_⟩
    refine q_asgX ?_
    obtain ⟨sh2, es2, l, as, f1, f2, f3, f4, f5, hc⟩ := hh.sheet hi
    have h6 : (colsE cs0 chs i).length ≤ 6 := (o.f.good o.g i hi).six
    generalize hcl : colsE cs0 chs i = cs at h6
    have hc : BCols H as cs := hcl ▸ hc
    have kn : ∀ H', Same H H' → cs.find? (isK n) = none → Q .non H' := hcl ▸ kn
    have ky : ∀ (a : Addr) (c : Col) (H' : Hp), Same H H' → cs.find? (isK n) = some c → H' a = some (.dK (colB c)) → Q (.ref a) H' := hcl ▸ ky
    have hl : SqL K H l (as.map V.ref) := sqL_of f5
    have hlen : as.length ≤ 1000 := by rw [hc.len]; omega
    refine ⟨_, rfl, h, _, rfl, f1, _, rfl, sh2, _, _, .ref l, rfl, rfl, sqL_of f2, lref_at f4, l, rfl, ⟨_, hl⟩, fun D nD => ?_⟩
    refine lc_list (xs := as.map V.ref) (fun j H' => Same H H' ∧ ∃ bs : List Addr, H' D = some (.lst (bs.map V.ref)) ∧ bs.length ≤ j ∧ (((cs.take j).find? (isK n) = none ∧ bs = []) ∨ ∃ c b r, (cs.take j).find? (isK n) = some c ∧ bs = b :: r ∧ H b = some (.dK (colB c)))) ⟨same_new nD, [], upd_same, Nat.le_refl _, .inl ⟨rfl, rfl⟩⟩ (fun j H' _ q => q.1.seq hl) ?_ ?_
    · rintro j x H' hx ⟨s', bs, hD, hb, hbn⟩
      rw [List.getElem?_map] at hx
      cases ha : as[j]? with
      | none =>
        rw [ha] at hx
        cases hx
      | some a =>
        rw [ha] at hx
        obtain rfl := Option.some.inj hx
        obtain ⟨c, hcj, hat⟩ := hc.at_ ha
        have hjl := (List.getElem?_eq_some_iff.mp ha).1
        have stay : ∀ c0, (cs.take j).find? (isK n) = some c0 → (cs.take (j + 1)).find? (isK n) = some c0 := fun c0 e => by
          rw [List.take_add_one, List.find?_append, e]
          rfl
        refine ⟨rfl, _, rfl, a, _, rfl, bc_n (s' _ _ hat), _, rfl, rfl, _, rfl, ?_⟩
        by_cases hn : c.num = n
        · refine iteDT (by rw [hn]) ⟨_, rfl, bs.map V.ref, hD, ?_, same_mut s' nD, bs ++ [a], ?_, ?_, ?_⟩
          · have e : sizeLine = 16777216 := by decide
            rw [List.length_map]
            omega
          · rw [upd_same, List.map_append]
            rfl
          · rw [List.length_append]
            show bs.length + 1 ≤ j + 1
            omega
          · rcases hbn with ⟨e1, rfl⟩ | ⟨c0, b, r, e1, rfl, e3⟩
            · exact .inr ⟨c, a, [], by rw [findk_pre hcj e1, if_pos (show isK n c = true from decide_eq_true hn)], rfl, hat⟩
            · exact .inr ⟨c0, b, r ++ [a], stay _ e1, rfl, e3⟩
        · refine iteD (nei hn) ⟨s', bs, hD, by omega, ?_⟩
          rcases hbn with ⟨e1, rfl⟩ | ⟨c0, b, r, e1, e2, e3⟩
          · exact .inl ⟨by rw [findk_pre hcj e1, if_neg (by show ¬ decide (c.num = n) = true; rw [decide_eq_false hn]; decide)], rfl⟩
          · exact .inr ⟨c0, b, r, stay _ e1, e2, e3⟩
    rintro H1 ⟨s1, bs, hD, hb, hbn⟩
    rw [List.length_map, List.take_of_length_le (by rw [hc.len]; exact Nat.le_refl _)] at hbn
    refine ⟨_, rfl, by show 0 ≤ sizeLine; decide, fun Z nZ => ⟨D, Z, bs.map V.ref, rfl, rfl, sqL_of (same_new nZ _ _ hD), sqL_of upd_same, _, rfl, ?_⟩⟩
    rcases hbn with ⟨e1, rfl⟩ | ⟨c0, b, r, e1, rfl, e3⟩
    · exact iteF (kn _ (s1.trans (same_new nZ)) e1)
    · exact iteT ⟨_, rfl, D, _, 0, .ref b, rfl, rfl, sqL_of (same_new nZ _ _ hD), at_zero rfl, ky b c0 _ (s1.trans (same_new nZ)) e1 ((s1.trans (same_new nZ)) _ _ e3)⟩
/-! barred, by a law -/
def barB (v : V) : V := if isMis v = true then .str "barred" else v

/-! changes by their kinds; what they do to a value -/
theorem ch_fill {ch : Ch} (h : ch.kind = "fill") : ∃ n j, ch = .fill n j := by
  cases ch with
  | fill n j => exact ⟨n, j, rfl⟩
  | great _ _ _ => exact absurd (show ("greatest" : Str) = "fill" from h) (by decide +kernel)
  | rename _ _ => exact absurd (show ("rename" : Str) = "fill" from h) (by decide +kernel)
  | drop _ => exact absurd (show ("drop" : Str) = "fill" from h) (by decide +kernel)
  | add _ _ _ => exact absurd (show ("add" : Str) = "fill" from h) (by decide +kernel)
  | dflt _ _ => exact absurd (show ("default" : Str) = "fill" from h) (by decide +kernel)
theorem ch_great {ch : Ch} (h : ch.kind = "greatest") : ∃ n g way, ch = .great n g way := by
  cases ch with
  | fill _ _ => exact absurd (show ("fill" : Str) = "greatest" from h) (by decide +kernel)
  | great n g way => exact ⟨n, g, way, rfl⟩
  | rename _ _ => exact absurd (show ("rename" : Str) = "greatest" from h) (by decide +kernel)
  | drop _ => exact absurd (show ("drop" : Str) = "greatest" from h) (by decide +kernel)
  | add _ _ _ => exact absurd (show ("add" : Str) = "greatest" from h) (by decide +kernel)
  | dflt _ _ => exact absurd (show ("default" : Str) = "greatest" from h) (by decide +kernel)
theorem ch_rename {ch : Ch} (h : ch.kind = "rename") : ∃ n m, ch = .rename n m := by
  cases ch with
  | fill _ _ => exact absurd (show ("fill" : Str) = "rename" from h) (by decide +kernel)
  | great _ _ _ => exact absurd (show ("greatest" : Str) = "rename" from h) (by decide +kernel)
  | rename n m => exact ⟨n, m, rfl⟩
  | drop _ => exact absurd (show ("drop" : Str) = "rename" from h) (by decide +kernel)
  | add _ _ _ => exact absurd (show ("add" : Str) = "rename" from h) (by decide +kernel)
  | dflt _ _ => exact absurd (show ("default" : Str) = "rename" from h) (by decide +kernel)
theorem ch_drop {ch : Ch} (h : ch.kind = "drop") : ∃ n, ch = .drop n := by
  cases ch with
  | fill _ _ => exact absurd (show ("fill" : Str) = "drop" from h) (by decide +kernel)
  | great _ _ _ => exact absurd (show ("greatest" : Str) = "drop" from h) (by decide +kernel)
  | rename _ _ => exact absurd (show ("rename" : Str) = "drop" from h) (by decide +kernel)
  | drop n => exact ⟨n, rfl⟩
  | add _ _ _ => exact absurd (show ("add" : Str) = "drop" from h) (by decide +kernel)
  | dflt _ _ => exact absurd (show ("default" : Str) = "drop" from h) (by decide +kernel)
theorem ch_add {ch : Ch} (h : ch.kind = "add") : ∃ n g d, ch = .add n g d := by
  cases ch with
  | fill _ _ => exact absurd (show ("fill" : Str) = "add" from h) (by decide +kernel)
  | great _ _ _ => exact absurd (show ("greatest" : Str) = "add" from h) (by decide +kernel)
  | rename _ _ => exact absurd (show ("rename" : Str) = "add" from h) (by decide +kernel)
  | drop _ => exact absurd (show ("drop" : Str) = "add" from h) (by decide +kernel)
  | add n g d => exact ⟨n, g, d, rfl⟩
  | dflt _ _ => exact absurd (show ("default" : Str) = "add" from h) (by decide +kernel)
theorem val_mis {v : V} (h : valOk v = true) : isMis v = false := by
  cases v with
  | non => rfl
  | int _ => rfl
  | _ => cases h
theorem chgV_no {n : Str} {ch : Ch} {v : V} (h : ¬ ch.name = n) : chgV n ch v = v := if_neg h
theorem nar_mis {g : Int} {way : Str} {v : V} {n : Str} (hm : isMis (chgV n (.great n g way) v) = true) (hv : valOk v = true) : narV g way v = .str "barred" := by
  unfold chgV at hm
  rw [if_pos (show (Ch.great n g way).name = n from rfl)] at hm
  unfold narV
  cases v with
  | non => cases hm
  | int j =>
    have hm : isMis (if g < j then abv g way else .int j) = true := hm
    split at hm
    · rename_i q
      rw [if_neg (show ¬ fitV g (.int j) = true by show ¬ decide (j ≤ g) = true; rw [decide_eq_false (by omega)]; decide)]
      unfold abv at hm
      split at hm
      · cases hm
      · rename_i q1
        rw [if_neg q1]
        split at hm
        · cases hm
        · rename_i q2
          rw [if_neg q2]
    · cases hm
  | _ => cases hv
theorem chg_ok {n : Str} {ch : Ch} {v : V} (hv : valOk v = true) (hm : isMis (chgV n ch v) = false) : valOk (chgV n ch v) = true := by
  unfold chgV at hm ⊢
  split at hm
  · rename_i h
    rw [if_pos h]
    cases ch with
    | great n g way =>
      cases v with
      | non => rfl
      | int j =>
        have hm : isMis (if g < j then abv g way else .int j) = false := hm
        show valOk (if g < j then abv g way else .int j) = true
        split at hm
        · rename_i q
          rw [if_pos q]
          unfold abv at hm ⊢
          split at hm
          · rename_i q1
            rw [if_pos q1]
            rfl
          · rename_i q1
            rw [if_neg q1]
            split at hm
            · rename_i q2
              rw [if_pos q2]
              rfl
            · exact absurd hm (by decide +kernel)
        · rename_i q
          rw [if_neg q]
          rfl
      | _ => cases hv
    | fill n i => cases v <;> first | rfl | cases hv
    | _ => cases v <;> first | rfl | cases hv
  · rename_i h
    rw [if_neg h]
    exact hv
theorem chg_same {n : Str} {ch : Ch} {v : V} (h1 : ¬ ch.kind = "fill") (h2 : ¬ ch.kind = "greatest") : chgV n ch v = v := by
  unfold chgV
  split
  · cases ch with
    | fill _ _ => exact absurd rfl h1
    | great _ _ _ => exact absurd rfl h2
    | _ => cases v <;> rfl
  · rfl
theorem chg_int {n : Str} {ch : Ch} {j : Int} (h2 : ¬ ch.kind = "greatest") : chgV n ch (.int j) = .int j := by
  unfold chgV
  split
  · cases ch with
    | great _ _ _ => exact absurd rfl h2
    | _ => rfl
  · rfl

/-! _law_pass: a value led from an edition to the last -/
def sp_passL (K : PySem.W.Frag) : Sp := fun vs H Q _ => ∃ (h : Addr) (cs : List Col) (chs : List Ch) (ws : List Str) (n : Int) (v : V) (i : Nat), vs = [.ref h, .int n, .int (i : Nat), v] ∧ BhAt K H h cs chs ws ∧ HistOk cs chs ∧ i ≤ chs.length ∧ n < numE cs chs i ∧ isVal v = true ∧
  ∀ H', Same H H' → Q (barB (ledEnd cs chs n i v)) H'
theorem ok_passL (T : Tx K mg) : Callee P w K mg base CX0 3 "_law_pass" ["_law_h", "_law_n", "_law_at", "_law_value"] [] (sp_passL K) := by
  have Cb := (ok_col_n (P := P) (w := w) (base := base) T).up (show 1 ≤ 2 by decide)
  have Cn := ok_narrow (P := P) (w := w) (base := base) T
  refine mkCallee (fd__law_pass T) (mg__law_pass T) sc__law_pass (fun _ _ _ _ _ _ us hl => match us, hl with | [_, _, _, _], _ => rfl) (fun vs H Q E h => ?_) (fun cdv A outer s H vs Q E hr h => ?_)
  · obtain ⟨h, cs, chs, ws, n, v, i, rfl, _⟩ := h
    rfl
  · obtain ⟨h, cs, chs, ws, n, v, i, rfl, hh, o, hil, hn0, hv, k⟩ := h
    obtain ⟨kN, hkN⟩ : ∃ kN, i + kN = chs.length := ⟨chs.length - i, by omega⟩
    have hik : i + kN ≤ chs.length := by omega
    unfold ledEnd at k
    rw [show chs.length - i = kN by omega] at k
    have nd := sc__law_pass.nd
    have hu := hu_of hr
    have few := o.few
    refine ⟨_, (pss_cons (ps_for PassesOwn.never rfl (pi_range2 (by rfl) (fr_range T) (pa_cons (pv 2) (pa_cons (pe_callB call_len (by rfl) (fr_len T) PySem.boot_len (pa_cons (pe_dget hu (pv 0) pe_str (fun _ _ => rfl)) pa_nil)) pa_nil))) (pg_name (i := 4) nd rfl (Or.inl rfl)) (pss_cons (ps_par (i := 5) (j := 6) rfl nd rfl rfl (by decide) rfl rfl (pa_cons (pcall Cb hr (pa_cons (pv 0) (pa_cons (pv 4) (pa_cons (pv 1) pa_nil)))) (pa_cons (pe_ix ix_list (pe_dget hu (pv 0) pe_str (fun _ _ => rfl)) (pv 4) (fun _ _ => rfl)) pa_nil)) (by rfl))
        (pss_cons (ps_if (pt_cmpR op_isN (pv 5) pe_non (nomark _)) (pss_one (ps_ret (pv 3))) pss_nil)
        (pss_cons (ps_if (PW.pt (pw_and (pt_cmpR op_eq (pe_ix ix_tup (pv 6) pe_int (fun _ _ => rfl)) (pe_dget hu (pv 5) pe_str (fun _ _ => rfl)) (nomark _)) (pw_and (pt_cmpR op_eq (pe_ix ix_tup (pv 6) pe_int (fun _ _ => rfl)) pe_str (nomark _)) (pw_and1 (pt_cmpR op_isN (pv 3) pe_non (nomark _)))))) (pss_one (ps_set (i := 3) nd rfl (Or.inl rfl) (pe_ix ix_tup (pv 6) pe_int (fun _ _ => rfl)))) pss_nil)
        (pss_cons (ps_if (PW.pt (pw_and (pt_cmpR op_eq (pe_ix ix_tup (pv 6) pe_int (fun _ _ => rfl)) (pe_dget hu (pv 5) pe_str (fun _ _ => rfl)) (nomark _)) (pw_and1 (pt_cmpR op_eq (pe_ix ix_tup (pv 6) pe_int (fun _ _ => rfl)) pe_str (nomark _))))) (pss_one (ps_set (i := 3) nd rfl (Or.inl rfl) (pcall Cn hr (pa_cons (pv 3) (pa_cons (pe_ix ix_tup (pv 6) pe_int (fun _ _ => rfl)) (pa_cons (pe_ix ix_tup (pv 6) pe_int (fun _ _ => rfl)) pa_nil)))))) pss_nil)
        (pss_one (ps_if (pt_cmpR op_eq (pv 3) pe_str (nomark _)) (pss_one (ps_ret (pv 3))) pss_nil)))))))
        (pss_one (ps_ret (pv 3)))), ?_⟩
    obtain ⟨sh0, ca0, wd0, es0, ts0, g1, g2, g3, g4, g5, g6⟩ := id hh
    refine ⟨_, rfl, _, rfl, h, _, rfl, bh_changes g1, _, chs.length, rfl, .inl ⟨_, sqL_of g4, by rw [List.length_map, g5.len]⟩, (i : Nat), ((chs.length : Nat) : Int), rfl, by omega, ?_⟩
    rw [← hkN]
    have hnn : ((((i + kN : Nat) : Int)) - ((i : Nat) : Int)).toNat = kN := by omega
    rw [hnn]
    refine for_range (fun j σ H' => Same H H' ∧ (∃ x5 x6 x7 : Option V, σ = [some (.ref h), some (.int n), some (.int (i : Nat)), some (ledT cs chs n i v j), x5, x6, x7]) ∧ isVal (ledT cs chs n i v j) = true) ⟨Same.refl _, ⟨none, none, none, rfl⟩, hv⟩ ?_ ?_
    · rintro j σ H' hj ⟨s', ⟨x5, x6, x7, rfl⟩, hvj⟩
      have e0 : ((i : Nat) : Int) + (j : Int) = ((i + j : Nat) : Int) := by omega
      rw [e0]
      have hij : i + j < chs.length := by omega
      have hci : chs[i + j]? = some chs[i + j] := List.getElem?_eq_getElem hij
      generalize chs[i + j] = ch at hci
      have fch := (o.f _ _ hci).1
      have hh' := hh.keep s'
      have hnj : n < numE cs chs (i + j) := Int.lt_of_lt_of_le hn0 (numE_mono (by omega))
      refine ⟨_, rfl, _, rfl, _, rfl, h, cs, chs, ws, i + j, n, rfl, hh', o, by omega, fun H2 s2 hno => ?_, fun a c H2 s2 hc' hat => ?_⟩
      · have hno : colE cs chs (i + j) n = none := hno
        obtain ⟨ca', ts', t', c1, c2, c3, c4, c5⟩ := (hh'.keep s2).change hci
        refine ⟨_, rfl, h, _, rfl, c1, _, rfl, ca', _, _, .ref t', rfl, rfl, sqL_of c2, lref_at c4, _, _, rfl, ?_⟩
        dsimp only
        refine ⟨_, rfl, rfl, _, rfl, iteDT rfl ⟨_, rfl, ?_⟩⟩
        have := k H2 (s'.trans s2)
        rw [show kN = j + (kN - j) by omega, ledT_gone o hno hnj (kN - j) (by omega)] at this
        unfold barB at this
        rw [if_neg (by rw [isVal_mis hvj]; decide)] at this
        exact this
      · have hc' : colE cs chs (i + j) n = some c := hc'
        obtain ⟨ca', ts', t, c1, c2, c3, c4, c5⟩ := (hh'.keep s2).change hci
        have hsucc : ledT cs chs n i v (j + 1) = chgV c.name ch (ledT cs chs n i v j) := by
          rw [ledT_succ hci]
          unfold stepN
          have hc'' : (colsE cs chs (i + j)).find? (isK n) = some c := hc'
          rw [if_neg (by rw [isVal_mis hvj]; decide), hc'']
        generalize hvv : ledT cs chs n i v j = vj at hvj hsucc
        have hvo := isVal_ok hvj
        have ht' : SqT K H2 t ch.toV := c5
        refine ⟨_, rfl, h, _, rfl, c1, _, rfl, ca', _, _, .ref t, rfl, rfl, sqL_of c2, lref_at c4, _, _, rfl, ?_⟩
        dsimp only
        refine ⟨_, rfl, rfl, _, rfl, iteD (fun z => by cases z) (nxt ?_)⟩
        dsimp only
        refine s_seq (fun σ' H3 => ∃ vA, σ' = [some (.ref h), some (.int n), some (.int (i : Nat)), some vA, some (.int ((i + j : Nat) : Int)), some (.ref a), some (.ref t)] ∧ H3 = H2 ∧ valOk vA = true ∧ (¬ ch.kind = "greatest" → vA = chgV c.name ch vj) ∧ (ch.kind = "greatest" → vA = vj)) ?_ ?_
        rotate_left
        · intro kk
          by_cases hn : ch.name = c.name
          · refine ⟨_, rfl, t, _, 1, _, rfl, rfl, ht', ch.at1, _, rfl, a, _, rfl, bc_name hat, rfl, _, rfl, iteDT (by rw [hn]) ⟨_, rfl, t, _, 0, _, rfl, rfl, ht', ch.at0, rfl, _, rfl, ?_⟩⟩
            by_cases hk : ch.kind = "fill"
            · refine iteDT (by rw [hk]) ⟨_, rfl, rfl, _, rfl, ?_⟩
              obtain ⟨nm, jj, rfl⟩ := ch_fill hk
              have hn : nm = c.name := hn
              cases vj with
              | non => exact iteDT rfl ⟨_, rfl, t, _, 2, _, rfl, rfl, ht', rfl, kk _ _ ⟨.int jj, rfl, rfl, rfl, fun _ => by rw [chgV, if_pos (show (Ch.fill nm jj).name = c.name from hn)], fun z => absurd (show ("fill" : Str) = "greatest" from z) (by decide +kernel)⟩⟩
              | int u => exact iteD (fun z => by cases z) (kk _ _ ⟨.int u, rfl, rfl, rfl, fun z => (chg_int z).symm, fun _ => rfl⟩)
              | _ => cases hvo
            · exact iteD (nes hk) (iteF (kk _ _ ⟨vj, rfl, rfl, hvo, fun z => (chg_same hk z).symm, fun _ => rfl⟩))
          · exact ⟨_, rfl, t, _, 1, _, rfl, rfl, ht', ch.at1, _, rfl, a, _, rfl, bc_name hat, rfl, _, rfl, iteD (nes hn) (iteF (kk _ _ ⟨vj, rfl, rfl, hvo, fun _ => (chgV_no hn).symm, fun _ => rfl⟩))⟩
        rintro σ' H3 ⟨vA, e1, e3, hvA, hA1, hA2⟩
        rw [e1, e3]
        clear e1 e3
        refine s_seq (fun σ' H3 => σ' = [some (.ref h), some (.int n), some (.int (i : Nat)), some (barB (chgV c.name ch vj)), some (.int ((i + j : Nat) : Int)), some (.ref a), some (.ref t)] ∧ Same H2 H3) ?_ ?_
        rotate_left
        · intro kk
          have go : vA = chgV c.name ch vj → _ := fun e => kk [some (.ref h), some (.int n), some (.int (i : Nat)), some vA, some (.int ((i + j : Nat) : Int)), some (.ref a), some (.ref t)] H2 ⟨by
            unfold barB
            rw [← e, if_neg (by rw [val_mis hvA]; decide)], Same.refl _⟩
          by_cases hn : ch.name = c.name
          · refine ⟨_, rfl, t, _, 1, _, rfl, rfl, ht', ch.at1, _, rfl, a, _, rfl, bc_name hat, rfl, _, rfl, iteDT (by rw [hn]) ⟨_, rfl, t, _, 0, _, rfl, rfl, ht', ch.at0, rfl, _, rfl, ?_⟩⟩
            by_cases hk : ch.kind = "greatest"
            · obtain ⟨nm, g, way, rfl⟩ := ch_great hk
              have hn : nm = c.name := hn
              subst hn
              have hwy : isWy way = true := (Bool.and_eq_true_iff.mp (Bool.and_eq_true_iff.mp fch).2).2
              rw [hA2 rfl]
              refine iteDT rfl ⟨_, rfl, _, rfl, t, _, 2, _, rfl, rfl, ht', rfl, _, rfl, t, _, 3, _, rfl, rfl, ht', rfl, vj, g, way, rfl, hvo, hwy, fun H3 s3 => kk _ _ ⟨?_, s3⟩⟩
              have : narV g way vj = barB (chgV c.name (.great c.name g way) vj) := by
                unfold barB
                cases hm : isMis (chgV c.name (.great c.name g way) vj) with
                | true => exact nar_mis hm hvo
                | false => exact nar_chg hvo hm
              rw [← this]
              rfl
            · exact iteD (nes hk) (go (hA1 hk))
          · refine ⟨_, rfl, t, _, 1, _, rfl, rfl, ht', ch.at1, _, rfl, a, _, rfl, bc_name hat, rfl, _, rfl, iteD (nes hn) (iteF (go ?_))⟩
            by_cases hk : ch.kind = "greatest"
            · rw [hA2 hk, chgV_no hn]
            · exact hA1 hk
        rintro σ' H3 ⟨e1, s3⟩
        rw [e1]
        clear e1
        have s03 := (s'.trans s2).trans s3
        cases hm : isMis (chgV c.name ch vj) with
        | true =>
          have eb : barB (chgV c.name ch vj) = .str "barred" := if_pos hm
          rw [eb]
          refine ⟨_, rfl, rfl, _, rfl, iteDT rfl ⟨_, rfl, ?_⟩⟩
          have := k H3 s03
          rw [show kN = (j + 1) + (kN - (j + 1)) by omega, ledT_mis (by rw [hsucc]; exact hm), hsucc, eb] at this
          exact this
        | false =>
          have eb : barB (chgV c.name ch vj) = chgV c.name ch vj := if_neg (by rw [hm]; decide)
          have hvn := chg_val fch hvj hm
          rw [eb]
          have hnb : ¬ chgV c.name ch vj = V.str "barred" := fun z => by rw [z] at hvn; cases hvn
          have hsc : scal (chgV c.name ch vj) (.str "barred") = true := by
            cases hx : chgV c.name ch vj with
            | non => rfl
            | int _ => rfl
            | _ => rw [hx] at hvn; cases hvn
          refine ⟨_, rfl, hsc, _, rfl, iteD hnb (nxt ⟨s03, ⟨_, _, _, by rw [hsucc]⟩, by rw [hsucc]; exact hvn⟩)⟩
    · rintro σ H' ⟨s', ⟨x5, x6, x7, rfl⟩, hvj⟩
      refine ⟨_, rfl, ?_⟩
      have := k H' s'
      unfold barB at this
      rw [if_neg (by rw [isVal_mis hvj]; decide)] at this
      exact this
/-! _law_born: the edition at which a number is first there -/
def sp_bornL (K : PySem.W.Frag) : Sp := fun vs H Q _ => ∃ (h : Addr) (cs : List Col) (chs : List Ch) (ws : List Str) (n : Int), vs = [.ref h, .int n] ∧ BhAt K H h cs chs ws ∧ HistOk cs chs ∧ 0 ≤ n ∧ n < (atC cs chs).2 ∧ ∀ H', Same H H' → Q (.int (bornN cs chs n : Nat)) H'
theorem find_first {f : Nat → Bool} {b n : Nat} (hb : b < n) (h1 : f b = true) (h2 : ∀ i, i < b → f i = false) : ((List.range n).filter f)[0]? = some b := by
  have e : List.range n = List.range b ++ (b :: (List.range' (b + 1) (n - (b + 1)))) := by
    have h3 : List.range' b (n - b) = b :: List.range' (b + 1) (n - (b + 1)) := by
      rw [show n - b = (n - (b + 1)) + 1 by omega]
      rfl
    rw [← h3, List.range_eq_range', List.range_eq_range']
    have h4 := List.range'_append_1 (s := 0) (m := b) (n := n - b)
    rw [Nat.zero_add] at h4
    rw [h4]
    congr 1
    omega
  rw [e, List.filter_append, List.filter_cons, if_pos h1]
  have : (List.range b).filter f = [] := by
    rw [List.filter_eq_nil_iff]
    intro i hi
    rw [h2 i (List.mem_range.mp hi)]
    decide
  rw [this]
  rfl
theorem ok_bornL (T : Tx K mg) : Callee P w K mg base CX0 2 "_law_born" ["_law_h", "_law_n"] [] (sp_bornL K) := by
  have C1 := ok_col_n (P := P) (w := w) (base := base) T
  refine mkCallee (fd__law_born T) (mg__law_born T) sc__law_born (fun _ _ _ _ _ _ us hl => match us, hl with | [_, _], _ => rfl) (fun vs H Q E h => ?_) (fun cdv A outer s H vs Q E hr h => ?_)
  · obtain ⟨h, cs, chs, ws, n, rfl, _⟩ := h
    rfl
  · obtain ⟨h, cs, chs, ws, n, rfl, hh, o, h0, h1, k⟩ := h
    have nd := sc__law_born.nd
    have hu := hu_of hr
    have few := o.few
    refine ⟨_, (pss_one (ps_ret (pe_ix ix_list (pe_lc (own := [("_law_at", 2)]) (g := gName 2) (tt := tTest (tOp (fun x y H Q => y = .non ∧ Q (.bl (!decide (x = .non))) H) (tCall (sp_col_n K) [] E0 (tCons (tVar 0) (tCons (tVar 2) (tCons (tVar 1) tNil)))) (tC .non))) (te := tVar 2) rfl nd (pi_range1 (by rfl) (fr_range T) (pa_cons (pe_callB call_len (by rfl) (fr_len T) PySem.boot_len (pa_cons (pe_dget hu (pv 0) pe_str (fun _ _ => rfl)) pa_nil)) pa_nil)) (blkOk_by (N := ["_law_h", "_law_n", "_law_at"]) (sc := defScope s__law_born) (by decide +kernel)) (fun _ _ _ _ _ => (pg_name (i := 2) nd rfl (Or.inl rfl))) (fun _ _ _ _ _ => pts_one (pt_cmpR op_notN (pcall C1 hr (pa_cons (pv 0) (pa_cons (pv 2) (pa_cons (pv 1) pa_nil)))) pe_non (nomark _))) (fun _ _ _ _ _ => (pv 2))) pe_int (fun _ _ => rfl)))), ?_⟩
    obtain ⟨sh, es, e, as, d1, d2, d3, d4, d5, hc⟩ := hh.sheet (Nat.zero_le chs.length)
    have d3' : es.length = chs.length + 1 := d3
    refine pl_rop ?_
    refine tlc_R (fun v => match v with | .int j => (colE cs chs j.toNat n).isSome | _ => false) id ((es.length : Nat) : Int) (fun R hR => ⟨_, rfl, h, _, rfl, d1, _, es.length, rfl, .inl ⟨_, sqL_of d2, by rw [List.length_map]⟩, hR H (Same.refl _)⟩) (by omega) (fun _ => rfl) ?_ (fun j hj hf H' s' R hR => ⟨_, rfl, hR H' (Same.refl _)⟩) (by omega) ?_
    · intro j hj H' s' R hR
      refine ⟨_, rfl, _, rfl, _, rfl, h, cs, chs, ws, j, n, rfl, hh.keep s', o, by omega, fun H2 s2 hno => ?_, fun a c H2 s2 hc' hat => ?_⟩
      · have := hR H2 s2
        have this : R (colE cs chs j n).isSome H2 := this
        rw [hno] at this
        exact ⟨rfl, _, rfl, this⟩
      · have := hR H2 s2
        have this : R (colE cs chs j n).isSome H2 := this
        rw [hc'] at this
        exact ⟨rfl, _, rfl, this⟩
    intro D H1 nD s1 hD
    obtain ⟨_, h2, h3⟩ := bornN_spec o h0 h1
    obtain ⟨c', hc'⟩ := born_there o h0 h2 h3
    have first := find_first (f := fun j => (colE cs chs j n).isSome) (b := bornN cs chs n) (n := es.length) (by omega) (by show (colE cs chs (bornN cs chs n) n).isSome = true; rw [hc']; rfl) (fun i hi => by
      show (colE cs chs i n).isSome = false
      cases e : colE cs chs i n with
      | none => rfl
      | some c =>
        obtain ⟨k1, k2⟩ := findK_mem e
        have := ((o.f.good o.g i (by omega)).ok c k1).2
        have h4 : numE cs chs i ≤ n := h3.2 i hi
        rw [k2] at this
        have this : n < numE cs chs i := this
        omega)
    refine ⟨D, _, 0, .int (bornN cs chs n : Nat), rfl, rfl, sqL_of hD, at_zero ?_, k H1 s1⟩
    rw [List.map_id, List.filter_map, List.getElem?_map]
    have ee : ((List.range ((es.length : Nat) : Int).toNat).filter ((fun v => match v with | .int j => (colE cs chs j.toNat n).isSome | _ => false) ∘ fun m : Nat => V.int (m : Int)))[0]? = some (bornN cs chs n) := first
    rw [ee]
    rfl
/-! _law_missing_value: what becomes of a number's first default -/
def sp_missV (K : PySem.W.Frag) : Sp := fun vs H Q _ => ∃ (h : Addr) (cs : List Col) (chs : List Ch) (ws : List Str) (n : Int), vs = [.ref h, .int n] ∧ BhAt K H h cs chs ws ∧ HistOk cs chs ∧ 0 ≤ n ∧ n < (atC cs chs).2 ∧ ∀ H', Same H H' → Q (barB (ledEnd cs chs n (bornN cs chs n) (dfltB cs chs n))) H'
theorem ok_missV (T : Tx K mg) : Callee P w K mg base CX0 4 "_law_missing_value" ["_law_h", "_law_n"] [] (sp_missV K) := by
  have C1 := (ok_bornL (P := P) (w := w) (base := base) T).up (show 2 ≤ 3 by decide)
  have C2 := (ok_col_n (P := P) (w := w) (base := base) T).up (show 1 ≤ 3 by decide)
  have C3 := ok_passL (P := P) (w := w) (base := base) T
  refine mkCallee (fd__law_missing_value T) (mg__law_missing_value T) sc__law_missing_value (fun _ _ _ _ _ _ us hl => match us, hl with | [_, _], _ => rfl) (fun vs H Q E h => ?_) (fun cdv A outer s H vs Q E hr h => ?_)
  · obtain ⟨h, cs, chs, ws, n, rfl, _⟩ := h
    rfl
  · obtain ⟨h, cs, chs, ws, n, rfl, hh, o, h0, h1, k⟩ := h
    have nd := sc__law_missing_value.nd
    have hu := hu_of hr
    refine ⟨_, (pss_cons (ps_set (i := 2) nd rfl (Or.inl rfl) (pcall C1 hr (pa_cons (pv 0) (pa_cons (pv 1) pa_nil))))
        (pss_one (ps_ret (pcall C3 hr (pa_cons (pv 0) (pa_cons (pv 1) (pa_cons (pv 2) (pa_cons (pe_dget hu (pcall C2 hr (pa_cons (pv 0) (pa_cons (pv 2) (pa_cons (pv 1) pa_nil)))) pe_str (fun _ _ => rfl)) pa_nil)))))))), ?_⟩
    refine q_asgX ⟨_, rfl, _, rfl, h, cs, chs, ws, n, rfl, hh, o, h0, h1, fun H1 s1 => ?_⟩
    obtain ⟨_, h2, h3⟩ := bornN_spec o h0 h1
    obtain ⟨cb, hcb⟩ := born_there o h0 h2 h3
    have hdf : dfltB cs chs n = cb.dflt := by
      unfold dfltB
      rw [hcb]
    have hdv : isVal cb.dflt = true := by rw [← hdf]; exact dfltB_val o h0 h1
    rw [hdf] at k
    refine ⟨_, rfl, _, rfl, _, rfl, _, rfl, _, rfl, _, rfl, h, cs, chs, ws, bornN cs chs n, n, rfl, hh.keep s1, o, h2, fun H2 s2 hno => ?_, fun a c H2 s2 hc hat => ?_⟩
    · rw [hcb] at hno
      cases hno
    · obtain rfl : cb = c := Option.some.inj (hcb.symm.trans hc)
      exact ⟨a, _, rfl, bc_d hat, h, cs, chs, ws, n, cb.dflt, bornN cs chs n, rfl, hh.keep (s1.trans s2), o, h2, h3.1, hdv, fun H3 s3 => k H3 ((s1.trans s2).trans s3)⟩
/-! _law_dead: whether no row of an edition can be there, by a law -/
def sp_deadL (K : PySem.W.Frag) : Sp := fun vs H Q _ => ∃ (h : Addr) (cs : List Col) (chs : List Ch) (ws : List Str) (m : Nat), vs = [.ref h, .int (m : Nat)] ∧ BhAt K H h cs chs ws ∧ HistOk cs chs ∧ m ≤ chs.length ∧ ∀ H', Same H H' → Q (.bl (deadB cs chs m)) H'
theorem bar_isStr {v : V} (h : isMis v = true ∨ isVal v = true) : decide (barB v = .str "barred") = isMis v ∧ scal (barB v) (.str "barred") = true := by
  unfold barB
  rcases h with h | h
  · rw [h]
    exact ⟨rfl, rfl⟩
  · rw [isVal_mis h, if_neg (by decide)]
    cases v with
    | non => exact ⟨rfl, rfl⟩
    | int _ => exact ⟨rfl, rfl⟩
    | _ => cases h
theorem led_end_or {cs : List Col} {chs : List Ch} (o : HistOk cs chs) {n : Int} {s : Nat} {v : V} (h : isVal v = true) : isMis (ledEnd cs chs n s v) = true ∨ isVal (ledEnd cs chs n s v) = true := by
  unfold ledEnd
  cases e : isMis (ledT cs chs n s v (chs.length - s)) with
  | true => exact .inl rfl
  | false => exact .inr (ledT_val o h _ e)
theorem ok_deadL (T : Tx K mg) : Callee P w K mg base CX0 5 "_law_dead" ["_law_h", "_law_edition"] [] (sp_deadL K) := by
  have C1 := (ok_bornL (P := P) (w := w) (base := base) T).up (show 2 ≤ 4 by decide)
  have C2 := ok_missV (P := P) (w := w) (base := base) T
  refine mkCallee (fd__law_dead T) (mg__law_dead T) sc__law_dead (fun _ _ _ _ _ _ us hl => match us, hl with | [_, _], _ => rfl) (fun vs H Q E h => ?_) (fun cdv A outer s H vs Q E hr h => ?_)
  · obtain ⟨h, cs, chs, ws, m, rfl, _⟩ := h
    rfl
  · obtain ⟨h, cs, chs, ws, m, rfl, hh, o, hm, k⟩ := h
    have nd := sc__law_dead.nd
    have hu := hu_of hr
    have few := o.few
    refine ⟨_, (pss_cons (ps_for PassesOwn.never rfl (pi_range1 (by rfl) (fr_range T) (pa_cons (pe_dget hu (pv 0) pe_str (fun _ _ => rfl)) pa_nil)) (pg_name (i := 2) nd rfl (Or.inl rfl)) (pss_one (ps_if (PW.pt (pw_and (pt_cmpR op_gt (pcall C1 hr (pa_cons (pv 0) (pa_cons (pv 2) pa_nil))) (pv 1) (nomark _)) (pw_and1 (pt_cmpR op_eq (pcall C2 hr (pa_cons (pv 0) (pa_cons (pv 2) pa_nil))) pe_str (nomark _))))) (pss_one (ps_ret pe_bl)) pss_nil)))
        (pss_one (ps_ret pe_bl))), ?_⟩
    have hN0 := (o.f.good o.g chs.length (Nat.le_refl _)).nn
    rw [List.take_length] at hN0
    have hN1 : (atC cs chs).2 ≤ 100 := by
      have := atC_le (cs := cs) (chs := chs) chs.length (Nat.le_refl _)
      rw [List.take_length] at this
      have := o.g.six
      omega
    obtain ⟨sh, ca, wd, es', ts, g1, g2, g3, g4, g5, g6⟩ := id hh
    refine ⟨_, rfl, h, _, rfl, bh_given g1, _, rfl, by omega, by omega, ?_⟩
    refine for_range (lo := 0) (n := (atC cs chs).2.toNat) (fun j σ H' => Same H H' ∧ (∃ x2 : Option V, σ = [some (.ref h), some (.int (m : Nat)), x2]) ∧ ∀ j' : Nat, j' < j → (!decide (((j' : Nat) : Int) < numE cs chs m) && (pairsE cs chs (j' : Nat) m).isEmpty) = false) ⟨Same.refl _, ⟨none, rfl⟩, fun j' hj => by omega⟩ ?_ ?_
    · rintro j σ H' hj ⟨s', ⟨x2, rfl⟩, hb⟩
      have e0 : (0 : Int) + (j : Int) = (j : Int) := by omega
      rw [e0]
      have hjN : ((j : Nat) : Int) < (atC cs chs).2 := by omega
      have more : (!decide (((j : Nat) : Int) < numE cs chs m) && (pairsE cs chs (j : Nat) m).isEmpty) = false → ∀ j' : Nat, j' < j + 1 → (!decide (((j' : Nat) : Int) < numE cs chs m) && (pairsE cs chs (j' : Nat) m).isEmpty) = false := fun q j' hj' => by
        by_cases q' : j' < j
        · exact hb j' q'
        · obtain rfl : j' = j := by omega
          exact q
      refine ⟨_, rfl, _, rfl, h, cs, chs, ws, (j : Nat), rfl, hh.keep s', o, by omega, hjN, fun H2 s2 => ⟨_, rfl, _, _, rfl, rfl, _, rfl, ?_⟩⟩
      have iff_ := born_iff o (by omega : (0 : Int) ≤ (j : Nat)) hjN hm
      by_cases hn : ((j : Nat) : Int) < numE cs chs m
      · refine iteD (fun z => (iff_.mp z) hn) (iteF (nxt ⟨s'.trans s2, ⟨_, rfl⟩, more ?_⟩))
        rw [decide_eq_true hn]
        rfl
      · refine iteDT (iff_.mpr hn) ⟨_, rfl, _, rfl, h, cs, chs, ws, (j : Nat), rfl, (hh.keep s').keep s2, o, by omega, hjN, fun H3 s3 => ?_⟩
        have hor := led_end_or o (n := (j : Nat)) (s := bornN cs chs (j : Nat)) (dfltB_val o (by omega : (0 : Int) ≤ (j : Nat)) hjN)
        obtain ⟨b1, b2⟩ := bar_isStr hor
        have hal := args_later (cs := cs) (chs := chs) hn
        refine ⟨b2, _, rfl, ?_⟩
        rw [b1]
        have s03 := (s'.trans s2).trans s3
        cases hm' : isMis (ledEnd cs chs (j : Nat) (bornN cs chs (j : Nat)) (dfltB cs chs (j : Nat))) with
        | true =>
          rw [hm', if_pos rfl] at hal
          have := k H3 s03
          have hd : deadB cs chs m = true := by
            unfold deadB
            rw [List.any_eq_true]
            refine ⟨j, List.mem_range.mpr (by omega), ?_⟩
            rw [pairs_args, hal, decide_eq_false hn]
            rfl
          rw [hd] at this
          exact iteT this
        | false =>
          rw [hm', if_neg (by decide)] at hal
          refine iteF (nxt ⟨s03, ⟨_, rfl⟩, more ?_⟩)
          rw [pairs_args, hal]
          exact Bool.and_false _
    · rintro σ H' ⟨s', ⟨x2, rfl⟩, hb⟩
      have := k H' s'
      have hd : deadB cs chs m = false := by
        rw [Bool.eq_false_iff]
        intro q
        unfold deadB at q
        rw [List.any_eq_true] at q
        obtain ⟨j, hj, q⟩ := q
        rw [hb j (List.mem_range.mp hj)] at q
        cases q
      rw [hd] at this
      exact this
/-! _law_map_of: the map of a column from an edition, by a law -/
def sp_map_ofL (P : Program) (w : World) (K : PySem.W.Frag) : Sp := fun vs H Q _ => ∃ (h : Addr) (cs : List Col) (chs : List Ch) (ws : List Str) (n : Int) (m : Nat), vs = [.ref h, .int (m : Nat), .int n] ∧ BhAt K H h cs chs ws ∧ HistOk cs chs ∧ 0 ≤ n ∧ n < (atC cs chs).2 ∧ m ≤ chs.length ∧ goneB cs chs n m = false ∧
  ∀ (d : Addr) (kvs : List (OKey × V)) (H' : Hp), H d = none → Same H H' → H' d = some (optO P w d kvs) → (kvs.map (fun kv => oV kv.1) = argsE cs chs n m ∧ kvs = pairsE cs chs n m) → Q (.ref d) H'
theorem pairs_later {cs : List Col} {chs : List Ch} {n : Int} {m : Nat} (hn : ¬ n < numE cs chs m) : pairsE cs chs n m = if isMis (ledEnd cs chs n (bornN cs chs n) (dfltB cs chs n)) = true then [] else [(some (.inr "missing"), ledEnd cs chs n (bornN cs chs n) (dfltB cs chs n))] := by
  have hse : startE cs chs n m = bornN cs chs n := if_neg hn
  have hss : startsV cs chs n m = [(some (.inr "missing"), dfltB cs chs n)] := if_neg hn
  unfold pairsE
  rw [hse, hss, List.filterMap_cons]
  unfold keepP
  split
  · rename_i q
    split at q
    · rename_i q2
      rw [if_pos q2]
      rfl
    · cases q
  · rename_i kv q
    split at q
    · cases q
    · rename_i q2
      rw [if_neg q2, ← Option.some.inj q]
      rfl
theorem ok_map_ofL (T : Tx K mg) : Callee P w K mg base CX0 5 "_law_map_of" ["_law_h", "_law_edition", "_law_n"] [] (sp_map_ofL P w K) := by
  have C1 := (ok_bornL (P := P) (w := w) (base := base) T).up (show 2 ≤ 4 by decide)
  have C2 := ok_missV (P := P) (w := w) (base := base) T
  have C3 := (ok_col_n (P := P) (w := w) (base := base) T).up (show 1 ≤ 4 by decide)
  have C4 := (ok_passL (P := P) (w := w) (base := base) T).up (show 3 ≤ 4 by decide)
  refine mkCallee (fd__law_map_of T) (mg__law_map_of T) sc__law_map_of (fun _ _ _ _ _ _ us hl => match us, hl with | [_, _, _], _ => rfl) (fun vs H Q E h => ?_) (fun cdv A outer s H vs Q E hr h => ?_)
  · obtain ⟨h, cs, chs, ws, n, m, rfl, _⟩ := h
    rfl
  · obtain ⟨h, cs, chs, ws, n, m, rfl, hh, o, h0, h1, hm, hg, k⟩ := h
    have nd := sc__law_map_of.nd
    have hu := hu_of hr
    have few := o.few
    refine ⟨_, (pss_cons (ps_if (pt_cmpR op_gt (pcall C1 hr (pa_cons (pv 0) (pa_cons (pv 2) pa_nil))) (pv 1) (nomark _)) (pss_cons (ps_set (i := 3) nd rfl (Or.inl rfl) (pcall C2 hr (pa_cons (pv 0) (pa_cons (pv 2) pa_nil))))
        (pss_one (ps_ret (pe_ifExp (pt_cmpR op_eq (pv 3) pe_str (nomark _)) (pe_asO pe_dnewK) (pe_asO (pe_disp (pps_cons pe_str (pv 3) pps_nil) (by rfl) (by rfl) (fun z => by cases z) (by decide))))))) pss_nil)
        (pss_cons (ps_par (i := 4) (j := 5) rfl nd rfl rfl (by decide) rfl rfl (pa_cons (pe_asO pe_dnewK) (pa_cons (pcall C3 hr (pa_cons (pv 0) (pa_cons (pv 1) (pa_cons (pv 2) pa_nil)))) pa_nil)) (by rfl))
        (pss_cons (ps_for PassesOwn.never rfl (pi_list (pe_op op_cat (pe_lst (pa_cons pe_non pa_nil)) (pe_listRg rfl (by rfl) (fr_list T) (prg_1 (by rfl) (fr_range T) (pe_op op_add (pe_dget hu (pv 5) pe_str (fun _ _ => rfl)) pe_int))))) (pg_name (i := 3) nd rfl (Or.inl rfl)) (pss_cons (ps_set (i := 6) nd rfl (Or.inl rfl) (pcall C4 hr (pa_cons (pv 0) (pa_cons (pv 2) (pa_cons (pv 1) (pa_cons (pv 3) pa_nil))))))
        (pss_one (ps_if (pt_cmpR op_ne (pv 6) pe_str (nomark _)) (pss_one (ps_dputO (pv 4) (pv 3) (pv 6) rfl)) pss_nil))))
        (pss_one (ps_ret (pv 4)))))), ?_⟩
    have hz : sizeLine = 16777216 := by decide
    have iff_ := born_iff o h0 h1 hm
    refine ⟨_, rfl, _, rfl, h, cs, chs, ws, n, rfl, hh, o, h0, h1, fun H1 s1 => ⟨_, rfl, _, _, rfl, rfl, _, rfl, ?_⟩⟩
    by_cases hn : n < numE cs chs m
    · refine iteD (fun z => (iff_.mp z) hn) (nxt ?_)
      obtain ⟨c, hc⟩ : ∃ c, colE cs chs m n = some c := by
        cases e : colE cs chs m n with
        | some c => exact ⟨c, rfl⟩
        | none =>
          unfold goneB at hg
          rw [decide_eq_true hn, e] at hg
          cases hg
      obtain ⟨k1, k2⟩ := findK_mem hc
      obtain ⟨t1, t9⟩ := gr_of ((o.f.good o.g m hm).ok c k1).1
      have hss : startsV cs chs n m = (valsTo c.top).map fun v => (keyO v, v) := by
        unfold startsV
        rw [if_pos hn, hc]
      have hse : startE cs chs n m = m := if_pos hn
      dsimp only
      refine fun f nf => ⟨f, [], rfl, upd_same, ?_⟩
      have s2 : Same H1 (upd (upd H1 f (.dK [])) f (optO P w f [])) := same_mut (same_new nf) nf
      have hf2 : upd (upd H1 f (.dK [])) f (optO P w f []) f = some (optO P w f []) := upd_same
      refine ⟨_, rfl, _, rfl, _, rfl, h, cs, chs, ws, m, n, rfl, hh.keep (s1.trans s2), o, hm, fun H3 s3 hno => ?_, fun a c' H3 s3 hc' hat => ⟨_, _, rfl, ?_⟩⟩
      · rw [hc] at hno
        cases hno
      obtain rfl : c = c' := Option.some.inj (hc.symm.trans hc')
      have hf3 := s3 _ _ hf2
      have s03 := (s1.trans s2).trans s3
      have nf0 : H f = none := s1.free nf
      dsimp only
      refine ⟨by decide, fun l0 nl0 => ?_⟩
      have sl : Same H3 (upd H3 l0 (.lst [.non])) := same_new nl0
      refine ⟨_, rfl, a, _, rfl, bc_g (sl _ _ hat), _, _, rfl, rfl, _, rfl, .of_le (by omega) (by omega) (by omega) (by omega), fun q0 hq => ?_⟩
      have nq : l0 ≠ q0 := ne_of_none upd_same hq
      refine ⟨l0, q0, _, _, rfl, rfl, (by rw [upd_ne nq]; exact upd_same), upd_same, ?_, fun p hp => ?_⟩
      · rw [rgV_length]
        rw [hz]
        show 1 + (c.top + 1 - 0).toNat ≤ _
        omega
      have s4 : Same H3 (upd (upd (upd H3 l0 (.lst [.non])) q0 (.lst (rgV 0 (c.top + 1)))) p (.lst (valsTo c.top))) := (sl.trans (same_new hq)).trans (same_new hp)
      have hp4 : upd (upd (upd H3 l0 (.lst [.non])) q0 (.lst (rgV 0 (c.top + 1)))) p (.lst (valsTo c.top)) p = some (.lst (valsTo c.top)) := upd_same
      refine ⟨p, rfl, ⟨valsTo c.top, sqL_of hp4⟩, ?_⟩
      show ∃ W : Nat → Nat → L2.St → Hp → Prop, (∃ m, W 0 m _ (upd (upd (upd H3 l0 (.lst [.non])) q0 (.lst (rgV 0 (c.top + 1)))) p (.lst (valsTo c.top)))) ∧ _
      generalize upd (upd (upd H3 l0 (.lst [.non])) q0 (.lst (rgV 0 (c.top + 1)))) p (.lst (valsTo c.top)) = H4 at s4 hp4 ⊢
      have s04 := s03.trans s4
      have hf4 := s4 _ _ hf3
      have npf : p ≠ f := fun z => by rw [z, hf4] at hp4; cases hp4
      refine for_list (xs := valsTo c.top) (fun u σ H5 => (∃ x3 x6 : Option V, σ = [some (.ref h), some (.int (m : Nat)), some (.int n), x3, some (.ref f), some (.ref a), x6]) ∧ But f H4 H5 ∧ H5 f = some (optO P w f (((startsV cs chs n m).take u).filterMap (keepP cs chs n m)))) ⟨⟨_, _, rfl⟩, But.refl _ _, hf4⟩ (fun i σ H5 _ q => sqL_of (q.2.1 _ _ npf hp4)) ?_ ?_
      · rintro u v σ H5 hv ⟨⟨x3, x6, rfl⟩, b5, hf5⟩
        have hvv := valsTo_val (List.mem_of_getElem? hv)
        have s05 : Same H H5 := But.same b5 s04 nf0
        have hkv : (startsV cs chs n m)[u]? = some (keyO v, v) := by
          rw [hss, List.getElem?_map, hv]
          rfl
        dsimp only
        refine ⟨_, rfl, _, rfl, _, rfl, _, rfl, h, cs, chs, ws, n, v, m, rfl, hh.keep s05, o, hm, hn, hvv, fun H6 s6 => ?_⟩
        have hor := led_end_or o (n := n) (s := m) hvv
        obtain ⟨b1, b2⟩ := bar_isStr hor
        have hf6 := s6 _ _ hf5
        dsimp only
        refine ⟨_, rfl, b2, _, rfl, ?_⟩
        rw [b1]
        cases hmis : isMis (ledEnd cs chs n m v) with
        | true =>
          refine iteF (nxt ⟨⟨_, _, rfl⟩, b5.trans (But.of s6), ?_⟩)
          rw [keep_skip hkv hmis]
          exact hf6
        | false =>
          have hln := startsV_len (n := n) o hm
          have eb : barB (ledEnd cs chs n m v) = ledEnd cs chs n m v := if_neg (by rw [hmis]; decide)
          rw [eb]
          refine iteT ⟨_, rfl, _, rfl, _, rfl, f, _, keyO v, rfl, hf6, (oV_keyO (.inl hvv)).symm, ?_, ⟨_, _, rfl⟩, (b5.trans (But.of s6)).trans But.mut, ?_⟩
          · have := List.length_filterMap_le (keepP cs chs n m) ((startsV cs chs n m).take u)
            rw [List.length_take] at this
            omega
          · rw [upd_same]
            exact congrArg (fun z => some (optO P w f z)) (keep_take hkv startsV_nodup hmis)
      · rintro σ H5 ⟨⟨x3, x6, rfl⟩, b5, hf5⟩
        have hlv : (valsTo c.top).length = (startsV cs chs n m).length := by rw [hss, List.length_map]
        rw [hlv, List.take_length] at hf5
        exact ⟨_, rfl, k f _ H5 nf0 (But.same b5 s04 nf0) hf5 ⟨by unfold argsE pairsE; rw [hse], by unfold pairsE; rw [hse]⟩⟩
    · refine iteDT (iff_.mpr hn) ?_
      have hor := led_end_or o (n := n) (s := bornN cs chs n) (dfltB_val o h0 h1)
      obtain ⟨b1, b2⟩ := bar_isStr hor
      have hal := args_later (cs := cs) (chs := chs) hn
      refine q_asgX ⟨_, rfl, _, rfl, h, cs, chs, ws, n, rfl, hh.keep s1, o, h0, h1, fun H2 s2 => ?_⟩
      have s02 := s1.trans s2
      refine ⟨_, rfl, b2, _, rfl, ?_⟩
      rw [b1]
      cases hmis : isMis (ledEnd cs chs n (bornN cs chs n) (dfltB cs chs n)) with
      | true =>
        rw [hmis, if_pos rfl] at hal
        refine iteT fun d ndd => ⟨d, [], rfl, upd_same, k d [] _ (s02.free ndd) (s02.trans (same_mut (same_new ndd) ndd)) upd_same ⟨hal.symm, by rw [pairs_later hn, if_pos hmis]⟩⟩
      | false =>
        rw [hmis, if_neg (by decide)] at hal
        refine iteF fun d ndd => ⟨_, rfl, upd_same, [(Sum.inr "missing", barB (ledEnd cs chs n (bornN cs chs n) (dfltB cs chs n)))], rfl, by show 1 ≤ 15; decide, d, _, rfl, upd_same, ?_⟩
        have sd : Same H2 (upd (upd (upd H2 d (.dK [])) d (.dK (mergeK [] [(Sum.inr "missing", barB (ledEnd cs chs n (bornN cs chs n) (dfltB cs chs n)))]))) d (optO P w d ((mergeK [] [((Sum.inr "missing" : Key), barB (ledEnd cs chs n (bornN cs chs n) (dfltB cs chs n)))]).map fun kv => (some kv.1, kv.2)))) := same_mut (same_mut (same_new ndd) ndd) ndd
        refine k d _ _ (s02.free ndd) (s02.trans sd) upd_same ⟨hal.symm, ?_⟩
        have eb : barB (ledEnd cs chs n (bornN cs chs n) (dfltB cs chs n)) = ledEnd cs chs n (bornN cs chs n) (dfltB cs chs n) := if_neg (by rw [hmis]; decide)
        rw [pairs_later hn, if_neg (by rw [hmis]; decide), eb]
        rfl
/-! _law_maps: the maps of all columns of the present from an edition, by a law -/
theorem optO_keepNL {P : Program} {w : World} {H H' : Hp} {d : Addr} {kvs : List (OKey × V)} (s : KeepNL H H') (h : H d = some (optO P w d kvs)) : H' d = some (optO P w d kvs) := s _ _ (fun zs z => by cases z) h
/-- a dict from numbers to dicts, column by column -/
def dictsD (ns : List Int) (ds : List Addr) : List (Key × V) := (ns.zip ds).map fun p => (Sum.inl p.1, .ref p.2)
def MapsAt (P : Program) (w : World) (H : Hp) (d : Addr) (cs : List Col) (chs : List Ch) (m : Nat) : Prop := ∃ ds : List Addr, ds.length = (colsE cs chs chs.length).length ∧ H d = some (.dK (dictsD ((colsE cs chs chs.length).map (·.num)) ds)) ∧ ∀ (j : Nat) (c : Col) (a : Addr), (colsE cs chs chs.length)[j]? = some c → ds[j]? = some a → H a = some (optO P w a (pairsE cs chs c.num m))
theorem MapsAt.keep {P : Program} {w : World} {H H' : Hp} {d : Addr} {cs : List Col} {chs : List Ch} {m : Nat} (s : Same H H') (h : MapsAt P w H d cs chs m) : MapsAt P w H' d cs chs m := by
  obtain ⟨ds, h1, h2, h3⟩ := h
  exact ⟨ds, h1, s _ _ h2, fun j c a q1 q2 => s _ _ (h3 j c a q1 q2)⟩
theorem MapsAt.keepNL {P : Program} {w : World} {H H' : Hp} {d : Addr} {cs : List Col} {chs : List Ch} {m : Nat} (s : KeepNL H H') (h : MapsAt P w H d cs chs m) : MapsAt P w H' d cs chs m := by
  obtain ⟨ds, h1, h2, h3⟩ := h
  exact ⟨ds, h1, s _ _ (fun zs z => by cases z) h2, fun j c a q1 q2 => optO_keepNL s (h3 j c a q1 q2)⟩
def sp_mapsL (P : Program) (w : World) (K : PySem.W.Frag) : Sp := fun vs H Q _ => ∃ (h : Addr) (cs : List Col) (chs : List Ch) (ws : List Str) (m : Nat), vs = [.ref h, .int (m : Nat)] ∧ BhAt K H h cs chs ws ∧ HistOk cs chs ∧ m ≤ chs.length ∧
  ∀ (d : Addr) (H' : Hp), H d = none → Same H H' → MapsAt P w H' d cs chs m → Q (.ref d) H'
theorem ok_mapsL (T : Tx K mg) : Callee P w K mg base CX0 6 "_law_maps" ["_law_h", "_law_edition"] [] (sp_mapsL P w K) := by
  have C1 := ok_map_ofL (P := P) (w := w) (base := base) T
  have C2 := (ok_numbersL (P := P) (w := w) (base := base) T).up (show 1 ≤ 5 by decide)
  refine mkCallee (fd__law_maps T) (mg__law_maps T) sc__law_maps (fun _ _ _ _ _ _ us hl => match us, hl with | [_, _], _ => rfl) (fun vs H Q E h => ?_) (fun cdv A outer s H vs Q E hr h => ?_)
  · obtain ⟨h, cs, chs, ws, m, rfl, _⟩ := h
    rfl
  · obtain ⟨h, cs, chs, ws, m, rfl, hh, o, hm, k⟩ := h
    have nd := sc__law_maps.nd
    have few := o.few
    have g := o.f.good o.g chs.length (Nat.le_refl _)
    have asc := asc_at o chs.length (Nat.le_refl _)
    have g6 : (colsE cs chs chs.length).length ≤ 6 := g.six
    have nds : ((colsE cs chs chs.length).map (·.num)).Nodup := by
      unfold List.Nodup
      exact List.Pairwise.imp (fun {a b} q z => by rw [z] at q; omega) asc
    refine ⟨_, (pss_one (ps_ret (pe_callTy (call_dictP rfl) (by rfl) (fr_dict T) (by decide +kernel) (pa_cons (pe_lc (own := [("_law_n", 2)]) (g := gName 2) (tt := tYes) (te := tTup (tCons (tVar 2) (tCons (tCall (sp_map_ofL P w K) [] E0 (tCons (tVar 0) (tCons (tVar 1) (tCons (tVar 2) tNil)))) tNil))) rfl nd (pi_list (pcall C2 hr (pa_cons (pv 0) pa_nil))) (blkOk_by (N := ["_law_h", "_law_edition", "_law_n"]) (sc := defScope s__law_maps) (by decide +kernel)) (fun _ _ _ _ _ => (pg_name (i := 2) nd rfl (Or.inl rfl))) (fun _ _ _ _ _ => pts_nil) (fun _ _ _ _ _ => (pe_tup (pa_cons (pv 2) (pa_cons (pcall C1 hr (pa_cons (pv 0) (pa_cons (pv 1) (pa_cons (pv 2) pa_nil)))) pa_nil))))) pa_nil)))), ?_⟩
    refine pl_r1 ?_
    refine tlc_G (K := K) (xs := (colsE cs chs chs.length).map fun c => V.int c.num) (fun i y H' => ∃ (t a : Addr) (c : Col), y = .ref t ∧ (colsE cs chs chs.length)[i]? = some c ∧ SqT K H' t [.int c.num, .ref a] ∧ H' a = some (optO P w a (pairsE cs chs c.num m))) (fun i y H1 H2 s2 ⟨t, a, c, h1, h2, h3, h4⟩ => ⟨t, a, c, h1, h2, sqT_keepNL s2 h3, optO_keepNL s2 h4⟩) (fun R hR => ⟨_, rfl, h, cs, chs, ws, rfl, hh, o, fun l H' nl s1 hl => hR l H' s1 (sqL_of hl)⟩) (by rw [List.length_map]; omega) (fun _ => rfl) ?_ ?_
    · intro i x hx H3 s3 R hR
      rw [List.getElem?_map, Option.map_eq_some_iff] at hx
      obtain ⟨c, hci, rfl⟩ := hx
      obtain ⟨h0, h1, hg, hcl⟩ := col_now o (List.mem_of_getElem? hci) hm
      refine ⟨_, rfl, _, rfl, _, rfl, _, rfl, h, cs, chs, ws, c.num, m, rfl, hh.keep s3, o, h0, h1, hm, hg, fun d kvs H4 nd4 s4 hd ⟨_, hkv⟩ => ⟨by show 2 ≤ sizeLine; decide, fun t nt => ?_⟩⟩
      rw [hkv] at hd
      refine hR _ _ (s4.trans (same_new nt)) ⟨t, d, c, rfl, hci, sqT_of upd_same, same_new nt _ _ hd⟩
    · intro D ys H2 nD s2 hD hlen hy
      rw [List.length_map] at hlen
      have ex : ∃ ts as : List Addr, ys = ts.map V.ref ∧ ts.length = (colsE cs chs chs.length).length ∧ as.length = (colsE cs chs chs.length).length ∧ ∀ (i : Nat) (t a : Addr) (c : Col), ts[i]? = some t → as[i]? = some a → (colsE cs chs chs.length)[i]? = some c → SqT K H2 t [.int c.num, .ref a] ∧ H2 a = some (optO P w a (pairsE cs chs c.num m)) := by
        clear hD nD k nds asc g6
        revert hy hlen
        generalize colsE cs chs chs.length = cl
        intro hlen hy
        induction ys generalizing cl with
        | nil => exact ⟨[], [], rfl, hlen, hlen, fun i t a c h1 => by simp at h1⟩
        | cons y ys ih =>
          cases cl with
          | nil => cases hlen
          | cons c0 cl =>
            obtain ⟨ts, as, e1, e2, e3, e4⟩ := ih cl (Nat.succ.inj hlen) (fun i y' hy' => hy (i + 1) y' hy')
            obtain ⟨t, a, c, q1, q2, q3, q4⟩ := hy 0 y rfl
            obtain rfl : c0 = c := Option.some.inj q2
            refine ⟨t :: ts, a :: as, by rw [q1, e1]; rfl, congrArg (· + 1) e2, congrArg (· + 1) e3, fun i t' a' c' h1 h2 h3 => ?_⟩
            cases i with
            | zero =>
              obtain rfl := Option.some.inj (show some t = some t' from h1)
              obtain rfl := Option.some.inj (show some a = some a' from h2)
              obtain rfl := Option.some.inj (show some c0 = some c' from h3)
              exact ⟨q3, q4⟩
            | succ i => exact e4 i t' a' c' h1 h2 h3
      obtain ⟨ts, as, rfl, e2, e3, e4⟩ := ex
      have hlk : (dictsD ((colsE cs chs chs.length).map (·.num)) as).length = (colsE cs chs chs.length).length := by
        unfold dictsD
        rw [List.length_map, List.length_zip, List.length_map, e3, Nat.min_self]
      have hkeys : (dictsD ((colsE cs chs chs.length).map (·.num)) as).map (·.1) = ((colsE cs chs chs.length).map (·.num)).map fun n => (Sum.inl n : Key) := by
        unfold dictsD
        rw [List.map_map, ← List.map_fst_zip (l₁ := (colsE cs chs chs.length).map (·.num)) (l₂ := as) (by rw [List.length_map, e3]; exact Nat.le_refl _), List.map_map, List.map_fst_zip (by rw [List.length_map, e3]; exact Nat.le_refl _)]
        rfl
      refine ⟨D, ts, dictsD ((colsE cs chs chs.length).map (·.num)) as, rfl, sqL_of hD, paired_of (by rw [hlk, e2]) (fun j t kv h5 h6 => ?_), fun kd nk => ?_⟩
      · have hj := (List.getElem?_eq_some_iff.mp h5).1
        have hc := List.getElem?_eq_getElem (l := colsE cs chs chs.length) (i := j) (by omega)
        have ha := List.getElem?_eq_getElem (l := as) (i := j) (by omega)
        generalize (colsE cs chs chs.length)[j] = c at hc
        generalize as[j] = a at ha
        have : (dictsD ((colsE cs chs chs.length).map (·.num)) as)[j]? = some (Sum.inl c.num, .ref a) := by
          unfold dictsD
          rw [List.getElem?_map, (List.getElem?_zip_eq_some (z := (c.num, a))).mpr ⟨by rw [List.getElem?_map, hc]; rfl, ha⟩]
          rfl
        rw [this] at h6
        obtain rfl := Option.some.inj h6
        exact (e4 j t a c h5 ha hc).1
      · have em : mergeK [] (dictsD ((colsE cs chs chs.length).map (·.num)) as) = dictsD ((colsE cs chs chs.length).map (·.num)) as := merge_new _ [] (by
          rw [List.nil_append, hkeys]
          unfold List.Nodup
          rw [List.pairwise_map]
          exact List.Pairwise.imp (fun q z => q (Sum.inl.inj z)) nds)
        rw [em]
        have s3 : Same H2 (upd H2 kd (.dK (dictsD ((colsE cs chs chs.length).map (·.num)) as))) := same_new nk
        refine k kd _ (s2.free nk) (s2.trans s3) ⟨as, e3, upd_same, fun j c a q1 q2 => s3 _ _ ?_⟩
        have hj := (List.getElem?_eq_some_iff.mp q1).1
        have ht := List.getElem?_eq_getElem (l := ts) (i := j) (by omega)
        exact (e4 j _ a c ht q2 q1).2
/-! sorted([int(x) for x in d]), d a dict of ints -/
theorem sorted_keys {K : PySem.W.Frag} {σ : L2.St} {H : Hp} {Q : VK} {i j : Nat} {vs : List Nat} {te : TE} {kd : Addr} {kvs : List (Key × V)} {ns : List Int} (hσ : σ[i]? = some (some (.ref kd))) (hk3 : H kd = some (.dK kvs)) (hkeys : kvs.map (·.1) = ns.map (Sum.inl : Int → Key)) (hasc : ns.Pairwise (· < ·)) (hz : ns.length ≤ 100000)
    (hw : ∀ x, wipe ((wipe σ vs).set j (some x)) vs = wipe σ vs) (he : ∀ (z : Int) (H' : Hp) (R : VK), R (.int z) H' → te ((wipe σ vs).set j (some (.int z))) H' R) (k : ∀ (q : Addr) (H' : Hp), H q = none → Same H H' → H' q = some (.lst (ns.map V.int)) → Q (.ref q) H') :
    tLockE (tLc (iKeys (tVar i)) (gName j) tYes te vs) σ H fun v H1 => rSortedI K [v] H1 Q := by
  have hsl : sizeLine = 16777216 := by decide
  have hlk : kvs.length = ns.length := by
    have := congrArg List.length hkeys
    rw [List.length_map, List.length_map] at this
    exact this
  refine ⟨kd, .dK kvs, hk3, by first | trivial | exact True.intro | decide, fun od => ?_⟩
  have hf : upd H kd (.frz od (.dK kvs)) kd = some (.frz od (.dK kvs)) := upd_same
  refine ⟨_, hσ, kd, od, rfl, .inl ⟨_, hf, fun E nE => ?_⟩⟩
  have nEo : kd ≠ E := ne_of_none hf nE
  have nE0 : H E = none := by
    rw [upd_ne nEo.symm] at nE
    exact nE
  refine lc_it walk_keys (fun i H' => (∀ b u, b ≠ kd → H b = some u → H' b = some u) ∧ H' kd = some (.frz od (.dK kvs)) ∧ H' E = some (.lst ((ns.take i).map V.int))) ⟨fun b u hb e => ?_, ?_, upd_same⟩ (fun i H' _ q => q.2.1) ?_ ?_
  · have : upd H kd (.frz od (.dK kvs)) b = some u := by rw [upd_ne hb]; exact e
    exact same_new nE _ _ this
  · rw [upd_ne nEo]
    exact hf
  · rintro i x H' H'' hi ⟨q1, q2, q3⟩ ⟨rfl, kk, v, hk, rfl⟩
    have hki : (kvs.map (·.1))[i]? = some kk := by rw [List.getElem?_map, hk]; rfl
    rw [hkeys, List.getElem?_map, Option.map_eq_some_iff] at hki
    obtain ⟨z, hzi, rfl⟩ := hki
    refine ⟨hw _, ?_⟩
    refine tyY ?_
    refine he z _ _ ⟨_, q3, ?_, fun b u hb eb => ?_, ?_, ?_⟩
    · rw [List.length_map, List.length_take]
      omega
    · by_cases hbE : b = E
      · subst hbE
        rw [nE0] at eb
        cases eb
      · rw [upd_ne hbE]
        exact q1 b u hb eb
    · rw [upd_ne nEo]
      exact q2
    · rw [upd_same, List.take_add_one, hzi, List.map_append]
      rfl
  · rintro H' ⟨q1, q2, q3⟩
    rw [hlk, List.take_length] at q3
    have s1 : Same H (upd H' kd (.dK kvs)) := fun b u eb => by
      by_cases hbo : b = kd
      · subst hbo
        rw [upd_same, ← hk3]
        exact eb
      · rw [upd_ne hbo]
        exact q1 b u hbo eb
    refine ⟨q2, E, ns, rfl, sqL_of ?_, fun ns' q perm pw nq => ?_⟩
    · rw [upd_ne nEo.symm]
      exact q3
    · rw [sorted_eq perm pw hasc]
      exact k q _ (s1.free nq) (s1.trans (same_new nq)) upd_same

/-! _law_parting: where the maps of two editions part, by a law -/
theorem dictsD_keys {ns : List Int} {ds : List Addr} (h : ds.length = ns.length) : (dictsD ns ds).map (·.1) = ns.map (Sum.inl : Int → Key) := by
  unfold dictsD
  rw [List.map_map]
  induction ns generalizing ds with
  | nil => rfl
  | cons n ns ih =>
    cases ds with
    | nil => cases h
    | cons d ds => exact congrArg (_ :: ·) (ih (Nat.succ.inj h))
theorem dictsD_get {ns : List Int} {ds : List Addr} {j : Nat} {n : Int} {d : Addr} (nd : ns.Nodup) (h1 : ns[j]? = some n) (h2 : ds[j]? = some d) : valV (dictsD ns ds) (Sum.inl n) = some (V.ref d) := by
  induction ns generalizing ds j with
  | nil => simp at h1
  | cons n' ns ih =>
    cases ds with
    | nil => simp at h2
    | cons d' ds =>
      rw [List.nodup_cons] at nd
      cases j with
      | zero =>
        obtain rfl := Option.some.inj (show some n' = some n from h1)
        obtain rfl := Option.some.inj (show some d' = some d from h2)
        exact valV_pos rfl
      | succ j =>
        have h1 : ns[j]? = some n := h1
        have ne : (Sum.inl n' : Key) ≠ Sum.inl n := fun e => nd.1 (by rw [Sum.inl.inj e]; exact List.mem_of_getElem? h1)
        show valV ((Sum.inl n', V.ref d') :: dictsD ns ds) _ = _
        rw [valV_neg ne]
        exact ih nd.2 h1 h2
theorem diff_drop {xs : List V} {f : V → Bool} {i : Nat} {x : V} (hx : xs[i]? = some x) : (f x = true → (xs.drop i).filter f = x :: (xs.drop (i + 1)).filter f) ∧ (f x = false → (xs.drop i).filter f = (xs.drop (i + 1)).filter f) := by
  obtain ⟨q1, q2⟩ := List.getElem?_eq_some_iff.mp hx
  rw [List.drop_eq_getElem_cons q1, q2, List.filter_cons]
  exact ⟨fun h => if_pos h, fun h => if_neg (by rw [h]; decide)⟩
def sp_partingL (P : Program) (w : World) (K : PySem.W.Frag) : Sp := fun vs H Q _ => ∃ (a b : Addr) (cs : List Col) (chs : List Ch) (m m' : Nat), vs = [.ref a, .ref b] ∧ MapsAt P w H a cs chs m ∧ MapsAt P w H b cs chs m' ∧ HistOk cs chs ∧ m ≤ chs.length ∧ m' ≤ chs.length ∧
  ∀ (v : V) (H' : Hp), Same H H' → PartV H' v (partF cs chs m m' (colsE cs chs chs.length)) → Q v H'
theorem ok_partingL (T : Tx K mg) : Callee P w K mg base CX0 3 "_law_parting" ["_law_mine", "_law_theirs"] [] (sp_partingL P w K) := by
  have C1 := ok_orderedL (P := P) (w := w) (base := base) T
  refine mkCallee (fd__law_parting T) (mg__law_parting T) sc__law_parting (fun _ _ _ _ _ _ us hl => match us, hl with | [_, _], _ => rfl) (fun vs H Q E h => ?_) (fun cdv A outer s H vs Q E hr h => ?_)
  · obtain ⟨a, b, cs, chs, m, m', rfl, _⟩ := h
    rfl
  · obtain ⟨a, b, cs, chs, m, m', rfl, ⟨da, a1, a2, a3⟩, ⟨db, b1, b2, b3⟩, o, hm, hm', k⟩ := h
    have nd := sc__law_parting.nd
    have hu := hu_of hr
    have few := o.few
    have g := o.f.good o.g chs.length (Nat.le_refl _)
    have asc := asc_at o chs.length (Nat.le_refl _)
    have ascN : ((colsE cs chs chs.length).map (·.num)).Pairwise (· < ·) := asc
    have g6 : (colsE cs chs chs.length).length ≤ 6 := g.six
    have nds : ((colsE cs chs chs.length).map (·.num)).Nodup := by
      unfold List.Nodup
      exact List.Pairwise.imp (fun {a b} q z => by rw [z] at q; omega) asc
    refine ⟨_, (pss_cons (ps_for PassesOwn.never rfl (pi_list (pe_callB cr_sortedI (by rfl) (fr_sorted T) (by decide +kernel) (pa_cons (pe_lock (pe_lc (own := [("_law_one", 4)]) (g := gName 4) (tt := tYes) rfl nd (pi_keys (pv 0)) (blkOk_by (N := ["_law_mine", "_law_theirs", "_law_n", "_law_argument", "_law_one"]) (sc := defScope s__law_parting) (by decide +kernel))
            (fun _ _ _ _ _ => pg_name (i := 4) nd rfl (Or.inl rfl)) (fun _ _ _ _ _ => pts_nil) (fun _ _ _ _ _ => pe_callTy call_int1 (by rfl) (fr_int T) (by decide +kernel) (pa_cons (pv 4) pa_nil)))) pa_nil))) (pg_name (i := 2) nd rfl (Or.inl rfl))
          (pss_one (ps_for PassesOwn.never rfl (pi_list (pcall C1 hr (pa_cons (pe_callTy (call_listO rfl) (by rfl) (fr_list T) (by decide +kernel) (pa_cons (pe_dget hu (pv 0) (pv 2) (fun _ _ => rfl)) pa_nil)) pa_nil))) (pg_name (i := 3) nd rfl (Or.inl rfl))
            (pss_one (ps_if (PW.pt (pw_and (pt_cmp (pc_dinO (pv 3) (pe_dget hu (pv 1) (pv 2) (fun _ _ => rfl)))) (pw_and1 (pt_cmpR op_ne (pe_dgetO (pe_dget hu (pv 0) (pv 2) (fun _ _ => rfl)) (pv 3) (fun _ _ => rfl)) (pe_dgetO (pe_dget hu (pv 1) (pv 2) (fun _ _ => rfl)) (pv 3) (fun _ _ => rfl)) (nomark _))))) (pss_one (ps_ret (pe_tup (pa_cons (pv 2) (pa_cons (pv 3) pa_nil))))) pss_nil)))))
        (pss_one (ps_ret pe_non))), ?_⟩
    refine pl_forL1 ?_
    refine sorted_keys (ns := (colsE cs chs chs.length).map (·.num)) rfl a2 (dictsD_keys (by rw [List.length_map, a1])) ascN (by rw [List.length_map]; omega) (fun _ => rfl) (fun z H' R h => ⟨_, rfl, .inl ⟨_, rfl, h⟩⟩) fun q H1 nq s1 hq => ⟨q, rfl, ⟨_, sqL_of hq⟩, ?_⟩
    refine for_list (xs := ((colsE cs chs chs.length).map (·.num)).map V.int) (fun i σ H' => (∃ x2 x3 x4 : Option V, σ = [some (.ref a), some (.ref b), x2, x3, x4]) ∧ Same H1 H' ∧ partF cs chs m m' ((colsE cs chs chs.length).drop i) = partF cs chs m m' (colsE cs chs chs.length)) ⟨⟨_, _, _, rfl⟩, Same.refl _, rfl⟩ (fun i σ H' _ p => sqL_of (p.2.1 _ _ hq)) ?_ ?_
    case refine_2 =>
      rintro σ H' ⟨⟨x2, x3, x4, rfl⟩, s', hp⟩
      refine k _ _ (s1.trans s') ?_
      rw [← hp, List.length_map, List.length_map, List.drop_length]
      rfl
    rintro i x σ H2 hx ⟨⟨x2, x3, x4, rfl⟩, s2, hp⟩
    rw [List.getElem?_map, List.getElem?_map] at hx
    cases hcj : (colsE cs chs chs.length)[i]? with
    | none =>
      rw [hcj] at hx
      cases hx
    | some c =>
    rw [hcj] at hx
    obtain rfl := Option.some.inj hx
    have hi2 := (List.getElem?_eq_some_iff.mp hcj).1
    have haj := List.getElem?_eq_getElem (l := da) (i := i) (by omega)
    have hbj := List.getElem?_eq_getElem (l := db) (i := i) (by omega)
    generalize da[i] = d1 at haj
    generalize db[i] = d2 at hbj
    have hcn : ((colsE cs chs chs.length).map (·.num))[i]? = some c.num := by rw [List.getElem?_map, hcj]; rfl
    have hcm := List.mem_of_getElem? hcj
    obtain ⟨h0, h1, hg, hcl⟩ := col_now o hcm hm
    have s02 := s1.trans s2
    have ga : ∀ H', Same H H' → DGet H' a (.int c.num) (some (.ref d1)) := fun H' s' => by
      rw [← dictsD_get nds hcn haj]
      exact DGet.k (k := Sum.inl c.num) (s' _ _ a2)
    have gb : ∀ H', Same H H' → DGet H' b (.int c.num) (some (.ref d2)) := fun H' s' => by
      rw [← dictsD_get nds hcn hbj]
      exact DGet.k (k := Sum.inl c.num) (s' _ _ b2)
    have e1 : (colsE cs chs chs.length).drop i = c :: (colsE cs chs chs.length).drop (i + 1) := by
      obtain ⟨q1, q2⟩ := List.getElem?_eq_some_iff.mp hcj
      rw [List.drop_eq_getElem_cons q1, q2]
    rw [e1] at hp
    have plen := pairs_len o (n := c.num) hm
    refine ⟨_, rfl, _, rfl, a, _, rfl, ga H2 s02, d1, _, rfl, .inl ((s02 _ _ (a3 i c d1 hcj haj))), fun l nl => ?_⟩
    have s3 : Same H2 (upd H2 l (.lst ((pairsE cs chs c.num m).map fun kv => oV kv.1))) := same_new nl
    have hl3 : upd H2 l (.lst ((pairsE cs chs c.num m).map fun kv => oV kv.1)) l = some (.lst (argsE cs chs c.num m)) := upd_same
    generalize upd H2 l (.lst ((pairsE cs chs c.num m).map fun kv => oV kv.1)) = H3 at s3 hl3 ⊢
    refine ⟨l, argsE cs chs c.num m, argsE cs chs c.num m, rfl, sqL_of hl3, by unfold argsE; rw [List.length_map]; omega, fun v hv => args_two v hv, fun v => Iff.rfl, args_asc hg, fun r H4 nr s4 hr4 => ⟨r, rfl, ⟨_, sqL_of hr4⟩, ?_⟩⟩
    have s24 := s3.trans s4
    refine for_list (xs := argsE cs chs c.num m) (fun u σ H' => (∃ x3 x4 : Option V, σ = [some (.ref a), some (.ref b), some (.int c.num), x3, x4]) ∧ Same H4 H' ∧ ((argsE cs chs c.num m).drop u).filter (partB (pairsE cs chs c.num m) (pairsE cs chs c.num m')) = diffE cs chs c.num m m') ⟨⟨_, _, rfl⟩, Same.refl _, rfl⟩ (fun i σ H' _ p => sqL_of (p.2.1 _ _ hr4)) ?_ ?_
    case refine_2 =>
      rintro σ H' ⟨⟨x3, x4, rfl⟩, s', hd⟩
      rw [List.drop_length] at hd
      rw [partF_nil hd.symm] at hp
      exact ⟨⟨_, _, _, rfl⟩, s2.trans (s24.trans s'), hp⟩
    rintro u x σ H5 hx ⟨⟨x3, x4, rfl⟩, s5, hd⟩
    have two := args_two x (List.mem_of_getElem? hx)
    obtain ⟨v, hv, hkv⟩ := arg_get (List.mem_of_getElem? hx)
    have hvv := (pairs_right o h0 h1 hkv).2
    have s05 := s02.trans (s24.trans s5)
    obtain ⟨f1, f2⟩ := diff_drop (f := partB (pairsE cs chs c.num m) (pairsE cs chs c.num m')) hx
    have eB : partB (pairsE cs chs c.num m) (pairsE cs chs c.num m') x = match valV (pairsE cs chs c.num m') (keyO x) with
      | some y => decide (valV (pairsE cs chs c.num m) (keyO x) ≠ some y)
      | none => false := rfl
    have ek : x = oV (keyO x) := (oV_keyO two).symm
    have next : partB (pairsE cs chs c.num m) (pairsE cs chs c.num m') x = false → ((argsE cs chs c.num m).drop (u + 1)).filter (partB (pairsE cs chs c.num m) (pairsE cs chs c.num m')) = diffE cs chs c.num m m' := fun q => by rw [← f2 q]; exact hd
    refine ⟨_, rfl, _, rfl, _, rfl, b, _, rfl, gb H5 s05, d2, _, keyO x, rfl, .inl (s05 _ _ (b3 i c d2 hcj hbj)), ek, _, rfl, ?_⟩
    cases hv' : valV (pairsE cs chs c.num m') (keyO x) with
    | none =>
      rw [hv'] at eB
      refine iteF (nxt ?_)
      dsimp only
      exact ⟨⟨_, _, rfl⟩, s5, next eB⟩
    | some y =>
      rw [hv', hv] at eB
      have hy2 : isVal y = true := (pairs_right o h0 h1 (valO_mem hv')).2
      refine iteT ⟨_, rfl, _, rfl, a, _, rfl, ga H5 s05, _, rfl, d1, _, keyO x, v, rfl, .inl (s05 _ _ (a3 i c d1 hcj haj)), ek, hv, _, rfl, _, rfl, b, _, rfl, gb H5 s05, _, rfl, d2, _, keyO x, y, rfl, .inl (s05 _ _ (b3 i c d2 hcj hbj)), ek, hv', val_scal2 hvv hy2, _, rfl, ?_⟩
      by_cases q : v = y
      · subst q
        refine iteNS rfl (nxt ?_)
        dsimp only
        exact ⟨⟨_, _, rfl⟩, s5, next (by rw [eB]; simp)⟩
      · have hf := f1 (by rw [eB]; simp [q])
        rw [hd] at hf
        rw [partF_cons hf] at hp
        refine iteNF q ⟨_, rfl, _, rfl, by show 2 ≤ sizeLine; decide, fun t nt => k _ _ (s05.trans (same_new nt)) ?_⟩
        rw [← hp]
        exact ⟨t, rfl, upd_same⟩
/-! _law_tables: the maps from all editions, by a law -/
def TabsAt (P : Program) (w : World) (H : Hp) (l : Addr) (cs : List Col) (chs : List Ch) : Prop := ∃ ds : List Addr, ds.length = chs.length + 1 ∧ H l = some (.lst (ds.map V.ref)) ∧ ∀ (m : Nat) (d : Addr), ds[m]? = some d → MapsAt P w H d cs chs m
theorem TabsAt.keep {P : Program} {w : World} {H H' : Hp} {d : Addr} {cs : List Col} {chs : List Ch} (s : Same H H') (h : TabsAt P w H d cs chs) : TabsAt P w H' d cs chs := by
  obtain ⟨ds, h1, h2, h3⟩ := h
  exact ⟨ds, h1, s _ _ h2, fun m d q => (h3 m d q).keep s⟩
def sp_tablesL (P : Program) (w : World) (K : PySem.W.Frag) : Sp := fun vs H Q _ => ∃ (h : Addr) (cs : List Col) (chs : List Ch) (ws : List Str), vs = [.ref h] ∧ BhAt K H h cs chs ws ∧ HistOk cs chs ∧
  ∀ (l : Addr) (H' : Hp), H l = none → Same H H' → TabsAt P w H' l cs chs → Q (.ref l) H'
theorem ok_tablesL (T : Tx K mg) : Callee P w K mg base CX0 7 "_law_tables" ["_law_h"] [] (sp_tablesL P w K) := by
  have C1 := ok_mapsL (P := P) (w := w) (base := base) T
  refine mkCallee (fd__law_tables T) (mg__law_tables T) sc__law_tables (fun _ _ _ _ _ _ us hl => match us, hl with | [_], _ => rfl) (fun vs H Q E h => ?_) (fun cdv A outer s H vs Q E hr h => ?_)
  · obtain ⟨h, cs, chs, ws, rfl, _⟩ := h
    rfl
  · obtain ⟨h, cs, chs, ws, rfl, hh, o, k⟩ := h
    have nd := sc__law_tables.nd
    have hu := hu_of hr
    have few := o.few
    refine ⟨_, (pss_one (ps_ret (pe_lc (own := [("_law_at", 1)]) (g := gName 1) (tt := tYes) (te := tCall (sp_mapsL P w K) [] E0 (tCons (tVar 0) (tCons (tVar 1) tNil))) rfl nd (pi_range1 (by rfl) (fr_range T) (pa_cons (pe_callB call_len (by rfl) (fr_len T) PySem.boot_len (pa_cons (pe_dget hu (pv 0) pe_str (fun _ _ => rfl)) pa_nil)) pa_nil)) (blkOk_by (N := ["_law_h", "_law_at"]) (sc := defScope s__law_tables) (by decide +kernel)) (fun _ _ _ _ _ => (pg_name (i := 1) nd rfl (Or.inl rfl))) (fun _ _ _ _ _ => pts_nil) (fun _ _ _ _ _ => (pcall C1 hr (pa_cons (pv 0) (pa_cons (pv 1) pa_nil))))))), ?_⟩
    obtain ⟨sh, es, e0, as0, d1, d2, d3, d4, d5, hc0⟩ := hh.sheet (Nat.zero_le chs.length)
    have d3' : es.length = chs.length + 1 := d3
    refine pl_rlc ⟨_, rfl, h, _, rfl, d1, _, es.length, rfl, .inl ⟨_, sqL_of d2, by rw [List.length_map]⟩, _, rfl, by omega, by omega, fun D nD => ?_⟩
    refine lc_range (lo := 0) (n := (((es.length : Nat) : Int)).toNat) (fun i H' => Same H H' ∧ ∃ ds : List Addr, ds.length = i ∧ H' D = some (.lst (ds.map V.ref)) ∧ ∀ (m : Nat) (d : Addr), ds[m]? = some d → MapsAt P w H' d cs chs m) ⟨same_new nD, [], rfl, upd_same, fun m d q => by simp at q⟩ ?_ ?_
    · rintro i H' hi ⟨s', ds, hl, hD, hma⟩
      have e1 : (0 : Int) + (i : Int) = (i : Int) := by omega
      rw [e1]
      refine ⟨rfl, _, rfl, _, rfl, h, cs, chs, ws, i, rfl, hh.keep s', o, by omega, fun d H2 nd2 s2 hd => ⟨_, s2 _ _ hD, ?_, same_mut (s'.trans s2) nD, ds ++ [d], by rw [List.length_append, hl]; rfl, ?_, fun m d' q => ?_⟩⟩
      · rw [List.length_map, hl]
        have e : sizeLine = 16777216 := by decide
        omega
      · rw [upd_same, List.map_append]
        rfl
      · have kp : KeepNL H2 (upd H2 D (.lst (ds.map V.ref ++ [.ref d]))) := KeepNL.lst (s2 _ _ hD)
        by_cases q' : m < ds.length
        · rw [List.getElem?_append_left q'] at q
          exact ((hma m d' q).keep s2).keepNL kp
        · have : m = ds.length := by
            have := (List.getElem?_eq_some_iff.mp q).1
            rw [List.length_append] at this
            have e2 : [d].length = 1 := rfl
            omega
          subst this
          rw [List.getElem?_append_right (Nat.le_refl _), Nat.sub_self] at q
          obtain rfl : d = d' := Option.some.inj q
          rw [hl]
          exact hd.keepNL kp
    · rintro H' ⟨s', ds, hl, hD, hma⟩
      exact k D H' nD s' ⟨ds, by omega, hD, hma⟩
/-! repr of None, a bool, an int, a text -/
def reprV : V → Str
  | .non => "None"
  | .bl b => if b then "True" else "False"
  | .int i => toString i
  | .str x => reprText x
  | _ => ""
def okR : V → Bool
  | .non => true
  | .bl _ => true
  | .int i => decide (i.natAbs.log2 < 1920)
  | .str x => decide ((reprText x).length ≤ sizeLine)
  | _ => false
theorem call_reprV {X : Cx} : CallR X (.builtin "repr") (fun xs H Q => ∃ v, xs = [v] ∧ okR v = true ∧ Q (.str (reprV v)) H) := by
  intro pins s σ H xs us Q I r h
  obtain ⟨v, rfl, ok, q⟩ := h
  obtain ⟨u, rfl, hu⟩ := vals1 r
  cases v with
  | non =>
    obtain rfl : u = Value.none := hu
    exact PySem.P.repr_of_none ⟨.str _, H, I.tok _, ⟨_, rfl⟩, q⟩
  | bl b =>
    obtain rfl : u = Value.bool b := hu
    exact PySem.P.repr_of_bool ⟨.str _, H, I.tok _, ⟨_, rfl⟩, q⟩
  | int i =>
    obtain ⟨t, rfl⟩ := hu
    exact PySem.P.repr_of_int (of_decide_eq_true ok) ⟨.str _, H, I.tok _, ⟨_, rfl⟩, q⟩
  | str x =>
    obtain ⟨t, rfl⟩ := hu
    exact PySem.P.repr_of_str ⟨.str _, H, I.tok _, ⟨_, rfl⟩, q⟩ (of_decide_eq_true ok)
  | _ => cases ok
theorem strOk_of (s : String) : PyData.strOk (Str.ofString s) = true := by
  rw [Str.ofString_eq_toList]
  unfold PyData.strOk
  rw [List.all_toArray, List.all_map, List.all_eq_true]
  intro c _
  refine decide_eq_true ?_
  show c.toNat < 1114112
  have := c.valid
  unfold UInt32.isValidChar Nat.isValidChar at this
  have e : c.toNat = c.val.toNat := rfl
  omega
theorem repr_okV : ∀ {v : V}, (∀ x, v ≠ .str x) → okR v = true → okV (.str (reprV v)) = true
  | .non, _, _ => by decide +kernel
  | .bl true, _, _ => by decide +kernel
  | .bl false, _, _ => by decide +kernel
  | .int i, _, _ => strOk_of (toString i)
  | .str x, h, _ => absurd rfl (h x)
  | .byt _, _, h => by cases h
  | .flt _, _, h => by cases h
  | .ref _, _, h => by cases h
  | .ty _, _, h => by cases h

/-! _law_refused of K41: the edition that is none -/
def sp_refused41 (K : PySem.W.Frag) : Sp := fun vs H Q _ => ∃ (h : Addr) (cs : List Col) (chs : List Ch) (z : Int) (x y b : V), vs = [.int z, .ref h, x, y] ∧ HistAt K H h cs chs ∧ HistOk cs chs ∧ okV x = true ∧ okV y = true ∧ [x, y].find? (fun x => !isEd chs.length x) = some b ∧ okR b = true ∧
  ∀ (p : Addr) (H' : Hp), Same H H' → H' p = some (.lst [.str "edition", .str (reprV b)]) → Q (.ref p) H'
theorem ok_refused41 (T : Tx K mg) : Callee P w K mg base CX0 12 "_law_refused" ["_law_way", "_law_history_here", "_law_one", "_law_other"] [] (sp_refused41 K) := by
  have C1 := ok_together (P := P) (w := w) (base := base) T
  have C2 := ok_parting (P := P) (w := w) (base := base) T
  obtain ⟨fd1, ds1, F1, b1, v1⟩ := C1.ex
  obtain ⟨fd2, ds2, F2, b2, v2⟩ := C2.ex
  cases v1
  cases v2
  have ox := oexB_ok (ex_BadEdition_x T)
  refine mkCallee (fd__law_refused T) (mg__law_refused T) sc__law_refused (fun _ _ _ _ _ _ us hl => match us, hl with | [_, _, _, _], _ => rfl) (fun vs H Q E h => ?_) (fun cdv A outer s H vs Q E hr h => ?_)
  · obtain ⟨h, cs, chs, z, x, y, b, rfl, _⟩ := h
    rfl
  · obtain ⟨h, cs, chs, z, x, y, b, rfl, hh, o, ox', oy', hb, hrb, k⟩ := h
    have nd := sc__law_refused.nd
    have hr10 : Room 10 _ := hr.mono (by decide)
    refine ⟨_, (pss_cons (ps_set (i := 4) nd rfl (Or.inl rfl) pe_non)
      (pss_cons (ps_try_as (i := 5) (tb := fun W => tAsg (tIf (tTest (tOp rEq (tVar 0) (tC (.int 0)))) (tCallS (sp_together K) (WE W) (tCons (tVar 1) (tCons (tVar 2) (tCons (tVar 3) tNil)))) (tCallS (sp_parting K) (WE W) (tCons (tVar 1) (tCons (tVar 2) (tCons (tVar 3) tNil))))) (gName 4)) (ts := fun a cls d => tRet (tLst (tCons (tC (.str "edition")) (tCons (tCB (fun xs H Q => ∃ v, xs = [v] ∧ okR v = true ∧ Q (.str (reprV v)) H) (tCons (tXf a cls d (He.ga K "BadEdition") "edition" (tVar 5)) tNil)) tNil)))) (Wout := fun _ _ _ _ => False) rfl rfl nd rfl rfl ⟨rfl, by decide, Or.inl (mg_BadEdition T)⟩ takes0
          (fun W pn xe tk _ => pss_one (ps_set (i := 4) nd rfl (Or.inl rfl) (pe_ifExp (pt_cmpR op_eq (pv 0) pe_int (nomark _)) (by exact (pe_callS F1 hr rfl C1.g C1.kp b1 (fun σ => passAt tk σ) (by exact (pa_cons (pv 1) (pa_cons (pv 2) (pa_cons (pv 3) pa_nil)))))) (by exact (pe_callS F2 hr10 rfl C2.g C2.kp b2 (fun σ => passAt tk σ) (by exact (pa_cons (pv 1) (pa_cons (pv 2) (pa_cons (pv 3) pa_nil)))))))))
          (fun a oe cls d pn hz hf => pss_one (ps_ret (by exact (pe_lst (pa_cons pe_str (pa_cons (pe_callB call_reprV (by rfl) (fr_repr T) (by decide +kernel) (pa_cons (pe_xf ox.xf ox.no hz hf (pv 5)) pa_nil)) pa_nil)))))))
      (pss_one (ps_ret (pe_lst (pa_cons pe_str (pa_cons (pv 4) pa_nil))))))), ?_⟩
    refine q_asgX ?_
    have no : ∀ m m' : Nat, x = .int (m : Nat) → y = .int (m' : Nat) → m ≤ chs.length → m' ≤ chs.length → False := fun m m' ex ey hm hm' => by
      rw [ex, ey, List.find?_cons, isEd_nat' hm, List.find?_cons, isEd_nat' hm'] at hb
      cases hb
    have len : ∀ d : List V, d.length = 2 → d.length ≤ sizeLine := fun d e => by rw [e]; show 2 ≤ sizeLine; decide
    refine ⟨_, rfl, rfl, _, rfl, ?_⟩
    by_cases hz : V.int z = V.int 0
    · refine iteDT hz ⟨_, rfl, _, rfl, _, rfl, h, cs, chs, x, y, rfl, hh, o, ox', oy', fun m m' ex ey hm hm' => (no m m' ex ey hm hm').elim, .inr ⟨b, hb, fun d H1 s1 hd => ?_⟩⟩
      refine ⟨true, ox.me, fun _ a ha => ?_, fun q => by cases q⟩
      exact ⟨_, rfl, rfl, rfl, d, _, _, rfl, hd, by simp [List.lookup], _, rfl, hrb, len _ rfl, fun p np => k p _ (s1.trans (same_new np)) upd_same⟩
    · refine iteD hz ⟨_, rfl, _, rfl, _, rfl, h, cs, chs, x, y, rfl, hh, o, ox', oy', fun m m' ex ey hm hm' => (no m m' ex ey hm hm').elim, .inr ⟨b, hb, fun d H1 s1 hd => ?_⟩⟩
      refine ⟨true, ox.me, fun _ a ha => ?_, fun q => by cases q⟩
      exact ⟨_, rfl, rfl, rfl, d, _, _, rfl, hd, by simp [List.lookup], _, rfl, hrb, len _ rfl, fun p np => k p _ (s1.trans (same_new np)) upd_same⟩
def sp_law (K : PySem.W.Frag) : Sp := fun vs H Q _ => ∃ (a : Addr) (ns : List Int), vs = [.ref a] ∧ SqL K H a (ns.map V.int) ∧ ns.length ≤ 63 ∧ (∀ z ∈ ns, Builtin.Int.intBits z ≤ 1048576) ∧ ∀ H', Q (.bl true) H'
abbrev NL : List Str := ["_law_script", "_law_k", "_law_pool_here", "_law_h", "_law_history_here", "_law_tables_here", "_law_one", "_law_other", "_law_dead_here", "_law_part", "_law_odd", "_law_way"]
theorem ne_nons {K : PySem.W.Frag} {H : Hp} {Q : VK} (k : Q (.bl false) H) : rNeD K .non .non H Q := ⟨.none, .none, .non, .non, rfl, rfl, k⟩
theorem ne_two {K : PySem.W.Frag} {H : Hp} {q r : Addr} {n : Int} {y : V} {Q : VK} (h : H q = some (.tup [.int n, y])) (h' : H r = some (.tup [.int n, y])) (hy : okV y = true) (k : Q (.bl false) H) : rNeD K (.ref q) (.ref r) H Q := by
  obtain ⟨h1, h2⟩ := lay_ok hy
  have sh : SeqAt.shaped (.tuple [.int n, dtV y]) = true := by
    unfold SeqAt.shaped
    rw [Bool.and_eq_true]
    constructor
    · show (true && (PyData.canLay0 (dtV y) && true)) = true
      rw [h1]
      rfl
    · refine decide_eq_true ?_
      show max 0 (max (PyData.depth (dtV y)) 0) + 1 ≤ 64
      rw [h2]
      omega
  refine ⟨.tuple [.int n, dtV y], .tuple [.int n, dtV y], .tup (sqT_of h) (.cons (.int _) (.cons (dp_ok hy) .nil)), .tup (sqT_of h') (.cons (.int _) (.cons (dp_ok hy) .nil)), sh, sh, ?_⟩
  have e : PyData.eqv (.tuple [.int n, dtV y]) (.tuple [.int n, dtV y]) = true := by
    show (PyData.eqv (.int n) (.int n) && (PyData.eqv (dtV y) (dtV y) && true)) = true
    have e1 : PyData.eqv (.int n) (.int n) = true := eqv_ok (x := .int n) rfl
    rw [eqv_ok hy, e1]
    rfl
  rw [e]
  exact k
theorem ne_parts {K : PySem.W.Frag} {H : Hp} {x y : V} {r : Option (Int × V)} {Q : VK} (hx : PartV H x r) (hy : PartV H y r) (ok : ∀ n v, r = some (n, v) → okV v = true) (k : Q (.bl false) H) : rNeD K x y H Q := by
  cases r with
  | none =>
    obtain rfl : x = .non := hx
    obtain rfl : y = .non := hy
    exact ne_nons k
  | some r =>
    obtain ⟨n, v⟩ := r
    obtain ⟨p, rfl, hp⟩ := hx
    obtain ⟨q, rfl, hq⟩ := hy
    exact ne_two hp hq (ok n v rfl) k
theorem two_ok {v : V} (h : isVal v = true ∨ isMis v = true) : okV v = true := by
  cases v with
  | non => rfl
  | int _ => rfl
  | str z =>
    rcases h with h | h
    · cases h
    · have h : decide (z = "missing") = true := h
      rw [of_decide_eq_true h]
      decide +kernel
  | _ => rcases h with h | h <;> cases h
theorem partE_ok {cs : List Col} {chs : List Ch} {m m' : Nat} : ∀ n v, partE cs chs m m' = some (n, v) → okV v = true := fun n v h => by
  unfold partE at h
  split at h
  · cases h
  · exact two_ok (partF_two h).1
def sp_part0 (K : PySem.W.Frag) : Sp := fun vs H Q _ => ∃ (h : Addr) (cs : List Col) (chs : List Ch) (m m' : Nat), vs = [.ref h, .int (m : Nat), .int (m' : Nat)] ∧ HistAt K H h cs chs ∧ HistOk cs chs ∧ m ≤ chs.length ∧ m' ≤ chs.length ∧ ∀ (v : V) (H' : Hp), Same H H' → PartV H' v (partE cs chs m m') → Q v H'
def sp_tog0 (K : PySem.W.Frag) : Sp := fun vs H Q _ => ∃ (h : Addr) (cs : List Col) (chs : List Ch) (m m' : Nat), vs = [.ref h, .int (m : Nat), .int (m' : Nat)] ∧ HistAt K H h cs chs ∧ HistOk cs chs ∧ m ≤ chs.length ∧ m' ≤ chs.length ∧ ∀ (H' : Hp), Same H H' → Q (.bl ((partE cs chs m m').isNone && (!deadB cs chs m && !deadB cs chs m'))) H'
theorem nat_inj {m n : Nat} (h : V.int (m : Nat) = V.int (n : Nat)) : m = n := by
  have := V.int.inj h
  omega
def odds41 (n : Nat) : List V := [.non, .int (-1), .int (n : Nat), .bl true, .str "0"]
theorem odds41_ok {n : Nat} (hn : n < 1000) : ∀ x ∈ odds41 (n + 1), okV x = true ∧ isEd n x = false ∧ okR x = true ∧ okV (.str (reprV x)) = true := fun x hx => by
  unfold odds41 at hx
  simp only [List.mem_cons, List.not_mem_nil, or_false] at hx
  rcases hx with rfl | rfl | rfl | rfl | rfl
  · exact ⟨rfl, rfl, rfl, by decide +kernel⟩
  · exact ⟨rfl, rfl, by decide +kernel, strOk_of _⟩
  · refine ⟨rfl, ?_, ?_, strOk_of _⟩
    · show (decide (0 ≤ ((n + 1 : Nat) : Int)) && decide (((n + 1 : Nat) : Int) ≤ (n : Nat))) = false
      rw [decide_eq_false (p := ((n + 1 : Nat) : Int) ≤ (n : Nat)) (by omega), Bool.and_false]
    · refine decide_eq_true ?_
      have h1 : (((n + 1 : Nat) : Int)).natAbs = n + 1 := by omega
      rw [h1]
      have h2 := Nat.log2_le_self (n + 1)
      omega
  · exact ⟨rfl, rfl, rfl, by decide +kernel⟩
  · exact ⟨by decide +kernel, rfl, by decide +kernel, by decide +kernel⟩
theorem ok_law (T : Tx K mg) {fd : FuncData} (F : FunD K "law" "law" (defArgs s_law) (defBody s_law) (defScope s_law) (d_law.dvs K) (d_law.kws K) (He.ga K "law") fd) : FnOk P w K mg base CX0 14 (He.ga K "law") fd ["_law_script"] (sp_law K) := by
  have Cpool := (ok_pool (P := P) (w := w) (base := base) T).up (show 1 ≤ 13 by decide)
  have Chist := (ok_historyL (P := P) (w := w) (base := base) T).up (show 6 ≤ 13 by decide)
  have Cmade := ok_madeL (P := P) (w := w) (base := base) T
  have Cdead := (ok_deadL (P := P) (w := w) (base := base) T).up (show 5 ≤ 13 by decide)
  have Ctab := (ok_tablesL (P := P) (w := w) (base := base) T).up (show 7 ≤ 13 by decide)
  have Cpart := (ok_partingL (P := P) (w := w) (base := base) T).up (show 3 ≤ 13 by decide)
  have Cref := (ok_refused41 (P := P) (w := w) (base := base) T).up (show 12 ≤ 13 by decide)
  have CP := (Callee.calm (ok_parting (P := P) (w := w) (base := base) T) (sp0 := sp_part0 K) (fun vs H Q E ⟨h, cs, chs, m, m', e, hh, o, hm, hm', k⟩ => ⟨h, cs, chs, _, _, e, hh, o, rfl, rfl, fun n n' en en' _ _ v H' s hv => by
    obtain rfl := nat_inj en
    obtain rfl := nat_inj en'
    exact k v H' s hv, .inl ⟨m, m', rfl, rfl, hm, hm'⟩⟩)).up (show 10 ≤ 13 by decide)
  have CT := (Callee.calm (ok_together (P := P) (w := w) (base := base) T) (sp0 := sp_tog0 K) (fun vs H Q E ⟨h, cs, chs, m, m', e, hh, o, hm, hm', k⟩ => ⟨h, cs, chs, _, _, e, hh, o, rfl, rfl, fun n n' en en' _ _ H' s => by
    obtain rfl := nat_inj en
    obtain rfl := nat_inj en'
    exact k H' s, .inl ⟨m, m', rfl, rfl, hm, hm'⟩⟩)).up (show 11 ≤ 13 by decide)
  have gr : mg "range" = none := fr_range T
  have gl : mg "len" = none := fr_len T
  refine F.ok (CX := CX0) (N := NL) sc_law (fun vs H Q E h => ?_) (fun cdv A outer s H vs Q E hr h => ?_)
  · obtain ⟨a, ns, rfl, _⟩ := h
    rfl
  suffices hh : ∃ t, PSs (cxOf CX0 P w K mg base NL "law" (defScope s_law) (He.ga K "law") cdv A outer s H E).nox (defBody s_law) t ∧ t { nx := fun _ H' => Q .non H', rt := Q } (start NL vs) H by
    obtain ⟨t, h1, h2⟩ := hh
    exact ⟨t, h1.nox, h2⟩
  obtain ⟨a, ns, rfl, hs, hlen, _, kk⟩ := h
  have nd := sc_law.nd
  have hu := hu_of hr
  have hz : sizeLine = 16777216 := by decide
  have rf : ∀ i : Nat, True := fun _ => trivial
  refine ⟨_, (pss_cons (ps_for PassesOwn.never rfl (pi_range1 (by rfl) gr (pa_cons (pe_callB (call_max2 rfl) (by rfl) (fr_max T) (by decide +kernel) (pa_cons pe_int (pa_cons (pe_callB (call_min2 rfl) (by rfl) (fr_min T) (by decide +kernel) (pa_cons (pe_callB call_len (by rfl) gl PySem.boot_len (pa_cons (pv 0) pa_nil)) (pa_cons pe_int pa_nil))) pa_nil))) pa_nil)) (pg_name (i := 1) nd rfl (Or.inl rfl)) (pss_cons (ps_set (i := 2) nd rfl (Or.inl rfl) (pcall Cpool hr (pa_cons (pv 0) (pa_cons (pv 1) pa_nil))))
        (pss_cons (ps_set (i := 3) nd rfl (Or.inl rfl) (pcall Chist hr (pa_cons (pv 2) (pa_cons pe_int (pa_cons pe_int (pa_cons pe_int pa_nil))))))
        (pss_cons (ps_par (i := 4) (j := 5) rfl nd rfl rfl (by decide) rfl rfl (pa_cons (pcall Cmade hr (pa_cons (pv 3) pa_nil)) (pa_cons (pcall Ctab hr (pa_cons (pv 3) pa_nil)) pa_nil)) (by rfl))
        (pss_cons (ps_for PassesOwn.never rfl (pi_range1 (by rfl) gr (pa_cons (pe_callB call_len (by rfl) gl PySem.boot_len (pa_cons (pe_dget hu (pv 3) pe_str (fun _ _ => rfl)) pa_nil)) pa_nil)) (pg_name (i := 6) nd rfl (Or.inl rfl)) (pss_one (ps_for PassesOwn.never rfl (pi_range1 (by rfl) gr (pa_cons (pe_callB call_len (by rfl) gl PySem.boot_len (pa_cons (pe_dget hu (pv 3) pe_str (fun _ _ => rfl)) pa_nil)) pa_nil)) (pg_name (i := 7) nd rfl (Or.inl rfl))
          (pss_cons (ps_set (i := 8) nd rfl (Or.inl rfl) (pe_or (pcall Cdead hr (pa_cons (pv 3) (pa_cons (pv 6) pa_nil))) (pe_one (pcall Cdead hr (pa_cons (pv 3) (pa_cons (pv 7) pa_nil))))))
          (pss_cons (ps_set (i := 9) nd rfl (Or.inl rfl) (pe_ifExp (pt_val (pv 8)) pe_non (pcall Cpart hr (pa_cons (pe_ix ix_list (pv 5) (pv 6) (fun _ _ => rfl)) (pa_cons (pe_ix ix_list (pv 5) (pv 7) (fun _ _ => rfl)) pa_nil)))))
          (pss_cons (ps_if (pt_cmpR (op_neD hr.units) (pcall CP hr (pa_cons (pv 4) (pa_cons (pv 6) (pa_cons (pv 7) pa_nil)))) (pv 9) (nomark _)) (pss_one (ps_ret pe_bl)) pss_nil)
          (pss_one (ps_if (pt_cmpR op_ne (pcall CT hr (pa_cons (pv 4) (pa_cons (pv 6) (pa_cons (pv 7) pa_nil)))) (pe_and (pe_not (pv 8)) (pe_one (pe_cmpR op_isN (pv 9) pe_non (nomark _)))) (nomark _)) (pss_one (ps_ret pe_bl)) pss_nil))))))))
        (pss_one (ps_for PassesOwn.never rfl (pi_list (pe_lst (pa_cons pe_non (pa_cons (pe_un un_neg pe_int) (pa_cons (pe_callB call_len (by rfl) gl PySem.boot_len (pa_cons (pe_dget hu (pv 3) pe_str (fun _ _ => rfl)) pa_nil)) (pa_cons pe_bl (pa_cons pe_str pa_nil))))))) (pg_name (i := 10) nd rfl (Or.inl rfl)) (pss_one (ps_for PassesOwn.never rfl (pi_range1 (by rfl) gr (pa_cons pe_int pa_nil)) (pg_name (i := 11) nd rfl (Or.inl rfl))
          (pss_cons (ps_if (pt_cmpR (op_neD hr.units) (pcall Cref hr (pa_cons (pv 11) (pa_cons (pv 4) (pa_cons (pv 10) (pa_cons pe_non pa_nil))))) (pe_lst (pa_cons pe_str (pa_cons (pe_callB call_reprV (by rfl) (fr_repr T) (by decide +kernel) (pa_cons (pv 10) pa_nil)) pa_nil))) (nomark _)) (pss_one (ps_ret pe_bl)) pss_nil)
          (pss_one (ps_if (pt_cmpR (op_neD hr.units) (pcall Cref hr (pa_cons (pv 11) (pa_cons (pv 4) (pa_cons pe_int (pa_cons (pv 10) pa_nil))))) (pe_lst (pa_cons pe_str (pa_cons (pe_callB call_reprV (by rfl) (fr_repr T) (by decide +kernel) (pa_cons (pv 10) pa_nil)) pa_nil))) (nomark _)) (pss_one (ps_ret pe_bl)) pss_nil))))))))))))
        (pss_one (ps_ret pe_bl))), ?_⟩
  refine ⟨_, rfl, _, (ns.map V.int).length, rfl, .inl ⟨_, hs, rfl⟩, _, _, rfl, _, _, rfl, _, rfl, ?_, ?_, ?_⟩
  · split <;> (try split) <;> omega
  · split <;> (try split) <;> omega
  generalize hN : (if (if (3 : Int) < (((ns.map V.int).length : Nat) : Int) then (3 : Int) else (((ns.map V.int).length : Nat) : Int)) > 1 then (if (3 : Int) < (((ns.map V.int).length : Nat) : Int) then (3 : Int) else (((ns.map V.int).length : Nat) : Int)) else 1) = nT
  have hT2 : nT ≤ 3 := by
    rw [← hN]
    split <;> (try split) <;> omega
  refine for_range (lo := 0) (n := nT.toNat) (fun i σ H' => Same H H' ∧ ∃ y1 y2 y3 y4 y5 y6 y7 y8 y9 ya yb : Option V, σ = [some (.ref a), y1, y2, y3, y4, y5, y6, y7, y8, y9, ya, yb]) ⟨Same.refl _, _, _, _, _, _, _, _, _, _, _, _, rfl⟩ ?_ ?_
  case refine_2 =>
    rintro σ H' ⟨_, y1, y2, y3, y4, y5, y6, y7, y8, y9, ya, yb, rfl⟩
    exact kk H'
  rintro i σ H0 hi ⟨sH, y1, y2, y3, y4, y5, y6, y7, y8, y9, ya, yb, rfl⟩
  have hk0 : 0 ≤ (0 : Int) + (i : Int) := by omega
  have hk1 : (0 : Int) + (i : Int) ≤ 1000 := by omega
  generalize hkk : (0 : Int) + (i : Int) = kI at hk0 hk1
  refine q_asgX ⟨_, rfl, _, rfl, a, ns, kI, rfl, sH.seq hs, hk0, hk1, fun p H1 z0 z1 np s1 hp1 => ?_⟩
  have s01 := sH.trans s1
  have np0 : H p = none := sH.free np
  dsimp only
  refine q_asgX ⟨_, rfl, p, z0, z1, 2, 3, 7, rfl, hp1, by decide, by decide, by decide, by decide, by decide, by decide, fun h cs chs ws u0 u1 H2 b2 hp2 hB W ok hle hmu => ?_⟩
  have few := ok.few
  dsimp only
  refine ⟨_, rfl, h, cs, chs, ws, rfl, hB, ok, fun hh H3 nhh s3 HN => ?_⟩
  have HN3 := HN.at_
  refine ⟨_, rfl, h, cs, chs, ws, rfl, hB.keep s3, ok, fun lt H4 nlt s4 htab => ?_⟩
  have s24 := s3.trans s4
  have hB4 := hB.keep s24
  have hp4 := s24 _ _ hp2
  have b4 : But p H1 H4 := b2.trans (But.of s24)
  have HN4 := HN3.keep s4
  have fin : ∀ Ha, Same H4 Ha → Same H Ha := fun Ha sa => But.same (b4.trans (But.of sa)) s01 np0
  obtain ⟨sh, es, e0, as0, d1, d2, d3, d4, d5, hc0⟩ := hB4.sheet (Nat.zero_le chs.length)
  have d3' : es.length = chs.length + 1 := d3
  dsimp only
  obtain ⟨ds, t1, t2, t3⟩ := id htab
  refine ⟨_, _, rfl, ?_⟩
  refine ⟨_, rfl, h, _, rfl, d1, _, es.length, rfl, .inl ⟨_, sqL_of d2, by rw [List.length_map]⟩, _, rfl, by omega, by omega, ?_⟩
  refine for_range (lo := 0) (n := (((es.length : Nat) : Int)).toNat) (fun m σ H' => Same H4 H' ∧ ∃ (y6 y7 y8 y9 ya yb : Option V), σ = [some (.ref a), some (.int kI), some (.ref p), some (.ref h), some (.ref hh), some (.ref lt), y6, y7, y8, y9, ya, yb]) ⟨Same.refl _, _, _, _, _, _, _, rfl⟩ ?_ ?_
  · rintro m σ H5 hm0 ⟨s45, y6, y7, y8, y9, ya, yb, rfl⟩
    have e1 : (0 : Int) + (m : Int) = (m : Int) := by omega
    rw [e1]
    have hm : m ≤ chs.length := by omega
    obtain ⟨shA, esA, eA, asA, g1, g2, g3, _, _, _⟩ := (hB4.keep s45).sheet (Nat.zero_le chs.length)
    have g3' : esA.length = chs.length + 1 := g3
    refine ⟨_, rfl, h, _, rfl, g1, _, esA.length, rfl, .inl ⟨_, sqL_of g2, by rw [List.length_map]⟩, _, rfl, by omega, by omega, ?_⟩
    refine for_range (lo := 0) (n := (((esA.length : Nat) : Int)).toNat) (fun m' σ H' => Same H5 H' ∧ ∃ (y7 y8 y9 ya yb : Option V), σ = [some (.ref a), some (.int kI), some (.ref p), some (.ref h), some (.ref hh), some (.ref lt), some (.int (m : Nat)), y7, y8, y9, ya, yb]) ⟨Same.refl _, _, _, _, _, _, rfl⟩ ?_ ?_
    case refine_2 =>
      rintro σ H' ⟨s', y7, y8, y9, ya, yb, rfl⟩
      exact ⟨s45.trans s', _, _, _, _, _, _, rfl⟩
    rintro m' σ H6 hm0' ⟨s56, y7, y8, y9, ya, yb, rfl⟩
    have e1' : (0 : Int) + (m' : Int) = (m' : Int) := by omega
    rw [e1']
    have hm' : m' ≤ chs.length := by omega
    have s46 := s45.trans s56
    have hdm := List.getElem?_eq_getElem (l := ds) (i := m) (by omega)
    have hdm' := List.getElem?_eq_getElem (l := ds) (i := m') (by omega)
    generalize ds[m] = dm at hdm
    generalize ds[m'] = dm' at hdm'
    have atm : (ds.map V.ref)[m]? = some (.ref dm) := by rw [List.getElem?_map, hdm]; rfl
    have atm' : (ds.map V.ref)[m']? = some (.ref dm') := by rw [List.getElem?_map, hdm']; rfl
    dsimp only
    refine s_seq (fun σ' H7 => σ' = [some (.ref a), some (.int kI), some (.ref p), some (.ref h), some (.ref hh), some (.ref lt), some (.int (m : Nat)), some (.int (m' : Nat)), some (.bl (deadB cs chs m || deadB cs chs m')), y9, ya, yb] ∧ Same H6 H7) ?_ fun k1 => ?_
    · rintro σ' H7 ⟨rfl, s67⟩
      have s47 := s46.trans s67
      refine s_seq (fun σ' H8 => ∃ v : V, σ' = [some (.ref a), some (.int kI), some (.ref p), some (.ref h), some (.ref hh), some (.ref lt), some (.int (m : Nat)), some (.int (m' : Nat)), some (.bl (deadB cs chs m || deadB cs chs m')), some v, ya, yb] ∧ Same H7 H8 ∧ PartV H8 v (partE cs chs m m')) ?_ fun k2 => ?_
      · rintro σ' H8 ⟨v, rfl, s78, hv⟩
        have s48 := s47.trans s78
        refine ⟨_, rfl, _, rfl, _, rfl, hh, cs, chs, m, m', rfl, HN4.keep s48, ok, hm, hm', fun u H9 s9 hu9 => ?_⟩
        refine ⟨_, rfl, ne_parts hu9 (hv.keep s9) partE_ok ⟨_, rfl, iteF (nxt ?_)⟩⟩
        have s49 := s48.trans s9
        dsimp only
        refine ⟨_, rfl, _, rfl, _, rfl, hh, cs, chs, m, m', rfl, HN4.keep s49, ok, hm, hm', fun HA sA => ?_⟩

        have eN : decide (v = V.non) = (partE cs chs m m').isNone := by
          cases q : partE cs chs m m' with
          | none =>
            rw [q] at hv
            obtain rfl : v = .non := hv
            rfl
          | some r =>
            rw [q] at hv
            obtain ⟨z, rfl, _⟩ := hv
            exact decide_eq_false (fun z => by cases z)
        have last : ∀ HB, Same H9 HB → Same H5 HB ∧ ∃ (y7 y8 y9' ya' yb' : Option V), ([some (.ref a), some (.int kI), some (.ref p), some (.ref h), some (.ref hh), some (.ref lt), some (.int (m : Nat)), some (.int (m' : Nat)), some (.bl (deadB cs chs m || deadB cs chs m')), some v, ya, yb] : L2.St) = [some (.ref a), some (.int kI), some (.ref p), some (.ref h), some (.ref hh), some (.ref lt), some (.int (m : Nat)), y7, y8, y9', ya', yb'] := fun HB sB => ⟨((s56.trans s67).trans s78).trans (s9.trans sB), _, _, _, _, _, rfl⟩
        refine ⟨_, rfl, _, rfl, _, rfl, ?_⟩
        cases hd : (deadB cs chs m || deadB cs chs m') with
        | true =>
          have hd' : (!deadB cs chs m && !deadB cs chs m') = false := by
            rw [← Bool.not_or, hd]
            rfl
          refine iteF ⟨rfl, _, rfl, ?_⟩
          rw [hd', Bool.and_false]
          rw [hd] at last
          exact iteNS rfl (nxt (last HA sA))
        | false =>
          have hd' : (!deadB cs chs m && !deadB cs chs m') = true := by
            rw [← Bool.not_or, hd]
            rfl
          refine iteT ⟨_, rfl, rfl, rfl, _, rfl, ?_⟩
          rw [hd', Bool.and_true, eN]
          rw [hd] at last
          exact iteNS rfl (nxt (last HA sA))
      · refine ⟨_, rfl, _, rfl, ?_⟩
        cases hd : (deadB cs chs m || deadB cs chs m') with
        | true =>
          rw [hd] at k2
          refine iteT (k2 _ _ ⟨.non, rfl, Same.refl _, ?_⟩)
          unfold partE
          rw [hd, if_pos rfl]
          rfl
        | false =>
          rw [hd] at k2
          refine iteF ⟨_, rfl, _, rfl, lt, _, _, _, rfl, rfl, sqL_of (s47 _ _ t2), atI_nat atm, _, rfl, _, rfl, lt, _, _, _, rfl, rfl, sqL_of (s47 _ _ t2), atI_nat atm', dm, dm', cs, chs, m, m', rfl, (t3 m dm hdm).keep s47, (t3 m' dm' hdm').keep s47, ok, hm, hm', fun v H8 s8 hv => k2 _ _ ⟨v, rfl, s8, ?_⟩⟩
          unfold partE
          rw [hd, if_neg (by decide)]
          exact hv
    · refine ⟨_, rfl, _, rfl, h, cs, chs, ws, m, rfl, hB4.keep s46, ok, hm, fun H7 s7 => ⟨_, rfl, ?_⟩⟩
      cases hd1 : deadB cs chs m with
      | true =>
        rw [hd1, Bool.true_or] at k1
        exact iteT (k1 _ _ ⟨rfl, s7⟩)
      | false =>
        rw [hd1, Bool.false_or] at k1
        exact iteF ⟨_, rfl, _, rfl, h, cs, chs, ws, m', rfl, hB4.keep (s46.trans s7), ok, hm', fun H8 s8 => k1 _ _ ⟨rfl, s7.trans s8⟩⟩
  · rintro σ H5 ⟨s45, y6, y7, y8, y9, ya, yb, rfl⟩
    obtain ⟨shA, esA, eA, asA, g1, g2, g3, _, _, _⟩ := (hB4.keep s45).sheet (Nat.zero_le chs.length)
    have g3' : esA.length = chs.length + 1 := g3
    refine ⟨1, rfl, _, rfl, h, _, rfl, g1, _, esA.length, rfl, .inl ⟨_, sqL_of g2, by rw [List.length_map]⟩, by show 5 ≤ sizeLine; decide, fun lo nlo => ⟨lo, rfl, ⟨_, sqL_of upd_same⟩, ?_⟩⟩
    have so : Same H5 (upd H5 lo (.lst (odds41 esA.length))) := same_new nlo
    have ho : upd H5 lo (.lst (odds41 esA.length)) lo = some (.lst (odds41 esA.length)) := upd_same
    show ∃ W : Nat → Nat → L2.St → Hp → Prop, (∃ m, W 0 m _ (upd H5 lo (.lst (odds41 esA.length)))) ∧ _
    generalize upd H5 lo (.lst (odds41 esA.length)) = H6 at so ho ⊢
    have s46 := s45.trans so
    refine for_list (xs := odds41 esA.length) (fun i σ H' => Same H6 H' ∧ ∃ (ya yb : Option V), σ = [some (.ref a), some (.int kI), some (.ref p), some (.ref h), some (.ref hh), some (.ref lt), y6, y7, y8, y9, ya, yb]) ⟨Same.refl _, _, _, rfl⟩ (fun i σ H' _ q => sqL_of (q.1 _ _ ho)) ?_ ?_
    case refine_2 =>
      rintro σ H' ⟨s', ya, yb, rfl⟩
      exact ⟨fin H' (s46.trans s'), _, _, _, _, _, _, _, _, _, _, _, rfl⟩
    rintro i x σ H7 hx ⟨s67, ya, yb, rfl⟩
    have hxm := List.mem_of_getElem? hx
    rw [g3'] at hxm
    obtain ⟨x1, x2, x3, x4⟩ := odds41_ok (by omega) x hxm
    refine ⟨2, rfl, by decide, by decide, ?_⟩
    refine for_range (lo := 0) (n := ((2 : Int)).toNat) (fun i σ H' => Same H7 H' ∧ ∃ (yb : Option V), σ = [some (.ref a), some (.int kI), some (.ref p), some (.ref h), some (.ref hh), some (.ref lt), y6, y7, y8, y9, some x, yb]) ⟨Same.refl _, _, rfl⟩ ?_ ?_
    case refine_2 =>
      rintro σ H' ⟨s', yb, rfl⟩
      exact ⟨s67.trans s', _, _, rfl⟩
    rintro j σ H8 hj ⟨s78, yb, rfl⟩
    have s48 := (s46.trans s67).trans s78
    have f1 : [x, V.non].find? (fun x => !isEd chs.length x) = some x := by
      rw [List.find?_cons, x2]
      rfl
    have f2 : [V.int (0 : Int), x].find? (fun x => !isEd chs.length x) = some x := by
      rw [List.find?_cons, show isEd chs.length (.int 0) = true from isEd_nat' (m := 0) (Nat.zero_le _), List.find?_cons, x2]
      rfl
    have okl : [V.str "edition", V.str (reprV x)].all okV = true := by
      rw [List.all_cons, List.all_cons, x4]
      decide +kernel
    refine ⟨_, rfl, _, rfl, _, rfl, hh, cs, chs, _, x, .non, x, rfl, HN4.keep s48, ok, x1, rfl, f1, x3, fun q1 H9 s9 hq1 => ⟨_, rfl, _, rfl, x3, by show 2 ≤ sizeLine; decide, fun q2 nq2 => ?_⟩⟩
    have sA : Same H9 (upd H9 q2 (.lst [.str "edition", .str (reprV x)])) := same_new nq2
    have hqA : upd H9 q2 (.lst [.str "edition", .str (reprV x)]) q2 = some (.lst [.str "edition", .str (reprV x)]) := upd_same
    refine ne_lists (sqL_of (sA _ _ hq1)) (sqL_of hqA) okl ⟨_, rfl, iteF (nxt ?_)⟩
    generalize upd H9 q2 (.lst [.str "edition", .str (reprV x)]) = HA at sA ⊢
    dsimp only
    have s4A := (s48.trans s9).trans sA
    refine ⟨_, rfl, _, rfl, _, rfl, hh, cs, chs, _, .int 0, x, x, rfl, HN4.keep s4A, ok, rfl, x1, f2, x3, fun q3 HB sB hq3 => ⟨_, rfl, _, rfl, x3, by show 2 ≤ sizeLine; decide, fun q4 nq4 => ?_⟩⟩
    have sC : Same HB (upd HB q4 (.lst [.str "edition", .str (reprV x)])) := same_new nq4
    have hqC : upd HB q4 (.lst [.str "edition", .str (reprV x)]) q4 = some (.lst [.str "edition", .str (reprV x)]) := upd_same
    refine ne_lists (sqL_of (sC _ _ hq3)) (sqL_of hqC) okl ⟨_, rfl, iteF (nxt ?_)⟩
    exact ⟨((s78.trans s9).trans (sA.trans sB)).trans sC, _, rfl⟩
end
theorem factsR {w : World} {K : PySem.W.Frag} {h : Heap} {mg : Str → Option Value} {f : Addr} (X : K.In h) (G : h.Ns mainGlobals mg) (hfa : mg ("law" : Str) = some (.ref f)) (c : He.SaysD fal fnl K ∧ exl K = true) :
    LawOk PySem.Challenge.rw_editionrows_k41_whole_going_together w mg CX0 14 63 "_law_script" f K := by
  have T : Tx K mg := ⟨c.1, c.2, h, X, G⟩
  obtain ⟨fd, F⟩ := fd_law T
  have e := hfa.symm.trans (mg_law T)
  cases e
  have b := FunD.bindsA (ps := ["_law_script"]) F fun _ _ _ _ _ _ us hl => match us, hl with | [_], _ => rfl
  exact ⟨fd, sp_law K, fun s v => b s [v] rfl, fun H a ns hl hb _ hS => ⟨a, ns, rfl, hS, hl, hb, fun _ => rfl⟩, fun base _ _ => ok_law T F⟩
end ER
open PySem PySem.W PySem.Calls PyProof.Rows
set_option maxRecDepth 100000 in
set_option maxHeartbeats 8000000 in
theorem PySem.Challenge.cw_editionrows_k41_whole_going_together_holds : PySem.Challenge.rw_editionrows_k41_whole_going_together.Holds := by
  w_on; o_law
  refine HandSHeadRun.head_any (r := OpenLaw.row PySem.Challenge.rw_editionrows_k41_whole_going_together) (q := view (OpenLaw.row PySem.Challenge.rw_editionrows_k41_whole_going_together).prog [99]) (H := ER.hkR) (ob := ER.obR) (M := 9000) (loose := ER.looseR) (d := HandSHeadRun.topDef (OpenLaw.row PySem.Challenge.rw_editionrows_k41_whole_going_together).prog 99) (kwd := []) ER.obR_eq
    (by kernel_rfl) (fun s => by kernel_rfl) ER.runR (by kernel_rfl) (by kernel_rfl) (by kernel_rfl) (by rfl) (by first | assumption | decide +kernel) (by decide +kernel) ⟨rfl, rfl, rfl, rfl, rfl, by decide +kernel⟩ ?hw ?hc
  case hw => w_witness2
  case hc =>
    refine Evl2.walk_bits (l := PySem.Challenge.rw_editionrows_k41_whole_going_together) (n := 63) (k := 14) (x := "_law_script") (CX := L2.CX0) rfl (by decide) (by kernel_rfl) ⟨rfl, by decide, by decide⟩ ?F (fun _ _ _ _ z => z)
    intro w mg fa h Y G hmg0
    obtain ⟨K, KX, c⟩ := Y
    have hmg : mg ("law" : PySem.Str) = some (.ref fa) := by
      have e : (HandSHeadRun.topDef (OpenLaw.row PySem.Challenge.rw_editionrows_k41_whole_going_together).prog 99).name = ("law" : PySem.Str) := by kernel_rfl
      rw [← e]
      exact hmg0
    exact ⟨K, KX, ER.factsR (w := w) KX G hmg c⟩

